import PyProof.Rows.All
import Wide.All
import OpenK.AllK
import Wide.FinOn
import Lean
import PyProof.EqAt
import PyProof.EqKinds
import PyProof.TupleCall
import PyProof.NeKinds
import PyProof.ZipIter
import PyProof.EnumFor
import PyProof.EnumMake
import PyProof.EnumStmt
import PyProof.Draws
import KE.KDictSum
import PyProof.Rows.SortStr
import PyProof.StrWalks
import KE.KRevIter
import KE.KDictList
import PyProof.CollectIter
import PyProof.SliceStr2
import PyProof.StrBlockI
import KE.KListMore
import PyProof.DictWalks
import PyProof.TupleOfSeq
import PyProof.AttrMissHeap
import PyProof.AttrMissSeq
import KE.KDictOf
import PyProof.WalksMore
import KE.KSortTup
import KE.KSortKey
import PyProof.Rows.StrJoin2
import PyProof.ListMulRoad
import PyProof.FactsAll.tuple_2
import PyProof.Rows.SortShell
import PyProof.WalkInts
import KE.KMinBuiltin
import KE.KIntText
import PyProof.CallStr
import PyProof.PureStr
import PyProof.Rows.SetFrom
import KE.KMinKey
import PyProof.DictItems
import PyProof.DictItemsLoops
import PyProof.ReprRoads
import PyProof.WalksS
import PySem.Challenge.RW_allmeet_k51_whole_what_is_fulfilled
set_option Elab.async false
set_option linter.all false
set_option maxRecDepth 100000
open PySem renaming wpAny_bind→za,Value→zf,Shared→zh,wpAny_pure→zi,sizeLine→zk,wpAny→zp,Program→zB,model→zD,Around→zF,World→zJ,starEach→zM,bootBuiltins→zO,wpAny_callSpecial?_slot→zS,compareOp→zT,wpAny_call_entry→zV,FuncData→zY,wpAny_loadPart'→jk,mainGlobals→jm,wpAny_field→js,wpAny_holding→jz,wpAny_setState_of→jB,wpAny_mono→jG,wpAny_newObj_type→jH,wpAny_seqItems→jJ,wpAny_ite_split→jK,wpAny_setField_rec→jM,binaryOp→jS,codeAny_builtin→jW,Builtin→jY,plainId_quiet→ye,rawInt→ym,IsPair→yn,builtinLookup_eq_fast→yp,mem_of_lookup→yy,foldedSetIterable→yz,wpAny_rule→yB,pyNext→yC,wpAny_typeOf→yP,sysModules→yQ,backTo→yR,assignEach→yS,wpAny_isInstance→xg,cLine→xj,wpAny_attempt→xm,attributeBase→xn,typeLookup_type→xp,letOwnedTupleGo→xq,wpAny_Call_Name_kw→xv,wpAny_truthy_bool→xz,wpAny_pyIter_list→xA,codeAny→xB,strIterType→xM,sliceBounds→xN,IsZip→xY,codeAny_mono→Zb,scanBound→Zf,pickOrder→Zg,wpAny_pyIter_tuple→Zj,tupleKind_room_in1→Zk,getattributeRaised→Zl,assign→ZB,wpAny_askSetting→ZL,typeLookup→ZO,holding→ZP,call_meets→ZQ,wpAny_execs_nil→ZT,wpAny_updateSeq_pair→Yf,wpAny_setField→Yg,relayAll→Yh,keywordEach→Yi,isSubtype_type→Yj,isSubtype_stop→Yk,firstArgMember→Yl,field→Ym,bindArgs→Yn,tupleKind→Yr,setNext→Ys,wpAny_onRaise→YB,wpAny_handled→YC,behindInMarks→YD,MulOk→YE,setEntries→YO,pyIter→YQ,Result→YS,valueAt→Xa,getItem→Xc,callerA→Xd,BindsTo→Xf,noFill_tuple_add→Xq,merged→Xr,wpAny_throw→XF,wpAny_letGo→XG,wpAny_updateSeq→XM,wpAny_specialOf→XO,ElemsOf→XX,callType_codes→Ja,backToKw→Jb,wpAny_standAt→Jz,wpAny_newList→JA,seq_tuple_add→JB,call→JC,swapsWith→JK,seqItems?→JL,seqIndex?→JM,bindL→JN,bindC→JO,atKey→JP,PassesOwn→JQ,seqIndex_neg→JX,richCompare_meets_room→JY,relabel→JZ
open List renaming getElem?_cons_zero→zc,getElem?_cons_succ→ze,length_map→zl,size_toArray→zq,set_cons_zero→zr,replicate→zt,getElem?_eq_getElem→zu,mem_cons→zw,set_cons_succ→zx,not_mem_nil→zy,getD_eq_getElem?_getD→zE,map_cons→zG,getElem?_append_left→zH,getElem?_eq_none→zK,mem_map→zL,mem_singleton→zP,length_append→zR,mem_cons_of_mem→zU,getElem?_map→zZ,mem_append_right→ja,map_map→jc,getElem?_set_self→jd,getElem?_set_ne→jf,length_cons→jg,mem_cons_self→jh,mem_append→jr,any_cons→ju,range→jw,length_range→jD,map_append→jI,filterMap_cons→jP,map_nil→jZ,all_cons→ya,mem_of_getElem?→yd,append_assoc→yf,lookup_cons→yi,getElem?_append_right→yk,find?_cons→yo,mergeSort_perm→yA,eq_nil_of_length_eq_zero→yF,any_map→yG,all_map→yH,length_nil→yM,mem_range→yX,length_take→yZ,getElem?_eq_some_iff→xb,nil_append→xi,getElem?_replicate→xl,take_of_length_le→xr,reverse_cons→xt,length_singleton→xx,all_eq_true→xy,pairwise_append→xE,mem_zipIdx_iff_getElem?→xH,map_congr_left→xK,zip_cons_cons→xS,mem_of_find?_eq_some→xZ,drop_eq_getElem_cons→Za,flatMap_cons→Ze,getElem_mem→Zp,cons_append→Zq,range_succ_eq_map→Zw,find?_cons_of_pos→Zx,find?_cons_of_neg→Zy,nodup_cons→ZG,append_nil→ZH,length_replicate→ZK,length_reverse→ZV,mem_filterMap→Ye,nodup_append→Yw,getElem?_set→Yx,ext_getElem?→Yy,eraseIdx_eq_take_drop_succ→Yz,eraseIdxIfInBounds_toArray→YA,prefix_refl→YH,length_drop→YI,isEmpty_nil→YJ,getElem_inj→YK,filter_cons→YM,any_eq_true→YN,length→YU,of_mem_zip→YW,mem_filter→YX,length_set→YY,forIn_cons→YZ,mem_or_eq_of_mem_set→XD,filter_cons_of_pos→XU,filter_cons_of_neg→XV,getElem?_toArray→Jj,dropLast_eq_take→Jk,mem_append_left→Jw,length_eraseIdx→Jx,getElem?_of_mem→Jy,instMembership→JI,pairwise_cons→JU
open Option.some renaming injEq→zd,inj→jo
open PySem.Heap renaming get?_push_of_some→zg,get?_push_size→zm,lt_size→zn,size_push→jb,get?_update_other→jN,SameBut→jO,get?_update_self→jU,ExtBut→Zc,get?_push_ne→Yt
open PySem.W renaming Frag→zj,fnOf→jE,emptyDict→yc,keepIn→yh,instObj→xc,findIn→xI,codeIn→xJ,nsIn→Zm,mg_of→ZM,methodObj→ZW,cellsFrom_some→Xs,specialIn→Jl,kitx_list→Jm,kitx_dict→Jn,plainGet→JE
open Nat renaming le_refl→zo,ne_of_lt→zA,le_trans→zI,lt_of_lt_of_le→zQ,le_of_ble_eq_true→jp,le_add_right→jL,zero_le→jR,ne_of_gt→yb,lt_trans→yt,lt_succ_of_lt→yw,le_of_lt→yx,lt_succ_self→yE,lt_irrefl→yO,lt_or_ge→xa,le_succ→xF,sub_succ_lt_self→ZS
open Bool renaming false_eq_true→zC,false_ne_true→zX,and_eq_true→jn,not_false→xu,or_false→Zi,not_true→Yc,true_or→XZ
open PySem.Builtin.SmallTypes renaming nextOf→zN,ownedTupleIsFree→jV,ownedTupleHandOut→xR
open Int renaming toNat_natCast→zW,emod_nonneg→jy,emod_lt_of_pos→jX,eq_ofNat_of_zero_le→XY
open PySem.Str renaming ofString→je,length_append→yg
open Array renaming getElem?_toList→ji,length_toList→jl,getElem?_eq_getElem→jv,toArray_toList→xD,perm_iff_toList_perm→Xh,append_assoc→JJ,toList_push→JW
open PyProof.Rows renaming slot_tuple_getitem→jq,callWith_type1→jF,Keyed→jQ,arrOf→jT,kindOf→yJ,SortSt→xW,pendingOf→Zh,subscriptTail_builtinR→ZR,IsTup→ZU,failedOf→Yo,envOfC→Yp,AllBare→Yv,seqObj→YT,oneType'→Xg,list_sort_treeK→XS,entry_list_sort→XT,wpS_pure→Je,sorted_out_str→Jf,sortedHeap_old→Jg,slot_list_sort→Jh,args_list_sort→Ji,strKind_oneLt→JG,sortedHeap_at→JH
open PySem.F renaming slot_tuple_iterator_next→jt,args_tuple_iterator_next_1→yT,entry_tuple_iterator_next→yW,called_set→xf,plain_extend_loop→xO,slot_list_pop→xQ,args_tuple_add_2→xU,entry_tuple_add→Zd,slot_tuple_getattribute→Zn,slot_tuple_add→Zo,slot_list_getattribute→Zs,slot_dict_get→Zt,slot_zip_next→ZN,plain_list_iadd→Xm,plainAttrs_list→Xn,args_dict_get_3→Xo,entry_dict_get→XB,type_list_pop→XJ,slot_list_extend→Jc,slot_list_append→Jd,slot_enumerate_next→JR
open PySem.Builtin.List renaming listExtendWith→jx,listLengthHint→yD,listSameRef→yV,listTooLong→xG,listItems→YF
open PySem.Around renaming under_plainId→jA
open PySem.Heap.SameBut renaming update→jC
open False renaming elim→yj
open PySem.Txt renaming slice→yq
open PySem.SeqAt renaming EqAt→yr,RcNeAt→Zr,RcAt→ZX,ne_of_list_tuple→XQ
open PySem.Paired renaming length→yI
open Function renaming comp_def→yK
open PySem.Builtin.Slice renaming slicePlaces→yL,sliceAdjust→xC,sliceApplied→Ya
open PySem.SetTable renaming grown→yN,below→Zv
open PySem.Builtin.Tuple renaming tupleExact→yU,tupleItemsOf→ZZ
open PySem.Builtin.Dict renaming updateFrom→yY,selfAndRest→Yu,pairItems→YG
open PySem.Calls renaming spliced_cons→xh,spliced_nil→xo,call_function_entry→xV,Name_function_global→Xe,callWith_builtin→XR
open PySem.Obj renaming mapSeq→xk,data_mapFields→xT,putSet→ZC,isFreed_of_fields→Jq
open Prod.mk renaming inj→xw
open Classical renaming byContradiction→xL,choose→Yb
open PySem.Builtin.Str renaming occurrences→xP
open Option renaming isSome_map→xX,map_some→Zu,isSome_iff_exists→Xp,map_eq_some_iff→XL,isSome_some→Js,isSome_none→Jt,isNone_none→Ju,getD_none→JS,bind_some→JT
open Sum.inr renaming inj→Zz
open PyProof.Rows.StrsAre renaming length→ZD
open PyProof.Rows.F renaming plain_set_update_loop→ZE,entry_set_update_loop→Jr
open PySem.SeqAt.EqAt renaming str_int→ZI,int_str→ZJ,same→Yd,none_bool→Xj,bool_none→Xk,bool_bool→Xl,str_none→Xt,str_bool→Xu,none_str→Xv,none_int→Xw,int_none→Xx,int_bool→Xy,bool_str→Xz,bool_int→XA,str_str→XH,int_int→XI
open PySem.Heap.DictOf renaming new→ZY
open List.cons renaming injEq→Yq,inj→JV
open PySem.AutoSeq1 renaming wpAny_loadPart'→YV
open PySem.pickOrder renaming go→Xb
open PySem.Shared renaming TypeIs→Xi,heap→XW
open List.Sublist renaming refl→XE
open PySem.Value renaming isStrOf_shape→Jo
open PySem.PassesOwn renaming never→Jp
open Membership renaming mem→Jv
open PySem.Walks renaming list→JD
open PySem.PyData renaming hasDictAll→JF
noncomputable section
abbrev VSP:=zf->zh->Prop
abbrev PNS:=List (PySem.Addr×PySem.Obj)
namespace L2
open PySem PySem.Spec PyProof.Rows
theorem K1{α:Type}{a:α}{P:Prop}(h:none=some a):P:=nomatch h
theorem dW1{α:Type}{a:α}{P:Prop}(h:some a=none):P:=nomatch h
theorem cJ8{P:Prop}(h:false=true):P:=nomatch h
theorem cZ3{α:Type}{a:α}{l:List α}{P:Prop}(h: []=a::l):P:=nomatch h
theorem dI3{α:Type}{a:α}{l:List α}{P:Prop}(h:a::l= []):P:=nomatch h
noncomputable abbrev Key:=Sum Int Str
noncomputable def bR1:Key->zf->Bool
 | .inl k,v=>Value.isInt k v
 | .inr x,v=>Value.isStrOf x v
noncomputable def fG1(w:zJ):Key->Int
 | .inl k=>hashInt k
 | .inr x=>hashStr w x
theorem S5:∀ {k:Key} {v:zf},bR1 k v=true->(∃i t,k=Sum.inl i/\v=Value.int i t)\/(∃x t,k=Sum.inr x/\v=Value.str x t)
 | .inl i,v,h=>by
   obtain⟨t,e⟩:=Value.isInt_shape (k:=i) (v:=v) h
   exact .inl ⟨i,t,rfl,e⟩
 | .inr x,v,h=>by
   obtain⟨t,e⟩:=Jo (x:=x) (v:=v) h
   exact .inr ⟨x,t,rfl,e⟩
theorem dA9(i:Int)(t:Tok):bR1 (.inl i) (.int i t)=true:=by simp[bR1,Value.isInt]
theorem dB3(x:Str)(t:Tok):bR1 (.inr x) (.str x t)=true:=by simp[bR1,Value.isStrOf]
theorem eK1(a b:Int):decide ((Sum.inl a:Key)=Sum.inl b)= (a==b):=by
 by_cases e:a=b
 ·subst e;simp
 · have h:¬(Sum.inl a:Key)=Sum.inl b:=λq=>e (Sum.inl.inj q)
   rw[decide_eq_false h]
   exact(beq_eq_false_iff_ne.mpr e).symm
theorem eP4(a b:Str):decide ((Sum.inr a:Key)=Sum.inr b)=decide (a=b):=by
 by_cases e:a=b
 ·subst e;simp
 · have h:¬(Sum.inr a:Key)=Sum.inr b:=λq=>e (Zz q)
   rw[decide_eq_false h,decide_eq_false e]
theorem eO5(a:Int)(b:Str):decide ((Sum.inl a:Key)=Sum.inr b)=false:=decide_eq_false (λq=>nomatch q)
theorem eU1(a:Str)(b:Int):decide ((Sum.inr a:Key)=Sum.inl b)=false:=decide_eq_false (λq=>nomatch q)
def Q4(prog:zB)(w:zJ):PySem.KeyKind prog w Key where
 is:=bR1
 hash:=fG1 w
 inj:=λv a b ha hb=>by
  rcases S5 ha with⟨i,t,rfl,rfl⟩|⟨x,t,rfl,rfl⟩
  · rcases S5 hb with⟨j,u,rfl,e⟩|⟨y,u,rfl,e⟩
    ·injection e with e1 _;rw[e1]
    ·exact nomatch e
  · rcases S5 hb with⟨j,u,rfl,e⟩|⟨y,u,rfl,e⟩
    ·exact nomatch e
    ·injection e with e1 _;rw[e1]
 byValue:=λk v h=>by
  rcases S5 h with⟨i,t,rfl,rfl⟩|⟨x,t,rfl,rfl⟩<;>rfl
 pyHash:=λhv h=>by
  rcases S5 hv with⟨i,t,rfl,rfl⟩|⟨x,t,rfl,rfl⟩
  ·exact wpAny_pyHash_int h
  ·exact wpAny_pyHash_str h
 eqBool:=λhu hv h=>by
  rcases S5 hu with⟨i,t,rfl,rfl⟩|⟨x,t,rfl,rfl⟩
  · rcases S5 hv with⟨j,u,rfl,rfl⟩|⟨y,u,rfl,rfl⟩
    ·rw[eK1]at h;exact wpAny_eqBool_int h
    ·rw[eO5]at h;exact ZJ i t y u _ _ _ _ h
  · rcases S5 hv with⟨j,u,rfl,rfl⟩|⟨y,u,rfl,rfl⟩
    ·rw[eU1]at h;exact ZI x t j u _ _ _ _ h
    ·rw[eP4]at h;exact wpAny_eqBool_str h
 «strs»:=λk x t v h=>by
  rcases S5 h with⟨i,u,rfl,e⟩|⟨y,u,rfl,e⟩
  ·exact nomatch e
  · injection e with e1 _
    subst e1
    cases v<;>rfl
theorem cK4(prog:zB)(w:zJ)(i:Int)(t:Tok):(Q4 prog w).is (.inl i) (.int i t)=true:=dA9 i t
theorem cJ7(prog:zB)(w:zJ)(x:Str)(t:Tok):(Q4 prog w).is (.inr x) (.str x t)=true:=dB3 x t
inductive V where
 |non|bl (b:Bool)|int (i:Int)|str (x:Str)|byt (b:Array UInt8)|flt (b:UInt64)|ref (a:Addr)|ty (n:String)
 deriving DecidableEq
noncomputable def J9:V->zf->Prop
 | .non,u=>u=Value.none
 | .bl b,u=>u=Value.bool b
 | .int i,u=>∃t,u=Value.int i t
 | .str x,u=>∃t,u=Value.str x t
 | .byt b,u=>∃t,u=Value.bytes b t
 | .flt b,u=>∃t,u=Value.float b t
 | .ref a,u=>u=Value.ref a
 | .ty n,u=>u=Value.type n
abbrev J2:List V->List zf->Prop:=Paired J9
theorem J2.length{xs:List V}{us:List zf}(r:J2 xs us):xs.length=us.length:=yI r
theorem J2.get:∀ {xs:List V} {us:List zf} {i:Nat} {x:V},J2 xs us->xs[i]? =some x->∃u,us[i]? =some u/\J9 x u
 |_,_,_,_,.nil,e=>by simp at e
 |_,_,0,_,.cons r _,e=>by simp at e;subst e;exact⟨_,rfl,r⟩
 |_,_,i+1,x,.cons _ t,e=>by
   obtain⟨u,h1,h2⟩:=J2.get (i:=i) (x:=x) t (by simpa using e)
   exact⟨u,by simpa using h1,h2⟩
theorem J2.set{x:V}{u:zf}(r:J9 x u):∀ {xs:List V} {us:List zf} (i:Nat),J2 xs us->J2 (xs.set i x) (us.set i u)
 |_,_,_,.nil=>.nil
 |_,_,0,.cons _ t=>.cons r t
 |_,_,i+1,.cons q t=>.cons q (J2.set r i t)
theorem J2.append{xs ys:List V}{us ws:List zf}(h:J2 xs us)(k:J2 ys ws):J2 (xs++ys) (us++ws):=by
 induction h with
 |nil=>exact k
 |cons r t ih=>exact .cons r ih
theorem J2.take:∀ {xs:List V} {us:List zf} (n:Nat),J2 xs us->J2 (xs.take n) (us.take n)
 |_,_,0,_=>.nil
 |_,_,_+1,.nil=>.nil
 |_,_,n+1,.cons r t=>.cons r (J2.take n t)
theorem J2.drop:∀ {xs:List V} {us:List zf} (n:Nat),J2 xs us->J2 (xs.drop n) (us.drop n)
 |_,_,0,r=>r
 |_,_,_+1,.nil=>.nil
 |_,_,n+1,.cons _ t=>J2.drop n t
def bU0:Option V->Option zf->Prop
 |some v,some u=>J9 v u
 |none,none=>True
 |_,_=>False
def KV{κ:Type}:List (κ×V)->List (κ×zf)->Prop:=Paired fun(p:κ×V) (q:κ×zf)=>p.1=q.1/\J9 p.2 q.2
noncomputable def kV:Key->V
 | .inl i=>.int i
 | .inr x=>.str x
inductive HO where
 /-- a list -/
 |lst (xs:List V)
 /-- a tuple (never changes) -/
 |tup (xs:List V)
 /-- a dict whose keys are ints and texts;one whose keys are tuples of ints and texts (the empty one is both) -/
 |dK (kvs:List (Key×V))|dT (kvs:List (List Key×V))
 /-- a set of ints:its members,its size -/
 |set (S:Int->Bool) (n:Nat)
 /-- an instance of the class at C,its dict at dx,its attributes -/
 |ins (C dx:Addr) (fs:List (Str×V))
 /-- the dict of the instance at x -/
 |own (x:Addr)
 /-- the dict of an exception -/
 |xd (fs:List (Str×V))
 /-- a bound method,f of x -/
 |met (f x:Addr)
 /-- a range object lo,lo+1,.. below hi -/
 |rng (lo hi:Int)
 /-- a thing that is known to the object (the script;a dict while a loop walks it):read,never written while it is so -/
 |frz (o:Obj) (u:HO)
 /-- a code object's table -/
 |tbl (ps:Array zf)
 /-- any other thing,by what is true of its one object (a def of one's own:SetO a S n:=HO.ext λh=>..) -/
 |ext (φ:Heap->Prop)
noncomputable abbrev Hp:=Addr->Option HO
noncomputable def upd(H:Hp)(a:Addr)(o:HO):Hp:=λb=>if b=a then some o else H b
theorem R9{H:Hp}{a:Addr}{o:HO}:upd H a o a=some o:=by unfold upd;rw[if_pos rfl]
theorem J6{H:Hp}{a b:Addr}{o:HO}(h:b≠a):upd H a o b=H b:=by unfold upd;rw[if_neg h]
theorem fC8{H:Hp}{a b:Addr}{o u:HO}(h:H a=some o)(h':H b=some u)(d:o≠u):a≠b:=by
 intro e;subst e;rw[h]at h';exact d (jo h')
theorem K5{H:Hp}{a b:Addr}{o:HO}(h:H a=some o)(h':H b=none):a≠b:=by
 intro e;subst e;rw[h]at h';cases h'
section
variable(P:zB)(w:zJ)
noncomputable def aE9(h:Heap)(a:Addr)(items:Array zf):Prop:=∃o,h.get? a=some o/\o.cls= .type "tuple"/\∃n,(o.data,o.dict)= (Data.seq items n,none)
theorem aE9.tup{h:Heap}{a:Addr}{items:Array zf}(x:aE9 h a items):ZU h a items:=by
 obtain⟨o,e,c,n,d⟩:=x
 exact⟨o,e,c,n,(xw d).1⟩
theorem aE9.new(h:Heap)(items:Array zf):aE9 (h.push {cls:=.type "tuple",data:=.seq items}) h.objs.size items:=⟨_,zm _ rfl,rfl,_,rfl⟩
def X6(H:Hp)(h:Heap)(a:Addr):HO->Prop
 | .lst xs=>xs.length<=zk/\∃(its:List zf) (n:Nat),J2 xs its/\h.get? a=some {cls:=.type "list",data:=.seq its.toArray n}
 | .tup xs=>xs.length<=zk/\∃its:List zf,J2 xs its/\aE9 h a its.toArray
 | .dK kvs=>kvs.length<=zk/\(a==yQ)=false/\∃vs,KV kvs vs/\h.DictOf (Q4 P w) a vs
 | .dT kvs=>kvs.length<=zk/\(a==yQ)=false/\∃xs:List (List Key×Addr×zf),
    Paired (fun(p:List Key×V) (q:List Key×Addr×zf)=>p.1=q.1/\H q.2.1=some (.tup (p.1.map kV))/\J9 p.2 q.2.2) kvs xs/\
    ∃o es ep,h.get? a=some o/\o.ExactDict/\o.data= .dict es ep/\es.toList=xs.map (entryOfKey (Yr (Q4 P w)))/\(xs.map (·.1)).Nodup
 | .set S n=>h.SetOf (intKind P w) a S n
 | .ins C dx fs=>H dx=some (.own a)/\fs.length<=1000/\dx≠a/\h.get? a=some (xc C dx)/\
    ∃mA,h.Ns1 dx mA/\(∀f,bU0 (fs.lookup f) (mA f))/\PySem.Within mA (fs.map (·.1))
 | .own _=>∃o,h.get? a=some o
 | .xd fs=>∃mA,h.Ns1 a mA/\∀f,bU0 (fs.lookup f) (mA f)
 | .rng lo hi=>∃t u v,h.get? a=some {cls:=.type "range",data:=.fields #[.int lo t,.int hi u,.int 1 v]}
 | .frz o u=>h.get? a=some o/\X6 H h a u
 | .tbl ps=>h.get? a=some {cls:=.none,data:=.fields ps}
 | .met f x=>h.get? a=some (ZW (.ref f) (.ref x))
 | .ext φ=>φ h/\(∃o,h.get? a=some o)/\∀h1 h2:Heap,φ h1->(∀o,h1.get? a=some o->h2.get? a=some o)->φ h2
def HOk(H:Hp)(h:Heap):Prop:=∀a o,H a=some o->X6 P w H h a o
end
section
variable{P:zB}{w:zJ}{H H':Hp}{h h':Heap}{a:Addr}{o:HO}
theorem X6.lt(x:X6 P w H h a o):a<h.objs.size:=by
 cases o with
 |lst xs=>obtain⟨_,_,_,_,e⟩:=x;exact zn e
 |tup xs=>obtain⟨_,_,_,p⟩:=x;exact(aE9.tup p).lt
 |dK kvs=>obtain⟨_,_,_,_,o,_,_,e,_⟩:=x;exact zn e
 |dT kvs=>obtain⟨_,_,_,_,o,_,_,e,_⟩:=x;exact zn e
 |set S n=>obtain⟨o,_,_,_,e,_⟩:=x;exact zn e
 |ins C dx fs=>obtain⟨_,_,_,e,_⟩:=x;exact zn e
 |own y=>obtain⟨_,e⟩:=x;exact zn e
 |xd fs=>obtain⟨_,⟨_,_,_,e,_⟩,_⟩:=x;exact zn e
 |rng lo hi=>obtain⟨_,_,_,e⟩:=x;exact zn e
 |frz ob u=>obtain⟨e,_⟩:=x;exact zn e
 |tbl ps=>exact zn (show h.get? a=some _ from x)
 |met f y=>exact zn (show h.get? a=some _ from x)
 |ext φ=>obtain⟨_,⟨_,e⟩,_⟩:=x;exact zn e
theorem Paired.mapP{α β:Type}{F G:α->β->Prop}{l₁:List α}{l₂:List β}(h:Paired F l₁ l₂)(f:∀a b,F a b->G a b):Paired G l₁ l₂:=by
 induction h with
 |nil=>exact .nil
 |cons r t ih=>exact .cons (f _ _ r) ih
theorem X6.stay(x:X6 P w H h a o)(k:∀b u,(b=a\/H b=some (.own a))->h.get? b=some u->h'.get? b=some u)
 (ho:∀b,H b=some (.own a)->H' b=some (.own a)) (ht:∀b xs,H b=some (.tup xs)->H' b=some (.tup xs)):X6 P w H' h' a o:=by
 induction o with
 |lst xs=>obtain⟨z,its,n,r,e⟩:=x;exact⟨z,its,n,r,k _ _ (.inl rfl) e⟩
 |tup xs=>obtain⟨z,its,r,ob,e,c⟩:=x;exact⟨z,its,r,ob,k _ _ (.inl rfl) e,c⟩
 |dK kvs=>obtain⟨z,y,vs,r,ob,es,ep,e,c⟩:=x;exact⟨z,y,vs,r,ob,es,ep,k _ _ (.inl rfl) e,c⟩
 |dT kvs=>
   obtain⟨z,y,xs,r,ob,es,ep,e,c⟩:=x
   exact⟨z,y,xs,Paired.mapP r λp q z=>⟨z.1,ht _ _ z.2.1,z.2.2⟩,ob,es,ep,k _ _ (.inl rfl) e,c⟩
 |set S n=>obtain⟨ob,es,ep,t,e,c⟩:=x;exact⟨ob,es,ep,t,k _ _ (.inl rfl) e,c⟩
 |ins C dx fs=>
   obtain⟨d,z,ne,e,mA,⟨od,es,ep,e2,c⟩,r⟩:=x
   exact⟨ho _ d,z,ne,k _ _ (.inl rfl) e,mA,⟨od,es,ep,k _ _ (.inr d) e2,c⟩,r⟩
 |own y=>obtain⟨ob,e⟩:=x;exact⟨ob,k _ _ (.inl rfl) e⟩
 |xd fs=>obtain⟨mA,⟨od,es,ep,e,c⟩,r⟩:=x;exact⟨mA,⟨od,es,ep,k _ _ (.inl rfl) e,c⟩,r⟩
 |rng lo hi=>obtain⟨t,u,v,e⟩:=x;exact⟨t,u,v,k _ _ (.inl rfl) e⟩
 |frz ob u ih=>obtain⟨e,q⟩:=x;exact⟨k _ _ (.inl rfl) e,ih q⟩
 |tbl ps=>
   have e:h.get? a=some {cls:=.none,data:=.fields ps}:=x
   show h'.get? a=some {cls:=.none,data:=.fields ps}
   exact k a _ (.inl rfl) e
 |met f y=>
   have e:h.get? a=some (ZW (.ref f) (.ref y)):=x
   show h'.get? a=some (ZW (.ref f) (.ref y))
   exact k a _ (.inl rfl) e
 |ext φ=>obtain⟨p,⟨o,e⟩,st⟩:=x;exact⟨st _ _ p λo q=>k _ _ (.inl rfl) q,⟨o,k _ _ (.inl rfl) e⟩,st⟩
theorem HOk.lt(x:HOk P w H h)(e:H a=some o):a<h.objs.size:=(x a o e).lt
theorem HOk.fresh(x:HOk P w H h)(e:h.objs.size<=a):H a=none:=by
 cases q:H a with
 |none=>rfl
 |some u=>exact absurd (zQ (x.lt q) e) (yO _)
theorem HOk.kept(x:HOk P w H h)(k:∀b u,h.get? b=some u->h'.get? b=some u):HOk P w H h':=λa o e=>
 (x a o e).stay (λb u _ q=>k b u q) (λ_ q=>q) λ_ _ q=>q
theorem HOk.laid(x:HOk P w H h)(k:∀b u,h.get? b=some u->h'.get? b=some u)(hp:h.objs.size<=a)(new:X6 P w (upd H a o) h' a o):HOk P w (upd H a o) h':=λb u e=>by
 have hn:=x.fresh hp
 by_cases hb:b=a
 ·subst hb;rw[R9]at e;cases e;exact new
 · rw[J6 hb]at e
   exact(x b u e).stay (λc v _ q=>k c v q) (λc q=>by rw[J6 (K5 q hn)];exact q) λc xs q=>by rw[J6 (K5 q hn)];exact q
end
noncomputable def Rd(H:Hp)(a:Addr)(u:HO):Prop:=H a=some u\/∃o,H a=some (.frz o u)
theorem Rd.of{H:Hp}{a:Addr}{u:HO}(h:H a=some u):Rd H a u:=.inl h
theorem Rd.ok{P:zB}{w:zJ}{H:Hp}{h:Heap}{a:Addr}{u:HO}(r:Rd H a u)(x:HOk P w H h):X6 P w H h a u:=by
 rcases r with r|⟨o,r⟩
 ·exact x a u r
 · obtain⟨_,q⟩:=x a _ r
   exact q
noncomputable def Mut:Option HO->Prop
 |some (.lst _)=>True
 |some (.dK _)=>True
 |some (.dT _)=>True
 |some (.set _ _)=>True
 |some (.ins _ _ _)=>True
 |some (.ext _)=>True
 |_=>False
section
variable{P:zB}{w:zJ}{H:Hp}{h h':Heap}{x e:Addr}{o':HO}
theorem HOk.write(ok:HOk P w H h)(mu:Mut (H x))(he:e=x\/H e=some (.own x))(k:∀b u,b≠e->h.get? b=some u->h'.get? b=some u)(heo:∃u,h'.get? e=some u)
 (new:X6 P w (upd H x o') h' x o'):HOk P w (upd H x o') h':=λb u q=>by
 have nown:∀c y,H c=some (.own y)->c≠x:=λc y r z=>by subst z;rw[r]at mu;exact mu
 have ntup:∀c xs,H c=some (.tup xs)->c≠x:=λc xs r z=>by subst z;rw[r]at mu;exact mu
 by_cases hb:b=x
 ·subst hb;rw[R9]at q;cases q;exact new
 · rw[J6 hb]at q
   by_cases hbe:b=e
   · have q':H b=some (.own x):=by
      rcases he with z|z
      ·exact absurd (hbe.trans z) hb
      ·rw[hbe];exact z
     rw[q]at q';cases q'
     obtain⟨v,hv⟩:=heo
     exact⟨v,by rw[hbe];exact hv⟩
   · refine(ok b u q).stay (λc v hc r=>k c v ?_ r) (λc r=>by rw[J6 (nown c b r)];exact r) λc xs r=>by rw[J6 (ntup c xs r)];exact r
     rcases hc with rfl|hc
     ·exact hbe
     · rintro rfl
       rcases he with z|z
       ·exact nown c b hc z
       ·rw[hc]at z;cases z;exact hb rfl
end
structure Un(fs ex:List Addr)(H H':Hp)(h h':Heap):Prop where
 keep:∀b o,h.get? b=some o->H b=none->b∉fs->b∉ex->h'.get? b=some o
 slot:∀b o,h.get? b=some o->H b=none->b∈fs->b∉ex->∃sl,h'.get? b=some {o with slots:=sl}
 free:∀b o,h.get? b=some o->H b=none->b∉ex->H' b=none
 there:∀b o,h.get? b=some o->b∉ex->∃o',h'.get? b=some o'
 tups:∀b xs,H b=some (.tup xs)->H' b=some (.tup xs)
 frzs:∀b o u,H b=some (.frz o u)->H' b=some (.frz o u)
 tbls:∀b ps,H b=some (.tbl ps)->∃more,H' b=some (.tbl (ps++more))
section
variable{fs fs' ex ex':List Addr}{H H1 H2:Hp}{h h1 h2 h':Heap}{a x e:Addr}{o:HO}
theorem Un.any(u:Un fs ex H H1 h h1){b:Addr}{ob:Obj}(q:h.get? b=some ob)(n:H b=none)(hx:b∉ex):∃sl,h1.get? b=some {ob with slots:=sl}:=by
 by_cases hb:b∈fs
 ·exact u.slot b ob q n hb hx
 ·exact⟨ob.slots,u.keep b ob q n hb hx⟩
theorem Un.trans(a:Un fs ex H H1 h h1)(b:Un fs ex H1 H2 h1 h2):Un fs ex H H2 h h2 where
 keep:=λc ob q n hc hx=>b.keep c ob (a.keep c ob q n hc hx) (a.free c ob q n hx) hc hx
 slot:=λc ob q n hc hx=>by
  obtain⟨sl,e1⟩:=a.slot c ob q n hc hx
  obtain⟨sl',e2⟩:=b.slot c _ e1 (a.free c ob q n hx) hc hx
  exact⟨sl',e2⟩
 free:=λc ob q n hx=>by
  obtain⟨o',e1⟩:=a.there c ob q hx
  exact b.free c o' e1 (a.free c ob q n hx) hx
 there:=λc ob q hx=>by
  obtain⟨o',e1⟩:=a.there c ob q hx
  exact b.there c o' e1 hx
 tups:=λc xs q=>b.tups c xs (a.tups c xs q)
 frzs:=λc ob xs q=>b.frzs c ob xs (a.frzs c ob xs q)
 tbls:=λc ps q=>by
  obtain⟨m1,e1⟩:=a.tbls c ps q
  obtain⟨m2,e2⟩:=b.tbls c _ e1
  exact⟨m1++m2,by rw[e2,JJ]⟩
theorem Un.kept(k:∀b u,h.get? b=some u->h'.get? b=some u):Un fs ex H H h h':=
 ⟨λb ob q _ _ _=>k b ob q,λb ob q _ _ _=>⟨ob.slots,k b ob q⟩,λ_ _ _ n _=>n,λb ob q _=>⟨ob,k b ob q⟩,λ_ _ q=>q,λ_ _ _ q=>q,λ_ ps q=>⟨#[],by rw[q];simp⟩⟩
theorem Un.refl:Un fs ex H H h h:=Un.kept λ_ _ q=>q
theorem Un.laid(k:∀b u,h.get? b=some u->h'.get? b=some u)(hp:h.objs.size<=a)(hn:H a=none):Un fs ex H (upd H a o) h h' where
 keep:=λb u q _ _ _=>k b u q
 slot:=λb u q _ _ _=>⟨u.slots,k b u q⟩
 free:=λb u q n _=>by rw[J6 (zA (zQ (zn q) hp))];exact n
 there:=λb u q _=>⟨u,k b u q⟩
 tups:=λb xs q=>by rw[J6 (K5 q hn)];exact q
 frzs:=λb u xs q=>by rw[J6 (K5 q hn)];exact q
 tbls:=λb ps q=>⟨#[],by rw[J6 (K5 q hn),q];simp⟩
theorem Un.write(mu:Mut (H x))(he:e=x\/H e=some (.own x))(k:∀b u,b≠e->h.get? b=some u->h'.get? b=some u)(heo:∃u,h'.get? e=some u):Un fs ex H (upd H x o) h h':=by
 have hx:∀b,H b=none->b≠x:=λb n z=>by subst z;rw[n]at mu;exact mu
 have hb:∀b,H b=none->b≠e:=λb n z=>by
  subst z
  rcases he with r|r
  ·exact hx b n r
  ·rw[n]at r;cases r
 have hm:∀b u,H b=some u->¬Mut (some u)->b≠x:=λb u q nm z=>by subst z;rw[q]at mu;exact nm mu
 refine⟨λb u q n _ _=>k b u (hb b n) q,λb u q n _ _=>⟨u.slots,k b u (hb b n) q⟩,λb u q n _=>by rw[J6 (hx b n)];exact n,λb u q _=>?_,
  λb xs q=>by rw[J6 (hm b _ q λz=>z)];exact q,λb u xs q=>by rw[J6 (hm b _ q λz=>z)];exact q,λb ps q=>⟨#[],by rw[J6 (hm b _ q λz=>z),q];simp⟩⟩
 by_cases hbe:b=e
 ·subst hbe;exact heo
 ·exact⟨u,k b u hbe q⟩
theorem Un.mono(u:Un fs ex H H1 h h1)(hs:∀b∈fs,b∈fs')(hx:∀b∈ex,b∈ex'):Un fs' ex' H H1 h h1:=
 ⟨λb ob q n hb he=>u.keep b ob q n (λz=>hb (hs b z)) λz=>he (hx b z),λ_ _ q n _ he=>u.any q n λz=>he (hx _ z),λb ob q n he=>u.free b ob q n λz=>he (hx b z),λb ob q he=>u.there b ob q λz=>he (hx b z),u.tups,u.frzs,u.tbls⟩
end
noncomputable def trk(h:Heap)(H:Hp):List Addr:=(jw h.objs.size).filter λa=>(H a).isSome
def cD0(h:Heap)(H:Hp):Heap:=PySem.W.hideAll h (trk h H)
theorem dD4(h:Heap)(H:Hp):(cD0 h H).objs.size=h.objs.size:=PySem.W.hideAll_size _ _
theorem dN0{h:Heap}{H:Hp}{b:Addr}{o:Obj}(e:h.get? b=some o)(n:H b=none):(cD0 h H).get? b=some o:=
 PySem.W.hideAll_get _ e λhm=>by
  have q:(H b).isSome=true:=(YX.mp hm).2
  rw[n]at q;simp at q
theorem eC0{h:Heap}{H:Hp}{b:Addr}{o:Obj}(e:(cD0 h H).get? b=some o):h.get? b=some o/\H b=none:=by
 have e':h.get? b=some o:=PySem.W.of_hideAll (trk h H) e
 refine⟨e',?_⟩
 cases q:H b with
 |none=>rfl
 |some x=>
   have hm:b∈trk h H:=YX.mpr ⟨yX.mpr (zn e'),by simp[q]⟩
   have z:(cD0 h H).get? b=none:=PySem.W.hideAll_none (trk h H) hm
   rw[z]at e;cases e
noncomputable def dX7(g h:Heap)(L:Addr):PNS:=(jw h.objs.size).filterMap λa=>if a=L\/(g.get? a).isSome=true then none else (h.get? a).map λo=>(a,o)
def rest(g h:Heap)(L d:Addr):PNS:=(dX7 g h L).filter λp=>decide (p.1≠d)
structure Mod(K:zj)(mg:Str->Option zf)(base:Heap):Prop where
 kin:K.In base
 glob:base.Ns jm mg
 blt:∃mb,base.Ns builtinsNs mb/\∀x:Str,x≠ "__name__"->mb x=zO x
 nolimit:base.NoLimit
structure Cx where
 prog:zB
 w:zJ
 K:zj
 mg:Str->Option zf
 base:Heap
 A:zF
 N:List Str
 WX:zh
 H₀:Hp
 env:Env
 outer:List Env
 stack:List Env
 ex:List Addr
 fn:Str->Bool
 calm:Bool
 pn:PNS
 xe:VSP
noncomputable def frs(l:List Env):List Addr:=l.filterMap (·.frame)
abbrev Cx.fs(X:Cx):List Addr:=frs X.outer
noncomputable def Vis(sc:Scope)(x:Str):Prop:=sc.names.lookup x=some .local\/sc.names.lookup x=some .cell\/sc.names.lookup x=some .free
noncomputable def Loc(sc:Scope)(x:Str):Prop:=sc.names.lookup x=some .local\/sc.names.lookup x=some .cell
noncomputable def fF5(env:Env)(h:Heap)(m:Str->Option zf)(x:Str)(u:zf):Prop:=
 (env.kindOf x=some .local/\m x=some u)\/((env.kindOf x=some .cell\/env.kindOf x=some .free)/\∃c,env.cells.lookup x=some c/\h.IsCell c (some u))
structure Cx.Ok(X:Cx):Prop where
 mod:Mod X.K X.mg X.base
 kind:X.env.scope.kind= .function
 glob:X.env.globals=jm
 blt:X.env.builtins=builtinsNs
 above:X.WX.heap.objs.size<=X.env.locals
 inj:∀x y c,X.env.cells.lookup x=some c->X.env.cells.lookup y=some c->x=y
 has:∀x,(X.env.kindOf x=some .cell\/X.env.kindOf x=some .free)->∃c,X.env.cells.lookup x=some c
 cab:∀x c,X.fn x=true->X.env.cells.lookup x=some c->X.WX.heap.objs.size<=c
 hd:X.calm=true->X.A.handled=none
 frames:X.A.frames=some X.stack
 stk:X.stack=X.outer\/(X.stack=X.env::X.outer/\X.env.frame=some X.env.locals)
 exf:∀b∈X.ex,b≠X.env.locals/\∀x c,X.env.cells.lookup x=some c->c≠b
 bs:∀b o,X.base.get? b=some o->X.WX.heap.get? b=some o/\X.H₀ b=none
 bsz:X.base.objs.size<=X.WX.heap.objs.size
 noex:∀b o,X.base.get? b=some o->b∉X.ex
 exfs:∀b∈X.ex,b∉X.fs
 funs:X.WX.heap.FunFrames X.base X.outer
 frf:∀b∈X.fs,X.H₀ b=none
 gd:X.A.guards=some []
structure Inv(X:Cx)(pins:PNS)(O:List (Option V))(H:Hp)(s:zh):Prop where
 ok:X.Ok
 os:s.os=X.WX.os
 bare:Yv s.gens
 base:Un X.fs X.ex X.H₀ H X.WX.heap s.heap
 loc:∃m,s.heap.Ns X.env.locals m/\∀(i:Nat) (x:Str) (v:V),X.N[i]? =some x->O[i]? =some (some v)->Vis X.env.scope x->∃u,J9 v u/\fF5 X.env s.heap m x u
 cell:∀x c,X.env.cells.lookup x=some c->∃v,s.heap.IsCell c v
 free:H X.env.locals=none
 freeC:∀x c,X.env.cells.lookup x=some c->H c=none
 pin:∀p∈X.pn++pins,s.heap.get? p.1=some p.2/\H p.1=none/\p.1≠X.env.locals/\p.1∉X.fs/\∀v,p.2.data≠ .cell v
 hok:HOk X.prog X.w H s.heap
 len:O.length=X.N.length
section
variable{X:Cx}{pins:PNS}{O:List (Option V)}{H H':Hp}{s:zh}{h':Heap}
theorem Cx.Ok.nofr(ok:X.Ok){b:Addr}{o:Obj}(e:X.base.get? b=some o):b∉X.fs:=λhb=>by
 have:=(ok.funs.mem hb).1
 rw[e]at this;cases this
theorem Inv.bs(I:Inv X pins O H s):∀b o,X.base.get? b=some o->s.heap.get? b=some o/\H b=none:=λb o e=>
 ⟨I.base.keep b o (I.ok.bs b o e).1 (I.ok.bs b o e).2 (I.ok.nofr e) (I.ok.noex b o e),I.base.free b o (I.ok.bs b o e).1 (I.ok.bs b o e).2 (I.ok.noex b o e)⟩
theorem Inv.bk(I:Inv X pins O H s):∀b o,X.base.get? b=some o->s.heap.get? b=some o:=λb o e=>(I.bs b o e).1
theorem Inv.mod(I:Inv X pins O H s):Mod X.K X.mg X.base:=I.ok.mod
theorem Inv.kIn(I:Inv X pins O H s):X.K.In s.heap:=I.ok.mod.kin.keeps I.bk
theorem Inv.nolimit(I:Inv X pins O H s):s.heap.NoLimit:=I.ok.mod.nolimit.keeps I.bk
theorem Inv.lt(I:Inv X pins O H s):X.env.locals<s.heap.objs.size:=let ⟨_,hn,_⟩:=I.loc;hn.lt
theorem Inv.sz(I:Inv X pins O H s):X.WX.heap.objs.size<=s.heap.objs.size:=zI I.ok.above (yx I.lt)
theorem Inv.nofs(I:Inv X pins O H s){a:Addr}(h:s.heap.objs.size<=a):a∉X.fs:=λhb=>by
 obtain⟨_,o,ho,_⟩:=I.ok.funs.mem hb
 exact absurd (zQ (zn ho) (zI I.sz h)) (yO _)
theorem Inv.cne(I:Inv X pins O H s):∀x c,X.env.cells.lookup x=some c->c≠X.env.locals:=λx c e z=>by
 obtain⟨v,o,ho,hd⟩:=I.cell x c e
 obtain⟨m,⟨o',es,ep,ho',hd',_⟩,_⟩:=I.loc
 rw[z,ho']at ho;cases ho;rw[hd']at hd;cases hd
theorem Inv.funs(I:Inv X pins O H s):s.heap.FunFrames X.base X.outer:=by
 have all:∀(l:List Env),(∀b∈frs l,b∈X.fs)->X.WX.heap.FunFrames X.base l->s.heap.FunFrames X.base l:=by
  intro l
  induction l with
  |nil=>intro _ _;trivial
  |cons env r ih=>
    intro hs hl
    obtain⟨hk,⟨L,o,hf,hn,ho,hd⟩,hr⟩:=hl
    have hL:L∈X.fs:=hs L (by unfold frs;rw[jP,hf];exact jh)
    obtain⟨sl,e⟩:=I.base.slot L o ho (I.ok.frf L hL) hL λz=>I.ok.exfs L z hL
    exact⟨hk,⟨L,_,hf,hn,e,hd⟩,ih (λb hb=>hs b (by unfold frs;rw[jP,hf];exact zU _ hb)) hr⟩
 exact all X.outer (λ_ hb=>hb) I.ok.funs
theorem Inv.stack(I:Inv X pins O H s):s.heap.FunFrames X.base X.stack:=by
 rcases I.ok.stk with e|⟨e,hf⟩
 ·rw[e];exact I.funs
 · rw[e]
   obtain⟨m,hn,_⟩:=I.loc
   refine .cons (by rw[I.ok.kind];decide) hf hn ?_ I.funs
   exact Heap.get?_none_of_le (zI I.ok.bsz I.ok.above)
theorem Inv.stkSub(I:Inv X pins O H s):∀b∈frs X.stack,b∈X.env.locals::X.fs:=λb hb=>by
 rcases I.ok.stk with e|⟨e,hf⟩
 ·rw[e]at hb;exact zU _ hb
 · rw[e]at hb
   unfold frs at hb
   rw[jP,hf]at hb
   exact hb
theorem Inv.stkFree(I:Inv X pins O H s):∀b∈frs X.stack,H b=none:=λb hb=>by
 rcases zw.mp (I.stkSub b hb)with e|hb
 ·rw[e];exact I.free
 · obtain⟨_,o,ho,_⟩:=I.ok.funs.mem hb
   exact I.base.free b o ho (I.ok.frf b hb) λz=>I.ok.exfs b z hb
theorem Inv.step{g':Array GenState}{t':Nat}{d':Drawn}{ch:List Addr}(I:Inv X pins O H s)
 (hch:∀b∈ch,(b∈X.ex\/X.WX.heap.objs.size<=b)/\b≠X.env.locals/\(∀x c,X.env.cells.lookup x=some c->c≠b)/\∀p∈X.pn++pins,p.1≠b)
 (keep:∀b o,b≠X.env.locals->b∉X.fs->b∉ch->s.heap.get? b=some o->H b=none->h'.get? b=some o)
 (slot:∀b o,b≠X.env.locals->b∈X.fs->b∉ch->s.heap.get? b=some o->H b=none->∃sl,h'.get? b=some {o with slots:=sl}) (free:∀b o,b∉ch->s.heap.get? b=some o->H b=none->H' b=none)
 (there:∀b o,b∉ch->s.heap.get? b=some o->∃o',h'.get? b=some o')
 (tups:∀b xs,H b=some (.tup xs)->H' b=some (.tup xs)) (frzs:∀b o u,H b=some (.frz o u)->H' b=some (.frz o u)) (tbls:∀b ps,H b=some (.tbl ps)->∃more,H' b=some (.tbl (ps++more)))
 (ns:∀m,s.heap.Ns X.env.locals m->h'.Ns X.env.locals m) (hok:HOk X.prog X.w H' h') (hg:Yv g'):
 Inv X pins O H' {s with heap:=h',gens:=g',drawn:=d',toks:=t'}:=by
 have neL:∀b o,X.WX.heap.get? b=some o->b≠X.env.locals:=λb o e=>zA (zQ (zn e) I.ok.above)
 have neC:∀b o,X.WX.heap.get? b=some o->b∉X.ex->b∉ch:=λb o e hx hb=>by
  rcases (hch b hb).1 with z|z
  ·exact hx z
  ·exact absurd (zQ (zn e) z) (yO _)
 have cellK:∀x c,X.env.cells.lookup x=some c->∀v,s.heap.IsCell c v->h'.IsCell c v:=λx c e v ⟨o,ho,hd⟩=>by
  have nch:c∉ch:=λz=>(hch c z).2.2.1 x c e rfl
  by_cases hc:c∈X.fs
  · obtain⟨sl,q⟩:=slot c o (I.cne x c e) hc nch ho (I.freeC x c e)
    exact⟨_,q,hd⟩
  ·exact⟨o,keep c o (I.cne x c e) hc nch ho (I.freeC x c e),hd⟩
 refine⟨I.ok,I.os,hg,⟨λb o e n hb hx=>?_,λb o e n hb hx=>?_,λb o e n hx=>?_,λb o e hx=>?_,λb xs e=>tups b xs (I.base.tups b xs e),λb o xs e=>frzs b o xs (I.base.frzs b o xs e),λb ps e=>?_⟩,?_,λx c e=>?_,?_,λx c e=>?_,λp hp=>?_,hok,I.len⟩
 ·exact keep b o (neL b o e) hb (neC b o e hx) (I.base.keep b o e n hb hx) (I.base.free b o e n hx)
 · obtain⟨sl,e1⟩:=I.base.slot b o e n hb hx
   obtain⟨sl',e2⟩:=slot b _ (neL b o e) hb (neC b o e hx) e1 (I.base.free b o e n hx)
   exact⟨sl',e2⟩
 · obtain⟨o',e1⟩:=I.base.there b o e hx
   exact free b o' (neC b o e hx) e1 (I.base.free b o e n hx)
 · obtain⟨o',e1⟩:=I.base.there b o e hx
   exact there b o' (neC b o e hx) e1
 · obtain⟨m1,e1⟩:=I.base.tbls b ps e
   obtain⟨m2,e2⟩:=tbls b _ e1
   exact⟨m1++m2,by rw[e2,JJ]⟩
 · obtain⟨m,hn,hl⟩:=I.loc
   refine⟨m,ns m hn,λi x v e1 e2 e3=>?_⟩
   obtain⟨u,r,l⟩:=hl i x v e1 e2 e3
   refine⟨u,r,?_⟩
   rcases l with l|⟨k,c,e,z⟩
   ·exact .inl l
   ·exact .inr ⟨k,c,e,cellK x c e _ z⟩
 · obtain⟨v,z⟩:=I.cell x c e
   exact⟨v,cellK x c e v z⟩
 · obtain⟨m,⟨o,_,_,ho,_⟩,_⟩:=I.loc
   exact free _ o (λz=>(hch _ z).2.1 rfl) ho I.free
 · obtain⟨v,o,ho,hd⟩:=I.cell x c e
   exact free c o (λz=>(hch c z).2.2.1 x c e rfl) ho (I.freeC x c e)
 · obtain⟨e,n,ne,nf,d⟩:=I.pin p hp
   have nch:p.1∉ch:=λz=>(hch p.1 z).2.2.2 p hp rfl
   exact⟨keep p.1 p.2 ne nf nch e n,free p.1 p.2 nch e n,ne,nf,d⟩
theorem Inv.un{t':Nat}(I:Inv X pins O H s)(u:Un X.fs [] H H' s.heap h')(hok:HOk X.prog X.w H' h'):Inv X pins O H' {s with heap:=h',toks:=t'}:=by
 obtain⟨m,⟨o,es,ep,ho,r⟩,_⟩:=id I.loc
 obtain⟨sl,hL⟩:=u.any ho I.free (by simp)
 exact I.step (g':=s.gens) (d':=s.drawn) (ch:= []) (λ_ z=>nomatch z) (λb o _ hb _ e n=>u.keep b o e n hb (by simp)) (λb o _ hb _ e n=>u.slot b o e n hb (by simp)) (λb o _ e n=>u.free b o e n (by simp)) (λb o _ e=>u.there b o e (by simp)) u.tups u.frzs u.tbls (λm' hm=>by
  obtain⟨o',es',ep',ho',r'⟩:=hm
  rw[ho]at ho';cases ho'
  exact⟨_,es',ep',hL,r'⟩) hok I.bare
theorem Inv.call{g':Array GenState}{t':Nat}{d':Drawn}{ch:List Addr}(I:Inv X pins O H s)(u:Un (frs X.stack) ch H H' s.heap h')(hok:HOk X.prog X.w H' h')(hg:Yv g')
 (hch:∀b∈ch,(b∈X.ex\/X.WX.heap.objs.size<=b)/\b≠X.env.locals/\(∀x c,X.env.cells.lookup x=some c->c≠b)/\∀p∈X.pn++pins,p.1≠b):
 Inv X pins O H' {s with heap:=h',gens:=g',drawn:=d',toks:=t'}:=by
 obtain⟨m,⟨o,es,ep,ho,r⟩,_⟩:=id I.loc
 obtain⟨sl,hL⟩:=u.any ho I.free λz=>(hch _ z).2.1 rfl
 exact I.step (ch:=ch) hch (λb o hL hb hc e n=>u.keep b o e n (λz=>(zw.mp (I.stkSub b z)).elim hL hb) hc) (λb o _ _ hc e n=>u.any e n hc) (λb o hc e n=>u.free b o e n hc) (λb o hc e=>u.there b o e hc) u.tups u.frzs u.tbls (λm' hm=>by
  obtain⟨o',es',ep',ho',r'⟩:=hm
  rw[ho]at ho';cases ho'
  exact⟨_,es',ep',hL,r'⟩) hok hg
theorem Inv.turned{t':Nat}{it:Addr}(I:Inv X pins O H s)(k:∀b o,b≠it->s.heap.get? b=some o->h'.get? b=some o)(hn:H it=none)(hL:it≠X.env.locals)
 (h1:it∈X.ex\/X.WX.heap.objs.size<=it) (h2:∀x c,X.env.cells.lookup x=some c->c≠it) (h3:∀p∈X.pn++pins,p.1≠it):Inv X pins O H {s with heap:=h',toks:=t'}:=by
 have nit:∀b u,H b=some u->b≠it:=λb u e z=>by rw[z,hn]at e;cases e
 refine I.step (g':=s.gens) (d':=s.drawn) (ch:= [it]) (λb hb=>?_) (λb o _ _ hc e _=>k b o (λz=>hc (by simp[z])) e) (λb o _ _ hc e _=>⟨o.slots,k b o (λz=>hc (by simp[z])) e⟩) (λ_ _ _ _ n=>n)
  (λb o hc e=>⟨o,k b o (λz=>hc (by simp[z])) e⟩) (λ_ _ e=>e) (λ_ _ _ e=>e) (λb ps e=>⟨#[],by rw[e];simp⟩) (λm hm=>?_) (λb u e=>?_) I.bare
 · have e:b=it:=by simpa using hb
   subst e
   exact⟨h1,hL,h2,h3⟩
 · obtain⟨o,es,ep,ho,r⟩:=hm
   exact⟨o,es,ep,k _ o (Ne.symm hL) ho,r⟩
 · refine(I.hok b u e).stay (λc v hc q=>k c v ?_ q) (λ_ q=>q) λ_ _ q=>q
   rcases hc with z|z
   ·rw[z];exact nit b u e
   ·exact nit c _ z
theorem Inv.tok(I:Inv X pins O H s)(t:Nat):Inv X pins O H {s with toks:=t}:=I.un (h':=s.heap) (t':=t) Un.refl I.hok
theorem Inv.kept{t':Nat}(I:Inv X pins O H s)(k:∀b u,s.heap.get? b=some u->h'.get? b=some u):Inv X pins O H {s with heap:=h',toks:=t'}:=I.un (Un.kept k) (I.hok.kept k)
theorem Inv.laid{a:Addr}{o:HO}{t':Nat}(I:Inv X pins O H s)(k:∀b u,s.heap.get? b=some u->h'.get? b=some u)(hp:s.heap.objs.size<=a)(new:X6 X.prog X.w (upd H a o) h' a o):
 Inv X pins O (upd H a o) {s with heap:=h',toks:=t'}:=I.un (Un.laid k hp (I.hok.fresh hp)) (I.hok.laid k hp new)
theorem Inv.write{x e:Addr}{o:HO}{t':Nat}(I:Inv X pins O H s)(mu:Mut (H x))(he:e=x\/H e=some (.own x))(k:∀b u,b≠e->s.heap.get? b=some u->h'.get? b=some u)(heo:∃u,h'.get? e=some u)
 (new:X6 X.prog X.w (upd H x o) h' x o):Inv X pins O (upd H x o) {s with heap:=h',toks:=t'}:=I.un (Un.write mu he k heo) (I.hok.write mu he k heo new)
theorem Inv.pins_of{pins':PNS}(I:Inv X pins O H s)(h:∀p∈pins',s.heap.get? p.1=some p.2/\H p.1=none/\p.1≠X.env.locals/\p.1∉X.fs/\∀v,p.2.data≠ .cell v):Inv X pins' O H s:=
 ⟨I.ok,I.os,I.bare,I.base,I.loc,I.cell,I.free,I.freeC,λp hp=>(jr.mp hp).elim (λz=>I.pin p (Jw _ z)) (h p),I.hok,I.len⟩
theorem cM7{N:List Str}(hN:N.Nodup){i j:Nat}{x:Str}(a:N[i]? =some x)(b:N[j]? =some x):i=j:=by
 obtain⟨h1,e1⟩:=xb.mp a
 obtain⟨h2,e2⟩:=xb.mp b
 exact(YK hN).mp (e1.trans e2.symm)
theorem dD8{M:Model}{A:zF}{E:VSP}{i:Nat}{x:Str}{v:V}{u:zf}{Q:Unit->zh->Prop}(I:Inv X pins O H s)(hN:X.N.Nodup)(hi:X.N[i]? =some x)(hx:Loc X.env.scope x)(r:J9 v u)
 (h:∀s',Inv X pins (O.set i (some v)) H s'->(∃a,jO a s.heap s'.heap/\(a=X.env.locals\/X.env.cells.lookup x=some a))->Q () s') (hf:X.fn x=true\/X.env.scope.names.lookup x=some .local):zp M A (storeName X.env x u) Q E s:=by
 obtain⟨m,hn,hl⟩:=id I.loc
 have hcls:(X.env.scope.kind == .class||(X.env.scope.kind == .module&&X.env.locals != X.env.globals))=false:=by rw[I.ok.kind];rfl
 have hiσ:i<O.length:=by rw[I.len];exact(xb.mp hi).1
 have cne:=I.cne
 have tracked:∀ {a:Addr} {h':Heap},(∃o,s.heap.get? a=some o/\H a=none)->jO a s.heap h'->HOk X.prog X.w H h':=λ{a h'} ha hs b ob e=>by
  obtain⟨_,_,hfree⟩:=ha
  refine(I.hok b ob e).stay (λc w' hc q=>(hs.2 c ?_).trans q) (λ_ q=>q) λ_ _ q=>q
  rintro rfl
  rcases hc with rfl|hc
  ·rw[hfree]at e;cases e
  ·rw[hfree]at hc;cases hc
 rcases hx with hk|hk
 · refine wpAny_storeName_local hk hn (λh' hn' hs=>?_) hcls
   obtain⟨oL,_,_,hoL,_⟩:=id hn
   refine h _ ⟨I.ok,I.os,I.bare,⟨λb o e n hb hx=>?_,λb o e n hb hx=>?_,I.base.free,λb o e hx=>?_,I.base.tups,I.base.frzs,I.base.tbls⟩,⟨_,hn',λj y v' e1 e2 e3=>?_⟩,λy c e=>?_,I.free,I.freeC,λp hp=>?_,tracked ⟨oL,hoL,I.free⟩ hs,by simpa using I.len⟩ ⟨_,hs,.inl rfl⟩
   ·exact(hs.2 b (zA (zQ (zn e) I.ok.above))).trans (I.base.keep b o e n hb hx)
   · obtain⟨sl,e1⟩:=I.base.slot b o e n hb hx
     exact⟨sl,(hs.2 b (zA (zQ (zn e) I.ok.above))).trans e1⟩
   · obtain⟨o',e1⟩:=I.base.there b o e hx
     exact⟨o',(hs.2 b (zA (zQ (zn e) I.ok.above))).trans e1⟩
   · by_cases hj:j=i
     · subst hj
       rw[hi]at e1;cases e1
       rw[jd hiσ]at e2
       cases e2
       exact⟨u,r,.inl ⟨hk,by simp⟩⟩
     · rw[jf (Ne.symm hj)]at e2
       obtain⟨u',r',q⟩:=hl j y v' e1 e2 e3
       refine⟨u',r',?_⟩
       rcases q with⟨k,e⟩|⟨k,c,e,z⟩
       · refine .inl ⟨k,?_⟩
         have:y≠x:=λe=>hj (cM7 hN e1 (e▸hi))
         simp[this,e]
       ·exact .inr ⟨k,c,e,z.sameBut hs (cne y c e)⟩
   · obtain⟨w',z⟩:=I.cell y c e
     exact⟨w',z.sameBut hs (cne y c e)⟩
   · obtain⟨e,n,ne,nf,d⟩:=I.pin p hp
     exact⟨(hs.2 p.1 ne).trans e,n,ne,nf,d⟩
 · have hfn:X.fn x=true:=by
    rcases hf with z|z
    ·exact z
    ·rw[z]at hk;cases hk
   obtain⟨c,hc⟩:=I.ok.has x (.inl hk)
   obtain⟨w',z⟩:=I.cell x c hc
   refine wpAny_storeName_cell I.ok.kind hk hc z (λh' hc' hs=>?_)
   obtain⟨oc,hoc,hocd⟩:=id z
   refine h {s with heap:=h'} ⟨I.ok,I.os,I.bare,⟨λb o e n hb hx=>?_,λb o e n hb hx=>?_,I.base.free,λb o e hx=>?_,I.base.tups,I.base.frzs,I.base.tbls⟩,⟨m,hn.sameBut hs (Ne.symm (cne x c hc)),λj y v' e1 e2 e3=>?_⟩,λy c' e=>?_,I.free,I.freeC,λp hp=>?_,tracked ⟨oc,hoc,I.freeC x c hc⟩ hs,by simpa using I.len⟩ ⟨c,hs,.inr hc⟩
   ·exact(hs.2 b (zA (zQ (zn e) (I.ok.cab x c hfn hc)))).trans (I.base.keep b o e n hb hx)
   · obtain⟨sl,e1⟩:=I.base.slot b o e n hb hx
     exact⟨sl,(hs.2 b (zA (zQ (zn e) (I.ok.cab x c hfn hc)))).trans e1⟩
   · obtain⟨o',e1⟩:=I.base.there b o e hx
     exact⟨o',(hs.2 b (zA (zQ (zn e) (I.ok.cab x c hfn hc)))).trans e1⟩
   · by_cases hj:j=i
     · subst hj
       rw[hi]at e1;cases e1
       rw[jd hiσ]at e2
       cases e2
       exact⟨u,r,.inr ⟨.inl hk,c,hc,hc'⟩⟩
     · rw[jf (Ne.symm hj)]at e2
       obtain⟨u',r',q⟩:=hl j y v' e1 e2 e3
       refine⟨u',r',?_⟩
       rcases q with q|⟨k,c',e,z'⟩
       ·exact .inl q
       · refine .inr ⟨k,c',e,z'.sameBut hs ?_⟩
         rintro rfl
         exact hj (cM7 hN e1 (I.ok.inj _ _ _ e hc▸hi))
   · by_cases hcc:c'=c
     ·subst hcc;exact⟨_,hc'⟩
     · obtain⟨w2,z2⟩:=I.cell y c' e
       exact⟨w2,z2.sameBut hs hcc⟩
   · obtain⟨e,n,ne,nf,d⟩:=I.pin p hp
     refine⟨(hs.2 p.1 ?_).trans e,n,ne,nf,d⟩
     intro q
     rw[q,hoc]at e
     have q':oc=p.2:=jo e
     exact d w' (by rw[<-q'];exact hocd)
theorem dU2{M:Model}{A:zF}{E:VSP}{i:Nat}{x:Str}{v:V}{u:zf}{Q:Unit->zh->Prop}(I:Inv X pins O H s)(hN:X.N.Nodup)(hi:X.N[i]? =some x)(hx:Loc X.env.scope x)(r:J9 v u)
 (h:∀s',Inv X pins (O.set i (some v)) H s'->Q () s') (hf:X.fn x=true\/X.env.scope.names.lookup x=some .local):zp M A (storeName X.env x u) Q E s:=
 dD8 I hN hi hx r (λs' I' _=>h s' I') hf
end
noncomputable abbrev XK:=zf->Option Addr->Hp->Prop
noncomputable abbrev St:=List (Option V)
noncomputable abbrev VK:=V->Hp->Prop
noncomputable abbrev TE:=St->Hp->VK->Prop
noncomputable abbrev TT:=St->Hp->(Bool->Hp->Prop)->Prop
noncomputable abbrev TA:=St->Hp->(List V->Hp->Prop)->Prop
structure bT8 where
 nx:St->Hp->Prop
 rt:VK
 bk:St->Hp->Prop:=λ_ _=>False
 ct:St->Hp->Prop:=λ_ _=>False
noncomputable abbrev TS:=bT8->St->Hp->Prop
def EP(X:Cx)(pins:PNS)(O:St)(Q:VK)(u:zf)(s':zh):Prop:=∃v H',Inv X pins O H' s'/\J9 v u/\Q v H'
noncomputable def TP(X:Cx)(pins:PNS)(O:St)(Q:Bool->Hp->Prop)(b:Bool)(s':zh):Prop:=∃H',Inv X pins O H' s'/\Q b H'
noncomputable def AP(X:Cx)(pins:PNS)(O:St)(Q:List V->Hp->Prop)(us:List zf)(s':zh):Prop:=∃vs H',Inv X pins O H' s'/\J2 vs us/\Q vs H'
theorem EP.elim{X:Cx}{pins:PNS}{O:St}{Q:VK}{u:zf}{s:zh}{P:Prop}(h:EP X pins O Q u s)(k:∀v H,Inv X pins O H s->J9 v u->Q v H->P):P:=by
 obtain⟨a,b,c,d,e⟩:=h
 exact k a b c d e
theorem TP.elim{X:Cx}{pins:PNS}{O:St}{Q:Bool->Hp->Prop}{u:Bool}{s:zh}{P:Prop}(h:TP X pins O Q u s)(k:∀H,Inv X pins O H s->Q u H->P):P:=by
 obtain⟨b,c,e⟩:=h
 exact k b c e
theorem AP.elim{X:Cx}{pins:PNS}{O:St}{Q:List V->Hp->Prop}{u:List zf}{s:zh}{P:Prop}(h:AP X pins O Q u s)(k:∀v H,Inv X pins O H s->J2 v u->Q v H->P):P:=by
 obtain⟨a,b,c,d,e⟩:=h
 exact k a b c d e
def SP(X:Cx)(pins:PNS)(D:bT8)(f:Flow)(s':zh):Prop:=
 match f with
 | .next=>∃ X2 H',Inv X pins X2 H' s'/\D.nx X2 H'
 | .brk=>∃ X2 H',Inv X pins X2 H' s'/\D.bk X2 H'
 | .cont=>∃ X2 H',Inv X pins X2 H' s'/\D.ct X2 H'
 | .ret u=>∃v X2 H',Inv X pins X2 H' s'/\J9 v u/\D.rt v H'
def PE(X:Cx)(e:Expr)(t:TE):Prop:=
 ∀(pins:PNS) (s:zh) (O:St) (H:Hp) (Q:VK),Inv X pins O H s->t O H Q->zp (zD X.prog X.w) X.A (eval e X.env) (EP X pins O Q) X.xe s
def PT(X:Cx)(e:Expr)(t:TT):Prop:=
 ∀(pins:PNS) (s:zh) (O:St) (H:Hp) (Q:Bool->Hp->Prop),Inv X pins O H s->t O H Q->zp (zD X.prog X.w) X.A (isTrue e X.env (eval e X.env)) (TP X pins O Q) X.xe s
def PW(X:Cx)(e:Expr)(t:TT):Prop:=
 ∀(whole:Sem zf) (pins:PNS) (s:zh) (O:St) (H:Hp) (Q:Bool->Hp->Prop),Inv X pins O H s->t O H Q->zp (zD X.prog X.w) X.A (isTrue e X.env whole) (TP X pins O Q) X.xe s
def PA(X:Cx)(es:List Expr)(t:TA):Prop:=
 ∀(pos:Pos) (pins:PNS) (s:zh) (O:St) (H:Hp) (Q:List V->Hp->Prop),Inv X pins O H s->t O H Q->zp (zD X.prog X.w) X.A (spliced (yR pos (zM es X.env))) (AP X pins O Q) X.xe s
def PS(X:Cx)(st:Stmt)(t:TS):Prop:=
 ∀(pins:PNS) (s:zh) (O:St) (H:Hp) (D:bT8),Inv X pins O H s->t D O H->zp (zD X.prog X.w) X.A (exec st X.env) (SP X pins D) X.xe s
def PSs(X:Cx)(st:List Stmt)(t:TS):Prop:=
 ∀(pins:PNS) (s:zh) (O:St) (H:Hp) (D:bT8),Inv X pins O H s->t D O H->zp (zD X.prog X.w) X.A (execs st X.env) (SP X pins D) X.xe s
theorem thn{α:Type}{t:Sem α}{Q Q':α->zh->Prop}{M:Model}{A:zF}{E:VSP}{s:zh}(h:zp M A t Q E s)(hQ:∀a s,Q a s->Q' a s):zp M A t Q' E s:=jG h hQ λ_ _ x=>x
section
variable{X:Cx}
noncomputable def fA6(i:Nat):TE:=λO H Q=>∃v,O[i]? =some (some v)/\Q v H
noncomputable def tC(v:V):TE:=λ_ H Q=>Q v H
theorem eR4{i:Nat}{x:Str}{pos:Pos}(hN:X.N[i]? =some x)(hv:Vis X.env.scope x)(hd:(x==("__debug__" :Str))=false)(hcd:(x==("__classdict__" :Str))=false):PE X (.Name x pos) (fA6 i):=by
 intro pins s O H Q I h
 obtain⟨v,e,h⟩:=h
 obtain⟨m,hn,hl⟩:=I.loc
 obtain⟨u,r,l⟩:=hl i x v hN e hv
 have fin:EP X pins O Q u s:=⟨v,H,I,r,h⟩
 rcases l with⟨hk,hm⟩|⟨hk,c,hc,hcell⟩
 ·exact wpAny_Name (wpAny_loadName_local I.ok.kind hk hn hm fin) hd
 · rcases hk with hk|hk
   ·exact wpAny_Name (wpAny_loadName_cell I.ok.kind hk hc hcell fin) hd
   ·exact wpAny_Name (wpAny_loadName_free I.ok.kind hk hc hcell fin hcd) hd
theorem dM2{i j pos}:PE X (.Constant (.int i) j pos) (tC (.int i)):=λ_ _ _ H _ I h=>wpAny_Constant_int ⟨.int i,H,I.tok _,⟨_,rfl⟩,h⟩
theorem fC1{b j pos}:PE X (.Constant (.bool b) j pos) (tC (.bl b)):=λ_ _ _ H _ I h=>Constant_bool ⟨.bl b,H,I,rfl,h⟩
theorem eT5{j pos}:PE X (.Constant .none j pos) (tC .non):=λ_ _ _ H _ I h=>Constant_none ⟨.non,H,I,rfl,h⟩
theorem eJ2{x j pos}:PE X (.Constant (.str x) j pos) (tC (.str x)):=λ_ _ _ H _ I h=>Calls.Constant_str ⟨.str x,H,I.tok _,⟨_,rfl⟩,h⟩
noncomputable def Gl(X:Cx)(x:Str):Prop:=X.env.kindOf x=some .globalImplicit
theorem cW9{E:VSP}{pins:PNS}{s:zh}{O:St}{H:Hp}{x:Str}{u:zf}{pos:Pos}{Q:VSP}(I:Inv X pins O H s)(hg:Gl X x)(hm:X.mg x=some u)(h:Q u s)
 (hd:(x==("__debug__" :Str))=false):zp (zD X.prog X.w) X.A (eval (.Name x pos) X.env) Q E s:=
 Xe I.ok.kind hg (Calls.loadGlobal_global (by rw[I.ok.glob];exact I.mod.glob.keeps I.bk) hm h) hd
theorem aO4{E:VSP}{pins:PNS}{s:zh}{O:St}{H:Hp}{x:Str}{u:zf}{pos:Pos}{Q:VSP}(I:Inv X pins O H s)(hg:Gl X x)(hm:X.mg x=none)(hv:zO x=some u)(h:Q u s)
 (hn:x≠ "__name__":=by decide) (hd:(x==("__debug__" :Str))=false:=by decide):zp (zD X.prog X.w) X.A (eval (.Name x pos) X.env) Q E s:=by
 obtain⟨mb,h1,h2⟩:=I.mod.blt
 exact Xe I.ok.kind hg (Calls.loadGlobal_builtin (by rw[I.ok.glob];exact I.mod.glob.keeps I.bk) hm (by rw[I.ok.blt];exact h1.keeps I.bk) ((h2 x hn).trans hv) h) hd
theorem dV5{x:Str}{v:V}{u:zf}{pos:Pos}(hg:Gl X x)(hm:X.mg x=none)(hv:zO x=some u)(r:J9 v u)(hn:x≠ "__name__")(hd:(x==("__debug__" :Str))=false):PE X (.Name x pos) (tC v):=
 λ_ _ _ H _ I h=>aO4 I hg hm hv ⟨v,H,I,r,h⟩ hn hd
variable{a b:Expr}{ta tb:TE}{pos:Pos}
variable{tA tB':TT}{rest:List Expr}
noncomputable def fI8(t u:TT):TT:=λO H Q=>t O H λc H1=>if c=true then u O H1 Q else Q false H1
noncomputable def tOr(t u:TT):TT:=λO H Q=>t O H λc H1=>if c=true then Q true H1 else u O H1 Q
noncomputable def fH4(t:TT):TT:=λO H Q=>t O H λc H1=>Q (!c) H1
theorem eB1(ha:PT X a tA):PW X (.BoolOp .And [a] pos) tA:=by
 intro wh pins s O H Q I h
 refine isTrue_and (thn (ha pins s O H Q I h) λc s1 e=>?_)
 cases c with
 |true=>exact isTrue_and_nil e
 |false=>exact e
theorem eO8(ha:PT X a tA):PW X (.BoolOp .Or [a] pos) tA:=by
 intro wh pins s O H Q I h
 refine isTrue_or (thn (ha pins s O H Q I h) λc s1 e=>?_)
 cases c with
 |false=>exact isTrue_or_nil e
 |true=>exact e
theorem eK6(ha:PT X a tA)(hb:PW X (.BoolOp .And (b::rest) pos) tB'):PW X (.BoolOp .And (a::b::rest) pos) (fI8 tA tB'):=by
 intro wh pins s O H Q I h
 refine isTrue_and (thn (ha pins s O H _ I h) λc s1 hE1=>hE1.elim λH1 I1 q1=>?_)
 cases c with
 |true=>exact hb wh pins s1 O H1 Q I1 q1
 |false=>exact⟨H1,I1,q1⟩
theorem eW9(ha:PT X a tA)(hb:PW X (.BoolOp .Or (b::rest) pos) tB'):PW X (.BoolOp .Or (a::b::rest) pos) (tOr tA tB'):=by
 intro wh pins s O H Q I h
 refine isTrue_or (thn (ha pins s O H _ I h) λc s1 hE1=>hE1.elim λH1 I1 q1=>?_)
 cases c with
 |true=>exact⟨H1,I1,q1⟩
 |false=>exact hb wh pins s1 O H1 Q I1 q1
theorem eQ6(ha:PT X a tA):PT X (.UnaryOp .Not a pos) (fH4 tA):=by
 intro pins s O H Q I h
 exact isTrue_not (ha pins s O H (λc H1=>Q (!c) H1) I h)
noncomputable def fB0(ta:TE):TE:=λO H Q=>ta O H λx H1=>∃c,x= .bl c/\Q (.bl (!c)) H1
theorem eH2{op}{t:TE}(h:PE X a t):PE X (.BoolOp op [a] pos) t:=λpins s O H Q I hw=>BoolOp_one (h pins s O H Q I hw)
theorem eN5(ha:PE X a ta):PE X (.UnaryOp .Not a pos) (fB0 ta):=by
 intro pins s O H Q I h
 refine UnaryOp_ (thn (ha pins s O H _ I h) λv s1 hE1=>hE1.elim λx H1 I1 r1 q1=>?_)
 obtain⟨c,rfl,q1⟩:=q1
 cases r1
 exact not_of (xz ⟨.bl (!c),H1,I1,rfl,q1⟩)
noncomputable def tIf(t:TT)(ta tb:TE):TE:=λO H Q=>t O H λc H1=>if c=true then ta O H1 Q else tb O H1 Q
theorem dQ3{c:Expr}(hc:PT X c tA)(ha:PE X a ta)(hb:PE X b tb):PE X (.IfExp c a b pos) (tIf tA ta tb):=by
 intro pins s O H Q I h
 refine wpAny_IfExp (thn (hc pins s O H _ I h) λd s1 hE1=>hE1.elim λH1 I1 q1=>?_)
 cases d with
 |true=>exact ha pins s1 O H1 Q I1 q1
 |false=>exact hb pins s1 O H1 Q I1 q1
end
def SqL(K:zj)(H:Hp)(a:Addr)(xs:List V):Prop:=
 Rd H a (.lst xs)\/
  ∃(o:Obj) (its:Array zf) (n:Nat),K.lookup a=some o/\o.cls= .type "list"/\o.dict=none/\o.data= .seq its n/\its.size<=zk/\J2 xs its.toList
def SqT(K:zj)(H:Hp)(a:Addr)(xs:List V):Prop:=
 Rd H a (.tup xs)\/
  ∃(o:Obj) (its:Array zf) (n:Nat),K.lookup a=some o/\o.cls= .type "tuple"/\(o.data,o.dict)= (Data.seq its n,none)/\its.size<=zk/\J2 xs its.toList
noncomputable def fE9:zf->Option V
 | .none=>some .non
 | .bool b=>some (.bl b)
 | .int i _=>some (.int i)
 | .str x _=>some (.str x)
 | .bytes b _=>some (.byt b)
 | .float b _=>some (.flt b)
 | .ref a=>some (.ref a)
 | .type n=>some (.ty n)
 |_=>none
theorem J9.abs{x:V}{u:zf}(r:J9 x u):fE9 u=some x:=by
 cases x with
 |non=>cases r;rfl
 |bl _=>cases r;rfl
 |int _=>obtain⟨t,rfl⟩:=r;rfl
 |str _=>obtain⟨t,rfl⟩:=r;rfl
 |byt _=>obtain⟨t,rfl⟩:=r;rfl
 |flt _=>obtain⟨t,rfl⟩:=r;rfl
 |ref _=>cases r;rfl
 |ty _=>cases r;rfl
theorem J9.inj{x y:V}{u:zf}(r:J9 x u)(q:J9 y u):x=y:=jo (r.abs.symm.trans q.abs)
theorem J2.inj{xs ys:List V}{us:List zf}(h:J2 xs us)(k:J2 ys us):xs=ys:=by
 induction h generalizing ys with
 |nil=>cases k;rfl
 |cons r t ih=>cases k with
   |cons r' t'=>rw[r.inj r',ih t']
section
variable{X:Cx}{pins:PNS}{O:St}{H:Hp}{s:zh}{a:Addr}{xs ys:List V}
theorem SqL.of{K:zj}(h:H a=some (.lst xs)):SqL K H a xs:=.inl (.inl h)
theorem SqT.of{K:zj}(h:H a=some (.tup xs)):SqT K H a xs:=.inl (.inl h)
theorem Inv.list(I:Inv X pins O H s)(h:SqL X.K H a xs):∃its:List zf,J2 xs its/\PlainL s.heap a its.toArray/\xs.length<=zk:=by
 rcases h with h|⟨o,its,n,hk,hc,hd,hs,hz,r⟩
 · obtain⟨z,its,n,r,e⟩:=h.ok I.hok
   exact⟨its,r,⟨_,n,e,rfl,rfl,rfl⟩,z⟩
 · refine⟨its.toList,r,⟨o,n,I.kIn a o hk,hc,hd,by simpa using hs⟩,?_⟩
   have e:=r.length
   simp only[jl]at e
   lia
theorem Inv.tuple(I:Inv X pins O H s)(h:SqT X.K H a xs):∃its:List zf,J2 xs its/\ZU s.heap a its.toArray/\xs.length<=zk:=by
 rcases h with h|⟨o,its,n,hk,hc,hs,hz,r⟩
 · obtain⟨z,its,r,p⟩:=h.ok I.hok
   exact⟨its,r,aE9.tup p,z⟩
 · refine⟨its.toList,r,⟨o,I.kIn a o hk,hc,n,by simpa using (xw hs).1⟩,?_⟩
   have e:=r.length
   simp only[jl]at e
   lia
theorem Inv.tupleN(I:Inv X pins O H s)(h:SqT X.K H a xs):∃its:List zf,J2 xs its/\aE9 s.heap a its.toArray/\xs.length<=zk:=by
 rcases h with h|⟨o,its,n,hk,hc,hs,hz,r⟩
 · obtain⟨z,its,r,p⟩:=h.ok I.hok
   exact⟨its,r,p,z⟩
 · refine⟨its.toList,r,⟨o,I.kIn a o hk,hc,n,by simpa using hs⟩,?_⟩
   have e:=r.length
   simp only[jl]at e
   lia
theorem Inv.list_inj(I:Inv X pins O H s)(h:SqL X.K H a xs)(h':SqL X.K H a ys):xs=ys:=by
 obtain⟨its,r,⟨o,n,e,_,_,d⟩,_⟩:=I.list h
 obtain⟨its',r',⟨o',n',e',_,_,d'⟩,_⟩:=I.list h'
 rw[e]at e';cases e'
 rw[d]at d'
 injection d' with d1 _
 have:its=its':=by simpa using congrArg Array.toList d1
 subst this
 exact r.inj r'
theorem Inv.tuple_inj(I:Inv X pins O H s)(h:SqT X.K H a xs)(h':SqT X.K H a ys):xs=ys:=by
 obtain⟨its,r,⟨o,e,_,n,d⟩,_⟩:=I.tuple h
 obtain⟨its',r',⟨o',e',_,n',d'⟩,_⟩:=I.tuple h'
 rw[e]at e';cases e'
 rw[d]at d'
 injection d' with d1 _
 have:its=its':=by simpa using congrArg Array.toList d1
 subst this
 exact r.inj r'
end
noncomputable abbrev Cx.wish(X:Cx)(E:VSP):Cx:={X with xe:=E}
noncomputable abbrev Cx.nox(X:Cx):Cx:=X.wish λ_ _=>False
theorem Cx.Ok.wish{X:Cx}(ok:X.Ok)(E:VSP):(X.wish E).Ok:=
 ⟨ok.mod,ok.kind,ok.glob,ok.blt,ok.above,ok.inj,ok.has,ok.cab,ok.hd,ok.frames,ok.stk,ok.exf,ok.bs,ok.bsz,ok.noex,ok.exfs,ok.funs,ok.frf,ok.gd⟩
theorem Cx.Ok.unwish{X:Cx}{E:VSP}(ok:(X.wish E).Ok):X.Ok:=
 ⟨ok.mod,ok.kind,ok.glob,ok.blt,ok.above,ok.inj,ok.has,ok.cab,ok.hd,ok.frames,ok.stk,ok.exf,ok.bs,ok.bsz,ok.noex,ok.exfs,ok.funs,ok.frf,ok.gd⟩
section
variable{X:Cx}{pins:PNS}{O:St}{H:Hp}{s:zh}{E:VSP}
theorem Inv.wish(I:Inv X pins O H s)(E:VSP):Inv (X.wish E) pins O H s:=⟨I.ok.wish E,I.os,I.bare,I.base,I.loc,I.cell,I.free,I.freeC,I.pin,I.hok,I.len⟩
theorem Inv.unwish(I:Inv (X.wish E) pins O H s):Inv X pins O H s:=⟨I.ok.unwish,I.os,I.bare,I.base,I.loc,I.cell,I.free,I.freeC,I.pin,I.hok,I.len⟩
theorem SP.unwish{D:bT8}{f:Flow}{s':zh}(h:SP (X.wish E) pins D f s'):SP X pins D f s':=by
 cases f with
 |next=>obtain⟨X2,H',I,q⟩:=h;exact⟨X2,H',I.unwish,q⟩
 |brk=>obtain⟨X2,H',I,q⟩:=h;exact⟨X2,H',I.unwish,q⟩
 |cont=>obtain⟨X2,H',I,q⟩:=h;exact⟨X2,H',I.unwish,q⟩
 |ret u=>obtain⟨v,X2,H',I,r,q⟩:=h;exact⟨v,X2,H',I.unwish,r,q⟩
theorem PE.nox{e:Expr}{t:TE}(h:PE X.nox e t):PE X e t:=λpins s O H Q I hw=>
 jG (h pins s O H Q (I.wish _) hw) (λ_ _ ⟨v,H',I',r,q⟩=>⟨v,H',I'.unwish,r,q⟩) λ_ _ z=>yj z
theorem PT.nox{e:Expr}{t:TT}(h:PT X.nox e t):PT X e t:=λpins s O H Q I hw=>
 jG (h pins s O H Q (I.wish _) hw) (λ_ _ ⟨H',I',q⟩=>⟨H',I'.unwish,q⟩) λ_ _ z=>yj z
theorem PSs.nox{st:List Stmt}{t:TS}(h:PSs X.nox st t):PSs X st t:=λpins s O H D I hw=>
 jG (h pins s O H D (I.wish _) hw) (λ_ _ q=>q.unwish) λ_ _ z=>yj z
end
section
variable{X:Cx}{st:Stmt}{rest:List Stmt}{t u:TS}{e:Expr}{te:TE}{pos:Pos}
noncomputable def fD9:TS:=λD O H=>D.nx O H
noncomputable def fG4(t u:TS):TS:=λD O H=>t {D with nx:=u D} O H
theorem dY0:PSs X [] fD9:=λ_ _ O H _ I h=>ZT ⟨O,H,I,h⟩
theorem dP9(h1:PS X st t)(h2:PSs X rest u):PSs X (st::rest) (fG4 t u):=by
 intro pins s O H D I h
 refine wpAny_execs_cons (thn (h1 pins s O H {D with nx:=u D} I h) λf s1 q=>?_)
 cases f with
 |next=>
   obtain⟨X2,H',I',q⟩:=q
   exact h2 pins s1 X2 H' D I' q
 |ret v=>exact q
 |brk=>exact q
 |cont=>exact q
theorem dW8(h1:PS X st t):PSs X [st] t:=by
 intro pins s O H D I h
 refine wpAny_execs_cons (thn (h1 pins s O H D I h) λf s1 q=>?_)
 cases f with
 |next=>exact ZT q
 |ret v=>exact q
 |brk=>exact q
 |cont=>exact q
theorem Inv.quiet{pins:PNS}{O:St}{H:Hp}{s:zh}(I:Inv X pins O H s):interactive X.env=false:=by simp[interactive,I.ok.kind]
noncomputable def eZ5(te:TE):TS:=λD O H=>te O H λ_ H1=>D.nx O H1
theorem dX8(he:PE X e te)(hs:JK e none pos.line X.env=pure false):PS X (.Expr e pos) (eZ5 te):=by
 intro pins s O H D I h
 exact wpAny_Expr_any (thn (he pins s O H _ I h) λv s1 hE1=>hE1.elim λx H1 I1 r1 q1=>⟨O,H1,I1,q1⟩) I.quiet hs
noncomputable def fF9(te:TE):TS:=λD O H=>te O H D.rt
theorem eK3(he:PE X e te):PS X (.Return (some e) pos) (fF9 te):=by
 intro pins s O H D I h
 exact wpAny_Return_some (thn (he pins s O H _ I h) λv s1 hE1=>hE1.elim λx H1 I1 r1 q1=>⟨x,O,H1,I1,r1,q1⟩)
noncomputable def fF6(c:TT)(t u:TS):TS:=λD O H=>c O H λb H1=>if b=true then t D O H1 else u D O H1
theorem eV2{c:Expr}{a b:List Stmt}{tc:TT}(hc:PT X c tc)(ha:PSs X a t)(hb:PSs X b u):PS X (.If c a b pos) (fF6 tc t u):=by
 intro pins s O H D I h
 refine wpAny_If (thn (hc pins s O H _ I h) λd s1 hE1=>hE1.elim λH1 I1 q1=>?_)
 cases d with
 |true=>exact ha pins s1 O H1 D I1 q1
 |false=>exact hb pins s1 O H1 D I1 q1
end
noncomputable abbrev TG:=V->St->Hp->(St->Hp->Prop)->Prop
noncomputable abbrev TGs:=List V->St->Hp->(St->Hp->Prop)->Prop
def PG(X:Cx)(target:Expr)(t:TG):Prop:=
 ∀(pins:PNS) (s:zh) (O:St) (H:Hp) (v:V) (u:zf) (Q:St->Hp->Prop),Inv X pins O H s->J9 v u->t v O H Q->
  zp (zD X.prog X.w) X.A (ZB target X.env u) (λ_ s'=>∃ X2 H',Inv X pins X2 H' s'/\Q X2 H') X.xe s
noncomputable def PGs(X:Cx)(ts:List Expr)(t:TGs):Prop:=
 ∀(pins:PNS) (s:zh) (O:St) (H:Hp) (vs:List V) (us:List zf) (Q:St->Hp->Prop),Inv X pins O H s->J2 vs us->t vs O H Q->
  zp (zD X.prog X.w) X.A (assignInOrder ((yS ts X.env).map (·.2)) us) (λ_ s'=>∃ X2 H',Inv X pins X2 H' s'/\Q X2 H') X.xe s
noncomputable abbrev TSet:=V->V->V->Hp->(Hp->Prop)->Prop
def eI2(X:Cx)(t:TSet):Prop:=
 ∀(pins:PNS) (s:zh) (O:St) (H:Hp) (o i v:V) (ov iv u:zf) (Q:Hp->Prop),Inv X pins O H s->J9 o ov->J9 i iv->J9 v u->t o i v H Q->
  zp (zD X.prog X.w) X.A (setItem ov iv u) (λ_ s'=>∃H',Inv X pins O H' s'/\Q H') X.xe s
section
variable{X:Cx}{pos:Pos}
noncomputable def eZ7(i:Nat):TG:=λv O H Q=>Q (O.set i (some v)) H
theorem dV8{i:Nat}{x:Str}(hN:X.N.Nodup)(hi:X.N[i]? =some x)(hx:Loc X.env.scope x)(hf:X.fn x=true\/X.env.scope.names.lookup x=some .local):PG X (.Name x pos) (eZ7 i):=by
 intro pins s O H v u Q I r h
 exact wpAny_assign_Name (dU2 I hN hi hx r (λs' I'=>⟨_,H,I',h⟩) hf)
noncomputable def fI1:TGs:=λvs O H Q=>vs= []/\Q O H
noncomputable def eX7(t:TG)(u:TGs):TGs:=λvs O H Q=>∃v r,vs=v::r/\t v O H λX2 H'=>u r X2 H' Q
theorem dZ9:PGs X [] fI1:=by
 intro pins s O H vs us Q I r h
 obtain⟨e,h⟩:=h
 subst e
 cases r
 exact assignInOrder_nil ⟨O,H,I,h⟩
theorem dT3{e:Expr}{es:List Expr}{t:TG}{u:TGs}(h1:PG X e t)(h2:PGs X es u)
 (hs:(yS (e::es) X.env).map (·.2)=ZB e X.env::(yS es X.env).map (·.2)):PGs X (e::es) (eX7 t u):=by
 intro pins s O H vs us Q I r h
 obtain⟨v,vr,e1,h⟩:=h
 subst e1
 cases r with
 |cons r rr=>
   rw[hs]
   refine assignInOrder_cons (thn (h1 pins s O H _ _ _ I r h) λ_ s1 ⟨WZ,H1,I1,q1⟩=>?_)
   exact h2 pins s1 WZ H1 _ _ Q I1 rr q1
def fE8(K:zj)(n:Nat)(t:TGs):TG:=λv O H Q=>∃a xs,v= .ref a/\SqT K H a xs/\xs.length=n/\t xs O H Q
theorem eI3{es:List Expr}{k:Nat}{t:TGs}{n:Nat}(hc:X.calm=true)(h:PGs X es t)
 (hn:(yS es X.env).length=n) (hst:(yS es X.env).findIdx? (·.1)=none):PG X (.Tuple es k pos) (fE8 X.K n t):=by
 intro pins s O H v u Q I r hw
 obtain⟨a,xs,e1,hq,hl,hw⟩:=hw
 subst e1
 cases r
 obtain⟨its,rv,ht,hz⟩:=I.tuple hq
 refine assign_Tuple_tuple (I.ok.hd hc) ht (by simp[hn,<-hl,rv.length]) hst λh' hx=>?_
 have I1:Inv X pins O H {s with heap:=h'}:=I.kept (t':=s.toks) λb o e=>hx b o (zA (zn e)) e
 exact h pins _ O H xs _ Q I1 (by simpa using rv) hw
noncomputable def fH0(to ti:TE)(t:TSet):TG:=λv O H Q=>to O H λo H1=>ti O H1 λi H2=>t o i v H2 λH3=>Q O H3
theorem eL6{o i:Expr}{to ti:TE}{t:TSet}(ho:PE X o to)(hi:PE X i ti)(hs:eI2 X t)
 (ha:∀v,ZB (.Subscript o i pos) X.env v= (do
   let ov <-ZP [v] (eval o X.env)
   let iv <-ZP [v,ov] (eval i X.env)
   standAt pos
   ZP [v,ov,iv] (setItem ov iv v)
   release [v,ov,iv] [])):PG X (.Subscript o i pos) (fH0 to ti t):=by
 intro pins s O H v u Q I r h
 rw[ha]
 refine za (jz (thn (ho pins s O H _ I h) λov s1 ⟨x,H1,I1,r1,q1⟩=>?_))
 refine za (jz (thn (hi pins s1 O H1 _ I1 q1) λiv s2 ⟨y,H2,I2,r2,q2⟩=>?_))
 refine za (Jz (za (jz (thn (hs pins s2 O H2 x y v ov iv u _ I2 r1 r2 r q2) λ_ s3 ⟨H3,I3,q3⟩=>?_))))
 exact wpAny_release ⟨O,H3,I3,q3⟩
noncomputable def fI3(te:TE)(g:TG):TS:=λD O H=>te O H λx H1=>g x O H1 D.nx
theorem eH9{tg e:Expr}{te:TE}{g:TG}(he:PE X e te)(hg:PG X tg g)(hs:swapsWithSole [tg] e pos.line X.env=pure false)(hw:swappedStores [tg] e X.env=pure none)
 (h1:(yS [tg] X.env).map (·.2)= [ZB tg X.env]):PS X (.Assign [tg] e pos) (fI3 te g):=by
 intro pins s O H D I h
 refine wpAny_Assign_stores (thn (he pins s O H _ I h) λv s1 hE1=>hE1.elim λx H1 I1 r1 q1=>?_) hs hw
 rw[h1]
 exact thn (hg pins s1 O H1 x v _ I1 r1 q1) λ_ s2 q=>q
end
section
variable{X:Cx}{pos:Pos}
noncomputable def eN8(c:TT)(tb:TS):TS:=λD O H=>∃W:Nat->St->Hp->Prop,(∃m,W m O H)/\∀m O H,W m O H->
 c O H λb H1=>if b=true then ∃N:St->Hp->Prop,(∀ X2 H',N X2 H'->∃m',m'<m/\W m' X2 H')/\tb {D with nx:=N,ct:=N,bk:=D.nx} O H1 else D.nx O H1
theorem dO9{c:Expr}{body:List Stmt}{tc:TT}{tb:TS}(hp:JQ (zD X.prog X.w) X.A X.env X.xe)(hc:PT X c tc)(hb:PSs X body tb):PS X (.While c body [] pos) (eN8 tc tb):=by
 intro pins s O H D I h
 obtain⟨W,⟨m0,w0⟩,turn⟩:=h
 refine wpAny_While (codeAny_whileLoop (λn s'=>∃ X2 H',Inv X pins X2 H' s'/\W n X2 H') ?_ m0 ⟨O,H,I,w0⟩)
 rintro n s1 ⟨WZ,H1,I1,w1⟩
 refine wpAny_passesOwn hp (thn (hc pins s1 WZ H1 _ I1 (turn n WZ H1 w1)) λb s2 hE1=>hE1.elim λH2 I2 q2=>?_)
 cases b with
 |true=>
   obtain⟨N,hN,q2⟩:=q2
   rw[if_pos rfl]
   refine wpAny_passesOwn hp (thn (hb pins s2 WZ H2 _ I2 q2) λf s3 q3=>?_)
   cases f with
   |next=>
     obtain⟨WK,H3,I3,n3⟩:=q3
     obtain⟨m',hm,w3⟩:=hN WK H3 n3
     exact⟨m',hm,WK,H3,I3,w3⟩
   |cont=>
     obtain⟨WK,H3,I3,n3⟩:=q3
     obtain⟨m',hm,w3⟩:=hN WK H3 n3
     exact⟨m',hm,WK,H3,I3,w3⟩
   |brk=>exact q3
   |ret v=>exact q3
 |false=>
   rw[if_neg zX]
   exact ZT ⟨WZ,H2,I2,q2⟩
end
structure It where
 go:Nat->Hp->Prop
 yld:Nat->Hp->V->Hp->Prop
 stop:Nat->Hp->Prop
noncomputable def aU3(X:Cx)(pins:PNS)(H:Hp)(b:Addr):Prop:=
 H b=none/\b≠X.env.locals/\b∉X.fs/\(b∈X.ex\/X.WX.heap.objs.size<=b)/\(∀x c,X.env.cells.lookup x=some c->c≠b)/\∀p∈X.pn++pins,p.1≠b
theorem Inv.fpOk{X:Cx}{pins:PNS}{O:St}{H H':Hp}{s:zh}{b:Addr}(I:Inv X pins O H s)(hb:s.heap.objs.size<=b)(hn:H' b=none):aU3 X pins H' b:=by
 refine⟨hn,yb (zQ I.lt hb),I.nofs hb,.inr (zI I.sz hb),λx c e z=>?_,λp hp z=>?_⟩
 · obtain⟨v,q⟩:=I.cell x c e
   exact absurd (zQ q.lt (by rw[z];exact hb)) (yO _)
 ·exact absurd (zQ (zn (I.pin p hp).1) (by rw[z];exact hb)) (yO _)
inductive TIt(X:Cx)(pins:PNS)(O:St)(J:It)(fp:List Addr)(tn:Nat->Heap->Prop)(i:Nat)(H:Hp)(u:zf)(s2:zh):Prop
 |mk (x:V) (H':Hp) (I:Inv X pins O H' s2) (r:J9 x u) (y:J.yld i H x H') (st:tn (i+1) s2.heap) (fr:∀b∈fp,H' b=none)
structure bQ5(P:zB)(w:zJ)(K:zj)(tg:Expr)(J:It)(fp:List Addr)(it:Addr)(tn:Nat->Heap->Prop):Prop where
 mem:it∈fp
 obj:∀i h,tn i h->∀b∈fp,∃o,h.get? b=some o/\∀v,o.data≠ .cell v
 keep:∀i h h',tn i h->(∀b∈fp,∀o,h.get? b=some o->h'.get? b=some o)->tn i h'
 item:∀(X:Cx),X.prog=P->X.w=w->X.K=K->X.calm=true->∀(i:Nat) (pins:PNS) (s:zh) (O:St) (H:Hp) (E:VSP),Inv X pins O H s->(∀b∈fp,aU3 X pins H b)->tn i s.heap->J.go i H->
  zp (zD P w) X.A (yC (.ref it)) (λr s1=>∃u,r=some u/\
   zp (zD P w) X.A (xq tg (.ref it) u) (λ_ s2=>TIt X pins O J fp tn i H u s2) E s1) E s
 done:∀(X:Cx),X.prog=P->X.w=w->X.K=K->X.calm=true->∀(i:Nat) (pins:PNS) (s:zh) (O:St) (H:Hp) (E:VSP),Inv X pins O H s->(∀b∈fp,aU3 X pins H b)->tn i s.heap->J.stop i H->
  zp (zD P w) X.A (yC (.ref it)) (λr s1=>r=none/\Inv X pins O H s1) E s
 self:∀(A:zF) (i:Nat) (s:zh) (Q:VSP) (E:VSP),tn i s.heap->Q (.ref it) s->zp (zD P w) A (YQ (.ref it)) Q E s
noncomputable abbrev TI:=St->Hp->(It->Hp->Prop)->Prop
inductive PIE(X:Cx)(pins:PNS)(O:St)(tg:Expr)(R:It->Hp->Prop)(itv:zf)(s2:zh):Prop
 |mk (it:Addr) (fp:List Addr) (tn:Nat->Heap->Prop) (J:It) (H':Hp) (e:itv= .ref it) (I:Inv X pins O H' s2) (T:bQ5 X.prog X.w X.K tg J fp it tn) (st:tn 0 s2.heap) (f:∀b∈fp,aU3 X pins H' b) (r:R J H')
noncomputable def PI(X:Cx)(tg iter:Expr)(wi:TI):Prop:=
 ∀(pins:PNS) (s:zh) (O:St) (H:Hp) (R:It->Hp->Prop),Inv X pins O H s->wi O H R->
  zp (zD X.prog X.w) X.A (eval iter X.env) (λv s1=>zp (zD X.prog X.w) X.A (YQ v) (PIE X pins O tg R) X.xe s1) X.xe s
theorem bY0{M:Model}{A:zF}{E:VSP}{s:zh}{tg:Expr}{it:Addr}{u:zf}{o:Obj}{n:String}{vs:Array zf}{Q:Unit->zh->Prop}(ho:s.heap.get? it=some o)(hc:o.cls= .type n)(hd:o.data= .fields vs)
 (hn: ["enumerate", "zip", "dict_itemiterator", "dict_reverseitemiterator", "odict_iterator", "itertools.zip_longest", "itertools.pairwise"].contains n=false) (hQ:Q () s):zp M A (xq tg (.ref it) u) Q E s:=by
 unfold xq
 cases tg<;>first
  |exact zi hQ
  | (cases u <;> first
      |exact zi hQ
      | (refine za (wpAny_load ho ?_)
         rw[hc,hd]
         show zp M A (if (["enumerate", "zip", "dict_itemiterator", "dict_reverseitemiterator", "odict_iterator", "itertools.zip_longest", "itertools.pairwise"].contains n&&vs[0]? == some (ym _))=true then _ else _) Q E s
         rw[if_neg (by intro h;rw[hn,Bool.false_and]at h;cases h)]
         exact zi hQ))
def Itl(K:zj)(a:Addr):It:=
 ⟨λi H=>∃xs x,SqL K H a xs/\xs[i]? =some x,λi H x H'=>H'=H/\∀xs,SqL K H a xs->xs[i]? =some x,λi H=>∃xs,SqL K H a xs/\xs.length<=i⟩
def Itt(K:zj)(a:Addr):It:=
 ⟨λi H=>∃xs x,SqT K H a xs/\xs[i]? =some x,λi H x H'=>H'=H/\∀xs,SqT K H a xs->xs[i]? =some x,λi H=>∃xs,SqT K H a xs/\xs.length<=i⟩
noncomputable def Itr(lo:Int)(n:Nat):It:=⟨λi _=>i<n,λi H x H'=>H'=H/\x= .int (lo+i),λi _=>n<=i⟩
theorem dD5{P:zB}{w:zJ}{K:zj}{tg:Expr}(a it:Addr):bQ5 P w K tg (Itl K a) [it] it (λi h=>h.IsListIter it a i) where
 mem:=by simp
 obj:=λi h st b hb=>by
  have e:b=it:=by simpa using hb
  subst e
  obtain⟨o,e,c,d⟩:=st
  exact⟨o,e,λv z=>by rw[d]at z;cases z⟩
 keep:=λi h h' st k=>st.at λo e=>k it (by simp) o e
 item:=by
  intro X hP hw hK hc i pins s O H E I hf st hg
  subst hP hw hK
  obtain⟨xs,x,hq,hx⟩:=hg
  obtain⟨its,rv,p,hz⟩:=I.list hq
  obtain⟨u,hu,ru⟩:=rv.get hx
  obtain⟨f0,f1,f2,f3,f4,f5⟩:=hf it (by simp)
  refine wpAny_pyNext_list_item st p.isList (x:=u) (by simpa using hu) λh' st' sb=>?_
  have I1:Inv X pins O H {s with heap:=h'}:=I.turned (t':=s.toks) (λb o hb e=>(sb.2 b hb).trans e) f0 f1 f3 f4 f5
  obtain⟨o,e,c,d⟩:=id st'
  exact⟨u,rfl,bY0 (s:={s with heap:=h'}) e c d (by decide) ⟨x,H,I1,ru,⟨rfl,λys hy=>by rw[I.list_inj hy hq];exact hx⟩,st',λb hb=>(hf b hb).1⟩⟩
 done:=by
  intro X hP hw hK hc i pins s O H E I hf st hg
  subst hP hw hK
  obtain⟨xs,hq,hx⟩:=hg
  obtain⟨its,rv,p,hz⟩:=I.list hq
  obtain⟨f0,f1,f2,f3,f4,f5⟩:=hf it (by simp)
  have hl:=rv.length
  exact wpAny_pyNext_list_end (I.ok.hd hc) st p.isList (by simp;lia) λh' eb=>⟨rfl,I.turned (t':=s.toks) (λb o hb e=>eb b o hb e) f0 f1 f3 f4 f5⟩
 self:=λ_ _ _ _ _ st h=>wpAny_pyIter_listiter st h
theorem cT5{P:zB}{w:zJ}{K:zj}{tg:Expr}(a it:Addr):bQ5 P w K tg (Itt K a) [it] it (λi h=>h.IsTupleIter it a i) where
 mem:=by simp
 obj:=λi h st b hb=>by
  have e:b=it:=by simpa using hb
  subst e
  obtain⟨o,e,c,d⟩:=st
  exact⟨o,e,λv z=>by rw[d]at z;cases z⟩
 keep:=λi h h' st k=>st.at λo e=>k it (by simp) o e
 item:=by
  intro X hP hw hK hc i pins s O H E I hf st hg
  subst hP hw hK
  obtain⟨xs,x,hq,hx⟩:=hg
  obtain⟨its,rv,p,hz⟩:=I.tuple hq
  obtain⟨u,hu,ru⟩:=rv.get hx
  obtain⟨f0,f1,f2,f3,f4,f5⟩:=hf it (by simp)
  refine wpAny_pyNext_tuple_item st (show s.heap.IsTuple a its.toArray from p) (x:=u) (by simpa using hu) λh' st' sb=>?_
  have I1:Inv X pins O H {s with heap:=h'}:=I.turned (t':=s.toks) (λb o hb e=>(sb.2 b hb).trans e) f0 f1 f3 f4 f5
  obtain⟨o,e,c,d⟩:=id st'
  exact⟨u,rfl,bY0 (s:={s with heap:=h'}) e c d (by decide) ⟨x,H,I1,ru,⟨rfl,λys hy=>by rw[I.tuple_inj hy hq];exact hx⟩,st',λb hb=>(hf b hb).1⟩⟩
 done:=by
  intro X hP hw hK hc i pins s O H E I hf st hg
  subst hP hw hK
  obtain⟨xs,hq,hx⟩:=hg
  obtain⟨its,rv,p,hz⟩:=I.tuple hq
  obtain⟨f0,f1,f2,f3,f4,f5⟩:=hf it (by simp)
  have hl:=rv.length
  exact wpAny_pyNext_tuple_end (I.ok.hd hc) st (show s.heap.IsTuple a its.toArray from p) (by simp;lia) λh' eb=>⟨rfl,I.turned (t':=s.toks) (λb o hb e=>eb b o hb e) f0 f1 f3 f4 f5⟩
 self:=λ_ _ _ _ _ st h=>wpAny_pyIter_tupleiter st h
theorem cN9{P:zB}{w:zJ}{K:zj}{tg:Expr}(it:Addr)(lo:Int)(n:Nat):bQ5 P w K tg (Itr lo n) [it] it (λi h=>IsRangeIter h it (lo+(i:Nat)*1) ((n:Int)-(i:Nat)) 1) where
 mem:=by simp
 obj:=λi h st b hb=>by
  have e:b=it:=by simpa using hb
  subst e
  exact⟨_,st,λv z=>by
   have z':Data.fields _=Data.cell v:=z
   cases z'⟩
 keep:=λi h h' st k=>k it (by simp) _ st
 item:=by
  intro X hP hw hK hc i pins s O H E I hf st hg
  subst hP hw hK
  obtain⟨f0,f1,f2,f3,f4,f5⟩:=hf it (by simp)
  have W:=Walks.range (prog:=X.prog) (w:=X.w) (I.ok.hd hc) it lo 1 n
  refine W.item i s _ _ hg st λv h' tk hv st' kk=>?_
  obtain⟨t,rfl⟩:=hv
  have I1:Inv X pins O H {s with heap:=h',toks:=tk}:=I.turned (λb o hb e=>kk b o (by simpa using hb) e) f0 f1 f3 f4 f5
  refine⟨_,rfl,bY0 (s:={s with heap:=h',toks:=tk}) (n:= "range_iterator") st' rfl rfl (by decide) ⟨.int (lo+i),H,I1,⟨t,?_⟩,⟨rfl,rfl⟩,st',λb hb=>(hf b hb).1⟩⟩
  rw[Int.mul_one]
 done:=by
  intro X hP hw hK hc i pins s O H E I hf st hg
  subst hP hw hK
  obtain⟨f0,f1,f2,f3,f4,f5⟩:=hf it (by simp)
  exact wpAny_pyNext_range_end (I.ok.hd hc) st (by have:n<=i:=hg;lia) λh' eb=>⟨rfl,I.turned (t':=s.toks) (λb o hb e=>eb b o hb e) f0 f1 f3 f4 f5⟩
 self:=λ_ _ _ _ _ st h=>wpAny_pyIter_rangeiter st h
section
variable{X:Cx}{tg:Expr}
theorem dT1{pins:PNS}{O:St}{H:Hp}{s:zh}{R:It->Hp->Prop}{E:VSP}{lo hi:Int}{t u v:Tok}{tk:Nat}(I:Inv X pins O H s)(h1: -(2 ^ 62)<=lo)(h2:lo<2 ^ 62)(h3: -(2 ^ 62)<=hi)(h4:hi<2 ^ 62)
 (q:R (Itr lo (hi-lo).toNat) H):zp (zD X.prog X.w) X.A (YQ (.ref s.heap.objs.size)) (PIE X pins O tg R) E {s with heap:=s.heap.push {cls:=.type "range",data:=.fields #[.int lo t,.int hi u,.int 1 v]},toks:=tk}:=by
 refine wpAny_pyIter_range (IsRange.new ..) (small_one h1 h2 h3 h4) ?_
 have I1:Inv X pins O H {s with heap:=s.heap.push {cls:=.type "range",data:=.fields #[.int lo t,.int hi u,.int 1 v]},toks:=tk}:=I.kept λb o e=>zg _ e
 refine⟨(s.heap.push {cls:=.type "range",data:=.fields #[.int lo t,.int hi u,.int 1 v]}).objs.size, [(s.heap.push {cls:=.type "range",data:=.fields #[.int lo t,.int hi u,.int 1 v]}).objs.size],_,_,H,rfl,
  I1.kept (t':=tk) λb o e=>zg _ e,cN9 _ lo (hi-lo).toNat,?_,λb hb=>?_,q⟩
 · have e1:lo+((0:Nat):Int)*1=lo:=by simp
   have e2:(((hi-lo).toNat:Nat):Int)-((0:Nat):Int)=Builtin.Range.rangeSize lo hi 1:=by rw[rangeSize_one];split<;>lia
   show IsRangeIter _ _ (lo+((0:Nat):Int)*1) ((((hi-lo).toNat:Nat):Int)-((0:Nat):Int)) 1
   rw[e1,e2]
   exact zm _ rfl
 · have e:b= (s.heap.push {cls:=.type "range",data:=.fields #[.int lo t,.int hi u,.int 1 v]}).objs.size:=by simpa using hb
   subst e
   exact I1.fpOk (zo _) (I1.hok.fresh (zo _))
def fB4(ta:TA):TI:=λO H R=>ta O H λvs H1=>∃j:Int,vs= [.int j]/\ -(2 ^ 62)<=j/\j<2 ^ 62/\R (Itr 0 j.toNat) H1
theorem dB5{a:Expr}{ta:TA}{p pos:Pos}(hg:Gl X "range")(hm:X.mg "range" =none)(ha:PA X [a] ta)(hs:zM [a] X.env= [(false,eval a X.env)]):PI X tg (.Call (.Name "range" p) [a] [] pos) (fB4 ta):=by
 intro pins s O H R I h
 refine Call_ (aO4 I hg hm boot_range (jF (thn (ha pos pins s O H _ I h) λus s1 hE1=>hE1.elim λvs H1 I1 r1 q1=>?_) hs rfl))
 obtain⟨j,e,q1,q2,q⟩:=q1
 subst e
 cases r1 with
 |cons r rr=>
   cases rr
   obtain⟨t,rfl⟩:=r
   exact call_range_1 (dT1 I1 (by lia) (by lia) q1 q2 (by simpa using q))
noncomputable def fF1(wi:TI)(g:TG)(tb:TS):TS:=λD O H=>wi O H λJ H1=>∃W:Nat->Nat->St->Hp->Prop,(∃m,W 0 m O H1)/\∀i m O H,W i m O H->
 (J.stop i H/\D.nx O H)\/(J.go i H/\∃N:St->Hp->Prop,(∀ X2 H',N X2 H'->∃m',m'<m/\W (i+1) m' X2 H')/\∀x H',J.yld i H x H'->g x O H' λσ2 H2=>tb {D with nx:=N,ct:=N,bk:=D.nx} σ2 H2)
noncomputable def bT2(fp:List Addr)(h:Heap):PNS:=fp.filterMap λb=>(h.get? b).map λo=>(b,o)
theorem aM7{fp:List Addr}{h:Heap}{b:Addr}{o:Obj}(hb:b∈fp)(e:h.get? b=some o):(b,o)∈bT2 fp h:=Ye.mpr ⟨b,hb,by rw[e];rfl⟩
theorem dE1{fp:List Addr}{h:Heap}{p:Addr×Obj}(hp:p∈bT2 fp h):p.1∈fp/\h.get? p.1=some p.2:=by
 obtain⟨b,hb,e⟩:=Ye.mp hp
 cases q:h.get? b with
 |none=>rw[q]at e;cases e
 |some o=>
   rw[q]at e
   have e':(b,o)=p:=jo e
   subst e'
   exact⟨hb,q⟩
theorem Inv.pinned{pins:PNS}{O:St}{H:Hp}{s:zh}{fp:List Addr}(I:Inv X pins O H s)(hf:∀b∈fp,aU3 X pins H b)(ho:∀b∈fp,∃o,s.heap.get? b=some o/\∀v,o.data≠ .cell v):Inv X (pins++bT2 fp s.heap) O H s:=
 I.pins_of λp hp=>(jr.mp hp).elim (λz=>I.pin p (ja _ z)) λz=>by
  obtain⟨hb,e⟩:=dE1 z
  obtain⟨f0,f1,f2,_⟩:=hf p.1 hb
  obtain⟨o,e',d⟩:=ho p.1 hb
  rw[e]at e';cases e'
  exact⟨e,f0,f1,f2,d⟩
theorem Inv.unpinned{pins pl:PNS}{O:St}{H:Hp}{s:zh}(I:Inv X (pins++pl) O H s):Inv X pins O H s:=I.pins_of λp hp=>I.pin p (ja _ (Jw _ hp))
inductive eS0(X:Cx)(pins:PNS)(fp:List Addr)(tn:Nat->Heap->Prop)(W:Nat->Nat->St->Hp->Prop)(n:Nat)(s':zh):Prop
 |mk (i:Nat) (X2:St) (H':Hp) (I:Inv X pins X2 H' s') (st:tn i s'.heap) (fr:∀b∈fp,H' b=none) (w:W i n X2 H')
theorem dY8{body:List Stmt}{g:TG}{tb:TS}{pins:PNS}{D:bT8}{it:Addr}{fp:List Addr}{tn:Nat->Heap->Prop}{J:It}{W:Nat->Nat->St->Hp->Prop}{EE:VSP}(hp:∀e s,X.xe e s->EE e s)(hc:X.calm=true)(hg:PG X tg g)(hb:PSs X body tb)
 (T:bQ5 X.prog X.w X.K tg J fp it tn) (stat:∀ {H':Hp},(∀b∈fp,H' b=none)->∀b∈fp,aU3 X pins H' b)
 (turn:∀i m O H,W i m O H->
 (J.stop i H/\D.nx O H)\/(J.go i H/\∃N:St->Hp->Prop,(∀ X2 H',N X2 H'->∃m',m'<m/\W (i+1) m' X2 H')/\∀x H',J.yld i H x H'->g x O H' λσ2 H2=>tb {D with nx:=N,ct:=N,bk:=D.nx} σ2 H2))
   {n:Nat} {s3:zh} (h3:eS0 X pins fp tn W n s3) {NX:zh->Prop} (nx:∀m s,m<n->eS0 X pins fp tn W m s->NX s):
   zp (zD X.prog X.w) X.A (yC (.ref it)) (λr s1=>match r with
    |none=>zp (zD X.prog X.w) X.A (execs [] X.env) (λf s2=>SP X pins D f s2) EE s1
    | some v => zp (zD X.prog X.w) X.A (xq tg (.ref it) v) (λ_ s2 => zp (zD X.prog X.w) X.A (ZB tg X.env v) (λ_ s4 => zp (zD X.prog X.w) X.A (execs body X.env) (λf s5 => match f with
       | .next| .cont=>NX s5
       | .brk=>SP X pins D .next s5
       | .ret v=>SP X pins D (.ret v) s5) EE s4) EE s2) EE s1) EE s3:=by
 obtain⟨i,WK,H3,I3,st3,fr3,w3⟩:=h3
 rcases turn i n WK H3 w3 with⟨stop,qn⟩|⟨go,N,hN,step⟩
 · refine jG (T.done X rfl rfl rfl hc i pins s3 WK H3 X.xe I3 (stat fr3) st3 stop) (λr s4 z1=>?_) hp
   obtain⟨hr,I4⟩:=z1
   subst hr
   exact ZT ⟨WK,H3,I4,qn⟩
 · refine jG (T.item X rfl rfl rfl hc i pins s3 WK H3 X.xe I3 (stat fr3) st3 go) (λr s4 z2=>?_) hp
   obtain⟨u,hr,h4⟩:=z2
   subst hr
   refine jG h4 (λ_ s5 z3=>?_) hp
   obtain⟨x,H5,I5,r5,y5,st5,fr5⟩:=z3
   have I5':=I5.pinned (stat fr5) (T.obj _ _ st5)
   refine jG (hg _ s5 WK H5 x u _ I5' r5 (step x H5 y5)) (λ_ s6 z4=>?_) hp
   obtain⟨WP,H6,I6,q6⟩:=z4
   refine jG (hb _ s6 WP H6 _ I6 q6) (λf s7 q7=>?_) hp
   have again:∀ {WN:St} {H7:Hp},Inv X (pins++bT2 fp s5.heap) WN H7 s7->N WN H7->NX s7:=λ{WN H7} I7 n7=>by
    obtain⟨m',hm,w7⟩:=hN WN H7 n7
    refine nx m' _ hm ⟨i+1,WN,H7,I7.unpinned,T.keep _ _ _ st5 λb hb o e=>(I7.pin (b,o) (ja _ (ja _ (aM7 hb e)))).1,λb hb=>?_,w7⟩
    obtain⟨o,e,d⟩:=T.obj _ _ st5 b hb
    exact(I7.pin (b,o) (ja _ (ja _ (aM7 hb e)))).2.1
   cases f with
   |next=>obtain⟨WN,H7,I7,n7⟩:=q7;exact again I7 n7
   |cont=>obtain⟨WN,H7,I7,n7⟩:=q7;exact again I7 n7
   |brk=>obtain⟨WN,H7,I7,q7⟩:=q7;exact⟨WN,H7,I7.unpinned,q7⟩
   |ret v=>obtain⟨x7,WN,H7,I7,r7,q7⟩:=q7;exact⟨x7,WN,H7,I7.unpinned,r7,q7⟩
theorem eP8{iter:Expr}{body:List Stmt}{wi:TI}{g:TG}{tb:TS}{pos:Pos}(hp:JQ (zD X.prog X.w) X.A X.env X.xe)(hc:X.calm=true)(hi:PI X tg iter wi)(hg:PG X tg g)(hb:PSs X body tb)
 (hs:∀x,yz iter X.env x=pure x):PS X (.For tg iter body [] pos) (fF1 wi g tb):=by
 intro pins s O H D I h
 refine wpAny_For (thn (hi pins s O H _ I h) λv s1 h1=>thn h1 λitv s2 h2=>?_) hs
 obtain⟨it,fp,tn,J,H2,e,I2,T,st2,f2,W,⟨m0,w0⟩,turn⟩:=h2
 subst e
 -- what stays true of the iterator's objects through the loop
 have stat:∀ {H':Hp},(∀b∈fp,H' b=none)->∀b∈fp,aU3 X pins H' b:=λhn b hb=>⟨hn b hb,(f2 b hb).2⟩
 exact codeAny_forLoop_any (eS0 X pins fp tn W) (λn s3 h3=>dY8 hp hc hg hb T stat turn h3 λm s h1 h2=>⟨m,h1,h2⟩) m0 ⟨0,O,H2,I2,st2,λb hb=>(f2 b hb).1,w0⟩
end
noncomputable abbrev R2:=V->V->Hp->VK->Prop
def OpR(X:Cx)(f:zf->zf->Sem zf)(r:R2):Prop:=
 ∀(pins:PNS) (s:zh) (O:St) (H:Hp) (x y:V) (v u:zf) (Q:VK),Inv X pins O H s->J9 x v->J9 y u->r x y H Q->
  zp (zD X.prog X.w) X.A (f v u) (EP X pins O Q) X.xe s
def UnR(X:Cx)(f:zf->Sem zf)(r:V->Hp->VK->Prop):Prop:=
 ∀(pins:PNS) (s:zh) (O:St) (H:Hp) (x:V) (v:zf) (Q:VK),Inv X pins O H s->J9 x v->r x H Q->
  zp (zD X.prog X.w) X.A (f v) (EP X pins O Q) X.xe s
def aB5(X:Cx)(f:zf)(r:List V->Hp->VK->Prop):Prop:=
 ∀(pins:PNS) (s:zh) (O:St) (H:Hp) (xs:List V) (us:List zf) (Q:VK),Inv X pins O H s->J2 xs us->r xs H Q->
  zp (zD X.prog X.w) X.A (call f us) (EP X pins O Q) X.xe s
def fG8(X:Cx)(r:V->Hp->(Bool->Hp->Prop)->Prop):Prop:=
 ∀(pins:PNS) (s:zh) (O:St) (H:Hp) (x:V) (v:zf) (Q:Bool->Hp->Prop),Inv X pins O H s->J9 x v->r x H Q->
  zp (zD X.prog X.w) X.A (truthy v) (TP X pins O Q) X.xe s
noncomputable def tOp(r:R2)(ta tb:TE):TE:=λO H Q=>ta O H λx H1=>tb O H1 λy H2=>r x y H2 Q
noncomputable def tUn(r:V->Hp->VK->Prop)(ta:TE):TE:=λO H Q=>ta O H λx H1=>r x H1 Q
noncomputable def rI(C:Int->Int->Prop)(g:Int->Int->V):R2:=λx y H Q=>∃i j,x= .int i/\y= .int j/\C i j/\Q (g i j) H
noncomputable def rI0(g:Int->Int->V):R2:=λx y H Q=>∃i j,x= .int i/\y= .int j/\Q (g i j) H
noncomputable def rU(g:Int->V):V->Hp->VK->Prop:=λx H Q=>∃i,x= .int i/\Q (g i) H
section
variable{X:Cx}{a b c:Expr}{ta tb tc:TE}{pos:Pos}
theorem eM5(ha:PE X a ta)(hb:PE X b tb){pins:PNS}{s:zh}{O:St}{H:Hp}{R:V->V->Hp->Prop}(I:Inv X pins O H s)
 (h:ta O H λx H1=>tb O H1 λy H2=>R x y H2) {Q:VSP} {f:zf->zf->Sem zf}
 (hf:∀v u s2 x y H2,Inv X pins O H2 s2->J9 x v->J9 y u->R x y H2->zp (zD X.prog X.w) X.A (f v u) Q X.xe s2):
 zp (zD X.prog X.w) X.A (eval a X.env) (λv X0=>zp (zD X.prog X.w) X.A (eval b X.env) (λu s₂=>zp (zD X.prog X.w) X.A (f v u) Q X.xe s₂) X.xe X0) X.xe s:=by
 refine thn (ha pins s O H _ I h) λv s1 hE1=>hE1.elim λx H1 I1 r1 q1=>?_
 refine thn (hb pins s1 O H1 _ I1 q1) λu s2 hE1=>hE1.elim λy H2 I2 r2 q2=>?_
 exact hf v u s2 x y H2 I2 r1 r2 q2
theorem dJ6{op:Operator}{r:R2}(ho:OpR X (jS op) r)(ha:PE X a ta)(hb:PE X b tb):PE X (.BinOp a op b pos) (tOp r ta tb):=by
 intro pins s O H Q I h
 exact wpAny_BinOp (eM5 ha hb I h λv u s2 x y H2 I2 rx ry q=>ho pins s2 O H2 x y v u Q I2 rx ry q)
theorem eY5{op:UnaryOp}{r:V->Hp->VK->Prop}(ho:UnR X (unaryOp op) r)(ha:PE X a ta):PE X (.UnaryOp op a pos) (tUn r ta):=by
 intro pins s O H Q I h
 exact UnaryOp_ (thn (ha pins s O H _ I h) λv s1 hE1=>hE1.elim λx H1 I1 r1 q1=>ho pins s1 O H1 x v Q I1 r1 q1)
theorem opI{f:zf->zf->Sem zf}{C:Int->Int->Prop}{g:Int->Int->Int}
 (rule:∀(i j:Int) (t u:Tok) (s:zh) (Q:VSP) (E:VSP),C i j->Q (.int (g i j) s.toks) {s with toks:=s.toks+1}->zp (zD X.prog X.w) X.A (f (.int i t) (.int j u)) Q E s):
 OpR X f (rI C λi j=>.int (g i j)):=by
 intro pins s O H x y v u Q I rx ry h
 obtain⟨i,j,rfl,rfl,hc,q⟩:=h
 obtain⟨t,rfl⟩:=rx
 obtain⟨t',rfl⟩:=ry
 exact rule i j t t' s _ _ hc ⟨.int (g i j),H,I.tok _,⟨_,rfl⟩,q⟩
theorem fB9{f:zf->zf->Sem zf}{g:Int->Int->Int}
 (rule:∀(i j:Int) (t u:Tok) (s:zh) (Q:VSP) (E:VSP),Q (.int (g i j) s.toks) {s with toks:=s.toks+1}->zp (zD X.prog X.w) X.A (f (.int i t) (.int j u)) Q E s):
 OpR X f (rI0 λi j=>.int (g i j)):=by
 intro pins s O H x y v u Q I rx ry h
 obtain⟨i,j,rfl,rfl,q⟩:=h
 obtain⟨t,rfl⟩:=rx
 obtain⟨t',rfl⟩:=ry
 exact rule i j t t' s _ _ ⟨.int (g i j),H,I.tok _,⟨_,rfl⟩,q⟩
theorem eV1{f:zf->zf->Sem zf}{g:Int->Int->Bool}
 (rule:∀(i j:Int) (t u:Tok) (s:zh) (Q:VSP) (E:VSP),Q (.bool (g i j)) s->zp (zD X.prog X.w) X.A (f (.int i t) (.int j u)) Q E s):
 OpR X f (rI0 λi j=>.bl (g i j)):=by
 intro pins s O H x y v u Q I rx ry h
 obtain⟨i,j,rfl,rfl,q⟩:=h
 obtain⟨t,rfl⟩:=rx
 obtain⟨t',rfl⟩:=ry
 exact rule i j t t' s _ _ ⟨.bl (g i j),H,I,rfl,q⟩
noncomputable def bK2(i j:Int):Prop:=0<=j/\j<=1000000/\i.natAbs<2 ^ 64
noncomputable def bW0(i j:Int):Prop:=(-(2 ^ 64)<i/\i<2 ^ 64)\/(-(2 ^ 64)<j/\j<2 ^ 64)
theorem bW0.ok{i j:Int}(h:bW0 i j):IntMulOk i j:=by
 rcases h with⟨h1,h2⟩|⟨h1,h2⟩
 ·exact .of_left (intBits_le_64 h1 h2)
 ·exact .of_right (intBits_le_64 h1 h2)
theorem eS6:OpR X (jS .Add) (rI0 λi j=>.int (i+j)):=fB9 λ_ _ _ _ _ _ _ q=>add_int q
theorem dO8:OpR X (jS .Sub) (rI0 λi j=>.int (i-j)):=fB9 λ_ _ _ _ _ _ _ q=>sub_int q
theorem eF7:OpR X (jS .Mult) (rI bW0 λi j=>.int (i*j)):=opI λ_ _ _ _ _ _ _ hc q=>mul_int q hc.ok
theorem eU0:OpR X (jS .Mod) (rI (λ_ j=>0<j) λi j=>.int (i % j)):=opI λi j _ _ _ _ _ hc q=>by
 have h1:(0:Int)<j:=hc
 exact mod_int' (by lia) (by rw[Int.fmod_eq_emod_of_nonneg i (by lia)];exact q)
theorem dS2:OpR X (jS .Pow) (rI bK2 λi j=>.int (i ^ j.toNat)):=opI λ_ _ _ _ _ _ _ hc q=>pow_int_small hc.1 hc.2.1 hc.2.2 q
theorem unI{f:zf->Sem zf}{g:Int->Int}
 (rule:∀(i:Int) (t:Tok) (s:zh) (Q:VSP) (E:VSP),Q (.int (g i) s.toks) {s with toks:=s.toks+1}->zp (zD X.prog X.w) X.A (f (.int i t)) Q E s):
 UnR X f (rU λi=>.int (g i)):=by
 intro pins s O H x v Q I rx h
 obtain⟨i,rfl,q⟩:=h
 obtain⟨t,rfl⟩:=rx
 exact rule i t s _ _ ⟨.int (g i),H,I.tok _,⟨_,rfl⟩,q⟩
theorem eT9:UnR X (unaryOp .USub) (rU λi=>.int (-i)):=unI λ_ _ _ _ _ q=>neg_int q
end
section
variable{X:Cx}{a b c:Expr}{ta tb tc:TE}{pos:Pos}
theorem cP2{pins:PNS}{O:St}{H:Hp}{s:zh}{Q:VK}{k k':Bool}(I:Inv X pins O H s)(q:Q (.bl k) H)(e:k=k'):EP X pins O Q (.bool k') s:=by
 subst e
 exact⟨.bl k,H,I,rfl,q⟩
theorem eW6:OpR X (zT .LtE) (rI0 λi j=>.bl (decide (i<=j))):=eV1 λ_ _ _ _ _ _ _ q=>le_int q
theorem fA5:OpR X (zT .Gt) (rI0 λi j=>.bl (decide (j<i))):=eV1 λ_ _ _ _ _ _ _ q=>gt_int q
theorem eW1:OpR X (zT .GtE) (rI0 λi j=>.bl (decide (j<=i))):=eV1 λ_ _ _ _ _ _ _ q=>ge_int q
theorem dE9:OpR X (zT .In) (λx y H Q=>∃i j,x= .str i/\y= .str j/\Q (.bl (!(xP j i 0 j.length 1).isEmpty)) H):=by
 intro pins s O H x y v u Q I rx ry h
 obtain⟨i,j,rfl,rfl,q⟩:=h
 obtain⟨t,rfl⟩:=rx
 obtain⟨t',rfl⟩:=ry
 exact in_str (cP2 I q rfl)
theorem eN9:OpR X (zT .Is) (λx y H Q=>y= .non/\Q (.bl (decide (x= .non))) H):=by
 intro pins s O H x y v u Q I rx ry h
 obtain⟨rfl,q⟩:=h
 cases ry
 refine is_none_gen (cP2 I q ?_)
 cases x<;>first
  |(cases rx;rfl)
  |(obtain⟨t,rfl⟩:=rx;rfl)
theorem dX4:OpR X (zT .IsNot) (λx y H Q=>y= .non/\Q (.bl (!decide (x= .non))) H):=by
 intro pins s O H x y v u Q I rx ry h
 obtain⟨rfl,q⟩:=h
 cases ry
 refine isnot_none_gen (cP2 I q ?_)
 cases x<;>first
  |(cases rx;rfl)
  |(obtain⟨t,rfl⟩:=rx;rfl)
theorem OpR.or{f:zf->zf->Sem zf}{r r':R2}(h:OpR X f r)(h':OpR X f r'):OpR X f (λx y H Q=>r x y H Q\/r' x y H Q):=by
 intro pins s O H x y v u Q I rx ry q
 rcases q with q|q
 ·exact h pins s O H x y v u Q I rx ry q
 ·exact h' pins s O H x y v u Q I rx ry q
theorem dV0{op:CmpOp}{r:R2}(ho:OpR X (zT op) r)(ha:PE X a ta)(hb:PE X b tb)(hm:YD op b=false):PE X (.Compare a [op] [b] pos) (tOp r ta tb):=by
 intro pins s O H Q I h
 exact wpAny_Compare1 (eM5 ha hb I h λv u s2 x y H2 I2 rx ry q=>ho pins s2 O H2 x y v u Q I2 rx ry q) hm
noncomputable def eY7(t:TE):TT:=λO H Q=>t O H λx H'=>∃k,x= .bl k/\Q k H'
theorem dX0{op:CmpOp}{r:R2}(ho:OpR X (zT op) r)(ha:PE X a ta)(hb:PE X b tb)(hm:YD op b=false):PT X (.Compare a [op] [b] pos) (eY7 (tOp r ta tb)):=by
 intro pins s O H Q I h
 refine wpAny_isTrue_Compare1 (thn (ha pins s O H _ I h) λv s1 hE1=>hE1.elim λx H1 I1 r1 q1=>thn (hb pins s1 O H1 _ I1 q1) λu s2 hE1=>hE1.elim λy H2 I2 r2 q2=>
  thn (ho pins s2 O H2 x y v u _ I2 r1 r2 q2) λc s3 ⟨z,H3,I3,r3,k,e,q3⟩=>?_) hm
 subst e
 cases r3
 exact xz ⟨H3,I3,q3⟩
def eM4(K:zj)(x:V)(H:Hp)(k:Bool):Prop:=
 match x with
 | .non=>k=false
 | .bl b=>k=b
 | .int i=>k= (i != 0)
 | .str y=>y.length<=zk/\k= ((y.length:Int) != 0)
 | .byt y=>y.size<=zk/\k= ((y.size:Int) != 0)
 | .ref p=>(∃xs,SqL K H p xs/\k= !xs.isEmpty)\/(∃xs,SqT K H p xs/\k= !xs.isEmpty)\/∃kvs,H p=some (.dK kvs)/\k= !kvs.isEmpty
 |_=>False
theorem cP0{κ:Type}{kvs:List (κ×V)}{vs:List (κ×zf)}(r:KV kvs vs):(!vs.isEmpty)= !kvs.isEmpty:=by
 cases r<;>rfl
theorem bQ8{xs:List V}{its:List zf}(r:J2 xs its):(!its.toArray.isEmpty)= !xs.isEmpty:=by
 cases r<;>simp
theorem bC5:(zk:Nat)<2 ^ 63:=by rw[sizeLine_eq];decide
theorem cR4:fG8 X (λx H Q=>∃k,eM4 X.K x H k/\Q k H):=by
 intro pins s O H x v Q I rx h
 obtain⟨k,e,q⟩:=h
 have hl:=bC5
 have hs:zk=16777216:=sizeLine_eq
 cases x with
 |non=>
   cases rx
   have e':k=false:=e
   subst e'
   exact truthy_none ⟨H,I,q⟩
 |bl b=>
   cases rx
   have e':k=b:=e
   subst e'
   exact xz ⟨H,I,q⟩
 |int i=>
   obtain⟨t,rfl⟩:=rx
   have e':k= (i != 0):=e
   subst e'
   exact PySem.P.truthy_int ⟨H,I,q⟩
 |str y=>
   obtain⟨t,rfl⟩:=rx
   obtain⟨hy,e'⟩:y.length<=zk/\k= ((y.length:Int) != 0):=e
   subst e'
   exact PySem.P.truthy_str (by lia) ⟨H,I.tok _,q⟩
 |byt y=>
   obtain⟨t,rfl⟩:=rx
   obtain⟨hy,e'⟩:y.size<=zk/\k= ((y.size:Int) != 0):=e
   subst e'
   exact PySem.W.truthy_bytes (by lia) ⟨H,I.tok _,q⟩
 |ref p=>
   cases rx
   have e':(∃xs,SqL X.K H p xs/\k= !xs.isEmpty)\/(∃xs,SqT X.K H p xs/\k= !xs.isEmpty)\/∃kvs,H p=some (.dK kvs)/\k= !kvs.isEmpty:=e
   rcases e' with⟨xs,hx,e'⟩|⟨xs,hx,e'⟩|⟨kvs,hx,e'⟩
   · subst e'
     obtain⟨its,r,pl,hz⟩:=I.list hx
     have hlen:=r.length
     exact wpAny_truthy_list pl.isList (by simp only[zq];lia) ⟨H,I.tok _,by rw[bQ8 r];exact q⟩
   · subst e'
     obtain⟨its,r,pl,hz⟩:=I.tuple hx
     have hlen:=r.length
     exact truthy_tuple pl (by simp only[zq];lia) ⟨H,I.tok _,by rw[bQ8 r];exact q⟩
   · subst e'
     obtain⟨hz,hS,vs,r,m⟩:kvs.length<=zk/\(p==yQ)=false/\∃vs,KV kvs vs/\s.heap.DictOf (Q4 X.prog X.w) p vs:=I.hok p _ hx
     have hlen:kvs.length=vs.length:=yI r
     exact wpAny_truthy_dict hS m (by lia) ⟨H,I.tok _,by rw[cP0 r];exact q⟩
 |_=>exact(show False from e).elim
theorem dU1(ha:PE X a ta)(he:∀whole,isTrue a X.env whole= (do let v <-whole;standAt a.pos;ZP [v] (truthy v))):
 PT X a (λO H Q=>ta O H λx H'=>∃k,eM4 X.K x H' k/\Q k H'):=by
 intro pins s O H Q I h
 exact isTrue_plain (thn (ha pins s O H _ I h) λv s1 hE1=>hE1.elim λx H1 I1 r1 q1=>cR4 pins s1 O H1 x v Q I1 r1 q1) (he _)
theorem cR2:OpR X (jS .Add) (λx y H Q=>∃i j,x= .str i/\y= .str j/\i.length+j.length<=zk/\Q (.str (i++j)) H):=by
 intro pins s O H x y v u Q I rx ry h
 obtain⟨i,j,rfl,rfl,hz,q⟩:=h
 obtain⟨t,rfl⟩:=rx
 obtain⟨t',rfl⟩:=ry
 exact add_str (λt' tk=>⟨.str (i++j),H,I.tok _,⟨_,rfl⟩,q⟩) hz
theorem aI5{x:V}{us:List zf}(r:J2 [x] us):∃u,us= [u]/\J9 x u:=by
 cases r with
 |cons r1 r2=>cases r2;exact⟨_,rfl,r1⟩
theorem cM0{x y:V}{us:List zf}(r:J2 [x,y] us):∃u w',us= [u,w']/\J9 x u/\J9 y w':=by
 cases r with
 |cons r1 r2=>
   cases r2 with
   |cons r3 r4=>cases r4;exact⟨_,_,rfl,r1,r3⟩
theorem dQ8:aB5 X (.builtin "abs") (λxs H Q=>∃i,xs= [.int i]/\Q (.int (if i<0 then -i else i)) H):=by
 intro pins s O H xs us Q I r h
 obtain⟨i,rfl,q⟩:=h
 obtain⟨u,rfl,t,rfl⟩:=aI5 r
 exact call_abs_int λu tk=>⟨.int (if i<0 then -i else i),H,I.tok _,⟨_,rfl⟩,q⟩
theorem dD9(hc:X.calm=true):aB5 X (.builtin "max") (λxs H Q=>∃i j,xs= [.int i,.int j]/\Q (.int (if j>i then j else i)) H):=by
 intro pins s O H xs us Q I r h
 obtain⟨i,j,rfl,q⟩:=h
 obtain⟨u,w',rfl,⟨t,rfl⟩,⟨t',rfl⟩⟩:=cM0 r
 refine max_two_ints (I.ok.hd hc) λh' tk k=>⟨_,H,I.kept k,?_,q⟩
 by_cases hj:j>i
 ·rw[if_pos hj,if_pos hj];exact⟨_,rfl⟩
 ·rw[if_neg hj,if_neg hj];exact⟨_,rfl⟩
theorem dG3(hc:X.calm=true):aB5 X (.builtin "min") (λxs H Q=>∃i j,xs= [.int i,.int j]/\Q (.int (if j<i then j else i)) H):=by
 intro pins s O H xs us Q I r h
 obtain⟨i,j,rfl,q⟩:=h
 obtain⟨u,w',rfl,⟨t,rfl⟩,⟨t',rfl⟩⟩:=cM0 r
 refine min_two_ints (I.ok.hd hc) λh' tk k=>⟨_,H,I.kept k,?_,q⟩
 by_cases hj:j<i
 ·rw[if_pos hj,if_pos hj];exact⟨_,rfl⟩
 ·rw[if_neg hj,if_neg hj];exact⟨_,rfl⟩
theorem dB0:aB5 X (.type "int") (λxs H Q=>(∃i,xs= [.int i]/\Q (.int i) H)\/∃k,xs= [.bl k]/\Q (.int (if k then 1 else 0)) H):=by
 intro pins s O H xs us Q I r h
 rcases h with⟨i,rfl,q⟩|⟨k,rfl,q⟩
 · obtain⟨u,rfl,t,rfl⟩:=aI5 r
   exact call_int_int ⟨.int i,H,I,⟨_,rfl⟩,q⟩
 · obtain⟨u,rfl,r1⟩:=aI5 r
   cases r1
   exact call_int_bool ⟨.int (if k then 1 else 0),H,I.tok _,⟨_,rfl⟩,q⟩
end
structure ObjM(h:Heap)(x dx C:Addr)(mA:Str->Option zf):Prop where
 obj:h.get? x=some (xc C dx)
 ns:h.Ns1 dx mA
 ne:dx≠x
section
variable{prog:zB}{w:zJ}{A:zF}{E:VSP}{s:zh}{K:zj}{x dx C f:Addr}{mA:Str->Option zf}{name:Str}{v:zf}
end
theorem bU0.some_of{v:V}{o:Option zf}(r:bU0 (some v) o):∃u,o=some u/\J9 v u:=by
 cases o with
 |none=>exact(show False from r).elim
 |some u=>exact⟨u,rfl,r⟩
section
variable{P:zB}{w:zJ}{H H':Hp}{h h':Heap}{a C dx:Addr}{fs fs':List (Str×V)}
end
structure Cls(K:zj)(C:Addr):Prop where
 pg:JE K C Str.empty=true
 hd:PySem.W.hasDictIn K C=true
 po:PySem.W.plainOver K C=true
 sa:xI K (.ref C) "__setattr__" =some (some (.builtin "object.__setattr__"))
theorem Cls.get{K:zj}{C:Addr}(c:Cls K C)(f:Str):JE K C f=true:=c.pg
structure Con(K:zj)(C:Addr)(f:Str)(v:V)(u:zf):Prop where
 at_:xI K (.ref C) f=some (some u)
 rel:J9 v u
 get:Jl K u "__get__" =some none
 cp:PySem.W.copiedNames.contains f=false
structure Meth(K:zj)(C:Addr)(m:Str)(f:Addr):Prop where
 at_:xI K (.ref C) m=some (some (.ref f))
 fn:PySem.W.isFn K (.ref f)=true
 kp:yh K (.ref f)=true
section
variable{X:Cx}{pins:PNS}{O:St}{H:Hp}{s:zh}{a C dx:Addr}{fs:List (Str×V)}{f:Str}{v:V}{A:zF}{E:VSP}
theorem Inv.made(I:Inv X pins O H s):Inv X pins O (upd (upd H s.heap.objs.size (.own (s.heap.objs.size+1))) (s.heap.objs.size+1) (.ins C s.heap.objs.size []))
 {s with heap:=(s.heap.push yc).push (xc C s.heap.objs.size)}:=by
 have e1:(s.heap.push yc).get? s.heap.objs.size=some yc:=zm s.heap rfl
 have e2:((s.heap.push yc).push (xc C s.heap.objs.size)).get? (s.heap.objs.size+1)=some (xc C s.heap.objs.size):=by
  have:=zm (s.heap.push yc) (o:=xc C s.heap.objs.size) rfl
  rwa [jb]at this
 have e3:(s.heap.push yc).Ns s.heap.objs.size (λ_=>none):=⟨yc, #[],_,e1,rfl,(λe he=>absurd he (by simp)),λ_=>rfl⟩
 have I1:=I.laid (a:=s.heap.objs.size) (o:=.own (s.heap.objs.size+1)) (h':=s.heap.push yc) (t':=s.toks) (λb u q=>zg _ q) (zo _) ⟨_,e1⟩
 refine I1.laid (a:=s.heap.objs.size+1) (o:=.ins C s.heap.objs.size []) (t':=s.toks) (λb u q=>zg _ q) (Nat.le_of_eq (jb _ _)) ?_
 have ne:s.heap.objs.size≠s.heap.objs.size+1:=zA (yE _)
 refine⟨by rw[J6 ne,R9],jR _,ne,e2,λ_=>none,(Heap.Ns1.of_empty e3).at λo q=>zg _ q,λ_=>True.intro,λy hy=>absurd rfl hy⟩
end
section
variable{X:Cx}{o e value:Expr}{f:Str}{pos pos' tpos:Pos}{ta tv:TE}
end
section
variable{X:Cx}{pins:PNS}{O:St}{H:Hp}{s:zh}{A:zF}{E:VSP}{Q:VSP}{c:zf}{b:Bool}
inductive bS7(K:zj)(H:Hp):V->zf->Prop where
 |non:bS7 K H .non (.type "NoneType")
 |bl (x:Bool):bS7 K H (.bl x) (.type "bool")
 |int (i:Int):bS7 K H (.int i) (.type "int")
 |str (x:Str):bS7 K H (.str x) (.type "str")
 |flt (x:UInt64):bS7 K H (.flt x) (.type "float")
 |lst {a:Addr} {xs:List V} (e:H a=some (.lst xs)):bS7 K H (.ref a) (.type "list")
 |frz {a:Addr} {o:Obj} {xs:List V} (e:H a=some (.frz o (.lst xs))):bS7 K H (.ref a) (.type "list")
 |tup {a:Addr} {xs:List V} (e:H a=some (.tup xs)):bS7 K H (.ref a) (.type "tuple")
 |dK {a:Addr} {kvs:List (Key×V)} (e:H a=some (.dK kvs)):bS7 K H (.ref a) (.type "dict")
 |dT {a:Addr} {kvs:List (List Key×V)} (e:H a=some (.dT kvs)):bS7 K H (.ref a) (.type "dict")
 |ins {a C dx:Addr} {fs:List (Str×V)} (e:H a=some (.ins C dx fs)) (cl:Cls K C) (ha:xI K (.ref C) "__class__" =some (some (.builtin "object.__class__")))
    (hn:Jl K (.builtin "object.__class__") "__get__" =some (some (.builtin "getset_descriptor.__get__"))) (htk:PySem.W.takesIn K (.builtin "object.__class__")=some true)
    (hm:PySem.W.mroIn K C (.type "object")=some true):bS7 K H (.ref a) (.ref C)
end
structure aE6(k:Nat)(A:zF):Prop where
 hd:A.handled=none
 dp:A.depth+3*k+5<recursionLimit
 un:A.units+16*k+200<xj
 gd:A.guards=some []
theorem aE6.mono{j k:Nat}{A:zF}(r:aE6 k A)(h:j<=k):aE6 j A:=⟨r.hd,by have:=r.dp;lia,by have:=r.un;lia,r.gd⟩
theorem aE6.deeper{k:Nat}{A:zF}(r:aE6 (k+1) A)(env:Env):aE6 k (A.deeper env):=
 ⟨r.hd,by have:=r.dp;show A.depth+1+3*k+5<_;lia,by have:=r.un;show A.units+3+16*k+200<_;lia,r.gd⟩
theorem aE6.in1{k:Nat}{A:zF}(r:aE6 (k+1) A):aE6 k A.in1:=
 ⟨r.hd,by have:=r.dp;show A.depth+3*k+5<_;lia,by have:=r.un;show A.units+1+16*k+200<_;lia,r.gd⟩
theorem aE6.depth{k:Nat}{A:zF}(r:aE6 k A):A.depth<recursionLimit:=by have:=r.dp;lia
theorem aE6.units{k:Nat}{A:zF}(r:aE6 k A):A.units+64<xj:=by have:=r.un;lia
noncomputable def fE4:TA:=λ_ H Q=>Q [] H
noncomputable def eY0(ta:TE)(tr:TA):TA:=λO H Q=>ta O H λx H1=>tr O H1 λxs H2=>Q (x::xs) H2
section
variable{X:Cx}{e:Expr}{es:List Expr}{te:TE}{t:TA}{pos:Pos}
theorem eH3:PA X [] fE4:=λ_ _ _ _ H Q I h=>xo ⟨[],H,I,.nil,h⟩
theorem dX5(ha:PE X e te)(hr:PA X es t)(hs:zM (e::es) X.env= (false,eval e X.env)::zM es X.env):PA X (e::es) (eY0 te t):=by
 intro pos pins s O H Q I h
 rw[hs]
 show zp _ _ (spliced ((false,eval e X.env)::yR pos (zM es X.env))) _ _ s
 refine xh (thn (ha pins s O H _ I h) λu s1 hE1=>hE1.elim λx H1 I1 r1 q1=>?_)
 exact thn (hr pos pins s1 O H1 _ I1 q1) λus s2 hE1=>hE1.elim λxs H2 I2 r2 q2=>⟨x::xs,H2,I2,.cons r1 r2,q2⟩
def fH5(t:TA):TE:=λO H Q=>t O H λxs H1=>xs.length<=zk/\∀p,H1 p=none->Q (.ref p) (upd H1 p (.tup xs))
def fE5(t:TA):TE:=λO H Q=>t O H λxs H1=>xs.length<=zk/\∀p,H1 p=none->Q (.ref p) (upd H1 p (.lst xs))
theorem eK0{x1}(h:PA X es t):PE X (.Tuple es x1 pos) (fH5 t):=by
 intro pins s O H Q I hq
 refine wpAny_Tuple_spliced (thn (h pos pins s O H _ I hq) λus s1 ⟨xs,H1,I1,r,z,q⟩=>⟨by rw[<-r.length];exact z,?_⟩)
 have hf:H1 s1.heap.objs.size=none:=I1.hok.fresh (zo _)
 refine⟨.ref s1.heap.objs.size,upd H1 s1.heap.objs.size (.tup xs),I1.laid (t':=s1.toks) (λb u e=>zg _ e) (zo _) ?_,rfl,q _ hf⟩
 exact⟨z,us,r,⟨_,zm _ rfl,rfl,_,rfl⟩⟩
theorem eJ7(h:PA X es t):PE X (.List es pos) (fE5 t):=by
 intro pins s O H Q I hq
 refine wpAny_List_spliced (thn (h pos pins s O H _ I hq) λus s1 ⟨xs,H1,I1,r,z,q⟩=>⟨by rw[<-r.length];exact z,?_⟩)
 have hf:H1 s1.heap.objs.size=none:=I1.hok.fresh (zo _)
 refine⟨.ref s1.heap.objs.size,upd H1 s1.heap.objs.size (.lst xs),I1.laid (t':=s1.toks) (λb u e=>zg _ e) (zo _) ?_,rfl,q _ hf⟩
 exact⟨z,us,0,r,zm _ rfl⟩
end
noncomputable abbrev Sp:=List V->Hp->VK->XK->Prop
noncomputable abbrev CXT:=List Env->Hp->zh->XK->VSP
structure cS7(P:zB)(w:zJ)(K:zj)(mg:Str->Option zf)(base:Heap)(A:zF)(outer:List Env)(s:zh)(H:Hp):Prop where
 frames:A.frames=some outer
 mod:Mod K mg base
 bs:∀b o,base.get? b=some o->s.heap.get? b=some o/\H b=none
 bsz:base.objs.size<=s.heap.objs.size
 funs:s.heap.FunFrames base outer
 frf:∀b∈frs outer,H b=none
 hok:HOk P w H s.heap
 bare:Yv s.gens
def CE(outer:List Env)(P:zB)(w:zJ)(H:Hp)(s:zh)(Q:VK)(u:zf)(s':zh):Prop:=
 ∃v H',s'.os=s.os/\Yv s'.gens/\Un (frs outer) [] H H' s.heap s'.heap/\HOk P w H' s'.heap/\J9 v u/\Q v H'
def CR(CX:CXT)(outer:List Env)(P:zB)(w:zJ)(H:Hp)(s:zh)(Q:VK)(E:XK)(r:YS)(s':zh):Prop:=
 match r with
 | .ok (.ret u)=>CE outer P w H s Q u s'
 | .ok _=>False
 | .error e=>CX outer H s E e s'
structure K6(P:zB)(w:zJ)(K:zj)(mg:Str->Option zf)(base:Heap)(CX:CXT)(k:Nat)(f:Addr)(fd:zY)(ps:List Str)(sp:Sp):Prop where
 len:∀vs H Q E,sp vs H Q E->vs.length=ps.length
 run:∀(A:zF) (outer:List Env) (s:zh) (H:Hp) (args:Args) (us:List zf) (vs:List V) (Q:VK) (E:XK),aE6 k A->cS7 P w K mg base A outer s H->Xf s fd args (ps.zip us)->J2 vs us->sp vs H Q E->
  xB (zD P w) A (.call (.ref f) args) (CR CX outer P w H s Q E) s
theorem K6.mono{P:zB}{w:zJ}{K:zj}{mg:Str->Option zf}{base:Heap}{CX:CXT}{j k:Nat}{f:Addr}{fd:zY}{ps:List Str}{sp:Sp}(F:K6 P w K mg base CX j f fd ps sp)(h:j<=k):
 K6 P w K mg base CX k f fd ps sp:=⟨F.len,λA outer s H args us vs Q E hr=>F.run A outer s H args us vs Q E (hr.mono h)⟩
theorem K6.imp{P:zB}{w:zJ}{K:zj}{mg:Str->Option zf}{base:Heap}{CX:CXT}{k:Nat}{f:Addr}{fd:zY}{ps:List Str}{sp sp':Sp}(F:K6 P w K mg base CX k f fd ps sp)
 (h:∀vs H Q E,sp' vs H Q E->sp vs H Q E):K6 P w K mg base CX k f fd ps sp':=
 ⟨λvs H Q E q=>F.len vs H Q E (h _ _ _ _ q),λA outer s H args us vs Q E hr he hb hv hs=>F.run A outer s H args us vs Q E hr he hb hv (h _ _ _ _ hs)⟩
theorem cS7.in1{P:zB}{w:zJ}{K:zj}{mg:Str->Option zf}{base:Heap}{A:zF}{outer:List Env}{s:zh}{H:Hp}(e:cS7 P w K mg base A outer s H):
 cS7 P w K mg base A.in1 outer s H:=⟨e.frames,e.mod,e.bs,e.bsz,e.funs,e.frf,e.hok,e.bare⟩
section
variable{X:Cx}{pins:PNS}{O:St}{H:Hp}{s s':zh}
theorem Inv.env0(I:Inv X pins O H s):cS7 X.prog X.w X.K X.mg X.base X.A X.stack s H:=
 ⟨I.ok.frames,I.ok.mod,I.bs,zI I.ok.bsz I.sz,I.stack,I.stkFree,I.hok,I.bare⟩
theorem Inv.after{Q:VK}{u:zf}(I:Inv X pins O H s)(h:CE X.stack X.prog X.w H s Q u s'):EP X pins O Q u s':=by
 obtain⟨v,H',os,bare,un,hok,r,q⟩:=h
 obtain⟨hh,g,d,t,os'⟩:=s'
 obtain rfl:os'=s.os:=os
 exact⟨v,H',I.call (h':=hh) (g':=g) (d':=d) (t':=t) (ch:= []) un hok bare (λb z=>absurd z (by simp)),r,q⟩
end
noncomputable def fA8(sp:Sp)(dvs:List V)(E:XK)(t:TA):TE:=λO H Q=>t O H λvs H1=>sp (vs++dvs) H1 Q E
noncomputable def bL0(K:zj)(fd:zY)(ps:List Str)(ds:List zf):Prop:=
 ∀(s:zh) (us:List zf),K.In s.heap->(us++ds).length=ps.length->Xf s fd ⟨us, []⟩ (ps.zip (us++ds))
theorem bL0.all{K:zj}{fd:zY}{ps:List Str}(h:∀us:List zf,us.length=ps.length->Yn fd ⟨us, []⟩=pure (ps.zip us)):bL0 K fd ps []:=λs us _ hl=>by
 rw[ZH]at hl ⊢
 exact .of_eq (h us hl)
noncomputable def cQ2(CX:CXT)(X:Cx)(E:XK):Prop:=∀(pins:PNS) (O:St) (H:Hp) (s:zh) (e:zf) (s':zh),Inv X pins O H s->CX X.stack H s E e s'->X.xe e s'
section
variable{X:Cx}{CX:CXT}{k:Nat}{f C:Addr}{fd:zY}{ps:List Str}{sp:Sp}{dvs:List V}{ds:List zf}{E:XK}{x m:Str}{p pos apos:Pos}{e o:Expr}{es:List Expr}{ta:TE}{t:TA}
theorem eP7{pins:PNS}{O:St}{H:Hp}{s:zh}{Q:VK}{us:List zf}{vs:List V}(F:K6 X.prog X.w X.K X.mg X.base CX k f fd ps sp)(hr:aE6 k X.A)(hb:bL0 X.K fd ps ds)(hd:J2 dvs ds)(hx:cQ2 CX X E)
 (I:Inv X pins O H s) (r:J2 vs us) (h:sp (vs++dvs) H Q E):zp (zD X.prog X.w) X.A (call (.ref f) us) (EP X pins O Q) X.xe s:=by
 have r2:J2 (vs++dvs) (us++ds):=r.append hd
 have hl:(us++ds).length=ps.length:=by rw[<-r2.length];exact F.len _ _ _ _ h
 refine wpAny_call (Zb (F.run X.A X.stack s H ⟨us, []⟩ (us++ds) (vs++dvs) Q E hr I.env0 (hb s us I.kIn hl) r2 h) λr s' hq=>?_)
 cases r with
 |error e=>exact hx pins O H s e s' I hq
 |ok fl=>
   cases fl with
   |ret u=>exact I.after hq
   |next=>exact yj hq
   |brk=>exact yj hq
   |cont=>exact yj hq
theorem eC2(F:K6 X.prog X.w X.K X.mg X.base CX k f fd ps sp)(hr:aE6 k X.A)(hg:Gl X x)(hm:X.mg x=some (.ref f))(hk:yh X.K (.ref f)=true)(hb:bL0 X.K fd ps ds)(hd:J2 dvs ds)(hx:cQ2 CX X E)
 (ha:PA X (e::es) t) (hdb:(x==("__debug__" :Str))=false) (he:zM (e::es) X.env= (false,eval e X.env)::zM es X.env) (hpl:(yR pos (zM es X.env)).any (·.1)=false):
 PE X (.Call (.Name x p) (e::es) [] pos) (fA8 sp dvs E t):=by
 intro pins s O H Q I h
 refine xv (cW9 I hg hm ?_ hdb)
 refine PySem.W.callWith_K (h₀:=X.base) I.ok.mod.kin hk (thn (ha pos pins s O H _ I h) λus s1 hE1=>hE1.elim λvs H1 I1 r q=>⟨I1.kIn,?_⟩) he hpl
 exact eP7 F hr hb hd hx I1 r q
structure Mk(K:zj)(C f:Addr):Prop where
 makes:PySem.W.makesIn K C=true
 init:xI K (.ref C) "__init__" =some (some (.ref f))
 fn:PySem.W.isFn K (.ref f)=true
 kp:yh K (.ref C)=true
end
section
variable{X:Cx}{CX:CXT}{k:Nat}{f C:Addr}{fd:zY}{ps ks:List Str}{sp:Sp}{E:XK}{x m:Str}{p pos apos kpos:Pos}{e o:Expr}{es:List Expr}{kws:List Keyword}{te ta:TE}{t tk:TA}{nm:Option Str}
structure KBinds(K:zj)(fd:zY)(ps ks:List Str)(g:List zf->List zf->List zf)(gV:List V->List V->List V):Prop where
 to:∀(s:zh) (us ws:List zf),K.In s.heap->(g us ws).length=ps.length->Xf s fd ⟨us,ks.zip ws⟩ (ps.zip (g us ws))
 rel:∀ {vs:List V} {us:List zf} {zs:List V} {ws:List zf},J2 vs us->J2 zs ws->J2 (gV vs zs) (g us ws)
variable{g:List zf->List zf->List zf}{gV:List V->List V->List V}
end
structure o9(N P:List Str)(sc:Scope):Prop where
 kind:sc.kind= .function
 co:sc.isCoroutine=false
 gen:sc.isGenerator=false
 nd:N.Nodup
 pre:N.take P.length=P
 par:∀x∈P,sc.names.lookup x=some .local\/sc.names.lookup x=some .cell
 nofree:∀y∈sc.names,y.2≠ .free
theorem bY9{yJ:Str->Option NameKind}{x:Str}:∀ {binds:List (Str×zf)} {m:Str->Option zf},(∀v,(x,v)∉binds)->JN yJ binds m x=m x
 |[],_,_=>rfl
 |(n,v)::r,m,h=>by
  unfold JN
  rw[bY9 λw hw=>h w (zU _ hw)]
  split
  · have:x≠n:=by rintro rfl;exact h v jh
    simp[this]
  ·rfl
theorem bZ1{yJ:Str->Option NameKind}{x:Str}:∀ {binds:List (Str×zf)} {m:Str->Option zf},(∀v,(x,v)∉binds)->JO yJ binds m x=m x
 |[],_,_=>rfl
 |(n,v)::r,m,h=>by
  unfold JO
  rw[bZ1 λw hw=>h w (zU _ hw)]
  split
  ·rfl
  · have:x≠n:=by rintro rfl;exact h v jh
    simp[this]
theorem bY3{yJ:Str->Option NameKind}{x:Str}{v:zf}:∀ {P:List Str} {vs:List zf} {i:Nat} {m:Str->Option zf},P.Nodup->P[i]? =some x->vs[i]? =some v->yJ x=some .local->
 JN yJ (P.zip vs) m x=some v
 |[],_,_,_,_,h,_,_=>by simp at h
 |_::_, [],_,_,_,_,h,_=>by simp at h
 |p::P,w::vs,0,m,nd,h1,h2,hk=>by
   simp at h1 h2;subst h1;subst h2
   show JN yJ ((p,w)::P.zip vs) m p=_
   unfold JN
   rw[bY9 λv hv=>(ZG.mp nd).1 (YW hv).1,if_pos hk]
   simp
 |p::P,w::vs,i+1,m,nd,h1,h2,hk=>by
   show JN yJ ((p,w)::P.zip vs) m x=_
   unfold JN
   exact bY3 (i:=i) (ZG.mp nd).2 (by simpa using h1) (by simpa using h2) hk
theorem bZ2{yJ:Str->Option NameKind}{x:Str}{v:zf}:∀ {P:List Str} {vs:List zf} {i:Nat} {m:Str->Option zf},P.Nodup->P[i]? =some x->vs[i]? =some v->yJ x≠some .local->
 JO yJ (P.zip vs) m x=some v
 |[],_,_,_,_,h,_,_=>by simp at h
 |_::_, [],_,_,_,_,h,_=>by simp at h
 |p::P,w::vs,0,m,nd,h1,h2,hk=>by
   simp at h1 h2;subst h1;subst h2
   show JO yJ ((p,w)::P.zip vs) m p=_
   unfold JO
   rw[bZ1 λv hv=>(ZG.mp nd).1 (YW hv).1,if_neg hk]
   simp
 |p::P,w::vs,i+1,m,nd,h1,h2,hk=>by
   show JO yJ ((p,w)::P.zip vs) m x=_
   unfold JO
   exact bZ2 (i:=i) (ZG.mp nd).2 (by simpa using h1) (by simpa using h2) hk
noncomputable def start(N:List Str)(vs:List V):St:=vs.map some++zt (N.length-vs.length) none
noncomputable def cM3(CX:CXT)(P:zB)(w:zJ)(K:zj)(mg:Str->Option zf)(base:Heap)(N:List Str)(qual:Str)(scope:Scope)(f:Addr)(cd:zf)(A:zF)(outer:List Env)(s:zh)(H:Hp)(E:XK):Cx where
 prog:=P
 w:=w
 K:=K
 mg:=mg
 base:=base
 A:=A.deeper (Yp qual scope s.heap.objs.size f cd)
 N:=N
 WX:=s
 H₀:=H
 env:=Yp qual scope s.heap.objs.size f cd
 outer:=outer
 stack:=Yp qual scope s.heap.objs.size f cd::outer
 ex:= []
 calm:=true
 fn:=λ_=>true
 pn:= []
 xe:=λe s'=>zp (zD P w) (A.deeper (Yp qual scope s.heap.objs.size f cd)) (leaving (Yp qual scope s.heap.objs.size f cd) e) (λ_ s''=>CX outer H s E e s'') (λe' s''=>CX outer H s E e' s'') s'
theorem cJ6{sc:Scope}{n:Nat}{x:Str}(h:sc.names.lookup x=some .cell):∃c,(cellsFrom n sc.names []).lookup x=some c:=by
 have q:=Xs sc.names n [] (.inl h)
 exact Xp.mp q
theorem dE0{CX:CXT}{P:zB}{w:zJ}{K:zj}{mg:Str->Option zf}{base:Heap}{N ps:List Str}{qual:Str}{scope:Scope}{f:Addr}{cd:zf}{A:zF}{outer:List Env}{s s1:zh}{H:Hp}{E:XK}{us:List zf}{vs:List V}
 (S:o9 N ps scope) (hd:A.handled=none) (gd:A.guards=some []) (e0:cS7 P w K mg base A outer s H) (hl:vs.length=ps.length) (r:J2 vs us)
 (x:InCallC s s.heap.objs.size (JN (Yp qual scope s.heap.objs.size f cd).kindOf (ps.zip us) λ_=>none) (cellsFrom (s.heap.objs.size+1) scope.names []) (JO (Yp qual scope s.heap.objs.size f cd).kindOf (ps.zip us) λ_=>none) s1):
 Inv (cM3 CX P w K mg base N qual scope f cd A outer s H E) [] (start N vs) H s1:=by
 have hpl:ps.length<=N.length:=by have:=congrArg YU S.pre;rw[yZ]at this;lia
 obtain⟨h1,tk,rfl,hk⟩:=x.done
 have noA:∀b:Addr,b∉(cM3 CX P w K mg base N qual scope f cd A outer s H E).ex:=λb z=>absurd (show b∈([]:List Addr)from z) (by simp)
 refine⟨⟨e0.mod,S.kind,rfl,rfl,zo _,λy z c h1 h2=>?_,λy hy=>?_,λy c _ h=>?_,λ_=>hd,Around.frames_deeper e0.frames,.inr ⟨rfl,rfl⟩,λb z=>absurd z (noA b),e0.bs,e0.bsz,λb _ _=>noA b,λb z=>absurd z (noA b),e0.funs,e0.frf,gd⟩,
  rfl,e0.bare,Un.kept hk,⟨_,x.toInCall.ns,λi y v h1 h2 h3=>?_⟩,λy c h=>⟨_,x.cell y c h⟩,e0.hok.fresh (zo _),λy c h=>?_,λp hp=>absurd (show p∈([]:PNS)from hp) (by simp),e0.hok.kept hk,?_⟩
 ·exact name_of_addr x.apart (yy h1) (yy h2)
 · have hy:scope.names.lookup y=some .cell\/scope.names.lookup y=some .free:=hy
   rcases hy with hy|hy
   ·exact cJ6 hy
   ·exact absurd rfl (S.nofree _ (yy hy))
 ·exact yx (x.above y c (yy h))
 · have hi:i<vs.length:=by
    unfold start at h2
    by_cases hi:i<vs.length
    ·exact hi
    · rw[yk (by simpa using hi)]at h2
      rw[xl]at h2
      split at h2<;>cases h2
   have ha:vs[i]? =some v:=by
    unfold start at h2
    rw[zH (by simpa using hi),zZ]at h2
    cases e:vs[i]? with
    |none=>rw[e]at h2;cases h2
    |some a=>rw[e]at h2;cases h2;rfl
   obtain⟨u,hu,rv⟩:=r.get ha
   have hp:ps[i]? =some y:=by
    rw[<-S.pre,List.getElem?_take_of_lt (by lia)];exact h1
   have ndP:ps.Nodup:=by rw[<-S.pre];exact S.nd.sublist (List.take_sublist _ _)
   refine⟨u,rv,?_⟩
   rcases S.par y (yd hp)with k|k
   ·exact .inl ⟨k,bY3 ndP hp hu k⟩
   · obtain⟨c,e⟩:=cJ6 (n:=s.heap.objs.size+1) k
     refine .inr ⟨.inl k,c,e,?_⟩
     have q:=x.cell y c e
     rw[bZ2 ndP hp hu (by show scope.names.lookup y≠_;rw[k];decide)]at q
     exact q
 ·exact e0.hok.fresh (yx (x.above y c (yy h)))
 · unfold start
   show _=N.length
   rw[zR,zl,ZK]
   lia
theorem eZ0{CX:CXT}{P:zB}{w:zJ}{K:zj}{mg:Str->Option zf}{base:Heap}{k:Nat}{f:Addr}{name qual:Str}{params:Arguments}{body:List Stmt}{scope:Scope}{dV kV doc pm cdv ct oc:zf}{an od:Option Addr}
 {osl:Array (Option zf)} {N ps:List Str} {sp:Sp} (lk:K.lookup f=some ⟨oc,od,.func (jE name qual params body scope dV kV doc pm an cdv ct),osl⟩) (hcd:xJ K cdv qual=true) (S:o9 N ps scope)
 (len:∀vs H Q E,sp vs H Q E->vs.length=ps.length)
 (hbody:∀(A:zF) (outer:List Env) (s:zh) (H:Hp) (vs:List V) (Q:VK) (E:XK),aE6 k (A.deeper (Yp qual scope s.heap.objs.size f cdv))->sp vs H Q E->
   ∃t,PSs (cM3 CX P w K mg base N qual scope f cdv A outer s H E) body t/\t {nx:=λ_ H'=>Q .non H',rt:=Q} (start N vs) H):
 K6 P w K mg base CX (k+1) f (jE name qual params body scope dV kV doc pm an cdv ct) ps sp:=by
 refine⟨len,λA outer s H args us vs Q E hr e0 hb r hsp=>?_⟩
 have hl:=len _ _ _ _ hsp
 have KX:K.In s.heap:=e0.mod.kin.keeps λb o e=>(e0.bs b o e).1
 have lim:s.heap.NoLimit:=e0.mod.nolimit.keeps λb o e=>(e0.bs b o e).1
 have hkind:∀y∈ps.zip us,scope.names.lookup y.1=some .local\/(scope.names.lookup y.1=some .cell/\((cellsFrom (s.heap.objs.size+1) scope.names []).lookup y.1).isSome=true):=fun⟨n,v⟩ hy=>by
  rcases S.par n (YW hy).1 with q|q
  ·exact .inl q
  ·exact .inr ⟨q,Xs _ _ _ (.inl q)⟩
 refine codeAny_call_function hr.depth (KX _ _ lk) rfl S.co S.gen rfl (PySem.W.codeRec_of KX hcd) (hb _ _ _ _ ?_)
 refine wpAny_newFunctionEnv_cells S.kind hkind λenv he s1 x=>?_
 subst he
 refine⟨lim.keeps x.toInCall.keep,codeAny_func ?_⟩
 obtain⟨t,ht,hq⟩:=hbody A outer s H vs Q E (hr.deeper _) hsp
 have I:Inv (cM3 CX P w K mg base N qual scope f cdv A outer s H E) [] (start N vs) H s1:=dE0 S hr.hd hr.gd e0 hl r x
 refine jG (ht [] s1 (start N vs) H _ I hq) (λfl s' hs=>?_) λe s' hs=>hs
 have fin:∀ {X2:St} {H':Hp} {v:V} {u:zf},Inv (cM3 CX P w K mg base N qual scope f cdv A outer s H E) [] X2 H' s'->J9 v u->Q v H'->CE outer P w H s Q u s':=
  λ{X2 H' v u} J rv q=>⟨v,H',J.os,J.bare,J.base,J.hok,rv,q⟩
 cases fl with
 |ret u=>
   obtain⟨v,X2,H',J,rv,q⟩:=hs
   exact fin J rv q
 |next=>
   obtain⟨X2,H',J,q⟩:=hs
   exact fin (v:=V.non) (u:=Value.none) J rfl q
 |brk=>
   obtain⟨_,_,_,q⟩:=hs
   exact yj q
 |cont=>
   obtain⟨_,_,_,q⟩:=hs
   exact yj q
section
variable{X:Cx}{x:Str}{p pos:Pos}{e:Expr}{es:List Expr}{t:TA}{id T:String}{r:List V->Hp->VK->Prop}
noncomputable def tCB(r:List V->Hp->VK->Prop)(t:TA):TE:=λO H Q=>t O H λvs H1=>r vs H1 Q
theorem dT2(hc:aB5 X (.builtin id) r)(hg:Gl X x)(hm:X.mg x=none)(hv:zO x=some (.builtin id))(ha:PA X (e::es) t)(hn:x≠ "__name__")(hdb:(x==("__debug__" :Str))=false)
 (he:zM (e::es) X.env= (false,eval e X.env)::zM es X.env) (hpl:(yR pos (zM es X.env)).any (·.1)=false):PE X (.Call (.Name x p) (e::es) [] pos) (tCB r t):=by
 intro pins s O H Q I h
 refine xv (aO4 I hg hm hv ?_ hn hdb)
 exact PyProof.Rows.callWith_builtin1 (thn (ha pos pins s O H _ I h) λus s1 hE1=>hE1.elim λvs H1 I1 r1 q1=>hc pins s1 O H1 vs us Q I1 r1 q1) he hpl
theorem dF5(hc:aB5 X (.type T) r)(hg:Gl X x)(hm:X.mg x=none)(hv:zO x=some (.type T))(ha:PA X (e::es) t)(hn:x≠ "__name__")(hdb:(x==("__debug__" :Str))=false)
 (he:zM (e::es) X.env= (false,eval e X.env)::zM es X.env) (hpl:(yR pos (zM es X.env)).any (·.1)=false):PE X (.Call (.Name x p) (e::es) [] pos) (tCB r t):=by
 intro pins s O H Q I h
 refine xv (aO4 I hg hm hv ?_ hn hdb)
 exact jF (thn (ha pos pins s O H _ I h) λus s1 hE1=>hE1.elim λvs H1 I1 r1 q1=>hc pins s1 O H1 vs us Q I1 r1 q1) he hpl
end
end L2
namespace HT
open PySem PyProof.Rows
section
open PySem.SeqAt
open PySem.AutoSeq1 (wpAny_loadPart')
open PySem.MeetsSeq PySem.MeetsSeq2 PySem.MeetsSeq3
end
section
variable{prog:zB}{w:zJ}{A:zF}{E:VSP}{s:zh}
theorem cat_tup{t b:Addr}{vs ws:List zf}{Q:VSP}(ht:ZU s.heap t vs.toArray)(hb:ZU s.heap b ws.toArray)(hv:vs≠ [])
 (h1:ws= []->Q (.ref t) s) (h2:ws≠ []->Q (.ref s.heap.objs.size) {s with heap:=s.heap.push {cls:=.type "tuple",data:=.seq (vs++ws).toArray}})
 (hsz:vs.length+ws.length<=zk):zp (zD prog w) A (jS .Add (.ref t) (.ref b)) Q E s:=by
 obtain⟨⟨cls,dd,data,sl⟩,ho,hc,n,hd⟩:=id ht
 obtain⟨⟨cls2,dd2,data2,sl2⟩,ho2,hc2,n2,hd2⟩:=id hb
 simp only at hc hd hc2 hd2
 subst hc hd hc2 hd2
 have e:vs.toArray++ws.toArray= (vs++ws).toArray:=by simp
 by_cases hw:ws= []
 · exact concat_meets ⟨_,ho,rfl⟩ ⟨_,ho2,rfl⟩ Xq JB Zo Zd (xU _ _)
    (tuple_addW1 t b vs.toArray ws.toArray n n2 dd dd2 sl sl2 (by simpa using hv) (by simp[hw])) ⟨ho,ho2,h1 hw⟩
 · refine concat_meets ⟨_,ho,rfl⟩ ⟨_,ho2,rfl⟩ Xq JB Zo Zd (xU _ _)
    (tuple_addW2 t b vs.toArray ws.toArray n n2 dd dd2 sl sl2 (by simpa using hv) (by simpa using hw) (by rw[zq,zq];exact hsz)) ⟨ho,ho2,?_⟩
   rw[e]
   exact h2 hw
noncomputable def sIx(n d:Nat):Option Int->Nat
 |none=>d
 |some v=>if v<0 then (v+(n:Int)).toNat else min v.toNat n
theorem sIx_none(n d:Nat):sIx n d none=d:=rfl
theorem sIx_nat(n d k:Nat):sIx n d (some (k:Int))=min k n:=by
 show (if (k:Int)<0 then ((k:Int)+(n:Int)).toNat else min (k:Int).toNat n)=min k n
 rw[if_neg (by lia),zW]
theorem eQ9(n d:Nat)(hd:d<=n)(o:Option Int):sIx n d o<=n:=by
 cases o with
 |none=>exact hd
 |some v=>
   show (if v<0 then (v+(n:Int)).toNat else min v.toNat n)<=n
   by_cases hv:v<0
   ·rw[if_pos hv];lia
   ·rw[if_neg hv];exact Nat.min_le_right _ _
theorem cY5(v:Int)(n d:Nat):(if v<0 then max (v+(n:Int)) 0 else min v (n:Int))= ((sIx n d (some v):Nat):Int):=by
 show (if v<0 then max (v+(n:Int)) 0 else min v (n:Int))= (((if v<0 then (v+(n:Int)).toNat else min v.toNat n):Nat):Int)
 by_cases hv:v<0
 ·simp only[if_pos hv];lia
 ·simp only[if_neg hv];lia
theorem cO8(lo hi:Option Int)(n:Nat):xC lo hi 1 (n:Int)= (((sIx n 0 lo:Nat):Int),((sIx n n hi:Nat):Int)):=by
 have h1:¬((1:Int)<0):=by lia
 unfold xC
 simp only[h1,if_false]
 refine Prod.ext ?_ ?_
 · cases lo with
   |none=>rfl
   |some v=>exact cY5 v n 0
 · cases hi with
   |none=>rfl
   |some v=>exact cY5 v n n
theorem cS3(i j:Nat):yL (i:Int) (j:Int) 1=j-i:=by
 unfold yL
 have h1:(1:Int)>0:=by lia
 simp only[h1,if_true,Int.ediv_one]
 split<;>lia
theorem bV2{v:zf}{o:Option Int}{Q:Option Int->zh->Prop}(p:IsPart v o)(h:Q o s):zp (zD prog w) A (Builtin.Slice.slicePartIndex v) Q E s:=by
 cases p with
 |none=>exact slicePart_none h
 |int i t=>exact slicePart_int h
theorem sliceApplied_gen{sl:Addr}{vl vu:zf}{lo hi:Option Int}{n:Nat}{Q:Int×Int×Nat->zh->Prop}(hs:s.heap.IsSliceOf sl vl vu .none)(pl:IsPart vl lo)(pu:IsPart vu hi)
 (h:Q (((sIx n 0 lo:Nat):Int),1,sIx n n hi-sIx n 0 lo) s):zp (zD prog w) A (Ya (.ref sl) (pure (n:Int))) Q E s:=by
 obtain⟨os,hos,hcs,hds⟩:=id hs
 unfold Ya Builtin.Slice.sliceFields
 refine za (za (js hos hds (x:=vl) rfl (za (js hos hds (x:=vu) rfl (za (js hos hds (x:=.none) rfl (zi ?_)))))))
 refine za (slicePart_none ?_)
 show zp _ _ (if ((1:Int)==0)=true then _ else _) _ _ s
 rw[if_neg (by decide)]
 refine za (bV2 pl (za (bV2 pu (za (zi ?_)))))
 show zp _ _ (match xC lo hi 1 (n:Int) with|(lo,hi)=>pure (lo,(1:Int),yL lo hi 1)) _ _ s
 rw[cO8 lo hi n]
 show zp _ _ (pure (((sIx n 0 lo:Nat):Int),(1:Int),yL ((sIx n 0 lo:Nat):Int) ((sIx n n hi:Nat):Int) 1)) _ _ s
 rw[cS3]
 exact zi h
theorem dT6(xs:Array zf)(i k:Nat):((jw k).filterMap fun(m:Nat)=>xs[((i:Int)+(m:Int)*1).toNat]?).toArray= ((xs.toList.drop i).take k).toArray:=by
 have e:(fun(m:Nat)=>xs[((i:Int)+(m:Int)*1).toNat]?)=λm=>xs[i+m]? :=by
  funext m
  have:((i:Int)+(m:Int)*1).toNat=i+m:=by lia
  rw[this]
 rw[e]
 have:=pick_run xs i k
 rw[List.filterMap_map]at this
 have e2:((λx=>xs[x]?)∘λx=>i+x)=λm=>xs[i+m]? :=rfl
 rw[e2]at this
 rw[this]
theorem getItem_tuple_cut{t sl:Addr}{items:Array zf}{vl vu:zf}{lo hi:Option Int}{Q:VSP}(ht:ZU s.heap t items)(hs:s.heap.IsSliceOf sl vl vu .none)(pl:IsPart vl lo)(pu:IsPart vu hi)
 (hw:¬(sIx items.size 0 lo=0/\sIx items.size items.size hi=items.size))
 (h:Q (.ref s.heap.objs.size) {s with heap:=s.heap.push {cls:=.type "tuple",data:=.seq ((items.toList.drop (sIx items.size 0 lo)).take (sIx items.size items.size hi-sIx items.size 0 lo)).toArray}})
 (hsz:items.size<=zk):zp (zD prog w) A (Xc (.ref t) (.ref sl)) Q E s:=by
 have htake:sizeOk (.seq ((items.toList.drop (sIx items.size 0 lo)).take (sIx items.size items.size hi-sIx items.size 0 lo)).toArray):=by
  show ((items.toList.drop (sIx items.size 0 lo)).take (sIx items.size items.size hi-sIx items.size 0 lo)).toArray.size<=zk
  rw[zq,yZ,YI,jl]
  lia
 have hj:sIx items.size items.size hi<=items.size:=eQ9 _ _ (zo _) hi
 obtain⟨os,hos,hcs,hds⟩:=id hs
 have hTs:s.TypeIs (.ref sl) "slice":=⟨os,hos,hcs⟩
 unfold Xc
 try with_reducible refine jz ?_
 first|refine za (zi ?_)|skip
 refine za (wpAny_sequenceKey ht.typeIs (by decide) ?_)
 refine za (zS (name:=je "__getitem__") ht.typeIs jq
  (zV jq ht.typeIs entry_tuple_getitem ?_ (args_tuple_getitem _ _)))
 show zp _ _ (ZZ (.ref t) >>= _) _ _ s
 refine za (tupleItemsOf_ ht ?_)
 refine za (yP hTs ?_)
 rw[if_pos (by decide)]
 refine za (sliceApplied_gen hs pl pu ?_)
 have hno:¬((((sIx items.size 0 lo:Nat):Int)==0&&(1:Int)==1&&(sIx items.size items.size hi-sIx items.size 0 lo)==items.size)=true):=by
  intro q
  rw[jn,jn]at q
  have q1:((sIx items.size 0 lo:Nat):Int)=0:=eq_of_beq q.1.1
  have q2:sIx items.size items.size hi-sIx items.size 0 lo=items.size:=eq_of_beq q.2
  exact hw ⟨by lia,by lia⟩
 show zp _ _ (if (((sIx items.size 0 lo:Nat):Int)==0&&(1:Int)==1&&(sIx items.size items.size hi-sIx items.size 0 lo)==items.size)=true then _ else _) _ _ s
 rw[if_neg hno,dT6]
 first
  |exact za (m:=yU _) (jH (zi ⟨_,rfl,zi h⟩) htake)
  |exact za (m:=yU _) (jH (za (zi (zi ⟨_,rfl,zi h⟩))) htake)
  |exact za (za (m:=yU _) (jH (zi (zi ⟨_,rfl,zi h⟩)) htake))
  |exact za (za (m:=yU _) (jH (zi ⟨_,rfl,zi h⟩) htake))
end
end HT
namespace L2
open PySem PySem.Spec PyProof.Rows
noncomputable abbrev TO:=St->Hp->(Option Int->Hp->Prop)->Prop
noncomputable def PO(X:Cx)(e:Option Expr)(t:TO):Prop:=
 ∀(pins:PNS) (s:zh) (O:St) (H:Hp) (Q:Option Int->Hp->Prop),Inv X pins O H s->t O H Q->
  zp (zD X.prog X.w) X.A (evalPart e X.env) (λu s'=>∃o H',Inv X pins O H' s'/\IsPart u o/\Q o H') X.xe s
noncomputable def dY4:TO:=λ_ H Q=>Q none H
noncomputable def eY3(t:TE):TO:=λO H Q=>t O H λx H1=>∃i,x= .int i/\Q (some i) H1
section
variable{X:Cx}{e:Expr}{te:TE}{lo hi:Option Expr}{tl th:TO}{pos p2:Pos}
theorem dX1:PO X none dY4:=by
 intro pins s O H Q I h
 rw[evalPart_none]
 exact zi ⟨none,H,I,.none,h⟩
theorem eC6(h:PE X e te):PO X (some e) (eY3 te):=by
 intro pins s O H Q I hw
 rw[evalPart_some]
 refine thn (h pins s O H _ I hw) λu s1 hE1=>hE1.elim λx H1 I1 r1 q1=>?_
 obtain⟨i,rfl,q⟩:=q1
 obtain⟨t,rfl⟩:=r1
 exact⟨some i,H1,I1,.int i t,q⟩
def SlR(X:Cx)(r:V->Option Int->Option Int->Hp->VK->Prop):Prop:=
 ∀(pins:PNS) (s:zh) (O:St) (H:Hp) (x:V) (v vl vu:zf) (lo hi:Option Int) (sl:Addr) (Q:VK),Inv X pins O H s->J9 x v->s.heap.IsSliceOf sl vl vu .none->IsPart vl lo->IsPart vu hi->r x lo hi H Q->
  ∃T id,ZO (.type T) "__getitem__" =pure (some (.builtin id))/\s.TypeIs v T/\zp (zD X.prog X.w) X.A (Xc v (.ref sl)) (EP X pins O Q) X.xe s
theorem SlR.or{r r':V->Option Int->Option Int->Hp->VK->Prop}(h:SlR X r)(h':SlR X r'):SlR X (λx lo hi H Q=>r x lo hi H Q\/r' x lo hi H Q):=by
 intro pins s O H x v vl vu lo hi sl Q I rx hs pl pu q
 rcases q with q|q
 ·exact h pins s O H x v vl vu lo hi sl Q I rx hs pl pu q
 ·exact h' pins s O H x v vl vu lo hi sl Q I rx hs pl pu q
noncomputable def tSl(r:V->Option Int->Option Int->Hp->VK->Prop)(te:TE)(tl th:TO):TE:=λO H Q=>te O H λx H1=>tl O H1 λl H2=>th O H2 λu H3=>r x l u H3 Q
theorem dI6{r:V->Option Int->Option Int->Hp->VK->Prop}(hr:SlR X r)(he:PE X e te)(hl:PO X lo tl)(hu:PO X hi th):PE X (.Subscript e (.Slice lo hi none p2) pos) (tSl r te tl th):=by
 intro pins s O H Q I h
 refine Subscript_ (thn (he pins s O H _ I h) λv s1 hE1=>hE1.elim λx H1 I1 r1 q1=>?_)
 refine wpAny_Slice (thn (hl pins s1 O H1 _ I1 q1) λvl s2 ⟨l,H2,I2,pl,q2⟩=>thn (hu pins s2 O H2 _ I2 q2) λvu s3 ⟨u,H3,I3,pu,q3⟩=>?_)
 rw[evalPart_none]
 refine zi ?_
 have I4:Inv X pins O H3 {s3 with heap:=s3.heap.push {cls:=.type "slice",data:=.fields #[vl,vu,.none]}}:=I3.kept (t':=s3.toks) λb ob q=>zg _ q
 obtain⟨T,id,hT,ht,hg⟩:=hr pins {s3 with heap:=s3.heap.push {cls:=.type "slice",data:=.fields #[vl,vu,.none]}} O H3 x v vl vu l u s3.heap.objs.size Q I4 r1 (Heap.IsSliceOf.new ..) pl pu q3
 show zp (zD X.prog X.w) X.A (subscriptTail e (.Slice lo hi none p2) v (.ref s3.heap.objs.size)) (EP X pins O Q) X.xe {s3 with heap:=s3.heap.push {cls:=.type "slice",data:=.fields #[vl,vu,.none]}}
 exact tail_any (ops:= [.ref s3.heap.objs.size,v]) ht hT hg (by with_unfolding_all rfl)
def bW5(xs:List V)(lo hi:Option Int):List V:=(xs.drop (HT.sIx xs.length 0 lo)).take (HT.sIx xs.length xs.length hi-HT.sIx xs.length 0 lo)
theorem bK9(xs:List V)(lo hi:Option Int):(bW5 xs lo hi).length<=xs.length:=by
 unfold bW5
 rw[yZ,YI]
 lia
def fI0(K:zj):V->Option Int->Option Int->Hp->VK->Prop:=λx lo hi H Q=>∃a xs,x= .ref a/\SqT K H a xs/\
 ¬(HT.sIx xs.length 0 lo=0/\HT.sIx xs.length xs.length hi=xs.length)/\∀p,H p=none->Q (.ref p) (upd H p (.tup (bW5 xs lo hi)))
theorem sl_tup:SlR X (fI0 X.K):=by
 intro pins s O H x v vl vu lo hi sl Q I rx hs pl pu h
 obtain⟨a,xs,rfl,hx,hw,q⟩:=h
 cases rx
 obtain⟨its,r,ht,hz⟩:=I.tuple hx
 have hlen:its.toArray.size=xs.length:=by rw[zq];exact r.length.symm
 refine⟨"tuple",_,jq.lookup,ht.typeIs,?_⟩
 refine HT.getItem_tuple_cut ht hs pl pu (by rw[hlen];exact hw) ?_ (by rw[hlen];exact hz)
 rw[hlen]
 refine⟨.ref s.heap.objs.size,_,I.laid (t':=s.toks) (o:=.tup (bW5 xs lo hi)) (λb ob q=>zg _ q) (zo _) ?_,rfl,q _ (I.hok.fresh (zo _))⟩
 exact⟨zI (bK9 xs lo hi) hz,_,(r.drop (HT.sIx xs.length 0 lo)).take (HT.sIx xs.length xs.length hi-HT.sIx xs.length 0 lo),aE9.new _ _⟩
def fC4(K:zj):R2:=λx y H Q=>∃a b xs ys,x= .ref a/\y= .ref b/\SqT K H a xs/\SqT K H b ys/\xs≠ []/\xs.length+ys.length<=zk/\
 (ys= []->Q (.ref a) H)/\(ys≠ []->∀p,H p=none->Q (.ref p) (upd H p (.tup (xs++ys))))
theorem J2.nil_iff{xs:List V}{us:List zf}(r:J2 xs us):us= []↔xs= []:=by
 cases r with
 |nil=>simp
 |cons _ _=>simp
theorem eA6:OpR X (jS .Add) (fC4 X.K):=by
 intro pins s O H x y v u Q I rx ry h
 obtain⟨a,b,xs,ys,rfl,rfl,ha,hb,hx,hz,q1,q2⟩:=h
 cases rx
 cases ry
 obtain⟨its,r1,p1,_⟩:=I.tuple ha
 obtain⟨its2,r2,p2,_⟩:=I.tuple hb
 refine HT.cat_tup p1 p2 (λz=>hx (r1.nil_iff.mp z)) (λz=>⟨.ref a,H,I,rfl,q1 (r2.nil_iff.mp z)⟩) (λz=>?_) (by rw[<-r1.length,<-r2.length];exact hz)
 refine⟨.ref s.heap.objs.size,_,I.laid (t':=s.toks) (o:=.tup (xs++ys)) (λb ob q=>zg _ q) (zo _) ?_,rfl,q2 (λw=>z (r2.nil_iff.mpr w)) _ (I.hok.fresh (zo _))⟩
 exact⟨by rw[zR];exact hz,_,r1.append r2,aE9.new _ _⟩
end
noncomputable def ixN(n:Nat)(i:Int):Option Nat:=if 0<=i then (if i<n then some i.toNat else none)else if -(n:Int)<=i then some (i+n).toNat else none
def atI{α:Type}(xs:List α)(i:Int):Option α:=(ixN xs.length i).bind λj=>xs[j]?
theorem dA2{n:Nat}{i:Int}{j:Nat}(h:ixN n i=some j):JM i n=some j/\j<n/\ -(n:Int)<=i/\i<n:=by
 unfold ixN at h
 by_cases h0:0<=i
 · rw[if_pos h0]at h
   by_cases h1:i<n
   · rw[if_pos h1]at h
     have e:i.toNat=j:=jo h
     exact⟨by rw[seqIndex_of h0 h1,e],by lia,by lia,h1⟩
   ·rw[if_neg h1]at h;cases h
 · rw[if_neg h0]at h
   by_cases h1: -(n:Int)<=i
   · rw[if_pos h1]at h
     have e:(i+n).toNat=j:=jo h
     exact⟨by rw[JX (by lia) h1,e],by lia,h1,by lia⟩
   ·rw[if_neg h1]at h;cases h
theorem cC8{α:Type}{xs:List α}{i:Int}{v:α}(h:atI xs i=some v):∃j,JM i xs.length=some j/\xs[j]? =some v/\j<xs.length/\ -(xs.length:Int)<=i/\i<xs.length:=by
 unfold atI at h
 cases e:ixN xs.length i with
 |none=>rw[e]at h;cases h
 |some j=>
   rw[e]at h
   obtain⟨h1,h2,h3,h4⟩:=dA2 e
   exact⟨j,h1,h,h2,h3,h4⟩
theorem atI_nat{α:Type}{xs:List α}{j:Nat}{v:α}(h:xs[j]? =some v):atI xs (j:Int)=some v:=by
 have hj:j<xs.length:=(xb.mp h).1
 have e:ixN xs.length (j:Int)=some j:=by
  unfold ixN
  rw[if_pos (by lia),if_pos (by lia)];simp
 unfold atI;rw[e];exact h
noncomputable def bN9(b:Expr):Prop:=∀o i,subscripted b false o i=operate [o,i] (Xc o i)
def IxR(X:Cx)(r:R2):Prop:=
 ∀(value slice:Expr) (pins:PNS) (s:zh) (O:St) (H:Hp) (x y:V) (v u:zf) (Q:VK),Inv X pins O H s->J9 x v->J9 y u->r x y H Q->
  subscripted slice false v u=operate [v,u] (Xc v u)->zp (zD X.prog X.w) X.A (subscriptTail value slice v u) (EP X pins O Q) X.xe s
def MtR(X:Cx)(id:String)(r:V->List V->Hp->VK->Prop):Prop:=
 ∀(pins:PNS) (s:zh) (O:St) (H:Hp) (x:V) (xs:List V) (v:zf) (us:List zf) (Q:VK),Inv X pins O H s->J9 x v->J2 xs us->r x xs H Q->
  zp (zD X.prog X.w) X.A (call (.builtin id) (v::us)) (EP X pins O Q) X.xe s
section
variable{X:Cx}{a b:Expr}{ta tb:TE}{pos:Pos}
theorem IxR.or{r r':R2}(h:IxR X r)(h':IxR X r'):IxR X (λx y H Q=>r x y H Q\/r' x y H Q):=by
 intro value slice pins s O H x y v u Q I rx ry q hs
 rcases q with q|q
 ·exact h value slice pins s O H x y v u Q I rx ry q hs
 ·exact h' value slice pins s O H x y v u Q I rx ry q hs
theorem MtR.or{id:String}{r r':V->List V->Hp->VK->Prop}(h:MtR X id r)(h':MtR X id r'):MtR X id (λx xs H Q=>r x xs H Q\/r' x xs H Q):=by
 intro pins s O H x xs v us Q I rx rs q
 rcases q with q|q
 ·exact h pins s O H x xs v us Q I rx rs q
 ·exact h' pins s O H x xs v us Q I rx rs q
theorem eX1{r:R2}(hr:IxR X r)(ha:PE X a ta)(hb:PE X b tb)(hs:bN9 b):PE X (.Subscript a b pos) (tOp r ta tb):=by
 intro pins s O H Q I h
 exact Subscript_ (eM5 ha hb I h λv u s2 x y H2 I2 rx ry q=>hr a b pins s2 O H2 x y v u Q I2 rx ry q (hs _ _))
def fH2(K:zj):R2:=λx y H Q=>∃p xs i v,x= .ref p/\y= .int i/\SqL K H p xs/\atI xs i=some v/\Q v H
def fI4(K:zj):R2:=λx y H Q=>∃p xs i v,x= .ref p/\y= .int i/\SqT K H p xs/\atI xs i=some v/\Q v H
def fI9:R2:=λx y H Q=>∃z i c,x= .str z/\y= .int i/\z.length<=zk/\atI z.cps.toList i=some c/\Q (.str ⟨#[c]⟩) H
theorem eD5:IxR X (fH2 X.K):=by
 intro value slice pins s O H x y v u Q I rx ry h hs
 obtain⟨p,xs,i,z,rfl,rfl,hq,he,q⟩:=h
 cases rx
 obtain⟨t,rfl⟩:=ry
 obtain⟨its,r,pl,hz⟩:=I.list hq
 obtain⟨j,h1,h2,h3,h4,h5⟩:=cC8 he
 obtain⟨w,ew,rw'⟩:=r.get h2
 have hl:=r.length
 have hn:=bC5
 have fin:EP X pins O Q w s:=⟨z,H,I,rw',q⟩
 by_cases h0:0<=i
 · have hj:i.toNat=j:=by
    rw[seqIndex_of h0 h5]at h1
    exact jo h1
   exact item_listR pl.isList h0 (by lia) (by rw[hj];simpa using ew) fin hs
 · have hj:(i+(its.toArray.size:Int)).toNat=j:=by
    rw[JX (by lia) h4]at h1
    rw[zq,<-hl]
    exact jo h1
   exact ZR (x:=w) pl.isList.typeIs slot_list_getitem.lookup
    (wpAny_getItem_list_neg (Q:=λr s'=>r=w/\EP X pins O Q r s') pl.isList (by lia) (by rw[zq]<;>lia) (by lia) (by rw[hj];simpa using ew) ⟨rfl,fin⟩) hs
theorem ix_tup:IxR X (fI4 X.K):=by
 intro value slice pins s O H x y v u Q I rx ry h hs
 obtain⟨p,xs,i,z,rfl,rfl,hq,he,q⟩:=h
 cases rx
 obtain⟨t,rfl⟩:=ry
 obtain⟨its,r,pl,hz⟩:=I.tuple hq
 obtain⟨j,h1,h2,h3,h4,h5⟩:=cC8 he
 obtain⟨w,ew,rw'⟩:=r.get h2
 have hl:=r.length
 have hn:=bC5
 have fin:EP X pins O Q w s:=⟨z,H,I,rw',q⟩
 exact ZR (x:=w) pl.typeIs jq.lookup
  (getItem_tuple (j:=j) (Q:=λr s'=>r=w/\EP X pins O Q r s') pl (by lia) (by lia) (by rw[zq,<-hl];exact h1) (by simpa using ew) ⟨rfl,fin⟩) hs
theorem ix_str:IxR X fI9:=by
 intro value slice pins s O H x y v u Q I rx ry h hs
 obtain⟨z,i,c,rfl,rfl,hz,he,q⟩:=h
 obtain⟨t,rfl⟩:=rx
 obtain⟨t',rfl⟩:=ry
 obtain⟨j,h1,h2,h3,h4,h5⟩:=cC8 he
 have hl:z.cps.toList.length=z.length:=by simp[Str.length]
 rw[hl]at h1 h4 h5
 have hn:=bC5
 exact tail_any (typeIs_str s z t) slot_str_getitem.lookup (getItem_str (c:=c) (by
  have e1:decide (i < -(2 ^ 63:Int))=false:=decide_eq_false (by lia)
  have e2:decide (i>=2 ^ 63)=false:=decide_eq_false (by lia)
  rw[e1,e2,Zi]) (by rw[h1];simpa using h2) ⟨.str ⟨#[c]⟩,H,I.tok _,⟨_,rfl⟩,q⟩) hs
theorem cN6(its:List zf)(n j:Nat)(u:zf):xk (·.setIfInBounds j u) {cls:=.type "list",data:=.seq its.toArray n}= {cls:=.type "list",data:=.seq (its.set j u).toArray n}:=by
 simp[xk]
theorem Inv.lst{pins:PNS}{O:St}{H:Hp}{s:zh}{p:Addr}{xs:List V}(I:Inv X pins O H s)(h:H p=some (.lst xs)):
 ∃(its:List zf) (n:Nat),J2 xs its/\s.heap.get? p=some {cls:=.type "list",data:=.seq its.toArray n}/\xs.length<=zk:=by
 obtain⟨z,its,n,r,e⟩:=I.hok p _ h
 exact⟨its,n,r,e,z⟩
theorem Inv.lstUpd{pins:PNS}{O:St}{H:Hp}{s:zh}{p:Addr}{xs ys:List V}{its its':List zf}{n n':Nat}{f:Obj->Obj}(I:Inv X pins O H s)(h:H p=some (.lst xs))
 (ho:s.heap.get? p=some {cls:=.type "list",data:=.seq its.toArray n}) (hf:f {cls:=.type "list",data:=.seq its.toArray n}= {cls:=.type "list",data:=.seq its'.toArray n'}) (r:J2 ys its') (hz:ys.length<=zk) (t:Nat):
 Inv X pins O (upd H p (.lst ys)) {s with heap:=s.heap.update p f,toks:=t}:=by
 have e:(s.heap.update p f).get? p=some {cls:=.type "list",data:=.seq its'.toArray n'}:=by
  rw[jU f ho (by rw[hf]<;>rfl),hf]
 refine I.write (x:=p) (e:=p) (by rw[h];trivial) (.inl rfl) (λb u hb q=>(jN _ _ (Ne.symm hb)).trans q) ⟨_,e⟩ ?_
 exact⟨hz,its',n',r,e⟩
def eZ9:V->V->V->Hp->(Hp->Prop)->Prop:=λo i v H Q=>∃p xs k j,o= .ref p/\i= .int k/\H p=some (.lst xs)/\ixN xs.length k=some j/\Q (upd H p (.lst (xs.set j v)))
theorem dQ9:eI2 X eZ9:=by
 intro pins s O H o i v ov iv u Q I ro ri rv h
 obtain⟨p,xs,k,j,rfl,rfl,hp,hj,q⟩:=h
 cases ro
 obtain⟨t,rfl⟩:=ri
 obtain⟨its,n,r,ho,hz⟩:=I.lst hp
 obtain⟨h1,h2,h3,h4⟩:=dA2 hj
 have hl:=r.length
 have hn:=bC5
 have I':Inv X pins O (upd H p (.lst (xs.set j v))) {s with heap:=s.heap.update p (xk (·.setIfInBounds j u))}:=
  I.lstUpd hp ho (cN6 its n j u) (r.set rv j) (by rw[YY];exact hz) s.toks
 by_cases h0:0<=k
 · have hk:k.toNat=j:=by
    rw[seqIndex_of h0 h4]at h1
    exact jo h1
   exact PySem.W.ki_setAt ho h0 (by lia) (by rw[zq,<-hl];exact h4) (by rw[hk];exact⟨_,I',q⟩)
 · have hk:(k+(its.toArray.size:Int)).toNat=j:=by
    rw[JX (by lia) h3]at h1
    rw[zq,<-hl]
    exact jo h1
   exact PySem.W.ki_setBack ho (by lia) (by rw[zq,<-hl];exact h3) (by lia) (by rw[hk];exact⟨_,I',q⟩)
theorem cF7(lo hi:Option Int)(n:Nat):(xN lo hi none n).1= ((HT.sIx n 0 lo:Nat):Int)/\(xN lo hi none n).2.1= ((HT.sIx n n hi:Nat):Int)/\(xN lo hi none n).2.2=1:=by
 refine⟨?_,?_,rfl⟩
 · cases lo with
   |none=>simp[xN,HT.sIx]
   |some i=>
     simp only[xN,HT.sIx,JS,show (1:Int)>0 by decide,if_true]
     by_cases h:i<0
     ·simp only[h,if_true]<;>lia
     ·simp only[h,if_false]<;>lia
 · cases hi with
   |none=>simp[xN,HT.sIx]
   |some i=>
     simp only[xN,HT.sIx,JS,show (1:Int)>0 by decide,if_true]
     by_cases h:i<0
     ·simp only[h,if_true]<;>lia
     ·simp only[h,if_false]<;>lia
theorem bV7(its:List zf)(lo hi:Option Int):slicePick its.toArray lo hi none= ((its.drop (HT.sIx its.length 0 lo)).take (HT.sIx its.length its.length hi-HT.sIx its.length 0 lo)).toArray:=by
 obtain⟨h1,h2,h3⟩:=cF7 lo hi its.toArray.size
 unfold slicePick
 rw[h1,h2,h3]
 simp only[sliceRange_one,pick_run,zq]<;>rfl
def fF3(K:zj):V->Option Int->Option Int->Hp->VK->Prop:=λx lo hi H Q=>∃a xs,x= .ref a/\SqL K H a xs/\∀p,H p=none->Q (.ref p) (upd H p (.lst (bW5 xs lo hi)))
theorem eD4:SlR X (fF3 X.K):=by
 intro pins s O H x v vl vu lo hi sl Q I rx hs pl pu h
 obtain⟨a,xs,rfl,hx,q⟩:=h
 cases rx
 obtain⟨its,r,ht,hz⟩:=I.list hx
 have hlen:=r.length
 refine⟨"list",_,slot_list_getitem.lookup,ht.isList.typeIs,?_⟩
 refine wpAny_getItem_list_slice ht.isList hs pl pu .none (by simp) ?_ (by rw[zq]<;>lia)
 rw[bV7,<-hlen]
 refine⟨.ref s.heap.objs.size,_,I.laid (t':=s.toks) (o:=.lst (bW5 xs lo hi)) (λb ob q=>zg _ q) (zo _) ?_,rfl,q _ (I.hok.fresh (zo _))⟩
 exact⟨zI (bK9 xs lo hi) hz,_,0,(r.drop (HT.sIx xs.length 0 lo)).take (HT.sIx xs.length xs.length hi-HT.sIx xs.length 0 lo),zm _ rfl⟩
noncomputable def aZ9:V->Bool
 | .non=>true
 | .bl _=>true
 | .int _=>true
 | .str _=>true
 |_=>false
noncomputable def eqV:V->V->Bool
 | .non,.non=>true
 | .bl a,.bl b=>a==b
 | .bl a,.int b=>(if a then 1 else 0)==b
 | .int a,.bl b=>a==(if b then 1 else 0)
 | .int a,.int b=>a==b
 | .str a,.str b=>a==b
 |_,_=>false
theorem eL3{A:zF}{s:zh}{y x:V}{u v:zf}(ry:J9 y u)(rx:J9 x v)(fy:aZ9 y=true)(fx:aZ9 x=true):yr A s u v (eqV y x):=by
 cases y with
 |non=>
   cases ry
   cases x with
   |non=>cases rx;exact Yd _
   |bl b=>cases rx;exact Xj b
   |int b=>obtain⟨t,rfl⟩:=rx;exact Xw b t
   |str b=>obtain⟨t,rfl⟩:=rx;exact Xv b t
   |_=>exact absurd (show false=true from fx) zX
 |bl a=>
   cases ry
   cases x with
   |non=>cases rx;exact Xk a
   |bl b=>cases rx;exact Xl a b
   |int b=>obtain⟨t,rfl⟩:=rx;exact XA a b t
   |str b=>obtain⟨t,rfl⟩:=rx;exact Xz a b t
   |_=>exact absurd (show false=true from fx) zX
 |int a=>
   obtain⟨t',rfl⟩:=ry
   cases x with
   |non=>cases rx;exact Xx a t'
   |bl b=>cases rx;exact Xy a t' b
   |int b=>obtain⟨t,rfl⟩:=rx;exact XI a t' b t
   |str b=>obtain⟨t,rfl⟩:=rx;exact ZJ a t' b t
   |_=>exact absurd (show false=true from fx) zX
 |str a=>
   obtain⟨t',rfl⟩:=ry
   cases x with
   |non=>cases rx;exact Xt a t'
   |bl b=>cases rx;exact Xu a t' b
   |int b=>obtain⟨t,rfl⟩:=rx;exact ZI a t' b t
   |str b=>obtain⟨t,rfl⟩:=rx;exact XH a t' b t
   |_=>exact absurd (show false=true from fx) zX
 |_=>exact absurd (show false=true from fy) zX
def eqU(x:V)(u:zf):Bool:=match u with
 | .none=>eqV .non x
 | .bool b=>eqV (.bl b) x
 | .int i _=>eqV (.int i) x
 | .str z _=>eqV (.str z) x
 |_=>false
theorem dH8{x y:V}{u:zf}(r:J9 y u)(f:aZ9 y=true):eqU x u=eqV y x:=by
 cases y with
 |non=>cases r;rfl
 |bl b=>cases r;rfl
 |int i=>obtain⟨t,rfl⟩:=r;rfl
 |str z=>obtain⟨t,rfl⟩:=r;rfl
 |_=>exact absurd (show false=true from f) zX
theorem bN7{x:V}{xs:List V}{us:List zf}(h:J2 xs us)(f:xs.all aZ9=true):us.any (eqU x)=xs.any λy=>eqV y x:=by
 induction h with
 |nil=>rfl
 |cons r t ih=>
   rw[ya,jn]at f
   rw[ju,ju,dH8 r f.1,ih f.2]
theorem aV5{A:zF}{s:zh}{x:V}{v:zf}(rx:J9 x v)(fx:aZ9 x=true):∀ {xs:List V} {us:List zf},J2 xs us->xs.all aZ9=true->∀u∈us,yr A s u v (eqU x u)
 |_,_,.nil,_=>λu hu=>by cases hu
 |y::xs,u::us,.cons r t,f=>λu' hu=>by
   rw[ya,jn]at f
   rcases zw.mp hu with rfl|hu
   ·rw[dH8 r f.1];exact eL3 r rx f.1 fx
   ·exact aV5 rx fx t f.2 u' hu
def inV(x:V)(xs:List V):Bool:=xs.any λy=>eqV y x
def rIn(K:zj)(neg:Bool):R2:=λx y H Q=>∃p xs,y= .ref p/\(SqL K H p xs\/SqT K H p xs)/\aZ9 x=true/\xs.all aZ9=true/\Q (.bl (if neg then !inV x xs else inV x xs)) H
theorem dC9:OpR X (zT .In) (rIn X.K false):=by
 intro pins s O H x y v u Q I rx ry h
 obtain⟨p,xs,rfl,hq,fx,fs,q⟩:=h
 cases ry
 rcases hq with hq|hq
 · obtain⟨its,r,pl,hz⟩:=I.list hq
   refine SeqAt.in_listAt (eqU x) pl.isList (λw hw=>aV5 rx fx r fs w (by simpa using hw)) ⟨.bl _,H,I,rfl,?_⟩
   rw[show its.toArray.any (eqU x)=its.any (eqU x) by simp,bN7 r fs]
   exact q
 · obtain⟨its,r,pl,hz⟩:=I.tuple hq
   refine SeqAt.in_tupleAt (eqU x) pl (λw hw=>aV5 rx fx r fs w (by simpa using hw)) ⟨.bl _,H,I,rfl,?_⟩
   rw[show its.toArray.any (eqU x)=its.any (eqU x) by simp,bN7 r fs]
   exact q
theorem cG8:OpR X (zT .NotIn) (rIn X.K true):=by
 intro pins s O H x y v u Q I rx ry h
 obtain⟨p,xs,rfl,hq,fx,fs,q⟩:=h
 cases ry
 rcases hq with hq|hq
 · obtain⟨its,r,pl,hz⟩:=I.list hq
   refine SeqAt.notIn_listAt (eqU x) pl.isList (λw hw=>aV5 rx fx r fs w (by simpa using hw)) ⟨.bl _,H,I,rfl,?_⟩
   rw[show its.toArray.any (eqU x)=its.any (eqU x) by simp,bN7 r fs]
   exact q
 · obtain⟨its,r,pl,hz⟩:=I.tuple hq
   refine SeqAt.notIn_tupleAt (eqU x) pl (λw hw=>aV5 rx fx r fs w (by simpa using hw)) ⟨.bl _,H,I,rfl,?_⟩
   rw[show its.toArray.any (eqU x)=its.any (eqU x) by simp,bN7 r fs]
   exact q
theorem cC0:OpR X (zT .NotIn) (λx y H Q=>∃i j,x= .str i/\y= .str j/\Q (.bl (!(!(xP j i 0 j.length 1).isEmpty))) H):=by
 intro pins s O H x y v u Q I rx ry h
 obtain⟨i,j,rfl,rfl,q⟩:=h
 obtain⟨t,rfl⟩:=rx
 obtain⟨t',rfl⟩:=ry
 exact notIn_str ⟨.bl _,H,I,rfl,q⟩
theorem cE1:aB5 X (.builtin "len") (λxs H Q=>∃p ys,xs= [.ref p]/\(SqL X.K H p ys\/SqT X.K H p ys)/\Q (.int ys.length) H):=by
 intro pins s O H xs us Q I r h
 obtain⟨p,ys,rfl,hq,q⟩:=h
 obtain⟨u,rfl,rx⟩:=aI5 r
 cases rx
 have hn:=bC5
 rcases hq with hq|hq
 · obtain⟨its,r',pl,hz⟩:=I.list hq
   have hlen:=r'.length
   exact Calls.call_len_list pl.isList (by simp only[zq]<;>lia) ⟨.int ys.length,H,I.tok _,⟨s.toks+1,by rw[zq,hlen]⟩,q⟩
 · obtain⟨its,r',pl,hz⟩:=I.tuple hq
   have hlen:=r'.length
   exact len_tuple pl (by simp only[zq]<;>lia) ⟨.int ys.length,H,I.tok _,⟨s.toks+1,by rw[zq,hlen]⟩,q⟩
theorem cD2:aB5 X (.builtin "len") (λxs H Q=>∃z,xs= [.str z]/\z.length<=zk/\Q (.int z.length) H):=by
 intro pins s O H xs us Q I r h
 obtain⟨z,rfl,hz,q⟩:=h
 obtain⟨u,rfl,t,rfl⟩:=aI5 r
 have hn:=bC5
 exact len_str (by lia) ⟨.int z.length,H,I.tok _,⟨_,rfl⟩,q⟩
theorem aB5.or{f:zf}{r r':List V->Hp->VK->Prop}(h:aB5 X f r)(h':aB5 X f r'):aB5 X f (λxs H Q=>r xs H Q\/r' xs H Q):=by
 intro pins s O H xs us Q I rs q
 rcases q with q|q
 ·exact h pins s O H xs us Q I rs q
 ·exact h' pins s O H xs us Q I rs q
theorem cF5:aB5 X (.type "list") (λxs H Q=>∃p ys,xs= [.ref p]/\(SqL X.K H p ys\/SqT X.K H p ys)/\∀l,H l=none->Q (.ref l) (upd H l (.lst ys))):=by
 intro pins s O H xs us Q I r h
 obtain⟨p,ys,rfl,hq,q⟩:=h
 obtain⟨u,rfl,rx⟩:=aI5 r
 cases rx
 have fin:∀(its:List zf),J2 ys its->ys.length<=zk->∀(h':Heap) (c':Nat),(∀b o',s.heap.get? b=some o'->h'.get? b=some o')->
  h'.get? s.heap.objs.size=some {cls:=.type "list",dict:=none,data:=.seq its.toArray c',slots:= #[]}->EP X pins O Q (.ref s.heap.objs.size) {s with heap:=h'}:=λits r' hz h' c' kp e=>
  ⟨.ref s.heap.objs.size,_,I.laid (t':=s.toks) kp (zo _) (show X6 X.prog X.w _ h' _ (.lst ys) from⟨hz,its,c',r',e⟩),rfl,q _ (I.hok.fresh (zo _))⟩
 rcases hq with hq|hq
 · obtain⟨its,r',pl,hz⟩:=I.list hq
   have hlen:=r'.length
   obtain⟨o,ho,hc,n,hd⟩:=pl.isList
   exact call_list_seq p (.inl rfl) ho hc hd (λh' c' kp e=>fin its r' hz h' c' kp e) (by simp only[zq]<;>lia)
 · obtain⟨its,r',pl,hz⟩:=I.tuple hq
   have hlen:=r'.length
   obtain⟨o,ho,hc,n,hd⟩:=pl
   exact call_list_seq p (.inr rfl) ho hc hd (λh' c' kp e=>fin its r' hz h' c' kp e) (by simp only[zq]<;>lia)
theorem bV9:aB5 X (.type "tuple") (λxs H Q=>∃p ys,xs= [.ref p]/\((SqL X.K H p ys/\∀l,H l=none->Q (.ref l) (upd H l (.tup ys)))\/(SqT X.K H p ys/\Q (.ref p) H))):=by
 intro pins s O H xs us Q I r h
 obtain⟨p,ys,rfl,h⟩:=h
 obtain⟨u,rfl,rx⟩:=aI5 r
 cases rx
 rcases h with⟨hq,q⟩|⟨hq,q⟩
 · obtain⟨its,r',pl,hz⟩:=I.list hq
   have hlen:=r'.length
   refine call_tuple_list pl.isList (λh' kp=>?_) (by simp only[zq]<;>lia)
   have I1:Inv X pins O H {s with heap:=h'}:=I.kept (t':=s.toks) kp
   have I2:Inv X pins O (upd H h'.objs.size (.tup ys)) {s with heap:=h'.push {cls:=.type "tuple",data:=.seq its.toArray}}:=
    I1.laid (t':=s.toks) (λb o e=>zg _ e) (zo _) (show X6 X.prog X.w _ _ _ (.tup ys) from⟨hz,its,r',aE9.new _ _⟩)
   exact⟨.ref h'.objs.size,_,I2,rfl,q _ (I1.hok.fresh (zo _))⟩
 · obtain⟨its,r',pl,hz⟩:=I.tuple hq
   exact call_tuple_same pl ⟨.ref p,H,I,rfl,q⟩
def tyV(K:zj)(T:String)(x:V)(H:Hp):Prop:=match x with
 | .str _=>T= "str"
 | .int _=>T= "int"
 | .ref p=>(T= "list"/\∃xs,SqL K H p xs)\/(T= "tuple"/\∃o,K.lookup p=some o/\o.cls= .type "tuple"/\o.dict=none)\/
    (T= "dict"/\((∃kvs,H p=some (.dK kvs))\/∃kvs,H p=some (.dT kvs)))\/(T= "set"/\∃S n,H p=some (.set S n))
 |_=>False
theorem dR2{pins:PNS}{O:St}{H:Hp}{s:zh}{T:String}{x:V}{v:zf}(I:Inv X pins O H s)(r:J9 x v)(ty:tyV X.K T x H):
 s.TypeIs v T/\∀a,v= .ref a->∃ob,s.heap.get? a=some ob/\ob.dict=none:=by
 cases x with
 |str z=>
   obtain⟨t,rfl⟩:=r
   cases (show T= "str" from ty)
   exact⟨typeIs_str s z t,λ_ e=>nomatch e⟩
 |int i=>
   obtain⟨t,rfl⟩:=r
   cases (show T= "int" from ty)
   exact⟨typeIs_int s i t,λ_ e=>nomatch e⟩
 |ref p=>
   cases r
   rcases ty with⟨rfl,xs,hq⟩|⟨rfl,o,hk,hc,hd⟩|⟨rfl,hk⟩|⟨rfl,S,n,hk⟩
   · obtain⟨its,_,pl,_⟩:=I.list hq
     refine⟨pl.isList.typeIs,λa e=>?_⟩
     cases e
     obtain⟨o,n,e,c,hd,_⟩:=pl
     exact⟨o,e,hd⟩
   · refine⟨⟨o,I.kIn p o hk,hc⟩,λa e=>?_⟩
     cases e
     exact⟨o,I.kIn _ o hk,hd⟩
   · have z:∃o,s.heap.get? p=some o/\o.ExactDict:=by
      rcases hk with⟨kvs,hk⟩|⟨kvs,hk⟩
      · obtain⟨_,_,_,_,o,_,_,e,ex,_⟩:=I.hok p _ hk
        exact⟨o,e,ex⟩
      · obtain⟨_,_,_,_,o,_,_,e,ex,_⟩:=I.hok p _ hk
        exact⟨o,e,ex⟩
     obtain⟨o,e,ex⟩:=z
     refine⟨⟨o,e,ex.1⟩,λa e2=>?_⟩
     cases e2
     exact⟨o,e,ex.2.1⟩
   · obtain⟨o,_,_,_,e,ex,_⟩:=I.hok p _ hk
     refine⟨⟨o,e,ex.1⟩,λa e2=>?_⟩
     cases e2
     exact⟨o,e,ex.2.1⟩
 |_=>exact yj ty
def fH8(K:zj)(T:String)(r:V->List V->Hp->VK->Prop)(to:TE):TE:=λO H Q=>to O H λx H1=>tyV K T x H1/\r x [] H1 Q
def tBM(K:zj)(T:String)(r:V->List V->Hp->VK->Prop)(to:TE)(t:TA):TE:=λO H Q=>to O H λx H1=>tyV K T x H1/\t O H1 λxs H2=>r x xs H2 Q
variable{o e:Expr}{es:List Expr}{to:TE}{t:TA}{name:Str}{apos cpos:Pos}{T id:String}{r:V->List V->Hp->VK->Prop}
theorem eJ5(pa:PlainAttrs T)(slot:Slot T name id)(hty:typeOf (.builtin id)=pure (.type "method_descriptor"))(hm:MtR X id r)(ho:PE X o to)
 (hbase:xn o name X.env (eval o X.env)=eval o X.env) (hline:(apos.endLine==cpos.line)=true):PE X (.Call (.Attribute o name apos) [] [] cpos) (fH8 X.K T r to):=by
 intro pins s O H Q I h
 refine wpAny_Call_method0_late hbase hline (thn (ho pins s O H _ I h) λv s1 ⟨x,H1,I1,r1,ty,q1⟩=>?_)
 obtain⟨h1,h2⟩:=dR2 I1 r1 ty
 exact⟨T,id,pa,slot,hty,h1,h2,XR rfl (PySem.evalArgs_none (hm pins s1 O H1 x [] v [] Q I1 r1 .nil q1))⟩
theorem eE5(pa:PlainAttrs T)(slot:Slot T name id)(hty:typeOf (.builtin id)=pure (.type "method_descriptor"))(hm:MtR X id r)(ho:PE X o to)(ha:PA X (e::es) t)
 (hbase:xn o name X.env (eval o X.env)=eval o X.env)
 (hfew:((yR cpos (zM (e::es) X.env)).all (λx=> !x.1)&&(Jb cpos (Yi [] X.env)).all (λx=>x.1.isSome)
   && decide ((e::es).length+([]:List Keyword).length+(if ([]:List Keyword).isEmpty then 0 else 1)<30))=true)
 (hline:(apos.endLine==cpos.line)=true) (hs:zM (e::es) X.env= (false,eval e X.env)::zM es X.env) (hplain:(yR cpos (zM es X.env)).any (·.1)=false):
 PE X (.Call (.Attribute o name apos) (e::es) [] cpos) (tBM X.K T r to t):=by
 intro pins s O H Q I h
 refine wpAny_Call_method_late hbase hfew hline rfl (thn (ho pins s O H _ I h) λv s1 ⟨x,H1,I1,r1,ty,q1⟩=>?_)
 obtain⟨h1,h2⟩:=dR2 I1 r1 ty
 refine⟨T,id,pa,slot,hty,h1,h2,?_⟩
 have hA:=ha cpos pins s1 O H1 _ I1 q1
 rw[hs]at hA ⊢
 refine XR (by show (false||(yR cpos (zM es X.env)).any (·.1))=false;rw[hplain]<;>rfl) (Calls.evalArgs_plain ?_)
 exact thn hA λus s2 hE1=>hE1.elim λvs H2 I2 r2 q2=>hm pins s2 O H2 x vs v us Q I2 r1 r2 q2
end
def MtM(X:Cx)(id:String)(r:V->List V->Hp->VK->Prop):Prop:=
 ∀(pins:PNS) (s:zh) (O:St) (H:Hp) (x:V) (xs:List V) (v:zf) (us:List zf) (Q:VK),Inv X pins O H s->J9 x v->J2 xs us->r x xs H Q->
  zp (zD X.prog X.w) X.A (call (.builtin id) (v::us)) (EP X pins O Q) X.xe s
theorem J2.one{x:V}{us:List zf}(h:J2 [x] us):∃u,us= [u]/\J9 x u:=by
 cases h with
 |cons r t=>cases t;exact⟨_,rfl,r⟩
theorem J2.zero:∀ {us:List zf},J2 [] us->us= []
 |_,.nil=>rfl
theorem J2.dropLast{xs:List V}{us:List zf}(h:J2 xs us):J2 xs.dropLast us.dropLast:=by
 induction h with
 |nil=>exact .nil
 |cons r t ih=>
   cases t with
   |nil=>exact .nil
   |cons q t'=>exact .cons r ih
theorem J2.eraseIdx:∀ {xs:List V} {us:List zf} (i:Nat),J2 xs us->J2 (xs.eraseIdx i) (us.eraseIdx i)
 |_,_,_,.nil=>.nil
 |_,_,0,.cons _ t=>t
 |_,_,i+1,.cons r t=>.cons r (J2.eraseIdx i t)
theorem J2.reverse{xs:List V}{us:List zf}(h:J2 xs us):J2 xs.reverse us.reverse:=by
 induction h with
 |nil=>exact .nil
 |cons r t ih=>rw[xt,xt];exact J2.append ih (.cons r .nil)
theorem cS0{α:Type}(l:List α):l.eraseIdx (l.length-1)=l.dropLast:=by
 induction l with
 |nil=>rfl
 |cons a r ih=>
   cases r with
   |nil=>rfl
   |cons b r=>
     have e:(a::b::r).length-1= ((b::r).length-1)+1:=by
      have h1:(a::b::r).length=r.length+2:=rfl
      have h2:(b::r).length=r.length+1:=rfl
      lia
     rw[e,List.eraseIdx_cons_succ,ih]
     all_goals rfl
theorem cA1{α:Type}:∀(l:List α) (i:Nat),(l.eraseIdx i).length<=l.length
 |[],_=>zo _
 |_::_,0=>xF _
 |_::r,i+1=>Nat.succ_le_succ (cA1 r i)
section
variable{X:Cx}{pins:PNS}{O:St}{H:Hp}{s:zh}{l b:Addr}{xs ys zs:List V}
theorem Inv.lset{its its':List zf}{n:Nat}{f:Array zf->Array zf}{t':Nat}(I:Inv X pins O H s)(hH:H l=some (.lst xs))
 (e:s.heap.get? l=some {cls:=.type "list",data:=.seq its.toArray n}) (hf:f its.toArray=its'.toArray) (hv:J2 ys its') (hz:ys.length<=zk):
 Inv X pins O (upd H l (.lst ys)) {s with heap:=s.heap.update l (xk f),toks:=t'}:=by
 have q:=PySem.IsL.update e f
 rw[hf]at q
 refine I.write (x:=l) (e:=l) (by rw[hH];exact trivial) (.inl rfl) (λb' u hb hu=>(jN s.heap (xk f) (Ne.symm hb)).trans hu) ⟨_,q⟩ ?_
 exact⟨hz,its',_,hv,q⟩
theorem Inv.lnew{its:List zf}{t':Nat}(I:Inv X pins O H s)(hv:J2 ys its)(hz:ys.length<=zk):
 Inv X pins O (upd H s.heap.objs.size (.lst ys)) {s with heap:=s.heap.push {cls:=.type "list",data:=.seq its.toArray},toks:=t'}:=
 I.laid (λ_ _ q=>zg _ q) (zo _) ⟨hz,its,0,hv,zm _ rfl⟩
theorem Inv.fresh(I:Inv X pins O H s):H s.heap.objs.size=none:=I.hok.fresh (zo _)
theorem Inv.lstM(I:Inv X pins O H s)(hH:H l=some (.lst xs)):xs.length<=zk/\∃(its:List zf) (n:Nat),J2 xs its/\xs.length=its.length/\s.heap.get? l=some {cls:=.type "list",data:=.seq its.toArray n}:=by
 obtain⟨z,its,n,r,e⟩:=I.hok l _ hH
 exact⟨z,its,n,r,r.length,e⟩
theorem dO7{n:Nat}(h:n<=zk):xG n=false:=by
 unfold xG
 exact decide_eq_false (by lia)
end
section
variable{X:Cx}
def eB7:V->List V->Hp->VK->Prop:=λx vs H Q=>∃l xs y,x= .ref l/\vs= [y]/\H l=some (.lst xs)/\xs.length<zk/\Q .non (upd H l (.lst (xs++[y])))
theorem bZ6:MtM X "list.append" eB7:=by
 intro pins s O H x vs v us Q I rx rv h
 obtain⟨l,xs,y,rfl,rfl,hH,hz,q⟩:=h
 cases rx
 obtain⟨u,rfl,ru⟩:=rv.one
 obtain⟨z,its,n,r,hl,e⟩:=I.lstM hH
 refine ZQ Jd ⟨_,e,rfl⟩ F.entry_list_append (F.args_list_append_2 _ _) (PySem.list_append l its.toArray n u (by rw[zq];lia)) ⟨e,?_⟩
 refine⟨.non,_,I.lset (its':=its++[u]) hH e (by simp) (r.append (.cons ru .nil)) ?_,rfl,q⟩
 rw[zR,xx]
 lia
def dV1:V->List V->Hp->VK->Prop:=λx vs H Q=>∃l b xs zs,x= .ref l/\vs= [.ref b]/\H l=some (.lst xs)/\H b=some (.lst zs)/\xs.length+zs.length<=zk/\Q .non (upd H l (.lst (xs++zs)))
theorem dB4:MtM X "list.extend" dV1:=by
 intro pins s O H x vs v us Q I rx rv h
 obtain⟨l,b,xs,zs,rfl,rfl,hH,hB,hz,q⟩:=h
 cases rx
 obtain⟨u,rfl,ru⟩:=rv.one
 cases ru
 obtain⟨z,its,n,r,hl,e⟩:=I.lstM hH
 obtain⟨z2,its2,n2,r2,hl2,e2⟩:=I.lstM hB
 have hsz:its.toArray.size+its2.toArray.size<=zk:=by rw[zq,zq];lia
 have hlong:¬(!its.toArray.isEmpty&&xG (its.toArray.size+its2.toArray.size))=true:=by
  rw[dO7 hsz,Bool.and_false]
  exact zX
 refine ZQ Jc ⟨_,e,rfl⟩ F.entry_list_extend (F.args_list_extend_2 _ _)
  (AutoSeq1.list_extend_list_list_0 l its.toArray n b its2.toArray n2 hlong (by rw[zq];lia) (by lia)) ⟨e,e2,?_⟩
 refine⟨.non,_,I.lset (its':=its++its2) hH e (by simp) (r.append r2) ?_,rfl,q⟩
 rw[zR]
 lia
def fG5:V->List V->Hp->VK->Prop:=λx vs H Q=>∃l xs y,x= .ref l/\vs= []/\H l=some (.lst xs)/\xs[xs.length-1]? =some y/\Q y (upd H l (.lst xs.dropLast))
theorem eQ4:MtM X "list.pop" fG5:=by
 intro pins s O H x vs v us Q I rx rv h
 obtain⟨l,xs,y,rfl,rfl,hH,hy,q⟩:=h
 cases rx
 have hus:=rv.zero
 subst hus
 obtain⟨z,its,n,r,hl,e⟩:=I.lstM hH
 obtain⟨u,hu,ru⟩:=r.get hy
 have hy':its.toArray[its.toArray.size-1]? =some u:=by
  show its.toArray[its.length-1]? =some u
  rw[<-ji,<-hl]
  exact hu
 refine ZQ xQ ⟨_,e,rfl⟩ F.entry_list_pop (F.args_list_pop_1 _) (MeetsSeq.list_pop_last l its.toArray n u hy' (by rw[zq];lia)) ⟨e,?_⟩
 refine⟨y,_,I.lset (its':=its.dropLast) hH e ?_ r.dropLast ?_,ru,q⟩
 · show its.toArray.eraseIdxIfInBounds (its.toArray.size-1)=its.dropLast.toArray
   rw[zq,YA,cS0]
 · rw[List.length_dropLast]
   lia
def eU7:V->List V->Hp->VK->Prop:=λx vs H Q=>∃l xs i k y,x= .ref l/\vs= [.int i]/\H l=some (.lst xs)/\ -(2 ^ 63)<=i/\i<2 ^ 63/\JM i xs.length=some k/\xs[k]? =some y/\Q y (upd H l (.lst (xs.eraseIdx k)))
theorem dM5:MtM X "list.pop" eU7:=by
 intro pins s O H x vs v us Q I rx rv h
 obtain⟨l,xs,i,k,y,rfl,rfl,hH,h1,h2,hk,hy,q⟩:=h
 cases rx
 obtain⟨u,rfl,ru⟩:=rv.one
 obtain⟨t,rfl⟩:=ru
 obtain⟨z,its,n,r,hl,e⟩:=I.lstM hH
 obtain⟨w,hw,rw'⟩:=r.get hy
 refine ZQ xQ ⟨_,e,rfl⟩ F.entry_list_pop (F.args_list_pop_2 _ _)
  (MeetsSeq.list_pop_at l its.toArray n i t k w (fitsIndex_both h1 h2) (by rw[zq,<-hl];exact hk) (by rw[<-ji];exact hw) (by rw[zq];lia)) ⟨e,?_⟩
 refine⟨y,_,I.lset (its':=its.eraseIdx k) hH e ?_ (r.eraseIdx k) ?_,rw',q⟩
 · show its.toArray.eraseIdxIfInBounds k= (its.eraseIdx k).toArray
   rw[YA]
 · have:=cA1 xs k
   lia
def fG7:R2:=λx y H Q=>∃l b xs zs,x= .ref l/\y= .ref b/\H l=some (.lst xs)/\H b=some (.lst zs)/\xs.length+zs.length<=zk/\∀p,H p=none->Q (.ref p) (upd H p (.lst (xs++zs)))
theorem eN4:OpR X (jS .Add) fG7:=by
 intro pins s O H x y v u Q I rx ry h
 obtain⟨l,b,xs,zs,rfl,rfl,hH,hB,hz,q⟩:=h
 cases rx
 cases ry
 obtain⟨z,its,n,r,hl,e⟩:=I.lstM hH
 obtain⟨z2,its2,n2,r2,hl2,e2⟩:=I.lstM hB
 refine PySem.P.add_list e e2 ?_ (by rw[zq,zq];lia)
 have ea:its.toArray++its2.toArray= (its++its2).toArray:=by simp
 rw[ea]
 exact⟨.ref _,_,I.lnew (t':=s.toks) (r.append r2) (by rw[zR];lia),rfl,q _ I.fresh⟩
end
section
variable{prog:zB}{w:zJ}{A:zF}{E:VSP}{s:zh}
end
section
variable{X:Cx}
end
end L2
namespace Att
open PySem PySem.W PySem.Calls PyProof.Rows
theorem bN1{P:Params}{h:Heap}:∀(ns:List Int) (vs:List zf),WellAll P h vs (ns.map WData.int)->IntsAre vs ns:=by
 intro ns
 induction ns with
 |nil=>
   intro vs w
   rw[jZ]at w
   cases w
   exact .nil
 |cons n ns ih=>
   intro vs w
   rw[zG]at w
   cases w with
   |cons a b=>
     cases a
     exact .cons _ _ (ih _ b)
theorem dF1{l:OpenLaw}{n:Nat}(hn:l.most=some n){P:Params}{h:Heap}{args:List WData}{vals:List zf}
 (hpre:l.row.toRowW.claim.pre args=true) (hwl:WellAll P h vals args):
 ∃a vs ns,vals= [Value.ref a]/\args= [WData.list (ns.map WData.int)]/\h.get? a=some {cls:=.type "list",data:=.seq vs.toArray}/\IntsAre vs ns/\ns.length<=n:=by
 have hsh:WShape.hasAll [] args [.list .int]=true:=(pre_splitW hpre).1
 have hc:l.pre.holds [] {args:=args}=true:=(pre_splitW hpre).2
 obtain⟨d,r,rfl,h1,h2⟩:=hasAllW_cons hsh
 obtain rfl:=hasAllW_nil h2
 obtain⟨xs,rfl,h3⟩:=hasW_list h1
 obtain⟨ns,rfl⟩:=items_int h3
 have hlen:ns.length<=n:=by
  unfold OpenLaw.pre at hc
  have h4:(WTm.not (.lt (.lit (.int (n:Int))) (.len (.arg 0)))).holds [] {args:= [.list (ns.map .int)]}=true:=by
   have h4:=(holds_andW hc).1
   rw[hn]at h4
   exact h4
  have h5:=condW_of h4 (w_not (w_lt w_lit (w_len_list (w_arg rfl))))
  rw[zl]at h5
  refine Nat.le_of_not_lt λq=>?_
  have q':(n:Int)<((ns.length:Nat):Int):=by lia
  first
   |(rw[decide_eq_true q']at h5;exact absurd h5 (by decide))
   |(simp at h5;lia)
 cases hwl with
 |cons w1 w2=>
   cases w2
   cases w1 with
   |list ho hall=>exact⟨_,_,ns,rfl,rfl,ho,bN1 ns _ hall,hlen⟩
theorem dE6(l:OpenLaw)(args:List WData):l.row.toRowW.claim.post args (.bool true) args=true:=
 postW_of (r:=l.row.toRowW) (X:=(true==true))
  (show WShape.has [] (.bool true) .bool=true by first|rfl|decide|simp[WShape.has,WShape.arms,WShape.armsAll])
  (show (WTm.eq .res (.lit (.bool true))).value [] {args:=args,res:=some (.bool true),after:=args}=some (.bool (true==true))from w_eq_bool (w_res rfl) w_lit) rfl
theorem attach_call{l:OpenLaw}{n:Nat}{q:zB}{loose:List Str}{XP:(Str->Option zf)->Heap->Prop}{YP:zJ->Heap->Prop}{d:DefRec}
 (hn:l.most=some n) (hdf:d.params.defaults= [])
 (call:∀(w:zJ) (WX X0:zh) (mg mb:Str->Option zf) (fa:Addr) (o:Obj) (pm cd doc:zf) (a:Addr) (vs:List zf) (ns:List Int),
   Ground q loose [] XP w WX mg mb X0.heap->YP w X0.heap->
   X0.heap.get? fa=some o->o.data= .func (docDef d.name d.params d.body d.scope pm cd doc)->X0.heap.CodeRec cd d.name->mg d.name=some (.ref fa)->
   X0.heap.get? a=some {cls:=.type "list",data:=.seq vs.toArray}->IntsAre vs ns->ns.length<=n->X0.gens= #[]->
   xB (zD l.prog w) Xd (.call (.ref fa) ⟨[.ref a], []⟩) (λr s'=>r= .ok (.ret (.bool true))/\OldK X0.heap s'.heap/\s'.os=X0.os/\Yv s'.gens) X0):
 WalkO q loose XP YP l.row.toRowW d [] (λf vs=>JC f vs):=by
 intro w WX X0 mg mb G Y fa o pm cd doc dV kV ho hd hcd hD hmg hg args vals as hpre hlay hrd hwl hlo
 obtain rfl:dV= .none:=Dflts.none hD hdf
 obtain rfl:kV= .none:=Dflts.noKw hD
 obtain⟨a,vs,ns,rfl,rfl,hobj,hints,hlen⟩:=dF1 hn hpre hwl
 refine enter_call (Zb (call w WX X0 mg mb fa o pm cd doc a vs ns G Y ho (fd_plain hd) hcd hmg hobj hints hlen hg) λr s' hq=>?_)
 obtain⟨rfl,h2,h3,h4⟩:=hq
 exact⟨.inl ⟨.bool true,.bool true, [],rfl,λ_=>rfl,.bool true,dE6 l _,λ_=>⟨List.Pairwise.nil,λ_ hm=>(nomatch hm)⟩⟩,h2,h3,h4⟩
section
variable{prog:zB}{w:zJ}{A:zF}{E:VSP}{s:zh}{K:Frag}
end
end Att
namespace L2
open PySem PySem.Spec PyProof.Rows
theorem bW8:∀ {vs:List zf} {ns:List Int},IntsAre vs ns->J2 (ns.map V.int) vs
 |_,_,.nil=>.nil
 |_,_,.cons n t h=>.cons ⟨t,rfl⟩ (bW8 h)
noncomputable def dY3(H:Hp):Prop:=∀b,H b=none\/∃o xs,H b=some (.frz o (.lst xs))
theorem dJ8{P:zB}{w:zJ}{K:zj}{mg mb:Str->Option zf}{CX:CXT}{k:Nat}{fa a:Addr}{fd:zY}{x:Str}{sp:Sp}{X0:zh}{vs:List zf}{ns:List Int}
 (KX:K.In X0.heap) (hns:X0.heap.Ns jm mg) (hb:X0.heap.Ns builtinsNs mb) (hbb:∀x:Str,x≠ "__name__"->mb x=zO x) (hlim:X0.heap.NoLimit) (hg:X0.gens= #[])
 (ha:X0.heap.get? a=some {cls:=.type "list",data:=.seq vs.toArray}) (hi:IntsAre vs ns) (hl:ns.length<=zk) (hr:aE6 k Xd)
 (F:∀base:Heap,K.In base->base.Ns jm mg->K6 P w K mg base CX k fa fd [x] sp) (hbind:∀(s:zh) (u:zf),Xf s fd ⟨[u], []⟩ [(x,u)])
 (hsp:∀H:Hp,dY3 H->SqL K H a (ns.map V.int)->sp [.ref a] H (λv _=>v= .bl true) λ_ _ _=>False)
 (hCX:∀H e s',CX [] H X0 (λ_ _ _=>False) e s'->False):
 xB (zD P w) Xd (.call (.ref fa) ⟨[.ref a], []⟩) (λr s'=>r= .ok (.ret (.bool true))/\OldK X0.heap s'.heap/\s'.os=X0.os/\Yv s'.gens) X0:=by
 have rv:=bW8 hi
 have lenV:=hi.length
 -- from an abstract heap in which nothing but the script may be tracked
 have core:∀H:Hp,dY3 H->SqL K H a (ns.map V.int)->HOk P w H X0.heap->(∀b,H b≠none->b=a)->(H a≠none->K.lookup a=none)->
  xB (zD P w) Xd (.call (.ref fa) ⟨[.ref a], []⟩) (λr s'=>r= .ok (.ret (.bool true))/\OldK X0.heap s'.heap/\s'.os=X0.os/\Yv s'.gens) X0:=by
  intro H hO hS hok hA hK
  have base_of:∀ {b:Addr} {o:Obj},X0.heap.get? b=some o->H b=none->(cD0 X0.heap H).get? b=some o:=λe n=>dN0 e n
  have noA:∀ {b:Addr} {o:Obj} {es:Array DictEntry} {ep:Nat},X0.heap.get? b=some o->o.data= .dict es ep->H b=none:=λ{b o es ep} e d=>by
   cases q:H b with
   |none=>rfl
   |some u=>
     have e':b=a:=hA b (by rw[q];simp)
     subst e'
     rw[ha]at e;cases e
     have d':Data.seq vs.toArray _=Data.dict es ep:=d
     cases d'
  have nsK:∀ {b:Addr} {m:Str->Option zf},X0.heap.Ns b m->(cD0 X0.heap H).Ns b m:=λ{b m} ⟨o,es,ep,e,d,r⟩=>⟨o,es,ep,base_of e (noA e d),d,r⟩
  have hKb:K.In (cD0 X0.heap H):=λb o e=>base_of (KX b o e) (by
   cases q:H b with
   |none=>rfl
   |some u=>
     have e':b=a:=hA b (by rw[q];simp)
     subst e'
     rw[hK (by rw[q];simp)]at e;cases e)
  have hM:Mod K mg (cD0 X0.heap H):=⟨hKb,nsK hns,⟨mb,nsK hb,hbb⟩,let ⟨mc,h1,h2⟩:=hlim;⟨mc,nsK h1,h2⟩⟩
  have e0:cS7 P w K mg (cD0 X0.heap H) Xd [] X0 H:=⟨rfl,hM,λb o e=>eC0 e,Nat.le_of_eq (dD4 _ _),trivial,λb hb=>absurd (show b∈([]:List Addr)from hb) (by simp),hok,.of_eq hg⟩
  refine Zb ((F _ hKb (nsK hns)).run Xd [] X0 H ⟨[.ref a], []⟩ [.ref a] [.ref a] _ _ hr e0 (hbind X0 (.ref a)) (.cons rfl .nil) (hsp H hO hS)) λr s' h=>?_
  cases r with
  |error e=>exact(hCX H e s' h).elim
  |ok fl=>
    cases fl with
    |next=>exact yj h
    |brk=>exact yj h
    |cont=>exact yj h
    |ret u=>
      obtain⟨v,H',os,bare,un,hok',r',q⟩:=h
      have q':v= .bl true:=q
      subst q'
      obtain rfl:u=Value.bool true:=r'
      refine⟨rfl,OldK.of_keep λb o e=>?_,os,bare⟩
      cases q:H b with
      |none=>exact un.keep b o e q (by intro z;exact absurd (show b∈([]:List Addr)from z) (by simp)) (by simp)
      |some u=>
        rcases hO b with z|⟨ob,xs,z⟩
        ·rw[q]at z;cases z
        · have z2:=un.frzs b ob _ z
          obtain⟨e1,_⟩:=hok b _ z
          obtain⟨e2,_⟩:=hok' b _ z2
          rw[e]at e1;cases e1
          exact e2
 cases hk:K.lookup a with
 |some o=>
   -- the script is one of the module's own objects
   have e:=KX a o hk
   rw[ha]at e
   cases e
   refine core (λ_=>none) (λ_=>.inl rfl) (.inr ⟨_,vs.toArray,_,hk,rfl,rfl,rfl,by rw[zq,lenV];exact hl,by simpa using rv⟩) (λb u z=>by have z':(none:Option HO)=some u:=z;cases z') (λb z=>absurd rfl z) λz=>absurd rfl z
 |none=>
   refine core (λb=>if b=a then some (.frz {cls:=.type "list",data:=.seq vs.toArray} (.lst (ns.map V.int)))else none) (λb=>?_) (.inl (.inr ⟨{cls:=.type "list",data:=.seq vs.toArray},if_pos rfl⟩)) (λb u z=>?_) (λb z=>?_) λ_=>hk
   · by_cases hb:b=a
     ·exact .inr ⟨_,_,if_pos hb⟩
     ·exact .inl (if_neg hb)
   · by_cases hb:b=a
     · have z':=(if_pos hb).symm.trans z
       cases z'
       subst hb
       exact⟨ha,by rw[zl];exact hl,vs,_,rv,ha⟩
     · have z':=(if_neg hb).symm.trans z
       cases z'
   · by_cases hb:b=a
     ·exact hb
     ·exact absurd (if_neg hb) z
theorem walk_of{l:PySem.W.OpenLaw}{n k:Nat}{q:zB}{loose:List Str}{XP:(Str->Option zf)->Heap->Prop}{YP:zJ->Heap->Prop}{d:DefRec}{K:Params->zj}{CX:zJ->CXT}{sp:zJ->Sp}{x:Str}
 (hn:l.most=some n) (hn2:n<=zk) (hdf:d.params.defaults= []) (hr:aE6 k Xd)
 (hY:∀(w:zJ) (h:Heap),YP w h->(K w.params).In h)
 (F:∀(w:zJ) (mg:Str->Option zf) (fa:Addr) (h:Heap),(K w.params).In h->h.Ns jm mg->mg d.name=some (.ref fa)->
   ∃fd:zY,(∀(s:zh) (u:zf),Xf s fd ⟨[u], []⟩ [(x,u)])/\
    ∀base:Heap,(K w.params).In base->base.Ns jm mg->K6 l.prog w (K w.params) mg base (CX w) k fa fd [x] (sp w))
 (hsp:∀(w:zJ) (H:Hp) (a:Addr) (ns:List Int),ns.length<=n->dY3 H->SqL (K w.params) H a (ns.map V.int)->sp w [.ref a] H (λv _=>v= .bl true) λ_ _ _=>False)
 (hCX:∀(w:zJ) (H:Hp) (s:zh) (e:zf) (s':zh),CX w [] H s (λ_ _ _=>False) e s'->False):
 PySem.W.WalkO q loose XP YP l.row.toRowW d [] (λf vs=>JC f vs):=by
 refine Att.attach_call hn hdf λw WX X0 mg mb fa o pm cd doc a vs ns G Y ho hd hcd hmg hobj hints hlen hg=>?_
 have KX:=hY w _ Y
 obtain⟨fd,hb,hF⟩:=F w mg fa _ KX G.T.g hmg
 exact dJ8 KX G.T.g G.T.b G.T.builtins G.T.nolimit hg hobj hints (zI hlen hn2) hr hF hb (λH hO hS=>hsp w H a ns hlen hO hS) λH e s'=>hCX w H X0 e s'
noncomputable def aD6(s:Stmt):Arguments:=match s with
 | .FunctionDef _ a _ _ _ _ _ _ _ _=>a
 |_=>{posonlyargs:= [],args:= [],vararg:=none,kwonlyargs:= [],kw_defaults:= [],kwarg:=none,defaults:= []}
noncomputable def aA6(s:Stmt):List Stmt:=match s with
 | .FunctionDef _ _ b _ _ _ _ _ _ _=>b
 |_=> []
noncomputable def m8(s:Stmt):Scope:=match s with
 | .FunctionDef _ _ _ _ _ _ sc _ _ _=>sc
 |_=>{kind:=.function,names:= [],isGenerator:=false,isCoroutine:=false}
noncomputable abbrev CX0:CXT:=λ_ _ _ _ _ _=>False
noncomputable abbrev E0:XK:=λ_ _ _=>False
theorem fB1{X:Cx}:cQ2 CX0 X E0:=λ_ _ _ _ _ _ _ h=>h.elim
structure Fun(K:zj)(x qual:Str)(st:Stmt)(f:Addr)(fd:zY):Prop where
 ex:∃(oc:zf) (od:Option Addr) (kV doc pm:zf) (an:Option Addr) (cdv ct:zf) (osl:Array (Option zf)),
  fd=jE x qual (aD6 st) (aA6 st) (m8 st) .none kV doc pm an cdv ct/\K.lookup f=some ⟨oc,od,.func fd,osl⟩/\xJ K cdv qual=true
 kp:yh K (.ref f)=true
section
variable{P:zB}{w:zJ}{K:zj}{mg:Str->Option zf}{base:Heap}
theorem Fun.ok{x qual:Str}{st:Stmt}{f:Addr}{fd:zY}{N ps:List Str}{k:Nat}{sp:Sp}(F:Fun K x qual st f fd)(S:o9 N ps (m8 st))(len:∀vs H Q E,sp vs H Q E->vs.length=ps.length)
 (hbody:∀(cdv:zf) (A:zF) (outer:List Env) (s:zh) (H:Hp) (vs:List V) (Q:VK) (E:XK),aE6 k (A.deeper (Yp qual (m8 st) s.heap.objs.size f cdv))->sp vs H Q E->
   ∃t,PSs (cM3 CX0 P w K mg base N qual (m8 st) f cdv A outer s H E).nox (aA6 st) t/\t {nx:=λ_ H'=>Q .non H',rt:=Q} (start N vs) H):K6 P w K mg base CX0 (k+1) f fd ps sp:=by
 obtain⟨oc,od,kV,doc,pm,an,cdv,ct,osl,rfl,lk,hcd⟩:=F.ex
 refine eZ0 lk hcd S len λA outer s H vs Q E hr hsp=>?_
 obtain⟨t,h,q⟩:=hbody cdv A outer s H vs Q E hr hsp
 exact⟨t,h.nox,q⟩
theorem Fun.binds{x qual:Str}{st:Stmt}{f:Addr}{fd:zY}{ps:List Str}(F:Fun K x qual st f fd)
 (h:∀(kV doc pm:zf) (an:Option Addr) (cdv ct:zf) (us:List zf),us.length=ps.length->Yn (jE x qual (aD6 st) (aA6 st) (m8 st) .none kV doc pm an cdv ct) ⟨us, []⟩=pure (ps.zip us)):bL0 K fd ps []:=by
 obtain⟨oc,od,kV,doc,pm,an,cdv,ct,osl,rfl,lk,hcd⟩:=F.ex
 exact .all (h kV doc pm an cdv ct)
theorem cB5{x qual:Str}{st:Stmt}{f:Addr}{oc:zf}{od an:Option Addr}{osl:Array (Option zf)}{kV doc pm cdv ct:zf}(l:K.lookup f=some ⟨oc,od,.func (jE x qual (aD6 st) (aA6 st) (m8 st) .none kV doc pm an cdv ct),osl⟩)
 (c:xJ K cdv qual=true) (k:yh K (.ref f)=true):Fun K x qual st f (jE x qual (aD6 st) (aA6 st) (m8 st) .none kV doc pm an cdv ct):=⟨⟨oc,od,kV,doc,pm,an,cdv,ct,osl,rfl,l,c⟩,k⟩
end
section
variable{X:Cx}
end
noncomputable def Same(H H':Hp):Prop:=∀b o,H b=some o->H' b=some o
theorem Same.refl(H:Hp):Same H H:=λ_ _ h=>h
theorem Same.trans{H H1 H2:Hp}(a:Same H H1)(b:Same H1 H2):Same H H2:=λc o h=>b c o (a c o h)
theorem Same.free{H H':Hp}(e:Same H H'){l:Addr}(h:H' l=Option.none):H l=Option.none:=by
 cases q:H l with
 |none=>rfl
 |some o=>
   rw[e l o q]at h
   cases h
theorem Same.seq{K:zj}{H H':Hp}{a:Addr}{xs:List V}(e:Same H H')(h:SqL K H a xs):SqL K H' a xs:=by
 rcases h with(h|⟨o,h⟩)|h
 ·exact .inl (.inl (e _ _ h))
 ·exact .inl (.inr ⟨o,e _ _ h⟩)
 ·exact .inr h
section
variable{κ:Type}[DecidableEq κ]
noncomputable def aW0(kvs:List (κ×V))(k:κ):Option V:=(kvs.find? λkv=>decide (kv.1=k)).map (·.2)
noncomputable def aS9(kvs:List (κ×V))(k:κ)(v:V):List (κ×V):=
 if (kvs.any λkv=>decide (kv.1=k))=true then kvs.map (λkv=>if kv.1=k then (kv.1,v)else kv)else kvs++[(k,v)]
noncomputable def eE9(kvs:List (κ×V))(k:κ):List (κ×V):=kvs.filter λkv=>decide (kv.1≠k)
theorem bF9{p:κ×V}{r:List (κ×V)}{k:κ}(e:p.1=k):aW0 (p::r) k=some p.2:=by simp[aW0,yo,e]
theorem bH4{p:κ×V}{r:List (κ×V)}{k:κ}(e:¬p.1=k):aW0 (p::r) k=aW0 r k:=by simp[aW0,yo,e]
theorem cM4(k:κ):∀kvs:List (κ×V),(kvs.any λkv=>decide (kv.1=k))= (aW0 kvs k).isSome
 |[]=>rfl
 |p::r=>by
   rw[ju]
   by_cases e:p.1=k
   ·simp only[bF9 e,decide_eq_true e,XZ,Js]
   ·rw[bH4 e,decide_eq_false e,Bool.false_or];exact cM4 k r
theorem bL4(kvs:List (κ×V))(k:κ)(v:V):(aS9 kvs k v).length<=kvs.length+1:=by
 unfold aS9
 split
 ·rw[zl];lia
 ·rw[zR,jg,yM];lia
theorem bU0.isSome_eq{o:Option V}{u:Option zf}(r:bU0 o u):o.isSome=u.isSome:=by
 cases o with
 |none=>cases u with
   |none=>rfl
   |some _=>exact(show False from r).elim
 |some _=>cases u with
   |none=>exact(show False from r).elim
   |some _=>rfl
theorem bU0.getD{o:Option V}{u:Option zf}{d:V}{d':zf}(r:bU0 o u)(rd:J9 d d'):J9 (o.getD d) (u.getD d'):=by
 cases o with
 |none=>cases u with
   |none=>exact rd
   |some _=>exact(show False from r).elim
 |some _=>cases u with
   |none=>exact(show False from r).elim
   |some _=>exact r
theorem KV.val{kvs:List (κ×V)}{vs:List (κ×zf)}(r:KV kvs vs)(k:κ):bU0 (aW0 kvs k) (Xa vs k):=by
 unfold KV at r
 induction r with
 |nil=>exact True.intro
 |@cons p q ps qs h t ih=>
   obtain⟨h1,h2⟩:=h
   by_cases e:p.1=k
   · have e':q.1=k:=h1.symm.trans e
     have b:Xa (q::qs) k=some q.2:=by simp[Xa,yo,e']
     rw[bF9 e,b];exact h2
   · have e':¬q.1=k:=λz=>e (h1.trans z)
     have b:Xa (q::qs) k=Xa qs k:=by simp[Xa,yo,e']
     rw[bH4 e,b];exact ih
theorem KV.any{kvs:List (κ×V)}{vs:List (κ×zf)}(r:KV kvs vs)(k:κ):(kvs.any λkv=>decide (kv.1=k))=vs.any λkv=>decide (kv.1=k):=by
 unfold KV at r
 induction r with
 |nil=>rfl
 |cons h t ih=>rw[ju,ju,ih,h.1]
theorem KV.repl{kvs:List (κ×V)}{vs:List (κ×zf)}(r:KV kvs vs)(k:κ){y:V}{u:zf}(ry:J9 y u):
 KV (kvs.map λkv=>if kv.1=k then (kv.1,y)else kv) (vs.map λkv=>if kv.1=k then (kv.1,u)else kv):=by
 unfold KV at r ⊢
 induction r with
 |nil=>exact .nil
 |@cons p q ps qs h t ih=>
   rw[zG,zG]
   refine .cons ?_ ih
   obtain⟨h1,h2⟩:=h
   by_cases e:p.1=k
   ·rw[if_pos e,if_pos (h1.symm.trans e)];exact⟨h1,ry⟩
   ·rw[if_neg e,if_neg (λz=>e (h1.trans z))];exact⟨h1,h2⟩
theorem KV.put{kvs:List (κ×V)}{vs:List (κ×zf)}(r:KV kvs vs)(k:κ){y:V}{u:zf}(ry:J9 y u):KV (aS9 kvs k y) (stored vs k u):=by
 unfold aS9 stored
 rw[r.any k]
 by_cases e:(vs.any λkv=>decide (kv.1=k))=true
 ·rw[if_pos e,if_pos e];exact r.repl k ry
 ·rw[if_neg e,if_neg e];exact Paired.snoc r ⟨rfl,ry⟩
theorem KV.drop{kvs:List (κ×V)}{vs:List (κ×zf)}(r:KV kvs vs)(k:κ):KV (eE9 kvs k) (without vs k):=by
 unfold KV at r ⊢
 unfold eE9 without
 induction r with
 |nil=>exact .nil
 |@cons p q ps qs h t ih=>
   obtain⟨h1,h2⟩:=h
   rw[YM,YM]
   by_cases e:p.1=k
   · have a:¬decide (p.1≠k)=true:=by simp[e]
     have b:¬decide (q.1≠k)=true:=by simp[h1.symm.trans e]
     rw[if_neg a,if_neg b];exact ih
   · have e':¬q.1=k:=λz=>e (h1.trans z)
     have a:decide (p.1≠k)=true:=by simp[e]
     have b:decide (q.1≠k)=true:=by simp[e']
     rw[if_pos a,if_pos b];exact .cons ⟨h1,h2⟩ ih
theorem KV.length{kvs:List (κ×V)}{vs:List (κ×zf)}(r:KV kvs vs):kvs.length=vs.length:=yI r
end
theorem bT7{P:zB}{w:zJ}{k:Key}{u:zf}(r:J9 (kV k) u):(Q4 P w).is k u=true:=by
 cases k with
 |inl i=>obtain⟨t,e⟩:=(show ∃t,u=Value.int i t from r);subst e;exact cK4 P w i t
 |inr x=>obtain⟨t,e⟩:=(show ∃t,u=Value.str x t from r);subst e;exact cJ7 P w x t
theorem bX2{P:zB}{w:zJ}:∀ {ks:List Key} {us:List zf},J2 (ks.map kV) us->ItemsAre (Q4 P w) ks us
 |[],_,r=>by rw[jZ]at r;cases r;exact .nil
 |k::ks,_,r=>by
   rw[zG]at r
   cases r with
   |cons h t=>exact .cons (bT7 h) (bX2 t)
abbrev KT(H:Hp):List (List Key×V)->List (List Key×Addr×zf)->Prop:=Paired λp q=>p.1=q.1/\H q.2.1=some (.tup (p.1.map kV))/\J9 p.2 q.2.2
theorem KT.val{H:Hp}{kvs:List (List Key×V)}{xs:List (List Key×Addr×zf)}(r:KT H kvs xs)(k:List Key):bU0 (aW0 kvs k) ((JP xs k).map (·.2)):=by
 induction r with
 |nil=>exact True.intro
 |@cons p q ps qs h t ih=>
   obtain⟨h1,_,h2⟩:=h
   by_cases e:p.1=k
   · have e':q.1=k:=h1.symm.trans e
     have b:JP (q::qs) k=some q.2:=by simp[JP,yo,e']
     rw[bF9 e,b];exact h2
   · have e':¬q.1=k:=λz=>e (h1.trans z)
     have b:JP (q::qs) k=JP qs k:=by simp[JP,yo,e']
     rw[bH4 e,b];exact ih
theorem KT.repl{H:Hp}{kvs:List (List Key×V)}{xs:List (List Key×Addr×zf)}(r:KT H kvs xs)(k:List Key){y:V}{u:zf}(ry:J9 y u):
 KT H (kvs.map λkv=>if kv.1=k then (kv.1,y)else kv) (xs.map (putAt k u)):=by
 induction r with
 |nil=>exact .nil
 |@cons p q ps qs h t ih=>
   rw[zG,zG]
   refine .cons ?_ ih
   obtain⟨h1,h2,h3⟩:=h
   unfold putAt
   by_cases e:p.1=k
   ·rw[if_pos e,if_pos (h1.symm.trans e)];exact⟨h1,h2,ry⟩
   ·rw[if_neg e,if_neg (λz=>e (h1.trans z))];exact⟨h1,h2,h3⟩
theorem KT.put{H:Hp}{kvs:List (List Key×V)}{xs:List (List Key×Addr×zf)}(r:KT H kvs xs)(k:List Key){b:Addr}{y:V}{u:zf}(hb:H b=some (.tup (k.map kV)))(ry:J9 y u):
 KT H (aS9 kvs k y) (storedH xs k b u):=by
 have e:(kvs.any λkv=>decide (kv.1=k))= (JP xs k).isSome:=by
  rw[cM4,(r.val k).isSome_eq,xX]
 unfold aS9 storedH
 rw[e]
 by_cases q:(JP xs k).isSome=true
 ·rw[if_pos q,if_pos q];exact r.repl k ry
 ·rw[if_neg q,if_neg q];exact Paired.snoc r ⟨rfl,hb,ry⟩
theorem KT.keeps{H H':Hp}{kvs:List (List Key×V)}{xs:List (List Key×Addr×zf)}(r:KT H kvs xs)(ht:∀b ys,H b=some (.tup ys)->H' b=some (.tup ys)):KT H' kvs xs:=
 Paired.mapP r λ_ _ z=>⟨z.1,ht _ _ z.2.1,z.2.2⟩
section
variable{P:zB}{w:zJ}{H:Hp}{h:Heap}{a:Addr}
theorem dH5{u:HO}(ok:HOk P w H h)(e:Rd H a u):X6 P w H h a u:=e.ok ok
theorem cL7{kvs:List (Key×V)}(ok:HOk P w H h)(e:Rd H a (.dK kvs)):kvs.length<=zk/\(a==yQ)=false/\∃vs,KV kvs vs/\h.DictOf (Q4 P w) a vs:=
 show X6 P w H h a (.dK kvs)from dH5 ok e
theorem cW7{kvs:List (Key×V)}(ok:HOk P w H h)(e:H a=some (.dK kvs)):kvs.length<=zk/\(a==yQ)=false/\∃vs,KV kvs vs/\h.DictOf (Q4 P w) a vs:=cL7 ok (.inl e)
theorem bT9{ks:List Key}(ok:HOk P w H h)(e:H a=some (.tup (ks.map kV))):(Yr (Q4 P w)).is h ks a:=by
 obtain⟨_,its,r,o,h1,h2,n,h3⟩:=(show X6 P w H h a (.tup (ks.map kV))from ok a _ e)
 exact⟨o,its.toArray,n,h1,h2,(xw h3).1,by simpa using bX2 r⟩
theorem cU2{kvs:List (List Key×V)}(ok:HOk P w H h)(e:Rd H a (.dT kvs)):kvs.length<=zk/\(a==yQ)=false/\
 ∃xs,KT H kvs xs/\h.DictOfH (Yr (Q4 P w)) a xs:=by
 obtain⟨z,y,xs,r,o,es,ep,h1,h2,h3,h4,h5⟩:=(show X6 P w H h a (.dT kvs)from dH5 ok e)
 refine⟨z,y,xs,r,o,es,ep,h1,h2,h3,h4,λx hx=>?_,h5⟩
 have all:∀ {l:List (List Key×V)} {m:List (List Key×Addr×zf)},KT H l m->∀x∈m,(Yr (Q4 P w)).is h x.1 x.2.1:=by
  intro l m q
  induction q with
  |nil=>intro x hx;exact nomatch hx
  |@cons p q ps qs hq t ih=>
    intro x hx
    rcases zw.mp hx with e|hx
    · subst e
      exact bT9 ok (by rw[<-hq.1];exact hq.2.1)
    ·exact ih x hx
 exact all r x hx
theorem fA1{kvs:List (List Key×V)}(ok:HOk P w H h)(e:H a=some (.dT kvs)):kvs.length<=zk/\(a==yQ)=false/\
 ∃xs,KT H kvs xs/\h.DictOfH (Yr (Q4 P w)) a xs:=cU2 ok (.inl e)
end
def cH5(H:Hp)(a:Addr)(y:V)(r:Option V):Prop:=
 (∃kvs k,Rd H a (.dK kvs)/\y=kV k/\r=aW0 kvs k)\/∃kvs k b,Rd H a (.dT kvs)/\y= .ref b/\H b=some (.tup (k.map kV))/\r=aW0 kvs k
def dW7(H:Hp)(a:Addr)(y v:V)(H':Hp):Prop:=
 (∃kvs k,H a=some (.dK kvs)/\y=kV k/\kvs.length<zk/\H'=upd H a (.dK (aS9 kvs k v)))\/
 ∃kvs k b,H a=some (.dT kvs)/\y= .ref b/\H b=some (.tup (k.map kV))/\kvs.length<zk/\H'=upd H a (.dT (aS9 kvs k v))
theorem cH5.k{H:Hp}{a:Addr}{kvs:List (Key×V)}{k:Key}(e:H a=some (.dK kvs)):cH5 H a (kV k) (aW0 kvs k):=.inl ⟨kvs,k,.inl e,rfl,rfl⟩
theorem dW7.k{H:Hp}{a:Addr}{kvs:List (Key×V)}{k:Key}{v:V}(e:H a=some (.dK kvs))(hl:kvs.length<zk):dW7 H a (kV k) v (upd H a (.dK (aS9 kvs k v))):=.inl ⟨kvs,k,e,rfl,hl,rfl⟩
section
variable{X:Cx}{pins:PNS}{O:St}{H:Hp}{s:zh}{a:Addr}{y v:V}{u r:zf}{o:Option V}{A:zF}{E:VSP}
theorem Inv.big(I:Inv X pins O H s):yQ<s.heap.objs.size:=by
 have h:jm<s.heap.objs.size:=(I.mod.glob.keeps I.bk).lt
 exact yt (by decide) h
theorem fG6{Q:VSP}(hu:A.units+1<xj)(I:Inv X pins O H s)(g:cH5 H a y o)(ry:J9 y u)(h:∀s',Inv X pins O H s'->Q (.bool o.isSome) s'):
 zp (zD X.prog X.w) A (zT .In u (.ref a)) Q E s:=by
 rcases g with⟨kvs,k,e,ey,l⟩|⟨kvs,k,b,e,ey,eb,l⟩
 · subst ey
   obtain⟨z,hd,vs,rel,dd⟩:=cL7 I.hok e
   refine wpAny_in_of (bT7 ry) hd dd.mapOf ?_
   rw[<-(rel.val k).isSome_eq,<-l]
   exact h _ (I.tok _)
 · subst ey
   cases (show u=Value.ref b from ry)
   obtain⟨z,hd,xs,rel,dd⟩:=cU2 I.hok e
   refine wpAny_in_heap (Zk hu) (bT9 I.hok eb) hd dd ?_
   have q:=(rel.val k).isSome_eq
   rw[xX]at q
   rw[<-q,<-l]
   exact h _ (I.tok _)
theorem eA7{Q:VSP}(hu:A.units+1<xj)(I:Inv X pins O H s)(g:cH5 H a y o)(ry:J9 y u)(h:∀s',Inv X pins O H s'->Q (.bool (!o.isSome)) s'):
 zp (zD X.prog X.w) A (zT .NotIn u (.ref a)) Q E s:=by
 rcases g with⟨kvs,k,e,ey,l⟩|⟨kvs,k,b,e,ey,eb,l⟩
 · subst ey
   obtain⟨z,hd,vs,rel,dd⟩:=cL7 I.hok e
   refine wpAny_notIn_of (bT7 ry) hd dd.mapOf ?_
   rw[<-(rel.val k).isSome_eq,<-l]
   exact h _ (I.tok _)
 · subst ey
   cases (show u=Value.ref b from ry)
   obtain⟨z,hd,xs,rel,dd⟩:=cU2 I.hok e
   refine wpAny_notIn_heap (Zk hu) (bT9 I.hok eb) hd dd ?_
   have q:=(rel.val k).isSome_eq
   rw[xX]at q
   rw[<-q,<-l]
   exact h _ (I.tok _)
theorem cZ8{h':Heap}{t':Nat}{ob:HO}(I:Inv X pins O H s)(mu:Mut (H a))(hs:jO a s.heap h')(he:∃q,h'.get? a=some q)(new:X6 X.prog X.w (upd H a ob) h' a ob):
 Inv X pins O (upd H a ob) {s with heap:=h',toks:=t'}:=
 I.write (x:=a) (e:=a) mu (.inl rfl) (λb q hb z=>(hs.2 b hb).trans z) he new
theorem dR8{P:zB}{w:zJ}{H':Hp}{h':Heap}{kvs:List (Key×V)}{vs:List (Key×zf)}(z:kvs.length<=zk)(hd:(a==yQ)=false)(rel:KV kvs vs)(dd:h'.DictOf (Q4 P w) a vs):
 X6 P w H' h' a (.dK kvs):=⟨z,hd,vs,rel,dd⟩
theorem dE5{H':Hp}{Q:Unit->zh->Prop}(hu:A.units+1<xj)(I:Inv X pins O H s)(g:dW7 H a y v H')(ry:J9 y u)(rv:J9 v r)(h:∀s',Inv X pins O H' s'->Q () s'):
 zp (zD X.prog X.w) A (setItem (.ref a) u r) Q E s:=by
 rcases g with⟨kvs,k,e,ey,l,eH⟩|⟨kvs,k,b,e,ey,eb,l,eH⟩
 · subst ey eH
   obtain⟨z,hd,vs,rel,dd⟩:=cW7 I.hok e
   have hz:vs.length<=zk:=by rw[<-rel.length];exact z
   have hl:(aS9 kvs k v).length<=zk:=by have:=bL4 kvs k v;lia
   refine wpAny_setItem_pairs (hsz:=hz) (bT7 ry) dd λh' dd' hs=>h _ ?_
   have he:∃q,h'.get? a=some q:=let ⟨q,_,_,hq,_⟩:=dd';⟨q,hq⟩
   exact cZ8 I (by rw[e];exact True.intro) hs he (dR8 hl hd (rel.put k rv) dd')
 · subst ey eH
   cases (show u=Value.ref b from ry)
   obtain⟨z,hd,xs,rel,dd⟩:=fA1 I.hok e
   have hz:xs.length<=zk:=by rw[<-yI rel];exact z
   have hl:(aS9 kvs k v).length<=zk:=by have:=bL4 kvs k v;lia
   refine wpAny_setItem_heap (hsz:=hz) (Zk hu) (bT9 I.hok eb) dd λh' dd' hs=>h _ ?_
   obtain⟨q,es,ep,hq,h2,h3,h4,_,h5⟩:=dd'
   refine cZ8 I (by rw[e];exact True.intro) hs ⟨q,hq⟩ ⟨hl,hd,_,(rel.put k eb rv).keeps λc ys ec=>?_,q,es,ep,hq,h2,h3,h4,h5⟩
   rw[J6 (fC8 ec e (λz=>nomatch z))]
   exact ec
end
section
variable{X:Cx}{pins:PNS}{O:St}{H:Hp}{s:zh}{a:Addr}{kvs:List (Key×V)}{k:Key}{u:zf}{A:zF}{E:VSP}
theorem eY4{Q:VSP}(I:Inv X pins O H s)(e:Rd H a (.dK kvs))(h:∀t s',Inv X pins O H s'->Q (.int kvs.length t) s'):zp (zD X.prog X.w) A (call (.builtin "len") [.ref a]) Q E s:=by
 obtain⟨z,hd,vs,rel,dd⟩:=cL7 I.hok e
 refine call_len_dict hd dd (by rw[<-rel.length];rw[sizeLine_eq]at z;lia) ?_
 rw[<-rel.length]
 exact h _ _ (I.tok _)
end
section
variable{X:Cx}{o i e value:Expr}{pos pos' tpos:Pos}{td ty tv:TE}
end
theorem dJ4{P:zB}{w:zJ}{H:Hp}(h:Heap)(hb:yQ<h.objs.size):X6 P w H (h.push {cls:=.type "dict",data:=.dict #[]}) h.objs.size (.dK []):=
 ⟨jR _,beq_eq_false_iff_ne.mpr (Ne.symm (zA hb)), [],.nil,ZY h⟩
def eN2:TE:=λ_ H Q=>∀p,H p=none->Q (.ref p) (upd H p (.dK []))
section
variable{X:Cx}{pos:Pos}
theorem dQ0:PE X (.Dict [] [] pos) eN2:=λpins s O H Q I h=>
 wpAny_Dict_empty ⟨.ref s.heap.objs.size,_,I.laid (a:=s.heap.objs.size) (o:=.dK []) (t':=s.toks) (λ_ _ q=>zg _ q) (zo _) (dJ4 s.heap I.big),rfl,h _ (I.hok.fresh (zo _))⟩
end
structure M1(X:Cx)(o:Expr)(m:Str)(apos:Pos)(e:Expr)(cpos:Pos):Prop where
 base:xn o m X.env (eval o X.env)=eval o X.env
 few:((yR cpos (zM [e] X.env)).all (λx=> !x.1)&&(Jb cpos (Yi [] X.env)).all (λx=>x.1.isSome)
  && decide (([e]:List Expr).length+([]:List Keyword).length+(if ([]:List Keyword).isEmpty then 0 else 1)<30))=true
 line:(apos.endLine==cpos.line)=true
 trees:yR cpos (zM [e] X.env)= [(false,eval e X.env)]
structure M2(X:Cx)(o:Expr)(m:Str)(apos:Pos)(e f:Expr)(cpos:Pos):Prop where
 base:xn o m X.env (eval o X.env)=eval o X.env
 few:((yR cpos (zM [e,f] X.env)).all (λx=> !x.1)&&(Jb cpos (Yi [] X.env)).all (λx=>x.1.isSome)
  && decide (([e,f]:List Expr).length+([]:List Keyword).length+(if ([]:List Keyword).isEmpty then 0 else 1)<30))=true
 line:(apos.endLine==cpos.line)=true
 trees:yR cpos (zM [e,f] X.env)= [(false,eval e X.env),(false,eval f X.env)]
section
variable{X:Cx}{pins:PNS}{O:St}{H:Hp}{s:zh}{a:Addr}{y d:V}{u r:zf}{o:Option V}{A:zF}{E:VSP}
theorem eL2{Q:VSP}(hu:A.units+1<xj)(I:Inv X pins O H s)(g:cH5 H a y o)(ry:J9 y u)(rd:J9 d r)(h:∀w' s',Inv X pins O H s'->J9 (o.getD d) w'->Q w' s'):
 zp (zD X.prog X.w) A (call (.builtin "dict.get") [.ref a,u,r]) Q E s:=by
 rcases g with⟨kvs,k,e,ey,l⟩|⟨kvs,k,b,e,ey,eb,l⟩
 · subst ey
   obtain⟨z,hd,vs,rel,dd⟩:=cL7 I.hok e
   refine call_meetsIn Zt dd.typeIs XB (Xo _ _ _) (meets_dict_get_default (Q4 X.prog X.w) a (bT7 ry) hd r) ⟨_,dd.mapOf,h _ _ (I.tok _) ?_⟩
   rw[l]
   exact(rel.val k).getD rd
 · subst ey
   cases (show u=Value.ref b from ry)
   obtain⟨z,hd,xs,rel,dd⟩:=cU2 I.hok e
   refine call_meetsIn Zt dd.typeIs XB (Xo _ _ _) (meetsH_dict_get_default (Yr (Q4 X.prog X.w)) a b hd r) ⟨Zk hu,k,xs,bT9 I.hok eb,dd,h _ _ (I.tok _) ?_⟩
   rw[l]
   exact(rel.val k).getD rd
end
section
variable{X:Cx}{o e f:Expr}{apos cpos:Pos}{td ty tx:TE}
end
section
variable{X:Cx}{pins:PNS}{O:St}{H:Hp}{s:zh}{a:Addr}{kvs:List (Key×V)}{A:zF}{E:VSP}
end
section
variable{X:Cx}{pins:PNS}{O:St}{H:Hp}{s:zh}{a:Addr}{y:V}{u:zf}{A:zF}{E:VSP}
end
section
variable{X:Cx}
theorem dG6:aB5 X (.builtin "len") (λxs H Q=>∃a kvs,xs= [V.ref a]/\H a=some (.dK kvs)/\Q (.int kvs.length) H):=by
 intro pins s O H xs us Q I r h
 obtain⟨a,kvs,rfl,ha,q⟩:=h
 obtain⟨u,rfl,ru⟩:=aI5 r
 cases ru
 exact eY4 I (.inl ha) λt s' I'=>⟨.int kvs.length,H,I',⟨t,rfl⟩,q⟩
end
section
variable{κ:Type}[DecidableEq κ]
end
end L2
namespace DL
open PySem PySem.Spec L2
open PyProof.Rows hiding St
inductive D where
 |non|bl (b:Bool)|int (i:Int)|str (x:Str)|tup (l:List D)|ref (i:Nat)|fn (x:Str)|ty (n:String)
inductive DO where
 |lst (l:List D)|rol (l:List D)|dct (l:List (Key×D))|rod (l:List (Key×D))
noncomputable abbrev DH:=List DO
abbrev DPP:=D->DH->Prop
noncomputable abbrev DSt:=List (Option D)
structure Wc where
 K:zj
 mg:Str->Option zf
noncomputable abbrev wc(X:Cx):Wc:=⟨X.K,X.mg⟩
mutual
noncomputable def j8(c:Wc)(U:List Addr)(H:Hp):D->V->Prop
 | .non,v=>v= .non
 | .bl b,v=>v= .bl b
 | .int i,v=>v= .int i
 | .str x,v=>v= .str x
 | .ty n,v=>v= .ty n
 | .fn x,v=>∃a,c.mg x=some (.ref a)/\v= .ref a
 | .ref i,v=>∃a,U[i]? =some a/\v= .ref a
 | .tup l,v=>∃a vs,v= .ref a/\SqT c.K H a vs/\v9 c U H l vs
noncomputable def v9(c:Wc)(U:List Addr)(H:Hp):List D->List V->Prop
 |[],vs=>vs= []
 |d::ds,vs=>∃v r,vs=v::r/\j8 c U H d v/\v9 c U H ds r
end
def aD0(c:Wc)(U:List Addr)(H:Hp):List (Key×D)->List (Key×V)->Prop
 |[],kvs=>kvs= []
 |(k,d)::r,kvs=>∃v t,kvs= (k,v)::t/\j8 c U H d v/\aD0 c U H r t
structure Ext(U:List Addr)(H:Hp)(X9:List Addr)(H':Hp):Prop where
 pre:U <+:X9
 new:∀a∈X9,a∉U->H a=none
 oth:∀b o,H b=some o->b∉U->H' b=some o
 tup:∀b xs,H b=some (.tup xs)->H' b=some (.tup xs)
 frz:∀b o u,H b=some (.frz o u)->H' b=some (.frz o u)
theorem Ext.refl(U:List Addr)(H:Hp):Ext U H U H:=⟨YH _,λa h n=>absurd h n,λ_ _ h _=>h,λ_ _ h=>h,λ_ _ _ h=>h⟩
theorem Ext.trans{U X1 WW:List Addr}{H H1 H2:Hp}(a:Ext U H X1 H1)(b:Ext X1 H1 WW H2):Ext U H WW H2 where
 pre:=a.pre.trans b.pre
 new:=λx h n=>by
  by_cases h1:x∈X1
  ·exact a.new x h1 n
  · have e1:=b.new x h h1
    rcases e:H x with _|o
    ·rfl
    ·rw[a.oth x o e n]at e1;exact dW1 e1
 oth:=λx o e n=>by
  refine b.oth x o (a.oth x o e n) λh1=>?_
  have:=a.new x h1 n
  rw[e]at this;exact dW1 this
 tup:=λx xs e=>b.tup x xs (a.tup x xs e)
 frz:=λx o u e=>b.frz x o u (a.frz x o u e)
theorem Ext.lay{U:List Addr}{H:Hp}{p:Addr}(h:H p=none)(o:HO):Ext U H U (upd H p o):=
 ⟨YH _,λa h n=>absurd h n,λb o' q _=>by rw[J6 (K5 q h)];exact q,λb xs q=>by rw[J6 (K5 q h)];exact q,λb o' u q=>by rw[J6 (K5 q h)];exact q⟩
theorem Ext.add{U:List Addr}{H:Hp}{p:Addr}(h:H p=none)(o:HO):Ext U H (U++[p]) (upd H p o):=
 ⟨List.prefix_append _ _,λa ha n=>by
  rcases jr.mp ha with z|z
  ·exact absurd z n
  ·rw[zP.mp z];exact h,λb o' q _=>by rw[J6 (K5 q h)];exact q,λb xs q=>by rw[J6 (K5 q h)];exact q,λb o' u q=>by rw[J6 (K5 q h)];exact q⟩
theorem Ext.mut{U:List Addr}{H:Hp}{p:Addr}{o':HO}(hp:p∈U)(h:H p=some o')(n1:∀xs,o'≠ .tup xs)(n2:∀o u,o'≠ .frz o u)(o:HO):Ext U H U (upd H p o):=
 ⟨YH _,λa h n=>absurd h n,λb o2 q n=>by rw[J6 (λe=>n (by rw[e];exact hp))];exact q,λb xs q=>by
  rw[J6 (λe=>by subst e;rw[h]at q;cases q;exact n1 _ rfl)];exact q,
  λb oo u q=>by
   rw[J6 (λe=>by subst e;rw[h]at q;cases q;exact n2 _ _ rfl)];exact q⟩
theorem Ext.sqT{U X9:List Addr}{K:zj}{H H':Hp}(k:Ext U H X9 H'){a:Addr}{xs:List V}(h:SqT K H a xs):SqT K H' a xs:=by
 rcases h with(h|⟨o,h⟩)|h
 ·exact .inl (.inl (k.tup _ _ h))
 ·exact .inl (.inr ⟨o,k.frz _ _ _ h⟩)
 ·exact .inr h
def RoL(K:zj)(H:Hp)(a:Addr)(xs:List V):Prop:=(∃o,H a=some (.frz o (.lst xs)))\/(SqL K (λ_=>none) a xs)
theorem dO4{K:zj}{H:Hp}{a:Addr}{xs:List V}(h:SqL K (λ_=>none) a xs):SqL K H a xs:=by
 rcases h with(h|⟨o,h⟩)|h
 ·exact K1 h
 ·exact K1 h
 ·exact .inr h
theorem RoL.sq{K:zj}{H:Hp}{a:Addr}{xs:List V}(h:RoL K H a xs):SqL K H a xs:=by
 rcases h with⟨o,h⟩|h
 ·exact .inl (.inr ⟨o,h⟩)
 ·exact dO4 h
theorem Ext.roL{U X9:List Addr}{K:zj}{H H':Hp}(k:Ext U H X9 H'){a:Addr}{xs:List V}(h:RoL K H a xs):RoL K H' a xs:=by
 rcases h with⟨o,h⟩|h
 ·exact .inl ⟨o,k.frz _ _ _ h⟩
 ·exact .inr h
section
variable{c:Wc}{U X9:List Addr}{H H':Hp}
theorem cE6{U X9:List Addr}(h:U <+:X9){i:Nat}{a:Addr}(e:U[i]? =some a):X9[i]? =some a:=by
 obtain⟨t,rfl⟩:=h
 have:i<U.length:=by
  rcases xa i U.length with q|q
  ·exact q
  ·rw[zK q]at e;exact K1 e
 rw[zH this];exact e
mutual
theorem j8.mono(x:Ext U H X9 H'):∀ {d:D} {v:V},j8 c U H d v->j8 c X9 H' d v
 | .non,_,h=>h
 | .bl _,_,h=>h
 | .int _,_,h=>h
 | .str _,_,h=>h
 | .ty _,_,h=>h
 | .fn _,_,h=>h
 | .ref i,v,h=>by
   unfold j8 at h ⊢
   obtain⟨a,e,r⟩:=h
   exact⟨a,cE6 x.pre e,r⟩
 | .tup l,v,h=>by
   unfold j8 at h ⊢
   obtain⟨a,vs,e,q,r⟩:=h
   exact⟨a,vs,e,x.sqT q,v9.mono x r⟩
theorem v9.mono(x:Ext U H X9 H'):∀ {l:List D} {vs:List V},v9 c U H l vs->v9 c X9 H' l vs
 |[],_,h=>h
 |d::ds,vs,h=>by
   unfold v9 at h ⊢
   obtain⟨v,r,e,q,t⟩:=h
   exact⟨v,r,e,j8.mono x q,v9.mono x t⟩
end
theorem aD0.mono(x:Ext U H X9 H'):∀ {l:List (Key×D)} {vs:List (Key×V)},aD0 c U H l vs->aD0 c X9 H' l vs
 |[],_,h=>h
 |(_,d)::ds,vs,h=>by
  obtain⟨v,r,e,q,t⟩:=h
  exact⟨v,r,e,j8.mono x q,aD0.mono x t⟩
theorem v9.nil:v9 c U H [] []:=rfl
theorem v9.cons{d:D}{v:V}{ds:List D}{vs:List V}(h:j8 c U H d v)(t:v9 c U H ds vs):v9 c U H (d::ds) (v::vs):=⟨v,vs,rfl,h,t⟩
theorem v9.length:∀ {l:List D} {vs:List V},v9 c U H l vs->l.length=vs.length
 |[],_,h=>by cases h;rfl
 |_::_,_,h=>by obtain⟨v,r,rfl,_,t⟩:=h;simp[v9.length t]
theorem v9.get:∀ {l:List D} {vs:List V} {i:Nat} {d:D},v9 c U H l vs->l[i]? =some d->∃v,vs[i]? =some v/\j8 c U H d v
 |[],_,_,_,_,e=>by simp at e
 |_::_,_,0,_,h,e=>by
   obtain⟨v,r,rfl,q,t⟩:=h
   simp at e;subst e
   exact⟨v,rfl,q⟩
 |_::_,_,i+1,_,h,e=>by
   obtain⟨v,r,rfl,q,t⟩:=h
   simp at e
   obtain⟨w,h1,h2⟩:=v9.get t e
   exact⟨w,by simpa using h1,h2⟩
theorem v9.append:∀ {l l':List D} {vs vs':List V},v9 c U H l vs->v9 c U H l' vs'->v9 c U H (l++l') (vs++vs')
 |[],_,_,_,h,t=>by cases h;exact t
 |_::_,_,_,_,h,t=>by
   obtain⟨v,r,rfl,q,u⟩:=h
   exact⟨v,r++_,rfl,q,v9.append u t⟩
theorem v9.take:∀(n:Nat) {l:List D} {vs:List V},v9 c U H l vs->v9 c U H (l.take n) (vs.take n)
 |0,_,_,_=>rfl
 |_+1, [],_,h=>by cases h;rfl
 |n+1,_::_,_,h=>by
   obtain⟨v,r,rfl,q,u⟩:=h
   exact⟨v,r.take n,rfl,q,v9.take n u⟩
theorem v9.drop:∀(n:Nat) {l:List D} {vs:List V},v9 c U H l vs->v9 c U H (l.drop n) (vs.drop n)
 |0,_,_,h=>h
 |_+1, [],_,h=>by cases h;rfl
 |n+1,_::_,_,h=>by
   obtain⟨v,r,rfl,q,u⟩:=h
   exact v9.drop n u
theorem v9.set{d:D}{v:V}(hv:j8 c U H d v):∀(n:Nat) {l:List D} {vs:List V},v9 c U H l vs->v9 c U H (l.set n d) (vs.set n v)
 |_, [],_,h=>by cases h;rfl
 |0,_::_,_,h=>by
   obtain⟨w,r,rfl,q,u⟩:=h
   exact⟨v,r,rfl,hv,u⟩
 |n+1,_::_,_,h=>by
   obtain⟨w,r,rfl,q,u⟩:=h
   exact⟨w,r.set n v,rfl,q,v9.set hv n u⟩
theorem v9.reverse:∀ {l:List D} {vs:List V},v9 c U H l vs->v9 c U H l.reverse vs.reverse
 |[],_,h=>by cases h;rfl
 |_::_,_,h=>by
   obtain⟨w,r,rfl,q,u⟩:=h
   simp only[xt]
   exact v9.append (v9.reverse u) ⟨w, [],rfl,q,rfl⟩
theorem v9.dropLast{l:List D}{vs:List V}(h:v9 c U H l vs):v9 c U H l.dropLast vs.dropLast:=by
 rw[Jk,Jk,h.length]
 exact h.take _
noncomputable def aQ6:Option DO->Prop
 |some (.rol _)=>True
 |some (.rod _)=>True
 |_=>False
def aM8(c:Wc)(U:List Addr)(H:Hp)(a:Addr):DO->Prop
 | .lst l=>∃vs,H a=some (.lst vs)/\v9 c U H l vs
 | .rol l=>∃vs,RoL c.K H a vs/\v9 c U H l vs
 | .dct l=>∃kvs,H a=some (.dK kvs)/\aD0 c U H l kvs
 | .rod l=>∃kvs o,H a=some (.frz o (.dK kvs))/\aD0 c U H l kvs
structure J0(c:Wc)(U:List Addr)(G:DH)(H:Hp):Prop where
 len:U.length=G.length
 inj:∀(i j:Nat) (a:Addr),U[i]? =some a->U[j]? =some a->i=j\/aQ6 G[i]? \/aQ6 G[j]?
 obj:∀(i:Nat) (o:DO) (a:Addr),G[i]? =some o->U[i]? =some a->aM8 c U H a o
variable{G:DH}
theorem lt_of_get{α:Type}{l:List α}{i:Nat}{x:α}(e:l[i]? =some x):i<l.length:=by
 rcases xa i l.length with q|q
 ·exact q
 ·rw[zK q]at e;exact K1 e
theorem J0.at(h:J0 c U G H){i:Nat}{o:DO}(e:G[i]? =some o):∃a,U[i]? =some a/\aM8 c U H a o:=by
 have q:i<U.length:=by rw[h.len];exact lt_of_get e
 exact⟨U[i],zu q,h.obj i o _ e (zu q)⟩
theorem aM8.mono(x:Ext U H X9 H'){a:Addr}{o:DO}(h:aM8 c U H a o)(e:H' a=H a\/aQ6 (some o)):aM8 c X9 H' a o:=by
 rcases o with l|l|l|l
 ·
   obtain⟨vs,q,r⟩:=h
   rcases e with e|e
   ·exact⟨vs,e.trans q,r.mono x⟩
   ·exact e.elim
 ·obtain⟨vs,q,r⟩:=h;exact⟨vs,x.roL q,r.mono x⟩
 ·
   obtain⟨vs,q,r⟩:=h
   rcases e with e|e
   ·exact⟨vs,e.trans q,r.mono x⟩
   ·exact e.elim
 ·obtain⟨vs,o,q,r⟩:=h;exact⟨vs,o,x.frz _ _ _ q,r.mono x⟩
theorem aM8.some_of{a:Addr}{o:DO}(h:aM8 c U H a o)(n:¬aQ6 (some o)):∃u,H a=some u/\(∀xs,u≠ .tup xs)/\∀o' u',u≠ .frz o' u':=by
 rcases o with l|l|l|l
 ·obtain⟨vs,q,_⟩:=h;exact⟨_,q,(λ_ z=>nomatch z),(λ_ _ z=>nomatch z)⟩
 ·exact(n trivial).elim
 ·obtain⟨vs,q,_⟩:=h;exact⟨_,q,(λ_ z=>nomatch z),(λ_ _ z=>nomatch z)⟩
 ·exact(n trivial).elim
theorem J0.same(h:J0 c U G H)(k:Ext U H U H')(e:∀a o,H a=some o->(∀xs,o≠ .tup xs)->H' a=some o):J0 c U G H':=
 ⟨h.len,h.inj,λi o a g m=>by
  have q:=h.obj i o a g m
  by_cases hr:aQ6 (some o)
  ·exact q.mono k (.inr hr)
  · obtain⟨u,e1,n1,n2⟩:=q.some_of hr
    exact q.mono k (.inl ((e a u e1 n1).trans e1.symm))⟩
theorem J0.new{p:Addr}{o:DO}{u:HO}(h:J0 c U G H)(hp:H p=none)(ho:aM8 c (U++[p]) (upd H p u) p o):J0 c (U++[p]) (G++[o]) (upd H p u):=by
 have k:Ext U H (U++[p]) (upd H p u):=Ext.add hp u
 have old:∀(i:Nat) (a:Addr),i<U.length->(U++[p])[i]? =some a->U[i]? =some a:=λi a hi e=>by
  rw[zH hi]at e;exact e
 refine⟨by simp[h.len],λi j a ei ej=>?_,λi o' a g m=>?_⟩
 · have li:=lt_of_get ei
   have lj:=lt_of_get ej
   simp only[zR,xx]at li lj
   by_cases hi:i<U.length
   · have mi:=old i a hi ei
     have gi:(G++[o])[i]? =G[i]? :=zH (by rw[<-h.len];exact hi)
     by_cases hj:j<U.length
     · have mj:=old j a hj ej
       have gj:(G++[o])[j]? =G[j]? :=zH (by rw[<-h.len];exact hj)
       rw[gi,gj]
       exact h.inj i j a mi mj
     · -- j is the new one:a=p
       have ej':j=U.length:=by lia
       subst ej'
       have ea:a=p:=by simpa using ej.symm
       subst ea
       right;left
       rw[gi]
       have hg:i<G.length:=by rw[<-h.len];exact hi
       have q:=h.obj i G[i] a (zu hg) mi
       rw[zu hg]
       refine xL λn=>?_
       obtain⟨u',e1,_⟩:=q.some_of n
       rw[hp]at e1;exact K1 e1
   · have ei':i=U.length:=by lia
     by_cases hj:j<U.length
     · have mj:=old j a hj ej
       have gj:(G++[o])[j]? =G[j]? :=zH (by rw[<-h.len];exact hj)
       subst ei'
       have ea:a=p:=by simpa using ei.symm
       subst ea
       right;right
       rw[gj]
       have hg:j<G.length:=by rw[<-h.len];exact hj
       have q:=h.obj j G[j] a (zu hg) mj
       rw[zu hg]
       refine xL λn=>?_
       obtain⟨u',e1,_⟩:=q.some_of n
       rw[hp]at e1;exact K1 e1
     ·left;lia
 · have li:=lt_of_get m
   simp only[zR,xx]at li
   by_cases hi:i<U.length
   · have mi:=old i a hi m
     rw[zH (by rw[<-h.len];exact hi)]at g
     have q:=h.obj i o' a g mi
     by_cases hr:aQ6 (some o')
     ·exact q.mono k (.inr hr)
     · obtain⟨u',e1,_⟩:=q.some_of hr
       exact q.mono k (.inl (J6 (K5 e1 hp)))
   · have ei':i=U.length:=by lia
     subst ei'
     have ea:a=p:=by simpa using m.symm
     subst ea
     rw[h.len]at g
     have eo:o'=o:=by simpa using g.symm
     subst eo
     exact ho
theorem J0.set{i:Nat}{a:Addr}{o o':DO}{u:HO}(h:J0 c U G H)(g:G[i]? =some o)(n:¬aQ6 (some o))(m:U[i]? =some a)(k:Ext U H U (upd H a u))(n':¬aQ6 (some o'))(ho:aM8 c U (upd H a u) a o'):J0 c U (G.set i o') (upd H a u):=by
 have hi:i<G.length:=lt_of_get g
 have get:∀j,(G.set i o')[j]? =if i=j then some o' else G[j]? :=λj=>by
  rw[Yx]
  by_cases e:i=j
  ·subst e;simp[hi]
  ·simp[e]
 refine⟨by simp[h.len],λj l b ej el=>?_,λj o2 b gj mj=>?_⟩
 · rcases h.inj j l b ej el with e|e|e
   ·exact .inl e
   · by_cases ij:i=j
     ·subst ij;rw[g]at e;exact(n e).elim
     ·right;left;rw[get,if_neg ij];exact e
   · by_cases ij:i=l
     ·subst ij;rw[g]at e;exact(n e).elim
     ·right;right;rw[get,if_neg ij];exact e
 · rw[get]at gj
   by_cases ij:i=j
   · subst ij
     rw[if_pos rfl]at gj
     cases gj
     rw[m]at mj
     cases mj
     exact ho
   · rw[if_neg ij]at gj
     have q:=h.obj j o2 b gj mj
     by_cases hr:aQ6 (some o2)
     ·exact q.mono k (.inr hr)
     · have nb:b≠a:=λe=>by
        subst e
        rcases h.inj i j b m mj with e|e|e
        ·exact ij e
        ·rw[g]at e;exact n e
        ·rw[gj]at e;exact hr e
       exact q.mono k (.inl (J6 nb))
def M9(c:Wc)(U:List Addr)(H:Hp)(Z8:DSt)(O:St):Prop:=Z8.length=O.length/\∀(i:Nat) (d:D),Z8[i]? =some (some d)->∃v,O[i]? =some (some v)/\j8 c U H d v
theorem M9.mono(x:Ext U H X9 H'){Z8:DSt}{O:St}(h:M9 c U H Z8 O):M9 c X9 H' Z8 O:=
 ⟨h.1,λi d e=>let ⟨v,a,b⟩:=h.2 i d e;⟨v,a,b.mono x⟩⟩
theorem M9.put{Z8:DSt}{O:St}(h:M9 c U H Z8 O){d:D}{v:V}(r:j8 c U H d v)(i:Nat):M9 c U H (Z8.set i (some d)) (O.set i (some v)):=by
 refine⟨by simp[h.1],λj d' e=>?_⟩
 rw[Yx]at e ⊢
 by_cases ij:i=j
 · subst ij
   rw[if_pos rfl]at e ⊢
   rw[<-h.1]
   split at e
   · rename_i hl
     rw[if_pos hl]
     cases e
     exact⟨v,rfl,r⟩
   ·exact K1 e
 · rw[if_neg ij]at e ⊢
   exact h.2 j d' e
end
noncomputable def M(α:Type):=DH->Option (Except Str α×DH)
namespace M
noncomputable def pure{α:Type}(a:α):M α:=λG=>some (.ok a,G)
noncomputable def bind{α β:Type}(m:M α)(f:α->M β):M β:=λG=>match m G with
 |none=>none
 |some (.ok a,G1)=>f a G1
 |some (.error x,G1)=>some (.error x,G1)
noncomputable def stuck{α:Type}:M α:=λ_=>none
end M
noncomputable instance:Monad M:={pure:=M.pure,bind:=M.bind}
theorem M.bind_eq{α β:Type}(m:M α)(f:α->M β)(G:DH):(m >>= f) G=match m G with
 |none=>none
 |some (.ok a,G1)=>f a G1
 |some (.error x,G1)=>some (.error x,G1):=rfl
theorem M.bind_ok{α β:Type}{m:M α}{f:α->M β}{G G1:DH}{a:α}(h:m G=some (.ok a,G1)):(m >>= f) G=f a G1:=by rw[M.bind_eq,h]
theorem M.bind_assoc{α β γ:Type}(m:M α)(f:α->M β)(g:β->M γ):((m >>= f) >>= g)= (m >>= λa=>f a >>= g):=by
 funext G
 simp only[M.bind_eq]
 rcases m G with _|p
 ·rfl
 ·obtain⟨r,G1⟩:=p;cases r<;>rfl
noncomputable abbrev XC:=Str->List Addr->DH->Hp->Prop
noncomputable def ZF:XC:=λ_ _ _ _=>False
noncomputable def j7{α:Type}(c:Wc)(Z:XC)(U:List Addr)(H:Hp)(r:Option (Except Str α×DH))(K:α->List Addr->DH->Hp->Prop):Prop:=
 match r with
 |none=>False
 |some (.ok a,G')=>∀ X9 H',Ext U H X9 H'->J0 c X9 G' H'->K a X9 G' H'
 |some (.error x,G')=>∀ X9 H',Ext U H X9 H'->J0 c X9 G' H'->Z x X9 G' H'
section
variable{α β:Type}{c:Wc}{Z:XC}{U X9:List Addr}{H H':Hp}
theorem j7.mono{r:Option (Except Str α×DH)}{K K':α->List Addr->DH->Hp->Prop}(h:j7 c Z U H r K)
 (k:∀a X9 G' H',Ext U H X9 H'->J0 c X9 G' H'->K a X9 G' H'->K' a X9 G' H'):j7 c Z U H r K':=by
 match r,h with
 |some (.ok a,G'),h=>exact λX9 H' p e=>k a X9 G' H' p e (h X9 H' p e)
 |some (.error x,G'),h=>exact h
theorem j7.from{r:Option (Except Str α×DH)}{K:α->List Addr->DH->Hp->Prop}(h:j7 c Z U H r K)(p:Ext U H X9 H'):j7 c Z X9 H' r K:=by
 match r,h with
 |some (.ok a,G'),h=>exact λWW H2 p2 e=>h WW H2 (p.trans p2) e
 |some (.error x,G'),h=>exact λWW H2 p2 e=>h WW H2 (p.trans p2) e
theorem j7.bind{m:M α}{f:α->M β}{G:DH}{K:β->List Addr->DH->Hp->Prop}(h:j7 c Z U H ((m >>= f) G) K):
 j7 c Z U H (m G) (λa X9 G' H'=>j7 c Z X9 H' (f a G') K):=by
 rw[M.bind_eq]at h
 match m G,h with
 |some (.ok a,G'),h=>exact λX9 H' p e=>j7.from h p
 |some (.error x,G'),h=>exact h
theorem j7.ok{a:α}{G:DH}{K:α->List Addr->DH->Hp->Prop}(h:j7 c Z U H (some (.ok a,G)) K)(e:J0 c U G H):K a U G H:=h U H (Ext.refl _ _) e
end
inductive Fl where
 |nx (O:DSt)|rt (d:D)|bk (O:DSt)|ct (O:DSt)
section
variable(c:Wc)(Z:XC)
def bL5(f:DSt->M D):TE:=λO H Q=>∃Z8 U G,M9 c U H Z8 O/\J0 c U G H/\j7 c Z U H (f Z8 G) λd X9 _ H'=>∀v,j8 c X9 H' d v->Q v H'
def bQ3(f:DSt->M Bool):TT:=λO H Q=>∃Z8 U G,M9 c U H Z8 O/\J0 c U G H/\j7 c Z U H (f Z8 G) λb X9 _ H'=>Q b H'
def cK2(f:DSt->M (List D)):TA:=λO H Q=>∃Z8 U G,M9 c U H Z8 O/\J0 c U G H/\j7 c Z U H (f Z8 G) λds X9 _ H'=>∀vs,v9 c X9 H' ds vs->Q vs H'
def bU4(E:bT8)(fl:Fl)(U:List Addr)(H:Hp):Prop:=match fl with
 | .nx Z8=>∀ O,M9 c U H Z8 O->E.nx O H
 | .rt d=>∀v,j8 c U H d v->E.rt v H
 | .bk Z8=>∀ O,M9 c U H Z8 O->E.bk O H
 | .ct Z8=>∀ O,M9 c U H Z8 O->E.ct O H
def bS3(f:DSt->M Fl):TS:=λE O H=>∃Z8 U G,M9 c U H Z8 O/\J0 c U G H/\j7 c Z U H (f Z8 G) λfl X9 _ H'=>bU4 c E fl X9 H'
end
theorem bL5.elim{c:Wc}{Z:XC}{P:Prop}{f:DSt->M D}{O:St}{H:Hp}{Q:VK}(h:bL5 c Z f O H Q)(k:∀Z8 U G,M9 c U H Z8 O->J0 c U G H->j7 c Z U H (f Z8 G) (λd X9 _ H'=>∀v,j8 c X9 H' d v->Q v H')->P):P:=by
 obtain⟨e0,e1,e2,e3,e4,e5⟩:=h
 exact k e0 e1 e2 e3 e4 e5
theorem bQ3.elim{c:Wc}{Z:XC}{P:Prop}{f:DSt->M Bool}{O:St}{H:Hp}{Q:Bool->Hp->Prop}(h:bQ3 c Z f O H Q)(k:∀Z8 U G,M9 c U H Z8 O->J0 c U G H->j7 c Z U H (f Z8 G) (λb X9 _ H'=>Q b H')->P):P:=by
 obtain⟨e0,e1,e2,e3,e4,e5⟩:=h
 exact k e0 e1 e2 e3 e4 e5
theorem cK2.elim{c:Wc}{Z:XC}{P:Prop}{f:DSt->M (List D)}{O:St}{H:Hp}{Q:List V->Hp->Prop}(h:cK2 c Z f O H Q)(k:∀Z8 U G,M9 c U H Z8 O->J0 c U G H->j7 c Z U H (f Z8 G) (λds X9 _ H'=>∀vs,v9 c X9 H' ds vs->Q vs H')->P):P:=by
 obtain⟨e0,e1,e2,e3,e4,e5⟩:=h
 exact k e0 e1 e2 e3 e4 e5
theorem bS3.elim{c:Wc}{Z:XC}{P:Prop}{f:DSt->M Fl}{E:bT8}{O:St}{H:Hp}(h:bS3 c Z f E O H)(k:∀Z8 U G,M9 c U H Z8 O->J0 c U G H->j7 c Z U H (f Z8 G) (λfl X9 _ H'=>bU4 c E fl X9 H')->P):P:=by
 obtain⟨e0,e1,e2,e3,e4,e5⟩:=h
 exact k e0 e1 e2 e3 e4 e5
structure DE(X:Cx)(Z:XC)(e:Expr)(f:DSt->M D):Prop where
 h:PE X e (bL5 (wc X) Z f)
structure DT(X:Cx)(Z:XC)(e:Expr)(f:DSt->M Bool):Prop where
 h:PT X e (bQ3 (wc X) Z f)
structure DA(X:Cx)(Z:XC)(e:List Expr)(f:DSt->M (List D)):Prop where
 h:PA X e (cK2 (wc X) Z f)
structure DS(X:Cx)(Z:XC)(e:Stmt)(f:DSt->M Fl):Prop where
 h:PS X e (bS3 (wc X) Z f)
structure DB(X:Cx)(Z:XC)(e:List Stmt)(f:DSt->M Fl):Prop where
 h:PSs X e (bS3 (wc X) Z f)
theorem PE.mono{X:Cx}{e:Expr}{t t':TE}(h:PE X e t)(k:∀ O H Q,t' O H Q->t O H Q):PE X e t':=λpins s O H Q I q=>h pins s O H Q I (k O H Q q)
theorem PT.mono{X:Cx}{e:Expr}{t t':TT}(h:PT X e t)(k:∀ O H Q,t' O H Q->t O H Q):PT X e t':=λpins s O H Q I q=>h pins s O H Q I (k O H Q q)
theorem PW.mono{X:Cx}{e:Expr}{t t':TT}(h:PW X e t)(k:∀ O H Q,t' O H Q->t O H Q):PW X e t':=λwh pins s O H Q I q=>h wh pins s O H Q I (k O H Q q)
theorem PA.mono{X:Cx}{e:List Expr}{t t':TA}(h:PA X e t)(k:∀ O H Q,t' O H Q->t O H Q):PA X e t':=λpos pins s O H Q I q=>h pos pins s O H Q I (k O H Q q)
theorem PS.mono{X:Cx}{e:Stmt}{t t':TS}(h:PS X e t)(k:∀E O H,t' E O H->t E O H):PS X e t':=λpins s O H E I q=>h pins s O H E I (k E O H q)
theorem PSs.mono{X:Cx}{e:List Stmt}{t t':TS}(h:PSs X e t)(k:∀E O H,t' E O H->t E O H):PSs X e t':=λpins s O H E I q=>h pins s O H E I (k E O H q)
theorem DE.of{X:Cx}{Z:XC}{e:Expr}{f:DSt->M D}{t:TE}(h:PE X e t)(k:∀ O H Q,bL5 (wc X) Z f O H Q->t O H Q):DE X Z e f:=⟨PE.mono h k⟩
theorem DT.of{X:Cx}{Z:XC}{e:Expr}{f:DSt->M Bool}{t:TT}(h:PT X e t)(k:∀ O H Q,bQ3 (wc X) Z f O H Q->t O H Q):DT X Z e f:=⟨PT.mono h k⟩
theorem DA.of{X:Cx}{Z:XC}{e:List Expr}{f:DSt->M (List D)}{t:TA}(h:PA X e t)(k:∀ O H Q,cK2 (wc X) Z f O H Q->t O H Q):DA X Z e f:=⟨PA.mono h k⟩
theorem DS.of{X:Cx}{Z:XC}{e:Stmt}{f:DSt->M Fl}{t:TS}(h:PS X e t)(k:∀E O H,bS3 (wc X) Z f E O H->t E O H):DS X Z e f:=⟨PS.mono h k⟩
theorem DB.of{X:Cx}{Z:XC}{e:List Stmt}{f:DSt->M Fl}{t:TS}(h:PSs X e t)(k:∀E O H,bS3 (wc X) Z f E O H->t E O H):DB X Z e f:=⟨PSs.mono h k⟩
end DL
namespace DL
open PySem PySem.Spec L2
open PyProof.Rows hiding St
noncomputable def aA5:Expr->Bool
 | .Starred ..=>false
 |_=>true
theorem q14{e:Expr}{es:List Expr}{env:Env}(h:aA5 e=true):zM (e::es) env= (false,eval e env)::zM es env:=by
 cases e<;>first
  |rfl
  |exact cJ8 h
theorem aI4{e:Expr}{env:Env}(h:aA5 e=true):zM [e] env= [(false,eval e env)]:=q14 h
theorem dT7{a b:Expr}{env:Env}(h:aA5 a=true)(h':aA5 b=true):zM [a,b] env= [(false,eval a env),(false,eval b env)]:=by rw[q14 h,aI4 h']
abbrev Fe:=DSt->M D
noncomputable def b8(i:Nat):Fe:=λO G=>match O[i]? with
 |some (some d)=>some (.ok d,G)
 |_=>none
def cE(d:D):Fe:=λ_=>pure d
noncomputable def d9(o:D->D->M D)(a b:Fe):Fe:=λO=>do o (<-a O) (<-b O)
noncomputable def unE(o:D->M D)(a:Fe):Fe:=λO=>do o (<-a O)
def q11:DSt->M (List D):=λ_=>pure []
def q10(a:Fe)(r:DSt->M (List D)):DSt->M (List D):=λO=>do
 let x <-a O
 let xs <-r O
 pure (x::xs)
noncomputable def q12(F:List D->M D)(a:DSt->M (List D)):Fe:=λO=>do F (<-a O)
def dF7:D->M Bool
 | .bl b=>pure b
 |_=>M.stuck
def bI3(a:Fe):Fe:=λO=>do pure (.bl (!(<-dF7 (<-a O))))
noncomputable def ifE(t:DSt->M Bool)(a b:Fe):Fe:=λO=>do if <-t O then a O else b O
section
variable(c:Wc)(Z:XC)
def bH9(o:D->D->M D):R2:=λx y H Q=>∃dx dy U G,j8 c U H dx x/\j8 c U H dy y/\J0 c U G H/\j7 c Z U H (o dx dy G) λd X9 _ H'=>∀v,j8 c X9 H' d v->Q v H'
def cD7(o:D->M D):V->Hp->VK->Prop:=λx H Q=>∃dx U G,j8 c U H dx x/\J0 c U G H/\j7 c Z U H (o dx G) λd X9 _ H'=>∀v,j8 c X9 H' d v->Q v H'
def bP4(F:List D->M D):List V->Hp->VK->Prop:=λxs H Q=>∃ds U G,v9 c U H ds xs/\J0 c U G H/\j7 c Z U H (F ds G) λd X9 _ H'=>∀v,j8 c X9 H' d v->Q v H'
end
theorem bH9.elim{c:Wc}{Z:XC}{P:Prop}{o:D->D->M D}{x:V}{y:V}{H:Hp}{Q:VK}(h:bH9 c Z o x y H Q)(k:∀dx dy U G,j8 c U H dx x->j8 c U H dy y->J0 c U G H->j7 c Z U H (o dx dy G) (λd X9 _ H'=>∀v,j8 c X9 H' d v->Q v H')->P):P:=by
 obtain⟨e0,e1,e2,e3,e4,e5,e6,e7⟩:=h
 exact k e0 e1 e2 e3 e4 e5 e6 e7
theorem cD7.elim{c:Wc}{Z:XC}{P:Prop}{o:D->M D}{x:V}{H:Hp}{Q:VK}(h:cD7 c Z o x H Q)(k:∀dx U G,j8 c U H dx x->J0 c U G H->j7 c Z U H (o dx G) (λd X9 _ H'=>∀v,j8 c X9 H' d v->Q v H')->P):P:=by
 obtain⟨e0,e1,e2,e3,e4,e5⟩:=h
 exact k e0 e1 e2 e3 e4 e5
theorem bP4.elim{c:Wc}{Z:XC}{P:Prop}{F:List D->M D}{xs:List V}{H:Hp}{Q:VK}(h:bP4 c Z F xs H Q)(k:∀ds U G,v9 c U H ds xs->J0 c U G H->j7 c Z U H (F ds G) (λd X9 _ H'=>∀v,j8 c X9 H' d v->Q v H')->P):P:=by
 obtain⟨e0,e1,e2,e3,e4,e5⟩:=h
 exact k e0 e1 e2 e3 e4 e5
structure OpD(X:Cx)(Z:XC)(f:zf->zf->Sem zf)(o:D->D->M D):Prop where
 h:OpR X f (bH9 (wc X) Z o)
structure UnD(X:Cx)(Z:XC)(f:zf->Sem zf)(o:D->M D):Prop where
 h:UnR X f (cD7 (wc X) Z o)
structure Z3(X:Cx)(Z:XC)(f:zf)(F:List D->M D):Prop where
 h:aB5 X f (bP4 (wc X) Z F)
theorem OpR.mono{X:Cx}{f:zf->zf->Sem zf}{r r':R2}(h:OpR X f r)(k:∀x y H Q,r' x y H Q->r x y H Q):OpR X f r':=λpins s O H x y v u Q I rx ry q=>h pins s O H x y v u Q I rx ry (k x y H Q q)
theorem aB5.mono{X:Cx}{f:zf}{r r':List V->Hp->VK->Prop}(h:aB5 X f r)(k:∀xs H Q,r' xs H Q->r xs H Q):aB5 X f r':=λpins s O H xs us Q I rx q=>h pins s O H xs us Q I rx (k xs H Q q)
theorem OpD.of{X:Cx}{Z:XC}{f:zf->zf->Sem zf}{o:D->D->M D}{r:R2}(h:OpR X f r)(k:∀x y H Q,bH9 (wc X) Z o x y H Q->r x y H Q):OpD X Z f o:=⟨OpR.mono h k⟩
theorem Z3.of{X:Cx}{Z:XC}{f:zf}{F:List D->M D}{r:List V->Hp->VK->Prop}(h:aB5 X f r)(k:∀xs H Q,bP4 (wc X) Z F xs H Q->r xs H Q):Z3 X Z f F:=⟨aB5.mono h k⟩
section
variable{X:Cx}{Z:XC}{a b c e:Expr}{es:List Expr}{fa fb fc:Fe}{pos:Pos}
theorem bG3{cc:Wc}{o:D->D->M D}(O:St)(H:Hp)(Q:VK)(h:bL5 cc Z (d9 o fa fb) O H Q):tOp (bH9 cc Z o) (bL5 cc Z fa) (bL5 cc Z fb) O H Q:=by
 obtain⟨Z8,U,G,s,h,p⟩:=h
 exact⟨Z8,U,G,s,h,(j7.bind p).mono λx X1 G1 H1 x' h1 p1 v rv=>⟨Z8,X1,G1,s.mono x',h1,(j7.bind p1).mono λy WW G2 H2 x2 h2 p2 u ru=>⟨x,y,WW,G2,rv.mono x2,ru,h2,p2⟩⟩⟩
theorem eI5{i:Nat}(h:PE X e (fA6 i)):DE X Z e (b8 i):=DE.of h λO H Q hE0=>hE0.elim λZ8 U G s h p=>by
 delta b8 at p
 rcases he:Z8[i]? with _|_|d
 ·rw[he]at p;exact p.elim
 ·rw[he]at p;exact p.elim
 · rw[he]at p
   obtain⟨v,e1,r⟩:=s.2 i d he
   exact⟨v,e1,j7.ok p h v r⟩
theorem dK9{d:D}{v:V}(h:PE X e (tC v))(r:∀ U H,j8 (wc X) U H d v):DE X Z e (cE d):=DE.of h λO H Q hE0=>hE0.elim λZ8 U G s h p=>j7.ok p h v (r _ _)
theorem q17{i j pos}:DE X Z (.Constant (.int i) j pos) (cE (.int i)):=dK9 dM2 λ_ _=>by unfold j8;rfl
theorem eX4{i j pos}:DE X Z (.Constant (.bool i) j pos) (cE (.bl i)):=dK9 fC1 λ_ _=>by unfold j8;rfl
theorem eP9{j pos}:DE X Z (.Constant .none j pos) (cE .non):=dK9 eT5 λ_ _=>by unfold j8;rfl
theorem eQ2{i j pos}:DE X Z (.Constant (.str i) j pos) (cE (.str i)):=dK9 eJ2 λ_ _=>by unfold j8;rfl
theorem fH6(i:Nat){x:Str}{pos:Pos}(hN:X.N[i]? =some x)(hv:Vis X.env.scope x)(hd:(x==("__debug__" :Str))=false)
 (hcd:(x==("__classdict__" :Str))=false):DE X Z (.Name x pos) (b8 i):=eI5 (eR4 hN hv hd hcd)
theorem eW2{op:Operator}{o:D->D->M D}(ho:OpD X Z (jS op) o)(ha:DE X Z a fa)(hb:DE X Z b fb):DE X Z (.BinOp a op b pos) (d9 o fa fb):=
 DE.of (dJ6 ho.h ha.h hb.h) bG3
theorem eR2{op:CmpOp}{o:D->D->M D}(ho:OpD X Z (zT op) o)(ha:DE X Z a fa)(hb:DE X Z b fb)(hm:YD op b=false):DE X Z (.Compare a [op] [b] pos) (d9 o fa fb):=
 DE.of (dV0 ho.h ha.h hb.h hm) bG3
theorem fD3{op:UnaryOp}{o:D->M D}(ho:UnD X Z (unaryOp op) o)(ha:DE X Z a fa):DE X Z (.UnaryOp op a pos) (unE o fa):=
 DE.of (eY5 ho.h ha.h) λO H Q hE0=>hE0.elim λZ8 U G s h p=>⟨Z8,U,G,s,h,(j7.bind p).mono λx X1 G1 H1 x' h1 p1 v rv=>⟨x,X1,G1,rv,h1,p1⟩⟩
theorem dE3{α:Type}{cc:Wc}{U:List Addr}{H:Hp}{d:D}{f:Bool->M α}{G:DH}{K:α->List Addr->DH->Hp->Prop}(p:j7 cc Z U H ((dF7 d >>= f) G) K):∃k,d= .bl k/\j7 cc Z U H (f k G) K:=by
 cases d with
 |bl k=>exact⟨k,rfl,p⟩
 |_=>exact p.elim
theorem eJ1{op}{f:Fe}(h:DE X Z a f):DE X Z (.BoolOp op [a] pos) f:=⟨eH2 h.h⟩
theorem eR1(ha:DE X Z a fa):DE X Z (.UnaryOp .Not a pos) (bI3 fa):=
 DE.of (eN5 ha.h) λO H Q hE0=>hE0.elim λZ8 U G s h p=>⟨Z8,U,G,s,h,(j7.bind p).mono λx X1 G1 H1 x' h1 p1 v rv=>by
  obtain⟨k',rfl,p2⟩:=dE3 p1
  unfold j8 at rv
  exact⟨k',rv,j7.ok p2 h1 _ (by unfold j8;rfl)⟩⟩
def o6(f:Fe):DSt->M Bool:=λO=>do dF7 (<-f O)
def aQ4(a b:DSt->M Bool):DSt->M Bool:=λO=>do if <-a O then b O else pure false
def orT(a b:DSt->M Bool):DSt->M Bool:=λO=>do if <-a O then pure true else b O
def bH8(a:DSt->M Bool):DSt->M Bool:=λO=>do pure (!(<-a O))
structure DW(X:Cx)(Z:XC)(e:Expr)(f:DSt->M Bool):Prop where
 h:PW X e (bQ3 (wc X) Z f)
theorem DW.of{X:Cx}{Z:XC}{e:Expr}{f:DSt->M Bool}{t:TT}(h:PW X e t)(k:∀ O H Q,bQ3 (wc X) Z f O H Q->t O H Q):DW X Z e f:=⟨PW.mono h k⟩
variable{ta tb:DSt->M Bool}{rest:List Expr}
theorem DW.dt(h:DW X Z a ta):DT X Z a ta:=⟨λpins s O H Q I q=>h.h _ pins s O H Q I q⟩
theorem eI9{op:CmpOp}{o:D->D->M D}(ho:OpD X Z (zT op) o)(ha:DE X Z a fa)(hb:DE X Z b fb)(hm:YD op b=false):DT X Z (.Compare a [op] [b] pos) (o6 (d9 o fa fb)):=
 DT.of (dX0 ho.h ha.h hb.h hm) λO H Q hE0=>hE0.elim λZ8 U G s h p=>bG3 O H _ ⟨Z8,U,G,s,h,(j7.bind p).mono λx X1 G1 H1 x' h1 p1 v rv=>by
  cases x with
  |bl k'=>unfold j8 at rv;exact⟨k',rv,j7.ok p1 h1⟩
  |_=>exact p1.elim⟩
theorem eB2(ha:DT X Z a ta):DW X Z (.BoolOp .And [a] pos) ta:=⟨eB1 ha.h⟩
theorem eI4(ha:DT X Z a ta):DW X Z (.BoolOp .Or [a] pos) ta:=⟨eO8 ha.h⟩
theorem eI7(ha:DT X Z a ta)(hb:DW X Z (.BoolOp .And (b::rest) pos) tb):DW X Z (.BoolOp .And (a::b::rest) pos) (aQ4 ta tb):=
 DW.of (eK6 ha.h hb.h) λO H Q hE0=>hE0.elim λZ8 U G s h p=>⟨Z8,U,G,s,h,(j7.bind p).mono λx X1 G1 H1 x' h1 p1=>by
  cases x with
  |true=>exact⟨Z8,X1,G1,s.mono x',h1,p1⟩
  |false=>exact j7.ok p1 h1⟩
theorem fA7(ha:DT X Z a ta)(hb:DW X Z (.BoolOp .Or (b::rest) pos) tb):DW X Z (.BoolOp .Or (a::b::rest) pos) (orT ta tb):=
 DW.of (eW9 ha.h hb.h) λO H Q hE0=>hE0.elim λZ8 U G s h p=>⟨Z8,U,G,s,h,(j7.bind p).mono λx X1 G1 H1 x' h1 p1=>by
  cases x with
  |false=>exact⟨Z8,X1,G1,s.mono x',h1,p1⟩
  |true=>exact j7.ok p1 h1⟩
theorem eR0(ha:DT X Z a ta):DT X Z (.UnaryOp .Not a pos) (bH8 ta):=
 DT.of (eQ6 ha.h) λO H Q hE0=>hE0.elim λZ8 U G s h p=>⟨Z8,U,G,s,h,(j7.bind p).mono λx X1 G1 H1 x' h1 p1=>j7.ok p1 h1⟩
theorem fD6(hc:DT X Z c ta)(ha:DE X Z a fa)(hb:DE X Z b fb):DE X Z (.IfExp c a b pos) (ifE ta fa fb):=
 DE.of (dQ3 hc.h ha.h hb.h) λO H Q hE0=>hE0.elim λZ8 U G s h p=>⟨Z8,U,G,s,h,(j7.bind p).mono λx X1 G1 H1 x' h1 p1=>by
  cases x with
  |true=>exact⟨Z8,X1,G1,s.mono x',h1,p1⟩
  |false=>exact⟨Z8,X1,G1,s.mono x',h1,p1⟩⟩
variable{fs:DSt->M (List D)}
theorem q16:DA X Z [] q11:=DA.of eH3 λO H Q hE0=>hE0.elim λZ8 U G s h p=>j7.ok p h [] rfl
theorem q15(ha:DE X Z e fa)(hr:DA X Z es fs)(hs:zM (e::es) X.env= (false,eval e X.env)::zM es X.env):DA X Z (e::es) (q10 fa fs):=
 DA.of (dX5 ha.h hr.h hs) λO H Q hE0=>hE0.elim λZ8 U G s h p=>⟨Z8,U,G,s,h,(j7.bind p).mono λx X1 G1 H1 x' h1 p1 v rv=>
  ⟨Z8,X1,G1,s.mono x',h1,(j7.bind p1).mono λxs WW G2 H2 x2 h2 p2 vs rvs=>j7.ok p2 h2 (v::vs) ⟨v,vs,rfl,rv.mono x2,rvs⟩⟩⟩
def v5(fs:DSt->M (List D)):Fe:=λO=>do
 let xs <-fs O
 if xs.length<=zk then pure (.tup xs)else M.stuck
noncomputable def R0(o:DO):M D:=λG=>some (.ok (.ref G.length),G++[o])
def W6(fs:DSt->M (List D)):Fe:=λO=>do
 let xs <-fs O
 if xs.length<=zk then R0 (.lst xs)else M.stuck
theorem bG7{cc:Wc}{U:List Addr}{H:Hp}{G:DH}{xs:List D}{vs:List V}{Q:VK}(h:J0 cc U G H)(r:v9 cc U H xs vs)
 (p:j7 cc Z U H (some (Except.ok (.tup xs),G)) λd X9 _ H'=>∀v,j8 cc X9 H' d v->Q v H') (q:Addr) (hq:H q=none):Q (.ref q) (upd H q (.tup vs)):=by
 have k:Ext U H U (upd H q (.tup vs)):=Ext.lay hq _
 refine p U _ k (h.same k λa o e n=>?_) _ ?_
 ·rw[J6 (K5 e hq)];exact e
 · unfold j8
   exact⟨q,vs,rfl,SqT.of R9,r.mono k⟩
theorem aD1{cc:Wc}{U:List Addr}{H:Hp}{G:DH}{xs:List D}{vs:List V}{Q:VK}(h:J0 cc U G H)(r:v9 cc U H xs vs)
 (p:j7 cc Z U H (R0 (.lst xs) G) λd X9 _ H'=>∀v,j8 cc X9 H' d v->Q v H') (q:Addr) (hq:H q=none):Q (.ref q) (upd H q (.lst vs)):=by
 have k:Ext U H (U++[q]) (upd H q (.lst vs)):=Ext.add hq _
 refine p (U++[q]) _ k (h.new hq ⟨vs,R9,r.mono k⟩) _ ?_
 unfold j8
 exact⟨q,by rw[<-h.len];simp,rfl⟩
theorem eU5{x1}(h:DA X Z es fs):DE X Z (.Tuple es x1 pos) (v5 fs):=
 DE.of (eK0 h.h) λO H Q hE0=>hE0.elim λZ8 U G s h p=>⟨Z8,U,G,s,h,(j7.bind p).mono λxs X1 G1 H1 x' h1 p1 vs rv=>by
  split at p1
  · rename_i hz
    exact⟨by rw[<-rv.length];exact hz,λq hq=>bG7 h1 rv p1 q hq⟩
  ·exact p1.elim⟩
theorem eR5(h:DA X Z es fs):DE X Z (.List es pos) (W6 fs):=
 DE.of (eJ7 h.h) λO H Q hE0=>hE0.elim λZ8 U G s h p=>⟨Z8,U,G,s,h,(j7.bind p).mono λxs X1 G1 H1 x' h1 p1 vs rv=>by
  split at p1
  · rename_i hz
    exact⟨by rw[<-rv.length];exact hz,λq hq=>aD1 h1 rv p1 q hq⟩
  ·exact p1.elim⟩
theorem bY7{cc:Wc}{F:List D->M D}(O:St)(H:Hp)(Q:VK)(h:bL5 cc Z (q12 F fs) O H Q):tCB (bP4 cc Z F) (cK2 cc Z fs) O H Q:=by
 obtain⟨Z8,U,G,s,h,p⟩:=h
 exact⟨Z8,U,G,s,h,(j7.bind p).mono λx X1 G1 H1 x' h1 p1 vs rv=>⟨x,X1,G1,rv,h1,p1⟩⟩
theorem dN5{F:List D->M D}{id:String}{x:Str}{p:Pos}(hc:Z3 X Z (.builtin id) F)(hg:Gl X x)(hm:X.mg x=none)(hv:zO x=some (.builtin id))(ha:DA X Z (e::es) fs)(hn:x≠ "__name__")(hdb:(x==("__debug__" :Str))=false)
 (he:zM (e::es) X.env= (false,eval e X.env)::zM es X.env) (hpl:(yR pos (zM es X.env)).any (·.1)=false):DE X Z (.Call (.Name x p) (e::es) [] pos) (q12 F fs):=
 DE.of (dT2 hc.h hg hm hv ha.h hn hdb he hpl) bY7
theorem dC8{F:List D->M D}{T:String}{x:Str}{p:Pos}(hc:Z3 X Z (.type T) F)(hg:Gl X x)(hm:X.mg x=none)(hv:zO x=some (.type T))(ha:DA X Z (e::es) fs)(hn:x≠ "__name__")(hdb:(x==("__debug__" :Str))=false)
 (he:zM (e::es) X.env= (false,eval e X.env)::zM es X.env) (hpl:(yR pos (zM es X.env)).any (·.1)=false):DE X Z (.Call (.Name x p) (e::es) [] pos) (q12 F fs):=
 DE.of (dF5 hc.h hg hm hv ha.h hn hdb he hpl) bY7
def spD(c:Wc)(n:Nat)(F:List D->M D):Sp:=λvs H Q _=>vs.length=n/\∃ds U G,v9 c U H ds vs/\J0 c U G H/\j7 c ZF U H (F ds G) λd X9 _ H'=>∀v,j8 c X9 H' d v->Q v H'
noncomputable def noX{α:Type}(m:M α):M α:=λG=>match m G with
 |some (.ok a,G1)=>some (.ok a,G1)
 |_=>none
theorem cH9{α:Type}{cc:Wc}{U:List Addr}{H:Hp}{m:M α}{G:DH}{K:α->List Addr->DH->Hp->Prop}(p:j7 cc Z U H (noX m G) K):j7 cc ZF U H (m G) K:=by
 unfold noX at p
 match m G,p with
 |some (.ok a,G1),p=>exact p
 |some (.error x,G1),p=>exact p.elim
 |none,p=>exact p.elim
def fnX(n:Nat)(F:List D->M D):List D->M D:=λds=>if ds.length=n then noX (F ds)else M.stuck
theorem dN6{cc:Wc}{U:List Addr}{H:Hp}{n:Nat}{F:List D->M D}{ds:List D}{G:DH}{K:D->List Addr->DH->Hp->Prop}(p:j7 cc Z U H (fnX n F ds G) K):ds.length=n/\j7 cc ZF U H (F ds G) K:=by
 unfold fnX at p
 split at p
 ·rename_i h;exact⟨h,cH9 p⟩
 ·exact p.elim
theorem eD6{F:List D->M D}{k n:Nat}{f:Addr}{fd:zY}{ps:List Str}{x:Str}{p:Pos}(hF:K6 X.prog X.w X.K X.mg X.base CX0 k f fd ps (spD (wc X) n F))(hr:aE6 k X.A)(hg:Gl X x)(hm:X.mg x=some (.ref f))(hk:yh X.K (.ref f)=true)(hb:bL0 X.K fd ps [])
 (ha:DA X Z (e::es) fs)
 (hdb:(x==("__debug__" :Str))=false) (he:zM (e::es) X.env= (false,eval e X.env)::zM es X.env) (hpl:(yR pos (zM es X.env)).any (·.1)=false):
 DE X Z (.Call (.Name x p) (e::es) [] pos) (q12 (fnX n F) fs):=
 DE.of (eC2 hF hr hg hm hk hb .nil fB1 ha.h hdb he hpl) λO H Q hE0=>hE0.elim λZ8 U G s h p=>by
  refine⟨Z8,U,G,s,h,(j7.bind p).mono λds' X1 G1 H1 x' h1 p1 vs rv=>?_⟩
  obtain⟨hl,p2⟩:=dN6 p1
  show spD (wc X) n F (vs++[]) H1 Q E0
  rw[ZH]
  exact⟨by rw[<-rv.length];exact hl,ds',X1,G1,rv,h1,p2⟩
end
abbrev Fs:=DSt->M Fl
def u9:Fs:=λO=>pure (.nx O)
def m5(a b:Fs):Fs:=λO=>do
 match <-a O with
 | .nx X2=>b X2
 |r=>pure r
def t6(f:Fe):Fs:=λO=>do pure (.rt (<-f O))
def aQ1(f:Fe):Fs:=λO=>do
 let _ <-f O
 pure (.nx O)
noncomputable def ifS(t:DSt->M Bool)(a b:Fs):Fs:=λO=>do if <-t O then a O else b O
abbrev Fg:=D->DSt->M DSt
abbrev Fgs:=List D->DSt->M DSt
def q13(i:Nat):Fg:=λd O=>pure (O.set i (some d))
def aF6:Fgs:=λds O=>match ds with
 |[]=>pure O
 |_=>M.stuck
def w6(g:Fg)(r:Fgs):Fgs:=λds O=>match ds with
 |d::t=>do r t (<-g d O)
 |[]=>M.stuck
def aE0(n:Nat)(g:Fgs):Fg:=λd O=>match d with
 | .tup l=>if l.length=n then g l O else M.stuck
 |_=>M.stuck
def t8(f:Fe)(g:Fg):Fs:=λO=>do
 let d <-f O
 let X2 <-g d O
 pure (.nx X2)
section
variable(c:Wc)(Z:XC)
def bZ4(g:Fg):TG:=λv O H Q=>∃d Z8 U G,j8 c U H d v/\M9 c U H Z8 O/\J0 c U G H/\j7 c Z U H (g d Z8 G) λWV X9 _ H'=>∀ X2,M9 c X9 H' WV X2->Q X2 H'
def cG3(g:Fgs):TGs:=λvs O H Q=>∃ds Z8 U G,v9 c U H ds vs/\M9 c U H Z8 O/\J0 c U G H/\j7 c Z U H (g ds Z8 G) λWV X9 _ H'=>∀ X2,M9 c X9 H' WV X2->Q X2 H'
end
theorem bZ4.elim{c:Wc}{Z:XC}{P:Prop}{g:Fg}{v:V}{O:St}{H:Hp}{Q:St->Hp->Prop}(h:bZ4 c Z g v O H Q)(k:∀d Z8 U G,j8 c U H d v->M9 c U H Z8 O->J0 c U G H->j7 c Z U H (g d Z8 G) (λWV X9 _ H'=>∀ X2,M9 c X9 H' WV X2->Q X2 H')->P):P:=by
 obtain⟨e0,e1,e2,e3,e4,e5,e6,e7⟩:=h
 exact k e0 e1 e2 e3 e4 e5 e6 e7
theorem cG3.elim{c:Wc}{Z:XC}{P:Prop}{g:Fgs}{vs:List V}{O:St}{H:Hp}{Q:St->Hp->Prop}(h:cG3 c Z g vs O H Q)(k:∀ds Z8 U G,v9 c U H ds vs->M9 c U H Z8 O->J0 c U G H->j7 c Z U H (g ds Z8 G) (λWV X9 _ H'=>∀ X2,M9 c X9 H' WV X2->Q X2 H')->P):P:=by
 obtain⟨e0,e1,e2,e3,e4,e5,e6,e7⟩:=h
 exact k e0 e1 e2 e3 e4 e5 e6 e7
structure DG(X:Cx)(Z:XC)(tg:Expr)(g:Fg):Prop where
 h:PG X tg (bZ4 (wc X) Z g)
structure DGs(X:Cx)(Z:XC)(tgs:List Expr)(g:Fgs):Prop where
 h:PGs X tgs (cG3 (wc X) Z g)
theorem PG.mono{X:Cx}{e:Expr}{t t':TG}(h:PG X e t)(k:∀v O H Q,t' v O H Q->t v O H Q):PG X e t':=λpins s O H v u Q I r q=>h pins s O H v u Q I r (k v O H Q q)
theorem PGs.mono{X:Cx}{e:List Expr}{t t':TGs}(h:PGs X e t)(k:∀v O H Q,t' v O H Q->t v O H Q):PGs X e t':=λpins s O H v u Q I r q=>h pins s O H v u Q I r (k v O H Q q)
theorem DG.of{X:Cx}{Z:XC}{e:Expr}{g:Fg}{t:TG}(h:PG X e t)(k:∀v O H Q,bZ4 (wc X) Z g v O H Q->t v O H Q):DG X Z e g:=⟨PG.mono h k⟩
theorem DGs.of{X:Cx}{Z:XC}{e:List Expr}{g:Fgs}{t:TGs}(h:PGs X e t)(k:∀v O H Q,cG3 (wc X) Z g v O H Q->t v O H Q):DGs X Z e g:=⟨PGs.mono h k⟩
section
variable{X:Cx}{Z:XC}{a b c e tg:Expr}{es:List Expr}{fa fb:Fe}{pos:Pos}{st:Stmt}{rest sa sb:List Stmt}{f g:Fs}
theorem eG0:DB X Z [] u9:=DB.of dY0 λE O H hE0=>hE0.elim λZ8 U G s h p=>j7.ok p h O s
theorem eD3{cc:Wc}{E:bT8}{U:List Addr}{G:DH}{H:Hp}{fl:Fl}(h:J0 cc U G H)
 (p:j7 cc Z U H ((match fl with| .nx X2=>g X2|r=>pure r:M Fl) G) λfl X9 _ H'=>bU4 cc E fl X9 H'):bU4 cc {E with nx:=bS3 cc Z g E} fl U H:=by
 cases fl with
 |nx Z8=>exact λO s=>⟨Z8,U,G,s,h,p⟩
 |rt d=>exact j7.ok p h
 |bk Z8=>exact j7.ok p h
 |ct Z8=>exact j7.ok p h
theorem cY1(h1:DS X Z st f)(h2:DB X Z rest g):DB X Z (st::rest) (m5 f g):=
 DB.of (dP9 h1.h h2.h) λE O H hE0=>hE0.elim λZ8 U G s h p=>⟨Z8,U,G,s,h,(j7.bind p).mono λfl X1 G1 H1 x' h1 p1=>eD3 h1 p1⟩
theorem dQ5(h1:DS X Z st f):DB X Z [st] f:=⟨dW8 h1.h⟩
theorem dZ2(he:DE X Z e fa)(hs:JK e none pos.line X.env=pure false):DS X Z (.Expr e pos) (aQ1 fa):=
 DS.of (dX8 he.h hs) λE O H hE0=>hE0.elim λZ8 U G s h p=>⟨Z8,U,G,s,h,(j7.bind p).mono λd X1 G1 H1 x' h1 p1 v rv=>j7.ok p1 h1 O (s.mono x')⟩
theorem eJ6(he:DE X Z e fa):DS X Z (.Return (some e) pos) (t6 fa):=
 DS.of (eK3 he.h) λE O H hE0=>hE0.elim λZ8 U G s h p=>⟨Z8,U,G,s,h,(j7.bind p).mono λd X1 G1 H1 x' h1 p1 v rv=>j7.ok p1 h1 v rv⟩
theorem eX8{t:DSt->M Bool}(hc:DT X Z c t)(ha:DB X Z sa f)(hb:DB X Z sb g):DS X Z (.If c sa sb pos) (ifS t f g):=
 DS.of (eV2 hc.h ha.h hb.h) λE O H hE0=>hE0.elim λZ8 U G s h p=>⟨Z8,U,G,s,h,(j7.bind p).mono λx X1 G1 H1 x' h1 p1=>by
  cases x with
  |true=>exact⟨Z8,X1,G1,s.mono x',h1,p1⟩
  |false=>exact⟨Z8,X1,G1,s.mono x',h1,p1⟩⟩
theorem cV4{i:Nat}{x:Str}(hN:X.N.Nodup)(hi:X.N[i]? =some x)(hx:Loc X.env.scope x)(hf:X.fn x=true\/X.env.scope.names.lookup x=some .local):DG X Z (.Name x pos) (q13 i):=
 DG.of (dV8 hN hi hx hf) λv O H Q hE0=>hE0.elim λd Z8 U G r s h p=>j7.ok p h _ (s.put r i)
theorem dZ4:DGs X Z [] aF6:=DGs.of dZ9 λvs O H Q hE0=>hE0.elim λds Z8 U G r s h p=>by
 cases ds with
 |nil=>cases r;exact⟨rfl,j7.ok p h _ s⟩
 |cons _ _=>exact p.elim
theorem dK1{gg:Fg}{gr:Fgs}(h1:DG X Z e gg)(h2:DGs X Z es gr)(hs:(yS (e::es) X.env).map (·.2)=ZB e X.env::(yS es X.env).map (·.2)):DGs X Z (e::es) (w6 gg gr):=
 DGs.of (dT3 h1.h h2.h hs) λvs O H Q hE0=>hE0.elim λds Z8 U G r s h p=>by
  cases ds with
  |nil=>exact p.elim
  |cons d t=>
    obtain⟨v,vr,rfl,rv,rt⟩:=r
    exact⟨v,vr,rfl,d,Z8,U,G,rv,s,h,(j7.bind p).mono λdσ1 X1 G1 H1 x' h1 p1 WZ s1=>⟨t,dσ1,X1,G1,rt.mono x',s1,h1,p1⟩⟩
theorem eJ4{gs:Fgs}{k n:Nat}(hc:X.calm=true)(h:DGs X Z es gs)(hn:(yS es X.env).length=n)(hst:(yS es X.env).findIdx? (·.1)=none):DG X Z (.Tuple es k pos) (aE0 n gs):=
 DG.of (eI3 hc h.h hn hst) λv O H Q hE0=>hE0.elim λd Z8 U G r s h p=>by
  cases d with
  |tup l=>
    unfold j8 at r
    obtain⟨a,vs,rfl,q,rl⟩:=r
    have p':j7 (wc X) Z U H ((if l.length=n then gs l Z8 else M.stuck:M DSt) G) λWV X9 _ H'=>∀ X2,M9 (wc X) X9 H' WV X2->Q X2 H':=p
    split at p'
    · rename_i hl
      exact⟨a,vs,rfl,q,by rw[<-rl.length];exact hl,l,Z8,U,G,rl,s,h,p'⟩
    ·exact p'.elim
  |_=>exact p.elim
theorem eU9{gg:Fg}(he:DE X Z e fa)(hg:DG X Z tg gg)(hs:swapsWithSole [tg] e pos.line X.env=pure false)(hw:swappedStores [tg] e X.env=pure none)
 (h1:(yS [tg] X.env).map (·.2)= [ZB tg X.env]):DS X Z (.Assign [tg] e pos) (t8 fa gg):=
 DS.of (eH9 he.h hg.h hs hw h1) λE O H hE0=>hE0.elim λZ8 U G s h p=>⟨Z8,U,G,s,h,(j7.bind p).mono λd X1 G1 H1 x' h1 p1 v rv=>
  ⟨d,Z8,X1,G1,rv,s.mono x',h1,(j7.bind p1).mono λdσ2 WW G2 H2 x2 h2 p2 σ2 s2=>j7.ok p2 h2 σ2 s2⟩⟩
end
def X5:Nat->(DSt->M Bool)->Fs->Fs
 |0,_,_=>λ_=>M.stuck
 |n+1,t,b=>λO=>do
   if <-t O then
    match <-b O with
    | .nx X2=>X5 n t b X2
    | .ct X2=>X5 n t b X2
    | .bk X2=>pure (.nx X2)
    | .rt d=>pure (.rt d)
   else pure (.nx O)
open Classical in
def aR7(t:DSt->M Bool)(b:Fs):Fs:=λO G=>if h:∃n,(X5 n t b O G).isSome=true then X5 (Yb h) t b O G else none
theorem M.bind_mono{α β:Type}{m:M α}{f g:α->M β}{G:DH}{r:Except Str β×DH}(h:(m >>= f) G=some r)(k:∀a G',f a G'=some r->g a G'=some r):(m >>= g) G=some r:=by
 rw[M.bind_eq]at h ⊢
 match m G,h with
 |some (.ok a,G'),h=>exact k a G' h
 |some (.error x,G'),h=>exact h
theorem aX4{t:DSt->M Bool}{b:Fs}:∀ {n:Nat} {O:DSt} {G:DH} {r:Except Str Fl×DH},X5 n t b O G=some r->X5 (n+1) t b O G=some r
 |0,_,_,_,h=>by exact K1 h
 |n+1,O,G,r,h=>by
   unfold X5 at h ⊢
   refine M.bind_mono h λc G1 h1=>?_
   cases c with
   |true=>
     refine M.bind_mono h1 λfl G2 h2=>?_
     cases fl with
     |nx X2=>exact aX4 h2
     |ct X2=>exact aX4 h2
     |bk X2=>exact h2
     |rt d=>exact h2
   |false=>exact h1
theorem bZ9{t:DSt->M Bool}{b:Fs}{n m:Nat}(hm:n<=m){O:DSt}{G:DH}{r:Except Str Fl×DH}(h:X5 n t b O G=some r):X5 m t b O G=some r:=by
 induction hm with
 |refl=>exact h
 |step _ ih=>exact aX4 ih
section
variable{X:Cx}{Z:XC}{c:Expr}{pos:Pos}{body:List Stmt}{t:DSt->M Bool}{f:Fs}
theorem dL8(hp:JQ (zD X.prog X.w) X.A X.env X.xe)(hc:DT X Z c t)(hb:DB X Z body f):DS X Z (.While c body [] pos) (aR7 t f):=
 DS.of (dO9 hp hc.h hb.h) λE O H hE0=>hE0.elim λZ8 U G s h p=>by
  unfold aR7 at p
  split at p
  · rename_i ex
    refine⟨λm O H=>∃Z8 U G,M9 (wc X) U H Z8 O/\J0 (wc X) U G H/\j7 (wc X) Z U H (X5 m t f Z8 G) λfl X9 _ H'=>bU4 (wc X) E fl X9 H',⟨_,Z8,U,G,s,h,p⟩,?_⟩
    rintro m O H ⟨Z8,U,G,s,h,p⟩
    cases m with
    |zero=>exact p.elim
    |succ m=>
      refine⟨Z8,U,G,s,h,(j7.bind p).mono λx X1 G1 H1 x' h1 p1=>?_⟩
      cases x with
      |false=>exact j7.ok p1 h1 O (s.mono x')
      |true=>
        refine⟨λX2 H'=>∃Z8 U G,M9 (wc X) U H' Z8 X2/\J0 (wc X) U G H'/\j7 (wc X) Z U H' (X5 m t f Z8 G) λfl X9 _ H'=>bU4 (wc X) E fl X9 H',λX2 H' w=>⟨m,yE _,w⟩,Z8,X1,G1,s.mono x',h1,(j7.bind p1).mono λfl WW G2 H2 x2 h2 p2=>?_⟩
        cases fl with
        |nx WV=>exact λX2 s'=>⟨WV,WW,G2,s',h2,p2⟩
        |ct WV=>exact λX2 s'=>⟨WV,WW,G2,s',h2,p2⟩
        |bk WV=>exact λX2 s'=>j7.ok p2 h2 X2 s'
        |rt d=>exact λv r=>j7.ok p2 h2 v r
  ·exact p.elim
end
def aI0(g:Fg)(b:Fs)(ck:DH->Bool):List D->Fs
 |[]=>λO G=>if ck G then some (.ok (.nx O),G)else none
 | d :: r => λO G => if ck G then (do
    match <-b (<-g d O) with
    | .nx X2=>aI0 g b ck r X2
    | .ct X2=>aI0 g b ck r X2
    | .bk X2=>pure (.nx X2)
    | .rt d=>pure (.rt d):M Fl) G else none
structure Src where
 items:List D
 ck:DH->Bool
def aS5(it:DSt->M Src)(g:Fg)(b:Fs):Fs:=λO=>do
 let s <-it O
 aI0 g b s.ck s.items O
def ItD(c:Wc)(U:List Addr)(H:Hp)(J:It)(s:Src):Prop:=∀ X9 G' H',Ext U H X9 H'->J0 c X9 G' H'->s.ck G'=true->∀i:Nat,
 (∀d,s.items[i]? =some d->J.go i H'/\∀x H2,J.yld i H' x H2->Ext X9 H' X9 H2/\J0 c X9 G' H2/\j8 c X9 H2 d x)/\(s.items.length<=i->J.stop i H')
def cX7(c:Wc)(Z:XC)(it:DSt->M Src):TI:=λO H R=>∃Z8 U G,M9 c U H Z8 O/\J0 c U G H/\j7 c Z U H (it Z8 G) λs X9 _ H'=>∀J,ItD c X9 H' J s->R J H'
theorem cX7.elim{c:Wc}{Z:XC}{P:Prop}{it:DSt->M Src}{O:St}{H:Hp}{R:It->Hp->Prop}(h:cX7 c Z it O H R)(k:∀Z8 U G,M9 c U H Z8 O->J0 c U G H->j7 c Z U H (it Z8 G) (λs X9 _ H'=>∀J,ItD c X9 H' J s->R J H')->P):P:=by
 obtain⟨e0,e1,e2,e3,e4,e5⟩:=h
 exact k e0 e1 e2 e3 e4 e5
structure DI(X:Cx)(Z:XC)(tg e:Expr)(it:DSt->M Src):Prop where
 h:PI X tg e (cX7 (wc X) Z it)
theorem PI.mono{X:Cx}{tg e:Expr}{t t':TI}(h:PI X tg e t)(k:∀ O H R,t' O H R->t O H R):PI X tg e t':=λpins s O H R I q=>h pins s O H R I (k O H R q)
theorem DI.of{X:Cx}{Z:XC}{tg e:Expr}{it:DSt->M Src}{t:TI}(h:PI X tg e t)(k:∀ O H R,cX7 (wc X) Z it O H R->t O H R):DI X Z tg e it:=⟨PI.mono h k⟩
section
variable{X:Cx}{Z:XC}{iter tg:Expr}{pos:Pos}{body:List Stmt}{f:Fs}{gg:Fg}{it:DSt->M Src}
def fH3(c:Wc)(E:bT8)(fl:Fl)(U:List Addr)(_:DH)(H:Hp):Prop:=bU4 c E fl U H
inductive fB2(c:Wc)(Z:XC)(gg:Fg)(f:Fs)(sr:Src)(E:bT8)(X1:List Addr)(H1:Hp)(i:Nat)(O:St)(H:Hp):Prop
 |mk (Z8:DSt) (U:List Addr) (G:DH) (k:Ext X1 H1 U H) (s:M9 c U H Z8 O) (h:J0 c U G H) (p:j7 c Z U H (aI0 gg f sr.ck (sr.items.drop i) Z8 G) (fH3 c E))
theorem eQ7(hp:JQ (zD X.prog X.w) X.A X.env X.xe)(hc:X.calm=true)(hi:DI X Z tg iter it)(hg:DG X Z tg gg)(hb:DB X Z body f)(hs:∀x,yz iter X.env x=pure x):
 DS X Z (.For tg iter body [] pos) (aS5 it gg f):=
 DS.of (eP8 hp hc hi.h hg.h hb.h hs) λE O H hE0=>hE0.elim λZ8 U G s h p=>⟨Z8,U,G,s,h,(j7.bind p).mono λsr X1 G1 H1 x' h1 p1 J hJ=>by
  refine⟨λi m X2 H'=>m=sr.items.length-i/\i<=sr.items.length/\fB2 (wc X) Z gg f sr E X1 H1 i X2 H',
   ⟨sr.items.length,rfl,jR _,Z8,X1,G1,Ext.refl _ _,s.mono x',h1,p1⟩,?_⟩
  rintro i m X2 H' ⟨rfl,hi',WV,X9,G',k',s',h',p'⟩
  by_cases hlt:i<sr.items.length
  · rw[Za hlt]at p'
    unfold aI0 at p'
    split at p'
    · rename_i ck
      obtain⟨q1,_⟩:=hJ X9 G' H' k' h' ck i
      obtain⟨go,yl⟩:=q1 _ (zu hlt)
      refine .inr ⟨go,λσ2 H2=>fB2 (wc X) Z gg f sr E X1 H1 (i+1) σ2 H2,λσ2 H2 w=>⟨sr.items.length-(i+1),ZS _ _ hlt,rfl,hlt,w⟩,λx H2 y=>?_⟩
      obtain⟨k2,h2,rx⟩:=yl x H2 y
      have p2:=j7.bind (p'.from k2)
      refine⟨_,WV,X9,G',rx,s'.mono k2,h2,p2.mono λdσ3 μ3 G3 H3 x3 h3 p3 WK s3=>?_⟩
      refine⟨dσ3,μ3,G3,s3,h3,(j7.bind p3).mono λfl μ4 G4 H4 x4 h4 p4=>?_⟩
      cases fl with
      |nx dσ4=>exact λσ4 s4=>⟨dσ4,μ4,G4,k'.trans (k2.trans (x3.trans x4)),s4,h4,p4⟩
      |ct dσ4=>exact λσ4 s4=>⟨dσ4,μ4,G4,k'.trans (k2.trans (x3.trans x4)),s4,h4,p4⟩
      |bk dσ4=>exact λσ4 s4=>j7.ok p4 h4 σ4 s4
      |rt d=>exact λv r=>j7.ok p4 h4 v r
    ·exact p'.elim
  · have e:i=sr.items.length:=Nat.le_antisymm hi' (Nat.le_of_not_lt hlt)
    subst e
    rw[List.drop_length]at p'
    unfold aI0 at p'
    split at p'
    · rename_i ck
      obtain⟨_,q2⟩:=hJ X9 G' H' k' h' ck sr.items.length
      exact .inl ⟨q2 (zo _),j7.ok p' h' X2 s'⟩
    ·exact p'.elim⟩
end
noncomputable def aP8(env:Env):List (Str×NameKind)->List (Str×Addr)->List (Str×Addr)
 |[],cs=>cs
 |(n,k)::r,cs=>aP8 env r (if k == .free then (match env.cells.lookup n with|some c=>(n,c)::cs|none=>cs)else cs)
theorem cK8{env:Env}:∀(l:List (Str×NameKind)) (cs:List (Str×Addr)),(∀p∈l,p.2= .free->∃c,env.cells.lookup p.1=some c)->
 (forIn l cs (fun(x:Str×NameKind) (cs:List (Str×Addr))=>(match x with|(name,kind)=>if (kind==NameKind.free)=true then do let c <-cellOf env name;pure (ForInStep.yield ((name,c)::cs))else pure (ForInStep.yield cs):Sem (ForInStep (List (Str×Addr))))):Sem (List (Str×Addr)))=pure (aP8 env l cs)
 |[],cs,_=>rfl
 |(n,k)::r,cs,h=>by
  have ih:=λcs'=>cK8 r cs' λp hp=>h p (zU _ hp)
  rw[YZ]
  unfold aP8
  rcases hk:(k==NameKind.free)with _|_
  ·
    have e:(match ((n,k):Str×NameKind) with|(name,kind)=>if (kind==NameKind.free)=true then do let c <-cellOf env name;pure (ForInStep.yield ((name,c)::cs))else pure (ForInStep.yield cs):Sem (ForInStep (List (Str×Addr))))=pure (ForInStep.yield cs):=by
     show (if (k==NameKind.free)=true then _ else _)=_
     rw[hk];rfl
    rw[e]
    exact ih cs
  ·
    obtain⟨c,hc⟩:=h (n,k) jh (by simpa using hk)
    have hcell:cellOf env n=pure c:=by unfold cellOf;rw[hc]
    have e:(match ((n,k):Str×NameKind) with|(name,kind)=>if (kind==NameKind.free)=true then do let c <-cellOf env name;pure (ForInStep.yield ((name,c)::cs))else pure (ForInStep.yield cs):Sem (ForInStep (List (Str×Addr))))=pure (ForInStep.yield ((n,c)::cs)):=by
     show (if (k==NameKind.free)=true then (do let c <-cellOf env n;pure (ForInStep.yield ((n,c)::cs)))else _)=_
     rw[hk,hcell];rfl
    rw[e,hc]
    exact ih ((n,c)::cs)
theorem bI5{env:Env}{scope:Scope}(h:∀p∈scope.names,p.2= .free->∃c,env.cells.lookup p.1=some c):closureFor scope env=pure (aP8 env scope.names []):=by
 have q:=cK8 scope.names [] h
 unfold closureFor
 dsimp only
 rw[q]
 rfl
theorem cA2{env:Env}{x:Str}{c:Addr}:∀(l:List (Str×NameKind)) (cs:List (Str×Addr)),(cs.lookup x=some c->env.cells.lookup x=some c)->(aP8 env l cs).lookup x=some c->env.cells.lookup x=some c
 |[],cs,h,e=>h e
 |(n,k)::r,cs,h,e=>by
  unfold aP8 at e
  refine cA2 r _ (λe1=>?_) e
  split at e1
  · split at e1
    · rename_i c' hc
      rw[yi]at e1
      split at e1
      · rename_i hx
        have hx':x=n:=by simpa using hx
        subst hx'
        cases e1
        exact hc
      ·exact h e1
    ·exact h e1
  ·exact h e1
theorem aB1{env:Env}{x:Str}{c:Addr}{l:List (Str×NameKind)}(h:(aP8 env l []).lookup x=some c):env.cells.lookup x=some c:=cA2 l [] (λz=>by exact K1 z) h
theorem bR5{env:Env}{x:Str}:∀(l:List (Str×NameKind)) (cs:List (Str×Addr)),(∃c,cs.lookup x=some c)->∃c,(aP8 env l cs).lookup x=some c
 |[],cs,h=>h
 |(n,k)::r,cs,h=>by
  unfold aP8
  refine bR5 r _ ?_
  split
  · split
    · rename_i c' hc
      rw[yi]
      split
      ·exact⟨_,rfl⟩
      ·exact h
    ·exact h
  ·exact h
theorem bI7{env:Env}{x:Str}{c:Addr}(hc:env.cells.lookup x=some c):∀(l:List (Str×NameKind)) (cs:List (Str×Addr)),(x,NameKind.free)∈l->∃c,(aP8 env l cs).lookup x=some c
 |[],cs,h=>by simp at h
 |(n,k)::r,cs,h=>by
  unfold aP8
  rcases zw.mp h with e|h
  · cases e
    refine bR5 r _ ?_
    rw[hc]
    simp
  ·exact bI7 hc r _ h
section
variable{prog:zB}{w:zJ}{A:zF}{E:VSP}{R:YS->zh->Prop}{s:zh}
theorem cD3{elt target iter:Expr}{ifs:List Expr}{scope:Scope}{pos:Pos}{it acc:zf}{env:Env}(I:Nat->zh->Prop)
 (turn:∀n s,I n s->zp (zD prog w) A (yC it) (λr X0=>match r with
   |none=>R (.ok .next) X0
   | some v => zp (zD prog w) A (xq target it v) (λ_ s₁' => zp (zD prog w) A (ZB target env v) (λ_ s₂ =>
      zp (zD prog w) A (forIn ifs true λc r=>if r=true then do let ok <-isTrue c env (eval c env);pure (ForInStep.yield ok)else pure (ForInStep.yield r)) (λok s₃=>
       if ok=true then zp (zD prog w) A (eval elt env) (λx s₄=>
        zp (zD prog w) A (call (.builtin "list.append") [acc,x]) (λ_ s₅=>∃m,m<n/\I m s₅) (λ_ _=>False) s₄) (λ_ _=>False) s₃
       else ∃m,m<n/\I m s₃) (λ_ _=>False) s₂) (λ_ _=>False) s₁') (λ_ _=>False) X0) (λ_ _=>False) s)
 (n:Nat) (h:I n s):
 xB (zD prog w) A (.compLoop (.ListComp elt [⟨target,iter,ifs,0⟩] scope pos) 0 it acc env) R s:=by
 refine codeAny_loop rfl I (λn s hI=>?_) n h
 show zp _ A ((compTurn (.ListComp elt [⟨target,iter,ifs,0⟩] scope pos) 0 it acc env).onRaise (λx=>do noteFrame x env;theTreesLotGoes x)) _ _ s
 refine wpAny_noted ?_
 rw[compTurn_list]
 refine za (Jz (za (jG (turn n s hI) (λr X0 h₁=>?_) λ_ _ h'=>h'.elim)))
 rcases r with _|v
 ·exact zi h₁
 ·
   refine za (jG h₁ (λ_ s₁' h₁'=>?_) λ_ _ h'=>h'.elim)
   refine za (jG h₁' (λ_ s₂ h₂=>za (jG h₂ (λok s₃ h₃=>?_) λ_ _ h'=>h'.elim)) λ_ _ h'=>h'.elim)
   rcases ok with _|_
   ·
     exact zi ⟨rfl,h₃⟩
   ·
     exact za (za (jG h₃ (λx s₄ h₄=>za (jG h₄ (λ_ s₅ h₅=>zi (zi ⟨rfl,h₅⟩)) λ_ _ h'=>h'.elim)) λ_ _ h'=>h'.elim))
end
def V8(X:Cx)(scope:Scope)(N:List Str)(C:Addr)(s:zh)(H:Hp)(ex:List Addr):Cx where
 prog:=X.prog
 w:=X.w
 K:=X.K
 mg:=X.mg
 base:=X.base
 A:=X.A
 N:=N
 WX:=s
 H₀:=H
 env:=compEnvC scope (aP8 X.env scope.names []) C X.env
 outer:=X.stack
 stack:=X.stack
 ex:=ex
 fn:=λ_=>false
 calm:=X.calm
 pn:= []
 xe:=λ_ _=>False
structure aG7(X:Cx)(scope:Scope)(N:List Str)(caps:List (Option Nat)):Prop where
 kind:scope.kind= .function
 cell:∀y∈scope.names,y.2≠ .cell
 names:∀y∈scope.names,y.2= .local->scope.names.lookup y.1=some .local
 free:∀y∈scope.names,y.2= .free->X.env.kindOf y.1=some .cell\/X.env.kindOf y.1=some .free
 frees:∀y∈scope.names,y.2= .free->scope.names.lookup y.1=some .free
 len:caps.length=N.length
 caps:∀(i j:Nat),caps[i]? =some (some j)->∃x,N[i]? =some x/\X.N[j]? =some x/\(x,NameKind.free)∈scope.names
def aD2{α:Type}(caps:List (Option Nat))(O:List (Option α)):List (Option α):=caps.map λo=>o.bind λj=>(O[j]?).join
theorem bC6{env:Env}{x:Str}:∀names:List (Str×NameKind),(names.map fun(n,k)=>if (k==NameKind.free&&env.scope.kind == .function&&env.kindOf n==some .cell)then (n,NameKind.cell)else (n,k)).lookup x=
 (names.lookup x).map λk=>if (k==NameKind.free&&env.scope.kind == .function&&env.kindOf x==some .cell)then NameKind.cell else k
 |[]=>rfl
 |(n,k)::r=>by
  have ih:=bC6 (env:=env) (x:=x) r
  rw[zG]
  by_cases hx:x=n
  · subst hx
    dsimp only
    split
    ·rename_i h;simp[yi];simp at h;simp[h]
    ·rename_i h;simp[yi];simp at h;intro a b c;exact absurd c (h a b)
  · have hb:(x==n)=false:=by simpa using hx
    dsimp only
    split
    ·rw[yi,yi,hb];exact ih
    ·rw[yi,yi,hb];exact ih
section
variable{X:Cx}{scope:Scope}{N:List Str}{caps:List (Option Nat)}{C:Addr}{pins:PNS}{O:St}{H:Hp}{s:zh}{ex:List Addr}
theorem aG7.isFree(k:aG7 X scope N caps){x:Str}(h:(JZ scope X.env).names.lookup x=some .cell\/(JZ scope X.env).names.lookup x=some .free):(x,NameKind.free)∈scope.names:=by
 have e:(JZ scope X.env).names.lookup x= (scope.names.lookup x).map λk=>if (k==NameKind.free&&X.env.scope.kind == .function&&X.env.kindOf x==some .cell)then NameKind.cell else k:=bC6 scope.names
 rw[e]at h
 rcases hl:scope.names.lookup x with _|kd
 ·rw[hl]at h;rcases h with h|h<;>exact K1 h
 ·
   rw[hl]at h
   have hm:=yy hl
   have hn:=k.cell _ hm
   simp only[Zu]at h
   cases kd with
   |free=>exact hm
   |cell=>exact absurd rfl hn
   |_=>rcases h with h|h<;>simp at h
theorem aG7.cells(k:aG7 X scope N caps)(ok:X.Ok):∀p∈scope.names,p.2= .free->∃c,X.env.cells.lookup p.1=some c:=λp hp e=>ok.has p.1 (k.free p hp e)
theorem dC4(I:Inv X pins O H s)(k:aG7 X scope N caps)(hC:s.heap.objs.size<=C)(hex:∀b∈ex,aU3 X pins H b)(hlt:∀b∈ex,b<s.heap.objs.size):(V8 X scope N C s H ex).Ok where
 mod:=I.ok.mod
 kind:=k.kind
 glob:=I.ok.glob
 blt:=I.ok.blt
 above:=hC
 inj:=λx y c h1 h2=>I.ok.inj x y c (aB1 h1) (aB1 h2)
 has:=λx hx=>by
  have hm:=k.isFree hx
  obtain⟨c,hc⟩:=k.cells I.ok _ hm rfl
  exact bI7 hc _ _ hm
 cab:=λx c h=>by exact cJ8 h
 hd:=I.ok.hd
 frames:=I.ok.frames
 stk:=.inl rfl
 exf:=λb hb=>⟨zA (zQ (hlt b hb) hC),λx c e=>(hex b hb).2.2.2.2.1 x c (aB1 e)⟩
 bs:=I.bs
 bsz:=zI I.ok.bsz I.sz
 noex:=λb o e hb=>by
  rcases (hex b hb).2.2.2.1 with z|z
  ·exact I.ok.noex b o e z
  ·exact absurd (zQ (zn (I.ok.bs b o e).1) z) (yO _)
 exfs:=λb hb z=>by
  rcases zw.mp (I.stkSub b z)with e|e
  ·exact(hex b hb).2.1 e
  ·exact(hex b hb).2.2.1 e
 funs:=I.stack
 frf:=I.stkFree
 gd:=I.ok.gd
theorem bZ8{α:Type}{caps:List (Option Nat)}{O:List (Option α)}{i:Nat}{v:α}(h:(aD2 caps O)[i]? =some (some v)):∃j,caps[i]? =some (some j)/\O[j]? =some (some v):=by
 unfold aD2 at h
 rw[zZ]at h
 rcases e:caps[i]? with _|o
 ·rw[e]at h;exact K1 h
 ·
   rw[e]at h
   rcases o with _|j
   ·cases h
   ·
     refine⟨j,rfl,?_⟩
     simp only[Zu,JT,zd]at h
     rcases e2:O[j]? with _|w
     ·rw[e2]at h;exact K1 h
     ·rw[e2]at h;simp at h;rw[h]
theorem cQ4{h₁:Heap}{tk:Nat}(I:Inv X pins O H s)(k:aG7 X scope N caps)(hC:s.heap.objs.size<C)(hex:∀b∈ex,aU3 X pins H b)(hlt:∀b∈ex,b<s.heap.objs.size)
 (old:∀b o,s.heap.get? b=some o->h₁.get? b=some o) (hns:h₁.Ns C λ_=>none) (hacc:h₁.get? s.heap.objs.size=some {cls:=.type "list",data:=.seq ([]:List zf).toArray 0}):
 Inv (V8 X scope N C s H ex) [] (aD2 caps O) (upd H s.heap.objs.size (.lst [])) {s with heap:=h₁,toks:=tk}:=by
 have hD:H s.heap.objs.size=none:=I.hok.fresh (zo _)
 refine⟨dC4 I k (yx hC) hex hlt,rfl,I.bare,Un.laid old (zo _) hD,⟨_,hns,λi x v h1 h2 h3=>?_⟩,λx c e=>?_,?_,λx c e=>?_,λp hp=>absurd (show p∈([]:PNS)from hp) (by simp),?_,?_⟩
 · obtain⟨j,e1,e2⟩:=bZ8 h2
   obtain⟨y,e3,e4,e5⟩:=k.caps i j e1
   have exy:y=x:=by
    have:some y=some x:=e3.symm.trans h1
    exact jo this
   subst exy
   have hk:=k.free _ e5 rfl
   obtain⟨m,hn,hl⟩:=I.loc
   obtain⟨u,r,l⟩:=hl j y v e4 e2 (by rcases hk with z|z;exact .inr (.inl z);exact .inr (.inr z))
   refine⟨u,r,.inr ?_⟩
   rcases l with⟨z,_⟩|⟨_,c,ec,hc⟩
   ·rcases hk with z'|z'<;>(rw[z]at z';cases z')
   · refine⟨?_,c,?_,?_⟩
     · rcases h3 with h3|h3|h3
       · exfalso
         have e:(JZ scope X.env).names.lookup y= (scope.names.lookup y).map λk=>if (k==NameKind.free&&X.env.scope.kind == .function&&X.env.kindOf y==some .cell)then NameKind.cell else k:=bC6 scope.names
         have h3':(JZ scope X.env).names.lookup y=some .local:=h3
         rw[e]at h3'
         rw[k.frees _ e5 rfl]at h3'
         simp only[Zu]at h3'
         split at h3'<;>cases h3'
       ·exact .inl h3
       ·exact .inr h3
     · obtain⟨c',ec'⟩:=bI7 ec scope.names [] e5
       have:=aB1 ec'
       rw[ec]at this
       cases this
       exact ec'
     · obtain⟨o,ho,hd⟩:=hc
       exact⟨o,old _ _ ho,hd⟩
 · obtain⟨v,o,ho,hd⟩:=I.cell x c (aB1 e)
   exact⟨v,o,old _ _ ho,hd⟩
 · show upd H s.heap.objs.size (.lst []) C=none
   rw[J6 (yb hC)]
   exact I.hok.fresh (yx hC)
 · obtain⟨v,o,ho,hd⟩:=I.cell x c (aB1 e)
   rw[J6 (zA (zn ho))]
   exact I.freeC x c (aB1 e)
 ·exact I.hok.laid old (zo _) ⟨jR _, [],0,.nil,hacc⟩
 · show (aD2 caps O).length=N.length
   unfold aD2
   rw[zl];exact k.len
theorem dJ0{pins':PNS}{X2:St}{H':Hp}{s':zh}{h':Heap}(I:Inv X pins O H s)(hex:∀b∈ex,aU3 X pins H b)(hC:s.heap.objs.size<C)
 (I':Inv (V8 X scope N C s H ex) pins' X2 H' s') (sb:jO C s'.heap h'):Inv X pins O H' {s' with heap:=h'}:=by
 have hos:s'.os=s.os:=I'.os
 have hfree:H' C=none:=I'.free
 have neC:∀b o,s.heap.get? b=some o->b≠C:=λb o e z=>by
  have:=zn e
  rw[z]at this
  exact absurd (yt hC this) (yO _)
 have hun:Un (frs X.stack) ex H H' s.heap s'.heap:=I'.base
 have hun2:Un (frs X.stack) ex H H' s.heap h':=by
  refine⟨λb o e n hb hx=>(sb.2 b (neC b o e)).trans (hun.keep b o e n hb hx),λb o e n hb hx=>?_,hun.free,λb o e hx=>?_,hun.tups,hun.frzs,hun.tbls⟩
  · obtain⟨sl,q⟩:=hun.slot b o e n hb hx
    exact⟨sl,(sb.2 b (neC b o e)).trans q⟩
  · obtain⟨o',q⟩:=hun.there b o e hx
    exact⟨o',(sb.2 b (neC b o e)).trans q⟩
 have hok2:HOk X.prog X.w H' h':=λa o e=>by
  have nc:∀c u,H' c=some u->c≠C:=λc u q z=>by rw[z,hfree]at q;exact K1 q
  refine(I'.hok a o e).stay (λb u hb q=>?_) (λ_ q=>q) λ_ _ q=>q
  rcases hb with rfl|hb
  ·exact(sb.2 b (nc b o e)).trans q
  ·exact(sb.2 b (nc b _ hb)).trans q
 obtain⟨hh,g,d,t,os'⟩:=s'
 obtain rfl:os'=s.os:=hos
 have fin:=I.call (h':=h') (g':=g) (d':=d) (t':=t) (ch:=ex) hun2 hok2 I'.bare λb hb=>⟨(hex b hb).2.2.2.1,(hex b hb).2.1,(hex b hb).2.2.2.2.1,(hex b hb).2.2.2.2.2⟩
 exact fin
end
noncomputable def hide(q:Addr)(H:Hp):Hp:=λb=>if b=q then none else H b
theorem aK5{q:Addr}{H:Hp}:hide q H q=none:=by unfold hide;rw[if_pos rfl]
theorem Z6{q b:Addr}{H:Hp}(h:b≠q):hide q H b=H b:=by unfold hide;rw[if_neg h]
theorem V9{q b:Addr}{H:Hp}{o:HO}(h:hide q H b=some o):b≠q/\H b=some o:=by
 by_cases e:b=q
 ·rw[e,aK5]at h;exact K1 h
 ·rw[Z6 e]at h;exact⟨e,h⟩
theorem dJ9{q:Addr}{H:Hp}{o:HO}(h:H q=some o):upd (hide q H) q o=H:=by
 funext b
 by_cases e:b=q
 ·rw[e,R9,h]
 ·rw[J6 e,Z6 e]
theorem aV9{q:Addr}{H:Hp}{o:HO}:hide q (upd H q o)=hide q H:=by
 funext b
 by_cases e:b=q
 ·rw[e,aK5,aK5]
 ·rw[Z6 e,Z6 e,J6 e]
theorem aY6{q:Addr}{H:Hp}(h:H q=none):hide q H=H:=by
 funext b
 by_cases e:b=q
 ·rw[e,aK5,h]
 ·rw[Z6 e]
section
variable{c:Wc}{U X9:List Addr}{H H':Hp}{G:DH}{q:Addr}{vs:List V}
mutual
theorem j8.sq(k:∀a xs,SqT c.K H a xs->SqT c.K H' a xs):∀ {d:D} {v:V},j8 c U H d v->j8 c U H' d v
 | .non,_,h=>h
 | .bl _,_,h=>h
 | .int _,_,h=>h
 | .str _,_,h=>h
 | .ty _,_,h=>h
 | .fn _,_,h=>h
 | .ref i,v,h=>by unfold j8 at h ⊢;exact h
 | .tup l,v,h=>by
   unfold j8 at h ⊢
   obtain⟨a,vs,e,q,r⟩:=h
   exact⟨a,vs,e,k _ _ q,v9.sq k r⟩
theorem v9.sq(k:∀a xs,SqT c.K H a xs->SqT c.K H' a xs):∀ {l:List D} {vs:List V},v9 c U H l vs->v9 c U H' l vs
 |[],_,h=>h
 |d::ds,vs,h=>by
   unfold v9 at h ⊢
   obtain⟨v,r,e,q,t⟩:=h
   exact⟨v,r,e,j8.sq k q,v9.sq k t⟩
end
theorem aD0.sq(k:∀a xs,SqT c.K H a xs->SqT c.K H' a xs):∀ {l:List (Key×D)} {vs:List (Key×V)},aD0 c U H l vs->aD0 c U H' l vs
 |[],_,h=>h
 |(_,d)::ds,vs,h=>by
  obtain⟨v,r,e,q,t⟩:=h
  exact⟨v,r,e,j8.sq k q,aD0.sq k t⟩
theorem aL4(hq:H q=some (.lst vs)){K:zj}(a:Addr)(xs:List V)(h:SqT K H a xs):SqT K (hide q H) a xs:=by
 rcases h with(h|⟨o,h⟩)|h
 ·exact .inl (.inl (by rw[Z6 (λe=>by rw[e,hq]at h;cases h)];exact h))
 ·exact .inl (.inr ⟨o,by rw[Z6 (λe=>by rw[e,hq]at h;cases h)];exact h⟩)
 ·exact .inr h
theorem aL5{K:zj}(a:Addr)(xs:List V)(h:SqT K (hide q H) a xs):SqT K H a xs:=by
 rcases h with(h|⟨o,h⟩)|h
 ·exact .inl (.inl (V9 h).2)
 ·exact .inl (.inr ⟨o,(V9 h).2⟩)
 ·exact .inr h
theorem M9.sq(k:∀a xs,SqT c.K H a xs->SqT c.K H' a xs){Z8:DSt}{O:St}(h:M9 c U H Z8 O):M9 c U H' Z8 O:=⟨h.1,λi d e=>let ⟨v,a,b⟩:=h.2 i d e;⟨v,a,b.sq k⟩⟩
theorem Ext.hide(x:Ext U H X9 H')(n:q∉U)(hq:H q=some (.lst vs)):H' q=some (.lst vs)/\q∉X9/\Ext U (DL.hide q H) X9 (DL.hide q H'):=by
 refine⟨x.oth q _ hq n,λh=>?_,x.pre,λa h1 h2=>?_,λb o e nb=>?_,λb xs e=>?_,λb o u e=>?_⟩
 ·have:=x.new q h n;rw[hq]at this;exact dW1 this
 · by_cases e:a=q
   ·rw[e,aK5]
   ·rw[Z6 e];exact x.new a h1 h2
 ·obtain⟨e1,e2⟩:=V9 e;rw[Z6 e1];exact x.oth b o e2 nb
 ·obtain⟨e1,e2⟩:=V9 e;rw[Z6 e1];exact x.tup b xs e2
 ·obtain⟨e1,e2⟩:=V9 e;rw[Z6 e1];exact x.frz b o u e2
theorem Ext.unhide(x:Ext U H X9 (DL.hide q H')):Ext U H X9 H':=
 ⟨x.pre,x.new,λb o e n=>(V9 (x.oth b o e n)).2,λb xs e=>(V9 (x.tup b xs e)).2,λb o u e=>(V9 (x.frz b o u e)).2⟩
theorem J0.hide(h:J0 c U G H)(n:q∉U)(hq:H q=some (.lst vs)):J0 c U G (DL.hide q H):=
 ⟨h.len,h.inj,λi o a g m=>by
  have na:a≠q:=λe=>n (by rw[<-e];exact yd m)
  have r:=h.obj i o a g m
  cases o with
  |lst l=>obtain⟨ws,e,r⟩:=r;exact⟨ws,by rw[Z6 na];exact e,r.sq (aL4 hq)⟩
  |dct l=>obtain⟨ws,e,r⟩:=r;exact⟨ws,by rw[Z6 na];exact e,r.sq (aL4 hq)⟩
  |rod l=>obtain⟨ws,o,e,r⟩:=r;exact⟨ws,o,by rw[Z6 na];exact e,r.sq (aL4 hq)⟩
  |rol l=>
    obtain⟨ws,e,r⟩:=r
    refine⟨ws,?_,r.sq (aL4 hq)⟩
    rcases e with⟨o,e⟩|e
    ·exact .inl ⟨o,by rw[Z6 na];exact e⟩
    ·exact .inr e⟩
theorem J0.unhide(h:J0 c U G (DL.hide q H)):J0 c U G H:=
 ⟨h.len,h.inj,λi o a g m=>by
  have r:=h.obj i o a g m
  cases o with
  |lst l=>obtain⟨ws,e,r⟩:=r;exact⟨ws,(V9 e).2,r.sq aL5⟩
  |dct l=>obtain⟨ws,e,r⟩:=r;exact⟨ws,(V9 e).2,r.sq aL5⟩
  |rod l=>obtain⟨ws,o,e,r⟩:=r;exact⟨ws,o,(V9 e).2,r.sq aL5⟩
  |rol l=>
    obtain⟨ws,e,r⟩:=r
    refine⟨ws,?_,r.sq aL5⟩
    rcases e with⟨o,e⟩|e
    ·exact .inl ⟨o,(V9 e).2⟩
    ·exact .inr e⟩
inductive UH{α:Type}(c:Wc)(q:Addr)(vs:List V)(U:List Addr)(H:Hp)(K:α->List Addr->DH->Hp->Prop)(a:α)(X9:List Addr)(G':DH)(H':Hp):Prop
 |mk (e:H' q=some (.lst vs)) (n:q∉X9) (h:J0 c X9 G' (DL.hide q H')) (x:Ext U (DL.hide q H) X9 (DL.hide q H')) (k:K a X9 G' (DL.hide q H'))
theorem j7.unhide{α:Type}{Z:XC}{r:Option (Except Str α×DH)}{K:α->List Addr->DH->Hp->Prop}(n:q∉U)(hq:H q=some (.lst vs))(p:j7 c ZF U (DL.hide q H) r K):
 j7 c Z U H r (UH c q vs U H K):=by
 match r,p with
 |some (.ok a,G'),p=>
   intro X9 H' x h
   obtain⟨e1,e2,e3⟩:=x.hide n hq
   have h2:=h.hide e2 e1
   exact⟨e1,e2,h2,e3,p X9 _ e3 h2⟩
 |some (.error z,G'),p=>
   intro X9 H' x h
   obtain⟨e1,e2,e3⟩:=x.hide n hq
   exact(p X9 _ e3 (h.hide e2 e1)).elim
theorem J0.mem_lt{X:Cx}{pins:PNS}{O:St}{s:zh}(I:Inv X pins O H s)(h:J0 (wc X) U G H){a:Addr}(ha:a∈U):a<s.heap.objs.size:=by
 obtain⟨i,hi⟩:=Jy ha
 have hl:i<G.length:=by rw[<-h.len];exact lt_of_get hi
 have r:=h.obj i G[i] a (zu hl) hi
 rcases e:G[i]with l|l|l|l
 ·rw[e]at r;obtain⟨_,e,_⟩:=r;exact I.hok.lt e
 ·
   rw[e]at r
   obtain⟨ws,e,_⟩:=r
   rcases e with⟨o,e⟩|e
   ·exact I.hok.lt e
   · rcases e with(e|⟨o,e⟩)|⟨o,its,n,e,_⟩
     ·exact K1 e
     ·exact K1 e
     ·exact zn (I.kIn a o e)
 ·rw[e]at r;obtain⟨_,e,_⟩:=r;exact I.hok.lt e
 ·rw[e]at r;obtain⟨_,_,e,_⟩:=r;exact I.hok.lt e
end
def PTs(X:Cx)(ifs:List Expr)(t:TT):Prop:=
 ∀(pins:PNS) (s:zh) (O:St) (H:Hp) (Q:Bool->Hp->Prop),Inv X pins O H s->t O H Q->
  zp (zD X.prog X.w) X.A (forIn ifs true λc r=>if r=true then do let ok <-isTrue c X.env (eval c X.env);pure (ForInStep.yield ok)else pure (ForInStep.yield r)) (TP X pins O Q) X.xe s
structure DTs(X:Cx)(Z:XC)(ifs:List Expr)(f:DSt->M Bool):Prop where
 h:PTs X ifs (bQ3 (wc X) Z f)
def W0:DSt->M Bool:=λ_=>pure true
theorem dY2{X:Cx}{Z:XC}:DTs X Z [] W0:=⟨λpins s O H Q I hE0=>hE0.elim λZ8 U G sr h p=>wpAny_tests_nil ⟨H,I,j7.ok p h⟩⟩
theorem dX9{X:Cx}{Z:XC}{c:Expr}{t:DSt->M Bool}(h:DT X Z c t):DTs X Z [c] t:=⟨λpins s O H Q I q=>wpAny_tests_one (h.h pins s O H Q I q)⟩
def M6(g:Fg)(t:DSt->M Bool)(e:Fe)(ck:DH->Bool):List D->DSt->M (List D)
 |[]=>λ_ G=>if ck G then some (.ok [],G)else none
 | d :: r => λO G => if ck G then (do
    let WZ <-g d O
    if <-t WZ then do
     let y <-e WZ
     let ys <-M6 g t e ck r WZ
     pure (y::ys)
    else M6 g t e ck r WZ:M (List D)) G else none
def Q6(it:DSt->M Src)(caps:List (Option Nat))(g:Fg)(t:DSt->M Bool)(e:Fe):Fe:=λO=>do
 let s <-it O
 if s.items.length<=zk then do
  let ys <-noX (M6 g t e s.ck s.items (aD2 caps O))
  R0 (.lst ys)
 else M.stuck
theorem dC2{c:Wc}{U:List Addr}{H:Hp}{caps:List (Option Nat)}{Z8:DSt}{O:St}(h:M9 c U H Z8 O):M9 c U H (aD2 caps Z8) (aD2 caps O):=by
 refine⟨by simp[aD2],λi d e=>?_⟩
 obtain⟨j,e1,e2⟩:=bZ8 e
 obtain⟨v,e3,r⟩:=h.2 j d e2
 refine⟨v,?_,r⟩
 unfold aD2
 rw[zZ,e1]
 simp[e3]
section
variable{X:Cx}{Z:XC}{elt tg iter:Expr}{ifs:List Expr}{scope:Scope}{pos:Pos}{N:List Str}{caps:List (Option Nat)}{it:DSt->M Src}{gg:Fg}{tt:DSt->M Bool}{fe:Fe}
set_option maxHeartbeats 1000000 in
def CKV(c:Wc)(Q:VK)(d:D)(X9:List Addr)(_:DH)(H':Hp):Prop:=∀v,j8 c X9 H' d v->Q v H'
def CKR(c:Wc)(Z:XC)(Q:VK)(ys rest:List D)(U:List Addr)(G:DH)(H:Hp):Prop:=j7 c Z U H (R0 (.lst (ys++rest)) G) (CKV c Q)
def eE8(gg:Fg)(tt:DSt->M Bool)(fe:Fe)(ck:DH->Bool)(items:List D)(O:DSt)(y:D):M (List D):=do let ys <-M6 gg tt fe ck items O;pure (y::ys)
def cX3(gg:Fg)(tt:DSt->M Bool)(fe:Fe)(ck:DH->Bool)(items:List D)(O:DSt)(b:Bool):M (List D):=if b=true then (do let y <-fe O;let ys <-M6 gg tt fe ck items O;pure (y::ys))else M6 gg tt fe ck items O
def eG9(gg:Fg)(tt:DSt->M Bool)(fe:Fe)(ck:DH->Bool)(items:List D)(O:DSt):M (List D):=do if <-tt O then do {let y <-fe O;let ys <-M6 gg tt fe ck items O;pure (y::ys)}else M6 gg tt fe ck items O
inductive CG(X:Cx)(Z:XC)(Q:VK)(vs:List V)(DD:Addr)(ys:List D)(X9:List Addr)(H5:Hp)(m:DSt->M (List D))(WP:St)(H6:Hp):Prop
 |mk (WS:DSt) (μ6:List Addr) (G6:DH) (s:M9 (wc X) μ6 H6 WS WP) (h:J0 (wc X) μ6 G6 H6) (u:UH (wc X) DD vs X9 H5 (λZ8 U G H=>j7 (wc X) ZF U H (m Z8 G) (CKR (wc X) Z Q ys)) WS μ6 G6 H6)
inductive CT(X:Cx)(Z:XC)(Q:VK)(vs:List V)(DD:Addr)(ys:List D)(WS:DSt)(WP:St)(μ6:List Addr)(H6:Hp)(m:Bool->M (List D))(b:Bool)(H7:Hp):Prop
 |mk (WM:List Addr) (G7:DH) (s:M9 (wc X) WM H7 WS WP) (h:J0 (wc X) WM G7 H7) (u:UH (wc X) DD vs μ6 H6 (λb U G H=>j7 (wc X) ZF U H (m b G) (CKR (wc X) Z Q ys)) b WM G7 H7)
inductive CE(X:Cx)(Z:XC)(Q:VK)(vs:List V)(DD:Addr)(ys:List D)(WS:DSt)(WP:St)(WM:List Addr)(H7:Hp)(m:D->M (List D))(v:V)(H8:Hp):Prop
 |mk (y:D) (μ8:List Addr) (G8:DH) (r:j8 (wc X) μ8 H8 y v) (s:M9 (wc X) μ8 H8 WS WP) (h:J0 (wc X) μ8 G8 H8) (u:UH (wc X) DD vs WM H7 (λy U G H=>j7 (wc X) ZF U H (m y G) (CKR (wc X) Z Q ys)) y μ8 G8 H8)
inductive eL8(Y:Cx)(Z:XC)(Q:VK)(gg:Fg)(tt:DSt->M Bool)(fe:Fe)(src:Src)(fp:List Addr)(tn:Nat->Heap->Prop)(DD:Addr)(WW:List Addr)(H2:Hp)(n:Nat)(s':zh):Prop
 |mk (i:Nat) (ys:List D) (vs:List V) (X2:St) (H':Hp) (WV:DSt) (X9:List Addr) (G':DH) (e:n=src.items.length-i) (hi:i<=src.items.length) (hv:vs.length<=i)
    (I:Inv Y [] X2 H' s') (st:tn i s'.heap) (fr:∀b∈fp,H' b=none) (hs:H' DD=some (.lst vs)) (nD:DD∉X9)
    (x:Ext WW H2 X9 (hide DD H')) (h:J0 (wc Y) X9 G' (hide DD H')) (sr:M9 (wc Y) X9 (hide DD H') WV X2) (rl:v9 (wc Y) X9 (hide DD H') ys vs)
    (p:j7 (wc Y) ZF X9 (hide DD H') (M6 gg tt fe src.ck (src.items.drop i) WV G') (CKR (wc Y) Z Q ys))
theorem dE7{Y:Cx}{Q:VK}{src:Src}{fp:List Addr}{tn:Nat->Heap->Prop}{DD it:Addr}{WW:List Addr}{H2:Hp}{J:It}{R:YS->zh->Prop}(hcX:Y.calm=true)(hg:DG Y ZF tg gg)(ht:DTs Y ZF ifs tt)(he:DE Y ZF elt fe)(T:bQ5 Y.prog Y.w Y.K tg J fp it tn)
 (fpX:∀(H':Hp) (b:Addr),b∈fp->H' b=none->aU3 Y [] H' b) (hJ:ItD (wc Y) WW H2 J src) (hlen:src.items.length<=zk) (fin:∀(H':Hp) (X2:St) (s4:zh),Inv Y [] X2 H' s4->Q (.ref DD) H'->R (.ok .next) s4) (n:Nat) (s':zh) (h:eL8 Y Z Q gg tt fe src fp tn DD WW H2 n s') {NX:zh->Prop} (nx:∀m s,m<n->eL8 Y Z Q gg tt fe src fp tn DD WW H2 m s->NX s):
 zp (zD Y.prog Y.w) Y.A (yC (.ref it)) (λr X0=>match r with
  |none=>R (.ok .next) X0
  | some v => zp (zD Y.prog Y.w) Y.A (xq tg (.ref it) v) (λ_ s₁' => zp (zD Y.prog Y.w) Y.A (ZB tg Y.env v) (λ_ s₂ =>
     zp (zD Y.prog Y.w) Y.A (forIn ifs true λc r=>if r=true then do let ok <-isTrue c Y.env (eval c Y.env);pure (ForInStep.yield ok)else pure (ForInStep.yield r)) (λok s₃=>
      if ok=true then zp (zD Y.prog Y.w) Y.A (eval elt Y.env) (λx s₄=>
       zp (zD Y.prog Y.w) Y.A (call (.builtin "list.append") [.ref DD,x]) (λ_ s₅=>NX s₅) Y.xe s₄) Y.xe s₃
      else NX s₃) Y.xe s₂) Y.xe s₁') Y.xe X0) Y.xe s':=by
 obtain⟨i,ys,vs,X2,H',WV,X9,G',rfl,hi',hvl,I',st',fr',hvs,nD',x',h',sr',rl,p'⟩:=h
 by_cases hlt:i<src.items.length
 · rw[Za hlt]at p'
   unfold M6 at p'
   split at p'
   case isFalse=>exact p'.elim
   rename_i ck
   obtain⟨q1,_⟩:=hJ X9 G' H' x'.unhide h'.unhide ck i
   obtain⟨go,yl⟩:=q1 _ (zu hlt)
   refine thn (T.item (Y) rfl rfl rfl hcX i [] s' X2 H' Y.xe I' (λb hb=>fpX H' b hb (fr' b hb)) st' go) λr s4 z4=>?_
   obtain⟨u,rfl,h4⟩:=z4
   refine thn h4 λ_ s5 z5=>?_
   obtain⟨x,H5,I5,r5,y5,st5,fr5⟩:=z5
   obtain⟨k5,h5,rx5⟩:=yl x H5 y5
   obtain⟨e5,n5,k5'⟩:=k5.hide nD' hvs
   have I5':=I5.pinned (λb hb=>fpX H5 b hb (fr5 b hb)) (T.obj _ _ st5)
   have keepIt:∀ {WN:St} {H7:Hp} {s7:zh},Inv (Y) ([]++bT2 fp s5.heap) WN H7 s7->Inv (Y) [] WN H7 s7/\tn (i+1) s7.heap/\∀b∈fp,H7 b=none:=λ{WN H7 s7} I7=>by
    refine⟨I7.unpinned,T.keep _ _ _ st5 λb hb o e=>(I7.pin (b,o) (ja _ (ja _ (aM7 hb e)))).1,λb hb=>?_⟩
    obtain⟨o,e,d⟩:=T.obj _ _ st5 b hb
    exact(I7.pin (b,o) (ja _ (ja _ (aM7 hb e)))).2.1
   have p5:=j7.unhide (Z:=ZF) n5 e5 (j7.bind (p'.from k5'))
   refine thn (hg.h _ s5 X2 H5 x u _ I5' r5 ⟨_,WV,X9,G',rx5,(sr'.mono k5').sq aL5,h5,p5.mono λWS μ6 G6 H6 x6 h6 q6 WP sr6=>(⟨WS,μ6,G6,sr6,h6,q6⟩:CG Y Z Q vs DD ys X9 H5 (eG9 gg tt fe src.ck (src.items.drop (i+1))) WP H6)⟩) λ_ s6 z6=>?_
   obtain⟨WP,H6,I6,WS,μ6,G6,sr6,h6,e6,n6,hh6,x6,p6⟩:=z6
   have p6':=j7.unhide (Z:=ZF) n6 e6 (j7.bind p6)
   refine thn (ht.h _ s6 WP H6 (CT Y Z Q vs DD ys WS WP μ6 H6 (cX3 gg tt fe src.ck (src.items.drop (i+1)) WS)) I6 ⟨WS,μ6,G6,sr6,h6,p6'.mono λb WM G7 H7 x7 h7 q7=>⟨WM,G7,sr6.mono x7,h7,q7⟩⟩) λb s7 z7=>?_
   obtain⟨H7,I7,WM,G7,sr7,h7,e7,n7,hh7,x7,p7⟩:=z7
   unfold cX3 at p7
   have x27:Ext WW H2 WM (hide DD H7):=x'.trans (k5'.trans (x6.trans x7))
   have rl7:v9 (wc Y) WM (hide DD H7) ys vs:=rl.mono (k5'.trans (x6.trans x7))
   rcases b with _|_
   ·
     rw[if_neg zX]at p7 ⊢
     obtain⟨I8,st8,fr8⟩:=keepIt I7
     exact nx _ _ (ZS _ _ hlt) ⟨i+1,ys,vs,WP,H7,WS,WM,G7,rfl,hlt,Nat.le_succ_of_le hvl,I8,st8,fr8,e7,n7,x27,hh7,sr7.sq (aL4 e7),rl7,p7⟩
   ·
     rw[if_pos rfl]at p7 ⊢
     have p7':=j7.unhide (Z:=ZF) n7 e7 (j7.bind p7)
     refine thn (he.h _ s7 WP H7 (CE Y Z Q vs DD ys WS WP WM H7 (eE8 gg tt fe src.ck (src.items.drop (i+1)) WS)) I7 ⟨WS,WM,G7,sr7,h7,p7'.mono λy μ8 G8 H8 x8 h8 q8 v rv=>⟨y,μ8,G8,rv,sr7.mono x8,h8,q8⟩⟩) λyu s8 z8=>?_
     obtain⟨yv,H8,I8,ry,y,μ8,G8,ryd,sr8,h8,e8,n8,hh8,x8,p8⟩:=z8
     unfold eE8 at p8
     refine thn (bZ6 _ s8 WP H8 (.ref DD) [yv] (.ref DD) [yu] (λ_ H9=>H9=upd H8 DD (.lst (vs++[yv]))) I8 rfl (.cons ry .nil) ⟨DD,vs,yv,rfl,rfl,e8,by lia,rfl⟩) λ_ s9 z9=>?_
     obtain⟨_,H9,I9,_,rfl⟩:=z9
     obtain⟨I10,st10,fr10⟩:=keepIt I9
     have hd9:hide DD (upd H8 DD (.lst (vs++[yv])))=hide DD H8:=aV9
     refine nx _ _ (ZS _ _ hlt) ⟨i+1,ys++[y],vs++[yv],WP,_,WS,μ8,G8,rfl,hlt,by rw[zR];exact Nat.succ_le_succ hvl,I10,st10,fr10,R9,n8,?_,?_,?_,?_,?_⟩
     ·rw[hd9];exact x27.trans x8
     ·rw[hd9];exact hh8
     ·rw[hd9];exact sr8.sq (aL4 e8)
     ·rw[hd9];exact(rl7.mono x8).append ⟨yv, [],rfl,ryd.sq (aL4 e8),rfl⟩
     · rw[hd9]
       refine(j7.bind p8).mono λrest μ'' G'' H'' x'' h'' q''=>?_
       have q3:=j7.ok q'' h''
       show j7 (wc Y) Z μ'' H'' (R0 (.lst (ys++[y]++rest)) G'') (CKV (wc Y) Q)
       rw[yf]
       exact q3
 · have e:i=src.items.length:=by lia
   subst e
   rw[List.drop_length]at p'
   unfold M6 at p'
   split at p'
   case isFalse=>exact p'.elim
   rename_i ck
   obtain⟨_,q2⟩:=hJ X9 G' H' x'.unhide h'.unhide ck src.items.length
   refine thn (T.done (Y) rfl rfl rfl hcX src.items.length [] s' X2 H' Y.xe I' (λb hb=>fpX H' b hb (fr' b hb)) st' (q2 (zo _))) λr s4 ⟨hr,I4⟩=>?_
   subst hr
   have p9:j7 (wc Y) Z X9 (hide DD H') (R0 (.lst (ys++[])) G') (CKV (wc Y) Q):=j7.ok p' h'
   rw[ZH]at p9
   have q9:=aD1 (q:=DD) h' rl p9 aK5
   rw[dJ9 hvs]at q9
   exact fin H' X2 s4 I4 q9
theorem bW9{use:Option (zf->Sem Unit)}{PQ:VSP}{Q:VK}{ps:Pos}{pins:PNS}{s:zh}{O:St}{H:Hp}{Z8:DSt}{U:List Addr}{G:DH}(hc:X.calm=true)(hi:DI X Z tg iter it)(k:aG7 X scope N caps)
 (hg:∀C s H ex,DG (V8 X scope N C s H ex) ZF tg gg) (ht:∀C s H ex,DTs (V8 X scope N C s H ex) ZF ifs tt) (he:∀C s H ex,DE (V8 X scope N C s H ex) ZF elt fe)
 (hs:∀x,yz iter X.env x=pure x) (I:Inv X pins O H s) (sr:M9 (wc X) U H Z8 O) (hr:J0 (wc X) U G H) (p:j7 (wc X) Z U H (Q6 it caps gg tt fe Z8 G) λd X9 _ H'=>∀v,j8 (wc X) X9 H' d v->Q v H')
 (fin:∀(DD C:Addr) (s4:zh) (H':Hp) (m:Str->Option zf) (o:Flow),s4.heap.Ns C m->(∀h'',jO C s4.heap h''->Inv X pins O H' {s4 with heap:=h''})->H' C=none->(∀H9:Hp,H9 C=none->aU3 X pins H9 C)->Q (.ref DD) H'->compPost (zD X.prog X.w) X.A X.xe use PQ (.ref DD) C (.ok o) s4):
 zp (zD X.prog X.w) X.A (comprehension (.ListComp elt [⟨tg,iter,ifs,0⟩] scope pos) scope X.env ps (newList []) false (eval iter X.env) use) PQ X.xe s:=by
 replace p:j7 (wc X) Z U H (Q6 it caps gg tt fe Z8 G) (CKV (wc X) Q):=p
 have p1:=j7.bind p
 refine wpAny_comprehension_free (use:=use) rfl hs (bI5 (k.cells I.ok)) k.kind k.names ?_
 refine thn (hi.h pins s O H (λJ H1=>∃src X1 G1,Ext U H X1 H1/\J0 (wc X) X1 G1 H1/\ItD (wc X) X1 H1 J src/\
  j7 (wc X) Z X1 H1 ((if src.items.length<=zk then (do let ys <-noX (M6 gg tt fe src.ck src.items (aD2 caps Z8));R0 (.lst ys))else M.stuck:M D) G1) (CKV (wc X) Q))
  I ⟨Z8,U,G,sr,hr,p1.mono λsrc X1 G1 H1 x1 h1 p1 J hJ=>⟨src,X1,G1,x1,h1,hJ,p1⟩⟩) λv s1 q1=>thn q1 λitv s2 q2=>?_
 obtain⟨itA,fp,tn,J,H2,rfl,I2,T,st2,f2,src,WW,G2,x2,h2,hJ,p2⟩:=q2
 split at p2
 case isFalse=>exact p2.elim
 rename_i hlen
 have hfp:∀b∈fp,b<s2.heap.objs.size:=λb hb=>by obtain⟨o,e,_⟩:=T.obj _ _ st2 b hb;exact zn e
 refine jH (wpAny_newFunctionEnv k.cell (by intro y hy;simp at hy) (λh₁ hns₁ hsb₁=>?_) k.kind)
 dsimp only at hns₁ hsb₁ ⊢
 generalize hHP:s2.heap.push {cls:=.type "list",dict:=none,data:=.seq ([]:List zf).toArray}=HP at hns₁ hsb₁ ⊢
 have hC:HP.objs.size=s2.heap.objs.size+1:=by rw[<-hHP,jb]
 have hCl:s2.heap.objs.size<HP.objs.size:=by rw[hC];exact yE _
 have hDC:s2.heap.objs.size≠HP.objs.size:=zA hCl
 have old:∀b o,s2.heap.get? b=some o->h₁.get? b=some o:=λb o e=>hsb₁.extBut b o (by have:=zn e;exact zA (yt this hCl)) (zg _ (hHP▸zg _ e))
 have hacc:h₁.get? s2.heap.objs.size=some {cls:=.type "list",data:=.seq ([]:List zf).toArray 0}:=hsb₁.extBut _ _ hDC (zg _ (hHP▸zm _ rfl))
 have hD:H2 s2.heap.objs.size=none:=I2.hok.fresh (zo _)
 have nD:s2.heap.objs.size∉WW:=λz=>yO _ (h2.mem_lt I2 z)
 have st1:tn 0 h₁:=T.keep _ _ _ st2 λb _ o e=>old b o e
 have fpX:∀(H':Hp) (b:Addr),b∈fp->H' b=none->aU3 (V8 X scope N HP.objs.size s2 H2 fp) [] H' b:=λH' b hb hn=>
  ⟨hn,zA (yt (hfp b hb) hCl),λz=>by
   rcases zw.mp (I2.stkSub b z)with e|e
   ·exact(f2 b hb).2.1 e
   ·exact(f2 b hb).2.2.1 e,.inl hb,λx c e=>(f2 b hb).2.2.2.2.1 x c (aB1 e),λp hp=>absurd (show p∈([]:PNS)from hp) (by simp)⟩
 have hcX:(V8 X scope N HP.objs.size s2 H2 fp).calm=true:=hc
 have p3:=cH9 (j7.bind p2)
 generalize hDD:s2.heap.objs.size=DD at *
 have loop:∀s₃:zh,s₃= {s2 with heap:=h₁,toks:=s2.toks+([]:List (Str×zf)).length}->
  xB (zD X.prog X.w) X.A (.compLoop (.ListComp elt [⟨tg,iter,ifs,0⟩] scope pos) 0 (.ref itA) (.ref DD) (compEnvC scope (aP8 X.env scope.names []) HP.objs.size X.env))
   (compPost (zD X.prog X.w) X.A X.xe use PQ (.ref DD) HP.objs.size) s₃:=by
  rintro s₃ rfl
  refine cD3 (eL8 (V8 X scope N HP.objs.size s2 H2 fp) Z Q gg tt fe src fp tn DD WW H2) (λn s' h=>dE7 (Y:=V8 X scope N HP.objs.size s2 H2 fp) hcX (hg _ _ _ _) (ht _ _ _ _) (he _ _ _ _) T fpX hJ hlen (λH' X2 s4 I4 q9=>?_) n s' h λm s h1 h2=>⟨m,h1,h2⟩) src.items.length
   ⟨0, [], [],aD2 caps O,upd H2 DD (.lst []),aD2 caps Z8,WW,G2,rfl,jR _,zo _,?_,st1,λb hb=>?_,R9,nD,?_,?_,?_,rfl,?_⟩
  · obtain⟨m,hn,_⟩:=I4.loc
    exact fin DD HP.objs.size s4 H' m _ hn (λh'' sb=>dJ0 I2 (λb hb=>f2 b hb) (by rw[hDD];exact hCl) I4 sb) I4.free (λH9 hn9=>I2.fpOk (by rw[hDD];exact yx hCl) hn9) q9
  · have:=cQ4 (h₁:=h₁) (tk:=s2.toks+([]:List (Str×zf)).length) I2 k (C:=HP.objs.size) (by rw[hDD];exact hCl) f2 (λb hb=>by rw[hDD];exact hfp b hb) old hns₁ (by rw[hDD];exact hacc)
    rw[hDD]at this
    exact this
  ·rw[J6 (zA (hfp b hb))];exact(f2 b hb).1
  ·rw[aV9,aY6 hD];exact Ext.refl _ _
  ·rw[aV9,aY6 hD];exact h2
  ·rw[aV9,aY6 hD];exact dC2 (sr.mono x2)
  · rw[aV9,aY6 hD,List.drop_zero]
    exact p3
 exact codeAny_compStart_list (loop _ rfl) (T.self _ 0 _ _ _ st1 (loop _ rfl))
theorem dU8(hc:X.calm=true)(hi:DI X Z tg iter it)(k:aG7 X scope N caps)
 (hg:∀C s H ex,DG (V8 X scope N C s H ex) ZF tg gg) (ht:∀C s H ex,DTs (V8 X scope N C s H ex) ZF ifs tt) (he:∀C s H ex,DE (V8 X scope N C s H ex) ZF elt fe)
 (hs:∀x,yz iter X.env x=pure x):DE X Z (.ListComp elt [⟨tg,iter,ifs,0⟩] scope pos) (Q6 it caps gg tt fe):=⟨by
 intro pins s O H Q I hE0
 refine hE0.elim λZ8 U G sr hr p=>?_
 rw[eval_ListComp]
 exact bW9 (use:=none) hc hi k hg ht he hs I sr hr p λDD C s4 H' m o hn fin _ _ q9=>⟨m,hn,λh'' sb=>⟨.ref DD,H',fin h'' sb,rfl,q9⟩⟩⟩
end
noncomputable def S7(r:Nat):M DO:=λG=>match G[r]? with
 |some o=>some (.ok o,G)
 |none=>none
def listOf:DO->M (List D)
 | .lst l=>pure l
 | .rol l=>pure l
 | .dct _=>M.stuck
 | .rod _=>M.stuck
def fF4:D->M (List D)
 | .tup l=>pure l
 | .ref r=>S7 r >>= listOf
 |_=>M.stuck
def aJ6{α:Type}:Option α->M α
 |some a=>pure a
 |none=>M.stuck
section
variable{X:Cx}{Z:XC}
theorem IxR.mono{r r':R2}(h:IxR X r)(k:∀x y H Q,r' x y H Q->r x y H Q):IxR X r':=λva sl pins s O H x y v u Q I rx ry q hs=>h va sl pins s O H x y v u Q I rx ry (k x y H Q q) hs
variable{c:Wc}{U:List Addr}{H:Hp}{G:DH}
theorem Q0{α:Type}{r:Nat}{f:DO->M α}{K:α->List Addr->DH->Hp->Prop}(p:j7 c Z U H ((S7 r >>= f) G) K):∃o,G[r]? =some o/\j7 c Z U H (f o G) K:=by
 rw[M.bind_eq]at p
 unfold S7 at p
 rcases e:G[r]? with _|o
 ·rw[e]at p;exact p.elim
 ·rw[e]at p;exact⟨o,rfl,p⟩
theorem aE2{α β:Type}{r:Option β}{f:β->M α}{K:α->List Addr->DH->Hp->Prop}(p:j7 c Z U H ((aJ6 r >>= f) G) K):∃o,r=some o/\j7 c Z U H (f o G) K:=by
 rcases r with _|o
 ·exact p.elim
 ·exact⟨o,rfl,p⟩
theorem bJ2{α:Type}{d:D}{v:V}{f:List D->M α}{K:α->List Addr->DH->Hp->Prop}(h:J0 c U G H)(r:j8 c U H d v)(p:j7 c Z U H ((fF4 d >>= f) G) K):
 ∃l a vs,v= .ref a/\v9 c U H l vs/\j7 c Z U H (f l G) K/\((d= .tup l/\SqT c.K H a vs)\/(∃i,d= .ref i/\U[i]? =some a/\((G[i]? =some (.lst l)/\H a=some (.lst vs))\/(G[i]? =some (.rol l)/\RoL c.K H a vs)))):=by
 rcases d with _|_|_|_|l|i|_|_<;>try (exact p.elim;done)
 ·
   unfold j8 at r
   obtain⟨a,vs,e,q,rl⟩:=r
   exact⟨l,a,vs,e,rl,p,.inl ⟨rfl,q⟩⟩
 ·
   unfold j8 at r
   obtain⟨a,m,e⟩:=r
   have p':j7 c Z U H ((S7 i >>= λo=>listOf o >>= f) G) K:=by rw[<-M.bind_assoc];exact p
   obtain⟨o,g,p2⟩:=Q0 p'
   have ro:=h.obj i o a g m
   rcases o with l|l|l|l
   ·obtain⟨vs,q,rl⟩:=ro;exact⟨l,a,vs,e,rl,p2,.inr ⟨i,rfl,m,.inl ⟨g,q⟩⟩⟩
   ·obtain⟨vs,q,rl⟩:=ro;exact⟨l,a,vs,e,rl,p2,.inr ⟨i,rfl,m,.inr ⟨g,q⟩⟩⟩
   ·exact p2.elim
   ·exact p2.elim
theorem aF7{i:Int}{v:V}(r:j8 c U H (.int i) v):v= .int i:=by unfold j8 at r;exact r
theorem aZ6{i:Str}{v:V}(r:j8 c U H (.str i) v):v= .str i:=by unfold j8 at r;exact r
theorem cC6{i:Bool}{v:V}(r:j8 c U H (.bl i) v):v= .bl i:=by unfold j8 at r;exact r
theorem dT0{v:V}(r:j8 c U H .non v):v= .non:=by unfold j8 at r;exact r
theorem ofI{i:Int}:j8 c U H (.int i) (.int i):=by unfold j8;rfl
theorem ofS{i:Str}:j8 c U H (.str i) (.str i):=by unfold j8;rfl
theorem ofB{i:Bool}:j8 c U H (.bl i) (.bl i):=by unfold j8;rfl
theorem ofN:j8 c U H .non .non:=by unfold j8;rfl
def cO2(g:Int->Int->M D):D->D->M D:=λx y=>match x,y with
 | .int i,.int j=>g i j
 |_,_=>M.stuck
theorem cA7{f:zf->zf->Sem zf}{C:Int->Int->Prop}[∀i j,Decidable (C i j)]{g:Int->Int->Int}(h:OpR X f (rI C λi j=>.int (g i j))):OpD X Z f (cO2 λi j=>if C i j then pure (.int (g i j))else M.stuck):=
 OpD.of h λx y H Q hE0=>hE0.elim λdx dy U G rx ry hr p=>by
  rcases dx with _|_|_|_|_|_|_|_<;>rcases dy with _|_|_|_|_|_|_|_<;>first
   |exact p.elim
   |skip
  rename_i i j
  unfold cO2 at p
  dsimp only at p
  split at p
  · rename_i hc
    exact⟨i,j,aF7 rx,aF7 ry,hc,j7.ok p hr _ ofI⟩
  ·exact p.elim
theorem dL6{f:zf->zf->Sem zf}{g:Int->Int->Int}(h:OpR X f (rI0 λi j=>.int (g i j))):OpD X Z f (cO2 λi j=>pure (.int (g i j))):=
 OpD.of h λx y H Q hE0=>hE0.elim λdx dy U G rx ry hr p=>by
  rcases dx with _|_|_|_|_|_|_|_<;>rcases dy with _|_|_|_|_|_|_|_<;>first
   |exact p.elim
   |exact⟨_,_,aF7 rx,aF7 ry,j7.ok p hr _ ofI⟩
def bB0:D->D->M D:=cO2 λi j=>pure (.int (i-j))
theorem eU6:OpD X Z (jS .Sub) bB0:=dL6 dO8
noncomputable instance (i j:Int):Decidable (bW0 i j):=by unfold bW0;infer_instance
noncomputable def bX5(_ j:Int):Prop:=0<j/\j<2 ^ 100
noncomputable instance (i j:Int):Decidable (bX5 i j):=by unfold bX5;infer_instance
theorem dN1:OpR X (jS .FloorDiv) (rI bX5 λi j=>.int (i / j)):=opI λi j _ _ _ _ _ hc q=>by
 have h1:(0:Int)<j:=hc.1
 have h2:j<2 ^ 100:=hc.2
 refine floordiv_int (by lia) (by rw[Int.fdiv_eq_ediv_of_nonneg i (by lia)];exact q) (.inl (PyProof.noPylong_of_log2 ?_))
 have h3:j.natAbs<2 ^ 100:=by lia
 have h4:j.natAbs≠0:=by lia
 have:=(Nat.log2_lt h4).mpr h3
 lia
def aT9:D->D->M D:=cO2 λi j=>if bX5 i j then pure (.int (i / j))else M.stuck
theorem dZ8:OpD X Z (jS .FloorDiv) aT9:=cA7 dN1
def aU1:D->D->M D:=cO2 λi j=>if 0<j then pure (.int (i % j))else M.stuck
theorem eH0:OpD X Z (jS .Mod) aU1:=cA7 (C:=λ_ j=>0<j) eU0
noncomputable instance (i j:Int):Decidable (bK2 i j):=by unfold bK2;infer_instance
def aW2:D->D->M D:=cO2 λi j=>if bK2 i j then pure (.int (i ^ j.toNat))else M.stuck
theorem eI0:OpD X Z (jS .Pow) aW2:=cA7 dS2
theorem dP5{prog:zB}{w:zJ}{A:zF}{E:VSP}{s:zh}{t b:Addr}{ws:List zf}{Q:VSP}(ht:ZU s.heap t #[])(hb:ZU s.heap b ws.toArray)
 (h1:Q (.ref b) s):zp (zD prog w) A (jS .Add (.ref t) (.ref b)) Q E s:=by
 obtain⟨⟨cls,dd,data,sl⟩,ho,hc,n,hd⟩:=id ht
 obtain⟨⟨cls2,dd2,data2,sl2⟩,ho2,hc2,n2,hd2⟩:=id hb
 simp only at hc hd hc2 hd2
 subst hc hd hc2 hd2
 exact concat_meets ⟨_,ho,rfl⟩ ⟨_,ho2,rfl⟩ Xq JB Zo Zd (xU _ _)
  (tuple_addW0 t b #[] ws.toArray n n2 dd dd2 sl sl2 (by simp)) ⟨ho,ho2,h1⟩
def eT4(K:zj):R2:=λx y H Q=>∃a b ys,x= .ref a/\y= .ref b/\SqT K H a []/\SqT K H b ys/\Q (.ref b) H
theorem dP3:OpR X (jS .Add) (eT4 X.K):=by
 intro pins s O H x y v u Q I rx ry h
 obtain⟨a,b,ys,rfl,rfl,ha,hb,q⟩:=h
 cases rx
 cases ry
 obtain⟨its,r,p,_⟩:=I.tuple ha
 obtain⟨its2,r2,p2,_⟩:=I.tuple hb
 cases r
 exact dP5 p p2 ⟨.ref b,H,I,rfl,q⟩
def W5:D->D->M D:=λx y=>match x,y with
 | .int i,.int j=>pure (.int (i+j))
 | .str a,.str b=>if a.length+b.length<=zk then pure (.str (a++b))else M.stuck
 | .tup a,.tup b=>if a.length+b.length<=zk then pure (.tup (a++b))else M.stuck
 | .ref i,.ref j=>do
   match <-S7 i,<-S7 j with
   | .lst a,.lst b=>if a.length+b.length<=zk then R0 (.lst (a++b))else M.stuck
   |_,_=>M.stuck
 |_,_=>M.stuck
theorem bI2{xs:List D}{vs:List V}{Q:VK}(h:J0 c U G H){a:Addr}(q:SqT c.K H a vs)(r:v9 c U H xs vs)
 (p:j7 c Z U H (some (Except.ok (.tup xs),G)) λd X9 _ H'=>∀v,j8 c X9 H' d v->Q v H'):Q (.ref a) H:=j7.ok p h _ (by unfold j8;exact⟨a,vs,rfl,q,r⟩)
theorem eL1:OpD X Z (jS .Add) W5:=
 OpD.of (OpR.or eS6 (OpR.or cR2 (OpR.or eA6 (OpR.or dP3 eN4)))) λx y H Q hE0=>hE0.elim λdx dy U G rx ry hr p=>by
  rcases dx with _|_|_|_|_|_|_|_<;>rcases dy with _|_|_|_|_|_|_|_<;>first
   |exact p.elim
   |skip
  ·exact .inl ⟨_,_,aF7 rx,aF7 ry,j7.ok p hr _ ofI⟩
  · rename_i a b
    refine .inr (.inl ?_)
    unfold W5 at p
    dsimp only at p
    split at p
    · rename_i hz
      exact⟨a,b,aZ6 rx,aZ6 ry,hz,j7.ok p hr _ ofS⟩
    ·exact p.elim
  · rename_i a b
    unfold j8 at rx ry
    obtain⟨ax,vx,rfl,qx,lx⟩:=rx
    obtain⟨ay,vy,rfl,qy,ly⟩:=ry
    unfold W5 at p
    dsimp only at p
    split at p
    · rename_i hz
      by_cases hv:vx= []
      · subst hv
        rcases a with _|⟨_,_⟩
        ·exact .inr (.inr (.inr (.inl ⟨ax,ay,vy,rfl,rfl,qx,qy,bI2 hr qy ly p⟩)))
        ·obtain⟨_,_,z,_⟩:=lx;cases z
      · refine .inr (.inr (.inl ⟨ax,ay,vx,vy,rfl,rfl,qx,qy,hv,by rw[<-lx.length,<-ly.length];exact hz,?_⟩))
        refine⟨λhy=>?_,λhy q hq=>bG7 hr (lx.append ly) p q hq⟩
        subst hy
        refine bI2 hr qx ?_ p
        rcases b with _|⟨_,_⟩
        ·rw[ZH];exact lx
        ·obtain⟨_,_,z,_⟩:=ly;cases z
    ·exact p.elim
  · rename_i i j
    unfold j8 at rx ry
    obtain⟨ax,mx,rfl⟩:=rx
    obtain⟨ay,my,rfl⟩:=ry
    obtain⟨ox,gx,p⟩:=Q0 p
    obtain⟨oy,gy,p⟩:=Q0 p
    have hx:=hr.obj i ox ax gx mx
    have hy:=hr.obj j oy ay gy my
    rcases ox with _|_|_|_<;>rcases oy with _|_|_|_<;>first
     |exact p.elim
     |skip
    obtain⟨vx,ex,lx⟩:=hx
    obtain⟨vy,ey,ly⟩:=hy
    dsimp only at p
    split at p
    · rename_i hz
      exact .inr (.inr (.inr (.inr ⟨ax,ay,vx,vy,rfl,rfl,ex,ey,by rw[<-lx.length,<-ly.length];exact hz,λq hq=>aD1 hr (lx.append ly) p q hq⟩)))
    ·exact p.elim
end
noncomputable def S6(G:DH):D->Option (Bool×List D)
 | .tup l=>some (true,l)
 | .ref i=>match G[i]? with
   |some (.lst l)=>some (false,l)
   |some (.rol l)=>some (false,l)
   |_=>none
 |_=>none
noncomputable def aC5:D->Bool
 | .non=>true
 | .bl _=>true
 | .int _=>true
 | .str _=>true
 |_=>false
def eqS:D->D->Option Bool
 | .non,.non=>some true
 | .bl a,.bl b=>some (a==b)
 | .int a,.int b=>some (a==b)
 | .str a,.str b=>some (a==b)
 | .bl a,.int b=>some ((if a then (1:Int)else 0)==b)
 | .int a,.bl b=>some (a==(if b then (1:Int)else 0))
 |x,y=>if aC5 x&&aC5 y then some false else none
noncomputable def eqL(f:D->D->Option Bool):List D->List D->Option Bool
 |[], []=>some true
 |[],_::_=>some false
 |_::_, []=>some false
 |x::xs,y::ys=>match f x y,eqL f xs ys with
   |some e,some r=>some (e&&r)
   |_,_=>none
def eqN:Nat->DH->D->D->Option Bool
 |0,_,_,_=>none
 |n+1,G,x,y=>match S6 G x,S6 G y with
   |some (k1,a),some (k2,b)=>if k1=k2 then (if k1=false/\a.length≠b.length then some false else eqL (eqN n G) a b)else some false
   |some _,none=>if aC5 y then some false else none
   |none,some _=>if aC5 x then some false else none
   |none,none=>eqS x y
theorem cJ5{n:Nat}{G:DH}{x y:D}:eqN (n+1) G x y=match S6 G x,S6 G y with
 |some (k1,a),some (k2,b)=>if k1=k2 then (if k1=false/\a.length≠b.length then some false else eqL (eqN n G) a b)else some false
 |some _,none=>if aC5 y then some false else none
 |none,some _=>if aC5 x then some false else none
 |none,none=>eqS x y:=rfl
theorem cV0{f:D->D->Option Bool}{x y:D}{xs ys:List D}:eqL f (x::xs) (y::ys)=match f x y,eqL f xs ys with
 |some e,some r=>some (e&&r)
 |_,_=>none:=rfl
theorem bX7{f:D->D->Option Bool}{e:Nat->Bool}:∀(a b:List D) (r:Bool),eqL f a b=some r->(∀(j:Nat) x y,a[j]? =some x->b[j]? =some y->f x y=some (e j))->r= ((jw (min a.length b.length)).all e&&a.length==b.length)
 |[], [],r,h,_=>by cases h;rfl
 |[],_::_,r,h,_=>by cases h;simp
 |_::_, [],r,h,_=>by cases h;simp
 |x::xs,y::ys,r,h,he=>by
   rw[cV0]at h
   have h0:=he 0 x y rfl rfl
   rw[h0]at h
   rcases hr:eqL f xs ys with _|r'
   ·rw[hr]at h;exact K1 h
   ·
     rw[hr]at h
     have ih:=bX7 (e:=λj=>e (j+1)) xs ys r' hr λj x' y' h1 h2=>he (j+1) x' y' (by simpa using h1) (by simpa using h2)
     cases h
     rw[ih]
     have:min (x::xs).length (y::ys).length=min xs.length ys.length+1:=by simp only[jg];lia
     rw[this,Zw,ya,yH]
     simp[Bool.and_assoc,yK]
theorem bV0{f:D->D->Option Bool}:∀(a b:List D) (r:Bool),eqL f a b=some r->∀(j:Nat) x y,a[j]? =some x->b[j]? =some y->∃e,f x y=some e
 |[],_,_,_,_,_,_,h,_=>by simp at h
 |_::_, [],_,_,_,_,_,_,h=>by simp at h
 |x::xs,y::ys,r,h,j,x',y',h1,h2=>by
   rw[cV0]at h
   rcases hf:f x y with _|e
   ·rw[hf]at h;exact K1 h
   ·
     rcases hr:eqL f xs ys with _|r'
     ·rw[hf,hr]at h;exact K1 h
     ·
       cases j with
       |zero=>simp at h1 h2;subst h1 h2;exact⟨e,hf⟩
       |succ j=>exact bV0 xs ys r' hr j x' y' (by simpa using h1) (by simpa using h2)
section
variable{X:Cx}{pins:PNS}{O:St}{H:Hp}{s:zh}{U:List Addr}{G:DH}
noncomputable def cM9(s:zh)(k:Bool)(a:Addr)(its:List zf):Prop:=if k then s.heap.IsTuple a its.toArray else s.heap.IsList a its.toArray
theorem aK1(I:Inv X pins O H s)(h:J0 (wc X) U G H){d:D}{x:V}{v:zf}{k:Bool}{l:List D}(e:S6 G d=some (k,l))(r:j8 (wc X) U H d x)(rv:J9 x v):
 ∃a vs its,x= .ref a/\v= .ref a/\v9 (wc X) U H l vs/\J2 vs its/\cM9 s k a its/\(if k then SqT X.K H a vs else SqL X.K H a vs):=by
 rcases d with _|_|_|_|l'|i|_|_<;>try (cases e;done)
 ·
   unfold S6 at e
   cases e
   unfold j8 at r
   obtain⟨a,vs,rfl,q,rl⟩:=r
   obtain⟨its,rr,p,_⟩:=I.tuple q
   exact⟨a,vs,its,rfl,rv,rl,rr,p,q⟩
 ·
   have e':(match G[i]? with|some (.lst l)=>some (false,l)|some (.rol l)=>some (false,l)|_=>none)=some (k,l):=e
   unfold j8 at r
   obtain⟨a,m,rfl⟩:=r
   have key:∀vs,SqL X.K H a vs->v9 (wc X) U H l vs->k=false->∃a' vs its,V.ref a= .ref a'/\v= .ref a'/\v9 (wc X) U H l vs/\J2 vs its/\cM9 s k a' its/\(if k then SqT X.K H a' vs else SqL X.K H a' vs):=λvs q rl hk=>by
    subst hk
    obtain⟨its,rr,p,_⟩:=I.list q
    exact⟨a,vs,its,rfl,rv,rl,rr,p.isList,q⟩
   generalize g:G[i]? =o at e'
   rcases o with _|l'|l'|_|_<;>cases e'
   · obtain⟨vs,q,rl⟩:=h.obj i _ a g m
     exact key vs (SqL.of q) rl rfl
   · obtain⟨vs,q,rl⟩:=h.obj i _ a g m
     exact key vs q.sq rl rfl
theorem bP0{d:D}{a:Addr}{c:Wc}(hs:aC5 d=true)(r:j8 c U H d (.ref a)):False:=by
 cases d<;>first
  |exact absurd (show false=true from hs) zX
  |(unfold j8 at r;cases r)
theorem cK0{x y:D}{b:Bool}(h:eqS x y=some b):aC5 x=true/\aC5 y=true:=by
 rcases x with _|_|_|_|_|_|_|_<;>rcases y with _|_|_|_|_|_|_|_<;>first
  |exact⟨rfl,rfl⟩
  |(cases h;done)
theorem dK4{x y:D}{b:Bool}{v:V}{c:Wc}(h:eqS x y=some b)(rx:j8 c U H x v)(ry:j8 c U H y v):b=true:=by
 obtain⟨s1,s2⟩:=cK0 h
 rcases x with _|_|_|_|_|_|_|_<;>rcases y with _|_|_|_|_|_|_|_<;>first
  |(cases s1;done)
  |(cases s2;done)
  |(unfold j8 at rx ry;rw[rx]at ry;cases ry;done)
  |(unfold j8 at rx ry;rw[rx]at ry;cases ry;cases h;first|rfl|simp)
theorem cN7(I:Inv X pins O H s){k k':Bool}{a:Addr}{its its':List zf}(h1:cM9 s k a its)(h2:cM9 s k' a its'):k=k':=by
 cases k<;>cases k'<;>first
  |rfl
  |exact absurd rfl (XQ h1 h2)
  |exact absurd rfl (XQ h2 h1)
theorem cL9{c:Wc}{f:D->D->Option Bool}:∀(l l':List D) (vs:List V) (b:Bool),v9 c U H l vs->v9 c U H l' vs->(∀d d' v b,v∈vs->j8 c U H d v->j8 c U H d' v->f d d'=some b->b=true)->eqL f l l'=some b->b=true
 |[], [],_,b,_,_,_,e=>by cases e;rfl
 |[],_::_,vs,b,r1,r2,_,_=>by cases r1;obtain⟨_,_,z,_⟩:=r2;exact cZ3 z
 |_::_, [],vs,b,r1,r2,_,_=>by cases r2;obtain⟨_,_,z,_⟩:=r1;cases z
 |d::ds,d'::ds',vs,b,r1,r2,k,e=>by
   obtain⟨v0,vr,rfl,q0,t0⟩:=r1
   obtain⟨v1,vr',e1,q1,t1⟩:=r2
   cases e1
   rw[cV0]at e
   rcases hf:f d d' with _|e0
   ·rw[hf]at e;exact K1 e
   ·
     rcases hr:eqL f ds ds' with _|r'
     ·rw[hf,hr]at e;exact K1 e
     ·
       rw[hf,hr]at e
       cases e
       have z1:=k d d' v0 e0 jh q0 q1 hf
       have z2:=cL9 ds ds' vr r' t0 t1 (λa a' v b hm=>k a a' v b (zU _ hm)) hr
       rw[z1,z2];rfl
theorem cL1(I:Inv X pins O H s)(h:J0 (wc X) U G H):∀(n:Nat) {dx dy:D} {x:V} {v:zf} {b:Bool},j8 (wc X) U H dx x->j8 (wc X) U H dy x->J9 x v->eqN n G dx dy=some b->b=true
 |0,_,_,_,_,_,_,_,_,e=>by exact K1 e
 |n+1,dx,dy,x,v,b,rx,ry,rv,e=>by
   rw[cJ5]at e
   rcases hx:S6 G dx with _|p
   ·
     rw[hx]at e
     rcases hy:S6 G dy with _|p
     ·rw[hy]at e;exact dK4 e rx ry
     ·
       obtain⟨k,l⟩:=p
       rw[hy]at e
       dsimp only at e
       split at e
       · rename_i hs
         obtain⟨a,_,_,rfl,_⟩:=aK1 I h hy ry rv
         exact(bP0 hs rx).elim
       ·exact K1 e
   ·
     obtain⟨k,l⟩:=p
     rw[hx]at e
     rcases hy:S6 G dy with _|p'
     ·
       rw[hy]at e
       dsimp only at e
       split at e
       · rename_i hs
         obtain⟨a,_,_,rfl,_⟩:=aK1 I h hx rx rv
         exact(bP0 hs ry).elim
       ·exact K1 e
     ·
       obtain⟨k',l'⟩:=p'
       rw[hy]at e
       dsimp only at e
       obtain⟨a,vs,its,rfl,rfl,rl,rr,sq,q⟩:=aK1 I h hx rx rv
       obtain⟨a',vs',its',ea,_,rl',rr',sq',q'⟩:=aK1 I h hy ry rv
       cases ea
       have hk:k=k':=cN7 I sq sq'
       subst hk
       have hvs:vs=vs':=by
        rcases k with _|_
        ·exact I.list_inj q q'
        ·exact I.tuple_inj q q'
       subst hvs
       rw[if_pos rfl,if_neg (by rw[rl.length,rl'.length];simp)]at e
       have hv:∀v∈vs,∃u,J9 v u:=λv hv=>by
        obtain⟨i,hi⟩:=Jy hv
        obtain⟨u,_,ru⟩:=rr.get hi
        exact⟨u,ru⟩
       exact cL9 l l' vs b rl rl' (λd d' v b hm r1 r2 ef=>by
        obtain⟨u,ru⟩:=hv v hm
        exact cL1 I h n r1 r2 ru ef) e
theorem eR9{A:zF}{dx dy:D}{x y:V}{v u:zf}{b:Bool}{c:Wc}(rx:j8 c U H dx x)(ry:j8 c U H dy y)(rv:J9 x v)(ru:J9 y u)(e:eqS dx dy=some b):
 ZX A s v u b/\Zr A s v u (!b)/\yr A s v u b:=by
 obtain⟨s1,s2⟩:=cK0 e
 rcases dx with _|i|i|i|_|_|_|_<;>try (cases s1;done)
 ·
   unfold j8 at rx;subst rx;cases rv
   rcases dy with _|j|j|j|_|_|_|_<;>try (cases s2;done)
   ·unfold j8 at ry;subst ry;cases ru;cases e;exact⟨SeqAt.RcAt.none_none,SeqAt.RcNeAt.none_none,Yd _⟩
   ·unfold j8 at ry;subst ry;cases ru;cases e;exact⟨SeqAt.RcAt.none_bool _,SeqAt.RcNeAt.none_bool _,Xj _⟩
   ·unfold j8 at ry;subst ry;obtain⟨t,rfl⟩:=ru;cases e;exact⟨SeqAt.RcAt.none_int _ _,SeqAt.RcNeAt.none_int _ _,Xw _ _⟩
   ·unfold j8 at ry;subst ry;obtain⟨t,rfl⟩:=ru;cases e;exact⟨SeqAt.RcAt.none_str _ _,SeqAt.RcNeAt.none_str _ _,Xv _ _⟩
 ·
   unfold j8 at rx;subst rx;cases rv
   rcases dy with _|j|j|j|_|_|_|_<;>try (cases s2;done)
   ·unfold j8 at ry;subst ry;cases ru;cases e;exact⟨SeqAt.RcAt.bool_none _,SeqAt.RcNeAt.bool_none _,Xk _⟩
   ·unfold j8 at ry;subst ry;cases ru;cases e;exact⟨SeqAt.RcAt.bool_bool _ _,SeqAt.RcNeAt.bool_bool _ _,Xl _ _⟩
   ·unfold j8 at ry;subst ry;obtain⟨t,rfl⟩:=ru;cases e;exact⟨SeqAt.RcAt.bool_int _ _ _,SeqAt.RcNeAt.bool_int _ _ _,XA _ _ _⟩
   ·unfold j8 at ry;subst ry;obtain⟨t,rfl⟩:=ru;cases e;exact⟨SeqAt.RcAt.bool_str _ _ _,SeqAt.RcNeAt.bool_str _ _ _,Xz _ _ _⟩
 ·
   unfold j8 at rx;subst rx;obtain⟨t,rfl⟩:=rv
   rcases dy with _|j|j|j|_|_|_|_<;>try (cases s2;done)
   ·unfold j8 at ry;subst ry;cases ru;cases e;exact⟨SeqAt.RcAt.int_none _ _,SeqAt.RcNeAt.int_none _ _,Xx _ _⟩
   ·unfold j8 at ry;subst ry;cases ru;cases e;exact⟨SeqAt.RcAt.int_bool _ _ _,SeqAt.RcNeAt.int_bool _ _ _,Xy _ _ _⟩
   ·unfold j8 at ry;subst ry;obtain⟨t,rfl⟩:=ru;cases e;exact⟨SeqAt.RcAt.int_int _ _ _ _,SeqAt.RcNeAt.int_int _ _ _ _,XI _ _ _ _⟩
   ·unfold j8 at ry;subst ry;obtain⟨t,rfl⟩:=ru;cases e;exact⟨SeqAt.RcAt.int_str _ _ _ _,SeqAt.RcNeAt.int_str _ _ _ _,ZJ _ _ _ _⟩
 ·
   unfold j8 at rx;subst rx;obtain⟨t,rfl⟩:=rv
   rcases dy with _|j|j|j|_|_|_|_<;>try (cases s2;done)
   ·unfold j8 at ry;subst ry;cases ru;cases e;exact⟨SeqAt.RcAt.str_none _ _,SeqAt.RcNeAt.str_none _ _,Xt _ _⟩
   ·unfold j8 at ry;subst ry;cases ru;cases e;exact⟨SeqAt.RcAt.str_bool _ _ _,SeqAt.RcNeAt.str_bool _ _ _,Xu _ _ _⟩
   ·unfold j8 at ry;subst ry;obtain⟨t,rfl⟩:=ru;cases e;exact⟨SeqAt.RcAt.str_int _ _ _ _,SeqAt.RcNeAt.str_int _ _ _ _,ZI _ _ _ _⟩
   ·unfold j8 at ry;subst ry;obtain⟨t,rfl⟩:=ru;cases e;exact⟨SeqAt.RcAt.str_str _ _ _ _,SeqAt.RcNeAt.str_str _ _ _ _,XH _ _ _ _⟩
theorem bL8{A:zF}(hu:A.units<xj){k:Bool}{a:Addr}{its:List zf}(sq:cM9 s k a its){dy:D}{y:V}{u:zf}{c:Wc}(ry:j8 c U H dy y)(ru:J9 y u)(hs:aC5 dy=true):
 (ZX A s (.ref a) u false/\Zr A s (.ref a) u true/\yr A s (.ref a) u false)/\(ZX A s u (.ref a) false/\Zr A s u (.ref a) true/\yr A s u (.ref a) false):=by
 rcases k with _|_
 ·
   rcases dy with _|j|j|j|_|_|_|_<;>try (cases hs;done)
   ·unfold j8 at ry;subst ry;cases ru;exact⟨⟨.list_none sq hu,.list_none sq hu,.list_none sq hu⟩,.none_list sq hu,.none_list sq hu,.none_list sq hu⟩
   ·unfold j8 at ry;subst ry;cases ru;exact⟨⟨.list_bool _ sq hu,.list_bool _ sq hu,.list_bool _ sq hu⟩,.bool_list _ sq hu,.bool_list _ sq hu,.bool_list _ sq hu⟩
   ·unfold j8 at ry;subst ry;obtain⟨t,rfl⟩:=ru;exact⟨⟨.list_int _ _ sq hu,.list_int _ _ sq hu,.list_int _ _ sq hu⟩,.int_list _ _ sq hu,.int_list _ _ sq hu,.int_list _ _ sq hu⟩
   ·unfold j8 at ry;subst ry;obtain⟨t,rfl⟩:=ru;exact⟨⟨.list_str _ _ sq hu,.list_str _ _ sq hu,.list_str _ _ sq hu⟩,.str_list _ _ sq hu,.str_list _ _ sq hu,.str_list _ _ sq hu⟩
 ·
   rcases dy with _|j|j|j|_|_|_|_<;>try (cases hs;done)
   ·unfold j8 at ry;subst ry;cases ru;exact⟨⟨.tuple_none sq hu,.tuple_none sq hu,.tuple_none sq hu⟩,.none_tuple sq hu,.none_tuple sq hu,.none_tuple sq hu⟩
   ·unfold j8 at ry;subst ry;cases ru;exact⟨⟨.tuple_bool _ sq hu,.tuple_bool _ sq hu,.tuple_bool _ sq hu⟩,.bool_tuple _ sq hu,.bool_tuple _ sq hu,.bool_tuple _ sq hu⟩
   ·unfold j8 at ry;subst ry;obtain⟨t,rfl⟩:=ru;exact⟨⟨.tuple_int _ _ sq hu,.tuple_int _ _ sq hu,.tuple_int _ _ sq hu⟩,.int_tuple _ _ sq hu,.int_tuple _ _ sq hu,.int_tuple _ _ sq hu⟩
   ·unfold j8 at ry;subst ry;obtain⟨t,rfl⟩:=ru;exact⟨⟨.tuple_str _ _ sq hu,.tuple_str _ _ sq hu,.tuple_str _ _ sq hu⟩,.str_tuple _ _ sq hu,.str_tuple _ _ sq hu,.str_tuple _ _ sq hu⟩
theorem cU0(I:Inv X pins O H s)(h:J0 (wc X) U G H):∀(n:Nat) (A:zF),A.units+n<xj->∀ {dx dy:D} {x y:V} {v u:zf} {b:Bool},j8 (wc X) U H dx x->j8 (wc X) U H dy y->J9 x v->J9 y u->eqN n G dx dy=some b->
 ZX A s v u b/\Zr A s v u (!b)/\yr A s v u b
 |0,_,_,_,_,_,_,_,_,_,_,_,_,_,e=>by exact K1 e
 |n+1,A,hu,dx,dy,x,y,v,u,b,rx,ry,rv,ru,e=>by
   have hu0:A.units<xj:=by lia
   have hu1:A.in1.units+n<xj:=by show A.units+1+n<xj;lia
   have e0:=e
   rw[cJ5]at e
   rcases hx:S6 G dx with _|p
   ·
     rw[hx]at e
     rcases hy:S6 G dy with _|p
     ·rw[hy]at e;exact eR9 rx ry rv ru e
     ·
       obtain⟨k,l⟩:=p
       rw[hy]at e
       dsimp only at e
       split at e
       · rename_i hs
         cases e
         obtain⟨a,vs,its,rfl,rfl,_,_,sq,_⟩:=aK1 I h hy ry ru
         exact(bL8 hu0 sq rx rv hs).2
       ·exact K1 e
   ·
     obtain⟨k,l⟩:=p
     rw[hx]at e
     obtain⟨a,vs,its,rfl,rfl,rl,rr,sq,q⟩:=aK1 I h hx rx rv
     rcases hy:S6 G dy with _|p'
     ·
       rw[hy]at e
       dsimp only at e
       split at e
       · rename_i hs
         cases e
         exact(bL8 hu0 sq ry ru hs).1
       ·exact K1 e
     ·
       obtain⟨k',l'⟩:=p'
       rw[hy]at e
       dsimp only at e
       obtain⟨a',vs',its',rfl,rfl,rl',rr',sq',q'⟩:=aK1 I h hy ry ru
       -- the two at one place
       have main:ZX A s (.ref a) (.ref a') b/\Zr A s (.ref a) (.ref a') (!b):=by
        have len1:its.toArray.size=l.length:=by rw[zq,<-rr.length,rl.length]
        have len2:its'.toArray.size=l'.length:=by rw[zq,<-rr'.length,rl'.length]
        by_cases hk:k=k'
        · subst hk
          rw[if_pos rfl]at e
          by_cases hlen:k=false/\l.length≠l'.length
          · rw[if_pos hlen]at e
            cases e
            obtain⟨rfl,hne⟩:=hlen
            have hz:(its.toArray.size != its'.toArray.size)=true:=by rw[len1,len2];simpa using hne
            exact⟨SeqAt.RcAt.lists_lengths sq sq' hz hu0,SeqAt.RcNeAt.lists_lengths sq sq' hz hu0⟩
          · rw[if_neg hlen]at e
            have items:∀j (h1:j<its.toArray.size) (h2:j<its'.toArray.size),∃e,eqN n G (l.getD j .non) (l'.getD j .non)=some e/\yr A.in1 s its.toArray[j] its'.toArray[j] e:=λj h1 h2=>by
             have j1:j<l.length:=by rw[<-len1];exact h1
             have j2:j<l'.length:=by rw[<-len2];exact h2
             have g1:l[j]? =some l[j]:=zu j1
             have g2:l'[j]? =some l'[j]:=zu j2
             obtain⟨e1,he1⟩:=bV0 l l' b e j _ _ g1 g2
             obtain⟨v1,hv1,r1⟩:=rl.get g1
             obtain⟨v2,hv2,r2⟩:=rl'.get g2
             obtain⟨u1,hu1',ru1⟩:=rr.get hv1
             obtain⟨u2,hu2',ru2⟩:=rr'.get hv2
             have w1:its.toArray[j]=u1:=by
              have:its.toArray[j]? =some u1:=by simpa using hu1'
              rw[jv h1]at this
              exact jo this
             have w2:its'.toArray[j]=u2:=by
              have:its'.toArray[j]? =some u2:=by simpa using hu2'
              rw[jv h2]at this
              exact jo this
             rw[w1,w2]
             refine⟨e1,?_,(cU0 I h n A.in1 hu1 r1 r2 ru1 ru2 he1).2.2⟩
             rw[zE,zE,g1,g2]
             exact he1
            have hr:=bX7 (e:=λj=>(eqN n G (l.getD j .non) (l'.getD j .non)).getD false) l l' b e λj x y g1 g2=>by
             obtain⟨e1,he1⟩:=bV0 l l' b e j x y g1 g2
             rw[zE,zE,g1,g2]
             simp only[Option.getD_some]
             rw[he1];rfl
            have he:∀j (h1:j<its.toArray.size) (h2:j<its'.toArray.size),yr A.in1 s its.toArray[j] its'.toArray[j] ((eqN n G (l.getD j .non) (l'.getD j .non)).getD false):=λj h1 h2=>by
             obtain⟨e1,he1,hh⟩:=items j h1 h2
             rw[he1];exact hh
            rcases k with _|_
            ·
              have hl:l.length=l'.length:=xL λz=>hlen ⟨rfl,z⟩
              have hsz:its.toArray.size=its'.toArray.size:=by rw[len1,len2,hl]
              have z1:=SeqAt.RcAt.lists (A:=A) sq sq' hsz hu0 he
              have z2:=SeqAt.RcNeAt.lists (A:=A) sq sq' hsz hu0 he
              have hr2:b= (jw its.toArray.size).all λj=>(eqN n G (l.getD j .non) (l'.getD j .non)).getD false:=by
               rw[hr,len1,hl];simp
              rw[<-hr2]at z1 z2
              exact⟨z1,z2⟩
            ·
              have z1:=SeqAt.RcAt.tuples (A:=A) sq sq' hu0 he
              have z2:=SeqAt.RcNeAt.tuples (A:=A) sq sq' hu0 he
              rw[len1,len2,<-hr]at z1 z2
              exact⟨z1,z2⟩
        · rw[if_neg hk]at e
          cases e
          cases k<;>cases k'<;>first
           |exact absurd rfl hk
           |exact⟨SeqAt.RcAt.list_tuple sq sq' hu0,SeqAt.RcNeAt.list_tuple sq sq' hu0⟩
           |exact⟨SeqAt.RcAt.tuple_list sq sq' hu0,SeqAt.RcNeAt.tuple_list sq sq' hu0⟩
       refine⟨main.1,main.2,?_⟩
       by_cases ha:a=a'
       · subst ha
         have:b=true:=cL1 I h (n+1) rx ry rv e0
         rw[this]
         exact Yd _
       ·exact SeqAt.EqAt.of_refs ha main.1
end
section
variable{X:Cx}{Z:XC}
def eqD:D->D->M D:=λx y G=>match eqN 40 G x y with
 |some b=>some (.ok (.bl b),G)
 |none=>none
def neD:D->D->M D:=λx y G=>match eqN 40 G x y with
 |some b=>some (.ok (.bl (!b)),G)
 |none=>none
theorem eZ3(hu:X.A.units+64<xj):OpD X Z (zT .Eq) eqD:=⟨by
 intro pins s O H x y v u Q I rx ry hE0
 refine hE0.elim λdx dy U G rdx rdy hr p=>?_
 unfold eqD at p
 rcases e:eqN 40 G dx dy with _|b
 ·rw[e]at p;exact p.elim
 ·
   rw[e]at p
   exact(cU0 I hr 40 X.A (by lia) rdx rdy rx ry e).1 X.prog X.w X.xe _ ⟨.bl b,H,I,rfl,j7.ok p hr _ ofB⟩⟩
theorem fA0(hu:X.A.units+64<xj):OpD X Z (zT .NotEq) neD:=⟨by
 intro pins s O H x y v u Q I rx ry hE0
 refine hE0.elim λdx dy U G rdx rdy hr p=>?_
 unfold neD at p
 rcases e:eqN 40 G dx dy with _|b
 ·rw[e]at p;exact p.elim
 ·
   rw[e]at p
   exact(cU0 I hr 40 X.A (by lia) rdx rdy rx ry e).2.1 X.prog X.w X.xe _ ⟨.bl (!b),H,I,rfl,j7.ok p hr _ ofB⟩⟩
def leD:D->D->M D:=λx y=>match x,y with
 | .int i,.int j=>pure (.bl (decide (i<=j)))
 | .str i,.str j=>pure (.bl (!decide (j.cps.toList<i.cps.toList)))
 |_,_=>M.stuck
def gtD:D->D->M D:=λx y=>match x,y with
 | .int i,.int j=>pure (.bl (decide (j<i)))
 | .str i,.str j=>pure (.bl (decide (j.cps.toList<i.cps.toList)))
 |_,_=>M.stuck
def geD:D->D->M D:=λx y=>match x,y with
 | .int i,.int j=>pure (.bl (decide (j<=i)))
 | .str i,.str j=>pure (.bl (!decide (i.cps.toList<j.cps.toList)))
 |_,_=>M.stuck
theorem cE5{op:CmpOp}{fi:Int->Int->Bool}{fs:Str->Str->Bool}{o:D->D->M D}(hi:OpR X (zT op) (rI0 λi j=>.bl (fi i j)))
 (hs:∀(i j:Str) (t u:Tok) (s:zh) (Q:VSP) (E:VSP),Q (.bool (fs i j)) s->zp (zD X.prog X.w) X.A (zT op (.str i t) (.str j u)) Q E s)
 (h1:∀i j,o (.int i) (.int j)=pure (.bl (fi i j))) (h2:∀i j,o (.str i) (.str j)=pure (.bl (fs i j)))
 (h3:∀x y,(∀i j,¬(x= .int i/\y= .int j))->(∀i j,¬(x= .str i/\y= .str j))->o x y=M.stuck):OpD X Z (zT op) o:=⟨by
 intro pins s O H x y v u Q I rx ry hE0
 refine hE0.elim λdx dy U G rdx rdy hr p=>?_
 by_cases c1:∃i j,dx= .int i/\dy= .int j
 · obtain⟨i,j,rfl,rfl⟩:=c1
   rw[h1]at p
   exact hi pins s O H x y v u Q I rx ry ⟨i,j,aF7 rdx,aF7 rdy,j7.ok p hr _ ofB⟩
 · by_cases c2:∃i j,dx= .str i/\dy= .str j
   · obtain⟨i,j,rfl,rfl⟩:=c2
     rw[h2]at p
     have e1:=aZ6 rdx
     have e2:=aZ6 rdy
     subst e1 e2
     obtain⟨t,rfl⟩:=rx
     obtain⟨t',rfl⟩:=ry
     exact hs i j t t' s _ _ ⟨.bl (fs i j),H,I,rfl,j7.ok p hr _ ofB⟩
   · rw[h3 dx dy (λi j z=>c1 ⟨i,j,z⟩) (λi j z=>c2 ⟨i,j,z⟩)]at p
     exact p.elim⟩
theorem eZ6:OpD X Z (zT .LtE) leD:=cE5 eW6 (λ_ _ _ _ _ _ _ q=>PySem.P.le_str q) (λ_ _=>rfl) (λ_ _=>rfl) λx y n1 n2=>by
 rcases x with _|_|_|_|_|_|_|_<;>rcases y with _|_|_|_|_|_|_|_<;>first
  |rfl
  |exact absurd ⟨rfl,rfl⟩ (n1 _ _)
  |exact absurd ⟨rfl,rfl⟩ (n2 _ _)
theorem eZ1:OpD X Z (zT .Gt) gtD:=cE5 fA5 (λ_ _ _ _ _ _ _ q=>PySem.P.gt_str q) (λ_ _=>rfl) (λ_ _=>rfl) λx y n1 n2=>by
 rcases x with _|_|_|_|_|_|_|_<;>rcases y with _|_|_|_|_|_|_|_<;>first
  |rfl
  |exact absurd ⟨rfl,rfl⟩ (n1 _ _)
  |exact absurd ⟨rfl,rfl⟩ (n2 _ _)
theorem eY1:OpD X Z (zT .GtE) geD:=cE5 eW1 (λ_ _ _ _ _ _ _ q=>PySem.P.ge_str q) (λ_ _=>rfl) (λ_ _=>rfl) λx y n1 n2=>by
 rcases x with _|_|_|_|_|_|_|_<;>rcases y with _|_|_|_|_|_|_|_<;>first
  |rfl
  |exact absurd ⟨rfl,rfl⟩ (n1 _ _)
  |exact absurd ⟨rfl,rfl⟩ (n2 _ _)
noncomputable def cQ8:D->Bool
 | .non=>true
 |_=>false
theorem cW4{c:Wc}{U:List Addr}{H:Hp}{d:D}{v:V}(r:j8 c U H d v):decide (v= .non)=cQ8 d:=by
 cases d with
 |non=>rw[dT0 r];rfl
 |tup l=>unfold j8 at r;obtain⟨a,_,rfl,_⟩:=r;rfl
 |ref l=>unfold j8 at r;obtain⟨a,_,rfl⟩:=r;rfl
 |fn l=>unfold j8 at r;obtain⟨a,_,rfl⟩:=r;rfl
 |_=>unfold j8 at r;subst r;rfl
def cE8:D->M D:=λx=>match x with
 | .int i=>pure (.int (-i))
 |_=>M.stuck
theorem eN1:UnD X Z (unaryOp .USub) cE8:=⟨by
 intro pins s O H x v Q I rx hE0
 refine hE0.elim λdx U G rdx hr p=>?_
 cases dx<;>first
  |exact p.elim
  |exact eT9 pins s O H x v Q I rx ⟨_,aF7 rdx,j7.ok p hr _ ofI⟩⟩
noncomputable instance (x:Str) (n:Int):Decidable (YE x n):=by unfold YE;infer_instance
def aZ7:D->D->M D:=λx y=>match x,y with
 | .int i,.int j=>if bW0 i j then pure (.int (i*j))else M.stuck
 | .str x,.int n=>if YE x n then pure (.str (Txt.mul x n))else M.stuck
 |_,_=>M.stuck
theorem cP9:OpR X (jS .Mult) (λx y H Q=>∃z n,x= .str z/\y= .int n/\YE z n/\Q (.str (Txt.mul z n)) H):=by
 intro pins s O H x y v u Q I rx ry h
 obtain⟨z,n,rfl,rfl,hk,q⟩:=h
 obtain⟨t,rfl⟩:=rx
 obtain⟨t',rfl⟩:=ry
 exact PySem.SB.mul hk λt' k=>⟨.str _,H,I.tok _,⟨_,rfl⟩,q⟩
theorem eU4:OpD X Z (jS .Mult) aZ7:=
 OpD.of (OpR.or eF7 cP9) λx y H Q hE0=>hE0.elim λdx dy U G rdx rdy hr p=>by
  rcases dx with _|_|_|_|_|_|_|_<;>rcases dy with _|_|_|_|_|_|_|_<;>first
   |exact p.elim
   |skip
  · unfold aZ7 at p
    dsimp only at p
    split at p
    ·rename_i hc;exact .inl ⟨_,_,aF7 rdx,aF7 rdy,hc,j7.ok p hr _ ofI⟩
    ·exact p.elim
  · unfold aZ7 at p
    dsimp only at p
    split at p
    ·rename_i hc;exact .inr ⟨_,_,aZ6 rdx,aF7 rdy,hc,j7.ok p hr _ ofS⟩
    ·exact p.elim
end
noncomputable def cT0(A:zF)(s:zh)(y x:zf)(b:Bool):Prop:=
 ∀(prog:zB) (w:zJ) (E:VSP) (Q:VSP),Q (.bool b) s->zp (zD prog w) A (richCompare .Lt y x) Q E s
inductive LtR(A:zF)(s:zh):List zf->List zf->Bool->Prop
 |nil:LtR A s [] [] false
 |nilc {y ys}:LtR A s [] (y::ys) true
 |cnil {x xs}:LtR A s (x::xs) [] false
 |eq {x y xs ys b}:yr A s x y true->LtR A s xs ys b->LtR A s (x::xs) (y::ys) b
 |ne {x y xs ys b}:yr A s x y false->cT0 A s x y b->LtR A s (x::xs) (y::ys) b
section
open PySem.SeqAt
open PySem.AutoSeq1 (wpAny_loadPart')
open PySem.MeetsSeq PySem.MeetsSeq2 PySem.MeetsSeq3
theorem cO3(l b:Addr)(items items2:Array zf)(n n2:Nat)(dd dd2:Option Addr)(sl sl2:Array (Option zf))(k:Bool):
 Meets (jY.«tuple.__lt__» ⟨[.ref l,.ref b], []⟩)
  (λA R s=>s.heap.get? l=some {cls:=.type "tuple",dict:=dd,data:=.seq items n,slots:=sl}/\s.heap.get? b=some {cls:=.type "tuple",dict:=dd2,data:=.seq items2 n2,slots:=sl2}/\
    LtR A.in1 s items.toList items2.toList k/\R (.ok (.ret (.bool k))) s):=
 .of_wp λprog w A R s h=>by
  obtain⟨hp,g,d,tk,os⟩:=s;obtain⟨hl,hb,hk,h⟩:=h
  have f2:=AutoSeq1.sub_tuple_tuple
  wp_walk using jk hl,jk hb,wpAny_forIn_list _ (λrest b s'=>b.1=none/\s'= ⟨hp,g,d,tk,os⟩/\∃(vs ws:List zf),rest=vs.zip ws/\
   vs.length+items2.size=ws.length+items.size/\LtR A.in1 ⟨hp,g,d,tk,os⟩ vs ws k) _
  case turn=>
   rintro⟨y,x⟩ rest b s' ⟨hb',rfl,vs,ws,hz,hlen,hR⟩
   cases hR with
   |nil=>exact dI3 hz
   |nilc=>exact dI3 hz
   |cnil=>exact dI3 hz
   |eq he hR'=>
     rw[xS]at hz
     injection hz with hyx hrest
     injection hyx with hy hx
     subst hy hx
     refine za (he prog w _ _ ?_)
     wp_walk
     simp only[jg]at hlen
     exact⟨rfl,rfl,_,_,hrest,by lia,hR'⟩
   |ne he hc=>
     rw[xS]at hz
     injection hz with hyx hrest
     injection hyx with hy hx
     subst hy hx
     refine za (he prog w _ _ ?_)
     have hri:=hc prog w
     wp_walk using hri
     exact⟨_,rfl,h⟩
  case fin=>
   rintro⟨b1,b2⟩ s' ⟨hb',rfl,vs,ws,hz,hlen,hR⟩
   simp only at hb'
   subst hb'
   have hv:k=decide (items.size<items2.size):=by
    cases hR with
    |nil=>simp only[yM]at hlen;exact(decide_eq_false (by lia)).symm
    |nilc=>simp only[yM,jg]at hlen;exact(decide_eq_true (by lia)).symm
    |cnil=>simp only[yM,jg]at hlen;exact(decide_eq_false (by lia)).symm
    |eq _ _=>rw[xS]at hz;exact cZ3 hz
    |ne _ _=>rw[xS]at hz;exact cZ3 hz
   rw[hv]at h
   wp_walk
   exact⟨_,rfl,by simpa [Builtin.Tuple.tupleCompareSizes]using h⟩
  case h=>
   exact⟨rfl,rfl,items.toList,items2.toList,rfl,by simp;lia,hk⟩
theorem dH2(l b:Addr)(items items2:Array zf)(n n2:Nat)(dd dd2:Option Addr)(sl sl2:Array (Option zf))(k:Bool):∀(vs ws:List zf) (i:Nat),items.toList.drop i=vs->items2.toList.drop i=ws->i<=items.size->i<=items2.size->
 Meets (jY.«list.__eq__.loop» ⟨[.ref l,.ref b,ym i,ym 0], []⟩)
  (λA R s=>s.heap.get? l=some {cls:=.type "list",dict:=dd,data:=.seq items n,slots:=sl}/\s.heap.get? b=some {cls:=.type "list",dict:=dd2,data:=.seq items2 n2,slots:=sl2}/\
    LtR A.in1 s vs ws k/\R (.ok (.ret (.bool k))) s):=by
 have dropn:∀(a:Array zf) (i:Nat),a.toList.drop i= []->i<=a.size->i=a.size:=λa i e hi=>by
  have:=List.drop_eq_nil_iff.mp e
  simp at this;lia
 have dropc:∀(a:Array zf) (i:Nat) (v:zf) (r:List zf),a.toList.drop i=v::r->i<a.size/\a[((i:Nat):Int).toNat]? =some v/\a.toList.drop (i+1)=r:=λa i v r e=>by
  have hlt:i<a.toList.length:=by
   rcases xa i a.toList.length with q|q
   ·exact q
   ·rw[List.drop_eq_nil_of_le q]at e;exact cZ3 e
  rw[Za hlt]at e
  injection e with e1 e2
  refine⟨by simpa using hlt,?_,e2⟩
  simp at hlt
  simp[hlt]
  simpa using e1
 intro vs
 induction vs with
 |nil=>
   intro ws i hv hw hi hi2 prog w A R s h
   obtain⟨hp,g,d,tk,os⟩:=s;obtain⟨hl,hb,he,h⟩:=h
   have e1:=dropn items i hv hi
   wp_walk using jk hl,jk hb
   have hi1:items[((i:Nat):Int).toNat]? =none:=by simp;lia
   rw[hi1]
   rcases ws with _|⟨y,ys⟩
   ·
     have e2:=dropn items2 i hw hi2
     cases he
     wp_walk using jk hl,jk hb
     show R (.ok (.ret (.bool (decide (items.size<items2.size))))) _
     rw[decide_eq_false (by lia)]
     exact h
   ·
     obtain⟨hlt,_,_⟩:=dropc items2 i y ys hw
     cases he
     wp_walk using jk hl,jk hb
     show R (.ok (.ret (.bool (decide (items.size<items2.size))))) _
     rw[decide_eq_true (by lia)]
     exact h
 |cons x xs ih=>
   intro ws i hv hw hi hi2 prog w A R s h
   obtain⟨hp,g,d,tk,os⟩:=s;obtain⟨hl,hb,he,h⟩:=h
   obtain⟨hlt,g1,d1⟩:=dropc items i x xs hv
   wp_walk using jk hl,jk hb
   rcases ws with _|⟨y,ys⟩
   ·
     have e2:=dropn items2 i hw hi2
     have hi2':items2[((i:Nat):Int).toNat]? =none:=by simp;lia
     rw[g1,hi2']
     cases he
     wp_walk using jk hl,jk hb
     show R (.ok (.ret (.bool (decide (items.size<items2.size))))) _
     rw[decide_eq_false (by lia)]
     exact h
   ·
     obtain⟨hlt2,g2,d2⟩:=dropc items2 i y ys hw
     have hc:((i:Int)+1)= ((i+1:Nat):Int):=by push_cast;rfl
     rw[g1,g2]
     cases he with
     |eq he he'=>
       refine za (he prog w _ _ ?_)
       wp_walk
       rw[hc]
       exact⟨ye plain_eq_loop _,jW entry_eq_loop (by
        rw[jA plain_eq_loop _]
        exact ih ys (i+1) d1 d2 (by lia) (by lia) prog w A R _ ⟨hl,hb,he',h⟩)⟩
     |ne he hcmp=>
       refine za (he prog w _ _ ?_)
       have hri:=hcmp prog w
       wp_walk using jk hl,jk hb
       rw[g1,g2]
       wp_walk using hri
       exact h
theorem dD3(l b:Addr)(items items2:Array zf)(n n2:Nat)(dd dd2:Option Addr)(sl sl2:Array (Option zf))(k:Bool):
 Meets (jY.«list.__lt__» ⟨[.ref l,.ref b], []⟩)
  (λA R s=>s.heap.get? l=some {cls:=.type "list",dict:=dd,data:=.seq items n,slots:=sl}/\s.heap.get? b=some {cls:=.type "list",dict:=dd2,data:=.seq items2 n2,slots:=sl2}/\
    LtR A.in1 s items.toList items2.toList k/\R (.ok (.ret (.bool k))) s):=by
 intro prog w A R s h
 obtain⟨hp,g,d,tk,os⟩:=s;obtain⟨hl,hb,he,h⟩:=h
 have f3:=AutoSeq1.sub_list_list
 wp_walk using jk hl,jk hb
 exact⟨ye plain_eq_loop _,jW entry_eq_loop (by
  rw[jA plain_eq_loop _]
  exact dH2 l b items items2 n n2 dd dd2 sl sl2 k items.toList items2.toList 0 rfl rfl (jR _) (jR _) prog w A R _ ⟨hl,hb,he,h⟩)⟩
end
noncomputable def ltS:D->D->Option Bool
 | .int a,.int b=>some (decide (a<b))
 | .str a,.str b=>some (decide (a.cps.toList<b.cps.toList))
 | .bl a,.bl b=>some (decide (b2i a<b2i b))
 |_,_=>none
noncomputable def ltL(eq lt:D->D->Option Bool):List D->List D->Option Bool
 |[], []=>some false
 |[],_::_=>some true
 |_::_, []=>some false
 |x::xs,y::ys=>match eq x y with
   |some true=>ltL eq lt xs ys
   |some false=>lt x y
   |none=>none
def ltN:Nat->DH->D->D->Option Bool
 |0,_,_,_=>none
 |n+1,G,x,y=>match S6 G x,S6 G y with
   |some (k1,a),some (k2,b)=>if k1=k2 then ltL (eqN n G) (ltN n G) a b else none
   |none,none=>ltS x y
   |_,_=>none
theorem fD7{n:Nat}{G:DH}{x y:D}:ltN (n+1) G x y=match S6 G x,S6 G y with
 |some (k1,a),some (k2,b)=>if k1=k2 then ltL (eqN n G) (ltN n G) a b else none
 |none,none=>ltS x y
 |_,_=>none:=rfl
section
variable{X:Cx}{Z:XC}{pins:PNS}{O:St}{H:Hp}{s:zh}{U:List Addr}{G:DH}
theorem eM1{A:zF}{dx dy:D}{x y:V}{v u:zf}{b:Bool}{c:Wc}(rx:j8 c U H dx x)(ry:j8 c U H dy y)(rv:J9 x v)(ru:J9 y u)(e:ltS dx dy=some b):cT0 A s v u b:=by
 intro prog w E Q hq
 rcases dx with _|_|_|_|_|_|_|_<;>rcases dy with _|_|_|_|_|_|_|_<;>first
  |(cases e;done)
  |skip
 · cases e
   unfold j8 at rx ry;subst rx ry;cases rv;cases ru
   exact(lt_bool hq:zp (zD prog w) A (zT .Lt _ _) Q E s)
 · cases e
   unfold j8 at rx ry;subst rx ry;obtain⟨t,rfl⟩:=rv;obtain⟨t',rfl⟩:=ru
   exact(lt_int hq:zp (zD prog w) A (zT .Lt _ _) Q E s)
 · cases e
   unfold j8 at rx ry;subst rx ry;obtain⟨t,rfl⟩:=rv;obtain⟨t',rfl⟩:=ru
   exact(lt_str hq:zp (zD prog w) A (zT .Lt _ _) Q E s)
theorem lt_at(I:Inv X pins O H s)(h:J0 (wc X) U G H):∀(n:Nat) (A:zF),A.units+n<xj->∀ {dx dy:D} {x y:V} {v u:zf} {b:Bool},j8 (wc X) U H dx x->j8 (wc X) U H dy y->J9 x v->J9 y u->ltN n G dx dy=some b->cT0 A s v u b
 |0,_,_,_,_,_,_,_,_,_,_,_,_,_,e=>by exact K1 e
 |n+1,A,hu,dx,dy,x,y,v,u,b,rx,ry,rv,ru,e=>by
   have hu0:A.units<xj:=by lia
   have hu1:A.in1.units+n<xj:=by show A.units+1+n<xj;lia
   rw[fD7]at e
   rcases hx:S6 G dx with _|p
   ·
     rw[hx]at e
     rcases hy:S6 G dy with _|p
     ·rw[hy]at e;exact eM1 rx ry rv ru e
     ·rw[hy]at e;exact K1 e
   ·
     obtain⟨k,l⟩:=p
     rw[hx]at e
     rcases hy:S6 G dy with _|p'
     ·rw[hy]at e;exact K1 e
     ·
       obtain⟨k',l'⟩:=p'
       rw[hy]at e
       dsimp only at e
       split at e
       case isFalse=>exact K1 e
       rename_i hk
       subst hk
       obtain⟨a,vs,its,rfl,rfl,rl,rr,sq,q⟩:=aK1 I h hx rx rv
       obtain⟨a',vs',its',rfl,rfl,rl',rr',sq',q'⟩:=aK1 I h hy ry ru
       have main:∀(l l':List D) (vs vs':List V) (its its':List zf),v9 (wc X) U H l vs->v9 (wc X) U H l' vs'->J2 vs its->J2 vs' its'->ltL (eqN n G) (ltN n G) l l'=some b->LtR A.in1 s its its' b:=by
        intro l
        induction l with
        |nil=>
          intro l' vs vs' its its' r r' q q' e
          cases r;cases q
          rcases l' with _|⟨_,_⟩
          ·cases r';cases q';cases e;exact .nil
          ·
            obtain⟨_,_,rfl,_,_⟩:=r'
            cases q'
            cases e
            exact .nilc
        |cons d ds ih=>
          intro l' vs vs' its its' r r' q q' e
          obtain⟨v0,vr,rfl,r0,rt⟩:=r
          cases q with
          |cons q0 qt=>
            rcases l' with _|⟨d',ds'⟩
            ·cases r';cases q';cases e;exact .cnil
            ·
              obtain⟨v1,vr',rfl,r1,rt'⟩:=r'
              cases q' with
              |cons q1 qt'=>
                unfold ltL at e
                rcases he:eqN n G d d' with _|b0
                ·rw[he]at e;exact K1 e
                ·
                  rw[he]at e
                  have hE:=(cU0 I h n A.in1 hu1 r0 r1 q0 q1 he).2.2
                  rcases b0 with _|_
                  ·exact .ne hE (lt_at I h n A.in1 hu1 r0 r1 q0 q1 e)
                  ·exact .eq hE (ih ds' vr vr' _ _ rt rt' qt qt' e)
       have hR:=main l l' vs vs' its its' rl rl' rr rr' e
       intro prog w E Q hq
       rcases k with _|_
       ·
         obtain⟨⟨cls,dd,data,sl⟩,ho,hc,m,hd⟩:=id sq
         obtain⟨⟨cls2,dd2,data2,sl2⟩,ho2,hc2,m2,hd2⟩:=id sq'
         simp only at hc hd hc2 hd2
         subst hc hd hc2 hd2
         exact JY (op:=.Lt) ⟨_,ho,rfl⟩ ⟨_,ho2,rfl⟩ PySem.F.slot_list_lt PySem.F.entry_list_lt (PySem.F.args_list_lt_2 _ _) (dD3 a a' its.toArray its'.toArray m m2 dd dd2 sl sl2 b)
          ⟨ho,ho2,hR,show Value.bool b≠Value.notImplemented/\Q (.bool b) s from⟨(λx=>nomatch x),hq⟩⟩ hu0
       ·
         obtain⟨⟨cls,dd,data,sl⟩,ho,hc,m,hd⟩:=id sq
         obtain⟨⟨cls2,dd2,data2,sl2⟩,ho2,hc2,m2,hd2⟩:=id sq'
         simp only at hc hd hc2 hd2
         subst hc hd hc2 hd2
         exact JY (op:=.Lt) ⟨_,ho,rfl⟩ ⟨_,ho2,rfl⟩ PySem.F.slot_tuple_lt PySem.F.entry_tuple_lt (PySem.F.args_tuple_lt_2 _ _) (cO3 a a' its.toArray its'.toArray m m2 dd dd2 sl sl2 b)
          ⟨ho,ho2,hR,show Value.bool b≠Value.notImplemented/\Q (.bool b) s from⟨(λx=>nomatch x),hq⟩⟩ hu0
def ltD:D->D->M D:=λx y G=>match ltN 40 G x y with
 |some b=>some (.ok (.bl b),G)
 |none=>none
theorem fD2(hu:X.A.units+64<xj):OpD X Z (zT .Lt) ltD:=⟨by
 intro pins s O H x y v u Q I rx ry hE0
 refine hE0.elim λdx dy U G rdx rdy hr p=>?_
 unfold ltD at p
 rcases e:ltN 40 G dx dy with _|b
 ·rw[e]at p;exact p.elim
 ·
   rw[e]at p
   exact lt_at I hr 40 X.A (by lia) rdx rdy rx ry e X.prog X.w X.xe _ ⟨.bl b,H,I,rfl,j7.ok p hr _ ofB⟩⟩
end
noncomputable def W9:D->Bool
 | .non=>true
 | .bl _=>true
 | .int _=>true
 | .str _=>true
 |_=>false
noncomputable def toV:D->V
 | .bl b=>.bl b
 | .int i=>.int i
 | .str x=>.str x
 |_=>.non
noncomputable def bU2:D->Option Key
 | .int i=>some (.inl i)
 | .str x=>some (.inr x)
 |_=>none
noncomputable def R3(l:List (Key×D))(k:Key):Option D:=(l.find? λkv=>decide (kv.1=k)).map (·.2)
def inB(x y:D)(G:DH):Option Bool:=match y with
 | .str j=>match x with
   | .str i=>some (!(xP j i 0 j.length 1).isEmpty)
   |_=>none
 | .ref r=>match G[r]? with
   |some (.dct l)=>(bU2 x).map λk=>(R3 l k).isSome
   |some (.rod _)=>none
   |some (.lst l)=>if W9 x&&l.all W9 then some (inV (toV x) (l.map toV))else none
   |some (.rol l)=>if W9 x&&l.all W9 then some (inV (toV x) (l.map toV))else none
   |none=>none
 | .tup l=>if W9 x&&l.all W9 then some (inV (toV x) (l.map toV))else none
 |_=>none
def inD:D->D->M D:=λx y G=>match inB x y G with
 |some b=>some (.ok (.bl b),G)
 |none=>none
def bB7:D->D->M D:=λx y G=>match inB x y G with
 |some b=>some (.ok (.bl (!b)),G)
 |none=>none
section
variable{X:Cx}{Z:XC}{c:Wc}{U:List Addr}{H:Hp}{G:DH}
theorem cI9{d:D}{v:V}(f:W9 d=true)(r:j8 c U H d v):v=toV d/\aZ9 v=true:=by
 cases d<;>first
  |exact absurd (show false=true from f) zX
  |(unfold j8 at r;subst r;exact⟨rfl,rfl⟩)
theorem bY6:∀ {l:List D} {vs:List V},l.all W9=true->v9 c U H l vs->vs=l.map toV/\vs.all aZ9=true
 |[],_,_,r=>by cases r;exact⟨rfl,rfl⟩
 |d::ds,_,f,r=>by
   obtain⟨v,t,rfl,q,rt⟩:=r
   rw[ya,jn]at f
   obtain⟨e1,e2⟩:=cI9 f.1 q
   obtain⟨e3,e4⟩:=bY6 f.2 rt
   refine⟨by rw[zG,<-e1,<-e3],?_⟩
   rw[ya,e2,e4];rfl
theorem cC2{d:D}{k:Key}{v:V}(e:bU2 d=some k)(r:j8 c U H d v):v=kV k:=by
 cases d<;>first
  |(cases e;unfold j8 at r;exact r)
  |exact K1 e
theorem aY9{k:Key}:∀ {l:List (Key×D)} {kvs:List (Key×V)},aD0 c U H l kvs->match R3 l k with|some d=>∃v,aW0 kvs k=some v/\j8 c U H d v|none=>aW0 kvs k=none
 |[],_,r=>by cases r;exact rfl
 |(k',d)::t,_,r=>by
  obtain⟨v,kt,rfl,q,rt⟩:=r
  by_cases e:k'=k
  · have h1:R3 ((k',d)::t) k=some d:=by unfold R3;simp[e]
    rw[h1]
    exact⟨v,bF9 e,q⟩
  · have h1:R3 ((k',d)::t) k=R3 t k:=by unfold R3;simp[e]
    rw[h1]
    have ih:=aY9 (k:=k) rt
    rw[bH4 e]
    exact ih
theorem cO7{k:Key}{l:List (Key×D)}{kvs:List (Key×V)}(r:aD0 c U H l kvs):(R3 l k).isSome= (aW0 kvs k).isSome:=by
 have q:=aY9 (k:=k) r
 rcases e:R3 l k with _|d
 ·rw[e]at q;rw[q];rfl
 ·rw[e]at q;obtain⟨v,q,_⟩:=q;rw[q];rfl
theorem eE6(hu:X.A.units+64<xj){pins:PNS}{O:St}{s:zh}{x y:V}{v u:zf}{dx dy:D}{b:Bool}{Q:VK}(I:Inv X pins O H s)(hr:J0 (wc X) U G H)(rdx:j8 (wc X) U H dx x)(rdy:j8 (wc X) U H dy y)(rx:J9 x v)(ry:J9 y u)
 (e:inB dx dy G=some b):
 (Q (.bl b) H->zp (zD X.prog X.w) X.A (zT .In v u) (EP X pins O Q) X.xe s)/\(Q (.bl (!b)) H->zp (zD X.prog X.w) X.A (zT .NotIn v u) (EP X pins O Q) X.xe s):=by
 have seq:∀(p:Addr) (l:List D) (vs:List V),y= .ref p->(SqL X.K H p vs\/SqT X.K H p vs)->v9 (wc X) U H l vs->(if (W9 dx&&l.all W9)=true then some (inV (toV dx) (l.map toV))else none)=some b->
  (Q (.bl b) H->zp (zD X.prog X.w) X.A (zT .In v u) (EP X pins O Q) X.xe s)/\(Q (.bl (!b)) H->zp (zD X.prog X.w) X.A (zT .NotIn v u) (EP X pins O Q) X.xe s):=by
  intro p l vs hy hq rl e
  split at e
  · rename_i hf
    rw[jn]at hf
    cases e
    obtain⟨e1,e2⟩:=cI9 hf.1 rdx
    obtain⟨e3,e4⟩:=bY6 hf.2 rl
    rw[<-e1,<-e3]
    exact⟨λq=>dC9 pins s O H x y v u Q I rx ry ⟨p,vs,hy,hq,e2,e4,q⟩,λq=>cG8 pins s O H x y v u Q I rx ry ⟨p,vs,hy,hq,e2,e4,q⟩⟩
  ·exact K1 e
 rcases dy with _|_|_|j|l|i|_|_<;>try (cases e;done)
 ·
   rcases dx with _|_|_|i|_|_|_|_<;>try (cases e;done)
   ·
     cases e
     have e1:=aZ6 rdx
     have e2:=aZ6 rdy
     exact⟨λq=>dE9 pins s O H x y v u Q I rx ry ⟨i,j,e1,e2,q⟩,λq=>cC0 pins s O H x y v u Q I rx ry ⟨i,j,e1,e2,q⟩⟩
 ·
   unfold j8 at rdy
   obtain⟨a,vs,hy,q,rl⟩:=rdy
   exact seq a l vs hy (.inr q) rl e
 ·
   unfold j8 at rdy
   obtain⟨a,m,hy⟩:=rdy
   rcases g:G[i]? with _|o
   ·unfold inB at e;simp only[g]at e;exact K1 e
   ·
     have ro:=hr.obj i o a g m
     rcases o with l|l|l|l
     ·
       obtain⟨vs,q,rl⟩:=ro
       unfold inB at e;simp only[g]at e
       exact seq a l vs hy (.inl (SqL.of q)) rl e
     ·
       obtain⟨vs,q,rl⟩:=ro
       unfold inB at e;simp only[g]at e
       exact seq a l vs hy (.inl q.sq) rl e
     ·
       obtain⟨kvs,q,rk⟩:=ro
       unfold inB at e;simp only[g]at e
       rcases hk:bU2 dx with _|k
       ·rw[hk]at e;exact K1 e
       ·
         rw[hk]at e
         cases e
         have ek:=cC2 hk rdx
         have dg:cH5 H a x (aW0 kvs k):=by rw[ek];exact cH5.k q
         subst hy
         cases ry
         dsimp only
         rw[cO7 rk]
         exact⟨λq=>fG6 (by lia) I dg rx λs' I'=>⟨.bl _,H,I',rfl,q⟩,λq=>eA7 (by lia) I dg rx λs' I'=>⟨.bl _,H,I',rfl,q⟩⟩
     ·unfold inB at e;simp only[g]at e;exact K1 e
theorem eV7(hu:X.A.units+64<xj):OpD X Z (zT .In) inD:=⟨by
 intro pins s O H x y v u Q I rx ry hE0
 refine hE0.elim λdx dy U G rdx rdy hr p=>?_
 unfold inD at p
 rcases e:inB dx dy G with _|b
 ·rw[e]at p;exact p.elim
 ·rw[e]at p;exact(eE6 hu I hr rdx rdy rx ry e).1 (j7.ok p hr _ ofB)⟩
theorem dS1(hu:X.A.units+64<xj):OpD X Z (zT .NotIn) bB7:=⟨by
 intro pins s O H x y v u Q I rx ry hE0
 refine hE0.elim λdx dy U G rdx rdy hr p=>?_
 unfold bB7 at p
 rcases e:inB dx dy G with _|b
 ·rw[e]at p;exact p.elim
 ·rw[e]at p;exact(eE6 hu I hr rdx rdy rx ry e).2 (j7.ok p hr _ ofB)⟩
inductive Ty where
 |int|bool|str|tuple|list|dict
 deriving DecidableEq
noncomputable def Ty.name:Ty->String
 | .int=> "int"| .bool=> "bool"| .str=> "str"| .tuple=> "tuple"| .list=> "list"| .dict=> "dict"
noncomputable def Ty.of(n:String):Option Ty:=if n= "int" then some .int else if n= "bool" then some .bool else if n= "str" then some .str else if n= "tuple" then some .tuple else if n= "list" then some .list else if n= "dict" then some .dict else none
theorem Ty.of_name{n:String}{T:Ty}(h:Ty.of n=some T):n=T.name:=by
 unfold Ty.of at h
 split at h
 ·rename_i e;cases h;exact e
 split at h
 ·rename_i e;cases h;exact e
 split at h
 ·rename_i e;cases h;exact e
 split at h
 ·rename_i e;cases h;exact e
 split at h
 ·rename_i e;cases h;exact e
 split at h
 ·rename_i e;cases h;exact e
 ·exact K1 h
inductive Kd where
 |non|bool|int|str|tuple|list|dict
noncomputable def Kd.is:Kd->Ty->Bool
 | .bool,.int=>true
 | .bool,.bool=>true
 | .int,.int=>true
 | .str,.str=>true
 | .tuple,.tuple=>true
 | .list,.list=>true
 | .dict,.dict=>true
 |_,_=>false
def Kd.name:Kd->String
 | .non=> "NoneType"| .bool=> "bool"| .int=> "int"| .str=> "str"| .tuple=> "tuple"| .list=> "list"| .dict=> "dict"
noncomputable def bH0(G:DH):D->Option Kd
 | .non=>some .non
 | .bl _=>some .bool
 | .int _=>some .int
 | .str _=>some .str
 | .tup _=>some .tuple
 | .ref i=>match G[i]? with
   |some (.lst _)=>some .list
   |some (.rol _)=>some .list
   |some (.dct _)=>some .dict
   |some (.rod _)=>some .dict
   |none=>none
 |_=>none
def bR6:List D->Option (List Ty)
 |[]=>some []
 | .ty n::r=>match Ty.of n,bR6 r with
   |some T,some Ts=>some (T::Ts)
   |_,_=>none
 |_=>none
def v7:List D->M D:=λds G=>match ds with
 |[d,.ty n]=>match bH0 G d,Ty.of n with
   |some k,some T=>some (.ok (.bl (k.is T)),G)
   |_,_=>none
 |[d,.tup l]=>match bH0 G d,bR6 l with
   |some k,some Ts=>some (.ok (.bl (Ts.any k.is)),G)
   |_,_=>none
 |_=>none
theorem dZ5(K:zj)(k:Kd)(T:Ty):PySem.W.kitOne K (.type k.name) (.type T.name)=some (k.is T):=by
 cases k<;>cases T<;>rfl
theorem dM3{A:zF}{E:VSP}{pins:PNS}{O:St}{s:zh}{d:D}{x:V}{v:zf}{k:Kd}(I:Inv X pins O H s)(hr:J0 (wc X) U G H)(r:j8 (wc X) U H d x)(rv:J9 x v)(e:bH0 G d=some k):
 ∃HH:Heap->Prop,PySem.W.KitX X.K v (.type k.name) HH/\HH s.heap/\v≠ .builtin "__main__.__loader__#opaque":=by
 rcases d with _|b|b|b|l|i|_|_<;>try (cases e;done)
 ·cases e;unfold j8 at r;subst r;cases rv;exact⟨_,PySem.W.kitx_none,True.intro,λz=>nomatch z⟩
 ·cases e;unfold j8 at r;subst r;cases rv;exact⟨_,PySem.W.kitx_bool,True.intro,λz=>nomatch z⟩
 ·cases e;unfold j8 at r;subst r;obtain⟨t,rfl⟩:=rv;exact⟨_,PySem.W.kitx_int,True.intro,λz=>nomatch z⟩
 ·cases e;unfold j8 at r;subst r;obtain⟨t,rfl⟩:=rv;exact⟨_,PySem.W.kitx_str,True.intro,λz=>nomatch z⟩
 ·
   cases e
   unfold j8 at r
   obtain⟨a,vs,rfl,q,_⟩:=r
   cases rv
   obtain⟨its,_,⟨o,h1,h2,_⟩,_⟩:=I.tuple q
   exact⟨_,PySem.W.kitx_tuple,⟨o,h1,h2⟩,λz=>nomatch z⟩
 ·
   unfold j8 at r
   obtain⟨a,m,rfl⟩:=r
   cases rv
   unfold bH0 at e
   rcases g:G[i]? with _|o
   ·simp only[g]at e;exact K1 e
   ·
     have ro:=hr.obj i o a g m
     simp only[g]at e
     rcases o with l|l|l|l
     ·
       cases e
       obtain⟨vs,q,_⟩:=ro
       obtain⟨its,_,⟨o,n,h1,h2,_⟩,_⟩:=I.list (SqL.of q)
       exact⟨_,Jm,⟨o,h1,h2⟩,λz=>nomatch z⟩
     ·
       cases e
       obtain⟨vs,q,_⟩:=ro
       obtain⟨its,_,⟨o,n,h1,h2,_⟩,_⟩:=I.list q.sq
       exact⟨_,Jm,⟨o,h1,h2⟩,λz=>nomatch z⟩
     ·
       cases e
       obtain⟨kvs,q,_⟩:=ro
       obtain⟨_,_,vs,_,o,es,ep,h1,h2,_⟩:=(show X6 X.prog X.w H s.heap a (.dK kvs)from I.hok a _ q)
       exact⟨_,Jn,⟨o,h1,h2.1⟩,λz=>nomatch z⟩
     ·
       cases e
       obtain⟨kvs,ob,q,_⟩:=ro
       obtain⟨_,_,_,vs,_,o,es,ep,h1,h2,_⟩:=(show X6 X.prog X.w H s.heap a (.frz ob (.dK kvs))from I.hok a _ q)
       exact⟨_,Jn,⟨o,h1,h2.1⟩,λz=>nomatch z⟩
theorem cW2:∀ {l:List D} {vs:List V} {us:List zf} {Ts:List Ty},bR6 l=some Ts->v9 c U H l vs->J2 vs us->us=Ts.map λT=>.type T.name
 |[],_,_,_,e,r,q=>by cases e;cases r;cases q;rfl
 |d::ds,_,_,Ts,e,r,q=>by
   obtain⟨v,t,rfl,r0,rt⟩:=r
   cases q with
   |cons q0 qt=>
     rcases d with _|_|_|_|_|_|_|n<;>try (cases e;done)
     ·
       replace e:(match Ty.of n,bR6 ds with|some T,some Ts=>some (T::Ts)|_,_=>none)=some Ts:=e
       rcases h1:Ty.of n with _|T
       ·rw[h1]at e;exact K1 e
       ·
         rcases h2:bR6 ds with _|Ts'
         ·rw[h1,h2]at e;exact K1 e
         ·
           rw[h1,h2]at e
           cases e
           unfold j8 at r0
           subst r0
           rw[cW2 h2 rt qt,zG,show _=Value.type n from q0,Ty.of_name h1]
theorem cU4(K:zj)(k:Kd):∀Ts:List Ty,PySem.W.kitAny K (.type k.name) (Ts.map λT=>.type T.name)=some (Ts.any k.is)
 |[]=>rfl
 |T::Ts=>by
   have ih:=cU4 K k Ts
   cases k<;>cases T<;>first
    |rfl
    |exact ih
theorem dF8:Z3 X Z (.builtin "isinstance") v7:=⟨by
 intro pins s O H xs us Q I r hE0
 obtain⟨ds,U,G,rl,hr,p⟩:=hE0
 rcases ds with _|⟨d,_|⟨_|_|_|_|l|_|_|n,_|⟨_,_⟩⟩⟩<;>try exact p.elim
 all_goals (delta v7 at p;dsimp only at p)
 · obtain⟨v,t,rfl,r0,v1,t1,rfl,r1,e⟩:=rl
   cases e
   obtain⟨u,u',rfl,ru,ru'⟩:=cM0 r
   unfold j8 at r1
   obtain⟨a,vs,rfl,q,rll⟩:=r1
   cases ru'
   rcases hk:bH0 G d with _|k
   ·rw[hk]at p;exact p.elim
   ·
     rcases hT:bR6 l with _|Ts
     ·rw[hk,hT]at p;exact p.elim
     ·
       rw[hk,hT]at p
       obtain⟨HH,kx,hh,hne⟩:=dM3 (A:=X.A) (E:=X.xe) I hr r0 ru hk
       obtain⟨its,rr,⟨⟨cls,dd,data,sl⟩,h1,h2,n,h3⟩,_⟩:=I.tuple q
       simp only at h2 h3
       subst h2 h3
       exact PySem.W.kia_tup kx I.kIn hh h1 (by rw[cW2 hT rll rr];exact cU4 X.K k Ts) hne λtk=>⟨.bl _,H,I.tok tk,rfl,j7.ok p hr _ ofB⟩
 · obtain⟨v,t,rfl,r0,v1,t1,rfl,r1,e⟩:=rl
   cases e
   obtain⟨u,u',rfl,ru,ru'⟩:=cM0 r
   unfold j8 at r1
   subst r1
   cases ru'
   rcases hk:bH0 G d with _|k
   ·rw[hk]at p;exact p.elim
   ·
     rcases hT:Ty.of n with _|T
     ·rw[hk,hT]at p;exact p.elim
     ·
       rw[hk,hT]at p
       rw[Ty.of_name hT]
       obtain⟨HH,kx,hh,hne⟩:=dM3 (A:=X.A) (E:=X.xe) I hr r0 ru hk
       exact PySem.W.kia_one kx I.kIn hh (dZ5 X.K k T) hne λtk=>⟨.bl _,H,I.tok tk,rfl,j7.ok p hr _ ofB⟩⟩
end
theorem cX0{c:Wc}{U:List Addr}{H:Hp}{l:List D}{vs:List V}{i:Int}{d:D}(r:v9 c U H l vs)(e:atI l i=some d):∃v,atI vs i=some v/\j8 c U H d v:=by
 unfold atI at e ⊢
 rw[<-r.length]
 cases h:ixN l.length i with
 |none=>rw[h]at e;cases e
 |some j=>
   rw[h]at e
   obtain⟨v,h1,h2⟩:=r.get e
   exact⟨v,h1,h2⟩
def ixD:D->D->M D:=λx y=>match x,y with
 | .tup l,.int i=>aJ6 (atI l i)
 | .str z,.int i=>if z.length<=zk then do
    let c <-aJ6 (atI z.cps.toList i)
    pure (.str ⟨#[c]⟩)
   else M.stuck
 | .ref r,.int i=>do
   let l <-S7 r >>= listOf
   aJ6 (atI l i)
 |_,_=>M.stuck
section
variable{X:Cx}{Z:XC}{a b e:Expr}{fa fb:Fe}{pos:Pos}
def IxD(X:Cx)(Z:XC)(o:D->D->M D):Prop:=IxR X (bH9 (wc X) Z o)
theorem dO1{o:D->D->M D}(ho:IxD X Z o)(ha:DE X Z a fa)(hb:DE X Z b fb)(hs:bN9 b):DE X Z (.Subscript a b pos) (d9 o fa fb):=DE.of (eX1 ho ha.h hb.h hs) bG3
theorem bR0{c:Wc}{U:List Addr}{H:Hp}{G:DH}{r:Option D}{K:D->List Addr->DH->Hp->Prop}(h:J0 c U G H)(p:j7 c Z U H (aJ6 r G) K):∃d,r=some d/\K d U G H:=by
 cases r with
 |none=>exact p.elim
 |some d=>exact⟨d,rfl,j7.ok p h⟩
theorem eF0:IxD X Z ixD:=IxR.mono (eD5.or (ix_tup.or ix_str)) λx y H Q hE0=>hE0.elim λdx dy U G rx ry hr p=>by
 rcases dx with _|_|_|_|_|_|_|_<;>rcases dy with _|_|_|_|_|_|_|_<;>first
  |exact p.elim
  |skip
 · rename_i z i
   refine .inr (.inr ?_)
   unfold ixD at p
   dsimp only at p
   split at p
   · rename_i hz
     obtain⟨c,ec,p2⟩:=aE2 p
     exact⟨z,i,c,aZ6 rx,aF7 ry,hz,ec,j7.ok p2 hr _ ofS⟩
   ·exact p.elim
 · rename_i l i
   refine .inr (.inl ?_)
   unfold j8 at rx
   obtain⟨a,vs,rfl,q,rl⟩:=rx
   obtain⟨d,ed,k⟩:=bR0 hr p
   obtain⟨v,ev,rv⟩:=cX0 rl ed
   exact⟨a,vs,i,v,rfl,aF7 ry,q,ev,k v rv⟩
 · rename_i r i
   refine .inl ?_
   obtain⟨l,a,vs,rfl,rl,p2,hq⟩:=bJ2 (d:=.ref r) (f:=λl=>aJ6 (atI l i)) hr rx p
   obtain⟨d,ed,k⟩:=bR0 hr p2
   obtain⟨v,ev,rv⟩:=cX0 rl ed
   rcases hq with⟨z,_⟩|⟨_,_,_,⟨_,q⟩|⟨_,q⟩⟩
   ·cases z
   ·exact⟨a,vs,i,v,rfl,aF7 ry,SqL.of q,ev,k v rv⟩
   ·exact⟨a,vs,i,v,rfl,aF7 ry,q.sq,ev,k v rv⟩
theorem eV4(ha:DE X Z a fa)(hb:DE X Z b fb)(hs:bN9 b):DE X Z (.Subscript a b pos) (d9 ixD fa fb):=dO1 eF0 ha hb hs
def cutD(xs:List D)(lo hi:Option Int):List D:=(xs.drop (HT.sIx xs.length 0 lo)).take (HT.sIx xs.length xs.length hi-HT.sIx xs.length 0 lo)
abbrev Fo:=DSt->M (Option Int)
def Z4:Fo:=λ_=>pure none
def aE1(f:Fe):Fo:=λO=>do
 match <-f O with
 | .int i=>pure (some i)
 |_=>M.stuck
def cU3(c:Wc)(Z:XC)(f:Fo):TO:=λO H Q=>∃Z8 U G,M9 c U H Z8 O/\J0 c U G H/\j7 c Z U H (f Z8 G) λo _ _ H'=>Q o H'
theorem cU3.elim{c:Wc}{Z:XC}{P:Prop}{f:Fo}{O:St}{H:Hp}{Q:Option Int->Hp->Prop}(h:cU3 c Z f O H Q)(k:∀Z8 U G,M9 c U H Z8 O->J0 c U G H->j7 c Z U H (f Z8 G) (λo _ _ H'=>Q o H')->P):P:=by
 obtain⟨e0,e1,e2,e3,e4,e5⟩:=h
 exact k e0 e1 e2 e3 e4 e5
structure DOp(X:Cx)(Z:XC)(e:Option Expr)(f:Fo):Prop where
 h:PO X e (cU3 (wc X) Z f)
theorem PO.mono{e:Option Expr}{t t':TO}(h:PO X e t)(k:∀ O H Q,t' O H Q->t O H Q):PO X e t':=λpins s O H Q I q=>h pins s O H Q I (k O H Q q)
theorem DOp.of{e:Option Expr}{f:Fo}{t:TO}(h:PO X e t)(k:∀ O H Q,cU3 (wc X) Z f O H Q->t O H Q):DOp X Z e f:=⟨PO.mono h k⟩
theorem eD7:DOp X Z none Z4:=DOp.of dX1 λO H Q hE0=>hE0.elim λZ8 U G s h p=>j7.ok p h
theorem eA9(h:DE X Z e fa):DOp X Z (some e) (aE1 fa):=DOp.of (eC6 h.h) λO H Q hE0=>hE0.elim λZ8 U G s h p=>⟨Z8,U,G,s,h,(j7.bind p).mono λd X1 G1 H1 x1 h1 p1 v rv=>by
 cases d with
 |int i=>exact⟨i,aF7 rv,j7.ok p1 h1⟩
 |_=>exact p1.elim⟩
def slD:D->Option Int->Option Int->M D:=λx lo hi=>match x with
 | .tup l=>pure (.tup (cutD l lo hi))
 | .ref r=>do
   let l <-S7 r >>= listOf
   R0 (.lst (cutD l lo hi))
 |_=>M.stuck
def SlD(X:Cx)(Z:XC)(o:D->Option Int->Option Int->M D):Prop:=
 SlR X λx lo hi H Q=>∃dx U G,j8 (wc X) U H dx x/\J0 (wc X) U G H/\j7 (wc X) Z U H (o dx lo hi G) λd X9 _ H'=>∀v,j8 (wc X) X9 H' d v->Q v H'
theorem SlR.mono{r r':V->Option Int->Option Int->Hp->VK->Prop}(h:SlR X r)(k:∀x lo hi H Q,r' x lo hi H Q->r x lo hi H Q):SlR X r':=λpins s O H x v vl vu lo hi sl Q I rx hs pl pu q=>h pins s O H x v vl vu lo hi sl Q I rx hs pl pu (k x lo hi H Q q)
theorem aZ5{prog:zB}{w:zJ}{A:zF}{E:VSP}{s:zh}{t sl:Addr}{items:Array zf}{vl vu:zf}{lo hi:Option Int}{Q:VSP}(ht:ZU s.heap t items)(hs:s.heap.IsSliceOf sl vl vu .none)(pl:IsPart vl lo)(pu:IsPart vu hi)
 (hw:HT.sIx items.size 0 lo=0/\HT.sIx items.size items.size hi=items.size) (h:Q (.ref t) s):zp (zD prog w) A (Xc (.ref t) (.ref sl)) Q E s:=by
 obtain⟨os,hos,hcs,hds⟩:=id hs
 have hTs:s.TypeIs (.ref sl) "slice":=⟨os,hos,hcs⟩
 unfold Xc
 try with_reducible refine jz ?_
 first|refine za (zi ?_)|skip
 refine za (wpAny_sequenceKey ht.typeIs (by decide) ?_)
 refine za (zS (name:=je "__getitem__") ht.typeIs jq
  (zV jq ht.typeIs entry_tuple_getitem ?_ (args_tuple_getitem _ _)))
 show zp _ _ (ZZ (.ref t) >>= _) _ _ s
 refine za (tupleItemsOf_ ht ?_)
 refine za (yP hTs ?_)
 rw[if_pos (by decide)]
 refine za (HT.sliceApplied_gen hs pl pu ?_)
 have hyes:(((HT.sIx items.size 0 lo:Nat):Int)==0&&(1:Int)==1&&(HT.sIx items.size items.size hi-HT.sIx items.size 0 lo)==items.size)=true:=by
  rw[hw.1,hw.2];simp
 show zp _ _ (if (((HT.sIx items.size 0 lo:Nat):Int)==0&&(1:Int)==1&&(HT.sIx items.size items.size hi-HT.sIx items.size 0 lo)==items.size)=true then _ else _) _ _ s
 rw[if_pos hyes]
 unfold Builtin.Tuple.tupleIsExact
 refine za (za (yP ht.typeIs (zi ?_)))
 rw[if_pos (by decide)]
 exact za (yB (zi ⟨_,rfl,zi h⟩))
def fH7(K:zj):V->Option Int->Option Int->Hp->VK->Prop:=λx lo hi H Q=>∃a xs,x= .ref a/\SqT K H a xs/\(HT.sIx xs.length 0 lo=0/\HT.sIx xs.length xs.length hi=xs.length)/\Q (.ref a) H
theorem eB9:SlR X (fH7 X.K):=by
 intro pins s O H x v vl vu lo hi sl Q I rx hs pl pu h
 obtain⟨a,xs,rfl,hx,hw,q⟩:=h
 cases rx
 obtain⟨its,r,ht,hz⟩:=I.tuple hx
 have hlen:its.toArray.size=xs.length:=by rw[zq];exact r.length.symm
 exact⟨"tuple",_,jq.lookup,ht.typeIs,aZ5 ht hs pl pu (by rw[hlen];exact hw) ⟨.ref a,H,I,rfl,q⟩⟩
theorem cD9{c:Wc}{U:List Addr}{H:Hp}{l:List D}{vs:List V}(r:v9 c U H l vs)(lo hi:Option Int):v9 c U H (cutD l lo hi) (bW5 vs lo hi):=by
 unfold cutD bW5
 rw[r.length]
 exact(r.drop _).take _
theorem eZ8:SlD X Z slD:=SlR.mono (sl_tup.or (eB9.or eD4)) λx lo hi H Q ⟨dx,U,G,rx,hr,p⟩=>by
 rcases dx with _|_|_|_|l|r|_|_<;>try (exact p.elim;done)
 ·
   unfold j8 at rx
   obtain⟨a,vs,rfl,q,rl⟩:=rx
   by_cases hw:HT.sIx vs.length 0 lo=0/\HT.sIx vs.length vs.length hi=vs.length
   · refine .inr (.inl ⟨a,vs,rfl,q,hw,bI2 hr q ?_ p⟩)
     have e:bW5 vs lo hi=vs:=by unfold bW5;rw[hw.1,hw.2];simp
     have:=cD9 rl lo hi
     rw[e]at this
     exact this
   ·exact .inl ⟨a,vs,rfl,q,hw,λp' hp=>bG7 hr (cD9 rl lo hi) p p' hp⟩
 ·
   obtain⟨l,a,vs,rfl,rl,p2,hq⟩:=bJ2 (d:=.ref r) (f:=λl=>R0 (.lst (cutD l lo hi))) hr rx p
   have hs:SqL (wc X).K H a vs:=by
    rcases hq with⟨z,_⟩|⟨_,_,_,⟨_,q⟩|⟨_,q⟩⟩
    ·cases z
    ·exact SqL.of q
    ·exact q.sq
   exact .inr (.inr ⟨a,vs,rfl,hs,λp' hp=>aD1 hr (cD9 rl lo hi) p2 p' hp⟩)
variable{lo hi:Option Expr}{fl fh:Fo}{p2:Pos}
end
noncomputable def bB9(r:Nat)(o:DO):M Unit:=λG=>some (.ok (),G.set r o)
noncomputable def aU9(l:List (Key×D))(k:Key)(d:D):List (Key×D):=if l.any (λkv=>decide (kv.1=k))then l.map (λkv=>if kv.1=k then (kv.1,d)else kv)else l++[(k,d)]
def cS5:D->D->D->M Unit:=λo i d=>match o with
 | .ref r=>do
   match <-S7 r with
   | .lst l=>match i with
     | .int k=>match ixN l.length k with
       |some j=>bB9 r (.lst (l.set j d))
       |none=>M.stuck
     |_=>M.stuck
   | .dct l=>match bU2 i with
     |some k=>if l.length<zk then bB9 r (.dct (aU9 l k d))else M.stuck
     |none=>M.stuck
   | .rol _=>M.stuck
   | .rod _=>M.stuck
 |_=>M.stuck
def dS3(fo fi:Fe):Fg:=λd O=>do
 let o <-fo O
 let i <-fi O
 let _ <-cS5 o i d
 pure O
section
variable{X:Cx}{Z:XC}{c:Wc}{U:List Addr}{H:Hp}{G:DH}
theorem cI7{k:Key}{d:D}{v:V}(rv:j8 c U H d v):∀ {l:List (Key×D)} {kvs:List (Key×V)},aD0 c U H l kvs->aD0 c U H (aU9 l k d) (aS9 kvs k v):=by
 have any_eq:∀ {l:List (Key×D)} {kvs:List (Key×V)},aD0 c U H l kvs->(l.any λkv=>decide (kv.1=k))= (kvs.any λkv=>decide (kv.1=k)):=by
  intro l
  induction l with
  |nil=>intro kvs r;cases r;rfl
  |cons p t ih=>
    intro kvs r
    obtain⟨v',kt,rfl,_,rt⟩:=r
    rw[ju,ju,ih rt]
 have map_eq:∀ {l:List (Key×D)} {kvs:List (Key×V)},aD0 c U H l kvs->aD0 c U H (l.map λkv=>if kv.1=k then (kv.1,d)else kv) (kvs.map λkv=>if kv.1=k then (kv.1,v)else kv):=by
  intro l
  induction l with
  |nil=>intro kvs r;cases r;rfl
  |cons p t ih=>
    intro kvs r
    obtain⟨k',d'⟩:=p
    obtain⟨v',kt,rfl,q,rt⟩:=r
    rw[zG,zG]
    by_cases e:k'=k
    · simp only[e,if_true]
      exact⟨v,_,rfl,rv,ih rt⟩
    · simp only[e,if_false]
      exact⟨v',_,rfl,q,ih rt⟩
 have app_eq:∀ {l:List (Key×D)} {kvs:List (Key×V)},aD0 c U H l kvs->aD0 c U H (l++[(k,d)]) (kvs++[(k,v)]):=by
  intro l
  induction l with
  |nil=>intro kvs r;cases r;exact⟨v, [],rfl,rv,rfl⟩
  |cons p t ih=>
    intro kvs r
    obtain⟨v',kt,rfl,q,rt⟩:=r
    exact⟨v',_,rfl,q,ih rt⟩
 intro l kvs r
 unfold aU9 aS9
 rw[any_eq r]
 split
 ·exact map_eq r
 ·exact app_eq r
theorem aD0.length:∀ {l:List (Key×D)} {kvs:List (Key×V)},aD0 c U H l kvs->l.length=kvs.length
 |[],_,r=>by cases r;rfl
 |_::_,_,r=>by obtain⟨_,_,rfl,_,t⟩:=r;simp[aD0.length t]
theorem cI5{r:Nat}{a:Addr}{o o':DO}{u:HO}{Q:List Addr->DH->Hp->Prop}(h:J0 c U G H)(g:G[r]? =some o)(n:¬aQ6 (some o))(m:U[r]? =some a)(n':¬aQ6 (some o'))(ho:∀x:Ext U H U (upd H a u),aM8 c U (upd H a u) a o')
 (p:j7 c Z U H (bB9 r o' G) λ_ X9 G' H'=>Q X9 G' H'):Q U (G.set r o') (upd H a u):=by
 obtain⟨u',e,n1,n2⟩:=(h.obj r o a g m).some_of n
 have x:Ext U H U (upd H a u):=Ext.mut (yd m) e n1 n2 u
 exact p U _ x (h.set g n m x n' (ho x))
def cE3(c:Wc)(Z:XC)(f:D->D->D->M Unit):TSet:=λo i v H Q=>∃d1 d2 d3 U G,j8 c U H d1 o/\j8 c U H d2 i/\j8 c U H d3 v/\J0 c U G H/\j7 c Z U H (f d1 d2 d3 G) λ_ _ _ H'=>Q H'
theorem cE3.elim{c:Wc}{Z:XC}{P:Prop}{f:D->D->D->M Unit}{o:V}{i:V}{v:V}{H:Hp}{Q:Hp->Prop}(h:cE3 c Z f o i v H Q)(k:∀d1 d2 d3 U G,j8 c U H d1 o->j8 c U H d2 i->j8 c U H d3 v->J0 c U G H->j7 c Z U H (f d1 d2 d3 G) (λ_ _ _ H'=>Q H')->P):P:=by
 obtain⟨e0,e1,e2,e3,e4,e5,e6,e7,e8,e9⟩:=h
 exact k e0 e1 e2 e3 e4 e5 e6 e7 e8 e9
theorem eO1(hu:X.A.units+64<xj):eI2 X (cE3 (wc X) Z cS5):=by
 intro pins s O H o i v ov iv u Q I ro ri rv hE0
 obtain⟨d1,d2,d3,U,G,r1,r2,r3,hr,p⟩:=hE0
 rcases d1 with _|_|_|_|_|r|_|_<;>try (exact p.elim;done)
 ·
   unfold j8 at r1
   obtain⟨a,m,rfl⟩:=r1
   obtain⟨ob,g,p1⟩:=Q0 p
   have rob:=hr.obj r ob a g m
   rcases ob with l|l|l|l
   ·
     obtain⟨vs,ea,rl⟩:=rob
     rcases d2 with _|_|k|_|_|_|_|_<;>try (exact p1.elim;done)
     ·
       dsimp only at p1
       rcases hk:ixN l.length k with _|j
       ·simp only[hk]at p1;exact p1.elim
       ·
         simp only[hk]at p1
         exact dQ9 pins s O H (.ref a) i v ov iv u Q I ro ri rv ⟨a,vs,k,j,rfl,aF7 r2,ea,by rw[<-rl.length];exact hk,cI5 (o':=.lst (l.set j d3)) (Q:=λ_ _ H'=>Q H') hr g (λz=>z) m (λz=>z) (λx=>⟨_,R9,(rl.mono x).set (r3.mono x) j⟩) p1⟩
   ·exact p1.elim
   ·
     obtain⟨kvs,ea,rk⟩:=rob
     dsimp only at p1
     rcases hk:bU2 d2 with _|k
     ·simp only[hk]at p1;exact p1.elim
     ·
       simp only[hk]at p1
       split at p1
       · rename_i hz
         have ei:=cC2 hk r2
         subst ei
         cases ro
         refine dE5 (by lia) I (dW7.k ea (by rw[<-rk.length];exact hz)) ri rv λs' I'=>⟨_,I',?_⟩
         exact cI5 (o':=.dct (aU9 l k d3)) (Q:=λ_ _ H'=>Q H') hr g (λz=>z) m (λz=>z) (λx=>⟨_,R9,cI7 (r3.mono x) (rk.mono x)⟩) p1
       ·exact p1.elim
   ·exact p1.elim
variable{a b e o i:Expr}{fa fb fo fi:Fe}{pos:Pos}
theorem eG4(hu:X.A.units+64<xj)(ho:DE X Z o fo)(hi:DE X Z i fi)
 (ha:∀v,ZB (.Subscript o i pos) X.env v= (do
   let ov <-ZP [v] (eval o X.env)
   let iv <-ZP [v,ov] (eval i X.env)
   standAt pos
   ZP [v,ov,iv] (setItem ov iv v)
   release [v,ov,iv] [])):DG X Z (.Subscript o i pos) (dS3 fo fi):=
 DG.of (eL6 ho.h hi.h (eO1 hu) ha) λv O H Q hE0=>hE0.elim λd Z8 U G r s h p=>⟨Z8,U,G,s,h,(j7.bind p).mono λd1 X1 G1 H1 x1 h1 p1 v1 r1=>
  ⟨Z8,X1,G1,s.mono x1,h1,(j7.bind p1).mono λd2 WW G2 H2 x2 h2 p2 v2 r2=>⟨d1,d2,d,WW,G2,r1.mono x2,r2,r.mono (x1.trans x2),h2,(j7.bind p2).mono λ_ μ3 G3 H3 x3 h3 p3=>j7.ok p3 h3 O (s.mono (x1.trans (x2.trans x3)))⟩⟩⟩
def aX9:Fe:=λ_=>R0 (.dct [])
theorem dR1:DE X Z (.Dict [] [] pos) aX9:=DE.of dQ0 λO H Q hE0=>hE0.elim λZ8 U G s h p q hq=>by
 have k:Ext U H (U++[q]) (upd H q (.dK [])):=Ext.add hq _
 refine p (U++[q]) _ k (h.new hq ⟨[],R9,rfl⟩) _ ?_
 unfold j8
 exact⟨q,by rw[<-h.len];simp,rfl⟩
def V7:D->M Unit:=λx=>match x with
 | .ref r=>do
   match <-S7 r with
   | .lst _=>pure ()
   |_=>M.stuck
 |_=>M.stuck
noncomputable def mtE(t:D->M Unit)(m:D->List D->M D)(fo:Fe)(fs:DSt->M (List D)):Fe:=λO=>do
 let x <-fo O
 let _ <-t x
 let xs <-fs O
 m x xs
def lstM(r:Nat):M (List D):=do
 match <-S7 r with
 | .lst l=>pure l
 |_=>M.stuck
def aC1:D->List D->M D:=λx xs=>match x,xs with
 | .ref r, [y]=>do
   let l <-lstM r
   if l.length<zk then do
    let _ <-bB9 r (.lst (l++[y]))
    pure .non
   else M.stuck
 |_,_=>M.stuck
def bO5:D->List D->M D:=λx xs=>match x,xs with
 | .ref r, [.ref q]=>do
   let l <-lstM r
   let k <-lstM q
   if l.length+k.length<=zk then do
    let _ <-bB9 r (.lst (l++k))
    pure .non
   else M.stuck
 |_,_=>M.stuck
def eC5:D->List D->M D:=λx xs=>match x,xs with
 | .ref r, []=>do
   let l <-lstM r
   match l.getLast? with
   |some y=>do
     let _ <-bB9 r (.lst l.dropLast)
     pure y
   |none=>M.stuck
 |_,_=>M.stuck
theorem aQ8{α:Type}{r:Nat}{a:Addr}{f:List D->M α}{K:α->List Addr->DH->Hp->Prop}(h:J0 c U G H)(m:U[r]? =some a)(p:j7 c Z U H ((lstM r >>= f) G) K):
 ∃l vs,G[r]? =some (.lst l)/\H a=some (.lst vs)/\v9 c U H l vs/\j7 c Z U H (f l G) K:=by
 have p':j7 c Z U H ((S7 r >>= λo=>(match o with| .lst l=>pure l|_=>M.stuck:M (List D)) >>= f) G) K:=by rw[<-M.bind_assoc];exact p
 obtain⟨o,g,p2⟩:=Q0 p'
 have ro:=h.obj r o a g m
 rcases o with l|_|_|_<;>try (exact p2.elim;done)
 ·obtain⟨vs,e,rl⟩:=ro;exact⟨l,vs,g,e,rl,p2⟩
def MtD(X:Cx)(Z:XC)(id:String)(m:D->List D->M D):Prop:=
 MtR X id λx xs H Q=>∃d ds U G,j8 (wc X) U H d x/\v9 (wc X) U H ds xs/\J0 (wc X) U G H/\j7 (wc X) Z U H (m d ds G) λd X9 _ H'=>∀v,j8 (wc X) X9 H' d v->Q v H'
theorem bE4{α:Type}{r:Nat}{a:Addr}{l l':List D}{vs':List V}{f:M α}{K:α->List Addr->DH->Hp->Prop}(h:J0 c U G H)(g:G[r]? =some (.lst l))(m:U[r]? =some a)(rl:∀x:Ext U H U (upd H a (.lst vs')),v9 c U (upd H a (.lst vs')) l' vs')
 (p:j7 c Z U H ((bB9 r (.lst l') >>= λ_=>f) G) K):Ext U H U (upd H a (.lst vs'))/\J0 c U (G.set r (.lst l')) (upd H a (.lst vs'))/\j7 c Z U (upd H a (.lst vs')) (f (G.set r (.lst l'))) K:=by
 obtain⟨u',e,n1,n2⟩:=(h.obj r _ a g m).some_of (λz=>z)
 have x:Ext U H U (upd H a (.lst vs')):=Ext.mut (yd m) e n1 n2 _
 have h':J0 c U (G.set r (.lst l')) (upd H a (.lst vs')):=h.set g (λz=>z) m x (λz=>z) ⟨vs',R9,rl x⟩
 exact⟨x,h',j7.from p x⟩
theorem dA4:MtD X Z "list.append" aC1:=by
 intro pins s O H x xs v us Q I rx rs hE0
 obtain⟨d,ds,U,G,rd,rds,hr,p⟩:=hE0
 rcases d with _|_|_|_|_|r|_|_<;>try (exact p.elim;done)
 ·
   unfold j8 at rd
   obtain⟨a,m,rfl⟩:=rd
   rcases ds with _|⟨y,t⟩
   ·exact p.elim
   ·
     rcases t with _|⟨_,_⟩
     ·
       obtain⟨yv,tv,rfl,ry,e⟩:=rds
       cases e
       obtain⟨l,vs,g,ea,rl,p1⟩:=aQ8 hr m p
       split at p1
       · rename_i hz
         obtain⟨x1,h1,p2⟩:=bE4 (l':=l++[y]) (vs':=vs++[yv]) hr g m (λx=>(rl.mono x).append (v9.cons (ry.mono x) v9.nil)) p1
         exact bZ6 pins s O H (.ref a) [yv] v us Q I rx rs ⟨a,vs,yv,rfl,rfl,ea,by rw[<-rl.length];exact hz,j7.ok p2 h1 _ ofN⟩
       ·exact p1.elim
     ·exact p.elim
theorem dC6:MtD X Z "list.extend" bO5:=by
 intro pins s O H x xs v us Q I rx rs hE0
 obtain⟨d,ds,U,G,rd,rds,hr,p⟩:=hE0
 rcases d with _|_|_|_|_|r|_|_<;>try (exact p.elim;done)
 ·
   unfold j8 at rd
   obtain⟨a,m,rfl⟩:=rd
   rcases ds with _|⟨y,t⟩
   ·exact p.elim
   ·
     rcases t with _|⟨_,_⟩
     ·
       obtain⟨yv,tv,rfl,ry,e⟩:=rds
       cases e
       rcases y with _|_|_|_|_|q|_|_<;>try (exact p.elim;done)
       ·
         unfold j8 at ry
         obtain⟨b,m2,rfl⟩:=ry
         obtain⟨l,vs,g,ea,rl,p1⟩:=aQ8 hr m p
         obtain⟨k,ws,g2,eb,rk,p2⟩:=aQ8 hr m2 p1
         split at p2
         · rename_i hz
           obtain⟨x1,h1,p3⟩:=bE4 (vs':=vs++ws) hr g m (λx=>(rl.mono x).append (rk.mono x)) p2
           exact dB4 pins s O H (.ref a) [.ref b] v us Q I rx rs ⟨a,b,vs,ws,rfl,rfl,ea,eb,by rw[<-rl.length,<-rk.length];exact hz,j7.ok p3 h1 _ ofN⟩
         ·exact p2.elim
     ·cases y<;>exact p.elim
theorem eI1:MtD X Z "list.pop" eC5:=by
 intro pins s O H x xs v us Q I rx rs hE0
 obtain⟨d,ds,U,G,rd,rds,hr,p⟩:=hE0
 rcases d with _|_|_|_|_|r|_|_<;>try (exact p.elim;done)
 ·
   unfold j8 at rd
   obtain⟨a,m,rfl⟩:=rd
   rcases ds with _|⟨_,_⟩
   ·
     cases rds
     obtain⟨l,vs,g,ea,rl,p1⟩:=aQ8 hr m p
     rcases hy:l.getLast? with _|y
     ·simp only[hy]at p1;exact p1.elim
     ·
       simp only[hy]at p1
       obtain⟨x1,h1,p2⟩:=bE4 (vs':=vs.dropLast) hr g m (λx=>(rl.mono x).dropLast) p1
       rw[List.getLast?_eq_getElem?]at hy
       obtain⟨yv,e1,ry⟩:=rl.get hy
       rw[rl.length]at e1
       exact eQ4 pins s O H (.ref a) [] v us Q I rx rs ⟨a,vs,yv,rfl,rfl,ea,e1,j7.ok p2 h1 _ (ry.mono x1)⟩
   ·exact p.elim
variable{es:List Expr}{fs:DSt->M (List D)}{name:Str}{apos cpos:Pos}{id:String}{mm:D->List D->M D}
theorem bL2{α:Type}{d:D}{v:V}{f:Unit->M α}{K:α->List Addr->DH->Hp->Prop}(h:J0 c U G H)(r:j8 c U H d v)(p:j7 c Z U H ((V7 d >>= f) G) K):tyV c.K "list" v H/\j7 c Z U H (f () G) K:=by
 rcases d with _|_|_|_|_|i|_|_<;>try (exact p.elim;done)
 ·
   unfold j8 at r
   obtain⟨a,m,rfl⟩:=r
   have p':j7 c Z U H ((S7 i >>= λo=>(match o with| .lst _=>pure ()|_=>M.stuck:M Unit) >>= f) G) K:=by rw[<-M.bind_assoc];exact p
   obtain⟨o,g,p2⟩:=Q0 p'
   have ro:=h.obj i o a g m
   rcases o with l|_|_|_<;>try (exact p2.elim;done)
   ·obtain⟨vs,e,rl⟩:=ro;exact⟨.inl ⟨rfl,vs,SqL.of e⟩,p2⟩
theorem dU0(slot:Slot "list" name id)(hty:typeOf (.builtin id)=pure (.type "method_descriptor"))(hm:MtD X Z id mm)(ho:DE X Z o fo)(ha:DA X Z (e::es) fs)
 (hbase:xn o name X.env (eval o X.env)=eval o X.env)
 (hfew:((yR cpos (zM (e::es) X.env)).all (λx=> !x.1)&&(Jb cpos (Yi [] X.env)).all (λx=>x.1.isSome)
   && decide ((e::es).length+([]:List Keyword).length+(if ([]:List Keyword).isEmpty then 0 else 1)<30))=true)
 (hline:(apos.endLine==cpos.line)=true) (hs:zM (e::es) X.env= (false,eval e X.env)::zM es X.env) (hplain:(yR cpos (zM es X.env)).any (·.1)=false):
 DE X Z (.Call (.Attribute o name apos) (e::es) [] cpos) (mtE V7 mm fo fs):=
 DE.of (eE5 Xn slot hty hm ho.h ha.h hbase hfew hline hs hplain) λO H Q hE0=>hE0.elim λZ8 U G s h p=>⟨Z8,U,G,s,h,(j7.bind p).mono λd X1 G1 H1 x1 h1 p1 v rv=>by
  obtain⟨ty,p2⟩:=bL2 h1 rv p1
  exact⟨ty,Z8,X1,G1,s.mono x1,h1,(j7.bind p2).mono λds WW G2 H2 x2 h2 p3 vs rvs=>⟨d,ds,WW,G2,rv.mono x2,rvs,h2,p3⟩⟩⟩
theorem eT8(slot:Slot "list" name id)(hty:typeOf (.builtin id)=pure (.type "method_descriptor"))(hm:MtD X Z id mm)(ho:DE X Z o fo)
 (hbase:xn o name X.env (eval o X.env)=eval o X.env) (hline:(apos.endLine==cpos.line)=true):DE X Z (.Call (.Attribute o name apos) [] [] cpos) (mtE V7 mm fo q11):=
 DE.of (eJ5 Xn slot hty hm ho.h hbase hline) λO H Q hE0=>hE0.elim λZ8 U G s h p=>⟨Z8,U,G,s,h,(j7.bind p).mono λd X1 G1 H1 x1 h1 p1 v rv=>by
  obtain⟨ty,p2⟩:=bL2 h1 rv p1
  exact⟨ty,d, [],X1,G1,rv,rfl,h1,p2⟩⟩
end
noncomputable def SI(k:Bool)(h:Heap)(it a:Addr)(i:Nat):Prop:=if k then h.IsTupleIter it a i else h.IsListIter it a i
noncomputable def SC(k:Bool)(h:Heap)(a:Addr)(items:Array zf):Prop:=if k then h.IsTuple a items else h.IsList a items
section
variable{prog:zB}{w:zJ}{A:zF}{E:VSP}{s:zh}{k:Bool}
theorem SI.keep{h h':Heap}{it a:Addr}{i:Nat}(x:SI k h it a i)(q:∀o,h.get? it=some o->h'.get? it=some o):SI k h' it a i:=by
 rcases k with _|_
 ·exact Heap.IsListIter.at (show h.IsListIter it a i from x) q
 ·exact Heap.IsTupleIter.at (show h.IsTupleIter it a i from x) q
theorem SC.keep{h h':Heap}{a:Addr}{its:Array zf}(x:SC k h a its)(q:∀o,h.get? a=some o->h'.get? a=some o):SC k h' a its:=by
 rcases k with _|_
 ·obtain⟨o,e,r⟩:=(show h.IsList a its from x);exact⟨o,q o e,r⟩
 ·obtain⟨o,e,r⟩:=(show h.IsTuple a its from x);exact⟨o,q o e,r⟩
theorem SI.there{h:Heap}{it a:Addr}{i:Nat}(x:SI k h it a i):∃o,h.get? it=some o/\∀v,o.data≠ .cell v:=by
 rcases k with _|_
 ·obtain⟨o,e,c,d⟩:=(show h.IsListIter it a i from x);exact⟨o,e,λv z=>by rw[d]at z;cases z⟩
 ·obtain⟨o,e,c,d⟩:=(show h.IsTupleIter it a i from x);exact⟨o,e,λv z=>by rw[d]at z;cases z⟩
theorem bH6{it t:Addr}{i:Nat}{items:Array zf}{x:zf}{Q:VSP}(hit:s.heap.IsTupleIter it t i)(ht:s.heap.IsTuple t items)(hx:items[i]? =some x)
 (hQ:∀h',h'.IsTupleIter it t (i+1)->jO it s.heap h'->Q x {s with heap:=h'}):zp (zD prog w) A (zN (.ref it)) Q E s:=by
 obtain⟨ob,hob,hcls,hdat⟩:=id hit
 obtain⟨ot,hot,_,nt,hdt⟩:=ht
 unfold zN
 refine za (zS (name:=je "__next__") hit.typeIs jt (zV jt hit.typeIs yW ?_ (yT _)))
 show zp _ _ (Ym (.ref it) 0 >>= _) _ _ s
 refine za (js hob hdat (x:=.ref t) rfl ?_)
 show zp _ _ (if (Value.ref t==Value.none)=true then _ else _) _ _ s
 rw[if_neg (show ¬((Value.ref t==Value.none)=true)from zX)]
 show zp _ _ (Ym (.ref it) 1 >>= _) _ _ s
 refine za (js hob hdat (x:=.int i 0) rfl ?_)
 show zp _ _ (JL (.ref t) >>= _) _ _ s
 refine za (jJ hot hdt ?_)
 simp only[zW,hx]
 refine za (Yg hob hdat (by simp) (zi ⟨x,rfl,zi (hQ _ ?_ (jC ..))⟩))
 exact⟨_,jU _ hob (Jq (xT hdat _)),(Obj.cls_mapFields ..).trans hcls,by rw[xT hdat];simp[ym]⟩
theorem bI6{it t:Addr}{i:Nat}{items:Array zf}{Q:VSP}(hh:A.handled=none)(hit:s.heap.IsTupleIter it t i)(ht:s.heap.IsTuple t items)(hx:items[i]? =none)
 (hE:∀h' e,Zc it s.heap h'->(∃o,h'.get? e=some o/\o.cls= .type "StopIteration")->E (.ref e) {s with heap:=h'}):zp (zD prog w) A (zN (.ref it)) Q E s:=by
 obtain⟨ob,hob,hcls,hdat⟩:=id hit
 obtain⟨ot,hot,_,nt,hdt⟩:=ht
 unfold zN
 refine za (zS (name:=je "__next__") hit.typeIs jt (zV jt hit.typeIs yW ?_ (yT _)))
 show zp _ _ (Ym (.ref it) 0 >>= _) _ _ s
 refine za (js hob hdat (x:=.ref t) rfl ?_)
 show zp _ _ (if (Value.ref t==Value.none)=true then _ else _) _ _ s
 rw[if_neg (show ¬((Value.ref t==Value.none)=true)from zX)]
 show zp _ _ (Ym (.ref it) 1 >>= _) _ _ s
 refine za (js hob hdat (x:=.int i 0) rfl ?_)
 show zp _ _ (JL (.ref t) >>= _) _ _ s
 refine za (jJ hot hdt ?_)
 simp only[zW,hx]
 refine za (yB (za (Yg hob hdat (by simp) ?_)))
 show zp _ _ (newExc (.type "StopIteration") [] >>= _) _ _ _
 refine za ?_
 simp only[newExc,newTuple]
 refine za (jH ?_ (by size_fits))
 refine za (m:=Yl _ _) (wpAny_of_eq (a:=Value.none) (by first|rfl|(simp only[Yl];rfl)) ?_)
 refine jH ?_ (by size_fits)
 delta raiseNew;dsimp only
 refine za (YC ?_)
 first|rw[show A.in1.handled=none from hh]|rw[hh]
 refine za (zi (XF ?_))
 exact hE _ _ (((jC ..).extBut.push _).push _) ⟨_,zm _ rfl,rfl⟩
theorem aW1{it a:Addr}{i:Nat}{items:Array zf}{x:zf}{Q:VSP}(hit:SI k s.heap it a i)(hl:SC k s.heap a items)(hx:items[i]? =some x)
 (hQ:∀h',SI k h' it a (i+1)->jO it s.heap h'->Q x {s with heap:=h'}):zp (zD prog w) A (zN (.ref it)) Q E s:=by
 rcases k with _|_
 ·exact wpAny_nextOf_list_item hit hl hx hQ
 ·exact bH6 hit hl hx hQ
theorem bR7{it a:Addr}{i:Nat}{items:Array zf}{Q:VSP}(hh:A.handled=none)(hit:SI k s.heap it a i)(hl:SC k s.heap a items)(hx:items[i]? =none)
 (hE:∀h' e,Zc it s.heap h'->(∃o,h'.get? e=some o/\o.cls= .type "StopIteration")->E (.ref e) {s with heap:=h'}):zp (zD prog w) A (zN (.ref it)) Q E s:=by
 rcases k with _|_
 ·exact wpAny_nextOf_list_end hh hit hl hx hE
 ·exact bI6 hh hit hl hx hE
structure ZA(z TI TO i1 i2:Addr):Prop where
 TIz:TI≠z
 TOz:TO≠z
 i1z:i1≠z
 i2z:i2≠z
 TITO:TI≠TO
 TIi1:TI≠i1
 TIi2:TI≠i2
 TOi1:TO≠i1
 TOi2:TO≠i2
 i12:i1≠i2
theorem eW3(n:Nat):ZA (n+4:Nat) (n+2:Nat) (n+3:Nat) n (n+1:Nat):=⟨(by show @Ne Nat _ _;lia),(by show @Ne Nat _ _;lia),(by show @Ne Nat _ _;lia),(by show @Ne Nat _ _;lia),(by show @Ne Nat _ _;lia),(by show @Ne Nat _ _;lia),(by show @Ne Nat _ _;lia),(by show @Ne Nat _ _;lia),(by show @Ne Nat _ _;lia),(by show @Ne Nat _ _;lia)⟩
theorem dL2{l n:Nat}(h:l<n):¬ @Jv Addr (List Addr) JI [(n+4:Nat),(n+3:Nat),n,(n+1:Nat)] l:=by
 simp only[zw,zy,or_false,not_or]
 exact⟨(by show ¬ @Eq Nat _ _;lia),(by show ¬ @Eq Nat _ _;lia),(by show ¬ @Eq Nat _ _;lia),(by show ¬ @Eq Nat _ _;lia)⟩
theorem fA9{n:Nat}{b:Addr}(hb: @Jv Addr (List Addr) JI [(n+4:Nat),(n+2:Nat),(n+3:Nat),n,(n+1:Nat)] b): @LE.le Nat instLENat n b:=by
 simp only[zw,zy,or_false]at hb
 rcases hb with rfl|rfl|rfl|rfl|rfl<;>(show @LE.le Nat instLENat _ _;lia)
variable{z TI TO i1 i2 l1 l2:Addr}{xs ys:Array zf}{k1 k2:Bool}{i:Nat}
theorem dL7{x y a b:zf}{Q:VSP}(Ap:ZA z TI TO i1 i2)(n1:l1∉ [z,TO,i1,i2])(n2:l2∉ [z,TO,i1,i2])
 (hz:xY s.heap z TI TO .none) (hTI:yn s.heap TI (.ref i1) (.ref i2)) (hTO:yn s.heap TO a b)
 (h1:SI k1 s.heap i1 l1 i) (h2:SI k2 s.heap i2 l2 i) (hl1:SC k1 s.heap l1 xs) (hl2:SC k2 s.heap l2 ys) (hx:xs[i]? =some x) (hy:ys[i]? =some y)
 (hQ:∀h',xY h' z TI TO (ym s.heap.objs.size)->yn h' TO x y->SI k1 h' i1 l1 (i+1)->SI k2 h' i2 l2 (i+1)->yn h' s.heap.objs.size x y->h'.objs.size=s.heap.objs.size+1->
   (∀c o,c≠z->c≠TO->c≠i1->c≠i2->s.heap.get? c=some o->h'.get? c=some o)->Q (.ref s.heap.objs.size) {s with heap:=h'}):
 zp (zD prog w) A (jY.«zip.__next__» ⟨[.ref z], []⟩) (λfin s'=>∃v,fin= .done (.ret v)/\Q v s') E s:=by
 simp only[zw,zy,or_false,not_or]at n1 n2
 show zp _ _ (Ym (.ref z) 2 >>= _) _ _ _
 refine za (js hz rfl (x:=.bool false) rfl ?_)
 show zp _ _ (Ym (.ref z) 3 >>= _) _ _ _
 refine za (js hz rfl (x:=.ref TI) rfl ?_)
 refine za (jJ hTI rfl ?_)
 show zp _ _ (jV (.ref z) >>= _) _ _ _
 refine za ?_
 unfold jV
 refine za (js hz rfl (x:=.none) rfl (zi ?_))
 simp only[if_true]
 refine za (yB ?_)
 refine za (js hz rfl (x:=.ref TO) rfl ?_)
 refine za (jM hz (by simp) λg₁ hz₁ WU=>?_)
 replace hz₁:xY g₁ z TI TO .ellipsis:=hz₁
 refine za ?_
 simp only[List.zipIdx_cons,List.zipIdx_nil,YZ,List.forIn_nil]
 refine za (za (YB ?_))
 show zp _ _ (zN (.ref i1) >>= _) _ _ _
 refine za (aW1 (h1.keep λo e=>WU.extBut _ _ Ap.i1z e) (hl1.keep λo e=>WU.extBut _ _ n1.1 e) hx λg₂ h1₂ WQ=>zi ?_)
 have hTO₂:yn g₂ TO a b:=WQ.extBut _ _ Ap.TOi1 (WU.extBut _ _ Ap.TOz hTO)
 refine za (jJ hTO₂ rfl ?_)
 refine za (Yf hTO₂ λg₃ hTO₃ hs₃=>?_)
 replace hTO₃:yn g₃ TO x b:=hTO₃
 refine za (XG (zi ?_))
 refine za (za (YB ?_))
 show zp _ _ (zN (.ref i2) >>= _) _ _ _
 have up3:∀c o,c≠z->c≠TO->c≠i1->s.heap.get? c=some o->g₃.get? c=some o:=λc o c1 c2 c3 e=>hs₃.extBut _ _ c2 (WQ.extBut _ _ c3 (WU.extBut _ _ c1 e))
 refine za (aW1 (h2.keep λo e=>up3 _ _ Ap.i2z Ap.TOi2.symm Ap.i12.symm e) (hl2.keep λo e=>up3 _ _ n2.1 n2.2.1 n2.2.2.1 e) hy λg₄ h2₄ hs₄=>zi ?_)
 have hTO₄:yn g₄ TO x b:=hs₄.extBut _ _ Ap.TOi2 hTO₃
 refine za (jJ hTO₄ rfl ?_)
 refine za (Yf hTO₄ λWR hTO₅ hs₅=>?_)
 replace hTO₅:yn WR TO x y:=hTO₅
 refine za (XG (zi (zi ?_)))
 refine za (jJ hTO₅ rfl ?_)
 refine za (wpAny_newTuple ?_)
 have hsz:WR.objs.size=s.heap.objs.size:=by rw[hs₅.1,hs₄.1,hs₃.1,WQ.1,WU.1]
 have hz₅:xY WR z TI TO .ellipsis:=hs₅.extBut _ _ Ap.TOz.symm (hs₄.extBut _ _ Ap.i2z.symm (hs₃.extBut _ _ Ap.TOz.symm (WQ.extBut _ _ Ap.i1z.symm hz₁)))
 have hk₅:∀c o,c≠z->c≠TO->c≠i1->c≠i2->s.heap.get? c=some o->WR.get? c=some o:=λc o c1 c2 c3 c4 e=>hs₅.extBut _ _ c2 (hs₄.extBut _ _ c4 (up3 c o c1 c2 c3 e))
 have h1₅:SI k1 WR i1 l1 (i+1):=h1₂.keep λo e=>hs₅.extBut _ _ Ap.TOi1.symm (hs₄.extBut _ _ Ap.i12 (hs₃.extBut _ _ Ap.TOi1.symm e))
 have h2₅:SI k2 WR i2 l2 (i+1):=h2₄.keep λo e=>hs₅.extBut _ _ Ap.TOi2.symm e
 have hzlt:z<WR.objs.size:=zn hz₅
 show zp _ _ (xR (.ref z) (.ref WR.objs.size) >>= _) _ _ _
 refine za ?_
 unfold xR
 have hz₆:xY (WR.push {cls:=.type "tuple",data:=.seq #[x,y]}) z TI TO .ellipsis:=zg _ hz₅
 refine za (jM hz₆ (by simp) λg₇ hz₇ hs₇=>?_)
 replace hz₇:xY g₇ z TI TO (ym WR.objs.size):=hz₇
 refine jM hz₇ (by simp) λg₈ hz₈ hs₈=>?_
 replace hz₈:xY g₈ z TI TO (ym WR.objs.size):=hz₈
 have up:∀c o,c≠z->WR.get? c=some o->g₈.get? c=some o:=λc o c1 e=>hs₈.extBut _ _ c1 (hs₇.extBut _ _ c1 (zg _ e))
 have hT₈:yn g₈ WR.objs.size x y:=hs₈.extBut _ _ (yb hzlt) (hs₇.extBut _ _ (yb hzlt) (zm _ rfl))
 have hz8:g₈.objs.size=WR.objs.size+1:=by rw[hs₈.1,hs₇.1,jb]
 rw[hsz]at hz₈ hT₈ hz8
 refine zi ⟨_,rfl,?_⟩
 show Q (.ref WR.objs.size) _
 rw[hsz]
 exact hQ g₈ hz₈ (up _ _ Ap.TOz hTO₅) (h1₅.keep λo e=>up _ o Ap.i1z e) (h2₅.keep λo e=>up _ o Ap.i2z e) hT₈ hz8 λc o c1 c2 c3 c4 e=>up c o c1 (hk₅ c o c1 c2 c3 c4 e)
theorem dZ6{a b:zf}{Q:Fin->zh->Prop}(hh:A.handled=none)(Ap:ZA z TI TO i1 i2)(n1:l1∉ [z,TO,i1,i2])(n2:l2∉ [z,TO,i1,i2])
 (hz:xY s.heap z TI TO .none) (hTI:yn s.heap TI (.ref i1) (.ref i2)) (hTO:yn s.heap TO a b)
 (h1:SI k1 s.heap i1 l1 i) (h2:SI k2 s.heap i2 l2 i) (hl1:SC k1 s.heap l1 xs) (hl2:SC k2 s.heap l2 ys) (hend:xs[i]? =none\/ys[i]? =none)
 (hE:∀h' e,(∀c o,c≠z->c≠TO->c≠i1->c≠i2->s.heap.get? c=some o->h'.get? c=some o)->(∃o,h'.get? e=some o/\o.cls= .type "StopIteration")->E (.ref e) {s with heap:=h'}):
 zp (zD prog w) A (jY.«zip.__next__» ⟨[.ref z], []⟩) Q E s:=by
 simp only[zw,zy,or_false,not_or]at n1 n2
 show zp _ _ (Ym (.ref z) 2 >>= _) _ _ _
 refine za (js hz rfl (x:=.bool false) rfl ?_)
 show zp _ _ (Ym (.ref z) 3 >>= _) _ _ _
 refine za (js hz rfl (x:=.ref TI) rfl ?_)
 refine za (jJ hTI rfl ?_)
 show zp _ _ (jV (.ref z) >>= _) _ _ _
 refine za ?_
 unfold jV
 refine za (js hz rfl (x:=.none) rfl (zi ?_))
 simp only[if_true]
 refine za (yB ?_)
 refine za (js hz rfl (x:=.ref TO) rfl ?_)
 refine za (jM hz (by simp) λg₁ hz₁ WU=>?_)
 replace hz₁:xY g₁ z TI TO .ellipsis:=hz₁
 refine za ?_
 simp only[List.zipIdx_cons,List.zipIdx_nil,YZ,List.forIn_nil]
 refine za (za (YB ?_))
 show zp _ _ (zN (.ref i1) >>= _) _ _ _
 rcases hx:xs[i]? with _|x
 ·
   refine za (bR7 hh (h1.keep λo e=>WU.extBut _ _ Ap.i1z e) (hl1.keep λo e=>WU.extBut _ _ n1.1 e) hx λg₂ e WQ he=>?_)
   obtain⟨oe,hoe,hce⟩:=he
   have hz₂:xY g₂ z TI TO .ellipsis:=WQ _ _ Ap.i1z.symm hz₁
   have hez:e≠z:=λq=>by subst q;rw[hz₂]at hoe;cases hoe;simp at hce
   exact jM hz₂ (by simp) λg₃ _ hs₃=>hE g₃ e (λc o c1 _ c3 _ q=>hs₃.extBut _ _ c1 (WQ _ _ c3 (WU.extBut _ _ c1 q))) ⟨oe,hs₃.extBut _ _ hez hoe,hce⟩
 ·
   have hy:ys[i]? =none:=by
    rcases hend with h|h
    ·rw[hx]at h;exact dW1 h
    ·exact h
   refine za (aW1 (h1.keep λo e=>WU.extBut _ _ Ap.i1z e) (hl1.keep λo e=>WU.extBut _ _ n1.1 e) hx λg₂ h1₂ WQ=>zi ?_)
   have hTO₂:yn g₂ TO a b:=WQ.extBut _ _ Ap.TOi1 (WU.extBut _ _ Ap.TOz hTO)
   refine za (jJ hTO₂ rfl ?_)
   refine za (Yf hTO₂ λg₃ hTO₃ hs₃=>?_)
   refine za (XG (zi ?_))
   refine za (za (YB ?_))
   show zp _ _ (zN (.ref i2) >>= _) _ _ _
   have up3:∀c o,c≠z->c≠TO->c≠i1->s.heap.get? c=some o->g₃.get? c=some o:=λc o c1 c2 c3 e=>hs₃.extBut _ _ c2 (WQ.extBut _ _ c3 (WU.extBut _ _ c1 e))
   refine za (bR7 hh (h2.keep λo e=>up3 _ _ Ap.i2z Ap.TOi2.symm Ap.i12.symm e) (hl2.keep λo e=>up3 _ _ n2.1 n2.2.1 n2.2.2.1 e) hy λg₄ e hs₄ he=>?_)
   obtain⟨oe,hoe,hce⟩:=he
   have hz₄:xY g₄ z TI TO .ellipsis:=hs₄ _ _ Ap.i2z.symm (hs₃.extBut _ _ Ap.TOz.symm (WQ.extBut _ _ Ap.i1z.symm hz₁))
   have hez:e≠z:=λq=>by subst q;rw[hz₄]at hoe;cases hoe;simp at hce
   exact jM hz₄ (by simp) λWR _ hs₅=>hE WR e (λc o c1 c2 c3 c4 q=>hs₅.extBut _ _ c1 (hs₄ _ _ c4 (up3 c o c1 c2 c3 q))) ⟨oe,hs₅.extBut _ _ hez hoe,hce⟩
theorem bN0{x y a b:zf}{Q:Option zf->zh->Prop}(Ap:ZA z TI TO i1 i2)(n1:l1∉ [z,TO,i1,i2])(n2:l2∉ [z,TO,i1,i2])
 (hz:xY s.heap z TI TO .none) (hTI:yn s.heap TI (.ref i1) (.ref i2)) (hTO:yn s.heap TO a b)
 (h1:SI k1 s.heap i1 l1 i) (h2:SI k2 s.heap i2 l2 i) (hl1:SC k1 s.heap l1 xs) (hl2:SC k2 s.heap l2 ys) (hx:xs[i]? =some x) (hy:ys[i]? =some y)
 (hQ:∀h',xY h' z TI TO (ym s.heap.objs.size)->yn h' TO x y->SI k1 h' i1 l1 (i+1)->SI k2 h' i2 l2 (i+1)->yn h' s.heap.objs.size x y->h'.objs.size=s.heap.objs.size+1->
   (∀c o,c≠z->c≠TO->c≠i1->c≠i2->s.heap.get? c=some o->h'.get? c=some o)->Q (some (.ref s.heap.objs.size)) {s with heap:=h'}):
 zp (zD prog w) A (yC (.ref z)) Q E s:=by
 have hT:s.TypeIs (.ref z) "zip":=⟨_,hz,rfl⟩
 unfold yC
 exact za (xm (zS (name:=je "__next__") hT ZN (zV ZN hT F.entry_zip_next
  (dL7 Ap n1 n2 hz hTI hTO h1 h2 hl1 hl2 hx hy λh' a1 a2 a3 a4 a5 a6 a7=>zi (hQ h' a1 a2 a3 a4 a5 a6 a7)) (F.args_zip_next_1 _))))
theorem bU9{a b:zf}{Q:Option zf->zh->Prop}(hh:A.handled=none)(Ap:ZA z TI TO i1 i2)(n1:l1∉ [z,TO,i1,i2])(n2:l2∉ [z,TO,i1,i2])
 (hz:xY s.heap z TI TO .none) (hTI:yn s.heap TI (.ref i1) (.ref i2)) (hTO:yn s.heap TO a b)
 (h1:SI k1 s.heap i1 l1 i) (h2:SI k2 s.heap i2 l2 i) (hl1:SC k1 s.heap l1 xs) (hl2:SC k2 s.heap l2 ys) (hend:xs[i]? =none\/ys[i]? =none)
 (hQ:∀h',(∀c o,c≠z->c≠TO->c≠i1->c≠i2->s.heap.get? c=some o->h'.get? c=some o)->Q none {s with heap:=h'}):zp (zD prog w) A (yC (.ref z)) Q E s:=by
 have hT:s.TypeIs (.ref z) "zip":=⟨_,hz,rfl⟩
 unfold yC
 refine za (xm (zS (name:=je "__next__") hT ZN (zV ZN hT F.entry_zip_next
  (dZ6 hh Ap n1 n2 hz hTI hTO h1 h2 hl1 hl2 hend λh' e hk he=>?_) (F.args_zip_next_1 _))))
 obtain⟨o,ho,hc⟩:=he
 exact za (xg (T:= "StopIteration") (b:=true) ⟨o,ho,hc⟩ Yk (zi (hQ _ hk)))
end
noncomputable def bZ0(k:Bool)(a:Addr):Obj:={cls:=.type (if k then "tuple_iterator" else "list_iterator"),data:=.fields #[.ref a,.int 0 0]}
abbrev zh1(k1:Bool)(h:Heap)(l1:Addr):Heap:=h.push (bZ0 k1 l1)
abbrev zh2(k1 k2:Bool)(h:Heap)(l1 l2:Addr):Heap:=(zh1 k1 h l1).push (bZ0 k2 l2)
noncomputable abbrev zh3(k1 k2:Bool)(h:Heap)(l1 l2:Addr):Heap:=(zh2 k1 k2 h l1 l2).push {cls:=.type "tuple",data:=.seq #[.ref h.objs.size,.ref (zh1 k1 h l1).objs.size]}
noncomputable abbrev zh4(k1 k2:Bool)(h:Heap)(l1 l2:Addr):Heap:=(zh3 k1 k2 h l1 l2).push {cls:=.type "tuple",data:=.seq #[.none,.none]}
noncomputable abbrev zh5(k1 k2:Bool)(h:Heap)(l1 l2:Addr):Heap:=(zh4 k1 k2 h l1 l2).push {cls:=.type "zip",data:=.fields #[.none,.bool false,.bool false,.ref (zh2 k1 k2 h l1 l2).objs.size,.ref (zh3 k1 k2 h l1 l2).objs.size]}
theorem bU7{prog:zB}{w:zJ}{A:zF}{E:VSP}{s:zh}{k:Bool}{a:Addr}{items:Array zf}{Q:VSP}(hl:SC k s.heap a items)(h:Q (.ref s.heap.objs.size) {s with heap:=s.heap.push (bZ0 k a)}):zp (zD prog w) A (YQ (.ref a)) Q E s:=by
 rcases k with _|_
 ·exact xA hl h
 ·exact Zj hl h
theorem eC9(k1 k2:Bool)(l1 l2:Addr)(xs ys:Array zf):
 Meets (jY.«zip.__new__» ⟨[.type "zip",.ref l1,.ref l2], []⟩) (λ_ R s=>SC k1 s.heap l1 xs/\SC k2 s.heap l2 ys/\R (.ok (.ret (.ref (zh4 k1 k2 s.heap l1 l2).objs.size))) {s with heap:=zh5 k1 k2 s.heap l1 l2}):=
 .of_wp λprog w A R s h=>by
  obtain⟨hp,g,d,tk,os⟩:=s
  obtain⟨hl1,hl2,h⟩:=h
  have hsub:=sub_zip
  have hL1:SC k1 (XW ⟨hp,g,d,tk,os⟩) l1 xs:=hl1
  have hL2:SC k2 (XW ⟨hp.push (bZ0 k1 l1),g,d,tk,os⟩) l2 ys:=hl2.keep λo e=>zg _ e
  wp_walk using bU7 hL1,bU7 hL2
  exact⟨_,rfl,h⟩
section
variable{X:Cx}{pins:PNS}{O:St}{H:Hp}{s:zh}
theorem bX3{h':Heap}{t':Nat}{ch:List Addr}{vs:List V}{us:List zf}(I:Inv X pins O H s)(hf:∀b∈ch,aU3 X pins H b)(k:∀b o,b∉ch->s.heap.get? b=some o->h'.get? b=some o)
 (hz:vs.length<=zk) (rv:J2 vs us) (ht:aE9 h' s.heap.objs.size us.toArray):Inv X pins O (upd H s.heap.objs.size (.tup vs)) {s with heap:=h',toks:=t'}:=by
 have hq:H s.heap.objs.size=none:=I.hok.fresh (zo _)
 have neq:∀b o,s.heap.get? b=some o->b≠s.heap.objs.size:=λb o e=>zA (zn e)
 have nch:∀b u,H b=some u->b∉ch:=λb u e z=>by rw[(hf b z).1]at e;cases e
 refine I.step (g':=s.gens) (d':=s.drawn) (ch:=ch) (λb hb=>⟨(hf b hb).2.2.2.1,(hf b hb).2.1,(hf b hb).2.2.2.2.1,(hf b hb).2.2.2.2.2⟩) (λb o _ _ hc e _=>k b o hc e) (λb o _ _ hc e _=>⟨o.slots,k b o hc e⟩)
  (λb o _ e n=>by rw[J6 (neq b o e)];exact n) (λb o hc e=>⟨o,k b o hc e⟩) (λb xs e=>by rw[J6 (K5 e hq)];exact e) (λb o u e=>by rw[J6 (K5 e hq)];exact e)
  (λb ps e=>⟨#[],by rw[J6 (K5 e hq),e];simp⟩) (λm hm=>?_) (λb u e=>?_) I.bare
 · obtain⟨o,es,ep,ho,r⟩:=hm
   exact⟨o,es,ep,k _ o (λz=>(hf _ z).2.1 rfl) ho,r⟩
 · by_cases hb:b=s.heap.objs.size
   · subst hb
     rw[R9]at e
     cases e
     exact⟨hz,us,rv,ht⟩
   · rw[J6 hb]at e
     refine(I.hok b u e).stay (λc v hc q=>k c v ?_ q) (λc q=>by rw[J6 (K5 q hq)];exact q) λc xs q=>by rw[J6 (K5 q hq)];exact q
     rcases hc with z|z
     ·rw[z];exact nch b u e
     ·exact nch c _ z
theorem bB5{h':Heap}{t':Nat}{ch:List Addr}(I:Inv X pins O H s)(hf:∀b∈ch,aU3 X pins H b)(k:∀b o,b∉ch->s.heap.get? b=some o->h'.get? b=some o):Inv X pins O H {s with heap:=h',toks:=t'}:=by
 have nch:∀b u,H b=some u->b∉ch:=λb u e z=>by rw[(hf b z).1]at e;cases e
 refine I.step (g':=s.gens) (d':=s.drawn) (ch:=ch) (λb hb=>⟨(hf b hb).2.2.2.1,(hf b hb).2.1,(hf b hb).2.2.2.2.1,(hf b hb).2.2.2.2.2⟩) (λb o _ _ hc e _=>k b o hc e) (λb o _ _ hc e _=>⟨o.slots,k b o hc e⟩)
  (λ_ _ _ _ n=>n) (λb o hc e=>⟨o,k b o hc e⟩) (λ_ _ e=>e) (λ_ _ _ e=>e) (λb ps e=>⟨#[],by rw[e];simp⟩) (λm hm=>?_) (λb u e=>?_) I.bare
 · obtain⟨o,es,ep,ho,r⟩:=hm
   exact⟨o,es,ep,k _ o (λz=>(hf _ z).2.1 rfl) ho,r⟩
 · refine(I.hok b u e).stay (λc v hc q=>k c v ?_ q) (λ_ q=>q) λ_ _ q=>q
   rcases hc with z|z
   ·rw[z];exact nch b u e
   ·exact nch c _ z
end
def Sq(K:zj)(k:Bool)(H:Hp)(a:Addr)(vs:List V):Prop:=if k then SqT K H a vs else SqL K H a vs
theorem bY1{X:Cx}{pins:PNS}{O:St}{H:Hp}{s:zh}{k:Bool}{a:Addr}{vs:List V}(I:Inv X pins O H s)(h:Sq X.K k H a vs):∃its:List zf,J2 vs its/\SC k s.heap a its.toArray/\vs.length<=zk:=by
 rcases k with _|_
 ·obtain⟨its,r,p,z⟩:=I.list h;exact⟨its,r,p.isList,z⟩
 ·obtain⟨its,r,p,z⟩:=I.tuple h;exact⟨its,r,p,z⟩
theorem dT9{X:Cx}{pins:PNS}{O:St}{H:Hp}{s:zh}{k:Bool}{a:Addr}{vs ws:List V}(I:Inv X pins O H s)(h:Sq X.K k H a vs)(h':Sq X.K k H a ws):vs=ws:=by
 rcases k with _|_
 ·exact I.list_inj h h'
 ·exact I.tuple_inj h h'
def Itz(K:zj)(k1 k2:Bool)(a b:Addr):It:=
 ⟨λi H=>∃xs ys x y,Sq K k1 H a xs/\Sq K k2 H b ys/\xs[i]? =some x/\ys[i]? =some y,
  λi H v H'=>∃q x y,H q=none/\v= .ref q/\H'=upd H q (.tup [x,y])/\(∀xs,Sq K k1 H a xs->xs[i]? =some x)/\∀ys,Sq K k2 H b ys->ys[i]? =some y,
  λi H=>∃xs ys,Sq K k1 H a xs/\Sq K k2 H b ys/\(xs.length<=i\/ys.length<=i)⟩
theorem cB0{vs:List V}{its:List zf}(r:J2 vs its){i:Nat}{x:V}(h:vs[i]? =some x):∃u,its.toArray[i]? =some u/\J9 x u:=by
 obtain⟨u,e,ru⟩:=r.get h
 exact⟨u,by simpa using e,ru⟩
theorem dO3{P:zB}{w:zJ}{K:zj}{es:List Expr}{x1:Nat}{tp:Pos}{k1 k2:Bool}{l1 l2 z TI TO i1 i2:Addr}(Ap:ZA z TI TO i1 i2)(n1:l1∉ [z,TO,i1,i2])(n2:l2∉ [z,TO,i1,i2]):
 bQ5 P w K (.Tuple es x1 tp) (Itz K k1 k2 l1 l2) [z,TI,TO,i1,i2] z (λi h=>xY h z TI TO .none/\yn h TI (.ref i1) (.ref i2)/\(∃a b,yn h TO a b)/\SI k1 h i1 l1 i/\SI k2 h i2 l2 i) where
 mem:=by simp
 obj:=λi h st b hb=>by
  obtain⟨s1,s2,⟨a,c,s3⟩,s4,s5⟩:=st
  simp only[zw,zy,or_false]at hb
  rcases hb with rfl|rfl|rfl|rfl|rfl
  ·exact⟨_,s1,λv z=>nomatch z⟩
  ·exact⟨_,s2,λv z=>nomatch z⟩
  ·exact⟨_,s3,λv z=>nomatch z⟩
  ·exact s4.there
  ·exact s5.there
 keep:=λi h h' st k=>by
  obtain⟨s1,s2,⟨a,c,s3⟩,s4,s5⟩:=st
  exact⟨k _ (by simp) _ s1,k _ (by simp) _ s2,⟨a,c,k _ (by simp) _ s3⟩,s4.keep (k _ (by simp)),s5.keep (k _ (by simp))⟩
 item:=by
  intro X hP hw hK hc i pins s O H E I hf st hg
  subst hP hw hK
  obtain⟨xs,ys,x,y,q1,q2,hx,hy⟩:=hg
  obtain⟨its1,r1,c1,z1⟩:=bY1 I q1
  obtain⟨its2,r2,c2,z2⟩:=bY1 I q2
  obtain⟨u1,e1,ru1⟩:=cB0 r1 hx
  obtain⟨u2,e2,ru2⟩:=cB0 r2 hy
  obtain⟨s1,s2,⟨a,c,s3⟩,s4,s5⟩:=st
  refine bN0 Ap n1 n2 s1 s2 s3 s4 s5 c1 c2 e1 e2 λg b1 b2 b3 b4 b5 b6 b7=>⟨_,rfl,?_⟩
  refine wpAny_letOwnedTupleGo_zip b1 λg2 c1' sb=>?_
  have keep:∀b o,b∉ [z,TI,TO,i1,i2]->s.heap.get? b=some o->g2.get? b=some o:=λb o hb e=>by
   simp only[zw,zy,or_false,not_or]at hb
   exact(sb.2 b hb.1).trans (b7 b o hb.1 hb.2.2.1 hb.2.2.2.1 hb.2.2.2.2 e)
  have zlt:z<s.heap.objs.size:=zn s1
  have hnew:aE9 g2 s.heap.objs.size [u1,u2].toArray:=⟨_,(sb.2 _ (yb zlt)).trans b5,rfl,_,rfl⟩
  have hq:H s.heap.objs.size=none:=I.hok.fresh (zo _)
  refine⟨.ref s.heap.objs.size,upd H s.heap.objs.size (.tup [x,y]),bX3 I hf keep (by show 2<=zk;decide) (.cons ru1 (.cons ru2 .nil)) hnew,rfl,⟨_,x,y,hq,rfl,rfl,λxs' h=>by rw[dT9 I h q1];exact hx,λys' h=>by rw[dT9 I h q2];exact hy⟩,?_,λb hb=>?_⟩
  · refine⟨c1',?_,⟨_,_,(sb.2 _ Ap.TOz).trans b2⟩,b3.keep λo e=>(sb.2 _ Ap.i1z).trans e,b4.keep λo e=>(sb.2 _ Ap.i2z).trans e⟩
    exact(sb.2 _ Ap.TIz).trans (b7 TI _ Ap.TIz Ap.TITO Ap.TIi1 Ap.TIi2 s2)
  · have hb':b<s.heap.objs.size:=by
     simp only[zw,zy,or_false]at hb
     rcases hb with rfl|rfl|rfl|rfl|rfl
     ·exact zlt
     ·exact zn s2
     ·exact zn s3
     ·obtain⟨_,e,_⟩:=s4.there;exact zn e
     ·obtain⟨_,e,_⟩:=s5.there;exact zn e
    rw[J6 (zA hb')]
    exact(hf b hb).1
 done:=by
  intro X hP hw hK hc i pins s O H E I hf st hg
  subst hP hw hK
  obtain⟨xs,ys,q1,q2,hend⟩:=hg
  obtain⟨its1,r1,c1,z1⟩:=bY1 I q1
  obtain⟨its2,r2,c2,z2⟩:=bY1 I q2
  obtain⟨s1,s2,⟨a,c,s3⟩,s4,s5⟩:=st
  have hl1:=r1.length
  have hl2:=r2.length
  refine bU9 (I.ok.hd hc) Ap n1 n2 s1 s2 s3 s4 s5 c1 c2 (by rcases hend with h|h;left;simp;lia;right;simp;lia) λg b7=>⟨rfl,bB5 (t':=s.toks) I hf λb o hb e=>?_⟩
  simp only[zw,zy,or_false,not_or]at hb
  exact b7 b o hb.1 hb.2.2.1 hb.2.2.2.1 hb.2.2.2.2 e
 self:=λ_ _ _ _ _ st h=>wpAny_pyIter_zip st.1 h
def fI5(K:zj)(ta:TA):TI:=λO H R=>ta O H λvs H1=>∃k1 k2 a b xs ys,vs= [.ref a,.ref b]/\Sq K k1 H1 a xs/\Sq K k2 H1 b ys/\R (Itz K k1 k2 a b) H1
section
variable{X:Cx}{Z:XC}
theorem cB2{prog:zB}{w:zJ}{A:zF}{E:VSP}{s:zh}{k1 k2:Bool}{l1 l2:Addr}{xs ys:Array zf}{Q:VSP}(hl1:SC k1 s.heap l1 xs)(hl2:SC k2 s.heap l2 ys)
 (h:Q (.ref (zh4 k1 k2 s.heap l1 l2).objs.size) {s with heap:=zh5 k1 k2 s.heap l1 l2}):zp (zD prog w) A (call (.type "zip") [.ref l1,.ref l2]) Q E s:=by
 refine callType_new F.called_zip (by decide) (F.typeCall_zip_2 _ _) (F.newCall_zip_2 _ _) (λobj=>F.args_object_init_3 obj _ _) F.entry_zip_new (eC9 k1 k2 l1 l2 xs ys) ⟨hl1,hl2,?_⟩
 exact⟨⟨_,zm _ rfl,rfl⟩,h⟩
structure ZMk(k1 k2:Bool)(h h5:Heap)(l1 l2:Addr)(n:Nat):Prop where
 keep:∀b o,h.get? b=some o->h5.get? b=some o
 sz:h5.objs.size=n+5
 g5:xY h5 (n+4:Nat) (n+2:Nat) (n+3:Nat) .none
 g4:yn h5 (n+3:Nat) .none .none
 g3:yn h5 (n+2:Nat) (.ref n) (.ref (n+1:Nat))
 s1:SI k1 h5 n l1 0
 s2:SI k2 h5 (n+1:Nat) l2 0
theorem zmk{k1 k2:Bool}{h:Heap}{l1 l2:Addr}:(zh4 k1 k2 h l1 l2).objs.size=h.objs.size+4/\ZMk k1 k2 h (zh5 k1 k2 h l1 l2) l1 l2 h.objs.size:=by
 have z1:(zh1 k1 h l1).objs.size=h.objs.size+1:=jb ..
 have z2:(zh2 k1 k2 h l1 l2).objs.size=h.objs.size+2:=by rw[jb,z1]
 have z3:(zh3 k1 k2 h l1 l2).objs.size=h.objs.size+3:=by rw[jb,z2]
 have z4:(zh4 k1 k2 h l1 l2).objs.size=h.objs.size+4:=by rw[jb,z3]
 have z5:(zh5 k1 k2 h l1 l2).objs.size=h.objs.size+5:=by rw[jb,z4]
 have g5:xY (zh5 k1 k2 h l1 l2) (zh4 k1 k2 h l1 l2).objs.size (zh2 k1 k2 h l1 l2).objs.size (zh3 k1 k2 h l1 l2).objs.size .none:=zm _ rfl
 have g4:yn (zh5 k1 k2 h l1 l2) (zh3 k1 k2 h l1 l2).objs.size .none .none:=zg _ (zm _ rfl)
 have g3:yn (zh5 k1 k2 h l1 l2) (zh2 k1 k2 h l1 l2).objs.size (.ref h.objs.size) (.ref (zh1 k1 h l1).objs.size):=zg _ (zg _ (zm _ rfl))
 have g2:(zh5 k1 k2 h l1 l2).get? (zh1 k1 h l1).objs.size=some (bZ0 k2 l2):=zg _ (zg _ (zg _ (zm _ (by cases k2<;>rfl))))
 have g1:(zh5 k1 k2 h l1 l2).get? h.objs.size=some (bZ0 k1 l1):=zg _ (zg _ (zg _ (zg _ (zm _ (by cases k1<;>rfl)))))
 rw[z4,z2,z3]at g5
 rw[z3]at g4
 rw[z2,z1]at g3
 rw[z1]at g2
 refine⟨z4,λb o e=>zg _ (zg _ (zg _ (zg _ (zg _ e)))),z5,g5,g4,g3,?_,?_⟩
 · rcases k1 with _|_
   ·exact⟨_,g1,rfl,rfl⟩
   ·exact⟨_,g1,rfl,rfl⟩
 · rcases k2 with _|_
   ·exact⟨_,g2,rfl,rfl⟩
   ·exact⟨_,g2,rfl,rfl⟩
theorem SC.lt{k:Bool}{h:Heap}{a:Addr}{xs:Array zf}(c:SC k h a xs): @LT.lt Nat instLTNat a h.objs.size:=by
 rcases k with _|_
 ·obtain⟨o,e,_⟩:=(show h.IsList a _ from c);exact zn e
 ·obtain⟨o,e,_⟩:=(show h.IsTuple a _ from c);exact zn e
theorem cK1{prog:zB}{w:zJ}{A:zF}{E:VSP}{s:zh}{k1 k2:Bool}{l1 l2:Addr}{xs ys:Array zf}{Q:VSP}(hl1:SC k1 s.heap l1 xs)(hl2:SC k2 s.heap l2 ys)
 (h:∀(h5:Heap) (n:Nat),n=s.heap.objs.size->ZMk k1 k2 s.heap h5 l1 l2 n->Q (.ref (n+4:Nat)) {s with heap:=h5}):zp (zD prog w) A (call (.type "zip") [.ref l1,.ref l2]) Q E s:=by
 refine cB2 hl1 hl2 ?_
 have:=zmk (k1:=k1) (k2:=k2) (h:=s.heap) (l1:=l1) (l2:=l2)
 rw[this.1]
 exact h _ _ rfl this.2
theorem eG8{es:List Expr}{x1:Nat}{tp:Pos}{a b:Expr}{ta:TA}{p pos:Pos}(hg:Gl X "zip")(hm:X.mg "zip" =none)(ha:PA X [a,b] ta)(hs:zM [a,b] X.env= [(false,eval a X.env),(false,eval b X.env)])(hs2:zM [b] X.env= [(false,eval b X.env)])(hbt:zO "zip" =some (.type "zip")):
 PI X (.Tuple es x1 tp) (.Call (.Name "zip" p) [a,b] [] pos) (fI5 X.K ta):=by
 intro pins s O H R I h
 refine Call_ (aO4 I hg hm hbt (jF (thn (ha pos pins s O H _ I h) λus s1 hE1=>hE1.elim λvs H1 I1 r1 q1=>?_) (by rw[hs,hs2]) (by rw[hs2];rfl)))
 obtain⟨k1,k2,l1,l2,xs,ys,rfl,q1,q2,q⟩:=q1
 obtain⟨u1,u2,rfl,ru1,ru2⟩:=cM0 r1
 cases ru1
 cases ru2
 obtain⟨its1,rr1,c1,z1⟩:=bY1 I1 q1
 obtain⟨its2,rr2,c2,z2⟩:=bY1 I1 q2
 refine cK1 c1 c2 λh5 n en Z=>?_
 have n1:=dL2 (en▸c1.lt)
 have n2:=dL2 (en▸c2.lt)
 refine wpAny_pyIter_zip Z.g5 ?_
 refine⟨(n+4:Nat),_,_,Itz X.K k1 k2 l1 l2,H1,rfl,I1.kept (t':=s1.toks) Z.keep,dO3 (eW3 n) n1 n2,⟨Z.g5,Z.g3,⟨_,_,Z.g4⟩,Z.s1,Z.s2⟩,λb hb=>?_,q⟩
 have hb':s1.heap.objs.size<=b:=en▸fA9 hb
 exact I1.fpOk hb' (I1.hok.fresh hb')
end
section
variable{X:Cx}{Z:XC}
variable{tg e:Expr}
open Classical in
noncomputable def ckO(r:Nat)(o:DO):DH->Bool:=λG=>decide (G[r]? =some o)
def aU2:D->M Src:=λx=>match x with
 | .tup l=>pure ⟨l,λ_=>true⟩
 | .ref r=>do
   let o <-S7 r
   let l <-listOf o
   pure ⟨l,ckO r o⟩
 |_=>M.stuck
def eX5(c:Wc)(U:List Addr)(H:Hp)(k:Bool)(a:Addr)(s:Src):Prop:=∀ X9 G' H',Ext U H X9 H'->J0 c X9 G' H'->s.ck G'=true->∃vs,Sq c.K k H' a vs/\v9 c X9 H' s.items vs
theorem bK0{α:Type}{c:Wc}{U:List Addr}{H:Hp}{G:DH}{d:D}{v:V}{f:Src->M α}{K:α->List Addr->DH->Hp->Prop}(h:J0 c U G H)(r:j8 c U H d v)(p:j7 c Z U H ((aU2 d >>= f) G) K):
 ∃s k a vs,v= .ref a/\Sq c.K k H a vs/\v9 c U H s.items vs/\eX5 c U H k a s/\s.ck G=true/\(∀i,d= .ref i->k=false)/\j7 c Z U H (f s G) K:=by
 rcases d with _|_|_|_|l|i|_|_<;>try (exact p.elim;done)
 ·
   unfold j8 at r
   obtain⟨a,vs,rfl,q,rl⟩:=r
   exact⟨⟨l,λ_=>true⟩,true,a,vs,rfl,q,rl,λX9 G' H' x h' _=>⟨vs,x.sqT q,rl.mono x⟩,rfl,(λi z=>nomatch z),p⟩
 ·
   unfold j8 at r
   obtain⟨a,m,rfl⟩:=r
   have p':j7 c Z U H ((S7 i >>= λo=>(listOf o >>= λl=>(pure ⟨l,ckO i o⟩:M Src)) >>= f) G) K:=by rw[<-M.bind_assoc];exact p
   obtain⟨o,g,p2⟩:=Q0 p'
   have ro:=h.obj i o a g m
   have ck:ckO i o G=true:=by unfold ckO;simp[g]
   cases o with
   |lst l=>
     obtain⟨vs,q,rl⟩:=ro
     refine⟨⟨l,ckO i (.lst l)⟩,false,a,vs,rfl,SqL.of q,rl,λX9 G' H' x h' hck=>?_,ck,(λ_ _=>rfl),p2⟩
     have g':G'[i]? =some (.lst l):=by unfold ckO at hck;simpa using hck
     obtain⟨vs',q',rl'⟩:=h'.obj i _ a g' (cE6 x.pre m)
     exact⟨vs',SqL.of q',rl'⟩
   |rol l=>
     obtain⟨vs,q,rl⟩:=ro
     refine⟨⟨l,ckO i (.rol l)⟩,false,a,vs,rfl,q.sq,rl,λX9 G' H' x h' hck=>?_,ck,(λ_ _=>rfl),p2⟩
     have g':G'[i]? =some (.rol l):=by unfold ckO at hck;simpa using hck
     obtain⟨vs',q',rl'⟩:=h'.obj i _ a g' (cE6 x.pre m)
     exact⟨vs',q'.sq,rl'⟩
   |dct l=>exact p2.elim
   |rod l=>exact p2.elim
theorem cX1{c:Wc}{U:List Addr}{H:Hp}{l:List D}{vs:List V}{i:Nat}{d:D}{x:V}(r:v9 c U H l vs)(h:l[i]? =some d)(hx:vs[i]? =some x):j8 c U H d x:=by
 obtain⟨v,e,q⟩:=r.get h
 rw[hx]at e
 cases e
 exact q
noncomputable def M4(lo:Int)(n:Nat):List D:=(jw n).map fun(i:Nat)=>D.int (lo+(i:Int))
def aC0(fs:DSt->M (List D)):DSt->M Src:=λO=>do
 match <-fs O with
 |[.int j]=>if -(2 ^ 62)<=j/\j<2 ^ 62 then pure ⟨M4 0 j.toNat,λ_=>true⟩else M.stuck
 |_=>M.stuck
theorem dD2{c:Wc}{U:List Addr}{H:Hp}(lo:Int)(n:Nat):ItD c U H (Itr lo n) ⟨M4 lo n,λ_=>true⟩:=λX9 G' H' x' h' _ i=>by
 refine⟨λd hd=>?_,λhi=>?_⟩
 · have hi:i<n:=by have:=lt_of_get hd;simpa [M4]using this
   have e:d= .int (lo+i):=by
    unfold M4 at hd
    rw[zZ,List.getElem?_range hi]at hd
    simp at hd
    exact hd.symm
   subst e
   exact⟨hi,λx H2 ⟨e1,e2⟩=>by subst e1 e2;exact⟨Ext.refl _ _,h',ofI⟩⟩
 · show n<=i
   simpa [M4]using hi
theorem eB0{a:Expr}{fs:DSt->M (List D)}{p pos:Pos}(hg:Gl X "range")(hm:X.mg "range" =none)(ha:DA X Z [a] fs)(hs:zM [a] X.env= [(false,eval a X.env)]):DI X Z tg (.Call (.Name "range" p) [a] [] pos) (aC0 fs):=
 DI.of (dB5 hg hm ha.h hs) λO H R hE0=>hE0.elim λZ8 U G s h p=>⟨Z8,U,G,s,h,(j7.bind p).mono λds X1 G1 H1 x1 h1 p1 vs rv=>by
  rcases ds with _|⟨_|_|j|_|_|_|_|_,_|⟨_,_⟩⟩<;>dsimp only at p1<;>try exact p1.elim
  · split at p1
    · rename_i hj
      obtain⟨v,t,rfl,r0,e⟩:=rv
      cases e
      exact⟨j,by rw[aF7 r0],hj.1,hj.2,j7.ok p1 h1 _ (dD2 0 _)⟩
    ·exact p1.elim⟩
def cK6(fs:DSt->M (List D)):DSt->M Src:=λO=>do
 match <-fs O with
 |[a,b]=>do
   let s1 <-aU2 a
   let s2 <-aU2 b
   pure ⟨(s1.items.zip s2.items).map λp=>.tup [p.1,p.2],λG=>s1.ck G&&s2.ck G⟩
 |_=>M.stuck
theorem cX6{c:Wc}{U:List Addr}{H:Hp}{G:DH}{q:Addr}{ds:List D}{vs:List V}(h:J0 c U G H)(hq:H q=none)(r:v9 c U H ds vs):Ext U H U (upd H q (.tup vs))/\J0 c U G (upd H q (.tup vs))/\j8 c U (upd H q (.tup vs)) (.tup ds) (.ref q):=by
 have k:Ext U H U (upd H q (.tup vs)):=Ext.lay hq _
 refine⟨k,h.same k λa o e n=>by rw[J6 (K5 e hq)];exact e,?_⟩
 unfold j8
 exact⟨q,vs,rfl,SqT.of R9,r.mono k⟩
theorem eN0{es:List Expr}{x1:Nat}{tp:Pos}{a b:Expr}{fs:DSt->M (List D)}{p pos:Pos}(hg:Gl X "zip")(hm:X.mg "zip" =none)(ha:DA X Z [a,b] fs)(hs:zM [a,b] X.env= [(false,eval a X.env),(false,eval b X.env)])(hs2:zM [b] X.env= [(false,eval b X.env)])(hbt:zO "zip" =some (.type "zip")):
 DI X Z (.Tuple es x1 tp) (.Call (.Name "zip" p) [a,b] [] pos) (cK6 fs):=
 DI.of (eG8 hg hm ha.h hs hs2 hbt) λO H R hE0=>hE0.elim λZ8 U G s h p=>⟨Z8,U,G,s,h,(j7.bind p).mono λds X1 G1 H1 x1 h1 p1 vs rv=>by
  rcases ds with _|⟨d1,_|⟨d2,_|⟨_,_⟩⟩⟩<;>dsimp only at p1<;>try exact p1.elim
  · obtain⟨v1,t1,rfl,r1,v2,t2,rfl,r2,e⟩:=rv
    cases e
    obtain⟨s1,k1,a1,w1,rfl,q1,l1,is1,ck1,_,p2⟩:=bK0 h1 r1 p1
    obtain⟨s2,k2,a2,w2,rfl,q2,l2,is2,ck2,_,p3⟩:=bK0 h1 r2 p2
    refine⟨k1,k2,a1,a2,w1,w2,rfl,q1,q2,j7.ok p3 h1 _ λX9 G' H' x' h' ck' i=>?_⟩
    have ck'':s1.ck G'=true/\s2.ck G'=true:=by simpa using ck'
    obtain⟨u1,q1',l1'⟩:=is1 X9 G' H' x' h' ck''.1
    obtain⟨u2,q2',l2'⟩:=is2 X9 G' H' x' h' ck''.2
    refine⟨λd hd=>?_,λhi=>?_⟩
    · rw[zZ]at hd
      rcases hz:(s1.items.zip s2.items)[i]? with _|pr
      ·rw[hz]at hd;cases hd
      ·
        rw[hz]at hd
        obtain⟨e1,e2⟩:=pr
        have hd':d= .tup [e1,e2]:=by simpa using hd.symm
        subst hd'
        rw[List.getElem?_zip_eq_some]at hz
        obtain⟨y1,hy1,ry1⟩:=l1'.get hz.1
        obtain⟨y2,hy2,ry2⟩:=l2'.get hz.2
        refine⟨⟨u1,u2,y1,y2,q1',q2',hy1,hy2⟩,λx H2 ⟨q,z1,z2,hq,ex,eH,f1,f2⟩=>?_⟩
        subst ex eH
        have g1:=f1 u1 q1'
        have g2:=f2 u2 q2'
        rw[hy1]at g1
        rw[hy2]at g2
        cases g1
        cases g2
        exact cX6 h' hq ⟨y1,_,rfl,ry1,y2,_,rfl,ry2,rfl⟩
    · refine⟨u1,u2,q1',q2',?_⟩
      rw[<-l1'.length,<-l2'.length]
      simp at hi
      lia⟩
end
def aD4:List D->M D:=λds=>match ds with
 |[.str z]=>if z.length<=zk then pure (.int z.length)else M.stuck
 |[.tup l]=>pure (.int l.length)
 |[.ref r]=>do
   match <-S7 r with
   | .lst l=>pure (.int l.length)
   | .rol l=>pure (.int l.length)
   | .dct l=>pure (.int l.length)
   | .rod _=>M.stuck
 |_=>M.stuck
def aD9:List D->M D:=λds=>match ds with
 |[.tup l]=>pure (.tup l)
 |[.ref r]=>do
   let l <-S7 r >>= listOf
   pure (.tup l)
 |_=>M.stuck
def bX9:List D->M D:=λds=>match ds with
 |[.tup l]=>R0 (.lst l)
 |[.ref r]=>do
   let l <-S7 r >>= listOf
   R0 (.lst l)
 |_=>M.stuck
def bW7:List D->M D:=λds=>match ds with
 |[.int i,.int j]=>pure (.int (if j<i then j else i))
 |_=>M.stuck
def cP3:List D->M D:=λds=>match ds with
 |[.int i,.int j]=>pure (.int (if j>i then j else i))
 |_=>M.stuck
def dH3:List D->M D:=λds=>match ds with
 |[.int i]=>pure (.int (if i<0 then -i else i))
 |_=>M.stuck
def dT8:List D->M D:=λds=>match ds with
 |[.int i]=>pure (.int i)
 |[.bl k]=>pure (.int (if k then 1 else 0))
 |_=>M.stuck
noncomputable def bG0:List D->Option (List Bool)
 |[]=>some []
 | .bl b::r=>(bG0 r).map (b :: ·)
 |_=>none
def cG5:List D->M D:=λds=>match ds with
 |[.ref r]=>do
   let l <-S7 r >>= listOf
   let bs <-aJ6 (bG0 l)
   pure (.bl (bs.all id))
 |_=>M.stuck
def dE8:List D->M D:=λds=>match ds with
 |[.ref r]=>do
   let l <-S7 r >>= listOf
   let bs <-aJ6 (bG0 l)
   pure (.bl (bs.any id))
 |_=>M.stuck
theorem dP1{α:Type}{F:List D->M α}{c:Wc}{Z:XC}{U:List Addr}{H:Hp}{G:DH}{K:α->List Addr->DH->Hp->Prop}{ds:List D}(p:j7 c Z U H (F ds G) K)(h0:F []=M.stuck)(h2:∀a b t,F (a::b::t)=M.stuck)(hn:F [.non]=M.stuck)(hb:∀b,F [.bl b]=M.stuck)(hi:∀b,F [.int b]=M.stuck)(hs:∀b,F [.str b]=M.stuck)(ht:∀b,F [.tup b]=M.stuck)(hf:∀b,F [.fn b]=M.stuck)(hy:∀b,F [.ty b]=M.stuck):∃r,ds= [.ref r]:=by
 rcases ds with _|⟨d,_|⟨_,_⟩⟩
 ·rw[h0]at p;exact p.elim
 · rcases d with _|b|b|b|b|b|b|b
   ·rw[hn]at p;exact p.elim
   ·rw[hb]at p;exact p.elim
   ·rw[hi]at p;exact p.elim
   ·rw[hs]at p;exact p.elim
   ·rw[ht]at p;exact p.elim
   ·exact⟨b,rfl⟩
   ·rw[hf]at p;exact p.elim
   ·rw[hy]at p;exact p.elim
 ·rw[h2]at p;exact p.elim
section
variable{X:Cx}{Z:XC}{c:Wc}{U:List Addr}{H:Hp}{G:DH}
theorem aU0{d:D}{vs:List V}(r:v9 c U H [d] vs):∃v,vs= [v]/\j8 c U H d v:=by
 obtain⟨v,t,rfl,q,e⟩:=r
 cases e
 exact⟨v,rfl,q⟩
theorem eS2{d e:D}{vs:List V}(r:v9 c U H [d,e] vs):∃v w,vs= [v,w]/\j8 c U H d v/\j8 c U H e w:=by
 obtain⟨v,t,rfl,q,v',t',rfl,q',z⟩:=r
 cases z
 exact⟨v,v',rfl,q,q'⟩
theorem eP1:Z3 X Z (.builtin "len") aD4:=Z3.of (aB5.or cE1 (aB5.or cD2 dG6)) λxs H Q hE0=>hE0.elim λds U G rl hr p=>by
 rcases ds with _|⟨_|_|_|z|l|i|_|_,_|⟨_,_⟩⟩<;>try exact p.elim
 all_goals (delta aD4 at p;dsimp only at p)
 · obtain⟨v,rfl,r⟩:=aU0 rl
   split at p
   · rename_i hz
     exact .inr (.inl ⟨z,by rw[aZ6 r],hz,j7.ok p hr _ ofI⟩)
   ·exact p.elim
 · obtain⟨v,rfl,r⟩:=aU0 rl
   unfold j8 at r
   obtain⟨a,vs,rfl,q,rl'⟩:=r
   exact .inl ⟨a,vs,rfl,.inr q,by rw[<-rl'.length];exact j7.ok p hr _ ofI⟩
 · obtain⟨v,rfl,r⟩:=aU0 rl
   unfold j8 at r
   obtain⟨a,m,rfl⟩:=r
   obtain⟨o,g,p1⟩:=Q0 p
   have ro:=hr.obj i o a g m
   rcases o with l|l|l|l
   ·obtain⟨vs,q,rl'⟩:=ro;exact .inl ⟨a,vs,rfl,.inl (SqL.of q),by rw[<-rl'.length];exact j7.ok p1 hr _ ofI⟩
   ·obtain⟨vs,q,rl'⟩:=ro;exact .inl ⟨a,vs,rfl,.inl q.sq,by rw[<-rl'.length];exact j7.ok p1 hr _ ofI⟩
   ·obtain⟨kvs,q,rk⟩:=ro;exact .inr (.inr ⟨a,kvs,rfl,q,by rw[<-rk.length];exact j7.ok p1 hr _ ofI⟩)
   ·exact p1.elim
theorem aG1{α:Type}{r:Nat}{v:V}{f:List D->M α}{K:α->List Addr->DH->Hp->Prop}(h:J0 c U G H)(rv:j8 c U H (.ref r) v)(p:j7 c Z U H (((S7 r >>= listOf) >>= f) G) K):
 ∃l a vs,v= .ref a/\v9 c U H l vs/\SqL c.K H a vs/\j7 c Z U H (f l G) K:=by
 obtain⟨l,a,vs,rfl,rl,p2,hq⟩:=bJ2 (d:=.ref r) (f:=f) h rv p
 refine⟨l,a,vs,rfl,rl,?_,p2⟩
 rcases hq with⟨z,_⟩|⟨_,_,_,⟨_,q⟩|⟨_,q⟩⟩
 ·cases z
 ·exact SqL.of q
 ·exact q.sq
theorem dK3:Z3 X Z (.type "tuple") aD9:=Z3.of bV9 λxs H Q hE0=>hE0.elim λds U G rl hr p=>by
 rcases ds with _|⟨_|_|_|_|l|i|_|_,_|⟨_,_⟩⟩<;>try exact p.elim
 all_goals (delta aD9 at p;dsimp only at p)
 · obtain⟨v,rfl,r⟩:=aU0 rl
   have r':=r
   unfold j8 at r'
   obtain⟨a,vs,rfl,q,rl'⟩:=r'
   exact⟨a,vs,rfl,.inr ⟨q,j7.ok p hr _ r⟩⟩
 · obtain⟨v,rfl,r⟩:=aU0 rl
   obtain⟨l,a,vs,rfl,rl',q,p2⟩:=aG1 hr r p
   exact⟨a,vs,rfl,.inl ⟨q,λl' hl=>bG7 hr rl' p2 l' hl⟩⟩
theorem dX6:Z3 X Z (.type "list") bX9:=Z3.of cF5 λxs H Q hE0=>hE0.elim λds U G rl hr p=>by
 rcases ds with _|⟨_|_|_|_|l|i|_|_,_|⟨_,_⟩⟩<;>try exact p.elim
 all_goals (delta bX9 at p;dsimp only at p)
 · obtain⟨v,rfl,r⟩:=aU0 rl
   unfold j8 at r
   obtain⟨a,vs,rfl,q,rl'⟩:=r
   exact⟨a,vs,rfl,.inr q,λl' hl=>aD1 hr rl' p l' hl⟩
 · obtain⟨v,rfl,r⟩:=aU0 rl
   obtain⟨l,a,vs,rfl,rl',q,p2⟩:=aG1 hr r p
   exact⟨a,vs,rfl,.inl q,λl' hl=>aD1 hr rl' p2 l' hl⟩
theorem eQ8(hc:X.calm=true):Z3 X Z (.builtin "min") bW7:=Z3.of (dG3 hc) λxs H Q hE0=>hE0.elim λds U G rl hr p=>by
 delta bW7 at p
 rcases ds with _|⟨_|_|i|_|_|_|_|_,t⟩<;>try exact p.elim
 rcases t with _|⟨_|_|j|_|_|_|_|_,_|⟨_,_⟩⟩<;>try exact p.elim
 obtain⟨v,w,rfl,r,r'⟩:=eS2 rl
 exact⟨_,_,by rw[aF7 r,aF7 r'],j7.ok p hr _ ofI⟩
theorem eU8(hc:X.calm=true):Z3 X Z (.builtin "max") cP3:=Z3.of (dD9 hc) λxs H Q hE0=>hE0.elim λds U G rl hr p=>by
 delta cP3 at p
 rcases ds with _|⟨_|_|i|_|_|_|_|_,t⟩<;>try exact p.elim
 rcases t with _|⟨_|_|j|_|_|_|_|_,_|⟨_,_⟩⟩<;>try exact p.elim
 obtain⟨v,w,rfl,r,r'⟩:=eS2 rl
 exact⟨_,_,by rw[aF7 r,aF7 r'],j7.ok p hr _ ofI⟩
theorem eJ9:Z3 X Z (.builtin "abs") dH3:=Z3.of dQ8 λxs H Q hE0=>hE0.elim λds U G rl hr p=>by
 rcases ds with _|⟨_|_|_|_|_|_|_|_,_|⟨_,_⟩⟩<;>try exact p.elim
 all_goals (delta dH3 at p;dsimp only at p)
 · obtain⟨v,rfl,r⟩:=aU0 rl
   exact⟨_,by rw[aF7 r],j7.ok p hr _ ofI⟩
theorem eS4:Z3 X Z (.type "int") dT8:=Z3.of dB0 λxs H Q hE0=>hE0.elim λds U G rl hr p=>by
 rcases ds with _|⟨_|_|_|_|_|_|_|_,_|⟨_,_⟩⟩<;>try exact p.elim
 all_goals (delta dT8 at p;dsimp only at p)
 · obtain⟨v,rfl,r⟩:=aU0 rl
   exact .inr ⟨_,by rw[cC6 r],j7.ok p hr _ ofI⟩
 · obtain⟨v,rfl,r⟩:=aU0 rl
   exact .inl ⟨_,by rw[aF7 r],j7.ok p hr _ ofI⟩
theorem bU6:∀ {l:List D} {bs:List Bool} {vs:List V} {us:List zf},bG0 l=some bs->v9 c U H l vs->J2 vs us->us.length=bs.length/\∀(i:Nat) (u:zf),us[i]? =some u->u=Value.bool (bs.getD i false)
 |[],_,_,_,e,r,q=>by cases e;cases r;cases q;exact⟨rfl,λi u h=>by simp at h⟩
 |d::ds,ns,_,_,e,r,q=>by
   obtain⟨v,t,rfl,r0,rt⟩:=r
   cases q with
   |cons q0 qt=>
     rcases d with _|n|_|_|_|_|_|_<;>try (cases e;done)
     ·
       replace e:(bG0 ds).map (n :: ·)=some ns:=e
       rcases h:bG0 ds with _|ms
       ·rw[h]at e;exact K1 e
       ·
         rw[h]at e
         cases e
         obtain⟨h1,h2⟩:=bU6 h rt qt
         refine⟨by simp[h1],λi u hu=>?_⟩
         cases i with
         |zero=>
           simp at hu;subst hu
           rw[cC6 r0]at q0
           exact q0
         |succ i=>simpa using h2 i u (by simpa using hu)
theorem dH1(bs:List Bool):((jw bs.length).all λi=>bs.getD i false)=bs.all id:=by
 induction bs with
 |nil=>rfl
 |cons b t ih=>rw[jg,Zw,ya,yH,ya];simp[yK];rw[<-ih];simp
theorem dC5(bs:List Bool):((jw bs.length).any λi=>bs.getD i false)=bs.any id:=by
 induction bs with
 |nil=>rfl
 |cons b t ih=>rw[jg,Zw,ju,yG,ju];simp[yK];rw[<-ih];simp
theorem bZ5{pins:PNS}{O:St}{s:zh}{a:Addr}{its:List zf}(hc:X.calm=true)(I:Inv X pins O H s)(hl:s.heap.IsList a its.toArray){Q:VSP}{E:VSP}
 (h:Walks X.prog X.w X.A.in1 s.heap.objs.size [s.heap.objs.size,a] [s.heap.objs.size] its.toArray.size (λi v=>its.toArray[i]? =some v) (λi h=>h.IsListIter s.heap.objs.size a i/\h.IsList a its.toArray)->
   ∀h2:Heap,(h2.IsListIter s.heap.objs.size a 0/\h2.IsList a its.toArray)->(∀b∈ [s.heap.objs.size,a],b<h2.objs.size)->(∀h' tk,(∀b o,b∉ [s.heap.objs.size]->h2.get? b=some o->h'.get? b=some o)->Inv X pins O H {s with heap:=h',toks:=tk})->Q (.ref s.heap.objs.size) {s with heap:=h2}):
 zp (zD X.prog X.w) X.A.in1 (YQ (.ref a)) Q E s:=by
 have hlt:a<s.heap.objs.size:=by obtain⟨_,e,_⟩:=hl;exact zn e
 refine xA hl ?_
 have hh:X.A.in1.handled=none:=I.ok.hd hc
 refine h (JD hh s.heap.objs.size a (zA hlt) its.toArray) _ ⟨⟨_,zm _ rfl,rfl,rfl⟩,hl.push _⟩ (λb hb=>?_) λh' tk k=>?_
 · rw[jb]
   simp only[zw,zy,or_false]at hb
   rcases hb with rfl|rfl
   ·exact yE _
   ·exact yw hlt
 ·exact I.kept λb o e=>k b o (by simp only[zP];exact zA (zn e)) (zg _ e)
theorem eO7(hc:X.calm=true):Z3 X Z (.builtin "all") cG5:=⟨by
 intro pins s O H xs us Q I r hE0
 obtain⟨ds,U,G,rl,hr,p⟩:=hE0
 obtain⟨i,rfl⟩:=dP1 (F:=cG5) p rfl (λa _ _=>by cases a<;>rfl) rfl (λ_=>rfl) (λ_=>rfl) (λ_=>rfl) (λ_=>rfl) (λ_=>rfl) λ_=>rfl
 · obtain⟨v,rfl,rv⟩:=aU0 rl
   obtain⟨u,rfl,ru⟩:=aI5 r
   obtain⟨l,a,vs,rfl,rl',q,p2⟩:=aG1 hr rv p
   cases ru
   obtain⟨bs,en,p3⟩:=aE2 p2
   obtain⟨its,rr,pl,hz⟩:=I.list q
   obtain⟨h1,h2⟩:=bU6 en rl' rr
   refine call_all_walk (bZ5 hc I pl.isList λW g hg hb hk=>⟨_,_,_,_,_,_,λi=>bs.getD i false,rfl,W,hg,λi v s' Q' E' hv hq=>?_,λh' tk k=>?_⟩)
   · rw[h2 i v (by simpa using hv)]
     exact xz hq
   · refine⟨.bl (bs.all id),H,hk h' tk k,?_,j7.ok p3 hr _ ofB⟩
     have e:its.toArray.size=bs.length:=by rw[zq];exact h1
     rw[e,dH1];rfl⟩
theorem eL0(hc:X.calm=true):Z3 X Z (.builtin "any") dE8:=⟨by
 intro pins s O H xs us Q I r hE0
 obtain⟨ds,U,G,rl,hr,p⟩:=hE0
 obtain⟨i,rfl⟩:=dP1 (F:=dE8) p rfl (λa _ _=>by cases a<;>rfl) rfl (λ_=>rfl) (λ_=>rfl) (λ_=>rfl) (λ_=>rfl) (λ_=>rfl) λ_=>rfl
 · obtain⟨v,rfl,rv⟩:=aU0 rl
   obtain⟨u,rfl,ru⟩:=aI5 r
   obtain⟨l,a,vs,rfl,rl',q,p2⟩:=aG1 hr rv p
   cases ru
   obtain⟨bs,en,p3⟩:=aE2 p2
   obtain⟨its,rr,pl,hz⟩:=I.list q
   obtain⟨h1,h2⟩:=bU6 en rl' rr
   refine call_any_walk (bZ5 hc I pl.isList λW g hg hb hk=>⟨_,_,_,_,_,_,λi=>bs.getD i false,rfl,W,hg,λi v s' Q' E' hv hq=>?_,λh' tk k=>?_⟩)
   · rw[h2 i v (by simpa using hv)]
     exact xz hq
   · refine⟨.bl (bs.any id),H,hk h' tk k,?_,j7.ok p3 hr _ ofB⟩
     have e:its.toArray.size=bs.length:=by rw[zq];exact h1
     rw[e,dC5];rfl⟩
theorem eW8{x:Str}{n:String}{pos:Pos}(hg:Gl X x)(hm:X.mg x=none)(hv:zO x=some (.type n))(hn:x≠ "__name__")(hd:(x==("__debug__" :Str))=false):DE X Z (.Name x pos) (cE (.ty n)):=
 dK9 (v:=.ty n) (dV5 hg hm hv rfl hn hd) λ_ _=>by unfold j8;rfl
end
def aF2:D->M Bool:=λx=>match x with
 | .non=>pure false
 | .bl b=>pure b
 | .int i=>pure (i != 0)
 | .str y=>if y.length<=zk then pure ((y.length:Int) != 0)else M.stuck
 | .tup l=>pure (!l.isEmpty)
 | .ref r=>do
   match <-S7 r with
   | .lst l=>pure (!l.isEmpty)
   | .rol l=>pure (!l.isEmpty)
   | .dct l=>pure (!l.isEmpty)
   | .rod _=>M.stuck
 |_=>M.stuck
def J8(f:Fe):DSt->M Bool:=λO=>do aF2 (<-f O)
section
variable{X:Cx}{Z:XC}{a b c e:Expr}{fa fb fc:Fe}{pos:Pos}
theorem aG5{cc:Wc}{U:List Addr}{H:Hp}{l:List D}{vs:List V}(r:v9 cc U H l vs):vs.isEmpty=l.isEmpty:=by
 cases l with
 |nil=>cases r;rfl
 |cons _ _=>obtain⟨_,_,rfl,_⟩:=r;rfl
theorem bU3{cc:Wc}{U:List Addr}{H:Hp}{l:List (Key×D)}{vs:List (Key×V)}(r:aD0 cc U H l vs):vs.isEmpty=l.isEmpty:=by
 cases l with
 |nil=>cases r;rfl
 |cons _ _=>obtain⟨_,_,rfl,_⟩:=r;rfl
theorem dU4(ha:DE X Z a fa)(he:∀whole,isTrue a X.env whole= (do let v <-whole;standAt a.pos;ZP [v] (truthy v))):DT X Z a (J8 fa):=
 DT.of (dU1 ha.h he) λO H Q hE0=>hE0.elim λZ8 U G s h p=>⟨Z8,U,G,s,h,(j7.bind p).mono λd X1 G1 H1 x1 h1 p1 v rv=>by
  cases d with
  |non=>rw[dT0 rv];exact⟨false,rfl,j7.ok p1 h1⟩
  |bl b=>rw[cC6 rv];exact⟨b,rfl,j7.ok p1 h1⟩
  |int b=>rw[aF7 rv];exact⟨_,rfl,j7.ok p1 h1⟩
  |str y=>
    rw[aZ6 rv]
    unfold aF2 at p1
    dsimp only at p1
    split at p1
    ·rename_i hz;exact⟨_,⟨hz,rfl⟩,j7.ok p1 h1⟩
    ·exact p1.elim
  |tup l=>
    unfold j8 at rv
    obtain⟨a,vs,rfl,q,rl⟩:=rv
    exact⟨!vs.isEmpty,.inr (.inl ⟨vs,q,rfl⟩),by rw[aG5 rl];exact j7.ok p1 h1⟩
  |ref r=>
    unfold j8 at rv
    obtain⟨a,m,rfl⟩:=rv
    obtain⟨o,g,p2⟩:=Q0 p1
    have ro:=h1.obj r o a g m
    cases o with
    |lst l=>obtain⟨vs,q,rl⟩:=ro;exact⟨!vs.isEmpty,.inl ⟨vs,SqL.of q,rfl⟩,by rw[aG5 rl];exact j7.ok p2 h1⟩
    |rol l=>obtain⟨vs,q,rl⟩:=ro;exact⟨!vs.isEmpty,.inl ⟨vs,q.sq,rfl⟩,by rw[aG5 rl];exact j7.ok p2 h1⟩
    |dct l=>obtain⟨vs,q,rl⟩:=ro;exact⟨!vs.isEmpty,.inr (.inr ⟨vs,q,rfl⟩),by rw[bU3 rl];exact j7.ok p2 h1⟩
    |rod l=>exact p2.elim
  |_=>exact p1.elim⟩
end
noncomputable def bO1(osc scope:Scope)(N XN:List Str)(caps:List (Option Nat)):Bool:=
 decide (scope.kind= .function)&&scope.names.all (λy=>decide (y.2≠ .cell))&&scope.names.all (λy=>decide (y.2= .local->scope.names.lookup y.1=some .local)) &&
 scope.names.all (λy=>decide (y.2= .free->(osc.names.lookup y.1=some .cell\/osc.names.lookup y.1=some .free)))&&scope.names.all (λy=>decide (y.2= .free->scope.names.lookup y.1=some .free)) &&
 decide (caps.length=N.length)&&(jw caps.length).all λi=>match caps[i]? with
  |some (some j)=>match N[i]?,XN[j]? with
    |some x,some y=>decide (x=y)&&decide ((x,NameKind.free)∈scope.names)
    |_,_=>false
  |_=>true
theorem aG7.of{X:Cx}{osc scope:Scope}{N XN:List Str}{caps:List (Option Nat)}(h:bO1 osc scope N XN caps=true)(hs:X.env.scope=osc)(hN:X.N=XN):aG7 X scope N caps:=by
 unfold bO1 at h
 simp only[jn,decide_eq_true_eq,xy]at h
 obtain⟨⟨⟨⟨⟨⟨h1,h2⟩,h3⟩,h4⟩,h5⟩,h6⟩,h7⟩:=h
 refine⟨h1,h2,h3,λy hy e=>?_,h5,h6,λi j e=>?_⟩
 · have:=h4 y hy e
   show X.env.scope.names.lookup y.1=_\/X.env.scope.names.lookup y.1=_
   rw[hs];exact this
 · have hi:i∈jw caps.length:=by rw[yX];exact lt_of_get e
   have q:=h7 i hi
   simp only[e]at q
   rw[hN]
   split at q
   · rename_i x y e1 e2
     simp only[jn,decide_eq_true_eq]at q
     exact⟨x,e1,by rw[e2,q.1],q.2⟩
   ·exact cJ8 q
def J7(m:Nat)(fb:Fs):List D->M D:=λds=>do
 match <-fb (ds.map some++zt (m-ds.length) none) with
 | .nx _=>pure .non
 | .rt d=>pure d
 |_=>M.stuck
structure FF(K:zj)(mg:Str->Option zf)(x:Str)(st:Stmt)(ps:List Str)(f:Addr)(fd:zY):Prop where
 F:Fun K x x st f fd
 b:bL0 K fd ps []
 m:mg x=some (.ref f)
theorem dG5{c:Wc}{U:List Addr}{H:Hp}{N:List Str}{ds:List D}{vs:List V}(r:v9 c U H ds vs):M9 c U H (ds.map some++zt (N.length-ds.length) none) (L2.start N vs):=by
 unfold L2.start
 rw[r.length]
 refine⟨by simp[r.length],λi d e=>?_⟩
 by_cases hi:i<ds.length
 · rw[zH (by simpa using hi),zZ]at e
   have hd:ds[i]? =some d:=by
    cases h:ds[i]? with
    |none=>rw[h]at e;exact K1 e
    |some d'=>rw[h]at e;simpa using e
   obtain⟨v,hv,rv⟩:=r.get hd
   refine⟨v,?_,rv⟩
   rw[zH (by simp;rw[<-r.length];exact hi),zZ,hv]
   rfl
 · rw[yk (by simpa using hi),xl]at e
   split at e<;>cases e
theorem W7{P:zB}{w:zJ}{K:zj}{mg:Str->Option zf}{base:Heap}{x:Str}{st:Stmt}{f:Addr}{fd:zY}{N ps:List Str}{k n m:Nat}{fb:Fs}(F:FF K mg x st ps f fd)(S:o9 N ps (m8 st))(hn:ps.length=n)(hm:N.length=m)
 (hbody:∀(cdv:zf) (A:zF) (outer:List Env) (s:zh) (H:Hp) (E:XK),aE6 k (A.deeper (Yp x (m8 st) s.heap.objs.size f cdv))->DB (cM3 CX0 P w K mg base N x (m8 st) f cdv A outer s H E).nox ZF (aA6 st) fb):
 K6 P w K mg base CX0 (k+1) f fd ps (spD ⟨K,mg⟩ n (J7 m fb)):=by
 refine F.F.ok S (λvs H Q E h=>by rw[hn];exact h.1) λcdv A outer s H vs Q E hr h=>⟨_,(hbody cdv A outer s H E hr).h,?_⟩
 obtain⟨hl,ds,U,G,rl,hG,p⟩:=h
 subst hm
 refine⟨_,U,G,dG5 rl,hG,(j7.bind p).mono λfl X1 G1 H1 x1 h1 p1=>?_⟩
 cases fl with
 |nx Z8=>exact λO _=>j7.ok p1 h1 _ ofN
 |rt d=>exact λv rv=>j7.ok p1 h1 v rv
 |bk _=>exact p1.elim
 |ct _=>exact p1.elim
def cV3(K:zj):Sp:=λvs H Q _=>∃(a:Addr) (ns:List Int),vs= [.ref a]/\SqL K H a (ns.map V.int)/\dY3 H/\ns.length<=63/\∀H',Q (.bl true) H'
theorem cJ9{c:Wc}{U:List Addr}{H:Hp}:∀ns:List Int,v9 c U H (ns.map D.int) (ns.map V.int)
 |[]=>rfl
 |n::t=>⟨.int n,_,rfl,ofI,cJ9 t⟩
theorem eO3{P:zB}{w:zJ}{K:zj}{mg:Str->Option zf}{base:Heap}{f:Addr}{fd:zY}{k:Nat}{F:List D->M D}(hF:K6 P w K mg base CX0 k f fd ["script"] (spD ⟨K,mg⟩ 1 F))
 (pure:∀ns:List Int,ns.length<=63->∃G',F [.ref 0] [.rol (ns.map D.int)]=some (.ok (.bl true),G')):K6 P w K mg base CX0 k f fd ["script"] (cV3 K):=
 hF.imp λvs H Q E h=>by
  obtain⟨a,ns,rfl,hS,hO,hl,q⟩:=h
  obtain⟨G',e⟩:=pure ns hl
  refine⟨rfl, [.ref 0], [a], [.rol (ns.map D.int)],⟨.ref a, [],rfl,by unfold j8;exact⟨a,rfl,rfl⟩,rfl⟩,⟨rfl,λi j b e1 e2=>?_,λi o b e1 e2=>?_⟩,?_⟩
  · have h1:=lt_of_get e1
    have h2:=lt_of_get e2
    simp at h1 h2
    left;lia
  · have h1:=lt_of_get e2
    simp at h1
    subst h1
    have e1':o= .rol (ns.map D.int):=by simpa using e1.symm
    have e2':b=a:=by simpa using e2.symm
    subst e1' e2'
    refine⟨ns.map V.int,?_,cJ9 ns⟩
    rcases hS with(hS|⟨o,hS⟩)|hS
    · rcases hO b with z|⟨o,xs,z⟩
      ·rw[z]at hS;exact K1 hS
      ·rw[z]at hS;cases hS
    ·exact .inl ⟨o,hS⟩
    ·exact .inr (.inr hS)
  · rw[e]
    exact λX9 H' _ _ v rv=>by rw[cC6 rv];exact q H'
theorem eS8:zO "len" =some (.builtin "len"):=by decide +kernel
theorem bV6:zO "isinstance" =some (.builtin "isinstance"):=by decide +kernel
theorem eM7:zO "all" =some (.builtin "all"):=by decide +kernel
theorem eO4:zO "any" =some (.builtin "any"):=by decide +kernel
theorem eF8:zO "min" =some (.builtin "min"):=by decide +kernel
theorem eL4:zO "max" =some (.builtin "max"):=by decide +kernel
theorem eF9:zO "abs" =some (.builtin "abs"):=by decide +kernel
theorem bY5:zO "sorted" =some (.builtin "sorted"):=by decide +kernel
theorem dQ4:zO "tuple" =some (.type "tuple"):=by decide +kernel
theorem eE2:zO "list" =some (.type "list"):=by decide +kernel
theorem eG5:zO "int" =some (.type "int"):=by decide +kernel
theorem eB3:zO "dict" =some (.type "dict"):=by decide +kernel
theorem eK2:zO "zip" =some (.type "zip"):=by decide +kernel
theorem cG9:zO "enumerate" =some (.type "enumerate"):=by decide +kernel
end DL
namespace DL
open PySem L2
noncomputable def Wp{α:Type}(m:M α)(G:DH)(Q:α->DH->Prop):Prop:=∃a G',m G=some (.ok a,G')/\Q a G'
section
variable{α β:Type}{G:DH}{Q Q':α->DH->Prop}
theorem Wp.mono{m:M α}(h:Wp m G Q)(k:∀a G',Q a G'->Q' a G'):Wp m G Q':=let ⟨a,G',e,q⟩:=h;⟨a,G',e,k a G' q⟩
theorem wp_pure{a:α}:Wp (pure a) G Q↔Q a G:=by
 constructor
 · rintro⟨b,G',e,q⟩
   cases e
   exact q
 ·exact λq=>⟨a,G,rfl,q⟩
theorem aL0:Wp (M.stuck:M α) G Q↔False:=by
 constructor
 · rintro⟨b,G',e,q⟩
   exact K1 e
 ·exact yj
theorem m9{m:M β}{f:β->M α}:Wp (m >>= f) G Q↔Wp m G λa G1=>Wp (f a) G1 Q:=by
 constructor
 · rintro⟨a,G',e,q⟩
   rw[M.bind_eq]at e
   match h:m G,e with
   |some (.ok b,G1),e=>exact⟨b,G1,h,a,G',e,q⟩
 · rintro⟨b,G1,e,a,G',e',q⟩
   exact⟨a,G',by rw[M.bind_ok e];exact e',q⟩
theorem aS6{m:M α}{a:α}{G':DH}(h:m G=some (.ok a,G')):Wp m G Q↔Q a G':=⟨fun⟨b,G2,e,q⟩=>by rw[h]at e;cases e;exact q,λq=>⟨a,G',h,q⟩⟩
theorem aL3{o:Option α}:Wp (aJ6 o) G Q↔∃a,o=some a/\Q a G:=by
 rcases o with _|a
 ·
   constructor
   · rintro⟨_,_,e,_⟩
     exact K1 e
   · rintro⟨_,e,_⟩
     exact K1 e
 ·
   constructor
   · rintro⟨_,_,e,q⟩
     cases e
     exact⟨_,rfl,q⟩
   · rintro⟨_,e,q⟩
     cases e
     exact⟨_,_,rfl,q⟩
theorem R8{r:Nat}{Q:DO->DH->Prop}:Wp (S7 r) G Q↔∃o,G[r]? =some o/\Q o G:=by
 constructor
 · rintro⟨a,G',e,q⟩
   delta S7 at e
   rcases h:G[r]? with _|o
   ·rw[h]at e;exact K1 e
   ·rw[h]at e;cases e;exact⟨_,rfl,q⟩
 · rintro⟨o,e,q⟩
   refine⟨o,G,?_,q⟩
   delta S7
   rw[e]
theorem X4{o:DO}{Q:DPP}:Wp (R0 o) G Q↔Q (.ref G.length) (G++[o]):=aS6 rfl
theorem bI0{r:Nat}{o:DO}{Q:Unit->DH->Prop}:Wp (bB9 r o) G Q↔Q () (G.set r o):=aS6 rfl
end
section
variable{G:DH}{O:DSt}{Q:DPP}{a b c:Fe}{t u:DSt->M Bool}{P:Fl->DH->Prop}{B:Bool->DH->Prop}
theorem o5{i:Nat}:Wp (b8 i O) G Q↔∃d,O[i]? =some (some d)/\Q d G:=by
 constructor
 · rintro⟨d,G',e,q⟩
   delta b8 at e
   rcases h:O[i]? with _|o
   ·rw[h]at e;exact K1 e
   ·
     rw[h]at e
     rcases o with _|d'
     ·exact K1 e
     ·cases e;exact⟨_,rfl,q⟩
 · rintro⟨d,h,q⟩
   exact⟨d,G,by delta b8;rw[h],q⟩
theorem Q9{d:D}:Wp (cE d O) G Q↔Q d G:=wp_pure
theorem w5{o:D->D->M D}:Wp (d9 o a b O) G Q↔Wp (a O) G λx G1=>Wp (b O) G1 λy G2=>Wp (o x y) G2 Q:=by unfold d9;simp only[m9]
theorem cN2{o:D->M D}:Wp (unE o a O) G Q↔Wp (a O) G λx G1=>Wp (o x) G1 Q:=by unfold unE;simp only[m9]
theorem aX1{α:Type}{k:Bool}{m n:M α}{R:α->DH->Prop}:Wp (if k=true then m else n) G R↔if k=true then Wp m G R else Wp n G R:=by cases k<;>exact Iff.rfl
theorem cX5{d:D}:Wp (dF7 d) G B↔∃k,d= .bl k/\B k G:=by
 constructor
 · rintro⟨k,G',e,q⟩
   rcases d with _|b|_|_|_|_|_|_<;>try (cases e;done)
   ·cases e;exact⟨_,rfl,q⟩
 · rintro⟨k,e,q⟩
   subst e
   exact⟨k,G,rfl,q⟩
theorem dR4:Wp (bI3 a O) G Q↔Wp (a O) G λx G1=>∃k,x= .bl k/\Q (.bl (!k)) G1:=by unfold bI3;simp only[m9,cX5,wp_pure]
theorem dS5:Wp (ifE t a b O) G Q↔Wp (t O) G λk G1=>if k=true then Wp (a O) G1 Q else Wp (b O) G1 Q:=by unfold ifE;simp only[m9,aX1]
theorem N7:Wp (o6 a O) G B↔Wp (a O) G λx G1=>∃k,x= .bl k/\B k G1:=by unfold o6;simp only[m9,cX5]
theorem U9:Wp (J8 a O) G B↔Wp (a O) G λx G1=>Wp (aF2 x) G1 B:=by unfold J8;simp only[m9]
theorem bF5:Wp (aQ4 t u O) G B↔Wp (t O) G λk G1=>if k=true then Wp (u O) G1 B else B false G1:=by unfold aQ4;simp only[m9,aX1,wp_pure]
theorem cR6:Wp (orT t u O) G B↔Wp (t O) G λk G1=>if k=true then B true G1 else Wp (u O) G1 B:=by unfold orT;simp only[m9,aX1,wp_pure]
theorem aO1:Wp (bH8 t O) G B↔Wp (t O) G λk G1=>B (!k) G1:=by unfold bH8;simp only[m9,wp_pure]
variable{R:List D->DH->Prop}{fs:DSt->M (List D)}
theorem m7:Wp (q11 O) G R↔R [] G:=wp_pure
theorem o8:Wp (q10 a fs O) G R↔Wp (a O) G λx G1=>Wp (fs O) G1 λxs G2=>R (x::xs) G2:=by unfold q10;simp only[m9,wp_pure]
theorem v8{F:List D->M D}:Wp (q12 F fs O) G Q↔Wp (fs O) G λds G1=>Wp (F ds) G1 Q:=by unfold q12;simp only[m9]
theorem cR0{α:Type}{m:M α}{R:α->DH->Prop}:Wp (noX m) G R↔Wp m G R:=by
 constructor
 · rintro⟨x,G',e,q⟩
   delta noX at e
   rcases h:m G with _|p
   ·rw[h]at e;exact K1 e
   ·
     rw[h]at e
     obtain⟨_|y,G1⟩:=p
     ·exact K1 e
     ·cases e;exact⟨_,_,h,q⟩
 · rintro⟨x,G',e,q⟩
   exact⟨x,G',by delta noX;rw[e],q⟩
theorem J4{n:Nat}{F:List D->M D}{ds:List D}:Wp (fnX n F ds) G Q↔ds.length=n/\Wp (F ds) G Q:=by
 unfold fnX
 by_cases h:ds.length=n
 ·rw[if_pos h,cR0];exact⟨λq=>⟨h,q⟩,λq=>q.2⟩
 ·rw[if_neg h];exact⟨λq=>(aL0.mp q).elim,λq=>(h q.1).elim⟩
theorem U6:Wp (v5 fs O) G Q↔Wp (fs O) G λxs G1=>xs.length<=zk/\Q (.tup xs) G1:=by
 unfold v5
 simp only[m9]
 constructor
 · rintro⟨xs,G1,e,q⟩
   refine⟨xs,G1,e,?_⟩
   by_cases h:xs.length<=zk
   ·rw[if_pos h]at q;exact⟨h,wp_pure.mp q⟩
   ·rw[if_neg h]at q;exact(aL0.mp q).elim
 · rintro⟨xs,G1,e,h,q⟩
   exact⟨xs,G1,e,by dsimp only;rw[if_pos h];exact wp_pure.mpr q⟩
theorem aJ5:Wp (W6 fs O) G Q↔Wp (fs O) G λxs G1=>xs.length<=zk/\Q (.ref G1.length) (G1++[.lst xs]):=by
 unfold W6
 simp only[m9]
 constructor
 · rintro⟨xs,G1,e,q⟩
   refine⟨xs,G1,e,?_⟩
   by_cases h:xs.length<=zk
   ·rw[if_pos h]at q;exact⟨h,X4.mp q⟩
   ·rw[if_neg h]at q;exact(aL0.mp q).elim
 · rintro⟨xs,G1,e,h,q⟩
   exact⟨xs,G1,e,by dsimp only;rw[if_pos h];exact X4.mpr q⟩
variable{f g:Fs}{gg:Fg}
theorem v6:Wp (u9 O) G P↔P (.nx O) G:=wp_pure
theorem j9:Wp (m5 f g O) G P↔Wp (f O) G λfl G1=>match fl with
 | .nx X2=>Wp (g X2) G1 P
 |r=>P r G1:=by
 delta m5
 refine Iff.trans m9 ?_
 constructor
 · rintro⟨fl,G1,e,q⟩
   refine⟨fl,G1,e,?_⟩
   cases fl<;>first
    |exact q
    |exact wp_pure.mp q
 · rintro⟨fl,G1,e,q⟩
   refine⟨fl,G1,e,?_⟩
   cases fl<;>first
    |exact q
    |exact wp_pure.mpr q
theorem M7:Wp (t6 a O) G P↔Wp (a O) G λd G1=>P (.rt d) G1:=by unfold t6;simp only[m9,wp_pure]
theorem aY2:Wp (aQ1 a O) G P↔Wp (a O) G λ_ G1=>P (.nx O) G1:=by unfold aQ1;simp only[m9,wp_pure]
theorem aD3:Wp (ifS t f g O) G P↔Wp (t O) G λk G1=>if k=true then Wp (f O) G1 P else Wp (g O) G1 P:=by unfold ifS;simp only[m9,aX1]
theorem N8:Wp (t8 a gg O) G P↔Wp (a O) G λd G1=>Wp (gg d O) G1 λX2 G2=>P (.nx X2) G2:=by unfold t8;simp only[m9,wp_pure]
theorem u0{i:Nat}{d:D}{S:DSt->DH->Prop}:Wp (q13 i d O) G S↔S (O.set i (some d)) G:=wp_pure
theorem R6{m:Nat}{ds:List D}:Wp (J7 m f ds) G Q↔Wp (f (ds.map some++zt (m-ds.length) none)) G λfl G1=>match fl with
 | .nx _=>Q .non G1
 | .rt d=>Q d G1
 |_=>False:=by
 delta J7
 refine Iff.trans m9 ?_
 constructor
 · rintro⟨fl,G1,e,q⟩
   refine⟨fl,G1,e,?_⟩
   cases fl<;>first
    |exact wp_pure.mp q
    |exact aL0.mp q
 · rintro⟨fl,G1,e,q⟩
   refine⟨fl,G1,e,?_⟩
   cases fl<;>first
    |exact wp_pure.mpr q
    |exact aL0.mpr q
noncomputable def eI8(o:Option Bool)(g:Bool->Bool)(G:DH):Option (Except Str D×DH):=match o with
 |some b=>some (.ok (.bl (g b)),G)
 |none=>none
theorem bH7{m:M D}{o:Option Bool}{g:Bool->Bool}(h:m G=eI8 o g G):Wp m G Q↔∃k,o=some k/\Q (.bl (g k)) G:=by
 unfold Wp
 rw[h]
 rcases o with _|k
 ·
   constructor
   · rintro⟨_,_,e,_⟩
     exact K1 e
   · rintro⟨_,e,_⟩
     exact K1 e
 ·
   constructor
   · rintro⟨_,_,e,q⟩
     cases e
     exact⟨_,rfl,q⟩
   · rintro⟨_,e,q⟩
     cases e
     exact⟨_,_,rfl,q⟩
theorem cJ1{x y:D}:Wp (eqD x y) G Q↔∃k,eqN 40 G x y=some k/\Q (.bl k) G:=bH7 (g:=id) rfl
theorem bP6{x y:D}:Wp (neD x y) G Q↔∃k,eqN 40 G x y=some k/\Q (.bl (!k)) G:=bH7 (g:=not) rfl
theorem fB5{x y:D}:Wp (ltD x y) G Q↔∃k,ltN 40 G x y=some k/\Q (.bl k) G:=bH7 (g:=id) rfl
theorem aZ2{d:D}{n:String}{T:Ty}(hT:Ty.of n=some T):Wp (v7 [d,.ty n]) G Q↔∃k,bH0 G d=some k/\Q (.bl (k.is T)) G:=by
 have e:v7 [d,.ty n] G=match bH0 G d with|some k=>some (.ok (.bl (k.is T)),G)|none=>none:=by
  delta v7
  dsimp only
  rw[hT]
  cases bH0 G d<;>rfl
 unfold Wp
 rw[e]
 rcases bH0 G d with _|k
 ·
   constructor
   · rintro⟨_,_,e,_⟩
     exact K1 e
   · rintro⟨_,e,_⟩
     exact K1 e
 ·
   constructor
   · rintro⟨_,_,e,q⟩
     cases e
     exact⟨_,rfl,q⟩
   · rintro⟨_,e,q⟩
     cases e
     exact⟨_,_,rfl,q⟩
end
end DL
namespace DL
open PySem PySem.Spec L2
open PyProof.Rows hiding St
section
variable{X:Cx}{Z:XC}{elt tg iter:Expr}{ifs:List Expr}{scope:Scope}{pos:Pos}{N:List Str}{caps:List (Option Nat)}{it:DSt->M Src}{gg:Fg}{tt:DSt->M Bool}{fe:Fe}
theorem dR7{y:Str}{py spos:Pos}{g2:Fg}(hc:X.calm=true)(hi:DI X Z tg iter it)(k:aG7 X scope N caps)
 (hg:∀C s H ex,DG (V8 X scope N C s H ex) ZF tg gg) (ht:∀C s H ex,DTs (V8 X scope N C s H ex) ZF ifs tt) (he:∀C s H ex,DE (V8 X scope N C s H ex) ZF elt fe)
 (hs:∀x,yz iter X.env x=pure x) (hgo:DG X Z (.Name y py) g2) (hsw:JK (.ListComp elt [⟨tg,iter,ifs,0⟩] scope pos) (some (.Name y py)) spos.line X.env=pure true):
 DS X Z (.Assign [.Name y py] (.ListComp elt [⟨tg,iter,ifs,0⟩] scope pos) spos) (t8 (Q6 it caps gg tt fe) g2):=by
 refine⟨?_⟩
 intro pins s O H En I hE0
 refine hE0.elim λZ8 U G sr hr p0=>?_
 obtain⟨Q,hQ,p⟩:∃Q:VK,(∀v H',Q v H'->bZ4 (wc X) Z g2 v O H' En.nx)/\j7 (wc X) Z U H (Q6 it caps gg tt fe Z8 G) λd X9 _ H'=>∀v,j8 (wc X) X9 H' d v->Q v H':=
  ⟨λv H'=>bZ4 (wc X) Z g2 v O H' En.nx,λ_ _ z=>z,(j7.bind p0).mono λd X1 G1 H1 x' h1 p1 v rv=>⟨d,Z8,X1,G1,rv,sr.mono x',h1,(j7.bind p1).mono λdσ2 WW G2 H2 x2 h2 p2 σ2 s2=>j7.ok p2 h2 σ2 s2⟩⟩
 rw[exec_Assign_Name_used _ _ _ _ hsw]
 refine za (Jz (za ?_))
 show zp _ X.A (do let _ <-comprehension (.ListComp elt [⟨tg,iter,ifs,0⟩] scope pos) scope X.env _ (newList []) false (eval iter X.env) (some (ZB (.Name y py) X.env))) _ _ s
 refine za (jG (bW9 (use:=some (ZB (.Name y py) X.env)) (PQ:=λ_ s'=>SP X pins En .next s') hc hi k hg ht he hs I sr hr p λDD C s4 H' m o hn fin hCn hf q9=>?_) (λ_ s' hq=>zi (zi hq)) λ_ _ e=>e)
 have fC:∀ {H9:Hp},H9 C=none->∀b∈ [C],aU3 X pins H9 b:=λ{H9} hn9 b hb=>by
  rw[zP]at hb
  subst hb
  exact hf H9 hn9
 obtain⟨oC,zC1,zC2,hoC,zC3⟩:=id hn
 have I5:=(fin s4.heap ⟨rfl,λ_ _=>rfl⟩).pinned (fp:= [C]) (fC hCn) (λb hb=>by
  rw[zP]at hb
  subst hb
  exact⟨oC,hoC,λv z=>by first|(rw[zC3.1]at z;cases z)|(rw[zC3.2.1]at z;cases z)⟩)
 refine thn (hgo.h _ s4 O H' (.ref DD) (.ref DD) _ I5 rfl (hQ _ _ q9)) λ_ s5 ⟨σ5,H5,I6,q6⟩=>?_
 obtain⟨g5,g5n,_⟩:=I6.pin (C,oC) (ja _ (ja _ (aM7 (by simp) hoC)))
 refine⟨m,hn.at' (λo e=>by rw[hoC]at e;cases e;exact g5),λh'' sb=>⟨σ5,H5,bB5 (t':=s5.toks) I6.unpinned (fC g5n) λb o hb e=>(sb.2 b (by simpa using hb)).trans e,q6⟩⟩
end
noncomputable def aG8:List D->Option (List Str)
 |[]=>some []
 | .str x::r=>(aG8 r).map (x :: ·)
 |_=>none
noncomputable def aA9:List (Key×D)->Option (List Str)
 |[]=>some []
 |(.inr x,_)::r=>(aA9 r).map (x :: ·)
 |_=>none
noncomputable def leS(a b:Str):Bool:= !decide (b.cps.toList<a.cps.toList)
def aC4(l:List Str):List Str:=l.mergeSort leS
theorem bO4{a b:Str}:leS a b=true↔a.cps.toList<=b.cps.toList:=by unfold leS;simp
theorem bZ7(a b c:Str)(h1:leS a b=true)(h2:leS b c=true):leS a c=true:=by
 rw[bO4]at *;exact List.le_trans h1 h2
theorem dA8(a b:Str):(leS a b||leS b a)=true:=by
 rw[Bool.or_eq_true,bO4,bO4];exact List.le_total _ _
theorem cC7{a b:Str}(h1:leS a b=true)(h2:leS b a=true):a=b:=by
 rw[bO4]at *
 have e:a.cps.toList=b.cps.toList:=List.le_antisymm h1 h2
 cases a;cases b
 congr 1
 exact Array.toList_inj.mp e
theorem bX1:∀(l:List Str) (p:Str),risingS p l=true->(p::l).Pairwise λa b=>leS a b=true
 |[],p,_=>by simp
 |x::r,p,h=>by
   unfold risingS at h
   rw[jn]at h
   have ih:=bX1 r x h.2
   have hpx:leS p x=true:=by unfold leS;rw[<-ltCps_eq];exact h.1
   refine JU.mpr ⟨λy hy=>?_,ih⟩
   rcases zw.mp hy with rfl|hy
   ·exact hpx
   ·exact bZ7 _ _ _ hpx ((JU.mp ih).1 y hy)
theorem bT1{l l':List Str}(hp:l'.Perm l)(hs:sortedS l'=true):l'=aC4 l:=by
 have h1:l'.Pairwise λa b=>leS a b=true:=by
  rcases l' with _|⟨x,r⟩
  ·simp
  ·exact bX1 r x hs
 have h2:(aC4 l).Pairwise λa b=>leS a b=true:=List.pairwise_mergeSort bZ7 dA8 l
 exact List.Perm.eq_of_pairwise (λa b _ _ h1 h2=>cC7 h1 h2) h1 h2 (hp.trans (yA l leS).symm)
section
variable{prog:zB}{w:zJ}{A:zF}{E:VSP}{s:zh}{T:String}{r d:Addr}{n:Nat}{P:Nat->zf->Prop}{OK:Heap->Prop}{Q:VSP}
theorem cQ1(K:PySem.W.KdlSrc prog w T r d n P OK)(hh:A.handled=none)(hok:OK s.heap)(hn:n<64){ss:List Str}(hP:∀vs:List zf,vs.length=n->(∀(j:Nat) (v:zf),vs[j]? =some v->P j v)->StrsAre vs ss)
 (h:∀(h1 h':Heap) (tk e:Nat) (out:List zf) (ss':List Str),(∀b o,s.heap.get? b=some o->h1.get? b=some o)->(∀b o,h1.get? b=some o->h'.get? b=some o)->h'.get? h1.objs.size=some (YT "list" out.toArray e)->StrsAre out ss'->ss'.Perm ss->sortedS ss'=true->Q (.ref h1.objs.size) {s with heap:=h',toks:=tk}):
 zp (zD prog w) A (call (.builtin "sorted") [.ref r]) Q E s:=by
 have hz:n<=zk:=zI (yx hn) (by decide)
 refine xV kind_sorted plain_sorted entry_sorted (args_sorted1 _) ?_
 unfold jY.«sorted»
 refine za (m:=checkCount "sorted" 1 1 _) (zi ?_)
 refine za (PySem.W.kdu_collect (A:=A.in1) K hh hok hz λh1 tk acc hk hacc=>?_)
 have hl:acc.toList.length=n:=by rw[jl];exact hacc.1
 refine za (JA ?_ (by rw[hl];exact hz))
 have hS:StrsAre acc.toList ss:=hP acc.toList hl λj v e=>hacc.2 j v (by rw[<-ji];exact e)
 have hoL:(h1.push (YT "list" acc.toList.toArray 0)).get? h1.objs.size=some (YT "list" acc.toList.toArray 0):=zm _ rfl
 refine za (jz (zV Jh ⟨_,hoL,rfl⟩ XT (XS JG hoL hS.keysOf (λv₁ v₂ rest e=>keyKind_strs (by rw[<-e];exact hS)) (by rw[hl];exact hn) λst' a1 a2=>⟨_,rfl,?_⟩) (Ji _)))
 obtain⟨ss',b1,b2,b3⟩:=Jf hS a1 a2
 obtain⟨e,he⟩:=JH (vs:=acc.toList) (out:=(jT st').map (·.2)) hoL
 refine zi ⟨_,rfl,h h1 _ tk e ((jT st').map (·.2)).toList ss' hk (λb o hb=>?_) (by rw[xD];exact he) b1 b2 b3⟩
 have hlt:b<h1.objs.size:=zn hb
 rw[Jg (zA hlt) (by rw[size_push'];exact yw hlt),Yt _ _ _ (zA hlt)]
 exact hb
end
def cD5:List D->M D:=λds=>match ds with
 |[.ref r]=>do
   match <-S7 r with
   | .dct l=>do
     let ss <-aJ6 (aA9 l)
     if ss.length<64 then R0 (.lst ((aC4 ss).map .str))else M.stuck
   |_=>M.stuck
 |_=>M.stuck
section
variable{X:Cx}{Z:XC}{c:Wc}{U:List Addr}{H:Hp}{G:DH}
theorem bL7:∀ {l:List (Key×D)} {ss:List Str},aA9 l=some ss->ss.length=l.length
 |[],_,e=>by cases e;rfl
 |(.inr x,_)::r,ss,e=>by
  replace e:=show (aA9 r).map (_ :: ·)=some _ from e
  rcases h:aA9 r with _|t
  ·rw[h]at e;cases e
  ·rw[h]at e;cases e;simp[bL7 h]
 |(.inl _,_)::_,_,e=>by cases e
theorem bD9{P:zB}{w:zJ}:∀ {l:List (Key×D)} {ss:List Str} {kvs:List (Key×V)} {xs:List (Key×zf)} {vs:List zf},aA9 l=some ss->aD0 c U H l kvs->KV kvs xs->vs.length=xs.length->
 (∀(j:Nat) (v:zf),vs[j]? =some v->∃k x,xs[j]? =some (k,x)/\(Q4 P w).is k v=true)->StrsAre vs ss
 |[],_,_,xs,vs,e,r,kv,hl,hv=>by
   cases e;cases r;cases kv
   rcases vs with _|⟨_,_⟩
   ·exact .nil
   ·simp at hl
 |(.inr x,d)::t,ss,kvs,xs,vs,e,r,kv,hl,hv=>by
  replace e:=show (aA9 t).map (_ :: ·)=some _ from e
  rcases h:aA9 t with _|q
  ·rw[h]at e;cases e
  ·
    rw[h]at e
    cases e
    obtain⟨v0,tl,rfl,r0,rt⟩:=r
    cases kv with
    |cons hk ht=>
      cases vs with
      |nil=>simp at hl
      |cons u us=>
        obtain⟨k,y,e1,e2⟩:=hv 0 u rfl
        simp only[zc,zd]at e1
        have hk1:(Sum.inr x:Key)=_:=hk.1
        rw[e1]at hk1
        have e3:bR1 (.inr x) u=true:=by rw[hk1];exact e2
        rcases S5 e3 with⟨_,_,z,_⟩|⟨x',t',z,eu⟩
        ·cases z
        · cases z
          subst eu
          exact .cons _ _ (bD9 (P:=P) (w:=w) h rt ht (by simpa using hl) λj v hj=>by simpa using hv (j+1) v (by simpa using hj))
 |(.inl _,_)::_,_,_,_,_,e,_,_,_,_=>by cases e
theorem bF1:∀ {out:List zf} {ss:List Str},StrsAre out ss->∃vs,vs=ss.map V.str/\J2 vs out/\v9 c U H (ss.map D.str) vs
 |_,_,.nil=>⟨[],rfl,.nil,rfl⟩
 |_,_,.cons x t q=>by
   obtain⟨vs,e,h1,h2⟩:=bF1 q
   subst e
   exact⟨_,rfl,.cons ⟨t,rfl⟩ h1,_,_,rfl,by unfold j8;rfl,h2⟩
theorem dH0(hc:X.calm=true):Z3 X Z (.builtin "sorted") cD5:=⟨by
 intro pins s O H xs us Q I r hE0
 obtain⟨ds,U,G,rl,hr,p⟩:=hE0
 rcases ds with _|⟨_|_|_|_|_|i|_|_,_|⟨_,_⟩⟩<;>try exact p.elim
 all_goals (delta cD5 at p;dsimp only at p)
 · obtain⟨v,rfl,rv⟩:=aU0 rl
   obtain⟨u,rfl,ru⟩:=aI5 r
   unfold j8 at rv
   obtain⟨a,m,rfl⟩:=rv
   cases ru
   obtain⟨o,g,p1⟩:=Q0 p
   have ro:=hr.obj i o a g m
   cases o with
   |dct l=>
     obtain⟨kvs,q,rk⟩:=ro
     obtain⟨ss,es,p2⟩:=aE2 p1
     split at p2
     case isFalse=>exact p2.elim
     rename_i h64
     obtain⟨z,hd,vs,rel,dd⟩:=cW7 I.hok q
     obtain⟨ep,hat⟩:=dd.dictAt
     have hn:vs.length=ss.length:=by rw[bL7 es,<-rel.length,<-rk.length]
     refine cQ1 (PySem.W.kdl_dict (knd:=Q4 X.prog X.w) (kvs:=vs) (ep:=ep) hd) (I.ok.hd hc) hat (by omega) (ss:=ss) (λus hl hu=>bD9 es rk rel (by omega) hu) λh1 h' tk e out ss' k1 k2 he hS hp hs=>?_
     have e2:=bT1 hp hs
     subst e2
     obtain⟨ws,ew,rv,rl2⟩:=bF1 (c:=wc X) (U:=U) (H:=H) hS
     have I1:Inv X pins O H {s with heap:=h1,toks:=tk}:=I.kept k1
     have hf:=I1.hok.fresh (zo _)
     have hlen:ws.length<=zk:=by
      rw[ew,zl]
      have:=(yA ss leS).length_eq
      have e3:(aC4 ss).length=ss.length:=this
      have:(64:Nat)<=zk:=by decide
      omega
     refine⟨.ref h1.objs.size,upd H h1.objs.size (.lst ws),I1.laid (t':=tk) k2 (zo _) ⟨hlen,out,e,rv,he⟩,rfl,aD1 hr rl2 p2 _ hf⟩
   |lst l=>exact p1.elim
   |rod l=>exact p1.elim
   |rol l=>exact p1.elim⟩
end
noncomputable def Its(z:Str):It:=⟨λi _=>∃c,z.cps[i]? =some c,λi H x H'=>H'=H/\∃c,z.cps[i]? =some c/\x= .str ⟨#[c]⟩,λi _=>z.cps[i]? =none⟩
theorem cT6{P:zB}{w:zJ}{K:zj}{tg:Expr}(z:Str)(t:Tok)(it:Addr):bQ5 P w K tg (Its z) [it] it (λi h=>h.IsStrIter it "str_ascii_iterator" z t i) where
 mem:=by simp
 obj:=λi h st b hb=>by
  have e:b=it:=by simpa using hb
  subst e
  obtain⟨o,e,c,d⟩:=st
  exact⟨o,e,λv z=>by rw[d]at z;cases z⟩
 keep:=λi h h' st k=>let ⟨o,ho,r⟩:=st;⟨o,k it (by simp) o ho,r⟩
 item:=by
  intro X hP hw hK hc i pins s O H E I hf st hg
  subst hP hw hK
  obtain⟨c,hx⟩:=hg
  obtain⟨f0,f1,f2,f3,f4,f5⟩:=hf it (by simp)
  refine wpAny_pyNext_ascii_item st hx λh' st' sb=>?_
  have I1:Inv X pins O H {s with heap:=h',toks:=s.toks+1}:=I.turned (t':=s.toks+1) (λb o hb e=>(sb.2 b hb).trans e) f0 f1 f3 f4 f5
  obtain⟨o,e,cc,d⟩:=id st'
  exact⟨_,rfl,bY0 (s:={s with heap:=h',toks:=s.toks+1}) e cc d (by decide) ⟨.str ⟨#[c]⟩,H,I1,⟨_,rfl⟩,⟨rfl,c,hx,rfl⟩,st',λb hb=>(hf b hb).1⟩⟩
 done:=by
  intro X hP hw hK hc i pins s O H E I hf st hg
  subst hP hw hK
  obtain⟨f0,f1,f2,f3,f4,f5⟩:=hf it (by simp)
  exact wpAny_pyNext_ascii_end (I.ok.hd hc) st hg λh' eb=>⟨rfl,I.turned (t':=s.toks) (λb o hb e=>eb b o hb e) f0 f1 f3 f4 f5⟩
 self:=λ_ _ _ _ _ st h=>wpAny_pyIter_striter_ascii st h
theorem dF0{P:zB}{w:zJ}{K:zj}{tg:Expr}(z:Str)(t:Tok)(it:Addr):bQ5 P w K tg (Its z) [it] it (λi h=>h.IsStrIter it "str_iterator" z t i) where
 mem:=by simp
 obj:=λi h st b hb=>by
  have e:b=it:=by simpa using hb
  subst e
  obtain⟨o,e,c,d⟩:=st
  exact⟨o,e,λv z=>by rw[d]at z;cases z⟩
 keep:=λi h h' st k=>let ⟨o,ho,r⟩:=st;⟨o,k it (by simp) o ho,r⟩
 item:=by
  intro X hP hw hK hc i pins s O H E I hf st hg
  subst hP hw hK
  obtain⟨c,hx⟩:=hg
  obtain⟨f0,f1,f2,f3,f4,f5⟩:=hf it (by simp)
  refine wpAny_pyNext_wide_item st hx λh' st' sb=>?_
  have I1:Inv X pins O H {s with heap:=h',toks:=s.toks+1}:=I.turned (t':=s.toks+1) (λb o hb e=>(sb.2 b hb).trans e) f0 f1 f3 f4 f5
  obtain⟨o,e,cc,d⟩:=id st'
  exact⟨_,rfl,bY0 (s:={s with heap:=h',toks:=s.toks+1}) e cc d (by decide) ⟨.str ⟨#[c]⟩,H,I1,⟨_,rfl⟩,⟨rfl,c,hx,rfl⟩,st',λb hb=>(hf b hb).1⟩⟩
 done:=by
  intro X hP hw hK hc i pins s O H E I hf st hg
  subst hP hw hK
  obtain⟨f0,f1,f2,f3,f4,f5⟩:=hf it (by simp)
  exact wpAny_pyNext_wide_end (I.ok.hd hc) st hg λh' eb=>⟨rfl,I.turned (t':=s.toks) (λb o hb e=>eb b o hb e) f0 f1 f3 f4 f5⟩
 self:=λ_ _ _ _ _ st h=>wpAny_pyIter_striter_wide st h
section
variable{X:Cx}{Z:XC}{tg e:Expr}
noncomputable def cQ5(z:Str):List D:=z.cps.toList.map λc=>.str ⟨#[c]⟩
def eD9:D->M Src:=λx=>match x with
 | .str z=>pure ⟨cQ5 z,λ_=>true⟩
 | .tup l=>aU2 (.tup l)
 | .ref r=>aU2 (.ref r)
 |_=>M.stuck
end
section
variable{X:Cx}{Z:XC}{pos p q:Pos}
end
theorem aV0{P:zB}{w:zJ}{K:zj}{mg:Str->Option zf}{base:Heap}{CX:CXT}{k n:Nat}{f:Addr}{fd:zY}{ps:List Str}(hn:ps.length=n):K6 P w K mg base CX k f fd ps (spD ⟨K,mg⟩ n λ_=>M.stuck):=
 ⟨λvs H Q E h=>by rw[hn];exact h.1,λA outer s H args us vs Q E hr=>by
  intros
  rename_i h
  first
   |exact h.2.elim
   |(obtain⟨_,_,_,_,_,_,z⟩:=h;exact z.elim)⟩
end DL
namespace W
open PySem PySem.Spec L2 DL
open PyProof.Rows hiding St
theorem eG7:Ty.of "int" =some .int:=by rfl
theorem eC4:Ty.of "bool" =some .bool:=by rfl
theorem dS9:Ty.of "tuple" =some .tuple:=by rfl
def aJ9(G:DH)(d:D):Prop:=∃k,bH0 G d=some k
theorem st1{d:D}{n:Nat}:([d].map some++zt n none:DSt)[0]? =some (some d):=by rfl
theorem aB0{b:Bool}{P:Bool->Prop}:(∃k,D.bl b= .bl k/\P k)↔P b:=⟨fun⟨k,e,p⟩=>by cases e;exact p,λp=>⟨b,rfl,p⟩⟩
theorem Q8{α:Type}{b:α}{P:α->Prop}:(∃k,some b=some k/\P k)↔P b:=⟨fun⟨k,e,p⟩=>by cases e;exact p,λp=>⟨b,rfl,p⟩⟩
noncomputable def aM1:D->Bool
 | .int _=>true
 |_=>false
noncomputable def eQ5:Option Int->D
 |none=>.non
 |some i=>.int i
theorem ix_tup{l:List D}{i:Int}{G:DH}{Q:DPP}:Wp (ixD (.tup l) (.int i)) G Q↔∃d,atI l i=some d/\Q d G:=aL3
def bT6:Nat->DH->D->Prop
 |0,G,d=>aJ9 G d
 |n+1,G,d=>aJ9 G d/\∀l,d= .tup l->∀x∈l,bT6 n G x
theorem bT6.there{n:Nat}{G:DH}{d:D}(h:bT6 n G d):aJ9 G d:=by cases n;exact h;exact h.1
noncomputable def aJ4:D->Bool
 | .tup _=>true
 |_=>false
theorem eQ1{G:DH}{i:Nat}{k:Kd}(h:bH0 G (.ref i)=some k):k= .list\/k= .dict:=by
 delta bH0 at h
 dsimp only at h
 generalize G[i]? =x at h
 rcases x with _|_|_|_|_<;>cases h<;>first|exact .inl rfl|exact .inr rfl
theorem cI6(f:D->Bool)(P:Kd->Bool){d:D}{G:DH}{k:Kd}(h:bH0 G d=some k)(a:∀i,f (.ref i)=P .list/\f (.ref i)=P .dict)(b:f .non=P .non)(c:∀x,f (.bl x)=P .bool)(e:∀x,f (.int x)=P .int)(g:∀x,f (.str x)=P .str)(t:∀x,f (.tup x)=P .tuple):P k=f d:=by
 rcases d with _|x|x|x|x|i|_|_<;>try (cases h;done)
 ·cases h;exact b.symm
 ·cases h;exact(c x).symm
 ·cases h;exact(e x).symm
 ·cases h;exact(g x).symm
 ·cases h;exact(t x).symm
 ·rcases eQ1 h with rfl|rfl;exact(a i).1.symm;exact(a i).2.symm
theorem bE9{d:D}{G:DH}{Q:DPP}(h:aJ9 G d):Wp (v7 [d,.ty "tuple"]) G Q↔Q (.bl (aJ4 d)) G:=by
 obtain⟨k,h⟩:=h
 rw[aZ2 dS9]
 simp only[h,Q8]
 rw[cI6 aJ4 (λk=>k.is .tuple) h (λ_=>⟨rfl,rfl⟩) rfl (λ_=>rfl) (λ_=>rfl) (λ_=>rfl) λ_=>rfl]
theorem K4{b:Bool}{G:DH}{B:Bool->DH->Prop}:Wp (aF2 (.bl b)) G B↔B b G:=wp_pure
theorem cG6{l:List D}{G:DH}{Q:DPP}:Wp (aD4 [.tup l]) G Q↔Q (.int l.length) G:=wp_pure
theorem aA4{i j:Int}{G:DH}{Q:DPP}:Wp (eqD (.int i) (.int j)) G Q↔Q (.bl (decide (i=j))) G:=by
 have e:eqN 40 G (.int i) (.int j)=some (decide (i=j)):=by rfl
 rw[cJ1,e];exact Q8
theorem aW7{α:Type}{m:M α}{G:DH}{x:α}(h:Wp m G λa G'=>a=x/\G'=G):m G=some (.ok x,G):=by
 obtain⟨a,G',e,e1,e2⟩:=h
 subst e1 e2
 exact e
theorem Z0{g:Fg}{t:DSt->M Bool}{e:Fe}{ck:DH->Bool}{f:D->D}{G:DH}{I:DSt->Prop}(hck:ck G=true):∀(items:List D) (O:DSt),I O->
 (∀d∈items,∀ O,I O->∃ WZ,g d O G=some (.ok WZ,G)/\I WZ/\t WZ G=some (.ok true,G)/\e WZ G=some (.ok (f d),G))->M6 g t e ck items O G=some (.ok (items.map f),G)
 |[],O,_,_=>by unfold M6;simp only[hck,if_true,List.map]
 |d::r,O,i,h=>by
   obtain⟨WZ,h1,i1,h2,h3⟩:=h d (by simp) O i
   have h4:=Z0 hck r WZ i1 λd hd=>h d (by simp[hd])
   unfold M6
   simp only[hck,if_true]
   rw[M.bind_ok h1,M.bind_ok h2,if_pos rfl,M.bind_ok h3,M.bind_ok h4]
   rfl
theorem cC4{α:Type}{f:α->Bool}:∀l:List α,bG0 (l.map λx=>D.bl (f x))=some (l.map f)
 |[]=>rfl
 |a::r=>by show (bG0 (r.map λx=>D.bl (f x))).map (f a :: ·)=_;rw[cC4 r];rfl
theorem cB7{G:DH}{r:Nat}{l:List D}{f:D->Bool}{Q:DPP}(h:G[r]? =some (.lst (l.map λx=>.bl (f x)))):Wp (cG5 [.ref r]) G Q↔Q (.bl (l.all f)) G:=by
 unfold cG5
 simp only[m9,R8,h,Q8,DL.listOf,wp_pure,aL3,cC4]
 simp[yH,yK]
theorem aM6{i j:Int}{G:DH}{Q:DPP}:Wp (ltD (.int i) (.int j)) G Q↔Q (.bl (decide (i<j))) G:=by
 have e:ltN 40 G (.int i) (.int j)=some (decide (i<j)):=by rfl
 rw[fB5,e];exact Q8
theorem aH2{i j:Int}{G:DH}{Q:DPP}:Wp (W5 (.int i) (.int j)) G Q↔Q (.int (i+j)) G:=wp_pure
theorem at0{a b:D}:atI [a,b] 0=some a:=by rfl
theorem at1{a b:D}:atI [a,b] 1=some b:=by rfl
section
variable{G:DH}{O:DSt}{P:Fl->DH->Prop}{g:Fg}{b:Fs}{ck:DH->Bool}
theorem aK2:Wp (aI0 g b ck [] O) G P↔ck G=true/\P (.nx O) G:=by
 unfold aI0
 constructor
 · rintro⟨a,G',e,q⟩
   by_cases h:ck G=true
   ·simp only[h,if_true]at e;cases e;exact⟨h,q⟩
   ·simp only[h]at e;exact K1 e
 · rintro⟨h,q⟩
   exact⟨_,G,by simp only[h,if_true],q⟩
theorem aK4{d:D}{r:List D}:Wp (aI0 g b ck (d::r) O) G P↔ck G=true/\Wp (g d O) G λWZ G1=>Wp (b WZ) G1 λfl G2=>match fl with
 | .nx X2=>Wp (aI0 g b ck r X2) G2 P
 | .ct X2=>Wp (aI0 g b ck r X2) G2 P
 | .bk X2=>P (.nx X2) G2
 | .rt d=>P (.rt d) G2:=by
 have e:Wp (aI0 g b ck (d::r) O) G P↔ck G=true/\Wp (do
  match <-b (<-g d O) with
  | .nx X2=>aI0 g b ck r X2
  | .ct X2=>aI0 g b ck r X2
  | .bk X2=>pure (.nx X2)
  | .rt d=>pure (.rt d):M Fl) G P:=by
  rw[aI0]
  constructor
  · rintro⟨a,G',e,q⟩
    by_cases h:ck G=true
    ·simp only[h,if_true]at e;exact⟨h,a,G',e,q⟩
    ·simp only[h]at e;exact K1 e
  · rintro⟨h,a,G',e,q⟩
    exact⟨a,G',by simp only[h,if_true];exact e,q⟩
 rw[e]
 simp only[m9]
 refine and_congr_right λ_=>?_
 constructor
 · rintro⟨WZ,G1,e1,fl,G2,e2,q⟩
   refine⟨WZ,G1,e1,fl,G2,e2,?_⟩
   cases fl<;>first
    |exact q
    |exact wp_pure.mp q
 · rintro⟨WZ,G1,e1,fl,G2,e2,q⟩
   refine⟨WZ,G1,e1,fl,G2,e2,?_⟩
   cases fl<;>first
    |exact q
    |exact wp_pure.mpr q
theorem aO8{it:DSt->M Src}:Wp (aS5 it g b O) G P↔Wp (it O) G λs G1=>Wp (aI0 g b s.ck s.items O) G1 P:=by unfold aS5;simp only[m9]
end
theorem aN7{i j:Int}{G:DH}{Q:DPP}:Wp (bB0 (.int i) (.int j)) G Q↔Q (.int (i-j)) G:=wp_pure
theorem eU3{i j:Int}{G:DH}{Q:DPP}:Wp (neD (.int i) (.int j)) G Q↔Q (.bl (!decide (i=j))) G:=by
 have e:eqN 40 G (.int i) (.int j)=some (decide (i=j)):=by rfl
 rw[bP6,e];exact Q8
theorem atI_nat{l:List D}{k:Nat}{s:D}(h:l[k]? =some s):atI l (k:Int)=some s:=by
 have hk:k<l.length:=by
  by_cases hk:k<l.length
  ·exact hk
  ·rw[zK (by omega)]at h;exact K1 h
 unfold atI ixN
 rw[if_pos (by omega),if_pos (by omega)]
 simpa using h
section
variable{G:DH}{O:DSt}{Q:DPP}
theorem aA8{i j:Int}(h:0<j):Wp (aU1 (.int i) (.int j)) G Q↔Q (.int (i % j)) G:=by
 have e:aU1 (.int i) (.int j)=if 0<j then pure (.int (i % j))else M.stuck:=rfl
 rw[e,if_pos h];exact wp_pure
theorem aH7{i j:Int}(h:0<j/\j<2 ^ 100):Wp (aT9 (.int i) (.int j)) G Q↔Q (.int (i / j)) G:=by
 have e:aT9 (.int i) (.int j)=if bX5 i j then pure (.int (i / j))else M.stuck:=rfl
 rw[e,if_pos (show bX5 i j from h)];exact wp_pure
theorem aD8{i j:Int}(h:bW0 i j):Wp (aZ7 (.int i) (.int j)) G Q↔Q (.int (i*j)) G:=by
 have e:aZ7 (.int i) (.int j)=if bW0 i j then pure (.int (i*j))else M.stuck:=rfl
 rw[e,if_pos h];exact wp_pure
theorem bJ1{r:Nat}{l:List D}{i:Int}(h:G[r]? =some (.lst l)):Wp (ixD (.ref r) (.int i)) G Q↔∃d,atI l i=some d/\Q d G:=by
 have e:ixD (.ref r) (.int i)= (do
  let l <-S7 r >>= DL.listOf
  aJ6 (atI l i)):=rfl
 rw[e]
 simp only[m9,R8,h,Q8,DL.listOf,wp_pure,aL3]
theorem dY7{r:Nat}{l:List D}{k:Int}{j:Nat}{d:D}{R:Unit->DH->Prop}(h:G[r]? =some (.lst l))(hj:ixN l.length k=some j):Wp (cS5 (.ref r) (.int k) d) G R↔R () (G.set r (.lst (l.set j d))):=by
 unfold cS5
 simp only[m9,R8,h,Q8,hj,bI0]
theorem dL3{fo fi:Fe}{d:D}{S:DSt->DH->Prop}:Wp (dS3 fo fi d O) G S↔Wp (fo O) G λo G1=>Wp (fi O) G1 λi G2=>Wp (cS5 o i d) G2 λ_ G3=>S O G3:=by
 unfold dS3;simp only[m9,wp_pure]
end
noncomputable def bU1(G:DH)(r:Nat):Prop:=∃a b c e:Int,G[r]? =some (.lst [.int a,.int b,.int c,.int e])/\0<=b/\b<2 ^ 40
def Fr(r:Nat)(G G':DH):Prop:=G.length<=G'.length/\(∀i,i≠r->i<G.length->G'[i]? =G[i]?)/\bU1 G' r
theorem bU1.lt{G:DH}{r:Nat}(h:bU1 G r):r<G.length:=by
 obtain⟨a,b,c,e,hr,_⟩:=h
 by_cases hi:r<G.length
 ·exact hi
 ·rw[zK (by omega)]at hr;exact K1 hr
theorem bU1.app{G t:DH}{r:Nat}(h:bU1 G r):bU1 (G++t) r:=by
 have hl:=h.lt
 obtain⟨a,b,c,e,hr,hb⟩:=h
 exact⟨a,b,c,e,by rw[zH hl];exact hr,hb⟩
theorem Fr.refl{r:Nat}{G:DH}(h:bU1 G r):Fr r G G:=⟨zo _,λ_ _ _=>rfl,h⟩
theorem Fr.trans{r:Nat}{G G1 G2:DH}(h:Fr r G G1)(k:Fr r G1 G2):Fr r G G2:=
 ⟨zI h.1 k.1,λi hi hl=>by rw[k.2.1 i hi (by have:=h.1;omega),h.2.1 i hi hl],k.2.2⟩
theorem Fr.app{r:Nat}{G t:DH}(h:bU1 G r):Fr r G (G++t):=⟨by simp,λi _ hl=>zH hl,h.app⟩
theorem Fr.set{r:Nat}{G:DH}{o:DO}(h:bU1 (G.set r o) r):Fr r G (G.set r o):=⟨by simp,λi hi hl=>by rw[jf (Ne.symm hi)],h⟩
theorem aZ0{i j:Int}{G:DH}{Q:DPP}(h:bK2 i j):Wp (aW2 (.int i) (.int j)) G Q↔Q (.int (i ^ j.toNat)) G:=by
 have e:aW2 (.int i) (.int j)=if bK2 i j then pure (.int (i ^ j.toNat))else M.stuck:=rfl
 rw[e,if_pos h];exact wp_pure
theorem p18{G:DH}{Q:DPP}:Wp (aW2 (.int 10) (.int 18)) G Q↔Q (.int 1000000000000000000) G:=by
 rw[aZ0 (by decide)];exact Iff.rfl
theorem bD4{i:Int}{G:DH}{Q:DPP}:Wp (cE8 (.int i)) G Q↔Q (.int (-i)) G:=wp_pure
theorem bR8{l:List D}{k:Int}(h0:0<=k)(h1:k<l.length):∃d,d∈l/\atI l k=some d:=by
 obtain⟨n,rfl⟩:=XY h0
 have hn:n<l.length:=by omega
 exact⟨l[n],Zp hn,atI_nat (zu hn)⟩
theorem sz{l:List D}(h:Nat.ble l.length 100=true:=by rfl):l.length<=zk:=zI (jp h) (by decide)
theorem sz2{a b:List D}(h:Nat.ble (a.length+b.length) 100=true:=by rfl):a.length+b.length<=zk:=zI (jp h) (by decide)
theorem Fr.lt{r:Nat}{G G':DH}(h:Fr r G G'):r<G'.length:=h.2.2.lt
theorem Fr.at{r p:Nat}{G G':DH}{o:DO}(h:Fr r G G')(hp:p≠r)(e:G[p]? =some o):G'[p]? =some o:=by
 have hl:p<G.length:=by
  by_cases hi:p<G.length
  ·exact hi
  ·rw[zK (by omega)]at e;exact K1 e
 rw[h.2.1 p hp hl];exact e
theorem eL7{G t:DH}{k:Nat}:(G++t)[G.length+k]? =t[k]? :=by
 rw[yk (by omega)];congr 1;omega
theorem cW6{G t:DH}:(G++t)[G.length]? =t[0]? :=eL7 (k:=0)
section
variable{G:DH}{O:DSt}{Q:DPP}
theorem cC3{i j:Int}:Wp (bW7 [.int i,.int j]) G Q↔Q (.int (if j<i then j else i)) G:=wp_pure
theorem bE0{t:D->M Unit}{m:D->List D->M D}{fo:Fe}{fs:DSt->M (List D)}:Wp (mtE t m fo fs O) G Q↔Wp (fo O) G λx G1=>Wp (t x) G1 λ_ G2=>Wp (fs O) G2 λxs G3=>Wp (m x xs) G3 Q:=by
 unfold mtE;simp only[m9]
theorem aB8{r:Nat}{l:List D}{R:Unit->DH->Prop}(h:G[r]? =some (.lst l)):Wp (V7 (.ref r)) G R↔R () G:=by
 delta V7;exact m9.trans ((R8.trans (by rw[h];exact Q8)).trans wp_pure)
theorem aM2{r:Nat}{l:List D}{y:D}(h:G[r]? =some (.lst l))(hl:l.length<zk):Wp (aC1 (.ref r) [y]) G Q↔Q .non (G.set r (.lst (l++[y]))):=by
 have e:aC1 (.ref r) [y]= (do
  let l <-lstM r
  if l.length<zk then do
   let _ <-bB9 r (.lst (l++[y]))
   pure .non
  else M.stuck):=rfl
 rw[e]
 unfold lstM
 simp only[m9,R8,h,Q8,wp_pure,hl,if_true,bI0]
theorem aK9{r:Nat}{l:List D}(h:G[r]? =some (.lst l)):Wp (aD9 [.ref r]) G Q↔Q (.tup l) G:=by
 have e:aD9 [.ref r]= (do
  let l <-S7 r >>= DL.listOf
  pure (.tup l)):=rfl
 rw[e]
 simp only[m9,R8,h,Q8,DL.listOf,wp_pure]
theorem cM6{l:List D}:Wp (bX9 [.tup l]) G Q↔Q (.ref G.length) (G++[.lst l]):=X4
theorem rng1{fs:DSt->M (List D)}{R:Src->DH->Prop}:Wp (aC0 fs O) G R↔Wp (fs O) G λxs G1=>Wp (match xs with
 |[.int j]=>if -(2 ^ 62)<=j/\j<2 ^ 62 then pure ⟨M4 0 j.toNat,λ_=>true⟩else M.stuck
 |_=>M.stuck:M Src) G1 R:=by
 delta aC0;exact m9
theorem rng1_int{j:Int}{R:Src->DH->Prop}(h: -(2 ^ 62)<=j/\j<2 ^ 62):Wp (match [D.int j] with
 |[.int j]=>if -(2 ^ 62)<=j/\j<2 ^ 62 then pure ⟨M4 0 j.toNat,λ_=>true⟩else M.stuck
 |_=>M.stuck:M Src) G R↔R ⟨M4 0 j.toNat,λ_=>true⟩ G:=by
 show Wp (if -(2 ^ 62)<=j/\j<2 ^ 62 then pure ⟨M4 0 j.toNat,λ_=>true⟩else M.stuck:M Src) G R↔_
 rw[if_pos h];exact wp_pure
theorem cX9{n:Nat}{g:Fgs}{l:List D}{S:DSt->DH->Prop}(h:l.length=n):Wp (aE0 n g (.tup l) O) G S↔Wp (g l O) G S:=by
 have e:aE0 n g (.tup l) O=if l.length=n then g l O else M.stuck:=rfl
 rw[e,if_pos h]
theorem cX4{g:Fgs}{a b:D}{S:DSt->DH->Prop}:Wp (aE0 2 g (.tup [a,b]) O) G S↔Wp (g [a,b] O) G S:=cX9 rfl
theorem bD1{g:Fg}{t:Fgs}{d:D}{l:List D}{S:DSt->DH->Prop}:Wp (w6 g t (d::l) O) G S↔Wp (g d O) G λWZ G1=>Wp (t l WZ) G1 S:=by
 have e:w6 g t (d::l) O= (do t l (<-g d O)):=rfl
 rw[e];simp only[m9]
theorem bO8{S:DSt->DH->Prop}:Wp (aF6 [] O) G S↔S O G:=wp_pure
theorem bO2{i j:Nat}{a b:List D}(ha:G[i]? =some (.lst a))(hb:G[j]? =some (.lst b))(hl:a.length+b.length<=zk):Wp (W5 (.ref i) (.ref j)) G Q↔Q (.ref G.length) (G++[.lst (a++b)]):=by
 have e:W5 (.ref i) (.ref j)= (do
  match <-S7 i,<-S7 j with
  | .lst a,.lst b=>if a.length+b.length<=zk then R0 (.lst (a++b))else M.stuck
  |_,_=>M.stuck):=rfl
 rw[e]
 simp only[m9,R8,ha,hb,Q8,if_pos hl,X4]
theorem bH2{a b:List D}(hl:a.length+b.length<=zk):Wp (W5 (.tup a) (.tup b)) G Q↔Q (.tup (a++b)) G:=by
 have e:W5 (.tup a) (.tup b)=if a.length+b.length<=zk then pure (.tup (a++b))else M.stuck:=rfl
 rw[e,if_pos hl];exact wp_pure
theorem aZ3{R:Option Int->DH->Prop}:Wp (Z4 O) G R↔R none G:=wp_pure
theorem bD2{f:Fe}{R:Option Int->DH->Prop}:Wp (aE1 f O) G R↔Wp (f O) G λx G1=>∃i,x= .int i/\R (some i) G1:=by
 delta aE1
 refine Iff.trans m9 ?_
 constructor
 · rintro⟨x,G1,e,q⟩
   refine⟨x,G1,e,?_⟩
   rcases x with _|_|i|_|_|_|_|_<;>try (exact(aL0.mp q).elim;done)
   ·exact⟨i,rfl,wp_pure.mp q⟩
 · rintro⟨x,G1,e,i,rfl,q⟩
   exact⟨_,G1,e,wp_pure.mpr q⟩
theorem sl_tup{l:List D}{lo hi:Option Int}:Wp (slD (.tup l) lo hi) G Q↔Q (.tup (DL.cutD l lo hi)) G:=wp_pure
theorem cT3:Wp (aX9 O) G Q↔Q (.ref G.length) (G++[.dct []]):=X4
theorem eC3{i:Int}{P:Int->Prop}:(∃k,D.int i= .int k/\P k)↔P i:=⟨fun⟨k,e,p⟩=>by cases e;exact p,λp=>⟨i,rfl,p⟩⟩
theorem cB3{l:List D}{lo hi:Option Int}{d:D}(h:d∈DL.cutD l lo hi):d∈l:=List.mem_of_mem_drop (List.mem_of_mem_take h)
theorem cH0(l:List D)(lo hi:Option Int):(DL.cutD l lo hi).length<=l.length:=by
 unfold DL.cutD
 rw[yZ,YI]
 omega
end
def bX0(d:D):Prop:=∃x y:Option Int,d= .tup [eQ5 x,eQ5 y]
def Fr2(r p:Nat)(G G':DH):Prop:=G.length<=G'.length/\(∀i,i≠r->i≠p->i<G.length->G'[i]? =G[i]?)/\bU1 G' r
theorem Fr2.trans{r p:Nat}{G G1 G2:DH}(h:Fr2 r p G G1)(k:Fr2 r p G1 G2):Fr2 r p G G2:=
 ⟨zI h.1 k.1,λi hi hp hl=>by rw[k.2.1 i hi hp (by have:=h.1;omega),h.2.1 i hi hp hl],k.2.2⟩
theorem Fr2.set{r p:Nat}{G:DH}{o:DO}(hp:p≠r)(h:bU1 G r):Fr2 r p G (G.set p o):=by
 refine⟨by simp,λi _ hi hl=>by rw[jf (Ne.symm hi)],?_⟩
 obtain⟨a,b,c,e,hr,hb⟩:=h
 exact⟨a,b,c,e,by rw[jf hp];exact hr,hb⟩
theorem dK7{G:DH}{p q:Nat}{xs:List D}{Q:DPP}(e:G[p]? =some (.lst xs))(eq:G[q]? =some (.lst [])):Wp (neD (.ref p) (.ref q)) G Q↔Q (.bl (!xs.isEmpty)) G:=by
 have h:eqN 40 G (.ref p) (.ref q)=some xs.isEmpty:=by
  have h1:S6 G (.ref p)=some (false,xs):=by delta S6;dsimp only;rw[e]
  have h2:S6 G (.ref q)=some (false, []):=by delta S6;dsimp only;rw[eq]
  rw[cJ5,h1,h2]
  cases xs<;>rfl
 rw[bP6,h];exact Q8
theorem bX0.set{xs:List D}{j:Nat}{d:D}(h:∀d∈xs,bX0 d)(hd:bX0 d):∀x∈xs.set j d,bX0 x:=λx hx=>by
 rcases XD hx with hx|rfl
 ·exact h x hx
 ·exact hd
theorem o4{G:DH}{o:DO}:(G++[o])[G.length]? =some o:=cW6
theorem U7{G t:DH}{p:Nat}{o:DO}(e:G[p]? =some o):(G++t)[p]? =some o:=by
 have hlt:p<G.length:=by
  by_cases hi:p<G.length
  ·exact hi
  ·rw[zK (by omega)]at e;exact K1 e
 rw[zH hlt];exact e
noncomputable def okD:D->Bool
 | .non=>true
 | .bl _=>true
 | .int _=>true
 | .str _=>true
 | .tup _=>true
 |_=>false
theorem dY9(x:Option Int):okD (eQ5 x)=true:=by cases x<;>rfl
theorem cL3{G:DH}{d:D}(h:okD d=true):aJ9 G d:=by
 cases d<;>first|exact⟨_,rfl⟩|exact cJ8 h
theorem fE6{G:DH}{l:List D}(h:∀x∈l,okD x=true):bT6 1 G (.tup l):=⟨⟨_,rfl⟩,λl' e x hx=>by cases e;exact cL3 (h x hx)⟩
theorem bX0.there{G:DH}{d:D}(h:bX0 d):bT6 1 G d:=by
 obtain⟨x,y,rfl⟩:=h
 exact fE6 λz hz=>by
  simp only[zw,zy,or_false]at hz
  rcases hz with rfl|rfl<;>exact dY9 _
noncomputable def Gr(G G':DH):Prop:=G.length<=G'.length/\∀i,i<G.length->G'[i]? =G[i]?
theorem Gr.refl{G:DH}:Gr G G:=⟨zo _,λ_ _=>rfl⟩
theorem Gr.trans{G G1 G2:DH}(h:Gr G G1)(k:Gr G1 G2):Gr G G2:=⟨zI h.1 k.1,λi hi=>by rw[k.2 i (by have:=h.1;omega),h.2 i hi]⟩
theorem Gr.app{G t:DH}:Gr G (G++t):=⟨by simp,λi hi=>zH hi⟩
theorem Gr.of{r:Nat}{G G1 G2:DH}(h:Gr G G1)(f:Fr r G1 G2)(hr:G.length<=r):Gr G G2:=⟨zI h.1 f.1,λi hi=>by rw[f.2.1 i (by omega) (by have:=h.1;omega),h.2 i hi]⟩
theorem Gr.at{p:Nat}{G G':DH}{o:DO}(h:Gr G G')(e:G[p]? =some o):G'[p]? =some o:=by
 have hl:p<G.length:=by
  by_cases hi:p<G.length
  ·exact hi
  ·rw[zK (by omega)]at e;cases e
 rw[h.2 p hl];exact e
theorem eD0{G:DH}{O:DSt}{p:Nat}{l:List D}{R:Src->DH->Prop}(e:G[p]? =some (.lst l)):Wp (aU2 (.ref p)) G R↔R ⟨l,ckO p (.lst l)⟩ G:=by
 have h:aU2 (.ref p)= (do
  let o <-S7 p
  let l <-DL.listOf o
  pure ⟨l,ckO p o⟩):=rfl
 rw[h]
 simp only[m9,R8,e,Q8,DL.listOf,wp_pure]
section
variable{G:DH}{O:DSt}{Q:DPP}
theorem aP7{B:Bool->DH->Prop}:Wp (W0 O) G B↔B true G:=wp_pure
variable{g:Fg}{t:DSt->M Bool}{e:Fe}{ck:DH->Bool}{R:List D->DH->Prop}
theorem bE3:Wp (M6 g t e ck [] O) G R↔ck G=true/\R [] G:=by
 unfold M6
 constructor
 · rintro⟨a,G',e,q⟩
   by_cases h:ck G=true
   ·simp only[h,if_true]at e;cases e;exact⟨h,q⟩
   ·simp only[h]at e;exact K1 e
 · rintro⟨h,q⟩
   exact⟨_,G,by simp only[h,if_true],q⟩
theorem bG6{d:D}{r:List D}:Wp (M6 g t e ck (d::r) O) G R↔ck G=true/\Wp (g d O) G λWZ G1=>Wp (t WZ) G1 λb G2=>if b=true then Wp (e WZ) G2 λy G3=>Wp (M6 g t e ck r WZ) G3 λys G4=>R (y::ys) G4 else Wp (M6 g t e ck r WZ) G2 R:=by
 have h0:Wp (M6 g t e ck (d::r) O) G R↔ck G=true/\Wp (do
  let WZ <-g d O
  if <-t WZ then do
   let y <-e WZ
   let ys <-M6 g t e ck r WZ
   pure (y::ys)
  else M6 g t e ck r WZ:M (List D)) G R:=by
  rw[M6]
  constructor
  · rintro⟨a,G',e,q⟩
    by_cases h:ck G=true
    ·simp only[h,if_true]at e;exact⟨h,a,G',e,q⟩
    ·simp only[h]at e;exact K1 e
  · rintro⟨h,a,G',e,q⟩
    exact⟨a,G',by simp only[h,if_true];exact e,q⟩
 rw[h0]
 simp only[m9,aX1,wp_pure]
theorem wp_comp{it:DSt->M Src}{caps:List (Option Nat)}:Wp (Q6 it caps g t e O) G Q↔Wp (it O) G λs G1=>s.items.length<=zk/\Wp (M6 g t e s.ck s.items (aD2 caps O)) G1 λys G2=>Q (.ref G2.length) (G2++[.lst ys]):=by
 unfold Q6
 simp only[m9]
 constructor
 · rintro⟨s,G1,e1,q⟩
   refine⟨s,G1,e1,?_⟩
   by_cases h:s.items.length<=zk
   · rw[if_pos h]at q
     simp only[m9,cR0,X4]at q
     exact⟨h,q⟩
   ·rw[if_neg h]at q;exact(aL0.mp q).elim
 · rintro⟨s,G1,e1,h,q⟩
   refine⟨s,G1,e1,?_⟩
   dsimp only
   rw[if_pos h]
   simp only[m9,cR0,X4]
   exact q
theorem aP5(J:DH->Prop)(S:DSt->Prop)(P:D->Prop)(hck:∀G,J G->ck G=true):∀(items:List D) (O:DSt) (G:DH),S O->J G->
 (∀d∈items,∀ O G,S O->J G->Wp (g d O) G λWZ G1=>G1=G/\S WZ/\Wp (t WZ) G λb G2=>b=true/\G2=G/\Wp (e WZ) G λy G3=>J G3/\P y)->
 Wp (M6 g t e ck items O) G λys G'=>J G'/\ys.length=items.length/\∀y∈ys,P y
 |[],O,G,s,j,_=>by
   rw[bE3]
   exact⟨hck G j,j,rfl,λy hy=>by cases hy⟩
 |d::r,O,G,s,j,step=>by
   rw[bG6]
   refine⟨hck G j,Wp.mono (step d (by simp) O G s j) λWZ G1 ⟨e1,s1,w1⟩=>?_⟩
   subst e1
   refine Wp.mono w1 λb G2 ⟨eb,e2,w2⟩=>?_
   subst eb e2
   rw[if_pos rfl]
   refine Wp.mono w2 λy G3 ⟨j3,py⟩=>?_
   refine Wp.mono (aP5 J S P hck r WZ G3 s1 j3 λd hd=>step d (by simp[hd])) λys G4 ⟨j4,l4,p4⟩=>⟨j4,by simp[l4],λz hz=>?_⟩
   rcases zw.mp hz with rfl|hz
   ·exact py
   ·exact p4 z hz
theorem bL9{p:D->Bool}{G:DH}(hck:ck G=true)(S:DSt->Prop):∀(items:List D) (O:DSt),S O->
 (∀d∈items,∀ O,S O->∃ WZ,g d O G=some (.ok WZ,G)/\S WZ/\t WZ G=some (.ok (p d),G)/\e WZ G=some (.ok d,G))->M6 g t e ck items O G=some (.ok (items.filter p),G)
 |[],O,_,_=>by unfold M6;simp only[hck,if_true,List.filter_nil]
 |d::r,O,i,h=>by
   obtain⟨WZ,h1,i1,h2,h3⟩:=h d (by simp) O i
   have h4:=bL9 hck S r WZ i1 λd hd=>h d (by simp[hd])
   unfold M6
   simp only[hck,if_true]
   rw[M.bind_ok h1,M.bind_ok h2]
   by_cases hp:p d=true
   · rw[if_pos hp,M.bind_ok h3,M.bind_ok h4,XU hp]
     rfl
   ·rw[if_neg hp,h4,XV hp]
end
section
variable{G:DH}{O:DSt}{Q:DPP}
theorem eM8:Ty.of "str" =some .str:=by rfl
noncomputable def aO9:D->Bool
 | .str _=>true
 |_=>false
noncomputable def aB4:D->Bool
 | .int _=>true
 | .bl _=>true
 |_=>false
theorem eJ8{d:D}(h:aJ9 G d):Wp (v7 [d,.ty "str"]) G Q↔Q (.bl (aO9 d)) G:=by
 obtain⟨k,h⟩:=h
 rw[aZ2 eM8]
 simp only[h,Q8]
 rw[cI6 (aO9) (λk=>k.is .str) h (λ_=>⟨rfl,rfl⟩) rfl (λ_=>rfl) (λ_=>rfl) (λ_=>rfl) λ_=>rfl]
theorem cP7{d:D}(h:aJ9 G d):Wp (v7 [d,.ty "int"]) G Q↔Q (.bl (aB4 d)) G:=by
 obtain⟨k,h⟩:=h
 rw[aZ2 eG7]
 simp only[h,Q8]
 rw[cI6 (aB4) (λk=>k.is .int) h (λ_=>⟨rfl,rfl⟩) rfl (λ_=>rfl) (λ_=>rfl) (λ_=>rfl) λ_=>rfl]
theorem dA5{d:D}(h:aJ9 G d):Wp (v7 [d,.tup [.ty "int",.ty "str"]]) G Q↔Q (.bl (aB4 d||aO9 d)) G:=by
 obtain⟨k,h⟩:=h
 have e:v7 [d,.tup [.ty "int",.ty "str"]] G=some (.ok (.bl (k.is .int||k.is .str)),G):=by
  have et:bR6 [.ty "int",.ty "str"]=some [.int,.str]:=by rfl
  unfold v7
  simp only[h,et,ju,List.any_nil,Zi]
 rw[aS6 e]
 rw[cI6 (λd=>aB4 d||aO9 d) (λk=>k.is .int||k.is .str) h (λ_=>⟨rfl,rfl⟩) rfl (λ_=>rfl) (λ_=>rfl) (λ_=>rfl) λ_=>rfl]
theorem aJ7{a b:Str}:Wp (eqD (.str a) (.str b)) G Q↔Q (.bl (a==b)) G:=by
 have e:eqN 40 G (.str a) (.str b)=some (a==b):=by rfl
 rw[cJ1,e];exact Q8
theorem dL1{a b:Str}:Wp (neD (.str a) (.str b)) G Q↔Q (.bl (!(a==b))) G:=by
 have e:eqN 40 G (.str a) (.str b)=some (a==b):=by rfl
 rw[bP6,e];exact Q8
theorem aW6{a b:Str}(h:a.length+b.length<=zk):Wp (W5 (.str a) (.str b)) G Q↔Q (.str (a++b)) G:=by
 have e:W5 (.str a) (.str b)=if a.length+b.length<=zk then pure (.str (a++b))else M.stuck:=rfl
 rw[e,if_pos h];exact wp_pure
theorem cN0{z:Str}(h:z.length<=zk):Wp (aD4 [.str z]) G Q↔Q (.int z.length) G:=by
 have e:aD4 [.str z]=if z.length<=zk then pure (.int z.length)else M.stuck:=rfl
 rw[e,if_pos h];exact wp_pure
theorem bQ6{x y:D}:Wp (bB7 x y) G Q↔∃k,inB x y G=some k/\Q (.bl (!k)) G:=bH7 (g:=not) (by unfold bB7 eI8;cases inB x y G<;>rfl)
theorem eE4{x y:D}:Wp (inD x y) G Q↔∃k,inB x y G=some k/\Q (.bl k) G:=bH7 (g:=id) (by unfold inD eI8;cases inB x y G<;>rfl)
theorem dR5{p:Nat}{l:List D}{R:Src->DH->Prop}(e:G[p]? =some (.lst l)):Wp (eD9 (.ref p)) G R↔R ⟨l,ckO p (.lst l)⟩ G:=eD0 (O:= []) e
end
end W
namespace DL
open PySem PySem.Spec L2
open PyProof.Rows hiding St
theorem dB8:ZO (.type "list_reverseiterator") "__len__" =pure none:=by rw[xp,yp];kernel_rfl
theorem dL9:ZO (.type "list_reverseiterator") "__length_hint__" =pure (some (.builtin "list_reverseiterator.__length_hint__")):=by rw[xp,yp];kernel_rfl
section
variable{prog:zB}{w:zJ}{A:zF}{E:VSP}{s:zh}{I l:Addr}{items:Array zf}
theorem dR0{Q:Bool->zh->Prop}(hT:s.TypeIs (.ref I) "list_reverseiterator")(h:Q false s):zp (zD prog w) A (yD (.ref I)) Q E s:=by
 unfold yD
 refine za (XO hT dB8 ?_)
 show zp _ A (specialOf (Value.ref I) (je "__length_hint__") >>= _) _ _ _
 refine za (XO hT dL9 ?_)
 generalize hid:("list_reverseiterator.__length_hint__" :String)=id0
 wp_delta
 rw[show splitId id0=some ("list_reverseiterator", "__length_hint__")from by subst hid;decide +kernel]
 subst hid
 refine za (xg (T:= "list_reverseiterator") (b:=true) hT (by rw[Yj];kernel_rfl) ?_)
 refine zi ?_
 exact h
theorem cO0{R:YS->zh->Prop}(hh:A.handled=none)(hI:s.heap.IsRevIter I l ((items.size:Int)-1))(hl:s.heap.IsList l items)(hne:l≠I)(S:Addr)(hSI:S≠I)(hSl:S≠l)(res:zf)(c₀:Nat)(hS:s.heap.get? S=some {cls:=.type "list",data:=.seq #[] c₀})
 (hR:∀h' tk acc' c',(∀b o,b≠S->b≠I->s.heap.get? b=some o->h'.get? b=some o)->h'.get? S=some {cls:=.type "list",dict:=none,data:=.seq acc' c',slots:= #[]}->ItemsOf (λi v=>items[items.size-1-i]? =some v) acc' items.size->R (.ok (.ret res)) {s with heap:=h',toks:=tk}) (hn:items.size<=zk):
 zp (zD prog w) A.in1 (jx (.ref S) (.ref I) res)
  (λfin s'=>match fin with| .done f=>R (.ok f) s'| .again c'=>c'.quiet=true/\xB (zD prog w) A c' R s') (λe s'=>R (.error e) s') s:=by
 have hSf:S∉ [I,l]:=by simp only[zw,zy,or_false,not_or];exact⟨hSI,hSl⟩
 have W:=Walks.listRev (prog:=prog) (w:=w) (A:=A.in1) hh I l hne items
 have st:(0<=items.size/\s.heap.IsRevIter I l ((items.size:Int)-1-((0:Nat):Int))/\s.heap.IsList l items):=⟨jR _,by simpa using hI,hl⟩
 unfold jx
 refine za (yP (T:= "list_reverseiterator") hI.typeIs ?_)
 have h1:yV (.ref S) (.ref I)=false:=by simp[yV,hSI]
 rw[if_neg (by rw[h1];decide)]
 refine za (wpAny_pyIter_revIter hI ?_)
 refine za (jz (dR0 hI.typeIs ?_))
 refine jK (λhab=>absurd hab (by decide)) (λ_=>?_)
 refine zi ⟨ye xO _,codeAny_extend_loopS W.toS hn S hSf res items.size 0 _ #[] c₀ rfl (jR _) st hS (ItemsOf.nil _) λs' acc' c' hm hS' hacc=>?_⟩
 rw[Moved.eq_with hm]
 refine hR s'.heap s'.toks acc' c' (λb o hb hbI e=>hm.heap b o (λhmem=>?_) e) hS' hacc
 rcases zw.mp hmem with e'|hmem
 ·exact hb e'
 ·exact hbI (zP.mp hmem)
theorem dI7{R:YS->zh->Prop}(hh:A.handled=none)(hI:s.heap.IsRevIter I l ((items.size:Int)-1))(hl:s.heap.IsList l items)(hne:l≠I)(S:Addr)(hSI:S≠I)(hSl:S≠l)(hS:s.heap.get? S=some {cls:=.type "list",data:=.seq #[]})
 (hR:∀h' tk acc' c',(∀b o,b≠S->b≠I->s.heap.get? b=some o->h'.get? b=some o)->h'.get? S=some {cls:=.type "list",dict:=none,data:=.seq acc' c',slots:= #[]}->ItemsOf (λi v=>items[items.size-1-i]? =some v) acc' items.size->R (.ok (.ret .none)) {s with heap:=h',toks:=tk}) (hn:items.size<=zk):
 zp (zD prog w) A.in1 (jY.«list.__init__» ⟨[.ref S,.ref I], []⟩)
  (λfin s'=>match fin with| .done f=>R (.ok f) s'| .again c'=>c'.quiet=true/\xB (zD prog w) A c' R s') (λe s'=>R (.error e) s') s:=by
 show zp _ _ (do let old <-YF (.ref S);Builtin.List.listUpdate (.ref S) (λ_=> #[]);letGo old.toList.reverse;jx (.ref S) (.ref I) .none) _ _ s
 refine za ?_
 unfold YF
 refine za (jJ hS rfl (zi ?_))
 show zp _ _ (updateSeq S (λ_=> #[]) >>= λ_=>letGo (#[]:Array zf).toList.reverse >>= λ_=>jx (.ref S) (.ref I) .none) _ _ s
 refine za (XM hS rfl ?_)
 have hS₂:=jU (xk (λ_=>(#[]:Array zf))) hS rfl
 have oth:∀b o,b≠S->s.heap.get? b=some o->(s.heap.update S (xk (λ_=>(#[]:Array zf)))).get? b=some o:=
  λb o hb e=>(jN _ _ (Ne.symm hb)).trans e
 refine za (XG ?_)
 refine cO0 hh (hI.at λo e=>oth I o (Ne.symm hSI) e) (hl.at λo e=>oth l o (Ne.symm hSl) e) hne S hSI hSl .none _ hS₂ (λh' tk acc' c' hk hS' hacc=>?_) hn
 exact hR h' tk acc' c' (λb o hb hbI e=>hk b o hb hbI (oth b o hb e)) hS' hacc
theorem dI8{Q:VSP}(hh:A.handled=none)(hI:s.heap.IsRevIter I l ((items.size:Int)-1))(hl:s.heap.IsList l items)(hne:l≠I)(hn:items.size<=zk)
 (hQ:∀h' tk acc' c',(∀b o,b≠I->s.heap.get? b=some o->h'.get? b=some o)->h'.get? s.heap.objs.size=some {cls:=.type "list",dict:=none,data:=.seq acc' c',slots:= #[]}->ItemsOf (λi v=>items[items.size-1-i]? =some v) acc' items.size->Q (.ref s.heap.objs.size) {s with heap:=h',toks:=tk}):
 zp (zD prog w) A (call (.type "list") [.ref I]) Q E s:=by
 refine Ja (Q₁:=λobj X0=>obj= .ref s.heap.objs.size/\X0= {s with heap:=s.heap.push {cls:=.type "list",data:=.seq #[]}}) PySem.F.called_list (PySem.F.typeCall_list_1 _) PySem.F.entry_list_init
  (code_list_new _ ⟨rfl,rfl⟩) λobj X0 h₁=>?_
 obtain⟨rfl,rfl⟩:=h₁
 have hS:(s.heap.push {cls:=.type "list",data:=.seq #[]}).get? s.heap.objs.size=some {cls:=.type "list",data:=.seq #[]}:=zm _ rfl
 have hltI:I<s.heap.objs.size:=by obtain⟨_,e,_⟩:=hI;exact zn e
 have hltl:l<s.heap.objs.size:=by obtain⟨_,e,_⟩:=hl;exact zn e
 refine⟨⟨_,hS,rfl⟩,PySem.F.args_list_init_2 _ _,dI7 (A:=A.in1) hh (hI.at λo e=>zg _ e) (hl.at λo e=>zg _ e) hne _ (yb hltI) (yb hltl) hS (λh' tk acc' c' hk hS' hacc=>?_) hn⟩
 exact⟨rfl,hQ h' tk acc' c' (λb o hbI e=>hk b o (zA (zn e)) hbI (zg _ e)) hS' hacc⟩
end
def cA5:D->M D:=λx=>match x with
 | .ref r=>do
   let l <-S7 r >>= listOf
   R0 (.lst l.reverse)
 |_=>M.stuck
section
variable{X:Cx}{Z:XC}{e:Expr}{fa:Fe}{p1 p2 pos1 pos2:Pos}
theorem dE4{its:List zf}{acc:Array zf}(h:ItemsOf (λi v=>its.toArray[its.toArray.size-1-i]? =some v) acc its.toArray.size):acc.toList=its.reverse:=by
 have hl:acc.toList.length=its.length:=by rw[jl,h.1];simp
 apply Yy
 intro i
 by_cases hi:i<its.length
 · have hi':i<acc.size:=by rw[h.1];simpa using hi
   have hv:=h.2 i acc[i] (jv hi')
   rw[List.getElem?_reverse hi,ji,jv hi',<-hv]
   simp
 ·rw[zK (by lia),zK (by rw[ZV];lia)]
theorem cQ0(he:DE X Z e fa)(hc:X.calm=true)(hg1:Gl X "list")(hm1:X.mg "list" =none)(hg2:Gl X "reversed")(hm2:X.mg "reversed" =none)
 (hs1:zM [Expr.Call (.Name "reversed" p2) [e] [] pos2] X.env= [(false,eval (.Call (.Name "reversed" p2) [e] [] pos2) X.env)]) (hs2:zM [e] X.env= [(false,eval e X.env)])
 (hb1:zO "list" =some (.type "list"):=by first|rfl|decide +kernel) (hb2:zO "reversed" =some (.type "reversed"):=by first|rfl|decide +kernel):
 DE X Z (.Call (.Name "list" p1) [.Call (.Name "reversed" p2) [e] [] pos2] [] pos1) (unE cA5 fa):=by
 refine⟨?_⟩
 intro pins s O H Q I hE0
 refine hE0.elim λZ8 U G sr h p=>?_
 refine Call_ (aO4 I hg1 hm1 hb1 (jF ?_ hs1 rfl))
 rw[hs1]
 refine xh (Call_ (aO4 I hg2 hm2 hb2 (jF ?_ hs2 rfl)))
 rw[hs2]
 refine xh (thn (he.h pins s O H _ I ⟨Z8,U,G,sr,h,(j7.bind p).mono λd X1 G1 H1 x1 h1 p1 v rv=>(⟨d,X1,G1,rv,h1,p1⟩:cD7 (wc X) Z cA5 v H1 Q)⟩) λv s1 ⟨x,H1,I1,r1,d,X1,G1,rd,h1,p1⟩=>?_)
 refine xo ?_
 rcases d with _|_|_|_|_|r|_|_<;>try (exact p1.elim;done)
 ·
   obtain⟨l,a,vs,rfl,rl,hq,p2⟩:=aG1 (f:=λl=>R0 (.lst l.reverse)) h1 rd p1
   cases r1
   obtain⟨its,rr,ht,hz⟩:=I1.list hq
   refine call_reversed_list ht.isList ?_
   refine xo ?_
   have hlt:a<s1.heap.objs.size:=by obtain⟨_,e,_⟩:=ht.isList;exact zn e
   have hI:(s1.heap.push (revObj a ((its.toArray.size:Int)-1))).IsRevIter s1.heap.objs.size a ((its.toArray.size:Int)-1):=⟨_,zm _ rfl,rfl,rfl⟩
   refine dI8 (s:={s1 with heap:=s1.heap.push (revObj a ((its.toArray.size:Int)-1))}) (I.ok.hd hc) hI (ht.isList.push _) (zA hlt) (by rw[zq,<-rr.length];exact hz) λh' tk acc' c' hk hS' hacc=>?_
   have e2:=dE4 hacc
   have hD:s1.heap.objs.size<=(s1.heap.push (revObj a ((its.toArray.size:Int)-1))).objs.size:=by rw[jb];exact xF _
   have hf:=I1.hok.fresh hD
   have hS2:h'.get? (s1.heap.push (revObj a ((its.toArray.size:Int)-1))).objs.size=some {cls:=.type "list",data:=.seq its.reverse.toArray c'}:=by
    rw[hS',<-e2,xD]
   exact⟨.ref _,upd H1 _ (.lst vs.reverse),I1.laid (t':=tk) (λb u q=>hk b u (zA (zn q)) (zg _ q)) hD ⟨by rw[ZV];exact hz,its.reverse,c',rr.reverse,hS2⟩,rfl,aD1 h1 rl.reverse p2 _ hf⟩
end
end DL
namespace DL
open PySem PySem.Spec L2 Builtin Builtin.Str
open PyProof.Rows hiding St
section
variable{X:Cx}{Z:XC}{e:Expr}{fa:Fe}{p2 pos:Pos}{lo hi:Option Expr}{fl fh:Fo}
theorem cX2{v:zf}{o:Option Int}(p:IsPart v o):∃l:Option (Int×Tok),v=partValue l/\l.map (·.1)=o:=by
 cases p with
 |none=>exact⟨none,rfl,rfl⟩
 |int i t=>exact⟨some (i,t),rfl,rfl⟩
theorem eL5:SlR X (λx lo hi H Q=>∃z,x= .str z/\z.length<=zk/\Q (.str (yq z lo hi)) H):=by
 intro pins s O H x v vl vu lo hi sl Q I rx hs pl pu h
 obtain⟨z,rfl,hz,q⟩:=h
 obtain⟨t,rfl⟩:=rx
 obtain⟨l,el,eml⟩:=cX2 pl
 obtain⟨u,eu,emu⟩:=cX2 pu
 subst el eu eml emu
 refine⟨"str",_,PySem.F.slot_str_getitem.lookup,typeIs_str _ z t,?_⟩
 refine wpAny_getItem_str_slice (l:=l) (u:=u) (st:=none) (let ⟨o,h1,h2,h3⟩:=hs;⟨o,h1,h2,h3⟩) rfl ?_
 unfold sliceMade
 unfold yq at q
 unfold slicePicked
 have e1:((Option.map (λx:Int×Tok=>x.1) none).getD 1)= (1:Int):=rfl
 simp only[e1]
 by_cases hc:((1:Int)==1&&(strSliceIndices (l.map (·.1)) (u.map (·.1)) 1 z.length).length==z.length)=true
 · rw[if_pos hc]at q
   rw[if_pos hc]
   exact⟨.str z,H,I,⟨t,rfl⟩,q⟩
 · rw[if_neg hc]at q
   rw[if_neg hc]
   refine⟨?_,.str _,H,I.tok _,⟨_,rfl⟩,q⟩
   have hle:=Txt.slice_le z (l.map (·.1)) (u.map (·.1))
   unfold yq at hle
   rw[if_neg hc]at hle
   exact zI hle hz
def slT:D->Option Int->Option Int->M D:=λx lo hi=>match x with
 | .str z=>if z.length<=zk then pure (.str (yq z lo hi))else M.stuck
 | .tup l=>slD (.tup l) lo hi
 | .ref r=>slD (.ref r) lo hi
 |_=>M.stuck
def X3(f:Fe)(lo hi:Fo):Fe:=λO=>do
 let x <-f O
 let l <-lo O
 let h <-hi O
 slT x l h
theorem eS9:SlD X Z slT:=SlR.mono (eL5.or (eZ8 (Z:=Z))) λx lo hi H Q ⟨dx,U,G,rx,hr,p⟩=>by
 rcases dx with _|_|_|z|l|r|_|_<;>try (exact p.elim;done)
 ·
   unfold slT at p
   dsimp only at p
   split at p
   · rename_i hz
     exact .inl ⟨z,aZ6 rx,hz,j7.ok p hr _ (by unfold j8;rfl)⟩
   ·exact p.elim
 ·exact .inr ⟨.tup l,U,G,rx,hr,p⟩
 ·exact .inr ⟨.ref r,U,G,rx,hr,p⟩
theorem dB9(he:DE X Z e fa)(hl:DOp X Z lo fl)(hu:DOp X Z hi fh):DE X Z (.Subscript e (.Slice lo hi none p2) pos) (X3 fa fl fh):=
 DE.of (dI6 eS9 he.h hl.h hu.h) λO H Q hE0=>hE0.elim λZ8 U G s h p=>⟨Z8,U,G,s,h,(j7.bind p).mono λd X1 G1 H1 x1 h1 p1 v rv=>
  ⟨Z8,X1,G1,s.mono x1,h1,(j7.bind p1).mono λl WW G2 H2 x2 h2 p2=>⟨Z8,WW,G2,s.mono (x1.trans x2),h2,(j7.bind p2).mono λu μ3 G3 H3 x3 h3 p3=>⟨d,μ3,G3,rv.mono (x2.trans x3),h3,p3⟩⟩⟩⟩
end
section
variable{X:Cx}{Z:XC}{e:Expr}{fa:Fe}{p2 pos:Pos}
end
end DL
namespace W
open PySem PySem.Spec L2 DL Builtin Builtin.Str
open PyProof.Rows hiding St
section
variable{G:DH}{O:DSt}{Q:DPP}
theorem aE3{f:Fe}{lo hi:Fo}:Wp (X3 f lo hi O) G Q↔Wp (f O) G λx G1=>Wp (lo O) G1 λl G2=>Wp (hi O) G2 λh G3=>Wp (slT x l h) G3 Q:=by
 unfold X3;simp only[m9]
theorem bH1{z:Str}{lo hi:Option Int}(h:z.length<=zk):Wp (slT (.str z) lo hi) G Q↔Q (.str (yq z lo hi)) G:=by
 have e:slT (.str z) lo hi=if z.length<=zk then pure (.str (yq z lo hi))else M.stuck:=rfl
 rw[e,if_pos h];exact wp_pure
theorem aQ9{z:Str}{lo hi:Option Int}:(yq z lo hi).length<=z.length:=Txt.slice_le z lo hi
theorem dH6{r:Nat}{l:List D}(e:G[r]? =some (.lst l)):Wp (cA5 (.ref r)) G Q↔Q (.ref G.length) (G++[.lst l.reverse]):=by
 have h:cA5 (.ref r)= (do
  let l <-S7 r >>= DL.listOf
  R0 (.lst l.reverse)):=rfl
 rw[h]
 simp only[m9,R8,e,Q8,DL.listOf,wp_pure,X4]
end
end W
namespace DL
open PySem PySem.Spec L2
open PyProof.Rows hiding St
def bD8:D->D->M D:=λx y=>match y with
 | .non=>pure (.bl (cQ8 x))
 | .bl c=>match x with
   | .bl d=>pure (.bl (d==c))
   |_=>M.stuck
 |_=>M.stuck
def cY6:D->D->M D:=λx y=>match y with
 | .non=>pure (.bl (!cQ8 x))
 | .bl c=>match x with
   | .bl d=>pure (.bl (d != c))
   |_=>M.stuck
 |_=>M.stuck
def dR9(a b:Fe):Fe:=λO=>do
 let x <-a O
 if <-aF2 x then pure x else b O
def aF8(a b:Fe):Fe:=λO=>do
 let x <-a O
 if <-aF2 x then b O else pure x
section
variable{X:Cx}{Z:XC}{a b:Expr}{fa fb:Fe}{pos:Pos}
theorem eK7:OpR X (zT .Is) (λx y H Q=>(y= .non/\Q (.bl (decide (x= .non))) H)\/∃c d,x= .bl c/\y= .bl d/\Q (.bl (c==d)) H):=by
 intro pins s O H x y v u Q I rx ry h
 rcases h with h|⟨c,d,rfl,rfl,q⟩
 ·exact eN9 pins s O H x y v u Q I rx ry h
 · cases rx
   cases ry
   exact is_bool ⟨.bl (c==d),H,I,rfl,q⟩
theorem dG8:OpR X (zT .IsNot) (λx y H Q=>(y= .non/\Q (.bl (!decide (x= .non))) H)\/∃c d,x= .bl c/\y= .bl d/\Q (.bl (c != d)) H):=by
 intro pins s O H x y v u Q I rx ry h
 rcases h with h|⟨c,d,rfl,rfl,q⟩
 ·exact dX4 pins s O H x y v u Q I rx ry h
 · cases rx
   cases ry
   exact isnot_bool ⟨.bl (c != d),H,I,rfl,q⟩
theorem eP3:OpD X Z (zT .Is) bD8:=OpD.of eK7 λx y H Q hE0=>hE0.elim λdx dy U G rdx rdy hr p=>by
 rcases dy with _|d|_|_|_|_|_|_<;>try (exact p.elim;done)
 ·exact .inl ⟨dT0 rdy,by rw[cW4 rdx];exact j7.ok p hr _ ofB⟩
 ·
   rcases dx with _|c|_|_|_|_|_|_<;>try (exact p.elim;done)
   ·exact .inr ⟨c,d,cC6 rdx,cC6 rdy,j7.ok p hr _ ofB⟩
theorem dG9:OpD X Z (zT .IsNot) cY6:=OpD.of dG8 λx y H Q hE0=>hE0.elim λdx dy U G rdx rdy hr p=>by
 rcases dy with _|d|_|_|_|_|_|_<;>try (exact p.elim;done)
 ·exact .inl ⟨dT0 rdy,by rw[cW4 rdx];exact j7.ok p hr _ ofB⟩
 ·
   rcases dx with _|c|_|_|_|_|_|_<;>try (exact p.elim;done)
   ·exact .inr ⟨c,d,cC6 rdx,cC6 rdy,j7.ok p hr _ ofB⟩
theorem bK4{α:Type}{U:List Addr}{H:Hp}{G:DH}{d:D}{v:V}{f:Bool->M α}{K:α->List Addr->DH->Hp->Prop}(h:J0 (wc X) U G H)(rv:j8 (wc X) U H d v)(p:j7 (wc X) Z U H ((aF2 d >>= f) G) K):
 ∃k,eM4 X.K v H k/\j7 (wc X) Z U H (f k G) K:=by
 have p1:=j7.bind p
 rcases d with _|b|b|y|l|r|_|_<;>try (exact p1.elim;done)
 ·rw[dT0 rv];exact⟨false,rfl,j7.ok p1 h⟩
 ·rw[cC6 rv];exact⟨b,rfl,j7.ok p1 h⟩
 ·rw[aF7 rv];exact⟨_,rfl,j7.ok p1 h⟩
 ·
   rw[aZ6 rv]
   unfold aF2 at p1
   dsimp only at p1
   split at p1
   ·rename_i hz;exact⟨_,⟨hz,rfl⟩,j7.ok p1 h⟩
   ·exact p1.elim
 ·
   unfold j8 at rv
   obtain⟨a,vs,rfl,q,rl⟩:=rv
   exact⟨!vs.isEmpty,.inr (.inl ⟨vs,q,rfl⟩),by rw[aG5 rl];exact j7.ok p1 h⟩
 ·
   unfold j8 at rv
   obtain⟨a,m,rfl⟩:=rv
   obtain⟨o,g,p2⟩:=Q0 p1
   have ro:=h.obj r o a g m
   rcases o with l|l|l|l
   ·obtain⟨vs,q,rl⟩:=ro;exact⟨!vs.isEmpty,.inl ⟨vs,SqL.of q,rfl⟩,by rw[aG5 rl];exact j7.ok p2 h⟩
   ·obtain⟨vs,q,rl⟩:=ro;exact⟨!vs.isEmpty,.inl ⟨vs,q.sq,rfl⟩,by rw[aG5 rl];exact j7.ok p2 h⟩
   ·obtain⟨vs,q,rl⟩:=ro;exact⟨!vs.isEmpty,.inr (.inr ⟨vs,q,rfl⟩),by rw[bU3 rl];exact j7.ok p2 h⟩
   ·exact p2.elim
theorem eR7{rest:List Expr}(ha:DE X Z a fa)(hb:DE X Z (.BoolOp .Or (b::rest) pos) fb):DE X Z (.BoolOp .Or (a::b::rest) pos) (dR9 fa fb):=by
 refine⟨?_⟩
 intro pins s O H Q I hE0
 refine hE0.elim λZ8 U G sr h p=>?_
 refine BoolOp_or (thn (ha.h pins s O H _ I ⟨Z8,U,G,sr,h,(j7.bind p).mono λd X1 G1 H1 x1 h1 p1 v rv=>(⟨d,X1,G1,x1,rv,h1,p1⟩:∃d X1 G1,Ext U H X1 H1/\j8 (wc X) X1 H1 d v/\J0 (wc X) X1 G1 H1/\j7 (wc X) Z X1 H1 ((aF2 d >>= λk=>if k=true then pure d else fb Z8) G1) λd X9 _ H'=>∀v,j8 (wc X) X9 H' d v->Q v H')⟩) λv s1 ⟨x,H1,I1,r1,d,X1,G1,x1,rd,h1,p1⟩=>?_)
 obtain⟨k,tk,p2⟩:=bK4 h1 rd p1
 refine thn (cR4 pins s1 O H1 x v (λc H'=>c=k/\H'=H1) I1 r1 ⟨k,tk,rfl,rfl⟩) λc s2 ⟨H2,I2,e1,e2⟩=>?_
 subst e1 e2
 rcases c with _|_
 ·exact hb.h pins s2 O H2 Q I2 ⟨Z8,X1,G1,sr.mono x1,h1,p2⟩
 ·exact⟨x,H2,I2,r1,j7.ok p2 h1 _ rd⟩
theorem dV4{rest:List Expr}(ha:DE X Z a fa)(hb:DE X Z (.BoolOp .And (b::rest) pos) fb):DE X Z (.BoolOp .And (a::b::rest) pos) (aF8 fa fb):=by
 refine⟨?_⟩
 intro pins s O H Q I hE0
 refine hE0.elim λZ8 U G sr h p=>?_
 refine BoolOp_and (thn (ha.h pins s O H _ I ⟨Z8,U,G,sr,h,(j7.bind p).mono λd X1 G1 H1 x1 h1 p1 v rv=>(⟨d,X1,G1,x1,rv,h1,p1⟩:∃d X1 G1,Ext U H X1 H1/\j8 (wc X) X1 H1 d v/\J0 (wc X) X1 G1 H1/\j7 (wc X) Z X1 H1 ((aF2 d >>= λk=>if k=true then fb Z8 else pure d) G1) λd X9 _ H'=>∀v,j8 (wc X) X9 H' d v->Q v H')⟩) λv s1 ⟨x,H1,I1,r1,d,X1,G1,x1,rd,h1,p1⟩=>?_)
 obtain⟨k,tk,p2⟩:=bK4 h1 rd p1
 refine thn (cR4 pins s1 O H1 x v (λc H'=>c=k/\H'=H1) I1 r1 ⟨k,tk,rfl,rfl⟩) λc s2 ⟨H2,I2,e1,e2⟩=>?_
 subst e1 e2
 rcases c with _|_
 ·exact⟨x,H2,I2,r1,j7.ok p2 h1 _ rd⟩
 ·exact hb.h pins s2 O H2 Q I2 ⟨Z8,X1,G1,sr.mono x1,h1,p2⟩
end
end DL
namespace W
open PySem PySem.Spec L2 DL
open PyProof.Rows hiding St
section
variable{G:DH}{O:DSt}{Q:DPP}{a b:Fe}
theorem eM3:Wp (dR9 a b O) G Q↔Wp (a O) G λx G1=>Wp (aF2 x) G1 λk G2=>if k=true then Q x G2 else Wp (b O) G2 Q:=by unfold dR9;simp only[m9,aX1,wp_pure]
theorem aE7:Wp (aF8 a b O) G Q↔Wp (a O) G λx G1=>Wp (aF2 x) G1 λk G2=>if k=true then Wp (b O) G2 Q else Q x G2:=by unfold aF8;simp only[m9,aX1,wp_pure]
end
end W
namespace DL
open PySem PySem.Spec L2
open PyProof.Rows hiding St
structure d8(F:List D->M D)(n:Nat)(x:Str)(P:zB)(w:zJ)(K:zj)(mg:Str->Option zf)(base:Heap)(k:Nat):Prop where
 ex:∃f fd ps,K6 P w K mg base CX0 k f fd ps (spD ⟨K,mg⟩ n F)/\mg x=some (.ref f)/\yh K (.ref f)=true/\bL0 K fd ps []
theorem d8.of{P:zB}{w:zJ}{K:zj}{mg:Str->Option zf}{base:Heap}{k n:Nat}{x:Str}{st:Stmt}{ps:List Str}{f:Addr}{fd:zY}{F:List D->M D}(c:FF K mg x st ps f fd)(h:K6 P w K mg base CX0 k f fd ps (spD ⟨K,mg⟩ n F)):d8 F n x P w K mg base k:=
 ⟨f,fd,ps,h,c.m,c.F.kp,c.b⟩
noncomputable def bltL:List Str:= ["len", "isinstance", "all", "any", "sum", "min", "max", "abs", "sorted", "tuple", "list", "int", "str", "bool", "dict", "zip", "enumerate", "range", "reversed", "set"]
structure BLs(mg:Str->Option zf):Prop where
 h:∀b∈bltL,mg b=none
theorem bC2{p:Pos}{l:List (Bool×Sem zf)}:(yR p l).any (·.1)=l.any (·.1):=by
 unfold yR
 rw[yG]
 rfl
theorem bG8{env:Env}:∀ {es:List Expr},es.all aA5=true->(zM es env).any (·.1)=false
 |[],_=>rfl
 |e::es,h=>by
   rw[ya,jn]at h
   rw[q14 h.1,ju,bG8 h.2]
   rfl
section
variable{X:Cx}{Z:XC}{a b c e:Expr}{es:List Expr}{fa fb fc:Fe}{fs:DSt->M (List D)}{pos p:Pos}{x:Str}
theorem eX6{i:Nat}(hN:∃N ps sc,o9 N ps sc/\X.N=N)(hi:X.N[i]? =some x)(hx:Loc X.env.scope x)(hf:X.fn x=true\/X.env.scope.names.lookup x=some .local):DG X Z (.Name x pos) (q13 i):=by
 obtain⟨N,ps,sc,S,e⟩:=hN
 exact cV4 (by rw[e];exact S.nd) hi hx hf
theorem fI6(ha:DE X Z e fa)(hr:DA X Z es fs)(hs:aA5 e=true):DA X Z (e::es) (q10 fa fs):=q15 ha hr (q14 hs)
theorem dT4{F:List D->M D}{n:Nat}(hF:∃k kk,d8 F n x X.prog X.w X.K X.mg X.base k/\aE6 kk X.A/\k<=kk)(hg:Gl X x)(ha:DA X Z (e::es) fs)(hdb:(x==("__debug__" :Str))=false)(hs:(e::es).all aA5=true):
 DE X Z (.Call (.Name x p) (e::es) [] pos) (q12 (fnX n F) fs):=by
 obtain⟨k,kk,hF,hr,hk⟩:=hF
 obtain⟨f,fd,ps,h1,h2,h3,h4⟩:=hF.ex
 rw[ya,jn]at hs
 exact eD6 h1 (hr.mono hk) hg h2 h3 h4 ha hdb (q14 hs.1) (by rw[bC2];exact bG8 hs.2)
structure BD(F:List D->M D)(x:Str)(X:Cx)(Z:XC):Prop where
 ex:(∃id,Z3 X Z (.builtin id) F/\zO x=some (.builtin id))\/(∃T,Z3 X Z (.type T) F/\zO x=some (.type T))
theorem eG6{F:List D->M D}(hc:X.calm=true)(hF:X.calm=true->BD F x X Z)(hb:BLs X.mg)(hx:bltL.elem x=true)(hg:Gl X x)(ha:DA X Z (e::es) fs)(hn:x≠ "__name__")(hdb:(x==("__debug__" :Str))=false)(hs:(e::es).all aA5=true):
 DE X Z (.Call (.Name x p) (e::es) [] pos) (q12 F fs):=by
 have hm:=hb.h x (List.elem_iff.mp hx)
 rw[ya,jn]at hs
 rcases (hF hc).ex with⟨id,h1,h2⟩|⟨T,h1,h2⟩
 ·exact dN5 h1 hg hm h2 ha hn hdb (q14 hs.1) (by rw[bC2];exact bG8 hs.2)
 ·exact dC8 h1 hg hm h2 ha hn hdb (q14 hs.1) (by rw[bC2];exact bG8 hs.2)
theorem eH5(_:X.calm=true):BD aD4 "len" X Z:=⟨.inl ⟨_,eP1,eS8⟩⟩
theorem bV4(_:X.calm=true):BD v7 "isinstance" X Z:=⟨.inl ⟨_,dF8,bV6⟩⟩
theorem eO9(h:X.calm=true):BD cG5 "all" X Z:=⟨.inl ⟨_,eO7 h,eM7⟩⟩
theorem eK4(h:X.calm=true):BD dE8 "any" X Z:=⟨.inl ⟨_,eL0 h,eO4⟩⟩
theorem eH8(h:X.calm=true):BD bW7 "min" X Z:=⟨.inl ⟨_,eQ8 h,eF8⟩⟩
theorem eO6(h:X.calm=true):BD cP3 "max" X Z:=⟨.inl ⟨_,eU8 h,eL4⟩⟩
theorem eT3(_:X.calm=true):BD dH3 "abs" X Z:=⟨.inl ⟨_,eJ9,eF9⟩⟩
theorem dO6(_:X.calm=true):BD aD9 "tuple" X Z:=⟨.inr ⟨_,dK3,dQ4⟩⟩
theorem dZ3(_:X.calm=true):BD bX9 "list" X Z:=⟨.inr ⟨_,dX6,eE2⟩⟩
theorem eS3(_:X.calm=true):BD dT8 "int" X Z:=⟨.inr ⟨_,eS4,eG5⟩⟩
theorem eB5:∀n∈ ["int", "bool", "str", "tuple", "list", "dict"],zO (je n)=some (.type n):=by decide +kernel
theorem eT1{n:String}(hb:BLs X.mg)(hn:n∈ ["int", "bool", "str", "tuple", "list", "dict"])(hx:bltL.elem (je n)=true)(hg:Gl X (je n))(hnn:je n≠ "__name__")(hd:(je n==("__debug__" :Str))=false):DE X Z (.Name (je n) pos) (cE (.ty n)):=
 eW8 hg (hb.h _ (List.elem_iff.mp hx)) (eB5 n hn) hnn hd
theorem eD1(he:DE X Z e fa)(hc:X.calm=true)(hb:BLs X.mg)(hg1:Gl X "list")(hg2:Gl X "reversed")(hs:aA5 e=true){p1 p2 pos1 pos2:Pos}:DE X Z (.Call (.Name "list" p1) [.Call (.Name "reversed" p2) [e] [] pos2] [] pos1) (unE cA5 fa):=
 cQ0 he hc hg1 (hb.h _ (by decide +kernel)) hg2 (hb.h _ (by decide +kernel)) (aI4 rfl) (aI4 hs)
variable{tg:Expr}{tp:Pos}{x1:Nat}{es1:List Expr}
theorem eW4(hb:BLs X.mg)(hg:Gl X "range")(ha:DA X Z [a] fs)(hs:aA5 a=true):DI X Z tg (.Call (.Name "range" p) [a] [] pos) (aC0 fs):=eB0 hg (hb.h _ (by decide +kernel)) ha (aI4 hs)
theorem fJ1(hb:BLs X.mg)(hg:Gl X "zip")(ha:DA X Z [a,b] fs)(hs:aA5 a=true)(hs2:aA5 b=true):DI X Z (.Tuple es1 x1 tp) (.Call (.Name "zip" p) [a,b] [] pos) (cK6 fs):=eN0 hg (hb.h _ (by decide +kernel)) ha (dT7 hs hs2) (aI4 hs2) eK2
noncomputable def aJ2(sc:Scope):List Str:=(sc.names.filterMap λy=>if y.2 == .local&&y.1 != (".0" :Str)then some y.1 else none)++(sc.names.filterMap λy=>if y.2 == .free then some y.1 else none)
variable{elt iter:Expr}{ifs:List Expr}{scope:Scope}{caps:List (Option Nat)}{it:DSt->M Src}{gg:Fg}{tt:DSt->M Bool}{fe:Fe}
theorem eD2(hc:X.calm=true)(hi:DI X Z tg iter it)(k:∃XN ps osc,o9 XN ps osc/\X.env.scope=osc/\X.N=XN/\bO1 osc scope (aJ2 scope) XN caps=true)(nd:(aJ2 scope).Nodup)
 (hg:(aJ2 scope).Nodup->∀C s H ex,DG (V8 X scope (aJ2 scope) C s H ex) ZF tg gg) (ht:∀C s H ex,DTs (V8 X scope (aJ2 scope) C s H ex) ZF ifs tt) (he:∀C s H ex,DE (V8 X scope (aJ2 scope) C s H ex) ZF elt fe)
 (hf:∀x,yz iter X.env x=pure x):DE X Z (.ListComp elt [⟨tg,iter,ifs,0⟩] scope pos) (Q6 it caps gg tt fe):=let ⟨_,_,_,_,hs,hN,k⟩:=k;dU8 hc hi (aG7.of k hs hN) (hg nd) ht he hf
theorem dL5{y:Str}{py spos:Pos}{g2:Fg}(hc:X.calm=true)(hi:DI X Z tg iter it)(k:∃XN ps osc,o9 XN ps osc/\X.env.scope=osc/\X.N=XN/\bO1 osc scope (aJ2 scope) XN caps=true)(nd:(aJ2 scope).Nodup)
 (hg:(aJ2 scope).Nodup->∀C s H ex,DG (V8 X scope (aJ2 scope) C s H ex) ZF tg gg) (ht:∀C s H ex,DTs (V8 X scope (aJ2 scope) C s H ex) ZF ifs tt) (he:∀C s H ex,DE (V8 X scope (aJ2 scope) C s H ex) ZF elt fe)
 (hf:∀x,yz iter X.env x=pure x) (hgo:DG X Z (.Name y py) g2) (hsw:JK (.ListComp elt [⟨tg,iter,ifs,0⟩] scope pos) (some (.Name y py)) spos.line X.env=pure true):
 DS X Z (.Assign [.Name y py] (.ListComp elt [⟨tg,iter,ifs,0⟩] scope pos) spos) (t8 (Q6 it caps gg tt fe) g2):=let ⟨_,_,_,_,hs,hN,k⟩:=k;dR7 hc hi (aG7.of k hs hN) (hg nd) ht he hf hgo hsw
end
section
variable{X:Cx}{Z:XC}
end
end DL
namespace W
open PySem PySem.Spec L2 DL
open PyProof.Rows hiding St
section
variable{G:DH}{Q:DPP}
end
end W
namespace DL
open PySem PySem.Spec L2
open PyProof.Rows hiding St
def Itd(a:Addr)(o:Obj)(kvs:List (Key×V)):It:=
 ⟨λi H=>H a=some (.frz o (.dK kvs))/\∃kv,kvs[i]? =some kv,λi H x H'=>H'=H/\∃kv,kvs[i]? =some kv/\x=kV kv.1,λi H=>H a=some (.frz o (.dK kvs))/\kvs.length<=i⟩
theorem dO5{κ:Type}:∀ {kvs:List (κ×V)} {vs:List (κ×zf)} {i:Nat} {kv:κ×V},KV kvs vs->kvs[i]? =some kv->∃v,vs[i]? =some (kv.1,v)
 |_,_,_,_,.nil,e=>by simp at e
 |_,_,0,_,.cons h t,e=>by
   simp only[zc,zd]at e
   subst e
   exact⟨_,by rw[zc,h.1]⟩
 |_,_,i+1,_,.cons h t,e=>by
   simp only[ze]at e ⊢
   exact dO5 t e
theorem eO2{P:zB}{w:zJ}{k:Key}{u:zf}(h:(Q4 P w).is k u=true):J9 (kV k) u:=by
 rcases S5 (k:=k) (v:=u) h with⟨i,t,rfl,rfl⟩|⟨x,t,rfl,rfl⟩
 ·exact⟨t,rfl⟩
 ·exact⟨t,rfl⟩
theorem dT5{X:Cx}{pins:PNS}{s:zh}{O:St}{H:Hp}{a:Addr}{o:Obj}{es:Array DictEntry}{ep:Nat}{kvs:List (Key×V)}(I:Inv X pins O H s)(ho:o.data= .dict es ep)(e:H a=some (.frz o (.dK kvs))):
 (a==yQ)=false/\∃vs,KV kvs vs/\s.heap.DictAt (Q4 X.prog X.w) a vs ep:=by
 obtain⟨hget,hz,hS,vs,r,m⟩:=(show X6 X.prog X.w H s.heap a (.frz o (.dK kvs))from I.hok a _ e)
 obtain⟨ep',dat⟩:=m.dictAt
 have hep:ep'=ep:=by
  obtain⟨o',es',h1,_,h3,_⟩:=id dat
  rw[hget]at h1
  cases h1
  rw[ho]at h3
  cases h3
  rfl
 subst hep
 exact⟨hS,vs,r,dat⟩
theorem bX8{P:zB}{w:zJ}{K:zj}{tg:Expr}{a:Addr}{o:Obj}{es:Array DictEntry}{ep:Nat}{kvs:List (Key×V)}(ho:o.data= .dict es ep)(it:Addr):bQ5 P w K tg (Itd a o kvs) [it] it (λi h=>h.IsKeyIter it a i kvs.length ep) where
 mem:=by simp
 obj:=λi h st b hb=>by
  have e:b=it:=by simpa using hb
  subst e
  obtain⟨o,e,c,d⟩:=st
  exact⟨o,e,λv z=>by rw[d]at z;cases z⟩
 keep:=λi h h' st k=>let ⟨o,ho,r⟩:=st;⟨o,k it (by simp) o ho,r⟩
 item:=by
  intro X hP hw hK hc i pins s O H E I hf st hg
  subst hP hw hK
  obtain⟨hfr,kv,hx⟩:=hg
  obtain⟨f0,f1,f2,f3,f4,f5⟩:=hf it (by simp)
  obtain⟨hS,vs,rel,dat⟩:=dT5 I ho hfr
  obtain⟨v,hv⟩:=dO5 rel hx
  have hlen:kvs.length=vs.length:=yI rel
  rw[hlen]at st
  refine wpAny_pyNext_dict_item st dat hv λkey h' hk st' sb=>?_
  have I1:Inv X pins O H {s with heap:=h'}:=I.turned (t':=s.toks) (λb o hb e=>(sb.2 b hb).trans e) f0 f1 f3 f4 f5
  obtain⟨o',e,cc,d⟩:=id st'
  refine⟨_,rfl,bY0 (s:={s with heap:=h'}) e cc d (by decide) ⟨kV kv.1,H,I1,eO2 hk,⟨rfl,kv,hx,rfl⟩,by rw[hlen];exact st',λb hb=>(hf b hb).1⟩⟩
 done:=by
  intro X hP hw hK hc i pins s O H E I hf st hg
  subst hP hw hK
  obtain⟨hfr,hi⟩:=hg
  obtain⟨f0,f1,f2,f3,f4,f5⟩:=hf it (by simp)
  obtain⟨hS,vs,rel,dat⟩:=dT5 I ho hfr
  have hlen:kvs.length=vs.length:=yI rel
  rw[hlen]at st hi
  exact wpAny_pyNext_dict_end (I.ok.hd hc) st dat (zK hi) λh' eb=>⟨rfl,I.turned (t':=s.toks) (λb o hb e=>eb b o hb e) f0 f1 f3 f4 f5⟩
 self:=λ_ _ _ _ _ st h=>wpAny_pyIter_keyiter st h
theorem J0.setR{c:Wc}{U:List Addr}{G:DH}{H:Hp}{i:Nat}{a:Addr}{o o':DO}{u:HO}(h:J0 c U G H)(g:G[i]? =some o)(n:¬aQ6 (some o))(m:U[i]? =some a)(k:Ext U H U (upd H a u))(ho:aM8 c U (upd H a u) a o'):J0 c U (G.set i o') (upd H a u):=by
 have hi:i<G.length:=lt_of_get g
 have get:∀j,(G.set i o')[j]? =if i=j then some o' else G[j]? :=λj=>by
  rw[Yx]
  by_cases e:i=j
  ·subst e;simp[hi]
  ·simp[e]
 refine⟨by simp[h.len],λj l b ej el=>?_,λj o2 b gj mj=>?_⟩
 · rcases h.inj j l b ej el with e|e|e
   ·exact .inl e
   · by_cases ij:i=j
     ·subst ij;rw[g]at e;exact(n e).elim
     ·right;left;rw[get,if_neg ij];exact e
   · by_cases ij:i=l
     ·subst ij;rw[g]at e;exact(n e).elim
     ·right;right;rw[get,if_neg ij];exact e
 · rw[get]at gj
   by_cases ij:i=j
   · subst ij
     rw[if_pos rfl]at gj
     cases gj
     rw[m]at mj
     cases mj
     exact ho
   · rw[if_neg ij]at gj
     have q:=h.obj j o2 b gj mj
     by_cases hr:aQ6 (some o2)
     ·exact q.mono k (.inr hr)
     · have nb:b≠a:=λe=>by
        subst e
        rcases h.inj i j b m mj with e|e|e
        ·exact ij e
        ·rw[g]at e;exact n e
        ·rw[gj]at e;exact hr e
       exact q.mono k (.inl (J6 nb))
section
variable{X:Cx}{Z:XC}{tg e:Expr}
theorem Inv.freeze{pins:PNS}{s:zh}{O:St}{H:Hp}{a:Addr}{o:Obj}{kvs:List (Key×V)}(I:Inv X pins O H s)(e:H a=some (.dK kvs))(ho:s.heap.get? a=some o):Inv X pins O (upd H a (.frz o (.dK kvs))) s:=by
 have q:X6 X.prog X.w H s.heap a (.dK kvs):=I.hok a _ e
 exact I.write (x:=a) (e:=a) (t':=s.toks) (h':=s.heap) (by rw[e];exact trivial) (.inl rfl) (λb u _ z=>z) ⟨o,ho⟩ ⟨ho,q⟩
def iW(K:zj)(tl:TE):TI:=λO H R=>tl O H λx H1=>((∃z,x= .str z/\R (Its z) H1)\/(∃k a xs,x= .ref a/\Sq K k H1 a xs/\R (if k=true then Itt K a else Itl K a) H1))\/
 (∃a kvs,x= .ref a/\H1 a=some (.dK kvs)/\∀o,R (Itd a o kvs) (upd H1 a (.frz o (.dK kvs))))\/(∃a o kvs,x= .ref a/\H1 a=some (.frz o (.dK kvs))/\R (Itd a o kvs) H1)
theorem fH9{tl:TE}(hl:PE X e tl):PI X tg e (iW X.K tl):=by
 intro pins s O H R I h
 refine thn (hl pins s O H _ I h) λv s1 hE1=>hE1.elim λx H1 I1 r1 q1=>?_
 have fpo:∀b∈ [s1.heap.objs.size],aU3 X pins H1 b:=λb hb=>by
  have z:b=s1.heap.objs.size:=by simpa using hb
  subst z
  exact I1.fpOk (zo _) (I1.hok.fresh (zo _))
 rcases q1 with(⟨z,rfl,q⟩|⟨k,a,xs,rfl,hq,q⟩)|⟨a,kvs,rfl,hq,q⟩|⟨a,o,kvs,rfl,hq,q⟩
 · obtain⟨t,rfl⟩:=(show ∃t,v=Value.str z t from r1)
   refine wpAny_pyIter_strU ?_
   have I2:Inv X pins O H1 {s1 with heap:=s1.heap.push {cls:=.type (xM z),data:=.fields #[.str z t,.int 0 0]}}:=I1.kept (t':=s1.toks) λb o z=>zg _ z
   have hg:(s1.heap.push {cls:=.type (xM z),data:=.fields #[.str z t,.int 0 0]}).get? s1.heap.objs.size=some {cls:=.type (xM z),data:=.fields #[.str z t,.int 0 0]}:=zm _ rfl
   by_cases ha:z.cps.all (· < 128)=true
   · have e:xM z= "str_ascii_iterator":=by unfold xM;rw[if_pos ha]
     refine⟨s1.heap.objs.size, [s1.heap.objs.size],_,_,H1,rfl,I2,cT6 z t _,?_,fpo,q⟩
     rw[e]at hg ⊢
     exact⟨_,hg,rfl,rfl⟩
   · have e:xM z= "str_iterator":=by unfold xM;rw[if_neg ha]
     refine⟨s1.heap.objs.size, [s1.heap.objs.size],_,_,H1,rfl,I2,dF0 z t _,?_,fpo,q⟩
     rw[e]at hg ⊢
     exact⟨_,hg,rfl,rfl⟩
 · cases r1
   rcases k with _|_
   ·
     obtain⟨its,rv,p,hz⟩:=I1.list hq
     exact xA p.isList ⟨s1.heap.objs.size, [s1.heap.objs.size],_,_,H1,rfl,I1.kept (t':=s1.toks) λb o z=>zg _ z,dD5 a _,⟨_,zm _ rfl,rfl,rfl⟩,fpo,q⟩
   ·
     obtain⟨its,rv,p,hz⟩:=I1.tuple hq
     exact Zj (show s1.heap.IsTuple a its.toArray from p) ⟨s1.heap.objs.size, [s1.heap.objs.size],_,_,H1,rfl,I1.kept (t':=s1.toks) λb o z=>zg _ z,cT5 a _,⟨_,zm _ rfl,rfl,rfl⟩,fpo,q⟩
 · cases r1
   obtain⟨hz,hS,vs,rel,dd⟩:=cW7 I1.hok hq
   obtain⟨ep,dat⟩:=dd.dictAt
   obtain⟨o,es,h1,h2,h3,h4⟩:=id dat
   have hlen:kvs.length=vs.length:=yI rel
   have I2:=DL.Inv.freeze I1 hq h1
   have fpo2:∀b∈ [s1.heap.objs.size],aU3 X pins (upd H1 a (.frz o (.dK kvs))) b:=λb hb=>by
    have z:b=s1.heap.objs.size:=by simpa using hb
    subst z
    exact I2.fpOk (zo _) (I2.hok.fresh (zo _))
   refine wpAny_pyIter_dict hS dat ⟨s1.heap.objs.size, [s1.heap.objs.size],_,_,upd H1 a (.frz o (.dK kvs)),rfl,I2.kept (t':=s1.toks) λb o z=>zg _ z,bX8 (kvs:=kvs) h3 _,?_,fpo2,q o⟩
   rw[hlen]
   exact⟨_,zm _ rfl,rfl,rfl⟩
 · cases r1
   obtain⟨hget,hz,hS,vs,rel,dd⟩:=(show X6 X.prog X.w H1 s1.heap a (.frz o (.dK kvs))from I1.hok a _ hq)
   obtain⟨ep,dat⟩:=dd.dictAt
   obtain⟨o',es,h1,h2,h3,h4⟩:=id dat
   rw[hget]at h1
   cases h1
   have hlen:kvs.length=vs.length:=yI rel
   refine wpAny_pyIter_dict hS dat ⟨s1.heap.objs.size, [s1.heap.objs.size],_,_,H1,rfl,I1.kept (t':=s1.toks) λb o z=>zg _ z,bX8 (kvs:=kvs) h3 _,?_,fpo,q⟩
   rw[hlen]
   exact⟨_,zm _ rfl,rfl,rfl⟩
noncomputable def dM1:Key->D
 | .inl i=>.int i
 | .inr x=>.str x
def cL4(l:List (Key×D)):List D:=l.map λkv=>dM1 kv.1
def dM6:D->M Src:=λx=>match x with
 | .ref r=>do
   match <-S7 r with
   | .dct l=>do
     let _ <-bB9 r (.rod l)
     pure ⟨cL4 l,λ_=>true⟩
   | .rod l=>pure ⟨cL4 l,λ_=>true⟩
   |_=>eD9 (.ref r)
 |d=>eD9 d
def itW(f:Fe):DSt->M Src:=λO=>do dM6 (<-f O)
theorem cE4{X1:List Addr}{G1:DH}{H1:Hp}{d:D}{v:V}{R:It->Hp->Prop}(h1:J0 (wc X) X1 G1 H1)(rv:j8 (wc X) X1 H1 d v)(p1:j7 (wc X) Z X1 H1 (eD9 d G1) λs X9 _ H'=>∀J,ItD (wc X) X9 H' J s->R J H'):
 (∃z,v= .str z/\R (Its z) H1)\/(∃k a xs,v= .ref a/\Sq X.K k H1 a xs/\R (if k=true then Itt X.K a else Itl X.K a) H1):=by
 have main:∀dd:D,(∀z,dd≠ .str z)->j8 (wc X) X1 H1 dd v->j7 (wc X) Z X1 H1 (aU2 dd G1) (λs X9 _ H'=>∀J,ItD (wc X) X9 H' J s->R J H')->(∃z,v= .str z/\R (Its z) H1)\/(∃k a xs,v= .ref a/\Sq X.K k H1 a xs/\R (if k=true then Itt X.K a else Itl X.K a) H1):=by
  intro dd _ rv p1
  have p1':j7 (wc X) Z X1 H1 ((aU2 dd >>= λs=>(pure s:M Src)) G1) λs X9 _ H'=>∀J,ItD (wc X) X9 H' J s->R J H':=by
   have e:(aU2 dd >>= λs=>(pure s:M Src))=aU2 dd:=by
    funext G
    rw[M.bind_eq]
    rcases aU2 dd G with _|q
    ·rfl
    ·obtain⟨r,G'⟩:=q;cases r<;>rfl
   rw[e];exact p1
  obtain⟨sr,k,a,vs,rfl,q,rl,is,ck,_,p2⟩:=bK0 h1 rv p1'
  refine .inr ⟨k,a,vs,rfl,q,j7.ok p2 h1 _ λX9 G' H' x' h' ck' i=>?_⟩
  obtain⟨vs',q',rl'⟩:=is X9 G' H' x' h' ck'
  refine⟨λd hd=>?_,λhi=>?_⟩
  · obtain⟨y,hy,ry⟩:=rl'.get hd
    cases k with
    |true=>
      rw[if_pos rfl]
      exact⟨⟨vs',y,q',hy⟩,λx H2 ⟨e1,e2⟩=>by subst e1;exact⟨Ext.refl _ _,h',cX1 rl' hd (e2 vs' q')⟩⟩
    |false=>
      rw[if_neg zX]
      exact⟨⟨vs',y,q',hy⟩,λx H2 ⟨e1,e2⟩=>by subst e1;exact⟨Ext.refl _ _,h',cX1 rl' hd (e2 vs' q')⟩⟩
  · cases k with
    |true=>rw[if_pos rfl];exact⟨vs',q',by rw[<-rl'.length];exact hi⟩
    |false=>rw[if_neg zX];exact⟨vs',q',by rw[<-rl'.length];exact hi⟩
 cases d with
 |str z=>
   refine .inl ⟨z,aZ6 rv,j7.ok p1 h1 _ λX9 G' H' x' h' ck' i=>⟨λd hd=>?_,λhi=>?_⟩⟩
   · simp only[cQ5,zZ]at hd
     cases hc:z.cps.toList[i]? with
     |none=>rw[hc]at hd;cases hd
     |some c=>
       rw[hc]at hd
       cases hd
       have hc':z.cps[i]? =some c:=by rw[<-ji];exact hc
       exact⟨⟨c,hc'⟩,λx H2 ⟨e1,c2,e2,e3⟩=>by
        subst e1
        rw[hc']at e2
        cases e2
        exact⟨Ext.refl _ _,h',by rw[e3];unfold j8;rfl⟩⟩
   · simp only[cQ5,zl]at hi
     show z.cps[i]? =none
     rw[<-ji]
     exact zK hi
 |tup l=>exact main (.tup l) (λz q=>nomatch q) rv p1
 |ref r=>exact main (.ref r) (λz q=>nomatch q) rv p1
 |_=>exact p1.elim
theorem cI2{c:Wc}{U:List Addr}{H:Hp}:∀ {l:List (Key×D)} {kvs:List (Key×V)} {i:Nat} {kd:Key×D},aD0 c U H l kvs->l[i]? =some kd->∃v,kvs[i]? =some (kd.1,v)
 |[],_,_,_,_,e=>by simp at e
 |(k,d)::r,_,0,_,h,e=>by
  obtain⟨v,t,rfl,_,_⟩:=h
  simp only[zc,zd]at e
  subst e
  exact⟨v,rfl⟩
 |(k,d)::r,_,i+1,_,h,e=>by
  obtain⟨v,t,rfl,_,ht⟩:=h
  simp only[ze]at e ⊢
  exact cI2 ht e
theorem dV6{c:Wc}{U:List Addr}{H:Hp}(k:Key):j8 c U H (dM1 k) (kV k):=by
 cases k<;>(unfold dM1 j8;rfl)
theorem dR3{c:Wc}{U:List Addr}{H:Hp}{a:Addr}{o:Obj}{l:List (Key×D)}{kvs:List (Key×V)}(e:H a=some (.frz o (.dK kvs)))(rk:aD0 c U H l kvs):ItD c U H (Itd a o kvs) ⟨cL4 l,λ_=>true⟩:=by
 intro X9 G' H' x h' _ i
 have e':=x.frz _ _ _ e
 refine⟨λd hd=>?_,λhi=>⟨e',by rw[<-rk.length];simpa [cL4]using hi⟩⟩
 simp only[cL4,zZ]at hd
 cases hl:l[i]? with
 |none=>rw[hl]at hd;cases hd
 |some kd=>
   rw[hl]at hd
   cases hd
   obtain⟨v,hv⟩:=cI2 rk hl
   exact⟨⟨e',_,hv⟩,λy H2 ⟨e1,kv,e2,e3⟩=>by
    subst e1
    rw[hv]at e2
    cases e2
    exact⟨Ext.refl _ _,h',by rw[e3];exact dV6 _⟩⟩
theorem fJ0{f:Fe}(he:DE X Z e f):DI X Z tg e (itW f):=
 DI.of (fH9 he.h) λO H R hE0=>hE0.elim λZ8 U G s h p=>⟨Z8,U,G,s,h,(j7.bind p).mono λd X1 G1 H1 x1 h1 p1 v rv=>by
  cases d with
  |ref r=>
    have rv':=rv
    unfold j8 at rv'
    obtain⟨a,m,rfl⟩:=rv'
    obtain⟨o,g,p2⟩:=Q0 p1
    have ro:=h1.obj r o a g m
    rcases o with l|l|l|l
    ·exact .inl (cE4 h1 rv p2)
    ·exact .inl (cE4 h1 rv p2)
    ·
      obtain⟨kvs,q,rk⟩:=ro
      refine .inr (.inl ⟨a,kvs,rfl,q,λo=>?_⟩)
      have x:Ext X1 H1 X1 (upd H1 a (.frz o (.dK kvs))):=Ext.mut (yd m) q (λ_ z=>nomatch z) (λ_ _ z=>nomatch z) _
      have hk':=rk.mono x
      have h2:J0 (wc X) X1 (G1.set r (.rod l)) (upd H1 a (.frz o (.dK kvs))):=h1.setR g (λz=>z) m x ⟨kvs,o,R9,hk'⟩
      have p3:=j7.from p2 x
      exact j7.ok p3 h2 _ (dR3 R9 hk')
    ·
      obtain⟨kvs,o,q,rk⟩:=ro
      exact .inr (.inr ⟨a,o,kvs,rfl,q,j7.ok p2 h1 _ (dR3 q rk)⟩)
  |_=>exact .inl (cE4 h1 rv p1)⟩
end
end DL
namespace W
open PySem PySem.Spec L2 DL
open PyProof.Rows hiding St
section
variable{G:DH}{O:DSt}{R:Src->DH->Prop}
theorem wp_itW{f:Fe}:Wp (itW f O) G R↔Wp (f O) G λx G1=>Wp (dM6 x) G1 R:=by
 unfold itW;simp only[m9]
theorem srcW_tup{l:List D}:Wp (dM6 (.tup l)) G R↔R ⟨l,λ_=>true⟩ G:=wp_pure
theorem bG1{p:Nat}{l:List D}(e:G[p]? =some (.lst l)):Wp (dM6 (.ref p)) G R↔R ⟨l,ckO p (.lst l)⟩ G:=by
 unfold dM6
 simp only[m9,R8,e,Q8]
 exact dR5 e
end
end W
namespace DL
open PySem PySem.Spec L2
open PyProof.Rows hiding St
section
variable{prog:zB}{w:zJ}{A:zF}{E:VSP}{s:zh}{Q:VSP}
theorem cP5{a:Addr}{T:String}{o:Obj}{vs:List zf}{n:Nat}(hT:T= "list"\/T= "tuple")(ho:s.heap.get? a=some o)(hc:o.cls= .type T)(hd:o.data= .seq vs.toArray n)(h64:vs.length<64){ss:List Str}(hS:StrsAre vs ss)
 (h:∀(h1 h':Heap) (tk e:Nat) (out:List zf) (ss':List Str),(∀b o,s.heap.get? b=some o->h1.get? b=some o)->(∀b o,h1.get? b=some o->h'.get? b=some o)->h'.get? h1.objs.size=some (YT "list" out.toArray e)->StrsAre out ss'->ss'.Perm ss->sortedS ss'=true->Q (.ref h1.objs.size) {s with heap:=h',toks:=tk}):
 zp (zD prog w) A (call (.builtin "sorted") [.ref a]) Q E s:=by
 have hz:vs.length<=zk:=zI (yx h64) (by decide)
 refine xV kind_sorted plain_sorted entry_sorted (args_sorted1 _) ?_
 unfold jY.«sorted»
 refine za (m:=checkCount "sorted" 1 1 _) (zi ?_)
 refine za (wpAny_collect_seq (A:=A.in1) a hT ho hc hd (λh1 hk=>?_) (by rw[zq];exact hz))
 refine za (JA ?_ hz)
 have hoL:(h1.push (YT "list" vs.toArray 0)).get? h1.objs.size=some (YT "list" vs.toArray 0):=zm _ rfl
 refine za (jz (zV Jh ⟨_,hoL,rfl⟩ XT (XS JG hoL hS.keysOf (λv₁ v₂ rest e=>keyKind_strs (by rw[<-e];exact hS)) h64 λst' a1 a2=>⟨_,rfl,?_⟩) (Ji _)))
 obtain⟨ss',b1,b2,b3⟩:=Jf hS a1 a2
 obtain⟨e,he⟩:=JH (vs:=vs) (out:=(jT st').map (·.2)) hoL
 refine zi ⟨_,rfl,h h1 _ s.toks e ((jT st').map (·.2)).toList ss' hk (λb o hb=>?_) (by rw[xD];exact he) b1 b2 b3⟩
 have hlt:b<h1.objs.size:=zn hb
 rw[Jg (zA hlt) (by rw[size_push'];exact yw hlt),Yt _ _ _ (zA hlt)]
 exact hb
end
def dP4(l:List D):M D:=do
 let ss <-aJ6 (aG8 l)
 if ss.length<64 then R0 (.lst ((aC4 ss).map .str))else M.stuck
def aY7:List D->M D:=λds=>match ds with
 |[.tup l]=>dP4 l
 |[.ref r]=>do
   match <-S7 r with
   | .lst l=>dP4 l
   | .dct l=>do
     let ss <-aJ6 (aA9 l)
     if ss.length<64 then R0 (.lst ((aC4 ss).map .str))else M.stuck
   |_=>M.stuck
 |_=>M.stuck
section
variable{X:Cx}{Z:XC}
theorem bT3{c:Wc}{U:List Addr}{H:Hp}:∀ {l:List D} {ss:List Str} {vs:List V} {us:List zf},aG8 l=some ss->v9 c U H l vs->J2 vs us->StrsAre us ss
 |[],_,_,_,e,r,v=>by cases e;cases r;cases v;exact .nil
 | .str x::t,ss,_,_,e,r,v=>by
   replace e:=show (aG8 t).map (_ :: ·)=some _ from e
   rcases h:aG8 t with _|q
   ·rw[h]at e;exact K1 e
   ·
     rw[h]at e
     cases e
     obtain⟨v0,tl,rfl,r0,rt⟩:=r
     cases v with
     |cons ru rt2=>
       rw[aZ6 r0]at ru
       obtain⟨tk,rfl⟩:=ru
       exact .cons _ _ (bT3 h rt rt2)
 | .non::_,_,_,_,e,_,_=>by exact K1 e
 | .bl _::_,_,_,_,e,_,_=>by exact K1 e
 | .int _::_,_,_,_,e,_,_=>by exact K1 e
 | .tup _::_,_,_,_,e,_,_=>by exact K1 e
 | .ref _::_,_,_,_,e,_,_=>by exact K1 e
 | .fn _::_,_,_,_,e,_,_=>by exact K1 e
 | .ty _::_,_,_,_,e,_,_=>by exact K1 e
theorem cN5:∀ {l:List D} {ss:List Str},aG8 l=some ss->ss.length=l.length
 |[],_,e=>by cases e;rfl
 | .str x::t,ss,e=>by
   replace e:=show (aG8 t).map (_ :: ·)=some _ from e
   rcases h:aG8 t with _|q
   ·rw[h]at e;exact K1 e
   ·rw[h]at e;cases e;simp[cN5 h]
 | .non::_,_,e=>by exact K1 e
 | .bl _::_,_,e=>by exact K1 e
 | .int _::_,_,e=>by exact K1 e
 | .tup _::_,_,e=>by exact K1 e
 | .ref _::_,_,e=>by exact K1 e
 | .fn _::_,_,e=>by exact K1 e
 | .ty _::_,_,e=>by exact K1 e
theorem cL2{U:List Addr}{G:DH}{pins:PNS}{s:zh}{O:St}{H:Hp}{Q:VK}{a:Addr}{T:String}{o:Obj}{vs:List V}{us:List zf}{n:Nat}{l:List D}(I:Inv X pins O H s)(hr:J0 (wc X) U G H)(rl:v9 (wc X) U H l vs)(rv:J2 vs us)(hT:T= "list"\/T= "tuple")(ho:s.heap.get? a=some o)(hc:o.cls= .type T)(hd:o.data= .seq us.toArray n)
 (p:j7 (wc X) Z U H (dP4 l G) λd X9 _ H'=>∀v,j8 (wc X) X9 H' d v->Q v H'):zp (zD X.prog X.w) X.A (call (.builtin "sorted") [.ref a]) (EP X pins O Q) X.xe s:=by
 obtain⟨ss,es,p2⟩:=aE2 p
 split at p2
 case isFalse=>exact p2.elim
 rename_i h64
 have hS:=bT3 es rl rv
 have hlen0:us.length=ss.length:=by rw[cN5 es,rl.length,rv.length]
 refine cP5 hT ho hc hd (by lia) hS λh1 h' tk e out ss' k1 k2 he hS' hp hs=>?_
 have e2:=bT1 hp hs
 subst e2
 obtain⟨ws,ew,rv',rl2⟩:=bF1 (c:=wc X) (U:=U) (H:=H) hS'
 have I1:Inv X pins O H {s with heap:=h1,toks:=tk}:=I.kept k1
 have hf:=I1.hok.fresh (zo _)
 have hlen:ws.length<=zk:=by
  rw[ew,zl]
  have e3:(aC4 ss).length=ss.length:=(yA ss leS).length_eq
  have:(64:Nat)<=zk:=by decide
  lia
 exact⟨.ref h1.objs.size,upd H h1.objs.size (.lst ws),I1.laid (t':=tk) k2 (zo _) ⟨hlen,out,e,rv',he⟩,rfl,aD1 hr rl2 p2 _ hf⟩
theorem cO1(hc:X.calm=true):Z3 X Z (.builtin "sorted") aY7:=⟨by
 intro pins s O H xs us Q I r hE0
 obtain⟨ds,U,G,rl,hr,p⟩:=hE0
 rcases ds with _|⟨_|_|_|_|l|i|_|_,_|⟨_,_⟩⟩<;>try exact p.elim
 all_goals (delta aY7 at p;dsimp only at p)
 · obtain⟨v,rfl,rv⟩:=aU0 rl
   obtain⟨u,rfl,ru⟩:=aI5 r
   unfold j8 at rv
   obtain⟨a,vs,rfl,q,rl'⟩:=rv
   cases ru
   obtain⟨its,rv,⟨o,h1,h2,n,h3⟩,hz⟩:=I.tuple q
   exact cL2 I hr rl' rv (.inr rfl) h1 h2 h3 p
 · obtain⟨v,rfl,rv⟩:=aU0 rl
   obtain⟨u,rfl,ru⟩:=aI5 r
   have rv':=rv
   unfold j8 at rv'
   obtain⟨a,m,rfl⟩:=rv'
   cases ru
   obtain⟨o,g,p1⟩:=Q0 p
   have ro:=hr.obj i o a g m
   rcases o with l|l|l|l
   ·
     obtain⟨vs,q,rl'⟩:=ro
     obtain⟨its,rv,pl,hz⟩:=I.list (SqL.of q)
     obtain⟨o,h1,h2,n,h3⟩:=pl.isList
     exact cL2 I hr rl' rv (.inl rfl) h1 h2 h3 p1
   ·exact p1.elim
   ·
     refine(dH0 (Z:=Z) hc).h pins s O H [.ref a] [.ref a] Q I r ⟨[.ref i],U,G,rl,hr,?_⟩
     have eo:S7 i G=some (.ok (.dct l),G):=by unfold S7;simp only[g]
     have e:cD5 [.ref i] G= ((do
      let ss <-aJ6 (aA9 l)
      if ss.length<64 then R0 (.lst ((aC4 ss).map .str))else M.stuck:M D)) G:=by
      show ((S7 i >>= λo=>match o with
       | .dct l => (do
         let ss <-aJ6 (aA9 l)
         if ss.length<64 then R0 (.lst ((aC4 ss).map .str))else M.stuck:M D)
       |_=>M.stuck):M D) G=_
      rw[M.bind_ok eo]
     rw[e]
     exact p1
   ·exact p1.elim⟩
theorem cR9(h:X.calm=true):BD aY7 "sorted" X Z:=⟨.inl ⟨_,cO1 h,bY5⟩⟩
end
end DL
namespace W
open PySem PySem.Spec L2 DL
open PyProof.Rows hiding St
section
variable{G:DH}{Q:DPP}
theorem dF2{r:Nat}{l:List (Key×D)}{ss:List Str}(e:G[r]? =some (.dct l))(hs:aA9 l=some ss)(h64:ss.length<64):Wp (aY7 [.ref r]) G Q↔Q (.ref G.length) (G++[.lst ((aC4 ss).map .str)]):=by
 unfold aY7
 simp only[m9,R8,e,Q8,aL3,hs,if_pos h64,X4]
end
end W
namespace DL
open PySem
theorem bV8:ZO (.type "tuple") "keys" =pure none:=by rw[xp,yp];kernel_rfl
theorem cF9:ZO (.type "list") "keys" =pure none:=by rw[xp,yp];kernel_rfl
section
variable{prog:zB}{w:zJ}{A:zF}{E:VSP}
theorem bS5{h:Heap}{g:Array GenState}{d:Drawn}{t:Nat}{os:OsState}{a:Addr}{o:Obj}{xs:Array zf}{k:Nat}{Q:Option zf->zh->Prop}
 (hx:h.get? a=some o) (hc:o.cls= .type "list") (hdat:o.data= .seq xs k) (hd:o.dict=none) (hA:A.handled=none)
 (hq:∀h' tk,(∀b ob,h.get? b=some ob->h'.get? b=some ob)->Q none ⟨h',g,d,tk,os⟩):
 zp (zD prog w) A (getAttr? (.ref a) "keys") Q E ⟨h,g,d,t,os⟩:=by
 obtain⟨c,dct,dat,sl⟩:=o
 simp only at hc hdat hd
 subst hc hdat hd
 have hT:∀tk',(⟨h,g,d,tk',os⟩:zh).TypeIs (.ref a) "list":=λ_=>⟨_,hx,rfl⟩
 have f1:=sub_AttributeError
 have f3:=Zs.lookup
 have f4:=Zs.bind (.ref a)
 have f5:=am_list_getattr_none
 unfold getAttr? getAttrBy? getAttrBy
 repeat (any_goals (first|assumption|exact hT _|((with_reducible show zp _ _ (call (Value.builtin "list.__getattribute__") _ _) _ _ _);refine ZQ Zs (hT _) am_entry_list_getattribute (F.args_list_getattribute_2 _ _) (meets_getattribute_miss_list a xs k sl "keys" _ cF9 (by decide +kernel) (by decide +kernel)) ⟨hx,hA,λh' tk' e hx'=>?_⟩)|wp_step))
 obtain⟨t',u',he⟩:=hx'.there
 have hTe:∀tk'',(⟨h',g,d,tk'',os⟩:zh).TypeIs (.ref e) "AttributeError":=λ_=>⟨_,he,rfl⟩
 show zp _ _ (Zl _ _ _ _ _ _ _) _ _ _
 unfold Zl
 repeat (any_goals (first|assumption|exact hTe _|wp_step))
 exact hq _ _ hx'.keeps
theorem bM9{h:Heap}{g:Array GenState}{d:Drawn}{t:Nat}{os:OsState}{a:Addr}{o:Obj}{xs:Array zf}{k:Nat}{Q:Option zf->zh->Prop}
 (hx:h.get? a=some o) (hc:o.cls= .type "tuple") (hdat:o.data= .seq xs k) (hd:o.dict=none) (hA:A.handled=none)
 (hq:∀h' tk,(∀b ob,h.get? b=some ob->h'.get? b=some ob)->Q none ⟨h',g,d,tk,os⟩):
 zp (zD prog w) A (getAttr? (.ref a) "keys") Q E ⟨h,g,d,t,os⟩:=by
 obtain⟨c,dct,dat,sl⟩:=o
 simp only at hc hdat hd
 subst hc hdat hd
 have hT:∀tk',(⟨h,g,d,tk',os⟩:zh).TypeIs (.ref a) "tuple":=λ_=>⟨_,hx,rfl⟩
 have f1:=sub_AttributeError
 have f3:=Zn.lookup
 have f4:=Zn.bind (.ref a)
 have f5:=am_tuple_getattr_none
 unfold getAttr? getAttrBy? getAttrBy
 repeat (any_goals (first|assumption|exact hT _|((with_reducible show zp _ _ (call (Value.builtin "tuple.__getattribute__") _ _) _ _ _);refine ZQ Zn (hT _) am_entry_tuple_getattribute (F.args_tuple_getattribute_2 _ _) (meets_getattribute_miss_tuple a xs k sl "keys" _ bV8 (by decide +kernel) (by decide +kernel)) ⟨hx,hA,λh' tk' e hx'=>?_⟩)|wp_step))
 obtain⟨t',u',he⟩:=hx'.there
 have hTe:∀tk'',(⟨h',g,d,tk'',os⟩:zh).TypeIs (.ref e) "AttributeError":=λ_=>⟨_,he,rfl⟩
 show zp _ _ (Zl _ _ _ _ _ _ _) _ _ _
 unfold Zl
 repeat (any_goals (first|assumption|exact hTe _|wp_step))
 exact hq _ _ hx'.keeps
end
end DL
namespace DL
open PySem
open PyProof.Rows (IsTup)
theorem aT3:entryFor table "dict.update.loop" =some jY.«dict.update.loop»:=entryFor_of_tree (by kernel_rfl)
theorem aA1:plainId "dict.update.loop" =true:=by decide +kernel
section
variable{prog:zB}{w:zJ}{A:zF}{R:YS->zh->Prop}{I:Addr}{fp wr:List Addr}{n:Nat}{P:Nat->zf->Prop}{St:Nat->Heap->Prop}{K:Type}[DecidableEq K]{knd:KeyKind prog w K}
theorem cR7{s:zh}{ta:Addr}{x y:zf}{Q:List zf->zh->Prop}{E:VSP}(h:ZU s.heap ta #[x,y])(q:Q [x,y] s):zp (zD prog w) A (YG (.ref ta)) Q E s:=by
 obtain⟨o,ho,hc,m,hd⟩:=h
 have hT:s.TypeIs (.ref ta) "tuple":=⟨_,ho,hc⟩
 unfold YG
 refine za (yP hT ?_)
 rw[if_pos (by decide)]
 exact za (jJ ho hd (zi q))
theorem aN9(W:Walks prog w A.in1 I fp wr n P St)(S:Addr)(hSf:S∉fp)(h0:Heap)(ps:List (K×zf))(hn:ps.length=n)
 (hval:∀i v,P i v->∃ta key kv,v= .ref ta/\ps[i]? =some kv/\ZU h0 ta #[key,kv.2]/\knd.is kv.1 key=true/\ta≠S/\ta∉wr) (hsz:n<=zk):
 ∀(k i:Nat) (s:zh) (m:Int) (tk:Tok),n-i=k->i<=n->St i s.heap->s.heap.DictOf knd S (Xr [] (ps.take i))->(∀b o,b≠S->b∉wr->h0.get? b=some o->s.heap.get? b=some o)->
  (∀h' tk',h'.DictOf knd S (Xr [] ps)->(∀b o,b≠S->b∉wr->h0.get? b=some o->h'.get? b=some o)->R (.ok (.ret .none)) {s with heap:=h',toks:=tk'})->
  xB (zD prog w) A (.builtin "dict.update.loop" ⟨[.ref S,.ref I,.int m tk,.none], []⟩) R s:=by
 have hSw:S∉wr:=λh=>hSf (W.sub _ h)
 intro k
 induction k with
 |zero=>
   intro i s m tk hk hi hst hS hh hR
   have hin:i=n:=by lia
   subst hin
   refine jW aT3 ?_
   rw[jA aA1 _]
   show zp _ A.in1 (yC (.ref I) >>= _) _ _ s
   refine za (W.done s _ _ hst λh' tk' hm=>?_)
   show zp _ A.in1 (Builtin.Dict.addKeywords S [] >>= _) _ _ _
   refine za (zi ?_)
   refine zi (hR h' tk' ?_ λb o hb hb' e=>hm b o hb' (hh b o hb hb' e))
   rw[xr (by lia)]at hS
   obtain⟨o,es,ep,ho,rest⟩:=hS
   exact⟨o,es,ep,hm S _ hSw ho,rest⟩
 |succ k ih=>
   intro i s m tk hk hi hst hS hh hR
   have hlt:i<n:=by lia
   refine jW aT3 ?_
   rw[jA aA1 _]
   show zp _ A.in1 (yC (.ref I) >>= _) _ _ s
   refine za (W.item i s _ _ hlt hst λv h' tk' hP hst' hm=>?_)
   obtain⟨ta,key,kv,rfl,hkv,⟨ot,hot,hct,mt,hdt⟩,hkey,hne,hnw⟩:=hval i v hP
   have hS':h'.DictOf knd S (Xr [] (ps.take i)):=by
    obtain⟨o,es,ep,ho,rest⟩:=hS
    exact⟨o,es,ep,hm S _ hSw ho,rest⟩
   have ht':ZU h' ta #[key,kv.2]:=⟨ot,hm ta _ hnw (hh ta _ hne hnw hot),hct,mt,hdt⟩
   refine za (jz ?_)
   refine za (wpAny_tryCatch (cR7 ht' ?_))
   refine jz ?_
   have hlen:(Xr [] (ps.take i)).length<=zk:=by
    have:=merged_length_le (K:=K) [] (ps.take i)
    rw[yZ,yM]at this
    lia
   refine wpAny_dictSet_pairs (hsz:=hlen) hkey hS' λh'' hd'' hsb=>?_
   refine zi ⟨ye aA1 _,ih (i+1) _ _ _ (by lia) hlt (W.frame _ _ _ hst' λb hb o e=>?_) ?_ (λb o hb hb' e=>?_) λh3 tk3 hd3 hk3=>hR h3 tk3 hd3 hk3⟩
   ·rw[hsb.2 b (λh:b=S=>hSf (by rw[<-h];exact hb))];exact e
   ·rw[merged_take_succ [] ps i kv hkv];exact hd''
   ·rw[hsb.2 b hb];exact hm b o hb' (hh b o hb hb' e)
end
section
variable{prog:zB}{w:zJ}{A:zF}{E:VSP}{s:zh}{K:Type}[DecidableEq K]{knd:KeyKind prog w K}
theorem bS2{src:Addr}{o:Obj}{items:Array zf}{m:Nat}{ps:List (K×zf)}{Q:VSP}(hx:s.heap.get? src=some o)(hc:o.cls= .type "list")(hd:o.data= .seq items m)(hdict:o.dict=none)(hA:A.handled=none)
 (hn:ps.length=items.size) (hsz:items.size<=zk) (hval:∀(i:Nat) (v:zf),items[i]? =some v->∃(ta:Addr) (key:zf) (kv:K×zf),v= .ref ta/\ps[i]? =some kv/\ZU s.heap ta #[key,kv.2]/\knd.is kv.1 key=true)
 (h:∀h' tk,h'.DictOf knd s.heap.objs.size (Xr [] ps)->(∀b o,s.heap.get? b=some o->h'.get? b=some o)->Q (.ref s.heap.objs.size) {s with heap:=h',toks:=tk}):
 zp (zD prog w) A (call (.type "dict") [.ref src]) Q E s:=by
 refine Ja (Q₁:=λobj X0=>obj= .ref s.heap.objs.size/\X0= {s with heap:=s.heap.push {cls:=.type "dict",data:=.dict #[]}}) F.kt_called_dict (F.kt_typeCall_dict_1 _) F.entry_dict_init (kt_code_dict_new _ ⟨rfl,rfl⟩) ?_
 rintro obj X0 ⟨rfl,rfl⟩
 have hnew:(s.heap.push {cls:=.type "dict",data:=.dict #[]}).DictOf knd s.heap.objs.size []:=ZY s.heap
 have hlt:src<s.heap.objs.size:=zn hx
 have hx1:(s.heap.push {cls:=.type "dict",data:=.dict #[]}).get? src=some o:=zg _ hx
 have hT1:Xi {s with heap:=s.heap.push {cls:=.type "dict",data:=.dict #[]}} (.ref src) "list":=⟨_,hx1,hc⟩
 refine⟨hnew.typeIs,F.args_dict_init_2 _ _,?_⟩
 unfold jY.«dict.__init__»
 refine za ?_
 unfold Yu
 refine za (wpAny_notOrdered_dict hnew.typeIs ?_)
 show zp _ _ (pure (s.heap.objs.size, [Value.ref src])) _ _ _
 refine zi ?_
 show zp _ _ (yY "dict.__init__" s.heap.objs.size (.ref src) [] .none) _ _ _
 unfold yY
 refine za (yP hT1 ?_)
 rw[if_pos (by decide)]
 have hA2:A.in1.in1.handled=none:=by simp[hA]
 refine za (bS5 hx1 hc hd hdict hA2 λh2 tk2 k2=>?_)
 simp only[Ju,if_true]
 refine za (yB ?_)
 have hx2:h2.get? src=some o:=k2 _ _ hx1
 have hl2:h2.IsList src items:=⟨o,hx2,hc,m,hd⟩
 have hS2:h2.DictOf knd s.heap.objs.size []:=by
  obtain⟨o,es,ep,ho,rest⟩:=hnew
  exact⟨o,es,ep,k2 _ _ ho,rest⟩
 have hlt2:s.heap.objs.size<h2.objs.size:=by
  obtain⟨o,es,ep,ho,rest⟩:=hS2
  exact zn ho
 refine za (xA hl2 ?_)
 have hA1:A.in1.in1.handled=none:=hA2
 refine zi ⟨ye aA1 _,?_⟩
 have hkeep:∀b ob,s.heap.get? b=some ob->h2.get? b=some ob:=λb ob e=>k2 _ _ (zg _ e)
 refine aN9 (knd:=knd) (JD (A:=A.in1.in1) hA1 h2.objs.size src (zA (yt hlt hlt2)) items) s.heap.objs.size ?_ s.heap ps hn ?_ hsz items.size 0 _ _ _ (by lia) (jR _) ?_ ?_ ?_ ?_
 · simp only[zw,zy,or_false,not_or]
   exact⟨zA hlt2,yb hlt⟩
 · intro i v hv
   obtain⟨ta,key,kv,e1,e2,e3,e4⟩:=hval i v hv
   have hta:ta<s.heap.objs.size:=by obtain⟨_,e,_⟩:=e3;exact zn e
   exact⟨ta,key,kv,e1,e2,e3,e4,zA hta,by simp only[zw,zy,or_false];exact zA (yt hta hlt2)⟩
 ·exact⟨⟨_,zm _ rfl,rfl,rfl⟩,hl2.push _⟩
 · show Heap.DictOf knd (h2.push _) _ _
   exact hS2.push _
 · intro b ob hb hb' e
   exact zg _ (hkeep b ob e)
 · intro h' tk' hd' hk'
   refine⟨rfl,h h' tk' hd' λb ob e=>hk' b ob ?_ ?_ e⟩
   ·exact zA (zn e)
   · simp only[zw,zy,or_false]
     exact zA (yt (zn e) hlt2)
theorem bM7{src:Addr}{o:Obj}{items:Array zf}{m:Nat}{ps:List (K×zf)}{Q:VSP}(hx:s.heap.get? src=some o)(hc:o.cls= .type "tuple")(hd:o.data= .seq items m)(hdict:o.dict=none)(hA:A.handled=none)
 (hn:ps.length=items.size) (hsz:items.size<=zk) (hval:∀(i:Nat) (v:zf),items[i]? =some v->∃(ta:Addr) (key:zf) (kv:K×zf),v= .ref ta/\ps[i]? =some kv/\ZU s.heap ta #[key,kv.2]/\knd.is kv.1 key=true)
 (h:∀h' tk,h'.DictOf knd s.heap.objs.size (Xr [] ps)->(∀b o,s.heap.get? b=some o->h'.get? b=some o)->Q (.ref s.heap.objs.size) {s with heap:=h',toks:=tk}):
 zp (zD prog w) A (call (.type "dict") [.ref src]) Q E s:=by
 refine Ja (Q₁:=λobj X0=>obj= .ref s.heap.objs.size/\X0= {s with heap:=s.heap.push {cls:=.type "dict",data:=.dict #[]}}) F.kt_called_dict (F.kt_typeCall_dict_1 _) F.entry_dict_init (kt_code_dict_new _ ⟨rfl,rfl⟩) ?_
 rintro obj X0 ⟨rfl,rfl⟩
 have hnew:(s.heap.push {cls:=.type "dict",data:=.dict #[]}).DictOf knd s.heap.objs.size []:=ZY s.heap
 have hlt:src<s.heap.objs.size:=zn hx
 have hx1:(s.heap.push {cls:=.type "dict",data:=.dict #[]}).get? src=some o:=zg _ hx
 have hT1:Xi {s with heap:=s.heap.push {cls:=.type "dict",data:=.dict #[]}} (.ref src) "tuple":=⟨_,hx1,hc⟩
 refine⟨hnew.typeIs,F.args_dict_init_2 _ _,?_⟩
 unfold jY.«dict.__init__»
 refine za ?_
 unfold Yu
 refine za (wpAny_notOrdered_dict hnew.typeIs ?_)
 show zp _ _ (pure (s.heap.objs.size, [Value.ref src])) _ _ _
 refine zi ?_
 show zp _ _ (yY "dict.__init__" s.heap.objs.size (.ref src) [] .none) _ _ _
 unfold yY
 refine za (yP hT1 ?_)
 rw[if_pos (by decide)]
 have hA2:A.in1.in1.handled=none:=by simp[hA]
 refine za (bM9 hx1 hc hd hdict hA2 λh2 tk2 k2=>?_)
 simp only[Ju,if_true]
 refine za (yB ?_)
 have hx2:h2.get? src=some o:=k2 _ _ hx1
 have hl2:h2.IsTuple src items:=⟨o,hx2,hc,m,hd⟩
 have hS2:h2.DictOf knd s.heap.objs.size []:=by
  obtain⟨o,es,ep,ho,rest⟩:=hnew
  exact⟨o,es,ep,k2 _ _ ho,rest⟩
 have hlt2:s.heap.objs.size<h2.objs.size:=by
  obtain⟨o,es,ep,ho,rest⟩:=hS2
  exact zn ho
 refine za (Zj hl2 ?_)
 have hA1:A.in1.in1.handled=none:=hA2
 refine zi ⟨ye aA1 _,?_⟩
 have hkeep:∀b ob,s.heap.get? b=some ob->h2.get? b=some ob:=λb ob e=>k2 _ _ (zg _ e)
 refine aN9 (knd:=knd) (Walks.tuple (A:=A.in1.in1) hA1 h2.objs.size src (zA (yt hlt hlt2)) items) s.heap.objs.size ?_ s.heap ps hn ?_ hsz items.size 0 _ _ _ (by lia) (jR _) ?_ ?_ ?_ ?_
 · simp only[zw,zy,or_false,not_or]
   exact⟨zA hlt2,yb hlt⟩
 · intro i v hv
   obtain⟨ta,key,kv,e1,e2,e3,e4⟩:=hval i v hv
   have hta:ta<s.heap.objs.size:=by obtain⟨_,e,_⟩:=e3;exact zn e
   exact⟨ta,key,kv,e1,e2,e3,e4,zA hta,by simp only[zw,zy,or_false];exact zA (yt hta hlt2)⟩
 ·exact⟨⟨_,zm _ rfl,rfl,rfl⟩,hl2.push _⟩
 · show Heap.DictOf knd (h2.push _) _ _
   exact hS2.push _
 · intro b ob hb hb' e
   exact zg _ (hkeep b ob e)
 · intro h' tk' hd' hk'
   refine⟨rfl,h h' tk' hd' λb ob e=>hk' b ob ?_ ?_ e⟩
   ·exact zA (zn e)
   · simp only[zw,zy,or_false]
     exact zA (yt (zn e) hlt2)
end
end DL
namespace DL
open PySem PySem.Spec L2
open PyProof.Rows hiding St
def bY2:D->Option (Key×D)
 | .tup [k,v]=>match bU2 k with
   |some q=>some (q,v)
   |none=>none
 |_=>none
def aF0:List D->Option (List (Key×D))
 |[]=>some []
 |d::r=>match bY2 d,aF0 r with
   |some p,some ps=>some (p::ps)
   |_,_=>none
def putAll(acc:List (Key×D))(l:List (Key×D)):List (Key×D):=l.foldl (λacc kv=>aU9 acc kv.1 kv.2) acc
def aP1:List D->M D:=λds=>match ds with
 |[.tup l]=>do
   let ps <-aJ6 (aF0 l)
   R0 (.dct (putAll [] ps))
 |[.ref r]=>do
   let l <-S7 r >>= listOf
   let ps <-aJ6 (aF0 l)
   R0 (.dct (putAll [] ps))
 |_=>M.stuck
section
variable{X:Cx}{Z:XC}{c:Wc}{U:List Addr}{H:Hp}{G:DH}
theorem dP2{d:D}{p:Key×D}(h:bY2 d=some p):∃k,d= .tup [k,p.2]/\bU2 k=some p.1:=by
 rcases d with _|_|_|_|l|_|_|_<;>try (cases h;done)
 rcases l with _|⟨k,_|⟨v,_|⟨_,_⟩⟩⟩<;>try (cases h;done)
 delta bY2 at h
 dsimp only at h
 rcases e:bU2 k with _|q
 ·rw[e]at h;cases h
 ·rw[e]at h;cases h;exact⟨k,rfl,e⟩
theorem bI1{pins:PNS}{s:zh}{O:St}(I:Inv X pins O H s):∀ {l:List D} {ps:List (Key×D)} {vs:List V} {its:List zf},aF0 l=some ps->v9 (wc X) U H l vs->J2 vs its->
 ∃(kvs:List (Key×V)) (ws:List (Key×zf)),aD0 (wc X) U H ps kvs/\KV kvs ws/\ws.length=its.length/\∀(i:Nat) (v:zf),its[i]? =some v->∃(ta:Addr) (key:zf) (kv:Key×zf),v= .ref ta/\ws[i]? =some kv/\ZU s.heap ta #[key,kv.2]/\(Q4 X.prog X.w).is kv.1 key=true
 |[],ps,vs,its,e,rl,rv=>by
   cases e;cases rl;cases rv
   exact⟨[], [],rfl,.nil,rfl,λi v h=>by simp at h⟩
 |d::r,ps,vs,its,e,rl,rv=>by
   replace e:(match bY2 d,aF0 r with|some p,some ps=>some (p::ps)|_,_=>none)=some ps:=e
   rcases e1:bY2 d with _|p
   ·rw[e1]at e;cases e
   ·
     rcases e2:aF0 r with _|qs
     ·rw[e1,e2]at e;cases e
     ·
       rw[e1,e2]at e
       cases e
       obtain⟨v,t,rfl,r0,rt⟩:=rl
       cases rv with
       |cons q0 qt=>
         obtain⟨kvs,ws,h1,h2,h3,h4⟩:=bI1 I e2 rt qt
         obtain⟨k,rfl,hk⟩:=dP2 e1
         unfold j8 at r0
         obtain⟨a,us,rfl,hq,ru⟩:=r0
         obtain⟨x,y,rfl,rx,ry⟩:=eS2 ru
         obtain⟨its2,rr,ht,_⟩:=I.tuple hq
         obtain⟨p1,p2⟩:=p
         cases rr with
         |cons rr0 rr1=>
           cases rr1 with
           |cons rr2 rr3=>
             cases rr3
             rename_i w0 w1
             have ex:=cC2 hk rx
             subst ex
             cases (show _=Value.ref a from q0)
             refine⟨(p1,y)::kvs,(p1,w1)::ws,⟨y,kvs,rfl,ry,h1⟩,.cons ⟨rfl,rr2⟩ h2,by simp[h3],λi v hv=>?_⟩
             cases i with
             |zero=>
               simp only[zc,zd]at hv
               subst hv
               exact⟨a,w0,(p1,w1),rfl,rfl,ht,bT7 rr0⟩
             |succ i=>exact h4 i v (by simpa using hv)
theorem cI3:∀ {ps:List (Key×D)} {kvs:List (Key×V)} {acc:List (Key×D)} {acc':List (Key×V)},aD0 c U H ps kvs->aD0 c U H acc acc'->aD0 c U H (putAll acc ps) (kvs.foldl (λacc kv=>aS9 acc kv.1 kv.2) acc')
 |[],_,_,_,r,q=>by cases r;exact q
 |(k,d)::t,_,_,_,r,q=>by
  obtain⟨v,kt,rfl,rv,rt⟩:=r
  have z:=cI3 rt (cI7 (k:=k) rv q)
  exact z
theorem dJ2:∀ {kvs:List (Key×V)} {ws:List (Key×zf)} {acc:List (Key×V)} {acc':List (Key×zf)},KV kvs ws->KV acc acc'->KV (kvs.foldl (λacc kv=>aS9 acc kv.1 kv.2) acc) (Xr acc' ws)
 |_,_,_,_,.nil,q=>q
 |_,_,_,_,.cons (a:=p) (b:=r) ⟨e,rv⟩ t,q=>by
   obtain⟨k,v⟩:=p
   obtain⟨k',u⟩:=r
   cases (show k=k' from e)
   have z:=dJ2 t (q.put k rv)
   exact z
theorem cK9{pins:PNS}{s:zh}{O:St}{Q:VK}{ps:List (Key×D)}{kvs:List (Key×V)}{ws:List (Key×zf)}{h':Heap}{tk:Nat}(I:Inv X pins O H s)(hr:J0 (wc X) U G H)(h1:aD0 (wc X) U H ps kvs)(h2:KV kvs ws)(hz:ws.length<=zk)
 (p:j7 (wc X) Z U H (R0 (.dct (putAll [] ps)) G) λd X9 _ H'=>∀v,j8 (wc X) X9 H' d v->Q v H')
 (hd:h'.DictOf (Q4 X.prog X.w) s.heap.objs.size (Xr [] ws)) (hk:∀b o,s.heap.get? b=some o->h'.get? b=some o):EP X pins O Q (.ref s.heap.objs.size) {s with heap:=h',toks:=tk}:=by
 have k3:=dJ2 h2 (.nil:KV [] [])
 have hl:(kvs.foldl (λacc kv=>aS9 acc kv.1 kv.2) []).length<=zk:=by
  rw[k3.length]
  have:=merged_length_le (K:=Key) [] ws
  rw[yM]at this
  lia
 have hq:H s.heap.objs.size=none:=I.hok.fresh (zo _)
 refine⟨.ref s.heap.objs.size,_,I.laid (t':=tk) (o:=.dK (kvs.foldl (λacc kv=>aS9 acc kv.1 kv.2) [])) hk (zo _) (dR8 hl (beq_eq_false_iff_ne.mpr (Ne.symm (zA I.big))) k3 hd),rfl,?_⟩
 have k:Ext U H (U++[s.heap.objs.size]) (upd H s.heap.objs.size (.dK (kvs.foldl (λacc kv=>aS9 acc kv.1 kv.2) []))):=Ext.add hq _
 have e0:aD0 (wc X) U H (putAll [] ps) (kvs.foldl (λacc kv=>aS9 acc kv.1 kv.2) []):=cI3 h1 rfl
 refine p (U++[s.heap.objs.size]) _ k (hr.new hq ⟨_,R9,e0.mono k⟩) _ ?_
 unfold j8
 exact⟨s.heap.objs.size,by rw[<-hr.len];simp,rfl⟩
theorem eA1(hc:X.calm=true):Z3 X Z (.type "dict") aP1:=⟨by
 intro pins s O H xs us Q I r hE0
 obtain⟨ds,U,G,rl,hr,p⟩:=hE0
 have hh:X.A.handled=none:=I.ok.hd hc
 rcases ds with _|⟨_|_|_|_|l|i|_|_,_|⟨_,_⟩⟩<;>try exact p.elim
 all_goals (delta aP1 at p;dsimp only at p)
 · obtain⟨v,rfl,rv⟩:=aU0 rl
   obtain⟨u,rfl,ru⟩:=aI5 r
   unfold j8 at rv
   obtain⟨a,vs,rfl,q,rl'⟩:=rv
   cases ru
   obtain⟨ps,eps,p2⟩:=aE2 p
   obtain⟨its,rr,⟨o,g1,g2,n,g3⟩,hz⟩:=I.tupleN q
   obtain⟨kvs,ws,h1,h2,h3,h4⟩:=bI1 I eps rl' rr
   have hlen:=rr.length
   exact bM7 (knd:=Q4 X.prog X.w) (ps:=ws) g1 g2 (xw g3).1 (xw g3).2 hh (by simpa using h3) (by simp only[zq];lia) (λi v hv=>h4 i v (by simpa using hv)) λh' tk hd hk=>cK9 I hr h1 h2 (by lia) p2 hd hk
 · obtain⟨v,rfl,rv⟩:=aU0 rl
   obtain⟨u,rfl,ru⟩:=aI5 r
   obtain⟨l,a,vs,rfl,rl',q,p1⟩:=aG1 hr rv p
   cases ru
   obtain⟨ps,eps,p2⟩:=aE2 p1
   obtain⟨its,rr,⟨o,n,g1,g2,g3,g4⟩,hz⟩:=I.list q
   obtain⟨kvs,ws,h1,h2,h3,h4⟩:=bI1 I eps rl' rr
   have hlen:=rr.length
   exact bS2 (knd:=Q4 X.prog X.w) (ps:=ws) g1 g2 g4 g3 hh (by simpa using h3) (by simp only[zq];lia) (λi v hv=>h4 i v (by simpa using hv)) λh' tk hd hk=>cK9 I hr h1 h2 (by lia) p2 hd hk⟩
theorem eA5(h:X.calm=true):BD aP1 "dict" X Z:=⟨.inr ⟨_,eA1 h,eB3⟩⟩
end
end DL
namespace W
open PySem PySem.Spec L2 DL
open PyProof.Rows hiding St
theorem cM8{l:List D}{ps:List (Key×D)}{G:DH}{Q:DPP}(h:aF0 l=some ps):Wp (aP1 [.tup l]) G Q↔Q (.ref G.length) (G++[.dct (putAll [] ps)]):=by
 unfold aP1
 simp only[m9,h,aL3,X4,zd,exists_eq_left']
end W
namespace DL
open PySem PySem.Spec L2
open PyProof.Rows hiding St
def cB9:D->List D->M D:=λx xs=>match x,xs with
 | .ref r, [.int k]=>do
   let l <-lstM r
   match l[k.toNat]? with
   |some y=>
     if 0<=k/\k<2 ^ 62 then do
      let _ <-bB9 r (.lst (l.eraseIdx k.toNat))
      pure y
     else M.stuck
   |none=>M.stuck
 |_,_=>M.stuck
section
variable{X:Cx}{Z:XC}{c:Wc}{U:List Addr}{H:Hp}
theorem v9.eraseIdx{l:List D}{vs:List V}(n:Nat)(h:v9 c U H l vs):v9 c U H (l.eraseIdx n) (vs.eraseIdx n):=by
 rw[Yz,Yz]
 exact(v9.take _ h).append (v9.drop _ h)
theorem dP6:MtD X Z "list.pop" cB9:=by
 intro pins s O H x xs v us Q I rx rs hE0
 obtain⟨d,ds,U,G,rd,rds,hr,p⟩:=hE0
 rcases d with _|_|_|_|_|r|_|_<;>try (exact p.elim;done)
 ·
   unfold j8 at rd
   obtain⟨a,m,rfl⟩:=rd
   rcases ds with _|⟨kd,t⟩
   ·exact p.elim
   ·
     rcases t with _|⟨_,_⟩
     ·
       rcases kd with _|_|k|_|_|_|_|_<;>try (exact p.elim;done)
       ·
         obtain⟨kv,rfl,rk⟩:=aU0 rds
         have ek:=aF7 rk
         subst ek
         obtain⟨l,vs,g,ea,rl,p1⟩:=aQ8 hr m p
         rcases hy:l[k.toNat]? with _|y
         ·simp only[hy]at p1;exact p1.elim
         ·
           simp only[hy]at p1
           split at p1
           · rename_i hz
             obtain⟨x1,h1,p2⟩:=bE4 (l':=l.eraseIdx k.toNat) (vs':=vs.eraseIdx k.toNat) hr g m (λx=>(rl.mono x).eraseIdx _) p1
             obtain⟨yv,e1,ry⟩:=rl.get hy
             have hlt:k.toNat<vs.length:=by
              by_cases q:k.toNat<vs.length
              ·exact q
              ·rw[zK (by lia)]at e1;exact K1 e1
             refine dM5 pins s O H (.ref a) [.int k] v us Q I rx rs ⟨a,vs,k,k.toNat,yv,rfl,rfl,ea,by lia,by lia,?_,e1,j7.ok p2 h1 _ (ry.mono x1)⟩
             unfold JM
             have h0:¬k<0:=by lia
             have h2:(0<=k&&k<(vs.length:Int))=true:=by simp;lia
             simp only[if_neg h0,h2,if_true]
           ·exact p1.elim
     ·cases kd<;>exact p.elim
end
end DL
namespace W
open PySem PySem.Spec L2 DL
open PyProof.Rows hiding St
theorem dC1{r:Nat}{y:D}{l:List D}{G:DH}{Q:DPP}(h:G[r]? =some (.lst (y::l))):Wp (cB9 (.ref r) [.int 0]) G Q↔Q y (G.set r (.lst l)):=by
 have e:cB9 (.ref r) [.int 0]= (do
  let l <-lstM r
  match l[(0:Int).toNat]? with
  |some y=>
    if 0<=(0:Int)/\(0:Int)<2 ^ 62 then do
     let _ <-bB9 r (.lst (l.eraseIdx (0:Int).toNat))
     pure y
    else M.stuck
  |none=>M.stuck):=rfl
 rw[e]
 unfold lstM
 simp only[m9,R8,h,Q8,wp_pure]
 show Wp (if 0<=(0:Int)/\(0:Int)<2 ^ 62 then (do let _ <-bB9 r (.lst l);pure y)else M.stuck) G Q↔_
 rw[if_pos (by decide)]
 simp only[m9,wp_pure,bI0]
end W
namespace DL
open PySem PySem.Spec L2
open PyProof.Rows hiding St
def ixG:D->D->M D:=λx y=>match x,y with
 | .ref r,.str z=>do
   match <-S7 r with
   | .dct l=>aJ6 (R3 l (.inr z))
   |_=>M.stuck
 |_,_=>ixD x y
section
variable{X:Cx}{Z:XC}{a b e:Expr}{fa fb:Fe}{pos:Pos}
theorem dL4:IxR X (λx y H Q=>∃a kvs k v,x= .ref a/\y=kV k/\H a=some (.dK kvs)/\aW0 kvs k=some v/\Q v H):=by
 intro value slice pins s O H x y v u Q I rx ry h hs
 obtain⟨a,kvs,k,z,rfl,rfl,e,l,q⟩:=h
 cases rx
 obtain⟨zz,hd,vs,rel,dd⟩:=cW7 I.hok e
 obtain⟨w',hw,rw'⟩:=bU0.some_of (v:=z) (o:=Xa vs k) (by rw[<-l];exact rel.val k)
 exact ZR (x:=w') dd.typeIs PySem.F.slot_dict_getitem.lookup (wpAny_getItem_of (Q:=λr s'=>r=w'/\EP X pins O Q r s') (bT7 ry) dd.mapOf hw ⟨rfl,z,H,I.tok _,rw',q⟩) hs
theorem eH4:IxD X Z ixG:=IxR.mono (dL4.or eF0) λx y H Q hE0=>hE0.elim λdx dy U G rx ry hr p=>by
 by_cases c:∃r z,dx= .ref r/\dy= .str z
 · obtain⟨r,z,rfl,rfl⟩:=c
   refine .inl ?_
   unfold j8 at rx
   obtain⟨a,m,rfl⟩:=rx
   have p':j7 (wc X) Z U H ((S7 r >>= λo=>match o with| .dct l=>aJ6 (R3 l (.inr z))|_=>M.stuck:M D) G) λd X9 _ H'=>∀v,j8 (wc X) X9 H' d v->Q v H':=p
   obtain⟨o,g,p1⟩:=Q0 p'
   have ro:=hr.obj r o a g m
   rcases o with _|_|l|_<;>try (exact p1.elim;done)
   ·
     obtain⟨kvs,q,rk⟩:=ro
     obtain⟨d,ed,k⟩:=bR0 hr p1
     have z1:=aY9 (k:=.inr z) rk
     rw[ed]at z1
     obtain⟨v,ev,rv⟩:=z1
     exact⟨a,kvs,.inr z,v,rfl,aZ6 ry,q,ev,k v rv⟩
 · refine .inr ⟨dx,dy,U,G,rx,ry,hr,?_⟩
   have e:ixG dx dy=ixD dx dy:=by
    rcases dx with _|_|_|_|_|r|_|_<;>try (rfl;done)
    ·
      rcases dy with _|_|_|z|_|_|_|_<;>try (rfl;done)
      ·exact absurd ⟨r,z,rfl,rfl⟩ c
   rw[<-e]
   exact p
theorem eT7(ha:DE X Z a fa)(hb:DE X Z b fb)(hs:bN9 b):DE X Z (.Subscript a b pos) (d9 ixG fa fb):=dO1 eH4 ha hb hs
end
end DL
namespace W
open PySem PySem.Spec L2 DL
open PyProof.Rows hiding St
theorem cU1{r:Nat}{z:Str}{d:D}{l:List (Key×D)}{G:DH}{Q:DPP}(h:G[r]? =some (.dct l))(k:R3 l (.inr z)=some d):Wp (ixG (.ref r) (.str z)) G Q↔Q d G:=by
 have e:ixG (.ref r) (.str z)= (S7 r >>= λo=>match o with| .dct l=>aJ6 (R3 l (.inr z))|_=>M.stuck:M D):=rfl
 rw[e]
 simp only[m9,R8,h,Q8,aL3,k,zd,exists_eq_left']
end W
namespace DL
open PySem PySem.W
open PyProof.Rows hiding St
noncomputable def tOk{α:Type}(lt:Nat->Nat->Bool)(n:Nat):KasT α->(α->Prop)->Prop
 | .ret a,Q=>Q a
 | .ask i j k,Q=>i<n/\j<n/\tOk lt n (k (lt i j)) Q
section
variable{α β:Type}{lt:Nat->Nat->Bool}{n:Nat}
theorem tOk.bind{f:α->KasT β}{Q:β->Prop}:∀(t:KasT α),tOk lt n t (λa=>tOk lt n (f a) Q)->tOk lt n (t.bind f) Q
 | .ret _,h=>h
 | .ask i j k,h=>⟨h.1,h.2.1,tOk.bind (k (lt i j)) h.2.2⟩
theorem tOk.mono{Q Q':α->Prop}(hq:∀a,Q a->Q' a):∀(t:KasT α),tOk lt n t Q->tOk lt n t Q'
 | .ret a,h=>hq a h
 | .ask i j k,h=>⟨h.1,h.2.1,tOk.mono hq (k (lt i j)) h.2.2⟩
end
structure OrdN(lt:Nat->Nat->Bool)(n:Nat):Prop where
 tr:∀i j k,lt i j=true->lt j k=true->lt i k=true
 tot:∀i j,i<n->j<n->i≠j->lt i j=false->lt j i=true
structure cZ5(p:Array Nat)(n:Nat):Prop where
 pm:p.toList.Perm (jw n)
section
variable{lt:Nat->Nat->Bool}{n:Nat}{p:Array Nat}
theorem cZ5.size(h:cZ5 p n):p.size=n:=by have:=h.pm.length_eq;simpa using this
theorem cZ5.ne(h:cZ5 p n){i j:Nat}(hi:i<n)(hj:j<n)(hij:i≠j):p.getD i 0≠p.getD j 0:=by
 have hs:=h.size
 have nd:p.toList.Nodup:=h.pm.nodup_iff.mpr List.nodup_range
 have e1:p.getD i 0=p.toList[i]'(by simp;lia):=by simp[Array.getD,hs,hi]
 have e2:p.getD j 0=p.toList[j]'(by simp;lia):=by simp[Array.getD,hs,hj]
 rw[e1,e2]
 intro e
 exact hij ((YK nd).mp e)
end
end DL
namespace DL
open PySem PySem.Spec L2
open PyProof.Rows hiding St
section
variable{X:Cx}{pins:PNS}{O:St}{H:Hp}{s:zh}{A:zF}
end
section
variable{X:Cx}{pins:PNS}{O:St}{A:zF}{F:List D->M D}{k:Nat}{f:Addr}{fd:zY}{ps:List Str}
end
section
variable{X:Cx}{pins:PNS}{O:St}{H:Hp}{s:zh}
end
section
variable{prog:zB}{w:zJ}{A:zF}{E:VSP}{s:zh}{C:Bool->zh->Prop}
end
section
variable{X:Cx}{Z:XC}{pins:PNS}{O:St}{H:Hp}{s:zh}{F:List D->M D}{k:Nat}{f:Addr}{fd:zY}{ps:List Str}{U:List Addr}{G:DH}
end
section
variable{X:Cx}{Z:XC}{e:Expr}{fe:Fe}{p pf kp pos:Pos}{x:Str}{F:List D->M D}
end
def CR(K:zj)(mg:Str->Option zf)(d:D)(u:zf):Prop:=∃v,J9 v u/\∀ U H,j8 ⟨K,mg⟩ U H d v
section
variable{K:zj}{mg:Str->Option zf}
theorem eP6{x:Str}{t:Tok}:CR K mg (.str x) (.str x t):=⟨.str x,⟨t,rfl⟩,λU H=>by unfold j8;rfl⟩
end
structure eF2(K:zj)(mg:Str->Option zf)(x:Str)(d:D):Prop where
 ex:∃u,mg x=some u/\CR K mg d u
section
variable{X:Cx}{Z:XC}{pos:Pos}{x:Str}{d:D}
theorem eP2(hc:eF2 X.K X.mg x d)(hg:Gl X x)(hdb:(x==("__debug__" :Str))=false):DE X Z (.Name x pos) (cE d):=⟨by
 intro pins s O H Q I hE0
 refine hE0.elim λZ8 U G sr hr p=>?_
 obtain⟨u,hm,v,ru,rv⟩:=hc.ex
 exact cW9 I hg hm ⟨v,H,I,ru,j7.ok p hr v (rv U H)⟩ hdb⟩
end
section
variable{X:Cx}{Z:XC}{o e:Expr}{es:List Expr}{fo:Fe}{fs:DSt->M (List D)}{name:Str}{id:String}{mm:D->List D->M D}{apos cpos:Pos}
end
section
variable{X:Cx}{Z:XC}
end
end DL
namespace W
open PySem PySem.Spec L2 DL
open PyProof.Rows hiding St
section
variable{G:DH}{O:DSt}{Q:DPP}
end
end W
namespace DL
open PySem PySem.Spec L2
open PyProof.Rows hiding St
section
variable{X:Cx}{Z:XC}{c:Wc}{U:List Addr}{H:Hp}
variable{e t:Expr}{lo hi:Option Expr}{fa:Fe}{fl fh ft:Fo}{p2 pos:Pos}
end
end DL
namespace W
open PySem PySem.Spec L2 DL
open PyProof.Rows hiding St
section
variable{G:DH}{O:DSt}{Q:DPP}
end
end W
namespace DL
open PySem PySem.Spec L2
open PyProof.Rows hiding St
section
variable{X:Cx}{Z:XC}{a b c:Expr}{fa fb fc:Fe}{pos p:Pos}{x:Str}
end
section
variable{X:Cx}{Z:XC}{pos:Pos}
end
end DL
namespace W
open PySem PySem.Spec L2 DL
open PyProof.Rows hiding St
end W
namespace DL
open PySem PySem.Spec L2
open PyProof.Rows hiding St
def aZ1:D->M Unit:=λx=>match x with
 | .ref r=>do
   match <-S7 r with
   | .dct _=>pure ()
   |_=>M.stuck
 |_=>M.stuck
def getD:D->List D->M D:=λx ds=>match x,ds with
 | .ref r, [.str z,d]=>do
   match <-S7 r with
   | .dct l=>pure ((R3 l (.inr z)).getD d)
   |_=>M.stuck
 |_,_=>M.stuck
section
variable{X:Cx}{Z:XC}{o e:Expr}{es:List Expr}{fo:Fe}{fs:DSt->M (List D)}{name:Str}{id:String}{mm:D->List D->M D}{apos cpos:Pos}
theorem cJ2{α:Type}{c:Wc}{U:List Addr}{H:Hp}{G:DH}{d:D}{v:V}{f:Unit->M α}{K:α->List Addr->DH->Hp->Prop}(h:J0 c U G H)(r:j8 c U H d v)(p:j7 c Z U H ((aZ1 d >>= f) G) K):tyV c.K "dict" v H/\j7 c Z U H (f () G) K:=by
 rcases d with _|_|_|_|_|i|_|_<;>try (exact p.elim;done)
 ·
   unfold j8 at r
   obtain⟨a,m,rfl⟩:=r
   have p':j7 c Z U H ((S7 i >>= λo=>(match o with| .dct _=>pure ()|_=>M.stuck:M Unit) >>= f) G) K:=by rw[<-M.bind_assoc];exact p
   obtain⟨o,g,p2⟩:=Q0 p'
   have ro:=h.obj i o a g m
   rcases o with _|_|l|_<;>try (exact p2.elim;done)
   ·obtain⟨vs,e,rl⟩:=ro;exact⟨.inr (.inr (.inl ⟨rfl,.inl ⟨vs,e⟩⟩)),p2⟩
theorem eJ0(slot:Slot "dict" name id)(hty:typeOf (.builtin id)=pure (.type "method_descriptor"))(hm:MtD X Z id mm)(ho:DE X Z o fo)(ha:DA X Z (e::es) fs)
 (hbase:xn o name X.env (eval o X.env)=eval o X.env)
 (hfew:((yR cpos (zM (e::es) X.env)).all (λx=> !x.1)&&(Jb cpos (Yi [] X.env)).all (λx=>x.1.isSome)
   && decide ((e::es).length+([]:List Keyword).length+(if ([]:List Keyword).isEmpty then 0 else 1)<30))=true)
 (hline:(apos.endLine==cpos.line)=true) (hs:zM (e::es) X.env= (false,eval e X.env)::zM es X.env) (hplain:(yR cpos (zM es X.env)).any (·.1)=false):
 DE X Z (.Call (.Attribute o name apos) (e::es) [] cpos) (mtE aZ1 mm fo fs):=
 DE.of (eE5 PySem.F.plainAttrs_dict slot hty hm ho.h ha.h hbase hfew hline hs hplain) λO H Q hE0=>hE0.elim λZ8 U G s h p=>⟨Z8,U,G,s,h,(j7.bind p).mono λd X1 G1 H1 x1 h1 p1 v rv=>by
  obtain⟨ty,p2⟩:=cJ2 h1 rv p1
  exact⟨ty,Z8,X1,G1,s.mono x1,h1,(j7.bind p2).mono λds WW G2 H2 x2 h2 p3 vs rvs=>⟨d,ds,WW,G2,rv.mono x2,rvs,h2,p3⟩⟩⟩
theorem eM0(hu:X.A.units+64<xj):MtD X Z "dict.get" getD:=by
 intro pins s O H x xs v us Q I rx rvs hE0
 obtain⟨d,ds,U,G,rd,rl,hr,p⟩:=hE0
 delta getD at p
 rcases d with _|_|_|_|_|r|_|_<;>try exact p.elim
 rcases ds with _|⟨_|_|_|z|_|_|_|_,_|⟨y,_|⟨_,_⟩⟩⟩<;>dsimp only at p<;>try exact p.elim
 · unfold j8 at rd
   obtain⟨a,m,rfl⟩:=rd
   obtain⟨zv,t1,rfl,rz,yv,t2,rfl,ry,e⟩:=rl
   cases e
   obtain⟨u1,us1,rfl,ru1,rv1⟩:∃u1 us1,us=u1::us1/\J9 zv u1/\J2 [yv] us1:=by
    cases rvs with|cons h t=>exact⟨_,_,rfl,h,t⟩
   obtain⟨u2,rfl,ru2⟩:=aI5 rv1
   obtain⟨o,g,p1⟩:=Q0 p
   have ro:=hr.obj r o a g m
   rcases o with _|_|l|_<;>try (exact p1.elim;done)
   ·
     obtain⟨kvs,q,rk⟩:=ro
     cases rx
     have ez:=aZ6 rz
     subst ez
     have dg:cH5 H a (V.str z) (aW0 kvs (.inr z)):=.inl ⟨kvs,.inr z,.inl q,rfl,rfl⟩
     refine eL2 (by lia) I dg ru1 ru2 λw' s' I' rw'=>⟨_,H,I',rw',?_⟩
     have lk:=aY9 (k:=.inr z) rk
     rcases el:R3 l (.inr z)with _|w
     ·
       rw[el]at lk
       dsimp only at lk p1
       rw[el]at p1
       rw[lk]
       exact j7.ok p1 hr _ ry
     ·
       rw[el]at lk
       obtain⟨v',e1,r1⟩:=lk
       dsimp only at p1
       rw[el]at p1
       rw[e1]
       exact j7.ok p1 hr _ r1
end
section
variable{X:Cx}{Z:XC}{a b e:Expr}{fa fb:Fe}{pos:Pos}
end
section
variable{X:Cx}{Z:XC}{U:List Addr}{H:Hp}{G:DH}
end
section
variable{X:Cx}{Z:XC}
end
end DL
namespace W
open PySem PySem.Spec L2 DL
open PyProof.Rows hiding St
theorem cY7{r:Nat}{z:Str}{d:D}{l:List (Key×D)}{G:DH}{Q:DPP}(h:G[r]? =some (.dct l)):Wp (getD (.ref r) [.str z,d]) G Q↔Q ((R3 l (.inr z)).getD d) G:=by
 have e:getD (.ref r) [.str z,d]= (S7 r >>= λo=>match o with| .dct l=>pure ((R3 l (.inr z)).getD d)|_=>M.stuck:M D):=rfl
 rw[e]
 simp only[m9,R8,h,Q8,wp_pure]
theorem bX6{r:Nat}{l:List (Key×D)}{G:DH}{Q:Unit->DH->Prop}(h:G[r]? =some (.dct l)):Wp (aZ1 (.ref r)) G Q↔Q () G:=by
 have e:aZ1 (.ref r)= (S7 r >>= λo=>match o with| .dct l=>pure ()|_=>M.stuck:M Unit):=rfl
 rw[e]
 simp only[m9,R8,h,Q8,wp_pure]
end W
namespace DL
open PySem PySem.Spec L2
open PyProof.Rows hiding St
section
variable{prog:zB}{w:zJ}{A:zF}{E:VSP}{s:zh}{j t:Addr}{k:Nat}{ys:Array zf}
theorem cR8{x:zf}{Q:VSP}(a:s.heap.IsTupleIter j t k)(b:s.heap.IsTuple t ys)(c:ys[k]? =some x)(q:∀g,g.IsTupleIter j t (k+1)->jO j s.heap g->Q x {s with heap:=g}):zp (zD prog w) A (zN (.ref j)) Q E s:=by
 obtain⟨o,h1,h2,h3⟩:=id a;obtain⟨o2,h4,_,m,h5⟩:=b;unfold zN
 refine za (zS (name:=je "__next__") a.typeIs jt (zV jt a.typeIs yW ?_ (yT _)))
 show zp _ _ (Ym (.ref j) 0 >>= _) _ _ s;refine za (js h1 h3 (x:=.ref t) rfl ?_);show zp _ _ (if (Value.ref t==Value.none)=true then _ else _) _ _ s;refine wpAny_ite_false (by rfl) ?_
 show zp _ _ (Ym (.ref j) 1 >>= _) _ _ s;refine za (js h1 h3 (x:=.int k 0) rfl ?_);show zp _ _ (JL (.ref t) >>= _) _ _ s;refine za (jJ h4 h5 ?_);simp only[zW,c]
 refine za (Yg h1 h3 (by simp) (zi ⟨x,rfl,zi (q _ ⟨_,jU _ h1 (Jq (xT h3 _)),(Obj.cls_mapFields ..).trans h2,by rw[xT h3];simp[ym]⟩ (jC ..))⟩))
theorem bX4{Q:VSP}(hh:A.handled=none)(a:s.heap.IsTupleIter j t k)(b:s.heap.IsTuple t ys)(c:ys[k]? =none)(q:∀g e,Zc j s.heap g->(∃o,g.get? e=some o/\o.cls= .type "StopIteration")->E (.ref e) {s with heap:=g}):zp (zD prog w) A (zN (.ref j)) Q E s:=by
 obtain⟨o,h1,h2,h3⟩:=id a;obtain⟨o2,h4,_,m,h5⟩:=b;unfold zN
 refine za (zS (name:=je "__next__") a.typeIs jt (zV jt a.typeIs yW ?_ (yT _)))
 show zp _ _ (Ym (.ref j) 0 >>= _) _ _ s;refine za (js h1 h3 (x:=.ref t) rfl ?_);show zp _ _ (if (Value.ref t==Value.none)=true then _ else _) _ _ s;refine wpAny_ite_false (by rfl) ?_
 show zp _ _ (Ym (.ref j) 1 >>= _) _ _ s;refine za (js h1 h3 (x:=.int k 0) rfl ?_);show zp _ _ (JL (.ref t) >>= _) _ _ s;refine za (jJ h4 h5 ?_);simp only[zW,c]
 refine za (yB (za (Yg h1 h3 (by simp) ?_)));show zp _ _ (newExc (.type "StopIteration") [] >>= _) _ _ _;refine za ?_;simp only[newExc,newTuple]
 refine za (jH ?_ (by size_fits));refine za (m:=Yl _ _) (wpAny_of_eq (a:=Value.none) (by first|rfl|(simp only[Yl];rfl)) ?_);refine jH ?_ (by size_fits);delta raiseNew;dsimp only
 refine za (YC ?_);(first|rw[show A.in1.handled=none from hh]|rw[hh]);refine za (zi (XF ?_))
 exact q _ _ (((jC ..).extBut.push _).push _) ⟨_,zm _ rfl,rfl⟩
end
theorem cN3{prog:zB}{w:zJ}{A:zF}(hh:A.handled=none)(j t:Addr)(hne:t≠j)(ys:Array zf):
 Draws prog w A j [j,t] ys.size (λi v=>ys[i]? =some v) (λi h=>h.IsTupleIter j t i/\h.IsTuple t ys) where
 live:=λ_ _ st=>by obtain⟨o,ho,_⟩:=st.1;exact⟨o,ho⟩
 frame:=λ_ _ _ st hk=>by
  refine⟨st.1.at λo e=>hk j (by simp) o e,?_⟩
  obtain⟨o,ho,r⟩:=st.2
  exact⟨o,hk t (by simp) o ho,r⟩
 item:=λi s Q E hi st hQ=>cR8 st.1 st.2 (x:=ys[i]) (by simp[hi]) λg a b=>hQ _ g s.toks (by simp[hi]) ⟨a,by obtain⟨o,ho,r⟩:=st.2;exact⟨o,b.extBut _ _ hne ho,r⟩⟩ b
 done:=λs Q E st hE=>bX4 hh st.1 st.2 (by simp) hE
theorem eE0{α:Type}{M:Model}{A:zF}{x:α}{Q:α->zh->Prop}{E:VSP}{s:zh}(h:∀b,Q b s):zp M A (pure x) Q E s:=zi (h x)
theorem dH4(l:Addr)(items:Array zf)(n:Nat)(dct:Option Addr)(sl:Array (Option zf)):
 Meets (jY.«enumerate.__new__» ⟨[.type "enumerate",.ref l], []⟩) (λ_ R s=>s.heap.get? l=some {cls:=.type "tuple",dict:=dct,data:=.seq items n,slots:=sl}/\
  R (.ok (.ret (.ref (s.heap.push {cls:=.type "tuple_iterator",data:=.fields #[.ref l,.int 0 0]}).objs.size)))
   {s with heap:=(s.heap.push {cls:=.type "tuple_iterator",data:=.fields #[.ref l,.int 0 0]}).push {cls:=.type "enumerate",data:=.fields #[.none,.bool false,.ref s.heap.objs.size,ym 0,.none,.none]}}):=
 .of_wp λprog w A R s h=>by
  obtain⟨hp,g,d,tk,os⟩:=s;obtain⟨hl,h⟩:=h
  have hsub:=sub_enumerate;have hL:Heap.IsTuple (XW ⟨hp,g,d,tk,os⟩) l items:=⟨_,hl,rfl,n,rfl⟩
  wp_walk using YV hl
  refine wpAny_stack_any λst=>eE0 λb=>?_
  cases b<;>(wp_walk using YV hl,Zj hL;exact⟨_,rfl,h⟩)
theorem cP6{prog:zB}{w:zJ}{A:zF}{E:VSP}{s:zh}{l:Addr}{items:Array zf}{Q:VSP}(hL:s.heap.IsTuple l items)
 (h:∀g,IsEnum g (s.heap.objs.size+1) s.heap.objs.size 0 .none->g.IsTupleIter s.heap.objs.size l 0->g.objs.size=s.heap.objs.size+2->(∀b o,s.heap.get? b=some o->g.get? b=some o)->Q (.ref (s.heap.objs.size+1)) {s with heap:=g}):
 zp (zD prog w) A (call (.type "enumerate") [.ref l]) Q E s:=by
 obtain⟨⟨c,dct,dt,sl⟩,hl,hc,n,hd⟩:=hL
 dsimp only at hc hd
 subst hc hd
 refine callType_new F.called_enumerate (by decide) (F.typeCall_enumerate_1 _) (F.newCall_enumerate_1 _) (λobj=>F.args_object_init_2 obj _) F.entry_enumerate_new (dH4 l items n dct sl) ⟨hl,?_⟩
 have hz:(s.heap.push {cls:=.type "tuple_iterator",data:=.fields #[.ref l,.int 0 0]}).objs.size=s.heap.objs.size+1:=jb ..
 show _/\_
 rw[hz]
 have he:IsEnum ((s.heap.push {cls:=.type "tuple_iterator",data:=.fields #[.ref l,.int 0 0]}).push {cls:=.type "enumerate",data:=.fields #[.none,.bool false,.ref s.heap.objs.size,ym 0,.none,.none]}) (s.heap.objs.size+1) s.heap.objs.size 0 .none:=by
  have:=zm (s.heap.push {cls:=.type "tuple_iterator",data:=.fields #[.ref l,.int 0 0]}) (o:={cls:=.type "enumerate",data:=.fields #[.none,.bool false,.ref s.heap.objs.size,ym 0,.none,.none]}) rfl
  rw[hz]at this;exact this
 exact⟨⟨_,he,rfl⟩,h _ he ⟨_,zg _ (zm _ rfl),rfl,rfl⟩ (by rw[jb,hz]) λb o y=>zg _ (zg _ y)⟩
theorem aR6{prog:zB}{w:zJ}{A:zF}{E:VSP}{s:zh}{e j l:Addr}{k:Nat}{ys:Array zf}{old:zf}{Q:Option zf->zh->Prop}(hh:A.handled=none)(he:IsEnum s.heap e j k old)(a:s.heap.IsTupleIter j l k)(b:s.heap.IsTuple l ys)(c:ys[k]? =none)
 (q:∀g,Zc j s.heap g->Q none {s with heap:=g}):zp (zD prog w) A (yC (.ref e)) Q E s:=by
 have hT:s.TypeIs (.ref e) "enumerate":=⟨_,he,rfl⟩;unfold yC
 refine za (xm (zS (name:=je "__next__") hT JR (zV JR hT F.entry_enumerate_next ?_ (F.args_enumerate_next_1 _))))
 show zp _ _ (Ym (.ref e) 2 >>= _) _ _ _;refine za (js he rfl (x:=.ref j) rfl ?_)
 refine za (bX4 hh a b c λg x k1 k2=>?_);obtain⟨o,k3,k4⟩:=k2
 refine za (xg (T:= "StopIteration") (b:=true) ⟨o,k3,k4⟩ Yk ?_);exact zi (q _ k1)
def eO0(K:zj)(a:Addr):It:=
 ⟨λi H=>∃xs x,SqT K H a xs/\xs[i]? =some x,
  λi H v H'=>∃q x,H q=none/\v= .ref q/\H'=upd H q (.tup [.int i,x])/\∀xs,SqT K H a xs->xs[i]? =some x,
  λi H=>∃xs,SqT K H a xs/\xs.length<=i⟩
theorem cT4{P:zB}{w:zJ}{K:zj}{es:List Expr}{x1:Nat}{tp:Pos}{l e it:Addr}(hne:e≠it):
 bQ5 P w K (.Tuple es x1 tp) (eO0 K l) [e,it] e (λi h=>(∃old,IsEnum h e it i old)/\h.IsTupleIter it l i) where
 mem:=by simp
 obj:=λi h st b hb=>by
  obtain⟨⟨old,s1⟩,s2⟩:=st
  simp only[zw,zy,or_false]at hb
  rcases hb with rfl|rfl
  ·exact⟨_,s1,λv z=>nomatch z⟩
  · obtain⟨o,q,c,d⟩:=s2
    exact⟨o,q,λv z=>by rw[d]at z;cases z⟩
 keep:=λi h h' st k=>by
  obtain⟨⟨old,s1⟩,s2⟩:=st
  exact⟨⟨old,k _ (by simp) _ s1⟩,s2.at λo q=>k _ (by simp) o q⟩
 item:=by
  intro X hP hw hK hc i pins s O H E I hf st hg
  subst hP hw hK
  obtain⟨xs,x,q1,hx⟩:=hg
  obtain⟨its,r1,c1,z1⟩:=I.tuple q1
  obtain⟨u,e1,ru⟩:=cB0 r1 hx
  obtain⟨⟨old,s1⟩,s2⟩:=st
  have c2:s.heap.IsTuple l its.toArray:=c1
  have hl1:l≠it:=λz=>by
   subst z
   obtain⟨o,a,b,_⟩:=s2
   obtain⟨o2,a2,b2,_⟩:=c2
   rw[a]at a2
   cases a2
   rw[b]at b2
   exact absurd b2 (by decide)
  have hl2:e∉ [it,l]:=λz=>by
   simp only[zw,zy,or_false]at z
   rcases z with z|z
   ·exact hne z
   · subst z
     obtain⟨o2,a2,b2,_⟩:=c2
     rw[s1]at a2
     cases a2
     have b3:Value.type "enumerate" =Value.type "tuple":=b2
     exact absurd b3 (by decide)
  have hlt:i<its.toArray.size:=by
   rcases xa i its.toArray.size with z|z
   ·exact z
   ·rw[Array.getElem?_eq_none z]at e1;cases e1
  refine wpAny_pyNext_enum_itemD (cN3 (A:=X.A.in1) (I.ok.hd hc) it l hl1 its.toArray) s1 ⟨s2,c2⟩ hlt hne hl2 λy g tk b0 b1 b2 b3 b4 b5=>⟨_,rfl,?_⟩
  have hy:y=u:=by rw[e1]at b0;cases b0;rfl
  subst hy
  refine wpAny_letOwnedTupleGo_enum b1 λg2 c1' sb=>?_
  have elt:e<s.heap.objs.size:=zn s1
  have ilt:it<s.heap.objs.size:=by obtain⟨_,q,_⟩:=s2;exact zn q
  have keep:∀b o,b∉ [e,it]->s.heap.get? b=some o->g2.get? b=some o:=λb o hb q=>by
   simp only[zw,zy,or_false,not_or]at hb
   exact(sb.2 b hb.1).trans (b5 b o hb.1 hb.2 q)
  have hnew:aE9 g2 s.heap.objs.size [.int (i:Int) tk,y].toArray:=⟨_,(sb.2 _ (yb elt)).trans b3,rfl,_,rfl⟩
  have hq:H s.heap.objs.size=none:=I.hok.fresh (zo _)
  refine⟨.ref s.heap.objs.size,upd H s.heap.objs.size (.tup [.int i,x]),bX3 I hf keep (by show 2<=zk;decide) (.cons ⟨_,rfl⟩ (.cons ru .nil)) hnew,rfl,⟨_,x,hq,rfl,rfl,λxs' h=>by rw[I.tuple_inj h q1];exact hx⟩,?_,λb hb=>?_⟩
  ·exact⟨⟨_,c1'⟩,b2.1.at λo q=>(sb.2 _ (Ne.symm hne)).trans q⟩
  · have hb':b<s.heap.objs.size:=by
     simp only[zw,zy,or_false]at hb
     rcases hb with rfl|rfl
     ·exact elt
     ·exact ilt
    rw[J6 (zA hb')]
    exact(hf b hb).1
 done:=by
  intro X hP hw hK hc i pins s O H E I hf st hg
  subst hP hw hK
  obtain⟨xs,q1,hend⟩:=hg
  obtain⟨its,r1,c1,z1⟩:=I.tuple q1
  obtain⟨⟨old,s1⟩,s2⟩:=st
  have hl:=r1.length
  have c2:s.heap.IsTuple l its.toArray:=c1
  refine aR6 (I.ok.hd hc) s1 s2 c2 (by simp;lia) λg b7=>⟨rfl,bB5 (t':=s.toks) I hf λb o hb q=>?_⟩
  simp only[zw,zy,or_false,not_or]at hb
  exact b7 b o hb.2 q
 self:=λ_ _ _ _ _ st h=>by obtain⟨⟨old,s1⟩,_⟩:=st;exact wpAny_pyIter_enum s1 h
def eL9(K:zj)(ta:TA):TI:=λO H R=>ta O H λvs H1=>∃a xs,vs= [.ref a]/\SqT K H1 a xs/\R (eO0 K a) H1
section
variable{X:Cx}{Z:XC}
theorem dJ5{es:List Expr}{x1:Nat}{tp:Pos}{a:Expr}{ta:TA}{p pos:Pos}(hg:Gl X "enumerate")(hm:X.mg "enumerate" =none)(ha:PA X [a] ta)(hs:zM [a] X.env= [(false,eval a X.env)])(hbt:zO "enumerate" =some (.type "enumerate")):
 PI X (.Tuple es x1 tp) (.Call (.Name "enumerate" p) [a] [] pos) (eL9 X.K ta):=by
 intro pins s O H R I h
 refine Call_ (aO4 I hg hm hbt (jF (thn (ha pos pins s O H _ I h) λus s1 hE1=>hE1.elim λvs H1 I1 r1 q1=>?_) hs rfl))
 obtain⟨l,xs,rfl,q1,q⟩:=q1
 obtain⟨u1,rfl,ru1⟩:=aI5 r1
 cases ru1
 obtain⟨its,rr,c1,z1⟩:=I1.tuple q1
 refine cP6 (show s1.heap.IsTuple l its.toArray from c1) λg b1 b2 b3 b4=>wpAny_pyIter_enum b1 ?_
 have hne: @Ne Nat (s1.heap.objs.size+1) s1.heap.objs.size:=by lia
 refine⟨s1.heap.objs.size+1, [s1.heap.objs.size+1,s1.heap.objs.size],_,eO0 X.K l,H1,rfl,I1.kept (t':=s1.toks) b4,cT4 hne,⟨⟨_,b1⟩,b2⟩,λb hb=>?_,q⟩
 have hb':s1.heap.objs.size<=b:=by
  simp only[zw,zy,or_false]at hb
  rcases hb with rfl|rfl
  ·exact xF _
  ·exact zo _
 exact I1.fpOk hb' (I1.hok.fresh hb')
def bO7(fs:DSt->M (List D)):DSt->M Src:=λO=>do
 match <-fs O with
 |[.tup l]=>pure ⟨l.zipIdx.map λp=>.tup [.int ((p.2:Nat):Int),p.1],λ_=>true⟩
 |_=>M.stuck
theorem fB3{es:List Expr}{x1:Nat}{tp:Pos}{a:Expr}{fs:DSt->M (List D)}{p pos:Pos}(hb:BLs X.mg)(hg:Gl X "enumerate")(ha:DA X Z [a] fs)(hs:aA5 a=true):
 DI X Z (.Tuple es x1 tp) (.Call (.Name "enumerate" p) [a] [] pos) (bO7 fs):=
 DI.of (dJ5 hg (hb.h _ (by decide +kernel)) ha.h (aI4 hs) cG9) λO H R hE0=>hE0.elim λZ8 U G s h p=>⟨Z8,U,G,s,h,(j7.bind p).mono λds X1 G1 H1 x1 h1 p1 vs rv=>by
  rcases ds with _|⟨_|_|_|_|l|_|_|_,_|⟨_,_⟩⟩<;>dsimp only at p1<;>try exact p1.elim
  · obtain⟨v1,t1,rfl,r1,e⟩:=rv
    cases e
    unfold j8 at r1
    obtain⟨a1,w1,rfl,q1,rl⟩:=r1
    refine⟨a1,w1,rfl,q1,j7.ok p1 h1 _ λX9 G' H' x' h' ck' i=>?_⟩
    have q1':=x'.sqT q1
    have l1':=rl.mono x'
    refine⟨λd hd=>?_,λhi=>?_⟩
    · rw[zZ,List.getElem?_zipIdx]at hd
      rcases hz:l[i]? with _|e1
      ·rw[hz]at hd;cases hd
      ·
        rw[hz]at hd
        have hd':d= .tup [.int ((i:Nat):Int),e1]:=by simpa using hd.symm
        subst hd'
        obtain⟨y1,hy1,ry1⟩:=l1'.get hz
        refine⟨⟨w1,y1,q1',hy1⟩,λx H2 ⟨q,z1,hq,ex,eH,f1⟩=>?_⟩
        subst ex eH
        have g1:=f1 w1 q1'
        rw[hy1]at g1
        cases g1
        exact cX6 h' hq ⟨_,_,rfl,ofI,y1,_,rfl,ry1,rfl⟩
    · refine⟨w1,q1',?_⟩
      rw[<-l1'.length]
      simpa using hi⟩
end
end DL
namespace W
open PySem PySem.Spec L2 DL
open PyProof.Rows hiding St
theorem dD6{G:DH}{O:DSt}{fs:DSt->M (List D)}{R:Src->DH->Prop}{l:List D}(h:Wp (fs O) G λxs G1=>xs= [.tup l]/\R ⟨l.zipIdx.map λp=>.tup [.int ((p.2:Nat):Int),p.1],λ_=>true⟩ G1):Wp (bO7 fs O) G R:=by
 delta bO7
 refine m9.mpr (Wp.mono h λxs G1 ⟨e,q⟩=>?_)
 subst e
 exact wp_pure.mpr q
end W
namespace DL
open PySem PySem.Spec L2
open PyProof.Rows hiding St
theorem m6{α:Type}{m:M α}{a:α}{G G':DH}{Q:α->DH->Prop}(e:m G=some (.ok a,G'))(q:Q a G'):Wp m G Q:=⟨a,G',e,q⟩
noncomputable def PB(Q:DPP):Fl->DH->Prop
 | .nx _,G=>Q .non G
 | .rt d,G=>Q d G
 |_,_=>False
section
variable{m:Nat}{f S g:Fs}{ds as:List D}{d:D}{G G':DH}{Q:DPP}{P A:Fl->DH->Prop}{O X2:DSt}{F:List D->M D}{e:Fe}
theorem T8(w:Wp (f (ds.map some++zt (m-ds.length) none)) G (PB Q)):Wp (J7 m f ds) G Q:=
 R6.mpr (w.mono λfl G1 h=>match fl,h with
  | .nx _,h=>h
  | .rt _,h=>h
  | .bk _,h=>h.elim
  | .ct _,h=>h.elim)
theorem K8(q:Q d G):PB Q (.rt d) G:=q
theorem cD6(e:f (ds.map some++zt (m-ds.length) none) G=some (.ok (.rt d),G'))(q:Q d G'):Wp (J7 m f ds) G Q:=T8 (m6 e q)
theorem o7(e:S O G=some (.ok (.nx X2),G'))(w:Wp (g X2) G' P):Wp (m5 S g O) G P:=j9.mpr (m6 e w)
theorem bC1(e:S O G=some (.ok (.rt d),G'))(q:P (.rt d) G'):Wp (m5 S g O) G P:=j9.mpr (m6 e q)
end
section
variable{α:Type}{m n:Nat}{f g:Fs}{a b c:Fe}{t:DSt->M Bool}{fs:DSt->M (List D)}{as:List D}{d x y z:D}{k:Bool}{G G1 G2:DH}{Q:DPP}{P:Fl->DH->Prop}{R:List D->DH->Prop}{B:Bool->DH->Prop}{O:DSt}{F:List D->M D}{o:D->D->M D}
theorem aN3(e:t O G=some (.ok true,G1))(w:Wp (f O) G1 P):Wp (ifS t f g O) G P:=aD3.mpr (m6 e w)
theorem aN1(w:Wp (t O) G λk G1=>(k=true->Wp (f O) G1 P)/\(k=false->Wp (g O) G1 P)):Wp (ifS t f g O) G P:=
 aD3.mpr (w.mono λk G1 h=>by cases k with|true=>exact h.1 rfl|false=>exact h.2 rfl)
theorem bD5{u:DSt->M Bool}(w:Wp (t O) G λk G1=>(k=true->Wp (u O) G1 B)/\(k=false->B false G1)):Wp (aQ4 t u O) G B:=
 bF5.mpr (w.mono λk G1 h=>by cases k with|true=>exact h.1 rfl|false=>exact h.2 rfl)
theorem cO6{u:DSt->M Bool}(w:Wp (t O) G λk G1=>(k=true->B true G1)/\(k=false->Wp (u O) G1 B)):Wp (orT t u O) G B:=
 cR6.mpr (w.mono λk G1 h=>by cases k with|true=>exact h.1 rfl|false=>exact h.2 rfl)
theorem dJ1{g:Fg}{caps:List (Option Nat)}{j:Int}(e:fs O G=some (.ok [.int j],G1))(h0:0<=j)(h1:j<=10000)(w:Wp (M6 g t a (λ_=>true) (M4 0 j.toNat) (aD2 caps O)) G1 λys G2=>Q (.ref G2.length) (G2++[.lst ys])):Wp (Q6 (aC0 fs) caps g t a O) G Q:=by
 refine W.wp_comp.mpr (W.rng1.mpr (m6 e ((W.rng1_int ⟨by lia,by lia⟩).mpr ⟨?_,w⟩)))
 show (M4 0 j.toNat).length<=zk
 unfold M4;rw[zl,jD]
 exact zI (by lia) (show 10000<=zk by decide)
theorem aI3{g:Fg}{caps:List (Option Nat)}{l:List D}(e:b O G=some (.ok (.tup l),G1))(h:l.length<=10000)(w:Wp (M6 g t a (λ_=>true) l (aD2 caps O)) G1 λys G2=>Q (.ref G2.length) (G2++[.lst ys])):Wp (Q6 (itW b) caps g t a O) G Q:=
 W.wp_comp.mpr (W.wp_itW.mpr (m6 e (W.srcW_tup.mpr ⟨zI h (show 10000<=zk by decide),w⟩)))
theorem M8{i:Nat}(w:Wp (a O) G λd G1=>P (.nx (O.set i (some d))) G1):Wp (t8 a (q13 i) O) G P:=N8.mpr (w.mono λ_ _ h=>u0.mpr h)
theorem Q7(w:Wp (a O) G λd G1=>P (.rt d) G1):Wp (t6 a O) G P:=M7.mpr w
theorem t7(e:fs O G=some (.ok as,G1))(h:as.length=n)(w:Wp (F as) G1 Q):Wp (q12 (fnX n F) fs O) G Q:=v8.mpr (m6 e (J4.mpr ⟨h,w⟩))
theorem aQ7(e:fs O G=some (.ok as,G1))(w:Wp (F as) G1 Q):Wp (q12 F fs O) G Q:=v8.mpr (m6 e w)
theorem T7(w:Wp (fs O) G λas G1=>Wp (F as) G1 Q):Wp (q12 F fs O) G Q:=v8.mpr w
theorem P0(ea:a O G=some (.ok x,G1))(eb:b O G1=some (.ok y,G2))(w:Wp (o x y) G2 Q):Wp (d9 o a b O) G Q:=w5.mpr (m6 ea (m6 eb w))
theorem bin_w(w:Wp (a O) G λx G1=>Wp (b O) G1 λy G2=>Wp (o x y) G2 Q):Wp (d9 o a b O) G Q:=w5.mpr w
theorem N5(e:a O G=some (.ok x,G1))(w:Wp (fs O) G1 λxs G2=>R (x::xs) G2):Wp (q10 a fs O) G R:=o8.mpr (m6 e w)
theorem J5(w:Wp (a O) G λx G1=>Wp (fs O) G1 λxs G2=>R (x::xs) G2):Wp (q10 a fs O) G R:=o8.mpr w
theorem R5(w:Wp (a O) G λx G1=>∃k,x= .bl k/\B k G1):Wp (o6 a O) G B:=N7.mpr w
end
def FH(K:zj)(x:Str)(st:Stmt):Prop:=∃(f:Addr) (od an:Option Addr) (sl:Array (Option zf)) (oc kV dc pm cd ct:zf),Zm K jm x=some (some (.ref f))/\
 K.lookup f=some ⟨oc,od,.func (jE x x (aD6 st) (aA6 st) (m8 st) .none kV dc pm an cd ct),sl⟩/\xJ K cd x=true/\yh K (.ref f)=true
section
variable{K:zj}{h:Heap}{mg:Str->Option zf}{x:Str}{st:Stmt}
theorem FH.of{f:Addr}{od an:Option Addr}{sl:Array (Option zf)}{oc kV dc pm cd ct:zf}(a:Zm K jm x=some (some (.ref f)))
 (l:K.lookup f=some ⟨oc,od,.func (jE x x (aD6 st) (aA6 st) (m8 st) .none kV dc pm an cd ct),sl⟩) (e:xJ K cd x=true) (k:yh K (.ref f)=true):FH K x st:=
 ⟨f,od,an,sl,oc,kV,dc,pm,cd,ct,a,l,e,k⟩
variable{ps:List Str}{p1 p2 p3 p4 p5 p6:Str}
theorem FH.ff(H:FH K x st)(X:K.In h)(G:h.Ns jm mg)(b:∀(kV doc pm:zf) (an:Option Addr) (cdv ct:zf) (us:List zf),us.length=ps.length->Yn (jE x x (aD6 st) (aA6 st) (m8 st) .none kV doc pm an cdv ct) ⟨us, []⟩=pure (ps.zip us)):∃f fd,FF K mg x st ps f fd:=by
 obtain⟨f,od,an,sl,oc,kV,dc,pm,cd,ct,a,l,e,k⟩:=H
 exact⟨_,_,cB5 l e k,(cB5 l e k).binds b,ZM X G a⟩
theorem bA4{α:Type}{us:List α}{n:Nat}(h:us.length=n+1):∃a t,us=a::t/\t.length=n:=by
 rcases us with _|⟨a,t⟩
 ·cases h
 ·exact⟨a,t,rfl,Nat.succ.inj h⟩
theorem FH.ff1(H:FH K x st)(X:K.In h)(G:h.Ns jm mg)(b:∀kV doc pm an cdv ct v1,Yn (jE x x (aD6 st) (aA6 st) (m8 st) .none kV doc pm an cdv ct) ⟨[v1], []⟩=pure [(p1,v1)]):∃f fd,FF K mg x st [p1] f fd:=
 H.ff X G λkV doc pm an cdv ct us h0=>by
  obtain⟨v1,w1,rfl,h1⟩:=bA4 h0
  cases yF h1
  exact b _ _ _ _ _ _ _
theorem FH.ff2(H:FH K x st)(X:K.In h)(G:h.Ns jm mg)(b:∀kV doc pm an cdv ct v1 v2,Yn (jE x x (aD6 st) (aA6 st) (m8 st) .none kV doc pm an cdv ct) ⟨[v1,v2], []⟩=pure [(p1,v1),(p2,v2)]):∃f fd,FF K mg x st [p1,p2] f fd:=
 H.ff X G λkV doc pm an cdv ct us h0=>by
  obtain⟨v1,w1,rfl,h1⟩:=bA4 h0
  obtain⟨v2,w2,rfl,h2⟩:=bA4 h1
  cases yF h2
  exact b _ _ _ _ _ _ _ _
theorem FH.ff3(H:FH K x st)(X:K.In h)(G:h.Ns jm mg)(b:∀kV doc pm an cdv ct v1 v2 v3,Yn (jE x x (aD6 st) (aA6 st) (m8 st) .none kV doc pm an cdv ct) ⟨[v1,v2,v3], []⟩=pure [(p1,v1),(p2,v2),(p3,v3)]):∃f fd,FF K mg x st [p1,p2,p3] f fd:=
 H.ff X G λkV doc pm an cdv ct us h0=>by
  obtain⟨v1,w1,rfl,h1⟩:=bA4 h0
  obtain⟨v2,w2,rfl,h2⟩:=bA4 h1
  obtain⟨v3,w3,rfl,h3⟩:=bA4 h2
  cases yF h3
  exact b _ _ _ _ _ _ _ _ _
theorem FH.ff4(H:FH K x st)(X:K.In h)(G:h.Ns jm mg)(b:∀kV doc pm an cdv ct v1 v2 v3 v4,Yn (jE x x (aD6 st) (aA6 st) (m8 st) .none kV doc pm an cdv ct) ⟨[v1,v2,v3,v4], []⟩=pure [(p1,v1),(p2,v2),(p3,v3),(p4,v4)]):∃f fd,FF K mg x st [p1,p2,p3,p4] f fd:=
 H.ff X G λkV doc pm an cdv ct us h0=>by
  obtain⟨v1,w1,rfl,h1⟩:=bA4 h0
  obtain⟨v2,w2,rfl,h2⟩:=bA4 h1
  obtain⟨v3,w3,rfl,h3⟩:=bA4 h2
  obtain⟨v4,w4,rfl,h4⟩:=bA4 h3
  cases yF h4
  exact b _ _ _ _ _ _ _ _ _ _
theorem BLs.of(X:K.In h)(G:h.Ns jm mg)(z:∀b∈bltL,Zm K jm b=some none):BLs mg:=⟨λb hb=>PySem.W.mg_none_of X G (z b hb)⟩
end
noncomputable abbrev eU2(h:Heap)(z TI TO:Addr)(f0:zf)(b:Bool):Prop:=
 h.get? z=some {cls:=.type "zip",dict:=none,data:=.fields #[f0,.bool b,.bool false,.ref TI,.ref TO],slots:= #[]}
section
variable{prog:zB}{w:zJ}{A:zF}{E:VSP}{s:zh}{k1 k2:Bool}{i:Nat}{z TI TO i1 i2 l1 l2 T:Addr}{xs ys:Array zf}{b:Bool}
structure ZSt(k1 k2:Bool)(z TI TO i1 i2 l1 l2:Addr)(xs ys:Array zf)(n0 i:Nat)(h:Heap):Prop where
 hz:(xY h z TI TO .none/\∃a b,yn h TO a b)\/∃T b,eU2 h z TI TO (ym ((n0+T:Nat):Int)) b/\T<i
 hTI:yn h TI (.ref i1) (.ref i2)
 h1:SI k1 h i1 l1 i
 h2:SI k2 h i2 l2 i
 c1:SC k1 h l1 xs
 c2:SC k2 h l2 ys
end
section
variable{H:Hp}{n0:Nat}{ws:List (V×V)}
end
section
variable{X:Cx}{Z:XC}{a b:Expr}{fs:DSt->M (List D)}{p1 p2 pos1 pos2:Pos}
end
end DL
namespace TS
open PySem PyProof.Rows
section
variable{prog:zB}{w:zJ}{A:zF}{E:VSP}{s:zh}
noncomputable def kz(p:jQ):Int:=numOf p.1
noncomputable def isI(p:jQ):Prop:=∃n t,p.1= .int n t
end
def leK(x y:jQ):Prop:=kz x<=kz y
def Srt(l:List jQ):Prop:=l.Pairwise leK
theorem Srt.app{a b:List jQ}(ha:Srt a)(hb:Srt b)(h:∀x∈a,∀y∈b,leK x y):Srt (a++b):=xE.mpr ⟨ha,hb,h⟩
theorem Srt.left{a b:List jQ}(h:Srt (a++b)):Srt a:=(xE.mp h).1
theorem Srt.right{a b:List jQ}(h:Srt (a++b)):Srt b:=(xE.mp h).2.1
theorem Srt.mid{a b:List jQ}(h:Srt (a++b)):∀x∈a,∀y∈b,leK x y:=(xE.mp h).2.2
structure MI(L out A B:List jQ):Prop where
 perm:(out++(A++B)).Perm L
 so:Srt out
 oa:∀x∈out,∀y∈A,leK x y
 ob:∀x∈out,∀y∈B,leK x y
 sa:Srt A
 sb:Srt B
theorem MI.bk{L out C A B:List jQ}(h:MI L out A (C++B))(k:∀c∈C,∀x∈A,leK c x):MI L (out++C) A B where
 perm:=by
  refine List.Perm.trans ?_ h.perm
  rw[yf]
  refine List.Perm.append_left _ ?_
  rw[<-yf,<-yf]
  exact List.Perm.append_right _ List.perm_append_comm
 so:=h.so.app h.sb.left λx hx y hy=>h.ob x hx y (by simp[hy])
 oa:=λx hx y hy=>by
  rcases jr.mp hx with hx|hx
  ·exact h.oa x hx y hy
  ·exact k x hx y hy
 ob:=λx hx y hy=>by
  rcases jr.mp hx with hx|hx
  ·exact h.ob x hx y (by simp[hy])
  ·exact h.sb.mid x hx y hy
 sa:=h.sa
 sb:=h.sb.right
structure MJ(L A B S:List jQ):Prop where
 perm:(A++(B++S)).Perm L
 ss:Srt S
 as:∀x∈A,∀y∈S,leK x y
 bs:∀x∈B,∀y∈S,leK x y
 sa:Srt A
 sb:Srt B
theorem MJ.bk{L A B C S:List jQ}(h:MJ L A (B++C) S)(k:∀a∈A,∀c∈C,leK a c):MJ L A B (C++S) where
 perm:=by have:=h.perm;simp only[yf]at this ⊢;exact this
 ss:=h.sb.right.app h.ss λx hx y hy=>h.bs x (by simp[hx]) y hy
 as:=λx hx y hy=>by
  rcases jr.mp hy with hy|hy
  ·exact k x hx y hy
  ·exact h.as x hx y hy
 bs:=λx hx y hy=>by
  rcases jr.mp hy with hy|hy
  ·exact h.sb.mid x hx y hy
  ·exact h.bs x (by simp[hx]) y hy
 sa:=h.sa
 sb:=h.sb.left
def cA6(a:Array jQ):Prop:=∀p∈a.toList,isI p
theorem cA6.at{a:Array jQ}(h:cA6 a){i:Nat}{p:jQ}(e:a[i]? =some p):isI p:=h p (by
 rw[<-ji]at e
 exact yd e)
theorem cA6.get{a:Array jQ}(h:cA6 a){i:Nat}(hi:i<a.size):∃p,a[i]? =some p/\isI p:=⟨_,jv hi,h.at (jv hi)⟩
noncomputable def Same(st st':xW):Prop:=yJ st'=yJ st/\jT st'=jT st/\Zh st'=Zh st/\Yo st'=Yo st
theorem Same.refl{st:xW}:Same st st:=⟨rfl,rfl,rfl,rfl⟩
theorem Same.trans{a b c:xW}(h:Same a b)(k:Same b c):Same a c:=⟨k.1.trans h.1,k.2.1.trans h.2.1,k.2.2.1.trans h.2.2.1,k.2.2.2.trans h.2.2.2⟩
structure LI(a b:Array jQ)(out:Array jQ)(ia ib:Nat):Prop where
 mi:MI (a.toList++b.toList) out.toList (a.toList.drop ia) (b.toList.drop ib)
 ha:ia+1<a.size
 hb:ib<b.size
 sz:out.size=ia+ib
section
variable{a b out:Array jQ}{ia ib:Nat}
end
section
variable{prog:zB}{w:zJ}{A:zF}{E:VSP}{s:zh}
end
section
variable{prog:zB}{w:zJ}{A:zF}{E:VSP}{s:zh}
end
structure HI(a b:Array jQ)(out:Array jQ)(na nb:Nat):Prop where
 mj:MJ (a.toList++b.toList) (a.toList.take na) (b.toList.take nb) out.toList.reverse
 ha:0<na
 hb:1<nb
 la:na<=a.size
 lb:nb<=b.size
 sz:out.size+na+nb=a.size+b.size
section
variable{a b out:Array jQ}{na nb:Nat}
end
section
variable{prog:zB}{w:zJ}{A:zF}{E:VSP}{s:zh}
end
section
variable{prog:zB}{w:zJ}{A:zF}{E:VSP}{s:zh}
structure Aft(st st':xW)(l:List jQ)(p:Array (Nat×Nat×Nat)):Prop where
 kind:yJ st'=Xg
 arr:(jT st').toList=l
 pend:Zh st'=p
 fail:Yo st'=none
end
def ND(a:Array jQ):Prop:=(a.toList.map kz).Nodup
theorem dV2{a:Array jQ}{i:Nat}{p:jQ}(e:a[i]? =some p):K a i=kz p:=by unfold K;rw[e];rfl
theorem ND.ne{a:Array jQ}(h:ND a){i j:Nat}(hi:i<a.size)(hj:j<a.size)(ne:i≠j):K a i≠K a j:=by
 rw[dV2 (jv hi),dV2 (jv hj)]
 intro e
 have:=YK (i:=i) (j:=j) (h₀:=by simpa using hi) (h₁:=by simpa using hj) h
 simp only[List.getElem_map,Array.getElem_toList]at this
 exact ne (this.mp e)
theorem cA6.perm{a b:Array jQ}(h:cA6 a)(p:b.Perm a):cA6 b:=λx hx=>h x ((Xh.mp p).mem_iff.mp hx)
theorem ND.perm{a b:Array jQ}(h:ND a)(p:b.Perm a):ND b:=((Xh.mp p).map kz).nodup_iff.mpr h
noncomputable def Asc(a:Array jQ)(lo m:Nat):Prop:=∀i,i+1<m->K a (lo+i)<K a (lo+i+1)
theorem Asc.lt{a:Array jQ}{lo m:Nat}(h:Asc a lo m):∀ {j i:Nat},i<j->j<m->K a (lo+i)<K a (lo+j)
 |0,i,hij,_=>by lia
 |j+1,i,hij,hj=>by
   have h1:=h j hj
   by_cases e:i=j
   ·subst e;exact h1
   ·exact Int.lt_trans (h.lt (show i<j by lia) (by lia)) h1
theorem Asc.snoc{a:Array jQ}{lo m:Nat}(h:Asc a lo m)(k:K a (lo+m-1)<K a (lo+m))(hm:1<=m):Asc a lo (m+1):=λi hi=>by
 by_cases e:i+1<m
 ·exact h i e
 · have:i=m-1:=by lia
   subst this
   rw[show lo+(m-1)=lo+m-1 by lia,show lo+m-1+1=lo+m by lia]
   exact k
structure Run(lo:Nat)(st st':xW):Prop where
 kind:yJ st'=Xg
 pend:Zh st'=Zh st
 fail:Yo st'=none
 perm:(jT st').Perm (jT st)
 low:∀i,i<lo->(jT st')[i]? = (jT st)[i]?
theorem Run.refl{lo:Nat}{st:xW}(hk:yJ st=Xg)(hf:Yo st=none):Run lo st st:=⟨hk,rfl,hf,.refl _,λ_ _=>rfl⟩
theorem Run.size{lo:Nat}{st st':xW}(h:Run lo st st'):(jT st').size= (jT st).size:=h.perm.size_eq
section
variable{prog:zB}{w:zJ}{A:zF}{E:VSP}{s:zh}
theorem lt_at{st:xW}{i j:Nat}{Q:Option Bool->xW->Prop}(hk:yJ st=Xg)(ha:cA6 (jT st))(hi:i<(jT st).size)(hj:j<(jT st).size)(h:Q (some (decide (K (jT st) i<K (jT st) j))) st):wpS (zD prog w) A E s (ltAt' i j) Q st:=by
 obtain⟨p,e1,n,t,hp⟩:=ha.get hi
 obtain⟨q,e2,m,u,hq⟩:=ha.get hj
 obtain⟨p1,p2⟩:=p
 obtain⟨q1,q2⟩:=q
 cases hp
 cases hq
 rw[dV2 e1,dV2 e2]at h
 exact wpS_ltAt hk e1 e2 h
end
theorem Run.trans{lo:Nat}{a b c:xW}(h:Run lo a b)(k:Run lo b c):Run lo a c:=⟨k.kind,k.pend.trans h.pend,k.fail,k.perm.trans h.perm,λi hi=>(k.low i hi).trans (h.low i hi)⟩
theorem eC1{a:Array jQ}{lo k l:Nat}(nd:ND a)(hs:lo+k<a.size)(h:Asc a lo k)(hl:l<=k)(h1:∀i,i<l->K a (lo+i)<=K a (lo+k))(h2:∀i,l<=i->i<k->K a (lo+k)<K a (lo+i)):Asc (bubble a (lo+k) (lo+k-(lo+l))) lo (k+1):=by
 have hd:lo+k-(lo+l)=k-l:=by lia
 rw[hd]
 have hK:=λj=>K_bubble (xs:=a) (src:=lo+k) (d:=k-l) hs (by lia) j
 intro i hi
 rw[hK,hK]
 have e:lo+k-(k-l)=lo+l:=by lia
 rw[e]
 by_cases c1:lo+i=lo+l
 · rw[if_pos c1,if_neg (by lia),if_pos (by lia)]
   have:i=l:=by lia
   subst this
   rw[show lo+i+1-1=lo+i by lia]
   exact h2 i (zo _) (by lia)
 · rw[if_neg c1]
   by_cases c2:lo+i+1=lo+l
   · rw[if_pos c2,if_neg (by lia)]
     have:=h1 i (by lia)
     have:=nd.ne (i:=lo+i) (j:=lo+k) (by lia) (by lia) (by lia)
     lia
   · rw[if_neg c2]
     by_cases c3:lo+l<lo+i/\lo+i<=lo+k
     · rw[if_pos c3,if_pos (by lia)]
       have:=h (i-1) (by lia)
       rw[show lo+(i-1)=lo+i-1 by lia,show lo+i-1+1=lo+i by lia]at this
       rw[show lo+i+1-1=lo+i by lia]
       exact this
     · rw[if_neg c3,if_neg (by lia)]
       exact h i (by lia)
section
variable{prog:zB}{w:zJ}{A:zF}{E:VSP}{s:zh}
theorem bin_w{st:xW}{lo n ok:Nat}{Q:Bool->xW->Prop}(hk:yJ st=Xg)(hf:Yo st=none)(ha:cA6 (jT st))(nd:ND (jT st))(h1:1<=ok)(hn:ok<=n)(hs:lo+n<=(jT st).size)(h0:Asc (jT st) lo ok)
 (h:∀st',Run lo st st'->Asc (jT st') lo n->Q true st'):wpS (zD prog w) A E s (binarySort' lo n ok) Q st:=by
 unfold binarySort'
 refine wpS_bind (wpS_mono (wpS_forRange (I:=λk c st'=>c= (none,())/\Run lo st st'/\ok<=k/\k<=n/\Asc (jT st') lo k) (Q:=λc st'=>c= (none,())/\Run lo st st'/\Asc (jT st') lo n) ?_ ?_ ⟨rfl,.refl hk hf,by lia,by lia,by rw[Nat.max_eq_left h1];exact h0⟩) ?_)
 · rintro k c st1 _ hx ⟨rfl,hR,g1,g2,g3⟩
   dsimp only
   have hz:=hR.size
   have ha1:=ha.perm hR.perm
   have nd1:=nd.perm hR.perm
   refine wpS_bind (wpS_mono (wpS_forRange (I:=λx c st'=>st'=st1/\∃l r,c= (none,l,r)/\l<=r/\r<=k/\r-l+x<=k/\(∀i,i<l->K (jT st1) (lo+i)<=K (jT st1) (lo+k))/\∀i,r<=i->i<k->K (jT st1) (lo+k)<K (jT st1) (lo+i)) (Q:=λc st'=>st'=st1/\∃l,c= (none,l,l)/\l<=k/\(∀i,i<l->K (jT st1) (lo+i)<=K (jT st1) (lo+k))/\∀i,l<=i->i<k->K (jT st1) (lo+k)<K (jT st1) (lo+i)) ?_ ?_ ⟨rfl,0,k,rfl,by lia,by lia,by lia,λi hi=>by lia,λi a b=>by lia⟩) ?_)
   · rintro x c st2 _ hx2 ⟨rfl,l,r,rfl,q1,q2,q3,q4,q5⟩
     dsimp only
     by_cases hl:l>=r
     · rw[if_pos hl]
       have:l=r:=by lia
       subst this
       exact Je ⟨rfl,l,rfl,q2,q4,q5⟩
     · rw[if_neg hl]
       refine wpS_bind (lt_at hR.kind ha1 (by lia) (by lia) ?_)
       dsimp only
       have hm1:l<=(l+r) / 2:=by lia
       have hm2:(l+r) / 2<r:=by lia
       generalize (l+r) / 2=m at hm1 hm2
       by_cases hlt:K (jT st2) (lo+k)<K (jT st2) (lo+m)
       · rw[if_pos (decide_eq_true hlt)]
         refine Je ⟨rfl,l,m,rfl,by lia,by lia,by lia,q4,λi a b=>?_⟩
         by_cases e:i=m
         ·subst e;exact hlt
         ·exact Int.lt_trans hlt (g3.lt (show m<i by lia) b)
       · rw[if_neg (by simpa using hlt)]
         refine Je ⟨rfl,m+1,r,rfl,by lia,by lia,by lia,λi a=>?_,q5⟩
         by_cases e:i=m
         ·subst e;lia
         · have:=g3.lt (show i<m by lia) (by lia)
           lia
   · rintro c st2 ⟨rfl,l,r,rfl,q1,q2,q3,q4,q5⟩
     have:l=r:=by rw[Nat.zero_max]at q3;lia
     subst this
     exact⟨rfl,l,rfl,q2,q4,q5⟩
   · rintro c st2 ⟨rfl,l,rfl,q2,q4,q5⟩
     dsimp only
     refine wpS_bind ?_
     show wpS _ _ _ _ (moveDown' (lo+k) (lo+l)) _ _
     rw[moveDown'_eq]
     refine wpS_modify (Je ⟨rfl,hR.trans ⟨hR.kind,rfl,hR.fail,bubble_perm _ _ _,λi hi=>?_⟩,by lia,by lia,eC1 nd1 (by lia) g3 q2 q4 q5⟩)
     show (bubble (jT st2) (lo+k) (lo+k-(lo+l)))[i]? =_
     rw[getElem?_bubble (by lia) _ (by lia),if_neg (by lia),if_neg (by lia)]
 · rintro c st1 ⟨rfl,hR,g1,g2,g3⟩
   rw[Nat.max_eq_right (by lia)]at g3
   exact⟨rfl,hR,g3⟩
 · rintro c st1 ⟨rfl,hR,g3⟩
   exact Je (h st1 hR g3)
end
noncomputable def lay:Nat->List (List jQ)->List Nat->List (Nat×Nat×Nat)
 |o,r::rs,p::ps=>(o,r.length,p)::lay (o+r.length) rs ps
 |_,_,_=> []
theorem cY3:∀ {rs1:List (List jQ)} {ps1:List Nat} {rs2:List (List jQ)} {ps2:List Nat} {o:Nat},rs1.length=ps1.length->lay o (rs1++rs2) (ps1++ps2)=lay o rs1 ps1++lay (o+rs1.flatten.length) rs2 ps2
 |[], [],_,_,o,_=>by simp[lay]
 |[],_::_,_,_,_,h=>by cases h
 |_::_, [],_,_,_,h=>by cases h
 |r::rs1,p::ps1,rs2,ps2,o,h=>by
   show (o,r.length,p)::lay (o+r.length) (rs1++rs2) (ps1++ps2)= (o,r.length,p)::(lay (o+r.length) rs1 ps1++_)
   rw[cY3 (Nat.succ.inj h),List.flatten_cons,zR,Nat.add_assoc]
structure GI(a0:List jQ)(st:xW)(rs:List (List jQ))(ps:List Nat)(T:List jQ):Prop where
 kind:yJ st=Xg
 fail:Yo st=none
 arr:(jT st).toList=rs.flatten++T
 perm:(jT st).toList.Perm a0
 len:rs.length=ps.length
 pend:Zh st= (lay 0 rs ps).toArray
 ok:∀r∈rs,0<r.length/\Srt r
section
variable{prog:zB}{w:zJ}{A:zF}{E:VSP}{s:zh}
end
theorem GI.push{a0:List jQ}{st:xW}{rs:List (List jQ)}{ps:List Nat}{C T:List jQ}{lo n:Nat}(g:GI a0 st rs ps (C++T))(hC:0<C.length)(sC:Srt C)(e:rs.flatten.length=lo)(en:C.length=n):GI a0 (setPending st ((Zh st).push (lo,n,0))) (rs++[C]) (ps++[0]) T:=by
 refine⟨g.kind,g.fail,?_,g.perm,by rw[zR,zR,g.len];rfl,?_,λr hr=>?_⟩
 · show (jT st).toList=_
   rw[g.arr];simp
 · show (Zh st).push (lo,n,0)=_
   rw[g.pend,cY3 g.len,List.push_toArray,Nat.zero_add,e]
   subst en
   rfl
 · rcases jr.mp hr with hr|hr
   ·exact g.ok r hr
   ·rw[zP.mp hr];exact⟨hC,sC⟩
section
variable{prog:zB}{w:zJ}{A:zF}{E:VSP}{s:zh}
end
section
variable{prog:zB}{w:zJ}{A:zF}{E:VSP}{s:zh}
end
end TS
namespace DL
open PySem PySem.Spec L2
open PyProof.Rows hiding St
section
variable{prog:zB}{w:zJ}{A:zF}{E:VSP}{s:zh}{T:String}{r d:Addr}{n:Nat}{P:Nat->zf->Prop}{OK:Heap->Prop}{Q:VSP}
end
section
variable{X:Cx}{Z:XC}{c:Wc}{U:List Addr}{H:Hp}{G:DH}
end
section
variable{prog:zB}{w:zJ}{A:zF}{E:VSP}
end
section
variable{prog:zB}{w:zJ}{A:zF}{E:VSP}
end
section
variable{X:Cx}{Z:XC}{c:Wc}{U:List Addr}{H:Hp}{G:DH}
end
section
variable{X:Cx}{Z:XC}{e:Expr}{fe:Fe}{p pn kp pos:Pos}{j:_}
end
structure cQ7(X:Cx)(e:Expr)(k:Int):Prop where
 h:PE X e (tC (.int k))
section
variable{X:Cx}{Z:XC}{pos:Pos}{e f:Expr}{i j k:Int}
theorem eQ0{m pos}:cQ7 X (.Constant (.int i) m pos) i:=⟨dM2⟩
theorem eN6(he:cQ7 X e i)(hf:cQ7 X f j)(hc:bK2 i j)(hk:i ^ j.toNat=k):cQ7 X (.BinOp e .Pow f pos) k:=⟨by
 subst hk
 exact PE.mono (dJ6 dS2 he.h hf.h) λO H Q q=>⟨i,j,rfl,rfl,hc,q⟩⟩
theorem eK5(he:cQ7 X e i)(hf:cQ7 X f j)(hk:i-j=k):cQ7 X (.BinOp e .Sub f pos) k:=⟨by
 subst hk
 exact PE.mono (dJ6 dO8 he.h hf.h) λO H Q q=>⟨i,j,rfl,rfl,q⟩⟩
end
end DL
namespace DL
open PySem PySem.W
open PyProof.Rows hiding St
structure WO(lt:Nat->Nat->Bool):Prop where
 tr:∀i j k,lt j i=false->lt k j=false->lt k i=false
 as:∀i j,lt i j=true->lt j i=false
section
variable{lt:Nat->Nat->Bool}{n:Nat}{p:Array Nat}
noncomputable def eT0{α:Type}(lt:Nat->Nat->Bool):KasT α->α
 | .ret a=>a
 | .ask i j k=>eT0 lt (k (lt i j))
theorem tOk.run{α:Type}{Q:α->Prop}:∀(t:KasT α),tOk lt n t Q->tOk lt n t (λa=>a=eT0 lt t/\Q a)
 | .ret a,h=>⟨rfl,h⟩
 | .ask i j k,h=>⟨h.1,h.2.1,tOk.run (k (lt i j)) h.2.2⟩
theorem tOk.is{α:Type}{Q:α->Prop}:∀(t:KasT α),tOk lt n t Q->Q (eT0 lt t)
 | .ret a,h=>h
 | .ask i j k,h=>tOk.is (k (lt i j)) h.2.2
end
end DL
namespace DL
open PySem PySem.Spec L2
open PyProof.Rows hiding St
section
variable{X:Cx}{pins:PNS}{O:St}{H:Hp}{s:zh}
end
section
variable{prog:zB}{w:zJ}{A:zF}{E:VSP}{s:zh}{C:Bool->zh->Prop}
end
section
variable{X:Cx}{Z:XC}{pins:PNS}{O:St}{H:Hp}{s:zh}{F:List D->M D}{k:Nat}{f:Addr}{fd:zY}{ps:List Str}{U:List Addr}{G:DH}
end
section
variable{X:Cx}{Z:XC}{e:Expr}{fe:Fe}{p pf kp pos:Pos}{x:Str}{F:List D->M D}
end
section
variable{prog:zB}{w:zJ}{A:zF}{E:VSP}{s:zh}
end
section
variable{X:Cx}{Z:XC}{es:List Expr}{pos:Pos}
end
section
variable{X:Cx}{Z:XC}
end
section
variable{X:Cx}{Z:XC}
end
section
variable{prog:zB}{w:zJ}{A:zF}{E:VSP}{s:zh}
end
section
variable{prog:zB}{w:zJ}{A:zF}{E:VSP}{s:zh}
end
theorem aH5:Slot "set_iterator" "__next__" "set_iterator.__next__":=.of (owner:= "set_iterator") (n:= "__next__") (by rw[xp,yp];kernel_rfl) (by decide +kernel) (by decide +kernel) (by decide +kernel) (by first|exact .inl (by decide +kernel)|exact .inr (by decide +kernel)) (by rw[Yj];kernel_rfl)
theorem cV1:Slot "set_iterator" "__iter__" "set_iterator.__iter__":=.of (owner:= "set_iterator") (n:= "__iter__") (by rw[xp,yp];kernel_rfl) (by decide +kernel) (by decide +kernel) (by decide +kernel) (by first|exact .inl (by decide +kernel)|exact .inr (by decide +kernel)) (by rw[Yj];kernel_rfl)
theorem bO9:entryFor table "set_iterator.__next__" =some jY.«set_iterator.__next__»:=entryFor_of_tree (by kernel_rfl)
theorem eQ3:entryFor table "set.__iter__" =some jY.«frozenset.__iter__»:=entryFor_alias (id':= "frozenset.__iter__") (by kernel_rfl) rfl (by decide +kernel) (by kernel_rfl)
theorem bO6(a:zf):argsOk "set_iterator.__next__" ⟨[a], []⟩:=by unfold argsOk;kernel_rfl
theorem eD8(a:zf):argsOk "set_iterator.__iter__" ⟨[a], []⟩:=by unfold argsOk;kernel_rfl
theorem eA0:entryFor table "set_iterator.__iter__" =some jY.«dict_keyiterator.__iter__»:=entryFor_alias (id':= "dict_keyiterator.__iter__") (by kernel_rfl) rfl (by decide +kernel) (by kernel_rfl)
section
variable{prog:zB}{w:zJ}{A:zF}{E:VSP}{s:zh}
theorem dB6{r:Addr}{Q:Bool->zh->Prop}(hT:s.TypeIs (.ref r) "set")(h:Q false s):zp (zD prog w) A (yD (.ref r)) Q E s:=by
 unfold yD
 refine za (XO hT PySem.F.slot_set_len.lookup ?_)
 generalize hq:("set.__len__" :String)=id1
 wp_delta
 rw[show splitId id1=some ("set", "__len__")from by subst hq;decide +kernel]
 subst hq
 refine za (xg (T:= "set") (b:=true) hT (by rw[Yj];kernel_rfl) ?_)
 refine jK (λz=>absurd z (by decide)) (λ_=>?_)
 refine jK (λ_=>?_) (λz=>absurd (by decide +kernel) z)
 exact za (yP hT (zi h))
end
theorem eS7:zO "set" =some (.type "set"):=by decide +kernel
section
variable{X:Cx}{Z:XC}{c:Wc}{U:List Addr}{H:Hp}{G:DH}
end
section
variable{X:Cx}{Z:XC}{ea eb:Expr}{fa fb:Fe}{p p1 p2 q1 q2 q3 pos:Pos}
end
noncomputable def eR6(A:zF)(s:zh)(y x:zf)(b:Bool):Prop:=
 ∀(prog:zB) (w:zJ) (E:VSP) (Q:VSP),Q (.bool b) s->zp (zD prog w) A (richCompare .GtE y x) Q E s
inductive GeR(A:zF)(s:zh):List zf->List zf->Bool->Prop
 |nil:GeR A s [] [] true
 |eq {x y xs ys b}:yr A s x y true->GeR A s xs ys b->GeR A s (x::xs) (y::ys) b
 |ne {x y xs ys b}:yr A s x y false->eR6 A s x y b->GeR A s (x::xs) (y::ys) b
section
open PySem.SeqAt
open PySem.AutoSeq1 (wpAny_loadPart')
open PySem.MeetsSeq PySem.MeetsSeq2 PySem.MeetsSeq3
end
section
variable{X:Cx}{Z:XC}
end
section
variable{X:Cx}{Z:XC}
end
def eN7(c:Wc)(U:List Addr)(H:Hp)(acc:Option (D×D))(old:Array zf):Prop:=match acc with
 |none=>old= #[]
 |some b=>∃v vk u uk,j8 c U H b.1 v/\J9 v u/\j8 c U H b.2 vk/\J9 vk uk/\old= #[u,uk]
theorem eN7.mono{c:Wc}{U X9:List Addr}{H H':Hp}{acc:Option (D×D)}{old:Array zf}(x:Ext U H X9 H')(h:eN7 c U H acc old):eN7 c X9 H' acc old:=by
 rcases acc with _|b
 ·exact h
 · obtain⟨v,vk,u,uk,a1,a2,a3,a4,a5⟩:=h
   exact⟨v,vk,u,uk,a1.mono x,a2,a3.mono x,a4,a5⟩
section
variable{X:Cx}{Z:XC}{pins:PNS}{O:St}{k:Nat}{f:Addr}{fd:zY}{ps:List Str}{F:List D->M D}{A:zF}
end
section
variable{X:Cx}{Z:XC}{F:List D->M D}{x:Str}{e:Expr}{fe:Fe}{p pf kp pos:Pos}
end
section
variable{prog:zB}{w:zJ}{A:zF}{E:VSP}{s:zh}{K:Type}[DecidableEq K]{knd:KeyKind prog w K}
end
section
variable{X:Cx}{Z:XC}{ea:Expr}{fa:Fe}{p q1 ap pos:Pos}
end
section
variable{X:Cx}{pins:PNS}{O:St}{H:Hp}{s:zh}
end
section
variable{prog:zB}{w:zJ}{A:zF}{E:VSP}{s:zh}{C:Bool->zh->Prop}
end
section
variable{X:Cx}{Z:XC}{pins:PNS}{O:St}{H:Hp}{s:zh}{F:List D->M D}{k:Nat}{f:Addr}{fd:zY}{ps:List Str}{U:List Addr}{G:DH}
end
section
variable{X:Cx}{Z:XC}{e:Expr}{fe:Fe}{p pf kp pos:Pos}{x:Str}{F:List D->M D}
end
inductive CdE(w:zJ)(K:zj)(mg:Str->Option zf):List DictEntry->List (Str×D)->Prop
 |nil:CdE w K mg [] []
 |cons {z:Str} {t:Tok} {u:zf} {d:D} {es:List DictEntry} {tb:List (Str×D)} (h:CR K mg d u) (r:CdE w K mg es tb):CdE w K mg ({hash:=PyData.keyHash w.params z,key:=.str z t,val:=u}::es) ((z,d)::tb)
structure CdOk(w:zJ)(K:zj)(mg:Str->Option zf)(x:Str)(tb:List (Str×D)):Prop where
 ex:∃a es n,mg x=some (.ref a)/\K.lookup a=some ⟨.type "dict",none,.dict (List.toArray es) n, #[]⟩/\CdE w K mg es tb
 nd:(tb.map (·.1)).Nodup
section
variable{X:Cx}{Z:XC}{b:Expr}{fb:Fe}{x:Str}{tb:List (Str×D)}{p pos:Pos}
end
mutual
noncomputable def pyD:D->PyData
 | .non=>.none
 | .bl b=>.bool b
 | .int i=>.int i
 | .str x=>.str x
 | .tup l=>.tuple (pyL l)
 | .ref _=>.none
 | .fn _=>.none
 | .ty _=>.none
noncomputable def pyL:List D->List PyData
 |[]=> []
 |d::r=>pyD d::pyL r
end
mutual
noncomputable def dG2:D->Bool
 | .non=>true
 | .bl _=>true
 | .int _=>true
 | .str _=>true
 | .tup l=>eB6 l
 | .ref _=>false
 | .fn _=>false
 | .ty _=>false
noncomputable def eB6:List D->Bool
 |[]=>true
 |d::r=>dG2 d&&eB6 r
end
mutual
theorem eZ4:∀d:D,(pyD d).hasDict=false
 | .non=>rfl
 | .bl _=>rfl
 | .int _=>rfl
 | .str _=>rfl
 | .tup l=>by unfold pyD;exact eF1 l
 | .ref _=>rfl
 | .fn _=>rfl
 | .ty _=>rfl
theorem eF1:∀l:List D,JF (pyL l)=false
 |[]=>rfl
 |d::r=>by unfold pyL;show ((pyD d).hasDict||JF (pyL r))=false;rw[eZ4 d,eF1 r];rfl
end
section
variable{X:Cx}{Z:XC}{pins:PNS}{O:St}{H:Hp}{s:zh}
theorem dA3{a:Addr}{vs:List V}(I:Inv X pins O H s)(q:SqT X.K H a vs):∃o its n,s.heap.get? a=some o/\o.cls= .type "tuple"/\o.data= .seq its n/\J2 vs its.toList:=by
 rcases q with q|⟨o,its,n,hl,hc,hd,_,hv⟩
 · obtain⟨_,its,hv,o,e,c,n,d⟩:=(show X6 X.prog X.w H s.heap a (.tup vs)from dH5 I.hok q)
   exact⟨o,its.toArray,n,e,c,(xw d).1,by simpa using hv⟩
 ·exact⟨o,its,n,I.kIn _ _ hl,hc,(xw hd).1,hv⟩
mutual
theorem fG2(I:Inv X pins O H s){U:List Addr}:∀(d:D) {v:V} {u:zf},dG2 d=true->j8 (wc X) U H d v->J9 v u->∃as,Reads s.heap u (pyD d) as
 | .non,v,u,_,r,q=>by unfold j8 at r;subst r;cases q;exact⟨_,.none⟩
 | .bl b,v,u,_,r,q=>by unfold j8 at r;subst r;cases q;exact⟨_,.bool b⟩
 | .int i,v,u,_,r,q=>by unfold j8 at r;subst r;obtain⟨t,rfl⟩:=q;exact⟨_,.int i t⟩
 | .str x,v,u,_,r,q=>by unfold j8 at r;subst r;obtain⟨t,rfl⟩:=q;exact⟨_,.str x t⟩
 | .tup l,v,u,hd,r,q=>by
   unfold j8 at r
   obtain⟨a,vs,rfl,sq,rl⟩:=r
   cases q
   obtain⟨o,its,n,e,c,d,hv⟩:=dA3 I sq
   obtain⟨as,ra⟩:=eZ2 I l (by unfold dG2 at hd;exact hd) rl hv
   unfold pyD
   exact⟨as,.tuple e c d ra⟩
 | .ref _,v,u,hd,_,_=>by unfold dG2 at hd;cases hd
 | .fn _,v,u,hd,_,_=>by unfold dG2 at hd;cases hd
 | .ty _,v,u,hd,_,_=>by unfold dG2 at hd;cases hd
theorem eZ2(I:Inv X pins O H s){U:List Addr}:∀(l:List D) {vs:List V} {us:List zf},eB6 l=true->v9 (wc X) U H l vs->J2 vs us->∃as,ReadsAll s.heap us (pyL l) as
 |[],vs,us,_,r,q=>by unfold v9 at r;subst r;cases q;exact⟨_,.nil⟩
 |d::l,vs,us,hd,r,q=>by
   unfold v9 at r
   obtain⟨v,r',rfl,r1,r2⟩:=r
   unfold eB6 at hd
   rw[jn]at hd
   cases q with
   |cons q1 q2=>
     obtain⟨as,h1⟩:=fG2 I d hd.1 r1 q1
     obtain⟨bs,h2⟩:=eZ2 I l hd.2 r2 q2
     unfold pyL
     exact⟨_,.cons h1 h2⟩
end
end
section
variable{X:Cx}{Z:XC}
end
end DL
namespace W
open PySem PySem.Spec L2 DL
open PyProof.Rows hiding St
end W
namespace DL
open PySem PySem.Spec L2
open PyProof.Rows hiding St
section
variable{X:Cx}{Z:XC}{o:Expr}{fo:Fe}{name:Str}{id:String}{mm:D->List D->M D}{apos cpos:Pos}
end
noncomputable def sV:zf->Str
 | .str x _=>x
 |_=> ""
noncomputable def byT(w:zJ):Bool:=w.params.followText "set-order"
def TSet(prog:zB)(w:zJ)(h:Heap)(a:Addr)(ss:List Str):Prop:=∃o es ep t,h.get? a=some o/\o.ExactSet/\o.data= .set es ep t/\XX (strKind prog w) es.toList/\(es.toList.map λe=>sV e.2).Perm ss/\es.size<Zf/\t.fits es.size=true/\t.led= (!byT w)/\(0<es.size->t.plain=false)
theorem eK8(t:SetTable)(n:Nat):(t.orStandIn n).led=t.led:=by
 unfold SetTable.orStandIn
 split<;>rfl
theorem dZ7(t:SetTable)(es:Array (Int×zf))(h:Int)(x:zf):(layNew t es h x).2.1.led=t.led:=by
 unfold layNew
 split
 ·exact eK8 _ _
 ·rfl
theorem eE1{m f v:Nat}{led plain:Bool}{hs:Array Int}{t:SetTable}{o:Array Nat}(h:SetTable.laid m f v led plain hs=some (t,o)):t.led=led/\t.plain=plain:=by
 unfold SetTable.laid at h
 simp only[Option.bind_eq_bind,Option.bind_eq_some_iff]at h
 obtain⟨ow,_,h⟩:=h
 have h:=jo h
 injection h with h1 _
 rw[<-h1]
 exact⟨rfl,rfl⟩
theorem dC7(t:SetTable)(es:Array (Int×zf))(n:Nat):(Yh t es n).2.1.led=t.led/\(t.plain=false->(Yh t es n).2.1.plain=false):=by
 unfold Yh
 split
 · rename_i t' o e
   have:=eE1 e
   dsimp only
   split
   ·exact⟨this.1,λz=>this.2.trans z⟩
   ·exact⟨rfl,λ_=>rfl⟩
 ·exact⟨rfl,λ_=>rfl⟩
section
variable{prog:zB}{w:zJ}{A:zF}{E:VSP}{s:zh}
theorem dK0{k:Str}{v:zf}(h:(strKind prog w).is k v=true):∃t,v= .str k t:=Jo h
theorem eM9{es:List (Int×zf)}(h:XX (strKind prog w) es){k:Str}:k∈es.map (λe=>sV e.2)↔∃e∈es,(strKind prog w).is k e.2=true:=by
 rw[zL]
 constructor
 · rintro⟨e,he,rfl⟩
   obtain⟨⟨k,hk,_⟩,_⟩:=h e he
   obtain⟨t,et⟩:=dK0 hk
   refine⟨e,he,?_⟩
   rw[et]at hk ⊢
   exact hk
 · rintro⟨e,he,hk⟩
   obtain⟨t,et⟩:=dK0 hk
   exact⟨e,he,by rw[et];rfl⟩
theorem dJ3{a:Addr}{o:Obj}{es:Array (Int×zf)}{ep:Nat}{t:SetTable}(ho:s.heap.get? a=some o)(hex:o.ExactSet)(hd:o.data= .set es ep t){es':Array (Int×zf)}{t':SetTable}{ss:List Str}(hel:XX (strKind prog w) es'.toList)(hp:(es'.toList.map λe=>sV e.2).Perm ss)(hb:es'.size<Zf)(hf:t'.fits es'.size=true)(hl:t'.led= (!byT w))(hpl:t'.plain=false):
 (s.heap.update a (ZC es' t')).get? a=some {o with data:=.set es' (ep+1) t'}/\TSet prog w (s.heap.update a (ZC es' t')) a ss:=by
 have hg:(s.heap.update a (ZC es' t')).get? a=some {o with data:=.set es' (ep+1) t'}:=by
  have:=jU (ZC es' t') ho (by rw[putSet_of es' t' hd];rfl)
  rw[putSet_of es' t' hd]at this;exact this
 exact⟨hg,_,es',ep+1,t',hg,hex,rfl,hel,hp,hb,hf,hl,λ_=>hpl⟩
theorem cW8{g:Bool->Sem Unit}(hg:∀(b:Bool) (X0:zh) (Q':Unit->zh->Prop),Q' () X0->zp (zD prog w) A (g b) Q' E X0)
 {a:Addr} {o:Obj} {es:Array (Int×zf)} {ep:Nat} {t:SetTable} (ho:s.heap.get? a=some o) (hex:o.ExactSet) (hd:o.data= .set es ep t)
 {es1:Array (Int×zf)} {t2:SetTable} {ss:List Str} (hel1:XX (strKind prog w) es1.toList) (hp1:(es1.toList.map λe=>sV e.2).Perm ss)
 (hb1:es1.size<Zf) (hf2:t2.fits es1.size=true) (hl:t2.led= (!byT w)) (hpl:t2.plain=false) {wasDummy:Bool} {R:Option Bool->zh->Prop}
 (h:∀h',jO a s.heap h'->TSet prog w h' a ss->R (some true) {s with heap:=h'}):
 zp (zD prog w) A (do
  storeSet a es1 t2
  if (!wasDummy&&t2.tooFull)=true then do
   g (Yh t2 es1 (yN es1.size)).2.2
   storeSet a (Yh t2 es1 (yN es1.size)).1 (Yh t2 es1 (yN es1.size)).2.1
   pure (some true)
   else pure (some true)) R E s:=by
 refine za (wpAny_storeSet_of ho hd ?_ (fits_of_scanBound hb1))
 obtain⟨ho1,hS1⟩:=dJ3 ho hex hd hel1 hp1 hb1 hf2 hl hpl
 have hsb1:=jC s.heap a (ZC es1 t2)
 split
 · have hp:=relayAll_perm t2 es1 (yN es1.size)
   have hfr:=relayAll_fits t2 es1 (yN es1.size)
   have hlr:=dC7 t2 es1 (yN es1.size)
   generalize hRl:Yh t2 es1 (yN es1.size)=Rl at hp hfr hlr ⊢
   obtain⟨es2,t3,gave2⟩:=Rl
   dsimp only at hp hfr hlr ⊢
   have hsz:es2.size=es1.size:=by rw[<-jl,hp.length_eq,jl]
   have hb2:es2.size<Zf:=by rw[hsz];exact hb1
   refine za (hg _ _ _ ?_)
   refine za (wpAny_storeSet_of ho1 rfl ?_ (fits_of_scanBound hb2))
   obtain⟨_,hS2⟩:=dJ3 (prog:=prog) (w:=w) (s:={s with heap:=s.heap.update a (ZC es1 t2)}) ho1 hex rfl (hel1.perm hp) ((hp.map _).trans hp1) hb2 hfr (hlr.1.trans hl) (hlr.2 hpl)
   exact zi (h _ (hsb1.trans (jC _ a _)) hS2)
 ·exact zi (h _ hsb1 hS1)
theorem eR3{a:Addr}{ss:List Str}{k:Str}{tk:Tok}{Q:Bool->zh->Prop}(hS:TSet prog w s.heap a ss)(hroom:ss.length+1<Zf)
 (h:∀b h',jO a s.heap h'->TSet prog w h' a (if k∈ss then ss else ss++[k])->Q b {s with heap:=h'}):
 zp (zD prog w) A (setAddHashed a (.str k tk) ((strKind prog w).hash k)) Q E s:=by
 obtain⟨o,es,ep,t,ho,hex,hd,hel,hpm,hb,hf,hl,hpl⟩:=hS
 have hkey:(strKind prog w).is k (.str k tk)=true:=strKind_is prog w k tk
 have hsc:(Value.str k tk).scannable=true:=rfl
 have hn:es.size=ss.length:=by have:=hpm.length_eq;rw[zl,jl]at this;exact this
 unfold setAddHashed setAddHashedIn
 refine jz (za (jB ho hd hf ?_))
 dsimp only
 rw[byScan_of hsc hb hel]
 simp only[↓reduceIte]
 unfold setAddByScan
 refine za ?_
 refine za (yB ?_)
 refine za (wpAny_setScan_of hkey ho hd hf hel ?_)
 have mem:k∈ss↔∃e∈es.toList,(strKind prog w).is k e.2=true:=by rw[<-hpm.mem_iff];exact eM9 hel
 cases hr:List.findIdx? (λe=>(strKind prog w).is k e.2) es.toList with
 |some j=>
   dsimp only
   obtain⟨hj,hpj,_⟩:=List.findIdx?_eq_some_iff_getElem.mp hr
   have hk:k∈ss:=mem.mpr ⟨es.toList[j],Zp hj,hpj⟩
   refine zi (zi ?_)
   have e:s= {s with heap:=s.heap}:=by cases s;rfl
   have:=h false s.heap (Heap.SameBut.refl a s.heap) (by rw[if_pos hk];exact⟨o,es,ep,t,ho,hex,hd,hel,hpm,hb,hf,hl,hpl⟩)
   rw[e];exact this
 |none=>
   dsimp only
   have hk:k∉ss:=λhk=>by
    obtain⟨e,he,hp⟩:=mem.mp hk
    have:=List.findIdx?_eq_none_iff.mp hr e he
    rw[hp]at this;exact Bool.noConfusion this
   have hgw:∀(b:Bool) {X0:zh} {Q':Unit->zh->Prop},Q' () X0->zp (zD prog w) A (match b with|true=>rule "set.scan.the-table-gave-way"|false=>pure ()) Q' E X0:=
    λb X0 Q' hq=>by cases b<;>first|exact zi hq|exact yB hq
   have hperm:=layNew_perm t es ((strKind prog w).hash k) (.str k tk)
   have hfits:=layNew_fits t es ((strKind prog w).hash k) (.str k tk)
   have hled:=dZ7 t es ((strKind prog w).hash k) (.str k tk)
   generalize hL:layNew t es ((strKind prog w).hash k) (.str k tk)=L at hperm hfits hled ⊢
   obtain⟨es1,t1,wasDummy,gave⟩:=L
   dsimp only at hperm hfits hled ⊢
   rw[JW]at hperm
   have hel1:XX (strKind prog w) es1.toList:=(hel.push hkey hsc).perm hperm
   have hp1:(es1.toList.map λe=>sV e.2).Perm (ss++[k]):=by
    refine(hperm.map _).trans ?_
    rw[jI]
    exact hpm.append_right _
   have hb1':es1.size<Zf:=by rw[<-jl,hperm.length_eq,zR,jl,hn];exact hroom
   refine za (hgw _ ?_)
   have hend:∀h',jO a s.heap h'->TSet prog w h' a (ss++[k])->Q true {s with heap:=h'}:=by
    intro h' hsb hS';exact h true h' hsb (by rw[if_neg hk];exact hS')
   split
   · refine za ?_
     rw[hashByValue_scannable 8 hsc]
     refine zi ?_
     refine cW8 ?_ ho hex hd hel1 hp1 hb1' ?_ ?_ ?_ ?_
     ·intro b X0 Q' hq;cases b<;>first|exact zi hq|exact yB hq
     ·exact SetTable.fits_plain_off hfits
     ·exact hled.trans hl
     ·rfl
     ·intro h' hsb hS';dsimp only;exact zi (hend h' hsb hS')
   · rename_i hpn
     refine za (zi ?_)
     simp only[↓reduceIte]
     refine cW8 ?_ ho hex hd hel1 hp1 hb1' hfits (hled.trans hl) (by simpa using hpn) ?_
     ·intro b X0 Q' hq;cases b<;>first|exact zi hq|exact yB hq
     ·intro h' hsb hS';dsimp only;exact zi (hend h' hsb hS')
end
noncomputable def ddT(ss:List Str)(k:Str):List Str:=if k∈ss then ss else ss++[k]
theorem cH1:∀(l ss:List Str),(l.foldl ddT ss).length<=ss.length+l.length
 |[],ss=>by simp
 |k::l,ss=>by
   rw[List.foldl_cons]
   refine zI (cH1 l _) ?_
   unfold ddT
   split<;>simp<;>omega
theorem TSet.congr{prog:zB}{w:zJ}{h h':Heap}{a:Addr}{ss:List Str}(hS:TSet prog w h a ss)(e:∀o,h.get? a=some o->h'.get? a=some o):TSet prog w h' a ss:=by
 obtain⟨o,es,ep,t,ho,r⟩:=hS
 exact⟨o,es,ep,t,e o ho,r⟩
theorem StrsAre.at:∀ {vs:List zf} {ss:List Str},StrsAre vs ss->∀(i:Nat) (v:zf),vs[i]? =some v->∃x t,ss[i]? =some x/\v= .str x t
 |_,_,.nil,i,v,h=>by simp at h
 |_,_,.cons x t hr,0,v,h=>by simp at h;exact⟨x,t,rfl,h.symm⟩
 |_,_,.cons n t hr,i+1,v,h=>by
   simp only[ze]at h ⊢
   exact StrsAre.at hr i v h
section
variable{prog:zB}{w:zJ}{A:zF}{R:YS->zh->Prop}{I:Addr}{fp wr:List Addr}{G:Array GenState->Array GenState->Prop}{n:Nat}{P:Nat->zf->Prop}{St:Nat->zh->Prop}
theorem dY6(W:WalksS prog w A.in1 I fp wr G n P St)(S:Addr)(hSf:S∉fp)(xs:List Str)(hn:xs.length=n)(hval:∀i v,P i v->∃x t,xs[i]? =some x/\v= .str x t)(hb:n+1<Zf):
 ∀(k i:Nat) (s:zh),n-i=k->i<=n->St i s->TSet prog w s.heap S ((xs.take i).foldl ddT [])->
  (∀s',Moved (S::wr) G s s'->TSet prog w s'.heap S (xs.foldl ddT [])->R (.ok (.ret .none)) s')->
  xB (zD prog w) A (.builtin "set.update.loop" ⟨[.ref S,.ref I], []⟩) R s:=by
 have hSw:S∉wr:=λh=>hSf (W.sub _ h)
 have hsub:∀b∈wr,b∈S::wr:=λb hb=>zU _ hb
 intro k
 induction k with
 |zero=>
   intro i s hk hi hst hS hR
   have hin:i=n:=by omega
   subst hin
   refine jW Jr ?_
   rw[jA ZE _]
   show zp _ A.in1 (yC (.ref I) >>= _) _ _ s
   refine za (W.done s _ _ hst λs' hm=>?_)
   show zp _ A.in1 (ret Value.none) _ _ s'
   rw[xr (by omega)]at hS
   exact zi (hR s' (hm.mono hsub) (hS.congr λo e=>hm.heap S _ hSw e))
 |succ k ih=>
   intro i s hk hi hst hS hR
   have hlt:i<n:=by omega
   refine jW Jr ?_
   rw[jA ZE _]
   show zp _ A.in1 (yC (.ref I) >>= _) _ _ s
   refine za (W.item i s _ _ hlt hst λv s' hP hst' hm=>?_)
   obtain⟨x,t,ex,rfl⟩:=hval i v hP
   have hS':=hS.congr (h':=s'.heap) λo e=>hm.heap S _ hSw e
   show zp _ A.in1 (ZP [Value.str x t] (setAdd S (.str x t)) >>= _) _ _ s'
   refine za (jz ?_)
   unfold setAdd
   refine jz ?_
   refine za ((strKind prog w).pyHash (k:=x) (strKind_is _ _ _ _) ?_)
   have hl:=cH1 (xs.take i) []
   rw[yZ]at hl
   refine eR3 (s:={s' with toks:=s'.toks+1}) hS' (by simp at hl;omega) λb h' hsb hS2=>?_
   have e2:(xs.take (i+1)).foldl ddT []=ddT ((xs.take i).foldl ddT []) x:=by rw[List.take_succ,ex,List.foldl_append];rfl
   refine zi ⟨ye ZE _,ih (i+1) _ (by omega) hlt (W.frame _ s' _ _ hst' (xF _) λb hb o e=>?_) (by rw[e2];exact hS2) λs'' hm'' hS''=>?_⟩
   ·rw[hsb.2 b (λh:b=S=>hSf (by rw[<-h];exact hb))];exact e
   · refine hR s'' (Moved.trans W.gtrans ((hm.mono hsub).then_heap (xF _) λb o hb e=>?_) hm'') hS''
     rw[hsb.2 b (λh:b=S=>hb (by rw[h];exact jh))];exact e
end
theorem dN9{prog:zB}{w:zJ}{h:Heap}{a:Addr}(e:h.get? a=some {cls:=.type "set",dict:=none,data:=.set #[] 0 (.fresh 0 0 (!byT w))}):TSet prog w h a []:=
 ⟨_, #[],0,_,e,⟨rfl,rfl,rfl⟩,rfl,(λ_ h=>by simp at h),.nil,by decide,by rfl,rfl,λh=>by simp at h⟩
section
variable{prog:zB}{w:zJ}{A:zF}{E:VSP}{s:zh}
theorem dC3(a:zf){Q₁:VSP}
 (h:Q₁ (.ref s.heap.objs.size) {s with heap:=s.heap.push {cls:=.type "set",dict:=none,data:=.set #[] 0 (.fresh 0 0 (!byT w))}}):
 xB (zD prog w) A (.call (.builtin "set.__new__") ⟨[.type "set",a], []⟩) (wants Q₁ E) s:=by
 refine codeAny_of_tree ?_
 show zp _ A.in1 (do checkBuiltinCall "set.__new__" ⟨[.type "set",a], []⟩;again (.builtin "set.__new__" ⟨[.type "set",a], []⟩)) _ _ s
 refine za (wpAny_of_eq (F.newCall_set_1 a) (zi ⟨ye F.plain_set_new _,jW F.entry_set_new ?_⟩))
 rw[jA F.plain_set_new _]
 unfold jY.«set.__new__» Builtin.Frozenset.newClass
 have hsub:=sub_set_self
 obtain⟨hp,g,d,tk,os⟩:=s
 dsimp only
 wp_walk
 refine ZL (zi ?_)
 dsimp only
 simp only[newObj]
 refine za (wpAny_alloc (zi ?_))
 exact zi h
set_option maxHeartbeats 3200000 in
theorem dB7{l:Addr}{items:Array zf}{xs:List Str}{Q:VSP}
 (hh:A.handled=none) (hl:s.heap.IsList l items) (hi:StrsAre items.toList xs) (hb:items.size+1<Zf)
 (h:∀(h':Heap) (tk:Nat),TSet prog w h' s.heap.objs.size (xs.foldl ddT [])->(∀b o,s.heap.get? b=some o->h'.get? b=some o)->Q (.ref s.heap.objs.size) {s with heap:=h',toks:=tk}):
 zp (zD prog w) A (call (.type "set") [.ref l]) Q E s:=by
 obtain⟨c,tl,hmro⟩:=xf.mro
 have hmade:=xf.made
 have hsub:=xf.sub
 refine wpAny_call (codeAny_of_tree ?_)
 show zp _ _ (callAny (.type "set") _) _ _ _
 refine zi ⟨Code.quiet_builtin _ (by decide +kernel),jW F.entry_type_call ?_⟩
 rw[Around.under_plain (weight_type_call_type "set" [.ref l] []) rfl]
 have h1:=xf.notType
 have h2:=xf.canCreate
 have hct:=F.typeCall_set_1 (.ref l)
 repeat (any_goals (first|assumption|wp_step))
 refine Zb (dC3 (.ref l) (E:=E) (Q₁:=λobj X0=>obj= .ref s.heap.objs.size/\X0= {s with heap:=s.heap.push {cls:=.type "set",dict:=none,data:=.set #[] 0 (.fresh 0 0 (!byT w))}}) ⟨rfl,rfl⟩) λr X0 hr=>?_
 rcases r with e|fl
 ·exact hr
 rcases fl with _|ob|_|_<;>try exact hr.elim
 obtain⟨rfl,rfl⟩:=hr
 generalize hbt:(!byT w)=led at h ⊢
 have hS:(s.heap.push {cls:=.type "set",dict:=none,data:=.set #[] 0 (.fresh 0 0 led)}).get? s.heap.objs.size=some {cls:=.type "set",dict:=none,data:=.set #[] 0 (.fresh 0 0 led)}:=zm _ rfl
 have hT:Xi {s with heap:=s.heap.push {cls:=.type "set",dict:=none,data:=.set #[] 0 (.fresh 0 0 led)}} (.ref s.heap.objs.size) "set":=⟨_,hS,rfl⟩
 have hli:=xf.init.lookup
 have hbi:=xf.init.bind (.ref s.heap.objs.size)
 repeat (any_goals (first|assumption|wp_step))
 refine Zb (codeAny_call_builtin (R:=wants (λr s₂=>r= .none/\∃h' tk,s₂= {s with heap:=h',toks:=tk}/\TSet prog w h' s.heap.objs.size (xs.foldl ddT [])/\(∀b o,s.heap.get? b=some o->h'.get? b=some o)) E) xf.init.plain F.entry_set_init (check_set_init_1 hT ?_)) λr₂ s₂ hr₂=>?_
 · obtain⟨ol,hol,hcl,nl,hdl⟩:=hl
   obtain⟨ocls,odict,odata,oslots⟩:=ol
   simp only at hcl hdl
   subst hcl;subst hdl
   have hol':(s.heap.push {cls:=.type "set",dict:=none,data:=.set #[] 0 (.fresh 0 0 led)}).get? l=some {cls:=.type "list",dict:=odict,data:=.seq items nl,slots:=oslots}:=zg _ hol
   have hsls:=F.sub_list_set
   have hslf:=F.sub_list_frozenset
   have hne:(Value.type "list" == Value.type "dict")=false:=by decide
   have hl1:(s.heap.push {cls:=.type "set",dict:=none,data:=.set #[] 0 (.fresh 0 0 led)}).IsList l items:=⟨_,hol',rfl,nl,rfl⟩
   unfold jY.«set.__init__» noKeywords Builtin.Frozenset.updateFrom
   generalize hPI:YQ=PI
   wp_walk
   subst hPI
   refine xA hl1 ?_
   refine za (wpAny_runValue ?_)
   have hlS:l<s.heap.objs.size:=zn hol
   have hh3:A.in1.in1.in1.handled=none:=by simp[hh]
   have hneI:l≠(s.heap.push {cls:=.type "set",dict:=none,data:=.set #[] 0 (.fresh 0 0 led)}).objs.size:=by
    rw[jb];exact zA (yw hlS)
   have hSf:s.heap.objs.size∉ [(s.heap.push {cls:=.type "set",dict:=none,data:=.set #[] 0 (.fresh 0 0 led)}).objs.size,l]:=by
    rw[jb];simp only[zw,zP,zy,or_false,not_or]
    exact⟨zA (yE _),yb hlS⟩
   have hlen:xs.length=items.size:=by rw[<-jl];exact(ZD hi).symm
   refine dY6 ((JD hh3 _ l hneI items).toS) s.heap.objs.size hSf xs hlen (λi v hv=>StrsAre.at hi i v (by rw[ji];exact hv)) hb (items.size-0) 0 _ (by omega) (jR _)
    ⟨⟨_,zm _ rfl,rfl,rfl⟩,(hl1.push _)⟩ ?hS0 ?hR
   case hS0=>
    refine dN9 ?_
    rw[hbt]
    exact zg _ hS
   case hR=>
    intro s' hm hS'
    obtain⟨h',g',d',tk',os'⟩:=s'
    have eg:g'=s.gens:=hm.gens
    have ed:d'=s.drawn:=hm.drawn
    have eo:os'=s.os:=hm.os
    subst eg;subst ed;subst eo
    show zp _ _ _ _ _ _
    refine zi ?_
    show zp _ _ (ret Value.none) _ _ _
    refine zi ⟨rfl,h',tk',rfl,hS',λb o e=>?_⟩
    have hb:=zn e
    have hb1:b≠s.heap.objs.size:=zA hb
    have hb2:b≠(s.heap.push {cls:=.type "set",dict:=none,data:=.set #[] 0 (.fresh 0 0 led)}).objs.size:=by
     rw[jb];exact zA (yw hb)
    exact hm.heap b o (by simp only[zw,zP,zy,or_false,not_or];exact⟨hb1,hb2⟩) (zg _ (zg _ e))
 · rcases r₂ with e|fl
   ·exact hr₂
   rcases fl with _|ob|_|_<;>try exact hr₂.elim
   obtain⟨rfl,h',tk,rfl,hS',hk'⟩:=hr₂
   repeat (any_goals (first|assumption|wp_step))
   exact h _ _ hS' hk'
end
theorem bS9{α:Type}:∀(l:List α) (i:Nat) (h:i<l.length),((l[i]'h)::l.eraseIdx i).Perm l
 |x::r,0,_=>.refl _
 |x::r,i+1,h=>by
   have ih:=bS9 r i (by simpa using h)
   show ((r[i]'(by simpa using h))::x::r.eraseIdx i).Perm (x::r)
   exact(List.Perm.swap ..).trans (.cons _ ih)
noncomputable abbrev sO(es:Array (Int×zf))(ep:Nat)(t:SetTable):Obj:={cls:=.type "set",dict:=none,data:=.set es ep t,slots:= #[]}
noncomputable abbrev sI(f:zf)(i:Nat)(a:Addr)(n ep:Nat):Obj:={cls:=.type "set_iterator",data:=.fields #[f,.int i 0,.ref a,.int n 0,.int ep 0]}
section
variable{prog:zB}{w:zJ}{A:zF}{E:VSP}{s:zh}
theorem eN3{src:Source}{n:Nat}{Q:Nat->zh->Prop}(hn:n≠0)(h:∀i d',i<n->Q i {s with drawn:=d'}):zp (zD prog w) A (choose src n) Q E s:=by
 intro Γ p _
 unfold choose
 rw[Sem.wp_choose]
 refine⟨hn,?_⟩
 rw[Sem.wp_pure]
 exact h _ _ (Nat.mod_lt _ (Nat.pos_of_ne_zero hn))
theorem dM0{α:Type}:∀(xs:List α) (s:zh) (Q:List α->zh->Prop),(∀ys d',ys.Perm xs->Q ys {s with drawn:=d'})->zp (zD prog w) A (drawOrder xs.length xs) Q E s
 |[],s,Q,h=>zi (h [] s.drawn .nil)
 |x::r,s,Q,h=>by
   show zp _ _ (choose .order (x::r).length >>= λi=>match (x::r)[i]? with
    |some y=>(do return y::(<-drawOrder r.length ((x::r).eraseIdx i)))
    |none=>unsupported "internal:drawOrder") _ _ _
   refine za (eN3 (by simp) λi d' hi=>?_)
   rw[zu hi]
   dsimp only
   have hl:((x::r).eraseIdx i).length=r.length:=by rw[Jx,if_pos hi];simp
   rw[<-hl]
   refine za (dM0 _ _ _ λys d2 hp=>zi ?_)
   refine h _ d2 ?_
   exact(List.Perm.cons _ hp).trans (bS9 _ i hi)
termination_by xs=>xs.length
decreasing_by simp only[hl];simp
theorem cW1{α:Type}(nx:Nat->Nat):∀(f k:Nat) (l:List α) (out:Array α),f=l.length->(Xb nx f k l out).toList.Perm (out.toList++l)
 |0,k, [],out,_=>by unfold Xb;simp
 |f+1,k,x::r,out,hf=>by
   unfold Xb
   have hi:nx k % (x::r).length<(x::r).length:=Nat.mod_lt _ (by simp)
   rw[zu hi]
   dsimp only
   have hl:f= ((x::r).eraseIdx (nx k % (x::r).length)).length:=by rw[Jx,if_pos hi];simpa using hf
   refine(cW1 nx f (k+1) _ _ hl).trans ?_
   rw[JW,yf]
   exact(bS9 _ _ hi).append_left _
theorem cA3{α:Type}(nx:Nat->Nat)(xs:Array α):(Zg nx xs).toList.Perm xs.toList:=by
 have:=cW1 nx xs.size 0 xs.toList #[] (by simp)
 simpa [Zg]using this
variable{a:Addr}{es:Array (Int×zf)}{ep:Nat}{t:SetTable}
theorem bN8{I:Addr}{f:zf}{i n:Nat}{Q:VSP}(hi:s.heap.get? I=some (sI f i a n ep))(h:Q (.ref I) s):zp (zD prog w) A (YQ (.ref I)) Q E s:=by
 have hT:s.TypeIs (.ref I) "set_iterator":=⟨_,hi,rfl⟩
 refine wpAny_pyIter_slot hT cV1 (zV cV1 hT eA0 (show zp _ _ (ret (.ref I)) _ _ s from ?_) (eD8 _))
 exact zi ⟨_,rfl, "set_iterator",_,hT,aH5.lookup,h⟩
end
section
variable{prog:zB}{w:zJ}{A:zF}{E:VSP}{s:zh}{a:Addr}{es:Array (Int×zf)}{ep:Nat}{t:SetTable}
theorem cR5{Q:Bool->zh->Prop}(h:Q (byT w) s):zp (zD prog w) A setsByText Q E s:=za (ZL (zi h))
theorem eF6{slot i:Nat}{Q:Option (zf×Nat)->zh->Prop}(hb:byT w=true)(ha:s.heap.get? a=some (sO es ep t))(hf:t.fits es.size=true)(h:Q (((Zg (w.params.setOrder a ep) es)[i]?).map λe=>(e.2,slot)) s):zp (zD prog w) A (Ys a slot i ep) Q E s:=by
 unfold Ys
 refine za (jB ha rfl hf ?_)
 refine za (cR5 ?_)
 refine jK (λ_=>?_) (λz=>absurd hb z)
 refine jK (λz=>absurd z (by simp)) (λ_=>?_)
 unfold setWalk
 refine za (za (jB ha rfl hf ?_))
 refine za (cR5 ?_)
 refine jK (λ_=>?_) (λz=>absurd hb z)
 refine za (ZL (zi ?_))
 exact zi h
theorem dS7{slot i:Nat}{Q:Option (zf×Nat)->zh->Prop}(hb:byT w=false)(hl:t.led=true)(h1:¬((!t.plain&&decide (es.size>1))=true))(ha:s.heap.get? a=some (sO es ep t))(hf:t.fits es.size=true) (h:Q (match es[Zv t.place slot]?,t.place[Zv t.place slot]? with
 |some (_,x),some j=>some (x,j+1)
 |_,_=>none) s):zp (zD prog w) A (Ys a slot i ep) Q E s:=by
 unfold Ys
 refine za (jB ha rfl hf ?_)
 refine za (cR5 ?_)
 refine jK (λz=>absurd (hb.symm.trans z) (by decide)) (λ_=>?_)
 refine jK (λz=>absurd z h1) (λ_=>?_)
 refine za (show zp _ _ (if (!t.led&&!es.isEmpty)=true then unsupported "set:maker-not-led" else pure ()) _ _ _ from ?_)
 rw[hl]
 exact zi (zi h)
set_option maxHeartbeats 3200000 in
theorem cL6{I:Addr}{slot i n nx:Nat}{x:zf}{Q:Option zf->zh->Prop}(hi:s.heap.get? I=some (sI (.int slot 0) i a es.size ep))(ha:s.heap.get? a=some (sO es ep t))(hf:t.fits es.size=true)
 (hN:∀(A:zF) (E:VSP) (Q:Option (zf×Nat)->zh->Prop),Q (some (x,nx)) s->zp (zD prog w) A (Ys a slot i ep) Q E s)
 (h:∀h',h'.get? I=some (sI (.int nx 0) (i+1) a es.size ep)->jO I s.heap h'->Q (some x) {s with heap:=h'}):zp (zD prog w) A (yC (.ref I)) Q E s:=by
 have hT:s.TypeIs (.ref I) "set_iterator":=⟨_,hi,rfl⟩
 unfold yC
 refine za (xm (zS (name:=je "__next__") hT aH5 (zV aH5 hT bO9 ?_ (bO6 _))))
 unfold jY.«set_iterator.__next__» YO
 generalize hNx:Ys=N at hN ⊢
 wp_walk using jB ha rfl hf
 simp only[zW]
 refine hN _ _ _ ?_
 dsimp only
 refine za (jM hi (show 0<5 by decide) λh1 e1 k1=>?_)
 refine za (jM e1 (show 1<5 by decide) λh2 e2 k2=>?_)
 refine zi ⟨_,rfl,?_⟩
 exact zi (h h2 e2 (k1.trans k2))
set_option maxHeartbeats 3200000 in
theorem cB4{I:Addr}{slot i n nx:Nat}{Q:Option zf->zh->Prop}(hh:A.handled=none)(hi:s.heap.get? I=some (sI (.int slot 0) i a es.size ep))(ha:s.heap.get? a=some (sO es ep t))(hf:t.fits es.size=true)
 (hN:∀(A:zF) (E:VSP) (Q:Option (zf×Nat)->zh->Prop),Q none s->zp (zD prog w) A (Ys a slot i ep) Q E s)
 (h:∀h',Zc I s.heap h'->Q none {s with heap:=h'}):zp (zD prog w) A (yC (.ref I)) Q E s:=by
 have hT:s.TypeIs (.ref I) "set_iterator":=⟨_,hi,rfl⟩
 unfold yC
 refine za (xm (zS (name:=je "__next__") hT aH5 (zV aH5 hT bO9 ?_ (bO6 _))))
 unfold jY.«set_iterator.__next__» YO
 generalize hNx:Ys=N at hN ⊢
 wp_walk using jB ha rfl hf
 simp only[zW]
 refine hN _ _ _ ?_
 dsimp only
 wp_walk
 simp only[raiseNew]
 refine za (YC ?_)
 rw[show A.in1.handled=none from hh]
 refine za (zi (XF ?_))
 refine za (xg (T:= "StopIteration") (b:=true) ⟨_,zm _ rfl,rfl⟩ Yk (zi ?_))
 exact h _ (((jC ..).extBut.push _).push _)
set_option maxHeartbeats 3200000 in
theorem dI4{I J:Addr}{i m p:Nat}{e:Int×zf}{ps:List Nat}{Q:Option zf->zh->Prop}(hi:s.heap.get? I=some (sI (.ref J) i a es.size ep))(ha:s.heap.get? a=some (sO es ep t))(hf:t.fits es.size=true)(hJ:s.heap.get? J=some {cls:=.type "tuple",data:=.seq (ps.map fun(i:Nat)=>ym i).toArray m})
 (hp:ps[i]? =some p) (he:es[p]? =some e)
 (h:∀h',h'.get? I=some (sI (.ref J) (i+1) a es.size ep)->jO I s.heap h'->Q (some e.2) {s with heap:=h'}):zp (zD prog w) A (yC (.ref I)) Q E s:=by
 have hT:s.TypeIs (.ref I) "set_iterator":=⟨_,hi,rfl⟩
 unfold yC
 refine za (xm (zS (name:=je "__next__") hT aH5 (zV aH5 hT bO9 ?_ (bO6 _))))
 unfold jY.«set_iterator.__next__» YO
 wp_walk using jB ha rfl hf
 have eg:(ps.map fun(i:Nat)=>ym i).toArray[(i:Int).toNat]? =some (ym p):=by
  rw[zW,Jj,zZ,hp];rfl
 rw[eg]
 show zp _ _ (setNextDrawn a (p:Int).toNat (ep:Int).toNat >>= λx=>setField (.ref I) 1 (ym (i+1)) >>= λ_=>ret x) _ _ _
 simp only[zW]
 unfold setNextDrawn
 refine za (za (jB ha rfl hf ?_))
 refine jK (λz=>absurd z (by simp)) (λ_=>?_)
 rw[he]
 refine zi ?_
 refine za (jM hi (show 1<5 by decide) λh2 e2 k2=>?_)
 refine zi ⟨_,rfl,?_⟩
 exact zi (h h2 e2 k2)
set_option maxHeartbeats 3200000 in
theorem dW5{I J:Addr}{m:Nat}{ps:List Nat}{Q:Option zf->zh->Prop}(hh:A.handled=none)(hi:s.heap.get? I=some (sI (.ref J) ps.length a es.size ep))(ha:s.heap.get? a=some (sO es ep t))(hf:t.fits es.size=true)(hJ:s.heap.get? J=some {cls:=.type "tuple",data:=.seq (ps.map fun(i:Nat)=>ym i).toArray m})
 (h:∀h',Zc I s.heap h'->Q none {s with heap:=h'}):zp (zD prog w) A (yC (.ref I)) Q E s:=by
 have hT:s.TypeIs (.ref I) "set_iterator":=⟨_,hi,rfl⟩
 unfold yC
 refine za (xm (zS (name:=je "__next__") hT aH5 (zV aH5 hT bO9 ?_ (bO6 _))))
 unfold jY.«set_iterator.__next__» YO
 wp_walk using jB ha rfl hf
 have eg:(ps.map fun(i:Nat)=>ym i).toArray[(ps.length:Int).toNat]? =none:=by
  rw[zW,Jj,zZ,zK (zo _)];rfl
 rw[eg]
 wp_walk
 simp only[raiseNew]
 refine za (YC ?_)
 rw[show A.in1.handled=none from hh]
 refine za (zi (XF ?_))
 refine za (xg (T:= "StopIteration") (b:=true) ⟨_,zm _ rfl,rfl⟩ Yk (zi ?_))
 exact h _ ((((jC ..).trans (jC ..)).extBut.push _).push _)
end
structure eX3(prog:zB)(w:zJ)(A:zF)(s:zh)(a:Addr)(ss:List Str)(I:Addr)(h':Heap):Prop where
 keep:∀b o,s.heap.get? b=some o->h'.get? b=some o
 new:s.heap.objs.size<=I
 walk:∃(J:Addr) (vs:List zf) (ss':List Str) (St:Nat->Heap->Prop),s.heap.objs.size<=J/\StrsAre vs ss'/\ss'.Perm ss/\Walks prog w A I [I,J,a] [I] vs.length (λi v=>vs[i]? =some v) St/\St 0 h'
theorem bO0{prog:zB}{w:zJ}:∀ {es:List (Int×zf)},XX (strKind prog w) es->StrsAre (es.map (·.2)) (es.map λe=>sV e.2)
 |[],_=>.nil
 |e::r,h=>by
   obtain⟨⟨k,hk,_⟩,_⟩:=h e (jh ..)
   obtain⟨t,et⟩:=dK0 hk
   rw[zG,zG,et]
   exact .cons _ _ (bO0 λx hx=>h x (zU _ hx))
section
variable{prog:zB}{w:zJ}{A:zF}{E:VSP}{s:zh}{a I:Addr}{es:Array (Int×zf)}{ep:Nat}{t:SetTable}
theorem wkT(hh:A.handled=none)(hb:byT w=true)(hf:t.fits es.size=true)(hne:a≠I)(J:Addr)(hJ:J≠I):
 Walks prog w A I [I,J,a] [I] ((Zg (w.params.setOrder a ep) es).toList.map (·.2)).length (λi v=>((Zg (w.params.setOrder a ep) es).toList.map (·.2))[i]? =some v) (λi h=>h.get? I=some (sI (.int 0 0) i a es.size ep)/\h.get? a=some (sO es ep t)) where
 sub:=λb hb=>by simp at hb;simp[hb]
 frame:=λi h h' st hk=>⟨hk I (by simp) _ st.1,hk a (by simp) _ st.2⟩
 item:=λi s Q E hi st hQ=>by
  rw[zl]at hi
  have e:(Zg (w.params.setOrder a ep) es)[i]? =some (Zg (w.params.setOrder a ep) es).toList[i]:=by rw[<-ji,zu hi]
  refine cL6 (n:=0) (nx:=0) (x:=(Zg (w.params.setOrder a ep) es).toList[i].2) st.1 st.2 hf (λA E Q hq=>eF6 hb st.2 hf (by rw[e];exact hq)) λh' hI hs=>?_
  refine hQ _ h' s.toks (by rw[zZ,zu hi];rfl) ⟨hI,?_⟩ λb o hb e=>?_
  ·rw[hs.2 a hne];exact st.2
  ·rw[hs.2 b (by simpa using hb)];exact e
 done:=λs Q E st hQ=>by
  rw[zl]at st
  refine cB4 (n:=0) (nx:=0) hh st.1 st.2 hf (λA E Q hq=>eF6 hb st.2 hf (by rw[<-ji,zK (zo _)];exact hq)) λh' he=>hQ h' s.toks λb o hb e=>he b o (λz=>hb (by simp[z])) e
 self:=λi s Q E st hQ=>bN8 st.1 hQ
theorem wkD(hh:A.handled=none)(hf:t.fits es.size=true)(hne:a≠I)(J:Addr)(hJ:J≠I){ps:List Nat}{vs:List zf}(hv:ps.map (λp=>es[p]?.map (·.2))=vs.map some):
 Walks prog w A I [I,J,a] [I] vs.length (λi v=>vs[i]? =some v) (λi h=>h.get? I=some (sI (.ref J) i a es.size ep)/\h.get? a=some (sO es ep t)/\∃m,h.get? J=some {cls:=.type "tuple",data:=.seq (ps.map fun(i:Nat)=>ym i).toArray m}) where
 sub:=λb hb=>by simp at hb;simp[hb]
 frame:=λi h h' st hk=>⟨hk I (by simp) _ st.1,hk a (by simp) _ st.2.1,let ⟨m,e⟩:=st.2.2;⟨m,hk J (by simp) _ e⟩⟩
 item:=λi s Q E hi st hQ=>by
  obtain⟨m,e⟩:=st.2.2
  have hl:ps.length=vs.length:=by have:=congrArg YU hv;simpa using this
  have g:=congrArg (·[i]?) hv
  simp only[zZ,zu hi,zu (show i<ps.length by omega),Zu,zd]at g
  obtain⟨q,eq,ev⟩:=XL.mp g
  refine dI4 st.1 st.2.1 hf e (zu (show i<ps.length by omega)) eq λh' hI hs=>?_
  refine hQ _ h' s.toks (by rw[zu hi,ev]) ⟨hI,?_,m,?_⟩ λb o hb e=>?_
  ·rw[hs.2 a hne];exact st.2.1
  ·rw[hs.2 J hJ];exact e
  ·rw[hs.2 b (by simpa using hb)];exact e
 done:=λs Q E st hQ=>by
  obtain⟨m,e⟩:=st.2.2
  have hl:ps.length=vs.length:=by have:=congrArg YU hv;simpa using this
  rw[<-hl]at st
  exact dW5 hh st.1 st.2.1 hf e λh' he=>hQ h' s.toks λb o hb e=>he b o (λz=>hb (by simp[z])) e
 self:=λi s Q E st hQ=>bN8 st.1 hQ
end
section
variable{prog:zB}{w:zJ}{A:zF}{E:VSP}{s:zh}{a I:Addr}{es:Array (Int×zf)}{ep:Nat}{t:SetTable}
theorem fH1(hh:A.handled=none)(hb:byT w=false)(hl:t.led=true)(he:es= #[])(hf:t.fits es.size=true)(hne:a≠I)(J:Addr):
 Walks prog w A I [I,J,a] [I] 0 (λi v=>([]:List zf)[i]? =some v) (λi h=>h.get? I=some (sI (.int 0 0) i a es.size ep)/\h.get? a=some (sO es ep t)) where
 sub:=λb hb=>by simp at hb;simp[hb]
 frame:=λi h h' st hk=>⟨hk I (by simp) _ st.1,hk a (by simp) _ st.2⟩
 item:=λi s Q E hi st hQ=>absurd hi (Nat.not_lt_zero _)
 done:=λs Q E st hQ=>cB4 (n:=0) (nx:=0) hh st.1 st.2 hf (λA E Q hq=>dS7 hb hl (by subst he;simp) st.2 hf (by subst he;simpa using hq)) λh' he=>hQ h' s.toks λb o hb e=>he b o (λz=>hb (by simp[z])) e
 self:=λi s Q E st hQ=>bN8 st.1 hQ
theorem eX9(p j:Nat):Zv #[p] j=if p<j then 1 else 0:=by
 unfold Zv
 simp[SetTable.below.go]
theorem fE7{e:Int×zf}{p:Nat}(hh:A.handled=none)(hb:byT w=false)(hl:t.led=true)(he:es= #[e])(hp:t.place= #[p])(hf:t.fits es.size=true)(hne:a≠I)(J:Addr):
 Walks prog w A I [I,J,a] [I] 1 (λi v=> [e.2][i]? =some v) (λi h=>h.get? I=some (sI (.int (if i=0 then (0:Nat)else p+1:Nat) 0) i a es.size ep)/\h.get? a=some (sO es ep t)) where
 sub:=λb hb=>by simp at hb;simp[hb]
 frame:=λi h h' st hk=>⟨hk I (by simp) _ st.1,hk a (by simp) _ st.2⟩
 item:=λi s Q E hi st hQ=>by
  obtain rfl:i=0:=by omega
  refine cL6 (n:=0) (nx:=p+1) (x:=e.2) st.1 st.2 hf (λA E Q hq=>dS7 hb hl (by subst he;simp) st.2 hf ?_) λh' hI hs=>?_
  · rw[hp,eX9,he]
    simpa using hq
  refine hQ _ h' s.toks rfl ⟨hI,?_⟩ λb o hb e=>?_
  ·rw[hs.2 a hne];exact st.2
  ·rw[hs.2 b (by simpa using hb)];exact e
 done:=λs Q E st hQ=>cB4 (n:=0) (nx:=0) hh st.1 st.2 hf (λA E Q hq=>dS7 hb hl (by subst he;simp) st.2 hf (by rw[hp,eX9,he];simpa using hq)) λh' he=>hQ h' s.toks λb o hb e=>he b o (λz=>hb (by simp[z])) e
 self:=λi s Q E st hQ=>bN8 st.1 hQ
set_option maxHeartbeats 3200000 in
theorem dW2{Q:VSP}(ha:s.heap.get? a=some (sO es ep t))(hf:t.fits es.size=true)
 (h1:(!byT w&&(!t.plain&&decide (es.size>1)))=true->∀(ps:List Nat) d',ps.Perm (jw es.size)->Q (.ref (s.heap.objs.size+1)) {s with heap:=(s.heap.push {cls:=.type "tuple",data:=.seq (ps.map fun(i:Nat)=>ym i).toArray}).push (sI (.ref s.heap.objs.size) 0 a es.size ep),drawn:=d'})
 (h2:¬((!byT w&&(!t.plain&&decide (es.size>1)))=true)->Q (.ref s.heap.objs.size) {s with heap:=s.heap.push (sI (.int 0 0) 0 a es.size ep)}) (hz:es.size<=zk):zp (zD prog w) A (YQ (.ref a)) Q E s:=by
 have hA:s.TypeIs (.ref a) "set":=⟨_,ha,rfl⟩
 refine wpAny_pyIter_slot hA F.slot_set_iter (zV F.slot_set_iter hA eQ3 ?_ (F.args_set_iter_1 _))
 unfold jY.«frozenset.__iter__» Builtin.Frozenset.slot0 Builtin.Frozenset.sizeOf YO setDrawn setEpoch
 wp_walk using jB ha rfl hf
 refine ZL (zi (zi ?_))
 have fin:∀(f:zf) (s1:zh),s1.heap.get? a=some (sO es ep t)->Q (.ref s1.heap.objs.size) {s1 with heap:=s1.heap.push (sI f 0 a es.size ep)}->zp (zD prog w) A.in1 (do
  let e <-(do
   let r <-setState a
   pure r.2.1)
  let v <-newFields "set_iterator" [f,ym 0,.ref a,ym (es.size:Nat),ym e]
  ret v) (λfin s'=>∃v,fin=Fin.done (Flow.ret v)/\∃T' r,s'.TypeIs v T'/\ZO (.type T') (je "__next__")=pure (some r)/\Q v s') E s1:=by
  intro f s1 h1 hq
  refine za (za (jB h1 rfl hf (zi ?_)))
  wp_walk
  exact⟨_,rfl, "set_iterator",_,⟨_,zm _ rfl,rfl⟩,aH5.lookup,hq⟩
 refine jK (λz=>?_) (λz=>?_)
 · have hr:(jw es.size).length=es.size:=jD
   have wo:=dM0 (prog:=prog) (w:=w) (A:=A.in1) (E:=E) (jw es.size) s
   rw[hr]at wo
   refine za (wo _ λps d' hp=>?_)
   refine za (wpAny_newTuple ?_ (by rw[zl,hp.length_eq,hr];exact hz))
   have q:=h1 z ps d' hp
   refine fin _ _ (zg _ ha) ?_
   have e:(s.heap.push {cls:=.type "tuple",data:=.seq (ps.map fun(i:Nat)=>ym i).toArray}).objs.size=s.heap.objs.size+1:=jb ..
   dsimp only
   rw[e]
   exact q
 ·exact za (zi (fin _ _ ha (h2 z)))
theorem dS6{es:Array (Int×zf)}{ps:List Nat}(h:ps.Perm (jw es.size)):∃l:List (Int×zf),l.Perm es.toList/\ps.map (λp=>es[p]?.map (·.2))= (l.map (·.2)).map some:=by
 refine⟨ps.map λp=>es.toList.getD p (0,.none),?_,?_⟩
 · refine(h.map _).trans ?_
   have:(jw es.size).map (λp=>es.toList.getD p (0,.none))=es.toList:=by
    apply List.ext_getElem
    ·simp
    · intro i h1 h2
      have h3:i<es.size:=by simpa using h2
      simp[zE,h3]
   rw[this]
 · rw[jc,jc]
   refine xK λp hp=>?_
   have h3:p<es.size:=yX.mp (h.mem_iff.mp hp)
   simp[zE,h3]
theorem dG4{ss:List Str}{Q:VSP}(hh:A.handled=none)(hS:TSet prog w s.heap a ss)(h:∀I h' d',eX3 prog w A s a ss I h'->Q (.ref I) {s with heap:=h',drawn:=d'}):zp (zD prog w) A (YQ (.ref a)) Q E s:=by
 obtain⟨o,es,ep,t,ho,⟨x1,x2,x3⟩,hd,hel,hpm,hb,hf,hl,hpl⟩:=hS
 obtain⟨oc,od,odt,os⟩:=o
 obtain rfl:oc= .type "set":=x1
 obtain rfl:od=none:=x2
 obtain rfl:os= #[]:=x3
 obtain rfl:odt= .set es ep t:=hd
 have hlt:=zn ho
 have hne:a≠s.heap.objs.size:=zA hlt
 have hne2:a≠s.heap.objs.size+1:=zA (yw hlt)
 have hne3:(s.heap.objs.size:Addr)≠s.heap.objs.size+1:=zA (yE _)
 have hz:es.size<=zk:=zI (yx hb) (by decide)
 refine dW2 ho hf (λz ps d' hp=>?_) (λz=>?_) hz
 · refine h _ _ d' ⟨λb o e=>zg _ (zg _ e),xF _,?_⟩
   obtain⟨l,hl1,hl2⟩:=dS6 hp
   refine⟨s.heap.objs.size,l.map (·.2),l.map λe=>sV e.2,_,zo _,bO0 (hel.perm hl1),(hl1.map _).trans hpm,wkD (ep:=ep) hh hf hne2 _ hne3 hl2,?_⟩
   have e1:(s.heap.push {cls:=.type "tuple",data:=.seq (ps.map fun(i:Nat)=>ym i).toArray}).objs.size=s.heap.objs.size+1:=jb ..
   refine⟨?_,zg _ (zg _ ho),0,zg _ (zm _ rfl)⟩
   rw[<-e1]
   exact zm _ rfl
 · refine h _ _ s.drawn ⟨λb o e=>zg _ e,zo _,?_⟩
   rcases hbt:byT w with _|_
   · have led:t.led=true:=by rw[hl,hbt];rfl
     have h1:¬(!t.plain&&decide (es.size>1))=true:=λq=>z (by rw[hbt,q];rfl)
     have hs:es.size<=1:=by
      rcases xa 1 es.size with q|q
      ·exact absurd (by rw[hpl (by omega),decide_eq_true q];rfl) h1
      ·exact q
     obtain⟨l⟩:=es
     rcases l with _|⟨e,_|⟨_,_⟩⟩
     ·exact⟨s.heap.objs.size+1, [], [],_,by omega,.nil,hpm,fH1 (t:=t) (ep:=ep) hh hbt led rfl hf hne _,zm _ rfl,zg _ ho⟩
     · have hp1:t.place.size=1:=by
        have:=hf
        unfold SetTable.fits at this
        rw[jn]at this
        simpa using this.1
       obtain⟨p,ep1⟩:∃p,t.place= #[p]:=by
        rcases hq:t.place with⟨pl⟩
        rcases pl with _|⟨p,_|⟨_,_⟩⟩
        ·rw[hq]at hp1;simp at hp1
        ·exact⟨p,rfl⟩
        ·rw[hq]at hp1;simp at hp1
       exact⟨s.heap.objs.size+1, [e.2], [sV e.2],_,by omega,bO0 (es:= [e]) hel,hpm,fE7 (t:=t) (ep:=ep) hh hbt led rfl ep1 hf hne _,zm _ rfl,zg _ ho⟩
     ·simp at hs
   ·refine⟨s.heap.objs.size+1,_,_,_,by omega,bO0 (hel.perm (cA3 (w.params.setOrder a ep) es)),((cA3 (w.params.setOrder a ep) es).map _).trans hpm,wkT (t:=t) hh hbt hf hne _ hne3.symm,zm _ rfl,zg _ ho⟩
end
section
variable{prog:zB}{w:zJ}{A:zF}{E:VSP}{s:zh}{a I:Addr}{es:Array (Int×zf)}{ep:Nat}{t:SetTable}
theorem TSet.type{ss:List Str}(hS:TSet prog w s.heap a ss):s.TypeIs (.ref a) "set":=by
 obtain⟨o,es,ep,t,ho,⟨x1,_⟩,_⟩:=hS
 exact⟨o,ho,x1⟩
end
section
variable{prog:zB}{w:zJ}{A:zF}{E:VSP}{s:zh}{a I:Addr}{es:Array (Int×zf)}{ep:Nat}{t:SetTable}
theorem dP8{R:YS->zh->Prop}{ss:List Str}(hh:A.handled=none)(hS0:TSet prog w s.heap a ss)(S:Addr)(hSr:S≠a)(res:zf)(c₀:Nat)(hS:s.heap.get? S=some {cls:=.type "list",data:=.seq #[] c₀})(hn:ss.length<=zk)
 (hR:∀h' d' tk acc' c' ss',(∀b o,b≠S->s.heap.get? b=some o->h'.get? b=some o)->h'.get? S=some {cls:=.type "list",dict:=none,data:=.seq acc' c',slots:= #[]}->StrsAre acc'.toList ss'->ss'.Perm ss->R (.ok (.ret res)) {s with heap:=h',drawn:=d',toks:=tk}):
 zp (zD prog w) A.in1 (jx (.ref S) (.ref a) res)
  (λfin s'=>match fin with| .done f=>R (.ok f) s'| .again c'=>c'.quiet=true/\xB (zD prog w) A c' R s') (λe s'=>R (.error e) s') s:=by
 unfold jx
 refine za (yP (T:= "set") hS0.type ?_)
 have h1:yV (.ref S) (.ref a)=false:=by simp[yV,hSr]
 have h2:(Value.type "set" == Value.type "list")=false:=by decide
 have h3:(Value.type "set" == Value.type "tuple")=false:=by decide
 simp only[h1,h2,h3,Zi,zC,if_false]
 refine za (dG4 (A:=A.in1) hh hS0 λI h0 d0 ⟨keep,new,J,vs,ss',St,hJ,hv,hp,W,st⟩=>?_)
 have hSlt:=zn hS
 have halt:a<s.heap.objs.size:=by obtain⟨o,_,_,_,ho,_⟩:=hS0;exact zn ho
 have hSf:S∉ [I,J,a]:=by
  simp only[zw,zy,or_false,not_or]
  exact⟨zA (zQ hSlt new),zA (zQ hSlt hJ),hSr⟩
 have hvl:vs.length<=zk:=by rw[ZD hv,hp.length_eq];exact hn
 have key:∀(h:Heap) (c₁ tk:Nat),St 0 h->(∀b o,b≠S->s.heap.get? b=some o->h.get? b=some o)->
  h.get? S=some {cls:=.type "list",data:=.seq #[] c₁}->xB (zD prog w) A (.builtin "list.extend.loop" ⟨[.ref S,.ref I,res], []⟩) R {s with heap:=h,drawn:=d0,toks:=tk}:=by
  intro h c₁ tk hst hk hS₁
  refine codeAny_extend_loopS W.toS hvl S hSf res vs.length 0 _ #[] c₁ rfl (jR _) hst hS₁ (ItemsOf.nil _) λs' acc' c' hm hS' hacc=>?_
  rw[Moved.eq_with hm]
  refine hR s'.heap d0 s'.toks acc' c' ss' (λb o hb e=>hm.heap b o (λhmem=>?_) (hk b o hb e)) hS' ?_ hp
  · rcases zw.mp hmem with e'|hmem
    ·exact hb e'
    · have:=zn e
      rw[zP.mp hmem]at this
      exact absurd new (Nat.not_le.mpr this)
  · have:acc'.toList=vs:=by
     apply Yy
     intro i
     rcases xa i acc'.size with q|q
     · have:=hacc.2 i acc'[i] (by simp[q])
       rw[this,ji];simp[q]
     ·rw[zK (by simpa using q),zK (by rw[<-hacc.1];exact q)]
    rw[this];exact hv
 have hS₁:=keep _ _ hS
 refine za (jz (dB6 (s:={s with heap:=h0,drawn:=d0}) (TSet.type (s:={s with heap:=h0,drawn:=d0}) (hS0.congr λo e=>keep _ _ e)) ?_))
 refine jK (λ_=>?_) (λ_=>zi ⟨ye xO _,key _ c₀ _ st (λb o _ e=>keep _ _ e) hS₁⟩)
 refine za (yB ?_)
 refine za ?_
 show zp _ _ (updateSeq S (·.push .none) >>= λ_=>updateSeq S (·.pop)) _ _ _
 refine za (XM hS₁ rfl ?_)
 have hS₂:=jU (xk (·.push Value.none)) hS₁ rfl
 refine XM (hz:=by seq_fits) hS₂ rfl ?_
 have hS₃:=jU (xk (·.pop)) hS₂ rfl
 refine zi ⟨ye xO _,key _ _ _ ?_ (λb o hb e=>?_) hS₃⟩
 · refine W.frame 0 _ _ st λb hb o e=>?_
   have hbS:b≠S:=λh=>hSf (h▸hb)
   exact(jN _ _ (Ne.symm hbS)).trans ((jN _ _ (Ne.symm hbS)).trans e)
 ·exact(jN _ _ (Ne.symm hb)).trans ((jN _ _ (Ne.symm hb)).trans (keep _ _ e))
end
section
variable{prog:zB}{w:zJ}{A:zF}{E:VSP}{s:zh}{a:Addr}
theorem dK8{R:List zf->zh->Prop}{ss:List Str}(hh:A.handled=none)(hS0:TSet prog w s.heap a ss)(hn:ss.length<=zk)
 (h:∀(h':Heap) d' (tk:Nat) (vs:List zf) ss',(∀b o,s.heap.get? b=some o->h'.get? b=some o)->StrsAre vs ss'->ss'.Perm ss->R vs {s with heap:=h',drawn:=d',toks:=tk}):
 zp (zD prog w) A (collect (.ref a)) R E s:=by
 have halt:a<s.heap.objs.size:=by obtain⟨o,_,_,_,ho,_⟩:=hS0;exact zn ho
 unfold collect
 refine za (wpAny_runValue (jW entry_proto_collect' ?_))
 rw[jA PySem.F.plain_proto_collect _]
 show zp _ A.in1 (newList [] >>= λl=>again (.builtin "list.__iadd__" ⟨[l,.ref a], []⟩)) _ _ s
 refine za (jH ?_)
 refine zi ⟨ye Xm _,jW entry_list_iadd' ?_⟩
 rw[jA Xm _]
 have hS₁:(s.heap.push {cls:=.type "list",data:=.seq ([]:List zf).toArray}).get? s.heap.objs.size=some {cls:=.type "list",data:=.seq #[]}:=zm _ rfl
 show zp _ A.in1 (jx (.ref s.heap.objs.size) (.ref a) (.ref s.heap.objs.size)) _ _ _
 have key:=dP8 (A:=A) (s:={s with heap:=s.heap.push {cls:=.type "list",data:=.seq ([]:List zf).toArray}})
  (R:=fun(q:YS) (s':zh)=>∃(h':Heap) (d':_) (tk:Nat) (acc':Array zf) (c':Nat) (ss':List Str),q= .ok (.ret (.ref s.heap.objs.size))/\s'= {s with heap:=h',drawn:=d',toks:=tk}/\
    (∀b o,s.heap.get? b=some o->h'.get? b=some o)/\h'.get? s.heap.objs.size=some {cls:=.type "list",dict:=none,data:=.seq acc' c',slots:= #[]}/\StrsAre acc'.toList ss'/\ss'.Perm ss)
  hh (hS0.congr λo e=>zg _ e) s.heap.objs.size (yb halt) (.ref s.heap.objs.size) 0 hS₁ hn
  (λh' d' tk acc' c' ss' hk hS' hv hp=>⟨h',d',tk,acc',c',ss',rfl,rfl,λb o e=>hk b o (zA (zn e)) (zg _ e),hS',hv,hp⟩)
 refine jG key (λfin s' x=>?_) λe s' x=>?_
 · cases fin with
   |done f=>
     obtain⟨h',d',tk,acc',c',ss',e,rfl,hk,hS',hv,hp⟩:=x
     cases e
     show zp _ A (load s.heap.objs.size >>= _) _ _ _
     refine za (wpAny_load hS' ?_)
     exact zi (h h' d' tk acc'.toList ss' hk hv hp)
   |again c₁=>
     refine⟨x.1,Zb x.2 λq s₂ y=>?_⟩
     obtain⟨h',d',tk,acc',c',ss',rfl,rfl,hk,hS',hv,hp⟩:=y
     show zp _ A (load s.heap.objs.size >>= _) _ _ _
     refine za (wpAny_load hS' ?_)
     exact zi (h h' d' tk acc'.toList ss' hk hv hp)
 · obtain⟨_,_,_,_,_,_,e',_⟩:=x
   cases e'
theorem cH4{Q:VSP}{ss:List Str}(hh:A.handled=none)(hS0:TSet prog w s.heap a ss)(hn:ss.length<64)
 (h:∀(h1 h':Heap) d' (tk e:Nat) (out:List zf) (ss':List Str),(∀b o,s.heap.get? b=some o->h1.get? b=some o)->(∀b o,h1.get? b=some o->h'.get? b=some o)->h'.get? h1.objs.size=some (YT "list" out.toArray e)->StrsAre out ss'->ss'.Perm ss->sortedS ss'=true->Q (.ref h1.objs.size) {s with heap:=h',drawn:=d',toks:=tk}):
 zp (zD prog w) A (call (.builtin "sorted") [.ref a]) Q E s:=by
 have hz:ss.length<=zk:=zI (yx hn) (by decide)
 refine xV kind_sorted plain_sorted entry_sorted (args_sorted1 _) ?_
 unfold jY.«sorted»
 refine za (m:=checkCount "sorted" 1 1 _) (zi ?_)
 refine za (dK8 (A:=A.in1) hh hS0 hz λh1 d' tk vs ss1 hk hS hp1=>?_)
 have hl:vs.length=ss.length:=by rw[ZD hS,hp1.length_eq]
 refine za (JA ?_ (by rw[hl];exact hz))
 have hoL:(h1.push (YT "list" vs.toArray 0)).get? h1.objs.size=some (YT "list" vs.toArray 0):=zm _ rfl
 refine za (jz (zV Jh ⟨_,hoL,rfl⟩ XT (XS JG hoL hS.keysOf (λv₁ v₂ rest e=>keyKind_strs (by rw[<-e];exact hS)) (by rw[hl];exact hn) λst' a1 a2=>⟨_,rfl,?_⟩) (Ji _)))
 obtain⟨ss',b1,b2,b3⟩:=Jf hS a1 a2
 obtain⟨e,he⟩:=JH (vs:=vs) (out:=(jT st').map (·.2)) hoL
 refine zi ⟨_,rfl,h h1 _ d' tk e ((jT st').map (·.2)).toList ss' hk (λb o hb=>?_) (by rw[xD];exact he) b1 (b2.trans hp1) b3⟩
 have hlt:b<h1.objs.size:=zn hb
 rw[Jg (zA hlt) (by rw[size_push'];exact yw hlt),Yt _ _ _ (zA hlt)]
 exact hb
end
def bP8:D->M D:=λd=>match d with
 | .ref r=>do
   match <-S7 r with
   | .lst l=>do
     let ss <-aJ6 (aG8 l)
     if ss.length<64 then R0 (.lst ((aC4 (ss.foldl ddT [])).map .str))else M.stuck
   |_=>M.stuck
 |_=>M.stuck
def cA9(fa:Fe):Fe:=λO=>fa O >>= bP8
section
variable{X:Cx}{Z:XC}{ea:Expr}{fa:Fe}{p p1 q1 pos:Pos}{pins:PNS}{O:List (Option V)}{H:Hp}{s:zh}
theorem eI6{d':Drawn}(I:Inv X pins O H s):Inv X pins O H {s with drawn:=d'}:=⟨I.ok,I.os,I.bare,I.base,I.loc,I.cell,I.free,I.freeC,I.pin,I.hok,I.len⟩
theorem dE2(hc:X.calm=true)(hbl:BLs X.mg)(hg1:Gl X "sorted")(hg2:Gl X "set")(ha:DE X Z ea fa)(sa:aA5 ea=true):DE X Z (.Call (.Name "sorted" p) [.Call (.Name "set" p1) [ea] [] q1] [] pos) (cA9 fa):=⟨by
 intro pins s O H Q I h
 refine xv (aO4 I hg1 (hbl.h _ (by decide +kernel)) bY5 ?_ (by decide) (by decide))
 refine h.elim λZ8 U G sr hr pp=>?_
 refine callWith_builtin1 (xh ?_) rfl rfl
 refine xv (aO4 I hg2 (hbl.h _ (by decide +kernel)) eS7 ?_ (by decide) (by decide))
 refine callWith_type1 ?_ (aI4 sa) rfl
 rw[aI4 sa]
 have pa:=j7.bind pp
 refine xh (thn (ha.h pins s O H (λv H1=>∃x X1 G1,J0 (wc X) X1 G1 H1/\j8 (wc X) X1 H1 x v/\j7 (wc X) Z X1 H1 (bP8 x G1) λd X9 _ H'=>∀v,j8 (wc X) X9 H' d v->Q v H') I ⟨Z8,U,G,sr,hr,pa.mono λd X1 G1 H1 x1 h1 p1 v rv=>⟨d,X1,G1,h1,rv,p1⟩⟩) λu s1 hE=>hE.elim λv H1 I1 r1 q=>?_)
 obtain⟨x,X1,G1,hr1,rv1,pp1⟩:=q
 obtain⟨i,rfl⟩:∃i,x= .ref i:=match x,pp1 with
  | .ref i,_=>⟨i,rfl⟩
 obtain⟨o,g,p2⟩:=Q0 (show j7 (wc X) Z X1 H1 ((S7 i >>= λo=>match o with
  | .lst l => (do
    let ss <-aJ6 (aG8 l)
    if ss.length<64 then R0 (.lst ((aC4 (ss.foldl ddT [])).map .str))else M.stuck:M D)
  |_=>M.stuck) G1) _ from pp1)
 unfold j8 at rv1
 obtain⟨a,m,rfl⟩:=rv1
 have ro:=hr1.obj i o a g m
 rcases o with l|l|l|l<;>try exact p2.elim
 obtain⟨vs,q,rl⟩:=ro
 obtain⟨ss,es,p3⟩:=aE2 p2
 split at p3
 case isFalse=>exact p3.elim
 rename_i h64
 cases r1
 refine xo ?_
 obtain⟨its,rv,pl,hz⟩:=I1.list (SqL.of q)
 have hS:=bT3 es rl rv
 have hlen0:its.length=ss.length:=ZD hS
 have hc1:X.A.handled=none:=I1.ok.hd hc
 refine dB7 (w:=X.w) hc1 (items:=its.toArray) pl.isList (by simpa using hS) (by rw[zq];exact zQ (show its.length+1<66 by omega) (by decide)) λh1 tk1 hT k1=>?_
 have I2:Inv X pins O H1 {s1 with heap:=h1,toks:=tk1}:=I1.kept k1
 refine xo ?_
 have hdl:=cH1 ss []
 refine cH4 (s:={s1 with heap:=h1,toks:=tk1}) (I2.ok.hd hc) hT (by simp at hdl;omega) λh2 h' d' tk e out ss' k2 k3 he hS' hp hs=>?_
 have e2:=bT1 hp hs
 subst e2
 have I3:Inv X pins O H1 {s1 with heap:=h2,drawn:=d',toks:=tk}:=eI6 (I2.kept (t':=tk) k2)
 obtain⟨ws,ew,rv',rl2⟩:=bF1 (c:=wc X) (U:=X1) (H:=H1) hS'
 have hf:=I3.hok.fresh (zo _)
 have hlen:ws.length<=zk:=by
  rw[ew,zl]
  have e3:(aC4 (ss.foldl ddT [])).length= (ss.foldl ddT []).length:=(yA _ leS).length_eq
  have:(64:Nat)<=zk:=by decide
  simp at hdl;omega
 exact⟨.ref h2.objs.size,upd H1 h2.objs.size (.lst ws),I3.laid (t':=tk) k3 (zo _) ⟨hlen,out,e,rv',he⟩,rfl,aD1 hr1 rl2 p3 _ hf⟩⟩
end
end DL
namespace W
open PySem PySem.Spec L2 DL
open PyProof.Rows hiding St
theorem dF6{G G1:DH}{fa:Fe}{O:DSt}{r:Nat}{l:List D}{ss:List Str}{Q:DPP}(ea:fa O G=some (.ok (.ref r),G1))(e:G1[r]? =some (.lst l))(hs:aG8 l=some ss)(h64:ss.length<64)(q:Q (.ref G1.length) (G1++[.lst ((aC4 (ss.foldl ddT [])).map .str)])):Wp (cA9 fa O) G Q:=by
 refine m9.mpr (m6 ea ?_)
 unfold bP8
 simp only[m9,R8,e,Q8,aL3,hs,if_pos h64,X4]
 exact q
def D1:Fs:=(m5 (t8 (d9 aU1 (d9 aZ7 (d9 aU1 (d9 W5 (d9 W5 (b8 3) (d9 aZ7 (cE (.int 7919)) (b8 2))) (cE (.int 3))) (cE (.int 2147483647))) (cE (.int 48271))) (cE (.int 2147483647))) (q13 4)) (m5 (t8 (d9 aU1 (d9 aZ7 (b8 4) (b8 4)) (cE (.int 2147483629))) (q13 4)) (m5 (aQ1 (mtE V7 aC1 (b8 1) (q10 (d9 aU1 (d9 aT9 (b8 4) (cE (.int 16))) (cE (.int 1000))) q11))) (m5 (aQ1 (mtE V7 aC1 (b8 1) (q10 (d9 aU1 (d9 aT9 (b8 4) (cE (.int 16000))) (cE (.int 1000))) q11))) (m5 (t8 (d9 aU1 (d9 W5 (b8 4) (d9 aZ7 (cE (.int 40692)) (d9 W5 (b8 2) (cE (.int 7))))) (cE (.int 2147483587))) (q13 4)) (aQ1 (mtE V7 aC1 (b8 1) (q10 (d9 aU1 (d9 aT9 (d9 aU1 (d9 aZ7 (b8 4) (b8 4)) (cE (.int 2147483647))) (cE (.int 16))) (cE (.int 1000))) q11))))))))
def WT1:DSt->M Bool:=(aQ4 (o6 (d9 geD (b8 3) (cE (.int 1000)))) (o6 (d9 ltD (b8 5) (cE (.int 60)))))
def WB1:Fs:=(m5 (aQ1 (mtE V7 aC1 (b8 1) (q10 (d9 aU1 (b8 3) (cE (.int 1000))) q11))) (m5 (t8 (d9 aT9 (b8 3) (cE (.int 1000))) (q13 3)) (t8 (d9 W5 (b8 5) (cE (.int 1))) (q13 5))))
def D2:Fs:=(m5 (t8 (cE (.int 0)) (q13 5)) (aR7 WT1 WB1))
def DB:Fs:=(m5 (t8 (q12 dH3 (q10 (d9 ixD (b8 0) (b8 2)) q11)) (q13 3)) (ifS (o6 (d9 ltD (b8 3) (d9 aW2 (cE (.int 10)) (cE (.int 18))))) D1 D2))
def aS0:Fs:=m5 (t8 (W6 q11) (q13 1)) (m5 (aS5 (aC0 (q10 (q12 bW7 (q10 (q12 aD4 (q10 (b8 0) q11)) (q10 (cE (.int 80)) q11))) q11)) (q13 2) DB) (t6 (X3 (b8 1) (Z4) (aE1 (cE (.int 240))))))
def aA0:List D->M D:=J7 6 aS0
def aV4:Fs:=m5 (ifS (o6 (d9 eqD (b8 0) (W6 q11))) (t6 (cE (.int 0))) u9) (t6 (d9 aU1 (mtE V7 cB9 (b8 0) (q10 (cE (.int 0)) q11)) (b8 1)))
def g8:List D->M D:=J7 2 aV4
def WL:Fs:=(t8 (d9 W5 (b8 4) (d9 ixD (cE (.str ("abcdefghijklmnopqrstuvwxyz" :Str))) (q12 (fnX 2 g8) (q10 (b8 0) (q10 (cE (.int 26)) q11))))) (q13 4))
def W1:Fs:=(ifS (o6 (d9 eqD (b8 1) (cE (.int 4)))) (m5 (t8 (W6 (q10 (cE (.str ("any" :Str))) (q10 (cE (.str ("nothing" :Str))) (q10 (cE (.str ("number" :Str))) (q10 (cE (.str ("text" :Str))) (q10 (cE (.str ("truth" :Str))) (q10 (cE (.str ("true" :Str))) (q10 (cE (.str ("false" :Str))) (q10 (cE (.str ("or" :Str))) (q10 (cE (.str ("but" :Str))) (q10 (cE (.str ("in" :Str))) (q10 (cE (.str ("only" :Str))) (q10 (cE (.str ("wish" :Str))) q11))))))))))))) (q13 2)) (m5 (t8 (d9 W5 (b8 2) (W6 (q10 (cE (.str ("numbers" :Str))) (q10 (cE (.str ("texts" :Str))) (q10 (cE (.str ("anyone" :Str))) (q10 (cE (.str ("orb" :Str))) q11)))))) (q13 2)) (t6 (d9 ixD (b8 2) (q12 (fnX 2 g8) (q10 (b8 0) (q10 (cE (.int 16)) q11))))))) u9)
def W2:Fs:=(t8 (q12 (fnX 2 g8) (q10 (b8 0) (q10 (cE (.int 4)) q11))) (q13 3))
def W3:Fs:=(ifS (o6 (d9 eqD (b8 1) (cE (.int 5)))) (t8 (q12 (fnX 2 g8) (q10 (b8 0) (q10 (cE (.int 31)) q11))) (q13 3)) u9)
def WT:Fs:=m5 (t8 (cE (.str ("" :Str))) (q13 4)) (m5 (aS5 (aC0 (q10 (b8 3) q11)) (q13 5) WL) (t6 (b8 4)))
def aX6:Fs:=m5 (t8 (q12 (fnX 2 g8) (q10 (b8 0) (q10 (cE (.int 6)) q11))) (q13 1)) (m5 W1 (m5 W2 (m5 W3 WT)))
def U4:List D->M D:=J7 6 aX6
def aW5:Fs:=m5 (t8 (X3 (q12 (fnX 1 U4) (q10 (b8 0) q11)) (Z4) (aE1 (cE (.int 8)))) (q13 1)) (m5 (ifS (o6 (d9 eqD (b8 1) (cE (.str ("" :Str))))) (t6 (cE (.str ("a" :Str)))) u9) (t6 (b8 1)))
def R7:List D->M D:=J7 2 aW5
def PLB:Fs:=(m5 (t8 (d9 W5 (d9 ixD (b8 5) (d9 aU1 (b8 6) (cE (.int 26)))) (d9 ixD (b8 5) (d9 aT9 (b8 6) (cE (.int 26))))) (q13 7)) (aQ1 (mtE V7 aC1 (b8 1) (q10 (d9 W5 (d9 W5 (X3 (b8 3) (Z4) (aE1 (b8 4))) (b8 7)) (X3 (b8 3) (aE1 (b8 4)) (Z4))) q11))))
def P1:Fs:=(t8 (W6 (q10 (cE (.str ("a" :Str))) (q10 (q12 (fnX 1 R7) (q10 (b8 0) q11)) (q10 (q12 (fnX 1 R7) (q10 (b8 0) q11)) (q10 (q12 (fnX 1 R7) (q10 (b8 0) q11)) q11))))) (q13 1))
def P3:Fs:=(ifS (o6 (d9 eqD (b8 2) (cE (.int 3)))) (m5 (t8 (X3 (q12 (fnX 1 R7) (q10 (b8 0) q11)) (Z4) (aE1 (cE (.int 6)))) (q13 3)) (m5 (t8 (q12 (fnX 2 g8) (q10 (b8 0) (q10 (d9 W5 (q12 aD4 (q10 (b8 3) q11)) (cE (.int 1))) q11))) (q13 4)) (m5 (t8 (cE (.str ("abcdefghijklmnopqrstuvwxyz" :Str))) (q13 5)) (aS5 (aC0 (q10 (d9 W5 (cE (.int 1)) (q12 (fnX 2 g8) (q10 (b8 0) (q10 (cE (.int 36)) q11)))) q11)) (q13 6) PLB)))) u9)
def aX2:Fs:=m5 P1 (m5 (t8 (q12 (fnX 2 g8) (q10 (b8 0) (q10 (cE (.int 4)) q11))) (q13 2)) (m5 P3 (t6 (b8 1))))
def aB6:List D->M D:=J7 8 aX2
def NB:Fs:=(t8 (d9 W5 (d9 aZ7 (b8 3) (cE (.int 1000))) (q12 (fnX 2 g8) (q10 (b8 0) (q10 (cE (.int 1000)) q11)))) (q13 3))
def N1:Fs:=(ifS (o6 (d9 ltD (b8 1) (cE (.int 5)))) (m5 (t8 (q12 (fnX 2 g8) (q10 (b8 0) (q10 (cE (.int 40)) q11))) (q13 2)) (t6 (d9 aZ7 (d9 aT9 (b8 2) (cE (.int 2))) (d9 bB0 (cE (.int 1)) (d9 aZ7 (cE (.int 2)) (d9 aU1 (b8 2) (cE (.int 2)))))))) u9)
def N2:Fs:=(ifS (o6 (d9 eqD (b8 1) (cE (.int 5)))) (t6 (d9 ixD (W6 (q10 (d9 aW2 (cE (.int 10)) (cE (.int 20))) (q10 (unE cE8 (d9 aW2 (cE (.int 10)) (cE (.int 20)))) (q10 (d9 bB0 (d9 aW2 (cE (.int 10)) (cE (.int 20))) (cE (.int 1))) (q10 (d9 aW2 (cE (.int 10)) (cE (.int 18))) q11))))) (q12 (fnX 2 g8) (q10 (b8 0) (q10 (cE (.int 4)) q11))))) u9)
def N3:Fs:=(t6 (d9 aZ7 (d9 W5 (d9 aZ7 (b8 3) (cE (.int 100))) (q12 (fnX 2 g8) (q10 (b8 0) (q10 (cE (.int 100)) q11)))) (d9 bB0 (cE (.int 13)) (d9 aZ7 (cE (.int 2)) (b8 1)))))
def aO5:Fs:=m5 (t8 (q12 (fnX 2 g8) (q10 (b8 0) (q10 (cE (.int 8)) q11))) (q13 1)) (m5 N1 (m5 N2 (m5 (t8 (cE (.int 0)) (q13 3)) (m5 (aS5 (aC0 (q10 (cE (.int 6)) q11)) (q13 4) NB) N3))))
def N6:List D->M D:=J7 5 aO5
def RW1(R:List D->M D):Fs:=(ifS (o6 (d9 gtD (b8 6) (cE (.int 2)))) (t8 (q12 (fnX 3 R) (q10 (b8 0) (q10 (b8 1) (q10 (d9 bB0 (b8 2) (cE (.int 1))) q11)))) (q13 4)) u9)
def RW2:Fs:=(ifS (o6 (d9 gtD (b8 6) (cE (.int 0)))) (t8 (v5 (q10 (b8 5) (q10 (b8 4) q11))) (dS3 (b8 3) (b8 5))) u9)
def RB(R:List D->M D):Fs:=m5 (t8 (q12 (fnX 2 g8) (q10 (b8 0) (q10 (cE (.int 6)) q11))) (q13 6)) (m5 (RW1 R) RW2)
def RT:Fs:=(t6 (v5 (q10 (cE (.str ("record" :Str))) (q10 (q12 aD9 (q10 (Q6 (itW (q12 aY7 (q10 (b8 3) q11))) [none,some 3] (q13 0) (W0) (d9 ixG (b8 1) (b8 0))) q11)) q11))))
def aH3(R:List D->M D):Fs:=m5 (t8 (aX9) (q13 3)) (m5 (t8 (q12 (fnX 3 R) (q10 (b8 0) (q10 (b8 1) (q10 (d9 bB0 (b8 2) (cE (.int 1))) q11)))) (q13 4)) (m5 (aS5 (itW (b8 1)) (q13 5) (RB R)) RT))
def aA2(R:List D->M D):List D->M D:=J7 7 (aH3 R)
def V1:Fs:=(ifS (o6 (d9 eqD (b8 3) (cE (.int 0)))) (t6 (q12 (fnX 1 N6) (q10 (b8 0) q11))) u9)
def V2:Fs:=(ifS (o6 (d9 eqD (b8 3) (cE (.int 1)))) (t6 (q12 (fnX 1 U4) (q10 (b8 0) q11))) u9)
def V3:Fs:=(ifS (o6 (d9 eqD (b8 3) (cE (.int 2)))) (t6 (d9 eqD (q12 (fnX 2 g8) (q10 (b8 0) (q10 (cE (.int 2)) q11))) (cE (.int 1)))) u9)
def V4:Fs:=(ifS (o6 (d9 ltD (b8 2) (cE (.int 2)))) (t6 (d9 bB0 (q12 (fnX 2 g8) (q10 (b8 0) (q10 (cE (.int 9)) q11))) (cE (.int 4)))) u9)
def V5(R:List D->M D):Fs:=(ifS (o6 (d9 eqD (b8 3) (cE (.int 3)))) (t6 (v5 (q10 (cE (.str ("list" :Str))) (q10 (q12 aD9 (q10 (Q6 (aC0 (q10 (q12 (fnX 2 g8) (q10 (b8 0) (q10 (cE (.int 3)) q11))) q11)) [none,some 2,some 0,some 1] (q13 0) (W0) (q12 (fnX 3 R) (q10 (b8 2) (q10 (b8 3) (q10 (d9 bB0 (b8 1) (cE (.int 1))) q11))))) q11)) q11)))) u9)
def V6(R:List D->M D):Fs:=(t6 (q12 (fnX 3 (aA2 R)) (q10 (b8 0) (q10 (b8 1) (q10 (b8 2) q11)))))
def aF5(R:List D->M D):Fs:=m5 (t8 (q12 (fnX 2 g8) (q10 (b8 0) (q10 (cE (.int 8)) q11))) (q13 3)) (m5 V1 (m5 V2 (m5 V3 (m5 V4 (m5 (V5 R) (V6 R))))))
def aK3:Nat->List D->M D
 |0=>λ_=>M.stuck
 |n+1=>J7 4 (aF5 (aK3 n))
def aF1:List D->M D:=aK3 60
def aH4:List D->M D:=aA2 aF1
def Q1:Fs:=(t8 (d9 ixD (W6 (q10 (cE (.int 1)) (q10 (cE (.int 2)) (q10 (cE (.int 0)) (q10 (cE (.int 3)) (q10 (cE (.int 1)) (q10 (cE (.int 4)) (q10 (cE (.int 2)) (q10 (cE (.int 1)) q11))))))))) (q12 (fnX 2 g8) (q10 (b8 0) (q10 (cE (.int 8)) q11)))) (q13 2))
def Q2:Fs:=(t8 (Q6 (aC0 (q10 (b8 2) q11)) [none,some 0,some 1] (q13 0) (W0) (d9 ixD (b8 2) (q12 (fnX 2 g8) (q10 (b8 1) (q10 (q12 aD4 (q10 (b8 2) q11)) q11))))) (q13 3))
def Q3:Fs:=(ifS (aQ4 (o6 (d9 gtD (b8 2) (cE (.int 0)))) (o6 (d9 eqD (q12 (fnX 2 g8) (q10 (b8 0) (q10 (cE (.int 6)) q11))) (cE (.int 5))))) (t8 (q12 (fnX 1 R7) (q10 (b8 0) q11)) (dS3 (b8 3) (q12 (fnX 2 g8) (q10 (b8 0) (q10 (b8 2) q11))))) u9)
def aY1:Fs:=m5 Q1 (m5 Q2 (m5 Q3 (t6 (q12 aD9 (q10 (b8 3) q11)))))
def Z1:List D->M D:=J7 4 aY1
def TA:Fs:=(ifS (orT (bH8 (J8 (q12 v7 (q10 (b8 2) (q10 (cE (.ty "tuple")) q11))))) (o6 (d9 neD (d9 ixD (b8 2) (cE (.int 0))) (cE (.str ("record" :Str)))))) (t6 (v5 q11)) u9)
def TC:Fs:=(t8 (Q6 (itW (d9 ixD (b8 2) (cE (.int 1)))) [none,none,some 3] (aE0 2 (w6 (q13 0) (w6 (q13 1) (aF6)))) (o6 (d9 eqD (b8 0) (b8 2))) (b8 1)) (q13 4))
def TE':Fs:=(m5 (ifS (o6 (d9 eqD (b8 4) (W6 q11))) (t6 (v5 q11)) u9) (t8 (d9 ixD (b8 4) (cE (.int 0))) (q13 2)))
def TB:Fs:=m5 TA (m5 TC TE')
def aS7:Fs:=m5 (t8 (b8 0) (q13 2)) (m5 (aS5 (itW (b8 1)) (q13 3) TB) (t6 (v5 (q10 (b8 2) q11))))
def K7:List D->M D:=J7 5 aS7
def aB2:Fs:=m5 (t8 (v5 (q10 (v5 q11) (q10 (v5 (q10 (cE (.str ("of" :Str))) (q10 (v5 q11) q11))) (q10 (v5 q11) (q10 (cE .non) (q10 (cE .non) q11)))))) (q13 2)) (m5 (ifS (J8 (q12 v7 (q10 (b8 1) (q10 (cE (.ty "bool")) q11)))) (m5 (t8 (W6 (q10 (v5 (q10 (b8 1) q11)) (q10 (v5 (q10 (bI3 (b8 1)) q11)) (q10 (v5 (q10 (cE (.bl false)) (q10 (cE (.bl true)) q11))) q11)))) (q13 3)) (t6 (d9 W5 (d9 W5 (X3 (b8 2) (Z4) (aE1 (cE (.int 2)))) (v5 (q10 (d9 ixD (b8 3) (q12 (fnX 2 g8) (q10 (b8 0) (q10 (cE (.int 3)) q11)))) q11))) (X3 (b8 2) (aE1 (cE (.int 3))) (Z4))))) u9) (m5 (ifS (J8 (q12 v7 (q10 (b8 1) (q10 (cE (.ty "int")) q11)))) (m5 (t8 (q12 cP3 (q10 (d9 bB0 (b8 1) (cE (.int 1))) (q10 (unE cE8 (d9 aW2 (cE (.int 10)) (cE (.int 20)))) q11))) (q13 4)) (m5 (t8 (q12 bW7 (q10 (d9 W5 (b8 1) (cE (.int 1))) (q10 (d9 aW2 (cE (.int 10)) (cE (.int 20))) q11))) (q13 5)) (m5 (t8 (W6 (q10 (v5 (q10 (b8 1) (q10 (b8 1) q11))) (q10 (v5 (q10 (b8 1) (q10 (cE .non) q11))) (q10 (v5 (q10 (cE .non) (q10 (b8 4) q11))) (q10 (v5 (q10 (b8 5) (q10 (cE .non) q11))) (q10 (v5 (q10 (cE .non) (q10 (cE .non) q11))) q11)))))) (q13 6)) (t6 (d9 W5 (v5 (q10 (v5 (q10 (d9 ixD (b8 6) (q12 (fnX 2 g8) (q10 (b8 0) (q10 (cE (.int 5)) q11)))) q11)) q11)) (X3 (b8 2) (aE1 (cE (.int 1))) (Z4))))))) u9) (m5 (t8 (X3 (d9 W5 (b8 1) (cE (.str ("a" :Str)))) (Z4) (aE1 (cE (.int 30)))) (q13 7)) (m5 (t8 (W6 (q10 (v5 (q10 (cE (.str ("of" :Str))) (q10 (v5 (q10 (b8 1) q11)) q11))) (q10 (v5 (q10 (cE (.str ("but" :Str))) (q10 (v5 (q10 (b8 1) q11)) q11))) (q10 (v5 (q10 (cE (.str ("but" :Str))) (q10 (v5 q11) q11))) (q10 (v5 (q10 (cE (.str ("of" :Str))) (q10 (v5 (q10 (b8 7) q11)) q11))) q11))))) (q13 8)) (t6 (d9 W5 (d9 W5 (X3 (b8 2) (Z4) (aE1 (cE (.int 1)))) (v5 (q10 (d9 ixD (b8 8) (q12 (fnX 2 g8) (q10 (b8 0) (q10 (cE (.int 4)) q11)))) q11))) (X3 (b8 2) (aE1 (cE (.int 2))) (Z4))))))))
def M5:List D->M D:=J7 9 aB2
def OB(R:List D->M D):Fs:=(m5 (t8 (q12 (fnX 2 R) (q10 (b8 0) (q10 (b8 5) q11))) (q13 6)) (m5 (t8 (d9 gtD (q12 (fnX 2 g8) (q10 (b8 0) (q10 (cE (.int 3)) q11))) (cE (.int 0))) (q13 7)) (ifS (aQ4 (o6 (d9 gtD (q12 (fnX 2 g8) (q10 (b8 0) (q10 (cE (.int 5)) q11))) (cE (.int 0)))) (orT (J8 (b8 7)) (o6 (d9 neD (b8 6) (b8 2))))) (aQ1 (mtE V7 aC1 (b8 3) (q10 (v5 (q10 (b8 4) (q10 (b8 7) (q10 (b8 6) q11)))) q11))) u9)))
def OZ:Fs:=(ifS (aQ4 (o6 (d9 eqD (q12 (fnX 2 g8) (q10 (b8 0) (q10 (cE (.int 5)) q11))) (cE (.int 4)))) (o6 (d9 eqD (Q6 (itW (b8 1)) [none,none] (aE0 2 (w6 (q13 0) (w6 (q13 1) (aF6)))) (o6 (d9 eqD (b8 0) (cE (.str ("zzzzzzzz" :Str))))) (b8 0)) (W6 q11)))) (aQ1 (mtE V7 aC1 (b8 3) (q10 (v5 (q10 (cE (.str ("zzzzzzzz" :Str))) (q10 (d9 eqD (q12 (fnX 2 g8) (q10 (b8 0) (q10 (cE (.int 2)) q11))) (cE (.int 1))) (q10 (v5 (q10 (v5 q11) (q10 (v5 (q10 (cE (.str ("but" :Str))) (q10 (v5 q11) q11))) (q10 (v5 q11) (q10 (cE .non) (q10 (cE .non) q11)))))) q11)))) q11))) u9)
def aA7(R:List D->M D):Fs:=m5 (t8 (d9 ixD (W6 (q10 (cE (.str ("any" :Str))) (q10 (v5 (q10 (v5 q11) (q10 (v5 (q10 (cE (.str ("of" :Str))) (q10 (v5 q11) q11))) (q10 (v5 q11) (q10 (cE .non) (q10 (cE .non) q11)))))) q11))) (q12 (fnX 2 g8) (q10 (b8 0) (q10 (cE (.int 2)) q11)))) (q13 2)) (m5 (t8 (W6 q11) (q13 3)) (m5 (aS5 (itW (b8 1)) (aE0 2 (w6 (q13 4) (w6 (q13 5) (aF6)))) (OB R)) (m5 OZ (t6 (v5 (q10 (q12 aD9 (q10 (b8 3) q11)) (q10 (b8 2) q11)))))))
def T6(R:List D->M D):List D->M D:=J7 8 (aA7 R)
def aH9(R:List D->M D):Fs:=m5 (t8 (q12 (fnX 2 g8) (q10 (b8 0) (q10 (cE (.int 9)) q11))) (q13 2)) (m5 (ifS (o6 (d9 eqD (b8 2) (cE (.int 8)))) (t6 (cE (.str ("any" :Str)))) u9) (m5 (ifS (J8 (q12 v7 (q10 (b8 1) (q10 (v5 (q10 (cE (.ty "int")) (q10 (cE (.ty "str")) q11))) q11)))) (t6 (q12 (fnX 2 M5) (q10 (b8 0) (q10 (b8 1) q11)))) u9) (m5 (t8 (d9 ixD (W6 (q10 (v5 q11) (q10 (v5 (q10 (v5 (q10 (cE (.int 0)) (q10 (cE (.int 5)) q11))) q11)) (q10 (v5 (q10 (v5 (q10 (cE .non) (q10 (cE .non) q11))) q11)) q11)))) (d9 aU1 (b8 2) (cE (.int 3)))) (q13 3)) (m5 (ifS (o6 (d9 eqD (d9 ixD (b8 1) (cE (.int 0))) (cE (.str ("record" :Str))))) (t6 (v5 (q10 (b8 3) (q10 (v5 (q10 (cE (.str ("of" :Str))) (q10 (v5 q11) q11))) (q10 (v5 q11) (q10 (cE .non) (q10 (q12 (fnX 2 (T6 R)) (q10 (b8 0) (q10 (d9 ixD (b8 1) (cE (.int 1))) q11))) q11))))))) u9) (m5 (t8 (Q6 (itW (d9 ixD (b8 1) (cE (.int 1)))) [none,some 0] (q13 0) (W0) (q12 (fnX 2 R) (q10 (b8 1) (q10 (b8 0) q11)))) (q13 4)) (m5 (t8 (d9 ixD (W6 (q10 (cE (.str ("any" :Str))) (q10 (v5 (q10 (v5 q11) (q10 (v5 (q10 (cE (.str ("of" :Str))) (q10 (v5 q11) q11))) (q10 (v5 q11) (q10 (cE .non) (q10 (cE .non) q11)))))) q11))) (d9 aU1 (b8 2) (cE (.int 2)))) (q13 5)) (t6 (v5 (q10 (b8 3) (q10 (v5 (q10 (cE (.str ("of" :Str))) (q10 (v5 q11) q11))) (q10 (v5 q11) (q10 (v5 (q10 (q12 aD9 (q10 (X3 (b8 4) (Z4) (aE1 (d9 bB0 (q12 aD4 (q10 (b8 4) q11)) (d9 aT9 (b8 2) (cE (.int 5)))))) q11)) (q10 (b8 5) q11))) (q10 (cE .non) q11)))))))))))))
def aN5:Nat->List D->M D
 |0=>λ_=>M.stuck
 |n+1=>J7 6 (aH9 (aN5 n))
def aE5:List D->M D:=aN5 60
def bD3:List D->M D:=T6 aE5
def aG6:Fs:=t6 (aF8 (q12 v7 (q10 (b8 0) (q10 (cE (.ty "int")) q11))) (bI3 (q12 v7 (q10 (b8 0) (q10 (cE (.ty "bool")) q11)))))
def K3:List D->M D:=J7 1 aG6
def aC9:Fs:=m5 (t8 (q12 (fnX 2 Z1) (q10 (b8 0) (q10 (b8 3) q11))) (q13 4)) (m5 (ifS (o6 (d9 eqD (q12 (fnX 2 g8) (q10 (b8 0) (q10 (cE (.int 4)) q11))) (cE (.int 0)))) (t8 (b8 2) (q13 4)) u9) (m5 (t8 (q12 (fnX 2 K7) (q10 (b8 1) (q10 (b8 2) q11))) (q13 5)) (m5 (t8 (q12 (fnX 2 K7) (q10 (b8 1) (q10 (b8 4) q11))) (q13 6)) (m5 (t8 (d9 ixD (W6 (q10 (cE (.int 0)) (q10 (cE (.int 0)) (q10 (cE (.int 0)) (q10 (cE (.int 1)) (q10 (q12 (fnX 1 N6) (q10 (b8 0) q11)) q11)))))) (q12 (fnX 2 g8) (q10 (b8 0) (q10 (cE (.int 5)) q11)))) (q13 7)) (m5 (ifS (aQ4 (o6 (d9 neD (b8 5) (v5 q11))) (aQ4 (o6 (d9 neD (b8 6) (v5 q11))) (aQ4 (J8 (q12 (fnX 1 K3) (q10 (d9 ixD (b8 5) (cE (.int 0))) q11))) (J8 (q12 (fnX 1 K3) (q10 (d9 ixD (b8 6) (cE (.int 0))) q11)))))) (t8 (d9 W5 (d9 bB0 (d9 ixD (b8 5) (cE (.int 0))) (d9 ixD (b8 6) (cE (.int 0)))) (d9 ixD (W6 (q10 (cE (.int 0)) (q10 (cE (.int 0)) (q10 (cE (.int 1)) (q10 (unE cE8 (d9 ixD (b8 5) (cE (.int 0)))) q11))))) (q12 (fnX 2 g8) (q10 (b8 0) (q10 (cE (.int 4)) q11))))) (q13 7)) u9) (t6 (v5 (q10 (cE (.str ("same" :Str))) (q10 (b8 2) (q10 (b8 4) (q10 (q12 cP3 (q10 (q12 bW7 (q10 (b8 7) (q10 (d9 aW2 (cE (.int 10)) (cE (.int 20))) q11))) (q10 (unE cE8 (d9 aW2 (cE (.int 10)) (cE (.int 20)))) q11))) q11)))))))))))
def T9:List D->M D:=J7 8 aC9
def aC6:Fs:=m5 (t8 (Q6 (aC0 (q10 (q12 (fnX 2 g8) (q10 (b8 0) (q10 (cE (.int 4)) q11))) q11)) [none,some 0,some 3] (q13 0) (W0) (d9 ixD (b8 2) (q12 (fnX 2 g8) (q10 (b8 1) (q10 (q12 aD4 (q10 (b8 2) q11)) q11))))) (q13 4)) (m5 (ifS (aQ4 (o6 (d9 neD (b8 1) (v5 q11))) (aQ4 (J8 (q12 v7 (q10 (d9 ixD (b8 1) (cE (.int 0))) (q10 (cE (.ty "tuple")) q11)))) (o6 (d9 eqD (d9 ixD (d9 ixD (b8 1) (cE (.int 0))) (cE (.int 0))) (cE (.str ("record" :Str))))))) (t8 (d9 W5 (b8 4) (Q6 (itW (d9 ixD (d9 ixD (b8 1) (cE (.int 0))) (cE (.int 1)))) [none,none] (aE0 2 (w6 (q13 0) (w6 (q13 1) (aF6)))) (W0) (b8 0))) (q13 4)) u9) (m5 (t8 (cA9 (b8 4)) (q13 4)) (m5 (t8 (q12 (fnX 2 g8) (q10 (b8 0) (q10 (d9 W5 (q12 aD4 (q10 (b8 4) q11)) (cE (.int 2))) q11))) (q13 5)) (t6 (v5 (q10 (cE (.str ("only" :Str))) (q10 (b8 2) (q10 (q12 aD9 (q10 (d9 W5 (X3 (b8 4) (Z4) (aE1 (b8 5))) (X3 (b8 4) (aE1 (d9 W5 (b8 5) (cE (.int 1)))) (Z4))) q11)) q11))))))))
def U0:List D->M D:=J7 6 aC6
def aL1:Fs:=m5 (t8 (q12 (fnX 2 g8) (q10 (b8 0) (q10 (cE (.int 6)) q11))) (q13 3)) (m5 (t8 (q12 (fnX 2 Z1) (q10 (b8 0) (q10 (b8 2) q11))) (q13 4)) (m5 (t8 (q12 (fnX 2 K7) (q10 (b8 1) (q10 (b8 4) q11))) (q13 5)) (m5 (ifS (o6 (d9 inD (b8 3) (v5 (q10 (cE (.int 2)) (q10 (cE (.int 3)) q11))))) (t6 (q12 (fnX 4 T9) (q10 (b8 0) (q10 (b8 1) (q10 (b8 4) (q10 (b8 2) q11)))))) u9) (m5 (ifS (o6 (d9 eqD (b8 3) (cE (.int 4)))) (t6 (q12 (fnX 4 U0) (q10 (b8 0) (q10 (b8 5) (q10 (b8 4) (q10 (b8 2) q11)))))) u9) (m5 (t8 (q12 (fnX 2 aE5) (q10 (b8 0) (q10 (q12 (fnX 3 aF1) (q10 (b8 0) (q10 (b8 2) (q10 (cE (.int 2)) q11)))) q11))) (q13 6)) (m5 (ifS (aQ4 (o6 (d9 neD (b8 5) (v5 q11))) (o6 (d9 gtD (q12 (fnX 2 g8) (q10 (b8 0) (q10 (cE (.int 5)) q11))) (cE (.int 0))))) (t8 (q12 (fnX 2 aE5) (q10 (b8 0) (q10 (d9 ixD (b8 5) (cE (.int 0))) q11))) (q13 6)) u9) (t6 (v5 (q10 (d9 ixD (W6 (q10 (cE (.str ("in" :Str))) (q10 (cE (.str ("wish" :Str))) q11))) (d9 aT9 (b8 3) (cE (.int 5)))) (q10 (b8 4) (q10 (b8 6) q11)))))))))))
def aB9:List D->M D:=J7 7 aL1
def aY0:Fs:=t6 (aF8 (q12 v7 (q10 (b8 0) (q10 (cE (.ty "tuple")) q11))) (d9 eqD (d9 ixD (b8 0) (cE (.int 0))) (cE (.str ("record" :Str)))))
def Z2:List D->M D:=J7 1 aY0
def AB:Fs:=(m5 (t8 (ifE (J8 (q12 (fnX 1 Z2) (q10 (b8 2) q11))) (q12 aP1 (q10 (d9 ixD (b8 2) (cE (.int 1))) q11)) (aX9)) (q13 4)) (m5 (ifS (o6 (d9 bB7 (b8 3) (b8 4))) (t6 (v5 q11)) u9) (t8 (d9 ixG (b8 4) (b8 3)) (q13 2))))
def bJ6:Fs:=m5 (t8 (b8 0) (q13 2)) (m5 (aS5 (itW (b8 1)) (q13 3) AB) (t6 (v5 (q10 (b8 2) q11))))
def aE4:List D->M D:=J7 5 bJ6
def bQ0:Fs:=t6 (aF8 (d9 cY6 (b8 0) (cE .non)) (aF8 (d9 cY6 (b8 1) (cE .non)) (d9 gtD (b8 0) (b8 1))))
def aG4:List D->M D:=J7 2 bQ0
def aR3:Fs:=t6 (aF8 (bI3 (q12 (fnX 2 aG4) (q10 (b8 1) (q10 (b8 0) q11)))) (bI3 (q12 (fnX 2 aG4) (q10 (b8 0) (q10 (b8 2) q11)))))
def U3:List D->M D:=J7 3 aR3
def bC4:Fs:=t6 (ifE (o6 (d9 ltD (b8 1) (q12 aD4 (q10 (d9 ixD (b8 0) (cE (.int 0))) q11)))) (d9 ixD (d9 ixD (b8 0) (cE (.int 0))) (b8 1)) (d9 ixD (b8 0) (cE (.int 1))))
def Z5:List D->M D:=J7 2 bC4
def aG0:Fs:=t6 (q12 aP1 (q10 (Q6 (itW (d9 ixD (b8 0) (cE (.int 0)))) [none,none,none] (aE0 3 (w6 (q13 0) (w6 (q13 1) (w6 (q13 2) (aF6))))) (W0) (v5 (q10 (b8 0) (q10 (v5 (q10 (b8 1) (q10 (b8 2) q11))) q11)))) q11))
def K9:List D->M D:=J7 1 aG0
def bC7:Fs:=t6 (mtE aZ1 getD (b8 0) (q10 (b8 2) (q10 (v5 (q10 (cE (.bl false)) (q10 (b8 1) q11))) q11)))
def Z9:List D->M D:=J7 3 bC7
def aM9(R:List D->M D):Fs:=m5 (ifS (orT (o6 (d9 bD8 (b8 1) (cE .non))) (o6 (d9 ltD (q12 aD4 (q10 (b8 0) q11)) (q12 aD4 (q10 (d9 ixD (b8 1) (cE (.int 0))) q11))))) (t6 (cE (.bl false))) u9) (t6 (q12 cG5 (q10 (Q6 (bO7 (q10 (b8 0) q11)) [none,none,some 1] (aE0 2 (w6 (q13 0) (w6 (q13 1) (aF6)))) (W0) (q12 (fnX 2 R) (q10 (b8 1) (q10 (q12 (fnX 2 Z5) (q10 (b8 2) (q10 (b8 0) q11))) q11)))) q11)))
def V0(R:List D->M D):List D->M D:=J7 2 (aM9 R)
def RA:Fs:=(ifS (bH8 (J8 (q12 cG5 (q10 (Q6 (itW (d9 ixD (b8 1) (cE (.int 0)))) [none,none,none,some 2] (aE0 3 (w6 (q13 0) (w6 (q13 1) (w6 (q13 2) (aF6))))) (W0) (dR9 (d9 inD (b8 0) (b8 3)) (bI3 (b8 1)))) q11)))) (t6 (cE (.bl false))) u9)
def RZ(R:List D->M D):Fs:=(t6 (q12 cG5 (q10 (Q6 (itW (b8 0)) [none,none,some 1,some 3] (aE0 2 (w6 (q13 0) (w6 (q13 1) (aF6)))) (W0) (q12 (fnX 2 R) (q10 (b8 1) (q10 (d9 ixD (q12 (fnX 3 Z9) (q10 (b8 3) (q10 (d9 ixD (b8 2) (cE (.int 1))) (q10 (b8 0) q11)))) (cE (.int 1))) q11)))) q11)))
def aC3(R:List D->M D):Fs:=m5 (ifS (o6 (d9 bD8 (b8 1) (cE .non))) (t6 (cE (.bl false))) u9) (m5 (t8 (q12 aP1 (q10 (b8 0) q11)) (q13 2)) (m5 RA (m5 (t8 (q12 (fnX 1 K9) (q10 (b8 1) q11)) (q13 3)) (RZ R))))
def R4(R:List D->M D):List D->M D:=J7 4 (aC3 R)
def aP6(R:List D->M D):Fs:=m5 (ifS (o6 (d9 eqD (b8 1) (cE (.str ("any" :Str))))) (t6 (cE (.bl true))) u9) (m5 (ifS (J8 (q12 v7 (q10 (b8 0) (q10 (cE (.ty "bool")) q11)))) (t6 (d9 inD (b8 0) (d9 ixD (b8 1) (cE (.int 2))))) u9) (m5 (ifS (J8 (q12 v7 (q10 (b8 0) (q10 (cE (.ty "int")) q11)))) (t6 (q12 dE8 (q10 (Q6 (itW (d9 ixD (b8 1) (cE (.int 0)))) [none,none,some 0] (aE0 2 (w6 (q13 0) (w6 (q13 1) (aF6)))) (W0) (q12 (fnX 3 U3) (q10 (b8 2) (q10 (b8 0) (q10 (b8 1) q11))))) q11))) u9) (m5 (ifS (J8 (q12 v7 (q10 (b8 0) (q10 (cE (.ty "str")) q11)))) (t6 (d9 eqD (d9 inD (b8 0) (d9 ixD (d9 ixD (b8 1) (cE (.int 1))) (cE (.int 1)))) (d9 eqD (d9 ixD (d9 ixD (b8 1) (cE (.int 1))) (cE (.int 0))) (cE (.str ("of" :Str)))))) u9) (m5 (ifS (o6 (d9 eqD (d9 ixD (b8 0) (cE (.int 0))) (cE (.str ("list" :Str))))) (t6 (q12 (fnX 2 (V0 R)) (q10 (d9 ixD (b8 0) (cE (.int 1))) (q10 (d9 ixD (b8 1) (cE (.int 3))) q11)))) u9) (t6 (q12 (fnX 2 (R4 R)) (q10 (d9 ixD (b8 0) (cE (.int 1))) (q10 (d9 ixD (b8 1) (cE (.int 4))) q11))))))))
def aY8:Nat->List D->M D
 |0=>λ_=>M.stuck
 |n+1=>J7 2 (aP6 (aY8 n))
def aH1:List D->M D:=aY8 60
def bU5:List D->M D:=V0 aH1
def bJ0:List D->M D:=R4 aH1
def aR5:Fs:=t6 (Q6 (itW (b8 0)) [none] (q13 0) (W0) (d9 ixD (b8 0) (cE (.int 0))))
def Z7:List D->M D:=J7 1 aR5
def aS2:Fs:=t6 (aF8 (q12 (fnX 1 Z2) (q10 (b8 0) q11)) (q12 cG5 (q10 (Q6 (itW (q12 (fnX 1 Z7) (q10 (d9 ixD (b8 0) (cE (.int 1))) q11))) [none,some 1] (q13 0) (W0) (d9 inD (b8 0) (b8 1))) q11)))
def aR2:List D->M D:=J7 2 aS2
def aL7:Fs:=t6 (v5 (q10 (q12 dH3 (q10 (b8 0) q11)) (q10 (d9 ltD (b8 0) (cE (.int 0))) q11)))
def aB3:List D->M D:=J7 1 aL7
def aS8:Fs:=t6 (v5 (q10 (q12 aD4 (q10 (b8 0) q11)) (q10 (b8 0) q11)))
def aE8:List D->M D:=J7 1 aS8
def bJ7:Fs:=m5 (ifS (J8 (q12 v7 (q10 (b8 0) (q10 (cE (.ty "bool")) q11)))) (t6 (v5 (q10 (cE (.int 2)) (q10 (b8 0) q11)))) u9) (m5 (ifS (J8 (q12 v7 (q10 (b8 0) (q10 (cE (.ty "int")) q11)))) (t6 (v5 (q10 (cE (.int 0)) (q10 (q12 (fnX 1 aB3) (q10 (b8 0) q11)) q11)))) u9) (m5 (ifS (J8 (q12 v7 (q10 (b8 0) (q10 (cE (.ty "str")) q11)))) (t6 (v5 (q10 (cE (.int 1)) (q10 (q12 (fnX 1 aE8) (q10 (b8 0) q11)) q11)))) u9) (m5 (ifS (o6 (d9 eqD (d9 ixD (b8 0) (cE (.int 0))) (cE (.str ("list" :Str))))) (t6 (v5 (q10 (cE (.int 3)) (q10 (q12 aD4 (q10 (d9 ixD (b8 0) (cE (.int 1))) q11)) q11)))) u9) (t6 (v5 (q10 (cE (.int 4)) (q10 (q12 aD4 (q10 (d9 ixD (b8 0) (cE (.int 1))) q11)) (q10 (q12 (fnX 1 Z7) (q10 (d9 ixD (b8 0) (cE (.int 1))) q11)) q11))))))))
def aK8:List D->M D:=J7 1 bJ7
def aN0:Fs:=m5 (ifS (J8 (q12 v7 (q10 (b8 0) (q10 (v5 (q10 (cE (.ty "int")) (q10 (cE (.ty "str")) q11))) q11)))) (t6 (W6 q11)) u9) (m5 (ifS (o6 (d9 eqD (d9 ixD (b8 0) (cE (.int 0))) (cE (.str ("list" :Str))))) (t6 (q12 bX9 (q10 (d9 ixD (b8 0) (cE (.int 1))) q11))) u9) (t6 (Q6 (itW (d9 ixD (b8 0) (cE (.int 1)))) [none] (q13 0) (W0) (d9 ixD (b8 0) (cE (.int 1))))))
def X8:List D->M D:=J7 1 aN0
def WB:Fs:=(m5 (t8 (mtE V7 eC5 (b8 2) q11) (q13 3)) (m5 (aQ1 (mtE V7 aC1 (b8 1) (q10 (q12 (fnX 1 aK8) (q10 (b8 3) q11)) q11))) (aQ1 (mtE V7 bO5 (b8 2) (q10 (unE cA5 (q12 (fnX 1 X8) (q10 (b8 3) q11))) q11)))))
def aP0:Fs:=m5 (t8 (W6 q11) (q13 1)) (m5 (t8 (W6 (q10 (b8 0) q11)) (q13 2)) (m5 (aR7 (J8 (b8 2)) WB) (t6 (b8 1))))
def W8:List D->M D:=J7 4 aP0
def aS4:Fs:=t6 (d9 eqD (q12 (fnX 1 W8) (q10 (b8 0) q11)) (q12 (fnX 1 W8) (q10 (b8 1) q11)))
def aC2:List D->M D:=J7 2 aS4
def bB3:Fs:=t6 (aF8 (q12 v7 (q10 (b8 0) (q10 (cE (.ty "int")) q11))) (bI3 (q12 v7 (q10 (b8 0) (q10 (cE (.ty "bool")) q11)))))
def aG3:List D->M D:=J7 1 bB3
def aV1:Fs:=m5 (ifS (o6 (d9 eqD (b8 2) (cE (.int 0)))) (t6 (q12 (fnX 2 aC2) (q10 (b8 0) (q10 (b8 1) q11)))) u9) (t6 (aF8 (q12 (fnX 1 aG3) (q10 (b8 0) q11)) (aF8 (q12 (fnX 1 aG3) (q10 (b8 1) q11)) (d9 eqD (b8 0) (d9 W5 (b8 1) (b8 2))))))
def aI8:List D->M D:=J7 3 aV1
def FUa:Fs:=(ifS (o6 (d9 eqD (d9 ixD (b8 1) (cE (.int 0))) (cE (.str ("in" :Str))))) (t6 (q12 (fnX 2 aH1) (q10 (d9 ixD (b8 2) (cE (.int 0))) (q10 (d9 ixD (b8 1) (cE (.int 2))) q11)))) u9)
def FUb:Fs:=(ifS (o6 (d9 eqD (d9 ixD (b8 1) (cE (.int 0))) (cE (.str ("only" :Str))))) (t6 (q12 (fnX 2 aR2) (q10 (d9 ixD (b8 2) (cE (.int 0))) (q10 (d9 ixD (b8 1) (cE (.int 2))) q11)))) u9)
def FUc:Fs:=(ifS (o6 (d9 eqD (d9 ixD (b8 1) (cE (.int 0))) (cE (.str ("same" :Str))))) (m5 (t8 (q12 (fnX 2 aE4) (q10 (b8 0) (q10 (d9 ixD (b8 1) (cE (.int 2))) q11))) (q13 3)) (t6 (aF8 (d9 neD (b8 3) (v5 q11)) (q12 (fnX 3 aI8) (q10 (d9 ixD (b8 2) (cE (.int 0))) (q10 (d9 ixD (b8 3) (cE (.int 0))) (q10 (d9 ixD (b8 1) (cE (.int 3))) q11))))))) u9)
def FU2:Fs:=m5 FUa (m5 FUb (m5 FUc (t6 (cE (.bl true)))))
def aY5:Fs:=m5 (t8 (q12 (fnX 2 aE4) (q10 (b8 0) (q10 (d9 ixD (b8 1) (cE (.int 1))) q11))) (q13 2)) (m5 (ifS (o6 (d9 eqD (b8 2) (v5 q11))) (t6 (cE (.bl false))) u9) FU2)
def aK7:List D->M D:=J7 4 aY5
def ZA:Fs:=(t8 (Q6 (itW (d9 ixD (b8 0) (cE (.int 1)))) [none,none] (aE0 2 (w6 (q13 0) (w6 (q13 1) (aF6)))) (W0) (b8 0)) (q13 3))
def aF4(R:List D->M D):Fs:=m5 ZA (m5 (t8 (q12 aP1 (q10 (Q6 (itW (b8 1)) [none,none,none] (aE0 3 (w6 (q13 0) (w6 (q13 1) (w6 (q13 2) (aF6))))) (W0) (v5 (q10 (b8 0) (q10 (b8 2) q11)))) q11)) (q13 4)) (m5 (ifS (o6 (d9 neD (Q6 (itW (b8 1)) [none,none,none,some 3] (aE0 3 (w6 (q13 0) (w6 (q13 1) (w6 (q13 2) (aF6))))) (aQ4 (J8 (b8 1)) (o6 (d9 bB7 (b8 0) (b8 3)))) (b8 0)) (W6 q11))) (t6 (cE (.bl false))) u9) (t6 (d9 eqD (Q6 (itW (d9 ixD (b8 0) (cE (.int 1)))) [none,none,some 4,some 2] (aE0 2 (w6 (q13 0) (w6 (q13 1) (aF6)))) (bH8 (J8 (q12 (fnX 2 R) (q10 (b8 1) (q10 (mtE aZ1 getD (b8 2) (q10 (b8 0) (q10 (b8 3) q11))) q11))))) (b8 0)) (W6 q11)))))
def T3(R:List D->M D):List D->M D:=J7 5 (aF4 R)
def YL:Fs:=(t8 (d9 W5 (q12 bX9 (q10 (d9 ixD (b8 5) (cE (.int 0))) q11)) (Q6 (aC0 (q10 (d9 bB0 (q12 aD4 (q10 (d9 ixD (b8 0) (cE (.int 1))) q11)) (q12 aD4 (q10 (d9 ixD (b8 5) (cE (.int 0))) q11))) q11)) [none,some 5] (q13 0) (W0) (d9 ixD (b8 1) (cE (.int 1))))) (q13 8))
def YR(R:List D->M D):Fs:=(t6 (d9 eqD (Q6 (aC0 (q10 (q12 aD4 (q10 (b8 8) q11)) q11)) [none,some 8,some 0] (q13 0) (bH8 (J8 (q12 (fnX 2 R) (q10 (d9 ixD (d9 ixD (b8 2) (cE (.int 1))) (b8 0)) (q10 (d9 ixD (b8 1) (b8 0)) q11))))) (b8 0)) (W6 q11)))
def aP9(R:List D->M D):Fs:=m5 (ifS (o6 (d9 eqD (b8 1) (cE (.str ("any" :Str))))) (t6 (cE (.bl true))) u9) (m5 (t8 (b8 1) (aE0 5 (w6 (q13 2) (w6 (q13 3) (w6 (q13 4) (w6 (q13 5) (w6 (q13 6) (aF6)))))))) (m5 (ifS (J8 (q12 v7 (q10 (b8 0) (q10 (cE (.ty "bool")) q11)))) (t6 (d9 inD (b8 0) (b8 4))) u9) (m5 (ifS (J8 (q12 v7 (q10 (b8 0) (q10 (cE (.ty "int")) q11)))) (m5 (t8 (Q6 (itW (b8 2)) [none,some 0] (q13 0) (orT (o6 (d9 bD8 (d9 ixD (b8 0) (cE (.int 0))) (cE .non))) (o6 (d9 leD (d9 ixD (b8 0) (cE (.int 0))) (b8 1)))) (b8 0)) (q13 7)) (t6 (d9 neD (Q6 (itW (b8 7)) [none,some 0] (q13 0) (orT (o6 (d9 bD8 (d9 ixD (b8 0) (cE (.int 1))) (cE .non))) (o6 (d9 leD (b8 1) (d9 ixD (b8 0) (cE (.int 1)))))) (b8 0)) (W6 q11)))) u9) (m5 (ifS (J8 (q12 v7 (q10 (b8 0) (q10 (cE (.ty "str")) q11)))) (t6 (d9 eqD (d9 inD (b8 0) (d9 ixD (b8 3) (cE (.int 1)))) (d9 eqD (d9 ixD (b8 3) (cE (.int 0))) (cE (.str ("of" :Str)))))) u9) (m5 (ifS (o6 (d9 eqD (d9 ixD (b8 0) (cE (.int 0))) (cE (.str ("record" :Str))))) (t6 (aF8 (d9 cY6 (b8 6) (cE .non)) (q12 (fnX 3 (T3 R)) (q10 (b8 0) (q10 (d9 ixD (b8 6) (cE (.int 0))) (q10 (d9 ixD (b8 6) (cE (.int 1))) q11)))))) u9) (m5 (ifS (orT (o6 (d9 bD8 (b8 5) (cE .non))) (o6 (d9 ltD (q12 aD4 (q10 (d9 ixD (b8 0) (cE (.int 1))) q11)) (q12 aD4 (q10 (d9 ixD (b8 5) (cE (.int 0))) q11))))) (t6 (cE (.bl false))) u9) (m5 YL (YR R))))))))
def aY3:Nat->List D->M D
 |0=>λ_=>M.stuck
 |n+1=>J7 9 (aP9 (aY3 n))
def aR0:List D->M D:=aY3 60
def bD0:List D->M D:=T3 aR0
def aI7(R:List D->M D):Fs:=m5 (ifS (o6 (d9 bD8 (b8 1) (cE .non))) (t6 (d9 bD8 (b8 0) (cE .non))) u9) (m5 (ifS (J8 (q12 v7 (q10 (b8 1) (q10 (cE (.ty "bool")) q11)))) (t6 (aF8 (q12 v7 (q10 (b8 0) (q10 (cE (.ty "bool")) q11))) (d9 eqD (b8 0) (b8 1)))) u9) (m5 (ifS (J8 (q12 v7 (q10 (b8 1) (q10 (cE (.ty "int")) q11)))) (t6 (aF8 (q12 v7 (q10 (b8 0) (q10 (cE (.ty "int")) q11))) (aF8 (bI3 (q12 v7 (q10 (b8 0) (q10 (cE (.ty "bool")) q11)))) (d9 eqD (b8 0) (b8 1))))) u9) (m5 (ifS (J8 (q12 v7 (q10 (b8 1) (q10 (cE (.ty "str")) q11)))) (t6 (aF8 (q12 v7 (q10 (b8 0) (q10 (cE (.ty "str")) q11))) (d9 eqD (b8 0) (b8 1)))) u9) (m5 (ifS (orT (bH8 (J8 (q12 v7 (q10 (b8 0) (q10 (cE (.ty "tuple")) q11))))) (o6 (d9 neD (q12 aD4 (q10 (b8 0) q11)) (q12 aD4 (q10 (b8 1) q11))))) (t6 (cE (.bl false))) u9) (m5 (aS5 (cK6 (q10 (b8 0) (q10 (b8 1) q11))) (aE0 2 (w6 (q13 2) (w6 (q13 3) (aF6)))) (ifS (bH8 (J8 (q12 (fnX 2 R) (q10 (b8 2) (q10 (b8 3) q11))))) (t6 (cE (.bl false))) u9)) (t6 (cE (.bl true))))))))
def aB7:Nat->List D->M D
 |0=>λ_=>M.stuck
 |n+1=>J7 4 (aI7 (aB7 n))
def aX8:List D->M D:=aB7 60
def DUa:Fs:=(ifS (o6 (d9 eqD (d9 ixD (b8 1) (cE (.int 0))) (cE (.str ("in" :Str))))) (t6 (q12 (fnX 2 aR0) (q10 (d9 ixD (b8 2) (cE (.int 0))) (q10 (d9 ixD (b8 1) (cE (.int 2))) q11)))) u9)
def DUb:Fs:=(ifS (o6 (d9 eqD (d9 ixD (b8 1) (cE (.int 0))) (cE (.str ("wish" :Str))))) (t6 (cE (.bl true))) u9)
def eY2:Fs:=(ifS (orT (bH8 (J8 (q12 v7 (q10 (d9 ixD (b8 2) (cE (.int 0))) (q10 (cE (.ty "tuple")) q11))))) (o6 (d9 neD (d9 ixD (d9 ixD (b8 2) (cE (.int 0))) (cE (.int 0))) (cE (.str ("record" :Str)))))) (t6 (cE (.bl false))) u9)
def eW7:Fs:=(t6 (d9 eqD (Q6 (itW (d9 ixD (d9 ixD (b8 2) (cE (.int 0))) (cE (.int 1)))) [none,none,some 1] (aE0 2 (w6 (q13 0) (w6 (q13 1) (aF6)))) (o6 (d9 bB7 (b8 0) (d9 ixD (b8 2) (cE (.int 2))))) (b8 0)) (W6 q11)))
def DUc:Fs:=(ifS (o6 (d9 eqD (d9 ixD (b8 1) (cE (.int 0))) (cE (.str ("only" :Str))))) (m5 eY2 eW7) u9)
def DUd:Fs:=(t8 (q12 (fnX 2 K7) (q10 (b8 0) (q10 (d9 ixD (b8 1) (cE (.int 2))) q11))) (q13 3))
def DUe:Fs:=(ifS (o6 (d9 eqD (b8 3) (v5 q11))) (t6 (cE (.bl false))) u9)
def DUf:Fs:=(ifS (o6 (d9 eqD (d9 ixD (b8 1) (cE (.int 3))) (cE (.int 0)))) (t6 (q12 (fnX 2 aX8) (q10 (d9 ixD (b8 3) (cE (.int 0))) (q10 (d9 ixD (b8 2) (cE (.int 0))) q11)))) u9)
def DUg:Fs:=(ifS (orT (bH8 (J8 (q12 (fnX 1 K3) (q10 (d9 ixD (b8 2) (cE (.int 0))) q11)))) (bH8 (J8 (q12 (fnX 1 K3) (q10 (d9 ixD (b8 3) (cE (.int 0))) q11))))) (t6 (cE (.bl false))) u9)
def DUh:Fs:=(t6 (d9 eqD (d9 ixD (b8 2) (cE (.int 0))) (d9 W5 (d9 ixD (b8 3) (cE (.int 0))) (d9 ixD (b8 1) (cE (.int 3))))))
def DU2:Fs:=m5 DUa (m5 DUb (m5 DUc (m5 DUd (m5 DUe (m5 DUf (m5 DUg DUh))))))
def aS3:Fs:=m5 (t8 (q12 (fnX 2 K7) (q10 (b8 0) (q10 (d9 ixD (b8 1) (cE (.int 1))) q11))) (q13 2)) (m5 (ifS (o6 (d9 eqD (b8 2) (v5 q11))) (t6 (cE (.bl false))) u9) DU2)
def aF9:List D->M D:=J7 4 aS3
def M1:Fs:=(t8 (q12 (fnX 3 aH4) (q10 (b8 1) (q10 (b8 2) (q10 (d9 ixD (W6 (q10 (cE (.int 5)) (q10 (cE (.int 2)) q11))) (q12 dT8 (q10 (d9 gtD (q12 aD4 (q10 (b8 2) q11)) (cE (.int 4))) q11))) q11)))) (q13 4))
def M2:Fs:=(m5 (t8 (q12 (fnX 3 aB9) (q10 (b8 1) (q10 (b8 4) (q10 (b8 2) q11)))) (q13 6)) (m5 (t8 (q12 (fnX 2 aK7) (q10 (b8 4) (q10 (b8 6) q11))) (q13 7)) (ifS (orT (bH8 (J8 (q12 v7 (q10 (b8 7) (q10 (cE (.ty "bool")) q11))))) (o6 (d9 neD (b8 7) (q12 (fnX 2 aF9) (q10 (b8 4) (q10 (b8 6) q11)))))) (t6 (cE (.bl false))) u9)))
def M3:Fs:=(t8 (d9 W5 (b8 3) (cE (.int 1))) (q13 3))
def MT:DSt->M Bool:=(orT (o6 (d9 eqD (b8 3) (cE (.int 0)))) (aQ4 (o6 (d9 neD (b8 1) (W6 q11))) (o6 (d9 ltD (b8 3) (cE (.int 8))))))
def MB:Fs:=m5 M1 (m5 (aS5 (aC0 (q10 (cE (.int 4)) q11)) (q13 5) M2) M3)
def cU5:Fs:=m5 (t8 (q12 (fnX 1 aA0) (q10 (b8 0) q11)) (q13 1)) (m5 (t8 (q12 (fnX 1 aB6) (q10 (b8 1) q11)) (q13 2)) (m5 (t8 (cE (.int 0)) (q13 3)) (m5 (aR7 MT MB) (t6 (cE (.bl true))))))
def cK3:List D->M D:=J7 8 cU5
local macro_rules | `(tactic| walk_at "cl") => `(tactic| (refine ⟨?k, ?kk, ?a, ?b, ?c⟩; (case a => first | (dsimp only [Cx.nox, cM3]; with_reducible assumption) | assumption); (case b => assumption); (case c => first | decide | omega)))
local macro_rules | `(tactic| walk_at "ck") => `(tactic| (refine ⟨?k, ?kk, ?kkk, ?a, ?b, ?c, ?d⟩; (case a => assumption); (case b => rfl); (case c => rfl); (case d => decide +kernel)))
local macro_rules | `(tactic| walk_at "od") => `(tactic| first
 |with_reducible exact eL1
 |with_reducible exact eU6
 |with_reducible exact eU4
 |with_reducible exact dZ8
 |with_reducible exact eH0
 |with_reducible exact eI0
 |with_reducible exact eZ6
 |with_reducible exact eZ1
 |with_reducible exact eY1
 |with_reducible exact eP3
 |with_reducible exact dG9
 |((with_reducible refine eZ3 ?_);exact aE6.units (by assumption))
 |((with_reducible refine fA0 ?_);exact aE6.units (by assumption))
 |((with_reducible refine fD2 ?_);exact aE6.units (by assumption))
 |((with_reducible refine eV7 ?_);exact aE6.units (by assumption))
 |((with_reducible refine dS1 ?_);exact aE6.units (by assumption)))
local macro_rules | `(tactic| walk_at "bd") => `(tactic| first
 |with_reducible exact eH5
 |with_reducible exact bV4
 |with_reducible exact eO9
 |with_reducible exact eK4
 |with_reducible exact dO6
 |with_reducible exact dZ3
 |with_reducible exact eS3
 |with_reducible exact eH8
 |with_reducible exact eO6
 |with_reducible exact eT3
 |with_reducible exact cR9
 |with_reducible exact eA5)
local macro_rules | `(tactic| walk_at "da") => `(tactic| first
 |with_reducible exact q16
 |((with_reducible refine fI6 ?_ ?_ ?_);walk_at "de";walk_at "da";rfl))
local macro_rules | `(tactic| walk_at "do") => `(tactic| first
 |with_reducible exact eD7
 |((with_reducible refine eA9 ?_);walk_at "de"))
local macro_rules | `(tactic| walk_at "pk") => `(tactic| first | exact eQ0 | ((apply eN6); walk_at "pk"; walk_at "pk"; (unfold bK2; decide); rfl) | ((apply eK5); walk_at "pk"; walk_at "pk"; rfl))
local macro_rules | `(tactic| walk_at "de") => `(tactic| first
 |with_reducible exact q17
 |with_reducible exact eX4
 |with_reducible exact eQ2
 |with_reducible exact eP9
 |((with_reducible refine fH6 _ ?_ ?_ ?_ ?_);rfl;(first|exact Or.inl rfl|exact Or.inr (Or.inl rfl)|exact Or.inr (Or.inr rfl));decide;decide)
 |((with_reducible refine eT1 ?_ ?_ ?_ ?_ ?_ ?_);assumption;decide;decide +kernel;rfl;decide;decide)
 |((with_reducible refine eP2 ?_ ?_ ?_);assumption;rfl;decide)
 |((with_reducible refine eW2 ?_ ?_ ?_);walk_at "od";walk_at "de";walk_at "de")
 |((with_reducible refine fD3 eN1 ?_);walk_at "de")
 |((with_reducible refine eR1 ?_);walk_at "de")
 |((with_reducible refine eR2 ?_ ?_ ?_ ?_);walk_at "od";walk_at "de";walk_at "de";with_unfolding_all rfl)
 |((with_reducible refine eJ1 ?_);walk_at "de")
 |((with_reducible refine dV4 ?_ ?_);walk_at "de";walk_at "de")
 |((with_reducible refine eR7 ?_ ?_);walk_at "de";walk_at "de")
 |((with_reducible refine fD6 ?_ ?_ ?_);walk_at "dt";walk_at "de";walk_at "de")
 |((with_reducible refine eU5 ?_);walk_at "da")
 |((with_reducible refine eR5 ?_);walk_at "da")
 |with_reducible exact dR1
 |((with_reducible refine dB9 ?_ ?_ ?_);walk_at "de";walk_at "do";walk_at "do")
 |((with_reducible refine eV4 ?_ ?_ ?_);walk_at "de";walk_at "de";exact λ_ _=>rfl)
 |((with_reducible refine eT7 ?_ ?_ ?_);walk_at "de";walk_at "de";exact λ_ _=>rfl)
 |((with_reducible refine eD1 ?_ ?_ ?_ ?_ ?_ ?_);walk_at "de";rfl;assumption;rfl;rfl;rfl)
 |((with_reducible refine dT4 ?_ ?_ ?_ ?_ ?_);walk_at "cl";rfl;walk_at "da";decide;rfl)
 |((with_reducible refine dE2 ?_ ?_ ?_ ?_ ?_ ?_);rfl;assumption;rfl;rfl;walk_at "de";rfl)
 |((with_reducible refine eG6 ?_ ?_ ?_ ?_ ?_ ?_ ?_ ?_ ?_);rfl;walk_at "bd";assumption;decide +kernel;rfl;walk_at "da";decide;decide;rfl)
 |((with_reducible refine dU0 Jd PySem.F.type_list_append dA4 ?_ ?_ ?_ ?_ ?_ ?_ ?_);walk_at "de";walk_at "da";rfl;rfl;rfl;exact q14 rfl;rfl)
 |((with_reducible refine dU0 Jc PySem.F.type_list_extend dC6 ?_ ?_ ?_ ?_ ?_ ?_ ?_);walk_at "de";walk_at "da";rfl;rfl;rfl;exact q14 rfl;rfl)
 |((with_reducible refine dU0 xQ XJ dP6 ?_ ?_ ?_ ?_ ?_ ?_ ?_);walk_at "de";walk_at "da";rfl;rfl;rfl;exact q14 rfl;rfl)
 |((with_reducible refine eJ0 Zt PySem.F.type_dict_get (eM0 ?_) ?_ ?_ ?_ ?_ ?_ ?_ ?_);exact aE6.units (by assumption);walk_at "de";walk_at "da";rfl;rfl;rfl;exact q14 rfl;rfl)
 |((with_reducible refine eT8 xQ XJ eI1 ?_ ?_ ?_);walk_at "de";rfl;rfl)
 |((with_reducible refine eD2 ?_ ?_ ?_ ?_ ?_ ?_ ?_ ?_);rfl;walk_at "di";walk_at "ck";decide +kernel;(intro _ _ _ _ _;walk_at "dg");(intro _ _ _ _;walk_at "dts");(intro _ _ _ _;walk_at "de");exact λ_=>rfl))
local macro_rules | `(tactic| walk_at "dt") => `(tactic| first
 |((with_reducible refine DW.dt ?_);walk_at "dw")
 |((with_reducible refine eR0 ?_);walk_at "dt")
 |((with_reducible refine eI9 ?_ ?_ ?_ ?_);walk_at "od";walk_at "de";walk_at "de";with_unfolding_all rfl)
 |((with_reducible refine dU4 ?_ ?_);walk_at "de";exact λ_=>rfl))
local macro_rules | `(tactic| walk_at "dw") => `(tactic| first
 |((with_reducible refine eB2 ?_);walk_at "dt")
 |((with_reducible refine eI4 ?_);walk_at "dt")
 |((with_reducible refine eI7 ?_ ?_);walk_at "dt";walk_at "dw")
 |((with_reducible refine fA7 ?_ ?_);walk_at "dt";walk_at "dw"))
local macro_rules | `(tactic| walk_at "dts") => `(tactic| first
 |with_reducible exact dY2
 |((with_reducible refine dX9 ?_);walk_at "dt"))
local macro_rules | `(tactic| walk_at "di") => `(tactic| first
 |((with_reducible refine eW4 ?_ ?_ ?_ ?_);assumption;rfl;walk_at "da";rfl)
 |((with_reducible refine fJ1 ?_ ?_ ?_ ?_ ?_);assumption;rfl;walk_at "da";rfl;rfl)
 |((with_reducible refine fB3 ?_ ?_ ?_ ?_);assumption;rfl;walk_at "da";rfl)
 |((with_reducible refine fJ0 ?_);walk_at "de"))
local macro_rules | `(tactic| walk_at "dg") => `(tactic| first
 |((with_reducible refine eX6 ?_ ?_ ?_ ?_);exact⟨_,_,_, ‹o9 _ _ _›,rfl⟩;rfl;(first|exact Or.inl rfl|exact Or.inr rfl);(first|exact .inl rfl|exact .inr rfl))
 |((with_reducible refine cV4 ?_ ?_ ?_ ?_);assumption;rfl;(first|exact Or.inl rfl|exact Or.inr rfl);(first|exact .inl rfl|exact .inr rfl))
 |((with_reducible refine eJ4 ?_ ?_ ?_ ?_);rfl;walk_at "dgs";rfl;rfl)
 |((with_reducible refine eG4 ?_ ?_ ?_ ?_);exact aE6.units (by assumption);walk_at "de";walk_at "de";exact λ_=>rfl))
local macro_rules | `(tactic| walk_at "dgs") => `(tactic| first
 |with_reducible exact dZ4
 |((with_reducible refine dK1 ?_ ?_ ?_);walk_at "dg";walk_at "dgs";rfl))
local macro_rules | `(tactic| walk_at "ds") => `(tactic| first
 |((with_reducible refine eJ6 ?_);walk_at "de")
 |((with_reducible refine eX8 ?_ ?_ ?_);walk_at "dt";walk_at "db";walk_at "db")
 |((with_reducible refine dL5 ?_ ?_ ?_ ?_ ?_ ?_ ?_ ?_ ?_ ?_);rfl;walk_at "di";walk_at "ck";decide +kernel;(intro _ _ _ _ _;walk_at "dg");(intro _ _ _ _;walk_at "dts");(intro _ _ _ _;walk_at "de");(exact λ_=>rfl);walk_at "dg";rfl)
 |((with_reducible refine eU9 ?_ ?_ ?_ ?_ ?_);walk_at "de";walk_at "dg";rfl;rfl;rfl)
 |((with_reducible refine dZ2 ?_ ?_);walk_at "de";rfl)
 |((with_reducible refine eQ7 ?_ ?_ ?_ ?_ ?_ ?_);exact Jp;rfl;walk_at "di";walk_at "dg";walk_at "db";exact λ_=>rfl)
 |((with_reducible refine dL8 ?_ ?_ ?_);exact Jp;walk_at "dt";walk_at "db"))
local macro_rules | `(tactic| walk_at "db") => `(tactic| first
 |with_reducible exact eG0
 |((with_reducible refine dQ5 ?_);walk_at "ds")
 |((with_reducible refine cY1 ?_ ?_);walk_at "ds";walk_at "db"))
local macro_rules | `(tactic| walk_at "db0") => `(tactic| first
 |(refine dQ5 ?_;walk_at "ds")
 |(refine cY1 ?_ ?_;walk_at "ds";walk_at "db"))
set_option maxHeartbeats 2000000
local macro_rules | `(tactic| walk_at "sc") => `(tactic| exact ⟨rfl, rfl, rfl, by decide +kernel, rfl, by decide +kernel, by decide +kernel⟩)
structure BC(K:zj)(mg:Str->Option zf):Prop where
 b:BLs mg
 c_ANY:eF2 K mg "ANY" (.str ("any" :Str))
def top(i:Nat):Stmt:=PySem.Challenge.pw_allmeet_k51_whole_what_is_fulfilled.main.body.getD i (.Pass ⟨0,0,0,0⟩)
abbrev aT0:Stmt:=top 27
abbrev aU8:Stmt:=top 28
abbrev aX3:Stmt:=top 30
abbrev aW4:Stmt:=top 31
abbrev aW3:Stmt:=top 32
abbrev aO3:Stmt:=top 29
abbrev aF3:Stmt:=top 33
abbrev aA3:Stmt:=top 34
abbrev aW9:Stmt:=top 35
abbrev aR4:Stmt:=top 36
abbrev aM3:Stmt:=top 38
abbrev aI9:Stmt:=top 40
abbrev S8:Stmt:=top 39
abbrev aG2:Stmt:=top 43
abbrev aC7:Stmt:=top 44
abbrev aC8:Stmt:=top 45
abbrev aL9:Stmt:=top 46
abbrev aU4:Stmt:=top 21
abbrev bK1:Stmt:=top 22
abbrev bC9:Stmt:=top 10
abbrev aR9:Stmt:=top 17
abbrev bA8:Stmt:=top 13
abbrev aH0:Stmt:=top 14
abbrev bB1:Stmt:=top 15
abbrev aP4:Stmt:=top 16
abbrev X7:Stmt:=top 18
abbrev U5:Stmt:=top 19
abbrev bC0:Stmt:=top 2
abbrev bC3:Stmt:=top 24
abbrev aL6:Stmt:=top 4
abbrev aT1:Stmt:=top 5
abbrev bJ3:Stmt:=top 6
abbrev aM5:Stmt:=top 3
abbrev aO2:Stmt:=top 7
abbrev aS1:Stmt:=top 8
abbrev bB4:Stmt:=top 1
abbrev aV6:Stmt:=top 25
abbrev bI8:Stmt:=top 23
abbrev aP2:Stmt:=top 42
abbrev S9:Stmt:=top 41
abbrev aI1:Stmt:=top 37
abbrev bB2:Stmt:=top 47
abbrev bP7:Stmt:=top 48
theorem bA1:o9 ["script", "draws", "k", "rest", "stir", "many"] ["script"] (m8 aT0):=by walk_at "sc"
theorem bG4:o9 ["draws", "many"] ["draws", "many"] (m8 aU8):=by walk_at "sc"
theorem bD6:o9 ["draws", "way", "some", "size", "word", "k"] ["draws"] (m8 aX3):=by walk_at "sc"
theorem bE6:o9 ["draws", "word"] ["draws"] (m8 aW4):=by walk_at "sc"
theorem bG5:o9 ["draws", "pool", "many", "stem", "at", "letters", "k", "pair"] ["draws"] (m8 aW3):=by walk_at "sc"
theorem aV8:o9 ["draws", "way", "small", "large", "k"] ["draws"] (m8 aO3):=by walk_at "sc"
theorem bA6:o9 ["draws", "pool", "deep", "way"] ["draws", "pool", "deep"] (m8 aF3):=by walk_at "sc"
theorem aV7:o9 ["draws", "pool", "deep", "found", "last", "name", "way"] ["draws", "pool", "deep"] (m8 aA3):=by walk_at "sc"
theorem bF0:o9 ["draws", "pool", "many", "path"] ["draws", "pool"] (m8 aW9):=by walk_at "sc"
theorem bA5:o9 ["value", "path", "here", "name", "some"] ["value", "path"] (m8 aR4):=by walk_at "sc"
theorem aT4:o9 ["draws", "value", "none", "truths", "low", "high", "pairs", "longer", "some"] ["draws", "value"] (m8 aM3):=by walk_at "sc"
theorem bF3:o9 ["draws", "value", "way", "numbers", "fronts", "more"] ["draws", "value"] (m8 aI9):=by walk_at "sc"
theorem aL2:o9 ["draws", "pairs", "more", "fields", "name", "one", "some", "must"] ["draws", "pairs"] (m8 S8):=by walk_at "sc"
theorem aO0:o9 ["one"] ["one"] (m8 aG2):=by walk_at "sc"
theorem aI2:o9 ["draws", "value", "path", "pool", "other", "left", "right", "number"] ["draws", "value", "path", "pool"] (m8 aC7):=by walk_at "sc"
theorem aI6:o9 ["draws", "there", "path", "pool", "names", "at"] ["draws", "there", "path", "pool"] (m8 aC8):=by walk_at "sc"
theorem aT7:o9 ["draws", "value", "pool", "way", "path", "there", "some"] ["draws", "value", "pool"] (m8 aL9):=by walk_at "sc"
theorem bF8:o9 ["value"] ["value"] (m8 aU4):=by walk_at "sc"
theorem bU8:o9 ["value", "path", "here", "name", "fields"] ["value", "path"] (m8 bK1):=by walk_at "sc"
theorem bL3:o9 ["low", "high"] ["low", "high"] (m8 bC9):=by walk_at "sc"
theorem bA2:o9 ["number", "low", "high"] ["number", "low", "high"] (m8 aR9):=by walk_at "sc"
theorem bL6:o9 ["lists", "place"] ["lists", "place"] (m8 bA8):=by walk_at "sc"
theorem aN6:o9 ["records"] ["records"] (m8 aH0):=by walk_at "sc"
theorem bM1:o9 ["told", "more", "name"] ["told", "more", "name"] (m8 bB1):=by walk_at "sc"
theorem bS4:o9 ["value", "some"] ["value", "some"] (m8 aP4):=by walk_at "sc"
theorem aT8:o9 ["values", "lists"] ["values", "lists"] (m8 X7):=by walk_at "sc"
theorem aN8:o9 ["pairs", "records", "there", "told"] ["pairs", "records"] (m8 U5):=by walk_at "sc"
theorem bK8:o9 ["pairs"] ["pairs"] (m8 bC0):=by walk_at "sc"
theorem bM0:o9 ["value", "names"] ["value", "names"] (m8 bC3):=by walk_at "sc"
theorem aT6:o9 ["number"] ["number"] (m8 aL6):=by walk_at "sc"
theorem aZ8:o9 ["text"] ["text"] (m8 aT1):=by walk_at "sc"
theorem bP3:o9 ["value"] ["value"] (m8 bJ3):=by walk_at "sc"
theorem aT5:o9 ["thing"] ["thing"] (m8 aM5):=by walk_at "sc"
theorem aV3:o9 ["value", "heads", "waiting", "some"] ["value"] (m8 aO2):=by walk_at "sc"
theorem bA0:o9 ["one", "other"] ["one", "other"] (m8 aS1):=by walk_at "sc"
theorem bM2:o9 ["thing"] ["thing"] (m8 bB4):=by walk_at "sc"
theorem bF7:o9 ["one", "other", "number"] ["one", "other", "number"] (m8 aV6):=by walk_at "sc"
theorem bS0:o9 ["value", "telling", "here", "there"] ["value", "telling"] (m8 bI8):=by walk_at "sc"
theorem bS8:o9 ["value", "some", "numbers", "texts", "truths", "lists", "records", "low_ones", "dues"] ["value", "some"] (m8 aP2):=by walk_at "sc"
theorem aM0:o9 ["value", "fields", "more", "there", "known"] ["value", "fields", "more"] (m8 S9):=by walk_at "sc"
theorem bG9:o9 ["found", "due", "one", "other"] ["found", "due"] (m8 aI1):=by walk_at "sc"
theorem bK7:o9 ["value", "telling", "there", "other"] ["value", "telling"] (m8 bB2):=by walk_at "sc"
theorem dI0:o9 ["script", "draws", "pool", "many", "value", "k", "telling", "found"] ["script"] (m8 bP7):=by walk_at "sc"
section
variable{P:zB}{w:zJ}{K:zj}{mg:Str->Option zf}{base:Heap}{a:Addr}{d:zY}(zb:BC K mg)
include zb
theorem bV5(c:FF K mg "_law_draws" aT0 ["script"] a d):K6 P w K mg base CX0 1 a d ["script"] (spD ⟨K,mg⟩ 1 aA0):=by
 unfold aA0
 exact W7 c bA1 rfl rfl λ_ _ _ _ _ _ _=>by obtain⟨_,_⟩:=zb;have:=bA1;unfold aS0;unfold DB D1 D2 WT1 WB1;walk_at "db0"
theorem cG0(c:FF K mg "_law_take" aU8 ["draws", "many"] a d):K6 P w K mg base CX0 1 a d ["draws", "many"] (spD ⟨K,mg⟩ 2 g8):=by
 unfold g8
 exact W7 c bG4 rfl rfl λ_ _ _ _ _ _ _=>by obtain⟨_,_⟩:=zb;have:=bG4;unfold aV4;walk_at "db0"
theorem cF8(c:FF K mg "_law_word" aX3 ["draws"] a d)(k1:d8 g8 2 "_law_take" P w K mg base 1):K6 P w K mg base CX0 2 a d ["draws"] (spD ⟨K,mg⟩ 1 U4):=by
 unfold U4
 exact W7 c bD6 rfl rfl λ_ _ _ _ _ _ _=>by obtain⟨_,_⟩:=zb;have:=bD6;unfold aX6;unfold W1 WT WL W3 W2;walk_at "db0"
theorem cC5(c:FF K mg "_law_name" aW4 ["draws"] a d)(k2:d8 U4 1 "_law_word" P w K mg base 2):K6 P w K mg base CX0 3 a d ["draws"] (spD ⟨K,mg⟩ 1 R7):=by
 unfold R7
 exact W7 c bE6 rfl rfl λ_ _ _ _ _ _ _=>by obtain⟨_,_⟩:=zb;have:=bE6;unfold aW5;walk_at "db0"
theorem cB1(c:FF K mg "_law_pool" aW3 ["draws"] a d)(k1:d8 g8 2 "_law_take" P w K mg base 1)(k3:d8 R7 1 "_law_name" P w K mg base 3):K6 P w K mg base CX0 4 a d ["draws"] (spD ⟨K,mg⟩ 1 aB6):=by
 unfold aB6
 exact W7 c bG5 rfl rfl λ_ _ _ _ _ _ _=>by obtain⟨_,_⟩:=zb;have:=bG5;unfold aX2;unfold P3 PLB P1;walk_at "db0"
theorem bS1(c:FF K mg "_law_number" aO3 ["draws"] a d)(k1:d8 g8 2 "_law_take" P w K mg base 1):K6 P w K mg base CX0 2 a d ["draws"] (spD ⟨K,mg⟩ 1 N6):=by
 unfold N6
 exact W7 c aV8 rfl rfl λ_ _ _ _ _ _ _=>by obtain⟨_,_⟩:=zb;have:=aV8;unfold aO5;unfold N2 N1 N3 NB;walk_at "db0"
theorem aT2(c:FF K mg "_law_record" aA3 ["draws", "pool", "deep"] a d)(k1:d8 g8 2 "_law_take" P w K mg base 1){R:List D->M D}{lv:Nat}(k_R:d8 R 3 "_law_value" P w K mg base lv)(h2:2<=lv):K6 P w K mg base CX0 (lv+1) a d ["draws", "pool", "deep"] (spD ⟨K,mg⟩ 3 (aA2 R)):=by
 unfold aA2
 exact W7 c aV7 rfl rfl λ_ _ _ _ _ _ _=>by obtain⟨_,_⟩:=zb;have:=aV7;unfold aH3;unfold RB RW1 RW2 RT;walk_at "db0"
theorem bN2(c:FF K mg "_law_value" aF3 ["draws", "pool", "deep"] a d)(k1:d8 g8 2 "_law_take" P w K mg base 1)(k5:d8 N6 1 "_law_number" P w K mg base 2)(k2:d8 U4 1 "_law_word" P w K mg base 2){R:List D->M D}{lv:Nat}(k_R:d8 R 3 "_law_value" P w K mg base lv)(k7:d8 (aA2 R) 3 "_law_record" P w K mg base (lv+1))(h2:2<=lv):K6 P w K mg base CX0 (lv+2) a d ["draws", "pool", "deep"] (spD ⟨K,mg⟩ 3 (J7 4 (aF5 R))):=
 W7 c bA6 rfl rfl λ_ _ _ _ _ _ _=>by obtain⟨_,_⟩:=zb;have:=bA6;unfold aF5;unfold V5 V4 V3 V1 V2 V6;walk_at "db0"
theorem aU5(c:FF K mg "_law_value" aF3 ["draws", "pool", "deep"] a d){a7:Addr}{d7:zY}(c7:FF K mg "_law_record" aA3 ["draws", "pool", "deep"] a7 d7)(k1:d8 g8 2 "_law_take" P w K mg base 1)(k5:d8 N6 1 "_law_number" P w K mg base 2)(k2:d8 U4 1 "_law_word" P w K mg base 2):∀n,K6 P w K mg base CX0 (2+2*n) a d ["draws", "pool", "deep"] (spD ⟨K,mg⟩ 3 (aK3 n))
 |0=>aV0 rfl
 |n+1=>by
   have kR:=d8.of c (aU5 c c7 k1 k5 k2 n)
   have h7:=d8.of c7 (aT2 zb c7 k1 kR (jL _ _))
   exact bN2 zb c k1 k5 k2 kR h7 (jL _ _)
theorem bW1(c:FF K mg "_law_value" aF3 ["draws", "pool", "deep"] a d){a7:Addr}{d7:zY}(c7:FF K mg "_law_record" aA3 ["draws", "pool", "deep"] a7 d7)(k1:d8 g8 2 "_law_take" P w K mg base 1)(k5:d8 N6 1 "_law_number" P w K mg base 2)(k2:d8 U4 1 "_law_word" P w K mg base 2):K6 P w K mg base CX0 122 a d ["draws", "pool", "deep"] (spD ⟨K,mg⟩ 3 aF1):=aU5 zb c c7 k1 k5 k2 60
theorem bT4(c:FF K mg "_law_record" aA3 ["draws", "pool", "deep"] a d)(k1:d8 g8 2 "_law_take" P w K mg base 1)(k6:d8 aF1 3 "_law_value" P w K mg base 122):K6 P w K mg base CX0 123 a d ["draws", "pool", "deep"] (spD ⟨K,mg⟩ 3 aH4):=aT2 zb c k1 k6 (by decide)
theorem cF4(c:FF K mg "_law_path" aW9 ["draws", "pool"] a d)(k1:d8 g8 2 "_law_take" P w K mg base 1)(k3:d8 R7 1 "_law_name" P w K mg base 3):K6 P w K mg base CX0 4 a d ["draws", "pool"] (spD ⟨K,mg⟩ 2 Z1):=by
 unfold Z1
 exact W7 c bF0 rfl rfl λ_ _ _ _ _ _ _=>by obtain⟨_,_⟩:=zb;have:=bF0;unfold aY1;unfold Q3 Q1 Q2;walk_at "db0"
theorem bW4(c:FF K mg "_law_there" aR4 ["value", "path"] a d):K6 P w K mg base CX0 1 a d ["value", "path"] (spD ⟨K,mg⟩ 2 K7):=by
 unfold K7
 exact W7 c bA5 rfl rfl λ_ _ _ _ _ _ _=>by obtain⟨_,_⟩:=zb;have:=bA5;unfold aS7;unfold TB TA TC TE';walk_at "db0"
theorem bM4(c:FF K mg "_law_flat_of" aM3 ["draws", "value"] a d)(k1:d8 g8 2 "_law_take" P w K mg base 1):K6 P w K mg base CX0 2 a d ["draws", "value"] (spD ⟨K,mg⟩ 2 M5):=by
 unfold M5
 exact W7 c aT4 rfl rfl λ_ _ _ _ _ _ _=>by obtain⟨_,_⟩:=zb;have:=aT4;unfold aB2;walk_at "db0"
theorem aK0(c:FF K mg "_law_records_of" S8 ["draws", "pairs"] a d)(k1:d8 g8 2 "_law_take" P w K mg base 1){R:List D->M D}{lv:Nat}(k_R:d8 R 2 "_law_near" P w K mg base lv)(h2:2<=lv):K6 P w K mg base CX0 (lv+1) a d ["draws", "pairs"] (spD ⟨K,mg⟩ 2 (T6 R)):=by
 unfold T6
 exact W7 c aL2 rfl rfl λ_ _ _ _ _ _ _=>by obtain⟨_,_⟩:=zb;have:=aL2;unfold aA7;unfold OZ OB;walk_at "db0"
theorem bQ4(c:FF K mg "_law_near" aI9 ["draws", "value"] a d)(k1:d8 g8 2 "_law_take" P w K mg base 1)(k10:d8 M5 2 "_law_flat_of" P w K mg base 2){R:List D->M D}{lv:Nat}(k_R:d8 R 2 "_law_near" P w K mg base lv)(k12:d8 (T6 R) 2 "_law_records_of" P w K mg base (lv+1))(h2:2<=lv):K6 P w K mg base CX0 (lv+2) a d ["draws", "value"] (spD ⟨K,mg⟩ 2 (J7 6 (aH9 R))):=
 W7 c bF3 rfl rfl λ_ _ _ _ _ _ _=>by obtain⟨_,_⟩:=zb;have:=bF3;unfold aH9;walk_at "db0"
theorem bA3(c:FF K mg "_law_near" aI9 ["draws", "value"] a d){a12:Addr}{d12:zY}(c12:FF K mg "_law_records_of" S8 ["draws", "pairs"] a12 d12)(k1:d8 g8 2 "_law_take" P w K mg base 1)(k10:d8 M5 2 "_law_flat_of" P w K mg base 2):∀n,K6 P w K mg base CX0 (2+2*n) a d ["draws", "value"] (spD ⟨K,mg⟩ 2 (aN5 n))
 |0=>aV0 rfl
 |n+1=>by
   have kR:=d8.of c (bA3 c c12 k1 k10 n)
   have h12:=d8.of c12 (aK0 zb c12 k1 kR (jL _ _))
   exact bQ4 zb c k1 k10 kR h12 (jL _ _)
theorem cB8(c:FF K mg "_law_near" aI9 ["draws", "value"] a d){a12:Addr}{d12:zY}(c12:FF K mg "_law_records_of" S8 ["draws", "pairs"] a12 d12)(k1:d8 g8 2 "_law_take" P w K mg base 1)(k10:d8 M5 2 "_law_flat_of" P w K mg base 2):K6 P w K mg base CX0 122 a d ["draws", "value"] (spD ⟨K,mg⟩ 2 aE5):=bA3 zb c c12 k1 k10 60
theorem bB6(c:FF K mg "_law_records_of" S8 ["draws", "pairs"] a d)(k1:d8 g8 2 "_law_take" P w K mg base 1)(k11:d8 aE5 2 "_law_near" P w K mg base 122):K6 P w K mg base CX0 123 a d ["draws", "pairs"] (spD ⟨K,mg⟩ 2 bD3):=aK0 zb c k1 k11 (by decide)
theorem bG2(c:FF K mg "_law_number_of" aG2 ["one"] a d):K6 P w K mg base CX0 1 a d ["one"] (spD ⟨K,mg⟩ 1 K3):=by
 unfold K3
 exact W7 c aO0 rfl rfl λ_ _ _ _ _ _ _=>by obtain⟨_,_⟩:=zb;have:=aO0;unfold aG6;walk_at "db0"
theorem aX0(c:FF K mg "_law_same_telling" aC7 ["draws", "value", "path", "pool"] a d)(k8:d8 Z1 2 "_law_path" P w K mg base 4)(k9:d8 K7 2 "_law_there" P w K mg base 1)(k1:d8 g8 2 "_law_take" P w K mg base 1)(k13:d8 K3 1 "_law_number_of" P w K mg base 1)(k5:d8 N6 1 "_law_number" P w K mg base 2):K6 P w K mg base CX0 5 a d ["draws", "value", "path", "pool"] (spD ⟨K,mg⟩ 4 T9):=by
 unfold T9
 exact W7 c aI2 rfl rfl λ_ _ _ _ _ _ _=>by obtain⟨_,_⟩:=zb;have:=aI2;unfold aC9;walk_at "db0"
theorem aX7(c:FF K mg "_law_only_telling" aC8 ["draws", "there", "path", "pool"] a d)(k1:d8 g8 2 "_law_take" P w K mg base 1):K6 P w K mg base CX0 2 a d ["draws", "there", "path", "pool"] (spD ⟨K,mg⟩ 4 U0):=by
 unfold U0
 exact W7 c aI6 rfl rfl λ_ _ _ _ _ _ _=>by obtain⟨_,_⟩:=zb;have:=aI6;unfold aC6;walk_at "db0"
theorem bN4(c:FF K mg "_law_telling" aL9 ["draws", "value", "pool"] a d)(k1:d8 g8 2 "_law_take" P w K mg base 1)(k8:d8 Z1 2 "_law_path" P w K mg base 4)(k9:d8 K7 2 "_law_there" P w K mg base 1)(k11:d8 aE5 2 "_law_near" P w K mg base 122)(k14:d8 T9 4 "_law_same_telling" P w K mg base 5)(k15:d8 U0 4 "_law_only_telling" P w K mg base 2)(k6:d8 aF1 3 "_law_value" P w K mg base 122):K6 P w K mg base CX0 123 a d ["draws", "value", "pool"] (spD ⟨K,mg⟩ 3 aB9):=by
 unfold aB9
 exact W7 c aT7 rfl rfl λ_ _ _ _ _ _ _=>by obtain⟨_,_⟩:=zb;have:=aT7;unfold aL1;walk_at "db0"
theorem cE2(c:FF K mg "is_record" aU4 ["value"] a d):K6 P w K mg base CX0 1 a d ["value"] (spD ⟨K,mg⟩ 1 Z2):=by
 unfold Z2
 exact W7 c bF8 rfl rfl λ_ _ _ _ _ _ _=>by obtain⟨_,_⟩:=zb;have:=bF8;unfold aY0;walk_at "db0"
theorem cQ9(c:FF K mg "at_path" bK1 ["value", "path"] a d)(k17:d8 Z2 1 "is_record" P w K mg base 1):K6 P w K mg base CX0 2 a d ["value", "path"] (spD ⟨K,mg⟩ 2 aE4):=by
 unfold aE4
 exact W7 c bU8 rfl rfl λ_ _ _ _ _ _ _=>by obtain⟨_,_⟩:=zb;have:=bU8;unfold bJ6;unfold AB;walk_at "db0"
theorem cL5(c:FF K mg "is_empty" bC9 ["low", "high"] a d):K6 P w K mg base CX0 1 a d ["low", "high"] (spD ⟨K,mg⟩ 2 aG4):=by
 unfold aG4
 exact W7 c bL3 rfl rfl λ_ _ _ _ _ _ _=>by obtain⟨_,_⟩:=zb;have:=bL3;unfold bQ0;walk_at "db0"
theorem bV3(c:FF K mg "is_between" aR9 ["number", "low", "high"] a d)(k19:d8 aG4 2 "is_empty" P w K mg base 1):K6 P w K mg base CX0 2 a d ["number", "low", "high"] (spD ⟨K,mg⟩ 3 U3):=by
 unfold U3
 exact W7 c bA2 rfl rfl λ_ _ _ _ _ _ _=>by obtain⟨_,_⟩:=zb;have:=bA2;unfold aR3;walk_at "db0"
theorem cK7(c:FF K mg "front_at" bA8 ["lists", "place"] a d):K6 P w K mg base CX0 1 a d ["lists", "place"] (spD ⟨K,mg⟩ 2 Z5):=by
 unfold Z5
 exact W7 c bL6 rfl rfl λ_ _ _ _ _ _ _=>by obtain⟨_,_⟩:=zb;have:=bL6;unfold bC4;walk_at "db0"
theorem bE2(c:FF K mg "fields_by_name" aH0 ["records"] a d):K6 P w K mg base CX0 1 a d ["records"] (spD ⟨K,mg⟩ 1 K9):=by
 unfold K9
 exact W7 c aN6 rfl rfl λ_ _ _ _ _ _ _=>by obtain⟨_,_⟩:=zb;have:=aN6;unfold aG0;walk_at "db0"
theorem cI1(c:FF K mg "field_of" bB1 ["told", "more", "name"] a d):K6 P w K mg base CX0 1 a d ["told", "more", "name"] (spD ⟨K,mg⟩ 3 Z9):=by
 unfold Z9
 exact W7 c bM1 rfl rfl λ_ _ _ _ _ _ _=>by obtain⟨_,_⟩:=zb;have:=bM1;unfold bC7;walk_at "db0"
theorem aQ2(c:FF K mg "list_lies_in" X7 ["values", "lists"] a d)(k21:d8 Z5 2 "front_at" P w K mg base 1){R:List D->M D}{lv:Nat}(k_R:d8 R 2 "lies_in" P w K mg base lv)(h2:2<=lv):K6 P w K mg base CX0 (lv+1) a d ["values", "lists"] (spD ⟨K,mg⟩ 2 (V0 R)):=by
 unfold V0
 exact W7 c aT8 rfl rfl λ_ _ _ _ _ _ _=>by obtain⟨_,_⟩:=zb;have:=aT8;unfold aM9;walk_at "db0"
theorem aL8(c:FF K mg "record_lies_in" U5 ["pairs", "records"] a d)(k22:d8 K9 1 "fields_by_name" P w K mg base 1)(k23:d8 Z9 3 "field_of" P w K mg base 1){R:List D->M D}{lv:Nat}(k_R:d8 R 2 "lies_in" P w K mg base lv)(h2:2<=lv):K6 P w K mg base CX0 (lv+1) a d ["pairs", "records"] (spD ⟨K,mg⟩ 2 (R4 R)):=by
 unfold R4
 exact W7 c aN8 rfl rfl λ_ _ _ _ _ _ _=>by obtain⟨_,_⟩:=zb;have:=aN8;unfold aC3;unfold RZ RA;walk_at "db0"
theorem cG4(c:FF K mg "lies_in" aP4 ["value", "some"] a d)(k20:d8 U3 3 "is_between" P w K mg base 2){R:List D->M D}{lv:Nat}(k_R:d8 R 2 "lies_in" P w K mg base lv)(k25:d8 (V0 R) 2 "list_lies_in" P w K mg base (lv+1))(k26:d8 (R4 R) 2 "record_lies_in" P w K mg base (lv+1))(h2:2<=lv):K6 P w K mg base CX0 (lv+2) a d ["value", "some"] (spD ⟨K,mg⟩ 2 (J7 2 (aP6 R))):=
 W7 c bS4 rfl rfl λ_ _ _ _ _ _ _=>by obtain⟨_,_⟩:=zb;have:=bS4;unfold aP6;walk_at "db0"
theorem bK5(c:FF K mg "lies_in" aP4 ["value", "some"] a d){a25:Addr}{d25:zY}(c25:FF K mg "list_lies_in" X7 ["values", "lists"] a25 d25){a26:Addr}{d26:zY}(c26:FF K mg "record_lies_in" U5 ["pairs", "records"] a26 d26)(k20:d8 U3 3 "is_between" P w K mg base 2)(k21:d8 Z5 2 "front_at" P w K mg base 1)(k22:d8 K9 1 "fields_by_name" P w K mg base 1)(k23:d8 Z9 3 "field_of" P w K mg base 1):∀n,K6 P w K mg base CX0 (2+2*n) a d ["value", "some"] (spD ⟨K,mg⟩ 2 (aY8 n))
 |0=>aV0 rfl
 |n+1=>by
   have kR:=d8.of c (bK5 c c25 c26 k20 k21 k22 k23 n)
   have h25:=d8.of c25 (aQ2 zb c25 k21 kR (jL _ _))
   have h26:=d8.of c26 (aL8 zb c26 k22 k23 kR (jL _ _))
   exact cG4 zb c k20 kR h25 h26 (jL _ _)
theorem cO5(c:FF K mg "lies_in" aP4 ["value", "some"] a d){a25:Addr}{d25:zY}(c25:FF K mg "list_lies_in" X7 ["values", "lists"] a25 d25){a26:Addr}{d26:zY}(c26:FF K mg "record_lies_in" U5 ["pairs", "records"] a26 d26)(k20:d8 U3 3 "is_between" P w K mg base 2)(k21:d8 Z5 2 "front_at" P w K mg base 1)(k22:d8 K9 1 "fields_by_name" P w K mg base 1)(k23:d8 Z9 3 "field_of" P w K mg base 1):K6 P w K mg base CX0 122 a d ["value", "some"] (spD ⟨K,mg⟩ 2 aH1):=bK5 zb c c25 c26 k20 k21 k22 k23 60
theorem bM6(c:FF K mg "list_lies_in" X7 ["values", "lists"] a d)(k21:d8 Z5 2 "front_at" P w K mg base 1)(k24:d8 aH1 2 "lies_in" P w K mg base 122):K6 P w K mg base CX0 123 a d ["values", "lists"] (spD ⟨K,mg⟩ 2 bU5):=aQ2 zb c k21 k24 (by decide)
theorem bF6(c:FF K mg "record_lies_in" U5 ["pairs", "records"] a d)(k22:d8 K9 1 "fields_by_name" P w K mg base 1)(k23:d8 Z9 3 "field_of" P w K mg base 1)(k24:d8 aH1 2 "lies_in" P w K mg base 122):K6 P w K mg base CX0 123 a d ["pairs", "records"] (spD ⟨K,mg⟩ 2 bJ0):=aL8 zb c k22 k23 k24 (by decide)
theorem cM5(c:FF K mg "names_of" bC0 ["pairs"] a d):K6 P w K mg base CX0 1 a d ["pairs"] (spD ⟨K,mg⟩ 1 Z7):=by
 unfold Z7
 exact W7 c bK8 rfl rfl λ_ _ _ _ _ _ _=>by obtain⟨_,_⟩:=zb;have:=bK8;unfold aR5;walk_at "db0"
theorem cH3(c:FF K mg "has_only" bC3 ["value", "names"] a d)(k17:d8 Z2 1 "is_record" P w K mg base 1)(k27:d8 Z7 1 "names_of" P w K mg base 1):K6 P w K mg base CX0 2 a d ["value", "names"] (spD ⟨K,mg⟩ 2 aR2):=by
 unfold aR2
 exact W7 c bM0 rfl rfl λ_ _ _ _ _ _ _=>by obtain⟨_,_⟩:=zb;have:=bM0;unfold aS2;walk_at "db0"
theorem bN3(c:FF K mg "number_order" aL6 ["number"] a d):K6 P w K mg base CX0 1 a d ["number"] (spD ⟨K,mg⟩ 1 aB3):=by
 unfold aB3
 exact W7 c aT6 rfl rfl λ_ _ _ _ _ _ _=>by obtain⟨_,_⟩:=zb;have:=aT6;unfold aL7;walk_at "db0"
theorem bW6(c:FF K mg "text_order" aT1 ["text"] a d):K6 P w K mg base CX0 1 a d ["text"] (spD ⟨K,mg⟩ 1 aE8):=by
 unfold aE8
 exact W7 c aZ8 rfl rfl λ_ _ _ _ _ _ _=>by obtain⟨_,_⟩:=zb;have:=aZ8;unfold aS8;walk_at "db0"
theorem cT2(c:FF K mg "head_of" bJ3 ["value"] a d)(k27:d8 Z7 1 "names_of" P w K mg base 1)(k29:d8 aB3 1 "number_order" P w K mg base 1)(k30:d8 aE8 1 "text_order" P w K mg base 1):K6 P w K mg base CX0 2 a d ["value"] (spD ⟨K,mg⟩ 1 aK8):=by
 unfold aK8
 exact W7 c bP3 rfl rfl λ_ _ _ _ _ _ _=>by obtain⟨_,_⟩:=zb;have:=bP3;unfold bJ7;walk_at "db0"
theorem bM5(c:FF K mg "inner_values" aM5 ["thing"] a d):K6 P w K mg base CX0 1 a d ["thing"] (spD ⟨K,mg⟩ 1 X8):=by
 unfold X8
 exact W7 c aT5 rfl rfl λ_ _ _ _ _ _ _=>by obtain⟨_,_⟩:=zb;have:=aT5;unfold aN0;walk_at "db0"
theorem bP2(c:FF K mg "value_order" aO2 ["value"] a d)(k31:d8 aK8 1 "head_of" P w K mg base 2)(k32:d8 X8 1 "inner_values" P w K mg base 1):K6 P w K mg base CX0 3 a d ["value"] (spD ⟨K,mg⟩ 1 W8):=by
 unfold W8
 exact W7 c aV3 rfl rfl λ_ _ _ _ _ _ _=>by obtain⟨_,_⟩:=zb;have:=aV3;unfold aP0;unfold WB;walk_at "db0"
theorem bW2(c:FF K mg "same_value" aS1 ["one", "other"] a d)(k33:d8 W8 1 "value_order" P w K mg base 3):K6 P w K mg base CX0 4 a d ["one", "other"] (spD ⟨K,mg⟩ 2 aC2):=by
 unfold aC2
 exact W7 c bA0 rfl rfl λ_ _ _ _ _ _ _=>by obtain⟨_,_⟩:=zb;have:=bA0;unfold aS4;walk_at "db0"
theorem cH8(c:FF K mg "is_whole" bB4 ["thing"] a d):K6 P w K mg base CX0 1 a d ["thing"] (spD ⟨K,mg⟩ 1 aG3):=by
 unfold aG3
 exact W7 c bM2 rfl rfl λ_ _ _ _ _ _ _=>by obtain⟨_,_⟩:=zb;have:=bM2;unfold bB3;walk_at "db0"
theorem cD1(c:FF K mg "lie_apart" aV6 ["one", "other", "number"] a d)(k34:d8 aC2 2 "same_value" P w K mg base 4)(k35:d8 aG3 1 "is_whole" P w K mg base 1):K6 P w K mg base CX0 5 a d ["one", "other", "number"] (spD ⟨K,mg⟩ 3 aI8):=by
 unfold aI8
 exact W7 c bF7 rfl rfl λ_ _ _ _ _ _ _=>by obtain⟨_,_⟩:=zb;have:=bF7;unfold aV1;walk_at "db0"
theorem cP8(c:FF K mg "fulfils" bI8 ["value", "telling"] a d)(k18:d8 aE4 2 "at_path" P w K mg base 2)(k24:d8 aH1 2 "lies_in" P w K mg base 122)(k28:d8 aR2 2 "has_only" P w K mg base 2)(k36:d8 aI8 3 "lie_apart" P w K mg base 5):K6 P w K mg base CX0 123 a d ["value", "telling"] (spD ⟨K,mg⟩ 2 aK7):=by
 unfold aK7
 exact W7 c bS0 rfl rfl λ_ _ _ _ _ _ _=>by obtain⟨_,_⟩:=zb;have:=bS0;unfold aY5;unfold FU2 FUa FUb FUc;walk_at "db0"
theorem aJ8(c:FF K mg "_law_in_records" S9 ["value", "fields", "more"] a d){R:List D->M D}{lv:Nat}(k_R:d8 R 2 "_law_in" P w K mg base lv)(h2:0<=lv):K6 P w K mg base CX0 (lv+1) a d ["value", "fields", "more"] (spD ⟨K,mg⟩ 3 (T3 R)):=by
 unfold T3
 exact W7 c aM0 rfl rfl λ_ _ _ _ _ _ _=>by obtain⟨_,_⟩:=zb;have:=aM0;unfold aF4;unfold ZA;walk_at "db0"
theorem cF6(c:FF K mg "_law_in" aP2 ["value", "some"] a d){R:List D->M D}{lv:Nat}(k_R:d8 R 2 "_law_in" P w K mg base lv)(k39:d8 (T3 R) 3 "_law_in_records" P w K mg base (lv+1))(h2:0<=lv):K6 P w K mg base CX0 (lv+2) a d ["value", "some"] (spD ⟨K,mg⟩ 2 (J7 9 (aP9 R))):=
 W7 c bS8 rfl rfl λ_ _ _ _ _ _ _=>by obtain⟨_,_⟩:=zb;have:=bS8;unfold aP9;unfold YL YR;walk_at "db0"
theorem bK6(c:FF K mg "_law_in" aP2 ["value", "some"] a d){a39:Addr}{d39:zY}(c39:FF K mg "_law_in_records" S9 ["value", "fields", "more"] a39 d39):∀n,K6 P w K mg base CX0 (0+2*n) a d ["value", "some"] (spD ⟨K,mg⟩ 2 (aY3 n))
 |0=>aV0 rfl
 |n+1=>by
   have kR:=d8.of c (bK6 c c39 n)
   have h39:=d8.of c39 (aJ8 zb c39 kR (jL _ _))
   exact cF6 zb c kR h39 (jL _ _)
theorem cS9(c:FF K mg "_law_in" aP2 ["value", "some"] a d){a39:Addr}{d39:zY}(c39:FF K mg "_law_in_records" S9 ["value", "fields", "more"] a39 d39):K6 P w K mg base CX0 120 a d ["value", "some"] (spD ⟨K,mg⟩ 2 aR0):=bK6 zb c c39 60
theorem bC8(c:FF K mg "_law_in_records" S9 ["value", "fields", "more"] a d)(k38:d8 aR0 2 "_law_in" P w K mg base 120):K6 P w K mg base CX0 121 a d ["value", "fields", "more"] (spD ⟨K,mg⟩ 3 bD0):=aJ8 zb c k38 (by decide)
theorem bT5(c:FF K mg "_law_same" aI1 ["found", "due"] a d){R:List D->M D}{lv kk:Nat}(k_R:d8 R 2 "_law_same" P w K mg base lv)(h1:lv<=kk)(h2:0<=kk):K6 P w K mg base CX0 (kk+1) a d ["found", "due"] (spD ⟨K,mg⟩ 2 (J7 4 (aI7 R))):=
 W7 c bG9 rfl rfl λ_ _ _ _ _ _ _=>by obtain⟨_,_⟩:=zb;have:=bG9;unfold aI7;walk_at "db0"
theorem bA7(c:FF K mg "_law_same" aI1 ["found", "due"] a d):∀n,K6 P w K mg base CX0 (0+n) a d ["found", "due"] (spD ⟨K,mg⟩ 2 (aB7 n))
 |0=>aV0 rfl
 |n+1=>bT5 zb c (d8.of c (bA7 c n)) (zo _) (jL _ _)
theorem cD4(c:FF K mg "_law_same" aI1 ["found", "due"] a d):K6 P w K mg base CX0 60 a d ["found", "due"] (spD ⟨K,mg⟩ 2 aX8):=bA7 zb c 60
theorem cJ4(c:FF K mg "_law_due" bB2 ["value", "telling"] a d)(k9:d8 K7 2 "_law_there" P w K mg base 1)(k38:d8 aR0 2 "_law_in" P w K mg base 120)(k40:d8 aX8 2 "_law_same" P w K mg base 60)(k13:d8 K3 1 "_law_number_of" P w K mg base 1):K6 P w K mg base CX0 121 a d ["value", "telling"] (spD ⟨K,mg⟩ 2 aF9):=by
 unfold aF9
 exact W7 c bK7 rfl rfl λ_ _ _ _ _ _ _=>by obtain⟨_,_⟩:=zb;have:=bK7;unfold aS3;unfold DU2 DUa DUb DUc eY2 eW7 DUd DUe DUf DUg DUh;walk_at "db0"
theorem eV0(c:FF K mg "law" bP7 ["script"] a d)(k0:d8 aA0 1 "_law_draws" P w K mg base 1)(k4:d8 aB6 1 "_law_pool" P w K mg base 4)(k7:d8 aH4 3 "_law_record" P w K mg base 123)(k16:d8 aB9 3 "_law_telling" P w K mg base 123)(k37:d8 aK7 2 "fulfils" P w K mg base 123)(k41:d8 aF9 2 "_law_due" P w K mg base 121):K6 P w K mg base CX0 124 a d ["script"] (spD ⟨K,mg⟩ 1 cK3):=by
 unfold cK3
 exact W7 c dI0 rfl rfl λ_ _ _ _ _ _ _=>by obtain⟨_,_⟩:=zb;have:=dI0;unfold cU5;unfold MB M1 M2 M3 MT;walk_at "db0"
end
set_option maxHeartbeats 4000000 in
theorem all_mk{l:PySem.W.OpenLaw}{w:zJ}{K:zj}{h:Heap}{mg:Str->Option zf}{fa:Addr}(X:K.In h)(G:h.Ns jm mg)(hfa:mg "law" =some (.ref fa))
 (Y0:FH K "_law_draws" aT0) (Y1:FH K "_law_take" aU8) (Y2:FH K "_law_word" aX3) (Y3:FH K "_law_name" aW4) (Y4:FH K "_law_pool" aW3) (Y5:FH K "_law_number" aO3) (Y6:FH K "_law_value" aF3) (Y7:FH K "_law_record" aA3) (Y8:FH K "_law_path" aW9) (Y9:FH K "_law_there" aR4) (Y10:FH K "_law_flat_of" aM3) (Y11:FH K "_law_near" aI9) (Y12:FH K "_law_records_of" S8) (Y13:FH K "_law_number_of" aG2) (Y14:FH K "_law_same_telling" aC7) (Y15:FH K "_law_only_telling" aC8) (Y16:FH K "_law_telling" aL9) (Y17:FH K "is_record" aU4) (Y18:FH K "at_path" bK1) (Y19:FH K "is_empty" bC9) (Y20:FH K "is_between" aR9) (Y21:FH K "front_at" bA8) (Y22:FH K "fields_by_name" aH0) (Y23:FH K "field_of" bB1) (Y24:FH K "lies_in" aP4) (Y25:FH K "list_lies_in" X7) (Y26:FH K "record_lies_in" U5) (Y27:FH K "names_of" bC0) (Y28:FH K "has_only" bC3) (Y29:FH K "number_order" aL6) (Y30:FH K "text_order" aT1) (Y31:FH K "head_of" bJ3) (Y32:FH K "inner_values" aM5) (Y33:FH K "value_order" aO2) (Y34:FH K "same_value" aS1) (Y35:FH K "is_whole" bB4) (Y36:FH K "lie_apart" aV6) (Y37:FH K "fulfils" bI8) (Y38:FH K "_law_in" aP2) (Y39:FH K "_law_in_records" S9) (Y40:FH K "_law_same" aI1) (Y41:FH K "_law_due" bB2) (Y42:FH K "law" bP7)
 {t_ANY:Tok}
 (g_ANY:Zm K jm "ANY" =some (some (.str "any" t_ANY)))
 (z:∀b∈bltL,Zm K jm b=some none)
 (pure:∀ns:List Int,ns.length<=63->∃G',cK3 [.ref 0] [.rol (ns.map D.int)]=some (.ok (.bl true),G')):
 ∃fd:zY,(∀(s:zh) (v:zf),Xf s fd ⟨[v], []⟩ [("script",v)])/\∀base:Heap,K.In base->base.Ns jm mg->K6 l.prog w K mg base CX0 124 fa fd ["script"] (cV3 K):=by
 obtain⟨_,_,an_law,_,_,kV_law,dc_law,pm_law,cd_law,ct_law,a42,l_law,e_law,k42⟩:=Y42
 have e:=hfa.symm.trans (ZM X G a42)
 cases e
 obtain⟨_,_,C0⟩:=Y0.ff1 (p1:= "script") X G λ_ _ _ _ _ _ _=>rfl
 obtain⟨_,_,C1⟩:=Y1.ff2 (p1:= "draws") (p2:= "many") X G λ_ _ _ _ _ _ _ _=>rfl
 obtain⟨_,_,C2⟩:=Y2.ff1 (p1:= "draws") X G λ_ _ _ _ _ _ _=>rfl
 obtain⟨_,_,C3⟩:=Y3.ff1 (p1:= "draws") X G λ_ _ _ _ _ _ _=>rfl
 obtain⟨_,_,C4⟩:=Y4.ff1 (p1:= "draws") X G λ_ _ _ _ _ _ _=>rfl
 obtain⟨_,_,C5⟩:=Y5.ff1 (p1:= "draws") X G λ_ _ _ _ _ _ _=>rfl
 obtain⟨_,_,C6⟩:=Y6.ff3 (p1:= "draws") (p2:= "pool") (p3:= "deep") X G λ_ _ _ _ _ _ _ _ _=>rfl
 obtain⟨_,_,C7⟩:=Y7.ff3 (p1:= "draws") (p2:= "pool") (p3:= "deep") X G λ_ _ _ _ _ _ _ _ _=>rfl
 obtain⟨_,_,C8⟩:=Y8.ff2 (p1:= "draws") (p2:= "pool") X G λ_ _ _ _ _ _ _ _=>rfl
 obtain⟨_,_,C9⟩:=Y9.ff2 (p1:= "value") (p2:= "path") X G λ_ _ _ _ _ _ _ _=>rfl
 obtain⟨_,_,C10⟩:=Y10.ff2 (p1:= "draws") (p2:= "value") X G λ_ _ _ _ _ _ _ _=>rfl
 obtain⟨_,_,C11⟩:=Y11.ff2 (p1:= "draws") (p2:= "value") X G λ_ _ _ _ _ _ _ _=>rfl
 obtain⟨_,_,C12⟩:=Y12.ff2 (p1:= "draws") (p2:= "pairs") X G λ_ _ _ _ _ _ _ _=>rfl
 obtain⟨_,_,C13⟩:=Y13.ff1 (p1:= "one") X G λ_ _ _ _ _ _ _=>rfl
 obtain⟨_,_,C14⟩:=Y14.ff4 (p1:= "draws") (p2:= "value") (p3:= "path") (p4:= "pool") X G λ_ _ _ _ _ _ _ _ _ _=>rfl
 obtain⟨_,_,C15⟩:=Y15.ff4 (p1:= "draws") (p2:= "there") (p3:= "path") (p4:= "pool") X G λ_ _ _ _ _ _ _ _ _ _=>rfl
 obtain⟨_,_,C16⟩:=Y16.ff3 (p1:= "draws") (p2:= "value") (p3:= "pool") X G λ_ _ _ _ _ _ _ _ _=>rfl
 obtain⟨_,_,C17⟩:=Y17.ff1 (p1:= "value") X G λ_ _ _ _ _ _ _=>rfl
 obtain⟨_,_,C18⟩:=Y18.ff2 (p1:= "value") (p2:= "path") X G λ_ _ _ _ _ _ _ _=>rfl
 obtain⟨_,_,C19⟩:=Y19.ff2 (p1:= "low") (p2:= "high") X G λ_ _ _ _ _ _ _ _=>rfl
 obtain⟨_,_,C20⟩:=Y20.ff3 (p1:= "number") (p2:= "low") (p3:= "high") X G λ_ _ _ _ _ _ _ _ _=>rfl
 obtain⟨_,_,C21⟩:=Y21.ff2 (p1:= "lists") (p2:= "place") X G λ_ _ _ _ _ _ _ _=>rfl
 obtain⟨_,_,C22⟩:=Y22.ff1 (p1:= "records") X G λ_ _ _ _ _ _ _=>rfl
 obtain⟨_,_,C23⟩:=Y23.ff3 (p1:= "told") (p2:= "more") (p3:= "name") X G λ_ _ _ _ _ _ _ _ _=>rfl
 obtain⟨_,_,C24⟩:=Y24.ff2 (p1:= "value") (p2:= "some") X G λ_ _ _ _ _ _ _ _=>rfl
 obtain⟨_,_,C25⟩:=Y25.ff2 (p1:= "values") (p2:= "lists") X G λ_ _ _ _ _ _ _ _=>rfl
 obtain⟨_,_,C26⟩:=Y26.ff2 (p1:= "pairs") (p2:= "records") X G λ_ _ _ _ _ _ _ _=>rfl
 obtain⟨_,_,C27⟩:=Y27.ff1 (p1:= "pairs") X G λ_ _ _ _ _ _ _=>rfl
 obtain⟨_,_,C28⟩:=Y28.ff2 (p1:= "value") (p2:= "names") X G λ_ _ _ _ _ _ _ _=>rfl
 obtain⟨_,_,C29⟩:=Y29.ff1 (p1:= "number") X G λ_ _ _ _ _ _ _=>rfl
 obtain⟨_,_,C30⟩:=Y30.ff1 (p1:= "text") X G λ_ _ _ _ _ _ _=>rfl
 obtain⟨_,_,C31⟩:=Y31.ff1 (p1:= "value") X G λ_ _ _ _ _ _ _=>rfl
 obtain⟨_,_,C32⟩:=Y32.ff1 (p1:= "thing") X G λ_ _ _ _ _ _ _=>rfl
 obtain⟨_,_,C33⟩:=Y33.ff1 (p1:= "value") X G λ_ _ _ _ _ _ _=>rfl
 obtain⟨_,_,C34⟩:=Y34.ff2 (p1:= "one") (p2:= "other") X G λ_ _ _ _ _ _ _ _=>rfl
 obtain⟨_,_,C35⟩:=Y35.ff1 (p1:= "thing") X G λ_ _ _ _ _ _ _=>rfl
 obtain⟨_,_,C36⟩:=Y36.ff3 (p1:= "one") (p2:= "other") (p3:= "number") X G λ_ _ _ _ _ _ _ _ _=>rfl
 obtain⟨_,_,C37⟩:=Y37.ff2 (p1:= "value") (p2:= "telling") X G λ_ _ _ _ _ _ _ _=>rfl
 obtain⟨_,_,C38⟩:=Y38.ff2 (p1:= "value") (p2:= "some") X G λ_ _ _ _ _ _ _ _=>rfl
 obtain⟨_,_,C39⟩:=Y39.ff3 (p1:= "value") (p2:= "fields") (p3:= "more") X G λ_ _ _ _ _ _ _ _ _=>rfl
 obtain⟨_,_,C40⟩:=Y40.ff2 (p1:= "found") (p2:= "due") X G λ_ _ _ _ _ _ _ _=>rfl
 obtain⟨_,_,C41⟩:=Y41.ff2 (p1:= "value") (p2:= "telling") X G λ_ _ _ _ _ _ _ _=>rfl
 have C42:FF K mg "law" bP7 ["script"] _ _:=⟨cB5 l_law e_law k42,(cB5 l_law e_law k42).binds (ps:= ["script"]) (λ_ _ _ _ _ _ us hl=>match us,hl with|[_],_=>rfl),ZM X G a42⟩
 have zb0:=BLs.of X G z
 have zb:BC K mg:=⟨zb0,⟨_,ZM X G g_ANY,eP6⟩⟩
 refine⟨jE "law" "law" (aD6 bP7) (aA6 bP7) (m8 bP7) .none kV_law dc_law pm_law an_law cd_law ct_law,λs v=>.of_eq rfl,λbase _ _=>eO3 ?_ pure⟩
 have O0:=bV5 (P:=l.prog) (w:=w) (base:=base) zb C0
 have O1:=cG0 (P:=l.prog) (w:=w) (base:=base) zb C1
 have O2:=cF8 (P:=l.prog) (w:=w) (base:=base) zb C2 (d8.of C1 O1)
 have O3:=cC5 (P:=l.prog) (w:=w) (base:=base) zb C3 (d8.of C2 O2)
 have O4:=cB1 (P:=l.prog) (w:=w) (base:=base) zb C4 (d8.of C1 O1) (d8.of C3 O3)
 have O5:=bS1 (P:=l.prog) (w:=w) (base:=base) zb C5 (d8.of C1 O1)
 have O6:=bW1 (P:=l.prog) (w:=w) (base:=base) zb C6 C7 (d8.of C1 O1) (d8.of C5 O5) (d8.of C2 O2)
 have O7:=bT4 (P:=l.prog) (w:=w) (base:=base) zb C7 (d8.of C1 O1) (d8.of C6 O6)
 have O8:=cF4 (P:=l.prog) (w:=w) (base:=base) zb C8 (d8.of C1 O1) (d8.of C3 O3)
 have O9:=bW4 (P:=l.prog) (w:=w) (base:=base) zb C9
 have O10:=bM4 (P:=l.prog) (w:=w) (base:=base) zb C10 (d8.of C1 O1)
 have O11:=cB8 (P:=l.prog) (w:=w) (base:=base) zb C11 C12 (d8.of C1 O1) (d8.of C10 O10)
 have O12:=bB6 (P:=l.prog) (w:=w) (base:=base) zb C12 (d8.of C1 O1) (d8.of C11 O11)
 have O13:=bG2 (P:=l.prog) (w:=w) (base:=base) zb C13
 have O14:=aX0 (P:=l.prog) (w:=w) (base:=base) zb C14 (d8.of C8 O8) (d8.of C9 O9) (d8.of C1 O1) (d8.of C13 O13) (d8.of C5 O5)
 have O15:=aX7 (P:=l.prog) (w:=w) (base:=base) zb C15 (d8.of C1 O1)
 have O16:=bN4 (P:=l.prog) (w:=w) (base:=base) zb C16 (d8.of C1 O1) (d8.of C8 O8) (d8.of C9 O9) (d8.of C11 O11) (d8.of C14 O14) (d8.of C15 O15) (d8.of C6 O6)
 have O17:=cE2 (P:=l.prog) (w:=w) (base:=base) zb C17
 have O18:=cQ9 (P:=l.prog) (w:=w) (base:=base) zb C18 (d8.of C17 O17)
 have O19:=cL5 (P:=l.prog) (w:=w) (base:=base) zb C19
 have O20:=bV3 (P:=l.prog) (w:=w) (base:=base) zb C20 (d8.of C19 O19)
 have O21:=cK7 (P:=l.prog) (w:=w) (base:=base) zb C21
 have O22:=bE2 (P:=l.prog) (w:=w) (base:=base) zb C22
 have O23:=cI1 (P:=l.prog) (w:=w) (base:=base) zb C23
 have O24:=cO5 (P:=l.prog) (w:=w) (base:=base) zb C24 C25 C26 (d8.of C20 O20) (d8.of C21 O21) (d8.of C22 O22) (d8.of C23 O23)
 have O25:=bM6 (P:=l.prog) (w:=w) (base:=base) zb C25 (d8.of C21 O21) (d8.of C24 O24)
 have O26:=bF6 (P:=l.prog) (w:=w) (base:=base) zb C26 (d8.of C22 O22) (d8.of C23 O23) (d8.of C24 O24)
 have O27:=cM5 (P:=l.prog) (w:=w) (base:=base) zb C27
 have O28:=cH3 (P:=l.prog) (w:=w) (base:=base) zb C28 (d8.of C17 O17) (d8.of C27 O27)
 have O29:=bN3 (P:=l.prog) (w:=w) (base:=base) zb C29
 have O30:=bW6 (P:=l.prog) (w:=w) (base:=base) zb C30
 have O31:=cT2 (P:=l.prog) (w:=w) (base:=base) zb C31 (d8.of C27 O27) (d8.of C29 O29) (d8.of C30 O30)
 have O32:=bM5 (P:=l.prog) (w:=w) (base:=base) zb C32
 have O33:=bP2 (P:=l.prog) (w:=w) (base:=base) zb C33 (d8.of C31 O31) (d8.of C32 O32)
 have O34:=bW2 (P:=l.prog) (w:=w) (base:=base) zb C34 (d8.of C33 O33)
 have O35:=cH8 (P:=l.prog) (w:=w) (base:=base) zb C35
 have O36:=cD1 (P:=l.prog) (w:=w) (base:=base) zb C36 (d8.of C34 O34) (d8.of C35 O35)
 have O37:=cP8 (P:=l.prog) (w:=w) (base:=base) zb C37 (d8.of C18 O18) (d8.of C24 O24) (d8.of C28 O28) (d8.of C36 O36)
 have O38:=cS9 (P:=l.prog) (w:=w) (base:=base) zb C38 C39
 have O39:=bC8 (P:=l.prog) (w:=w) (base:=base) zb C39 (d8.of C38 O38)
 have O40:=cD4 (P:=l.prog) (w:=w) (base:=base) zb C40
 have O41:=cJ4 (P:=l.prog) (w:=w) (base:=base) zb C41 (d8.of C9 O9) (d8.of C38 O38) (d8.of C40 O40) (d8.of C13 O13)
 have O42:=eV0 (P:=l.prog) (w:=w) (base:=base) zb C42 (d8.of C0 O0) (d8.of C4 O4) (d8.of C7 O7) (d8.of C16 O16) (d8.of C37 O37) (d8.of C41 O41)
 exact O42
theorem walk{l:PySem.W.OpenLaw}{q:zB}{loose:List Str}{XP:(Str->Option zf)->Heap->Prop}{YP:zJ->Heap->Prop}{d:DefRec}{K:Params->zj}(hn:l.most=some 63)(hdf:d.params.defaults= [])
 (hY:∀(w:zJ) (h:Heap),YP w h->(K w.params).In h)
 (F:∀(w:zJ) (mg:Str->Option zf) (fa:Addr) (h:Heap),(K w.params).In h->h.Ns jm mg->mg d.name=some (.ref fa)->
   ∃fd:zY,(∀(s:zh) (u:zf),Xf s fd ⟨[u], []⟩ [("script",u)])/\∀base:Heap,(K w.params).In base->base.Ns jm mg->K6 l.prog w (K w.params) mg base CX0 124 fa fd ["script"] (cV3 (K w.params))):
 PySem.W.WalkO q loose XP YP l.row.toRowW d [] (λf vs=>JC f vs):=
 L2.walk_of (n:=63) (k:=124) (x:= "script") (CX:=λ_=>CX0) (sp:=λw=>cV3 (K w.params)) hn (by decide) hdf ⟨rfl,by decide,by decide,rfl⟩ hY F (λ_ _ a ns hl hO hS=>⟨a,ns,rfl,hS,hO,hl,λ_=>rfl⟩) λ_ _ _ _ _ z=>z
mutual
noncomputable def szD:D->Nat
 | .tup l=>1+szL l
 | .str _=>1
 | .ref _=>1
 | .fn _=>1
 | .ty _=>1
 | .non=>1
 | .bl _=>1
 | .int _=>1
noncomputable def szL:List D->Nat
 |[]=>0
 |d::r=>szD d+szL r
end
theorem cB6:∀d:D,1<=szD d:=λd=>by cases d<;>unfold szD<;>lia
theorem bF2:∀l:List D,l.length<=szL l
 |[]=>by simp[szL]
 |d::r=>by
   have:=bF2 r
   have:=cB6 d
   unfold szL
   simp only[jg]
   lia
theorem bE7:∀a b:List D,szL (a++b)=szL a+szL b
 |[],b=>by simp[szL]
 |d::r,b=>by
   have:=bE7 r b
   simp only[Zq,szL]
   lia
noncomputable def aZ4:D->Option D
 | .tup [_,v]=>some v
 |_=>none
noncomputable abbrev U8:Str:= "list"
noncomputable abbrev W4:Str:= "record"
noncomputable def bI9(w:Str):D->Bool
 | .tup [.str a,.tup _]=>a==w
 |_=>false
noncomputable def aD5:D->List D
 | .tup [_,.tup l]=>l
 |_=> []
def kids(d:D):List D:=if bI9 U8 d then aD5 d else if bI9 W4 d then (aD5 d).filterMap aZ4 else []
theorem cA4{w:Str}{d:D}(h:bI9 w d=true):∃l,d= .tup [.str w,.tup l]:=by
 unfold bI9 at h
 split at h
 · rename_i a l
   rw[beq_iff_eq]at h
   subst h
   exact⟨l,rfl⟩
 ·exact cJ8 h
theorem dG1{x v:D}(h:aZ4 x=some v):∃a,x= .tup [a,v]:=by
 unfold aZ4 at h
 split at h
 · rename_i a b
   cases h
   exact⟨a,rfl⟩
 ·exact K1 h
theorem dA1:∀l:List D,szL (l.filterMap aZ4)<=szL l
 |[]=>by simp[szL]
 |x::r=>by
   have ih:=dA1 r
   rw[jP]
   rcases h:aZ4 x with _|v
   ·simp only[szL];lia
   ·
     obtain⟨a,rfl⟩:=dG1 h
     simp only[szL,szD]
     lia
theorem eA4(d:D):szL (kids d)<szD d:=by
 unfold kids
 split
 · rename_i ht
   obtain⟨l,rfl⟩:=cA4 ht
   simp only[aD5,szD,szL]
   lia
 · split
   · rename_i ht
     obtain⟨l,rfl⟩:=cA4 ht
     have:=dA1 l
     simp only[aD5,szD,szL]
     lia
   · have:=cB6 d
     simp only[szL]
     lia
noncomputable def Ap(G G':DH):Prop:=∃t,G'=G++t
theorem Ap.refl{G:DH}:Ap G G:=⟨[],by simp⟩
theorem Ap.trans{G G1 G2:DH}(h:Ap G G1)(k:Ap G1 G2):Ap G G2:=by
 obtain⟨t,rfl⟩:=h
 obtain⟨u,rfl⟩:=k
 exact⟨t++u,by simp⟩
theorem Ap.one{G:DH}{o:DO}:Ap G (G++[o]):=⟨_,rfl⟩
theorem Ap.at{G G':DH}{p:Nat}{o:DO}(h:Ap G G')(e:G[p]? =some o):G'[p]? =some o:=by
 obtain⟨t,rfl⟩:=h
 exact U7 e
theorem Ap.len{G G':DH}(h:Ap G G'):G.length<=G'.length:=by
 obtain⟨t,rfl⟩:=h
 simp
theorem Ap.gr{G G':DH}(h:Ap G G'):Gr G G':=by
 obtain⟨t,rfl⟩:=h
 exact Gr.app
section
variable{g:Fg}{t:DSt->M Bool}{e:Fe}{ck:DH->Bool}
theorem aQ0(J:DH->Prop)(S:DSt->Prop)(f:D->D)(hck:∀G,J G->ck G=true):∀(items:List D) (O:DSt) (G:DH),S O->J G->
 (∀d∈items,∀ O G,S O->J G->Wp (g d O) G λWZ G1=>G1=G/\S WZ/\Wp (t WZ) G λb G2=>b=true/\G2=G/\Wp (e WZ) G λy G3=>J G3/\y=f d)->
 Wp (M6 g t e ck items O) G λys G'=>J G'/\ys=items.map f
 |[],O,G,s,j,_=>by
   rw[bE3]
   exact⟨hck G j,j,rfl⟩
 |d::r,O,G,s,j,step=>by
   rw[bG6]
   refine⟨hck G j,Wp.mono (step d (by simp) O G s j) λWZ G1 ⟨e1,s1,w1⟩=>?_⟩
   subst e1
   refine Wp.mono w1 λb G2 ⟨eb,e2,w2⟩=>?_
   subst eb e2
   rw[if_pos rfl]
   refine Wp.mono w2 λy G3 ⟨j3,py⟩=>?_
   refine Wp.mono (aQ0 J S f hck r WZ G3 s1 j3 λd hd=>step d (by simp[hd])) λys G4 ⟨j4,l4⟩=>⟨j4,by simp[l4,py]⟩
end
theorem cE9{G:DH}{p q:Nat}{xs:List D}{Q:DPP}(e:G[p]? =some (.lst xs))(eq:G[q]? =some (.lst [])):Wp (eqD (.ref p) (.ref q)) G Q↔Q (.bl xs.isEmpty) G:=by
 have h:eqN 40 G (.ref p) (.ref q)=some xs.isEmpty:=by
  have h1:S6 G (.ref p)=some (false,xs):=by simp only[S6,e]
  have h2:S6 G (.ref q)=some (false, []):=by simp only[S6,eq]
  rw[cJ5,h1,h2]
  cases xs<;>rfl
 rw[cJ1,h];exact Q8
theorem eH6{G:DH}{p:Nat}{l:List D}{lo hi:Option Int}{Q:DPP}(e:G[p]? =some (.lst l)):Wp (slD (.ref p) lo hi) G Q↔Q (.ref G.length) (G++[.lst (DL.cutD l lo hi)]):=by
 have h:slD (.ref p) lo hi= (do
  let l <-S7 p >>= DL.listOf
  R0 (.lst (DL.cutD l lo hi))):=rfl
 rw[h]
 simp only[m9,R8,e,Q8,DL.listOf,wp_pure,X4]
theorem big:1000000<zk:=by decide
theorem bF4{l:List D}:bI9 U8 (.tup [.str W4,.tup l])=false:=by
 show (W4==U8)=false
 decide
section
variable{t:DSt->M Bool}{b:Fs}{O:DSt}{G:DH}{P:Fl->DH->Prop}
theorem aQ5{n:Nat}:Wp (X5 (n+1) t b O) G P↔Wp (t O) G λk G1=>if k=true then Wp (b O) G1 λfl G2=>match fl with
 | .nx X2=>Wp (X5 n t b X2) G2 P
 | .ct X2=>Wp (X5 n t b X2) G2 P
 | .bk X2=>P (.nx X2) G2
 | .rt d=>P (.rt d) G2
 else P (.nx O) G1:=by
 rw[X5]
 simp only[m9,aX1,wp_pure]
 constructor
 · rintro⟨k,G1,e,q⟩
   refine⟨k,G1,e,?_⟩
   rcases k with _|_
   ·exact q
   ·
     simp only[if_true]at q ⊢
     obtain⟨fl,G2,e2,q⟩:=q
     refine⟨fl,G2,e2,?_⟩
     cases fl<;>first
      |exact q
      |exact wp_pure.mp q
 · rintro⟨k,G1,e,q⟩
   refine⟨k,G1,e,?_⟩
   rcases k with _|_
   ·exact q
   ·
     simp only[if_true]at q ⊢
     obtain⟨fl,G2,e2,q⟩:=q
     refine⟨fl,G2,e2,?_⟩
     cases fl<;>first
      |exact q
      |exact wp_pure.mpr q
theorem bR3{n:Nat}(h:Wp (X5 n t b O) G P):Wp (aR7 t b O) G P:=by
 obtain⟨a,G',e,q⟩:=h
 refine⟨a,G',?_,q⟩
 have hx:∃n,(X5 n t b O G).isSome=true:=⟨n,by rw[e];rfl⟩
 unfold aR7
 rw[dif_pos hx]
 have hs:=Classical.choose_spec hx
 obtain⟨r,hr⟩:=Xp.mp hs
 rw[hr]
 have e1:=bZ9 (Nat.le_max_left n (Yb hx)) e
 have e2:=bZ9 (Nat.le_max_right n (Yb hx)) hr
 rw[e1]at e2
 exact e2.symm
end
theorem dV7{r:Nat}{l:List D}{y:D}{G:DH}{Q:DPP}(h:G[r]? =some (.lst (l++[y]))):Wp (eC5 (.ref r) []) G Q↔Q y (G.set r (.lst l)):=by
 have e:eC5 (.ref r) []= (do
  let l <-lstM r
  match l.getLast? with
  |some y=>do
    let _ <-bB9 r (.lst l.dropLast)
    pure y
  |none=>M.stuck):=rfl
 rw[e]
 unfold lstM
 simp only[m9,R8,h,Q8,wp_pure,List.getLast?_append,List.getLast?_singleton,Option.some_or,List.dropLast_concat,bI0]
theorem cS4{r q:Nat}{l k:List D}{G:DH}{Q:DPP}(h:G[r]? =some (.lst l))(hq:G[q]? =some (.lst k))(hl:l.length+k.length<=zk):Wp (bO5 (.ref r) [.ref q]) G Q↔Q .non (G.set r (.lst (l++k))):=by
 have e:bO5 (.ref r) [.ref q]= (do
  let l <-lstM r
  let k <-lstM q
  if l.length+k.length<=zk then do
   let _ <-bB9 r (.lst (l++k))
   pure .non
  else M.stuck):=rfl
 rw[e]
 unfold lstM
 simp only[m9,R8,h,hq,Q8,wp_pure,if_pos hl,bI0]
theorem Gr.set{G0 G:DH}{p:Nat}{o:DO}(h:Gr G0 G)(hp:G0.length<=p):Gr G0 (G.set p o):=⟨by rw[YY];exact h.1,λi hi=>by rw[jf (by lia)];exact h.2 i hi⟩
theorem dD0{p:Nat}{xs:List D}{G:DH}{B:Bool->DH->Prop}(e:G[p]? =some (.lst xs)):Wp (aF2 (.ref p)) G B↔B (!xs.isEmpty) G:=by
 unfold aF2
 simp only[m9,R8,e,Q8,wp_pure]
theorem lt_of_get{G:DH}{p:Nat}{o:DO}(e:G[p]? =some o):p<G.length:=by
 by_cases hi:p<G.length
 ·exact hi
 ·rw[zK (by lia)]at e;exact K1 e
theorem bJ8{l:List D}:kids (.tup [.str U8,.tup l])=l:=by
 unfold kids
 simp only[show bI9 U8 (.tup [.str U8,.tup l])=true from by simp[bI9],if_true,aD5]
theorem bQ2{l:List D}:kids (.tup [.str W4,.tup l])=l.filterMap aZ4:=by
 unfold kids
 rw[bF4]
 simp only[zC,if_false,show bI9 W4 (.tup [.str W4,.tup l])=true from by simp[bI9],if_true,aD5]
noncomputable def VB(b:Nat):Nat->D->Prop
 |0,_=>False
 |n+1,d=>(∃i,d= .int i)\/(∃k,d= .bl k)\/(∃z,d= .str z/\z.length<=b)\/(∃l,d= .tup [.str U8,.tup l]/\∀x∈l,VB b n x)\/(∃l,d= .tup [.str W4,.tup l]/\∀x∈l,∃nm v,x= .tup [.str nm,v]/\nm.length<=1000/\VB b n v)
theorem VB.le{b c:Nat}(hb:b<=c):∀ {n m:Nat} {d:D},n<=m->VB b n d->VB c m d
 |0,_,_,_,h=>h.elim
 |n+1,0,_,h,_=>by lia
 |n+1,m+1,d,h,a=>by
   rcases a with a|a|⟨z,e,hz⟩|⟨l,e,hl⟩|⟨l,e,hl⟩
   ·exact .inl a
   ·exact .inr (.inl a)
   ·exact .inr (.inr (.inl ⟨z,e,by lia⟩))
   ·exact .inr (.inr (.inr (.inl ⟨l,e,λx hx=>VB.le hb (by lia) (hl x hx)⟩)))
   ·exact .inr (.inr (.inr (.inr ⟨l,e,λx hx=>let ⟨nm,v,q1,q2,q3⟩:=hl x hx;⟨nm,v,q1,q2,VB.le hb (by lia) q3⟩⟩)))
section
variable{bd n:Nat}
theorem VB.i{i:Int}:VB bd (n+1) (.int i):=.inl ⟨i,rfl⟩
theorem VB.b{i:Bool}:VB bd (n+1) (.bl i):=.inr (.inl ⟨i,rfl⟩)
theorem VB.s{z:Str}(h:z.length<=bd):VB bd (n+1) (.str z):=.inr (.inr (.inl ⟨z,rfl,h⟩))
theorem VB.l{l:List D}(h:∀x∈l,VB bd n x):VB bd (n+1) (.tup [.str U8,.tup l]):=.inr (.inr (.inr (.inl ⟨l,rfl,h⟩)))
theorem VB.r{l:List D}(h:∀x∈l,∃nm v,x= .tup [.str nm,v]/\nm.length<=1000/\VB bd n v):VB bd (n+1) (.tup [.str W4,.tup l]):=.inr (.inr (.inr (.inr ⟨l,rfl,h⟩)))
end
theorem VB.pos{b n:Nat}{d:D}(h:VB b n d):0<n:=by
 cases n with
 |zero=>exact h.elim
 |succ n=>lia
theorem VB.there{b n:Nat}{d:D}{G:DH}(h:VB b n d):aJ9 G d:=by
 cases n with
 |zero=>exact h.elim
 |succ n=>rcases h with⟨i,rfl⟩|⟨k,rfl⟩|⟨z,rfl,hz⟩|⟨l,rfl,hl⟩|⟨l,rfl,hl⟩<;>exact⟨_,rfl⟩
theorem VB.kids{b n:Nat}{d:D}(h:VB b (n+1) d):∀x∈W.kids d,VB b n x:=by
 intro x hx
 rcases h with⟨i,rfl⟩|⟨k,rfl⟩|⟨z,rfl,hz⟩|⟨l,rfl,hl⟩|⟨l,rfl,hl⟩
 ·cases hx
 ·cases hx
 ·cases hx
 · rw[bJ8]at hx
   exact hl x hx
 · rw[bQ2]at hx
   obtain⟨y,hy,ey⟩:=Ye.mp hx
   obtain⟨nm,v,rfl,hn,hv⟩:=hl y hy
   cases ey
   exact hv
theorem cC1:∀l:List D,szL l.reverse=szL l
 |[]=>rfl
 |x::r=>by rw[xt,bE7,cC1 r];simp only[szL];lia
theorem dQ7{l:List D}:szD (.tup [.str U8,.tup l])=szL l+3:=by simp only[szD,szL];lia
theorem cF3{l:List D}:szD (.tup [.str W4,.tup l])=szL l+3:=by simp only[szD,szL];lia
theorem dK6{z:Str}{v:D}:szD (.tup [.str z,v])=szD v+2:=by simp only[szD,szL];lia
theorem dK5(l:List D)(n:Nat):DL.cutD l none (some (n:Int))=l.take n:=by
 unfold DL.cutD
 rw[HT.sIx_none,HT.sIx_nat,List.drop_zero,Nat.sub_zero]
 by_cases h:n<=l.length
 ·rw[Nat.min_eq_left h]
 ·rw[Nat.min_eq_right (by lia),xr (zo _),xr (by lia)]
section
variable{G:DH}{Q:DPP}
noncomputable def bH3:D->Bool
 | .bl _=>true
 |_=>false
theorem cG1{d:D}(h:aJ9 G d):Wp (v7 [d,.ty "bool"]) G Q↔Q (.bl (bH3 d)) G:=by
 obtain⟨k,h⟩:=h
 rw[aZ2 eC4]
 simp only[h,Q8]
 rw[cI6 (bH3) (λk=>k.is .bool) h (λ_=>⟨rfl,rfl⟩) rfl (λ_=>rfl) (λ_=>rfl) (λ_=>rfl) λ_=>rfl]
theorem fD0{a c:Bool}:Wp (neD (.bl a) (.bl c)) G Q↔Q (.bl (!(a==c))) G:=by
 have e:eqN 40 G (.bl a) (.bl c)=some (a==c):=by rfl
 rw[bP6,e];exact Q8
theorem eF3{a c:Bool}:Wp (eqD (.bl a) (.bl c)) G Q↔Q (.bl (a==c)) G:=by
 have e:eqN 40 G (.bl a) (.bl c)=some (a==c):=by rfl
 rw[cJ1,e];exact Q8
theorem dW9{xs:List D}:Wp (neD (.tup xs) (.tup [])) G Q↔Q (.bl (!xs.isEmpty)) G:=by
 have h:eqN 40 G (.tup xs) (.tup [])=some xs.isEmpty:=by
  rw[cJ5]
  cases xs<;>rfl
 rw[bP6,h];exact Q8
theorem eJ3{k:Bool}:Wp (dT8 [.bl k]) G Q↔Q (.int (if k then 1 else 0)) G:=wp_pure
theorem cY2{i:Int}:Wp (dH3 [.int i]) G Q↔Q (.int (if i<0 then -i else i)) G:=wp_pure
theorem cF1{ds:List D}{k:Int}(h0:0<=k)(h1:k<ds.length)(q:∀d∈ds,Q d (G++[.lst ds])):Wp (ixD (.ref G.length) (.int k)) (G++[.lst ds]) Q:=by
 rw[bJ1 o4]
 obtain⟨d,hd,e⟩:=bR8 (l:=ds) h0 h1
 exact⟨d,e,q d hd⟩
end
noncomputable def aN2{α β:Type}(R:α->β->Prop):List α->List β->Prop
 |[], []=>True
 |a::r,b::s=>R a b/\aN2 R r s
 |_,_=>False
section
variable{α β:Type}{R S:α->β->Prop}
theorem aN2.len:∀ {a:List α} {b:List β},aN2 R a b->a.length=b.length
 |[], [],_=>rfl
 |_::_,_::_,h=>by simp[aN2.len h.2]
 |[],_::_,h=>h.elim
 |_::_, [],h=>h.elim
theorem aN2.mono(k:∀a b,R a b->S a b):∀ {a:List α} {b:List β},aN2 R a b->aN2 S a b
 |[], [],_=>trivial
 |_::_,_::_,h=>⟨k _ _ h.1,aN2.mono k h.2⟩
 |[],_::_,h=>h.elim
 |_::_, [],h=>h.elim
theorem aN2.app:∀ {a c:List α} {b d:List β},aN2 R a b->aN2 R c d->aN2 R (a++c) (b++d)
 |[],_, [],_,_,h=>h
 |_::_,_,_::_,_,h,k=>⟨h.1,aN2.app h.2 k⟩
 |[],_,_::_,_,h,_=>h.elim
 |_::_,_, [],_,h,_=>h.elim
end
noncomputable abbrev bP9:Str:= "any"
abbrev wOf:Str:= "of"
noncomputable def J3(p:Str×D):D:=.tup [.str p.1,p.2]
noncomputable def stD(p:D×D):D:=.tup [p.1,p.2]
noncomputable def fdD(f:Str×Bool×D):D:=.tup [.str f.1,.bl f.2.1,f.2.2]
def mkS(ns:List (D×D))(w:Str)(ts:List Str)(tr:List Bool)(li re:D):D:=.tup [.tup (ns.map stD),.tup [.str w,.tup (ts.map D.str)],.tup (tr.map D.bl),li,re]
def VW(b:Nat):Nat->D->Prop
 |0,_=>False
 |n+1,d=>(∃i,d= .int i)\/(∃k,d= .bl k)\/(∃z:Str,d= .str z/\z.length<=1000+b)\/(∃l,d= .tup [.str U8,.tup l]/\l.length<=b/\∀x∈l,VW b n x)\/
    ∃ps:List (Str×D),d= .tup [.str W4,.tup (ps.map J3)]/\ps.length<=b/\(ps.map (·.1)).Nodup/\∀p∈ps,p.1.length<=1000/\VW b n p.2
noncomputable def bM3:D->Prop
 | .non=>True
 | .int _=>True
 |_=>False
def cT7(p:D×D):Prop:=bM3 p.1/\bM3 p.2/\True
noncomputable def LiP(S:D->Prop)(li:D):Prop:=li= .non\/∃fs m,li= .tup [.tup fs,m]/\fs.length<=100/\(∀x∈fs,S x)/\S m
def ReP(S:D->Prop)(re:D):Prop:=re= .non\/∃(fs:List (Str×Bool×D)) (m:D),re= .tup [.tup (fs.map fdD),m]/\fs.length<=60/\(fs.map (·.1)).Nodup/\(∀f∈fs,f.1.length<=1000/\S f.2.2)/\S m
def SB:Nat->D->Prop
 |0,_=>False
 |n+1,d=>d= .str bP9\/∃ns w ts tr li re,d=mkS ns w ts tr li re/\(∀p∈ns,cT7 p)/\ns.length<=100/\(∀z∈ts,z.length<=2000)/\ts.length<=100/\tr.length<=100/\LiP (SB n) li/\ReP (SB n) re
noncomputable def loB(i:Int):D->Bool
 | .int x=>decide (x<=i)
 |_=>true
noncomputable def hiB(i:Int):D->Bool
 | .int y=>decide (i<=y)
 |_=>true
def cL8(i:Int):D->Bool
 | .tup [a,b]=>loB i a&&hiB i b
 |_=>true
noncomputable def nmD(nm:Str):D->Bool
 | .tup (.str z::_)=>decide (z=nm)
 |_=>false
def aM4(fs:List D)(m:D)(nm:Str):D:=match fs.find? (nmD nm) with
 |some (.tup [_,_,s])=>s
 |_=>m
def aJ1(l:List D):D->Bool
 | .tup [.str nm,.bl b,_]=>l.any (nmD nm)||!b
 |_=>true
def dA6(f:D->D->Bool)(fs:List D)(m:D):D->Bool
 | .tup [.str nm,v]=>f v (aM4 fs m nm)
 |_=>true
def cM2(f:D->D->Bool)(l:List D):D->Bool
 | .tup [.tup fs,m]=>decide (fs.length<=l.length)&&(jw l.length).all λk=>f (l.getD k .non) ((fs++zt l.length m).getD k .non)
 |_=>false
def cE0(f:D->D->Bool)(l:List D):D->Bool
 | .tup [.tup fs,m]=>fs.all (aJ1 l)&&l.all (dA6 f fs m)
 |_=>false
def inP:Nat->D->D->Bool
 |0,_,_=>false
 |n+1,v,s=>match s with
   | .tup [.tup ns,.tup [.str w,.tup ts],.tup tr,li,re]=>match v with
     | .bl b=>inV (.bl b) (tr.map toV)
     | .int i=>ns.any (cL8 i)
     | .str z=>inV (.str z) (ts.map toV)==(w==wOf)
     | .tup [.str k,.tup l]=>if k=U8 then cM2 (inP n) l li else cE0 (inP n) l re
     |_=>false
   |_=>true
section
variable{n:Nat}{ns:List (D×D)}{w:Str}{ts:List Str}{tr:List Bool}{li re:D}
theorem dU7{l:List D}:inP (n+1) (.tup [.str U8,.tup l]) (mkS ns w ts tr li re)=cM2 (inP n) l li:=by
 show (if U8=U8 then cM2 (inP n) l li else cE0 (inP n) l re)=_
 exact if_pos rfl
theorem dH7{l:List D}:inP (n+1) (.tup [.str W4,.tup l]) (mkS ns w ts tr li re)=cE0 (inP n) l re:=by
 show (if W4=U8 then cM2 (inP n) l li else cE0 (inP n) l re)=_
 exact if_neg (by decide)
end
noncomputable def cT1:D->D->Bool
 | .int x,.int y=>decide (x>y)
 |_,_=>false
theorem aW8{i j:Int}{G:DH}{Q:DPP}:Wp (gtD (.int i) (.int j)) G Q↔Q (.bl (decide (i>j))) G:=wp_pure
theorem bL1{a b:D}{G:DH}{Q:DPP}(ha:bM3 a)(hb:bM3 b):Wp (aG4 [a,b]) G Q↔Q (.bl (cT1 a b)) G:=aS6 (by
 cases a<;>cases b<;>first
  |exact ha.elim
  |exact hb.elim
  |rfl)
theorem cQ6{i:Int}{a b:D}{G:DH}{Q:DPP}(ha:bM3 a)(hb:bM3 b):Wp (U3 [.int i,a,b]) G Q↔Q (.bl (cL8 i (.tup [a,b]))) G:=by
 unfold U3 aR3
 have s0:([.int i,a,b].map some++zt (3 - [D.int i,a,b].length) none:DSt)= [some (.int i),some a,some b]:=rfl
 simp only[R6,s0,M7,aE7,dR4,v8,J4,o8,m7,o5,zc,ze,zd,exists_eq_left',bL1 ha (show bM3 (.int i)from trivial),bL1 (show bM3 (.int i)from trivial) hb,K4]
 have e1:(!cT1 a (.int i))=loB i a:=by
  cases a<;>first
   |exact ha.elim
   |rfl
   |(simp only[cT1,loB,decide_not.symm];congr 1;exact propext ⟨λz=>by omega,λz=>by omega⟩)
 have e2:(!cT1 (.int i) b)=hiB i b:=by
  cases b<;>first
   |exact hb.elim
   |rfl
   |(simp only[cT1,hiB,decide_not.symm];congr 1;exact propext ⟨λz=>by omega,λz=>by omega⟩)
 have e3:cL8 i (.tup [a,b])= (loB i a&&hiB i b):=rfl
 rw[e3,<-e1,<-e2]
 generalize cT1 a (.int i)=x
 generalize cT1 (.int i) b=y
 cases x<;>cases y<;>simp
theorem dG0{i:Int}{G:DH}{ck:DH->Bool}(hck:ck G=true){ns:List (D×D)}(h:∀p∈ns,cT7 p)(O:DSt)(WY:∃u v,O= [u,v,some (.int i)]):
 M6 (aE0 2 (w6 (q13 0) (w6 (q13 1) (aF6)))) W0 (q12 (fnX 3 U3) (q10 (b8 2) (q10 (b8 0) (q10 (b8 1) q11)))) ck (ns.map stD) O G=some (.ok ((ns.map stD).map λd=>.bl (cL8 i d)),G):=by
 refine Z0 (I:=λO=>∃u v,O= [u,v,some (.int i)]) hck _ _ WY λd hd O WY=>?_
 obtain⟨p,hp,rfl⟩:=zL.mp hd
 obtain⟨u,v,rfl⟩:=WY
 refine⟨[some p.1,some p.2,some (.int i)],aW7 ?_,⟨_,_,rfl⟩,rfl,aW7 ?_⟩
 · unfold stD
   rw[cX4]
   simp only[bD1,bO8,u0,zx,zr]
   exact⟨trivial,trivial⟩
 · simp only[v8,o8,m7,o5,J4,zc,ze,zd,exists_eq_left',cQ6 (h p hp).1 (h p hp).2.1]
   exact⟨rfl,rfl,trivial⟩
theorem bR4{fs:List D}{m:D}{k n:Nat}(hk:k<n):(fs++zt n m).getD k .non=if k<fs.length then fs.getD k .non else m:=by
 by_cases h:k<fs.length
 ·rw[if_pos h,zE,zH h,<-zE]
 ·rw[if_neg h,zE,yk (by omega),xl,if_pos (by omega)];rfl
theorem dN4{fs:List D}{m:D}{k n:Nat}(hk:k<n){G:DH}{Q:DPP}(hz:fs.length<=zk):Wp (Z5 [.tup [.tup fs,m],.int (k:Int)]) G Q↔Q ((fs++zt n m).getD k .non) G:=by
 rw[bR4 hk]
 unfold Z5 bC4
 have s0:([.tup [.tup fs,m],.int (k:Int)].map some++zt (2 - [D.tup [.tup fs,m],.int (k:Int)].length) none:DSt)= [some (.tup [.tup fs,m]),some (.int (k:Int))]:=rfl
 have a0:atI [D.tup fs,m] 0=some (.tup fs):=rfl
 have a1:atI [D.tup fs,m] 1=some m:=rfl
 simp only[R6,s0,M7,dS5,N7,w5,v8,o8,m7,Q9,o5,zc,ze,zd,exists_eq_left',ix_tup,a0,a1,cG6,aM6,aB0]
 by_cases h:k<fs.length
 · rw[if_pos (by simpa using h),if_pos h]
   have e:atI fs (k:Int)=some (fs.getD k .non):=atI_nat (by rw[zE,zu h];rfl)
   simp only[e,zd,exists_eq_left']
 ·rw[if_neg (by simpa using h),if_neg h]
theorem eA8{g:D->Bool}{F:Nat->Bool}{l:List D}(h:∀(k:Nat) (v:D),l[k]? =some v->g (.tup [.int (k:Int),v])=F k):((l.zipIdx.map λp=>D.tup [.int ((p.2:Nat):Int),p.1]).all g)= (jw l.length).all F:=by
 rw[Bool.eq_iff_iff,xy,xy]
 constructor
 · intro H k hk
   have hk':k<l.length:=by simpa using hk
   have:=H (.tup [.int (k:Int),l[k]]) (zL.mpr ⟨(l[k],k),xH.mpr (by simp[hk']),rfl⟩)
   rw[h k l[k] (by simp[hk'])]at this
   exact this
 · intro H d hd
   obtain⟨p,hp,rfl⟩:=zL.mp hd
   have hp':=xH.mp hp
   have hlt:p.2<l.length:=by
    rcases xa p.2 l.length with z|z
    ·exact z
    ·rw[zK z]at hp';cases hp'
   rw[h p.2 p.1 hp']
   exact H p.2 (by simpa using hlt)
def liG(n:Nat)(len:Nat)(fs:List D)(m:D):D->Bool
 | .tup [.int k,v]=>inP n v ((fs++zt len m).getD k.toNat .non)
 |_=>true
theorem cN1{fs:List D}{m:D}{k n:Nat}(hk:k<n):(fs++zt n m).getD k .non∈fs\/(fs++zt n m).getD k .non=m:=by
 rw[bR4 hk]
 by_cases h:k<fs.length
 ·rw[if_pos h,zE,zu h];exact .inl (Zp h)
 ·rw[if_neg h];exact .inr rfl
theorem dW3{R:List D->M D}{n:Nat}{l fs:List D}{m:D}{G:DH}(hl:l.length<=1000)(hf:fs.length<=100)(hR:∀v∈l,∀s,s∈fs\/s=m->∀G,Wp (R [v,s]) G λx G'=>x= .bl (inP n v s)/\Ap G G'):
 Wp (V0 R [.tup l,.tup [.tup fs,m]]) G λx G'=>x= .bl (cM2 (inP n) l (.tup [.tup fs,m]))/\Ap G G':=by
 have bg:=big
 refine T8 (show Wp (aM9 R [some (.tup l),some (.tup [.tup fs,m])]) G _ from ?_)
 refine j9.mpr<| aN1<| cO6<| m6 (a:=false) (G':=G) rfl ⟨λz=>(nomatch z),λ_=>R5<| P0 (x:=.int l.length) (y:=.int fs.length) rfl rfl<| aM6.mpr ⟨_,rfl,λhlt=>?_,λhlt=>v6.mpr ?_⟩⟩
 · have hlt:(l.length:Int)<fs.length:=of_decide_eq_true hlt
   refine m6 (a:=.rt (.bl false)) rfl (K8 ⟨?_,Ap.refl⟩)
   have:decide (fs.length<=l.length)=false:=decide_eq_false (by omega)
   show _=D.bl (decide (fs.length<=l.length)&&_)
   rw[this];rfl
 · have hlt:¬(l.length:Int)<fs.length:=of_decide_eq_false hlt
   refine Q7<| T7<| J5<| wp_comp.mpr<| dD6 (l:=l)<| m6 (a:= [.tup l]) rfl ⟨rfl,by simp;omega,?_⟩
   refine(aQ0 (λG'=>Ap G G') (λO=>∃u v,O= [u,v,some (.tup [.tup fs,m])]) (λd=>.bl (liG n l.length fs m d)) (λ_ _=>rfl) _ _ G ⟨_,_,rfl⟩ Ap.refl ?_).mono ?_
   · rintro d hd O G1 ⟨u,v,rfl⟩ j1
     obtain⟨p,hp,rfl⟩:=zL.mp hd
     have hp':=xH.mp hp
     have hm:p.1∈l:=yd hp'
     have hlt:p.2<l.length:=by
      rcases xa p.2 l.length with z|z
      ·exact z
      ·rw[zK z]at hp';cases hp'
     refine m6 (a:= [some (.int p.2),some p.1,some (.tup [.tup fs,m])]) rfl ⟨rfl,⟨_,_,rfl⟩,m6 rfl ⟨rfl,rfl,?_⟩⟩
     refine T7<| N5 (x:=p.1) rfl<| J5<| t7 (as:= [.tup [.tup fs,m],.int p.2]) rfl rfl<| (dN4 hlt (show fs.length<=zk by omega)).mpr<| m7.mpr<| J4.mpr ⟨rfl,(hR p.1 hm _ (cN1 hlt) G1).mono λx G2 z=>⟨j1.trans z.2,?_⟩⟩
     rw[z.1]
     show _=D.bl (inP n p.1 ((fs++zt l.length m).getD (Int.toNat (p.2:Int)) .non))
     rw[zW]
   · rintro _ G1 ⟨j1,rfl⟩
     refine m7.mpr<| (cB7 (f:=liG n l.length fs m) o4).mpr<| K8 ⟨?_,j1.trans Ap.one⟩
     have hd:decide (fs.length<=l.length)=true:=decide_eq_true (by omega)
     show _=D.bl (decide (fs.length<=l.length)&&_)
     rw[hd,Bool.true_and,eA8 (F:=λk=>inP n (l.getD k .non) ((fs++zt l.length m).getD k .non))]
     intro k v hv
     show inP n v ((fs++zt l.length m).getD (Int.toNat (k:Int)) .non)=_
     rw[zW,zE,zE,hv];rfl
theorem list_none{R:List D->M D}{l:List D}{G:DH}:Wp (V0 R [.tup l,.non]) G λx G'=>x= .bl false/\Ap G G':=cD6 (d:=.bl false) rfl ⟨rfl,Ap.refl⟩
theorem aY4(f:Str×D->D):∀(ps:List (Str×D)) (z:Str),R3 (ps.map λp=>((.inr p.1:Key),f p)) (.inr z)= (ps.find? λp=>decide (p.1=z)).map f
 |[],z=>rfl
 |p::r,z=>by
   have ih:=aY4 f r z
   unfold R3 at ih ⊢
   by_cases e:p.1=z
   ·simp[yo,e]
   · have e':¬((.inr p.1:Key)= .inr z):=λq=>e (Zz q)
     simp only[zG,yo,e,e',decide_false,ih]
theorem bJ5:∀ps:List (Str×D),aF0 (ps.map J3)=some (ps.map λp=>((.inr p.1:Key),p.2))
 |[]=>rfl
 |p::r=>by
   rw[zG,zG]
   show (match bY2 (J3 p),aF0 (r.map J3) with|some p,some ps=>some (p::ps)|_,_=>none)=_
   rw[bJ5 r];rfl
theorem bE8:∀(r acc:List (Str×D)),((acc++r).map (·.1)).Nodup->DL.putAll (acc.map λp=>((.inr p.1:Key),p.2)) (r.map λp=>((.inr p.1:Key),p.2))= (acc++r).map λp=>((.inr p.1:Key),p.2)
 |[],acc,h=>by simp[DL.putAll]
 |p::r,acc,h=>by
   have hn:¬((acc.map λp=>((.inr p.1:Key),p.2)).any λkv=>decide (kv.1= .inr p.1))=true:=by
    intro q
    obtain⟨kv,hk,e⟩:=YN.mp q
    obtain⟨x,hx,rfl⟩:=zL.mp hk
    have ex:x.1=p.1:=Zz (of_decide_eq_true e)
    rw[jI,Yw]at h
    exact h.2.2 x.1 (zL.mpr ⟨x,hx,rfl⟩) p.1 (by simp) ex
   have e1:aU9 (acc.map λp=>((.inr p.1:Key),p.2)) (.inr p.1) p.2= (acc++[p]).map λp=>((.inr p.1:Key),p.2):=by
    unfold aU9
    rw[if_neg hn,jI];rfl
   have ih:=bE8 r (acc++[p]) (by simpa using h)
   show DL.putAll (aU9 (acc.map λp=>((.inr p.1:Key),p.2)) (.inr p.1) p.2) (r.map λp=>((.inr p.1:Key),p.2))=_
   rw[e1,ih]
   simp
theorem cC9{G:DH}{q:Nat}{l:List (Key×D)}{z:Str}(e:G[q]? =some (.dct l)):inB (.str z) (.ref q) G=some (R3 l (.inr z)).isSome:=by
 show (match G[q]? with
  |some (.dct l)=>(bU2 (.str z)).map λk=>(R3 l k).isSome
  |some (.rod _)=>none
  |some (.lst l)=>if W9 (.str z)&&l.all W9 then some (inV (toV (.str z)) (l.map toV))else none
  |some (.rol l)=>if W9 (.str z)&&l.all W9 then some (inV (toV (.str z)) (l.map toV))else none
  |none=>none)=_
 rw[e];rfl
theorem cL0{r:Nat}{l:List D}{ps:List (Key×D)}{G:DH}{Q:DPP}(e:G[r]? =some (.lst l))(h:aF0 l=some ps):Wp (aP1 [.ref r]) G Q↔Q (.ref G.length) (G++[.dct (putAll [] ps)]):=by
 unfold aP1
 simp only[m9,R8,e,Q8,DL.listOf,wp_pure,aL3,h,X4]
theorem cT9{g:Fgs}{a b c:D}{O:DSt}{G:DH}{S:DSt->DH->Prop}:Wp (aE0 3 g (.tup [a,b,c]) O) G S↔Wp (g [a,b,c] O) G S:=cX9 rfl
noncomputable def kv(f:Str×D):Key×D:=(.inr f.1,f.2)
noncomputable def tv(f:Str×Bool×D):Key×D:=(.inr f.1,.tup [.bl f.2.1,f.2.2])
theorem dM9{ps:List (Str×D)}{G:DH}{Q:DPP}(h:(ps.map (·.1)).Nodup):Wp (aP1 [.tup (ps.map J3)]) G Q↔Q (.ref G.length) (G++[.dct (ps.map kv)]):=by
 rw[cM8 (bJ5 ps)]
 have:=bE8 ps [] (by simpa using h)
 simp only[jZ,xi]at this
 rw[this];rfl
theorem cJ0{α:Type}(f:α->Bool):∀l:List α,(l.find? f).isSome=l.any f
 |[]=>rfl
 |a::r=>by
   rw[ju]
   cases h:f a with
   |true=>rw[Zx h];rfl
   |false=>rw[Zy (by simp[h]),cJ0 f r];rfl
theorem dY5{ps:List (Str×D)}{z:Str}:(R3 (ps.map kv) (.inr z)).isSome= (ps.map J3).any (nmD z):=by
 show (R3 (ps.map λp=>((.inr p.1:Key),p.2)) (.inr z)).isSome=_
 rw[aY4 (λp=>p.2),xX,cJ0,yG];rfl
theorem cY4:∀(fs:List (Str×Bool×D)) (z:Str),R3 (fs.map tv) (.inr z)= (fs.find? λf=>decide (f.1=z)).map λf=>.tup [.bl f.2.1,f.2.2]
 |[],z=>rfl
 |f::r,z=>by
   rw[zG]
   by_cases e:f.1=z
   · have h1:R3 (tv f::r.map tv) (.inr z)=some (.tup [.bl f.2.1,f.2.2]):=by unfold R3 tv;simp[e]
     rw[h1,Zx (by simpa using e)];rfl
   · have h1:R3 (tv f::r.map tv) (.inr z)=R3 (r.map tv) (.inr z):=by unfold R3 tv;simp[e]
     rw[h1,Zy (by simpa using e)]
     exact cY4 r z
theorem bP5(fs:List (Str×Bool×D))(m:D)(z:Str):aM4 (fs.map fdD) m z= ((fs.find? λf=>decide (f.1=z)).map (·.2.2)).getD m:=by
 unfold aM4
 rw[List.find?_map]
 have e:(nmD z∘fdD)=λf:Str×Bool×D=>decide (f.1=z):=rfl
 rw[e]
 cases fs.find? λf=>decide (f.1=z)<;>rfl
theorem bV1{fs:List (Str×Bool×D)}{m:D}{z:Str}:(∃f∈fs,aM4 (fs.map fdD) m z=f.2.2)\/aM4 (fs.map fdD) m z=m:=by
 rw[bP5]
 cases e:fs.find? λf=>decide (f.1=z) with
 |none=>exact .inr rfl
 |some f=>exact .inl ⟨f,xZ e,rfl⟩
theorem dH9{q:Nat}{fs:List (Str×Bool×D)}{m:D}{z:Str}{G:DH}{Q:DPP}(e:G[q]? =some (.dct (fs.map tv))):Wp (Z9 [.ref q,m,.str z]) G Q↔∃b,Q (.tup [.bl b,aM4 (fs.map fdD) m z]) G/\b= ((fs.find? λf=>decide (f.1=z)).map (·.2.1)).getD false:=by
 unfold Z9 bC7
 have s0:([.ref q,m,.str z].map some++zt (3 - [D.ref q,m,.str z].length) none:DSt)= [some (.ref q),some m,some (.str z)]:=rfl
 simp only[R6,s0,M7,bE0,o8,m7,U6,Q9,o5,zc,ze,zd,exists_eq_left',bX6 e,cY7 e,cY4,bP5]
 have hs:2<=zk:=by decide
 cases fs.find? λf=>decide (f.1=z) with
 |none=>simp[hs]
 |some f=>simp[hs]
theorem cK5:∀fs:List (Str×Bool×D),aF0 (fs.map λf=>.tup [.str f.1,.tup [.bl f.2.1,f.2.2]])=some (fs.map tv)
 |[]=>rfl
 |f::r=>by
   have:=cK5 r
   rw[zG,zG]
   unfold aF0
   simp only[this]
   rfl
theorem eH1(fs:List (Str×Bool×D))(h:(fs.map (·.1)).Nodup):putAll [] (fs.map tv)=fs.map tv:=by
 have e:fs.map tv= (fs.map λf=>((f.1,.tup [.bl f.2.1,f.2.2]):Str×D)).map λp=>((.inr p.1:Key),p.2):=by rw[jc];rfl
 have:=bE8 (fs.map λf=>((f.1,.tup [.bl f.2.1,f.2.2]):Str×D)) [] (by simpa [jc,yK]using h)
 simp only[jZ,xi]at this
 rw[e,this]
theorem dF9{fs:List (Str×Bool×D)}{m:D}{G:DH}{Q:DPP}(h:(fs.map (·.1)).Nodup)(hl:fs.length<=100)(q:∀o,Q (.ref (G.length+1)) (G++[o]++[.dct (fs.map tv)])):Wp (K9 [.tup [.tup (fs.map fdD),m]]) G Q:=by
 have bg:=big
 unfold K9 aG0
 have s0:([D.tup [.tup (fs.map fdD),m]].map some++zt (1 - [D.tup [.tup (fs.map fdD),m]].length) none:DSt)= [some (.tup [.tup (fs.map fdD),m])]:=rfl
 have a0:atI [D.tup (fs.map fdD),m] 0=some (.tup (fs.map fdD)):=rfl
 simp only[R6,s0,M7,v8,o8,m7,wp_comp,wp_itW,w5,Q9,o5,zc,zd,exists_eq_left',ix_tup,a0,srcW_tup]
 refine⟨by rw[zl];omega,?_⟩
 have hc:M6 (aE0 3 (w6 (q13 0) (w6 (q13 1) (w6 (q13 2) (aF6))))) W0 (v5 (q10 (b8 0) (q10 (v5 (q10 (b8 1) (q10 (b8 2) q11))) q11))) (λ_=>true) (fs.map fdD) (aD2 [none,none,none] [some (.tup [.tup (fs.map fdD),m])]) G=some (.ok ((fs.map fdD).map λd=>match d with| .tup [a,b,c]=>.tup [a,.tup [b,c]]|_=>.non),G):=by
  refine Z0 (I:=λO=>O.length=3) rfl _ _ rfl λd hd O WY=>?_
  obtain⟨f,hf,rfl⟩:=zL.mp hd
  match O,WY with
  |[u,v,w],_=>
    refine⟨[some (.str f.1),some (.bl f.2.1),some f.2.2],aW7 ?_,rfl,rfl,aW7 ?_⟩
    · unfold fdD
      rw[cT9]
      simp only[bD1,bO8,u0,zx,zr]
      exact⟨trivial,trivial⟩
    · simp only[U6,o8,m7,o5,zc,ze,zd,exists_eq_left']
      exact⟨sz,sz,rfl,trivial⟩
 refine(aS6 hc).mpr ?_
 have ed:((fs.map fdD).map λd=>match d with| .tup [a,b,c]=>D.tup [a,.tup [b,c]]|_=>.non)=fs.map λf=>.tup [.str f.1,.tup [.bl f.2.1,f.2.2]]:=by rw[jc];rfl
 rw[ed,cL0 o4 (cK5 fs),eH1 fs h]
 have hlen:(G++[DO.lst (fs.map λf=>D.tup [.str f.1,.tup [.bl f.2.1,f.2.2]])]).length=G.length+1:=by simp
 rw[hlen]
 exact q _
theorem cS2{q:Nat}{ps:List (Str×D)}{fs:List (Str×Bool×D)}{G:DH}(e:G[q]? =some (.dct (ps.map kv)))(O:DSt)(WY:∃a b c,O= [a,b,c,some (.ref q)]):
 M6 (aE0 3 (w6 (q13 0) (w6 (q13 1) (w6 (q13 2) (aF6))))) W0 (dR9 (d9 inD (b8 0) (b8 3)) (bI3 (b8 1))) (λ_=>true) (fs.map fdD) O G=some (.ok ((fs.map fdD).map λd=>.bl (aJ1 (ps.map J3) d)),G):=by
 refine Z0 (I:=λO=>∃a b c,O= [a,b,c,some (.ref q)]) rfl _ _ WY λd hd O WY=>?_
 obtain⟨f,hf,rfl⟩:=zL.mp hd
 obtain⟨u,v,w,rfl⟩:=WY
 refine⟨[some (.str f.1),some (.bl f.2.1),some f.2.2,some (.ref q)],aW7 ?_,⟨_,_,_,rfl⟩,rfl,aW7 ?_⟩
 · unfold fdD
   rw[cT9]
   simp only[bD1,bO8,u0,zx,zr]
   exact⟨trivial,trivial⟩
 · simp only[eM3,w5,dR4,o5,zc,ze,zd,exists_eq_left',eE4,cC9 e,dY5,K4]
   have em:aJ1 (ps.map J3) (fdD f)= ((ps.map J3).any (nmD f.1)||!f.2.1):=rfl
   rw[em]
   cases (ps.map J3).any (nmD f.1)<;>simp
theorem dS4{R:List D->M D}{l:List D}{G:DH}:Wp (R4 R [.tup l,.non]) G λx G'=>x= .bl false/\Ap G G':=cD6 (d:=.bl false) rfl ⟨rfl,Ap.refl⟩
theorem eY8{R:List D->M D}:aC3 R=m5 (ifS (o6 (d9 bD8 (b8 1) (cE .non))) (t6 (cE (.bl false))) u9) (m5 (t8 (q12 aP1 (q10 (b8 0) q11)) (q13 2)) (m5 RA (m5 (t8 (q12 (fnX 1 K9) (q10 (b8 1) q11)) (q13 3)) (RZ R)))):=rfl
section
variable{ps:List (Str×D)}{fs:List (Str×Bool×D)}{m:D}{G:DH}
theorem eV5{q:Nat}(e:G[q]? =some (.dct (ps.map kv)))(hf:fs.length<=100):Wp (RA [some (.tup (ps.map J3)),some (.tup [.tup (fs.map fdD),m]),some (.ref q),none]) G λfl G'=>Ap G G'/\if (fs.map fdD).all (aJ1 (ps.map J3))=true then fl= .nx [some (.tup (ps.map J3)),some (.tup [.tup (fs.map fdD),m]),some (.ref q),none]else fl= .rt (.bl false):=by
 have bg:=big
 refine aN1<| aO1.mpr<| U9.mpr<| T7<| J5<| aI3 (l:=fs.map fdD) rfl (by rw[zl];omega)<| m6 (cS2 e _ ⟨_,_,_,rfl⟩)<| m7.mpr<| (cB7 (f:=aJ1 (ps.map J3)) o4).mpr<| K4.mpr ⟨λg=>?_,λg=>?_⟩
 · have g:(fs.map fdD).all (aJ1 (ps.map J3))=false:=by simpa using g
   exact m6 rfl ⟨Ap.one,by rw[g];rfl⟩
 · have g:(fs.map fdD).all (aJ1 (ps.map J3))=true:=by simpa using g
   exact v6.mpr ⟨Ap.one,by rw[g];rfl⟩
theorem fB6{R:List D->M D}{n q r:Nat}(e:G[q]? =some (.dct (fs.map tv)))(hp:ps.length<=1000)(hR:∀p∈ps,∀s,(∃f∈fs,s=f.2.2)\/s=m->∀G,Wp (R [p.2,s]) G λx G'=>x= .bl (inP n p.2 s)/\Ap G G'):
 Wp (RZ R [some (.tup (ps.map J3)),some (.tup [.tup (fs.map fdD),m]),some (.ref r),some (.ref q)]) G λfl G'=>Ap G G'/\fl= .rt (.bl ((ps.map J3).all (dA6 (inP n) (fs.map fdD) m))):=by
 have bg:=big
 refine Q7<| T7<| J5<| aI3 (l:=ps.map J3) rfl (by rw[zl];omega) ?_
 refine(aQ0 (λG'=>Ap G G') (λO=>∃u v,O= [u,v,some (.tup [.tup (fs.map fdD),m]),some (.ref q)]) (λd=>.bl (dA6 (inP n) (fs.map fdD) m d)) (λ_ _=>rfl) _ _ G ⟨_,_,rfl⟩ Ap.refl ?_).mono ?_
 · rintro d hd O G1 ⟨u,v,rfl⟩ j1
   obtain⟨p,hp',rfl⟩:=zL.mp hd
   refine m6 (a:= [some (.str p.1),some p.2,some (.tup [.tup (fs.map fdD),m]),some (.ref q)]) rfl ⟨rfl,⟨_,_,rfl⟩,m6 rfl ⟨rfl,rfl,?_⟩⟩
   refine T7<| N5 (x:=p.2) rfl<| J5<| bin_w<| t7 (as:= [.ref q,m,.str p.1]) rfl rfl<| (dH9 (j1.at e)).mpr ⟨_,m6 (a:=.int 1) rfl<| ix_tup.mpr ⟨_,rfl,m7.mpr<| J4.mpr ⟨rfl,(hR p hp' _ bV1 G1).mono λx G2 z=>⟨j1.trans z.2,z.1⟩⟩⟩,rfl⟩
 · rintro _ G1 ⟨j1,rfl⟩
   exact m7.mpr<| (cB7 (f:=dA6 (inP n) (fs.map fdD) m) o4).mpr ⟨j1.trans Ap.one,rfl⟩
theorem eT2{R:List D->M D}{n:Nat}(hp:ps.length<=1000)(hf:fs.length<=100)(hn:(ps.map (·.1)).Nodup)(hn2:(fs.map (·.1)).Nodup)(hR:∀p∈ps,∀s,(∃f∈fs,s=f.2.2)\/s=m->∀G,Wp (R [p.2,s]) G λx G'=>x= .bl (inP n p.2 s)/\Ap G G'):
 Wp (R4 R [.tup (ps.map J3),.tup [.tup (fs.map fdD),m]]) G λx G'=>x= .bl (cE0 (inP n) (ps.map J3) (.tup [.tup (fs.map fdD),m]))/\Ap G G':=by
 refine T8 (show Wp (aC3 R [some (.tup (ps.map J3)),some (.tup [.tup (fs.map fdD),m]),none,none]) G _ from ?_)
 rw[eY8]
 refine o7 (G':=G) rfl<| j9.mpr<| M8<| aQ7 (as:= [.tup (ps.map J3)]) rfl<| (dM9 hn).mpr<| j9.mpr<| (eV5 (m:=m) (fs:=fs) o4 hf).mono ?_
 rintro fl G1 ⟨j1,hfl⟩
 have ei:cE0 (inP n) (ps.map J3) (.tup [.tup (fs.map fdD),m])= ((fs.map fdD).all (aJ1 (ps.map J3))&&(ps.map J3).all (dA6 (inP n) (fs.map fdD) m)):=rfl
 rw[ei]
 cases hb:(fs.map fdD).all (aJ1 (ps.map J3)) with
 |false=>
   rw[hb,if_neg (by simp)]at hfl
   subst hfl
   exact⟨rfl,Ap.one.trans j1⟩
 |true=>
   rw[hb,if_pos rfl]at hfl
   subst hfl
   refine j9.mpr<| M8<| t7 (as:= [.tup [.tup (fs.map fdD),m]]) rfl rfl<| dF9 hn2 hf λo=>?_
   have e2:(G1++[o]++[DO.dct (fs.map tv)])[G1.length+1]? =some (.dct (fs.map tv)):=by
    have:=o4 (G:=G1++[o]) (o:=DO.dct (fs.map tv))
    simpa using this
   refine(fB6 e2 hp hR).mono ?_
   rintro _ G3 ⟨j3,rfl⟩
   exact⟨rfl,((Ap.one.trans j1).trans (Ap.one.trans Ap.one)).trans j3⟩
end
theorem VW.there{b n:Nat}{d:D}{G:DH}(h:VW b n d):aJ9 G d:=by
 cases n with
 |zero=>exact h.elim
 |succ n=>rcases h with⟨i,rfl⟩|⟨k,rfl⟩|⟨z,rfl,_⟩|⟨l,rfl,_⟩|⟨ps,rfl,_⟩<;>first|exact cL3 rfl|trivial
theorem bJ9{x:D}{l:List D}{G:DH}{Q:DPP}(h:(W9 x&&l.all W9)=true):Wp (inD x (.tup l)) G Q↔Q (.bl (inV (toV x) (l.map toV))) G:=by
 rw[eE4]
 have e:inB x (.tup l) G=some (inV (toV x) (l.map toV)):=by
  show (if (W9 x&&l.all W9)=true then some (inV (toV x) (l.map toV))else none)=_
  rw[if_pos h]
 simp only[e,zd,exists_eq_left']
theorem eP0{G:DH}{r:Nat}{l:List D}{f:D->Bool}{Q:DPP}(h:G[r]? =some (.lst (l.map λx=>.bl (f x)))):Wp (dE8 [.ref r]) G Q↔Q (.bl (l.any f)) G:=by
 have h0:dE8 [.ref r]= (do
  let l <-S7 r >>= DL.listOf
  let bs <-aJ6 (bG0 l)
  pure (.bl (bs.any id))):=rfl
 rw[h0]
 simp only[m9,R8,h,Q8,DL.listOf,wp_pure,aL3,cC4,yG]
 rfl
theorem cZ0(tr:List Bool):(tr.map D.bl).all W9=true:=by rw[yH];exact xy.mpr λ_ _=>rfl
theorem aV2(ts:List Str):(ts.map D.str).all W9=true:=by rw[yH];exact xy.mpr λ_ _=>rfl
theorem eM2{a b c d:D}{z o:Str}{ts:List Str}{w:Str}{G:DH}{Q:DPP}(q:Q (.bl (inV (.str z) ((ts.map D.str).map toV)==(w==o))) G):Wp ((d9 eqD (d9 inD (b8 0) (d9 ixD (d9 ixD (b8 1) (cE (.int 1))) (cE (.int 1)))) (d9 eqD (d9 ixD (d9 ixD (b8 1) (cE (.int 1))) (cE (.int 0))) (cE (.str o)))) [some (.str z),some (.tup [a,.tup [.str w,.tup (ts.map D.str)],b,c,d])]) G Q:=
 bin_w (P0 (x:=.str z) (y:=.tup (ts.map D.str)) rfl rfl ((bJ9 (by rw[aV2];rfl)).mpr (P0 (x:=.str w) (y:=.str o) rfl rfl (aJ7.mpr (eF3.mpr q)))))
theorem dD7{R:List D->M D}{b n k:Nat}{v s:D}{G:DH}(hb:b<=1000)(hR:∀v s G,VW b n v->SB k s->Wp (R [v,s]) G λx G'=>x= .bl (inP n v s)/\Ap G G')(hv:VW b (n+1) v)(hs:SB (k+1) s):
 Wp (J7 2 (aP6 R) [v,s]) G λx G'=>x= .bl (inP (n+1) v s)/\Ap G G':=by
 have bg:=big
 refine T8 (show Wp (aP6 R [some v,some s]) G _ from ?_)
 rcases hs with rfl|⟨ns,w,ts,tr,li,re,rfl,h1,h2,h3,h4,h5,h6,h7⟩
 ·exact bC1 (d:=.bl true) rfl ⟨rfl,Ap.refl⟩
 · rcases hv with⟨i,rfl⟩|⟨c,rfl⟩|⟨z,rfl,hz⟩|⟨l,rfl,hl,hv⟩|⟨ps,rfl,hl,hn,hv⟩
   · refine o7 rfl (o7 rfl (j9.mpr (aN3 (G1:=G) rfl (Q7 (T7 (J5 (wp_comp.mpr (wp_itW.mpr (m6 (a:=.tup (ns.map stD)) rfl (srcW_tup.mpr ⟨?_,m6 (dG0 rfl h1 _ ⟨_,_,rfl⟩) (m7.mpr ((eP0 (f:=cL8 i) o4).mpr ⟨rfl,Ap.one⟩))⟩))))))))))
     show (ns.map stD).length<=zk
     rw[zl];omega
   ·exact o7 rfl (j9.mpr (aN3 (G1:=G) rfl (Q7 (P0 (x:=.bl c) (y:=.tup (tr.map D.bl)) rfl rfl ((bJ9 (by rw[cZ0];rfl)).mpr ⟨rfl,Ap.refl⟩)))))
   ·exact o7 rfl (o7 rfl (o7 rfl (j9.mpr (aN3 (G1:=G) rfl (Q7 (eM2 ⟨rfl,Ap.refl⟩))))))
   · refine o7 rfl (o7 rfl (o7 rfl (o7 rfl (j9.mpr (aN3 (G1:=G) rfl (Q7 (t7 (as:= [.tup l,li]) rfl rfl ?_)))))))
     rw[show inP (n+1) (.tup [.str U8,.tup l]) (mkS ns w ts tr li re)=cM2 (inP n) l li from dU7]
     rcases h6 with rfl|⟨fs,m,rfl,hf,hfs,hm⟩
     ·exact list_none
     · refine dW3 (by omega) hf λv hv' s hs' G=>hR v s G (hv v hv') ?_
       rcases hs' with hs'|rfl
       ·exact hfs s hs'
       ·exact hm
   · refine o7 rfl (o7 rfl (o7 rfl (o7 rfl (o7 rfl (Q7 (t7 (as:= [.tup (ps.map J3),re]) rfl rfl ?_))))))
     rw[show inP (n+1) (.tup [.str W4,.tup (ps.map J3)]) (mkS ns w ts tr li re)=cE0 (inP n) (ps.map J3) re from dH7]
     rcases h7 with rfl|⟨fs,m,rfl,hf0,hn2,hfs,hm⟩
     ·exact dS4
     · refine eT2 (by omega) (by omega) hn hn2 λp hp s hs' G=>hR p.2 s G (hv p hp).2 ?_
       rcases hs' with⟨f,hf',rfl⟩|rfl
       ·exact(hfs f hf').2
       ·exact hm
theorem cV5{b:Nat}(hb:b<=1000):∀(n k j:Nat) (v s:D) (G:DH),n<=j->VW b n v->SB k s->Wp (aY8 j [v,s]) G λx G'=>x= .bl (inP n v s)/\Ap G G'
 |0,_,_,_,_,_,_,hv,_=>hv.elim
 |n+1,0,_,_,_,_,_,_,hs=>hs.elim
 |n+1,k+1,0,_,_,_,h,_,_=>absurd h (by omega)
 |n+1,k+1,j+1,v,s,G,h,hv,hs=>dD7 hb (λv s G hv hs=>cV5 hb n k j v s G (by omega) hv hs) hv hs
noncomputable def Dr(G:DH)(r:Nat):Prop:=∃ns:List Nat,G[r]? =some (.lst (ns.map λn:Nat=>D.int (n:Int)))
def Fd(r:Nat)(G G':DH):Prop:=G.length<=G'.length/\(∀i,i≠r->i<G.length->G'[i]? =G[i]?)/\Dr G' r
theorem Dr.lt{G:DH}{r:Nat}(h:Dr G r):r<G.length:=by
 obtain⟨ns,hr⟩:=h
 exact lt_of_get hr
theorem Dr.app{G t:DH}{r:Nat}(h:Dr G r):Dr (G++t) r:=by
 obtain⟨ns,hr⟩:=h
 exact⟨ns,U7 hr⟩
theorem Fd.refl{r:Nat}{G:DH}(h:Dr G r):Fd r G G:=⟨zo _,λ_ _ _=>rfl,h⟩
theorem Fd.trans{r:Nat}{G G1 G2:DH}(h:Fd r G G1)(k:Fd r G1 G2):Fd r G G2:=
 ⟨zI h.1 k.1,λi hi hl=>by rw[k.2.1 i hi (by have:=h.1;omega),h.2.1 i hi hl],k.2.2⟩
theorem Fd.app{r:Nat}{G t:DH}(h:Dr G r):Fd r G (G++t):=⟨by simp,λi _ hl=>zH hl,h.app⟩
theorem Fd.at{r p:Nat}{G G':DH}{o:DO}(h:Fd r G G')(hp:p≠r)(e:G[p]? =some o):G'[p]? =some o:=by
 rw[h.2.1 p hp (lt_of_get e)];exact e
theorem Dr.set{G:DH}{r p:Nat}{o:DO}(h:Dr G r)(hp:p≠r):Dr (G.set p o) r:=by
 obtain⟨ns,hr⟩:=h
 exact⟨ns,by rw[jf hp];exact hr⟩
theorem Fd.put{r p:Nat}{G G':DH}{o:DO}(h:Fd r G G')(hp:G.length<=p)(hr:p≠r):Fd r G (G'.set p o):=
 ⟨by rw[YY];exact h.1,λi hi hl=>by rw[jf (by omega)];exact h.2.1 i hi hl,h.2.2.set hr⟩
theorem Q5{r:Nat}{m:Int}{G:DH}{Q:DPP}(h:Dr G r)(hm:0<m)(q:∀k:Int,0<=k->k<m->∀G',Fd r G G'->Q (.int k) G'):Wp (g8 [.ref r,.int m]) G Q:=by
 have h':=h
 obtain⟨ns,hr⟩:=h'
 have s0:([D.ref r,D.int m].map some++zt (2 - [D.ref r,D.int m].length) none:DSt)= [some (.ref r),some (.int m)]:=rfl
 unfold g8 aV4
 simp only[R6,s0,j9,aD3,N7,M7,w5,aJ5,bE0,o8,m7,Q9,o5,v6,zd,exists_eq_left',zc,ze]
 refine⟨sz,?_⟩
 have e1:=U7 (t:= [DO.lst []]) hr
 rw[cE9 e1 o4]
 refine⟨_,rfl,?_⟩
 cases ns with
 |nil=>
   simp only[jZ,YJ,if_true]
   exact q 0 (by omega) hm _ (Fd.app h)
 |cons n t=>
   simp only[zG,List.isEmpty_cons,zC,if_false]
   rw[aB8 e1,dC1 e1,aA8 hm]
   refine q _ (jy _ (by omega)) (jX _ hm) _ ⟨by simp,λi hi hl=>?_,t,?_⟩
   ·rw[jf (Ne.symm hi),zH hl]
   ·rw[jd (lt_of_get e1)]
theorem aU6{r:Nat}{G:DH}{n:Int}{ds:List D}{Q:DPP}(h:Dr G r)(hn:(ds.length:Int)=n)(h0:0<n)(q:∀d∈ds,∀G',Fd r G G'->Q d G'):
 Wp (g8 [.ref r,.int n]) (G++[.lst ds]) λy G2=>Wp (ixD (.ref G.length) y) G2 Q:=by
 refine Q5 h.app h0 λk h3 h4 G2 f2=>?_
 have hne:G.length≠r:=by have:=h.lt;omega
 have hg:=f2.at hne (o:=.lst ds) cW6
 rw[bJ1 hg]
 obtain⟨d,hd,e⟩:=bR8 (l:=ds) h3 (by omega)
 exact⟨d,e,q d hd G2 ((Fd.app h).trans f2)⟩
theorem aK6{r p:Nat}{G:DH}{n:Int}{ds:List D}{Q:DPP}(h:Dr G r)(hp:p≠r)(e:G[p]? =some (.lst ds))(hn:(ds.length:Int)=n)(h0:0<n)(q:∀d∈ds,∀G',Fd r G G'->Q d G'):
 Wp (g8 [.ref r,.int n]) G λy G2=>Wp (ixD (.ref p) y) G2 Q:=by
 refine Q5 h h0 λk h3 h4 G2 f2=>?_
 rw[bJ1 (f2.at hp e)]
 obtain⟨d,hd,e⟩:=bR8 (l:=ds) h3 (by omega)
 exact⟨d,e,q d hd G2 f2⟩
theorem fI7:aO5=m5 (t8 (q12 (fnX 2 g8) (q10 (b8 0) (q10 (cE (.int 8)) q11))) (q13 1)) (m5 N1 (m5 N2 (m5 (t8 (cE (.int 0)) (q13 3)) (m5 (aS5 (aC0 (q10 (cE (.int 6)) q11)) (q13 4) NB) N3)))):=rfl
theorem cV8{r:Nat}{w u:Option D}:∀(items:List D) (l:Int) (v:Option D) (G:DH),Dr G r->
 Wp (aI0 (q13 4) NB (λ_=>true) items [some (.ref r),w,u,some (.int l),v]) G λfl G'=>Fd r G G'/\∃l' v',fl= .nx [some (.ref r),w,u,some (.int l'),v']
 |[],l,v,G,h=>by
   rw[aK2]
   exact⟨rfl,Fd.refl h,l,v,rfl⟩
 |d::t,l,v,G,h=>by
   rw[aK4,u0]
   refine⟨rfl,?_⟩
   unfold NB
   simp only[zx,zr,N8,w5,v8,o8,m7,Q9,o5,J4,u0,zc,ze,zd,exists_eq_left']
   rw[aD8 (Or.inr ⟨by omega,by omega⟩)]
   refine⟨rfl,Q5 h (by decide) λk h0 h1 G1 f1=>?_⟩
   rw[aH2]
   refine Wp.mono (cV8 t _ (some d) G1 f1.2.2) λfl G2 ⟨f2,q⟩=>⟨f1.trans f2,q⟩
theorem cA0{r:Nat}{G:DH}(h:Dr G r):Wp (N6 [.ref r]) G λx G'=>(∃i,x= .int i)/\Fd r G G':=by
 unfold N6
 rw[fI7]
 have s0:([D.ref r].map some++zt (5 - [D.ref r].length) none:DSt)= [some (.ref r),none,none,none,none]:=rfl
 simp only[R6,s0,j9,N8,u0,v8,o8,m7,Q9,o5,J4,zc,ze,zx,zr,zd,exists_eq_left']
 refine⟨rfl,Q5 h (by decide) λw h0 h1 G1 f1=>?_⟩
 unfold N1
 simp only[aD3,N7,w5,o5,Q9,v6,zc,ze,zd,exists_eq_left',aM6,aB0]
 by_cases c1:w<5
 · simp only[c1,decide_true,if_true,j9,N8,u0,M7,w5,v8,o8,m7,Q9,o5,J4,zc,ze,zx,zr,zd,exists_eq_left']
   refine⟨rfl,Q5 f1.2.2 (by decide) λk k0 k1 G2 f2=>?_⟩
   have b1:0<=k % 2:=jy _ (by omega)
   have b2:k % 2<2:=jX _ (by omega)
   rw[aH7 ⟨by decide,by decide⟩,aA8 (by decide),aD8 (Or.inl ⟨by decide,by decide⟩),aN7,aD8 (Or.inr ⟨by omega,by omega⟩)]
   exact⟨⟨_,rfl⟩,f1.trans f2⟩
 · simp only[c1,decide_false,zC,if_false]
   unfold N2
   simp only[aD3,N7,w5,o5,Q9,v6,zc,ze,zd,exists_eq_left',aA4,aB0]
   by_cases c2:w=5
   · simp only[c2,decide_true,if_true,M7,w5,cN2,aJ5,v8,o8,m7,Q9,o5,J4,aZ0 (show bK2 10 20 by decide),p18,bD4,aN7,zc,ze,zd,exists_eq_left']
     refine⟨sz,rfl,aU6 f1.2.2 rfl (by decide) λd hd G2 f2=>?_⟩
     simp only[zw,zy,or_false]at hd
     refine⟨?_,f1.trans f2⟩
     rcases hd with rfl|rfl|rfl|rfl<;>exact⟨_,rfl⟩
   · simp only[c2,decide_false,zC,if_false,aO8,rng1,o8,m7,Q9]
     rw[rng1_int ⟨by decide,by decide⟩]
     refine Wp.mono (cV8 _ 0 none G1 f1.2.2) λfl G2 ⟨f2,l,v,e2⟩=>?_
     subst e2
     unfold N3
     simp only[M7,w5,v8,o8,m7,Q9,o5,J4,zc,ze,zd,exists_eq_left']
     rw[aD8 (Or.inr ⟨by omega,by omega⟩)]
     refine⟨rfl,Q5 f2.2.2 (by decide) λk k0 k1 G3 f3=>?_⟩
     rw[aH2,aD8 (Or.inl ⟨by decide,by decide⟩),aN7,aD8 (Or.inr ⟨by omega,by omega⟩)]
     exact⟨⟨_,rfl⟩,(f1.trans f2).trans f3⟩
section
variable{G:DH}{Q:DPP}
theorem ix_str{z:Str}{k:Int}(hz:z.length<=zk)(h0:0<=k)(h1:k<z.length)(q:∀c,Q (.str ⟨#[c]⟩) G):Wp (ixD (.str z) (.int k)) G Q:=by
 have e:ixD (.str z) (.int k)=if z.length<=zk then (do
  let c <-aJ6 (atI z.cps.toList k)
  pure (.str ⟨#[c]⟩):M D)else M.stuck:=rfl
 rw[e,if_pos hz]
 simp only[m9,aL3,wp_pure]
 have hl:z.length=z.cps.toList.length:=rfl
 obtain⟨n,rfl⟩:=XY h0
 have hn:n<z.cps.toList.length:=by omega
 refine⟨z.cps.toList[n],?_,q _⟩
 unfold atI ixN
 rw[if_pos (by omega),if_pos (by omega)]
 simp only[zW,JT,zu hn]
theorem aH6(c:Nat):(⟨#[c]⟩:Str).length=1:=rfl
end
theorem fJ2:aX6=m5 (t8 (q12 (fnX 2 g8) (q10 (b8 0) (q10 (cE (.int 6)) q11))) (q13 1)) (m5 W1 (m5 W2 (m5 W3 WT))):=rfl
theorem eY6{r:Nat}{a b c u:Option D}{z:Str}{G:DH}(h:Dr G r)(hz:z.length<=1000):Wp (WL [some (.ref r),a,b,c,some (.str z),u]) G λfl G'=>Fd r G G'/\∃q,fl= .nx [some (.ref r),a,b,c,some (.str (z++⟨#[q]⟩)),u]:=by
 have bg:=big
 unfold WL
 simp only[zx,zr,N8,w5,v8,o8,m7,Q9,o5,J4,u0,zc,ze,zd,exists_eq_left']
 refine⟨rfl,Q5 h (by decide) λk h0 h1 G1 f1=>?_⟩
 have hA:("abcdefghijklmnopqrstuvwxyz" :Str).length=26:=by rfl
 refine ix_str (by omega) h0 (by omega) λc=>?_
 rw[aW6 (by rw[aH6];omega)]
 exact⟨f1,c,rfl⟩
theorem cU8{r:Nat}{a b c:Option D}:∀(items:List D) (z:Str) (u:Option D) (G:DH),Dr G r->z.length+items.length<=100->
 Wp (aI0 (q13 5) WL (λ_=>true) items [some (.ref r),a,b,c,some (.str z),u]) G λfl G'=>Fd r G G'/\∃z' u',fl= .nx [some (.ref r),a,b,c,some (.str z'),u']/\z'.length<=100
 |[],z,u,G,h,hl=>by
   rw[aK2]
   exact⟨rfl,Fd.refl h,z,u,rfl,by simpa using hl⟩
 |d::t,z,u,G,h,hl=>by
   simp only[jg]at hl
   rw[aK4,u0]
   refine⟨rfl,?_⟩
   simp only[zx,zr]
   refine Wp.mono (eY6 h (by omega)) λfl G1 ⟨f1,q,e⟩=>?_
   subst e
   exact Wp.mono (cU8 t (z++⟨#[q]⟩) (some d) G1 f1.2.2 (by rw[yg,aH6];omega)) λfl G2 ⟨f2,h2⟩=>⟨f1.trans f2,h2⟩
theorem fA2{r:Nat}{w:Int}{G:DH}(h:Dr G r):Wp (W1 [some (.ref r),some (.int w),none,none,none,none]) G λfl G'=>Fd r G G'/\((∃z,fl= .rt (.str z)/\z.length<=100)\/fl= .nx [some (.ref r),some (.int w),none,none,none,none]):=by
 unfold W1
 simp only[aD3,N7,w5,o5,Q9,v6,zc,ze,zd,exists_eq_left',aA4,aB0]
 by_cases c2:w=4
 · simp only[c2,decide_true,if_true,j9,N8,u0,M7,w5,aJ5,v8,o8,m7,Q9,o5,J4,zx,zr,zc,ze,zd,exists_eq_left']
   refine⟨sz,sz,?_⟩
   rw[bO2 (U7 o4) o4 sz2]
   have hr:=h.lt
   refine⟨rfl,aK6 h.app.app.app (by simp only[zR];omega) o4 rfl (by decide) λd hd G2 f2=>?_⟩
   refine⟨((Fd.app h).trans ((Fd.app h.app).trans (Fd.app h.app.app))).trans f2,.inl ?_⟩
   simp only[Zq,xi,zw,zy,or_false]at hd
   rcases hd with rfl|rfl|rfl|rfl|rfl|rfl|rfl|rfl|rfl|rfl|rfl|rfl|rfl|rfl|rfl|rfl<;>exact⟨_,rfl,by decide⟩
 · simp only[c2,decide_false,zC,if_false]
   exact⟨Fd.refl h,.inr trivial⟩
theorem cZ1{r:Nat}{G:DH}(h:Dr G r):Wp (U4 [.ref r]) G λx G'=>(∃z,x= .str z/\z.length<=100)/\Fd r G G':=by
 unfold U4
 rw[fJ2]
 have s0:([D.ref r].map some++zt (6 - [D.ref r].length) none:DSt)= [some (.ref r),none,none,none,none,none]:=rfl
 simp only[R6,s0,j9,N8,u0,v8,o8,m7,Q9,o5,J4,zc,ze,zx,zr,zd,exists_eq_left']
 refine⟨rfl,Q5 h (by decide) λw h0 h1 G1 f1=>?_⟩
 refine Wp.mono (fA2 f1.2.2) λfl G2 ⟨f2,e2⟩=>?_
 rcases e2 with⟨z,rfl,hz⟩|rfl
 ·exact⟨⟨z,rfl,hz⟩,f1.trans f2⟩
 · unfold W2
   simp only[N8,u0,v8,o8,m7,Q9,o5,J4,zc,ze,zx,zr,zd,exists_eq_left']
   refine⟨rfl,Q5 f2.2.2 (by decide) λk k0 k1 G3 f3=>?_⟩
   have key:∀(m:Int) (G4:DH),0<=m->m<31->Fd r G G4->Wp (WT [some (.ref r),some (.int w),none,some (.int m),none,none]) G4 λfl G'=>∃z,fl= .rt (.str z)/\z.length<=100/\Fd r G G':=by
    intro m G4 m0 m1 f4
    unfold WT
    simp only[j9,N8,u0,aO8,rng1,M7,o8,m7,Q9,o5,zc,ze,zx,zr,zd,exists_eq_left']
    rw[rng1_int ⟨by omega,by omega⟩]
    refine Wp.mono (cU8 (M4 0 m.toNat) "" none G4 f4.2.2 ?_) λfl G5 ⟨f5,z,u,e5,hz⟩=>?_
    · unfold M4
      rw[zl,jD,show (("" :Str).length)=0 from rfl]
      omega
    · subst e5
      simp only[zc,ze,zd,exists_eq_left']
      exact⟨z,rfl,hz,f4.trans f5⟩
   unfold W3
   simp only[aD3,N7,w5,o5,Q9,v6,zc,ze,zd,exists_eq_left',aA4,aB0]
   have f13:=(f1.trans f2).trans f3
   by_cases c5:w=5
   · simp only[c5,decide_true,if_true,N8,u0,v8,o8,m7,Q9,o5,J4,zc,ze,zx,zr,zd,exists_eq_left']
     refine⟨rfl,Q5 f3.2.2 (by decide) λm m0 m1 G4 f4=>?_⟩
     rw[<-c5]
     refine Wp.mono (key m G4 m0 m1 (f13.trans f4)) λfl G5 ⟨z,e,hz,f⟩=>?_
     subst e
     exact⟨⟨z,rfl,hz⟩,f⟩
   · simp only[c5,decide_false,zC,if_false]
     refine Wp.mono (key k G3 k0 (by omega) f13) λfl G5 ⟨z,e,hz,f⟩=>?_
     subst e
     exact⟨⟨z,rfl,hz⟩,f⟩
theorem bD7{r:Nat}{G:DH}(h:Dr G r):Wp (R7 [.ref r]) G λx G'=>(∃z,x= .str z/\z.length<=100)/\Fd r G G':=by
 have bg:=big
 unfold R7 aW5
 have s0:([D.ref r].map some++zt (2 - [D.ref r].length) none:DSt)= [some (.ref r),none]:=rfl
 simp only[R6,s0,j9,aD3,N7,M7,N8,u0,w5,aE3,aZ3,bD2,eC3,v8,o8,m7,Q9,o5,J4,v6,zc,ze,zx,zr,zd,exists_eq_left']
 refine⟨rfl,Wp.mono (cZ1 h) λx G1 ⟨⟨z,ex,hz⟩,f1⟩=>?_⟩
 subst ex
 rw[bH1 (by omega),aJ7]
 have hl:(yq z none (some 8)).length<=100:=zI (aQ9) hz
 refine⟨_,rfl,?_⟩
 split
 ·exact⟨⟨_,rfl,by decide⟩,f1⟩
 ·exact⟨⟨_,rfl,hl⟩,f1⟩
noncomputable def SD(d:D):Prop:=∃z,d= .str z/\z.length<=1000
def aJ0(b:Nat)(G:DH)(p:Nat):Prop:=∃ds,G[p]? =some (.lst ds)/\(∀d∈ds,SD d)/\0<ds.length/\ds.length<=b
theorem fE3:aX2=m5 P1 (m5 (t8 (q12 (fnX 2 g8) (q10 (b8 0) (q10 (cE (.int 4)) q11))) (q13 2)) (m5 P3 (t6 (b8 1)))):=rfl
theorem fC9{r p:Nat}{m:Option D}{stem:Str}{a k:Int}{u:Option D}{ds:List D}{G:DH}(e:G[p]? =some (.lst ds))(hd:∀d∈ds,SD d)(hl:ds.length<=1000)(hs:stem.length<=100)(hk:0<=k/\k<52):
 Wp (PLB [some (.ref r),some (.ref p),m,some (.str stem),some (.int a),some (.str ("abcdefghijklmnopqrstuvwxyz" :Str)),some (.int k),u]) G λfl G'=>∃d u',SD d/\G'=G.set p (.lst (ds++[d]))/\fl= .nx [some (.ref r),some (.ref p),m,some (.str stem),some (.int a),some (.str ("abcdefghijklmnopqrstuvwxyz" :Str)),some (.int k),u']:=by
 have bg:=big
 have hA:("abcdefghijklmnopqrstuvwxyz" :Str).length=26:=by rfl
 unfold PLB
 simp only[j9,N8,u0,aY2,bE0,w5,aE3,aZ3,bD2,eC3,o8,m7,Q9,o5,zc,ze,zx,zr,zd,exists_eq_left']
 rw[aA8 (by decide)]
 refine ix_str (by omega) (jy _ (by omega)) (by have:=jX k (show (0:Int)<26 by omega);omega) λc1=>?_
 rw[aH7 ⟨by decide,by decide⟩]
 refine ix_str (by omega) (by omega) (by omega) λc2=>?_
 rw[aW6 (by rw[aH6,aH6];omega),aB8 e,bH1 (by omega)]
 have l1:(yq stem none (some a)).length<=100:=zI aQ9 hs
 have l2:(yq stem (some a) none).length<=100:=zI aQ9 hs
 rw[aW6 (by rw[yg,aH6,aH6];omega),bH1 (by omega),aW6 (by rw[yg,yg,aH6,aH6];omega),aM2 e (by omega)]
 exact⟨_,_,⟨_,rfl,by rw[yg,yg,yg,aH6,aH6];omega⟩,rfl,rfl⟩
theorem cU9{r p:Nat}{m:Option D}{stem:Str}{a:Int}(hp:p≠r)(hs:stem.length<=100):∀(items:List D) (k u:Option D) (ds:List D) (G0 G:DH),Fd r G0 G->G0.length<=p->G[p]? =some (.lst ds)->(∀d∈ds,SD d)->0<ds.length->ds.length+items.length<=50->(∀d∈items,∃i:Int,d= .int i/\0<=i/\i<52)->
 Wp (aI0 (q13 6) PLB (λ_=>true) items [some (.ref r),some (.ref p),m,some (.str stem),some (.int a),some (.str ("abcdefghijklmnopqrstuvwxyz" :Str)),k,u]) G λfl G'=>Fd r G0 G'/\aJ0 50 G' p/\∃k' u',fl= .nx [some (.ref r),some (.ref p),m,some (.str stem),some (.int a),some (.str ("abcdefghijklmnopqrstuvwxyz" :Str)),k',u']
 |[],k,u,ds,G0,G,f,h0,e,hd,hpos,hl,hi=>by
   rw[aK2]
   exact⟨rfl,f,⟨ds,e,hd,hpos,by simpa using hl⟩,k,u,rfl⟩
 |x::t,k,u,ds,G0,G,f,h0,e,hd,hpos,hl,hi=>by
   obtain⟨i,rfl,i0,i1⟩:=hi x (by simp)
   simp only[jg]at hl
   rw[aK4,u0]
   refine⟨rfl,?_⟩
   simp only[zx,zr]
   refine Wp.mono (fC9 e hd (by omega) hs ⟨i0,i1⟩) λfl G1 ⟨d,u',sd,e1,e2⟩=>?_
   subst e1 e2
   refine cU9 hp hs t _ _ (ds++[d]) G0 _ (f.put h0 hp) h0 (by rw[jd (lt_of_get e)]) (λy hy=>?_) (by simp) (by simp;omega) λy hy=>hi y (by simp[hy])
   rcases jr.mp hy with hy|hy
   ·exact hd y hy
   ·rw[zP.mp hy];exact sd
theorem eC7{r:Nat}{G:DH}(h:Dr G r):Wp (aB6 [.ref r]) G λx G'=>∃p,x= .ref p/\p≠r/\aJ0 50 G' p/\Fd r G G':=by
 have bg:=big
 unfold aB6
 rw[fE3]
 have s0:([D.ref r].map some++zt (8 - [D.ref r].length) none:DSt)= [some (.ref r),none,none,none,none,none,none,none]:=rfl
 unfold P1
 simp only[R6,s0,j9,N8,u0,aJ5,v8,o8,m7,Q9,o5,J4,M7,zc,ze,zx,zr,zd,exists_eq_left']
 refine⟨rfl,Wp.mono (bD7 h) λx1 G1 ⟨⟨z1,e1,hz1⟩,f1⟩=>⟨rfl,Wp.mono (bD7 f1.2.2) λx2 G2 ⟨⟨z2,e2,hz2⟩,f2⟩=>⟨rfl,Wp.mono (bD7 f2.2.2) λx3 G3 ⟨⟨z3,e3,hz3⟩,f3⟩=>?_⟩⟩⟩
 subst e1 e2 e3
 have f13:=(f1.trans f2).trans f3
 have hr3:=f3.2.2.lt
 have hne:G3.length≠r:=by omega
 have hds:∀d∈ [D.str ("a" :Str),.str z1,.str z2,.str z3],SD d:=by
  intro d hd
  simp only[zw,zy,or_false]at hd
  rcases hd with rfl|rfl|rfl|rfl
  ·exact⟨_,rfl,by decide⟩
  ·exact⟨_,rfl,by omega⟩
  ·exact⟨_,rfl,by omega⟩
  ·exact⟨_,rfl,by omega⟩
 have f4:Fd r G (G3++[.lst [D.str ("a" :Str),.str z1,.str z2,.str z3]]):=f13.trans (Fd.app f3.2.2)
 refine⟨sz,rfl,Q5 f4.2.2 (by decide) λk k0 k1 G5 f5=>?_⟩
 have e5:=f5.at hne (o:=.lst [D.str ("a" :Str),.str z1,.str z2,.str z3]) o4
 have f45:=f4.trans f5
 have hg:G.length<=G3.length:=f13.1
 unfold P3
 simp only[aD3,N7,w5,o5,Q9,v6,zc,ze,zd,exists_eq_left',aA4,aB0]
 by_cases c3:k=3
 · simp only[c3,decide_true,if_true,j9,N8,u0,aE3,aZ3,bD2,eC3,w5,v8,o8,m7,Q9,o5,J4,zc,ze,zx,zr,zd,exists_eq_left']
   refine⟨rfl,Wp.mono (bD7 f5.2.2) λx6 G6 ⟨⟨z,e6,hz⟩,f6⟩=>?_⟩
   subst e6
   have hs:(yq z none (some 6)).length<=100:=zI aQ9 hz
   rw[bH1 (by omega)]
   simp only[cN0 (show (yq z none (some 6)).length<=zk by omega),aH2]
   refine⟨rfl,Q5 f6.2.2 (by omega) λa a0 a1 G7 f7=>?_⟩
   simp only[aO8,rng1,w5,v8,o8,m7,Q9,o5,J4,zc,ze,zd,exists_eq_left']
   refine⟨rfl,Q5 f7.2.2 (by decide) λn n0 n1 G8 f8=>?_⟩
   rw[aH2,rng1_int ⟨by omega,by omega⟩]
   have f68:=(f6.trans f7).trans f8
   refine Wp.mono (cU9 hne hs _ none none _ G G8 (f45.trans f68) hg (f68.at hne e5) hds (by simp) ?_ λd hd=>?_) λfl G9 ⟨f9,pl,k',u',e9⟩=>?_
   · unfold M4
     rw[zl,jD]
     simp only[jg,yM]
     omega
   · unfold M4 at hd
     obtain⟨i,hi,rfl⟩:=zL.mp hd
     have:=yX.mp hi
     exact⟨_,rfl,by omega,by omega⟩
   · subst e9
     simp only[zc,ze,zd,exists_eq_left']
     exact⟨_,rfl,hne,pl,f9⟩
 · simp only[c3,decide_false,zC,if_false]
   exact⟨_,rfl,hne,⟨_,e5,hds,by simp,by simp⟩,f45⟩
theorem bO3{G:DH}{p:Nat}{l:List D}{lo hi:Option Int}{Q:DPP}(e:G[p]? =some (.lst l)):Wp (slT (.ref p) lo hi) G Q↔Q (.ref G.length) (G++[.lst (DL.cutD l lo hi)]):=eH6 e
noncomputable def DL'(G:DH)(q L:Nat):Prop:=∃ns:List Nat,G[q]? =some (.lst (ns.map λn:Nat=>D.int (n:Int)))/\ns.length<=L
theorem cY9{G:DH}{q L:Nat}{x:Int}{Q:DPP}(h:DL' G q L)(hL:L<=100000)(hx:0<=x)(k:∀o,DL' (G.set q o) q (L+1)->Q .non (G.set q o)):Wp (aC1 (.ref q) [.int x]) G Q:=by
 have bg:=big
 obtain⟨ns,e,hl⟩:=h
 rw[aM2 e (by rw[zl];omega)]
 refine k _ ⟨ns++[x.toNat],?_,by simp;omega⟩
 rw[jd (lt_of_get e),jI]
 have ex:((x.toNat:Nat):Int)=x:=Int.toNat_of_nonneg hx
 simp only[zG,jZ,ex]
theorem dA0{G:DH}{q L:Nat}{R:Unit->DH->Prop}(h:DL' G q L):Wp (V7 (.ref q)) G R↔R () G:=by
 obtain⟨ns,e,hl⟩:=h
 exact aB8 e
theorem cS1{i j:Int}{G:DH}{Q:DPP}:Wp (geD (.int i) (.int j)) G Q↔Q (.bl (decide (i>=j))) G:=wp_pure
theorem eM6{G:DH}{p:Nat}{l:List D}{i:Int}{Q:DPP}(e:G[p]? =some (.rol l)):Wp (ixD (.ref p) (.int i)) G Q↔∃d,atI l i=some d/\Q d G:=by
 have h:ixD (.ref p) (.int i)= (do
  let l <-S7 p >>= DL.listOf
  aJ6 (atI l i)):=rfl
 rw[h]
 simp only[m9,R8,e,Q8,DL.listOf,wp_pure,aL3]
theorem fG9:aS0=m5 (t8 (W6 q11) (q13 1)) (m5 (aS5 (aC0 (q10 (q12 bW7 (q10 (q12 aD4 (q10 (b8 0) q11)) (q10 (cE (.int 80)) q11))) q11)) (q13 2) DB) (t6 (X3 (b8 1) (Z4) (aE1 (cE (.int 240)))))):=rfl
section
variable{s:Option D}{q L:Nat}{k rest:Int}{u v:Option D}
noncomputable def Fq(q:Nat)(G G':DH):Prop:=G.length<=G'.length/\∀i,i≠q->i<G.length->G'[i]? =G[i]?
theorem Fq.refl{G:DH}:Fq q G G:=⟨zo _,λ_ _ _=>rfl⟩
theorem Fq.trans{G G1 G2:DH}(h:Fq q G G1)(k:Fq q G1 G2):Fq q G G2:=⟨zI h.1 k.1,λi hi hl=>by rw[k.2 i hi (by have:=h.1;omega),h.2 i hi hl]⟩
theorem Fq.set{G:DH}{o:DO}:Fq q G (G.set q o):=⟨by simp,λi hi hl=>by rw[jf (Ne.symm hi)]⟩
theorem fC7{G:DH}(h:DL' G q L)(hL:L<=90000)(hk:0<=k/\k<100)(hr:0<=rest):
 Wp (D1 [s,some (.ref q),some (.int k),some (.int rest),u,v]) G λfl G'=>Fq q G G'/\DL' G' q (L+3)/\∃u',fl= .nx [s,some (.ref q),some (.int k),some (.int rest),u',v]:=by
 unfold D1
 have m1:bW0 7919 k:=Or.inl ⟨by omega,by omega⟩
 have m3:bW0 40692 (k+7):=Or.inl ⟨by omega,by omega⟩
 simp only[j9,N8,u0,aY2,bE0,w5,o8,m7,Q9,o5,zx,zr,zc,ze,zd,exists_eq_left',aD8 m1,aD8 m3,aH2,aA8 (show (0:Int)<2147483647 by decide)]
 have b1:0<=(rest+7919*k+3) % 2147483647:=jy _ (by omega)
 rw[aD8 (Or.inr ⟨by decide,by decide⟩),aA8 (by decide)]
 have b2:0<=(rest+7919*k+3) % 2147483647*48271 % 2147483647:=jy _ (by omega)
 have b3:(rest+7919*k+3) % 2147483647*48271 % 2147483647<2147483647:=jX _ (by omega)
 generalize (rest+7919*k+3) % 2147483647*48271 % 2147483647=a at *
 rw[aD8 (Or.inl ⟨by omega,by omega⟩),aA8 (by decide)]
 have c1:0<=a*a % 2147483629:=jy _ (by omega)
 have c2:a*a % 2147483629<2147483629:=jX _ (by omega)
 generalize a*a % 2147483629=c at *
 rw[dA0 h,aH7 ⟨by decide,by decide⟩,aA8 (by decide)]
 refine cY9 h (by omega) (jy _ (by decide)) λo1 h1=>?_
 rw[dA0 h1,aH7 ⟨by decide,by decide⟩,aA8 (by decide)]
 refine cY9 h1 (by omega) (jy _ (by decide)) λo2 h2=>?_
 rw[aH2,aA8 (by decide)]
 have d1:0<=(c+40692*(k+7)) % 2147483587:=jy _ (by omega)
 have d2:(c+40692*(k+7)) % 2147483587<2147483587:=jX _ (by omega)
 generalize (c+40692*(k+7)) % 2147483587=e at *
 rw[dA0 h2,aD8 (Or.inl ⟨by omega,by omega⟩),aA8 (by decide),aH7 ⟨by decide,by decide⟩,aA8 (by decide)]
 refine cY9 h2 (by omega) (jy _ (by decide)) λo3 h3=>?_
 exact⟨(Fq.set.trans Fq.set).trans Fq.set,h3,_,rfl⟩
theorem cU7:∀(j m:Nat) (rest:Int) (L:Nat) (G:DH),m+j=60->0<=rest->DL' G q L->L+j<=90000->
 Wp (X5 (j+1) WT1 WB1 [s,some (.ref q),some (.int k),some (.int rest),u,some (.int m)]) G λfl G'=>Fq q G G'/\DL' G' q (L+j)/\∃r' m',fl= .nx [s,some (.ref q),some (.int k),some (.int r'),u,some (.int m')]
 |0,m,rest,L,G,hm,hr,h,hL=>by
   rw[aQ5]
   unfold WT1
   have c:¬((m:Int)<60):=by omega
   simp only[bF5,N7,w5,Q9,o5,cS1,aM6,aB0,zc,ze,zd,exists_eq_left',c,decide_false]
   split
   · simp only[zC,if_false]
     exact⟨Fq.refl,h,rest,m,rfl⟩
   · simp only[zC,if_false]
     exact⟨Fq.refl,h,rest,m,rfl⟩
 |j+1,m,rest,L,G,hm,hr,h,hL=>by
   rw[aQ5]
   have c:((m:Int)<60):=by omega
   have et:Wp (WT1 [s,some (.ref q),some (.int k),some (.int rest),u,some (.int m)]) G λb G'=>b=decide (rest>=1000)/\G'=G:=by
    unfold WT1
    simp only[bF5,N7,w5,Q9,o5,cS1,aM6,aB0,zc,ze,zd,exists_eq_left',c,decide_true]
    by_cases cr:rest>=1000
    ·simp[cr]
    ·simp[cr]
   refine Wp.mono et λb G1 ⟨eb,eg⟩=>?_
   subst eb eg
   by_cases cr:rest>=1000
   · rw[if_pos (decide_eq_true cr)]
     unfold WB1
     simp only[j9,N8,u0,aY2,bE0,w5,o8,m7,Q9,o5,zx,zr,zc,ze,zd,exists_eq_left',dA0 h,aA8 (show (0:Int)<1000 by decide),aH2,aH7 (show (0:Int)<1000/\(1000:Int)<2 ^ 100 by decide)]
     refine cY9 h (by omega) (jy _ (by decide)) λo h1=>?_
     refine Wp.mono (cU7 j (m+1) (rest / 1000) (L+1) (G1.set q o) (by omega) (by omega) h1 (by omega)) λfl G2 ⟨f2,h2,q2⟩=>⟨Fq.set.trans f2,?_,q2⟩
     have e:L+(j+1)=L+1+j:=by omega
     rw[e];exact h2
   · rw[if_neg (by simpa using cr)]
     obtain⟨ns,e,hl⟩:=h
     exact⟨Fq.refl,⟨ns,e,by omega⟩,rest,m,rfl⟩
theorem fB7{G:DH}(h:DL' G q L)(hL:L<=80000)(hr:0<=rest):
 Wp (D2 [s,some (.ref q),some (.int k),some (.int rest),u,v]) G λfl G'=>Fq q G G'/\DL' G' q (L+60)/\∃r' v',fl= .nx [s,some (.ref q),some (.int k),some (.int r'),u,v']:=by
 unfold D2
 simp only[j9,N8,u0,Q9,zx,zr]
 refine bR3 (Wp.mono (cU7 60 0 rest L G rfl hr h (by omega)) λfl G1 ⟨f1,h1,r',m',e⟩=>?_)
 exact⟨f1,h1,r',_,e⟩
theorem eV6{p:Nat}{ns:List Int}{i:Nat}{G:DH}(e:G[p]? =some (.rol (ns.map D.int)))(hi:i<ns.length)(hi2:i<100)(h:DL' G q L)(hL:L<=80000){t:Option D}:
 Wp (DB [some (.ref p),some (.ref q),some (.int i),t,u,v]) G λfl G'=>Fq q G G'/\DL' G' q (L+60)/\∃t' u' v',fl= .nx [some (.ref p),some (.ref q),some (.int i),t',u',v']:=by
 have ei:atI (ns.map D.int) (i:Int)=some (.int ns[i]):=atI_nat (by rw[zZ,zu hi];rfl)
 unfold DB
 simp only[j9,N8,u0,v8,w5,o8,m7,Q9,o5,zx,zr,zc,ze,zd,exists_eq_left',eM6 e,ei,cY2,aD3,N7,p18,aM6,aB0]
 have hr:0<=(if ns[i]<0 then -ns[i]else ns[i]):=by split<;>omega
 generalize (if ns[i]<0 then -ns[i]else ns[i])=rest at *
 split
 · refine Wp.mono (fC7 h (by omega) ⟨by omega,by omega⟩ hr) λfl G1 ⟨f1,h1,u',ef⟩=>⟨f1,?_,_,_,_,ef⟩
   obtain⟨ns,e,hl⟩:=h1
   exact⟨ns,e,by omega⟩
 ·exact Wp.mono (fB7 h hL hr) λfl G1 ⟨f1,h1,r',v',ef⟩=>⟨f1,h1,_,_,_,ef⟩
theorem cW3{p:Nat}{ns:List Int}(hpq:p≠q):∀(is:List Nat) (L:Nat) (a t u v:Option D) (G:DH),G[p]? =some (.rol (ns.map D.int))->DL' G q L->(∀i∈is,i<ns.length/\i<100)->L+60*is.length<=80000->
 Wp (aI0 (q13 2) DB (λ_=>true) (is.map λi:Nat=>D.int (i:Int)) [some (.ref p),some (.ref q),a,t,u,v]) G λfl G'=>Fq q G G'/\DL' G' q 80000/\∃a t u v,fl= .nx [some (.ref p),some (.ref q),a,t,u,v]
 |[],L,a,t,u,v,G,e,h,hi,hL=>by
   rw[jZ,aK2]
   obtain⟨ns,e,hl⟩:=h
   exact⟨rfl,Fq.refl,⟨ns,e,by simp at hL;omega⟩,a,t,u,v,rfl⟩
 |i::r,L,a,t,u,v,G,e,h,hi,hL=>by
   simp only[jg]at hL
   have hi0:=hi i (by simp)
   rw[zG,aK4,u0]
   refine⟨rfl,?_⟩
   simp only[zx,zr]
   refine Wp.mono (eV6 e hi0.1 hi0.2 h (by omega)) λfl G1 ⟨f1,h1,t',u',v',ef⟩=>?_
   subst ef
   have e1:G1[p]? =some (.rol (ns.map D.int)):=by rw[f1.2 p hpq (lt_of_get e)];exact e
   exact Wp.mono (cW3 hpq r (L+60) _ _ _ _ G1 e1 h1 (λj hj=>hi j (by simp[hj])) (by omega)) λfl G2 ⟨f2,q2⟩=>⟨f1.trans f2,q2⟩
end
theorem aX5(n:Nat):M4 0 n= (jw n).map λi:Nat=>D.int (i:Int):=by
 unfold M4
 apply xK
 intro i _
 simp
theorem dI5{G:DH}{p:Nat}{l:List D}{Q:DPP}(e:G[p]? =some (.rol l)):Wp (aD4 [.ref p]) G Q↔Q (.int l.length) G:=by
 unfold aD4
 simp only[m9,R8,e,Q8,wp_pure]
theorem dO0{p:Nat}{ns:List Int}{G:DH}(e:G[p]? =some (.rol (ns.map D.int)))(hn:ns.length<=63):Wp (aA0 [.ref p]) G λx G'=>∃r,x= .ref r/\Dr G' r:=by
 unfold aA0
 rw[fG9]
 have hp:=lt_of_get e
 have s0:([D.ref p].map some++zt (6 - [D.ref p].length) none:DSt)= [some (.ref p),none,none,none,none,none]:=rfl
 simp only[R6,s0,j9,N8,u0,aJ5,aO8,rng1,v8,o8,m7,Q9,o5,zx,zr,zc,ze,zd,exists_eq_left']
 refine⟨sz,?_⟩
 have e1:=U7 (t:= [DO.lst []]) e
 rw[dI5 e1,cC3]
 have hm:(if (80:Int)<((ns.map D.int).length:Int)then (80:Int)else ((ns.map D.int).length:Int))= (ns.length:Int):=by
  rw[zl,if_neg (by omega)]
 rw[hm,rng1_int ⟨by omega,by omega⟩,zW]
 show Wp (aI0 (q13 2) DB (λ_=>true) (M4 0 ns.length) [some (.ref p),some (.ref G.length),none,none,none,none]) (G++[DO.lst []]) _
 rw[aX5]
 refine Wp.mono (cW3 (ns:=ns) (show p≠G.length by omega) (jw ns.length) 0 none none none none _ e1 ⟨[],o4,by simp⟩ (λi hi=>⟨yX.mp hi,by have:=yX.mp hi;omega⟩) (by rw[jD];omega)) λfl G1 ⟨f1,h1,a,t,u,v,ef⟩=>?_
 subst ef
 obtain⟨ms,em,hl⟩:=h1
 simp only[M7,aE3,aZ3,bD2,eC3,Q9,o5,zc,ze,zd,exists_eq_left']
 rw[bO3 em]
 refine⟨_,rfl,ms.take 240,?_⟩
 rw[o4]
 have:=dK5 (ms.map λn:Nat=>D.int (n:Int)) 240
 rw[show (some (240:Int))=some ((240:Nat):Int)from rfl,this,List.map_take]
def FS(b m:Nat)(ps:List (Str×D)):Prop:=(ps.map (·.1)).Nodup/\∀p∈ps,p.1.length<=1000/\VW b m p.2
def kvD(p:Str×D):Key×D:=(.inr p.1,J3 p)
theorem cW5:∀ps:List (Str×D),aA9 (ps.map kvD)=some (ps.map (·.1))
 |[]=>rfl
 |p::r=>by
   show (aA9 (r.map kvD)).map (p.1 :: ·)=_
   rw[cW5 r];rfl
noncomputable def dC0(ps:List (Str×D))(z:Str)(v:D):List (Str×D):=if ps.any (λp=>decide (p.1=z))then ps.map (λp=>if p.1=z then (z,v)else p)else ps++[(z,v)]
theorem eS5(ps:List (Str×D))(z:Str):((ps.map kvD).any λkv=>decide (kv.1= .inr z))=ps.any λp=>decide (p.1=z):=by
 rw[yG]
 congr 1
 funext p
 show decide ((.inr p.1:Key)= .inr z)=_
 by_cases e:p.1=z
 ·rw[decide_eq_true e,e,decide_eq_true rfl]
 ·rw[decide_eq_false e,decide_eq_false λq=>e (Zz q)]
theorem eH7(ps:List (Str×D))(z:Str)(v:D):aU9 (ps.map kvD) (.inr z) (J3 (z,v))= (dC0 ps z v).map kvD:=by
 unfold aU9 dC0
 rw[eS5]
 split
 · rw[jc,jc]
   apply xK
   intro p _
   show (if (.inr p.1:Key)= .inr z then ((.inr p.1:Key),J3 (z,v))else kvD p)=kvD (if p.1=z then (z,v)else p)
   by_cases e:p.1=z
   ·rw[if_pos e,if_pos (by rw[e]),e];rfl
   ·rw[if_neg e,if_neg λq=>e (Zz q)]
 ·rw[jI];rfl
theorem FS.put{b m:Nat}{ps:List (Str×D)}{z:Str}{v:D}(h:FS b m ps)(hz:z.length<=1000)(hv:VW b m v):FS b m (dC0 ps z v)/\(dC0 ps z v).length<=ps.length+1:=by
 unfold dC0
 split
 · have e:(ps.map (λp=>if p.1=z then (z,v)else p)).map (·.1)=ps.map (·.1):=by
    rw[jc]
    apply xK
    intro p _
    show (if p.1=z then (z,v)else p).1=p.1
    by_cases e:p.1=z
    ·rw[if_pos e,e]
    ·rw[if_neg e]
   refine⟨⟨by rw[e];exact h.1,λp hp=>?_⟩,by rw[zl];omega⟩
   obtain⟨q,hq,rfl⟩:=zL.mp hp
   split
   ·exact⟨hz,hv⟩
   ·exact h.2 q hq
 · rename_i hn
   refine⟨⟨?_,λp hp=>?_⟩,by simp⟩
   · rw[jI,Yw]
     refine⟨h.1,by simp,λa ha b hb=>?_⟩
     simp only[zG,jZ,zP]at hb
     subst hb
     obtain⟨q,hq,rfl⟩:=zL.mp ha
     intro e
     exact hn (YN.mpr ⟨q,hq,decide_eq_true e⟩)
   · rcases jr.mp hp with hp|hp
     ·exact h.2 p hp
     ·rw[zP.mp hp];exact⟨hz,hv⟩
theorem dV3{r:Nat}{l:List (Key×D)}{z:Str}{d:D}{G:DH}{R:Unit->DH->Prop}(h:G[r]? =some (.dct l))(hl:l.length<zk):Wp (cS5 (.ref r) (.str z) d) G R↔R () (G.set r (.dct (aU9 l (.inr z) d))):=by
 unfold cS5
 simp only[m9,R8,h,Q8,bU2,hl,if_true,bI0]
theorem dL0{G:DH}{q:Nat}{o:DO}(e:G[q]? =some o):G.set q o=G:=by
 apply Yy
 intro i
 by_cases h:q=i
 ·subst h;rw[jd (lt_of_get e),e]
 ·rw[jf h]
theorem fI2(R:List D->M D):aH3 R=m5 (t8 (aX9) (q13 3)) (m5 (t8 (q12 (fnX 3 R) (q10 (b8 0) (q10 (b8 1) (q10 (d9 bB0 (b8 2) (cE (.int 1))) q11)))) (q13 4)) (m5 (aS5 (itW (b8 1)) (q13 5) (RB R)) RT)):=rfl
section
variable{R:List D->M D}{r p:Nat}{deep:Int}{b m:Nat}
theorem aJ0.fd{G G':DH}(h:aJ0 b G p)(hp:p≠r)(f:Fd r G G'):aJ0 b G' p:=by
 obtain⟨ds,e,q⟩:=h
 exact⟨ds,f.at hp e,q⟩
theorem eW5{q:Nat}{z:Str}{ps:List (Str×D)}{G:DH}{l:D}{u:Option D}(hR:∀G,Dr G r->aJ0 b G p->Wp (R [.ref r,.ref p,.int (deep-1)]) G λx G'=>VW b m x/\Fd r G G')(h:Dr G r)(hp:p≠r)(pl:aJ0 b G p)(hq:q≠r)(e:G[q]? =some (.dct (ps.map kvD)))(fs:FS b m ps)(hl:ps.length<=1000)(hz:z.length<=1000)(vl:VW b m l):
 Wp (RB R [some (.ref r),some (.ref p),some (.int deep),some (.ref q),some l,some (.str z),u]) G λfl G'=>∃G1 o ps' l' u',Fd r G G1/\G'=G1.set q o/\G'[q]? =some (.dct (ps'.map kvD))/\FS b m ps'/\ps'.length<=ps.length+1/\VW b m l'/\fl= .nx [some (.ref r),some (.ref p),some (.int deep),some (.ref q),some l',some (.str z),u']:=by
 have bg:=big
 refine j9.mpr<| M8<| t7 (as:= [.ref r,.int 6]) rfl rfl<| Q5 h (by decide) λk k0 k1 G1 f1=>?_
 have two:∀l' G2,VW b m l'->Fd r G G2->Wp (RW2 [some (.ref r),some (.ref p),some (.int deep),some (.ref q),some l',some (.str z),some (.int k)]) G2 λfl G'=>∃G1 o ps' l' u',Fd r G G1/\G'=G1.set q o/\G'[q]? =some (.dct (ps'.map kvD))/\FS b m ps'/\ps'.length<=ps.length+1/\VW b m l'/\fl= .nx [some (.ref r),some (.ref p),some (.int deep),some (.ref q),some l',some (.str z),u']:=by
  intro l' G2 vl' f2
  have e2:=f2.at hq e
  refine aN1<| R5<| P0 (x:=.int k) (y:=.int 0) rfl rfl<| aW8.mpr ⟨_,rfl,λc=>?_,λc=>v6.mpr ⟨G2,.dct (ps.map kvD),ps,l',_,f2,(dL0 e2).symm,e2,fs,by omega,vl',rfl⟩⟩
  refine N8.mpr<| m6 (a:=.tup [.str z,l']) rfl<| dL3.mpr<| m6 (a:=.ref q) rfl<| m6 (a:=.str z) rfl<| (dV3 e2 (by rw[zl];omega)).mpr ?_
  have fp:=FS.put fs hz vl'
  refine⟨G2,_,dC0 ps z l',l',_,f2,rfl,?_,fp.1,fp.2,vl',rfl⟩
  rw[jd (lt_of_get e2)]
  exact congrArg (λl=>some (DO.dct l)) (eH7 ps z l')
 refine j9.mpr<| aN1<| R5<| P0 (x:=.int k) (y:=.int 2) rfl rfl<| aW8.mpr ⟨_,rfl,λc=>?_,λc=>v6.mpr (two l G1 vl f1)⟩
 refine M8<| t7 (as:= [.ref r,.ref p,.int (deep-1)]) rfl rfl<| (hR G1 f1.2.2 (pl.fd hp f1)).mono λx G2 ⟨vx,f2⟩=>?_
 exact two x G2 vx (f1.trans f2)
theorem cZ9{ds:List D}{G0:DH}{q:Nat}(hR:∀G,Dr G r->aJ0 b G p->Wp (R [.ref r,.ref p,.int (deep-1)]) G λx G'=>VW b m x/\Fd r G G')(hp:p≠r)(e0:G0[p]? =some (.lst ds))(pl0:aJ0 b G0 p)(hq:q≠r)(hq0:G0.length<=q):∀(items:List D) (l:D) (u v:Option D) (ps:List (Str×D)) (G:DH),Fd r G0 G->G[q]? =some (.dct (ps.map kvD))->FS b m ps->ps.length+items.length<=b->b<=50->(∀d∈items,SD d)->VW b m l->
 Wp (aI0 (q13 5) (RB R) (ckO p (.lst ds)) items [some (.ref r),some (.ref p),some (.int deep),some (.ref q),some l,u,v]) G λfl G'=>Fd r G0 G'/\∃ps' l u v,G'[q]? =some (.dct (ps'.map kvD))/\FS b m ps'/\ps'.length<=b/\fl= .nx [some (.ref r),some (.ref p),some (.int deep),some (.ref q),l,u,v]
 |[],l,u,v,ps,G,f,e,fs,hl,hb,hi,vl=>aK2.mpr ⟨by simp[ckO,f.at hp e0],f,ps,_,u,v,e,fs,by simpa using hl,rfl⟩
 |x::t,l,u,v,ps,G,f,e,fs,hl,hb,hi,vl=>by
   obtain⟨z,rfl,hz⟩:=hi x (by simp)
   simp only[jg]at hl
   refine aK4.mpr ⟨by simp[ckO,f.at hp e0],u0.mpr<| (eW5 hR f.2.2 hp (pl0.fd hp f) hq e fs (by omega) hz vl).mono λfl G2 ⟨G1,o,ps',l',u',f1,eg,e2,fs',hl',vl',ef⟩=>?_⟩
   subst ef eg
   exact cZ9 hR hp e0 pl0 hq hq0 t l' _ _ ps' _ ((f.trans f1).put hq0 hq) e2 fs' (by omega) hb (λy hy=>hi y (by simp[hy])) vl'
def fnd(ps:List (Str×D))(z:Str):D:=((ps.find? λp=>decide (p.1=z)).map (·.2)).getD .non
theorem cM1{ps:List (Str×D)}{z:Str}(h:z∈ps.map (·.1)):∃q∈ps,q.1=z/\(ps.find? λp=>decide (p.1=z))=some q:=by
 cases hf:ps.find? λp=>decide (p.1=z) with
 |none=>
   obtain⟨q,hq,e⟩:=zL.mp h
   have:=List.find?_eq_none.mp hf q hq
   simp[e]at this
 |some q=>exact⟨q,xZ hf,by simpa using List.find?_some hf,rfl⟩
theorem eV3{q:Nat}{l u v:Option D}{ps:List (Str×D)}{G:DH}(h:Dr G r)(e:G[q]? =some (.dct (ps.map kvD)))(fs:FS b m ps)(hl:ps.length<=b)(hb:b<=50):
 Wp (RT [some (.ref r),some (.ref p),some (.int deep),some (.ref q),l,u,v]) G λfl G'=>Fd r G G'/\∃x,VW b (m+1) x/\fl= .rt x:=by
 have bg:=big
 unfold RT
 simp only[M7,U6,wp_comp,wp_itW,v8,o8,m7,Q9,o5,zc,ze,zd,exists_eq_left']
 rw[dF2 e (cW5 ps) (by rw[zl];omega),bG1 o4]
 have hperm:(aC4 (ps.map (·.1))).Perm (ps.map (·.1)):=yA _ leS
 have hplen:=hperm.length_eq
 have e1:=U7 (t:= [DO.lst ((aC4 (ps.map (·.1))).map D.str)]) e
 refine⟨by simp only[zl];rw[hplen,zl];omega,?_⟩
 refine Wp.mono (aQ0 (λG'=>G'=G++[DO.lst ((aC4 (ps.map (·.1))).map D.str)]) (λO=>∃w,O= [w,some (.ref q)]) (λd=>match d with| .str z=>J3 (z,fnd ps z)|_=>.non) (λG' j=>by subst j;simp[ckO]) _ _ _ ⟨none,rfl⟩ rfl λd hd O G2 WY j=>?_) λys G2 ⟨j2,ey⟩=>?_
 · obtain⟨w,rfl⟩:=WY
   subst j
   obtain⟨z,hz,rfl⟩:=zL.mp hd
   obtain⟨x,hx,ex,ef⟩:=cM1 (hperm.mem_iff.mp hz)
   simp only[u0,zr,aP7,w5,o5,zc,ze,zd,exists_eq_left']
   have el:R3 (ps.map kvD) (.inr z)=some (J3 x):=by
    have:=aY4 J3 ps z
    rw[ef]at this
    exact this
   rw[cU1 e1 el]
   refine⟨trivial,⟨_,rfl⟩,trivial,trivial,rfl,?_⟩
   unfold fnd
   rw[ef,<-ex]
   rfl
 · subst j2 ey
   rw[aK9 o4]
   refine⟨sz,(Fd.app h).trans (Fd.app h.app),_,?_,rfl⟩
   refine .inr (.inr (.inr (.inr ⟨(aC4 (ps.map (·.1))).map λz=>(z,fnd ps z),?_,?_,?_,λx hx=>?_⟩)))
   ·rw[jc,jc];rfl
   ·rw[zl,hplen,zl];omega
   · rw[jc]
     show ((aC4 (ps.map (·.1))).map λz=>z).Nodup
     rw[List.map_id']
     exact hperm.nodup_iff.mpr fs.1
   · obtain⟨z,hz,rfl⟩:=zL.mp hx
     obtain⟨y,hy,ey,ef⟩:=cM1 (hperm.mem_iff.mp hz)
     have:=fs.2 y hy
     unfold fnd
     rw[ef]
     exact⟨by rw[<-ey];exact this.1,this.2⟩
theorem bY4{G:DH}(hR:∀G,Dr G r->aJ0 b G p->Wp (R [.ref r,.ref p,.int (deep-1)]) G λx G'=>VW b m x/\Fd r G G')(h:Dr G r)(hp:p≠r)(pl:aJ0 b G p)(hb:b<=50):
 Wp (aA2 R [.ref r,.ref p,.int deep]) G λx G'=>VW b (m+1) x/\Fd r G G':=by
 refine T8 (show Wp (aH3 R [some (.ref r),some (.ref p),some (.int deep),none,none,none,none]) G _ from ?_)
 rw[fI2]
 have hr:=h.lt
 refine o7 (G':=G++[.dct []]) rfl<| j9.mpr<| M8<| t7 (as:= [.ref r,.ref p,.int (deep-1)]) rfl rfl<| (hR _ h.app (pl.fd hp (Fd.app h))).mono λx G1 ⟨vx,f1⟩=>?_
 have pl1:=pl.fd hp ((Fd.app (t:= [.dct []]) h).trans f1)
 have e1:G1[G.length]? =some (.dct []):=f1.at (show G.length≠r by omega) o4
 obtain⟨ds,e,hds,h0,h50⟩:=pl1
 have ed:G[p]? =some (.lst ds):=by
  obtain⟨ds',e',_⟩:=pl
  have:=((Fd.app (t:= [.dct []]) h).trans f1).at hp e'
  rw[e]at this;cases this;exact e'
 refine j9.mpr<| aO8.mpr<| wp_itW.mpr<| m6 (a:=.ref p) rfl<| (bG1 e).mpr<| (cZ9 (G0:=G) hR hp ed pl (show G.length≠r by omega) (zo _) ds x _ _ [] _ ((Fd.app h).trans f1) e1 ⟨by simp,λy hy=>by cases hy⟩ (by simpa using h50) hb hds vx).mono λfl G2 ⟨f2,ps,l,u,v,e2,fs,hl,ef⟩=>?_
 subst ef
 refine(eV3 f2.2.2 e2 fs hl hb).mono λfl G3 ⟨f3,x,vx,ex⟩=>?_
 subst ex
 exact⟨vx,f2.trans f3⟩
end
theorem fE2(R:List D->M D):aF5 R=m5 (t8 (q12 (fnX 2 g8) (q10 (b8 0) (q10 (cE (.int 8)) q11))) (q13 3)) (m5 V1 (m5 V2 (m5 V3 (m5 V4 (m5 (V5 R) (V6 R)))))):=rfl
section
variable{R:List D->M D}{r p:Nat}{deep w:Int}{b m:Nat}{G:DH}
theorem VW.i{i:Int}:VW b (m+1) (.int i):=.inl ⟨i,rfl⟩
theorem VW.tr{k:Bool}:VW b (m+1) (.bl k):=.inr (.inl ⟨k,rfl⟩)
theorem VW.s{z:Str}(h:z.length<=1000):VW b (m+1) (.str z):=.inr (.inr (.inl ⟨z,rfl,by omega⟩))
theorem VW.l{l:List D}(hl:l.length<=b)(h:∀x∈l,VW b m x):VW b (m+1) (.tup [.str U8,.tup l]):=.inr (.inr (.inr (.inl ⟨l,rfl,hl,h⟩)))
def St1(O:DSt)(c:Prop)(b m r:Nat)(G:DH)(fl:Fl)(G':DH):Prop:=(fl= .nx O/\G'=G/\c)\/∃x,fl= .rt x/\VW b m x/\Fd r G G'
theorem fE0(h:Dr G r):Wp (V1 [some (.ref r),some (.ref p),some (.int deep),some (.int w)]) G (St1 [some (.ref r),some (.ref p),some (.int deep),some (.int w)] True b (m+1) r G):=by
 unfold V1 St1
 simp only[aD3,N7,w5,o5,Q9,v6,zc,ze,zd,exists_eq_left',aA4,aB0]
 by_cases c:w=0
 · simp only[c,decide_true,if_true,M7,v8,o8,m7,o5,J4,zc,zd,exists_eq_left']
   exact⟨rfl,Wp.mono (cA0 h) λx G1 ⟨⟨i,e⟩,f⟩=>.inr ⟨_,rfl,by rw[e];exact VW.i,f⟩⟩
 · simp only[c,decide_false,zC,if_false]
   exact .inl ⟨trivial,trivial,trivial⟩
theorem fC5(h:Dr G r):Wp (V2 [some (.ref r),some (.ref p),some (.int deep),some (.int w)]) G (St1 [some (.ref r),some (.ref p),some (.int deep),some (.int w)] True b (m+1) r G):=by
 unfold V2 St1
 simp only[aD3,N7,w5,o5,Q9,v6,zc,ze,zd,exists_eq_left',aA4,aB0]
 by_cases c:w=1
 · simp only[c,decide_true,if_true,M7,v8,o8,m7,o5,J4,zc,zd,exists_eq_left']
   exact⟨rfl,Wp.mono (cZ1 h) λx G1 ⟨⟨z,e,hz⟩,f⟩=>.inr ⟨_,rfl,by rw[e];exact VW.s (by omega),f⟩⟩
 · simp only[c,decide_false,zC,if_false]
   exact .inl ⟨trivial,trivial,trivial⟩
theorem eY9(h:Dr G r):Wp (V3 [some (.ref r),some (.ref p),some (.int deep),some (.int w)]) G (St1 [some (.ref r),some (.ref p),some (.int deep),some (.int w)] True b (m+1) r G):=by
 unfold V3 St1
 simp only[aD3,N7,w5,o5,Q9,v6,zc,ze,zd,exists_eq_left',aA4,aB0]
 by_cases c:w=2
 · simp only[c,decide_true,if_true,M7,w5,v8,o8,m7,Q9,o5,J4,zc,zd,exists_eq_left']
   refine⟨rfl,Q5 h (by decide) λk k0 k1 G1 f1=>?_⟩
   rw[aA4]
   exact .inr ⟨_,rfl,VW.tr,f1⟩
 · simp only[c,decide_false,zC,if_false]
   exact .inl ⟨trivial,trivial,trivial⟩
theorem eX0(h:Dr G r):Wp (V4 [some (.ref r),some (.ref p),some (.int deep),some (.int w)]) G (St1 [some (.ref r),some (.ref p),some (.int deep),some (.int w)] (2<=deep) b (m+1) r G):=by
 unfold V4 St1
 simp only[aD3,N7,w5,o5,Q9,v6,zc,ze,zd,exists_eq_left',aM6,aB0]
 by_cases c:deep<2
 · simp only[c,decide_true,if_true,M7,w5,v8,o8,m7,Q9,o5,J4,zc,zd,exists_eq_left']
   refine⟨rfl,Q5 h (by decide) λk k0 k1 G1 f1=>?_⟩
   rw[aN7]
   exact .inr ⟨_,rfl,VW.i,f1⟩
 · simp only[c,decide_false,zC,if_false]
   exact .inl ⟨trivial,trivial,by omega⟩
theorem fB8(hb:4<=b)(hR:∀G,Dr G r->aJ0 b G p->Wp (R [.ref r,.ref p,.int (deep-1)]) G λx G'=>VW b m x/\Fd r G G')(h:Dr G r)(hp:p≠r)(pl:aJ0 b G p):Wp (V5 R [some (.ref r),some (.ref p),some (.int deep),some (.int w)]) G (St1 [some (.ref r),some (.ref p),some (.int deep),some (.int w)] True b (m+1) r G):=by
 have bg:=big
 unfold V5 St1
 simp only[aD3,N7,w5,o5,Q9,v6,zc,ze,zd,exists_eq_left',aA4,aB0]
 by_cases c:w=3
 · simp only[c,decide_true,if_true,M7,U6,wp_comp,rng1,v8,o8,m7,Q9,o5,J4,zc,ze,zd,exists_eq_left']
   refine⟨rfl,Q5 h (by decide) λk k0 k1 G1 f1=>?_⟩
   rw[rng1_int ⟨by omega,by omega⟩]
   have hlen:(M4 0 k.toNat).length<=4:=by unfold M4;rw[zl,jD];omega
   refine⟨by show (M4 0 k.toNat).length<=_;omega,?_⟩
   refine Wp.mono (aP5 (λG'=>Fd r G1 G') (λO=>∃u,O= [u,some (.int deep),some (.ref r),some (.ref p)]) (VW b m) (λ_ _=>rfl) (M4 0 k.toNat) _ G1 ⟨none,rfl⟩ (Fd.refl f1.2.2) λd hd O G2 WY f2=>?_) λys G2 ⟨f2,el,hy⟩=>?_
   · obtain⟨u,rfl⟩:=WY
     simp only[u0,zr,aP7,w5,v8,o8,m7,Q9,o5,J4,aN7,zc,ze,zd,exists_eq_left']
     refine⟨trivial,⟨_,rfl⟩,trivial,trivial,rfl,Wp.mono (hR G2 f2.2.2 (pl.fd hp (f1.trans f2))) λx G3 ⟨vx,f3⟩=>⟨f2.trans f3,vx⟩⟩
   · rw[aK9 o4]
     exact⟨sz,.inr ⟨_,rfl,VW.l (by omega) hy,(f1.trans f2).trans (Fd.app f2.2.2)⟩⟩
 · simp only[c,decide_false,zC,if_false]
   exact .inl ⟨trivial,trivial,trivial⟩
theorem bQ1(hb:4<=b/\b<=50)(hR:2<=deep->∀G,Dr G r->aJ0 b G p->Wp (R [.ref r,.ref p,.int (deep-1)]) G λx G'=>VW b m x/\Fd r G G')(h:Dr G r)(hp:p≠r)(pl:aJ0 b G p):
 Wp (J7 4 (aF5 R) [.ref r,.ref p,.int deep]) G λx G'=>VW b (m+1) x/\Fd r G G':=by
 rw[fE2]
 have s0:([D.ref r,D.ref p,D.int deep].map some++zt (4 - [D.ref r,D.ref p,D.int deep].length) none:DSt)= [some (.ref r),some (.ref p),some (.int deep),none]:=rfl
 simp only[R6,s0,j9,N8,u0,v8,o8,m7,Q9,o5,J4,zc,ze,zx,zr,zd,exists_eq_left']
 refine⟨rfl,Q5 h (by decide) λw w0 w1 G1 f1=>?_⟩
 have pl1:=pl.fd hp f1
 refine Wp.mono (fE0 (b:=b) (m:=m) f1.2.2) λfl G2 s=>?_
 rcases s with⟨rfl,rfl,_⟩|⟨x,rfl,vx,f2⟩
 case inr=>exact⟨vx,f1.trans f2⟩
 refine Wp.mono (fC5 (b:=b) (m:=m) f1.2.2) λfl G2 s=>?_
 rcases s with⟨rfl,rfl,_⟩|⟨x,rfl,vx,f2⟩
 case inr=>exact⟨vx,f1.trans f2⟩
 refine Wp.mono (eY9 (b:=b) (m:=m) f1.2.2) λfl G2 s=>?_
 rcases s with⟨rfl,rfl,_⟩|⟨x,rfl,vx,f2⟩
 case inr=>exact⟨vx,f1.trans f2⟩
 refine Wp.mono (eX0 (b:=b) (m:=m) f1.2.2) λfl G2 s=>?_
 rcases s with⟨rfl,rfl,h2⟩|⟨x,rfl,vx,f2⟩
 case inr=>exact⟨vx,f1.trans f2⟩
 refine Wp.mono (fB8 hb.1 (hR h2) f1.2.2 hp pl1) λfl G2 s=>?_
 rcases s with⟨rfl,rfl,_⟩|⟨x,rfl,vx,f2⟩
 case inr=>exact⟨vx,f1.trans f2⟩
 unfold V6
 simp only[M7,v8,o8,m7,Q9,o5,J4,zc,ze,zd,exists_eq_left']
 exact⟨rfl,Wp.mono (bY4 (hR h2) f1.2.2 hp pl1 hb.2) λx G3 ⟨vx,f3⟩=>⟨vx,f1.trans f3⟩⟩
end
theorem cF0{r p b:Nat}(hb:4<=b/\b<=50)(hp:p≠r):∀(k n:Nat) (deep:Int) (G:DH),deep<=k->k<n->Dr G r->aJ0 b G p->Wp (aK3 n [.ref r,.ref p,.int deep]) G λx G'=>VW b (k+1) x/\Fd r G G'
 |0,n+1,deep,G,hd,hn,h,pl=>bQ1 hb (λh2=>by omega) h hp pl
 |k+1,n+1,deep,G,hd,hn,h,pl=>bQ1 hb (λh2 G h pl=>cF0 hb hp k n (deep-1) G (by omega) (by omega) h pl) h hp pl
noncomputable def cV7:D->Option (Str×D)
 | .tup [.str n,v]=>some (n,v)
 |_=>none
noncomputable def cG7(ps:List (Str×D))(z:Str):Option D:=(ps.find? λp=>decide (p.1=z)).map (·.2)
def kid:D->Str->Option D:=λd z=>match d with
 | .tup [.str w,.tup l]=>if w=W4 then cG7 (l.filterMap cV7) z else none
 |_=>none
def T4:D->List Str->D
 |d, []=>.tup [d]
 |d,z::r=>match kid d z with
   |some y=>T4 y r
   |none=>.tup []
theorem dP7:∀ps:List (Str×D),(ps.map J3).filterMap cV7=ps
 |[]=>rfl
 |p::r=>by
   rw[zG,jP]
   show (p.1,p.2)::_=_
   rw[dP7 r]
theorem cD8{ps:List (Str×D)}{z:Str}:kid (.tup [.str W4,.tup (ps.map J3)]) z=cG7 ps z:=by
 show (if W4=W4 then cG7 ((ps.map J3).filterMap cV7) z else none)=_
 rw[if_pos rfl,dP7]
theorem bS6{l:List D}{z:Str}:kid (.tup [.str U8,.tup l]) z=none:=by
 show (if U8=W4 then cG7 (l.filterMap cV7) z else none)=none
 rw[if_neg (by decide)]
theorem VW.kid{c n:Nat}{d y:D}{z:Str}(h:VW c (n+1) d)(e:W.kid d z=some y):VW c n y:=by
 rcases h with⟨i,rfl⟩|⟨k,rfl⟩|⟨z,rfl,hz⟩|⟨l,rfl,hl⟩|⟨ps,rfl,hl0,hn,hp⟩
 ·cases e
 ·cases e
 ·cases e
 ·rw[bS6]at e;cases e
 · rw[cD8]at e
   unfold cG7 at e
   obtain⟨p,h1,h2⟩:=XL.mp e
   rw[<-h2]
   exact(hp p (xZ h1)).2
theorem dX2{a b:D}:atI [a,b] 0=some a:=rfl
theorem fD1{a b:D}:atI [a,b] 1=some b:=rfl
noncomputable def dQ6(d:D):Bool:=match d with
 | .tup [.str w,.tup _]=>w==W4
 |_=>false
theorem aR1{c n:Nat}{d:D}{G:DH}(h:VW c n d):Wp (Z2 [d]) G λx G'=>x= .bl (dQ6 d)/\G'=G:=by
 have th:aJ9 G d:=h.there
 cases n with
 |zero=>exact h.elim
 |succ n=>
   unfold Z2 aY0
   have s0:([d].map some++zt (1 - [d].length) none:DSt)= [some d]:=rfl
   simp only[R6,s0,M7,w5,aE7,v8,o8,m7,Q9,o5,zc,zd,exists_eq_left',bE9 th,K4]
   rcases h with⟨i,rfl⟩|⟨k,rfl⟩|⟨z,rfl,hz⟩|⟨l,rfl,hl⟩|⟨ps,rfl,hl0,hn,hp⟩
   · simp only[aJ4,zC,if_false]
     exact⟨rfl,trivial⟩
   · simp only[aJ4,zC,if_false]
     exact⟨rfl,trivial⟩
   · simp only[aJ4,zC,if_false]
     exact⟨rfl,trivial⟩
   · simp only[aJ4,if_true,ix_tup,dX2,zd,exists_eq_left',aJ7]
     exact⟨rfl,trivial⟩
   · simp only[aJ4,if_true,ix_tup,dX2,zd,exists_eq_left',aJ7]
     exact⟨rfl,trivial⟩
theorem fF2:bJ6=m5 (t8 (b8 0) (q13 2)) (m5 (aS5 (itW (b8 1)) (q13 3) AB) (t6 (v5 (q10 (b8 2) q11)))):=rfl
section
variable{a b u:Option D}{c n:Nat}{d:D}{z:Str}{G:DH}
theorem fA4(h:VW c (n+1) d):Wp (AB [a,b,some d,some (.str z),u]) G λfl G'=>Ap G G'/\match kid d z with|some y=>∃u',fl= .nx [a,b,some y,some (.str z),u']|none=>fl= .rt (.tup []):=by
 unfold AB
 simp only[j9,N8,u0,dS5,U9,v8,o8,m7,Q9,o5,J4,w5,cT3,aD3,N7,M7,U6,v6,bQ6,zc,ze,zx,zr,zd,exists_eq_left']
 refine⟨rfl,Wp.mono (aR1 h) λx G1 ⟨ex,eg⟩=>?_⟩
 subst ex eg
 rw[K4]
 by_cases cc:dQ6 d=true
 · rcases h with⟨i,rfl⟩|⟨k,rfl⟩|⟨z',rfl,hz⟩|⟨l,rfl,hl⟩|⟨ps,rfl,hl0,hn,hp⟩
   ·cases cc
   ·cases cc
   ·cases cc
   ·exact absurd cc (by show ¬(U8==W4)=true;decide)
   · rw[if_pos cc]
     simp only[ix_tup,fD1,zd,exists_eq_left',cD8]
     rw[cM8 (bJ5 ps)]
     have e1:DL.putAll [] (ps.map λp=>((.inr p.1:Key),p.2))=ps.map λp=>((.inr p.1:Key),p.2):=bE8 ps [] (by simpa using hn)
     rw[e1]
     have el:=aY4 (λp=>p.2) ps z
     refine⟨_,cC9 o4,_,rfl,?_⟩
     rw[el]
     cases ef:(ps.find? λp=>decide (p.1=z)).map (λp=>p.2) with
     |none=>
       have ek:cG7 ps z=none:=ef
       rw[ek]
       simp only[Jt,xu,if_true]
       exact⟨sz,Ap.one,trivial⟩
     |some y=>
       have ek:cG7 ps z=some y:=ef
       rw[ek]
       simp only[Js,Yc,zC,if_false]
       rw[cU1 o4 (el.trans ef)]
       exact⟨Ap.one,_,rfl⟩
 · rw[if_neg cc]
   have ek:kid d z=none:=by
    rcases h with⟨i,rfl⟩|⟨k,rfl⟩|⟨z',rfl,hz⟩|⟨l,rfl,hl⟩|⟨ps,rfl,hl0,hn,hp⟩
    ·rfl
    ·rfl
    ·rfl
    ·exact bS6
    ·exact absurd (show (W4==W4)=true by decide) cc
   rw[ek]
   refine⟨_,cC9 o4,_,rfl,?_⟩
   have e0:R3 [] (.inr z)=none:=rfl
   rw[e0]
   simp only[Jt,xu,if_true]
   exact⟨sz,Ap.one,trivial⟩
end
section
variable{a b:Option D}{G:DH}
theorem bJ4{c:Nat}{X:Fs}{ck:DH->Bool}(hck:∀G,ck G=true)(hX:∀ {n:Nat} {d:D} {z:Str} {u:Option D} {G:DH},VW c (n+1) d->Wp (X [a,b,some d,some (.str z),u]) G λfl G'=>Ap G G'/\match kid d z with|some y=>∃u',fl= .nx [a,b,some y,some (.str z),u']|none=>fl= .rt (.tup [])):
 ∀(zs:List Str) {n:Nat} {d:D} (u v:Option D) (G:DH),VW c n d->
 Wp (aI0 (q13 3) X ck (zs.map D.str) [a,b,some d,u,v]) G λfl G'=>Ap G G'/\((∃y u' v',fl= .nx [a,b,some y,u',v']/\T4 d zs= .tup [y])\/(fl= .rt (.tup [])/\T4 d zs= .tup []))
 |[],n,d,u,v,G,h=>by
   rw[jZ,aK2]
   exact⟨hck G,Ap.refl,.inl ⟨d,u,v,rfl,rfl⟩⟩
 |z::r,0,d,u,v,G,h=>h.elim
 |z::r,n+1,d,u,v,G,h=>by
   rw[zG,aK4,u0]
   refine⟨hck G,?_⟩
   simp only[zx,zr]
   refine Wp.mono (hX h) λfl G1 ⟨g1,q⟩=>?_
   cases e:kid d z with
   |none=>
     rw[e]at q
     subst q
     refine⟨g1,.inr ⟨rfl,?_⟩⟩
     unfold T4
     rw[e]
   |some y=>
     rw[e]at q
     obtain⟨u',rfl⟩:=q
     refine Wp.mono (bJ4 hck hX r _ _ G1 (h.kid e)) λfl G2 ⟨g2,q⟩=>⟨g1.trans g2,?_⟩
     have ew:T4 d (z::r)=T4 y r:=by
      show (match kid d z with|some y=>T4 y r|none=>.tup [])=_
      rw[e]
     rw[ew]
     exact q
theorem bA9{c n:Nat}{d:D}{zs:List Str}(h:VW c n d):Wp (aE4 [d,.tup (zs.map D.str)]) G λx G'=>x=T4 d zs/\Ap G G':=by
 unfold aE4
 rw[fF2]
 have s0:([d,D.tup (zs.map D.str)].map some++zt (5 - [d,D.tup (zs.map D.str)].length) none:DSt)= [some d,some (.tup (zs.map D.str)),none,none,none]:=rfl
 simp only[R6,s0,j9,N8,u0,aO8,wp_itW,M7,U6,o8,m7,o5,srcW_tup,zc,ze,zx,zr,zd,exists_eq_left']
 refine Wp.mono (bJ4 (λ_=>rfl) fA4 zs none none G h) λfl G1 ⟨g1,q⟩=>?_
 rcases q with⟨y,u,v,rfl,e⟩|⟨rfl,e⟩
 · simp only[zc,ze,zd,exists_eq_left']
   exact⟨sz,e.symm,g1⟩
 ·exact⟨e.symm,g1⟩
theorem fG0:aS7=m5 (t8 (b8 0) (q13 2)) (m5 (aS5 (itW (b8 1)) (q13 3) TB) (t6 (v5 (q10 (b8 2) q11)))):=rfl
theorem bK3{z:Str}{ck:DH->Bool}(hck:ck G=true):∀(ps:List (Str×D)) (u v:Option D),
 Wp (M6 (aE0 2 (w6 (q13 0) (w6 (q13 1) (aF6)))) (o6 (d9 eqD (b8 0) (b8 2))) (b8 1) ck (ps.map J3) [u,v,some (.str z)]) G λys G'=>G'=G/\ys= (ps.filter λp=>decide (p.1=z)).map (·.2)
 |[],u,v=>by
   rw[jZ,bE3]
   exact⟨hck,rfl,rfl⟩
 |p::r,u,v=>by
   rw[zG,bG6]
   refine⟨hck,?_⟩
   unfold J3
   rw[cX4]
   simp only[bD1,bO8,u0,zx,zr,N7,w5,o5,zc,ze,zd,exists_eq_left',aJ7,aB0]
   by_cases c:p.1=z
   · have e:(p.1==z)=true:=by rw[c];simp
     rw[if_pos e,XU (by simpa using c)]
     refine Wp.mono (bK3 hck r _ _) λys G1 ⟨eg,ey⟩=>⟨eg,?_⟩
     rw[ey];rfl
   · have e:¬(p.1==z)=true:=λq=>c (by simpa using q)
     rw[if_neg e,XV (by simpa using c)]
     exact bK3 hck r _ _
theorem dK2{y:D}{r:List D}:atI (y::r) 0=some y:=by
 have:=atI_nat (l:=y::r) (k:=0) (s:=y) rfl
 exact this
theorem fC6{c n:Nat}{d:D}{z:Str}{u:Option D}(hc:c<=1000)(h:VW c (n+1) d):Wp (TB [a,b,some d,some (.str z),u]) G λfl G'=>Ap G G'/\match kid d z with|some y=>∃u',fl= .nx [a,b,some y,some (.str z),u']|none=>fl= .rt (.tup []):=by
 have bg:=big
 have th:aJ9 G d:=VW.there h
 unfold TB
 rw[j9]
 unfold TA
 simp only[aD3,cR6,aO1,U9,N7,M7,U6,w5,v8,o8,m7,Q9,o5,v6,zc,ze,zd,exists_eq_left',bE9 th,K4]
 rcases h with⟨i,rfl⟩|⟨k,rfl⟩|⟨z',rfl,hz⟩|⟨l,rfl,hl⟩|⟨ps,rfl,hl0,hn,hp⟩
 · simp only[aJ4,xu,if_true]
   exact⟨sz,Ap.refl,trivial⟩
 · simp only[aJ4,xu,if_true]
   exact⟨sz,Ap.refl,trivial⟩
 · simp only[aJ4,xu,if_true]
   exact⟨sz,Ap.refl,trivial⟩
 · simp only[aJ4,Yc,zC,if_false,ix_tup,dX2,zd,exists_eq_left',dL1,aB0,show (!(U8==("record" :Str)))=true from by decide,if_true,bS6]
   exact⟨sz,Ap.refl,trivial⟩
 · simp only[aJ4,Yc,zC,if_false,ix_tup,dX2,zd,exists_eq_left',dL1,aB0,show (!(W4==("record" :Str)))=false from by decide,cD8]
   rw[j9]
   unfold TC
   simp only[N8,u0,wp_comp,wp_itW,w5,Q9,o5,ix_tup,fD1,srcW_tup,zc,ze,zd,exists_eq_left',zx,zr]
   refine⟨by rw[zl];have:=hl0;omega,?_⟩
   refine Wp.mono (bK3 (z:=z) rfl ps none none) λys G1 ⟨eg,ey⟩=>?_
   subst eg
   unfold TE'
   simp only[j9,aD3,N7,M7,U6,N8,u0,aJ5,w5,m7,Q9,o5,v6,zc,ze,zd,exists_eq_left',zx,zr]
   refine⟨sz,?_⟩
   have e1:(G1++[DO.lst ys]++[DO.lst []])[G1.length]? =some (.lst ys):=U7 o4
   rw[cE9 e1 o4]
   refine⟨_,rfl,?_⟩
   have hf:cG7 ps z=ys.head? :=by
    unfold cG7
    rw[ey,<-List.head?_filter,List.head?_map]
   rw[hf]
   cases ys with
   |nil=>
     simp only[YJ,if_true]
     exact⟨sz,Ap.one.trans Ap.one,trivial⟩
   |cons y r=>
     simp only[List.isEmpty_cons,zC,if_false]
     rw[bJ1 e1]
     exact⟨y,dK2,Ap.one.trans Ap.one,_,rfl⟩
theorem aQ3{c n:Nat}{d:D}{zs:List Str}(hc:c<=1000)(h:VW c n d):Wp (K7 [d,.tup (zs.map D.str)]) G λx G'=>x=T4 d zs/\Ap G G':=by
 unfold K7
 rw[fG0]
 have s0:([d,D.tup (zs.map D.str)].map some++zt (5 - [d,D.tup (zs.map D.str)].length) none:DSt)= [some d,some (.tup (zs.map D.str)),none,none,none]:=rfl
 simp only[R6,s0,j9,N8,u0,aO8,wp_itW,M7,U6,o8,m7,o5,srcW_tup,zc,ze,zx,zr,zd,exists_eq_left']
 refine Wp.mono (bJ4 (λ_=>rfl) (fC6 hc) zs none none G h) λfl G1 ⟨g1,q⟩=>?_
 rcases q with⟨y,u,v,rfl,e⟩|⟨rfl,e⟩
 · simp only[zc,ze,zd,exists_eq_left']
   exact⟨sz,e.symm,g1⟩
 ·exact⟨e.symm,g1⟩
noncomputable def fF8(d:D):Prop:=∃zs:List Str,d= .tup (zs.map D.str)
end
theorem cS8:∀ {ys:List D},(∀y∈ys,SD y)->∃zs:List Str,ys=zs.map D.str
 |[],_=>⟨[],rfl⟩
 |y::r,h=>by
   obtain⟨z,rfl,_⟩:=h y (by simp)
   obtain⟨zs,rfl⟩:=cS8 (ys:=r) λx hx=>h x (by simp[hx])
   exact⟨z::zs,rfl⟩
theorem aP3{G:DH}{p:Nat}{l:List D}{Q:DPP}(e:G[p]? =some (.lst l)):Wp (aD4 [.ref p]) G Q↔Q (.int l.length) G:=by
 unfold aD4
 simp only[m9,R8,e,Q8,wp_pure]
theorem fG3:aY1=m5 Q1 (m5 Q2 (m5 Q3 (t6 (q12 aD9 (q10 (b8 3) q11))))):=rfl
section
variable{r p:Nat}{G:DH}
theorem fD4(h:Dr G r):Wp (Q1 [some (.ref r),some (.ref p),none,none]) G λfl G'=>Fd r G G'/\∃k:Int,0<=k/\k<5/\fl= .nx [some (.ref r),some (.ref p),some (.int k),none]:=by
 unfold Q1
 simp only[N8,u0,w5,aJ5,v8,o8,m7,Q9,o5,J4,zx,zr,zc,ze,zd,exists_eq_left']
 refine⟨sz,rfl,aU6 h rfl (by decide) λd hd G2 f2=>⟨f2,?_⟩⟩
 simp only[zw,zy,or_false]at hd
 rcases hd with rfl|rfl|rfl|rfl|rfl|rfl|rfl|rfl<;>exact⟨_,by decide,by decide,rfl⟩
theorem eW0{k:Int}(h:Dr G r)(hp:p≠r)(pl:aJ0 b G p)(h0:0<=k)(h1:k<5):Wp (Q2 [some (.ref r),some (.ref p),some (.int k),none]) G λfl G'=>Fd r G G'/\∃q ys,G.length<=q/\q≠r/\G'[q]? =some (.lst ys)/\(ys.length:Int)=k/\(∀y∈ys,SD y)/\fl= .nx [some (.ref r),some (.ref p),some (.int k),some (.ref q)]:=by
 have bg:=big
 unfold Q2
 simp only[N8,u0,wp_comp,rng1,o8,m7,o5,zx,zr,zc,ze,zd,exists_eq_left']
 rw[rng1_int ⟨by omega,by omega⟩]
 have hlen:(M4 0 k.toNat).length=k.toNat:=by unfold M4;rw[zl,jD]
 refine⟨by show (M4 0 k.toNat).length<=_;omega,?_⟩
 refine Wp.mono (aP5 (λG'=>Fd r G G') (λO=>∃w,O= [w,some (.ref r),some (.ref p)]) SD (λ_ _=>rfl) (M4 0 k.toNat) _ G ⟨none,rfl⟩ (Fd.refl h) λd hd O G2 WY f2=>?_) λys G2 ⟨f2,el,hy⟩=>?_
 · obtain⟨w,rfl⟩:=WY
   obtain⟨ds,e2,hds,d0,d1⟩:=pl.fd hp f2
   simp only[u0,zr,aP7,w5,v8,o8,m7,Q9,o5,J4,zc,ze,zd,exists_eq_left']
   refine⟨trivial,⟨_,rfl⟩,trivial,trivial,?_⟩
   rw[aP3 e2]
   exact⟨rfl,aK6 f2.2.2 hp e2 rfl (by omega) λd hd G3 f3=>⟨f2.trans f3,hds d hd⟩⟩
 · have hr:=f2.2.2.lt
   exact⟨f2.trans (Fd.app f2.2.2),_,ys,f2.1,by omega,o4,by omega,hy,rfl⟩
theorem fD5{k:Int}{G0:DH}{q:Nat}{ys:List D}(f0:Fd r G0 G)(hq0:G0.length<=q)(hq:q≠r)(e:G[q]? =some (.lst ys))(hl:(ys.length:Int)=k)(hy:∀y∈ys,SD y):
 Wp (Q3 [some (.ref r),some (.ref p),some (.int k),some (.ref q)]) G λfl G'=>Fd r G0 G'/\∃ys,G'[q]? =some (.lst ys)/\(∀y∈ys,SD y)/\fl= .nx [some (.ref r),some (.ref p),some (.int k),some (.ref q)]:=by
 unfold Q3
 simp only[aD3,bF5,N7,w5,v8,o8,m7,Q9,o5,J4,v6,aW8,aB0,zc,ze,zd,exists_eq_left']
 by_cases c:k>0
 · simp only[c,decide_true,if_true]
   refine⟨rfl,Q5 f0.2.2 (by decide) λt t0 t1 G1 f1=>?_⟩
   rw[aA4]
   refine⟨_,rfl,?_⟩
   by_cases c5:t=5
   · simp only[c5,decide_true,if_true,N8,v8,o8,m7,Q9,o5,J4,dL3,zc,ze,zd,exists_eq_left']
     refine⟨rfl,Wp.mono (bD7 f1.2.2) λx G2 ⟨⟨z,ex,hz⟩,f2⟩=>?_⟩
     subst ex
     refine⟨rfl,Q5 f2.2.2 c λj j0 j1 G3 f3=>?_⟩
     have f13:=(f1.trans f2).trans f3
     have e3:=f13.at hq e
     rw[dY7 e3 (j:=j.toNat) (by unfold ixN;rw[if_pos (by omega),if_pos (by omega)])]
     refine⟨(f0.trans f13).put hq0 hq,_,by rw[jd (lt_of_get e3)],λy hy'=>?_,trivial⟩
     rcases XD hy' with hy'|rfl
     ·exact hy y hy'
     ·exact⟨z,rfl,by omega⟩
   · simp only[c5,decide_false,zC,if_false]
     exact⟨f0.trans f1,ys,f1.at hq e,hy,trivial⟩
 · simp only[c,decide_false,zC,if_false]
   exact⟨f0,ys,e,hy,trivial⟩
theorem cV9(h:Dr G r)(hp:p≠r)(pl:aJ0 b G p):Wp (Z1 [.ref r,.ref p]) G λx G'=>fF8 x/\Fd r G G':=by
 unfold Z1
 rw[fG3]
 have s0:([D.ref r,D.ref p].map some++zt (4 - [D.ref r,D.ref p].length) none:DSt)= [some (.ref r),some (.ref p),none,none]:=rfl
 rw[R6,s0,j9]
 refine Wp.mono (fD4 h) λfl G1 ⟨f1,k,k0,k1,e1⟩=>?_
 subst e1
 dsimp only
 rw[j9]
 refine Wp.mono (eW0 f1.2.2 hp (pl.fd hp f1) k0 k1) λfl G2 ⟨f2,q,ys,hq0,hq,e,hl,hy,e2⟩=>?_
 subst e2
 dsimp only
 rw[j9]
 refine Wp.mono (fD5 f2 hq0 hq e hl hy) λfl G3 ⟨f3,ys3,e3,hy3,ef⟩=>?_
 subst ef
 simp only[M7,v8,o8,m7,o5,aK9 e3,zc,ze,zd,exists_eq_left']
 obtain⟨zs,rfl⟩:=cS8 hy3
 exact⟨⟨zs,rfl⟩,f1.trans f3⟩
end
inductive Hd where
 |n (i:Int)|s (z:Str)|b (k:Bool)|l (m:Nat)|r (ns:List Str)
noncomputable def eE7:D->Str
 | .str z=>z
 |_=> ""
def bH5:D->Str
 | .tup (x::_)=>eE7 x
 |_=> ""
def bQ7:D->Hd
 | .int i=>.n i
 | .bl k=>.b k
 | .str z=>.s z
 |d=>if bI9 U8 d then .l (aD5 d).length else .r ((aD5 d).map bH5)
noncomputable def HR(m:Nat)(G:DH)(d:D):Hd->Prop
 | .n i=>d= .tup [.int 0,.tup [.int (if i<0 then -i else i),.bl (decide (i<0))]]
 | .s z=>d= .tup [.int 1,.tup [.int z.length,.str z]]
 | .b k=>d= .tup [.int 2,.bl k]
 | .l c=>d= .tup [.int 3,.int c]
 | .r ns=>∃p,m<=p/\d= .tup [.int 4,.int ns.length,.ref p]/\G[p]? =some (.lst (ns.map D.str))
theorem HR.keep{m:Nat}{G G':DH}{d:D}{h:Hd}(k:∀p o,m<=p->G[p]? =some o->G'[p]? =some o)(a:HR m G d h):HR m G' d h:=by
 cases h with
 |r ns=>
   obtain⟨p,hp,e,g⟩:=a
   exact⟨p,hp,e,k p _ hp g⟩
 |_=>exact a
theorem cH2{G:DH}{n:Nat}:∀a b:List Str,eqL (eqN (n+1) G) (a.map D.str) (b.map D.str)=some (decide (a=b))
 |[], []=>by simp[eqL]
 |[],_::_=>by simp[eqL]
 |_::_, []=>by simp[eqL]
 |x::a,y::b=>by
   simp only[zG,eqL,cH2 a b]
   have e:eqN (n+1) G (.str x) (.str y)=some (x==y):=by simp[eqN,S6,eqS]
   rw[e]
   by_cases h:x=y
   ·subst h;simp
   ·simp[h]
theorem dI1{G:DH}{n p q:Nat}{a b:List Str}(h:G[p]? =some (.lst (a.map D.str)))(k:G[q]? =some (.lst (b.map D.str))):eqN (n+2) G (.ref p) (.ref q)=some (decide (a=b)):=by
 have h1:S6 G (.ref p)=some (false,a.map D.str):=by simp only[S6,h]
 have h2:S6 G (.ref q)=some (false,b.map D.str):=by simp only[S6,k]
 rw[eqN,h1,h2]
 simp only[if_true,zl,true_and]
 by_cases hl:a.length=b.length
 · rw[if_neg (by simpa using hl)]
   exact cH2 a b
 · rw[if_pos hl]
   have:a≠b:=λe=>hl (by rw[e])
   simp[this]
theorem dQ1{i j:Int}:(if i<0 then -i else i)= (if j<0 then -j else j)->decide (i<0)=decide (j<0)->i=j:=by
 intro h1 h2
 by_cases a:i<0<;>by_cases b:j<0<;>simp[a,b]at h1 h2<;>omega
open Classical in
theorem eB8{G:DH}{m n:Nat}{d e:D}{h k:Hd}(a:HR m G d h)(b:HR m G e k):eqN (n+6) G d e=some (decide (h=k)):=by
 cases h with
 |n i=>
   cases k with
   |n j=>
     cases a;cases b
     simp only[eqN,S6,eqL,eqS,if_true]
     by_cases hij:i=j
     ·subst hij;simp
     · have:¬((if i<0 then -i else i)= (if j<0 then -j else j)/\decide (i<0)=decide (j<0)):=fun⟨u,v⟩=>hij (dQ1 u v)
       simp[hij]
       intro u v
       exact this ⟨u,by rw[decide_eq_decide];exact v⟩
   |r ns=>cases a;obtain⟨p,hp,rfl,g⟩:=b;simp[eqN,S6,eqL,eqS,aC5]
   |_=>cases a;cases b;simp[eqN,S6,eqL,eqS,aC5]
 |s z=>
   cases k with
   |s y=>
     cases a;cases b
     simp only[eqN,S6,eqL,eqS,if_true]
     by_cases hij:z=y
     ·subst hij;simp
     ·simp[hij]
   |r ns=>cases a;obtain⟨p,hp,rfl,g⟩:=b;simp[eqN,S6,eqL,eqS,aC5]
   |_=>cases a;cases b;simp[eqN,S6,eqL,eqS,aC5]
 |b t=>
   cases k with
   |b u=>
     cases a;cases b
     simp[eqN,S6,eqL,eqS,aC5]
     cases t<;>cases u<;>simp
   |r ns=>cases a;obtain⟨p,hp,rfl,g⟩:=b;simp[eqN,S6,eqL,eqS,aC5]
   |_=>cases a;cases b;simp[eqN,S6,eqL,eqS,aC5]
 |l c=>
   cases k with
   |l c'=>
     cases a;cases b
     by_cases hc:c=c'
     ·subst hc;simp[eqN,S6,eqL,eqS,aC5]
     · have:(c:Int)≠c':=λe=>hc (by omega)
       simp[eqN,S6,eqL,eqS,aC5,hc,this]
   |r ns=>cases a;obtain⟨p,hp,rfl,g⟩:=b;simp[eqN,S6,eqL,eqS,aC5]
   |_=>cases a;cases b;simp[eqN,S6,eqL,eqS,aC5]
 |r ns=>
   obtain⟨p,hp,rfl,g⟩:=a
   cases k with
   |r ms=>
     obtain⟨q,hq,rfl,g'⟩:=b
     have e:=dI1 (n:=n+3) g g'
     rw[eqN]
     simp only[S6,eqL,if_true]
     rw[e]
     by_cases hij:ns=ms
     ·subst hij;simp[eqN,S6,eqS]
     ·simp[hij,eqN,S6,eqS]
   |_=>cases b;simp[eqN,S6,eqL,eqS,aC5]
open Classical in
theorem bZ3{G:DH}{m n:Nat}:∀ {ds es:List D} {hs ks:List Hd},aN2 (HR m G) ds hs->aN2 (HR m G) es ks->eqL (eqN (n+6) G) ds es=some (decide (hs=ks))
 |[], [], [], [],_,_=>by simp[eqL]
 |[],_::_, [],_::_,_,_=>by simp[eqL]
 |_::_, [],_::_, [],_,_=>by simp[eqL]
 |d::ds,e::es,h::hs,k::ks,a,b=>by
   simp only[eqL,eB8 a.1 b.1,bZ3 a.2 b.2]
   by_cases e1:h=k<;>by_cases e2:hs=ks<;>simp[e1,e2]
 |[],_,_::_,_,h,_=>h.elim
 |_::_,_, [],_,h,_=>h.elim
 |_, [],_,_::_,_,h=>h.elim
 |_,_::_,_, [],_,h=>h.elim
open Classical in
theorem dB2{G:DH}{m p q:Nat}{ds es:List D}{hs ks:List Hd}(h:G[p]? =some (.lst ds))(k:G[q]? =some (.lst es))(a:aN2 (HR m G) ds hs)(b:aN2 (HR m G) es ks):eqN 40 G (.ref p) (.ref q)=some (decide (hs=ks)):=by
 have h1:S6 G (.ref p)=some (false,ds):=by simp only[S6,h]
 have h2:S6 G (.ref q)=some (false,es):=by simp only[S6,k]
 rw[eqN,h1,h2]
 simp only[if_true,true_and]
 have l1:=a.len
 have l2:=b.len
 by_cases hl:ds.length=es.length
 · rw[if_neg (by simpa using hl)]
   exact bZ3 (n:=33) a b
 · rw[if_pos hl]
   have:hs≠ks:=λe=>hl (by rw[l1,l2,e])
   simp[this]
def bI4:Nat->D->List Hd
 |0,_=> []
 |n+1,d=>bQ7 d::(kids d).flatMap (bI4 n)
theorem dQ2{b:Nat}:∀ {n m:Nat} {d:D},n<=m->VB b n d->bI4 m d=bI4 n d
 |0,_,_,_,h=>h.elim
 |n+1,0,_,h,_=>by omega
 |n+1,m+1,d,h,a=>by
   unfold bI4
   congr 1
   have hk:=a.kids
   generalize kids d=l at hk
   induction l with
   |nil=>rfl
   |cons x r ih=>
     simp only[Ze]
     rw[dQ2 (by omega) (hk x (by simp)),ih λy hy=>hk y (by simp[hy])]
theorem dF4{b n:Nat}{d:D}(h:VB b (n+1) d):bI4 (n+1) d=bQ7 d::(kids d).flatMap (bI4 (n+1)):=by
 rw[bI4]
 congr 1
 have hk:=h.kids
 generalize kids d=l at hk
 induction l with
 |nil=>rfl
 |cons x r ih=>
   simp only[Ze]
   rw[dQ2 (n:=n) (m:=n+1) (by omega) (hk x (by simp)),ih λy hy=>hk y (by simp[hy])]
def pre(d:D):List Hd:=bI4 60 d
theorem dO2{b:Nat}{d:D}(h:VB b 60 d):pre d=bQ7 d::(kids d).flatMap pre:=dF4 (n:=59) h
theorem cV6{l:List D}:bQ7 (.tup [.str U8,.tup l])= .l l.length:=by
 simp[bQ7,bI9,aD5]
theorem dI2{l:List D}:bQ7 (.tup [.str W4,.tup l])= .r (l.map bH5):=by
 have e:bQ7 (.tup [.str W4,.tup l])=if bI9 U8 (.tup [.str W4,.tup l])then .l (aD5 (.tup [.str W4,.tup l])).length else .r ((aD5 (.tup [.str W4,.tup l])).map bH5):=rfl
 rw[e,bF4]
 simp[aD5]
theorem bQ9{f:D->List Hd}:∀ {a b:List D} {s t:List Hd},(∀x∈a,∀y∈b,∀s t,f x++s=f y++t->x=y/\s=t)->a.length=b.length->a.flatMap f++s=b.flatMap f++t->a=b/\s=t
 |[], [],s,t,_,_,e=>⟨rfl,by simpa using e⟩
 |[],_::_,_,_,_,l,_=>by simp at l
 |_::_, [],_,_,_,l,_=>by simp at l
 |x::a,y::b,s,t,h,l,e=>by
   simp only[Ze,yf]at e
   obtain⟨e1,e2⟩:=h x (by simp) y (by simp) _ _ e
   obtain⟨e3,e4⟩:=bQ9 (λx hx y hy=>h x (by simp[hx]) y (by simp[hy])) (by simpa using l) e2
   exact⟨by rw[e1,e3],e4⟩
theorem cY0{b n:Nat}:∀ {k l:List D},(∀x∈k,∃nm v,x= .tup [.str nm,v]/\nm.length<=1000/\VB b n v)->(∀x∈l,∃nm v,x= .tup [.str nm,v]/\nm.length<=1000/\VB b n v)->k.map bH5=l.map bH5->k.filterMap aZ4=l.filterMap aZ4->k=l
 |[], [],_,_,_,_=>rfl
 |[],_::_,_,_,e,_=>by simp at e
 |_::_, [],_,_,e,_=>by simp at e
 |x::k,y::l,hk,hl,e1,e2=>by
   obtain⟨nm,v,rfl,_,_⟩:=hk x (by simp)
   obtain⟨nm',v',rfl,_,_⟩:=hl y (by simp)
   simp only[zG,Yq,bH5,eE7]at e1
   simp only[jP,aZ4,Yq]at e2
   rw[cY0 (λx hx=>hk x (by simp[hx])) (λx hx=>hl x (by simp[hx])) e1.2 e2.2,e1.1,e2.1]
theorem cE7{b n:Nat}:∀ {l:List D},(∀x∈l,∃nm v,x= .tup [.str nm,v]/\nm.length<=1000/\VB b n v)->(l.filterMap aZ4).length=l.length
 |[],_=>rfl
 |x::l,hl=>by
   obtain⟨nm,v,rfl,_,_⟩:=hl x (by simp)
   have ih:=cE7 (l:=l) λx hx=>hl x (by simp[hx])
   simp only[jP,aZ4,jg,ih]
theorem cZ2{b:Nat}:∀(n:Nat) {x y:D} {s t:List Hd},VB b n x->VB b n y->bI4 n x++s=bI4 n y++t->x=y/\s=t
 |0,_,_,_,_,h,_,_=>h.elim
 |n+1,x,y,s,t,hx,hy,e=>by
   unfold bI4 at e
   simp only[Zq,Yq]at e
   obtain⟨e1,e2⟩:=e
   have ih:∀x'∈kids x,∀y'∈kids y,∀s t,bI4 n x'++s=bI4 n y'++t->x'=y'/\s=t:=λx' hx' y' hy' s t e=>cZ2 n (hx.kids x' hx') (hy.kids y' hy') e
   rcases hx with⟨i,rfl⟩|⟨k,rfl⟩|⟨z,rfl,hz⟩|⟨l,rfl,hl⟩|⟨l,rfl,hl⟩<;>rcases hy with⟨i',rfl⟩|⟨k',rfl⟩|⟨z',rfl,hz'⟩|⟨l',rfl,hl'⟩|⟨l',rfl,hl'⟩<;>(try simp only[cV6,dI2]at e1)<;>first
    |(cases e1;done)
    |(cases e1;exact⟨rfl,by simpa [kids,bI9]using e2⟩)
    |skip
   · simp only[bJ8]at e2 ih
     have hlen:l.length=l'.length:=by simpa using e1
     obtain⟨q1,q2⟩:=bQ9 ih hlen e2
     exact⟨by rw[q1],q2⟩
   · simp only[bQ2]at e2 ih
     have hnm:l.map bH5=l'.map bH5:=by simpa using e1
     have hlen:l.length=l'.length:=by simpa using congrArg YU hnm
     obtain⟨q1,q2⟩:=bQ9 ih (by rw[cE7 hl,cE7 hl',hlen]) e2
     exact⟨by rw[cY0 hl hl' hnm q1],q2⟩
theorem eR8{b:Nat}{x y:D}(hx:VB b 60 x)(hy:VB b 60 y):pre x=pre y↔x=y:=by
 constructor
 · intro e
   exact(cZ2 60 (s:= []) (t:= []) hx hy (by simpa [pre]using e)).1
 · rintro rfl
   rfl
theorem cH6{b n:Nat}{l:List D}{G:DH}{Q:DPP}(hl:∀x∈l,∃nm v,x= .tup [.str nm,v]/\nm.length<=1000/\VB b n v)(hz:l.length<=zk):Wp (Z7 [.tup l]) G Q↔Q (.ref G.length) (G++[.lst ((l.map bH5).map D.str)]):=by
 unfold Z7 aR5
 have s0:([D.tup l].map some++zt (1 - [D.tup l].length) none:DSt)= [some (.tup l)]:=rfl
 have hc:M6 (q13 0) W0 (d9 ixD (b8 0) (cE (.int 0))) (λ_=>true) l (aD2 [none] [some (.tup l)]) G=some (.ok (l.map λx=>D.str (bH5 x)),G):=by
  refine Z0 (I:=λO=>O.length=1) rfl _ _ rfl λx hx O WY=>?_
  obtain⟨z,v,rfl,_,_⟩:=hl x hx
  match O,WY with
  |[u],_=>
    refine⟨[some (.tup [.str z,v])],rfl,rfl,rfl,aW7 ?_⟩
    simp only[w5,o5,Q9,zc,zd,exists_eq_left',ix_tup,at0]
    exact⟨rfl,trivial⟩
 simp only[R6,s0,M7,wp_comp,wp_itW,o5,zc,zd,exists_eq_left',srcW_tup,hz,true_and]
 rw[aS6 hc,jc]
 rfl
theorem dU9{b k m:Nat}{d:D}{G:DH}(h:VB b k d)(hs:szD d<=10000000)(hb:b<=1000000)(hm:m<=G.length):Wp (aK8 [d]) G λx G'=>HR m G' x (bQ7 d)/\Ap G G':=by
 have hsl:10000001<=zk:=by decide
 obtain⟨k,rfl⟩:∃k',k=k'+1:=⟨k-1,by have:=h.pos;omega⟩
 have ht:=h.there (G:=G)
 unfold aK8 bJ7 aB3 aL7 aE8 aS8
 have s0:([d].map some++zt (1 - [d].length) none:DSt)= [some d]:=rfl
 simp only[R6,s0,j9,aD3,U9,N7,M7,w5,U6,v8,o8,m7,Q9,o5,J4,v6,zc,zd,exists_eq_left',cG1 ht,cP7 ht,eJ8 ht,K4]
 rcases h with⟨i,rfl⟩|⟨t,rfl⟩|⟨z,rfl,hz⟩|⟨l,rfl,hl⟩|⟨l,rfl,hl⟩
 · have s1:([D.int i].map some++zt (1 - [D.int i].length) none:DSt)= [some (.int i)]:=rfl
   simp only[bH3,aB4,zC,if_false,if_true,s1,zc,zd,exists_eq_left',cY2,aM6]
   exact⟨rfl,sz,sz,rfl,Ap.refl⟩
 · simp only[bH3,if_true]
   exact⟨sz,rfl,Ap.refl⟩
 · have s1:([D.str z].map some++zt (1 - [D.str z].length) none:DSt)= [some (.str z)]:=rfl
   simp only[bH3,aB4,aO9,zC,if_false,if_true,s1,zc,zd,exists_eq_left',cN0 (show z.length<=zk by omega)]
   exact⟨rfl,sz,sz,rfl,Ap.refl⟩
 · simp only[bH3,aB4,aO9,zC,if_false,ix_tup,at0,at1,zd,exists_eq_left',aJ7,aB0,show (U8==("list" :Str))=true from by decide,if_true,cG6]
   refine⟨sz,?_,Ap.refl⟩
   rw[cV6]
   rfl
 · have hll:=bF2 l
   rw[cF3]at hs
   simp only[bH3,aB4,aO9,zC,if_false,ix_tup,at0,at1,zd,exists_eq_left',aJ7,aB0,show (W4==("list" :Str))=false from by decide,cG6,cH6 hl (show l.length<=zk by omega)]
   refine⟨rfl,sz,?_,Ap.one⟩
   rw[dI2]
   exact⟨G.length,hm,by rw[zl],o4⟩
theorem dM7{b k:Nat}{d:D}{G:DH}{Q:DPP}(h:VB b k d)(hs:szD d<=10000000):Wp (X8 [d]) G Q↔Q (.ref G.length) (G++[.lst (kids d)]):=by
 have hsl:10000001<=zk:=by decide
 obtain⟨k,rfl⟩:∃k',k=k'+1:=⟨k-1,by have:=h.pos;omega⟩
 unfold X8 aN0
 have s0:([d].map some++zt (1 - [d].length) none:DSt)= [some d]:=rfl
 have z0: [D.ty "int",D.ty "str"].length<=zk:=sz
 have z1:([]:List D).length<=zk:=sz
 simp only[R6,s0,j9,aD3,N7,U9,M7,w5,v8,o8,m7,Q9,o5,U6,aJ5,v6,zd,exists_eq_left',zc,wp_comp,wp_itW,dA5 h.there,K4,z0,z1,true_and]
 rcases h with⟨i,rfl⟩|⟨t,rfl⟩|⟨z,rfl,hz⟩|⟨l,rfl,hl⟩|⟨l,rfl,hl⟩
 ·simp only[aB4,XZ,if_true];exact Iff.rfl
 ·simp only[aB4,XZ,if_true];exact Iff.rfl
 ·simp only[aB4,aO9,Bool.or_true,if_true];exact Iff.rfl
 ·simp only[aB4,aO9,Zi,zC,if_false,ix_tup,at0,at1,zd,exists_eq_left',aJ7,aB0,show (U8==("list" :Str))=true from by decide,if_true,cM6,bJ8]
 · have hll:=bF2 l
   rw[cF3]at hs
   have hz:l.length<=zk:=by omega
   simp only[aB4,aO9,Zi,zC,if_false,ix_tup,at0,at1,zd,exists_eq_left',aJ7,aB0,show (W4==("list" :Str))=false from by decide,srcW_tup,hz,true_and]
   have hf:l.filterMap aZ4=l.map λx=>(aZ4 x).getD .non:=by
    have:∀m:List D,(∀x∈m,∃nm v,x= .tup [.str nm,v]/\nm.length<=1000/\VB b k v)->m.filterMap aZ4=m.map λx=>(aZ4 x).getD .non:=by
     intro m
     induction m with
     |nil=>exact λ_=>rfl
     |cons x r ih=>
       intro hm
       obtain⟨nm,v,rfl,_,_⟩:=hm x (by simp)
       rw[jP,zG,ih λx hx=>hm x (by simp[hx])]
       rfl
    exact this l hl
   have hc:M6 (q13 0) W0 (d9 ixD (b8 0) (cE (.int 1))) (λ_=>true) l (aD2 [none] [some (.tup [.str W4,.tup l])]) G=some (.ok (l.map λx=>(aZ4 x).getD .non),G):=by
    refine Z0 (I:=λO=>O.length=1) rfl _ _ rfl λx hx O WY=>?_
    obtain⟨z,v,rfl,_,_⟩:=hl x hx
    match O,WY with
    |[u],_=>
      refine⟨[some (.tup [.str z,v])],rfl,rfl,rfl,aW7 ?_⟩
      simp only[w5,o5,Q9,zc,zd,exists_eq_left',ix_tup,at1]
      exact⟨rfl,trivial⟩
   rw[aS6 hc,bQ2,hf]
theorem eX2:aP0=m5 (t8 (W6 q11) (q13 1)) (m5 (t8 (W6 (q10 (b8 0) q11)) (q13 2)) (m5 (aR7 (J8 (b8 2)) WB) (t6 (b8 1)))):=rfl
theorem aG9{G:DH}{p q:Nat}{o o':DO}(h:p≠q)(e:G[q]? =some o):(G.set p o')[q]? =some o:=by rw[jf h];exact e
theorem cA8{G:DH}{p:Nat}{o o':DO}(e:G[p]? =some o):(G.set p o')[p]? =some o':=by rw[jd (lt_of_get e)]
theorem dS0{b:Nat}{G0:DH}{p q:Nat}{d:D}(hb:b<=1000000)(hp:G0.length<=p)(hq:p<q):∀(n:Nat) (xs rs:List D) (hs:List Hd) (u:Option D) (G:DH),szL xs<n->rs.length+szL xs<=10000000->Gr G0 G->G[p]? =some (.lst rs)->G[q]? =some (.lst xs)->aN2 (HR (q+1) G) rs hs->(∀x∈xs,VB b 60 x)->
 Wp (X5 n (J8 (b8 2)) WB [some d,some (.ref p),some (.ref q),u]) G λfl G'=>Gr G0 G'/\∃u' rs',fl= .nx [some d,some (.ref p),some (.ref q),u']/\G'[p]? =some (.lst rs')/\aN2 (HR (q+1) G') rs' (hs++xs.reverse.flatMap pre)
 |0,xs,rs,hs,u,G,h1,_,_,_,_,_,_=>by omega
 |n+1,xs,rs,hs,u,G,h1,h2,g,ep,eq,hh,hx=>by
   have hsl:10000001<=zk:=by decide
   rw[aQ5]
   simp only[U9,o5,zc,ze,zd,exists_eq_left',dD0 eq]
   rcases List.eq_nil_or_concat xs with rfl|⟨ys,x,rfl⟩
   · simp only[YJ,Yc,zC,if_false]
     exact⟨g,u,rs,rfl,ep,by simpa using hh⟩
   · rw[List.concat_eq_append]at *
     have hne:(ys++[x]).isEmpty=false:=by cases ys<;>rfl
     have hsz:szL ys+szD x=szL (ys++[x]):=by rw[bE7];simp[szL]
     have hk:=eA4 x
     have hvx:=hx x (by simp)
     have l1:=bF2 ys
     have l2:=bF2 (kids x)
     have hpos:=cB6 x
     simp only[hne,xu,if_true]
     unfold WB
     simp only[j9,N8,bE0,m7,u0,cN2,aY2,v8,o8,o5,J4,zc,ze,zx,zr,zd,exists_eq_left',aB8 eq,dV7 eq]
     have e1p:(G.set q (.lst ys))[p]? =some (.lst rs):=aG9 (by omega) ep
     have e1q:(G.set q (.lst ys))[q]? =some (.lst ys):=cA8 eq
     have g1:Gr G0 (G.set q (.lst ys)):=g.set (by omega)
     have hh1:aN2 (HR (q+1) (G.set q (.lst ys))) rs hs:=hh.mono λ_ _ a=>a.keep λi o hi e=>aG9 (by omega) e
     have hql:=lt_of_get e1q
     generalize G.set q (.lst ys)=G1 at e1p e1q g1 hh1 hql
     rw[aB8 e1p]
     refine⟨rfl,Wp.mono (dU9 (m:=q+1) hvx (by omega) hb (by omega)) λy G2 ⟨hy,a2⟩=>?_⟩
     have e2p:=a2.at e1p
     have e2q:=a2.at e1q
     rw[aM2 e2p (by omega)]
     have g2:Gr G0 (G2.set p (.lst (rs++[y]))):=(g1.trans a2.gr).set hp
     have keep2:∀i o,q+1<=i->G2[i]? =some o->(G2.set p (.lst (rs++[y])))[i]? =some o:=λi o hi e=>aG9 (by omega) e
     have hh2:aN2 (HR (q+1) (G2.set p (.lst (rs++[y])))) (rs++[y]) (hs++[bQ7 x]):=(hh1.mono λ_ _ a=>(a.keep λi o hi e=>a2.at e).keep keep2).app ⟨hy.keep keep2,trivial⟩
     have e3p:(G2.set p (.lst (rs++[y])))[p]? =some (.lst (rs++[y])):=cA8 e2p
     have e3q:(G2.set p (.lst (rs++[y])))[q]? =some (.lst ys):=aG9 (by omega) e2q
     generalize G2.set p (.lst (rs++[y]))=G3 at g2 hh2 e3p e3q
     rw[aB8 e3q]
     refine⟨rfl,(dM7 hvx (by omega)).mpr ?_⟩
     rw[dH6 o4]
     have e4p:(G3++[DO.lst (kids x)]++[DO.lst (kids x).reverse])[p]? =some (.lst (rs++[y])):=U7 (U7 e3p)
     have e4q:(G3++[DO.lst (kids x)]++[DO.lst (kids x).reverse])[q]? =some (.lst ys):=U7 (U7 e3q)
     rw[cS4 e4q o4 (by rw[ZV];omega)]
     have keep4:∀i o,q+1<=i->G3[i]? =some o->((G3++[DO.lst (kids x)]++[DO.lst (kids x).reverse]).set q (.lst (ys++(kids x).reverse)))[i]? =some o:=λi o hi e=>aG9 (by omega) (U7 (U7 e))
     have ih:=dS0 (d:=d) hb hp hq n (ys++(kids x).reverse) (rs++[y]) (hs++[bQ7 x]) (some x) _ (by rw[bE7,cC1];omega) (by rw[bE7,cC1,zR,xx];omega) (((g2.trans Gr.app).trans Gr.app).set (by omega)) (aG9 (by omega) e4p) (cA8 e4q) (hh2.mono λ_ _ a=>a.keep keep4) (λz hz=>by
      rcases jr.mp hz with hz|hz
      ·exact hx z (by simp[hz])
      ·exact(hvx.kids z (List.mem_reverse.mp hz)).le (zo _) (by omega))
     refine Wp.mono ih λfl G' ⟨g',u',rs',q1,q2,q3⟩=>⟨g',u',rs',q1,q2,?_⟩
     have e:hs++[bQ7 x]++(ys++(kids x).reverse).reverse.flatMap pre=hs++(ys++[x]).reverse.flatMap pre:=by
      simp only[List.reverse_append,List.reverse_reverse,xt,List.reverse_nil,xi,List.flatMap_append,Ze,List.flatMap_nil,dO2 hvx,yf,List.singleton_append,Zq]
     rw[<-e]
     exact q3
theorem cI4{b:Nat}{d:D}{G:DH}(hb:b<=1000000)(h:VB b 60 d)(hs:szD d<=10000000):Wp (W8 [d]) G λx G'=>Gr G G'/\∃p rs,x= .ref p/\G.length<=p/\G'[p]? =some (.lst rs)/\aN2 (HR G.length G') rs (pre d):=by
 unfold W8
 rw[eX2]
 have s0:([d].map some++zt (4 - [d].length) none:DSt)= [some d,none,none,none]:=rfl
 simp only[R6,s0,j9,N8,u0,aJ5,o8,m7,o5,zc,ze,zx,zr,zd,exists_eq_left']
 refine⟨sz,sz,?_⟩
 have hlen:(G++[DO.lst []]).length=G.length+1:=by simp
 rw[hlen]
 refine bR3 (n:=szD d+1) ?_
 refine Wp.mono (dS0 (G0:=G) (p:=G.length) (q:=G.length+1) (d:=d) hb (zo _) (yE _) (szD d+1) [d] [] [] none _ (by simp[szL]) (by simp[szL];omega) (Gr.app.trans Gr.app) (U7 o4) (by rw[<-hlen];exact o4) trivial (λx hx=>by rw[zP]at hx;subst hx;exact h)) λfl G' ⟨g,u',rs',q1,q2,q3⟩=>?_
 subst q1
 simp only[M7,o5,zc,ze,zd,exists_eq_left']
 refine⟨g,G.length,rs',rfl,zo _,q2,?_⟩
 have e:([]:List Hd)++[d].reverse.flatMap pre=pre d:=by simp
 rw[e]at q3
 refine q3.mono λx k a=>?_
 cases k with
 |r ns=>
   obtain⟨p,hp,q⟩:=a
   exact⟨p,by omega,q⟩
 |_=>exact a
theorem Gr.len{G G':DH}(h:Gr G G'):G.length<=G'.length:=h.1
structure Vl(d:D):Prop where
 v:VB 2000 26 d
 s:szD d<=10000000
theorem Vl.v60{d:D}(h:Vl d):VB 2000 60 d:=h.v.le (zo _) (by omega)
theorem HR.gr{m:Nat}{G G':DH}{d:D}{h:Hd}(a:HR m G d h)(g:Gr G G'):HR m G' d h:=a.keep λ_ _ _ e=>g.at e
theorem HR.low{m n:Nat}{G:DH}{d:D}{h:Hd}(a:HR m G d h)(g:n<=m):HR n G d h:=by
 cases h with
 |r ns=>
   obtain⟨p,hp,q⟩:=a
   exact⟨p,by omega,q⟩
 |_=>exact a
open Classical in
theorem eC8{x y:D}{G:DH}(hx:Vl x)(hy:Vl y):Wp (aC2 [x,y]) G λr G'=>r= .bl (decide (x=y))/\Gr G G':=by
 unfold aC2 aS4
 have s0:([x,y].map some++zt (2 - [x,y].length) none:DSt)= [some x,some y]:=rfl
 simp only[R6,s0,M7,w5,v8,o8,m7,o5,J4,zc,ze,zd,exists_eq_left']
 refine⟨rfl,Wp.mono (cI4 (by omega) hx.v60 hx.s) λa G1 ⟨g1,p,rs,e,hp,q1,q2⟩=>?_⟩
 subst e
 refine⟨rfl,Wp.mono (cI4 (by omega) hy.v60 hy.s) λa G2 ⟨g2,q,ss,e,hq,q3,q4⟩=>?_⟩
 subst e
 have l1:=g1.1
 rw[cJ1,dB2 (m:=G.length) (g2.at q1) q3 (q2.mono λ_ _ a=>a.gr g2) (q4.mono λ_ _ a=>a.low l1)]
 refine⟨_,rfl,?_,g1.trans g2⟩
 congr 1
 rw[decide_eq_decide]
 exact eR8 hx.v60 hy.v60
noncomputable def Sz(b:Nat):Nat->Nat
 |0=>0
 |n+1=>3+b*(2+Sz b n)
theorem cP1{b s:Nat}:∀ {l:List D},l.length<=b->(∀x∈l,szD x<=s)->szL l<=b*s
 |[],_,_=>by simp[szL]
 |x::r,hl,h=>by
   rcases b with _|b
   ·simp at hl
   · have:=cP1 (b:=b) (s:=s) (l:=r) (by simpa using hl) λy hy=>h y (zU _ hy)
     have:=h x (jh ..)
     simp only[szL]
     rw[Nat.succ_mul];omega
theorem VW.size{b:Nat}:∀ {n:Nat} {d:D},VW b n d->szD d<=Sz b n
 |0,_,h=>h.elim
 |n+1,d,h=>by
   have e:Sz b (n+1)=3+b*(2+Sz b n):=rfl
   rcases h with⟨i,rfl⟩|⟨k,rfl⟩|⟨z,rfl,_⟩|⟨l,rfl,hl,hv⟩|⟨ps,rfl,hl,hn,hv⟩
   ·rw[e];simp only[szD];omega
   ·rw[e];simp only[szD];omega
   ·rw[e];simp only[szD];omega
   · have:=cP1 (s:=2+Sz b n) hl λx hx=>zI (VW.size (hv x hx)) (by omega)
     rw[dQ7,e];omega
   · have:=cP1 (s:=2+Sz b n) (l:=ps.map J3) (by rw[zl];exact hl) λx hx=>by
      obtain⟨p,hp,rfl⟩:=zL.mp hx
      have:=VW.size (hv p hp).2
      show szD (.tup [.str p.1,p.2])<=_
      rw[dK6];omega
     rw[cF3,e];omega
theorem VW.vb{b:Nat}(hb:b<=1000):∀ {n:Nat} {d:D},VW b n d->VB 2000 n d
 |0,_,h=>h.elim
 |n+1,d,h=>by
   rcases h with⟨i,rfl⟩|⟨k,rfl⟩|⟨z,rfl,hz⟩|⟨l,rfl,hl,hv⟩|⟨ps,rfl,hl,hn,hv⟩
   ·exact VB.i
   ·exact VB.b
   ·exact VB.s (by omega)
   ·exact VB.l λx hx=>VW.vb hb (hv x hx)
   · refine VB.r λx hx=>?_
     obtain⟨p,hp,rfl⟩:=zL.mp hx
     exact⟨p.1,p.2,rfl,(hv p hp).1,VW.vb hb (hv p hp).2⟩
noncomputable def Vd(b n:Nat):Prop:=(b=4/\n<=6)\/(b<=50/\4<=b/\n<=3)
theorem cX8{b c n m:Nat}(h:b<=c)(k:n<=m):Sz b n<=Sz c m:=by
 induction n generalizing m with
 |zero=>exact jR _
 |succ n ih=>
   rcases m with _|m
   ·omega
   · have:=ih (m:=m) (by omega)
     show 3+b*(2+Sz b n)<=3+c*(2+Sz c m)
     exact Nat.add_le_add_left (Nat.mul_le_mul h (by omega)) _
theorem VW.vl{b n:Nat}{d:D}(hv:Vd b n)(h:VW b n d):Vl d:=by
 have hs:=h.size
 rcases hv with⟨rfl,hn⟩|⟨hb,_,hn⟩
 ·exact⟨(h.vb (by decide)).le (zo _) (by omega),zI hs (zI (cX8 (zo _) hn) (by decide))⟩
 ·exact⟨(h.vb (by omega)).le (zo _) (by omega),zI hs (zI (cX8 hb hn) (by decide))⟩
noncomputable def PD:Nat->D->Prop
 |0,_=>False
 |n+1,d=>(∃i,d= .int i)\/(∃k,d= .bl k)\/(∃z,d= .str z)\/∃l,d= .tup l/\l.length<=1000/\∀x∈l,PD n x
theorem PD.there{n:Nat}{d:D}{G:DH}(h:PD n d):aJ9 G d:=by
 cases n with
 |zero=>exact h.elim
 |succ n=>rcases h with⟨i,rfl⟩|⟨k,rfl⟩|⟨z,rfl⟩|⟨l,rfl,hl⟩<;>exact⟨_,rfl⟩
theorem PD.mono:∀ {n m:Nat} {d:D},n<=m->PD n d->PD m d
 |0,_,_,_,h=>h.elim
 |n+1,0,_,h,_=>by omega
 |n+1,m+1,d,h,a=>by
   rcases a with a|a|a|⟨l,e,hl,hx⟩
   ·exact .inl a
   ·exact .inr (.inl a)
   ·exact .inr (.inr (.inl a))
   ·exact .inr (.inr (.inr ⟨l,e,hl,λx q=>PD.mono (by omega) (hx x q)⟩))
theorem VW.pd{b:Nat}(hb:b<=1000):∀ {n:Nat} {d:D},VW b n d->PD (3*n) d
 |0,_,h=>h.elim
 |n+1,d,h=>by
   rcases h with⟨i,rfl⟩|⟨k,rfl⟩|⟨z,rfl,hz⟩|⟨l,rfl,hl,hv⟩|⟨ps,rfl,hl,hn,hv⟩
   ·exact .inl ⟨i,rfl⟩
   ·exact .inr (.inl ⟨k,rfl⟩)
   ·exact .inr (.inr (.inl ⟨z,rfl⟩))
   · refine .inr (.inr (.inr ⟨_,rfl,show 2<=1000 by decide,λx hx=>?_⟩))
     simp only[zw,zy,or_false]at hx
     rcases hx with rfl|rfl
     ·exact .inr (.inr (.inl ⟨_,rfl⟩))
     · refine .inr (.inr (.inr ⟨l,rfl,by omega,λx hx=>?_⟩))
       exact(VW.pd hb (hv x hx)).mono (xF _)
   · refine .inr (.inr (.inr ⟨_,rfl,show 2<=1000 by decide,λx hx=>?_⟩))
     simp only[zw,zy,or_false]at hx
     rcases hx with rfl|rfl
     ·exact .inr (.inr (.inl ⟨_,rfl⟩))
     · refine .inr (.inr (.inr ⟨_,rfl,by rw[zl];omega,λx hx=>?_⟩))
       obtain⟨p,hp,rfl⟩:=zL.mp hx
       have:=VW.pd hb (hv p hp).2
       refine .inr (.inr (.inr ⟨_,rfl,show 2<=1000 by decide,λx hx=>?_⟩))
       simp only[zw,zy,or_false]at hx
       rcases hx with rfl|rfl
       · rcases n with _|n
         ·exact this.elim
         ·exact .inr (.inr (.inl ⟨_,rfl⟩))
       ·exact this
open Classical in
theorem bY8{R:List D->M D}{n:Nat}{G:DH}{a b:Option D}:∀(k l:List D) (u v:Option D),k.length=l.length->(∀x∈k,PD n x)->(∀x∈l,PD n x)->(∀x y,PD n x->PD n y->Wp (R [x,y]) G λz G'=>z= .bl (decide (x=y))/\G'=G)->
 Wp (aI0 (aE0 2 (w6 (q13 2) (w6 (q13 3) (aF6)))) (ifS (bH8 (J8 (q12 (fnX 2 R) (q10 (b8 2) (q10 (b8 3) q11))))) (t6 (cE (.bl false))) u9) (λ_=>true&&true) ((k.zip l).map λp=>.tup [p.1,p.2]) [a,b,u,v]) G λfl G'=>G'=G/\if k=l then ∃ O,fl= .nx O else fl= .rt (.bl false)
 |[], [],u,v,_,_,_,_=>aK2.mpr ⟨rfl,rfl,by rw[if_pos rfl];exact⟨_,rfl⟩⟩
 |[],_::_,_,_,h,_,_,_=>by cases h
 |_::_, [],_,_,h,_,_,_=>by cases h
 |x::k,y::l,u,v,h,hk,hl,hR=>by
   refine aK4.mpr ⟨rfl,m6 (a:= [a,b,some x,some y]) (G':=G) rfl<| aN1<| aO1.mpr<| U9.mpr<| t7 (as:= [x,y]) rfl rfl<| (hR x y (hk x (jh ..)) (hl y (jh ..))).mono ?_⟩
   rintro _ G1 ⟨rfl,rfl⟩
   refine K4.mpr ⟨λc=>?_,λc=>v6.mpr ?_⟩
   · have ne:x≠y:=by simpa using c
     refine m6 (a:=.rt (.bl false)) (G':=G1) rfl ?_
     exact⟨rfl,by rw[if_neg λe=>ne (JV e).1]⟩
   · have e:x=y:=by simpa using c
     refine(bY8 k l _ _ (by simpa using h) (λz hz=>hk z (zU _ hz)) (λz hz=>hl z (zU _ hz)) hR).mono λfl G2 ⟨eg,q⟩=>⟨eg,?_⟩
     subst e
     by_cases c2:k=l
     ·rw[if_pos c2]at q;rw[if_pos (by rw[c2])];exact q
     ·rw[if_neg c2]at q;rw[if_neg λe=>c2 (JV e).2];exact q
theorem cZ6{a:Fe}{O:DSt}{G:DH}{Q:DPP}:Wp (bI3 a O) G Q↔Wp (a O) G λx G1=>Wp (dF7 x) G1 λk G2=>Q (.bl (!k)) G2:=by unfold bI3;simp only[m9,wp_pure]
theorem cU6{b:Bool}{G:DH}{B:Bool->DH->Prop}:Wp (dF7 (.bl b)) G B↔B b G:=wp_pure
theorem eB4{G:DH}{O:DSt}{fs:DSt->M (List D)}{R:Src->DH->Prop}:Wp (cK6 fs O) G R↔Wp (fs O) G λxs G1=>Wp (match xs with
 |[a,b]=>do
   let s1 <-aU2 a
   let s2 <-aU2 b
   pure ⟨(s1.items.zip s2.items).map λp=>.tup [p.1,p.2],λG=>s1.ck G&&s2.ck G⟩
 |_=>M.stuck:M Src) G1 R:=by
 unfold cK6;simp only[m9]<;>rfl
theorem dP0{G:DH}{k l:List D}{R:Src->DH->Prop}:Wp (match [D.tup k,D.tup l] with
 |[a,b]=>do
   let s1 <-aU2 a
   let s2 <-aU2 b
   pure ⟨(s1.items.zip s2.items).map λp=>.tup [p.1,p.2],λG=>s1.ck G&&s2.ck G⟩
 |_=>M.stuck:M Src) G R↔R ⟨(k.zip l).map λp=>.tup [p.1,p.2],λ_=>true&&true⟩ G:=by
 show Wp (do
  let s1 <-aU2 (.tup k)
  let s2 <-aU2 (.tup l)
  pure ⟨(s1.items.zip s2.items).map λp=>.tup [p.1,p.2],λG=>s1.ck G&&s2.ck G⟩:M Src) G R↔_
 simp only[m9]
 exact Iff.trans (wp_pure (a:=(⟨k,λ_=>true⟩:Src))) (Iff.trans (wp_pure (a:=(⟨l,λ_=>true⟩:Src))) wp_pure)
open Classical in
theorem cN8{x y:D}(h:x≠y):D.bl false= .bl (decide (x=y)):=by rw[decide_eq_false h]
open Classical in
theorem cR1{x y:D}{b:Bool}(h:b=true↔x=y):D.bl b= .bl (decide (x=y)):=by
 by_cases c:x=y
 ·rw[decide_eq_true c,h.mpr c]
 · have:b=false:=by
    cases b
    ·rfl
    ·exact absurd (h.mp rfl) c
   rw[decide_eq_false c,this]
open Classical in
theorem cJ3:∀ {n:Nat} {d e:D} {G:DH},PD n d->PD n e->Wp (aB7 n [d,e]) G λx G'=>x= .bl (decide (d=e))/\G'=G
 |0,_,_,_,h,_=>h.elim
 |n+1,d,e,G,hd,he=>by
   have ne:∀ {x y:D},x≠y->J7 4 (aI7 (aB7 n)) [x,y] G=some (.ok (.bl false),G)->Wp (aB7 (n+1) [x,y]) G λz G'=>z= .bl (decide (x=y))/\G'=G:=λh q=>m6 q ⟨cN8 h,rfl⟩
   rcases he with⟨i,rfl⟩|⟨k,rfl⟩|⟨z,rfl⟩|⟨l,rfl,hl,he⟩
   · rcases hd with⟨i',rfl⟩|⟨k',rfl⟩|⟨z',rfl⟩|⟨l',rfl,hl',hd⟩
     ·exact m6 (a:=.bl (decide (i'=i))) (G':=G) rfl ⟨cR1 (by simp),rfl⟩
     ·exact ne (λh=>nomatch h) rfl
     ·exact ne (λh=>nomatch h) rfl
     ·exact ne (λh=>nomatch h) rfl
   · rcases hd with⟨i',rfl⟩|⟨k',rfl⟩|⟨z',rfl⟩|⟨l',rfl,hl',hd⟩
     ·exact ne (λh=>nomatch h) rfl
     ·exact m6 (a:=.bl (k'==k)) (G':=G) rfl ⟨cR1 (by simp),rfl⟩
     ·exact ne (λh=>nomatch h) rfl
     ·exact ne (λh=>nomatch h) rfl
   · rcases hd with⟨i',rfl⟩|⟨k',rfl⟩|⟨z',rfl⟩|⟨l',rfl,hl',hd⟩
     ·exact ne (λh=>nomatch h) rfl
     ·exact ne (λh=>nomatch h) rfl
     ·exact m6 (a:=.bl (z'==z)) (G':=G) rfl ⟨cR1 (by simp),rfl⟩
     ·exact ne (λh=>nomatch h) rfl
   · rcases hd with⟨i',rfl⟩|⟨k',rfl⟩|⟨z',rfl⟩|⟨l',rfl,hl',hd⟩
     ·exact ne (λh=>nomatch h) rfl
     ·exact ne (λh=>nomatch h) rfl
     ·exact ne (λh=>nomatch h) rfl
     · refine T8 (show Wp (aI7 (aB7 n) [some (.tup l'),some (.tup l),none,none]) G _ from ?_)
       refine o7 (G':=G) rfl<| o7 (G':=G) rfl<| o7 (G':=G) rfl<| o7 (G':=G) rfl<| j9.mpr<| aN1<| cO6<| m6 (a:=false) (G':=G) rfl ⟨λh=>(nomatch h),λ_=>R5<| P0 (x:=.int l'.length) (y:=.int l.length) rfl rfl<| eU3.mpr ⟨_,rfl,λc=>?_,λc=>v6.mpr ?_⟩⟩
       · have c:¬((l'.length:Int)=l.length):=by simpa using c
         exact m6 (a:=.rt (.bl false)) (G':=G) rfl (K8 ⟨cN8 λe=>c (by cases e;rfl),rfl⟩)
       · have c:(l'.length:Int)=l.length:=by simpa using c
         refine j9.mpr<| aO8.mpr<| eB4.mpr<| m6 (a:= [.tup l',.tup l]) (G':=G) rfl<| dP0.mpr<| (bY8 l' l _ _ (by omega) hd he λx y hx hy=>cJ3 hx hy).mono ?_
         rintro fl G1 ⟨rfl,q⟩
         by_cases e:l'=l
         · rw[if_pos e]at q
           obtain⟨O,rfl⟩:=q
           exact m6 (a:=.rt (.bl true)) (G':=G1) rfl (K8 ⟨by rw[e,decide_eq_true rfl],rfl⟩)
         · rw[if_neg e]at q
           subst q
           exact K8 ⟨cN8 λh=>e (by cases h;rfl),rfl⟩
theorem cS6{g:Fg}{t:DSt->M Bool}{e:Fe}{ck:DH->Bool}{G0:DH}(S:DSt->Prop)(p:D->Bool)(hck:∀G,Ap G0 G->ck G=true):∀(items:List D) (O:DSt) (G:DH),S O->Ap G0 G->
 (∀d∈items,∀ O G,S O->Ap G0 G->Wp (g d O) G λWZ G1=>G1=G/\S WZ/\Wp (t WZ) G λk G3=>k=p d/\Ap G G3/\∃y,e WZ G3=some (.ok y,G3))->
 Wp (M6 g t e ck items O) G λys G'=>Ap G0 G'/\ys.isEmpty= !items.any p
 |[],O,G,s,j,_=>bE3.mpr ⟨hck G j,j,rfl⟩
 |d::r,O,G,s,j,step=>by
   refine bG6.mpr ⟨hck G j,(step d (jh ..) O G s j).mono λWZ G1 ⟨e1,s1,w1⟩=>?_⟩
   subst e1
   refine w1.mono λk G3 ⟨ek,j3,y,ey⟩=>?_
   have ih:=cS6 S p hck r WZ G3 s1 (j.trans j3) λd hd=>step d (zU _ hd)
   subst ek
   rw[ju]
   rcases hp:p d with _|_
   · rw[if_neg (by decide)]
     exact ih
   · rw[if_pos rfl]
     exact m6 ey (ih.mono λys G5 ⟨j5,e5⟩=>⟨j5,rfl⟩)
section
variable{it:DSt->M Src}{caps:List (Option Nat)}{g:Fg}{t:DSt->M Bool}{e:Fe}{O:DSt}{G:DH}{items:List D}{ck:DH->Bool}{Q:DPP}
theorem eq0(S:DSt->Prop)(p:D->Bool)(hs:it O G=some (.ok ⟨items,ck⟩,G))(hck:∀G',Ap G G'->ck G'=true)(hl:items.length<=zk)(h0:S (aD2 caps O))
 (step:∀d∈items,∀ O G1,S O->Ap G G1->Wp (g d O) G1 λWZ G2=>G2=G1/\S WZ/\Wp (t WZ) G1 λk G3=>k=p d/\Ap G1 G3/\∃y,e WZ G3=some (.ok y,G3)) (q:∀G',Ap G G'->Q (.bl (!items.any p)) G'):Wp (d9 eqD (Q6 it caps g t e) (W6 q11) O) G Q:=
 bin_w<| wp_comp.mpr<| m6 hs ⟨hl,(cS6 S p hck items _ G h0 Ap.refl step).mono λys G1 ⟨j1,e1⟩=>m6 (a:=.ref (G1++[DO.lst ys]).length) (G':=G1++[.lst ys]++[.lst []]) rfl<| (cE9 (U7 o4) o4).mpr (e1▸q _ ((j1.trans Ap.one).trans Ap.one))⟩
theorem ne0(S:DSt->Prop)(p:D->Bool)(hs:it O G=some (.ok ⟨items,ck⟩,G))(hck:∀G',Ap G G'->ck G'=true)(hl:items.length<=zk)(h0:S (aD2 caps O))
 (step:∀d∈items,∀ O G1,S O->Ap G G1->Wp (g d O) G1 λWZ G2=>G2=G1/\S WZ/\Wp (t WZ) G1 λk G3=>k=p d/\Ap G1 G3/\∃y,e WZ G3=some (.ok y,G3)) (q:∀G',Ap G G'->Q (.bl (items.any p)) G'):Wp (d9 neD (Q6 it caps g t e) (W6 q11) O) G Q:=
 bin_w<| wp_comp.mpr<| m6 hs ⟨hl,(cS6 S p hck items _ G h0 Ap.refl step).mono λys G1 ⟨j1,e1⟩=>m6 (a:=.ref (G1++[DO.lst ys]).length) (G':=G1++[.lst ys]++[.lst []]) rfl<| (dK7 (U7 o4) o4).mpr (by rw[e1,Bool.not_not];exact q _ ((j1.trans Ap.one).trans Ap.one))⟩
end
theorem bE5{α:Type}{f:α->Bool}:∀ {l:List α},(!l.any λx=> !f x)=l.all f
 |[]=>rfl
 |d::r=>by rw[ju,ya,<-bE5 (l:=r)];cases f d<;>simp
noncomputable def cv(f:Str×Bool×D):Key×D:=(.inr f.1,f.2.2)
theorem dX3:∀(fs:List (Str×Bool×D)) (m:D) (z:Str),(R3 (fs.map cv) (.inr z)).getD m=aM4 (fs.map fdD) m z:=by
 intro fs m z
 rw[bP5]
 congr 1
 induction fs with
 |nil=>rfl
 |cons f r ih=>
   rw[zG]
   by_cases e:f.1=z
   · have h1:R3 (cv f::r.map cv) (.inr z)=some f.2.2:=by unfold R3 cv;simp[e]
     rw[h1,Zx (by simpa using e)];rfl
   · have h1:R3 (cv f::r.map cv) (.inr z)=R3 (r.map cv) (.inr z):=by unfold R3 cv;simp[e]
     rw[h1,ih,Zy (by simpa using e)]
theorem cI8:∀fs:List (Str×Bool×D),aF0 (fs.map λf=>.tup [.str f.1,f.2.2])=some (fs.map cv)
 |[]=>rfl
 |f::r=>by
   have:=cI8 r
   rw[zG,zG]
   unfold aF0
   simp only[this]
   rfl
theorem eP5(fs:List (Str×Bool×D))(h:(fs.map (·.1)).Nodup):putAll [] (fs.map cv)=fs.map cv:=by
 have e:fs.map cv= (fs.map λf=>((f.1,f.2.2):Str×D)).map λp=>((.inr p.1:Key),p.2):=by rw[jc];rfl
 have:=bE8 (fs.map λf=>((f.1,f.2.2):Str×D)) [] (by simpa [jc,yK]using h)
 simp only[jZ,xi]at this
 rw[e,this]
theorem dU6{G:DH}{q:Nat}{zs:List Str}{z:Str}(e:G[q]? =some (.lst (zs.map D.str))):inB (.str z) (.ref q) G=some (inV (.str z) ((zs.map D.str).map toV)):=by
 show (match G[q]? with
  |some (.dct l)=>(bU2 (.str z)).map λk=>(R3 l k).isSome
  |some (.rod _)=>none
  |some (.lst l)=>if W9 (.str z)&&l.all W9 then some (inV (toV (.str z)) (l.map toV))else none
  |some (.rol l)=>if W9 (.str z)&&l.all W9 then some (inV (toV (.str z)) (l.map toV))else none
  |none=>none)=_
 rw[e]
 show (if (W9 (.str z)&&(zs.map D.str).all W9)=true then _ else none)=_
 rw[aV2];rfl
theorem dU5{z:Str}{zs:List Str}:inV (.str z) ((zs.map D.str).map toV)=zs.any λx=>decide (x=z):=by
 unfold inV
 rw[yG,yG]
 congr 1
theorem eS1{ps:List (Str×D)}{z:Str}:(ps.map (·.1)).any (λx=>decide (x=z))= (ps.map J3).any (nmD z):=by
 rw[yG,yG];rfl
section
variable{R:List D->M D}{ps:List (Str×D)}{fs:List (Str×Bool×D)}{m:D}{G:DH}{n:Nat}
theorem dU3(hp:ps.length<=1000)(hf:fs.length<=100)(hn2:(fs.map (·.1)).Nodup)(hR:∀p∈ps,∀s,(∃f∈fs,s=f.2.2)\/s=m->∀G,Wp (R [p.2,s]) G λx G'=>x= .bl (inP n p.2 s)/\Ap G G'):
 Wp (T3 R [.tup [.str W4,.tup (ps.map J3)],.tup (fs.map fdD),m]) G λx G'=>x= .bl (cE0 (inP n) (ps.map J3) (.tup [.tup (fs.map fdD),m]))/\Ap G G':=by
 have bg:=big
 refine T8 (show Wp (aF4 R [some (.tup [.str W4,.tup (ps.map J3)]),some (.tup (fs.map fdD)),some m,none,none]) G _ from ?_)
 have c1:M6 (aE0 2 (w6 (q13 0) (w6 (q13 1) (aF6)))) W0 (b8 0) (λ_=>true) (ps.map J3) [none,none] G=some (.ok ((ps.map J3).map λd=>D.str (bH5 d)),G):=by
  refine Z0 (I:=λO=>O.length=2) rfl _ _ rfl λd hd O WY=>?_
  obtain⟨p,_,rfl⟩:=zL.mp hd
  match O,WY with
  |[u,v],_=>exact⟨[some (.str p.1),some p.2],rfl,rfl,rfl,rfl⟩
 have d1:((ps.map J3).map λd=>D.str (bH5 d))= (ps.map (·.1)).map D.str:=by rw[jc,jc];rfl
 rw[d1]at c1
 refine j9.mpr<| M8<| aI3 (l:=ps.map J3) rfl (by rw[zl];omega)<| m6 c1 ?_
 generalize eG1:G++[DO.lst ((ps.map (·.1)).map D.str)]=G1
 have e1:G1[G.length]? =some (.lst ((ps.map (·.1)).map D.str)):=by rw[<-eG1];exact o4
 have j1:Ap G G1:=by rw[<-eG1];exact Ap.one
 have c2:M6 (aE0 3 (w6 (q13 0) (w6 (q13 1) (w6 (q13 2) (aF6))))) W0 (v5 (q10 (b8 0) (q10 (b8 2) q11))) (λ_=>true) (fs.map fdD) [none,none,none] G1=some (.ok ((fs.map fdD).map λd=>match d with| .tup [a,b,c]=>.tup [a,c]|_=>.non),G1):=by
  refine Z0 (I:=λO=>O.length=3) rfl _ _ rfl λd hd O WY=>?_
  obtain⟨f,_,rfl⟩:=zL.mp hd
  match O,WY with
  |[u,v,w],_=>exact⟨[some (.str f.1),some (.bl f.2.1),some f.2.2],rfl,rfl,rfl,rfl⟩
 have d2:((fs.map fdD).map λd=>match d with| .tup [a,b,c]=>D.tup [a,c]|_=>.non)=fs.map λf=>.tup [.str f.1,f.2.2]:=by rw[jc];rfl
 rw[d2]at c2
 refine j9.mpr<| M8<| T7<| J5<| aI3 (l:=fs.map fdD) rfl (by rw[zl];omega)<| m6 c2<| m7.mpr<| (cL0 o4 (cI8 fs)).mpr ?_
 rw[eP5 fs hn2]
 generalize eG2:G1++[DO.lst (fs.map λf=>D.tup [.str f.1,f.2.2])]=G2
 have j2:Ap G1 G2:=by rw[<-eG2];exact Ap.one
 generalize eG3:G2++[DO.dct (fs.map cv)]=G3
 have e3:G3[G2.length]? =some (.dct (fs.map cv)):=by rw[<-eG3];exact o4
 have j3:Ap G2 G3:=by rw[<-eG3];exact Ap.one
 have e13:=(j2.trans j3).at e1
 have jj:=(j1.trans j2).trans j3
 refine j9.mpr<| aN1<| R5<| ne0 (items:=fs.map fdD) (ck:=λ_=>true) (λO=>∃a b c,O= [a,b,c,some (.ref G.length)]) (λd=> !aJ1 (ps.map J3) d) rfl (λ_ _=>rfl) (by rw[zl];omega) ⟨_,_,_,rfl⟩ ?_ ?_
 · rintro d hd O G4 ⟨a,b,c,rfl⟩ j4
   obtain⟨f,_,rfl⟩:=zL.mp hd
   refine m6 (a:= [some (.str f.1),some (.bl f.2.1),some f.2.2,some (.ref G.length)]) (G':=G4) rfl ⟨rfl,⟨_,_,_,rfl⟩,?_⟩
   have em:aJ1 (ps.map J3) (fdD f)= ((ps.map J3).any (nmD f.1)||!f.2.1):=rfl
   rw[em]
   refine bD5<| m6 (a:=f.2.1) (G':=G4) rfl ⟨λg=>R5<| P0 (x:=.str f.1) (y:=.ref G.length) rfl rfl<| bQ6.mpr ⟨_,dU6 (j4.at e13),_,rfl,?_,Ap.refl,_,rfl⟩,λg=>⟨?_,Ap.refl,_,rfl⟩⟩
   ·rw[dU5,eS1,g];cases (ps.map J3).any (nmD f.1)<;>rfl
   ·rw[g];cases (ps.map J3).any (nmD f.1)<;>rfl
 intro G4 j4
 have hall:((fs.map fdD).any λd=> !aJ1 (ps.map J3) d)= !(fs.map fdD).all (aJ1 (ps.map J3)):=by rw[<-bE5,Bool.not_not]
 rw[hall]
 refine⟨_,rfl,λc=>?_,λc=>v6.mpr ?_⟩
 · have c:(fs.map fdD).all (aJ1 (ps.map J3))=false:=by simpa using c
   refine m6 (a:=.rt (.bl false)) (G':=G4) rfl (K8 ⟨?_,jj.trans j4⟩)
   show _=D.bl ((fs.map fdD).all (aJ1 (ps.map J3))&&_)
   rw[c];rfl
 · have c:(fs.map fdD).all (aJ1 (ps.map J3))=true:=by simpa using c
   refine Q7<| eq0 (items:=ps.map J3) (ck:=λ_=>true) (λO=>∃a b,O= [a,b,some (.ref G2.length),some m]) (λd=> !dA6 (inP n) (fs.map fdD) m d) rfl (λ_ _=>rfl) (by rw[zl];omega) ⟨_,_,rfl⟩ ?_ ?_
   · rintro d hd O G5 ⟨a,b,rfl⟩ j5
     obtain⟨p,hp',rfl⟩:=zL.mp hd
     refine m6 (a:= [some (.str p.1),some p.2,some (.ref G2.length),some m]) (G':=G5) rfl ⟨rfl,⟨_,_,rfl⟩,?_⟩
     refine aO1.mpr<| U9.mpr<| T7<| N5 (x:=p.2) rfl<| J5<| bE0.mpr<| m6 (a:=.ref G2.length) (G':=G5) rfl<| (bX6 (j5.at (j4.at e3))).mpr<| m6 (a:= [.str p.1,m]) (G':=G5) rfl<| (cY7 (j5.at (j4.at e3))).mpr ?_
     rw[dX3]
     refine m7.mpr<| J4.mpr ⟨rfl,(hR p hp' _ bV1 G5).mono ?_⟩
     rintro _ G6 ⟨rfl,j6⟩
     exact K4.mpr ⟨rfl,j6,_,rfl⟩
   · intro G5 j5
     rw[bE5]
     refine K8 ⟨?_,(jj.trans j4).trans j5⟩
     show _=D.bl ((fs.map fdD).all (aJ1 (ps.map J3))&&_)
     rw[c];rfl
end
theorem eK9{i j:Int}{G:DH}{Q:DPP}:Wp (leD (.int i) (.int j)) G Q↔Q (.bl (decide (i<=j))) G:=wp_pure
def cN4(i:Int):D->Bool
 | .tup [a,_]=>loB i a
 |_=>true
def eA2(i:Int):D->Bool
 | .tup [_,b]=>hiB i b
 |_=>true
theorem cZ7{i:Int}:∀ {ns:List (D×D)},(((ns.map stD).filter (cN4 i)).any (eA2 i))= (ns.map stD).any (cL8 i)
 |[]=>rfl
 |p::r=>by
   rw[zG,ju,YM]
   have e:cL8 i (stD p)= (cN4 i (stD p)&&eA2 i (stD p)):=rfl
   rw[e,<-cZ7 (ns:=r)]
   cases cN4 i (stD p)
   ·rfl
   ·rw[if_pos rfl,ju];rfl
theorem fC0{i:Int}{p:D×D}{u:Option D}{G:DH}(h:cT7 p):Wp (orT (o6 (d9 bD8 (d9 ixD (b8 0) (cE (.int 0))) (cE .non))) (o6 (d9 leD (d9 ixD (b8 0) (cE (.int 0))) (b8 1))) [some (stD p),some (.int i)]) G λk G3=>k=cN4 i (stD p)/\G3=G:=by
 obtain⟨a,b⟩:=p
 have ha:bM3 a:=h.1
 cases a<;>first
  |exact ha.elim
  |exact m6 (a:=true) (G':=G) rfl ⟨rfl,rfl⟩
  |exact m6 (G':=G) rfl ⟨rfl,rfl⟩
theorem fC3{i:Int}{p:D×D}{u:Option D}{G:DH}(h:cT7 p):Wp (orT (o6 (d9 bD8 (d9 ixD (b8 0) (cE (.int 1))) (cE .non))) (o6 (d9 leD (b8 1) (d9 ixD (b8 0) (cE (.int 1))))) [some (stD p),some (.int i)]) G λk G3=>k=eA2 i (stD p)/\G3=G:=by
 obtain⟨a,b⟩:=p
 have hb:bM3 b:=h.2.1
 cases b<;>first
  |exact hb.elim
  |exact m6 (a:=true) (G':=G) rfl ⟨rfl,rfl⟩
  |exact m6 (G':=G) rfl ⟨rfl,rfl⟩
theorem eE3{R:List D->M D}{i:Int}{ns:List (D×D)}{G:DH}{s te tr li re:D}{K:Fs}(h:∀p∈ns,cT7 p)(hl:ns.length<=100):
 Wp ((m5 (t8 (Q6 (itW (b8 2)) [none,some 0] (q13 0) (orT (o6 (d9 bD8 (d9 ixD (b8 0) (cE (.int 0))) (cE .non))) (o6 (d9 leD (d9 ixD (b8 0) (cE (.int 0))) (b8 1)))) (b8 0)) (q13 7)) (t6 (d9 neD (Q6 (itW (b8 7)) [none,some 0] (q13 0) (orT (o6 (d9 bD8 (d9 ixD (b8 0) (cE (.int 1))) (cE .non))) (o6 (d9 leD (b8 1) (d9 ixD (b8 0) (cE (.int 1)))))) (b8 0)) (W6 q11)))) [some (.int i),some s,some (.tup (ns.map stD)),some te,some tr,some li,some re,none,none]) G λfl G'=>fl= .rt (.bl ((ns.map stD).any (cL8 i)))/\Ap G G':=by
 have bg:=big
 have c1:M6 (q13 0) (orT (o6 (d9 bD8 (d9 ixD (b8 0) (cE (.int 0))) (cE .non))) (o6 (d9 leD (d9 ixD (b8 0) (cE (.int 0))) (b8 1)))) (b8 0) (λ_=>true) (ns.map stD) [none,some (.int i)] G=some (.ok ((ns.map stD).filter (cN4 i)),G):=by
  refine bL9 rfl (λO=>∃u,O= [u,some (.int i)]) _ _ ⟨none,rfl⟩ λd hd O WY=>?_
  obtain⟨p,hp,rfl⟩:=zL.mp hd
  obtain⟨u,rfl⟩:=WY
  exact⟨[some (stD p),some (.int i)],rfl,⟨_,rfl⟩,aW7 (fC0 (u:=none) (h p hp)),rfl⟩
 refine j9.mpr<| M8<| aI3 (l:=ns.map stD) rfl (by rw[zl];omega)<| m6 c1 ?_
 have hfl:((ns.map stD).filter (cN4 i)).length<=100:=zI (List.length_filter_le ..) (by rw[zl];exact hl)
 refine Q7<| ne0 (items:=(ns.map stD).filter (cN4 i)) (ck:=ckO G.length (.lst ((ns.map stD).filter (cN4 i)))) (λO=>∃u,O= [u,some (.int i)]) (eA2 i) (aW7<| wp_itW.mpr<| m6 (a:=.ref G.length) rfl<| (bG1 o4).mpr ⟨rfl,rfl⟩) (λG' j=>by simp[ckO,j.at o4]) (by omega) ⟨_,rfl⟩ ?_ λG' j=>⟨by rw[cZ7],Ap.one.trans j⟩
 rintro d hd O G1 ⟨u,rfl⟩ j
 obtain⟨p,hp,rfl⟩:=zL.mp (YX.mp hd).1
 exact u0.mpr ⟨rfl,⟨_,rfl⟩,(fC3 (u:=none) (h p hp)).mono λk G3 ⟨e,eg⟩=>⟨e,eg▸Ap.refl,_,rfl⟩⟩
noncomputable def idB(f:Nat->Bool):D->Bool
 | .int k=>f k.toNat
 |_=>true
theorem dV9{f:Nat->Bool}{k:Nat}:(M4 0 k).all (idB f)= (jw k).all f:=by
 rw[aX5,yH]
 congr 1
theorem dN7{R:List D->M D}{n:Nat}{l fs:List D}{m s nu te tr re:D}{G:DH}(hl:l.length<=1000)(hf:fs.length<=100)(hle:fs.length<=l.length)(hR:∀v∈l,∀s,s∈fs\/s=m->∀G,Wp (R [v,s]) G λx G'=>x= .bl (inP n v s)/\Ap G G'):
 Wp (m5 YL (YR R) [some (.tup [.str U8,.tup l]),some s,some nu,some te,some tr,some (.tup [.tup fs,m]),some re,none,none]) G λfl G'=>fl= .rt (.bl (cM2 (inP n) l (.tup [.tup fs,m])))/\Ap G G':=by
 have bg:=big
 have hd:((l.length:Int)-fs.length).toNat=l.length-fs.length:=by omega
 refine j9.mpr<| M8<| bin_w<| aQ7 (as:= [.tup fs]) (G1:=G) rfl<| cM6.mpr<| dJ1 (j:=(l.length:Int)-fs.length) (G1:=G++[.lst fs]) rfl (by omega) (by omega) ?_
 have c1:M6 (q13 0) W0 (d9 ixD (b8 1) (cE (.int 1))) (λ_=>true) (M4 0 ((l.length:Int)-fs.length).toNat) [none,some (.tup [.tup fs,m])] (G++[.lst fs])=some (.ok ((M4 0 ((l.length:Int)-fs.length).toNat).map λ_=>m),G++[.lst fs]):=by
  refine Z0 (I:=λO=>∃u,O= [u,some (.tup [.tup fs,m])]) rfl _ _ ⟨none,rfl⟩ λd hd O WY=>?_
  obtain⟨u,rfl⟩:=WY
  exact⟨[some d,some (.tup [.tup fs,m])],rfl,⟨_,rfl⟩,rfl,rfl⟩
 refine m6 c1 ?_
 have em:((M4 0 ((l.length:Int)-fs.length).toNat).map λ_=>m)=zt (l.length-fs.length) m:=by
  rw[hd,List.map_const',aX5,zl,jD]
 rw[em]
 refine(bO2 (U7 o4) o4 (by rw[ZK];omega)).mpr ?_
 generalize eG:G++[DO.lst fs]++[DO.lst (zt (l.length-fs.length) m)]++[DO.lst (fs++zt (l.length-fs.length) m)]=G1
 have e1:G1[(G++[DO.lst fs]++[DO.lst (zt (l.length-fs.length) m)]).length]? =some (.lst (fs++zt (l.length-fs.length) m)):=by rw[<-eG];exact o4
 generalize (G++[DO.lst fs]++[DO.lst (zt (l.length-fs.length) m)]).length=q at e1
 have j1:Ap G G1:=by rw[<-eG];exact(Ap.one.trans Ap.one).trans Ap.one
 have hlen:(fs++zt (l.length-fs.length) m).length=l.length:=by rw[zR,ZK];omega
 have hdu:∀k,k<l.length->(fs++zt (l.length-fs.length) m).getD k .non= (fs++zt l.length m).getD k .non:=by
  intro k hk
  rw[bR4 hk]
  by_cases h:k<fs.length
  ·rw[if_pos h,zE,zH h,<-zE]
  ·rw[if_neg h,zE,yk (by omega),xl,if_pos (by omega)];rfl
 refine Q7<| eq0 (items:=M4 0 l.length) (ck:=λ_=>true) (λO=>∃u,O= [u,some (.ref q),some (.tup [.str U8,.tup l])]) (λd=> !idB (λk=>inP n (l.getD k .non) ((fs++zt l.length m).getD k .non)) d) ?_ (λ_ _=>rfl) (by rw[aX5,zl,jD];omega) ⟨_,rfl⟩ ?_ ?_
 · refine aW7<| rng1.mpr<| J5<| aQ7 (as:= [.ref q]) (G1:=G1) rfl<| (aP3 e1).mpr<| m7.mpr<| (rng1_int ⟨by omega,by omega⟩).mpr ?_
   rw[hlen,zW]
   exact⟨rfl,rfl⟩
 · rintro d hd O G2 ⟨u,rfl⟩ j2
   rw[aX5]at hd
   obtain⟨k,hk,rfl⟩:=zL.mp hd
   have hk:=yX.mp hk
   refine u0.mpr ⟨rfl,⟨_,rfl⟩,aO1.mpr<| U9.mpr<| T7<| J5<| P0 (x:=.tup l) (y:=.int k) rfl rfl<| ix_tup.mpr ⟨l.getD k .non,atI_nat (by rw[zE,zu hk];rfl),J5<| P0 (x:=.ref q) (y:=.int k) rfl rfl ?_⟩⟩
   rw[bJ1 (j2.at e1)]
   refine⟨(fs++zt l.length m).getD k .non,?_,m7.mpr<| J4.mpr ⟨rfl,(hR _ ?_ _ (cN1 hk) G2).mono ?_⟩⟩
   · rw[<-hdu k hk]
     exact atI_nat (by rw[zE,zu (by rw[hlen];exact hk)];rfl)
   ·rw[zE,zu hk];exact Zp hk
   · rintro _ G3 ⟨rfl,j3⟩
     exact K4.mpr ⟨by rw[idB,zW],j3,_,rfl⟩
 · intro G2 j2
   rw[bE5,dV9]
   refine⟨?_,j1.trans j2⟩
   show _=Fl.rt (.bl (decide (fs.length<=l.length)&&_))
   rw[decide_eq_true hle];rfl
noncomputable def is9(v s nu te tr li re:D):DSt:= [some v,some s,some nu,some te,some tr,some li,some re,none,none]
theorem cR3{R:List D->M D}{b n k:Nat}{v s:D}{G:DH}(hb:b<=900)(hR:∀v s G,VW b n v->SB k s->Wp (R [v,s]) G λx G'=>x= .bl (inP n v s)/\Ap G G')(hv:VW b (n+1) v)(hs:SB (k+1) s):
 Wp (J7 9 (aP9 R) [v,s]) G λx G'=>x= .bl (inP (n+1) v s)/\Ap G G':=by
 have bg:=big
 rcases hs with rfl|⟨ns,w,ts,tr,li,re,rfl,h1,h2,h3,h4,h5,h6,h7⟩
 ·exact cD6 (d:=.bl true) rfl ⟨rfl,Ap.refl⟩
 · refine T8 (show Wp (aP9 R [some v,some (mkS ns w ts tr li re),none,none,none,none,none,none,none]) G _ from ?_)
   refine o7 (G':=G) rfl<| o7 (X2:=is9 v (mkS ns w ts tr li re) (.tup (ns.map stD)) (.tup [.str w,.tup (ts.map D.str)]) (.tup (tr.map D.bl)) li re) (G':=G) rfl ?_
   rcases hv with⟨i,rfl⟩|⟨c,rfl⟩|⟨z,rfl,hz⟩|⟨l,rfl,hl,hv⟩|⟨ps,rfl,hl,hn,hv⟩
   · refine o7 (G':=G) rfl<| j9.mpr<| aN3 (G1:=G) rfl<| (eE3 (R:=R) (K:=u9) h1 h2).mono ?_
     rintro _ G1 ⟨rfl,j⟩
     exact⟨rfl,j⟩
   ·exact j9.mpr<| aN3 (G1:=G) rfl<| Q7<| P0 (x:=.bl c) (y:=.tup (tr.map D.bl)) rfl rfl<| (bJ9 (by rw[cZ0];rfl)).mpr ⟨rfl,Ap.refl⟩
   ·exact o7 (G':=G) rfl<| o7 (G':=G) rfl<| j9.mpr<| aN3 (G1:=G) rfl<| Q7<| bin_w<| P0 (x:=.str z) (y:=.tup (ts.map D.str)) rfl rfl<| (bJ9 (by rw[aV2];rfl)).mpr<| P0 (x:=.str w) (y:=.str "of") rfl rfl<| aJ7.mpr<| eF3.mpr ⟨rfl,Ap.refl⟩
   · rw[show inP (n+1) (.tup [.str U8,.tup l]) (mkS ns w ts tr li re)=cM2 (inP n) l li from dU7]
     refine o7 (G':=G) rfl<| o7 (G':=G) rfl<| o7 (G':=G) rfl<| o7 (G':=G) rfl ?_
     rcases h6 with rfl|⟨fs,m,rfl,hf,hfs,hm⟩
     ·exact bC1 (G':=G) (d:=.bl false) rfl (K8 ⟨rfl,Ap.refl⟩)
     · refine j9.mpr<| aN1<| cO6<| m6 (a:=false) (G':=G) rfl ⟨λh=>(nomatch h),λ_=>R5<| P0 (x:=.int l.length) (y:=.int fs.length) rfl rfl<| aM6.mpr ⟨_,rfl,λc=>?_,λc=>v6.mpr ?_⟩⟩
       · have c:(l.length:Int)<fs.length:=of_decide_eq_true c
         refine m6 (a:=.rt (.bl false)) (G':=G) rfl (K8 ⟨?_,Ap.refl⟩)
         show _=D.bl (decide (fs.length<=l.length)&&_)
         rw[decide_eq_false (by omega)];rfl
       · have c:¬(l.length:Int)<fs.length:=of_decide_eq_false c
         refine(dN7 (by omega) hf (by omega) λv hv' s hs' G=>hR v s G (hv v hv') ?_).mono ?_
         · rcases hs' with hs'|rfl
           ·exact hfs s hs'
           ·exact hm
         · rintro _ G1 ⟨rfl,j⟩
           exact⟨rfl,j⟩
   · rw[show inP (n+1) (.tup [.str W4,.tup (ps.map J3)]) (mkS ns w ts tr li re)=cE0 (inP n) (ps.map J3) re from dH7]
     refine o7 (G':=G) rfl<| o7 (G':=G) rfl<| o7 (G':=G) rfl ?_
     rcases h7 with rfl|⟨fs,m,rfl,hf0,hn2,hfs,hm⟩
     ·exact bC1 (G':=G) (d:=.bl false) rfl (K8 ⟨rfl,Ap.refl⟩)
     · refine j9.mpr<| aN3 (G1:=G) rfl<| Q7<| aE7.mpr<| m6 (a:=.bl true) (G':=G) rfl<| K4.mpr<| t7 (as:= [.tup [.str W4,.tup (ps.map J3)],.tup (fs.map fdD),m]) rfl rfl<| (dU3 (by omega) (by omega) hn2 λp hp s hs' G=>hR p.2 s G (hv p hp).2 ?_).mono λx G1 q=>K8 q
       rcases hs' with⟨f,hf',rfl⟩|rfl
       ·exact(hfs f hf').2
       ·exact hm
theorem cH7{b:Nat}(hb:b<=900):∀(n k j:Nat) (v s:D) (G:DH),n<=j->VW b n v->SB k s->Wp (aY3 j [v,s]) G λx G'=>x= .bl (inP n v s)/\Ap G G'
 |0,_,_,_,_,_,_,hv,_=>hv.elim
 |n+1,0,_,_,_,_,_,_,hs=>hs.elim
 |n+1,k+1,0,_,_,_,h,_,_=>absurd h (by omega)
 |n+1,k+1,j+1,v,s,G,h,hv,hs=>cR3 hb (λv s G hv hs=>cH7 hb n k j v s G (by omega) hv hs) hv hs
noncomputable abbrev dA7:Str:= "but"
noncomputable def noS:D:=.tup [.tup [],.tup [.str wOf,.tup []],.tup [],.non,.non]
theorem bN6{k:Nat}{ns:List (D×D)}{w:Str}{ts:List Str}{tr:List Bool}(h1:∀p∈ns,cT7 p)(h2:ns.length<=100)(h3:∀z∈ts,z.length<=2000)(h4:ts.length<=100)(h5:tr.length<=100):SB (k+1) (mkS ns w ts tr .non .non):=
 .inr ⟨ns,w,ts,tr,.non,.non,rfl,h1,h2,h3,h4,h5,.inl rfl,.inl rfl⟩
theorem eF4{k:Nat}:SB (k+1) noS:=bN6 (ns:= []) (w:=wOf) (ts:= []) (tr:= []) (λ_ h=>by cases h) (by decide) (λ_ h=>by cases h) (by decide) (by decide)
theorem cQ3{k:Nat}:SB (k+1) (.str bP9):=.inl rfl
theorem bR2{k:Nat}{a b:D}(ha:bM3 a)(hb:bM3 b):SB (k+1) (mkS [(a,b)] wOf [] [] .non .non):=bN6 (λp hp=>by rw[zP.mp hp];exact⟨ha,hb,trivial⟩) (by simp) (λ_ h=>by cases h) (by decide) (by decide)
theorem bR9{k:Nat}{w:Str}{ts:List Str}(h:∀z∈ts,z.length<=2000)(hl:ts.length<=1):SB (k+1) (mkS [] w ts [] .non .non):=bN6 (λ_ h=>by cases h) (by decide) h (by omega) (by decide)
theorem cO9{k:Nat}{tr:List Bool}(h:tr.length<=2):SB (k+1) (mkS [] wOf [] tr .non .non):=bN6 (λ_ h=>by cases h) (by decide) (λ_ h=>by cases h) (by decide) (by omega)
section
variable{r k:Nat}{G:DH}
theorem eA3{c:Bool}(h:Dr G r):Wp (M5 [.ref r,.bl c]) G λx G'=>SB (k+1) x/\Fd r G G':=by
 refine T8 (show Wp (aB2 [some (.ref r),some (.bl c),none,none,none,none,none,none,none]) G _ from ?_)
 have hr:=h.lt
 refine o7 (X2:= [some (.ref r),some (.bl c),some noS,none,none,none,none,none,none]) (G':=G) rfl ?_
 refine j9.mpr<| aN3 (G1:=G) rfl ?_
 refine o7 (X2:= [some (.ref r),some (.bl c),some noS,some (.ref G.length),none,none,none,none,none]) (G':=G++[.lst [.tup [.bl c],.tup [.bl (!c)],.tup [.bl false,.bl true]]]) rfl ?_
 refine Q7<| bin_w<| bin_w ?_
 refine m6 (a:=.tup [.tup [],.tup [.str wOf,.tup []]]) rfl ?_
 refine U6.mpr<| J5<| bin_w ?_
 refine m6 (a:=.ref G.length) rfl ?_
 refine t7 (as:= [.ref r,.int 3]) rfl rfl ?_
 refine aK6 h.app (by omega) o4 rfl (by decide) λd hd G2 f2=>?_
 refine m7.mpr ⟨sz,?_⟩
 refine(bH2 sz2).mpr ?_
 refine m6 (a:=.tup [.non,.non]) (G':=G2) rfl ?_
 refine(bH2 sz2).mpr ?_
 refine K8 ⟨?_,(Fd.app h).trans f2⟩
 simp only[zw,zy,or_false]at hd
 rcases hd with rfl|rfl|rfl
 ·exact(show SB (k+1) (mkS [] wOf [] [c] .non .non)from cO9 (jp rfl))
 ·exact(show SB (k+1) (mkS [] wOf [] [!c] .non .non)from cO9 (jp rfl))
 ·exact(show SB (k+1) (mkS [] wOf [] [false,true] .non .non)from cO9 (jp rfl))
theorem dR6{i:Int}(h:Dr G r):Wp (M5 [.ref r,.int i]) G λx G'=>SB (k+1) x/\Fd r G G':=by
 refine T8 (show Wp (aB2 [some (.ref r),some (.int i),none,none,none,none,none,none,none]) G _ from ?_)
 have hr:=h.lt
 refine o7 (X2:= [some (.ref r),some (.int i),some noS,none,none,none,none,none,none]) (G':=G) rfl ?_
 refine o7 (G':=G) rfl ?_
 refine j9.mpr<| aN3 (G1:=G) rfl<|?_
 refine j9.mpr<| M8<| T7<| N5 (x:=.int (i-1)) (G1:=G) rfl<| J5<| cN2.mpr ?_
 refine P0 (x:=.int 10) (y:=.int 20) rfl rfl ?_
 refine(aZ0 (show bK2 10 20 by decide)).mpr ?_
 refine bD4.mpr<| m7.mpr ?_
 refine m6 (a:=.int (if (-10 ^ (20:Int).toNat:Int)>i-1 then (-10 ^ (20:Int).toNat:Int)else i-1)) (G':=G) rfl ?_
 generalize (if (-10 ^ (20:Int).toNat:Int)>i-1 then (-10 ^ (20:Int).toNat:Int)else i-1)=lo
 refine j9.mpr<| M8<| T7<| N5 (x:=.int (i+1)) (G1:=G) rfl<| J5 ?_
 refine P0 (x:=.int 10) (y:=.int 20) rfl rfl ?_
 refine(aZ0 (show bK2 10 20 by decide)).mpr<| m7.mpr ?_
 refine cC3.mpr ?_
 generalize (if (10 ^ (20:Int).toNat:Int)<i+1 then (10 ^ (20:Int).toNat:Int)else i+1)=hi
 refine o7 (X2:= [some (.ref r),some (.int i),some noS,none,some (.int lo),some (.int hi),some (.ref G.length),none,none]) (G':=G++[.lst [.tup [.int i,.int i],.tup [.int i,.non],.tup [.non,.int lo],.tup [.int hi,.non],.tup [.non,.non]]]) rfl ?_
 refine Q7<| bin_w ?_
 refine U6.mpr<| J5 ?_
 refine U6.mpr<| J5<| bin_w ?_
 refine m6 (a:=.ref G.length) rfl ?_
 refine t7 (as:= [.ref r,.int 5]) rfl rfl ?_
 refine aK6 h.app (by omega) o4 rfl (by decide) λd hd G2 f2=>?_
 refine m7.mpr ⟨sz,m7.mpr ⟨sz,?_⟩⟩
 refine m6 (a:=.tup [.tup [.str wOf,.tup []],.tup [],.non,.non]) (G':=G2) rfl ?_
 refine(bH2 sz2).mpr ?_
 refine K8 ⟨?_,(Fd.app h).trans f2⟩
 simp only[zw,zy,or_false]at hd
 rcases hd with rfl|rfl|rfl|rfl|rfl
 ·exact(show SB (k+1) (mkS [(.int i,.int i)] wOf [] [] .non .non)from bR2 trivial trivial)
 ·exact(show SB (k+1) (mkS [(.int i,.non)] wOf [] [] .non .non)from bR2 trivial trivial)
 ·exact(show SB (k+1) (mkS [(.non,.int lo)] wOf [] [] .non .non)from bR2 trivial trivial)
 ·exact(show SB (k+1) (mkS [(.int hi,.non)] wOf [] [] .non .non)from bR2 trivial trivial)
 ·exact(show SB (k+1) (mkS [(.non,.non)] wOf [] [] .non .non)from bR2 trivial trivial)
theorem dN2{z:Str}(hz:z.length<=1900)(h:Dr G r):Wp (M5 [.ref r,.str z]) G λx G'=>SB (k+1) x/\Fd r G G':=by
 have bg:=big
 refine T8 (show Wp (aB2 [some (.ref r),some (.str z),none,none,none,none,none,none,none]) G _ from ?_)
 have hr:=h.lt
 have hl:(z++("a" :Str)).length<=1901:=by rw[yg,show ("a" :Str).length=1 from rfl];omega
 have hs:(yq (z++("a" :Str)) none (some 30)).length<=1901:=zI aQ9 hl
 refine o7 (X2:= [some (.ref r),some (.str z),some noS,none,none,none,none,none,none]) (G':=G) rfl ?_
 refine o7 (G':=G) rfl ?_
 refine o7 (G':=G) rfl ?_
 refine j9.mpr<| M8 ?_
 refine aE3.mpr ?_
 refine P0 (x:=.str z) (y:=.str "a") rfl rfl ?_
 refine(aW6 (by rw[show ("a" :Str).length=1 from rfl];omega)).mpr ?_
 refine m6 (a:=none) (G':=G) rfl ?_
 refine m6 (a:=some 30) (G':=G) rfl ?_
 refine(bH1 (by omega)).mpr ?_
 generalize yq (z++("a" :Str)) none (some 30)=y at hs
 refine o7 (X2:= [some (.ref r),some (.str z),some noS,none,none,none,none,some (.str y),some (.ref G.length)]) (G':=G++[.lst [.tup [.str wOf,.tup [.str z]],.tup [.str dA7,.tup [.str z]],.tup [.str dA7,.tup []],.tup [.str wOf,.tup [.str y]]]]) rfl ?_
 refine Q7<| bin_w<| bin_w ?_
 refine m6 (a:=.tup [.tup []]) rfl ?_
 refine U6.mpr<| J5<| bin_w ?_
 refine m6 (a:=.ref G.length) rfl ?_
 refine t7 (as:= [.ref r,.int 4]) rfl rfl ?_
 refine aK6 h.app (by omega) o4 rfl (by decide) λd hd G2 f2=>?_
 refine m7.mpr ⟨sz,?_⟩
 refine(bH2 sz2).mpr ?_
 refine m6 (a:=.tup [.tup [],.non,.non]) (G':=G2) rfl ?_
 refine(bH2 sz2).mpr ?_
 refine K8 ⟨?_,(Fd.app h).trans f2⟩
 simp only[zw,zy,or_false]at hd
 have h1:∀ {u:Str},u.length<=2000->∀x∈ [u],x.length<=2000:=λhu x hx=>by rw[zP.mp hx];exact hu
 rcases hd with rfl|rfl|rfl|rfl
 ·exact(show SB (k+1) (mkS [] wOf [z] [] .non .non)from bR9 (h1 (by omega)) (jp rfl))
 ·exact(show SB (k+1) (mkS [] dA7 [z] [] .non .non)from bR9 (h1 (by omega)) (jp rfl))
 ·exact(show SB (k+1) (mkS [] dA7 [] [] .non .non)from bR9 (λ_ h=>by cases h) (jp rfl))
 ·exact(show SB (k+1) (mkS [] wOf [y] [] .non .non)from bR9 (h1 (by omega)) (jp rfl))
end
theorem bB8{f:D->D->Option Bool}{x y:D}{xs ys:List D}(h:∃k,f x y=some k)(t:∃k,eqL f xs ys=some k):∃k,eqL f (x::xs) (y::ys)=some k:=by
 obtain⟨a,ha⟩:=h
 obtain⟨b,hb⟩:=t
 exact⟨a&&b,by rw[cV0,ha,hb]⟩
theorem dW4{k:Nat}{x m:D}{G:DH}(hx:SB (k+1) x)(hm:m= .str bP9\/m=noS):∃t,eqN 40 G x m=some t:=by
 rcases hx with rfl|⟨ns,w,ts,tr,li,re,rfl,_,_,_,_,_,h6,h7⟩
 · rcases hm with rfl|rfl
   ·exact⟨_,rfl⟩
   ·exact⟨false,rfl⟩
 · rcases hm with rfl|rfl
   ·exact⟨false,rfl⟩
   · show ∃t,eqL (eqN 39 G) [.tup (ns.map stD),.tup [.str w,.tup (ts.map D.str)],.tup (tr.map D.bl),li,re] [.tup [],.tup [.str wOf,.tup []],.tup [],.non,.non]=some t
     have tl:∀ {l:List D},∃t,eqN 39 G (.tup l) (.tup [])=some t:=λ{l}=>by cases l<;>exact⟨_,rfl⟩
     refine bB8 tl<| bB8 ?_<| bB8 tl<| bB8 ?_<| bB8 ?_ ⟨_,rfl⟩
     · show ∃t,eqL (eqN 38 G) [.str w,.tup (ts.map D.str)] [.str wOf,.tup []]=some t
       refine bB8 ⟨_,rfl⟩<| bB8 ?_ ⟨_,rfl⟩
       cases ts<;>exact⟨_,rfl⟩
     ·rcases h6 with rfl|⟨_,_,rfl,_⟩<;>exact⟨_,rfl⟩
     ·rcases h7 with rfl|⟨_,_,rfl,_⟩<;>exact⟨_,rfl⟩
def OfR(n:Nat)(x:D):Prop:=∃(fs:List (Str×Bool×D)) (m:D),x= .tup [.tup (fs.map fdD),m]/\fs.length<=60/\(fs.map (·.1)).Nodup/\(∀f∈fs,f.1.length<=1000/\SB (n+1) f.2.2)/\SB (n+1) m
theorem fF0{R:List D->M D}:∃S,aA7 R=m5 S (m5 (t8 (W6 q11) (q13 3)) (m5 (aS5 (itW (b8 1)) (aE0 2 (w6 (q13 4) (w6 (q13 5) (aF6)))) (OB R)) (m5 OZ (t6 (v5 (q10 (q12 aD9 (q10 (b8 3) q11)) (q10 (b8 2) q11)))))))/\S= (t8 (d9 ixD (W6 (q10 (cE (.str ("any" :Str))) (q10 (v5 (q10 (v5 q11) (q10 (v5 (q10 (cE (.str ("of" :Str))) (q10 (v5 q11) q11))) (q10 (v5 q11) (q10 (cE .non) (q10 (cE .non) q11)))))) q11))) (q12 (fnX 2 g8) (q10 (b8 0) (q10 (cE (.int 2)) q11)))) (q13 2)):=⟨_,rfl,rfl⟩
section
variable{R:List D->M D}{r b n q:Nat}{G:DH}{m:D}
def Fl1(n:Nat)(names:List Str)(fs:List (Str×Bool×D)):Prop:=(fs.map (·.1)).Sublist names/\∀f∈fs,f.1.length<=1000/\SB (n+1) f.2.2
theorem Fl1.add{n:Nat}{names:List Str}{fs:List (Str×Bool×D)}{z:Str}{k:Bool}{s:D}(h:Fl1 n names fs)(hz:z.length<=1000)(hs:SB (n+1) s):Fl1 n (names++[z]) (fs++[(z,k,s)]):=by
 refine⟨by rw[jI];exact h.1.append (XE _),λf hf=>?_⟩
 rcases jr.mp hf with hf|hf
 ·exact h.2 f hf
 ·rw[zP.mp hf];exact⟨hz,hs⟩
theorem Fl1.skip{n:Nat}{names:List Str}{fs:List (Str×Bool×D)}{z:Str}(h:Fl1 n names fs):Fl1 n (names++[z]) fs:=⟨h.1.trans (List.sublist_append_left ..),h.2⟩
theorem fC2{P:Option D}{p:Str×D}{fs:List (Str×Bool×D)}{names:List Str}{u v:Option D}{G0:DH}(hR:∀G,Dr G r->Wp (R [.ref r,p.2]) G λx G'=>SB (n+1) x/\Fd r G G')(hm:m= .str bP9\/m=noS)(f0:Fd r G0 G)(hq:q≠r)(hq0:G0.length<=q)(e:G[q]? =some (.lst (fs.map fdD)))(hf:Fl1 n names fs)(hl:fs.length<=1000)(hz:p.1.length<=1000):
 Wp (OB R [some (.ref r),P,some m,some (.ref q),some (.str p.1),some p.2,u,v]) G λfl G'=>Fd r G0 G'/\∃fs' u v,G'[q]? =some (.lst (fs'.map fdD))/\Fl1 n (names++[p.1]) fs'/\fs'.length<=fs.length+1/\fl= .nx [some (.ref r),P,some m,some (.ref q),some (.str p.1),some p.2,u,v]:=by
 have bg:=big
 unfold OB
 refine j9.mpr<| M8 ?_
 refine t7 (as:= [.ref r,p.2]) rfl rfl ?_
 refine(hR G f0.2.2).mono λs G1 ⟨hs,f1⟩=>?_
 refine j9.mpr<| M8<| bin_w ?_
 refine t7 (as:= [.ref r,.int 3]) rfl rfl ?_
 refine Q5 f1.2.2 (by decide) λk1 _ _ G2 f2=>?_
 refine m6 (a:=.int 0) (G':=G2) rfl ?_
 refine aW8.mpr ?_
 generalize decide (k1>0)=must
 have f02:=(f0.trans f1).trans f2
 refine aN1<| bD5<| R5<| bin_w ?_
 refine t7 (as:= [.ref r,.int 5]) rfl rfl ?_
 refine Q5 f2.2.2 (by decide) λk2 _ _ G3 f3=>?_
 refine m6 (a:=.int 0) (G':=G3) rfl ?_
 refine aW8.mpr ?_
 have f03:=f02.trans f3
 have e3:=((f1.trans f2).trans f3).at hq e
 have no:∀fl,fl=Fl.nx [some (.ref r),P,some m,some (.ref q),some (.str p.1),some p.2,some s,some (.bl must)]->Fd r G0 G3/\∃fs' u v,G3[q]? =some (.lst (fs'.map fdD))/\Fl1 n (names++[p.1]) fs'/\fs'.length<=fs.length+1/\fl= .nx [some (.ref r),P,some m,some (.ref q),some (.str p.1),some p.2,u,v]:=λfl h=>⟨f03,fs,_,_,e3,hf.skip,by omega,h⟩
 have yes:Wp (aQ1 (mtE V7 aC1 (b8 3) (q10 (v5 (q10 (b8 4) (q10 (b8 7) (q10 (b8 6) q11)))) q11)) [some (.ref r),P,some m,some (.ref q),some (.str p.1),some p.2,some s,some (.bl must)]) G3 λfl G'=>Fd r G0 G'/\∃fs' u v,G'[q]? =some (.lst (fs'.map fdD))/\Fl1 n (names++[p.1]) fs'/\fs'.length<=fs.length+1/\fl= .nx [some (.ref r),P,some m,some (.ref q),some (.str p.1),some p.2,u,v]:=by
  refine aY2.mpr<| bE0.mpr ?_
  refine m6 (a:=.ref q) (G':=G3) rfl ?_
  refine(aB8 e3).mpr ?_
  refine m6 (a:= [.tup [.str p.1,.bl must,s]]) (G':=G3) rfl ?_
  refine(aM2 e3 (by rw[zl];omega)).mpr ?_
  refine⟨f03.put hq0 hq,fs++[(p.1,must,s)],_,_,?_,hf.add hz hs,by simp,rfl⟩
  rw[jd (lt_of_get e3),jI];rfl
 refine⟨_,rfl,λc=>?_,λc=>⟨λh=>(nomatch h),λ_=>v6.mpr (no _ rfl)⟩⟩
 refine cO6 ?_
 refine m6 (a:=must) (G':=G3) rfl ?_
 refine⟨λc=>⟨λ_=>yes,λh=>(nomatch h)⟩,λc=>R5 ?_⟩
 obtain⟨t,et⟩:=dW4 (G:=G3) hs hm
 refine P0 (x:=s) (y:=m) (G1:=G3) (G2:=G3) rfl rfl ?_
 exact bP6.mpr ⟨t,et,_,rfl,λ_=>yes,λ_=>v6.mpr (no _ rfl)⟩
theorem cT8{P:Option D}{G0:DH}(hm:m= .str bP9\/m=noS)(hq:q≠r)(hq0:G0.length<=q):∀(ps:List (Str×D)) (fs:List (Str×Bool×D)) (names:List Str) (a c u v:Option D) (G:DH),(∀p∈ps,p.1.length<=1000/\∀G,Dr G r->Wp (R [.ref r,p.2]) G λx G'=>SB (n+1) x/\Fd r G G')->Fd r G0 G->G[q]? =some (.lst (fs.map fdD))->Fl1 n names fs->fs.length+ps.length<=50->
 Wp (aI0 (aE0 2 (w6 (q13 4) (w6 (q13 5) (aF6)))) (OB R) (λ_=>true) (ps.map J3) [some (.ref r),P,some m,some (.ref q),a,c,u,v]) G λfl G'=>Fd r G0 G'/\∃fs' a c u v,G'[q]? =some (.lst (fs'.map fdD))/\Fl1 n (names++ps.map (·.1)) fs'/\fs'.length<=50/\fl= .nx [some (.ref r),P,some m,some (.ref q),a,c,u,v]
 |[],fs,names,a,c,u,v,G,_,f,e,hf,hl=>aK2.mpr ⟨rfl,f,fs,_,_,_,_,e,by simpa using hf,by simpa using hl,rfl⟩
 |p::ps,fs,names,a,c,u,v,G,hp,f,e,hf,hl=>by
   simp only[jg]at hl
   have h1:=hp p (jh ..)
   refine aK4.mpr ⟨rfl,?_⟩
   refine m6 (a:= [some (.ref r),P,some m,some (.ref q),some (.str p.1),some p.2,u,v]) (G':=G) rfl ?_
   refine(fC2 h1.2 hm f hq hq0 e hf (by omega) h1.1).mono λfl G1 ⟨f1,fs',u',v',e1,hf1,hl1,ef⟩=>?_
   subst ef
   refine(cT8 hm hq hq0 ps fs' (names++[p.1]) _ _ u' v' G1 (λx hx=>hp x (zU _ hx)) f1 e1 hf1 (by omega)).mono λfl G2 ⟨f2,fs2,a2,c2,u2,v2,e2,hf2,hl2,ef⟩=>⟨f2,fs2,a2,c2,u2,v2,e2,?_,hl2,ef⟩
   rw[zG]
   simpa using hf2
noncomputable def wZ:Str:= "zzzzzzzz"
theorem bW3{ps:List (Str×D)}(h:Dr G r)(hl:ps.length<=50)(hn:(ps.map (·.1)).Nodup)(hp:∀p∈ps,p.1.length<=1000/\∀G,Dr G r->Wp (R [.ref r,p.2]) G λx G'=>SB (n+1) x/\Fd r G G'):
 Wp (T6 R [.ref r,.tup (ps.map J3)]) G λx G'=>OfR n x/\Fd r G G':=by
 have bg:=big
 refine T8 (show Wp (aA7 R [some (.ref r),some (.tup (ps.map J3)),none,none,none,none,none,none]) G _ from ?_)
 obtain⟨S,e0,eS⟩:=fF0 (R:=R)
 rw[e0,eS]
 have hr:=h.lt
 refine j9.mpr<| M8<| bin_w ?_
 refine m6 (a:=.ref G.length) (G':=G++[.lst [.str bP9,noS]]) rfl ?_
 refine t7 (as:= [.ref r,.int 2]) rfl rfl ?_
 refine aU6 h rfl (by decide) λm hm G1 f1=>?_
 have hm:m= .str bP9\/m=noS:=by simpa using hm
 refine o7 (X2:= [some (.ref r),some (.tup (ps.map J3)),some m,some (.ref G1.length),none,none,none,none]) (G':=G1++[.lst []]) rfl ?_
 have h1:=f1.2.2
 have hr1:=h1.lt
 have hq:G1.length≠r:=by omega
 refine j9.mpr<| aO8.mpr<| wp_itW.mpr ?_
 refine m6 (a:=.tup (ps.map J3)) rfl ?_
 refine srcW_tup.mpr ?_
 refine(cT8 (n:=n) (G0:=G1) hm hq (zo _) ps [] [] _ _ _ _ _ hp (Fd.app h1) o4 ⟨XE _,λ_ h=>by cases h⟩ (by simpa using hl)).mono ?_
 rintro _ G2 ⟨f2,fs,a,c,u,v,e2,hf,hfl,rfl⟩
 rw[xi]at hf
 have hsm:SB (n+1) m:=by rcases hm with rfl|rfl;exact cQ3;exact eF4
 have fin:∀(fs':List (Str×Bool×D)) (G3:DH),Fd r G1 G3->G3[G1.length]? =some (.lst (fs'.map fdD))->fs'.length<=60->(fs'.map (·.1)).Nodup->(∀f∈fs',f.1.length<=1000/\SB (n+1) f.2.2)->Wp (t6 (v5 (q10 (q12 aD9 (q10 (b8 3) q11)) (q10 (b8 2) q11))) [some (.ref r),some (.tup (ps.map J3)),some m,some (.ref G1.length),a,c,u,v]) G3 (DL.PB λx G'=>OfR n x/\Fd r G G'):=by
  intro fs' G3 f3 e3 h60 hnd hsb
  refine Q7<| U6.mpr<| J5 ?_
  refine aQ7 (as:= [.ref G1.length]) (G1:=G3) rfl ?_
  refine(aK9 e3).mpr ?_
  refine m6 (a:= [m]) (G':=G3) rfl ?_
  exact⟨sz,K8 ⟨⟨fs',m,rfl,h60,hnd,hsb,hsm⟩,f1.trans f3⟩⟩
 have hnd:=hf.1.nodup hn
 refine j9.mpr<| aN1<| bD5<| R5<| bin_w ?_
 refine t7 (as:= [.ref r,.int 5]) rfl rfl ?_
 refine Q5 f2.2.2 (by decide) λk _ _ G3 f3=>?_
 refine m6 (a:=.int 4) (G':=G3) rfl ?_
 refine aA4.mpr ?_
 have e3:=f3.at hq e2
 refine⟨_,rfl,λc4=>R5 ?_,λc4=>⟨λh=>(nomatch h),λ_=>v6.mpr (fin fs G3 (f2.trans f3) e3 (by omega) hnd hf.2)⟩⟩
 refine eq0 (items:=ps.map J3) (ck:=λ_=>true) (λO=>∃a b,O= [a,b]) (nmD wZ) rfl (λ_ _=>rfl) (by rw[zl];omega) ⟨_,_,rfl⟩ ?_ ?_
 · rintro d hd O G4 ⟨a,b,rfl⟩ j4
   obtain⟨p,_,rfl⟩:=zL.mp hd
   refine m6 (a:= [some (.str p.1),some p.2]) (G':=G4) rfl ⟨rfl,⟨_,_,rfl⟩,R5 ?_⟩
   refine P0 (x:=.str p.1) (y:=.str wZ) (G1:=G4) (G2:=G4) rfl rfl ?_
   refine aJ7.mpr ⟨_,rfl,?_,Ap.refl,_,rfl⟩
   show (p.1==wZ)=decide (p.1=wZ)
   by_cases hz:p.1=wZ
   ·rw[hz,beq_self_eq_true,decide_eq_true rfl]
   ·rw[decide_eq_false hz];simpa using hz
 intro G4 j4
 have f4:Fd r G3 G4:=by
  obtain⟨t,rfl⟩:=j4
  exact Fd.app f3.2.2
 have e4:=f4.at hq e3
 have f14:=(f2.trans f3).trans f4
 refine⟨_,rfl,λcz=>?_,λcz=>v6.mpr (fin fs G4 f14 e4 (by omega) hnd hf.2)⟩
 refine aY2.mpr<| bE0.mpr ?_
 refine m6 (a:=.ref G1.length) (G':=G4) rfl ?_
 refine(aB8 e4).mpr ?_
 refine J5<| U6.mpr<| N5 (x:=.str wZ) (G1:=G4) rfl<| J5<| bin_w ?_
 refine t7 (as:= [.ref r,.int 2]) rfl rfl ?_
 refine Q5 f4.2.2 (by decide) λk2 _ _ G5 f5=>?_
 refine m6 (a:=.int 1) (G':=G5) rfl ?_
 refine aA4.mpr ?_
 generalize decide (k2=1)=mz
 refine m6 (a:= [mkS [] dA7 [] [] .non .non]) (G':=G5) rfl ⟨sz,m7.mpr ?_⟩
 have e5:=f5.at hq e4
 refine(aM2 e5 (by rw[zl];omega)).mpr ?_
 have f15:=f14.trans f5
 refine fin (fs++[(wZ,mz,mkS [] dA7 [] [] .non .non)]) _ (f15.put (zo _) hq) ?_ (by simp;omega) ?_ ?_
 ·rw[jd (lt_of_get e5),jI];rfl
 · rw[jI,Yw]
   refine⟨hnd,by simp,λx hx y hy=>?_⟩
   simp only[zG,jZ,zP]at hy
   subst hy
   intro ex
   have hx2:=hf.1.subset hx
   obtain⟨p,hp',ep⟩:=zL.mp hx2
   have ha:(ps.map J3).any (nmD wZ)=true:=YN.mpr ⟨J3 p,zL.mpr ⟨p,hp',rfl⟩,decide_eq_true (by show p.1=wZ;rw[ep,ex])⟩
   rw[ha]at cz
   cases cz
 · intro f hf'
   rcases jr.mp hf' with hf'|hf'
   ·exact hf.2 f hf'
   ·rw[zP.mp hf'];exact⟨show wZ.length<=1000 by decide,bR9 (λ_ h=>by cases h) (jp rfl)⟩
end
theorem dJ7{d:D}(h:d∈ [D.tup [],.tup [.tup [.int 0,.int 5]],.tup [.tup [.non,.non]]]):∃ns:List (D×D),d= .tup (ns.map stD)/\(∀p∈ns,cT7 p)/\ns.length<=100:=by
 simp only[zw,zy,or_false]at h
 rcases h with rfl|rfl|rfl
 ·exact⟨[],rfl,(λ_ h=>by cases h),by decide⟩
 ·exact⟨[(.int 0,.int 5)],rfl,(λp h=>by rw[zP.mp h];exact⟨trivial,trivial,trivial⟩),by simp⟩
 ·exact⟨[(.non,.non)],rfl,(λp h=>by rw[zP.mp h];exact⟨trivial,trivial,trivial⟩),by simp⟩
section
variable{R:List D->M D}{r b n:Nat}{G:DH}{v:D}
theorem dG7(hb:b<=50)(hR:∀v G,VW b n v->Dr G r->Wp (R [.ref r,v]) G λx G'=>SB (n+1) x/\Fd r G G')(hv:VW b (n+1) v)(h:Dr G r):Wp (J7 6 (aH9 R) [.ref r,v]) G λx G'=>SB (n+2) x/\Fd r G G':=by
 have bg:=big
 refine T8 (show Wp (aH9 R [some (.ref r),some v,none,none,none,none]) G _ from ?_)
 refine j9.mpr<| M8 ?_
 refine t7 (as:= [.ref r,.int 9]) rfl rfl ?_
 refine Q5 h (by decide) λw w0 w1 G1 f1=>?_
 have h1:=f1.2.2
 refine j9.mpr<| aN1<| R5 ?_
 refine P0 (x:=.int w) (y:=.int 8) (G1:=G1) (G2:=G1) rfl rfl ?_
 refine aA4.mpr ⟨_,rfl,λc=>?_,λc=>v6.mpr ?_⟩
 ·exact m6 (a:=.rt (.str bP9)) (G':=G1) rfl (K8 ⟨cQ3,f1⟩)
 have flat:∀ {d:D},(Wp (M5 [.ref r,d]) G1 λx G'=>SB (n+2) x/\Fd r G1 G')->Wp (t6 (q12 (fnX 2 M5) (q10 (b8 0) (q10 (b8 1) q11))) [some (.ref r),some d,some (.int w),none,none,none]) G1 (λfl G'=>∃x,fl= .rt x/\SB (n+2) x/\Fd r G G'):=λ{d} q=>by
  refine Q7 ?_
  refine t7 (as:= [.ref r,d]) rfl rfl ?_
  exact q.mono λx G2 ⟨hx,f2⟩=>⟨x,rfl,hx,f1.trans f2⟩
 have nums:∀ {d:D} {g:Fs} {Q:DPP},(∀d' G',d'∈ [D.tup [],.tup [.tup [.int 0,.int 5]],.tup [.tup [.non,.non]]]->Fd r G1 G'->Wp (g [some (.ref r),some d,some (.int w),some d',none,none]) G' (DL.PB Q))->Wp (m5 (t8 (d9 ixD (W6 (q10 (v5 q11) (q10 (v5 (q10 (v5 (q10 (cE (.int 0)) (q10 (cE (.int 5)) q11))) q11)) (q10 (v5 (q10 (v5 (q10 (cE .non) (q10 (cE .non) q11))) q11)) q11)))) (d9 aU1 (b8 2) (cE (.int 3)))) (q13 3)) g [some (.ref r),some d,some (.int w),none,none,none]) G1 (DL.PB Q):=by
  intro d g Q q
  refine j9.mpr<| M8<| bin_w ?_
  refine m6 (a:=.ref G1.length) (G':=G1++[.lst [.tup [],.tup [.tup [.int 0,.int 5]],.tup [.tup [.non,.non]]]]) rfl ?_
  refine P0 (x:=.int w) (y:=.int 3) rfl rfl ?_
  refine(aA8 (by decide)).mpr ?_
  refine cF1 (jy _ (by decide)) (jX _ (by decide)) λd' hd=>?_
  exact q d' _ hd (Fd.app h1)
 rcases hv with⟨i,rfl⟩|⟨k,rfl⟩|⟨z,rfl,hz⟩|⟨l,rfl,hl,hv⟩|⟨ps,rfl,hl,hn,hv⟩
 ·exact j9.mpr<| aN3 (G1:=G1) rfl ((flat (dR6 h1)).mono λfl G2 ⟨x,e,q⟩=>by subst e;exact K8 q)
 ·exact j9.mpr<| aN3 (G1:=G1) rfl ((flat (eA3 h1)).mono λfl G2 ⟨x,e,q⟩=>by subst e;exact K8 q)
 ·exact j9.mpr<| aN3 (G1:=G1) rfl ((flat (dN2 (by omega) h1)).mono λfl G2 ⟨x,e,q⟩=>by subst e;exact K8 q)
 · refine o7 (G':=G1) rfl ?_
   refine nums λd' G2 hd f2=>?_
   obtain⟨ns,rfl,hns,hnl⟩:=dJ7 hd
   refine o7 (G':=G2) rfl ?_
   have f12:=f1.trans f2
   refine j9.mpr<| M8 ?_
   refine aI3 (l:=l) rfl (by omega) ?_
   refine(aP5 (λG'=>Fd r G2 G') (λO=>∃u,O= [u,some (.ref r)]) (SB (n+1)) (λ_ _=>rfl) l _ G2 ⟨none,rfl⟩ (Fd.refl f2.2.2) λx hx O G3 WY f3=>?_).mono λys G3 ⟨f3,el,hy⟩=>?_
   · obtain⟨u,rfl⟩:=WY
     refine u0.mpr ⟨rfl,⟨_,rfl⟩,aP7.mpr ⟨rfl,rfl,?_⟩⟩
     refine t7 (as:= [.ref r,x]) rfl rfl ?_
     exact(hR x G3 (hv x hx) f3.2.2).mono λy G4 ⟨hy,f4⟩=>⟨f3.trans f4,hy⟩
   · have f13:=f12.trans f3
     refine j9.mpr<| M8<| bin_w ?_
     refine m6 (a:=.ref (G3++[DO.lst ys]).length) (G':=G3++[.lst ys]++[.lst [.str bP9,noS]]) rfl ?_
     refine P0 (x:=.int w) (y:=.int 2) rfl rfl ?_
     refine(aA8 (by decide)).mpr ?_
     refine cF1 (jy _ (by decide)) (jX _ (by decide)) λm hm=>?_
     have hm:m= .str bP9\/m=noS:=by simpa using hm
     have hsm:SB (n+1) m:=by rcases hm with rfl|rfl;exact cQ3;exact eF4
     have e4:(G3++[DO.lst ys]++[DO.lst [.str bP9,noS]])[G3.length]? =some (.lst ys):=U7 o4
     refine Q7<| U6.mpr ?_
     refine N5 (x:=.tup (ns.map stD)) rfl ?_
     refine N5 (x:=.tup [.str wOf,.tup []]) rfl ?_
     refine N5 (x:=.tup []) rfl ?_
     refine J5<| U6.mpr<| J5<| T7<| J5<| aE3.mpr ?_
     refine m6 (a:=.ref G3.length) rfl ?_
     refine m6 (a:=none) rfl ?_
     refine bD2.mpr<| bin_w ?_
     refine aQ7 (as:= [.ref G3.length]) rfl ?_
     refine(aP3 e4).mpr ?_
     refine P0 (x:=.int w) (y:=.int 5) rfl rfl ?_
     refine(aH7 ⟨by decide,by decide⟩).mpr ?_
     refine aN7.mpr ?_
     refine⟨_,rfl,?_⟩
     refine(bO3 e4).mpr ?_
     refine m7.mpr ?_
     refine(aK9 o4).mpr ?_
     refine m6 (a:= [m]) rfl ⟨sz,?_⟩
     refine m6 (a:= [.non]) rfl ⟨sz,?_⟩
     refine K8 ⟨?_,((f13.trans (Fd.app f3.2.2)).trans (Fd.app f3.2.2.app)).trans (Fd.app f3.2.2.app.app)⟩
     have hlen:(DL.cutD ys none (some ((ys.length:Int)-w / 5))).length<=100:=zI (cH0 ..) (by rw[el];omega)
     exact .inr ⟨ns,wOf, [], [],.tup [.tup (DL.cutD ys none (some ((ys.length:Int)-w / 5))),m],.non,rfl,hns,hnl,(λ_ h=>by cases h),by decide,by decide,.inr ⟨_,_,rfl,hlen,λx hx=>hy x (cB3 hx),hsm⟩,.inl rfl⟩
 · refine o7 (G':=G1) rfl ?_
   refine nums λd' G2 hd f2=>?_
   obtain⟨ns,rfl,hns,hnl⟩:=dJ7 hd
   have f12:=f1.trans f2
   refine j9.mpr<| aN3 (G1:=G2) rfl<| Q7<| U6.mpr ?_
   refine N5 (x:=.tup (ns.map stD)) (G1:=G2) rfl ?_
   refine N5 (x:=.tup [.str wOf,.tup []]) (G1:=G2) rfl ?_
   refine N5 (x:=.tup []) (G1:=G2) rfl ?_
   refine N5 (x:=.non) (G1:=G2) rfl ?_
   refine J5 ?_
   refine t7 (as:= [.ref r,.tup (ps.map J3)]) rfl rfl ?_
   refine(bW3 f2.2.2 (by omega) hn λp hp=>⟨(hv p hp).1,λG h=>hR p.2 G (hv p hp).2 h⟩).mono λx G3 ⟨⟨fs,m,ex,h60,hnd,hsb,hsm⟩,f3⟩=>?_
   subst ex
   refine m7.mpr ⟨sz,K8 ⟨?_,f12.trans f3⟩⟩
   exact .inr ⟨ns,wOf, [], [],.non,.tup [.tup (fs.map fdD),m],rfl,hns,hnl,(λ_ h=>by cases h),by decide,by decide,.inl rfl,.inr ⟨fs,m,rfl,h60,hnd,hsb,hsm⟩⟩
end
theorem cG2{r b:Nat}(hb:b<=50):∀(n j:Nat) (v:D) (G:DH),n<=j->VW b n v->Dr G r->Wp (aN5 j [.ref r,v]) G λx G'=>SB (n+1) x/\Fd r G G'
 |0,_,_,_,_,hv,_=>hv.elim
 |n+1,0,_,_,h,_,_=>absurd h (by omega)
 |n+1,j+1,v,G,h,hv,hd=>dG7 hb (λv G hv hd=>cG2 hb n j v G (by omega) hv hd) hv hd
theorem VW.up{b:Nat}:∀ {n:Nat} {d:D},VW b n d->VW b (n+1) d
 |0,_,h=>h.elim
 |n+1,d,h=>by
   rcases h with h|h|h|⟨l,e,hl,hv⟩|⟨ps,e,hl,hn,hv⟩
   ·exact .inl h
   ·exact .inr (.inl h)
   ·exact .inr (.inr (.inl h))
   ·exact .inr (.inr (.inr (.inl ⟨l,e,hl,λx hx=>VW.up (hv x hx)⟩)))
   ·exact .inr (.inr (.inr (.inr ⟨ps,e,hl,hn,λp hp=>⟨(hv p hp).1,VW.up (hv p hp).2⟩⟩)))
theorem aD7{c:Nat}:∀(zs:List Str) {n:Nat} {d:D},VW c n d->T4 d zs= .tup []\/∃y,VW c n y/\T4 d zs= .tup [y]
 |[],n,d,h=>.inr ⟨d,h,rfl⟩
 |z::r,0,d,h=>h.elim
 |z::r,n+1,d,h=>by
   unfold T4
   cases e:W.kid d z with
   |none=>exact .inl rfl
   |some y=>
     rcases aD7 r (h.kid e)with q|⟨x,hx,q⟩
     ·exact .inl q
     ·exact .inr ⟨x,hx.up,q⟩
noncomputable def ptD(zs:List Str):D:=.tup (zs.map D.str)
inductive TL:D->Prop
 |inn (k:Nat) (zs:List Str) (s:D) (h:SB k s):TL (.tup [.str "in",ptD zs,s])
 |wsh (zs:List Str) (s:D):TL (.tup [.str "wish",ptD zs,s])
 |onl (zs ns:List Str):TL (.tup [.str "only",ptD zs,ptD ns])
 |sam (zs ys:List Str) (i:Int):TL (.tup [.str "same",ptD zs,ptD ys,.int i])
theorem Ap.fd{r:Nat}{G G':DH}(h:Dr G r)(j:Ap G G'):Fd r G G':=by
 obtain⟨t,rfl⟩:=j
 exact Fd.app h
theorem aN4{xs:List D}{G:DH}{Q:DPP}:Wp (neD (.tup xs) (.tup [])) G Q↔Q (.bl (!xs.isEmpty)) G:=dW9
theorem bE1{d:D}{G:DH}{Q:DPP}(h:aJ9 G d)(q:Q (.bl (aM1 d)) G):Wp (K3 [d]) G Q:=by
 refine T8 (show Wp (aG6 [some d]) G _ from ?_)
 refine Q7<| aE7.mpr ?_
 refine aQ7 (as:= [d,.ty "int"]) (G1:=G) rfl ?_
 refine(cP7 h).mpr<| K4.mpr ?_
 have e:aM1 d= (aB4 d&&!bH3 d):=by cases d<;>rfl
 rw[e]at q
 cases c:aB4 d
 ·rw[c]at q;exact q
 · rw[c]at q
   refine cZ6.mpr ?_
   refine aQ7 (as:= [d,.ty "bool"]) (G1:=G) rfl ?_
   exact(cG1 h).mpr<| cU6.mpr q
section
variable{r p b n:Nat}{G:DH}{v:D}
theorem bM8{zs:List Str}(hb:b<=50)(h:Dr G r)(hp:p≠r)(pl:aJ0 b G p)(hv:VW b n v):Wp (T9 [.ref r,v,ptD zs,.ref p]) G λx G'=>TL x/\Fd r G G':=by
 have bg:=big
 refine T8 (show Wp (aC9 [some (.ref r),some v,some (ptD zs),some (.ref p),none,none,none,none]) G _ from ?_)
 refine j9.mpr<| M8 ?_
 refine t7 (as:= [.ref r,.ref p]) rfl rfl ?_
 refine(cV9 h hp pl).mono λx G1 ⟨⟨ys,ex⟩,f1⟩=>?_
 subst ex
 refine j9.mpr<| aN1<| R5<| bin_w ?_
 refine t7 (as:= [.ref r,.int 4]) rfl rfl ?_
 refine Q5 f1.2.2 (by decide) λk0 _ _ G2 f2=>?_
 refine m6 (a:=.int 0) (G':=G2) rfl ?_
 refine aA4.mpr ?_
 have f12:=f1.trans f2
 have rest:∀us:List Str,Wp (m5 (t8 (q12 (fnX 2 K7) (q10 (b8 1) (q10 (b8 2) q11))) (q13 5)) (m5 (t8 (q12 (fnX 2 K7) (q10 (b8 1) (q10 (b8 4) q11))) (q13 6)) (m5 (t8 (d9 ixD (W6 (q10 (cE (.int 0)) (q10 (cE (.int 0)) (q10 (cE (.int 0)) (q10 (cE (.int 1)) (q10 (q12 (fnX 1 N6) (q10 (b8 0) q11)) q11)))))) (q12 (fnX 2 g8) (q10 (b8 0) (q10 (cE (.int 5)) q11)))) (q13 7)) (m5 (ifS (aQ4 (o6 (d9 neD (b8 5) (v5 q11))) (aQ4 (o6 (d9 neD (b8 6) (v5 q11))) (aQ4 (J8 (q12 (fnX 1 K3) (q10 (d9 ixD (b8 5) (cE (.int 0))) q11))) (J8 (q12 (fnX 1 K3) (q10 (d9 ixD (b8 6) (cE (.int 0))) q11)))))) (t8 (d9 W5 (d9 bB0 (d9 ixD (b8 5) (cE (.int 0))) (d9 ixD (b8 6) (cE (.int 0)))) (d9 ixD (W6 (q10 (cE (.int 0)) (q10 (cE (.int 0)) (q10 (cE (.int 1)) (q10 (unE cE8 (d9 ixD (b8 5) (cE (.int 0)))) q11))))) (q12 (fnX 2 g8) (q10 (b8 0) (q10 (cE (.int 4)) q11))))) (q13 7)) u9) (t6 (v5 (q10 (cE (.str ("same" :Str))) (q10 (b8 2) (q10 (b8 4) (q10 (q12 cP3 (q10 (q12 bW7 (q10 (b8 7) (q10 (d9 aW2 (cE (.int 10)) (cE (.int 20))) q11))) (q10 (unE cE8 (d9 aW2 (cE (.int 10)) (cE (.int 20)))) q11))) q11)))))))))
  [some (.ref r),some v,some (ptD zs),some (.ref p),some (ptD us),none,none,none]) G2 (DL.PB λx G'=>TL x/\Fd r G G'):=by
  intro us
  refine j9.mpr<| M8 ?_
  refine t7 (as:= [v,ptD zs]) rfl rfl ?_
  refine(aQ3 (by omega) hv).mono λx G3 ⟨ex,j3⟩=>?_
  subst ex
  refine j9.mpr<| M8 ?_
  refine t7 (as:= [v,ptD us]) rfl rfl ?_
  refine(aQ3 (by omega) hv).mono λx G4 ⟨ex,j4⟩=>?_
  subst ex
  have f4:=f12.trans ((j3.trans j4).fd f2.2.2)
  refine j9.mpr<| M8<| bin_w<| aJ5.mpr ?_
  refine N5 (x:=.int 0) (G1:=G4) rfl ?_
  refine N5 (x:=.int 0) (G1:=G4) rfl ?_
  refine N5 (x:=.int 0) (G1:=G4) rfl ?_
  refine N5 (x:=.int 1) (G1:=G4) rfl ?_
  refine J5 ?_
  refine t7 (as:= [.ref r]) rfl rfl ?_
  refine(cA0 f4.2.2).mono λx G5 ⟨⟨i,ex⟩,f5⟩=>?_
  subst ex
  refine m7.mpr ⟨sz,?_⟩
  refine t7 (as:= [.ref r,.int 5]) rfl rfl ?_
  refine aU6 f5.2.2 rfl (by decide) λd hd G6 f6=>?_
  obtain⟨j,rfl⟩:∃j,d= .int j:=by
   simp only[zw,zy,or_false]at hd
   rcases hd with rfl|rfl|rfl|rfl|rfl<;>exact⟨_,rfl⟩
  have f06:=(f4.trans f5).trans f6
  have fin:∀(j:Int) (G7:DH),Fd r G G7->Wp (t6 (v5 (q10 (cE (.str ("same" :Str))) (q10 (b8 2) (q10 (b8 4) (q10 (q12 cP3 (q10 (q12 bW7 (q10 (b8 7) (q10 (d9 aW2 (cE (.int 10)) (cE (.int 20))) q11))) (q10 (unE cE8 (d9 aW2 (cE (.int 10)) (cE (.int 20)))) q11))) q11))))) [some (.ref r),some v,some (ptD zs),some (.ref p),some (ptD us),some (T4 v zs),some (T4 v us),some (.int j)]) G7 (DL.PB λx G'=>TL x/\Fd r G G'):=by
   intro j G7 f7
   refine Q7<| U6.mpr ?_
   refine N5 (x:=.str "same") (G1:=G7) rfl ?_
   refine N5 (x:=ptD zs) (G1:=G7) rfl ?_
   refine N5 (x:=ptD us) (G1:=G7) rfl ?_
   refine J5<| T7<| J5<| T7 ?_
   refine N5 (x:=.int j) (G1:=G7) rfl ?_
   refine J5 ?_
   refine P0 (x:=.int 10) (y:=.int 20) (G1:=G7) (G2:=G7) rfl rfl ?_
   refine(aZ0 (show bK2 10 20 by decide)).mpr ?_
   refine m7.mpr<| cC3.mpr ?_
   refine J5<| cN2.mpr ?_
   refine P0 (x:=.int 10) (y:=.int 20) (G1:=G7) (G2:=G7) rfl rfl ?_
   refine(aZ0 (show bK2 10 20 by decide)).mpr ?_
   refine bD4.mpr<| m7.mpr ?_
   refine wp_pure.mpr ?_
   exact m7.mpr ⟨sz,K8 ⟨TL.sam zs us _,f7⟩⟩
  refine j9.mpr<| aN1<| bD5<| R5 ?_
  rcases aD7 zs hv with ez|⟨y,hy,ez⟩
  · refine P0 (x:=.tup []) (y:=.tup []) (G1:=G6) (G2:=G6) (by rw[<-ez];rfl) rfl ?_
    exact aN4.mpr ⟨_,rfl,λh=>(nomatch h),λ_=>⟨λh=>(nomatch h),λ_=>v6.mpr (fin j G6 f06)⟩⟩
  refine P0 (x:=.tup [y]) (y:=.tup []) (G1:=G6) (G2:=G6) (by rw[<-ez];rfl) rfl ?_
  refine aN4.mpr ⟨_,rfl,λ_=>bD5<| R5 ?_,λh=>(nomatch h)⟩
  rcases aD7 us hv with eu|⟨x,hx,eu⟩
  · refine P0 (x:=.tup []) (y:=.tup []) (G1:=G6) (G2:=G6) (by rw[<-eu];rfl) rfl ?_
    exact aN4.mpr ⟨_,rfl,λh=>(nomatch h),λ_=>⟨λh=>(nomatch h),λ_=>v6.mpr (fin j G6 f06)⟩⟩
  refine P0 (x:=.tup [x]) (y:=.tup []) (G1:=G6) (G2:=G6) (by rw[<-eu];rfl) rfl ?_
  refine aN4.mpr ⟨_,rfl,λ_=>bD5 ?_,λh=>(nomatch h)⟩
  have ey:∀G,d9 ixD (b8 5) (cE (.int 0)) [some (.ref r),some v,some (ptD zs),some (.ref p),some (ptD us),some (T4 v zs),some (T4 v us),some (.int j)] G=some (.ok y,G):=λG=>by rw[ez];rfl
  have ex:∀G,d9 ixD (b8 6) (cE (.int 0)) [some (.ref r),some v,some (ptD zs),some (.ref p),some (ptD us),some (T4 v zs),some (T4 v us),some (.int j)] G=some (.ok x,G):=λG=>by rw[eu];rfl
  refine U9.mpr<| T7<| J5 ?_
  refine m6 (ey G6) ?_
  refine m7.mpr<| J4.mpr ⟨rfl,bE1 hy.there ?_⟩
  refine K4.mpr ⟨λc1=>?_,λ_=>⟨λh=>(nomatch h),λ_=>v6.mpr (fin j G6 f06)⟩⟩
  refine U9.mpr<| T7<| J5 ?_
  refine m6 (ex G6) ?_
  refine m7.mpr<| J4.mpr ⟨rfl,bE1 hx.there ?_⟩
  refine K4.mpr ⟨λc2=>?_,λ_=>v6.mpr (fin j G6 f06)⟩
  obtain⟨i1,rfl⟩:∃i,y= .int i:=by cases y<;>first|exact⟨_,rfl⟩|cases c1
  obtain⟨i2,rfl⟩:∃i,x= .int i:=by cases x<;>first|exact⟨_,rfl⟩|cases c2
  refine M8<| bin_w<| bin_w ?_
  refine m6 (ey G6) ?_
  refine m6 (ex G6) ?_
  refine aN7.mpr ?_
  refine bin_w<| aJ5.mpr ?_
  refine N5 (x:=.int 0) (G1:=G6) rfl ?_
  refine N5 (x:=.int 0) (G1:=G6) rfl ?_
  refine N5 (x:=.int 1) (G1:=G6) rfl ?_
  refine J5<| cN2.mpr ?_
  refine m6 (ey G6) ?_
  refine bD4.mpr<| m7.mpr ⟨sz,?_⟩
  refine t7 (as:= [.ref r,.int 4]) rfl rfl ?_
  refine aU6 f06.2.2 rfl (by decide) λd hd G7 f7=>?_
  obtain⟨j2,rfl⟩:∃j,d= .int j:=by
   simp only[zw,zy,or_false]at hd
   rcases hd with rfl|rfl|rfl|rfl<;>exact⟨_,rfl⟩
  refine aH2.mpr ?_
  exact fin _ G7 (f06.trans f7)
 refine⟨_,rfl,λ_=>?_,λ_=>v6.mpr (rest ys)⟩
 refine m6 (a:=.nx [some (.ref r),some v,some (ptD zs),some (.ref p),some (ptD zs),none,none,none]) (G':=G2) rfl ?_
 exact rest zs
end
theorem cY8:∀zs:List Str,aG8 (zs.map D.str)=some zs
 |[]=>rfl
 |z::r=>by
   show (aG8 (r.map D.str)).map (z :: ·)=_
   rw[cY8 r];rfl
theorem cV2:∀ {l:List D},(∀x∈l,∃z,x= .str z)->∃ns:List Str,l=ns.map D.str
 |[],_=>⟨[],rfl⟩
 |x::l,h=>by
   obtain⟨z,rfl⟩:=h x (jh ..)
   obtain⟨ns,rfl⟩:=cV2 λy hy=>h y (zU _ hy)
   exact⟨z::ns,rfl⟩
theorem dI9{b n:Nat}{y:D}(h:VW b n y)(c:dQ6 y=true):∃ps:List (Str×D),y= .tup [.str W4,.tup (ps.map J3)]/\ps.length<=b/\(ps.map (·.1)).Nodup/\∀p∈ps,p.1.length<=1000:=by
 cases n with
 |zero=>exact h.elim
 |succ n=>
   rcases h with⟨i,rfl⟩|⟨k,rfl⟩|⟨z,rfl,hz⟩|⟨l,rfl,hl,hv⟩|⟨ps,rfl,hl,hn,hv⟩
   ·cases c
   ·cases c
   ·cases c
   ·exact absurd c (by show ¬(U8==W4)=true;decide)
   ·exact⟨ps,rfl,hl,hn,λp hp=>(hv p hp).1⟩
theorem cP4{ps:List (Str×D)}{G:DH}:M6 (aE0 2 (w6 (q13 0) (w6 (q13 1) (aF6)))) W0 (b8 0) (λ_=>true) (ps.map J3) [none,none] G=some (.ok ((ps.map (·.1)).map D.str),G):=by
 have d1:((ps.map J3).map λd=>D.str (bH5 d))= (ps.map (·.1)).map D.str:=by rw[jc,jc];rfl
 rw[<-d1]
 refine Z0 (I:=λO=>O.length=2) rfl _ _ rfl λd hd O WY=>?_
 obtain⟨p,_,rfl⟩:=zL.mp hd
 match O,WY with
 |[u,v],_=>exact⟨[some (.str p.1),some p.2],rfl,rfl,rfl,rfl⟩
theorem dY1{b n:Nat}{y:D}{G:DH}{O:DSt}{f:Fe}{B:Bool->DH->Prop}(h:VW b n y)(e:∀G,f O G=some (.ok y,G))(q:B (dQ6 y) G):Wp (aQ4 (J8 (q12 v7 (q10 f (q10 (cE (.ty "tuple")) q11)))) (o6 (d9 eqD (d9 ixD f (cE (.int 0))) (cE (.str ("record" :Str))))) O) G B:=by
 refine bD5<| U9.mpr<| T7<| J5 ?_
 refine m6 (e G) ?_
 refine m6 (a:= [.ty "tuple"]) (G':=G) rfl ?_
 refine(bE9 h.there).mpr<| K4.mpr ?_
 cases n with
 |zero=>exact h.elim
 |succ n=>
   rcases h with⟨i,rfl⟩|⟨k,rfl⟩|⟨z,rfl,hz⟩|⟨l,rfl,hl,hv⟩|⟨ps,rfl,hl,hn,hv⟩
   ·exact⟨λh=>(nomatch h),λ_=>q⟩
   ·exact⟨λh=>(nomatch h),λ_=>q⟩
   ·exact⟨λh=>(nomatch h),λ_=>q⟩
   all_goals
    refine⟨λ_=>R5<| bin_w<| bin_w ?_,λh=>(nomatch h)⟩
    refine m6 (e G) ?_
    refine m6 (a:=.int 0) (G':=G) rfl ?_
    refine ix_tup.mpr ⟨_,rfl,?_⟩
    refine m6 (a:=.str W4) (G':=G) rfl ?_
    exact aJ7.mpr ⟨_,rfl,q⟩
section
variable{r p b n:Nat}{G:DH}{v:D}
theorem bN5{zs:List Str}(hb:b<=50)(h:Dr G r)(hp:p≠r)(pl:aJ0 b G p)(hv:VW b n v):Wp (U0 [.ref r,T4 v zs,ptD zs,.ref p]) G λx G'=>TL x/\Fd r G G':=by
 have bg:=big
 refine T8 (show Wp (aC6 [some (.ref r),some (T4 v zs),some (ptD zs),some (.ref p),none,none]) G _ from ?_)
 refine j9.mpr<| M8<| wp_comp.mpr<| rng1.mpr<| J5 ?_
 refine t7 (as:= [.ref r,.int 4]) rfl rfl ?_
 refine Q5 h (by decide) λk k0 k1 G1 f1=>?_
 refine m7.mpr<| (rng1_int ⟨by omega,by omega⟩).mpr ?_
 have hlen:(M4 0 k.toNat).length<=4:=by unfold M4;rw[zl,jD];omega
 refine⟨by show (M4 0 k.toNat).length<=_;omega,?_⟩
 refine(aP5 (λG'=>Fd r G1 G') (λO=>∃u,O= [u,some (.ref r),some (.ref p)]) SD (λ_ _=>rfl) (M4 0 k.toNat) _ G1 ⟨none,rfl⟩ (Fd.refl f1.2.2) λx hx O G2 WY f2=>?_).mono λys G2 ⟨f2,el,hy⟩=>?_
 · obtain⟨u,rfl⟩:=WY
   refine u0.mpr ⟨rfl,⟨_,rfl⟩,aP7.mpr ⟨rfl,rfl,?_⟩⟩
   obtain⟨ds,e,hds,h0,h50⟩:=(pl.fd hp f1).fd hp f2
   refine bin_w ?_
   refine m6 (a:=.ref p) (G':=G2) rfl ?_
   refine T7<| N5 (x:=.ref r) (G1:=G2) rfl<| J5 ?_
   refine aQ7 (as:= [.ref p]) (G1:=G2) rfl ?_
   refine(aP3 e).mpr ?_
   refine m7.mpr<| J4.mpr ⟨rfl,?_⟩
   exact aK6 f2.2.2 hp e rfl (by omega) λd hd G3 f3=>⟨f2.trans f3,hds d hd⟩
 obtain⟨ws,rfl⟩:=cS8 hy
 have hws:∀z∈ws,z.length<=1000:=λz hz=>by
  obtain⟨z',e,hz'⟩:=hy (.str z) (zL.mpr ⟨z,hz,rfl⟩)
  cases e;exact hz'
 have hwl:ws.length<=4:=by rw[zl]at el;omega
 have f02:=(f1.trans f2).trans (Fd.app (t:= [DO.lst (ws.map D.str)]) f2.2.2)
 have hr:=h.lt
 have rest:∀(us:List Str) (q:Nat) (G3:DH),Fd r G G3->G3[q]? =some (.lst (us.map D.str))->us.length<=54->Wp (m5 (t8 (cA9 (b8 4)) (q13 4)) (m5 (t8 (q12 (fnX 2 g8) (q10 (b8 0) (q10 (d9 W5 (q12 aD4 (q10 (b8 4) q11)) (cE (.int 2))) q11))) (q13 5)) (t6 (v5 (q10 (cE (.str ("only" :Str))) (q10 (b8 2) (q10 (q12 aD9 (q10 (d9 W5 (X3 (b8 4) (Z4) (aE1 (b8 5))) (X3 (b8 4) (aE1 (d9 W5 (b8 5) (cE (.int 1)))) (Z4))) q11)) q11)))))) [some (.ref r),some (T4 v zs),some (ptD zs),some (.ref p),some (.ref q),none]) G3 (DL.PB λx G'=>TL x/\Fd r G G'):=by
  intro us q G3 f3 e3 hl
  have hr3:=f3.2.2.lt
  refine j9.mpr<| M8 ?_
  refine dF6 (r:=q) (G1:=G3) rfl e3 (cY8 us) (by omega) ?_
  have hts:(aC4 (us.foldl ddT [])).length<=54:=by
   have e3:(aC4 (us.foldl ddT [])).length= (us.foldl ddT []).length:=(yA _ leS).length_eq
   have:=cH1 us []
   simp at this;omega
  generalize aC4 (us.foldl ddT [])=ts at hts
  have f4:=f3.trans (Fd.app (t:= [DO.lst (ts.map D.str)]) f3.2.2)
  have e4:(G3++[DO.lst (ts.map D.str)])[G3.length]? =some (.lst (ts.map D.str)):=o4
  refine j9.mpr<| M8<| T7<| N5 (x:=.ref r) (G1:=G3++[DO.lst (ts.map D.str)]) rfl<| J5<| bin_w ?_
  refine aQ7 (as:= [.ref G3.length]) rfl ?_
  refine(aP3 e4).mpr ?_
  refine m6 (a:=.int 2) rfl ?_
  refine aH2.mpr<| m7.mpr<| J4.mpr ⟨rfl,?_⟩
  refine Q5 f4.2.2 (by omega) λa a0 a1 G5 f5=>?_
  have e5:=f5.at (show G3.length≠r by omega) e4
  refine Q7<| U6.mpr ?_
  refine N5 (x:=.str "only") (G1:=G5) rfl ?_
  refine N5 (x:=ptD zs) (G1:=G5) rfl ?_
  refine J5<| T7<| J5<| bin_w<| aE3.mpr ?_
  refine m6 (a:=.ref G3.length) (G':=G5) rfl ?_
  refine m6 (a:=none) (G':=G5) rfl ?_
  refine m6 (a:=some a) (G':=G5) rfl ?_
  refine(bO3 e5).mpr ?_
  refine aE3.mpr ?_
  refine m6 (a:=.ref G3.length) rfl ?_
  refine m6 (a:=some (a+1)) rfl ?_
  refine m6 (a:=none) rfl ?_
  refine(bO3 (U7 e5)).mpr ?_
  have l1:(DL.cutD (ts.map D.str) none (some a)).length<=(ts.map D.str).length:=cH0 ..
  have l2:(DL.cutD (ts.map D.str) (some (a+1)) none).length<=(ts.map D.str).length:=cH0 ..
  rw[zl]at l1 l2
  refine(bO2 (U7 o4) o4 (by omega)).mpr ?_
  refine m7.mpr<| (aK9 o4).mpr<| m7.mpr ⟨sz,?_⟩
  obtain⟨ns,en⟩:=cV2 (l:=DL.cutD (ts.map D.str) none (some a)++DL.cutD (ts.map D.str) (some (a+1)) none) λx hx=>by
   have:x∈ts.map D.str:=by
    rcases jr.mp hx with hx|hx
    ·exact cB3 hx
    ·exact cB3 hx
   obtain⟨z,_,rfl⟩:=zL.mp this
   exact⟨z,rfl⟩
  rw[en]
  refine K8 ⟨TL.onl zs ns,(f4.trans f5).trans ?_⟩
  exact((Fd.app f5.2.2).trans (Fd.app f5.2.2.app)).trans (Fd.app f5.2.2.app.app)
 refine j9.mpr<| aN1<| bD5<| R5 ?_
 rcases aD7 zs hv with ez|⟨y,hy,ez⟩
 · refine P0 (x:=.tup []) (y:=.tup []) (by rw[<-ez];rfl) rfl ?_
   exact aN4.mpr ⟨_,rfl,λh=>(nomatch h),λ_=>⟨λh=>(nomatch h),λ_=>v6.mpr (rest ws G2.length _ f02 o4 (by omega))⟩⟩
 refine P0 (x:=.tup [y]) (y:=.tup []) (by rw[<-ez];rfl) rfl ?_
 have ey:∀G,d9 ixD (b8 1) (cE (.int 0)) [some (.ref r),some (T4 v zs),some (ptD zs),some (.ref p),some (.ref G2.length),none] G=some (.ok y,G):=λG=>by rw[ez];rfl
 refine aN4.mpr ⟨_,rfl,λ_=>dY1 hy ey ⟨λc=>?_,λ_=>v6.mpr (rest ws G2.length _ f02 o4 (by omega))⟩,λh=>(nomatch h)⟩
 obtain⟨ps,rfl,hpl,hnd,hnm⟩:=dI9 hy c
 refine M8<| bin_w ?_
 refine m6 (a:=.ref G2.length) rfl ?_
 refine aI3 (l:=ps.map J3) (G1:=G2++[DO.lst (ws.map D.str)]) (by show d9 ixD (d9 ixD (b8 1) (cE (.int 0))) (cE (.int 1)) [some (.ref r),some (T4 v zs),some (ptD zs),some (.ref p),some (.ref G2.length),none] _=_;rw[ez];rfl) (by rw[zl];omega) ?_
 refine m6 cP4 ?_
 refine(bO2 (U7 o4) o4 (by rw[zl,zl,zl];omega)).mpr ?_
 have f3:=f02.trans ((Fd.app (t:= [DO.lst ((ps.map (·.1)).map D.str)]) f02.2.2).trans (Fd.app (t:= [DO.lst (ws.map D.str++(ps.map (·.1)).map D.str)]) f02.2.2.app))
 refine rest (ws++ps.map (·.1)) _ _ f3 (by rw[jI];exact o4) (by rw[zR,zl];omega)
theorem cO4(hv':Vd b n)(h:Dr G r)(hp:p≠r)(pl:aJ0 b G p)(hv:VW b n v):Wp (aB9 [.ref r,v,.ref p]) G λx G'=>TL x/\Fd r G G':=by
 have bg:=big
 have hb:b<=50/\4<=b/\n<=6:=by rcases hv' with⟨rfl,hn⟩|⟨h1,h2,h3⟩<;>omega
 refine T8 (show Wp (aL1 [some (.ref r),some v,some (.ref p),none,none,none,none]) G _ from ?_)
 refine j9.mpr<| M8 ?_
 refine t7 (as:= [.ref r,.int 6]) rfl rfl ?_
 refine Q5 h (by decide) λw w0 w1 G1 f1=>?_
 refine j9.mpr<| M8 ?_
 refine t7 (as:= [.ref r,.ref p]) rfl rfl ?_
 refine(cV9 f1.2.2 hp (pl.fd hp f1)).mono λx G2 ⟨⟨zs,ex⟩,f2⟩=>?_
 subst ex
 refine j9.mpr<| M8 ?_
 refine t7 (as:= [v,ptD zs]) rfl rfl ?_
 refine(aQ3 (by omega) hv).mono λx G3 ⟨ex,j3⟩=>?_
 subst ex
 have f3:=(f1.trans f2).trans (j3.fd f2.2.2)
 have pl3:=pl.fd hp f3
 refine j9.mpr<| aN1<| R5 ?_
 refine P0 (x:=.int w) (y:=.tup [.int 2,.int 3]) (G1:=G3) (G2:=G3) rfl rfl ?_
 refine(bJ9 rfl).mpr ⟨_,rfl,λ_=>?_,λ_=>v6.mpr ?_⟩
 · refine Q7 ?_
   refine t7 (as:= [.ref r,v,ptD zs,.ref p]) rfl rfl ?_
   exact(bM8 hb.1 f3.2.2 hp pl3 hv).mono λx G4 ⟨q,f4⟩=>K8 ⟨q,f3.trans f4⟩
 refine j9.mpr<| aN1<| R5 ?_
 refine P0 (x:=.int w) (y:=.int 4) (G1:=G3) (G2:=G3) rfl rfl ?_
 refine aA4.mpr ⟨_,rfl,λ_=>?_,λ_=>v6.mpr ?_⟩
 · refine Q7 ?_
   refine t7 (as:= [.ref r,T4 v zs,ptD zs,.ref p]) rfl rfl ?_
   exact(bN5 hb.1 f3.2.2 hp pl3 hv).mono λx G4 ⟨q,f4⟩=>K8 ⟨q,f3.trans f4⟩
 refine j9.mpr<| M8<| T7<| N5 (x:=.ref r) (G1:=G3) rfl<| J5 ?_
 refine t7 (as:= [.ref r,.ref p,.int 2]) rfl rfl ?_
 refine(cF0 ⟨hb.2.1,hb.1⟩ hp 2 60 2 G3 (by omega) (by omega) f3.2.2 pl3).mono λx G4 ⟨hx,f4⟩=>?_
 refine m7.mpr<| J4.mpr ⟨rfl,?_⟩
 refine(cG2 hb.1 3 60 x G4 (by omega) hx f4.2.2).mono λs G5 ⟨hs,f5⟩=>?_
 have f05:=(f3.trans f4).trans f5
 have fin:∀(k:Nat) (s:D) (G6:DH),SB k s->Fd r G G6->Wp (t6 (v5 (q10 (d9 ixD (W6 (q10 (cE (.str ("in" :Str))) (q10 (cE (.str ("wish" :Str))) q11))) (d9 aT9 (b8 3) (cE (.int 5)))) (q10 (b8 4) (q10 (b8 6) q11)))) [some (.ref r),some v,some (.ref p),some (.int w),some (ptD zs),some (T4 v zs),some s]) G6 (DL.PB λx G'=>TL x/\Fd r G G'):=by
  intro k s G6 hs f6
  refine Q7<| U6.mpr<| J5<| bin_w ?_
  refine m6 (a:=.ref G6.length) (G':=G6++[.lst [.str "in",.str "wish"]]) rfl ?_
  refine P0 (x:=.int w) (y:=.int 5) rfl rfl ?_
  refine(aH7 ⟨by decide,by decide⟩).mpr ?_
  refine cF1 (by omega) (by show w / 5<2;omega) λd hd=>?_
  refine m6 (a:= [ptD zs,s]) rfl ⟨sz,K8 ⟨?_,f6.trans (Fd.app f6.2.2)⟩⟩
  simp only[zw,zy,or_false]at hd
  rcases hd with rfl|rfl
  ·exact TL.inn k zs s hs
  ·exact TL.wsh zs s
 refine j9.mpr<| aN1<| bD5<| R5 ?_
 rcases aD7 zs hv with ez|⟨y,hy,ez⟩
 · refine P0 (x:=.tup []) (y:=.tup []) (G1:=G5) (G2:=G5) (by rw[<-ez];rfl) rfl ?_
   exact aN4.mpr ⟨_,rfl,λh=>(nomatch h),λ_=>⟨λh=>(nomatch h),λ_=>v6.mpr (fin _ s G5 hs f05)⟩⟩
 refine P0 (x:=.tup [y]) (y:=.tup []) (G1:=G5) (G2:=G5) (by rw[<-ez];rfl) rfl ?_
 refine aN4.mpr ⟨_,rfl,λ_=>R5<| bin_w ?_,λh=>(nomatch h)⟩
 refine t7 (as:= [.ref r,.int 5]) rfl rfl ?_
 refine Q5 f5.2.2 (by decide) λk _ _ G6 f6=>?_
 refine m6 (a:=.int 0) (G':=G6) rfl ?_
 have f06:=f05.trans f6
 refine aW8.mpr ⟨_,rfl,λ_=>?_,λ_=>v6.mpr (fin _ s G6 hs f06)⟩
 refine M8<| T7<| N5 (x:=.ref r) (G1:=G6) rfl<| J5 ?_
 refine m6 (a:=y) (G':=G6) (by show d9 ixD (b8 5) (cE (.int 0)) [some (.ref r),some v,some (.ref p),some (.int w),some (ptD zs),some (T4 v zs),some s] _=_;rw[ez];rfl) ?_
 refine m7.mpr<| J4.mpr ⟨rfl,?_⟩
 refine(cG2 hb.1 n 60 y G6 (by omega) hy f6.2.2).mono λs2 G7 ⟨hs2,f7⟩=>?_
 exact fin _ s2 G7 hs2 (f06.trans f7)
end
theorem fA3:aY5=m5 (t8 (q12 (fnX 2 aE4) (q10 (b8 0) (q10 (d9 ixD (b8 1) (cE (.int 1))) q11))) (q13 2)) (m5 (ifS (o6 (d9 eqD (b8 2) (v5 q11))) (t6 (cE (.bl false))) u9) FU2):=rfl
theorem eV9:aS3=m5 (t8 (q12 (fnX 2 K7) (q10 (b8 0) (q10 (d9 ixD (b8 1) (cE (.int 1))) q11))) (q13 2)) (m5 (ifS (o6 (d9 eqD (b8 2) (v5 q11))) (t6 (cE (.bl false))) u9) DU2):=rfl
section
variable{b n:Nat}{v t:D}{zs:List Str}{G:DH}{Q:DPP}
theorem aO7(hv:VW b n v)(et:∀G,q10 (b8 0) (q10 (d9 ixD (b8 1) (cE (.int 1))) q11) [some v,some t,none,none] G=some (.ok [v,ptD zs],G))(q0:T4 v zs= .tup []->∀G',Ap G G'->Q (.bl false) G')(q1:∀y,VW b n y->T4 v zs= .tup [y]->∀G',Ap G G'->Wp (FU2 [some v,some t,some (.tup [y]),none]) G' (DL.PB Q)):Wp (aK7 [v,t]) G Q:=by
 refine T8 (show Wp (aY5 [some v,some t,none,none]) G _ from ?_)
 rw[fA3]
 refine j9.mpr<| M8 ?_
 refine t7 (et G) rfl ?_
 refine(bA9 hv).mono λx G1 ⟨ex,j⟩=>?_
 rcases aD7 zs hv with ez|⟨y,hy,ez⟩
 · have ex:=ex.trans ez
   subst ex
   exact bC1 (d:=.bl false) (G':=G1) rfl (K8 (q0 ez G1 j))
 · have ex:=ex.trans ez
   subst ex
   refine o7 (X2:= [some v,some t,some (.tup [y]),none]) (G':=G1) rfl ?_
   exact q1 y hy ez G1 j
theorem aO6(hb:b<=1000)(hv:VW b n v)(et:∀G,q10 (b8 0) (q10 (d9 ixD (b8 1) (cE (.int 1))) q11) [some v,some t,none,none] G=some (.ok [v,ptD zs],G))(q0:T4 v zs= .tup []->∀G',Ap G G'->Q (.bl false) G')(q1:∀y,VW b n y->T4 v zs= .tup [y]->∀G',Ap G G'->Wp (DU2 [some v,some t,some (.tup [y]),none]) G' (DL.PB Q)):Wp (aF9 [v,t]) G Q:=by
 refine T8 (show Wp (aS3 [some v,some t,none,none]) G _ from ?_)
 rw[eV9]
 refine j9.mpr<| M8 ?_
 refine t7 (et G) rfl ?_
 refine(aQ3 hb hv).mono λx G1 ⟨ex,j⟩=>?_
 rcases aD7 zs hv with ez|⟨y,hy,ez⟩
 · have ex:=ex.trans ez
   subst ex
   exact bC1 (d:=.bl false) (G':=G1) rfl (K8 (q0 ez G1 j))
 · have ex:=ex.trans ez
   subst ex
   refine o7 (X2:= [some v,some t,some (.tup [y]),none]) (G':=G1) rfl ?_
   exact q1 y hy ez G1 j
end
def dN3(v t:D)(k:Bool):Prop:=(∀G,Wp (aK7 [v,t]) G λx G'=>x= .bl k/\Gr G G')/\∀G,Wp (aF9 [v,t]) G λx G'=>x= .bl k/\Gr G G'
section
variable{b n:Nat}{v:D}{zs:List Str}
theorem T5{y:D}(ez:T4 v zs= .tup [y])(h:T4 v zs= .tup []):False:=by rw[ez]at h;cases h
theorem aH8{x y:D}(ez:T4 v zs= .tup [y])(h:T4 v zs= .tup [x]):x=y:=by rw[ez]at h;cases h;rfl
theorem dW6{k:Nat}{s:D}(hb:b<=50)(hn:n<=60)(hv:VW b n v)(hs:SB k s):∃c,dN3 v (.tup [.str "in",ptD zs,s]) c:=by
 rcases aD7 zs hv with ez|⟨y,hy,ez⟩
 ·refine⟨false,λG=>aO7 (zs:=zs) hv (λ_=>rfl) (λ_ G' j=>⟨rfl,j.gr⟩) λy _ h=>(T5 h ez).elim,λG=>aO6 (zs:=zs) (by omega) hv (λ_=>rfl) (λ_ G' j=>⟨rfl,j.gr⟩) λy _ h=>(T5 h ez).elim⟩
 · refine⟨inP n y s,λG=>aO7 (zs:=zs) hv (λ_=>rfl) (λh=>(T5 ez h).elim) λy' _ h G1 j=>?_,λG=>aO6 (zs:=zs) (by omega) hv (λ_=>rfl) (λh=>(T5 ez h).elim) λy' _ h G1 j=>?_⟩
   · have:=aH8 ez h
     subst this
     refine j9.mpr<| aN3 (G1:=G1) rfl<| Q7 ?_
     refine t7 (as:= [y',s]) rfl rfl ?_
     exact(cV5 (by omega) n k 60 y' s G1 hn hy hs).mono λx G2 ⟨e,j2⟩=>K8 ⟨e,(j.trans j2).gr⟩
   · have:=aH8 ez h
     subst this
     refine j9.mpr<| aN3 (G1:=G1) rfl<| Q7 ?_
     refine t7 (as:= [y',s]) rfl rfl ?_
     exact(cH7 (by omega) n k 60 y' s G1 hn hy hs).mono λx G2 ⟨e,j2⟩=>K8 ⟨e,(j.trans j2).gr⟩
theorem dF3{s:D}(hb:b<=50)(hv:VW b n v):∃c,dN3 v (.tup [.str "wish",ptD zs,s]) c:=by
 rcases aD7 zs hv with ez|⟨y,hy,ez⟩
 ·refine⟨false,λG=>aO7 (zs:=zs) hv (λ_=>rfl) (λ_ G' j=>⟨rfl,j.gr⟩) λy _ h=>(T5 h ez).elim,λG=>aO6 (zs:=zs) (by omega) hv (λ_=>rfl) (λ_ G' j=>⟨rfl,j.gr⟩) λy _ h=>(T5 h ez).elim⟩
 · refine⟨true,λG=>aO7 (zs:=zs) hv (λ_=>rfl) (λh=>(T5 ez h).elim) λy' _ h G1 j=>?_,λG=>aO6 (zs:=zs) (by omega) hv (λ_=>rfl) (λh=>(T5 ez h).elim) λy' _ h G1 j=>?_⟩
   · refine o7 (G':=G1) rfl ?_
     refine o7 (G':=G1) rfl ?_
     refine o7 (G':=G1) rfl ?_
     exact m6 (a:=.rt (.bl true)) (G':=G1) rfl (K8 ⟨rfl,j.gr⟩)
   · refine o7 (G':=G1) rfl ?_
     exact bC1 (d:=.bl true) (G':=G1) rfl (K8 ⟨rfl,j.gr⟩)
def inS(ns:List Str):D->Bool
 | .str z=>inV (.str z) ((ns.map D.str).map toV)
 |_=>false
def inF(ns:List Str):D->Bool
 | .tup [.str z,_]=>inV (.str z) ((ns.map D.str).map toV)
 |_=>false
theorem dZ1{ns:List Str}{ps:List (Str×D)}:(ps.map J3).all (inF ns)= ((ps.map (·.1)).map D.str).all (inS ns):=by
 rw[yH,yH,yH];rfl
theorem dM8{ps:List (Str×D)}{G:DH}{Q:DPP}(hl:ps.length<=1000)(q:Q (.ref G.length) (G++[.lst ((ps.map (·.1)).map D.str)])):Wp (Z7 [.tup (ps.map J3)]) G Q:=by
 have bg:=big
 refine T8 (show Wp (aR5 [some (.tup (ps.map J3))]) G _ from ?_)
 have hc:M6 (q13 0) W0 (d9 ixD (b8 0) (cE (.int 0))) (λ_=>true) (ps.map J3) [none] G=some (.ok ((ps.map (·.1)).map D.str),G):=by
  have d1:((ps.map J3).map λd=>D.str (bH5 d))= (ps.map (·.1)).map D.str:=by rw[jc,jc];rfl
  rw[<-d1]
  refine Z0 (I:=λO=>O.length=1) rfl _ _ rfl λd hd O WY=>?_
  obtain⟨p,_,rfl⟩:=zL.mp hd
  match O,WY with
  |[u],_=>exact⟨[some (J3 p)],rfl,rfl,rfl,rfl⟩
 refine Q7 ?_
 refine aI3 (l:=ps.map J3) rfl (by rw[zl];omega) ?_
 exact m6 hc (K8 q)
theorem dD1{ns:List Str}(hb:b<=50)(hv:VW b n v):∃c,dN3 v (.tup [.str "only",ptD zs,ptD ns]) c:=by
 have bg:=big
 rcases aD7 zs hv with ez|⟨y,hy,ez⟩
 ·refine⟨false,λG=>aO7 (zs:=zs) hv (λ_=>rfl) (λ_ G' j=>⟨rfl,j.gr⟩) λy _ h=>(T5 h ez).elim,λG=>aO6 (zs:=zs) (by omega) hv (λ_=>rfl) (λ_ G' j=>⟨rfl,j.gr⟩) λy _ h=>(T5 h ez).elim⟩
 rcases c:dQ6 y with _|_
 · refine⟨false,λG=>aO7 (zs:=zs) hv (λ_=>rfl) (λh=>(T5 ez h).elim) λy' _ h G1 j=>?_,λG=>aO6 (zs:=zs) (by omega) hv (λ_=>rfl) (λh=>(T5 ez h).elim) λy' _ h G1 j=>?_⟩
   · have:=aH8 ez h
     subst this
     refine o7 (G':=G1) rfl ?_
     refine j9.mpr<| aN3 (G1:=G1) rfl<| Q7 ?_
     refine t7 (as:= [y',ptD ns]) rfl rfl ?_
     refine T8 (show Wp (aS2 [some y',some (ptD ns)]) G1 _ from ?_)
     refine Q7<| aE7.mpr ?_
     refine t7 (as:= [y']) rfl rfl ?_
     refine(aR1 hy).mono λx G2 ⟨ex,eg⟩=>?_
     subst ex eg
     rw[c]
     refine K4.mpr ?_
     rw[if_neg (by decide)]
     exact K8 (K8 ⟨rfl,j.gr⟩)
   · have:=aH8 ez h
     subst this
     refine o7 (G':=G1) rfl ?_
     refine o7 (G':=G1) rfl ?_
     refine j9.mpr<| aN3 (G1:=G1) rfl<| j9.mpr<| aN1<| cO6<| aO1.mpr<| U9.mpr ?_
     refine aQ7 (as:= [y',.ty "tuple"]) (G1:=G1) rfl ?_
     refine(bE9 hy.there).mpr<| K4.mpr ⟨λ_=>⟨λ_=>?_,λh=>(nomatch h)⟩,λct=>R5 ?_⟩
     ·exact m6 (a:=.rt (.bl false)) (G':=G1) rfl (K8 ⟨rfl,j.gr⟩)
     · cases n with
       |zero=>exact hy.elim
       |succ n=>
         rcases hy with⟨i,rfl⟩|⟨k,rfl⟩|⟨z,rfl,hz⟩|⟨l,rfl,hl,hw⟩|⟨ps,rfl,hl,hn,hw⟩
         ·cases ct
         ·cases ct
         ·cases ct
         · refine P0 (x:=.str U8) (y:=.str W4) (G1:=G1) (G2:=G1) rfl rfl ?_
           refine bP6.mpr ⟨false,rfl,_,rfl,λ_=>?_,λh=>(nomatch h)⟩
           exact m6 (a:=.rt (.bl false)) (G':=G1) rfl (K8 ⟨rfl,j.gr⟩)
         ·exact absurd c (by show ¬(W4==W4)=false;decide)
 · obtain⟨ps,rfl,hpl,hnd,hnm⟩:=dI9 hy c
   refine⟨((ps.map (·.1)).map D.str).all (inS ns),λG=>aO7 (zs:=zs) hv (λ_=>rfl) (λh=>(T5 ez h).elim) λy' _ h G1 j=>?_,λG=>aO6 (zs:=zs) (by omega) hv (λ_=>rfl) (λh=>(T5 ez h).elim) λy' _ h G1 j=>?_⟩
   · have:=aH8 ez h
     subst this
     refine o7 (G':=G1) rfl ?_
     refine j9.mpr<| aN3 (G1:=G1) rfl<| Q7 ?_
     refine t7 (as:= [.tup [.str W4,.tup (ps.map J3)],ptD ns]) rfl rfl ?_
     refine T8 (show Wp (aS2 [some (.tup [.str W4,.tup (ps.map J3)]),some (ptD ns)]) G1 _ from ?_)
     refine Q7<| aE7.mpr ?_
     refine t7 (as:= [.tup [.str W4,.tup (ps.map J3)]]) rfl rfl ?_
     refine(aR1 hy).mono λx G2 ⟨ex,eg⟩=>?_
     subst ex eg
     rw[c]
     refine K4.mpr ?_
     rw[if_pos rfl]
     refine T7<| J5<| wp_comp.mpr<| wp_itW.mpr ?_
     refine t7 (as:= [.tup (ps.map J3)]) rfl rfl ?_
     refine dM8 (by omega) ?_
     refine(bG1 o4).mpr ⟨by simp only[zl];omega,?_⟩
     refine(aQ0 (λG'=>Ap (G2++[DO.lst ((ps.map (·.1)).map D.str)]) G') (λO=>∃u,O= [u,some (ptD ns)]) (λd=>.bl (inS ns d)) (λG' j=>by simp[ckO,j.at o4]) _ _ _ ⟨none,rfl⟩ Ap.refl ?_).mono ?_
     · rintro d hd O G3 ⟨u,rfl⟩ j3
       obtain⟨z,_,rfl⟩:=zL.mp hd
       refine u0.mpr ⟨rfl,⟨_,rfl⟩,aP7.mpr ⟨rfl,rfl,?_⟩⟩
       refine P0 (x:=.str z) (y:=ptD ns) (G1:=G3) (G2:=G3) rfl rfl ?_
       exact(bJ9 (by rw[aV2];rfl)).mpr ⟨j3,rfl⟩
     · rintro _ G3 ⟨j3,rfl⟩
       refine m7.mpr<| (cB7 (f:=inS ns) o4).mpr ?_
       exact K8 (K8 ⟨rfl,((j.trans Ap.one).trans (j3.trans Ap.one)).gr⟩)
   · have:=aH8 ez h
     subst this
     refine o7 (G':=G1) rfl ?_
     refine o7 (G':=G1) rfl ?_
     refine j9.mpr<| aN3 (G1:=G1) rfl ?_
     refine o7 (G':=G1) rfl ?_
     refine Q7<| eq0 (items:=ps.map J3) (ck:=λ_=>true) (λO=>∃a b,O= [a,b,some (.tup [.str "only",ptD zs,ptD ns])]) (λd=> !inF ns d) rfl (λ_ _=>rfl) (by rw[zl];omega) ⟨_,_,rfl⟩ ?_ ?_
     · rintro d hd O G3 ⟨a,b,rfl⟩ j3
       obtain⟨p,_,rfl⟩:=zL.mp hd
       refine m6 (a:= [some (.str p.1),some p.2,some (.tup [.str "only",ptD zs,ptD ns])]) (G':=G3) rfl ⟨rfl,⟨_,_,rfl⟩,R5 ?_⟩
       refine P0 (x:=.str p.1) (y:=ptD ns) (G1:=G3) (G2:=G3) rfl rfl ?_
       have ei:inB (.str p.1) (ptD ns) G3=some (inV (.str p.1) ((ns.map D.str).map toV)):=by
        show (if (W9 (.str p.1)&&(ns.map D.str).all W9)=true then some (inV (toV (.str p.1)) ((ns.map D.str).map toV))else none)=_
        rw[aV2];rfl
       exact bQ6.mpr ⟨_,ei,_,rfl,rfl,Ap.refl,_,rfl⟩
     · intro G3 j3
       rw[bE5,dZ1]
       exact K8 ⟨rfl,(j.trans j3).gr⟩
end
theorem cI0{d:D}{G:DH}{Q:DPP}(h:aJ9 G d)(q:Q (.bl (aM1 d)) G):Wp (aG3 [d]) G Q:=by
 refine T8 (show Wp (bB3 [some d]) G _ from ?_)
 refine Q7<| aE7.mpr ?_
 refine aQ7 (as:= [d,.ty "int"]) (G1:=G) rfl ?_
 refine(cP7 h).mpr<| K4.mpr ?_
 have e:aM1 d= (aB4 d&&!bH3 d):=by cases d<;>rfl
 rw[e]at q
 cases c:aB4 d
 ·rw[c]at q;exact q
 · rw[c]at q
   refine cZ6.mpr ?_
   refine aQ7 (as:= [d,.ty "bool"]) (G1:=G) rfl ?_
   exact(cG1 h).mpr<| cU6.mpr q
noncomputable def apB(y x:D)(i:Int):Bool:=match y,x with
 | .int a,.int c=>decide (a=c+i)
 |_,_=>false
open Classical in
def saB(y x:D)(i:Int):Bool:=if i=0 then decide (y=x)else apB y x i
open Classical in
theorem dS8(x y:D):decide (x=y)=decide (y=x):=by
 by_cases q:x=y
 ·rw[decide_eq_true q,decide_eq_true q.symm]
 ·rw[decide_eq_false q,decide_eq_false λz=>q z.symm]
section
variable{b n:Nat}{v:D}{zs:List Str}
theorem cF2{y:D}(h:aM1 y=true):∃i,y= .int i:=by cases y<;>first|exact⟨_,rfl⟩|cases h
theorem dN8{y x:D}{i:Int}(h:aM1 y=false\/aM1 x=false):apB y x i=false:=by
 rcases h with h|h
 ·cases y<;>first|rfl|cases h
 ·cases x<;>first|(cases y<;>rfl)|cases h
theorem eT6{y x:D}{i:Int}{G:DH}(hv:Vd b n)(hy:VW b n y)(hx:VW b n x):Wp (aI8 [y,x,.int i]) G λz G'=>z= .bl (saB y x i)/\Gr G G':=by
 refine T8 (show Wp (aV1 [some y,some x,some (.int i)]) G _ from ?_)
 refine j9.mpr<| aN1<| R5 ?_
 refine P0 (x:=.int i) (y:=.int 0) (G1:=G) (G2:=G) rfl rfl ?_
 refine aA4.mpr ⟨_,rfl,λc=>?_,λc=>v6.mpr ?_⟩
 · have c:i=0:=of_decide_eq_true c
   refine Q7 ?_
   refine t7 (as:= [y,x]) rfl rfl ?_
   refine(eC8 (hy.vl hv) (hx.vl hv)).mono λz G1 ⟨e,g⟩=>K8 ⟨?_,g⟩
   rw[e];unfold saB;rw[if_pos c]
 · have c:i≠0:=of_decide_eq_false c
   have es:saB y x i=apB y x i:=by unfold saB;rw[if_neg c]
   rw[es]
   refine Q7<| aE7.mpr ?_
   refine t7 (as:= [y]) rfl rfl ?_
   refine cI0 hy.there ?_
   refine K4.mpr ?_
   rcases c1:aM1 y with _|_
   · rw[if_neg (by decide)]
     exact K8 ⟨by rw[dN8 (.inl c1)],Gr.refl⟩
   · rw[if_pos rfl]
     refine aE7.mpr ?_
     refine t7 (as:= [x]) rfl rfl ?_
     refine cI0 hx.there ?_
     refine K4.mpr ?_
     rcases c2:aM1 x with _|_
     · rw[if_neg (by decide)]
       exact K8 ⟨by rw[dN8 (.inr c2)],Gr.refl⟩
     · rw[if_pos rfl]
       obtain⟨a,rfl⟩:=cF2 c1
       obtain⟨d,rfl⟩:=cF2 c2
       exact m6 (a:=.bl (decide (a=d+i))) (G':=G) rfl (K8 ⟨rfl,Gr.refl⟩)
theorem dB1{us:List Str}{i:Int}(hv':Vd b n)(hv:VW b n v):∃c,dN3 v (.tup [.str "same",ptD zs,ptD us,.int i]) c:=by
 have bg:=big
 have hb:b<=50/\4<=b/\n<=6:=by rcases hv' with⟨rfl,hn⟩|⟨h1,h2,h3⟩<;>omega
 rcases aD7 zs hv with ez|⟨y,hy,ez⟩
 ·refine⟨false,λG=>aO7 (zs:=zs) hv (λ_=>rfl) (λ_ G' j=>⟨rfl,j.gr⟩) λy _ h=>(T5 h ez).elim,λG=>aO6 (zs:=zs) (by omega) hv (λ_=>rfl) (λ_ G' j=>⟨rfl,j.gr⟩) λy _ h=>(T5 h ez).elim⟩
 rcases aD7 us hv with eu|⟨x,hx,eu⟩
 · refine⟨false,λG=>aO7 (zs:=zs) hv (λ_=>rfl) (λh=>(T5 ez h).elim) λy' _ h G1 j=>?_,λG=>aO6 (zs:=zs) (by omega) hv (λ_=>rfl) (λh=>(T5 ez h).elim) λy' _ h G1 j=>?_⟩
   · refine o7 (G':=G1) rfl ?_
     refine o7 (G':=G1) rfl ?_
     refine j9.mpr<| aN3 (G1:=G1) rfl<| j9.mpr<| M8 ?_
     refine t7 (as:= [v,ptD us]) rfl rfl ?_
     refine(bA9 hv).mono λz G2 ⟨e,j2⟩=>?_
     have e:=e.trans eu
     subst e
     refine Q7<| aE7.mpr ?_
     refine m6 (a:=.bl false) (G':=G2) rfl ?_
     refine K4.mpr ?_
     rw[if_neg (by decide)]
     exact K8 ⟨rfl,(j.trans j2).gr⟩
   · refine o7 (G':=G1) rfl ?_
     refine o7 (G':=G1) rfl ?_
     refine o7 (G':=G1) rfl ?_
     refine j9.mpr<| M8 ?_
     refine t7 (as:= [v,ptD us]) rfl rfl ?_
     refine(aQ3 (by omega) hv).mono λz G2 ⟨e,j2⟩=>?_
     have e:=e.trans eu
     subst e
     exact bC1 (d:=.bl false) (G':=G2) rfl (K8 ⟨rfl,(j.trans j2).gr⟩)
 refine⟨saB y x i,λG=>aO7 (zs:=zs) hv (λ_=>rfl) (λh=>(T5 ez h).elim) λy' _ h G1 j=>?_,λG=>aO6 (zs:=zs) (by omega) hv (λ_=>rfl) (λh=>(T5 ez h).elim) λy' _ h G1 j=>?_⟩
 · have:=aH8 ez h
   subst this
   refine o7 (G':=G1) rfl ?_
   refine o7 (G':=G1) rfl ?_
   refine j9.mpr<| aN3 (G1:=G1) rfl<| j9.mpr<| M8 ?_
   refine t7 (as:= [v,ptD us]) rfl rfl ?_
   refine(bA9 hv).mono λz G2 ⟨e,j2⟩=>?_
   have e:=e.trans eu
   subst e
   refine Q7<| aE7.mpr ?_
   refine m6 (a:=.bl true) (G':=G2) rfl ?_
   refine K4.mpr ?_
   rw[if_pos rfl]
   refine t7 (as:= [y',x,.int i]) rfl rfl ?_
   exact(eT6 hv' hy hx).mono λz G3 ⟨e,g⟩=>K8 ⟨e,(j.trans j2).gr.trans g⟩
 · have:=aH8 ez h
   subst this
   refine o7 (G':=G1) rfl ?_
   refine o7 (G':=G1) rfl ?_
   refine o7 (G':=G1) rfl ?_
   refine j9.mpr<| M8 ?_
   refine t7 (as:= [v,ptD us]) rfl rfl ?_
   refine(aQ3 (by omega) hv).mono λz G2 ⟨e,j2⟩=>?_
   have e:=e.trans eu
   subst e
   have jj:=(j.trans j2).gr
   refine o7 (X2:= [some v,some (.tup [.str "same",ptD zs,ptD us,.int i]),some (.tup [y']),some (.tup [x])]) (G':=G2) rfl ?_
   refine j9.mpr<| aN1<| R5 ?_
   refine P0 (x:=.int i) (y:=.int 0) (G1:=G2) (G2:=G2) rfl rfl ?_
   refine aA4.mpr ⟨_,rfl,λc=>?_,λc=>v6.mpr ?_⟩
   · have c:i=0:=of_decide_eq_true c
     refine Q7 ?_
     refine t7 (as:= [x,y']) rfl rfl ?_
     refine(cJ3 ((hx.pd (by omega)).mono (show 3*n<=60 by omega)) ((hy.pd (by omega)).mono (show 3*n<=60 by omega))).mono λz G3 ⟨e,g⟩=>K8 ⟨?_,g▸jj⟩
     rw[e];unfold saB;rw[if_pos c]
     rw[dS8]
   · have c:i≠0:=of_decide_eq_false c
     have es:saB y' x i=apB y' x i:=by unfold saB;rw[if_neg c]
     rw[es]
     have no:aM1 y'=false\/aM1 x=false->Wp (t6 (cE (.bl false)) [some v,some (.tup [.str "same",ptD zs,ptD us,.int i]),some (.tup [y']),some (.tup [x])]) G2 λfl G1=>match fl with
      | .nx X2=>Wp (DUh X2) G1 (DL.PB λx_1 G'=>x_1= .bl (apB y' x i)/\Gr G G')
      |r=>DL.PB (λx_1 G'=>x_1= .bl (apB y' x i)/\Gr G G') r G1:=λq=>by
      refine m6 (a:=.rt (.bl false)) (G':=G2) rfl ?_
      exact K8 ⟨by rw[dN8 q],jj⟩
     refine j9.mpr<| aN1<| cO6<| aO1.mpr<| U9.mpr ?_
     refine t7 (as:= [y']) rfl rfl ?_
     refine bE1 hy.there ?_
     refine K4.mpr ⟨λc1=>⟨λ_=>no (.inl (by simpa using c1)),λh=>(nomatch h)⟩,λc1=>?_⟩
     refine aO1.mpr<| U9.mpr ?_
     refine t7 (as:= [x]) rfl rfl ?_
     refine bE1 hx.there ?_
     refine K4.mpr ⟨λc2=>no (.inr (by simpa using c2)),λc2=>v6.mpr ?_⟩
     obtain⟨a,rfl⟩:=cF2 (y:=y') (by simpa using c1)
     obtain⟨d,rfl⟩:=cF2 (y:=x) (by simpa using c2)
     exact m6 (a:=.rt (.bl (decide (a=d+i)))) (G':=G2) rfl (K8 ⟨rfl,jj⟩)
theorem dZ0{t:D}(hv':Vd b n)(hv:VW b n v)(ht:TL t):∃c,dN3 v t c:=by
 have hb:b<=50/\4<=b/\n<=6:=by rcases hv' with⟨rfl,hn⟩|⟨h1,h2,h3⟩<;>omega
 rcases ht with⟨k,zs,s,h⟩|⟨zs,s⟩|⟨zs,ns⟩|⟨zs,ys,i⟩
 ·exact dW6 hb.1 (by omega) hv h
 ·exact dF3 hb.1 hv
 ·exact dD1 hb.1 hv
 ·exact dB1 hv' hv
end
theorem fF7:cU5=m5 (t8 (q12 (fnX 1 aA0) (q10 (b8 0) q11)) (q13 1)) (m5 (t8 (q12 (fnX 1 aB6) (q10 (b8 1) q11)) (q13 2)) (m5 (t8 (cE (.int 0)) (q13 3)) (m5 (aR7 MT MB) (t6 (cE (.bl true)))))):=rfl
theorem Gr.fd{r:Nat}{G G':DH}(h:Dr G r)(g:Gr G G'):Fd r G G':=⟨g.1,λi _ hi=>g.2 i hi,by
 obtain⟨ns,e⟩:=h
 exact⟨ns,g.at e⟩⟩
section
variable{s:Option D}{r p:Nat}{G:DH}{ds:List D}
structure PL(r p:Nat)(ds:List D)(G:DH):Prop where
 dr:Dr G r
 ne:p≠r
 at':G[p]? =some (.lst ds)
 sd:∀d∈ds,SD d
 lo:0<ds.length
 hi:ds.length<=50
theorem PL.fd{G G':DH}(h:PL r p ds G)(f:Fd r G G'):PL r p ds G':=⟨f.2.2,h.ne,f.at h.ne h.at',h.sd,h.lo,h.hi⟩
theorem fE1{k u4 u5 u6 u7:Option D}(h:PL r p ds G):Wp (M1 [s,some (.ref r),some (.ref p),k,u4,u5,u6,u7]) G λfl G'=>Fd r G G'/\∃b n v,Vd b n/\aJ0 b G' p/\VW b n v/\fl= .nx [s,some (.ref r),some (.ref p),k,some v,u5,u6,u7]:=by
 have h4:=h.lo
 refine M8<| T7<| N5 (x:=.ref r) (G1:=G) rfl<| N5 (x:=.ref p) (G1:=G) rfl<| J5<| bin_w ?_
 refine m6 (a:=.ref G.length) (G':=G++[.lst [.int 5,.int 2]]) rfl ?_
 refine T7<| J5<| bin_w ?_
 refine aQ7 (as:= [.ref p]) rfl ?_
 refine(aP3 (U7 h.at')).mpr ?_
 refine m6 (a:=.int 4) rfl ?_
 refine aW8.mpr<| m7.mpr<| eJ3.mpr ?_
 have hd:=h.dr.app (t:= [DO.lst [.int 5,.int 2]])
 have h1:=h.fd (Fd.app (t:= [DO.lst [.int 5,.int 2]]) h.dr)
 rw[bJ1 o4]
 have key:∀(b:Nat) (m:Nat) (deep:Int),Vd b (m+1)->ds.length<=b->deep-1<=m-1->1<=m->Wp (aH4 [.ref r,.ref p,.int deep]) (G++[DO.lst [.int 5,.int 2]]) λx G'=>Fd r G G'/\∃b n v,Vd b n/\aJ0 b G' p/\VW b n v/\Fl.nx [s,some (.ref r),some (.ref p),k,some x,u5,u6,u7]= .nx [s,some (.ref r),some (.ref p),k,some v,u5,u6,u7]:=by
  intro b m deep hv hl hdp hm
  have hb:b<=50/\4<=b/\m<=5:=by rcases hv with⟨rfl,hn⟩|⟨h1,h2,h3⟩<;>omega
  have pl:aJ0 b (G++[DO.lst [.int 5,.int 2]]) p:=⟨ds,h1.at',h.sd,by omega,hl⟩
  refine(bY4 (b:=b) (m:=m) (λG d pl=>?_) hd h.ne pl hb.1).mono λx G1 ⟨vx,f1⟩=>⟨(Fd.app h.dr).trans f1,b,m+1,x,hv,pl.fd h.ne f1,vx,rfl⟩
  have:=cF0 ⟨hb.2.1,hb.1⟩ h.ne (m-1) 60 (deep-1) G (by omega) (by omega) d pl
  rwa [Nat.sub_add_cancel hm]at this
 by_cases c:(ds.length:Int)>4
 · refine⟨.int 2,by rw[decide_eq_true c];rfl,m7.mpr<| J4.mpr ⟨rfl,?_⟩⟩
   exact key ds.length 2 2 (.inr ⟨h.hi,by omega,by omega⟩) (zo _) (by omega) (by omega)
 · refine⟨.int 5,by rw[decide_eq_false c];rfl,m7.mpr<| J4.mpr ⟨rfl,?_⟩⟩
   exact key 4 5 5 (.inl ⟨rfl,by omega⟩) (by omega) (by omega) (by omega)
theorem fD8{k u5 u6 u7:Option D}{b n:Nat}{v:D}(hv':Vd b n)(hd:Dr G r)(hp:p≠r)(pl:aJ0 b G p)(hv:VW b n v):Wp (M2 [s,some (.ref r),some (.ref p),k,some v,u5,u6,u7]) G λfl G'=>Fd r G G'/\∃u6 u7,fl= .nx [s,some (.ref r),some (.ref p),k,some v,u5,u6,u7]:=by
 refine j9.mpr<| M8 ?_
 refine t7 (as:= [.ref r,v,.ref p]) rfl rfl ?_
 refine(cO4 hv' hd hp pl hv).mono λt G1 ⟨ht,f1⟩=>?_
 obtain⟨c,hf,hq⟩:=dZ0 hv' hv ht
 refine j9.mpr<| M8 ?_
 refine t7 (as:= [v,t]) rfl rfl ?_
 refine(hf G1).mono λx G2 ⟨ex,g2⟩=>?_
 subst ex
 refine aN1<| cO6 ?_
 refine m6 (a:=false) (G':=G2) rfl ⟨λh=>(nomatch h),λ_=>R5<| bin_w ?_⟩
 refine m6 (a:=.bl c) (G':=G2) rfl ?_
 refine t7 (as:= [v,t]) rfl rfl ?_
 refine(hq G2).mono λx G3 ⟨ex,g3⟩=>?_
 subst ex
 refine fD0.mpr ?_
 rw[beq_self_eq_true]
 exact⟨_,rfl,λh=>(nomatch h),λ_=>v6.mpr ⟨f1.trans (Gr.fd f1.2.2 (g2.trans g3)),_,_,rfl⟩⟩
theorem cW0{k:Option D}{b n:Nat}{v:D}(hv':Vd b n)(hp:p≠r)(hv:VW b n v):∀(items:List D) (u5 u6 u7:Option D) (G:DH),Dr G r->aJ0 b G p->
 Wp (aI0 (q13 5) M2 (λ_=>true) items [s,some (.ref r),some (.ref p),k,some v,u5,u6,u7]) G λfl G'=>Fd r G G'/\∃u5 u6 u7,fl= .nx [s,some (.ref r),some (.ref p),k,some v,u5,u6,u7]
 |[],u5,u6,u7,G,hd,pl=>aK2.mpr ⟨rfl,Fd.refl hd,_,_,_,rfl⟩
 |d::t,u5,u6,u7,G,hd,pl=>by
   refine aK4.mpr ⟨rfl,u0.mpr ?_⟩
   refine(fD8 hv' hd hp pl hv).mono λfl G1 ⟨f1,a,c,e⟩=>?_
   subst e
   exact(cW0 hv' hp hv t _ _ _ G1 f1.2.2 (pl.fd hp f1)).mono λfl G2 ⟨f2,q⟩=>⟨f1.trans f2,q⟩
theorem eV8{k:Int}{u4 u5 u6 u7:Option D}(h:PL r p ds G):Wp (MB [s,some (.ref r),some (.ref p),some (.int k),u4,u5,u6,u7]) G λfl G'=>PL r p ds G'/\∃u4 u5 u6 u7,fl= .nx [s,some (.ref r),some (.ref p),some (.int (k+1)),u4,u5,u6,u7]:=by
 refine j9.mpr<| (fE1 h).mono λfl G1 ⟨f1,b,n,v,hv',pl,hv,e⟩=>?_
 subst e
 refine j9.mpr<| aO8.mpr<| rng1.mpr ?_
 refine m6 (a:= [.int 4]) (G':=G1) rfl ?_
 refine(rng1_int ⟨by decide,by decide⟩).mpr ?_
 refine(cW0 hv' h.ne hv _ _ _ _ G1 f1.2.2 pl).mono λfl G2 ⟨f2,a,c,d,e⟩=>?_
 subst e
 exact m6 (a:=.nx [s,some (.ref r),some (.ref p),some (.int (k+1)),some v,a,c,d]) (G':=G2) rfl ⟨h.fd (f1.trans f2),_,_,_,_,rfl⟩
theorem eF5{k:Nat}{u4 u5 u6 u7:Option D}(d:Dr G r):Wp (MT [s,some (.ref r),some (.ref p),some (.int k),u4,u5,u6,u7]) G λt G'=>Ap G G'/\(8<=k->t=false):=by
 unfold MT
 simp only[cR6,bF5,N7,w5,aJ5,m7,Q9,o5,aA4,aB0,zc,ze,zd,exists_eq_left']
 by_cases c:(k:Int)=0
 · simp only[c,decide_true,if_true]
   exact⟨Ap.refl,λz=>by omega⟩
 · simp only[c,decide_false,zC,if_false]
   obtain⟨ns,e⟩:=d
   refine⟨sz,?_⟩
   rw[dK7 (U7 e) o4]
   refine⟨_,rfl,?_⟩
   split
   · rw[aM6]
     exact⟨_,rfl,Ap.one,λz=>decide_eq_false (by omega)⟩
   ·exact⟨Ap.one,λ_=>trivial⟩
theorem bP1:∀(j k:Nat) (u4 u5 u6 u7:Option D) (G:DH),k+j=8->PL r p ds G->
 Wp (X5 (j+1) MT MB [s,some (.ref r),some (.ref p),some (.int k),u4,u5,u6,u7]) G λfl G'=>∃ O,fl= .nx O
 |0,k,u4,u5,u6,u7,G,hk,h=>by
   refine aQ5.mpr<| (eF5 h.dr).mono λt G1 ⟨g1,ht⟩=>?_
   have:=ht (by omega)
   subst this
   exact⟨_,rfl⟩
 |j+1,k,u4,u5,u6,u7,G,hk,h=>by
   refine aQ5.mpr<| (eF5 h.dr).mono λt G1 ⟨g1,ht⟩=>?_
   split
   · refine(eV8 (h.fd (g1.fd h.dr))).mono λfl G2 ⟨h2,a,b,c,d,e⟩=>?_
     subst e
     exact bP1 j (k+1) a b c d G2 (by omega) h2
   ·exact⟨_,rfl⟩
end
theorem dW0(ns:List Int)(hn:ns.length<=63):Wp (cK3 [.ref 0]) [.rol (ns.map D.int)] λd _=>d= .bl true:=by
 refine T8 (show Wp (cU5 [some (.ref 0),none,none,none,none,none,none,none]) _ _ from ?_)
 rw[fF7]
 have e0:([DO.rol (ns.map D.int)]:DH)[0]? =some (.rol (ns.map D.int)):=rfl
 generalize hG:([DO.rol (ns.map D.int)]:DH)=G at *
 refine j9.mpr<| M8 ?_
 refine t7 (as:= [.ref 0]) rfl rfl ?_
 refine(dO0 e0 hn).mono λx G1 ⟨r,ex,d1⟩=>?_
 subst ex
 refine j9.mpr<| M8 ?_
 refine t7 (as:= [.ref r]) rfl rfl ?_
 refine(eC7 d1).mono λx G2 ⟨p,ex,hp,⟨ds,e,hds,h0,h50⟩,f2⟩=>?_
 subst ex
 refine o7 (G':=G2) rfl ?_
 refine j9.mpr<| bR3 (n:=9) ?_
 refine(bP1 (ds:=ds) 8 0 _ _ _ _ G2 rfl ⟨f2.2.2,hp,e,hds,h0,h50⟩).mono λfl G3 ⟨O,ef⟩=>?_
 subst ef
 exact m6 (a:=.rt (.bl true)) (G':=G3) rfl (K8 rfl)
theorem pure_law:∀ns:List Int,ns.length<=63->∃G',cK3 [.ref 0] [.rol (ns.map D.int)]=some (.ok (.bl true),G'):=λns hn=>by
 obtain⟨d,G',e,rfl⟩:=dW0 ns hn
 exact⟨G',e⟩
end W
namespace PySem.W.Fast
def tw15059289240893649202:=()
def tw15228752152230999671:=()
def tw13512937731107528015:=()
def tw10991397230958164258:=()
def tw4748148538636780762:=()
def tw11951845948868584638:=()
def tw5998707536306622547:=()
def tw13238922577239905868:=()
def tw10739640275366826541:=()
def tw13655096058861579175:=()
def tw4878131594675659414:=()
def tw4369417485645752347:=()
def tw13047329406123471420:=()
def tw17997977604569421889:=()
def tw6919258662795080706:=()
def tw6262218101734650856:=()
def tw504457685241204841:=()
def tw14063521388376819838:=()
def tw10532930347028098204:=()
def tw2004995062696912295:=()
def tw398333891065856231:=()
def tw15586343730018435800:=()
def tw1519389297982163248:=()
def tw15072354462269570066:=()
def tw6529440309978568340:=()
def tw10951409813618141622:=()
def tw11956039053728678838:=()
def tw134518514205173108:=()
def tw2668096541535860053:=()
def tw5158523616149383341:=()
def tw5584377964638263074:=()
def tw3114091924282344504:=()
def tw4099960144148997712:=()
def tw13375765854235157766:=()
def tw12944151045428827804:=()
def tw11003541482812583879:=()
def tw2513985257035568962:=()
def tw8465209661092517076:=()
def tw8398554866711319266:=()
def tw15778883275035261629:=()
def tw8141046111331230900:=()
def tw17293769208653758365:=()
def tw11950716018689947361:=()
def tw13762497929207065133:=()
end PySem.W.Fast
set_option maxRecDepth 100000 in
set_option maxHeartbeats 0 in
theorem PySem.Challenge.cw_allmeet_k51_whole_what_is_fulfilled_holds : PySem.Challenge.rw_allmeet_k51_whole_what_is_fulfilled.Holds := by
 w_on;o_law;k_head;(case hw=>w_witness2)
 k_fill
 refine W.walk (l := PySem.Challenge.rw_allmeet_k51_whole_what_is_fulfilled) rfl rfl (fun w h Y => PySem.W.kIn_of Y) ?F
 case F=>
  intro w mg fa h KX G hmg
  refine' W.all_mk KX G hmg ?_ ?_ ?_ ?_ ?_ ?_ ?_ ?_ ?_ ?_ ?_ ?_ ?_ ?_ ?_ ?_ ?_ ?_ ?_ ?_ ?_ ?_ ?_ ?_ ?_ ?_ ?_ ?_ ?_ ?_ ?_ ?_ ?_ ?_ ?_ ?_ ?_ ?_ ?_ ?_ ?_ ?_ ?_ ?g_ANY ?z W.pure_law
  (case g_ANY=>k_is)
  (case z=>intro b hb;simp only[DL.bltL,zw,zy,or_false]at hb;rcases hb with rfl|rfl|rfl|rfl|rfl|rfl|rfl|rfl|rfl|rfl|rfl|rfl|rfl|rfl|rfl|rfl|rfl|rfl|rfl|rfl<;>k_is)
  all_goals (refine' DL.FH.of ?a ?l ?e ?k;(case a=>k_is);(case l=>k_is);(case e=>k_is);(case k=>k_is))
