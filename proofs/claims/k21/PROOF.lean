import PyProof.Rows.All
import Wide.All
import OpenK.AllK
import Wide.FinOn
import Lean
import PyProof.EqAt
import PyProof.EqKinds
import PyProof.TupleCall
import PyProof.NeKinds
import PyProof.ZipIter
import PyProof.EnumFor
import PyProof.EnumMake
import PyProof.EnumStmt
import PyProof.Draws
import KE.KDictSum
import PyProof.Rows.SortStr
import PyProof.StrWalks
import KE.KRevIter
import KE.KDictList
import PyProof.CollectIter
import PyProof.SliceStr2
import PyProof.StrBlockI
import KE.KListMore
import PyProof.DictWalks
import PyProof.TupleOfSeq
import PyProof.AttrMissHeap
import PyProof.AttrMissSeq
import KE.KDictOf
import PyProof.WalksMore
import KE.KSortTup
import KE.KSortKey
import PyProof.Rows.StrJoin2
import PyProof.ListMulRoad
import PyProof.FactsAll.tuple_2
import PyProof.Rows.SortShell
import PyProof.WalkInts
import KE.KMinBuiltin
import KE.KIntText
import PyProof.CallStr
import PyProof.PureStr
import PyProof.Rows.SetFrom
import KE.KMinKey
import PyProof.DictItems
import PyProof.DictItemsLoops
import PyProof.ReprRoads
import PyProof.WalksS
import PyProof.MeetsSeq2
import PySem.Challenge.RW_allmeet_k21_meets_of_lists
set_option Elab.async false
set_option linter.all false
set_option maxRecDepth 100000
open PySem renaming wpAny_bind→za,Value→zk,sizeLine→zo,wpAny_pure→zp,Shared→zv,wpAny→zw,model→zE,compareOp→zO,starEach→zP,bootBuiltins→zX,Program→zZ,World→jg,mainGlobals→jq,Around→jr,wpAny_loadPart'→js,wpAny_mono→jz,wpAny_call_entry→jE,binaryOp→jH,wpAny_holding→jI,wpAny_seqItems→jR,wpAny_Call_Name_kw→jT,wpAny_field→jU,wpAny_callSpecial?_slot→jV,wpAny_truthy_bool→yd,Builtin→yj,codeAny_builtin→yr,IsPair→yz,sizeLine_eq→yA,plainId_quiet→yB,sysModules→yC,mem_of_lookup→yH,wpAny_newObj_type→yI,foldedSetIterable→yJ,sliceBounds→yZ,wpAny_setField_rec→xc,backTo→xf,assignEach→xg,cLine→xk,FuncData→xl,builtinLookup_eq_fast→xn,wpAny_pyIter_list→xo,wpAny_letGo→xw,attributeBase→xB,wpAny_ite_split→xC,letOwnedTupleGo→xD,typeIs_int→xJ,call_meets→xK,wpAny_typeOf→xP,isSubtype_type→xQ,wpAny_isInstance→xZ,wpAny_askSetting→Za,wpAny_newList→Ze,strIterType→Zf,typeLookup_type→Zm,IsZip→Zp,wpAny_rule→Zs,pyNext→Zt,codeAny→ZC,wpAny_standAt→ZH,codeAny_mono→Yb,assign→Yc,BindsTo→Ye,wpAny_updateSeq→Yj,wpAny_ite_false→Yk,wpAny_execs_nil→Yl,wpAny_updateSeq_pair→Yx,wpAny_tryCatch→Yy,keywordEach→Yz,holding→YA,callerA→YB,wpAny_onRaise→YN,wpAny_attempt→YO,behindInMarks→YQ,MulOk→YS,tupleKind_room_in1→YZ,rawInt→Xa,slot_list_getitem→Xk,getItem→Xl,tupleKind→Xz,slicePick→XA,noFill_tuple_add→XB,argsOk→XD,richCompare→XT,wpAny_specialOf→XX,valueAt→Jc,standAt→Jd,typeLookup→Jj,pyIter→Jk,merged→Jl,isSubtype_stop→Jm,entryFor_alias→Jn,entryFor→Jo,backToKw→Jp,wpAny_binaryOp_repeat_ref→Jy,wpAny_handled→JK,wpAny_getItem_list_slice→JM,seq_tuple_add→JN,call→JO
open PySem.Heap renaming get?_push_of_some→zd,get?_push_size→zq,lt_size→zr,size_push→jY,get?_update_ne→yK,get?_update_other→yS,get?_update_self→xa,get?_push_ne→xE,SameBut→xF,ExtBut→JE
open List renaming length_map→zg,getElem?_eq_getElem→zi,size_toArray→zj,mem_cons→zt,replicate→zu,getElem?_cons_zero→zy,length_append→zA,mem_cons_of_mem→zB,mem_singleton→zC,getElem?_append_left→zF,mem_map→zI,mem_append_right→zJ,mem_cons_self→zK,getElem?_set_ne→zL,getElem?_cons_succ→zM,getElem?_set_self→zN,getElem?_eq_none→zR,not_mem_nil→zS,length_cons→zT,map_cons→zU,getElem?_map→zV,mem_append→zW,getD_eq_getElem?_getD→ja,pairwise_cons→jb,getElem?_eq_some_iff→je,toArray→jn,mem_filter→jw,getElem_mem→jx,range→jC,length_singleton→jD,set_cons_succ→jG,mergeSort_perm→jL,filterMap_cons→jM,length_range→jN,set_cons_zero→jQ,mem_iff_getElem→jS,any_cons→jW,all_cons→jX,flatten_cons→jZ,append_assoc→ya,replicate_succ→yc,mem_iff_getElem?→ye,length_filter_le→yf,mem_of_getElem?→yn,length_nil→yp,lookup_cons→yw,getElem?_append_right→yy,find?_cons→yD,pairwise_append→yE,mem_append_left→yF,pairwise_singleton→yM,all_eq_true→yN,append_nil→yX,pairwise_map→xi,map_map→xp,drop_eq_getElem_cons→xu,map_append→xz,pairwise_mergeSort→xA,range_succ_eq_map→xG,all_map→xI,cons_lt_cons_iff→xO,length_set→xW,foldl_cons→xX,filter_map→xY,zip_cons_cons→Zk,mem_range→Zl,length_take→Zw,getElem_inj→Zx,getElem?_replicate→Zy,map_nil→ZD,foldl→ZE,any_map→ZG,nodup_cons→ZJ,length_zip→ZK,forIn_cons→ZL,length_replicate→ZP,lt_irrefl→ZZ,length→Ya,map_eq_nil_iff→Yo,reverse_cons→YF,getElem?_set→YG,ext_getElem?→YH,eraseIdx_eq_take_drop_succ→YL,prefix_refl→YW,ext_getElem→YX,eq_nil_of_length_eq_zero→Xb,of_mem_zip→Xf,nil_append→Xg,dropLast_concat_getLast→Xh,nodup_iff_pairwise_ne→Xw,forIn_nil→Xx,getElem?_zip_eq_some→XS,drop_eq_nil_of_le→Ji,set_append_right→Jw,dropLast_eq_take→Jx,getElem?_of_mem→JH,length_reverse→JW,instMembership→JX,getElem?_range→JY,filter_sublist→JZ
open PySem.W renaming Frag→zh,keepIn→yi,emptyDict→yk,fnOf→yq,instObj→xv,nsIn→xT,findIn→Zb,codeIn→Zc,mg_of→ZW,methodObj→Yp,kas_ask→YI,cellsFrom_some→XE,kdu_collect→Je,specialIn→Jz,kitx_list→JA,kitx_dict→JB,plainGet→JQ,kdl_dict→JS,kat_cons→JT
open Nat renaming le_refl→zn,ne_of_lt→zD,le_trans→zG,zero_le→zQ,lt_of_lt_of_le→jh,le_add_right→jl,lt_succ_of_lt→jO,ne_of_gt→yb,lt_irrefl→yt,le_of_lt→yV,lt_succ_self→xr,le_of_eq→xt,lt_trans→xN,sub_succ_lt_self→Yi,lt_or_ge→YK,not_lt→XR,succ_mul→Ju,mul_comm→Jv,le_of_ble_eq_true→JF
open Option.some renaming injEq→zH,inj→zY
open Bool renaming false_ne_true→jc,false_eq_true→jk,and_eq_true→jp,not_eq_true'→yo,eq_false_iff→yG,or_false→Yu,noConfusion→YY,or_eq_true→Xi,and_eq_true_iff→JI
open Int renaming emod_lt_of_pos→jd,emod_nonneg→jf,toNat_natCast→jF,eq_ofNat_of_zero_le→yQ,le_refl→xU,zero_add→Zh,le_trans→ZM
open Classical renaming byContradiction→ji,choose→Yt
open PySem.Builtin.SmallTypes renaming nextOf→jm,ownedTupleIsFree→yg,ownedTupleHandOut→Zj
open PySem.Str renaming ofString→jo
open PySem.Obj renaming mapSeq→jt
open PyProof.Rows renaming seqObj→ju,slot_tuple_getitem→jv,arrOf→yh,callWith_type1→ym,kindOf→yU,Keyed→xV,pendingOf→Zr,failedOf→Zv,envOfC→ZI,oneType'→ZU,subscriptTail_builtinR→Yf,size_push'→Yg,SortSt→Yh,IsTup→Yn,AllBare→YE,listUpdate_at→YV,get?_update_seq→Ja,entry_list_sort→Jb,wpS_pure→Js,slot_list_sort→Jt
open Array renaming getElem?_eq_getElem→jy,getElem?_toList→jB,length_toList→jK,perm_iff_toList_perm→xm,toArray_toList→ZV,getD→Yv,toList_inj→YM,getD_eq_getD_getElem?→Xj,toList_append→JJ
open PySem.SetTable.layClean renaming free→jA
open PySem.SeqAt renaming EqAt→jJ,RcNeAt→Zz,RcAt→Yq,ne_of_list_tuple→XY,notIn_tupleAt→JC,notIn_listAt→JU
open PySem.Around renaming under_plainId→jP
open False renaming elim→yx
open Prod.mk renaming inj→yL
open PySem.Builtin.List renaming listLengthHint→yO,listExtendWith→yP,listTooLong→xj,listSameRef→YD,listItems→YT
open PySem.Calls renaming spliced_cons→yR,spliced_nil→xb,Name_function_global→Xm,call_function_entry→Xs,callWith_builtin→XZ
open PySem.Paired renaming length→yT
open PySem.Builtin.Slice renaming slicePlaces→yW,sliceAdjust→xR,sliceApplied→Ys
open PySem.F renaming called_set→yY,slot_tuple_iterator_next→xq,plain_min_loop→xx,plain_max_loop→xy,slot_tuple_mul→Zd,args_tuple_add_2→Zn,entry_tuple_add→Zq,slot_tuple_add→Zu,slot_list_getattribute→ZB,slot_zip_next→ZX,slot_int_rmul→ZY,slot_tuple_rmul→Xq,plainAttrs_list→Xr,args_tuple_iterator_next_1→XQ,entry_tuple_iterator_next→XW,slot_list_extend→Jq,slot_list_append→Jr
open PySem.Builtin.Tuple renaming tupleExact→xh,tupleItemsOf→Yr
open List.cons renaming inj→xH
open PySem.SetTable renaming bits→xL,leap→ZR,runEnd→YC,turns→YR
open PySem.Heap.SameBut renaming update→xM
open Option renaming map_some→xS,isSome_map→Zo,ne_none_iff_exists'→Xe,isSome_iff_exists→Xu
open PySem.Builtin.Str renaming occurrences→Zg
open Function renaming comp_def→Zi
open PySem.SeqAt.EqAt renaming str_int→ZN,int_str→ZO,same→Yw,none_bool→Xn,bool_none→Xo,bool_bool→Xp,str_none→XF,str_bool→XG,none_str→XH,none_int→XI,int_none→XJ,int_bool→XL,bool_str→XM,bool_int→XO,str_str→XU,int_int→XV
open ToString renaming toString→ZQ
open PySem.Builtin.Builtins renaming bindParams→ZS
open PySem.Txt renaming join→Yd,slice→Jf
open PySem.Builtin.Frozenset renaming slot1→Ym
open PySem.Builtin.Dict renaming updateFrom→YJ,pairItems→YU
open List.Perm renaming eq_of_pairwise→Xc
open PySem.Heap.IsSliceOf renaming new→Xd
open Prod renaming ext→Xt,ext_iff→Jh
open Nat.succ renaming inj→Xv
open List.Pairwise renaming imp→Xy
open PySem.Heap.DictOf renaming new→Jg
open PySem.PassesOwn renaming never→JD
open Membership renaming mem→JG
open PySem.Walks renaming list→JP
open PySem.PyData renaming hasDictAll→JV
noncomputable section
abbrev VSP:=zk->zv->Prop
abbrev PNS:=List (PySem.Addr×PySem.Obj)
namespace L2
open PySem PySem.Spec PyProof.Rows
theorem J7{a:α}{P:Prop}(h:none=some a):P:=nomatch h
theorem AE{a:α}{P:Prop}(h:some a=none):P:=nomatch h
theorem i5{P:Prop}(h:false=true):P:=nomatch h
theorem SF{a:α}{l:List α}{P:Prop}(h: []=a::l):P:=nomatch h
theorem cJ{a:α}{l:List α}{P:Prop}(h:a::l= []):P:=nomatch h
abbrev Key:=Sum Int Str
def uA:Key->zk->Bool
 | .inl k,v=>Value.isInt k v
 | .inr x,v=>Value.isStrOf x v
def nU(w:jg):Key->Int
 | .inl k=>hashInt k
 | .inr x=>hashStr w x
theorem O8:∀ {k} {v},uA k v=true->(∃i t,k=Sum.inl i/\v=Value.int i t)\/(∃x t,k=Sum.inr x/\v=Value.str x t)
 | .inl i,v,h=>by
   obtain⟨t,e⟩:=Value.isInt_shape (k:=i) (v:=v) h
   exact .inl ⟨i,t,rfl,e⟩
 | .inr x,v,h=>by
   obtain⟨t,e⟩:=Value.isStrOf_shape (x:=x) (v:=v) h
   exact .inr ⟨x,t,rfl,e⟩
theorem LZ(i:Int)(t:Tok):uA (.inl i) (.int i t)=true:=by simp[uA,Value.isInt]
theorem dG9(x:Str)(t:Tok):uA (.inr x) (.str x t)=true:=by simp[uA,Value.isStrOf]
theorem tX(a b:Int):decide ((Sum.inl a:Key)=Sum.inl b)= (a==b):=by
 by_cases e:a=b
 ·subst e;simp
 · have h:¬(Sum.inl a:Key)=Sum.inl b:=λq=>e (Sum.inl.inj q)
   rw[decide_eq_false h]
   exact(beq_eq_false_iff_ne.mpr e).symm
theorem NU(a b:Str):decide ((Sum.inr a:Key)=Sum.inr b)=decide (a=b):=by
 by_cases e:a=b
 ·subst e;simp
 · have h:¬(Sum.inr a:Key)=Sum.inr b:=λq=>e (Sum.inr.inj q)
   rw[decide_eq_false h,decide_eq_false e]
theorem eU4(a:Int)(b:Str):decide ((Sum.inl a:Key)=Sum.inr b)=false:=decide_eq_false (λq=>nomatch q)
theorem HZ(a:Str)(b:Int):decide ((Sum.inr a:Key)=Sum.inl b)=false:=decide_eq_false (λq=>nomatch q)
def Q9(prog:zZ)(w:jg):PySem.KeyKind prog w Key where
 is:=uA
 hash:=nU w
 inj:=λv a b ha hb=>by
  rcases O8 ha with⟨i,t,rfl,rfl⟩|⟨x,t,rfl,rfl⟩
  · rcases O8 hb with⟨j,u,rfl,e⟩|⟨y,u,rfl,e⟩
    ·injection e with e1 _;rw[e1]
    ·exact nomatch e
  · rcases O8 hb with⟨j,u,rfl,e⟩|⟨y,u,rfl,e⟩
    ·exact nomatch e
    ·injection e with e1 _;rw[e1]
 byValue:=λk v h=>by
  rcases O8 h with⟨i,t,rfl,rfl⟩|⟨x,t,rfl,rfl⟩<;>rfl
 pyHash:=λhv h=>by
  rcases O8 hv with⟨i,t,rfl,rfl⟩|⟨x,t,rfl,rfl⟩
  ·exact wpAny_pyHash_int h
  ·exact wpAny_pyHash_str h
 eqBool:=λhu hv h=>by
  rcases O8 hu with⟨i,t,rfl,rfl⟩|⟨x,t,rfl,rfl⟩
  · rcases O8 hv with⟨j,u,rfl,rfl⟩|⟨y,u,rfl,rfl⟩
    ·rw[tX]at h;exact wpAny_eqBool_int h
    ·rw[eU4]at h;exact ZO i t y u _ _ _ _ h
  · rcases O8 hv with⟨j,u,rfl,rfl⟩|⟨y,u,rfl,rfl⟩
    ·rw[HZ]at h;exact ZN x t j u _ _ _ _ h
    ·rw[NU]at h;exact wpAny_eqBool_str h
 «strs»:=λk x t v h=>by
  rcases O8 h with⟨i,u,rfl,e⟩|⟨y,u,rfl,e⟩
  ·exact nomatch e
  · injection e with e1 _
    subst e1
    cases v<;>rfl
theorem oY(prog:zZ)(w:jg)(i:Int)(t:Tok):(Q9 prog w).is (.inl i) (.int i t)=true:=LZ i t
theorem cJ9(prog:zZ)(w:jg)(x:Str)(t:Tok):(Q9 prog w).is (.inr x) (.str x t)=true:=dG9 x t
inductive V where
 |non|bl (b:Bool)|int (i:Int)|str (x:Str)|byt (b:Array UInt8)|flt (b:UInt64)|ref (a:Addr)|ty (n:String)
 deriving DecidableEq
def J9:V->zk->Prop
 | .non,u=>u=Value.none
 | .bl b,u=>u=Value.bool b
 | .int i,u=>∃t,u=Value.int i t
 | .str x,u=>∃t,u=Value.str x t
 | .byt b,u=>∃t,u=Value.bytes b t
 | .flt b,u=>∃t,u=Value.float b t
 | .ref a,u=>u=Value.ref a
 | .ty n,u=>u=Value.type n
abbrev v6:List V->List zk->Prop:=Paired J9
theorem v6.length(r:v6 xs us):xs.length=us.length:=yT r
theorem v6.get:∀ {xs} {us} {i:Nat} {x:V},v6 xs us->xs[i]? =some x->∃u,us[i]? =some u/\J9 x u
 |_,_,_,_,.nil,e=>by simp at e
 |_,_,0,_,.cons r _,e=>by simp at e;subst e;exact⟨_,rfl,r⟩
 |_,_,i+1,x,.cons _ t,e=>by
   obtain⟨u,h1,h2⟩:=v6.get (i:=i) (x:=x) t (by simpa using e)
   exact⟨u,by simpa using h1,h2⟩
theorem v6.set(r:J9 x u):∀ {xs} {us} i,v6 xs us->v6 (xs.set i x) (us.set i u)
 |_,_,_,.nil=>.nil
 |_,_,0,.cons _ t=>.cons r t
 |_,_,i+1,.cons q t=>.cons q (v6.set r i t)
theorem v6.append(h:v6 xs us)(k:v6 ys ws):v6 (xs++ys) (us++ws):=by
 induction h with
 |nil=>exact k
 |cons r t ih=>exact .cons r ih
theorem v6.take:∀ {xs} {us} n,v6 xs us->v6 (xs.take n) (us.take n)
 |_,_,0,_=>.nil
 |_,_,_+1,.nil=>.nil
 |_,_,n+1,.cons r t=>.cons r (v6.take n t)
theorem v6.drop:∀ {xs} {us} n,v6 xs us->v6 (xs.drop n) (us.drop n)
 |_,_,0,r=>r
 |_,_,_+1,.nil=>.nil
 |_,_,n+1,.cons _ t=>v6.drop n t
def C6:Option V->Option zk->Prop
 |some v,some u=>J9 v u
 |none,none=>True
 |_,_=>False
def KV{κ:Type}:List (κ×V)->List (κ×zk)->Prop:=Paired fun(p:κ×V) (q:κ×zk)=>p.1=q.1/\J9 p.2 q.2
def kV:Key->V
 | .inl i=>.int i
 | .inr x=>.str x
inductive HO where
 /-- a list -/
 |lst (xs:List V)
 /-- a tuple (never changes) -/
 |tup (xs:List V)
 /-- a dict whose keys are ints and texts;one whose keys are tuples of ints and texts (the empty one is both) -/
 |dK (kvs:List (Key×V))|dT (kvs:List (List Key×V))
 /-- a set of ints:its members,its size -/
 |set (S:Int->Bool) (n:Nat)
 /-- an instance of the class at C,its dict at dx,its attributes -/
 |ins (C dx:Addr) (fs:List (Str×V))
 /-- the dict of the instance at x -/
 |own (x:Addr)
 /-- the dict of an exception -/
 |xd (fs:List (Str×V))
 /-- a bound method,f of x -/
 |met (f x:Addr)
 /-- a range object lo,lo+1,.. below hi -/
 |rng (lo hi:Int)
 /-- a thing that is known to the object (the script;a dict while a loop walks it):read,never written while it is so -/
 |frz (o:Obj) (u:HO)
 /-- a code object's table -/
 |tbl (ps:Array zk)
 /-- any other thing,by what is true of its one object (a def of one's own:SetO a S n:=HO.ext λh=>..) -/
 |ext (φ:Heap->Prop)
abbrev Hp:=Addr->Option HO
def upd(H:Hp)(a:Addr)(o:HO):Hp:=λb=>if b=a then some o else H b
theorem O6:upd H a o a=some o:=by unfold upd;rw[if_pos rfl]
theorem J2(h:b≠a):upd H a o b=H b:=by unfold upd;rw[if_neg h]
theorem PY{H:Hp}(h:H a=some o)(h':H b=some u)(d:o≠u):a≠b:=by
 intro e;subst e;rw[h]at h';exact d (zY h')
theorem J3{H:Hp}{o:HO}(h:H a=some o)(h':H b=none):a≠b:=by
 intro e;subst e;rw[h]at h';cases h'
section
variable(P:zZ)(w:jg)
def t4(h:Heap)(a:Addr)(items:Array zk):Prop:=∃o,h.get? a=some o/\o.cls= .type "tuple"/\∃n,(o.data,o.dict)= (Data.seq items n,none)
theorem t4.tup(x:t4 h a items):Yn h a items:=by
 obtain⟨o,e,c,n,d⟩:=x
 exact⟨o,e,c,n,(yL d).1⟩
theorem t4.new(h:Heap)(items:Array zk):t4 (h.push {cls:=.type "tuple",data:=.seq items}) h.objs.size items:=⟨_,zq _ rfl,rfl,_,rfl⟩
def T4(H:Hp)(h:Heap)(a:Addr):HO->Prop
 | .lst xs=>xs.length<=zo/\∃(its:List zk) (n:Nat),v6 xs its/\h.get? a=some {cls:=.type "list",data:=.seq its.toArray n}
 | .tup xs=>xs.length<=zo/\∃its:List zk,v6 xs its/\t4 h a its.toArray
 | .dK kvs=>kvs.length<=zo/\(a==yC)=false/\∃vs,KV kvs vs/\h.DictOf (Q9 P w) a vs
 | .dT kvs=>kvs.length<=zo/\(a==yC)=false/\∃xs:List (List Key×Addr×zk),
    Paired (fun(p:List Key×V) (q:List Key×Addr×zk)=>p.1=q.1/\H q.2.1=some (.tup (p.1.map kV))/\J9 p.2 q.2.2) kvs xs/\
    ∃o es ep,h.get? a=some o/\o.ExactDict/\o.data= .dict es ep/\es.toList=xs.map (entryOfKey (Xz (Q9 P w)))/\(xs.map (·.1)).Nodup
 | .set S n=>h.SetOf (intKind P w) a S n
 | .ins C dx fs=>H dx=some (.own a)/\fs.length<=1000/\dx≠a/\h.get? a=some (xv C dx)/\
    ∃mA,h.Ns1 dx mA/\(∀f,C6 (fs.lookup f) (mA f))/\PySem.Within mA (fs.map (·.1))
 | .own _=>∃o,h.get? a=some o
 | .xd fs=>∃mA,h.Ns1 a mA/\∀f,C6 (fs.lookup f) (mA f)
 | .rng lo hi=>∃t u v,h.get? a=some {cls:=.type "range",data:=.fields #[.int lo t,.int hi u,.int 1 v]}
 | .frz o u=>h.get? a=some o/\T4 H h a u
 | .tbl ps=>h.get? a=some {cls:=.none,data:=.fields ps}
 | .met f x=>h.get? a=some (Yp (.ref f) (.ref x))
 | .ext φ=>φ h/\(∃o,h.get? a=some o)/\∀h1 h2:Heap,φ h1->(∀o,h1.get? a=some o->h2.get? a=some o)->φ h2
def HOk(H:Hp)(h:Heap):Prop:=∀a o,H a=some o->T4 P w H h a o
end
section
theorem T4.lt(x:T4 P w H h a o):a<h.objs.size:=by
 cases o with
 |lst xs=>obtain⟨_,_,_,_,e⟩:=x;exact zr e
 |tup xs=>obtain⟨_,_,_,p⟩:=x;exact(t4.tup p).lt
 |dK kvs=>obtain⟨_,_,_,_,o,_,_,e,_⟩:=x;exact zr e
 |dT kvs=>obtain⟨_,_,_,_,o,_,_,e,_⟩:=x;exact zr e
 |set S n=>obtain⟨o,_,_,_,e,_⟩:=x;exact zr e
 |ins C dx fs=>obtain⟨_,_,_,e,_⟩:=x;exact zr e
 |own y=>obtain⟨_,e⟩:=x;exact zr e
 |xd fs=>obtain⟨_,⟨_,_,_,e,_⟩,_⟩:=x;exact zr e
 |rng lo hi=>obtain⟨_,_,_,e⟩:=x;exact zr e
 |frz ob u=>obtain⟨e,_⟩:=x;exact zr e
 |tbl ps=>exact zr (show h.get? a=some _ from x)
 |met f y=>exact zr (show h.get? a=some _ from x)
 |ext φ=>obtain⟨_,⟨_,e⟩,_⟩:=x;exact zr e
theorem Paired.mapP(h:Paired F l₁ l₂)(f:∀a b,F a b->G a b):Paired G l₁ l₂:=by
 induction h with
 |nil=>exact .nil
 |cons r t ih=>exact .cons (f _ _ r) ih
theorem T4.stay(x:T4 P w H h a o)(k:∀b u,(b=a\/H b=some (.own a))->h.get? b=some u->h'.get? b=some u)
 (ho:∀b,H b=some (.own a)->H' b=some (.own a)) (ht:∀b xs,H b=some (.tup xs)->H' b=some (.tup xs)):T4 P w H' h' a o:=by
 induction o with
 |lst xs=>obtain⟨z,its,n,r,e⟩:=x;exact⟨z,its,n,r,k _ _ (.inl rfl) e⟩
 |tup xs=>obtain⟨z,its,r,ob,e,c⟩:=x;exact⟨z,its,r,ob,k _ _ (.inl rfl) e,c⟩
 |dK kvs=>obtain⟨z,y,vs,r,ob,es,ep,e,c⟩:=x;exact⟨z,y,vs,r,ob,es,ep,k _ _ (.inl rfl) e,c⟩
 |dT kvs=>
   obtain⟨z,y,xs,r,ob,es,ep,e,c⟩:=x
   exact⟨z,y,xs,Paired.mapP r λp q z=>⟨z.1,ht _ _ z.2.1,z.2.2⟩,ob,es,ep,k _ _ (.inl rfl) e,c⟩
 |set S n=>obtain⟨ob,es,ep,t,e,c⟩:=x;exact⟨ob,es,ep,t,k _ _ (.inl rfl) e,c⟩
 |ins C dx fs=>
   obtain⟨d,z,ne,e,mA,⟨od,es,ep,e2,c⟩,r⟩:=x
   exact⟨ho _ d,z,ne,k _ _ (.inl rfl) e,mA,⟨od,es,ep,k _ _ (.inr d) e2,c⟩,r⟩
 |own y=>obtain⟨ob,e⟩:=x;exact⟨ob,k _ _ (.inl rfl) e⟩
 |xd fs=>obtain⟨mA,⟨od,es,ep,e,c⟩,r⟩:=x;exact⟨mA,⟨od,es,ep,k _ _ (.inl rfl) e,c⟩,r⟩
 |rng lo hi=>obtain⟨t,u,v,e⟩:=x;exact⟨t,u,v,k _ _ (.inl rfl) e⟩
 |frz ob u ih=>obtain⟨e,q⟩:=x;exact⟨k _ _ (.inl rfl) e,ih q⟩
 |tbl ps=>
   have e:h.get? a=some {cls:=.none,data:=.fields ps}:=x
   show h'.get? a=some {cls:=.none,data:=.fields ps}
   exact k a _ (.inl rfl) e
 |met f y=>
   have e:h.get? a=some (Yp (.ref f) (.ref y)):=x
   show h'.get? a=some (Yp (.ref f) (.ref y))
   exact k a _ (.inl rfl) e
 |ext φ=>obtain⟨p,⟨o,e⟩,st⟩:=x;exact⟨st _ _ p λo q=>k _ _ (.inl rfl) q,⟨o,k _ _ (.inl rfl) e⟩,st⟩
theorem HOk.lt(x:HOk P w H h)(e:H a=some o):a<h.objs.size:=(x a o e).lt
theorem HOk.fresh(x:HOk P w H h)(e:h.objs.size<=a):H a=none:=by
 cases q:H a with
 |none=>rfl
 |some u=>exact absurd (jh (x.lt q) e) (yt _)
theorem HOk.kept(x:HOk P w H h)(k:∀b u,h.get? b=some u->h'.get? b=some u):HOk P w H h':=λa o e=>
 (x a o e).stay (λb u _ q=>k b u q) (λ_ q=>q) λ_ _ q=>q
theorem HOk.laid(x:HOk P w H h)(k:∀b u,h.get? b=some u->h'.get? b=some u)(hp:h.objs.size<=a)(new:T4 P w (upd H a o) h' a o):HOk P w (upd H a o) h':=λb u e=>by
 have hn:=x.fresh hp
 by_cases hb:b=a
 ·subst hb;rw[O6]at e;cases e;exact new
 · rw[J2 hb]at e
   exact(x b u e).stay (λc v _ q=>k c v q) (λc q=>by rw[J2 (J3 q hn)];exact q) λc xs q=>by rw[J2 (J3 q hn)];exact q
end
def Rd(H:Hp)(a:Addr)(u:HO):Prop:=H a=some u\/∃o,H a=some (.frz o u)
theorem Rd.of(h:H a=some u):Rd H a u:=.inl h
theorem Rd.ok(r:Rd H a u)(x:HOk P w H h):T4 P w H h a u:=by
 rcases r with r|⟨o,r⟩
 ·exact x a u r
 · obtain⟨_,q⟩:=x a _ r
   exact q
def Mut:Option HO->Prop
 |some (.lst _)=>True
 |some (.dK _)=>True
 |some (.dT _)=>True
 |some (.set _ _)=>True
 |some (.ins _ _ _)=>True
 |some (.ext _)=>True
 |_=>False
section
theorem HOk.write(ok:HOk P w H h)(mu:Mut (H x))(he:e=x\/H e=some (.own x))(k:∀b u,b≠e->h.get? b=some u->h'.get? b=some u)(heo:∃u,h'.get? e=some u)
 (new:T4 P w (upd H x o') h' x o'):HOk P w (upd H x o') h':=λb u q=>by
 have nown:∀c y,H c=some (.own y)->c≠x:=λc y r z=>by subst z;rw[r]at mu;exact mu
 have ntup:∀c xs,H c=some (.tup xs)->c≠x:=λc xs r z=>by subst z;rw[r]at mu;exact mu
 by_cases hb:b=x
 ·subst hb;rw[O6]at q;cases q;exact new
 · rw[J2 hb]at q
   by_cases hbe:b=e
   · have q':H b=some (.own x):=by
      rcases he with z|z
      ·exact absurd (hbe.trans z) hb
      ·rw[hbe];exact z
     rw[q]at q';cases q'
     obtain⟨v,hv⟩:=heo
     exact⟨v,by rw[hbe];exact hv⟩
   · refine(ok b u q).stay (λc v hc r=>k c v ?_ r) (λc r=>by rw[J2 (nown c b r)];exact r) λc xs r=>by rw[J2 (ntup c xs r)];exact r
     rcases hc with rfl|hc
     ·exact hbe
     · rintro rfl
       rcases he with z|z
       ·exact nown c b hc z
       ·rw[hc]at z;cases z;exact hb rfl
end
structure Un(fs ex:List Addr)(H H':Hp)(h h':Heap):Prop where
 keep:∀b o,h.get? b=some o->H b=none->b∉fs->b∉ex->h'.get? b=some o
 slot:∀b o,h.get? b=some o->H b=none->b∈fs->b∉ex->∃sl,h'.get? b=some {o with slots:=sl}
 free:∀b o,h.get? b=some o->H b=none->b∉ex->H' b=none
 there:∀b o,h.get? b=some o->b∉ex->∃o',h'.get? b=some o'
 tups:∀b xs,H b=some (.tup xs)->H' b=some (.tup xs)
 frzs:∀b o u,H b=some (.frz o u)->H' b=some (.frz o u)
 tbls:∀b ps,H b=some (.tbl ps)->∃more,H' b=some (.tbl (ps++more))
section
theorem Un.any(u:Un fs ex H H1 h h1)(q:h.get? b=some ob)(n:H b=none)(hx:b∉ex):∃sl,h1.get? b=some {ob with slots:=sl}:=by
 by_cases hb:b∈fs
 ·exact u.slot b ob q n hb hx
 ·exact⟨ob.slots,u.keep b ob q n hb hx⟩
theorem Un.trans(a:Un fs ex H H1 h h1)(b:Un fs ex H1 H2 h1 h2):Un fs ex H H2 h h2 where
 keep:=λc ob q n hc hx=>b.keep c ob (a.keep c ob q n hc hx) (a.free c ob q n hx) hc hx
 slot:=λc ob q n hc hx=>by
  obtain⟨sl,e1⟩:=a.slot c ob q n hc hx
  obtain⟨sl',e2⟩:=b.slot c _ e1 (a.free c ob q n hx) hc hx
  exact⟨sl',e2⟩
 free:=λc ob q n hx=>by
  obtain⟨o',e1⟩:=a.there c ob q hx
  exact b.free c o' e1 (a.free c ob q n hx) hx
 there:=λc ob q hx=>by
  obtain⟨o',e1⟩:=a.there c ob q hx
  exact b.there c o' e1 hx
 tups:=λc xs q=>b.tups c xs (a.tups c xs q)
 frzs:=λc ob xs q=>b.frzs c ob xs (a.frzs c ob xs q)
 tbls:=λc ps q=>by
  obtain⟨m1,e1⟩:=a.tbls c ps q
  obtain⟨m2,e2⟩:=b.tbls c _ e1
  exact⟨m1++m2,by rw[e2,Array.append_assoc]⟩
theorem Un.kept(k:∀b u,h.get? b=some u->h'.get? b=some u):Un fs ex H H h h':=
 ⟨λb ob q _ _ _=>k b ob q,λb ob q _ _ _=>⟨ob.slots,k b ob q⟩,λ_ _ _ n _=>n,λb ob q _=>⟨ob,k b ob q⟩,λ_ _ q=>q,λ_ _ _ q=>q,λ_ ps q=>⟨#[],by rw[q];simp⟩⟩
theorem Un.refl:Un fs ex H H h h:=Un.kept λ_ _ q=>q
theorem Un.laid(k:∀b u,h.get? b=some u->h'.get? b=some u)(hp:h.objs.size<=a)(hn:H a=none):Un fs ex H (upd H a o) h h' where
 keep:=λb u q _ _ _=>k b u q
 slot:=λb u q _ _ _=>⟨u.slots,k b u q⟩
 free:=λb u q n _=>by rw[J2 (zD (jh (zr q) hp))];exact n
 there:=λb u q _=>⟨u,k b u q⟩
 tups:=λb xs q=>by rw[J2 (J3 q hn)];exact q
 frzs:=λb u xs q=>by rw[J2 (J3 q hn)];exact q
 tbls:=λb ps q=>⟨#[],by rw[J2 (J3 q hn),q];simp⟩
theorem Un.write(mu:Mut (H x))(he:e=x\/H e=some (.own x))(k:∀b u,b≠e->h.get? b=some u->h'.get? b=some u)(heo:∃u,h'.get? e=some u):Un fs ex H (upd H x o) h h':=by
 have hx:∀b,H b=none->b≠x:=λb n z=>by subst z;rw[n]at mu;exact mu
 have hb:∀b,H b=none->b≠e:=λb n z=>by
  subst z
  rcases he with r|r
  ·exact hx b n r
  ·rw[n]at r;cases r
 have hm:∀b u,H b=some u->¬Mut (some u)->b≠x:=λb u q nm z=>by subst z;rw[q]at mu;exact nm mu
 refine⟨λb u q n _ _=>k b u (hb b n) q,λb u q n _ _=>⟨u.slots,k b u (hb b n) q⟩,λb u q n _=>by rw[J2 (hx b n)];exact n,λb u q _=>?_,
  λb xs q=>by rw[J2 (hm b _ q λz=>z)];exact q,λb u xs q=>by rw[J2 (hm b _ q λz=>z)];exact q,λb ps q=>⟨#[],by rw[J2 (hm b _ q λz=>z),q];simp⟩⟩
 by_cases hbe:b=e
 ·subst hbe;exact heo
 ·exact⟨u,k b u hbe q⟩
theorem Un.mono(u:Un fs ex H H1 h h1)(hs:∀b∈fs,b∈fs')(hx:∀b∈ex,b∈ex'):Un fs' ex' H H1 h h1:=
 ⟨λb ob q n hb he=>u.keep b ob q n (λz=>hb (hs b z)) λz=>he (hx b z),λ_ _ q n _ he=>u.any q n λz=>he (hx _ z),λb ob q n he=>u.free b ob q n λz=>he (hx b z),λb ob q he=>u.there b ob q λz=>he (hx b z),u.tups,u.frzs,u.tbls⟩
end
def trk(h:Heap)(H:Hp):List Addr:=(jC h.objs.size).filter λa=>(H a).isSome
def r8(h:Heap)(H:Hp):Heap:=PySem.W.hideAll h (trk h H)
theorem wb(h:Heap)(H:Hp):(r8 h H).objs.size=h.objs.size:=PySem.W.hideAll_size _ _
theorem OX(e:h.get? b=some o)(n:H b=none):(r8 h H).get? b=some o:=
 PySem.W.hideAll_get _ e λhm=>by
  have q:(H b).isSome=true:=(jw.mp hm).2
  rw[n]at q;simp at q
theorem Sv(e:(r8 h H).get? b=some o):h.get? b=some o/\H b=none:=by
 have e':h.get? b=some o:=PySem.W.of_hideAll (trk h H) e
 refine⟨e',?_⟩
 cases q:H b with
 |none=>rfl
 |some x=>
   have hm:b∈trk h H:=jw.mpr ⟨Zl.mpr (zr e'),by simp[q]⟩
   have z:(r8 h H).get? b=none:=PySem.W.hideAll_none (trk h H) hm
   rw[z]at e;cases e
def cY(g h:Heap)(L:Addr):PNS:=(jC h.objs.size).filterMap λa=>if a=L\/(g.get? a).isSome=true then none else (h.get? a).map λo=>(a,o)
def W2(g h:Heap)(L d:Addr):PNS:=(cY g h L).filter λp=>decide (p.1≠d)
structure Mod(K:zh)(mg:Str->Option zk)(base:Heap):Prop where
 kin:K.In base
 glob:base.Ns jq mg
 blt:∃mb,base.Ns builtinsNs mb/\∀x:Str,x≠ "__name__"->mb x=zX x
 nolimit:base.NoLimit
structure Cx where
 prog:zZ
 w:jg
 K:zh
 mg:Str->Option zk
 base:Heap
 A:jr
 N:List Str
 WX:zv
 H₀:Hp
 env:Env
 outer:List Env
 stack:List Env
 ex:List Addr
 fn:Str->Bool
 calm:Bool
 pn:PNS
 xe:VSP
def frs(l:List Env):List Addr:=l.filterMap (·.frame)
abbrev Cx.fs(X:Cx):List Addr:=frs X.outer
def Vis(sc:Scope)(x:Str):Prop:=sc.names.lookup x=some .local\/sc.names.lookup x=some .cell\/sc.names.lookup x=some .free
def Loc(sc:Scope)(x:Str):Prop:=sc.names.lookup x=some .local\/sc.names.lookup x=some .cell
def Th(env:Env)(h:Heap)(m:Str->Option zk)(x:Str)(u:zk):Prop:=
 (env.kindOf x=some .local/\m x=some u)\/((env.kindOf x=some .cell\/env.kindOf x=some .free)/\∃c,env.cells.lookup x=some c/\h.IsCell c (some u))
structure Cx.Ok(X:Cx):Prop where
 mod:Mod X.K X.mg X.base
 kind:X.env.scope.kind= .function
 glob:X.env.globals=jq
 blt:X.env.builtins=builtinsNs
 above:X.WX.heap.objs.size<=X.env.locals
 inj:∀x y c,X.env.cells.lookup x=some c->X.env.cells.lookup y=some c->x=y
 has:∀x,(X.env.kindOf x=some .cell\/X.env.kindOf x=some .free)->∃c,X.env.cells.lookup x=some c
 cab:∀x c,X.fn x=true->X.env.cells.lookup x=some c->X.WX.heap.objs.size<=c
 hd:X.calm=true->X.A.handled=none
 frames:X.A.frames=some X.stack
 stk:X.stack=X.outer\/(X.stack=X.env::X.outer/\X.env.frame=some X.env.locals)
 exf:∀b∈X.ex,b≠X.env.locals/\∀x c,X.env.cells.lookup x=some c->c≠b
 bs:∀b o,X.base.get? b=some o->X.WX.heap.get? b=some o/\X.H₀ b=none
 bsz:X.base.objs.size<=X.WX.heap.objs.size
 noex:∀b o,X.base.get? b=some o->b∉X.ex
 exfs:∀b∈X.ex,b∉X.fs
 funs:X.WX.heap.FunFrames X.base X.outer
 frf:∀b∈X.fs,X.H₀ b=none
 gd:X.A.guards=some []
structure Inv(X:Cx)(pins:PNS)(σ:List (Option V))(H:Hp)(s:zv):Prop where
 ok:X.Ok
 os:s.os=X.WX.os
 bare:YE s.gens
 base:Un X.fs X.ex X.H₀ H X.WX.heap s.heap
 loc:∃m,s.heap.Ns X.env.locals m/\∀(i:Nat) (x:Str) (v:V),X.N[i]? =some x->σ[i]? =some (some v)->Vis X.env.scope x->∃u,J9 v u/\Th X.env s.heap m x u
 cell:∀x c,X.env.cells.lookup x=some c->∃v,s.heap.IsCell c v
 free:H X.env.locals=none
 freeC:∀x c,X.env.cells.lookup x=some c->H c=none
 pin:∀p∈X.pn++pins,s.heap.get? p.1=some p.2/\H p.1=none/\p.1≠X.env.locals/\p.1∉X.fs/\∀v,p.2.data≠ .cell v
 hok:HOk X.prog X.w H s.heap
 len:σ.length=X.N.length
section
variable{X:Cx}{pins:PNS}{σ:List (Option V)}{H H':Hp}{s:zv}
theorem Cx.Ok.nofr(ok:X.Ok)(e:X.base.get? b=some o):b∉X.fs:=λhb=>by
 have:=(ok.funs.mem hb).1
 rw[e]at this;cases this
theorem Inv.bs(I:Inv X pins σ H s):∀b o,X.base.get? b=some o->s.heap.get? b=some o/\H b=none:=λb o e=>
 ⟨I.base.keep b o (I.ok.bs b o e).1 (I.ok.bs b o e).2 (I.ok.nofr e) (I.ok.noex b o e),I.base.free b o (I.ok.bs b o e).1 (I.ok.bs b o e).2 (I.ok.noex b o e)⟩
theorem Inv.bk(I:Inv X pins σ H s):∀b o,X.base.get? b=some o->s.heap.get? b=some o:=λb o e=>(I.bs b o e).1
theorem Inv.mod(I:Inv X pins σ H s):Mod X.K X.mg X.base:=I.ok.mod
theorem Inv.kIn(I:Inv X pins σ H s):X.K.In s.heap:=I.ok.mod.kin.keeps I.bk
theorem Inv.nolimit(I:Inv X pins σ H s):s.heap.NoLimit:=I.ok.mod.nolimit.keeps I.bk
theorem Inv.lt(I:Inv X pins σ H s):X.env.locals<s.heap.objs.size:=let ⟨_,hn,_⟩:=I.loc;hn.lt
theorem Inv.sz(I:Inv X pins σ H s):X.WX.heap.objs.size<=s.heap.objs.size:=zG I.ok.above (yV I.lt)
theorem Inv.nofs(I:Inv X pins σ H s)(h:s.heap.objs.size<=a):a∉X.fs:=λhb=>by
 obtain⟨_,o,ho,_⟩:=I.ok.funs.mem hb
 exact absurd (jh (zr ho) (zG I.sz h)) (yt _)
theorem Inv.cne(I:Inv X pins σ H s):∀x c,X.env.cells.lookup x=some c->c≠X.env.locals:=λx c e z=>by
 obtain⟨v,o,ho,hd⟩:=I.cell x c e
 obtain⟨m,⟨o',es,ep,ho',hd',_⟩,_⟩:=I.loc
 rw[z,ho']at ho;cases ho;rw[hd']at hd;cases hd
theorem Inv.funs(I:Inv X pins σ H s):s.heap.FunFrames X.base X.outer:=by
 have all:∀(l:List Env),(∀b∈frs l,b∈X.fs)->X.WX.heap.FunFrames X.base l->s.heap.FunFrames X.base l:=by
  intro l
  induction l with
  |nil=>intro _ _;trivial
  |cons env r ih=>
    intro hs hl
    obtain⟨hk,⟨L,o,hf,hn,ho,hd⟩,hr⟩:=hl
    have hL:L∈X.fs:=hs L (by unfold frs;rw[jM,hf];exact zK)
    obtain⟨sl,e⟩:=I.base.slot L o ho (I.ok.frf L hL) hL λz=>I.ok.exfs L z hL
    exact⟨hk,⟨L,_,hf,hn,e,hd⟩,ih (λb hb=>hs b (by unfold frs;rw[jM,hf];exact zB _ hb)) hr⟩
 exact all X.outer (λ_ hb=>hb) I.ok.funs
theorem Inv.stack(I:Inv X pins σ H s):s.heap.FunFrames X.base X.stack:=by
 rcases I.ok.stk with e|⟨e,hf⟩
 ·rw[e];exact I.funs
 · rw[e]
   obtain⟨m,hn,_⟩:=I.loc
   refine .cons (by rw[I.ok.kind];decide) hf hn ?_ I.funs
   exact Heap.get?_none_of_le (zG I.ok.bsz I.ok.above)
theorem Inv.stkSub(I:Inv X pins σ H s):∀b∈frs X.stack,b∈X.env.locals::X.fs:=λb hb=>by
 rcases I.ok.stk with e|⟨e,hf⟩
 ·rw[e]at hb;exact zB _ hb
 · rw[e]at hb
   unfold frs at hb
   rw[jM,hf]at hb
   exact hb
theorem Inv.stkFree(I:Inv X pins σ H s):∀b∈frs X.stack,H b=none:=λb hb=>by
 rcases zt.mp (I.stkSub b hb)with e|hb
 ·rw[e];exact I.free
 · obtain⟨_,o,ho,_⟩:=I.ok.funs.mem hb
   exact I.base.free b o ho (I.ok.frf b hb) λz=>I.ok.exfs b z hb
theorem Inv.step{t':Nat}{d':Drawn}{ch:List Addr}(I:Inv X pins σ H s)
 (hch:∀b∈ch,(b∈X.ex\/X.WX.heap.objs.size<=b)/\b≠X.env.locals/\(∀x c,X.env.cells.lookup x=some c->c≠b)/\∀p∈X.pn++pins,p.1≠b)
 (keep:∀b o,b≠X.env.locals->b∉X.fs->b∉ch->s.heap.get? b=some o->H b=none->h'.get? b=some o)
 (slot:∀b o,b≠X.env.locals->b∈X.fs->b∉ch->s.heap.get? b=some o->H b=none->∃sl,h'.get? b=some {o with slots:=sl}) (free:∀b o,b∉ch->s.heap.get? b=some o->H b=none->H' b=none)
 (there:∀b o,b∉ch->s.heap.get? b=some o->∃o',h'.get? b=some o')
 (tups:∀b xs,H b=some (.tup xs)->H' b=some (.tup xs)) (frzs:∀b o u,H b=some (.frz o u)->H' b=some (.frz o u)) (tbls:∀b ps,H b=some (.tbl ps)->∃more,H' b=some (.tbl (ps++more)))
 (ns:∀m,s.heap.Ns X.env.locals m->h'.Ns X.env.locals m) (hok:HOk X.prog X.w H' h') (hg:YE g'):
 Inv X pins σ H' {s with heap:=h',gens:=g',drawn:=d',toks:=t'}:=by
 have neL:∀b o,X.WX.heap.get? b=some o->b≠X.env.locals:=λb o e=>zD (jh (zr e) I.ok.above)
 have neC:∀b o,X.WX.heap.get? b=some o->b∉X.ex->b∉ch:=λb o e hx hb=>by
  rcases (hch b hb).1 with z|z
  ·exact hx z
  ·exact absurd (jh (zr e) z) (yt _)
 have cellK:∀x c,X.env.cells.lookup x=some c->∀v,s.heap.IsCell c v->h'.IsCell c v:=λx c e v ⟨o,ho,hd⟩=>by
  have nch:c∉ch:=λz=>(hch c z).2.2.1 x c e rfl
  by_cases hc:c∈X.fs
  · obtain⟨sl,q⟩:=slot c o (I.cne x c e) hc nch ho (I.freeC x c e)
    exact⟨_,q,hd⟩
  ·exact⟨o,keep c o (I.cne x c e) hc nch ho (I.freeC x c e),hd⟩
 refine⟨I.ok,I.os,hg,⟨λb o e n hb hx=>?_,λb o e n hb hx=>?_,λb o e n hx=>?_,λb o e hx=>?_,λb xs e=>tups b xs (I.base.tups b xs e),λb o xs e=>frzs b o xs (I.base.frzs b o xs e),λb ps e=>?_⟩,?_,λx c e=>?_,?_,λx c e=>?_,λp hp=>?_,hok,I.len⟩
 ·exact keep b o (neL b o e) hb (neC b o e hx) (I.base.keep b o e n hb hx) (I.base.free b o e n hx)
 · obtain⟨sl,e1⟩:=I.base.slot b o e n hb hx
   obtain⟨sl',e2⟩:=slot b _ (neL b o e) hb (neC b o e hx) e1 (I.base.free b o e n hx)
   exact⟨sl',e2⟩
 · obtain⟨o',e1⟩:=I.base.there b o e hx
   exact free b o' (neC b o e hx) e1 (I.base.free b o e n hx)
 · obtain⟨o',e1⟩:=I.base.there b o e hx
   exact there b o' (neC b o e hx) e1
 · obtain⟨m1,e1⟩:=I.base.tbls b ps e
   obtain⟨m2,e2⟩:=tbls b _ e1
   exact⟨m1++m2,by rw[e2,Array.append_assoc]⟩
 · obtain⟨m,hn,hl⟩:=I.loc
   refine⟨m,ns m hn,λi x v e1 e2 e3=>?_⟩
   obtain⟨u,r,l⟩:=hl i x v e1 e2 e3
   refine⟨u,r,?_⟩
   rcases l with l|⟨k,c,e,z⟩
   ·exact .inl l
   ·exact .inr ⟨k,c,e,cellK x c e _ z⟩
 · obtain⟨v,z⟩:=I.cell x c e
   exact⟨v,cellK x c e v z⟩
 · obtain⟨m,⟨o,_,_,ho,_⟩,_⟩:=I.loc
   exact free _ o (λz=>(hch _ z).2.1 rfl) ho I.free
 · obtain⟨v,o,ho,hd⟩:=I.cell x c e
   exact free c o (λz=>(hch c z).2.2.1 x c e rfl) ho (I.freeC x c e)
 · obtain⟨e,n,ne,nf,d⟩:=I.pin p hp
   have nch:p.1∉ch:=λz=>(hch p.1 z).2.2.2 p hp rfl
   exact⟨keep p.1 p.2 ne nf nch e n,free p.1 p.2 nch e n,ne,nf,d⟩
theorem Inv.un(I:Inv X pins σ H s)(u:Un X.fs [] H H' s.heap h')(hok:HOk X.prog X.w H' h'):Inv X pins σ H' {s with heap:=h',toks:=t'}:=by
 obtain⟨m,⟨o,es,ep,ho,r⟩,_⟩:=id I.loc
 obtain⟨sl,hL⟩:=u.any ho I.free (by simp)
 exact I.step (g':=s.gens) (d':=s.drawn) (ch:= []) (λ_ z=>nomatch z) (λb o _ hb _ e n=>u.keep b o e n hb (by simp)) (λb o _ hb _ e n=>u.slot b o e n hb (by simp)) (λb o _ e n=>u.free b o e n (by simp)) (λb o _ e=>u.there b o e (by simp)) u.tups u.frzs u.tbls (λm' hm=>by
  obtain⟨o',es',ep',ho',r'⟩:=hm
  rw[ho]at ho';cases ho'
  exact⟨_,es',ep',hL,r'⟩) hok I.bare
theorem Inv.call{t':Nat}{d':Drawn}{ch:List Addr}(I:Inv X pins σ H s)(u:Un (frs X.stack) ch H H' s.heap h')(hok:HOk X.prog X.w H' h')(hg:YE g')
 (hch:∀b∈ch,(b∈X.ex\/X.WX.heap.objs.size<=b)/\b≠X.env.locals/\(∀x c,X.env.cells.lookup x=some c->c≠b)/\∀p∈X.pn++pins,p.1≠b):
 Inv X pins σ H' {s with heap:=h',gens:=g',drawn:=d',toks:=t'}:=by
 obtain⟨m,⟨o,es,ep,ho,r⟩,_⟩:=id I.loc
 obtain⟨sl,hL⟩:=u.any ho I.free λz=>(hch _ z).2.1 rfl
 exact I.step (ch:=ch) hch (λb o hL hb hc e n=>u.keep b o e n (λz=>(zt.mp (I.stkSub b z)).elim hL hb) hc) (λb o _ _ hc e n=>u.any e n hc) (λb o hc e n=>u.free b o e n hc) (λb o hc e=>u.there b o e hc) u.tups u.frzs u.tbls (λm' hm=>by
  obtain⟨o',es',ep',ho',r'⟩:=hm
  rw[ho]at ho';cases ho'
  exact⟨_,es',ep',hL,r'⟩) hok hg
theorem Inv.turned{t':Nat}(I:Inv X pins σ H s)(k:∀b o,b≠it->s.heap.get? b=some o->h'.get? b=some o)(hn:H it=none)(hL:it≠X.env.locals)
 (h1:it∈X.ex\/X.WX.heap.objs.size<=it) (h2:∀x c,X.env.cells.lookup x=some c->c≠it) (h3:∀p∈X.pn++pins,p.1≠it):Inv X pins σ H {s with heap:=h',toks:=t'}:=by
 have nit:∀b u,H b=some u->b≠it:=λb u e z=>by rw[z,hn]at e;cases e
 refine I.step (g':=s.gens) (d':=s.drawn) (ch:= [it]) (λb hb=>?_) (λb o _ _ hc e _=>k b o (λz=>hc (by simp[z])) e) (λb o _ _ hc e _=>⟨o.slots,k b o (λz=>hc (by simp[z])) e⟩) (λ_ _ _ _ n=>n)
  (λb o hc e=>⟨o,k b o (λz=>hc (by simp[z])) e⟩) (λ_ _ e=>e) (λ_ _ _ e=>e) (λb ps e=>⟨#[],by rw[e];simp⟩) (λm hm=>?_) (λb u e=>?_) I.bare
 · have e:b=it:=by simpa using hb
   subst e
   exact⟨h1,hL,h2,h3⟩
 · obtain⟨o,es,ep,ho,r⟩:=hm
   exact⟨o,es,ep,k _ o (Ne.symm hL) ho,r⟩
 · refine(I.hok b u e).stay (λc v hc q=>k c v ?_ q) (λ_ q=>q) λ_ _ q=>q
   rcases hc with z|z
   ·rw[z];exact nit b u e
   ·exact nit c _ z
theorem Inv.tok(I:Inv X pins σ H s)(t:Nat):Inv X pins σ H {s with toks:=t}:=I.un (h':=s.heap) (t':=t) Un.refl I.hok
theorem Inv.kept(I:Inv X pins σ H s)(k:∀b u,s.heap.get? b=some u->h'.get? b=some u):Inv X pins σ H {s with heap:=h',toks:=t'}:=I.un (Un.kept k) (I.hok.kept k)
theorem Inv.laid(I:Inv X pins σ H s)(k:∀b u,s.heap.get? b=some u->h'.get? b=some u)(hp:s.heap.objs.size<=a)(new:T4 X.prog X.w (upd H a o) h' a o):
 Inv X pins σ (upd H a o) {s with heap:=h',toks:=t'}:=I.un (Un.laid k hp (I.hok.fresh hp)) (I.hok.laid k hp new)
theorem Inv.write(I:Inv X pins σ H s)(mu:Mut (H x))(he:e=x\/H e=some (.own x))(k:∀b u,b≠e->s.heap.get? b=some u->h'.get? b=some u)(heo:∃u,h'.get? e=some u)
 (new:T4 X.prog X.w (upd H x o) h' x o):Inv X pins σ (upd H x o) {s with heap:=h',toks:=t'}:=I.un (Un.write mu he k heo) (I.hok.write mu he k heo new)
theorem Inv.pins_of(I:Inv X pins σ H s)(h:∀p∈pins',s.heap.get? p.1=some p.2/\H p.1=none/\p.1≠X.env.locals/\p.1∉X.fs/\∀v,p.2.data≠ .cell v):Inv X pins' σ H s:=
 ⟨I.ok,I.os,I.bare,I.base,I.loc,I.cell,I.free,I.freeC,λp hp=>(zW.mp hp).elim (λz=>I.pin p (yF _ z)) (h p),I.hok,I.len⟩
theorem rN{N:List Str}(hN:N.Nodup){i j:Nat}{x:Str}(a:N[i]? =some x)(b:N[j]? =some x):i=j:=by
 obtain⟨h1,e1⟩:=je.mp a
 obtain⟨h2,e2⟩:=je.mp b
 exact(Zx hN).mp (e1.trans e2.symm)
theorem cV{M:Model}{A:jr}{E:VSP}{i:Nat}{x:Str}{v:V}{u:zk}{Q:Unit->zv->Prop}(I:Inv X pins σ H s)(hN:X.N.Nodup)(hi:X.N[i]? =some x)(hx:Loc X.env.scope x)(r:J9 v u)
 (h:∀s',Inv X pins (σ.set i (some v)) H s'->(∃a,xF a s.heap s'.heap/\(a=X.env.locals\/X.env.cells.lookup x=some a))->Q () s') (hf:X.fn x=true\/X.env.scope.names.lookup x=some .local):zw M A (storeName X.env x u) Q E s:=by
 obtain⟨m,hn,hl⟩:=id I.loc
 have hcls:(X.env.scope.kind == .class||(X.env.scope.kind == .module&&X.env.locals != X.env.globals))=false:=by rw[I.ok.kind];rfl
 have hiσ:i<σ.length:=by rw[I.len];exact(je.mp hi).1
 have cne:=I.cne
 have tracked:∀ {a:Addr} {h':Heap},(∃o,s.heap.get? a=some o/\H a=none)->xF a s.heap h'->HOk X.prog X.w H h':=λ{a h'} ha hs b ob e=>by
  obtain⟨_,_,hfree⟩:=ha
  refine(I.hok b ob e).stay (λc w' hc q=>(hs.2 c ?_).trans q) (λ_ q=>q) λ_ _ q=>q
  rintro rfl
  rcases hc with rfl|hc
  ·rw[hfree]at e;cases e
  ·rw[hfree]at hc;cases hc
 rcases hx with hk|hk
 · refine wpAny_storeName_local hk hn (λh' hn' hs=>?_) hcls
   obtain⟨oL,_,_,hoL,_⟩:=id hn
   refine h _ ⟨I.ok,I.os,I.bare,⟨λb o e n hb hx=>?_,λb o e n hb hx=>?_,I.base.free,λb o e hx=>?_,I.base.tups,I.base.frzs,I.base.tbls⟩,⟨_,hn',λj y v' e1 e2 e3=>?_⟩,λy c e=>?_,I.free,I.freeC,λp hp=>?_,tracked ⟨oL,hoL,I.free⟩ hs,by simpa using I.len⟩ ⟨_,hs,.inl rfl⟩
   ·exact(hs.2 b (zD (jh (zr e) I.ok.above))).trans (I.base.keep b o e n hb hx)
   · obtain⟨sl,e1⟩:=I.base.slot b o e n hb hx
     exact⟨sl,(hs.2 b (zD (jh (zr e) I.ok.above))).trans e1⟩
   · obtain⟨o',e1⟩:=I.base.there b o e hx
     exact⟨o',(hs.2 b (zD (jh (zr e) I.ok.above))).trans e1⟩
   · by_cases hj:j=i
     · subst hj
       rw[hi]at e1;cases e1
       rw[zN hiσ]at e2
       cases e2
       exact⟨u,r,.inl ⟨hk,by simp⟩⟩
     · rw[zL (Ne.symm hj)]at e2
       obtain⟨u',r',q⟩:=hl j y v' e1 e2 e3
       refine⟨u',r',?_⟩
       rcases q with⟨k,e⟩|⟨k,c,e,z⟩
       · refine .inl ⟨k,?_⟩
         have:y≠x:=λe=>hj (rN hN e1 (e▸hi))
         simp[this,e]
       ·exact .inr ⟨k,c,e,z.sameBut hs (cne y c e)⟩
   · obtain⟨w',z⟩:=I.cell y c e
     exact⟨w',z.sameBut hs (cne y c e)⟩
   · obtain⟨e,n,ne,nf,d⟩:=I.pin p hp
     exact⟨(hs.2 p.1 ne).trans e,n,ne,nf,d⟩
 · have hfn:X.fn x=true:=by
    rcases hf with z|z
    ·exact z
    ·rw[z]at hk;cases hk
   obtain⟨c,hc⟩:=I.ok.has x (.inl hk)
   obtain⟨w',z⟩:=I.cell x c hc
   refine wpAny_storeName_cell I.ok.kind hk hc z (λh' hc' hs=>?_)
   obtain⟨oc,hoc,hocd⟩:=id z
   refine h {s with heap:=h'} ⟨I.ok,I.os,I.bare,⟨λb o e n hb hx=>?_,λb o e n hb hx=>?_,I.base.free,λb o e hx=>?_,I.base.tups,I.base.frzs,I.base.tbls⟩,⟨m,hn.sameBut hs (Ne.symm (cne x c hc)),λj y v' e1 e2 e3=>?_⟩,λy c' e=>?_,I.free,I.freeC,λp hp=>?_,tracked ⟨oc,hoc,I.freeC x c hc⟩ hs,by simpa using I.len⟩ ⟨c,hs,.inr hc⟩
   ·exact(hs.2 b (zD (jh (zr e) (I.ok.cab x c hfn hc)))).trans (I.base.keep b o e n hb hx)
   · obtain⟨sl,e1⟩:=I.base.slot b o e n hb hx
     exact⟨sl,(hs.2 b (zD (jh (zr e) (I.ok.cab x c hfn hc)))).trans e1⟩
   · obtain⟨o',e1⟩:=I.base.there b o e hx
     exact⟨o',(hs.2 b (zD (jh (zr e) (I.ok.cab x c hfn hc)))).trans e1⟩
   · by_cases hj:j=i
     · subst hj
       rw[hi]at e1;cases e1
       rw[zN hiσ]at e2
       cases e2
       exact⟨u,r,.inr ⟨.inl hk,c,hc,hc'⟩⟩
     · rw[zL (Ne.symm hj)]at e2
       obtain⟨u',r',q⟩:=hl j y v' e1 e2 e3
       refine⟨u',r',?_⟩
       rcases q with q|⟨k,c',e,z'⟩
       ·exact .inl q
       · refine .inr ⟨k,c',e,z'.sameBut hs ?_⟩
         rintro rfl
         exact hj (rN hN e1 (I.ok.inj _ _ _ e hc▸hi))
   · by_cases hcc:c'=c
     ·subst hcc;exact⟨_,hc'⟩
     · obtain⟨w2,z2⟩:=I.cell y c' e
       exact⟨w2,z2.sameBut hs hcc⟩
   · obtain⟨e,n,ne,nf,d⟩:=I.pin p hp
     refine⟨(hs.2 p.1 ?_).trans e,n,ne,nf,d⟩
     intro q
     rw[q,hoc]at e
     have q':oc=p.2:=zY e
     exact d w' (by rw[<-q'];exact hocd)
theorem Cp(I:Inv X pins σ H s)(hN:X.N.Nodup)(hi:X.N[i]? =some x)(hx:Loc X.env.scope x)(r:J9 v u)
 (h:∀s',Inv X pins (σ.set i (some v)) H s'->Q () s') (hf:X.fn x=true\/X.env.scope.names.lookup x=some .local):zw M A (storeName X.env x u) Q E s:=
 cV I hN hi hx r (λs' I' _=>h s' I') hf
end
abbrev XK:=zk->Option Addr->Hp->Prop
abbrev St:=List (Option V)
abbrev VK:=V->Hp->Prop
abbrev TE:=St->Hp->VK->Prop
abbrev TT:=St->Hp->(Bool->Hp->Prop)->Prop
abbrev TA:=St->Hp->(List V->Hp->Prop)->Prop
structure bA where
 nx:St->Hp->Prop
 rt:VK
 bk:St->Hp->Prop:=λ_ _=>False
 ct:St->Hp->Prop:=λ_ _=>False
abbrev TS:=bA->St->Hp->Prop
def EP(X:Cx)(pins:PNS)(σ:St)(Q:VK)(u:zk)(s':zv):Prop:=∃v H',Inv X pins σ H' s'/\J9 v u/\Q v H'
def TP(X:Cx)(pins:PNS)(σ:St)(Q:Bool->Hp->Prop)(b:Bool)(s':zv):Prop:=∃H',Inv X pins σ H' s'/\Q b H'
def AP(X:Cx)(pins:PNS)(σ:St)(Q:List V->Hp->Prop)(us:List zk)(s':zv):Prop:=∃vs H',Inv X pins σ H' s'/\v6 vs us/\Q vs H'
theorem EP.elim{X:Cx}{σ:St}{Q:VK}{u:zk}{P:Prop}(h:EP X pins σ Q u s)(k:∀v H,Inv X pins σ H s->J9 v u->Q v H->P):P:=by
 obtain⟨a,b,c,d,e⟩:=h
 exact k a b c d e
theorem TP.elim{X:Cx}{σ:St}{u:Bool}{s:zv}{P:Prop}(h:TP X pins σ Q u s)(k:∀H,Inv X pins σ H s->Q u H->P):P:=by
 obtain⟨b,c,e⟩:=h
 exact k b c e
theorem AP.elim{X:Cx}{σ:St}{u:List zk}{s:zv}{P:Prop}(h:AP X pins σ Q u s)(k:∀v H,Inv X pins σ H s->v6 v u->Q v H->P):P:=by
 obtain⟨a,b,c,d,e⟩:=h
 exact k a b c d e
def SP(X:Cx)(pins:PNS)(D:bA)(f:Flow)(s':zv):Prop:=
 match f with
 | .next=>∃ X1 H',Inv X pins X1 H' s'/\D.nx X1 H'
 | .brk=>∃ X1 H',Inv X pins X1 H' s'/\D.bk X1 H'
 | .cont=>∃ X1 H',Inv X pins X1 H' s'/\D.ct X1 H'
 | .ret u=>∃v X1 H',Inv X pins X1 H' s'/\J9 v u/\D.rt v H'
def PE(X:Cx)(e:Expr)(t:TE):Prop:=
 ∀(pins:PNS) (s:zv) (σ:St) (H:Hp) (Q:VK),Inv X pins σ H s->t σ H Q->zw (zE X.prog X.w) X.A (eval e X.env) (EP X pins σ Q) X.xe s
def PT(X:Cx)(e:Expr)(t:TT):Prop:=
 ∀(pins:PNS) (s:zv) (σ:St) (H:Hp) (Q:Bool->Hp->Prop),Inv X pins σ H s->t σ H Q->zw (zE X.prog X.w) X.A (isTrue e X.env (eval e X.env)) (TP X pins σ Q) X.xe s
def PW(X:Cx)(e:Expr)(t:TT):Prop:=
 ∀(whole:Sem zk) (pins:PNS) (s:zv) (σ:St) (H:Hp) (Q:Bool->Hp->Prop),Inv X pins σ H s->t σ H Q->zw (zE X.prog X.w) X.A (isTrue e X.env whole) (TP X pins σ Q) X.xe s
def PA(X:Cx)(es:List Expr)(t:TA):Prop:=
 ∀(pos:Pos) (pins:PNS) (s:zv) (σ:St) (H:Hp) (Q:List V->Hp->Prop),Inv X pins σ H s->t σ H Q->zw (zE X.prog X.w) X.A (spliced (xf pos (zP es X.env))) (AP X pins σ Q) X.xe s
def PS(X:Cx)(st:Stmt)(t:TS):Prop:=
 ∀(pins:PNS) (s:zv) (σ:St) (H:Hp) (D:bA),Inv X pins σ H s->t D σ H->zw (zE X.prog X.w) X.A (exec st X.env) (SP X pins D) X.xe s
def PSs(X:Cx)(st:List Stmt)(t:TS):Prop:=
 ∀(pins:PNS) (s:zv) (σ:St) (H:Hp) (D:bA),Inv X pins σ H s->t D σ H->zw (zE X.prog X.w) X.A (execs st X.env) (SP X pins D) X.xe s
theorem thn(h:zw M A t Q E s)(hQ:∀a s,Q a s->Q' a s):zw M A t Q' E s:=jz h hQ λ_ _ x=>x
section
variable{X:Cx}
def cN(i:Nat):TE:=λσ H Q=>∃v,σ[i]? =some (some v)/\Q v H
def tC(v:V):TE:=λ_ H Q=>Q v H
theorem GZ(hN:X.N[i]? =some x)(hv:Vis X.env.scope x)(hd:(x==("__debug__" :Str))=false)(hcd:(x==("__classdict__" :Str))=false):PE X (.Name x pos) (cN i):=by
 intro pins s σ H Q I h
 obtain⟨v,e,h⟩:=h
 obtain⟨m,hn,hl⟩:=I.loc
 obtain⟨u,r,l⟩:=hl i x v hN e hv
 have fin:EP X pins σ Q u s:=⟨v,H,I,r,h⟩
 rcases l with⟨hk,hm⟩|⟨hk,c,hc,hcell⟩
 ·exact wpAny_Name (wpAny_loadName_local I.ok.kind hk hn hm fin) hd
 · rcases hk with hk|hk
   ·exact wpAny_Name (wpAny_loadName_cell I.ok.kind hk hc hcell fin) hd
   ·exact wpAny_Name (wpAny_loadName_free I.ok.kind hk hc hcell fin hcd) hd
theorem GM{i j pos}:PE X (.Constant (.int i) j pos) (tC (.int i)):=λ_ _ _ H _ I h=>wpAny_Constant_int ⟨.int i,H,I.tok _,⟨_,rfl⟩,h⟩
theorem QW{b j pos}:PE X (.Constant (.bool b) j pos) (tC (.bl b)):=λ_ _ _ H _ I h=>Constant_bool ⟨.bl b,H,I,rfl,h⟩
theorem KO{j pos}:PE X (.Constant .none j pos) (tC .non):=λ_ _ _ H _ I h=>Constant_none ⟨.non,H,I,rfl,h⟩
theorem DV{x j pos}:PE X (.Constant (.str x) j pos) (tC (.str x)):=λ_ _ _ H _ I h=>Calls.Constant_str ⟨.str x,H,I.tok _,⟨_,rfl⟩,h⟩
def Gl(X:Cx)(x:Str):Prop:=X.env.kindOf x=some .globalImplicit
theorem oH(I:Inv X pins σ H s)(hg:Gl X x)(hm:X.mg x=some u)(h:Q u s)
 (hd:(x==("__debug__" :Str))=false):zw (zE X.prog X.w) X.A (eval (.Name x pos) X.env) Q E s:=
 Xm I.ok.kind hg (Calls.loadGlobal_global (by rw[I.ok.glob];exact I.mod.glob.keeps I.bk) hm h) hd
theorem A5(I:Inv X pins σ H s)(hg:Gl X x)(hm:X.mg x=none)(hv:zX x=some u)(h:Q u s)
 (hn:x≠ "__name__":=by decide) (hd:(x==("__debug__" :Str))=false:=by decide):zw (zE X.prog X.w) X.A (eval (.Name x pos) X.env) Q E s:=by
 obtain⟨mb,h1,h2⟩:=I.mod.blt
 exact Xm I.ok.kind hg (Calls.loadGlobal_builtin (by rw[I.ok.glob];exact I.mod.glob.keeps I.bk) hm (by rw[I.ok.blt];exact h1.keeps I.bk) ((h2 x hn).trans hv) h) hd
theorem Mm(hg:Gl X x)(hm:X.mg x=none)(hv:zX x=some u)(r:J9 v u)(hn:x≠ "__name__")(hd:(x==("__debug__" :Str))=false):PE X (.Name x pos) (tC v):=
 λ_ _ _ H _ I h=>A5 I hg hm hv ⟨v,H,I,r,h⟩ hn hd
variable{a b:Expr}{ta tb:TE}{pos:Pos}
variable{tA tB':TT}{W2:List Expr}
def Mh(t u:TT):TT:=λσ H Q=>t σ H λc H1=>if c=true then u σ H1 Q else Q false H1
def tOr(t u:TT):TT:=λσ H Q=>t σ H λc H1=>if c=true then Q true H1 else u σ H1 Q
def Td(t:TT):TT:=λσ H Q=>t σ H λc H1=>Q (!c) H1
theorem Kf(ha:PT X a tA):PW X (.BoolOp .And [a] pos) tA:=by
 intro wh pins s σ H Q I h
 refine isTrue_and (thn (ha pins s σ H Q I h) λc s1 e=>?_)
 cases c with
 |true=>exact isTrue_and_nil e
 |false=>exact e
theorem wk(ha:PT X a tA):PW X (.BoolOp .Or [a] pos) tA:=by
 intro wh pins s σ H Q I h
 refine isTrue_or (thn (ha pins s σ H Q I h) λc s1 e=>?_)
 cases c with
 |false=>exact isTrue_or_nil e
 |true=>exact e
theorem wx(ha:PT X a tA)(hb:PW X (.BoolOp .And (b::W2) pos) tB'):PW X (.BoolOp .And (a::b::W2) pos) (Mh tA tB'):=by
 intro wh pins s σ H Q I h
 refine isTrue_and (thn (ha pins s σ H _ I h) λc s1 hE1=>hE1.elim λH1 I1 q1=>?_)
 cases c with
 |true=>exact hb wh pins s1 σ H1 Q I1 q1
 |false=>exact⟨H1,I1,q1⟩
theorem Pd(ha:PT X a tA)(hb:PW X (.BoolOp .Or (b::W2) pos) tB'):PW X (.BoolOp .Or (a::b::W2) pos) (tOr tA tB'):=by
 intro wh pins s σ H Q I h
 refine isTrue_or (thn (ha pins s σ H _ I h) λc s1 hE1=>hE1.elim λH1 I1 q1=>?_)
 cases c with
 |true=>exact⟨H1,I1,q1⟩
 |false=>exact hb wh pins s1 σ H1 Q I1 q1
theorem Pk(ha:PT X a tA):PT X (.UnaryOp .Not a pos) (Td tA):=by
 intro pins s σ H Q I h
 exact isTrue_not (ha pins s σ H (λc H1=>Q (!c) H1) I h)
def fJ9(ta:TE):TE:=λσ H Q=>ta σ H λx H1=>∃c,x= .bl c/\Q (.bl (!c)) H1
theorem AY{op}(h:PE X a t):PE X (.BoolOp op [a] pos) t:=λpins s σ H Q I hw=>BoolOp_one (h pins s σ H Q I hw)
theorem fB1(ha:PE X a ta):PE X (.UnaryOp .Not a pos) (fJ9 ta):=by
 intro pins s σ H Q I h
 refine UnaryOp_ (thn (ha pins s σ H _ I h) λv s1 hE1=>hE1.elim λx H1 I1 r1 q1=>?_)
 obtain⟨c,rfl,q1⟩:=q1
 cases r1
 exact not_of (yd ⟨.bl (!c),H1,I1,rfl,q1⟩)
def tIf(t:TT)(ta tb:TE):TE:=λσ H Q=>t σ H λc H1=>if c=true then ta σ H1 Q else tb σ H1 Q
theorem dT4(hc:PT X c tA)(ha:PE X a ta)(hb:PE X b tb):PE X (.IfExp c a b pos) (tIf tA ta tb):=by
 intro pins s σ H Q I h
 refine wpAny_IfExp (thn (hc pins s σ H _ I h) λd s1 hE1=>hE1.elim λH1 I1 q1=>?_)
 cases d with
 |true=>exact ha pins s1 σ H1 Q I1 q1
 |false=>exact hb pins s1 σ H1 Q I1 q1
end
def SqL(K:zh)(H:Hp)(a:Addr)(xs:List V):Prop:=
 Rd H a (.lst xs)\/
  ∃(o:Obj) (its:Array zk) (n:Nat),K.lookup a=some o/\o.cls= .type "list"/\o.dict=none/\o.data= .seq its n/\its.size<=zo/\v6 xs its.toList
def SqT(K:zh)(H:Hp)(a:Addr)(xs:List V):Prop:=
 Rd H a (.tup xs)\/
  ∃(o:Obj) (its:Array zk) (n:Nat),K.lookup a=some o/\o.cls= .type "tuple"/\(o.data,o.dict)= (Data.seq its n,none)/\its.size<=zo/\v6 xs its.toList
def fU1:zk->Option V
 | .none=>some .non
 | .bool b=>some (.bl b)
 | .int i _=>some (.int i)
 | .str x _=>some (.str x)
 | .bytes b _=>some (.byt b)
 | .float b _=>some (.flt b)
 | .ref a=>some (.ref a)
 | .type n=>some (.ty n)
 |_=>none
theorem J9.abs(r:J9 x u):fU1 u=some x:=by
 cases x with
 |non=>cases r;rfl
 |bl _=>cases r;rfl
 |int _=>obtain⟨t,rfl⟩:=r;rfl
 |str _=>obtain⟨t,rfl⟩:=r;rfl
 |byt _=>obtain⟨t,rfl⟩:=r;rfl
 |flt _=>obtain⟨t,rfl⟩:=r;rfl
 |ref _=>cases r;rfl
 |ty _=>cases r;rfl
theorem J9.inj(r:J9 x u)(q:J9 y u):x=y:=zY (r.abs.symm.trans q.abs)
theorem v6.inj(h:v6 xs us)(k:v6 ys us):xs=ys:=by
 induction h generalizing ys with
 |nil=>cases k;rfl
 |cons r t ih=>cases k with
   |cons r' t'=>rw[r.inj r',ih t']
section
theorem SqL.of{K:zh}(h:H a=some (.lst xs)):SqL K H a xs:=.inl (.inl h)
theorem SqT.of{K:zh}(h:H a=some (.tup xs)):SqT K H a xs:=.inl (.inl h)
theorem Inv.list(I:Inv X pins σ H s)(h:SqL X.K H a xs):∃its:List zk,v6 xs its/\PlainL s.heap a its.toArray/\xs.length<=zo:=by
 rcases h with h|⟨o,its,n,hk,hc,hd,hs,hz,r⟩
 · obtain⟨z,its,n,r,e⟩:=h.ok I.hok
   exact⟨its,r,⟨_,n,e,rfl,rfl,rfl⟩,z⟩
 · refine⟨its.toList,r,⟨o,n,I.kIn a o hk,hc,hd,by simpa using hs⟩,?_⟩
   have e:=r.length
   simp only[jK]at e
   lia
theorem Inv.tuple(I:Inv X pins σ H s)(h:SqT X.K H a xs):∃its:List zk,v6 xs its/\Yn s.heap a its.toArray/\xs.length<=zo:=by
 rcases h with h|⟨o,its,n,hk,hc,hs,hz,r⟩
 · obtain⟨z,its,r,p⟩:=h.ok I.hok
   exact⟨its,r,t4.tup p,z⟩
 · refine⟨its.toList,r,⟨o,I.kIn a o hk,hc,n,by simpa using (yL hs).1⟩,?_⟩
   have e:=r.length
   simp only[jK]at e
   lia
theorem Inv.list_inj(I:Inv X pins σ H s)(h:SqL X.K H a xs)(h':SqL X.K H a ys):xs=ys:=by
 obtain⟨its,r,⟨o,n,e,_,_,d⟩,_⟩:=I.list h
 obtain⟨its',r',⟨o',n',e',_,_,d'⟩,_⟩:=I.list h'
 rw[e]at e';cases e'
 rw[d]at d'
 injection d' with d1 _
 have:its=its':=by simpa using congrArg Array.toList d1
 subst this
 exact r.inj r'
theorem Inv.tuple_inj(I:Inv X pins σ H s)(h:SqT X.K H a xs)(h':SqT X.K H a ys):xs=ys:=by
 obtain⟨its,r,⟨o,e,_,n,d⟩,_⟩:=I.tuple h
 obtain⟨its',r',⟨o',e',_,n',d'⟩,_⟩:=I.tuple h'
 rw[e]at e';cases e'
 rw[d]at d'
 injection d' with d1 _
 have:its=its':=by simpa using congrArg Array.toList d1
 subst this
 exact r.inj r'
end
abbrev Cx.wish(X:Cx)(E:VSP):Cx:={X with xe:=E}
abbrev Cx.nox(X:Cx):Cx:=X.wish λ_ _=>False
theorem Cx.Ok.wish{X:Cx}(ok:X.Ok)(E:VSP):(X.wish E).Ok:=
 ⟨ok.mod,ok.kind,ok.glob,ok.blt,ok.above,ok.inj,ok.has,ok.cab,ok.hd,ok.frames,ok.stk,ok.exf,ok.bs,ok.bsz,ok.noex,ok.exfs,ok.funs,ok.frf,ok.gd⟩
theorem Cx.Ok.unwish{X:Cx}(ok:(X.wish E).Ok):X.Ok:=
 ⟨ok.mod,ok.kind,ok.glob,ok.blt,ok.above,ok.inj,ok.has,ok.cab,ok.hd,ok.frames,ok.stk,ok.exf,ok.bs,ok.bsz,ok.noex,ok.exfs,ok.funs,ok.frf,ok.gd⟩
section
theorem Inv.wish(I:Inv X pins σ H s)(E:VSP):Inv (X.wish E) pins σ H s:=⟨I.ok.wish E,I.os,I.bare,I.base,I.loc,I.cell,I.free,I.freeC,I.pin,I.hok,I.len⟩
theorem Inv.unwish(I:Inv (X.wish E) pins σ H s):Inv X pins σ H s:=⟨I.ok.unwish,I.os,I.bare,I.base,I.loc,I.cell,I.free,I.freeC,I.pin,I.hok,I.len⟩
theorem SP.unwish(h:SP (X.wish E) pins D f s'):SP X pins D f s':=by
 cases f with
 |next=>obtain⟨X1,H',I,q⟩:=h;exact⟨X1,H',I.unwish,q⟩
 |brk=>obtain⟨X1,H',I,q⟩:=h;exact⟨X1,H',I.unwish,q⟩
 |cont=>obtain⟨X1,H',I,q⟩:=h;exact⟨X1,H',I.unwish,q⟩
 |ret u=>obtain⟨v,X1,H',I,r,q⟩:=h;exact⟨v,X1,H',I.unwish,r,q⟩
theorem PE.nox(h:PE X.nox e t):PE X e t:=λpins s σ H Q I hw=>
 jz (h pins s σ H Q (I.wish _) hw) (λ_ _ ⟨v,H',I',r,q⟩=>⟨v,H',I'.unwish,r,q⟩) λ_ _ z=>yx z
theorem PT.nox(h:PT X.nox e t):PT X e t:=λpins s σ H Q I hw=>
 jz (h pins s σ H Q (I.wish _) hw) (λ_ _ ⟨H',I',q⟩=>⟨H',I'.unwish,q⟩) λ_ _ z=>yx z
theorem PSs.nox{st:List Stmt}(h:PSs X.nox st t):PSs X st t:=λpins s σ H D I hw=>
 jz (h pins s σ H D (I.wish _) hw) (λ_ _ q=>q.unwish) λ_ _ z=>yx z
end
section
variable{X:Cx}{st:Stmt}{W2:List Stmt}{t u:TS}
def Dh:TS:=λD σ H=>D.nx σ H
def SW(t u:TS):TS:=λD σ H=>t {D with nx:=u D} σ H
theorem Wx:PSs X [] Dh:=λ_ _ σ H _ I h=>Yl ⟨σ,H,I,h⟩
theorem qd(h1:PS X st t)(h2:PSs X W2 u):PSs X (st::W2) (SW t u):=by
 intro pins s σ H D I h
 refine wpAny_execs_cons (thn (h1 pins s σ H {D with nx:=u D} I h) λf s1 q=>?_)
 cases f with
 |next=>
   obtain⟨X1,H',I',q⟩:=q
   exact h2 pins s1 X1 H' D I' q
 |ret v=>exact q
 |brk=>exact q
 |cont=>exact q
theorem rV(h1:PS X st t):PSs X [st] t:=by
 intro pins s σ H D I h
 refine wpAny_execs_cons (thn (h1 pins s σ H D I h) λf s1 q=>?_)
 cases f with
 |next=>exact Yl q
 |ret v=>exact q
 |brk=>exact q
 |cont=>exact q
theorem Inv.quiet(I:Inv X pins σ H s):interactive X.env=false:=by simp[interactive,I.ok.kind]
def Gc(te:TE):TS:=λD σ H=>te σ H λ_ H1=>D.nx σ H1
theorem UY(he:PE X e te)(hs:swapsWith e none pos.line X.env=pure false):PS X (.Expr e pos) (Gc te):=by
 intro pins s σ H D I h
 exact wpAny_Expr_any (thn (he pins s σ H _ I h) λv s1 hE1=>hE1.elim λx H1 I1 r1 q1=>⟨σ,H1,I1,q1⟩) I.quiet hs
def oV(te:TE):TS:=λD σ H=>te σ H D.rt
theorem mV(he:PE X e te):PS X (.Return (some e) pos) (oV te):=by
 intro pins s σ H D I h
 exact wpAny_Return_some (thn (he pins s σ H _ I h) λv s1 hE1=>hE1.elim λx H1 I1 r1 q1=>⟨x,σ,H1,I1,r1,q1⟩)
def Fc(c:TT)(t u:TS):TS:=λD σ H=>c σ H λb H1=>if b=true then t D σ H1 else u D σ H1
theorem RU{tc:TT}(hc:PT X c tc)(ha:PSs X a t)(hb:PSs X b u):PS X (.If c a b pos) (Fc tc t u):=by
 intro pins s σ H D I h
 refine wpAny_If (thn (hc pins s σ H _ I h) λd s1 hE1=>hE1.elim λH1 I1 q1=>?_)
 cases d with
 |true=>exact ha pins s1 σ H1 D I1 q1
 |false=>exact hb pins s1 σ H1 D I1 q1
end
abbrev TG:=V->St->Hp->(St->Hp->Prop)->Prop
abbrev TGs:=List V->St->Hp->(St->Hp->Prop)->Prop
def PG(X:Cx)(target:Expr)(t:TG):Prop:=
 ∀(pins:PNS) (s:zv) (σ:St) (H:Hp) (v:V) (u:zk) (Q:St->Hp->Prop),Inv X pins σ H s->J9 v u->t v σ H Q->
  zw (zE X.prog X.w) X.A (Yc target X.env u) (λ_ s'=>∃ X1 H',Inv X pins X1 H' s'/\Q X1 H') X.xe s
def PGs(X:Cx)(ts:List Expr)(t:TGs):Prop:=
 ∀(pins:PNS) (s:zv) (σ:St) (H:Hp) (vs:List V) (us:List zk) (Q:St->Hp->Prop),Inv X pins σ H s->v6 vs us->t vs σ H Q->
  zw (zE X.prog X.w) X.A (assignInOrder ((xg ts X.env).map (·.2)) us) (λ_ s'=>∃ X1 H',Inv X pins X1 H' s'/\Q X1 H') X.xe s
abbrev TSet:=V->V->V->Hp->(Hp->Prop)->Prop
def vJ(X:Cx)(t:TSet):Prop:=
 ∀(pins:PNS) (s:zv) (σ:St) (H:Hp) (o i v:V) (ov iv u:zk) (Q:Hp->Prop),Inv X pins σ H s->J9 o ov->J9 i iv->J9 v u->t o i v H Q->
  zw (zE X.prog X.w) X.A (setItem ov iv u) (λ_ s'=>∃H',Inv X pins σ H' s'/\Q H') X.xe s
section
def Gv(i:Nat):TG:=λv σ H Q=>Q (σ.set i (some v)) H
theorem eG0(hN:X.N.Nodup)(hi:X.N[i]? =some x)(hx:Loc X.env.scope x)(hf:X.fn x=true\/X.env.scope.names.lookup x=some .local):PG X (.Name x pos) (Gv i):=by
 intro pins s σ H v u Q I r h
 exact wpAny_assign_Name (Cp I hN hi hx r (λs' I'=>⟨_,H,I',h⟩) hf)
def Wb:TGs:=λvs σ H Q=>vs= []/\Q σ H
def HS(t:TG)(u:TGs):TGs:=λvs σ H Q=>∃v r,vs=v::r/\t v σ H λX1 H'=>u r X1 H' Q
theorem Kg:PGs X [] Wb:=by
 intro pins s σ H vs us Q I r h
 obtain⟨e,h⟩:=h
 subst e
 cases r
 exact assignInOrder_nil ⟨σ,H,I,h⟩
theorem dS7(h1:PG X e t)(h2:PGs X es u)
 (hs:(xg (e::es) X.env).map (·.2)=Yc e X.env::(xg es X.env).map (·.2)):PGs X (e::es) (HS t u):=by
 intro pins s σ H vs us Q I r h
 obtain⟨v,vr,e1,h⟩:=h
 subst e1
 cases r with
 |cons r rr=>
   rw[hs]
   refine assignInOrder_cons (thn (h1 pins s σ H _ _ _ I r h) λ_ s1 ⟨WZ,H1,I1,q1⟩=>?_)
   exact h2 pins s1 WZ H1 _ _ Q I1 rr q1
def Rx(K:zh)(n:Nat)(t:TGs):TG:=λv σ H Q=>∃a xs,v= .ref a/\SqT K H a xs/\xs.length=n/\t xs σ H Q
theorem eR6(hc:X.calm=true)(h:PGs X es t)
 (hn:(xg es X.env).length=n) (hst:(xg es X.env).findIdx? (·.1)=none):PG X (.Tuple es k pos) (Rx X.K n t):=by
 intro pins s σ H v u Q I r hw
 obtain⟨a,xs,e1,hq,hl,hw⟩:=hw
 subst e1
 cases r
 obtain⟨its,rv,ht,hz⟩:=I.tuple hq
 refine assign_Tuple_tuple (I.ok.hd hc) ht (by simp[hn,<-hl,rv.length]) hst λh' hx=>?_
 have I1:Inv X pins σ H {s with heap:=h'}:=I.kept (t':=s.toks) λb o e=>hx b o (zD (zr e)) e
 exact h pins _ σ H xs _ Q I1 (by simpa using rv) hw
def qS(to ti:TE)(t:TSet):TG:=λv σ H Q=>to σ H λo H1=>ti σ H1 λi H2=>t o i v H2 λH3=>Q σ H3
theorem sW(ho:PE X o to)(hi:PE X i ti)(hs:vJ X t)
 (ha:∀v,Yc (.Subscript o i pos) X.env v= (do
   let ov <-YA [v] (eval o X.env)
   let iv <-YA [v,ov] (eval i X.env)
   Jd pos
   YA [v,ov,iv] (setItem ov iv v)
   release [v,ov,iv] [])):PG X (.Subscript o i pos) (qS to ti t):=by
 intro pins s σ H v u Q I r h
 rw[ha]
 refine za (jI (thn (ho pins s σ H _ I h) λov s1 ⟨x,H1,I1,r1,q1⟩=>?_))
 refine za (jI (thn (hi pins s1 σ H1 _ I1 q1) λiv s2 ⟨y,H2,I2,r2,q2⟩=>?_))
 refine za (ZH (za (jI (thn (hs pins s2 σ H2 x y v ov iv u _ I2 r1 r2 r q2) λ_ s3 ⟨H3,I3,q3⟩=>?_))))
 exact wpAny_release ⟨σ,H3,I3,q3⟩
def bU(te:TE)(g:TG):TS:=λD σ H=>te σ H λx H1=>g x σ H1 D.nx
theorem Mb{g:TG}(he:PE X e te)(hg:PG X tg g)(hs:swapsWithSole [tg] e pos.line X.env=pure false)(hw:swappedStores [tg] e X.env=pure none)
 (h1:(xg [tg] X.env).map (·.2)= [Yc tg X.env]):PS X (.Assign [tg] e pos) (bU te g):=by
 intro pins s σ H D I h
 refine wpAny_Assign_stores (thn (he pins s σ H _ I h) λv s1 hE1=>hE1.elim λx H1 I1 r1 q1=>?_) hs hw
 rw[h1]
 exact thn (hg pins s1 σ H1 x v _ I1 r1 q1) λ_ s2 q=>q
end
section
def kY(c:TT)(tb:TS):TS:=λD σ H=>∃W:Nat->St->Hp->Prop,(∃m,W m σ H)/\∀m σ H,W m σ H->
 c σ H λb H1=>if b=true then ∃N:St->Hp->Prop,(∀ X1 H',N X1 H'->∃m',m'<m/\W m' X1 H')/\tb {D with nx:=N,ct:=N,bk:=D.nx} σ H1 else D.nx σ H1
theorem uT{tc:TT}{tb:TS}(hp:PassesOwn (zE X.prog X.w) X.A X.env X.xe)(hc:PT X c tc)(hb:PSs X body tb):PS X (.While c body [] pos) (kY tc tb):=by
 intro pins s σ H D I h
 obtain⟨W,⟨m0,w0⟩,turn⟩:=h
 refine wpAny_While (codeAny_whileLoop (λn s'=>∃ X1 H',Inv X pins X1 H' s'/\W n X1 H') ?_ m0 ⟨σ,H,I,w0⟩)
 rintro n s1 ⟨WZ,H1,I1,w1⟩
 refine wpAny_passesOwn hp (thn (hc pins s1 WZ H1 _ I1 (turn n WZ H1 w1)) λb s2 hE1=>hE1.elim λH2 I2 q2=>?_)
 cases b with
 |true=>
   obtain⟨N,hN,q2⟩:=q2
   rw[if_pos rfl]
   refine wpAny_passesOwn hp (thn (hb pins s2 WZ H2 _ I2 q2) λf s3 q3=>?_)
   cases f with
   |next=>
     obtain⟨WN,H3,I3,n3⟩:=q3
     obtain⟨m',hm,w3⟩:=hN WN H3 n3
     exact⟨m',hm,WN,H3,I3,w3⟩
   |cont=>
     obtain⟨WN,H3,I3,n3⟩:=q3
     obtain⟨m',hm,w3⟩:=hN WN H3 n3
     exact⟨m',hm,WN,H3,I3,w3⟩
   |brk=>exact q3
   |ret v=>exact q3
 |false=>
   rw[if_neg jc]
   exact Yl ⟨WZ,H2,I2,q2⟩
end
structure It where
 go:Nat->Hp->Prop
 yld:Nat->Hp->V->Hp->Prop
 stop:Nat->Hp->Prop
def B1(X:Cx)(pins:PNS)(H:Hp)(b:Addr):Prop:=
 H b=none/\b≠X.env.locals/\b∉X.fs/\(b∈X.ex\/X.WX.heap.objs.size<=b)/\(∀x c,X.env.cells.lookup x=some c->c≠b)/\∀p∈X.pn++pins,p.1≠b
theorem Inv.fpOk(I:Inv X pins σ H s)(hb:s.heap.objs.size<=b)(hn:H' b=none):B1 X pins H' b:=by
 refine⟨hn,yb (jh I.lt hb),I.nofs hb,.inr (zG I.sz hb),λx c e z=>?_,λp hp z=>?_⟩
 · obtain⟨v,q⟩:=I.cell x c e
   exact absurd (jh q.lt (by rw[z];exact hb)) (yt _)
 ·exact absurd (jh (zr (I.pin p hp).1) (by rw[z];exact hb)) (yt _)
inductive TIt(X:Cx)(pins:PNS)(σ:St)(J:It)(fp:List Addr)(tn:Nat->Heap->Prop)(i:Nat)(H:Hp)(u:zk)(s2:zv):Prop
 |mk (x:V) (H':Hp) (I:Inv X pins σ H' s2) (r:J9 x u) (y:J.yld i H x H') (st:tn (i+1) s2.heap) (fr:∀b∈fp,H' b=none)
structure F7(P:zZ)(w:jg)(K:zh)(tg:Expr)(J:It)(fp:List Addr)(it:Addr)(tn:Nat->Heap->Prop):Prop where
 mem:it∈fp
 obj:∀i h,tn i h->∀b∈fp,∃o,h.get? b=some o/\∀v,o.data≠ .cell v
 keep:∀i h h',tn i h->(∀b∈fp,∀o,h.get? b=some o->h'.get? b=some o)->tn i h'
 item:∀(X:Cx),X.prog=P->X.w=w->X.K=K->X.calm=true->∀(i:Nat) (pins:PNS) (s:zv) (σ:St) (H:Hp) (E:VSP),Inv X pins σ H s->(∀b∈fp,B1 X pins H b)->tn i s.heap->J.go i H->
  zw (zE P w) X.A (Zt (.ref it)) (λr s1=>∃u,r=some u/\
   zw (zE P w) X.A (xD tg (.ref it) u) (λ_ s2=>TIt X pins σ J fp tn i H u s2) E s1) E s
 done:∀(X:Cx),X.prog=P->X.w=w->X.K=K->X.calm=true->∀(i:Nat) (pins:PNS) (s:zv) (σ:St) (H:Hp) (E:VSP),Inv X pins σ H s->(∀b∈fp,B1 X pins H b)->tn i s.heap->J.stop i H->
  zw (zE P w) X.A (Zt (.ref it)) (λr s1=>r=none/\Inv X pins σ H s1) E s
 self:∀(A:jr) (i:Nat) (s:zv) (Q:VSP) (E:VSP),tn i s.heap->Q (.ref it) s->zw (zE P w) A (Jk (.ref it)) Q E s
abbrev TI:=St->Hp->(It->Hp->Prop)->Prop
inductive PIE(X:Cx)(pins:PNS)(σ:St)(tg:Expr)(R:It->Hp->Prop)(itv:zk)(s2:zv):Prop
 |mk (it:Addr) (fp:List Addr) (tn:Nat->Heap->Prop) (J:It) (H':Hp) (e:itv= .ref it) (I:Inv X pins σ H' s2) (T:F7 X.prog X.w X.K tg J fp it tn) (st:tn 0 s2.heap) (f:∀b∈fp,B1 X pins H' b) (r:R J H')
def PI(X:Cx)(tg iter:Expr)(wi:TI):Prop:=
 ∀(pins:PNS) (s:zv) (σ:St) (H:Hp) (R:It->Hp->Prop),Inv X pins σ H s->wi σ H R->
  zw (zE X.prog X.w) X.A (eval iter X.env) (λv s1=>zw (zE X.prog X.w) X.A (Jk v) (PIE X pins σ tg R) X.xe s1) X.xe s
theorem sB(ho:s.heap.get? it=some o)(hc:o.cls= .type n)(hd:o.data= .fields vs)
 (hn: ["enumerate", "zip", "dict_itemiterator", "dict_reverseitemiterator", "odict_iterator", "itertools.zip_longest", "itertools.pairwise"].contains n=false) (hQ:Q () s):zw M A (xD tg (.ref it) u) Q E s:=by
 unfold xD
 cases tg<;>first
  |exact zp hQ
  | (cases u <;> first
      |exact zp hQ
      | (refine za (wpAny_load ho ?_)
         rw[hc,hd]
         show zw M A (if (["enumerate", "zip", "dict_itemiterator", "dict_reverseitemiterator", "odict_iterator", "itertools.zip_longest", "itertools.pairwise"].contains n&&vs[0]? == some (Xa _))=true then _ else _) Q E s
         rw[if_neg (by intro h;rw[hn,Bool.false_and]at h;cases h)]
         exact zp hQ))
def Itl(K:zh)(a:Addr):It:=
 ⟨λi H=>∃xs x,SqL K H a xs/\xs[i]? =some x,λi H x H'=>H'=H/\∀xs,SqL K H a xs->xs[i]? =some x,λi H=>∃xs,SqL K H a xs/\xs.length<=i⟩
def Itt(K:zh)(a:Addr):It:=
 ⟨λi H=>∃xs x,SqT K H a xs/\xs[i]? =some x,λi H x H'=>H'=H/\∀xs,SqT K H a xs->xs[i]? =some x,λi H=>∃xs,SqT K H a xs/\xs.length<=i⟩
def Itr(lo:Int)(n:Nat):It:=⟨λi _=>i<n,λi H x H'=>H'=H/\x= .int (lo+i),λi _=>n<=i⟩
theorem Wz{w:jg}{K:zh}{tg:Expr}(a it:Addr):F7 P w K tg (Itl K a) [it] it (λi h=>h.IsListIter it a i) where
 mem:=by simp
 obj:=λi h st b hb=>by
  have e:b=it:=by simpa using hb
  subst e
  obtain⟨o,e,c,d⟩:=st
  exact⟨o,e,λv z=>by rw[d]at z;cases z⟩
 keep:=λi h h' st k=>st.at λo e=>k it (by simp) o e
 item:=by
  intro X hP hw hK hc i pins s σ H E I hf st hg
  subst hP hw hK
  obtain⟨xs,x,hq,hx⟩:=hg
  obtain⟨its,rv,p,hz⟩:=I.list hq
  obtain⟨u,hu,ru⟩:=rv.get hx
  obtain⟨f0,f1,f2,f3,f4,f5⟩:=hf it (by simp)
  refine wpAny_pyNext_list_item st p.isList (x:=u) (by simpa using hu) λh' st' sb=>?_
  have I1:Inv X pins σ H {s with heap:=h'}:=I.turned (t':=s.toks) (λb o hb e=>(sb.2 b hb).trans e) f0 f1 f3 f4 f5
  obtain⟨o,e,c,d⟩:=id st'
  exact⟨u,rfl,sB (s:={s with heap:=h'}) e c d (by decide) ⟨x,H,I1,ru,⟨rfl,λys hy=>by rw[I.list_inj hy hq];exact hx⟩,st',λb hb=>(hf b hb).1⟩⟩
 done:=by
  intro X hP hw hK hc i pins s σ H E I hf st hg
  subst hP hw hK
  obtain⟨xs,hq,hx⟩:=hg
  obtain⟨its,rv,p,hz⟩:=I.list hq
  obtain⟨f0,f1,f2,f3,f4,f5⟩:=hf it (by simp)
  have hl:=rv.length
  exact wpAny_pyNext_list_end (I.ok.hd hc) st p.isList (by simp;lia) λh' eb=>⟨rfl,I.turned (t':=s.toks) (λb o hb e=>eb b o hb e) f0 f1 f3 f4 f5⟩
 self:=λ_ _ _ _ _ st h=>wpAny_pyIter_listiter st h
theorem Gp{w:jg}{K:zh}{tg:Expr}(a it:Addr):F7 P w K tg (Itt K a) [it] it (λi h=>h.IsTupleIter it a i) where
 mem:=by simp
 obj:=λi h st b hb=>by
  have e:b=it:=by simpa using hb
  subst e
  obtain⟨o,e,c,d⟩:=st
  exact⟨o,e,λv z=>by rw[d]at z;cases z⟩
 keep:=λi h h' st k=>st.at λo e=>k it (by simp) o e
 item:=by
  intro X hP hw hK hc i pins s σ H E I hf st hg
  subst hP hw hK
  obtain⟨xs,x,hq,hx⟩:=hg
  obtain⟨its,rv,p,hz⟩:=I.tuple hq
  obtain⟨u,hu,ru⟩:=rv.get hx
  obtain⟨f0,f1,f2,f3,f4,f5⟩:=hf it (by simp)
  refine wpAny_pyNext_tuple_item st (show s.heap.IsTuple a its.toArray from p) (x:=u) (by simpa using hu) λh' st' sb=>?_
  have I1:Inv X pins σ H {s with heap:=h'}:=I.turned (t':=s.toks) (λb o hb e=>(sb.2 b hb).trans e) f0 f1 f3 f4 f5
  obtain⟨o,e,c,d⟩:=id st'
  exact⟨u,rfl,sB (s:={s with heap:=h'}) e c d (by decide) ⟨x,H,I1,ru,⟨rfl,λys hy=>by rw[I.tuple_inj hy hq];exact hx⟩,st',λb hb=>(hf b hb).1⟩⟩
 done:=by
  intro X hP hw hK hc i pins s σ H E I hf st hg
  subst hP hw hK
  obtain⟨xs,hq,hx⟩:=hg
  obtain⟨its,rv,p,hz⟩:=I.tuple hq
  obtain⟨f0,f1,f2,f3,f4,f5⟩:=hf it (by simp)
  have hl:=rv.length
  exact wpAny_pyNext_tuple_end (I.ok.hd hc) st (show s.heap.IsTuple a its.toArray from p) (by simp;lia) λh' eb=>⟨rfl,I.turned (t':=s.toks) (λb o hb e=>eb b o hb e) f0 f1 f3 f4 f5⟩
 self:=λ_ _ _ _ _ st h=>wpAny_pyIter_tupleiter st h
theorem qb{w:jg}{K:zh}{tg:Expr}(it:Addr)(lo:Int)(n:Nat):F7 P w K tg (Itr lo n) [it] it (λi h=>IsRangeIter h it (lo+(i:Nat)*1) ((n:Int)-(i:Nat)) 1) where
 mem:=by simp
 obj:=λi h st b hb=>by
  have e:b=it:=by simpa using hb
  subst e
  exact⟨_,st,λv z=>by
   have z':Data.fields _=Data.cell v:=z
   cases z'⟩
 keep:=λi h h' st k=>k it (by simp) _ st
 item:=by
  intro X hP hw hK hc i pins s σ H E I hf st hg
  subst hP hw hK
  obtain⟨f0,f1,f2,f3,f4,f5⟩:=hf it (by simp)
  have W:=Walks.range (prog:=X.prog) (w:=X.w) (I.ok.hd hc) it lo 1 n
  refine W.item i s _ _ hg st λv h' tk hv st' kk=>?_
  obtain⟨t,rfl⟩:=hv
  have I1:Inv X pins σ H {s with heap:=h',toks:=tk}:=I.turned (λb o hb e=>kk b o (by simpa using hb) e) f0 f1 f3 f4 f5
  refine⟨_,rfl,sB (s:={s with heap:=h',toks:=tk}) (n:= "range_iterator") st' rfl rfl (by decide) ⟨.int (lo+i),H,I1,⟨t,?_⟩,⟨rfl,rfl⟩,st',λb hb=>(hf b hb).1⟩⟩
  rw[Int.mul_one]
 done:=by
  intro X hP hw hK hc i pins s σ H E I hf st hg
  subst hP hw hK
  obtain⟨f0,f1,f2,f3,f4,f5⟩:=hf it (by simp)
  exact wpAny_pyNext_range_end (I.ok.hd hc) st (by have:n<=i:=hg;lia) λh' eb=>⟨rfl,I.turned (t':=s.toks) (λb o hb e=>eb b o hb e) f0 f1 f3 f4 f5⟩
 self:=λ_ _ _ _ _ st h=>wpAny_pyIter_rangeiter st h
section
theorem dO8{σ:St}{H:Hp}{s:zv}{R:It->Hp->Prop}{lo hi:Int}{t u v:Tok}{tk:Nat}(I:Inv X pins σ H s)(h1: -(2 ^ 62)<=lo)(h2:lo<2 ^ 62)(h3: -(2 ^ 62)<=hi)(h4:hi<2 ^ 62)
 (q:R (Itr lo (hi-lo).toNat) H):zw (zE X.prog X.w) X.A (Jk (.ref s.heap.objs.size)) (PIE X pins σ tg R) E {s with heap:=s.heap.push {cls:=.type "range",data:=.fields #[.int lo t,.int hi u,.int 1 v]},toks:=tk}:=by
 refine wpAny_pyIter_range (IsRange.new ..) (small_one h1 h2 h3 h4) ?_
 have I1:Inv X pins σ H {s with heap:=s.heap.push {cls:=.type "range",data:=.fields #[.int lo t,.int hi u,.int 1 v]},toks:=tk}:=I.kept λb o e=>zd _ e
 refine⟨(s.heap.push {cls:=.type "range",data:=.fields #[.int lo t,.int hi u,.int 1 v]}).objs.size, [(s.heap.push {cls:=.type "range",data:=.fields #[.int lo t,.int hi u,.int 1 v]}).objs.size],_,_,H,rfl,
  I1.kept (t':=tk) λb o e=>zd _ e,qb _ lo (hi-lo).toNat,?_,λb hb=>?_,q⟩
 · have e1:lo+((0:Nat):Int)*1=lo:=by simp
   have e2:(((hi-lo).toNat:Nat):Int)-((0:Nat):Int)=Builtin.Range.rangeSize lo hi 1:=by rw[rangeSize_one];split<;>lia
   show IsRangeIter _ _ (lo+((0:Nat):Int)*1) ((((hi-lo).toNat:Nat):Int)-((0:Nat):Int)) 1
   rw[e1,e2]
   exact zq _ rfl
 · have e:b= (s.heap.push {cls:=.type "range",data:=.fields #[.int lo t,.int hi u,.int 1 v]}).objs.size:=by simpa using hb
   subst e
   exact I1.fpOk (zn _) (I1.hok.fresh (zn _))
def cW(ta:TA):TI:=λσ H R=>ta σ H λvs H1=>∃j:Int,vs= [.int j]/\ -(2 ^ 62)<=j/\j<2 ^ 62/\R (Itr 0 j.toNat) H1
theorem hZ{ta:TA}(hg:Gl X "range")(hm:X.mg "range" =none)(ha:PA X [a] ta)(hs:zP [a] X.env= [(false,eval a X.env)]):PI X tg (.Call (.Name "range" p) [a] [] pos) (cW ta):=by
 intro pins s σ H R I h
 refine Call_ (A5 I hg hm boot_range (ym (thn (ha pos pins s σ H _ I h) λus s1 hE1=>hE1.elim λvs H1 I1 r1 q1=>?_) hs rfl))
 obtain⟨j,e,q1,q2,q⟩:=q1
 subst e
 cases r1 with
 |cons r rr=>
   cases rr
   obtain⟨t,rfl⟩:=r
   exact call_range_1 (dO8 I1 (by lia) (by lia) q1 q2 (by simpa using q))
def QS(wi:TI)(g:TG)(tb:TS):TS:=λD σ H=>wi σ H λJ H1=>∃W:Nat->Nat->St->Hp->Prop,(∃m,W 0 m σ H1)/\∀i m σ H,W i m σ H->
 (J.stop i H/\D.nx σ H)\/(J.go i H/\∃N:St->Hp->Prop,(∀ X1 H',N X1 H'->∃m',m'<m/\W (i+1) m' X1 H')/\∀x H',J.yld i H x H'->g x σ H' λσ2 H2=>tb {D with nx:=N,ct:=N,bk:=D.nx} σ2 H2)
def bD(fp:List Addr)(h:Heap):PNS:=fp.filterMap λb=>(h.get? b).map λo=>(b,o)
theorem LA(hb:b∈fp)(e:h.get? b=some o):(b,o)∈bD fp h:=List.mem_filterMap.mpr ⟨b,hb,by rw[e];rfl⟩
theorem SZ(hp:p∈bD fp h):p.1∈fp/\h.get? p.1=some p.2:=by
 obtain⟨b,hb,e⟩:=List.mem_filterMap.mp hp
 cases q:h.get? b with
 |none=>rw[q]at e;cases e
 |some o=>
   rw[q]at e
   have e':(b,o)=p:=zY e
   subst e'
   exact⟨hb,q⟩
theorem Inv.pinned(I:Inv X pins σ H s)(hf:∀b∈fp,B1 X pins H b)(ho:∀b∈fp,∃o,s.heap.get? b=some o/\∀v,o.data≠ .cell v):Inv X (pins++bD fp s.heap) σ H s:=
 I.pins_of λp hp=>(zW.mp hp).elim (λz=>I.pin p (zJ _ z)) λz=>by
  obtain⟨hb,e⟩:=SZ z
  obtain⟨f0,f1,f2,_⟩:=hf p.1 hb
  obtain⟨o,e',d⟩:=ho p.1 hb
  rw[e]at e';cases e'
  exact⟨e,f0,f1,f2,d⟩
theorem Inv.unpinned(I:Inv X (pins++pl) σ H s):Inv X pins σ H s:=I.pins_of λp hp=>I.pin p (zJ _ (yF _ hp))
inductive FK(X:Cx)(pins:PNS)(fp:List Addr)(tn:Nat->Heap->Prop)(W:Nat->Nat->St->Hp->Prop)(n:Nat)(s':zv):Prop
 |mk (i:Nat) (X1:St) (H':Hp) (I:Inv X pins X1 H' s') (st:tn i s'.heap) (fr:∀b∈fp,H' b=none) (w:W i n X1 H')
theorem IY{body:List Stmt}{g:TG}{tb:TS}{pins:PNS}{D:bA}{it:Addr}{fp:List Addr}{tn:Nat->Heap->Prop}{J:It}(hp:∀e s,X.xe e s->EE e s)(hc:X.calm=true)(hg:PG X tg g)(hb:PSs X body tb)
 (T:F7 X.prog X.w X.K tg J fp it tn) (stat:∀ {H':Hp},(∀b∈fp,H' b=none)->∀b∈fp,B1 X pins H' b)
 (turn:∀i m σ H,W i m σ H->
 (J.stop i H/\D.nx σ H)\/(J.go i H/\∃N:St->Hp->Prop,(∀ X1 H',N X1 H'->∃m',m'<m/\W (i+1) m' X1 H')/\∀x H',J.yld i H x H'->g x σ H' λσ2 H2=>tb {D with nx:=N,ct:=N,bk:=D.nx} σ2 H2))
   {n:Nat} {s3:zv} (h3:FK X pins fp tn W n s3) {NX:zv->Prop} (nx:∀m s,m<n->FK X pins fp tn W m s->NX s):
   zw (zE X.prog X.w) X.A (Zt (.ref it)) (λr s1=>match r with
    |none=>zw (zE X.prog X.w) X.A (execs [] X.env) (λf s2=>SP X pins D f s2) EE s1
    | some v => zw (zE X.prog X.w) X.A (xD tg (.ref it) v) (λ_ s2 => zw (zE X.prog X.w) X.A (Yc tg X.env v) (λ_ s4 => zw (zE X.prog X.w) X.A (execs body X.env) (λf s5 => match f with
       | .next| .cont=>NX s5
       | .brk=>SP X pins D .next s5
       | .ret v=>SP X pins D (.ret v) s5) EE s4) EE s2) EE s1) EE s3:=by
 obtain⟨i,WN,H3,I3,st3,fr3,w3⟩:=h3
 rcases turn i n WN H3 w3 with⟨stop,qn⟩|⟨go,N,hN,step⟩
 · refine jz (T.done X rfl rfl rfl hc i pins s3 WN H3 X.xe I3 (stat fr3) st3 stop) (λr s4 z1=>?_) hp
   obtain⟨hr,I4⟩:=z1
   subst hr
   exact Yl ⟨WN,H3,I4,qn⟩
 · refine jz (T.item X rfl rfl rfl hc i pins s3 WN H3 X.xe I3 (stat fr3) st3 go) (λr s4 z2=>?_) hp
   obtain⟨u,hr,h4⟩:=z2
   subst hr
   refine jz h4 (λ_ s5 z3=>?_) hp
   obtain⟨x,H5,I5,r5,y5,st5,fr5⟩:=z3
   have I5':=I5.pinned (stat fr5) (T.obj _ _ st5)
   refine jz (hg _ s5 WN H5 x u _ I5' r5 (step x H5 y5)) (λ_ s6 z4=>?_) hp
   obtain⟨WQ,H6,I6,q6⟩:=z4
   refine jz (hb _ s6 WQ H6 _ I6 q6) (λf s7 q7=>?_) hp
   have again:∀ {WM:St} {H7:Hp},Inv X (pins++bD fp s5.heap) WM H7 s7->N WM H7->NX s7:=λ{WM H7} I7 n7=>by
    obtain⟨m',hm,w7⟩:=hN WM H7 n7
    refine nx m' _ hm ⟨i+1,WM,H7,I7.unpinned,T.keep _ _ _ st5 λb hb o e=>(I7.pin (b,o) (zJ _ (zJ _ (LA hb e)))).1,λb hb=>?_,w7⟩
    obtain⟨o,e,d⟩:=T.obj _ _ st5 b hb
    exact(I7.pin (b,o) (zJ _ (zJ _ (LA hb e)))).2.1
   cases f with
   |next=>obtain⟨WM,H7,I7,n7⟩:=q7;exact again I7 n7
   |cont=>obtain⟨WM,H7,I7,n7⟩:=q7;exact again I7 n7
   |brk=>obtain⟨WM,H7,I7,q7⟩:=q7;exact⟨WM,H7,I7.unpinned,q7⟩
   |ret v=>obtain⟨x7,WM,H7,I7,r7,q7⟩:=q7;exact⟨x7,WM,H7,I7.unpinned,r7,q7⟩
theorem ES(hp:PassesOwn (zE X.prog X.w) X.A X.env X.xe)(hc:X.calm=true)(hi:PI X tg iter wi)(hg:PG X tg g)(hb:PSs X body tb)
 (hs:∀x,yJ iter X.env x=pure x):PS X (.For tg iter body [] pos) (QS wi g tb):=by
 intro pins s σ H D I h
 refine wpAny_For (thn (hi pins s σ H _ I h) λv s1 h1=>thn h1 λitv s2 h2=>?_) hs
 obtain⟨it,fp,tn,J,H2,e,I2,T,st2,f2,W,⟨m0,w0⟩,turn⟩:=h2
 subst e
 -- what stays true of the iterator's objects through the loop
 have stat:∀ {H':Hp},(∀b∈fp,H' b=none)->∀b∈fp,B1 X pins H' b:=λhn b hb=>⟨hn b hb,(f2 b hb).2⟩
 exact codeAny_forLoop_any (FK X pins fp tn W) (λn s3 h3=>IY hp hc hg hb T stat turn h3 λm s h1 h2=>⟨m,h1,h2⟩) m0 ⟨0,σ,H2,I2,st2,λb hb=>(f2 b hb).1,w0⟩
end
abbrev R2:=V->V->Hp->VK->Prop
def OpR(X:Cx)(f:zk->zk->Sem zk)(r:R2):Prop:=
 ∀(pins:PNS) (s:zv) (σ:St) (H:Hp) (x y:V) (v u:zk) (Q:VK),Inv X pins σ H s->J9 x v->J9 y u->r x y H Q->
  zw (zE X.prog X.w) X.A (f v u) (EP X pins σ Q) X.xe s
def UnR(X:Cx)(f:zk->Sem zk)(r:V->Hp->VK->Prop):Prop:=
 ∀(pins:PNS) (s:zv) (σ:St) (H:Hp) (x:V) (v:zk) (Q:VK),Inv X pins σ H s->J9 x v->r x H Q->
  zw (zE X.prog X.w) X.A (f v) (EP X pins σ Q) X.xe s
def F1(X:Cx)(f:zk)(r:List V->Hp->VK->Prop):Prop:=
 ∀(pins:PNS) (s:zv) (σ:St) (H:Hp) (xs:List V) (us:List zk) (Q:VK),Inv X pins σ H s->v6 xs us->r xs H Q->
  zw (zE X.prog X.w) X.A (call f us) (EP X pins σ Q) X.xe s
def ET(X:Cx)(r:V->Hp->(Bool->Hp->Prop)->Prop):Prop:=
 ∀(pins:PNS) (s:zv) (σ:St) (H:Hp) (x:V) (v:zk) (Q:Bool->Hp->Prop),Inv X pins σ H s->J9 x v->r x H Q->
  zw (zE X.prog X.w) X.A (truthy v) (TP X pins σ Q) X.xe s
def tOp(r:R2)(ta tb:TE):TE:=λσ H Q=>ta σ H λx H1=>tb σ H1 λy H2=>r x y H2 Q
def tUn(r:V->Hp->VK->Prop)(ta:TE):TE:=λσ H Q=>ta σ H λx H1=>r x H1 Q
def rI(C:Int->Int->Prop)(g:Int->Int->V):R2:=λx y H Q=>∃i j,x= .int i/\y= .int j/\C i j/\Q (g i j) H
def A8(g:Int->Int->V):R2:=λx y H Q=>∃i j,x= .int i/\y= .int j/\Q (g i j) H
def rU(g:Int->V):V->Hp->VK->Prop:=λx H Q=>∃i,x= .int i/\Q (g i) H
section
theorem aI(ha:PE X a ta)(hb:PE X b tb){pins:PNS}{s:zv}{σ:St}{H:Hp}{R:V->V->Hp->Prop}(I:Inv X pins σ H s)
 (h:ta σ H λx H1=>tb σ H1 λy H2=>R x y H2) {f:zk->zk->Sem zk}
 (hf:∀v u s2 x y H2,Inv X pins σ H2 s2->J9 x v->J9 y u->R x y H2->zw (zE X.prog X.w) X.A (f v u) Q X.xe s2):
 zw (zE X.prog X.w) X.A (eval a X.env) (λv W1=>zw (zE X.prog X.w) X.A (eval b X.env) (λu s₂=>zw (zE X.prog X.w) X.A (f v u) Q X.xe s₂) X.xe W1) X.xe s:=by
 refine thn (ha pins s σ H _ I h) λv s1 hE1=>hE1.elim λx H1 I1 r1 q1=>?_
 refine thn (hb pins s1 σ H1 _ I1 q1) λu s2 hE1=>hE1.elim λy H2 I2 r2 q2=>?_
 exact hf v u s2 x y H2 I2 r1 r2 q2
theorem rH(ho:OpR X (jH op) r)(ha:PE X a ta)(hb:PE X b tb):PE X (.BinOp a op b pos) (tOp r ta tb):=by
 intro pins s σ H Q I h
 exact wpAny_BinOp (aI ha hb I h λv u s2 x y H2 I2 rx ry q=>ho pins s2 σ H2 x y v u Q I2 rx ry q)
theorem RS(ho:UnR X (unaryOp op) r)(ha:PE X a ta):PE X (.UnaryOp op a pos) (tUn r ta):=by
 intro pins s σ H Q I h
 exact UnaryOp_ (thn (ha pins s σ H _ I h) λv s1 hE1=>hE1.elim λx H1 I1 r1 q1=>ho pins s1 σ H1 x v Q I1 r1 q1)
theorem opI{C:Int->Int->Prop}{g:Int->Int->Int}
 (rule:∀(i j:Int) (t u:Tok) (s:zv) Q (E:VSP),C i j->Q (.int (g i j) s.toks) {s with toks:=s.toks+1}->zw (zE X.prog X.w) X.A (f (.int i t) (.int j u)) Q E s):
 OpR X f (rI C λi j=>.int (g i j)):=by
 intro pins s σ H x y v u Q I rx ry h
 obtain⟨i,j,rfl,rfl,hc,q⟩:=h
 obtain⟨t,rfl⟩:=rx
 obtain⟨t',rfl⟩:=ry
 exact rule i j t t' s _ _ hc ⟨.int (g i j),H,I.tok _,⟨_,rfl⟩,q⟩
theorem cM{g:Int->Int->Int}
 (rule:∀(i j:Int) (t u:Tok) (s:zv) Q (E:VSP),Q (.int (g i j) s.toks) {s with toks:=s.toks+1}->zw (zE X.prog X.w) X.A (f (.int i t) (.int j u)) Q E s):
 OpR X f (A8 λi j=>.int (g i j)):=by
 intro pins s σ H x y v u Q I rx ry h
 obtain⟨i,j,rfl,rfl,q⟩:=h
 obtain⟨t,rfl⟩:=rx
 obtain⟨t',rfl⟩:=ry
 exact rule i j t t' s _ _ ⟨.int (g i j),H,I.tok _,⟨_,rfl⟩,q⟩
theorem kK{g:Int->Int->Bool}
 (rule:∀(i j:Int) (t u:Tok) (s:zv) Q (E:VSP),Q (.bool (g i j)) s->zw (zE X.prog X.w) X.A (f (.int i t) (.int j u)) Q E s):
 OpR X f (A8 λi j=>.bl (g i j)):=by
 intro pins s σ H x y v u Q I rx ry h
 obtain⟨i,j,rfl,rfl,q⟩:=h
 obtain⟨t,rfl⟩:=rx
 obtain⟨t',rfl⟩:=ry
 exact rule i j t t' s _ _ ⟨.bl (g i j),H,I,rfl,q⟩
def A9(i j:Int):Prop:=0<=j/\j<=1000000/\i.natAbs<2 ^ 64
def P3(i j:Int):Prop:=(-(2 ^ 64)<i/\i<2 ^ 64)\/(-(2 ^ 64)<j/\j<2 ^ 64)
theorem P3.ok(h:P3 i j):IntMulOk i j:=by
 rcases h with⟨h1,h2⟩|⟨h1,h2⟩
 ·exact .of_left (intBits_le_64 h1 h2)
 ·exact .of_right (intBits_le_64 h1 h2)
theorem kT:OpR X (jH .Add) (A8 λi j=>.int (i+j)):=cM λ_ _ _ _ _ _ _ q=>add_int q
theorem lP:OpR X (jH .Sub) (A8 λi j=>.int (i-j)):=cM λ_ _ _ _ _ _ _ q=>sub_int q
theorem FW:OpR X (jH .Mult) (rI P3 λi j=>.int (i*j)):=opI λ_ _ _ _ _ _ _ hc q=>mul_int q hc.ok
theorem eY1:OpR X (jH .Mod) (rI (λ_ j=>0<j) λi j=>.int (i % j)):=opI λi j _ _ _ _ _ hc q=>by
 have h1:(0:Int)<j:=hc
 exact mod_int' (by lia) (by rw[Int.fmod_eq_emod_of_nonneg i (by lia)];exact q)
theorem oP:OpR X (jH .Pow) (rI A9 λi j=>.int (i ^ j.toNat)):=opI λ_ _ _ _ _ _ _ hc q=>pow_int_small hc.1 hc.2.1 hc.2.2 q
theorem unI{f:zk->Sem zk}{g:Int->Int}
 (rule:∀(i:Int) (t:Tok) (s:zv) Q E,Q (.int (g i) s.toks) {s with toks:=s.toks+1}->zw (zE X.prog X.w) X.A (f (.int i t)) Q E s):
 UnR X f (rU λi=>.int (g i)):=by
 intro pins s σ H x v Q I rx h
 obtain⟨i,rfl,q⟩:=h
 obtain⟨t,rfl⟩:=rx
 exact rule i t s _ _ ⟨.int (g i),H,I.tok _,⟨_,rfl⟩,q⟩
theorem qg:UnR X (unaryOp .USub) (rU λi=>.int (-i)):=unI λ_ _ _ _ _ q=>neg_int q
end
section
theorem SH(I:Inv X pins σ H s)(q:Q (.bl k) H)(e:k=k'):EP X pins σ Q (.bool k') s:=by
 subst e
 exact⟨.bl k,H,I,rfl,q⟩
theorem Gw:OpR X (zO .LtE) (A8 λi j=>.bl (decide (i<=j))):=kK λ_ _ _ _ _ _ _ q=>le_int q
theorem fG6:OpR X (zO .Gt) (A8 λi j=>.bl (decide (j<i))):=kK λ_ _ _ _ _ _ _ q=>gt_int q
theorem UW:OpR X (zO .GtE) (A8 λi j=>.bl (decide (j<=i))):=kK λ_ _ _ _ _ _ _ q=>ge_int q
theorem Hc:OpR X (zO .In) (λx y H Q=>∃i j,x= .str i/\y= .str j/\Q (.bl (!(Zg j i 0 j.length 1).isEmpty)) H):=by
 intro pins s σ H x y v u Q I rx ry h
 obtain⟨i,j,rfl,rfl,q⟩:=h
 obtain⟨t,rfl⟩:=rx
 obtain⟨t',rfl⟩:=ry
 exact in_str (SH I q rfl)
theorem KY:OpR X (zO .Is) (λx y H Q=>y= .non/\Q (.bl (decide (x= .non))) H):=by
 intro pins s σ H x y v u Q I rx ry h
 obtain⟨rfl,q⟩:=h
 cases ry
 refine is_none_gen (SH I q ?_)
 cases x<;>first
  |(cases rx;rfl)
  |(obtain⟨t,rfl⟩:=rx;rfl)
theorem NS:OpR X (zO .IsNot) (λx y H Q=>y= .non/\Q (.bl (!decide (x= .non))) H):=by
 intro pins s σ H x y v u Q I rx ry h
 obtain⟨rfl,q⟩:=h
 cases ry
 refine isnot_none_gen (SH I q ?_)
 cases x<;>first
  |(cases rx;rfl)
  |(obtain⟨t,rfl⟩:=rx;rfl)
theorem OpR.or(h:OpR X f r)(h':OpR X f r'):OpR X f (λx y H Q=>r x y H Q\/r' x y H Q):=by
 intro pins s σ H x y v u Q I rx ry q
 rcases q with q|q
 ·exact h pins s σ H x y v u Q I rx ry q
 ·exact h' pins s σ H x y v u Q I rx ry q
theorem NT(ho:OpR X (zO op) r)(ha:PE X a ta)(hb:PE X b tb)(hm:YQ op b=false):PE X (.Compare a [op] [b] pos) (tOp r ta tb):=by
 intro pins s σ H Q I h
 exact wpAny_Compare1 (aI ha hb I h λv u s2 x y H2 I2 rx ry q=>ho pins s2 σ H2 x y v u Q I2 rx ry q) hm
def NO(t:TE):TT:=λσ H Q=>t σ H λx H'=>∃k,x= .bl k/\Q k H'
theorem Km(ho:OpR X (zO op) r)(ha:PE X a ta)(hb:PE X b tb)(hm:YQ op b=false):PT X (.Compare a [op] [b] pos) (NO (tOp r ta tb)):=by
 intro pins s σ H Q I h
 refine wpAny_isTrue_Compare1 (thn (ha pins s σ H _ I h) λv s1 hE1=>hE1.elim λx H1 I1 r1 q1=>thn (hb pins s1 σ H1 _ I1 q1) λu s2 hE1=>hE1.elim λy H2 I2 r2 q2=>
  thn (ho pins s2 σ H2 x y v u _ I2 r1 r2 q2) λc s3 ⟨z,H3,I3,r3,k,e,q3⟩=>?_) hm
 subst e
 cases r3
 exact yd ⟨H3,I3,q3⟩
def oK(r r':R2)(ta tb tc:TE):TE:=λσ H Q=>ta σ H λx H1=>tb σ H1 λy H2=>r x y H2 λz H3=>∃k,z= .bl k/\
 (if k=true then tc σ H3 λw' H4=>r' y w' H4 Q else Q (.bl false) H3)
theorem dS5(ho:OpR X (zO op) r)(ho':OpR X (zO op') r')(ha:PE X a ta)(hb:PE X b tb)(hc:PE X c tc)
 (hm:lastMarks [op,op'] [b,c]=false):PE X (.Compare a [op,op'] [b,c] pos) (oK r r' ta tb tc):=by
 intro pins s σ H Q I h
 refine Compare_chain (thn (ha pins s σ H _ I h) λv s1 hE1=>hE1.elim λx H1 I1 r1 q1=>chain_link (thn (hb pins s1 σ H1 _ I1 q1) λu s2 hE1=>hE1.elim λy H2 I2 r2 q2=>
  thn (ho pins s2 σ H2 x y v u _ I2 r1 r2 q2) λd s3 ⟨z,H3,I3,r3,k,e,q3⟩=>?_)) hm
 subst e
 cases r3
 refine yd ?_
 cases k with
 |false=>exact ite_ff ⟨.bl false,H3,I3,rfl,q3⟩
 |true=>exact ite_tt (chain_last (thn (hc pins s3 σ H3 _ I3 q3) λw' s4 ⟨z',H4,I4,r4,q4⟩=>ho' pins s4 σ H4 y z' u w' Q I4 r2 r4 q4))
theorem qk(ho:OpR X (zO op) r)(ho':OpR X (zO op') r')(ha:PE X a ta)(hb:PE X b tb)(hc:PE X c tc)
 (hm:lastMarks [op,op'] [b,c]=false):PT X (.Compare a [op,op'] [b,c] pos) (NO (oK r r' ta tb tc)):=by
 intro pins s σ H Q I h
 refine isTrue_chain (thn (ha pins s σ H _ I h) λv s1 hE1=>hE1.elim λx H1 I1 r1 q1=>test_link (thn (hb pins s1 σ H1 _ I1 q1) λu s2 hE1=>hE1.elim λy H2 I2 r2 q2=>
  thn (ho pins s2 σ H2 x y v u _ I2 r1 r2 q2) λd s3 ⟨z,H3,I3,r3,k,e,q3⟩=>?_)) hm
 subst e
 cases r3
 refine yd ?_
 cases k with
 |false=>
   obtain⟨k',e',q'⟩:=q3
   cases e'
   exact ite_ff ⟨H3,I3,q'⟩
 |true=>
   refine ite_tt (test_last (thn (hc pins s3 σ H3 _ I3 q3) λw' s4 ⟨z',H4,I4,r4,q4⟩=>thn (ho' pins s4 σ H4 y z' u w' _ I4 r2 r4 q4) λd' s5 ⟨z2,H5,I5,r5,k2,e2,q5⟩=>?_))
   subst e2
   cases r5
   exact yd ⟨H5,I5,q5⟩
def lJ(K:zh)(x:V)(H:Hp)(k:Bool):Prop:=
 match x with
 | .non=>k=false
 | .bl b=>k=b
 | .int i=>k= (i != 0)
 | .str y=>y.length<=zo/\k= ((y.length:Int) != 0)
 | .byt y=>y.size<=zo/\k= ((y.size:Int) != 0)
 | .ref p=>(∃xs,SqL K H p xs/\k= !xs.isEmpty)\/(∃xs,SqT K H p xs/\k= !xs.isEmpty)\/∃kvs,H p=some (.dK kvs)/\k= !kvs.isEmpty
 |_=>False
theorem cS7(r:KV kvs vs):(!vs.isEmpty)= !kvs.isEmpty:=by
 cases r<;>rfl
theorem EO(r:v6 xs its):(!its.toArray.isEmpty)= !xs.isEmpty:=by
 cases r<;>simp
theorem AA:(zo:Nat)<2 ^ 63:=by rw[yA];decide
theorem CH:ET X (λx H Q=>∃k,lJ X.K x H k/\Q k H):=by
 intro pins s σ H x v Q I rx h
 obtain⟨k,e,q⟩:=h
 have hl:=AA
 have hs:zo=16777216:=yA
 cases x with
 |non=>
   cases rx
   have e':k=false:=e
   subst e'
   exact truthy_none ⟨H,I,q⟩
 |bl b=>
   cases rx
   have e':k=b:=e
   subst e'
   exact yd ⟨H,I,q⟩
 |int i=>
   obtain⟨t,rfl⟩:=rx
   have e':k= (i != 0):=e
   subst e'
   exact PySem.P.truthy_int ⟨H,I,q⟩
 |str y=>
   obtain⟨t,rfl⟩:=rx
   obtain⟨hy,e'⟩:y.length<=zo/\k= ((y.length:Int) != 0):=e
   subst e'
   exact PySem.P.truthy_str (by lia) ⟨H,I.tok _,q⟩
 |byt y=>
   obtain⟨t,rfl⟩:=rx
   obtain⟨hy,e'⟩:y.size<=zo/\k= ((y.size:Int) != 0):=e
   subst e'
   exact PySem.W.truthy_bytes (by lia) ⟨H,I.tok _,q⟩
 |ref p=>
   cases rx
   have e':(∃xs,SqL X.K H p xs/\k= !xs.isEmpty)\/(∃xs,SqT X.K H p xs/\k= !xs.isEmpty)\/∃kvs,H p=some (.dK kvs)/\k= !kvs.isEmpty:=e
   rcases e' with⟨xs,hx,e'⟩|⟨xs,hx,e'⟩|⟨kvs,hx,e'⟩
   · subst e'
     obtain⟨its,r,pl,hz⟩:=I.list hx
     have hlen:=r.length
     exact wpAny_truthy_list pl.isList (by simp only[zj];lia) ⟨H,I.tok _,by rw[EO r];exact q⟩
   · subst e'
     obtain⟨its,r,pl,hz⟩:=I.tuple hx
     have hlen:=r.length
     exact truthy_tuple pl (by simp only[zj];lia) ⟨H,I.tok _,by rw[EO r];exact q⟩
   · subst e'
     obtain⟨hz,hS,vs,r,m⟩:kvs.length<=zo/\(p==yC)=false/\∃vs,KV kvs vs/\s.heap.DictOf (Q9 X.prog X.w) p vs:=I.hok p _ hx
     have hlen:kvs.length=vs.length:=yT r
     exact wpAny_truthy_dict hS m (by lia) ⟨H,I.tok _,by rw[cS7 r];exact q⟩
 |_=>exact(show False from e).elim
theorem gS(ha:PE X a ta)(he:∀whole,isTrue a X.env whole= (do let v <-whole;Jd a.pos;YA [v] (truthy v))):
 PT X a (λσ H Q=>ta σ H λx H'=>∃k,lJ X.K x H' k/\Q k H'):=by
 intro pins s σ H Q I h
 exact isTrue_plain (thn (ha pins s σ H _ I h) λv s1 hE1=>hE1.elim λx H1 I1 r1 q1=>CH pins s1 σ H1 x v Q I1 r1 q1) (he _)
theorem vq:OpR X (jH .Add) (λx y H Q=>∃i j,x= .str i/\y= .str j/\i.length+j.length<=zo/\Q (.str (i++j)) H):=by
 intro pins s σ H x y v u Q I rx ry h
 obtain⟨i,j,rfl,rfl,hz,q⟩:=h
 obtain⟨t,rfl⟩:=rx
 obtain⟨t',rfl⟩:=ry
 exact add_str (λt' tk=>⟨.str (i++j),H,I.tok _,⟨_,rfl⟩,q⟩) hz
theorem Q2(r:v6 [x] us):∃u,us= [u]/\J9 x u:=by
 cases r with
 |cons r1 r2=>cases r2;exact⟨_,rfl,r1⟩
theorem QE(r:v6 [x,y] us):∃u w',us= [u,w']/\J9 x u/\J9 y w':=by
 cases r with
 |cons r1 r2=>
   cases r2 with
   |cons r3 r4=>cases r4;exact⟨_,_,rfl,r1,r3⟩
theorem kf:F1 X (.builtin "abs") (λxs H Q=>∃i,xs= [.int i]/\Q (.int (if i<0 then -i else i)) H):=by
 intro pins s σ H xs us Q I r h
 obtain⟨i,rfl,q⟩:=h
 obtain⟨u,rfl,t,rfl⟩:=Q2 r
 exact call_abs_int λu tk=>⟨.int (if i<0 then -i else i),H,I.tok _,⟨_,rfl⟩,q⟩
theorem oW(hc:X.calm=true):F1 X (.builtin "max") (λxs H Q=>∃i j,xs= [.int i,.int j]/\Q (.int (if j>i then j else i)) H):=by
 intro pins s σ H xs us Q I r h
 obtain⟨i,j,rfl,q⟩:=h
 obtain⟨u,w',rfl,⟨t,rfl⟩,⟨t',rfl⟩⟩:=QE r
 refine max_two_ints (I.ok.hd hc) λh' tk k=>⟨_,H,I.kept k,?_,q⟩
 by_cases hj:j>i
 ·rw[if_pos hj,if_pos hj];exact⟨_,rfl⟩
 ·rw[if_neg hj,if_neg hj];exact⟨_,rfl⟩
theorem dJ7:F1 X (.type "int") (λxs H Q=>(∃i,xs= [.int i]/\Q (.int i) H)\/∃k,xs= [.bl k]/\Q (.int (if k then 1 else 0)) H):=by
 intro pins s σ H xs us Q I r h
 rcases h with⟨i,rfl,q⟩|⟨k,rfl,q⟩
 · obtain⟨u,rfl,t,rfl⟩:=Q2 r
   exact call_int_int ⟨.int i,H,I,⟨_,rfl⟩,q⟩
 · obtain⟨u,rfl,r1⟩:=Q2 r
   cases r1
   exact call_int_bool ⟨.int (if k then 1 else 0),H,I.tok _,⟨_,rfl⟩,q⟩
end
structure ObjM(h:Heap)(x dx C:Addr)(mA:Str->Option zk):Prop where
 obj:h.get? x=some (xv C dx)
 ns:h.Ns1 dx mA
 ne:dx≠x
section
variable{prog:zZ}{w:jg}{A:jr}{E:VSP}{s:zv}{K:zh}{x dx C f:Addr}{mA:Str->Option zk}{name:Str}{v:zk}
end
theorem C6.some_of(r:C6 (some v) o):∃u,o=some u/\J9 v u:=by
 cases o with
 |none=>exact(show False from r).elim
 |some u=>exact⟨u,rfl,r⟩
section
end
structure Cls(K:zh)(C:Addr):Prop where
 pg:JQ K C Str.empty=true
 hd:PySem.W.hasDictIn K C=true
 po:PySem.W.plainOver K C=true
 sa:Zb K (.ref C) "__setattr__" =some (some (.builtin "object.__setattr__"))
theorem Cls.get{K:zh}(c:Cls K C)(f:Str):JQ K C f=true:=c.pg
structure Con(K:zh)(C:Addr)(f:Str)(v:V)(u:zk):Prop where
 at_:Zb K (.ref C) f=some (some u)
 rel:J9 v u
 get:Jz K u "__get__" =some none
 cp:PySem.W.copiedNames.contains f=false
structure Meth(K:zh)(C:Addr)(m:Str)(f:Addr):Prop where
 at_:Zb K (.ref C) m=some (some (.ref f))
 fn:PySem.W.isFn K (.ref f)=true
 kp:yi K (.ref f)=true
section
theorem Inv.made(I:Inv X pins σ H s):Inv X pins σ (upd (upd H s.heap.objs.size (.own (s.heap.objs.size+1))) (s.heap.objs.size+1) (.ins C s.heap.objs.size []))
 {s with heap:=(s.heap.push yk).push (xv C s.heap.objs.size)}:=by
 have e1:(s.heap.push yk).get? s.heap.objs.size=some yk:=zq s.heap rfl
 have e2:((s.heap.push yk).push (xv C s.heap.objs.size)).get? (s.heap.objs.size+1)=some (xv C s.heap.objs.size):=by
  have:=zq (s.heap.push yk) (o:=xv C s.heap.objs.size) rfl
  rwa [jY]at this
 have e3:(s.heap.push yk).Ns s.heap.objs.size (λ_=>none):=⟨yk, #[],_,e1,rfl,(λe he=>absurd he (by simp)),λ_=>rfl⟩
 have I1:=I.laid (a:=s.heap.objs.size) (o:=.own (s.heap.objs.size+1)) (h':=s.heap.push yk) (t':=s.toks) (λb u q=>zd _ q) (zn _) ⟨_,e1⟩
 refine I1.laid (a:=s.heap.objs.size+1) (o:=.ins C s.heap.objs.size []) (t':=s.toks) (λb u q=>zd _ q) (xt (jY _ _)) ?_
 have ne:s.heap.objs.size≠s.heap.objs.size+1:=zD (xr _)
 refine⟨by rw[J2 ne,O6],zQ _,ne,e2,λ_=>none,(Heap.Ns1.of_empty e3).at λo q=>zd _ q,λ_=>True.intro,λy hy=>absurd rfl hy⟩
end
section
end
section
inductive E5(K:zh)(H:Hp):V->zk->Prop where
 |non:E5 K H .non (.type "NoneType")
 |bl (x:Bool):E5 K H (.bl x) (.type "bool")
 |int (i:Int):E5 K H (.int i) (.type "int")
 |str (x:Str):E5 K H (.str x) (.type "str")
 |flt (x:UInt64):E5 K H (.flt x) (.type "float")
 |lst {a:Addr} {xs:List V} (e:H a=some (.lst xs)):E5 K H (.ref a) (.type "list")
 |frz {a:Addr} {o:Obj} {xs:List V} (e:H a=some (.frz o (.lst xs))):E5 K H (.ref a) (.type "list")
 |tup {a:Addr} {xs:List V} (e:H a=some (.tup xs)):E5 K H (.ref a) (.type "tuple")
 |dK {a:Addr} {kvs:List (Key×V)} (e:H a=some (.dK kvs)):E5 K H (.ref a) (.type "dict")
 |dT {a:Addr} {kvs:List (List Key×V)} (e:H a=some (.dT kvs)):E5 K H (.ref a) (.type "dict")
 |ins {a C dx:Addr} {fs:List (Str×V)} (e:H a=some (.ins C dx fs)) (cl:Cls K C) (ha:Zb K (.ref C) "__class__" =some (some (.builtin "object.__class__")))
    (hn:Jz K (.builtin "object.__class__") "__get__" =some (some (.builtin "getset_descriptor.__get__"))) (htk:PySem.W.takesIn K (.builtin "object.__class__")=some true)
    (hm:PySem.W.mroIn K C (.type "object")=some true):E5 K H (.ref a) (.ref C)
end
structure V5(k:Nat)(A:jr):Prop where
 hd:A.handled=none
 dp:A.depth+3*k+5<recursionLimit
 un:A.units+16*k+200<xk
 gd:A.guards=some []
theorem V5.mono(r:V5 k A)(h:j<=k):V5 j A:=⟨r.hd,by have:=r.dp;lia,by have:=r.un;lia,r.gd⟩
theorem V5.deeper(r:V5 (k+1) A)(env:Env):V5 k (A.deeper env):=
 ⟨r.hd,by have:=r.dp;show A.depth+1+3*k+5<_;lia,by have:=r.un;show A.units+3+16*k+200<_;lia,r.gd⟩
theorem V5.in1(r:V5 (k+1) A):V5 k A.in1:=
 ⟨r.hd,by have:=r.dp;show A.depth+3*k+5<_;lia,by have:=r.un;show A.units+1+16*k+200<_;lia,r.gd⟩
theorem V5.depth(r:V5 k A):A.depth<recursionLimit:=by have:=r.dp;lia
theorem V5.units(r:V5 k A):A.units+64<xk:=by have:=r.un;lia
def fQ:TA:=λ_ H Q=>Q [] H
def Rc(ta:TE)(tr:TA):TA:=λσ H Q=>ta σ H λx H1=>tr σ H1 λxs H2=>Q (x::xs) H2
section
theorem eZ5:PA X [] fQ:=λ_ _ _ _ H Q I h=>xb ⟨[],H,I,.nil,h⟩
theorem LV(ha:PE X e te)(hr:PA X es t)(hs:zP (e::es) X.env= (false,eval e X.env)::zP es X.env):PA X (e::es) (Rc te t):=by
 intro pos pins s σ H Q I h
 rw[hs]
 show zw _ _ (spliced ((false,eval e X.env)::xf pos (zP es X.env))) _ _ s
 refine yR (thn (ha pins s σ H _ I h) λu s1 hE1=>hE1.elim λx H1 I1 r1 q1=>?_)
 exact thn (hr pos pins s1 σ H1 _ I1 q1) λus s2 hE1=>hE1.elim λxs H2 I2 r2 q2=>⟨x::xs,H2,I2,.cons r1 r2,q2⟩
def Gh(t:TA):TE:=λσ H Q=>t σ H λxs H1=>xs.length<=zo/\∀p,H1 p=none->Q (.ref p) (upd H1 p (.tup xs))
def fR1(t:TA):TE:=λσ H Q=>t σ H λxs H1=>xs.length<=zo/\∀p,H1 p=none->Q (.ref p) (upd H1 p (.lst xs))
theorem mT{x1}(h:PA X es t):PE X (.Tuple es x1 pos) (Gh t):=by
 intro pins s σ H Q I hq
 refine wpAny_Tuple_spliced (thn (h pos pins s σ H _ I hq) λus s1 ⟨xs,H1,I1,r,z,q⟩=>⟨by rw[<-r.length];exact z,?_⟩)
 have hf:H1 s1.heap.objs.size=none:=I1.hok.fresh (zn _)
 refine⟨.ref s1.heap.objs.size,upd H1 s1.heap.objs.size (.tup xs),I1.laid (t':=s1.toks) (λb u e=>zd _ e) (zn _) ?_,rfl,q _ hf⟩
 exact⟨z,us,r,⟨_,zq _ rfl,rfl,_,rfl⟩⟩
theorem Lz(h:PA X es t):PE X (.List es pos) (fR1 t):=by
 intro pins s σ H Q I hq
 refine wpAny_List_spliced (thn (h pos pins s σ H _ I hq) λus s1 ⟨xs,H1,I1,r,z,q⟩=>⟨by rw[<-r.length];exact z,?_⟩)
 have hf:H1 s1.heap.objs.size=none:=I1.hok.fresh (zn _)
 refine⟨.ref s1.heap.objs.size,upd H1 s1.heap.objs.size (.lst xs),I1.laid (t':=s1.toks) (λb u e=>zd _ e) (zn _) ?_,rfl,q _ hf⟩
 exact⟨z,us,0,r,zq _ rfl⟩
end
abbrev Sp:=List V->Hp->VK->XK->Prop
abbrev CXT:=List Env->Hp->zv->XK->VSP
structure CA(P:zZ)(w:jg)(K:zh)(mg:Str->Option zk)(base:Heap)(A:jr)(outer:List Env)(s:zv)(H:Hp):Prop where
 frames:A.frames=some outer
 mod:Mod K mg base
 bs:∀b o,base.get? b=some o->s.heap.get? b=some o/\H b=none
 bsz:base.objs.size<=s.heap.objs.size
 funs:s.heap.FunFrames base outer
 frf:∀b∈frs outer,H b=none
 hok:HOk P w H s.heap
 bare:YE s.gens
def CE(outer:List Env)(P:zZ)(w:jg)(H:Hp)(s:zv)(Q:VK)(u:zk)(s':zv):Prop:=
 ∃v H',s'.os=s.os/\YE s'.gens/\Un (frs outer) [] H H' s.heap s'.heap/\HOk P w H' s'.heap/\J9 v u/\Q v H'
def CR(CX:CXT)(outer:List Env)(P:zZ)(w:jg)(H:Hp)(s:zv)(Q:VK)(E:XK)(r:Result)(s':zv):Prop:=
 match r with
 | .ok (.ret u)=>CE outer P w H s Q u s'
 | .ok _=>False
 | .error e=>CX outer H s E e s'
structure O0(P:zZ)(w:jg)(K:zh)(mg:Str->Option zk)(base:Heap)(CX:CXT)(k:Nat)(f:Addr)(fd:xl)(ps:List Str)(sp:Sp):Prop where
 len:∀vs H Q E,sp vs H Q E->vs.length=ps.length
 run:∀(A:jr) (outer:List Env) (s:zv) (H:Hp) (args:Args) (us:List zk) (vs:List V) (Q:VK) (E:XK),V5 k A->CA P w K mg base A outer s H->Ye s fd args (ps.zip us)->v6 vs us->sp vs H Q E->
  ZC (zE P w) A (.call (.ref f) args) (CR CX outer P w H s Q E) s
theorem O0.mono{P:zZ}{w:jg}{K:zh}{base:Heap}{CX:CXT}{j k:Nat}{f:Addr}{fd:xl}{ps:List Str}{sp:Sp}(F:O0 P w K mg base CX j f fd ps sp)(h:j<=k):
 O0 P w K mg base CX k f fd ps sp:=⟨F.len,λA outer s H args us vs Q E hr=>F.run A outer s H args us vs Q E (hr.mono h)⟩
theorem O0.imp{P:zZ}{w:jg}{K:zh}{base:Heap}{CX:CXT}{k:Nat}{f:Addr}{fd:xl}{ps:List Str}{sp sp':Sp}(F:O0 P w K mg base CX k f fd ps sp)
 (h:∀vs H Q E,sp' vs H Q E->sp vs H Q E):O0 P w K mg base CX k f fd ps sp':=
 ⟨λvs H Q E q=>F.len vs H Q E (h _ _ _ _ q),λA outer s H args us vs Q E hr he hb hv hs=>F.run A outer s H args us vs Q E hr he hb hv (h _ _ _ _ hs)⟩
theorem CA.in1{P:zZ}{w:jg}{K:zh}{base:Heap}{A:jr}{outer:List Env}{s:zv}{H:Hp}(e:CA P w K mg base A outer s H):
 CA P w K mg base A.in1 outer s H:=⟨e.frames,e.mod,e.bs,e.bsz,e.funs,e.frf,e.hok,e.bare⟩
section
theorem Inv.env0(I:Inv X pins σ H s):CA X.prog X.w X.K X.mg X.base X.A X.stack s H:=
 ⟨I.ok.frames,I.ok.mod,I.bs,zG I.ok.bsz I.sz,I.stack,I.stkFree,I.hok,I.bare⟩
theorem Inv.after(I:Inv X pins σ H s)(h:CE X.stack X.prog X.w H s Q u s'):EP X pins σ Q u s':=by
 obtain⟨v,H',os,bare,un,hok,r,q⟩:=h
 obtain⟨hh,g,d,t,os'⟩:=s'
 obtain rfl:os'=s.os:=os
 exact⟨v,H',I.call (h':=hh) (g':=g) (d':=d) (t':=t) (ch:= []) un hok bare (λb z=>absurd z (by simp)),r,q⟩
end
def nM(sp:Sp)(dvs:List V)(E:XK)(t:TA):TE:=λσ H Q=>t σ H λvs H1=>sp (vs++dvs) H1 Q E
def D5(K:zh)(fd:xl)(ps:List Str)(ds:List zk):Prop:=
 ∀(s:zv) (us:List zk),K.In s.heap->(us++ds).length=ps.length->Ye s fd ⟨us, []⟩ (ps.zip (us++ds))
theorem D5.all{K:zh}{ps:List Str}(h:∀us:List zk,us.length=ps.length->bindArgs fd ⟨us, []⟩=pure (ps.zip us)):D5 K fd ps []:=λs us _ hl=>by
 rw[yX]at hl ⊢
 exact .of_eq (h us hl)
def BG(CX:CXT)(X:Cx)(E:XK):Prop:=∀(pins:PNS) (σ:St) (H:Hp) (s:zv) (e:zk) (s':zv),Inv X pins σ H s->CX X.stack H s E e s'->X.xe e s'
section
theorem pI(F:O0 X.prog X.w X.K X.mg X.base CX k f fd ps sp)(hr:V5 k X.A)(hb:D5 X.K fd ps ds)(hd:v6 dvs ds)(hx:BG CX X E)
 (I:Inv X pins σ H s) (r:v6 vs us) (h:sp (vs++dvs) H Q E):zw (zE X.prog X.w) X.A (call (.ref f) us) (EP X pins σ Q) X.xe s:=by
 have r2:v6 (vs++dvs) (us++ds):=r.append hd
 have hl:(us++ds).length=ps.length:=by rw[<-r2.length];exact F.len _ _ _ _ h
 refine wpAny_call (Yb (F.run X.A X.stack s H ⟨us, []⟩ (us++ds) (vs++dvs) Q E hr I.env0 (hb s us I.kIn hl) r2 h) λr s' hq=>?_)
 cases r with
 |error e=>exact hx pins σ H s e s' I hq
 |ok fl=>
   cases fl with
   |ret u=>exact I.after hq
   |next=>exact yx hq
   |brk=>exact yx hq
   |cont=>exact yx hq
theorem kX(F:O0 X.prog X.w X.K X.mg X.base CX k f fd ps sp)(hr:V5 k X.A)(hg:Gl X x)(hm:X.mg x=some (.ref f))(hk:yi X.K (.ref f)=true)(hb:D5 X.K fd ps ds)(hd:v6 dvs ds)(hx:BG CX X E)
 (ha:PA X (e::es) t) (hdb:(x==("__debug__" :Str))=false) (he:zP (e::es) X.env= (false,eval e X.env)::zP es X.env) (hpl:(xf pos (zP es X.env)).any (·.1)=false):
 PE X (.Call (.Name x p) (e::es) [] pos) (nM sp dvs E t):=by
 intro pins s σ H Q I h
 refine jT (oH I hg hm ?_ hdb)
 refine PySem.W.callWith_K (h₀:=X.base) I.ok.mod.kin hk (thn (ha pos pins s σ H _ I h) λus s1 hE1=>hE1.elim λvs H1 I1 r q=>⟨I1.kIn,?_⟩) he hpl
 exact pI F hr hb hd hx I1 r q
theorem dR7(F:O0 X.prog X.w X.K X.mg X.base CX k f fd ps sp)(hr:V5 k X.A)(hg:Gl X x)(hm:X.mg x=some (.ref f))(hk:yi X.K (.ref f)=true)(hb:D5 X.K fd ps ds)(hd:v6 dvs ds)(hx:BG CX X E)
 (hdb:(x==("__debug__" :Str))=false):PE X (.Call (.Name x p) [] [] pos) (nM sp dvs E fQ):=by
 intro pins s σ H Q I h
 refine jT (oH I hg hm ?_ hdb)
 exact PySem.W.callWith_K0 I.kIn hk (pI (us:= []) F hr hb hd hx I .nil h)
structure Mk(K:zh)(C f:Addr):Prop where
 makes:PySem.W.makesIn K C=true
 init:Zb K (.ref C) "__init__" =some (some (.ref f))
 fn:PySem.W.isFn K (.ref f)=true
 kp:yi K (.ref C)=true
end
section
structure KBinds(K:zh)(fd:xl)(ps ks:List Str)(g:List zk->List zk->List zk)(gV:List V->List V->List V):Prop where
 to:∀(s:zv) (us ws:List zk),K.In s.heap->(g us ws).length=ps.length->Ye s fd ⟨us,ks.zip ws⟩ (ps.zip (g us ws))
 rel:∀ {vs:List V} {us:List zk} {zs:List V} {ws:List zk},v6 vs us->v6 zs ws->v6 (gV vs zs) (g us ws)
end
structure x5(N P:List Str)(sc:Scope):Prop where
 kind:sc.kind= .function
 co:sc.isCoroutine=false
 gen:sc.isGenerator=false
 nd:N.Nodup
 pre:N.take P.length=P
 par:∀x∈P,sc.names.lookup x=some .local\/sc.names.lookup x=some .cell
 nofree:∀y∈sc.names,y.2≠ .free
theorem GN{yU:Str->Option NameKind}{x:Str}:∀ {binds} {m:Str->Option zk},(∀v,(x,v)∉binds)->bindL yU binds m x=m x
 |[],_,_=>rfl
 |(n,v)::r,m,h=>by
  unfold bindL
  rw[GN λw hw=>h w (zB _ hw)]
  split
  · have:x≠n:=by rintro rfl;exact h v zK
    simp[this]
  ·rfl
theorem oO{yU:Str->Option NameKind}{x:Str}:∀ {binds} {m:Str->Option zk},(∀v,(x,v)∉binds)->bindC yU binds m x=m x
 |[],_,_=>rfl
 |(n,v)::r,m,h=>by
  unfold bindC
  rw[oO λw hw=>h w (zB _ hw)]
  split
  ·rfl
  · have:x≠n:=by rintro rfl;exact h v zK
    simp[this]
theorem mN{yU:Str->Option NameKind}{x:Str}{v:zk}:∀ {P:List Str} {vs:List zk} {i:Nat} {m},P.Nodup->P[i]? =some x->vs[i]? =some v->yU x=some .local->
 bindL yU (P.zip vs) m x=some v
 |[],_,_,_,_,h,_,_=>by simp at h
 |_::_, [],_,_,_,_,h,_=>by simp at h
 |p::P,w::vs,0,m,nd,h1,h2,hk=>by
   simp at h1 h2;subst h1;subst h2
   show bindL yU ((p,w)::P.zip vs) m p=_
   unfold bindL
   rw[GN λv hv=>(ZJ.mp nd).1 (Xf hv).1,if_pos hk]
   simp
 |p::P,w::vs,i+1,m,nd,h1,h2,hk=>by
   show bindL yU ((p,w)::P.zip vs) m x=_
   unfold bindL
   exact mN (i:=i) (ZJ.mp nd).2 (by simpa using h1) (by simpa using h2) hk
theorem vL{yU:Str->Option NameKind}{x:Str}{v:zk}:∀ {P:List Str} {vs:List zk} {i:Nat} {m},P.Nodup->P[i]? =some x->vs[i]? =some v->yU x≠some .local->
 bindC yU (P.zip vs) m x=some v
 |[],_,_,_,_,h,_,_=>by simp at h
 |_::_, [],_,_,_,_,h,_=>by simp at h
 |p::P,w::vs,0,m,nd,h1,h2,hk=>by
   simp at h1 h2;subst h1;subst h2
   show bindC yU ((p,w)::P.zip vs) m p=_
   unfold bindC
   rw[oO λv hv=>(ZJ.mp nd).1 (Xf hv).1,if_neg hk]
   simp
 |p::P,w::vs,i+1,m,nd,h1,h2,hk=>by
   show bindC yU ((p,w)::P.zip vs) m x=_
   unfold bindC
   exact vL (i:=i) (ZJ.mp nd).2 (by simpa using h1) (by simpa using h2) hk
def start(N:List Str)(vs:List V):St:=vs.map some++zu (N.length-vs.length) none
def u7(CX:CXT)(P:zZ)(w:jg)(K:zh)(mg:Str->Option zk)(base:Heap)(N:List Str)(qual:Str)(scope:Scope)(f:Addr)(cd:zk)(A:jr)(outer:List Env)(s:zv)(H:Hp)(E:XK):Cx where
 prog:=P
 w:=w
 K:=K
 mg:=mg
 base:=base
 A:=A.deeper (ZI qual scope s.heap.objs.size f cd)
 N:=N
 WX:=s
 H₀:=H
 env:=ZI qual scope s.heap.objs.size f cd
 outer:=outer
 stack:=ZI qual scope s.heap.objs.size f cd::outer
 ex:= []
 calm:=true
 fn:=λ_=>true
 pn:= []
 xe:=λe s'=>zw (zE P w) (A.deeper (ZI qual scope s.heap.objs.size f cd)) (leaving (ZI qual scope s.heap.objs.size f cd) e) (λ_ s''=>CX outer H s E e s'') (λe' s''=>CX outer H s E e' s'') s'
theorem AN{sc:Scope}{x:Str}(h:sc.names.lookup x=some .cell):∃c,(cellsFrom n sc.names []).lookup x=some c:=by
 have q:=XE sc.names n [] (.inl h)
 exact Xu.mp q
theorem Qj{CX:CXT}{P:zZ}{w:jg}{K:zh}{mg:Str->Option zk}{base:Heap}{N ps:List Str}{qual:Str}{scope:Scope}{f:Addr}{cd:zk}{A:jr}{outer:List Env}{s s1:zv}{H:Hp}{E:XK}{us:List zk}{vs:List V}
 (S:x5 N ps scope) (hd:A.handled=none) (gd:A.guards=some []) (e0:CA P w K mg base A outer s H) (hl:vs.length=ps.length) (r:v6 vs us)
 (x:InCallC s s.heap.objs.size (bindL (ZI qual scope s.heap.objs.size f cd).kindOf (ps.zip us) λ_=>none) (cellsFrom (s.heap.objs.size+1) scope.names []) (bindC (ZI qual scope s.heap.objs.size f cd).kindOf (ps.zip us) λ_=>none) s1):
 Inv (u7 CX P w K mg base N qual scope f cd A outer s H E) [] (start N vs) H s1:=by
 have hpl:ps.length<=N.length:=by have:=congrArg Ya S.pre;rw[Zw]at this;lia
 obtain⟨h1,tk,rfl,hk⟩:=x.done
 have noA:∀b:Addr,b∉(u7 CX P w K mg base N qual scope f cd A outer s H E).ex:=λb z=>absurd (show b∈([]:List Addr)from z) (by simp)
 refine⟨⟨e0.mod,S.kind,rfl,rfl,zn _,λy z c h1 h2=>?_,λy hy=>?_,λy c _ h=>?_,λ_=>hd,Around.frames_deeper e0.frames,.inr ⟨rfl,rfl⟩,λb z=>absurd z (noA b),e0.bs,e0.bsz,λb _ _=>noA b,λb z=>absurd z (noA b),e0.funs,e0.frf,gd⟩,
  rfl,e0.bare,Un.kept hk,⟨_,x.toInCall.ns,λi y v h1 h2 h3=>?_⟩,λy c h=>⟨_,x.cell y c h⟩,e0.hok.fresh (zn _),λy c h=>?_,λp hp=>absurd (show p∈([]:PNS)from hp) (by simp),e0.hok.kept hk,?_⟩
 ·exact name_of_addr x.apart (yH h1) (yH h2)
 · have hy:scope.names.lookup y=some .cell\/scope.names.lookup y=some .free:=hy
   rcases hy with hy|hy
   ·exact AN hy
   ·exact absurd rfl (S.nofree _ (yH hy))
 ·exact yV (x.above y c (yH h))
 · have hi:i<vs.length:=by
    unfold start at h2
    by_cases hi:i<vs.length
    ·exact hi
    · rw[yy (by simpa using hi)]at h2
      rw[Zy]at h2
      split at h2<;>cases h2
   have ha:vs[i]? =some v:=by
    unfold start at h2
    rw[zF (by simpa using hi),zV]at h2
    cases e:vs[i]? with
    |none=>rw[e]at h2;cases h2
    |some a=>rw[e]at h2;cases h2;rfl
   obtain⟨u,hu,rv⟩:=r.get ha
   have hp:ps[i]? =some y:=by
    rw[<-S.pre,List.getElem?_take_of_lt (by lia)];exact h1
   have ndP:ps.Nodup:=by rw[<-S.pre];exact S.nd.sublist (List.take_sublist _ _)
   refine⟨u,rv,?_⟩
   rcases S.par y (yn hp)with k|k
   ·exact .inl ⟨k,mN ndP hp hu k⟩
   · obtain⟨c,e⟩:=AN (n:=s.heap.objs.size+1) k
     refine .inr ⟨.inl k,c,e,?_⟩
     have q:=x.cell y c e
     rw[vL ndP hp hu (by show scope.names.lookup y≠_;rw[k];decide)]at q
     exact q
 ·exact e0.hok.fresh (yV (x.above y c (yH h)))
 · unfold start
   show _=N.length
   rw[zA,zg,ZP]
   lia
theorem pS{CX:CXT}{P:zZ}{w:jg}{K:zh}{mg:Str->Option zk}{base:Heap}{k:Nat}{f:Addr}{name qual:Str}{params:Arguments}{body:List Stmt}{scope:Scope}{dV kV doc pm cdv ct oc:zk}{an od:Option Addr}
 {N ps:List Str} {sp:Sp} (lk:K.lookup f=some ⟨oc,od,.func (yq name qual params body scope dV kV doc pm an cdv ct),osl⟩) (hcd:Zc K cdv qual=true) (S:x5 N ps scope)
 (len:∀vs H Q E,sp vs H Q E->vs.length=ps.length)
 (hbody:∀(A:jr) (outer:List Env) (s:zv) (H:Hp) (vs:List V) (Q:VK) (E:XK),V5 k (A.deeper (ZI qual scope s.heap.objs.size f cdv))->sp vs H Q E->
   ∃t,PSs (u7 CX P w K mg base N qual scope f cdv A outer s H E) body t/\t {nx:=λ_ H'=>Q .non H',rt:=Q} (start N vs) H):
 O0 P w K mg base CX (k+1) f (yq name qual params body scope dV kV doc pm an cdv ct) ps sp:=by
 refine⟨len,λA outer s H args us vs Q E hr e0 hb r hsp=>?_⟩
 have hl:=len _ _ _ _ hsp
 have KX:K.In s.heap:=e0.mod.kin.keeps λb o e=>(e0.bs b o e).1
 have lim:s.heap.NoLimit:=e0.mod.nolimit.keeps λb o e=>(e0.bs b o e).1
 have hkind:∀y∈ps.zip us,scope.names.lookup y.1=some .local\/(scope.names.lookup y.1=some .cell/\((cellsFrom (s.heap.objs.size+1) scope.names []).lookup y.1).isSome=true):=fun⟨n,v⟩ hy=>by
  rcases S.par n (Xf hy).1 with q|q
  ·exact .inl q
  ·exact .inr ⟨q,XE _ _ _ (.inl q)⟩
 refine codeAny_call_function hr.depth (KX _ _ lk) rfl S.co S.gen rfl (PySem.W.codeRec_of KX hcd) (hb _ _ _ _ ?_)
 refine wpAny_newFunctionEnv_cells S.kind hkind λenv he s1 x=>?_
 subst he
 refine⟨lim.keeps x.toInCall.keep,codeAny_func ?_⟩
 obtain⟨t,ht,hq⟩:=hbody A outer s H vs Q E (hr.deeper _) hsp
 have I:Inv (u7 CX P w K mg base N qual scope f cdv A outer s H E) [] (start N vs) H s1:=Qj S hr.hd hr.gd e0 hl r x
 refine jz (ht [] s1 (start N vs) H _ I hq) (λfl s' hs=>?_) λe s' hs=>hs
 have fin:∀ {X1:St} {H':Hp} {v:V} {u:zk},Inv (u7 CX P w K mg base N qual scope f cdv A outer s H E) [] X1 H' s'->J9 v u->Q v H'->CE outer P w H s Q u s':=
  λ{X1 H' v u} J rv q=>⟨v,H',J.os,J.bare,J.base,J.hok,rv,q⟩
 cases fl with
 |ret u=>
   obtain⟨v,X1,H',J,rv,q⟩:=hs
   exact fin J rv q
 |next=>
   obtain⟨X1,H',J,q⟩:=hs
   exact fin (v:=V.non) (u:=Value.none) J rfl q
 |brk=>
   obtain⟨_,_,_,q⟩:=hs
   exact yx q
 |cont=>
   obtain⟨_,_,_,q⟩:=hs
   exact yx q
section
variable{X:Cx}{x:Str}{p pos:Pos}{e:Expr}{es:List Expr}{t:TA}{id T:String}{r:List V->Hp->VK->Prop}
def tCB(r:List V->Hp->VK->Prop)(t:TA):TE:=λσ H Q=>t σ H λvs H1=>r vs H1 Q
theorem eB6(hc:F1 X (.builtin id) r)(hg:Gl X x)(hm:X.mg x=none)(hv:zX x=some (.builtin id))(ha:PA X (e::es) t)(hn:x≠ "__name__")(hdb:(x==("__debug__" :Str))=false)
 (he:zP (e::es) X.env= (false,eval e X.env)::zP es X.env) (hpl:(xf pos (zP es X.env)).any (·.1)=false):PE X (.Call (.Name x p) (e::es) [] pos) (tCB r t):=by
 intro pins s σ H Q I h
 refine jT (A5 I hg hm hv ?_ hn hdb)
 exact PyProof.Rows.callWith_builtin1 (thn (ha pos pins s σ H _ I h) λus s1 hE1=>hE1.elim λvs H1 I1 r1 q1=>hc pins s1 σ H1 vs us Q I1 r1 q1) he hpl
theorem dI4(hc:F1 X (.type T) r)(hg:Gl X x)(hm:X.mg x=none)(hv:zX x=some (.type T))(ha:PA X (e::es) t)(hn:x≠ "__name__")(hdb:(x==("__debug__" :Str))=false)
 (he:zP (e::es) X.env= (false,eval e X.env)::zP es X.env) (hpl:(xf pos (zP es X.env)).any (·.1)=false):PE X (.Call (.Name x p) (e::es) [] pos) (tCB r t):=by
 intro pins s σ H Q I h
 refine jT (A5 I hg hm hv ?_ hn hdb)
 exact ym (thn (ha pos pins s σ H _ I h) λus s1 hE1=>hE1.elim λvs H1 I1 r1 q1=>hc pins s1 σ H1 vs us Q I1 r1 q1) he hpl
end
end L2
namespace HT
open PySem PyProof.Rows
section
open PySem.SeqAt
open PySem.AutoSeq1 (wpAny_loadPart')
open PySem.MeetsSeq PySem.MeetsSeq2 PySem.MeetsSeq3
end
section
theorem cat_tup(ht:Yn s.heap t vs.toArray)(hb:Yn s.heap b ws.toArray)(hv:vs≠ [])
 (h1:ws= []->Q (.ref t) s) (h2:ws≠ []->Q (.ref s.heap.objs.size) {s with heap:=s.heap.push {cls:=.type "tuple",data:=.seq (vs++ws).toArray}})
 (hsz:vs.length+ws.length<=zo):zw (zE prog w) A (jH .Add (.ref t) (.ref b)) Q E s:=by
 obtain⟨⟨cls,dd,data,sl⟩,ho,hc,n,hd⟩:=id ht
 obtain⟨⟨cls2,dd2,data2,sl2⟩,ho2,hc2,n2,hd2⟩:=id hb
 simp only at hc hd hc2 hd2
 subst hc hd hc2 hd2
 have e:vs.toArray++ws.toArray= (vs++ws).toArray:=by simp
 by_cases hw:ws= []
 · exact concat_meets ⟨_,ho,rfl⟩ ⟨_,ho2,rfl⟩ XB JN Zu Zq (Zn _ _)
    (tuple_addW1 t b vs.toArray ws.toArray n n2 dd dd2 sl sl2 (by simpa using hv) (by simp[hw])) ⟨ho,ho2,h1 hw⟩
 · refine concat_meets ⟨_,ho,rfl⟩ ⟨_,ho2,rfl⟩ XB JN Zu Zq (Zn _ _)
    (tuple_addW2 t b vs.toArray ws.toArray n n2 dd dd2 sl sl2 (by simpa using hv) (by simpa using hw) (by rw[zj,zj];exact hsz)) ⟨ho,ho2,?_⟩
   rw[e]
   exact h2 hw
def sIx(n d:Nat):Option Int->Nat
 |none=>d
 |some v=>if v<0 then (v+(n:Int)).toNat else min v.toNat n
theorem sIx_none(n d:Nat):sIx n d none=d:=rfl
theorem sIx_nat(n d k:Nat):sIx n d (some (k:Int))=min k n:=by
 show (if (k:Int)<0 then ((k:Int)+(n:Int)).toNat else min (k:Int).toNat n)=min k n
 rw[if_neg (by lia),jF]
theorem IT(n d:Nat)(hd:d<=n)(o:Option Int):sIx n d o<=n:=by
 cases o with
 |none=>exact hd
 |some v=>
   show (if v<0 then (v+(n:Int)).toNat else min v.toNat n)<=n
   by_cases hv:v<0
   ·rw[if_pos hv];lia
   ·rw[if_neg hv];exact Nat.min_le_right _ _
theorem HR(v:Int)(n d:Nat):(if v<0 then max (v+(n:Int)) 0 else min v (n:Int))= ((sIx n d (some v):Nat):Int):=by
 show (if v<0 then max (v+(n:Int)) 0 else min v (n:Int))= (((if v<0 then (v+(n:Int)).toNat else min v.toNat n):Nat):Int)
 by_cases hv:v<0
 ·simp only[if_pos hv];lia
 ·simp only[if_neg hv];lia
theorem Wm(lo hi:Option Int)(n:Nat):xR lo hi 1 (n:Int)= (((sIx n 0 lo:Nat):Int),((sIx n n hi:Nat):Int)):=by
 have h1:¬((1:Int)<0):=by lia
 unfold xR
 simp only[h1,if_false]
 refine Xt ?_ ?_
 · cases lo with
   |none=>rfl
   |some v=>exact HR v n 0
 · cases hi with
   |none=>rfl
   |some v=>exact HR v n n
theorem cW3(i j:Nat):yW (i:Int) (j:Int) 1=j-i:=by
 unfold yW
 have h1:(1:Int)>0:=by lia
 simp only[h1,if_true,Int.ediv_one]
 split<;>lia
theorem LN(p:IsPart v o)(h:Q o s):zw (zE prog w) A (Builtin.Slice.slicePartIndex v) Q E s:=by
 cases p with
 |none=>exact slicePart_none h
 |int i t=>exact slicePart_int h
theorem sliceApplied_gen{sl:Addr}{vl vu:zk}{lo hi:Option Int}{n:Nat}(hs:s.heap.IsSliceOf sl vl vu .none)(pl:IsPart vl lo)(pu:IsPart vu hi)
 (h:Q (((sIx n 0 lo:Nat):Int),1,sIx n n hi-sIx n 0 lo) s):zw (zE prog w) A (Ys (.ref sl) (pure (n:Int))) Q E s:=by
 obtain⟨os,hos,hcs,hds⟩:=id hs
 unfold Ys Builtin.Slice.sliceFields
 refine za (za (jU hos hds (x:=vl) rfl (za (jU hos hds (x:=vu) rfl (za (jU hos hds (x:=.none) rfl (zp ?_)))))))
 refine za (slicePart_none ?_)
 show zw _ _ (if ((1:Int)==0)=true then _ else _) _ _ s
 rw[if_neg (by decide)]
 refine za (LN pl (za (LN pu (za (zp ?_)))))
 show zw _ _ (match xR lo hi 1 (n:Int) with|(lo,hi)=>pure (lo,(1:Int),yW lo hi 1)) _ _ s
 rw[Wm lo hi n]
 show zw _ _ (pure (((sIx n 0 lo:Nat):Int),(1:Int),yW ((sIx n 0 lo:Nat):Int) ((sIx n n hi:Nat):Int) 1)) _ _ s
 rw[cW3]
 exact zp h
theorem Tj(xs:Array zk)(i k:Nat):((jC k).filterMap fun(m:Nat)=>xs[((i:Int)+(m:Int)*1).toNat]?).toArray= ((xs.toList.drop i).take k).toArray:=by
 have e:(fun(m:Nat)=>xs[((i:Int)+(m:Int)*1).toNat]?)=λm=>xs[i+m]? :=by
  funext m
  have:((i:Int)+(m:Int)*1).toNat=i+m:=by lia
  rw[this]
 rw[e]
 have:=pick_run xs i k
 rw[List.filterMap_map]at this
 have e2:((λx=>xs[x]?)∘λx=>i+x)=λm=>xs[i+m]? :=rfl
 rw[e2]at this
 rw[this]
theorem getItem_tuple_cut{t sl:Addr}{vl vu:zk}{lo hi:Option Int}(ht:Yn s.heap t items)(hs:s.heap.IsSliceOf sl vl vu .none)(pl:IsPart vl lo)(pu:IsPart vu hi)
 (hw:¬(sIx items.size 0 lo=0/\sIx items.size items.size hi=items.size))
 (h:Q (.ref s.heap.objs.size) {s with heap:=s.heap.push {cls:=.type "tuple",data:=.seq ((items.toList.drop (sIx items.size 0 lo)).take (sIx items.size items.size hi-sIx items.size 0 lo)).toArray}})
 (hsz:items.size<=zo):zw (zE prog w) A (Xl (.ref t) (.ref sl)) Q E s:=by
 have htake:sizeOk (.seq ((items.toList.drop (sIx items.size 0 lo)).take (sIx items.size items.size hi-sIx items.size 0 lo)).toArray):=by
  show ((items.toList.drop (sIx items.size 0 lo)).take (sIx items.size items.size hi-sIx items.size 0 lo)).toArray.size<=zo
  rw[zj,Zw,List.length_drop,jK]
  lia
 have hj:sIx items.size items.size hi<=items.size:=IT _ _ (zn _) hi
 obtain⟨os,hos,hcs,hds⟩:=id hs
 have hTs:s.TypeIs (.ref sl) "slice":=⟨os,hos,hcs⟩
 unfold Xl
 try with_reducible refine jI ?_
 first|refine za (zp ?_)|skip
 refine za (wpAny_sequenceKey ht.typeIs (by decide) ?_)
 refine za (jV (name:=jo "__getitem__") ht.typeIs jv
  (jE jv ht.typeIs entry_tuple_getitem ?_ (args_tuple_getitem _ _)))
 show zw _ _ (Yr (.ref t) >>= _) _ _ s
 refine za (tupleItemsOf_ ht ?_)
 refine za (xP hTs ?_)
 rw[if_pos (by decide)]
 refine za (sliceApplied_gen hs pl pu ?_)
 have hno:¬((((sIx items.size 0 lo:Nat):Int)==0&&(1:Int)==1&&(sIx items.size items.size hi-sIx items.size 0 lo)==items.size)=true):=by
  intro q
  rw[jp,jp]at q
  have q1:((sIx items.size 0 lo:Nat):Int)=0:=eq_of_beq q.1.1
  have q2:sIx items.size items.size hi-sIx items.size 0 lo=items.size:=eq_of_beq q.2
  exact hw ⟨by lia,by lia⟩
 show zw _ _ (if (((sIx items.size 0 lo:Nat):Int)==0&&(1:Int)==1&&(sIx items.size items.size hi-sIx items.size 0 lo)==items.size)=true then _ else _) _ _ s
 rw[if_neg hno,Tj]
 first
  |exact za (m:=xh _) (yI (zp ⟨_,rfl,zp h⟩) htake)
  |exact za (m:=xh _) (yI (za (zp (zp ⟨_,rfl,zp h⟩))) htake)
  |exact za (za (m:=xh _) (yI (zp (zp ⟨_,rfl,zp h⟩)) htake))
  |exact za (za (m:=xh _) (yI (zp ⟨_,rfl,zp h⟩) htake))
end
end HT
namespace L2
open PySem PySem.Spec PyProof.Rows
abbrev TO:=St->Hp->(Option Int->Hp->Prop)->Prop
def PO(X:Cx)(e:Option Expr)(t:TO):Prop:=
 ∀(pins:PNS) (s:zv) (σ:St) (H:Hp) (Q:Option Int->Hp->Prop),Inv X pins σ H s->t σ H Q->
  zw (zE X.prog X.w) X.A (evalPart e X.env) (λu s'=>∃o H',Inv X pins σ H' s'/\IsPart u o/\Q o H') X.xe s
def kZ:TO:=λ_ H Q=>Q none H
def fU(t:TE):TO:=λσ H Q=>t σ H λx H1=>∃i,x= .int i/\Q (some i) H1
section
variable{X:Cx}{e:Expr}{te:TE}{lo hi:Option Expr}{tl th:TO}{pos p2:Pos}
theorem rS:PO X none kZ:=by
 intro pins s σ H Q I h
 rw[evalPart_none]
 exact zp ⟨none,H,I,.none,h⟩
theorem eK8(h:PE X e te):PO X (some e) (fU te):=by
 intro pins s σ H Q I hw
 rw[evalPart_some]
 refine thn (h pins s σ H _ I hw) λu s1 hE1=>hE1.elim λx H1 I1 r1 q1=>?_
 obtain⟨i,rfl,q⟩:=q1
 obtain⟨t,rfl⟩:=r1
 exact⟨some i,H1,I1,.int i t,q⟩
def SlR(X:Cx)(r:V->Option Int->Option Int->Hp->VK->Prop):Prop:=
 ∀(pins:PNS) (s:zv) (σ:St) (H:Hp) (x:V) (v vl vu:zk) (lo hi:Option Int) (sl:Addr) (Q:VK),Inv X pins σ H s->J9 x v->s.heap.IsSliceOf sl vl vu .none->IsPart vl lo->IsPart vu hi->r x lo hi H Q->
  ∃T id,Jj (.type T) "__getitem__" =pure (some (.builtin id))/\s.TypeIs v T/\zw (zE X.prog X.w) X.A (Xl v (.ref sl)) (EP X pins σ Q) X.xe s
theorem SlR.or(h:SlR X r)(h':SlR X r'):SlR X (λx lo hi H Q=>r x lo hi H Q\/r' x lo hi H Q):=by
 intro pins s σ H x v vl vu lo hi sl Q I rx hs pl pu q
 rcases q with q|q
 ·exact h pins s σ H x v vl vu lo hi sl Q I rx hs pl pu q
 ·exact h' pins s σ H x v vl vu lo hi sl Q I rx hs pl pu q
def tSl(r:V->Option Int->Option Int->Hp->VK->Prop)(te:TE)(tl th:TO):TE:=λσ H Q=>te σ H λx H1=>tl σ H1 λl H2=>th σ H2 λu H3=>r x l u H3 Q
theorem Vh(hr:SlR X r)(he:PE X e te)(hl:PO X lo tl)(hu:PO X hi th):PE X (.Subscript e (.Slice lo hi none p2) pos) (tSl r te tl th):=by
 intro pins s σ H Q I h
 refine Subscript_ (thn (he pins s σ H _ I h) λv s1 hE1=>hE1.elim λx H1 I1 r1 q1=>?_)
 refine wpAny_Slice (thn (hl pins s1 σ H1 _ I1 q1) λvl s2 ⟨l,H2,I2,pl,q2⟩=>thn (hu pins s2 σ H2 _ I2 q2) λvu s3 ⟨u,H3,I3,pu,q3⟩=>?_)
 rw[evalPart_none]
 refine zp ?_
 have I4:Inv X pins σ H3 {s3 with heap:=s3.heap.push {cls:=.type "slice",data:=.fields #[vl,vu,.none]}}:=I3.kept (t':=s3.toks) λb ob q=>zd _ q
 obtain⟨T,id,hT,ht,hg⟩:=hr pins {s3 with heap:=s3.heap.push {cls:=.type "slice",data:=.fields #[vl,vu,.none]}} σ H3 x v vl vu l u s3.heap.objs.size Q I4 r1 (Xd ..) pl pu q3
 show zw (zE X.prog X.w) X.A (subscriptTail e (.Slice lo hi none p2) v (.ref s3.heap.objs.size)) (EP X pins σ Q) X.xe {s3 with heap:=s3.heap.push {cls:=.type "slice",data:=.fields #[vl,vu,.none]}}
 exact tail_any (ops:= [.ref s3.heap.objs.size,v]) ht hT hg (by with_unfolding_all rfl)
def l7(xs:List V)(lo hi:Option Int):List V:=(xs.drop (HT.sIx xs.length 0 lo)).take (HT.sIx xs.length xs.length hi-HT.sIx xs.length 0 lo)
theorem VR(xs:List V)(lo hi:Option Int):(l7 xs lo hi).length<=xs.length:=by
 unfold l7
 rw[Zw,List.length_drop]
 lia
def Vg(K:zh):V->Option Int->Option Int->Hp->VK->Prop:=λx lo hi H Q=>∃a xs,x= .ref a/\SqT K H a xs/\
 ¬(HT.sIx xs.length 0 lo=0/\HT.sIx xs.length xs.length hi=xs.length)/\∀p,H p=none->Q (.ref p) (upd H p (.tup (l7 xs lo hi)))
theorem sl_tup:SlR X (Vg X.K):=by
 intro pins s σ H x v vl vu lo hi sl Q I rx hs pl pu h
 obtain⟨a,xs,rfl,hx,hw,q⟩:=h
 cases rx
 obtain⟨its,r,ht,hz⟩:=I.tuple hx
 have hlen:its.toArray.size=xs.length:=by rw[zj];exact r.length.symm
 refine⟨"tuple",_,jv.lookup,ht.typeIs,?_⟩
 refine HT.getItem_tuple_cut ht hs pl pu (by rw[hlen];exact hw) ?_ (by rw[hlen];exact hz)
 rw[hlen]
 refine⟨.ref s.heap.objs.size,_,I.laid (t':=s.toks) (o:=.tup (l7 xs lo hi)) (λb ob q=>zd _ q) (zn _) ?_,rfl,q _ (I.hok.fresh (zn _))⟩
 exact⟨zG (VR xs lo hi) hz,_,(r.drop (HT.sIx xs.length 0 lo)).take (HT.sIx xs.length xs.length hi-HT.sIx xs.length 0 lo),t4.new _ _⟩
def Qp(K:zh):R2:=λx y H Q=>∃a b xs ys,x= .ref a/\y= .ref b/\SqT K H a xs/\SqT K H b ys/\xs≠ []/\xs.length+ys.length<=zo/\
 (ys= []->Q (.ref a) H)/\(ys≠ []->∀p,H p=none->Q (.ref p) (upd H p (.tup (xs++ys))))
theorem v6.nil_iff(r:v6 xs us):us= []↔xs= []:=by
 cases r with
 |nil=>simp
 |cons _ _=>simp
theorem Vz:OpR X (jH .Add) (Qp X.K):=by
 intro pins s σ H x y v u Q I rx ry h
 obtain⟨a,b,xs,ys,rfl,rfl,ha,hb,hx,hz,q1,q2⟩:=h
 cases rx
 cases ry
 obtain⟨its,r1,p1,_⟩:=I.tuple ha
 obtain⟨its2,r2,p2,_⟩:=I.tuple hb
 refine HT.cat_tup p1 p2 (λz=>hx (r1.nil_iff.mp z)) (λz=>⟨.ref a,H,I,rfl,q1 (r2.nil_iff.mp z)⟩) (λz=>?_) (by rw[<-r1.length,<-r2.length];exact hz)
 refine⟨.ref s.heap.objs.size,_,I.laid (t':=s.toks) (o:=.tup (xs++ys)) (λb ob q=>zd _ q) (zn _) ?_,rfl,q2 (λw=>z (r2.nil_iff.mpr w)) _ (I.hok.fresh (zn _))⟩
 exact⟨by rw[zA];exact hz,_,r1.append r2,t4.new _ _⟩
end
def ixN(n:Nat)(i:Int):Option Nat:=if 0<=i then (if i<n then some i.toNat else none)else if -(n:Int)<=i then some (i+n).toNat else none
def atI{α:Type}(xs:List α)(i:Int):Option α:=(ixN xs.length i).bind λj=>xs[j]?
theorem KR(h:ixN n i=some j):seqIndex? i n=some j/\j<n/\ -(n:Int)<=i/\i<n:=by
 unfold ixN at h
 by_cases h0:0<=i
 · rw[if_pos h0]at h
   by_cases h1:i<n
   · rw[if_pos h1]at h
     have e:i.toNat=j:=zY h
     exact⟨by rw[seqIndex_of h0 h1,e],by lia,by lia,h1⟩
   ·rw[if_neg h1]at h;cases h
 · rw[if_neg h0]at h
   by_cases h1: -(n:Int)<=i
   · rw[if_pos h1]at h
     have e:(i+n).toNat=j:=zY h
     exact⟨by rw[seqIndex_neg (by lia) h1,e],by lia,h1,by lia⟩
   ·rw[if_neg h1]at h;cases h
theorem TH(h:atI xs i=some v):∃j,seqIndex? i xs.length=some j/\xs[j]? =some v/\j<xs.length/\ -(xs.length:Int)<=i/\i<xs.length:=by
 unfold atI at h
 cases e:ixN xs.length i with
 |none=>rw[e]at h;cases h
 |some j=>
   rw[e]at h
   obtain⟨h1,h2,h3,h4⟩:=KR e
   exact⟨j,h1,h,h2,h3,h4⟩
theorem atI_nat{xs:List α}{j:Nat}{v:α}(h:xs[j]? =some v):atI xs (j:Int)=some v:=by
 have hj:j<xs.length:=(je.mp h).1
 have e:ixN xs.length (j:Int)=some j:=by
  unfold ixN
  rw[if_pos (by lia),if_pos (by lia)];simp
 unfold atI;rw[e];exact h
theorem Bb(xs:List α)(v:α):atI (xs++[v]) (-1)=some v:=by
 have hl:(xs++[v]).length=xs.length+1:=by simp
 have e:ixN (xs++[v]).length (-1)=some xs.length:=by
  unfold ixN
  rw[hl,if_neg (by decide),if_pos (by lia)]
  congr 1
  lia
 unfold atI
 rw[e]
 show (xs++[v])[xs.length]? =some v
 simp
def fF(b:Expr):Prop:=∀o i,subscripted b false o i=operate [o,i] (Xl o i)
def IxR(X:Cx)(r:R2):Prop:=
 ∀(value slice:Expr) (pins:PNS) (s:zv) (σ:St) (H:Hp) (x y:V) (v u:zk) (Q:VK),Inv X pins σ H s->J9 x v->J9 y u->r x y H Q->
  subscripted slice false v u=operate [v,u] (Xl v u)->zw (zE X.prog X.w) X.A (subscriptTail value slice v u) (EP X pins σ Q) X.xe s
def MtR(X:Cx)(id:String)(r:V->List V->Hp->VK->Prop):Prop:=
 ∀(pins:PNS) (s:zv) (σ:St) (H:Hp) (x:V) (xs:List V) (v:zk) (us:List zk) (Q:VK),Inv X pins σ H s->J9 x v->v6 xs us->r x xs H Q->
  zw (zE X.prog X.w) X.A (call (.builtin id) (v::us)) (EP X pins σ Q) X.xe s
section
variable{X:Cx}
theorem IxR.or(h:IxR X r)(h':IxR X r'):IxR X (λx y H Q=>r x y H Q\/r' x y H Q):=by
 intro value slice pins s σ H x y v u Q I rx ry q hs
 rcases q with q|q
 ·exact h value slice pins s σ H x y v u Q I rx ry q hs
 ·exact h' value slice pins s σ H x y v u Q I rx ry q hs
theorem MtR.or{id:String}(h:MtR X id r)(h':MtR X id r'):MtR X id (λx xs H Q=>r x xs H Q\/r' x xs H Q):=by
 intro pins s σ H x xs v us Q I rx rs q
 rcases q with q|q
 ·exact h pins s σ H x xs v us Q I rx rs q
 ·exact h' pins s σ H x xs v us Q I rx rs q
theorem vj(hr:IxR X r)(ha:PE X a ta)(hb:PE X b tb)(hs:fF b):PE X (.Subscript a b pos) (tOp r ta tb):=by
 intro pins s σ H Q I h
 exact Subscript_ (aI ha hb I h λv u s2 x y H2 I2 rx ry q=>hr a b pins s2 σ H2 x y v u Q I2 rx ry q (hs _ _))
def fR2(K:zh):R2:=λx y H Q=>∃p xs i v,x= .ref p/\y= .int i/\SqL K H p xs/\atI xs i=some v/\Q v H
def vS(K:zh):R2:=λx y H Q=>∃p xs i v,x= .ref p/\y= .int i/\SqT K H p xs/\atI xs i=some v/\Q v H
def Pp:R2:=λx y H Q=>∃z i c,x= .str z/\y= .int i/\z.length<=zo/\atI z.cps.toList i=some c/\Q (.str ⟨#[c]⟩) H
theorem Hk:IxR X (fR2 X.K):=by
 intro value slice pins s σ H x y v u Q I rx ry h hs
 obtain⟨p,xs,i,z,rfl,rfl,hq,he,q⟩:=h
 cases rx
 obtain⟨t,rfl⟩:=ry
 obtain⟨its,r,pl,hz⟩:=I.list hq
 obtain⟨j,h1,h2,h3,h4,h5⟩:=TH he
 obtain⟨w,ew,rw'⟩:=r.get h2
 have hl:=r.length
 have hn:=AA
 have fin:EP X pins σ Q w s:=⟨z,H,I,rw',q⟩
 by_cases h0:0<=i
 · have hj:i.toNat=j:=by
    rw[seqIndex_of h0 h5]at h1
    exact zY h1
   exact item_listR pl.isList h0 (by lia) (by rw[hj];simpa using ew) fin hs
 · have hj:(i+(its.toArray.size:Int)).toNat=j:=by
    rw[seqIndex_neg (by lia) h4]at h1
    rw[zj,<-hl]
    exact zY h1
   exact Yf (x:=w) pl.isList.typeIs Xk.lookup
    (wpAny_getItem_list_neg (Q:=λr s'=>r=w/\EP X pins σ Q r s') pl.isList (by lia) (by rw[zj]<;>lia) (by lia) (by rw[hj];simpa using ew) ⟨rfl,fin⟩) hs
theorem ix_tup:IxR X (vS X.K):=by
 intro value slice pins s σ H x y v u Q I rx ry h hs
 obtain⟨p,xs,i,z,rfl,rfl,hq,he,q⟩:=h
 cases rx
 obtain⟨t,rfl⟩:=ry
 obtain⟨its,r,pl,hz⟩:=I.tuple hq
 obtain⟨j,h1,h2,h3,h4,h5⟩:=TH he
 obtain⟨w,ew,rw'⟩:=r.get h2
 have hl:=r.length
 have hn:=AA
 have fin:EP X pins σ Q w s:=⟨z,H,I,rw',q⟩
 exact Yf (x:=w) pl.typeIs jv.lookup
  (getItem_tuple (j:=j) (Q:=λr s'=>r=w/\EP X pins σ Q r s') pl (by lia) (by lia) (by rw[zj,<-hl];exact h1) (by simpa using ew) ⟨rfl,fin⟩) hs
theorem GS:IxR X Pp:=by
 intro value slice pins s σ H x y v u Q I rx ry h hs
 obtain⟨z,i,c,rfl,rfl,hz,he,q⟩:=h
 obtain⟨t,rfl⟩:=rx
 obtain⟨t',rfl⟩:=ry
 obtain⟨j,h1,h2,h3,h4,h5⟩:=TH he
 have hl:z.cps.toList.length=z.length:=by simp[Str.length]
 rw[hl]at h1 h4 h5
 have hn:=AA
 exact tail_any (typeIs_str s z t) slot_str_getitem.lookup (getItem_str (c:=c) (by
  have e1:decide (i < -(2 ^ 63:Int))=false:=decide_eq_false (by lia)
  have e2:decide (i>=2 ^ 63)=false:=decide_eq_false (by lia)
  rw[e1,e2,Yu]) (by rw[h1];simpa using h2) ⟨.str ⟨#[c]⟩,H,I.tok _,⟨_,rfl⟩,q⟩) hs
theorem BS(its:List zk)(n j:Nat)(u:zk):jt (·.setIfInBounds j u) {cls:=.type "list",data:=.seq its.toArray n}= {cls:=.type "list",data:=.seq (its.set j u).toArray n}:=by
 simp[jt]
theorem Inv.lst(I:Inv X pins σ H s)(h:H p=some (.lst xs)):
 ∃(its:List zk) (n:Nat),v6 xs its/\s.heap.get? p=some {cls:=.type "list",data:=.seq its.toArray n}/\xs.length<=zo:=by
 obtain⟨z,its,n,r,e⟩:=I.hok p _ h
 exact⟨its,n,r,e,z⟩
theorem Inv.lstUpd{σ:St}{H:Hp}{s:zv}{p:Addr}{xs ys:List V}{its its':List zk}{n n':Nat}{f:Obj->Obj}(I:Inv X pins σ H s)(h:H p=some (.lst xs))
 (ho:s.heap.get? p=some {cls:=.type "list",data:=.seq its.toArray n}) (hf:f {cls:=.type "list",data:=.seq its.toArray n}= {cls:=.type "list",data:=.seq its'.toArray n'}) (r:v6 ys its') (hz:ys.length<=zo) (t:Nat):
 Inv X pins σ (upd H p (.lst ys)) {s with heap:=s.heap.update p f,toks:=t}:=by
 have e:(s.heap.update p f).get? p=some {cls:=.type "list",data:=.seq its'.toArray n'}:=by
  rw[xa f ho (by rw[hf]<;>rfl),hf]
 refine I.write (x:=p) (e:=p) (by rw[h];trivial) (.inl rfl) (λb u hb q=>(yS _ _ (Ne.symm hb)).trans q) ⟨_,e⟩ ?_
 exact⟨hz,its',n',r,e⟩
def lU:V->V->V->Hp->(Hp->Prop)->Prop:=λo i v H Q=>∃p xs k j,o= .ref p/\i= .int k/\H p=some (.lst xs)/\ixN xs.length k=some j/\Q (upd H p (.lst (xs.set j v)))
theorem Vm:vJ X lU:=by
 intro pins s σ H o i v ov iv u Q I ro ri rv h
 obtain⟨p,xs,k,j,rfl,rfl,hp,hj,q⟩:=h
 cases ro
 obtain⟨t,rfl⟩:=ri
 obtain⟨its,n,r,ho,hz⟩:=I.lst hp
 obtain⟨h1,h2,h3,h4⟩:=KR hj
 have hl:=r.length
 have hn:=AA
 have I':Inv X pins σ (upd H p (.lst (xs.set j v))) {s with heap:=s.heap.update p (jt (·.setIfInBounds j u))}:=
  I.lstUpd hp ho (BS its n j u) (r.set rv j) (by rw[xW];exact hz) s.toks
 by_cases h0:0<=k
 · have hk:k.toNat=j:=by
    rw[seqIndex_of h0 h4]at h1
    exact zY h1
   exact PySem.W.ki_setAt ho h0 (by lia) (by rw[zj,<-hl];exact h4) (by rw[hk];exact⟨_,I',q⟩)
 · have hk:(k+(its.toArray.size:Int)).toNat=j:=by
    rw[seqIndex_neg (by lia) h3]at h1
    rw[zj,<-hl]
    exact zY h1
   exact PySem.W.ki_setBack ho (by lia) (by rw[zj,<-hl];exact h3) (by lia) (by rw[hk];exact⟨_,I',q⟩)
theorem Cq(lo hi:Option Int)(n:Nat):(yZ lo hi none n).1= ((HT.sIx n 0 lo:Nat):Int)/\(yZ lo hi none n).2.1= ((HT.sIx n n hi:Nat):Int)/\(yZ lo hi none n).2.2=1:=by
 refine⟨?_,?_,rfl⟩
 · cases lo with
   |none=>simp[yZ,HT.sIx]
   |some i=>
     simp only[yZ,HT.sIx,Option.getD_none,show (1:Int)>0 by decide,if_true]
     by_cases h:i<0
     ·simp only[h,if_true]<;>lia
     ·simp only[h,if_false]<;>lia
 · cases hi with
   |none=>simp[yZ,HT.sIx]
   |some i=>
     simp only[yZ,HT.sIx,Option.getD_none,show (1:Int)>0 by decide,if_true]
     by_cases h:i<0
     ·simp only[h,if_true]<;>lia
     ·simp only[h,if_false]<;>lia
theorem Gq(its:List zk)(lo hi:Option Int):XA its.toArray lo hi none= ((its.drop (HT.sIx its.length 0 lo)).take (HT.sIx its.length its.length hi-HT.sIx its.length 0 lo)).toArray:=by
 obtain⟨h1,h2,h3⟩:=Cq lo hi its.toArray.size
 unfold XA
 rw[h1,h2,h3]
 simp only[sliceRange_one,pick_run,zj]<;>rfl
def fU0(K:zh):V->Option Int->Option Int->Hp->VK->Prop:=λx lo hi H Q=>∃a xs,x= .ref a/\SqL K H a xs/\∀p,H p=none->Q (.ref p) (upd H p (.lst (l7 xs lo hi)))
theorem lS:SlR X (fU0 X.K):=by
 intro pins s σ H x v vl vu lo hi sl Q I rx hs pl pu h
 obtain⟨a,xs,rfl,hx,q⟩:=h
 cases rx
 obtain⟨its,r,ht,hz⟩:=I.list hx
 have hlen:=r.length
 refine⟨"list",_,Xk.lookup,ht.isList.typeIs,?_⟩
 refine JM ht.isList hs pl pu .none (by simp) ?_ (by rw[zj]<;>lia)
 rw[Gq,<-hlen]
 refine⟨.ref s.heap.objs.size,_,I.laid (t':=s.toks) (o:=.lst (l7 xs lo hi)) (λb ob q=>zd _ q) (zn _) ?_,rfl,q _ (I.hok.fresh (zn _))⟩
 exact⟨zG (VR xs lo hi) hz,_,0,(r.drop (HT.sIx xs.length 0 lo)).take (HT.sIx xs.length xs.length hi-HT.sIx xs.length 0 lo),zq _ rfl⟩
def B7:V->Bool
 | .non=>true
 | .bl _=>true
 | .int _=>true
 | .str _=>true
 |_=>false
def eqV:V->V->Bool
 | .non,.non=>true
 | .bl a,.bl b=>a==b
 | .bl a,.int b=>(if a then 1 else 0)==b
 | .int a,.bl b=>a==(if b then 1 else 0)
 | .int a,.int b=>a==b
 | .str a,.str b=>a==b
 |_,_=>false
theorem rX(ry:J9 y u)(rx:J9 x v)(fy:B7 y=true)(fx:B7 x=true):jJ A s u v (eqV y x):=by
 cases y with
 |non=>
   cases ry
   cases x with
   |non=>cases rx;exact Yw _
   |bl b=>cases rx;exact Xn b
   |int b=>obtain⟨t,rfl⟩:=rx;exact XI b t
   |str b=>obtain⟨t,rfl⟩:=rx;exact XH b t
   |_=>exact absurd (show false=true from fx) jc
 |bl a=>
   cases ry
   cases x with
   |non=>cases rx;exact Xo a
   |bl b=>cases rx;exact Xp a b
   |int b=>obtain⟨t,rfl⟩:=rx;exact XO a b t
   |str b=>obtain⟨t,rfl⟩:=rx;exact XM a b t
   |_=>exact absurd (show false=true from fx) jc
 |int a=>
   obtain⟨t',rfl⟩:=ry
   cases x with
   |non=>cases rx;exact XJ a t'
   |bl b=>cases rx;exact XL a t' b
   |int b=>obtain⟨t,rfl⟩:=rx;exact XV a t' b t
   |str b=>obtain⟨t,rfl⟩:=rx;exact ZO a t' b t
   |_=>exact absurd (show false=true from fx) jc
 |str a=>
   obtain⟨t',rfl⟩:=ry
   cases x with
   |non=>cases rx;exact XF a t'
   |bl b=>cases rx;exact XG a t' b
   |int b=>obtain⟨t,rfl⟩:=rx;exact ZN a t' b t
   |str b=>obtain⟨t,rfl⟩:=rx;exact XU a t' b t
   |_=>exact absurd (show false=true from fx) jc
 |_=>exact absurd (show false=true from fy) jc
def eqU(x:V)(u:zk):Bool:=match u with
 | .none=>eqV .non x
 | .bool b=>eqV (.bl b) x
 | .int i _=>eqV (.int i) x
 | .str z _=>eqV (.str z) x
 |_=>false
theorem lN(r:J9 y u)(f:B7 y=true):eqU x u=eqV y x:=by
 cases y with
 |non=>cases r;rfl
 |bl b=>cases r;rfl
 |int i=>obtain⟨t,rfl⟩:=r;rfl
 |str z=>obtain⟨t,rfl⟩:=r;rfl
 |_=>exact absurd (show false=true from f) jc
theorem sF(h:v6 xs us)(f:xs.all B7=true):us.any (eqU x)=xs.any λy=>eqV y x:=by
 induction h with
 |nil=>rfl
 |cons r t ih=>
   rw[jX,jp]at f
   rw[jW,jW,lN r f.1,ih f.2]
theorem HD(rx:J9 x v)(fx:B7 x=true):∀ {xs} {us},v6 xs us->xs.all B7=true->∀u∈us,jJ A s u v (eqU x u)
 |_,_,.nil,_=>λu hu=>by cases hu
 |y::xs,u::us,.cons r t,f=>λu' hu=>by
   rw[jX,jp]at f
   rcases zt.mp hu with rfl|hu
   ·rw[lN r f.1];exact rX r rx f.1 fx
   ·exact HD rx fx t f.2 u' hu
def inV(x:V)(xs:List V):Bool:=xs.any λy=>eqV y x
def rIn(K:zh)(neg:Bool):R2:=λx y H Q=>∃p xs,y= .ref p/\(SqL K H p xs\/SqT K H p xs)/\B7 x=true/\xs.all B7=true/\Q (.bl (if neg then !inV x xs else inV x xs)) H
theorem Cz:OpR X (zO .In) (rIn X.K false):=by
 intro pins s σ H x y v u Q I rx ry h
 obtain⟨p,xs,rfl,hq,fx,fs,q⟩:=h
 cases ry
 rcases hq with hq|hq
 · obtain⟨its,r,pl,hz⟩:=I.list hq
   refine SeqAt.in_listAt (eqU x) pl.isList (λw hw=>HD rx fx r fs w (by simpa using hw)) ⟨.bl _,H,I,rfl,?_⟩
   rw[show its.toArray.any (eqU x)=its.any (eqU x) by simp,sF r fs]
   exact q
 · obtain⟨its,r,pl,hz⟩:=I.tuple hq
   refine SeqAt.in_tupleAt (eqU x) pl (λw hw=>HD rx fx r fs w (by simpa using hw)) ⟨.bl _,H,I,rfl,?_⟩
   rw[show its.toArray.any (eqU x)=its.any (eqU x) by simp,sF r fs]
   exact q
theorem Qc:OpR X (zO .NotIn) (rIn X.K true):=by
 intro pins s σ H x y v u Q I rx ry h
 obtain⟨p,xs,rfl,hq,fx,fs,q⟩:=h
 cases ry
 rcases hq with hq|hq
 · obtain⟨its,r,pl,hz⟩:=I.list hq
   refine JU (eqU x) pl.isList (λw hw=>HD rx fx r fs w (by simpa using hw)) ⟨.bl _,H,I,rfl,?_⟩
   rw[show its.toArray.any (eqU x)=its.any (eqU x) by simp,sF r fs]
   exact q
 · obtain⟨its,r,pl,hz⟩:=I.tuple hq
   refine JC (eqU x) pl (λw hw=>HD rx fx r fs w (by simpa using hw)) ⟨.bl _,H,I,rfl,?_⟩
   rw[show its.toArray.any (eqU x)=its.any (eqU x) by simp,sF r fs]
   exact q
theorem CZ:OpR X (zO .NotIn) (λx y H Q=>∃i j,x= .str i/\y= .str j/\Q (.bl (!(!(Zg j i 0 j.length 1).isEmpty))) H):=by
 intro pins s σ H x y v u Q I rx ry h
 obtain⟨i,j,rfl,rfl,q⟩:=h
 obtain⟨t,rfl⟩:=rx
 obtain⟨t',rfl⟩:=ry
 exact notIn_str ⟨.bl _,H,I,rfl,q⟩
theorem Pq:F1 X (.builtin "len") (λxs H Q=>∃p ys,xs= [.ref p]/\(SqL X.K H p ys\/SqT X.K H p ys)/\Q (.int ys.length) H):=by
 intro pins s σ H xs us Q I r h
 obtain⟨p,ys,rfl,hq,q⟩:=h
 obtain⟨u,rfl,rx⟩:=Q2 r
 cases rx
 have hn:=AA
 rcases hq with hq|hq
 · obtain⟨its,r',pl,hz⟩:=I.list hq
   have hlen:=r'.length
   exact Calls.call_len_list pl.isList (by simp only[zj]<;>lia) ⟨.int ys.length,H,I.tok _,⟨s.toks+1,by rw[zj,hlen]⟩,q⟩
 · obtain⟨its,r',pl,hz⟩:=I.tuple hq
   have hlen:=r'.length
   exact len_tuple pl (by simp only[zj]<;>lia) ⟨.int ys.length,H,I.tok _,⟨s.toks+1,by rw[zj,hlen]⟩,q⟩
theorem lZ:F1 X (.builtin "len") (λxs H Q=>∃z,xs= [.str z]/\z.length<=zo/\Q (.int z.length) H):=by
 intro pins s σ H xs us Q I r h
 obtain⟨z,rfl,hz,q⟩:=h
 obtain⟨u,rfl,t,rfl⟩:=Q2 r
 have hn:=AA
 exact len_str (by lia) ⟨.int z.length,H,I.tok _,⟨_,rfl⟩,q⟩
theorem F1.or(h:F1 X f r)(h':F1 X f r'):F1 X f (λxs H Q=>r xs H Q\/r' xs H Q):=by
 intro pins s σ H xs us Q I rs q
 rcases q with q|q
 ·exact h pins s σ H xs us Q I rs q
 ·exact h' pins s σ H xs us Q I rs q
theorem Bg:F1 X (.type "list") (λxs H Q=>∃p ys,xs= [.ref p]/\(SqL X.K H p ys\/SqT X.K H p ys)/\∀l,H l=none->Q (.ref l) (upd H l (.lst ys))):=by
 intro pins s σ H xs us Q I r h
 obtain⟨p,ys,rfl,hq,q⟩:=h
 obtain⟨u,rfl,rx⟩:=Q2 r
 cases rx
 have fin:∀(its:List zk),v6 ys its->ys.length<=zo->∀(h':Heap) (c':Nat),(∀b o',s.heap.get? b=some o'->h'.get? b=some o')->
  h'.get? s.heap.objs.size=some {cls:=.type "list",dict:=none,data:=.seq its.toArray c',slots:= #[]}->EP X pins σ Q (.ref s.heap.objs.size) {s with heap:=h'}:=λits r' hz h' c' kp e=>
  ⟨.ref s.heap.objs.size,_,I.laid (t':=s.toks) kp (zn _) (show T4 X.prog X.w _ h' _ (.lst ys) from⟨hz,its,c',r',e⟩),rfl,q _ (I.hok.fresh (zn _))⟩
 rcases hq with hq|hq
 · obtain⟨its,r',pl,hz⟩:=I.list hq
   have hlen:=r'.length
   obtain⟨o,ho,hc,n,hd⟩:=pl.isList
   exact call_list_seq p (.inl rfl) ho hc hd (λh' c' kp e=>fin its r' hz h' c' kp e) (by simp only[zj]<;>lia)
 · obtain⟨its,r',pl,hz⟩:=I.tuple hq
   have hlen:=r'.length
   obtain⟨o,ho,hc,n,hd⟩:=pl
   exact call_list_seq p (.inr rfl) ho hc hd (λh' c' kp e=>fin its r' hz h' c' kp e) (by simp only[zj]<;>lia)
theorem Tp:F1 X (.type "tuple") (λxs H Q=>∃p ys,xs= [.ref p]/\((SqL X.K H p ys/\∀l,H l=none->Q (.ref l) (upd H l (.tup ys)))\/(SqT X.K H p ys/\Q (.ref p) H))):=by
 intro pins s σ H xs us Q I r h
 obtain⟨p,ys,rfl,h⟩:=h
 obtain⟨u,rfl,rx⟩:=Q2 r
 cases rx
 rcases h with⟨hq,q⟩|⟨hq,q⟩
 · obtain⟨its,r',pl,hz⟩:=I.list hq
   have hlen:=r'.length
   refine call_tuple_list pl.isList (λh' kp=>?_) (by simp only[zj]<;>lia)
   have I1:Inv X pins σ H {s with heap:=h'}:=I.kept (t':=s.toks) kp
   have I2:Inv X pins σ (upd H h'.objs.size (.tup ys)) {s with heap:=h'.push {cls:=.type "tuple",data:=.seq its.toArray}}:=
    I1.laid (t':=s.toks) (λb o e=>zd _ e) (zn _) (show T4 X.prog X.w _ _ _ (.tup ys) from⟨hz,its,r',t4.new _ _⟩)
   exact⟨.ref h'.objs.size,_,I2,rfl,q _ (I1.hok.fresh (zn _))⟩
 · obtain⟨its,r',pl,hz⟩:=I.tuple hq
   exact call_tuple_same pl ⟨.ref p,H,I,rfl,q⟩
def tyV(K:zh)(T:String)(x:V)(H:Hp):Prop:=match x with
 | .str _=>T= "str"
 | .int _=>T= "int"
 | .ref p=>(T= "list"/\∃xs,SqL K H p xs)\/(T= "tuple"/\∃o,K.lookup p=some o/\o.cls= .type "tuple"/\o.dict=none)\/
    (T= "dict"/\((∃kvs,H p=some (.dK kvs))\/∃kvs,H p=some (.dT kvs)))\/(T= "set"/\∃S n,H p=some (.set S n))
 |_=>False
theorem aS(I:Inv X pins σ H s)(r:J9 x v)(ty:tyV X.K T x H):
 s.TypeIs v T/\∀a,v= .ref a->∃ob,s.heap.get? a=some ob/\ob.dict=none:=by
 cases x with
 |str z=>
   obtain⟨t,rfl⟩:=r
   cases (show T= "str" from ty)
   exact⟨typeIs_str s z t,λ_ e=>nomatch e⟩
 |int i=>
   obtain⟨t,rfl⟩:=r
   cases (show T= "int" from ty)
   exact⟨xJ s i t,λ_ e=>nomatch e⟩
 |ref p=>
   cases r
   rcases ty with⟨rfl,xs,hq⟩|⟨rfl,o,hk,hc,hd⟩|⟨rfl,hk⟩|⟨rfl,S,n,hk⟩
   · obtain⟨its,_,pl,_⟩:=I.list hq
     refine⟨pl.isList.typeIs,λa e=>?_⟩
     cases e
     obtain⟨o,n,e,c,hd,_⟩:=pl
     exact⟨o,e,hd⟩
   · refine⟨⟨o,I.kIn p o hk,hc⟩,λa e=>?_⟩
     cases e
     exact⟨o,I.kIn _ o hk,hd⟩
   · have z:∃o,s.heap.get? p=some o/\o.ExactDict:=by
      rcases hk with⟨kvs,hk⟩|⟨kvs,hk⟩
      · obtain⟨_,_,_,_,o,_,_,e,ex,_⟩:=I.hok p _ hk
        exact⟨o,e,ex⟩
      · obtain⟨_,_,_,_,o,_,_,e,ex,_⟩:=I.hok p _ hk
        exact⟨o,e,ex⟩
     obtain⟨o,e,ex⟩:=z
     refine⟨⟨o,e,ex.1⟩,λa e2=>?_⟩
     cases e2
     exact⟨o,e,ex.2.1⟩
   · obtain⟨o,_,_,_,e,ex,_⟩:=I.hok p _ hk
     refine⟨⟨o,e,ex.1⟩,λa e2=>?_⟩
     cases e2
     exact⟨o,e,ex.2.1⟩
 |_=>exact yx ty
def uY(K:zh)(T:String)(r:V->List V->Hp->VK->Prop)(to:TE):TE:=λσ H Q=>to σ H λx H1=>tyV K T x H1/\r x [] H1 Q
def tBM(K:zh)(T:String)(r:V->List V->Hp->VK->Prop)(to:TE)(t:TA):TE:=λσ H Q=>to σ H λx H1=>tyV K T x H1/\t σ H1 λxs H2=>r x xs H2 Q
variable{o e:Expr}{es:List Expr}{to:TE}{t:TA}{name:Str}{apos cpos:Pos}{T id:String}{r:V->List V->Hp->VK->Prop}
theorem Mc(pa:PlainAttrs T)(slot:Slot T name id)(hty:typeOf (.builtin id)=pure (.type "method_descriptor"))(hm:MtR X id r)(ho:PE X o to)
 (hbase:xB o name X.env (eval o X.env)=eval o X.env) (hline:(apos.endLine==cpos.line)=true):PE X (.Call (.Attribute o name apos) [] [] cpos) (uY X.K T r to):=by
 intro pins s σ H Q I h
 refine wpAny_Call_method0_late hbase hline (thn (ho pins s σ H _ I h) λv s1 ⟨x,H1,I1,r1,ty,q1⟩=>?_)
 obtain⟨h1,h2⟩:=aS I1 r1 ty
 exact⟨T,id,pa,slot,hty,h1,h2,XZ rfl (PySem.evalArgs_none (hm pins s1 σ H1 x [] v [] Q I1 r1 .nil q1))⟩
theorem TK(pa:PlainAttrs T)(slot:Slot T name id)(hty:typeOf (.builtin id)=pure (.type "method_descriptor"))(hm:MtR X id r)(ho:PE X o to)(ha:PA X (e::es) t)
 (hbase:xB o name X.env (eval o X.env)=eval o X.env)
 (hfew:((xf cpos (zP (e::es) X.env)).all (λx=> !x.1)&&(Jp cpos (Yz [] X.env)).all (λx=>x.1.isSome)
   && decide ((e::es).length+([]:List Keyword).length+(if ([]:List Keyword).isEmpty then 0 else 1)<30))=true)
 (hline:(apos.endLine==cpos.line)=true) (hs:zP (e::es) X.env= (false,eval e X.env)::zP es X.env) (hplain:(xf cpos (zP es X.env)).any (·.1)=false):
 PE X (.Call (.Attribute o name apos) (e::es) [] cpos) (tBM X.K T r to t):=by
 intro pins s σ H Q I h
 refine wpAny_Call_method_late hbase hfew hline rfl (thn (ho pins s σ H _ I h) λv s1 ⟨x,H1,I1,r1,ty,q1⟩=>?_)
 obtain⟨h1,h2⟩:=aS I1 r1 ty
 refine⟨T,id,pa,slot,hty,h1,h2,?_⟩
 have hA:=ha cpos pins s1 σ H1 _ I1 q1
 rw[hs]at hA ⊢
 refine XZ (by show (false||(xf cpos (zP es X.env)).any (·.1))=false;rw[hplain]<;>rfl) (Calls.evalArgs_plain ?_)
 exact thn hA λus s2 hE1=>hE1.elim λvs H2 I2 r2 q2=>hm pins s2 σ H2 x vs v us Q I2 r1 r2 q2
end
def MtM(X:Cx)(id:String)(r:V->List V->Hp->VK->Prop):Prop:=
 ∀(pins:PNS) (s:zv) (σ:St) (H:Hp) (x:V) (xs:List V) (v:zk) (us:List zk) (Q:VK),Inv X pins σ H s->J9 x v->v6 xs us->r x xs H Q->
  zw (zE X.prog X.w) X.A (call (.builtin id) (v::us)) (EP X pins σ Q) X.xe s
theorem v6.one(h:v6 [x] us):∃u,us= [u]/\J9 x u:=by
 cases h with
 |cons r t=>cases t;exact⟨_,rfl,r⟩
theorem v6.two(h:v6 [x,y] us):∃u v,us= [u,v]/\J9 x u/\J9 y v:=by
 cases h with
 |cons r t=>
   obtain⟨v,rfl,q⟩:=v6.one t
   exact⟨_,v,rfl,r,q⟩
theorem v6.zero:∀ {us},v6 [] us->us= []
 |_,.nil=>rfl
theorem v6.dropLast(h:v6 xs us):v6 xs.dropLast us.dropLast:=by
 induction h with
 |nil=>exact .nil
 |cons r t ih=>
   cases t with
   |nil=>exact .nil
   |cons q t'=>exact .cons r ih
theorem v6.eraseIdx:∀ {xs} {us} i,v6 xs us->v6 (xs.eraseIdx i) (us.eraseIdx i)
 |_,_,_,.nil=>.nil
 |_,_,0,.cons _ t=>t
 |_,_,i+1,.cons r t=>.cons r (v6.eraseIdx i t)
theorem v6.reverse(h:v6 xs us):v6 xs.reverse us.reverse:=by
 induction h with
 |nil=>exact .nil
 |cons r t ih=>rw[YF,YF];exact v6.append ih (.cons r .nil)
theorem v6.rep(h:v6 xs us):∀k:Nat,v6 (zu k xs).flatten (zu k us).flatten
 |0=>.nil
 |k+1=>by
   rw[yc,yc,jZ,jZ]
   exact v6.append h (v6.rep h k)
theorem aW(l:List α):l.eraseIdx (l.length-1)=l.dropLast:=by
 induction l with
 |nil=>rfl
 |cons a r ih=>
   cases r with
   |nil=>rfl
   |cons b r=>
     have e:(a::b::r).length-1= ((b::r).length-1)+1:=by
      have h1:(a::b::r).length=r.length+2:=rfl
      have h2:(b::r).length=r.length+1:=rfl
      lia
     rw[e,List.eraseIdx_cons_succ,ih]
     all_goals rfl
theorem UI(its:List zk):∀k acc,
 ZE (λx1 x2=>x1++x2) acc.toArray (zu k its.toArray)= (acc++(zu k its).flatten).toArray
 |0,acc=>by simp
 |k+1,acc=>by
   have e:acc.toArray++its.toArray= (acc++its).toArray:=by simp
   have e2:(acc++its)++(zu k its).flatten=acc++(zu (k+1) its).flatten:=by
    rw[yc,jZ,ya]
   rw[<-e2,<-UI its k (acc++its),<-e,yc,xX]
section
theorem Inv.lset{its its':List zk}{n:Nat}{t':Nat}(I:Inv X pins σ H s)(hH:H l=some (.lst xs))
 (e:s.heap.get? l=some {cls:=.type "list",data:=.seq its.toArray n}) (hf:f its.toArray=its'.toArray) (hv:v6 ys its') (hz:ys.length<=zo):
 Inv X pins σ (upd H l (.lst ys)) {s with heap:=s.heap.update l (jt f),toks:=t'}:=by
 have q:=PySem.IsL.update e f
 rw[hf]at q
 refine I.write (x:=l) (e:=l) (by rw[hH];exact trivial) (.inl rfl) (λb' u hb hu=>(yS s.heap (jt f) (Ne.symm hb)).trans hu) ⟨_,q⟩ ?_
 exact⟨hz,its',_,hv,q⟩
theorem Inv.lnew(I:Inv X pins σ H s)(hv:v6 ys its)(hz:ys.length<=zo):
 Inv X pins σ (upd H s.heap.objs.size (.lst ys)) {s with heap:=s.heap.push {cls:=.type "list",data:=.seq its.toArray},toks:=t'}:=
 I.laid (λ_ _ q=>zd _ q) (zn _) ⟨hz,its,0,hv,zq _ rfl⟩
theorem Inv.fresh(I:Inv X pins σ H s):H s.heap.objs.size=none:=I.hok.fresh (zn _)
theorem Inv.lstM(I:Inv X pins σ H s)(hH:H l=some (.lst xs)):xs.length<=zo/\∃(its:List zk) (n:Nat),v6 xs its/\xs.length=its.length/\s.heap.get? l=some {cls:=.type "list",data:=.seq its.toArray n}:=by
 obtain⟨z,its,n,r,e⟩:=I.hok l _ hH
 exact⟨z,its,n,r,r.length,e⟩
theorem uN(h:n<=zo):xj n=false:=by
 unfold xj
 exact decide_eq_false (by lia)
end
section
def BX:V->List V->Hp->VK->Prop:=λx vs H Q=>∃l xs y,x= .ref l/\vs= [y]/\H l=some (.lst xs)/\xs.length<zo/\Q .non (upd H l (.lst (xs++[y])))
theorem sQ:MtM X "list.append" BX:=by
 intro pins s σ H x vs v us Q I rx rv h
 obtain⟨l,xs,y,rfl,rfl,hH,hz,q⟩:=h
 cases rx
 obtain⟨u,rfl,ru⟩:=rv.one
 obtain⟨z,its,n,r,hl,e⟩:=I.lstM hH
 refine xK Jr ⟨_,e,rfl⟩ F.entry_list_append (F.args_list_append_2 _ _) (PySem.list_append l its.toArray n u (by rw[zj];lia)) ⟨e,?_⟩
 refine⟨.non,_,I.lset (its':=its++[u]) hH e (by simp) (r.append (.cons ru .nil)) ?_,rfl,q⟩
 rw[zA,jD]
 lia
def bW:V->List V->Hp->VK->Prop:=λx vs H Q=>∃l b xs zs,x= .ref l/\vs= [.ref b]/\H l=some (.lst xs)/\H b=some (.lst zs)/\xs.length+zs.length<=zo/\Q .non (upd H l (.lst (xs++zs)))
theorem Vf:MtM X "list.extend" bW:=by
 intro pins s σ H x vs v us Q I rx rv h
 obtain⟨l,b,xs,zs,rfl,rfl,hH,hB,hz,q⟩:=h
 cases rx
 obtain⟨u,rfl,ru⟩:=rv.one
 cases ru
 obtain⟨z,its,n,r,hl,e⟩:=I.lstM hH
 obtain⟨z2,its2,n2,r2,hl2,e2⟩:=I.lstM hB
 have hsz:its.toArray.size+its2.toArray.size<=zo:=by rw[zj,zj];lia
 have hlong:¬(!its.toArray.isEmpty&&xj (its.toArray.size+its2.toArray.size))=true:=by
  rw[uN hsz,Bool.and_false]
  exact jc
 refine xK Jq ⟨_,e,rfl⟩ F.entry_list_extend (F.args_list_extend_2 _ _)
  (AutoSeq1.list_extend_list_list_0 l its.toArray n b its2.toArray n2 hlong (by rw[zj];lia) (by lia)) ⟨e,e2,?_⟩
 refine⟨.non,_,I.lset (its':=its++its2) hH e (by simp) (r.append r2) ?_,rfl,q⟩
 rw[zA]
 lia
def fU6:V->List V->Hp->VK->Prop:=λx vs H Q=>∃l xs y,x= .ref l/\vs= []/\H l=some (.lst xs)/\xs[xs.length-1]? =some y/\Q y (upd H l (.lst xs.dropLast))
theorem tT:MtM X "list.pop" fU6:=by
 intro pins s σ H x vs v us Q I rx rv h
 obtain⟨l,xs,y,rfl,rfl,hH,hy,q⟩:=h
 cases rx
 have hus:=rv.zero
 subst hus
 obtain⟨z,its,n,r,hl,e⟩:=I.lstM hH
 obtain⟨u,hu,ru⟩:=r.get hy
 have hy':its.toArray[its.toArray.size-1]? =some u:=by
  show its.toArray[its.length-1]? =some u
  rw[<-jB,<-hl]
  exact hu
 refine xK F.slot_list_pop ⟨_,e,rfl⟩ F.entry_list_pop (F.args_list_pop_1 _) (MeetsSeq.list_pop_last l its.toArray n u hy' (by rw[zj];lia)) ⟨e,?_⟩
 refine⟨y,_,I.lset (its':=its.dropLast) hH e ?_ r.dropLast ?_,ru,q⟩
 · show its.toArray.eraseIdxIfInBounds (its.toArray.size-1)=its.dropLast.toArray
   rw[zj,List.eraseIdxIfInBounds_toArray,aW]
 · rw[List.length_dropLast]
   lia
def rZ:R2:=λx y H Q=>∃l b xs zs,x= .ref l/\y= .ref b/\H l=some (.lst xs)/\H b=some (.lst zs)/\xs.length+zs.length<=zo/\∀p,H p=none->Q (.ref p) (upd H p (.lst (xs++zs)))
theorem vd:OpR X (jH .Add) rZ:=by
 intro pins s σ H x y v u Q I rx ry h
 obtain⟨l,b,xs,zs,rfl,rfl,hH,hB,hz,q⟩:=h
 cases rx
 cases ry
 obtain⟨z,its,n,r,hl,e⟩:=I.lstM hH
 obtain⟨z2,its2,n2,r2,hl2,e2⟩:=I.lstM hB
 refine PySem.P.add_list e e2 ?_ (by rw[zj,zj];lia)
 have ea:its.toArray++its2.toArray= (its++its2).toArray:=by simp
 rw[ea]
 exact⟨.ref _,_,I.lnew (t':=s.toks) (r.append r2) (by rw[zA];lia),rfl,q _ I.fresh⟩
def Nc:R2:=λx y H Q=>∃l k xs,x= .ref l/\y= .int k/\H l=some (.lst xs)/\ -(2 ^ 63)<=k/\k<2 ^ 63/\xs.length*k.toNat<=zo/\
 ∀p,H p=none->Q (.ref p) (upd H p (.lst (zu k.toNat xs).flatten))
theorem eP(xs:List α)(k:Nat):(zu k xs).flatten.length=k*xs.length:=by
 induction k with
 |zero=>simp
 |succ k ih=>rw[yc,jZ,zA,ih,Ju,Nat.add_comm]
theorem Pg:OpR X (jH .Mult) Nc:=by
 intro pins s σ H x y v u Q I rx ry h
 obtain⟨l,k,xs,rfl,rfl,hH,h1,h2,hz,q⟩:=h
 cases rx
 obtain⟨t,rfl⟩:=ry
 obtain⟨z,its,n,r,hl,e⟩:=I.lstM hH
 have hlen:its.toArray.size*k.toNat<=zo:=by rw[zj,<-hl];exact hz
 have hcap:¬its.toArray.size*k.toNat>(2 ^ 63-1) / 8:=by
  have:(zo:Nat)<=(2 ^ 63-1) / 8:=by decide
  lia
 have hfit:¬(!Builtin.List.listFitsIndex k)=true:=by
  rw[fitsIndex_both h1 h2]
  exact jc
 have hlong:¬xj (its.toArray.size*k.toNat)=true:=by
  rw[uN hlen]
  exact jc
 have hnew:ZE (λx1 x2=>x1++x2) #[] (zu (if its.toArray.isEmpty=true then 0 else k.toNat) its.toArray)= (zu k.toNat its).flatten.toArray:=by
  have f0:∀m:Nat,ZE (λx1 x2=>x1++x2) #[] (zu m its.toArray)= (zu m its).flatten.toArray:=λm=>by
   have:=UI its m []
   rw[Xg]at this
   exact this
  rw[f0]
  cases its with
  |nil=>simp
  |cons a r'=>rw[if_neg (by simp)]
 refine Jy (T:= "list") (U:= "int") (by decide) ⟨_,e,rfl⟩ (λs'=>xJ s' k t) noFill_list_mul F.fills_int_mul ZY repeat_list F.slot_int_index.lookup
  (xK ZY (xJ s k t) F.entry_int_rmul (F.args_int_rmul_2 _ _) (int___rmul___int_list k t l its.toArray n)
    ⟨e,rfl,⟨_,e,rfl⟩,xK F.slot_list_mul ⟨_,e,rfl⟩ F.entry_list_mul (F.args_list_mul_2 _ _) (AutoListH.list___mul___list_int_3 l its.toArray n k t hfit hcap hlong) ⟨e,?_⟩⟩)
 rw[hnew]
 exact⟨.ref _,_,I.lnew (t':=s.toks) (r.rep k.toNat) (by rw[eP,Jv];exact hz),rfl,q _ I.fresh⟩
end
section
end
section
end
end L2
namespace Att
open PySem PySem.W PySem.Calls PyProof.Rows
theorem RV:∀ns vs,WellAll P h vs (ns.map WData.int)->IntsAre vs ns:=by
 intro ns
 induction ns with
 |nil=>
   intro vs w
   rw[ZD]at w
   cases w
   exact .nil
 |cons n ns ih=>
   intro vs w
   rw[zU]at w
   cases w with
   |cons a b=>
     cases a
     exact .cons _ _ (ih _ b)
theorem TY{l:OpenLaw}{n:Nat}(hn:l.most=some n){P:Params}{h:Heap}
 (hpre:l.row.toRowW.claim.pre args=true) (hwl:WellAll P h vals args):
 ∃a vs ns,vals= [Value.ref a]/\args= [WData.list (ns.map WData.int)]/\h.get? a=some {cls:=.type "list",data:=.seq vs.toArray}/\IntsAre vs ns/\ns.length<=n:=by
 have hsh:WShape.hasAll [] args [.list .int]=true:=(pre_splitW hpre).1
 have hc:l.pre.holds [] {args:=args}=true:=(pre_splitW hpre).2
 obtain⟨d,r,rfl,h1,h2⟩:=hasAllW_cons hsh
 obtain rfl:=hasAllW_nil h2
 obtain⟨xs,rfl,h3⟩:=hasW_list h1
 obtain⟨ns,rfl⟩:=items_int h3
 have hlen:ns.length<=n:=by
  unfold OpenLaw.pre at hc
  have h4:(WTm.not (.lt (.lit (.int (n:Int))) (.len (.arg 0)))).holds [] {args:= [.list (ns.map .int)]}=true:=by
   have h4:=(holds_andW hc).1
   rw[hn]at h4
   exact h4
  have h5:=condW_of h4 (w_not (w_lt w_lit (w_len_list (w_arg rfl))))
  rw[zg]at h5
  refine Nat.le_of_not_lt λq=>?_
  have q':(n:Int)<((ns.length:Nat):Int):=by lia
  first
   |(rw[decide_eq_true q']at h5;exact absurd h5 (by decide))
   |(simp at h5;lia)
 cases hwl with
 |cons w1 w2=>
   cases w2
   cases w1 with
   |list ho hall=>exact⟨_,_,ns,rfl,rfl,ho,RV ns _ hall,hlen⟩
theorem EX(l:OpenLaw)(args:List WData):l.row.toRowW.claim.post args (.bool true) args=true:=
 postW_of (r:=l.row.toRowW) (X:=(true==true))
  (show WShape.has [] (.bool true) .bool=true by first|rfl|decide|simp[WShape.has,WShape.arms,WShape.armsAll])
  (show (WTm.eq .res (.lit (.bool true))).value [] {args:=args,res:=some (.bool true),after:=args}=some (.bool (true==true))from w_eq_bool (w_res rfl) w_lit) rfl
theorem attach_call{l:OpenLaw}{n:Nat}{q:zZ}{loose:List Str}{d:DefRec}
 (hn:l.most=some n) (hdf:d.params.defaults= [])
 (call:∀(w:jg) (WX W1:zv) (mg mb:Str->Option zk) (fa:Addr) (o:Obj) (pm cd doc:zk) (a:Addr) (vs:List zk) (ns:List Int),
   Ground q loose [] XP w WX mg mb W1.heap->YP w W1.heap->
   W1.heap.get? fa=some o->o.data= .func (docDef d.name d.params d.body d.scope pm cd doc)->W1.heap.CodeRec cd d.name->mg d.name=some (.ref fa)->
   W1.heap.get? a=some {cls:=.type "list",data:=.seq vs.toArray}->IntsAre vs ns->ns.length<=n->W1.gens= #[]->
   ZC (zE l.prog w) YB (.call (.ref fa) ⟨[.ref a], []⟩) (λr s'=>r= .ok (.ret (.bool true))/\OldK W1.heap s'.heap/\s'.os=W1.os/\YE s'.gens) W1):
 WalkO q loose XP YP l.row.toRowW d [] (λf vs=>JO f vs):=by
 intro w WX W1 mg mb G Y fa o pm cd doc dV kV ho hd hcd hD hmg hg args vals as hpre hlay hrd hwl hlo
 obtain rfl:dV= .none:=Dflts.none hD hdf
 obtain rfl:kV= .none:=Dflts.noKw hD
 obtain⟨a,vs,ns,rfl,rfl,hobj,hints,hlen⟩:=TY hn hpre hwl
 refine enter_call (Yb (call w WX W1 mg mb fa o pm cd doc a vs ns G Y ho (fd_plain hd) hcd hmg hobj hints hlen hg) λr s' hq=>?_)
 obtain⟨rfl,h2,h3,h4⟩:=hq
 exact⟨.inl ⟨.bool true,.bool true, [],rfl,λ_=>rfl,.bool true,EX l _,λ_=>⟨List.Pairwise.nil,λ_ hm=>(nomatch hm)⟩⟩,h2,h3,h4⟩
section
variable{prog:zZ}{w:jg}{A:jr}{s:zv}{K:Frag}
end
end Att
namespace L2
open PySem PySem.Spec PyProof.Rows
theorem bO:∀ {vs} {ns},IntsAre vs ns->v6 (ns.map V.int) vs
 |_,_,.nil=>.nil
 |_,_,.cons n t h=>.cons ⟨t,rfl⟩ (bO h)
def AG(H:Hp):Prop:=∀b,H b=none\/∃o xs,H b=some (.frz o (.lst xs))
theorem NY{P:zZ}{w:jg}{K:zh}{CX:CXT}{k:Nat}{fa a:Addr}{fd:xl}{x:Str}{sp:Sp}{W1:zv}{vs:List zk}{ns:List Int}
 (KX:K.In W1.heap) (hns:W1.heap.Ns jq mg) (hb:W1.heap.Ns builtinsNs mb) (hbb:∀x:Str,x≠ "__name__"->mb x=zX x) (hlim:W1.heap.NoLimit) (hg:W1.gens= #[])
 (ha:W1.heap.get? a=some {cls:=.type "list",data:=.seq vs.toArray}) (hi:IntsAre vs ns) (hl:ns.length<=zo) (hr:V5 k YB)
 (F:∀base:Heap,K.In base->base.Ns jq mg->O0 P w K mg base CX k fa fd [x] sp) (hbind:∀(s:zv) (u:zk),Ye s fd ⟨[u], []⟩ [(x,u)])
 (hsp:∀H:Hp,AG H->SqL K H a (ns.map V.int)->sp [.ref a] H (λv _=>v= .bl true) λ_ _ _=>False)
 (hCX:∀H e s',CX [] H W1 (λ_ _ _=>False) e s'->False):
 ZC (zE P w) YB (.call (.ref fa) ⟨[.ref a], []⟩) (λr s'=>r= .ok (.ret (.bool true))/\OldK W1.heap s'.heap/\s'.os=W1.os/\YE s'.gens) W1:=by
 have rv:=bO hi
 have lenV:=hi.length
 -- from an abstract heap in which nothing but the script may be tracked
 have core:∀H:Hp,AG H->SqL K H a (ns.map V.int)->HOk P w H W1.heap->(∀b,H b≠none->b=a)->(H a≠none->K.lookup a=none)->
  ZC (zE P w) YB (.call (.ref fa) ⟨[.ref a], []⟩) (λr s'=>r= .ok (.ret (.bool true))/\OldK W1.heap s'.heap/\s'.os=W1.os/\YE s'.gens) W1:=by
  intro H hO hS hok hA hK
  have base_of:∀ {b:Addr} {o:Obj},W1.heap.get? b=some o->H b=none->(r8 W1.heap H).get? b=some o:=λe n=>OX e n
  have noA:∀ {b:Addr} {o:Obj} {es:Array DictEntry} {ep:Nat},W1.heap.get? b=some o->o.data= .dict es ep->H b=none:=λ{b o es ep} e d=>by
   cases q:H b with
   |none=>rfl
   |some u=>
     have e':b=a:=hA b (by rw[q];simp)
     subst e'
     rw[ha]at e;cases e
     have d':Data.seq vs.toArray _=Data.dict es ep:=d
     cases d'
  have nsK:∀ {b:Addr} {m:Str->Option zk},W1.heap.Ns b m->(r8 W1.heap H).Ns b m:=λ{b m} ⟨o,es,ep,e,d,r⟩=>⟨o,es,ep,base_of e (noA e d),d,r⟩
  have hKb:K.In (r8 W1.heap H):=λb o e=>base_of (KX b o e) (by
   cases q:H b with
   |none=>rfl
   |some u=>
     have e':b=a:=hA b (by rw[q];simp)
     subst e'
     rw[hK (by rw[q];simp)]at e;cases e)
  have hM:Mod K mg (r8 W1.heap H):=⟨hKb,nsK hns,⟨mb,nsK hb,hbb⟩,let ⟨mc,h1,h2⟩:=hlim;⟨mc,nsK h1,h2⟩⟩
  have e0:CA P w K mg (r8 W1.heap H) YB [] W1 H:=⟨rfl,hM,λb o e=>Sv e,xt (wb _ _),trivial,λb hb=>absurd (show b∈([]:List Addr)from hb) (by simp),hok,.of_eq hg⟩
  refine Yb ((F _ hKb (nsK hns)).run YB [] W1 H ⟨[.ref a], []⟩ [.ref a] [.ref a] _ _ hr e0 (hbind W1 (.ref a)) (.cons rfl .nil) (hsp H hO hS)) λr s' h=>?_
  cases r with
  |error e=>exact(hCX H e s' h).elim
  |ok fl=>
    cases fl with
    |next=>exact yx h
    |brk=>exact yx h
    |cont=>exact yx h
    |ret u=>
      obtain⟨v,H',os,bare,un,hok',r',q⟩:=h
      have q':v= .bl true:=q
      subst q'
      obtain rfl:u=Value.bool true:=r'
      refine⟨rfl,OldK.of_keep λb o e=>?_,os,bare⟩
      cases q:H b with
      |none=>exact un.keep b o e q (by intro z;exact absurd (show b∈([]:List Addr)from z) (by simp)) (by simp)
      |some u=>
        rcases hO b with z|⟨ob,xs,z⟩
        ·rw[q]at z;cases z
        · have z2:=un.frzs b ob _ z
          obtain⟨e1,_⟩:=hok b _ z
          obtain⟨e2,_⟩:=hok' b _ z2
          rw[e]at e1;cases e1
          exact e2
 cases hk:K.lookup a with
 |some o=>
   -- the script is one of the module's own objects
   have e:=KX a o hk
   rw[ha]at e
   cases e
   refine core (λ_=>none) (λ_=>.inl rfl) (.inr ⟨_,vs.toArray,_,hk,rfl,rfl,rfl,by rw[zj,lenV];exact hl,by simpa using rv⟩) (λb u z=>by have z':(none:Option HO)=some u:=z;cases z') (λb z=>absurd rfl z) λz=>absurd rfl z
 |none=>
   refine core (λb=>if b=a then some (.frz {cls:=.type "list",data:=.seq vs.toArray} (.lst (ns.map V.int)))else none) (λb=>?_) (.inl (.inr ⟨{cls:=.type "list",data:=.seq vs.toArray},if_pos rfl⟩)) (λb u z=>?_) (λb z=>?_) λ_=>hk
   · by_cases hb:b=a
     ·exact .inr ⟨_,_,if_pos hb⟩
     ·exact .inl (if_neg hb)
   · by_cases hb:b=a
     · have z':=(if_pos hb).symm.trans z
       cases z'
       subst hb
       exact⟨ha,by rw[zg];exact hl,vs,_,rv,ha⟩
     · have z':=(if_neg hb).symm.trans z
       cases z'
   · by_cases hb:b=a
     ·exact hb
     ·exact absurd (if_neg hb) z
theorem walk_of{l:PySem.W.OpenLaw}{n k:Nat}{q:zZ}{loose:List Str}{YP:jg->Heap->Prop}{d:DefRec}{K:Params->zh}{CX:jg->CXT}{sp:jg->Sp}{x:Str}
 (hn:l.most=some n) (hn2:n<=zo) (hdf:d.params.defaults= []) (hr:V5 k YB)
 (hY:∀(w:jg) (h:Heap),YP w h->(K w.params).In h)
 (F:∀(w:jg) (mg:Str->Option zk) (fa:Addr) (h:Heap),(K w.params).In h->h.Ns jq mg->mg d.name=some (.ref fa)->
   ∃fd:xl,(∀(s:zv) (u:zk),Ye s fd ⟨[u], []⟩ [(x,u)])/\
    ∀base:Heap,(K w.params).In base->base.Ns jq mg->O0 l.prog w (K w.params) mg base (CX w) k fa fd [x] (sp w))
 (hsp:∀(w:jg) (H:Hp) (a:Addr) (ns:List Int),ns.length<=n->AG H->SqL (K w.params) H a (ns.map V.int)->sp w [.ref a] H (λv _=>v= .bl true) λ_ _ _=>False)
 (hCX:∀(w:jg) (H:Hp) (s:zv) (e:zk) (s':zv),CX w [] H s (λ_ _ _=>False) e s'->False):
 PySem.W.WalkO q loose XP YP l.row.toRowW d [] (λf vs=>JO f vs):=by
 refine Att.attach_call hn hdf λw WX W1 mg mb fa o pm cd doc a vs ns G Y ho hd hcd hmg hobj hints hlen hg=>?_
 have KX:=hY w _ Y
 obtain⟨fd,hb,hF⟩:=F w mg fa _ KX G.T.g hmg
 exact NY KX G.T.g G.T.b G.T.builtins G.T.nolimit hg hobj hints (zG hlen hn2) hr hF hb (λH hO hS=>hsp w H a ns hlen hO hS) λH e s'=>hCX w H W1 e s'
def h9(s:Stmt):Arguments:=match s with
 | .FunctionDef _ a _ _ _ _ _ _ _ _=>a
 |_=>{posonlyargs:= [],args:= [],vararg:=none,kwonlyargs:= [],kw_defaults:= [],kwarg:=none,defaults:= []}
def i4(s:Stmt):List Stmt:=match s with
 | .FunctionDef _ _ b _ _ _ _ _ _ _=>b
 |_=> []
def M3(s:Stmt):Scope:=match s with
 | .FunctionDef _ _ _ _ _ _ sc _ _ _=>sc
 |_=>{kind:=.function,names:= [],isGenerator:=false,isCoroutine:=false}
abbrev CX0:CXT:=λ_ _ _ _ _ _=>False
abbrev E0:XK:=λ_ _ _=>False
theorem vK:BG CX0 X E0:=λ_ _ _ _ _ _ _ h=>h.elim
structure Fun(K:zh)(x qual:Str)(st:Stmt)(f:Addr)(fd:xl):Prop where
 ex:∃(oc:zk) (od:Option Addr) (kV doc pm:zk) (an:Option Addr) (cdv ct:zk) (osl:Array (Option zk)),
  fd=yq x qual (h9 st) (i4 st) (M3 st) .none kV doc pm an cdv ct/\K.lookup f=some ⟨oc,od,.func fd,osl⟩/\Zc K cdv qual=true
 kp:yi K (.ref f)=true
section
variable{P:zZ}{w:jg}{K:zh}{mg:Str->Option zk}{base:Heap}
theorem Fun.ok{x qual:Str}{st:Stmt}{f:Addr}{k:Nat}{sp:Sp}(F:Fun K x qual st f fd)(S:x5 N ps (M3 st))(len:∀vs H Q E,sp vs H Q E->vs.length=ps.length)
 (hbody:∀(cdv:zk) (A:jr) (outer:List Env) (s:zv) (H:Hp) (vs:List V) (Q:VK) (E:XK),V5 k (A.deeper (ZI qual (M3 st) s.heap.objs.size f cdv))->sp vs H Q E->
   ∃t,PSs (u7 CX0 P w K mg base N qual (M3 st) f cdv A outer s H E).nox (i4 st) t/\t {nx:=λ_ H'=>Q .non H',rt:=Q} (start N vs) H):O0 P w K mg base CX0 (k+1) f fd ps sp:=by
 obtain⟨oc,od,kV,doc,pm,an,cdv,ct,osl,rfl,lk,hcd⟩:=F.ex
 refine pS lk hcd S len λA outer s H vs Q E hr hsp=>?_
 obtain⟨t,h,q⟩:=hbody cdv A outer s H vs Q E hr hsp
 exact⟨t,h.nox,q⟩
theorem Fun.binds{x qual:Str}{st:Stmt}{f:Addr}(F:Fun K x qual st f fd)
 (h:∀(kV doc pm:zk) (an:Option Addr) (cdv ct:zk) (us:List zk),us.length=ps.length->bindArgs (yq x qual (h9 st) (i4 st) (M3 st) .none kV doc pm an cdv ct) ⟨us, []⟩=pure (ps.zip us)):D5 K fd ps []:=by
 obtain⟨oc,od,kV,doc,pm,an,cdv,ct,osl,rfl,lk,hcd⟩:=F.ex
 exact .all (h kV doc pm an cdv ct)
theorem dF{x qual:Str}{st:Stmt}{f:Addr}{oc:zk}{od an:Option Addr}{kV doc pm cdv ct:zk}(l:K.lookup f=some ⟨oc,od,.func (yq x qual (h9 st) (i4 st) (M3 st) .none kV doc pm an cdv ct),osl⟩)
 (c:Zc K cdv qual=true) (k:yi K (.ref f)=true):Fun K x qual st f (yq x qual (h9 st) (i4 st) (M3 st) .none kV doc pm an cdv ct):=⟨⟨oc,od,kV,doc,pm,an,cdv,ct,osl,rfl,l,c⟩,k⟩
end
section
end
def Same(H H':Hp):Prop:=∀b o,H b=some o->H' b=some o
theorem Same.refl(H:Hp):Same H H:=λ_ _ h=>h
theorem Same.trans(a:Same H H1)(b:Same H1 H2):Same H H2:=λc o h=>b c o (a c o h)
theorem Same.free(e:Same H H')(h:H' l=Option.none):H l=Option.none:=by
 cases q:H l with
 |none=>rfl
 |some o=>
   rw[e l o q]at h
   cases h
theorem Same.seq{K:zh}{H H':Hp}{a:Addr}(e:Same H H')(h:SqL K H a xs):SqL K H' a xs:=by
 rcases h with(h|⟨o,h⟩)|h
 ·exact .inl (.inl (e _ _ h))
 ·exact .inl (.inr ⟨o,e _ _ h⟩)
 ·exact .inr h
section
variable[DecidableEq κ]
def C3(kvs:List (κ×V))(k:κ):Option V:=(kvs.find? λkv=>decide (kv.1=k)).map (·.2)
def K2(kvs:List (κ×V))(k:κ)(v:V):List (κ×V):=
 if (kvs.any λkv=>decide (kv.1=k))=true then kvs.map (λkv=>if kv.1=k then (kv.1,v)else kv)else kvs++[(k,v)]
def cO(kvs:List (κ×V))(k:κ):List (κ×V):=kvs.filter λkv=>decide (kv.1≠k)
theorem WE{k:κ}(e:p.1=k):C3 (p::r) k=some p.2:=by simp[C3,yD,e]
theorem UF{k:κ}(e:¬p.1=k):C3 (p::r) k=C3 r k:=by simp[C3,yD,e]
theorem FQ(k:κ):∀kvs:List (κ×V),(kvs.any λkv=>decide (kv.1=k))= (C3 kvs k).isSome
 |[]=>rfl
 |p::r=>by
   rw[jW]
   by_cases e:p.1=k
   ·simp only[WE e,decide_eq_true e,Bool.true_or,Option.isSome_some]
   ·rw[UF e,decide_eq_false e,Bool.false_or];exact FQ k r
theorem fR(kvs:List (κ×V))(k:κ)(v:V):(K2 kvs k v).length<=kvs.length+1:=by
 unfold K2
 split
 ·rw[zg];lia
 ·rw[zA,zT,yp];lia
theorem C6.isSome_eq(r:C6 o u):o.isSome=u.isSome:=by
 cases o with
 |none=>cases u with
   |none=>rfl
   |some _=>exact(show False from r).elim
 |some _=>cases u with
   |none=>exact(show False from r).elim
   |some _=>rfl
theorem C6.getD(r:C6 o u)(rd:J9 d d'):J9 (o.getD d) (u.getD d'):=by
 cases o with
 |none=>cases u with
   |none=>exact rd
   |some _=>exact(show False from r).elim
 |some _=>cases u with
   |none=>exact(show False from r).elim
   |some _=>exact r
theorem KV.val(r:KV kvs vs)(k:κ):C6 (C3 kvs k) (Jc vs k):=by
 unfold KV at r
 induction r with
 |nil=>exact True.intro
 |@cons p q ps qs h t ih=>
   obtain⟨h1,h2⟩:=h
   by_cases e:p.1=k
   · have e':q.1=k:=h1.symm.trans e
     have b:Jc (q::qs) k=some q.2:=by simp[Jc,yD,e']
     rw[WE e,b];exact h2
   · have e':¬q.1=k:=λz=>e (h1.trans z)
     have b:Jc (q::qs) k=Jc qs k:=by simp[Jc,yD,e']
     rw[UF e,b];exact ih
theorem KV.any(r:KV kvs vs)(k:κ):(kvs.any λkv=>decide (kv.1=k))=vs.any λkv=>decide (kv.1=k):=by
 unfold KV at r
 induction r with
 |nil=>rfl
 |cons h t ih=>rw[jW,jW,ih,h.1]
theorem KV.repl(r:KV kvs vs)(k:κ)(ry:J9 y u):
 KV (kvs.map λkv=>if kv.1=k then (kv.1,y)else kv) (vs.map λkv=>if kv.1=k then (kv.1,u)else kv):=by
 unfold KV at r ⊢
 induction r with
 |nil=>exact .nil
 |@cons p q ps qs h t ih=>
   rw[zU,zU]
   refine .cons ?_ ih
   obtain⟨h1,h2⟩:=h
   by_cases e:p.1=k
   ·rw[if_pos e,if_pos (h1.symm.trans e)];exact⟨h1,ry⟩
   ·rw[if_neg e,if_neg (λz=>e (h1.trans z))];exact⟨h1,h2⟩
theorem KV.put(r:KV kvs vs)(k:κ)(ry:J9 y u):KV (K2 kvs k y) (stored vs k u):=by
 unfold K2 stored
 rw[r.any k]
 by_cases e:(vs.any λkv=>decide (kv.1=k))=true
 ·rw[if_pos e,if_pos e];exact r.repl k ry
 ·rw[if_neg e,if_neg e];exact Paired.snoc r ⟨rfl,ry⟩
theorem KV.drop(r:KV kvs vs)(k:κ):KV (cO kvs k) (without vs k):=by
 unfold KV at r ⊢
 unfold cO without
 induction r with
 |nil=>exact .nil
 |@cons p q ps qs h t ih=>
   obtain⟨h1,h2⟩:=h
   rw[List.filter_cons,List.filter_cons]
   by_cases e:p.1=k
   · have a:¬decide (p.1≠k)=true:=by simp[e]
     have b:¬decide (q.1≠k)=true:=by simp[h1.symm.trans e]
     rw[if_neg a,if_neg b];exact ih
   · have e':¬q.1=k:=λz=>e (h1.trans z)
     have a:decide (p.1≠k)=true:=by simp[e]
     have b:decide (q.1≠k)=true:=by simp[e']
     rw[if_pos a,if_pos b];exact .cons ⟨h1,h2⟩ ih
theorem KV.length(r:KV kvs vs):kvs.length=vs.length:=yT r
end
theorem nB(r:J9 (kV k) u):(Q9 P w).is k u=true:=by
 cases k with
 |inl i=>obtain⟨t,e⟩:=(show ∃t,u=Value.int i t from r);subst e;exact oY P w i t
 |inr x=>obtain⟨t,e⟩:=(show ∃t,u=Value.str x t from r);subst e;exact cJ9 P w x t
theorem sP:∀ {ks} {us},v6 (ks.map kV) us->ItemsAre (Q9 P w) ks us
 |[],_,r=>by rw[ZD]at r;cases r;exact .nil
 |k::ks,_,r=>by
   rw[zU]at r
   cases r with
   |cons h t=>exact .cons (nB h) (sP t)
abbrev KT(H:Hp):List (List Key×V)->List (List Key×Addr×zk)->Prop:=Paired λp q=>p.1=q.1/\H q.2.1=some (.tup (p.1.map kV))/\J9 p.2 q.2.2
theorem KT.val{H:Hp}(r:KT H kvs xs)(k:List Key):C6 (C3 kvs k) ((atKey xs k).map (·.2)):=by
 induction r with
 |nil=>exact True.intro
 |@cons p q ps qs h t ih=>
   obtain⟨h1,_,h2⟩:=h
   by_cases e:p.1=k
   · have e':q.1=k:=h1.symm.trans e
     have b:atKey (q::qs) k=some q.2:=by simp[atKey,yD,e']
     rw[WE e,b];exact h2
   · have e':¬q.1=k:=λz=>e (h1.trans z)
     have b:atKey (q::qs) k=atKey qs k:=by simp[atKey,yD,e']
     rw[UF e,b];exact ih
theorem KT.repl(r:KT H kvs xs)(k:List Key)(ry:J9 y u):
 KT H (kvs.map λkv=>if kv.1=k then (kv.1,y)else kv) (xs.map (putAt k u)):=by
 induction r with
 |nil=>exact .nil
 |@cons p q ps qs h t ih=>
   rw[zU,zU]
   refine .cons ?_ ih
   obtain⟨h1,h2,h3⟩:=h
   unfold putAt
   by_cases e:p.1=k
   ·rw[if_pos e,if_pos (h1.symm.trans e)];exact⟨h1,h2,ry⟩
   ·rw[if_neg e,if_neg (λz=>e (h1.trans z))];exact⟨h1,h2,h3⟩
theorem KT.put(r:KT H kvs xs)(k:List Key)(hb:H b=some (.tup (k.map kV)))(ry:J9 y u):
 KT H (K2 kvs k y) (storedH xs k b u):=by
 have e:(kvs.any λkv=>decide (kv.1=k))= (atKey xs k).isSome:=by
  rw[FQ,(r.val k).isSome_eq,Zo]
 unfold K2 storedH
 rw[e]
 by_cases q:(atKey xs k).isSome=true
 ·rw[if_pos q,if_pos q];exact r.repl k ry
 ·rw[if_neg q,if_neg q];exact Paired.snoc r ⟨rfl,hb,ry⟩
theorem KT.keeps(r:KT H kvs xs)(ht:∀b ys,H b=some (.tup ys)->H' b=some (.tup ys)):KT H' kvs xs:=
 Paired.mapP r λ_ _ z=>⟨z.1,ht _ _ z.2.1,z.2.2⟩
section
theorem BJ(ok:HOk P w H h)(e:Rd H a u):T4 P w H h a u:=e.ok ok
theorem vG(ok:HOk P w H h)(e:Rd H a (.dK kvs)):kvs.length<=zo/\(a==yC)=false/\∃vs,KV kvs vs/\h.DictOf (Q9 P w) a vs:=
 show T4 P w H h a (.dK kvs)from BJ ok e
theorem UB(ok:HOk P w H h)(e:H a=some (.dK kvs)):kvs.length<=zo/\(a==yC)=false/\∃vs,KV kvs vs/\h.DictOf (Q9 P w) a vs:=vG ok (.inl e)
theorem HE(ok:HOk P w H h)(e:H a=some (.tup (ks.map kV))):(Xz (Q9 P w)).is h ks a:=by
 obtain⟨_,its,r,o,h1,h2,n,h3⟩:=(show T4 P w H h a (.tup (ks.map kV))from ok a _ e)
 exact⟨o,its.toArray,n,h1,h2,(yL h3).1,by simpa using sP r⟩
theorem iI(ok:HOk P w H h)(e:Rd H a (.dT kvs)):kvs.length<=zo/\(a==yC)=false/\
 ∃xs,KT H kvs xs/\h.DictOfH (Xz (Q9 P w)) a xs:=by
 obtain⟨z,y,xs,r,o,es,ep,h1,h2,h3,h4,h5⟩:=(show T4 P w H h a (.dT kvs)from BJ ok e)
 refine⟨z,y,xs,r,o,es,ep,h1,h2,h3,h4,λx hx=>?_,h5⟩
 have all:∀ {l:List (List Key×V)} {m:List (List Key×Addr×zk)},KT H l m->∀x∈m,(Xz (Q9 P w)).is h x.1 x.2.1:=by
  intro l m q
  induction q with
  |nil=>intro x hx;exact nomatch hx
  |@cons p q ps qs hq t ih=>
    intro x hx
    rcases zt.mp hx with e|hx
    · subst e
      exact HE ok (by rw[<-hq.1];exact hq.2.1)
    ·exact ih x hx
 exact all r x hx
theorem Gm(ok:HOk P w H h)(e:H a=some (.dT kvs)):kvs.length<=zo/\(a==yC)=false/\
 ∃xs,KT H kvs xs/\h.DictOfH (Xz (Q9 P w)) a xs:=iI ok (.inl e)
end
def OB(H:Hp)(a:Addr)(y:V)(r:Option V):Prop:=
 (∃kvs k,Rd H a (.dK kvs)/\y=kV k/\r=C3 kvs k)\/∃kvs k b,Rd H a (.dT kvs)/\y= .ref b/\H b=some (.tup (k.map kV))/\r=C3 kvs k
def wF(H:Hp)(a:Addr)(y v:V)(H':Hp):Prop:=
 (∃kvs k,H a=some (.dK kvs)/\y=kV k/\kvs.length<zo/\H'=upd H a (.dK (K2 kvs k v)))\/
 ∃kvs k b,H a=some (.dT kvs)/\y= .ref b/\H b=some (.tup (k.map kV))/\kvs.length<zo/\H'=upd H a (.dT (K2 kvs k v))
theorem OB.k{k:Key}(e:H a=some (.dK kvs)):OB H a (kV k) (C3 kvs k):=.inl ⟨kvs,k,.inl e,rfl,rfl⟩
theorem wF.k{k:Key}(e:H a=some (.dK kvs))(hl:kvs.length<zo):wF H a (kV k) v (upd H a (.dK (K2 kvs k v))):=.inl ⟨kvs,k,e,rfl,hl,rfl⟩
section
theorem Inv.big(I:Inv X pins σ H s):yC<s.heap.objs.size:=by
 have h:jq<s.heap.objs.size:=(I.mod.glob.keeps I.bk).lt
 exact xN (by decide) h
theorem iV(hu:A.units+1<xk)(I:Inv X pins σ H s)(g:OB H a y o)(ry:J9 y u)(h:∀s',Inv X pins σ H s'->Q (.bool o.isSome) s'):
 zw (zE X.prog X.w) A (zO .In u (.ref a)) Q E s:=by
 rcases g with⟨kvs,k,e,ey,l⟩|⟨kvs,k,b,e,ey,eb,l⟩
 · subst ey
   obtain⟨z,hd,vs,rel,dd⟩:=vG I.hok e
   refine wpAny_in_of (nB ry) hd dd.mapOf ?_
   rw[<-(rel.val k).isSome_eq,<-l]
   exact h _ (I.tok _)
 · subst ey
   cases (show u=Value.ref b from ry)
   obtain⟨z,hd,xs,rel,dd⟩:=iI I.hok e
   refine wpAny_in_heap (YZ hu) (HE I.hok eb) hd dd ?_
   have q:=(rel.val k).isSome_eq
   rw[Zo]at q
   rw[<-q,<-l]
   exact h _ (I.tok _)
theorem GT(hu:A.units+1<xk)(I:Inv X pins σ H s)(g:OB H a y o)(ry:J9 y u)(h:∀s',Inv X pins σ H s'->Q (.bool (!o.isSome)) s'):
 zw (zE X.prog X.w) A (zO .NotIn u (.ref a)) Q E s:=by
 rcases g with⟨kvs,k,e,ey,l⟩|⟨kvs,k,b,e,ey,eb,l⟩
 · subst ey
   obtain⟨z,hd,vs,rel,dd⟩:=vG I.hok e
   refine wpAny_notIn_of (nB ry) hd dd.mapOf ?_
   rw[<-(rel.val k).isSome_eq,<-l]
   exact h _ (I.tok _)
 · subst ey
   cases (show u=Value.ref b from ry)
   obtain⟨z,hd,xs,rel,dd⟩:=iI I.hok e
   refine wpAny_notIn_heap (YZ hu) (HE I.hok eb) hd dd ?_
   have q:=(rel.val k).isSome_eq
   rw[Zo]at q
   rw[<-q,<-l]
   exact h _ (I.tok _)
theorem aO(I:Inv X pins σ H s)(mu:Mut (H a))(hs:xF a s.heap h')(he:∃q,h'.get? a=some q)(new:T4 X.prog X.w (upd H a ob) h' a ob):
 Inv X pins σ (upd H a ob) {s with heap:=h',toks:=t'}:=
 I.write mu (.inl rfl) (λb q hb z=>(hs.2 b hb).trans z) he new
theorem BP(z:kvs.length<=zo)(hd:(a==yC)=false)(rel:KV kvs vs)(dd:h'.DictOf (Q9 P w) a vs):
 T4 P w H' h' a (.dK kvs):=⟨z,hd,vs,rel,dd⟩
theorem eU(hu:A.units+1<xk)(I:Inv X pins σ H s)(g:wF H a y v H')(ry:J9 y u)(rv:J9 v r)(h:∀s',Inv X pins σ H' s'->Q () s'):
 zw (zE X.prog X.w) A (setItem (.ref a) u r) Q E s:=by
 rcases g with⟨kvs,k,e,ey,l,eH⟩|⟨kvs,k,b,e,ey,eb,l,eH⟩
 · subst ey eH
   obtain⟨z,hd,vs,rel,dd⟩:=UB I.hok e
   have hz:vs.length<=zo:=by rw[<-rel.length];exact z
   have hl:(K2 kvs k v).length<=zo:=by have:=fR kvs k v;lia
   refine wpAny_setItem_pairs (nB ry) dd λh' dd' hs=>h _ ?_
   have he:∃q,h'.get? a=some q:=let ⟨q,_,_,hq,_⟩:=dd';⟨q,hq⟩
   exact aO I (by rw[e];exact True.intro) hs he (BP hl hd (rel.put k rv) dd')
 · subst ey eH
   cases (show u=Value.ref b from ry)
   obtain⟨z,hd,xs,rel,dd⟩:=Gm I.hok e
   have hz:xs.length<=zo:=by rw[<-yT rel];exact z
   have hl:(K2 kvs k v).length<=zo:=by have:=fR kvs k v;lia
   refine wpAny_setItem_heap (YZ hu) (HE I.hok eb) dd λh' dd' hs=>h _ ?_
   obtain⟨q,es,ep,hq,h2,h3,h4,_,h5⟩:=dd'
   refine aO I (by rw[e];exact True.intro) hs ⟨q,hq⟩ ⟨hl,hd,_,(rel.put k eb rv).keeps λc ys ec=>?_,q,es,ep,hq,h2,h3,h4,h5⟩
   rw[J2 (PY ec e (λz=>nomatch z))]
   exact ec
end
section
theorem vp(I:Inv X pins σ H s)(e:Rd H a (.dK kvs))(h:∀t s',Inv X pins σ H s'->Q (.int kvs.length t) s'):zw (zE X.prog X.w) A (call (.builtin "len") [.ref a]) Q E s:=by
 obtain⟨z,hd,vs,rel,dd⟩:=vG I.hok e
 refine call_len_dict hd dd (by rw[<-rel.length];rw[yA]at z;lia) ?_
 rw[<-rel.length]
 exact h _ _ (I.tok _)
end
section
end
theorem Wk(h:Heap)(hb:yC<h.objs.size):T4 P w H (h.push {cls:=.type "dict",data:=.dict #[]}) h.objs.size (.dK []):=
 ⟨zQ _,beq_eq_false_iff_ne.mpr (Ne.symm (zD hb)), [],.nil,Jg h⟩
def eT1:TE:=λ_ H Q=>∀p,H p=none->Q (.ref p) (upd H p (.dK []))
section
theorem Cv:PE X (.Dict [] [] pos) eT1:=λpins s σ H Q I h=>
 wpAny_Dict_empty ⟨.ref s.heap.objs.size,_,I.laid (λ_ _ q=>zd _ q) (zn _) (Wk s.heap I.big),rfl,h _ (I.hok.fresh (zn _))⟩
end
structure M1(X:Cx)(o:Expr)(m:Str)(apos:Pos)(e:Expr)(cpos:Pos):Prop where
 base:xB o m X.env (eval o X.env)=eval o X.env
 few:((xf cpos (zP [e] X.env)).all (λx=> !x.1)&&(Jp cpos (Yz [] X.env)).all (λx=>x.1.isSome)
  && decide (([e]:List Expr).length+([]:List Keyword).length+(if ([]:List Keyword).isEmpty then 0 else 1)<30))=true
 line:(apos.endLine==cpos.line)=true
 trees:xf cpos (zP [e] X.env)= [(false,eval e X.env)]
structure M2(X:Cx)(o:Expr)(m:Str)(apos:Pos)(e f:Expr)(cpos:Pos):Prop where
 base:xB o m X.env (eval o X.env)=eval o X.env
 few:((xf cpos (zP [e,f] X.env)).all (λx=> !x.1)&&(Jp cpos (Yz [] X.env)).all (λx=>x.1.isSome)
  && decide (([e,f]:List Expr).length+([]:List Keyword).length+(if ([]:List Keyword).isEmpty then 0 else 1)<30))=true
 line:(apos.endLine==cpos.line)=true
 trees:xf cpos (zP [e,f] X.env)= [(false,eval e X.env),(false,eval f X.env)]
section
end
section
end
section
end
section
end
section
theorem nZ:F1 X (.builtin "len") (λxs H Q=>∃a kvs,xs= [V.ref a]/\H a=some (.dK kvs)/\Q (.int kvs.length) H):=by
 intro pins s σ H xs us Q I r h
 obtain⟨a,kvs,rfl,ha,q⟩:=h
 obtain⟨u,rfl,ru⟩:=Q2 r
 cases ru
 exact vp I (.inl ha) λt s' I'=>⟨.int kvs.length,H,I',⟨t,rfl⟩,q⟩
end
section
variable[DecidableEq κ]
end
end L2
namespace DL
open PySem PySem.Spec L2
open PyProof.Rows hiding St
inductive D where
 |non|bl (b:Bool)|int (i:Int)|str (x:Str)|tup (l:List D)|ref (i:Nat)|fn (x:Str)|ty (n:String)
inductive DO where
 |lst (l:List D)|rol (l:List D)|dct (l:List (Key×D))|rod (l:List (Key×D))
abbrev DH:=List DO
abbrev DPP:=D->DH->Prop
abbrev DSt:=List (Option D)
structure Wc where
 K:zh
 mg:Str->Option zk
abbrev wc(X:Cx):Wc:=⟨X.K,X.mg⟩
mutual
def j5(c:Wc)(μ:List Addr)(H:Hp):D->V->Prop
 | .non,v=>v= .non
 | .bl b,v=>v= .bl b
 | .int i,v=>v= .int i
 | .str x,v=>v= .str x
 | .ty n,v=>v= .ty n
 | .fn x,v=>∃a,c.mg x=some (.ref a)/\v= .ref a
 | .ref i,v=>∃a,μ[i]? =some a/\v= .ref a
 | .tup l,v=>∃a vs,v= .ref a/\SqT c.K H a vs/\t6 c μ H l vs
def t6(c:Wc)(μ:List Addr)(H:Hp):List D->List V->Prop
 |[],vs=>vs= []
 |d::ds,vs=>∃v r,vs=v::r/\j5 c μ H d v/\t6 c μ H ds r
end
def z0(c:Wc)(μ:List Addr)(H:Hp):List (Key×D)->List (Key×V)->Prop
 |[],kvs=>kvs= []
 |(k,d)::r,kvs=>∃v t,kvs= (k,v)::t/\j5 c μ H d v/\z0 c μ H r t
structure Ext(μ:List Addr)(H:Hp)(X2:List Addr)(H':Hp):Prop where
 pre:μ <+:X2
 new:∀a∈X2,a∉μ->H a=none
 oth:∀b o,H b=some o->b∉μ->H' b=some o
 tup:∀b xs,H b=some (.tup xs)->H' b=some (.tup xs)
 frz:∀b o u,H b=some (.frz o u)->H' b=some (.frz o u)
theorem Ext.refl(μ:List Addr)(H:Hp):Ext μ H μ H:=⟨YW _,λa h n=>absurd h n,λ_ _ h _=>h,λ_ _ h=>h,λ_ _ _ h=>h⟩
theorem Ext.trans(a:Ext μ H X0 H1)(b:Ext X0 H1 WY H2):Ext μ H WY H2 where
 pre:=a.pre.trans b.pre
 new:=λx h n=>by
  by_cases h1:x∈X0
  ·exact a.new x h1 n
  · have e1:=b.new x h h1
    rcases e:H x with _|o
    ·rfl
    ·rw[a.oth x o e n]at e1;exact AE e1
 oth:=λx o e n=>by
  refine b.oth x o (a.oth x o e n) λh1=>?_
  have:=a.new x h1 n
  rw[e]at this;exact AE this
 tup:=λx xs e=>b.tup x xs (a.tup x xs e)
 frz:=λx o u e=>b.frz x o u (a.frz x o u e)
theorem Ext.lay(h:H p=none)(o:HO):Ext μ H μ (upd H p o):=
 ⟨YW _,λa h n=>absurd h n,λb o' q _=>by rw[J2 (J3 q h)];exact q,λb xs q=>by rw[J2 (J3 q h)];exact q,λb o' u q=>by rw[J2 (J3 q h)];exact q⟩
theorem Ext.add(h:H p=none)(o:HO):Ext μ H (μ++[p]) (upd H p o):=
 ⟨List.prefix_append _ _,λa ha n=>by
  rcases zW.mp ha with z|z
  ·exact absurd z n
  ·rw[zC.mp z];exact h,λb o' q _=>by rw[J2 (J3 q h)];exact q,λb xs q=>by rw[J2 (J3 q h)];exact q,λb o' u q=>by rw[J2 (J3 q h)];exact q⟩
theorem Ext.mut(hp:p∈μ)(h:H p=some o')(n1:∀xs,o'≠ .tup xs)(n2:∀o u,o'≠ .frz o u)(o:HO):Ext μ H μ (upd H p o):=
 ⟨YW _,λa h n=>absurd h n,λb o2 q n=>by rw[J2 (λe=>n (by rw[e];exact hp))];exact q,λb xs q=>by
  rw[J2 (λe=>by subst e;rw[h]at q;cases q;exact n1 _ rfl)];exact q,
  λb oo u q=>by
   rw[J2 (λe=>by subst e;rw[h]at q;cases q;exact n2 _ _ rfl)];exact q⟩
theorem Ext.sqT{K:zh}(k:Ext μ H X2 H')(h:SqT K H a xs):SqT K H' a xs:=by
 rcases h with(h|⟨o,h⟩)|h
 ·exact .inl (.inl (k.tup _ _ h))
 ·exact .inl (.inr ⟨o,k.frz _ _ _ h⟩)
 ·exact .inr h
def RoL(K:zh)(H:Hp)(a:Addr)(xs:List V):Prop:=(∃o,H a=some (.frz o (.lst xs)))\/(SqL K (λ_=>none) a xs)
theorem FV{K:zh}(h:SqL K (λ_=>none) a xs):SqL K H a xs:=by
 rcases h with(h|⟨o,h⟩)|h
 ·exact J7 h
 ·exact J7 h
 ·exact .inr h
theorem RoL.sq{K:zh}(h:RoL K H a xs):SqL K H a xs:=by
 rcases h with⟨o,h⟩|h
 ·exact .inl (.inr ⟨o,h⟩)
 ·exact FV h
theorem Ext.roL{K:zh}(k:Ext μ H X2 H')(h:RoL K H a xs):RoL K H' a xs:=by
 rcases h with⟨o,h⟩|h
 ·exact .inl ⟨o,k.frz _ _ _ h⟩
 ·exact .inr h
section
variable{μ X2:List Addr}
theorem aK(h:μ <+:X2){i:Nat}(e:μ[i]? =some a):X2[i]? =some a:=by
 obtain⟨t,rfl⟩:=h
 have:i<μ.length:=by
  rcases YK i μ.length with q|q
  ·exact q
  ·rw[zR q]at e;exact J7 e
 rw[zF this];exact e
mutual
theorem j5.mono(x:Ext μ H X2 H'):∀ {d} {v},j5 c μ H d v->j5 c X2 H' d v
 | .non,_,h=>h
 | .bl _,_,h=>h
 | .int _,_,h=>h
 | .str _,_,h=>h
 | .ty _,_,h=>h
 | .fn _,_,h=>h
 | .ref i,v,h=>by
   unfold j5 at h ⊢
   obtain⟨a,e,r⟩:=h
   exact⟨a,aK x.pre e,r⟩
 | .tup l,v,h=>by
   unfold j5 at h ⊢
   obtain⟨a,vs,e,q,r⟩:=h
   exact⟨a,vs,e,x.sqT q,t6.mono x r⟩
theorem t6.mono(x:Ext μ H X2 H'):∀ {l} {vs},t6 c μ H l vs->t6 c X2 H' l vs
 |[],_,h=>h
 |d::ds,vs,h=>by
   unfold t6 at h ⊢
   obtain⟨v,r,e,q,t⟩:=h
   exact⟨v,r,e,j5.mono x q,t6.mono x t⟩
end
theorem z0.mono(x:Ext μ H X2 H'):∀ {l} {vs},z0 c μ H l vs->z0 c X2 H' l vs
 |[],_,h=>h
 |(_,d)::ds,vs,h=>by
  obtain⟨v,r,e,q,t⟩:=h
  exact⟨v,r,e,j5.mono x q,z0.mono x t⟩
theorem t6.nil:t6 c μ H [] []:=rfl
theorem t6.cons(h:j5 c μ H d v)(t:t6 c μ H ds vs):t6 c μ H (d::ds) (v::vs):=⟨v,vs,rfl,h,t⟩
theorem t6.length:∀ {l} {vs},t6 c μ H l vs->l.length=vs.length
 |[],_,h=>by cases h;rfl
 |_::_,_,h=>by obtain⟨v,r,rfl,_,t⟩:=h;simp[t6.length t]
theorem t6.get:∀ {l} {vs} {i:Nat} {d},t6 c μ H l vs->l[i]? =some d->∃v,vs[i]? =some v/\j5 c μ H d v
 |[],_,_,_,_,e=>by simp at e
 |_::_,_,0,_,h,e=>by
   obtain⟨v,r,rfl,q,t⟩:=h
   simp at e;subst e
   exact⟨v,rfl,q⟩
 |_::_,_,i+1,_,h,e=>by
   obtain⟨v,r,rfl,q,t⟩:=h
   simp at e
   obtain⟨w,h1,h2⟩:=t6.get t e
   exact⟨w,by simpa using h1,h2⟩
theorem t6.append:∀ {l l'} {vs vs'},t6 c μ H l vs->t6 c μ H l' vs'->t6 c μ H (l++l') (vs++vs')
 |[],_,_,_,h,t=>by cases h;exact t
 |_::_,_,_,_,h,t=>by
   obtain⟨v,r,rfl,q,u⟩:=h
   exact⟨v,r++_,rfl,q,t6.append u t⟩
theorem t6.take:∀n {l} {vs},t6 c μ H l vs->t6 c μ H (l.take n) (vs.take n)
 |0,_,_,_=>rfl
 |_+1, [],_,h=>by cases h;rfl
 |n+1,_::_,_,h=>by
   obtain⟨v,r,rfl,q,u⟩:=h
   exact⟨v,r.take n,rfl,q,t6.take n u⟩
theorem t6.drop:∀n {l} {vs},t6 c μ H l vs->t6 c μ H (l.drop n) (vs.drop n)
 |0,_,_,h=>h
 |_+1, [],_,h=>by cases h;rfl
 |n+1,_::_,_,h=>by
   obtain⟨v,r,rfl,q,u⟩:=h
   exact t6.drop n u
theorem t6.set(hv:j5 c μ H d v):∀n {l} {vs},t6 c μ H l vs->t6 c μ H (l.set n d) (vs.set n v)
 |_, [],_,h=>by cases h;rfl
 |0,_::_,_,h=>by
   obtain⟨w,r,rfl,q,u⟩:=h
   exact⟨v,r,rfl,hv,u⟩
 |n+1,_::_,_,h=>by
   obtain⟨w,r,rfl,q,u⟩:=h
   exact⟨w,r.set n v,rfl,q,t6.set hv n u⟩
theorem t6.reverse:∀ {l} {vs},t6 c μ H l vs->t6 c μ H l.reverse vs.reverse
 |[],_,h=>by cases h;rfl
 |_::_,_,h=>by
   obtain⟨w,r,rfl,q,u⟩:=h
   simp only[YF]
   exact t6.append (t6.reverse u) ⟨w, [],rfl,q,rfl⟩
theorem t6.dropLast(h:t6 c μ H l vs):t6 c μ H l.dropLast vs.dropLast:=by
 rw[Jx,Jx,h.length]
 exact h.take _
def C4:Option DO->Prop
 |some (.rol _)=>True
 |some (.rod _)=>True
 |_=>False
def A6(c:Wc)(μ:List Addr)(H:Hp)(a:Addr):DO->Prop
 | .lst l=>∃vs,H a=some (.lst vs)/\t6 c μ H l vs
 | .rol l=>∃vs,RoL c.K H a vs/\t6 c μ H l vs
 | .dct l=>∃kvs,H a=some (.dK kvs)/\z0 c μ H l kvs
 | .rod l=>∃kvs o,H a=some (.frz o (.dK kvs))/\z0 c μ H l kvs
structure v8(c:Wc)(μ:List Addr)(G:DH)(H:Hp):Prop where
 len:μ.length=G.length
 inj:∀(i j:Nat) (a:Addr),μ[i]? =some a->μ[j]? =some a->i=j\/C4 G[i]? \/C4 G[j]?
 obj:∀(i:Nat) (o:DO) (a:Addr),G[i]? =some o->μ[i]? =some a->A6 c μ H a o
theorem lt_of_get{α:Type}{l:List α}{x:α}(e:l[i]? =some x):i<l.length:=by
 rcases YK i l.length with q|q
 ·exact q
 ·rw[zR q]at e;exact J7 e
theorem v8.at(h:v8 c μ G H){i:Nat}(e:G[i]? =some o):∃a,μ[i]? =some a/\A6 c μ H a o:=by
 have q:i<μ.length:=by rw[h.len];exact lt_of_get e
 exact⟨μ[i],zi q,h.obj i o _ e (zi q)⟩
theorem A6.mono(x:Ext μ H X2 H')(h:A6 c μ H a o)(e:H' a=H a\/C4 (some o)):A6 c X2 H' a o:=by
 rcases o with l|l|l|l
 ·
   obtain⟨vs,q,r⟩:=h
   rcases e with e|e
   ·exact⟨vs,e.trans q,r.mono x⟩
   ·exact e.elim
 ·obtain⟨vs,q,r⟩:=h;exact⟨vs,x.roL q,r.mono x⟩
 ·
   obtain⟨vs,q,r⟩:=h
   rcases e with e|e
   ·exact⟨vs,e.trans q,r.mono x⟩
   ·exact e.elim
 ·obtain⟨vs,o,q,r⟩:=h;exact⟨vs,o,x.frz _ _ _ q,r.mono x⟩
theorem A6.some_of(h:A6 c μ H a o)(n:¬C4 (some o)):∃u,H a=some u/\(∀xs,u≠ .tup xs)/\∀o' u',u≠ .frz o' u':=by
 rcases o with l|l|l|l
 ·obtain⟨vs,q,_⟩:=h;exact⟨_,q,(λ_ z=>nomatch z),(λ_ _ z=>nomatch z)⟩
 ·exact(n trivial).elim
 ·obtain⟨vs,q,_⟩:=h;exact⟨_,q,(λ_ z=>nomatch z),(λ_ _ z=>nomatch z)⟩
 ·exact(n trivial).elim
theorem v8.same(h:v8 c μ G H)(k:Ext μ H μ H')(e:∀a o,H a=some o->(∀xs,o≠ .tup xs)->H' a=some o):v8 c μ G H':=
 ⟨h.len,h.inj,λi o a g m=>by
  have q:=h.obj i o a g m
  by_cases hr:C4 (some o)
  ·exact q.mono k (.inr hr)
  · obtain⟨u,e1,n1,n2⟩:=q.some_of hr
    exact q.mono k (.inl ((e a u e1 n1).trans e1.symm))⟩
theorem v8.new{p:Addr}(h:v8 c μ G H)(hp:H p=none)(ho:A6 c (μ++[p]) (upd H p u) p o):v8 c (μ++[p]) (G++[o]) (upd H p u):=by
 have k:Ext μ H (μ++[p]) (upd H p u):=Ext.add hp u
 have old:∀(i:Nat) (a:Addr),i<μ.length->(μ++[p])[i]? =some a->μ[i]? =some a:=λi a hi e=>by
  rw[zF hi]at e;exact e
 refine⟨by simp[h.len],λi j a ei ej=>?_,λi o' a g m=>?_⟩
 · have li:=lt_of_get ei
   have lj:=lt_of_get ej
   simp only[zA,jD]at li lj
   by_cases hi:i<μ.length
   · have mi:=old i a hi ei
     have gi:(G++[o])[i]? =G[i]? :=zF (by rw[<-h.len];exact hi)
     by_cases hj:j<μ.length
     · have mj:=old j a hj ej
       have gj:(G++[o])[j]? =G[j]? :=zF (by rw[<-h.len];exact hj)
       rw[gi,gj]
       exact h.inj i j a mi mj
     · -- j is the new one:a=p
       have ej':j=μ.length:=by lia
       subst ej'
       have ea:a=p:=by simpa using ej.symm
       subst ea
       right;left
       rw[gi]
       have hg:i<G.length:=by rw[<-h.len];exact hi
       have q:=h.obj i G[i] a (zi hg) mi
       rw[zi hg]
       refine ji λn=>?_
       obtain⟨u',e1,_⟩:=q.some_of n
       rw[hp]at e1;exact J7 e1
   · have ei':i=μ.length:=by lia
     by_cases hj:j<μ.length
     · have mj:=old j a hj ej
       have gj:(G++[o])[j]? =G[j]? :=zF (by rw[<-h.len];exact hj)
       subst ei'
       have ea:a=p:=by simpa using ei.symm
       subst ea
       right;right
       rw[gj]
       have hg:j<G.length:=by rw[<-h.len];exact hj
       have q:=h.obj j G[j] a (zi hg) mj
       rw[zi hg]
       refine ji λn=>?_
       obtain⟨u',e1,_⟩:=q.some_of n
       rw[hp]at e1;exact J7 e1
     ·left;lia
 · have li:=lt_of_get m
   simp only[zA,jD]at li
   by_cases hi:i<μ.length
   · have mi:=old i a hi m
     rw[zF (by rw[<-h.len];exact hi)]at g
     have q:=h.obj i o' a g mi
     by_cases hr:C4 (some o')
     ·exact q.mono k (.inr hr)
     · obtain⟨u',e1,_⟩:=q.some_of hr
       exact q.mono k (.inl (J2 (J3 e1 hp)))
   · have ei':i=μ.length:=by lia
     subst ei'
     have ea:a=p:=by simpa using m.symm
     subst ea
     rw[h.len]at g
     have eo:o'=o:=by simpa using g.symm
     subst eo
     exact ho
theorem v8.set{o o':DO}{u:HO}(h:v8 c μ G H)(g:G[i]? =some o)(n:¬C4 (some o))(m:μ[i]? =some a)(k:Ext μ H μ (upd H a u))(n':¬C4 (some o'))(ho:A6 c μ (upd H a u) a o'):v8 c μ (G.set i o') (upd H a u):=by
 have hi:i<G.length:=lt_of_get g
 have get:∀j,(G.set i o')[j]? =if i=j then some o' else G[j]? :=λj=>by
  rw[YG]
  by_cases e:i=j
  ·subst e;simp[hi]
  ·simp[e]
 refine⟨by simp[h.len],λj l b ej el=>?_,λj o2 b gj mj=>?_⟩
 · rcases h.inj j l b ej el with e|e|e
   ·exact .inl e
   · by_cases ij:i=j
     ·subst ij;rw[g]at e;exact(n e).elim
     ·right;left;rw[get,if_neg ij];exact e
   · by_cases ij:i=l
     ·subst ij;rw[g]at e;exact(n e).elim
     ·right;right;rw[get,if_neg ij];exact e
 · rw[get]at gj
   by_cases ij:i=j
   · subst ij
     rw[if_pos rfl]at gj
     cases gj
     rw[m]at mj
     cases mj
     exact ho
   · rw[if_neg ij]at gj
     have q:=h.obj j o2 b gj mj
     by_cases hr:C4 (some o2)
     ·exact q.mono k (.inr hr)
     · have nb:b≠a:=λe=>by
        subst e
        rcases h.inj i j b m mj with e|e|e
        ·exact ij e
        ·rw[g]at e;exact n e
        ·rw[gj]at e;exact hr e
       exact q.mono k (.inl (J2 nb))
def K7(c:Wc)(μ:List Addr)(H:Hp)(X9:DSt)(σ:St):Prop:=X9.length=σ.length/\∀(i:Nat) (d:D),X9[i]? =some (some d)->∃v,σ[i]? =some (some v)/\j5 c μ H d v
theorem K7.mono(x:Ext μ H X2 H')(h:K7 c μ H X9 σ):K7 c X2 H' X9 σ:=
 ⟨h.1,λi d e=>let ⟨v,a,b⟩:=h.2 i d e;⟨v,a,b.mono x⟩⟩
theorem K7.put(h:K7 c μ H X9 σ)(r:j5 c μ H d v)(i:Nat):K7 c μ H (X9.set i (some d)) (σ.set i (some v)):=by
 refine⟨by simp[h.1],λj d' e=>?_⟩
 rw[YG]at e ⊢
 by_cases ij:i=j
 · subst ij
   rw[if_pos rfl]at e ⊢
   rw[<-h.1]
   split at e
   · rename_i hl
     rw[if_pos hl]
     cases e
     exact⟨v,rfl,r⟩
   ·exact J7 e
 · rw[if_neg ij]at e ⊢
   exact h.2 j d' e
end
def M(α:Type):=DH->Option (Except Str α×DH)
namespace M
def pure{α:Type}(a:α):M α:=λG=>some (.ok a,G)
def bind{α β:Type}(m:M α)(f:α->M β):M β:=λG=>match m G with
 |none=>none
 |some (.ok a,G1)=>f a G1
 |some (.error x,G1)=>some (.error x,G1)
def stuck{α:Type}:M α:=λ_=>none
end M
instance:Monad M:={pure:=M.pure,bind:=M.bind}
theorem M.bind_eq(m:M α)(f:α->M β)(G:DH):(m >>= f) G=match m G with
 |none=>none
 |some (.ok a,G1)=>f a G1
 |some (.error x,G1)=>some (.error x,G1):=rfl
theorem M.bind_ok{f:α->M β}(h:m G=some (.ok a,G1)):(m >>= f) G=f a G1:=by rw[M.bind_eq,h]
theorem M.bind_assoc(m:M α)(f:α->M β)(g:β->M γ):((m >>= f) >>= g)= (m >>= λa=>f a >>= g):=by
 funext G
 simp only[M.bind_eq]
 rcases m G with _|p
 ·rfl
 ·obtain⟨r,G1⟩:=p;cases r<;>rfl
abbrev XC:=Str->List Addr->DH->Hp->Prop
def ZF:XC:=λ_ _ _ _=>False
def d9{α:Type}(c:Wc)(Z:XC)(μ:List Addr)(H:Hp)(r:Option (Except Str α×DH))(K:α->List Addr->DH->Hp->Prop):Prop:=
 match r with
 |none=>False
 |some (.ok a,G')=>∀ X2 H',Ext μ H X2 H'->v8 c X2 G' H'->K a X2 G' H'
 |some (.error x,G')=>∀ X2 H',Ext μ H X2 H'->v8 c X2 G' H'->Z x X2 G' H'
section
theorem d9.mono{K K':α->List Addr->DH->Hp->Prop}(h:d9 c Z μ H r K)
 (k:∀a X2 G' H',Ext μ H X2 H'->v8 c X2 G' H'->K a X2 G' H'->K' a X2 G' H'):d9 c Z μ H r K':=by
 match r,h with
 |some (.ok a,G'),h=>exact λX2 H' p e=>k a X2 G' H' p e (h X2 H' p e)
 |some (.error x,G'),h=>exact h
theorem d9.from{K:α->List Addr->DH->Hp->Prop}(h:d9 c Z μ H r K)(p:Ext μ H X2 H'):d9 c Z X2 H' r K:=by
 match r,h with
 |some (.ok a,G'),h=>exact λWY H2 p2 e=>h WY H2 (p.trans p2) e
 |some (.error x,G'),h=>exact λWY H2 p2 e=>h WY H2 (p.trans p2) e
theorem d9.bind{m:M α}{K:β->List Addr->DH->Hp->Prop}(h:d9 c Z μ H ((m >>= f) G) K):
 d9 c Z μ H (m G) (λa X2 G' H'=>d9 c Z X2 H' (f a G') K):=by
 rw[M.bind_eq]at h
 match m G,h with
 |some (.ok a,G'),h=>exact λX2 H' p e=>d9.from h p
 |some (.error x,G'),h=>exact h
theorem d9.ok{K:α->List Addr->DH->Hp->Prop}(h:d9 c Z μ H (some (.ok a,G)) K)(e:v8 c μ G H):K a μ G H:=h μ H (Ext.refl _ _) e
end
inductive Fl where
 |nx (σ:DSt)|rt (d:D)|bk (σ:DSt)|ct (σ:DSt)
section
variable(c:Wc)(Z:XC)
def N4(f:DSt->M D):TE:=λσ H Q=>∃X9 μ G,K7 c μ H X9 σ/\v8 c μ G H/\d9 c Z μ H (f X9 G) λd X2 _ H'=>∀v,j5 c X2 H' d v->Q v H'
def sA(f:DSt->M Bool):TT:=λσ H Q=>∃X9 μ G,K7 c μ H X9 σ/\v8 c μ G H/\d9 c Z μ H (f X9 G) λb X2 _ H'=>Q b H'
def kE(f:DSt->M (List D)):TA:=λσ H Q=>∃X9 μ G,K7 c μ H X9 σ/\v8 c μ G H/\d9 c Z μ H (f X9 G) λds X2 _ H'=>∀vs,t6 c X2 H' ds vs->Q vs H'
def HA(E:bA)(fl:Fl)(μ:List Addr)(H:Hp):Prop:=match fl with
 | .nx X9=>∀ σ,K7 c μ H X9 σ->E.nx σ H
 | .rt d=>∀v,j5 c μ H d v->E.rt v H
 | .bk X9=>∀ σ,K7 c μ H X9 σ->E.bk σ H
 | .ct X9=>∀ σ,K7 c μ H X9 σ->E.ct σ H
def VA(f:DSt->M Fl):TS:=λE σ H=>∃X9 μ G,K7 c μ H X9 σ/\v8 c μ G H/\d9 c Z μ H (f X9 G) λfl X2 _ H'=>HA c E fl X2 H'
end
theorem N4.elim{P:Prop}{H:Hp}{Q:VK}(h:N4 c Z f σ H Q)(k:∀X9 μ G,K7 c μ H X9 σ->v8 c μ G H->d9 c Z μ H (f X9 G) (λd X2 _ H'=>∀v,j5 c X2 H' d v->Q v H')->P):P:=by
 obtain⟨e0,e1,e2,e3,e4,e5⟩:=h
 exact k e0 e1 e2 e3 e4 e5
theorem sA.elim{P:Prop}{σ:St}{H:Hp}(h:sA c Z f σ H Q)(k:∀X9 μ G,K7 c μ H X9 σ->v8 c μ G H->d9 c Z μ H (f X9 G) (λb X2 _ H'=>Q b H')->P):P:=by
 obtain⟨e0,e1,e2,e3,e4,e5⟩:=h
 exact k e0 e1 e2 e3 e4 e5
theorem kE.elim{P:Prop}{σ:St}{H:Hp}(h:kE c Z f σ H Q)(k:∀X9 μ G,K7 c μ H X9 σ->v8 c μ G H->d9 c Z μ H (f X9 G) (λds X2 _ H'=>∀vs,t6 c X2 H' ds vs->Q vs H')->P):P:=by
 obtain⟨e0,e1,e2,e3,e4,e5⟩:=h
 exact k e0 e1 e2 e3 e4 e5
theorem VA.elim{P:Prop}{σ:St}{H:Hp}(h:VA c Z f E σ H)(k:∀X9 μ G,K7 c μ H X9 σ->v8 c μ G H->d9 c Z μ H (f X9 G) (λfl X2 _ H'=>HA c E fl X2 H')->P):P:=by
 obtain⟨e0,e1,e2,e3,e4,e5⟩:=h
 exact k e0 e1 e2 e3 e4 e5
structure DE(X:Cx)(Z:XC)(e:Expr)(f:DSt->M D):Prop where
 h:PE X e (N4 (wc X) Z f)
structure DT(X:Cx)(Z:XC)(e:Expr)(f:DSt->M Bool):Prop where
 h:PT X e (sA (wc X) Z f)
structure DA(X:Cx)(Z:XC)(e:List Expr)(f:DSt->M (List D)):Prop where
 h:PA X e (kE (wc X) Z f)
structure DS(X:Cx)(Z:XC)(e:Stmt)(f:DSt->M Fl):Prop where
 h:PS X e (VA (wc X) Z f)
structure DB(X:Cx)(Z:XC)(e:List Stmt)(f:DSt->M Fl):Prop where
 h:PSs X e (VA (wc X) Z f)
theorem PE.mono(h:PE X e t)(k:∀ σ H Q,t' σ H Q->t σ H Q):PE X e t':=λpins s σ H Q I q=>h pins s σ H Q I (k σ H Q q)
theorem PT.mono(h:PT X e t)(k:∀ σ H Q,t' σ H Q->t σ H Q):PT X e t':=λpins s σ H Q I q=>h pins s σ H Q I (k σ H Q q)
theorem PW.mono(h:PW X e t)(k:∀ σ H Q,t' σ H Q->t σ H Q):PW X e t':=λwh pins s σ H Q I q=>h wh pins s σ H Q I (k σ H Q q)
theorem PA.mono(h:PA X e t)(k:∀ σ H Q,t' σ H Q->t σ H Q):PA X e t':=λpos pins s σ H Q I q=>h pos pins s σ H Q I (k σ H Q q)
theorem PS.mono(h:PS X e t)(k:∀E σ H,t' E σ H->t E σ H):PS X e t':=λpins s σ H E I q=>h pins s σ H E I (k E σ H q)
theorem PSs.mono(h:PSs X e t)(k:∀E σ H,t' E σ H->t E σ H):PSs X e t':=λpins s σ H E I q=>h pins s σ H E I (k E σ H q)
theorem DE.of(h:PE X e t)(k:∀ σ H Q,N4 (wc X) Z f σ H Q->t σ H Q):DE X Z e f:=⟨PE.mono h k⟩
theorem DT.of(h:PT X e t)(k:∀ σ H Q,sA (wc X) Z f σ H Q->t σ H Q):DT X Z e f:=⟨PT.mono h k⟩
theorem DA.of(h:PA X e t)(k:∀ σ H Q,kE (wc X) Z f σ H Q->t σ H Q):DA X Z e f:=⟨PA.mono h k⟩
theorem DS.of(h:PS X e t)(k:∀E σ H,VA (wc X) Z f E σ H->t E σ H):DS X Z e f:=⟨PS.mono h k⟩
theorem DB.of(h:PSs X e t)(k:∀E σ H,VA (wc X) Z f E σ H->t E σ H):DB X Z e f:=⟨PSs.mono h k⟩
end DL
namespace DL
open PySem PySem.Spec L2
open PyProof.Rows hiding St
def R6:Expr->Bool
 | .Starred ..=>false
 |_=>true
theorem a8(h:R6 e=true):zP (e::es) env= (false,eval e env)::zP es env:=by
 cases e<;>first
  |rfl
  |exact i5 h
theorem Z5(h:R6 e=true):zP [e] env= [(false,eval e env)]:=a8 h
theorem qV(h:R6 a=true)(h':R6 b=true):zP [a,b] env= [(false,eval a env),(false,eval b env)]:=by rw[a8 h,Z5 h']
abbrev Fe:=DSt->M D
def b8(i:Nat):Fe:=λσ G=>match σ[i]? with
 |some (some d)=>some (.ok d,G)
 |_=>none
def cE(d:D):Fe:=λ_=>pure d
def c7(o:D->D->M D)(a b:Fe):Fe:=λσ=>do o (<-a σ) (<-b σ)
def unE(o:D->M D)(a:Fe):Fe:=λσ=>do o (<-a σ)
def g0:DSt->M (List D):=λ_=>pure []
def d0(a:Fe)(r:DSt->M (List D)):DSt->M (List D):=λσ=>do
 let x <-a σ
 let xs <-r σ
 pure (x::xs)
def x0(F:List D->M D)(a:DSt->M (List D)):Fe:=λσ=>do F (<-a σ)
def AD:D->M Bool
 | .bl b=>pure b
 |_=>M.stuck
def RJ(a:Fe):Fe:=λσ=>do pure (.bl (!(<-AD (<-a σ))))
def ifE(t:DSt->M Bool)(a b:Fe):Fe:=λσ=>do if <-t σ then a σ else b σ
section
variable(c:Wc)(Z:XC)
def n9(o:D->D->M D):R2:=λx y H Q=>∃dx dy μ G,j5 c μ H dx x/\j5 c μ H dy y/\v8 c μ G H/\d9 c Z μ H (o dx dy G) λd X2 _ H'=>∀v,j5 c X2 H' d v->Q v H'
def TC(o:D->M D):V->Hp->VK->Prop:=λx H Q=>∃dx μ G,j5 c μ H dx x/\v8 c μ G H/\d9 c Z μ H (o dx G) λd X2 _ H'=>∀v,j5 c X2 H' d v->Q v H'
def kD(F:List D->M D):List V->Hp->VK->Prop:=λxs H Q=>∃ds μ G,t6 c μ H ds xs/\v8 c μ G H/\d9 c Z μ H (F ds G) λd X2 _ H'=>∀v,j5 c X2 H' d v->Q v H'
end
theorem n9.elim{P:Prop}{x:V}{y:V}{Q:VK}(h:n9 c Z o x y H Q)(k:∀dx dy μ G,j5 c μ H dx x->j5 c μ H dy y->v8 c μ G H->d9 c Z μ H (o dx dy G) (λd X2 _ H'=>∀v,j5 c X2 H' d v->Q v H')->P):P:=by
 obtain⟨e0,e1,e2,e3,e4,e5,e6,e7⟩:=h
 exact k e0 e1 e2 e3 e4 e5 e6 e7
theorem TC.elim{P:Prop}{x:V}{Q:VK}(h:TC c Z o x H Q)(k:∀dx μ G,j5 c μ H dx x->v8 c μ G H->d9 c Z μ H (o dx G) (λd X2 _ H'=>∀v,j5 c X2 H' d v->Q v H')->P):P:=by
 obtain⟨e0,e1,e2,e3,e4,e5⟩:=h
 exact k e0 e1 e2 e3 e4 e5
theorem kD.elim{P:Prop}{H:Hp}{Q:VK}(h:kD c Z F xs H Q)(k:∀ds μ G,t6 c μ H ds xs->v8 c μ G H->d9 c Z μ H (F ds G) (λd X2 _ H'=>∀v,j5 c X2 H' d v->Q v H')->P):P:=by
 obtain⟨e0,e1,e2,e3,e4,e5⟩:=h
 exact k e0 e1 e2 e3 e4 e5
structure OpD(X:Cx)(Z:XC)(f:zk->zk->Sem zk)(o:D->D->M D):Prop where
 h:OpR X f (n9 (wc X) Z o)
structure UnD(X:Cx)(Z:XC)(f:zk->Sem zk)(o:D->M D):Prop where
 h:UnR X f (TC (wc X) Z o)
structure X4(X:Cx)(Z:XC)(f:zk)(F:List D->M D):Prop where
 h:F1 X f (kD (wc X) Z F)
theorem OpR.mono(h:OpR X f r)(k:∀x y H Q,r' x y H Q->r x y H Q):OpR X f r':=λpins s σ H x y v u Q I rx ry q=>h pins s σ H x y v u Q I rx ry (k x y H Q q)
theorem F1.mono(h:F1 X f r)(k:∀xs H Q,r' xs H Q->r xs H Q):F1 X f r':=λpins s σ H xs us Q I rx q=>h pins s σ H xs us Q I rx (k xs H Q q)
theorem OpD.of(h:OpR X f r)(k:∀x y H Q,n9 (wc X) Z o x y H Q->r x y H Q):OpD X Z f o:=⟨OpR.mono h k⟩
theorem X4.of(h:F1 X f r)(k:∀xs H Q,kD (wc X) Z F xs H Q->r xs H Q):X4 X Z f F:=⟨F1.mono h k⟩
section
variable{X:Cx}{Z:XC}{a b c e:Expr}{pos:Pos}
theorem FE(σ:St)(H:Hp)(Q:VK)(h:N4 cc Z (c7 o fa fb) σ H Q):tOp (n9 cc Z o) (N4 cc Z fa) (N4 cc Z fb) σ H Q:=by
 obtain⟨X9,μ,G,s,h,p⟩:=h
 exact⟨X9,μ,G,s,h,(d9.bind p).mono λx X0 G1 H1 x' h1 p1 v rv=>⟨X9,X0,G1,s.mono x',h1,(d9.bind p1).mono λy WY G2 H2 x2 h2 p2 u ru=>⟨x,y,WY,G2,rv.mono x2,ru,h2,p2⟩⟩⟩
theorem GV(h:PE X e (cN i)):DE X Z e (b8 i):=DE.of h λσ H Q hE0=>hE0.elim λX9 μ G s h p=>by
 delta b8 at p
 rcases he:X9[i]? with _|_|d
 ·rw[he]at p;exact p.elim
 ·rw[he]at p;exact p.elim
 · rw[he]at p
   obtain⟨v,e1,r⟩:=s.2 i d he
   exact⟨v,e1,d9.ok p h v r⟩
theorem aD(h:PE X e (tC v))(r:∀ μ H,j5 (wc X) μ H d v):DE X Z e (cE d):=DE.of h λσ H Q hE0=>hE0.elim λX9 μ G s h p=>d9.ok p h v (r _ _)
theorem kj{i j pos}:DE X Z (.Constant (.int i) j pos) (cE (.int i)):=aD GM λ_ _=>by unfold j5;rfl
theorem fK8{i j pos}:DE X Z (.Constant (.bool i) j pos) (cE (.bl i)):=aD QW λ_ _=>by unfold j5;rfl
theorem eW3{j pos}:DE X Z (.Constant .none j pos) (cE .non):=aD KO λ_ _=>by unfold j5;rfl
theorem RX{i j pos}:DE X Z (.Constant (.str i) j pos) (cE (.str i)):=aD DV λ_ _=>by unfold j5;rfl
theorem Pc(i:Nat)(hN:X.N[i]? =some x)(hv:Vis X.env.scope x)(hd:(x==("__debug__" :Str))=false)
 (hcd:(x==("__classdict__" :Str))=false):DE X Z (.Name x pos) (b8 i):=GV (GZ hN hv hd hcd)
theorem sX(ho:OpD X Z (jH op) o)(ha:DE X Z a fa)(hb:DE X Z b fb):DE X Z (.BinOp a op b pos) (c7 o fa fb):=
 DE.of (rH ho.h ha.h hb.h) FE
theorem FZ(ho:OpD X Z (zO op) o)(ha:DE X Z a fa)(hb:DE X Z b fb)(hm:YQ op b=false):DE X Z (.Compare a [op] [b] pos) (c7 o fa fb):=
 DE.of (NT ho.h ha.h hb.h hm) FE
theorem fL6(ho:UnD X Z (unaryOp op) o)(ha:DE X Z a fa):DE X Z (.UnaryOp op a pos) (unE o fa):=
 DE.of (RS ho.h ha.h) λσ H Q hE0=>hE0.elim λX9 μ G s h p=>⟨X9,μ,G,s,h,(d9.bind p).mono λx X0 G1 H1 x' h1 p1 v rv=>⟨x,X0,G1,rv,h1,p1⟩⟩
theorem tJ{H:Hp}{d:D}{f:Bool->M α}{G:DH}{K:α->List Addr->DH->Hp->Prop}(p:d9 cc Z μ H ((AD d >>= f) G) K):∃k,d= .bl k/\d9 cc Z μ H (f k G) K:=by
 cases d with
 |bl k=>exact⟨k,rfl,p⟩
 |_=>exact p.elim
theorem Lw{op}(h:DE X Z a f):DE X Z (.BoolOp op [a] pos) f:=⟨AY h.h⟩
theorem uS(ha:DE X Z a fa):DE X Z (.UnaryOp .Not a pos) (RJ fa):=
 DE.of (fB1 ha.h) λσ H Q hE0=>hE0.elim λX9 μ G s h p=>⟨X9,μ,G,s,h,(d9.bind p).mono λx X0 G1 H1 x' h1 p1 v rv=>by
  obtain⟨k',rfl,p2⟩:=tJ p1
  unfold j5 at rv
  exact⟨k',rv,d9.ok p2 h1 _ (by unfold j5;rfl)⟩⟩
def m7(f:Fe):DSt->M Bool:=λσ=>do AD (<-f σ)
def D0(a b:DSt->M Bool):DSt->M Bool:=λσ=>do if <-a σ then b σ else pure false
def orT(a b:DSt->M Bool):DSt->M Bool:=λσ=>do if <-a σ then pure true else b σ
def L1(a:DSt->M Bool):DSt->M Bool:=λσ=>do pure (!(<-a σ))
structure DW(X:Cx)(Z:XC)(e:Expr)(f:DSt->M Bool):Prop where
 h:PW X e (sA (wc X) Z f)
theorem DW.of(h:PW X e t)(k:∀ σ H Q,sA (wc X) Z f σ H Q->t σ H Q):DW X Z e f:=⟨PW.mono h k⟩
variable{ta tb:DSt->M Bool}{W2:List Expr}
theorem DW.dt(h:DW X Z a ta):DT X Z a ta:=⟨λpins s σ H Q I q=>h.h _ pins s σ H Q I q⟩
theorem fB2(ho:OpD X Z (zO op) o)(ha:DE X Z a fa)(hb:DE X Z b fb)(hm:YQ op b=false):DT X Z (.Compare a [op] [b] pos) (m7 (c7 o fa fb)):=
 DT.of (Km ho.h ha.h hb.h hm) λσ H Q hE0=>hE0.elim λX9 μ G s h p=>FE σ H _ ⟨X9,μ,G,s,h,(d9.bind p).mono λx X0 G1 H1 x' h1 p1 v rv=>by
  cases x with
  |bl k'=>unfold j5 at rv;exact⟨k',rv,d9.ok p1 h1⟩
  |_=>exact p1.elim⟩
theorem eF4(ha:DT X Z a ta):DW X Z (.BoolOp .And [a] pos) ta:=⟨Kf ha.h⟩
theorem AZ(ha:DT X Z a ta):DW X Z (.BoolOp .Or [a] pos) ta:=⟨wk ha.h⟩
theorem sS(ha:DT X Z a ta)(hb:DW X Z (.BoolOp .And (b::W2) pos) tb):DW X Z (.BoolOp .And (a::b::W2) pos) (D0 ta tb):=
 DW.of (wx ha.h hb.h) λσ H Q hE0=>hE0.elim λX9 μ G s h p=>⟨X9,μ,G,s,h,(d9.bind p).mono λx X0 G1 H1 x' h1 p1=>by
  cases x with
  |true=>exact⟨X9,X0,G1,s.mono x',h1,p1⟩
  |false=>exact d9.ok p1 h1⟩
theorem HV(ha:DT X Z a ta)(hb:DW X Z (.BoolOp .Or (b::W2) pos) tb):DW X Z (.BoolOp .Or (a::b::W2) pos) (orT ta tb):=
 DW.of (Pd ha.h hb.h) λσ H Q hE0=>hE0.elim λX9 μ G s h p=>⟨X9,μ,G,s,h,(d9.bind p).mono λx X0 G1 H1 x' h1 p1=>by
  cases x with
  |false=>exact⟨X9,X0,G1,s.mono x',h1,p1⟩
  |true=>exact d9.ok p1 h1⟩
theorem Vj(ha:DT X Z a ta):DT X Z (.UnaryOp .Not a pos) (L1 ta):=
 DT.of (Pk ha.h) λσ H Q hE0=>hE0.elim λX9 μ G s h p=>⟨X9,μ,G,s,h,(d9.bind p).mono λx X0 G1 H1 x' h1 p1=>d9.ok p1 h1⟩
theorem ww(hc:DT X Z c ta)(ha:DE X Z a fa)(hb:DE X Z b fb):DE X Z (.IfExp c a b pos) (ifE ta fa fb):=
 DE.of (dT4 hc.h ha.h hb.h) λσ H Q hE0=>hE0.elim λX9 μ G s h p=>⟨X9,μ,G,s,h,(d9.bind p).mono λx X0 G1 H1 x' h1 p1=>by
  cases x with
  |true=>exact⟨X9,X0,G1,s.mono x',h1,p1⟩
  |false=>exact⟨X9,X0,G1,s.mono x',h1,p1⟩⟩
theorem AH:DA X Z [] g0:=DA.of eZ5 λσ H Q hE0=>hE0.elim λX9 μ G s h p=>d9.ok p h [] rfl
theorem gJ(ha:DE X Z e fa)(hr:DA X Z es fs)(hs:zP (e::es) X.env= (false,eval e X.env)::zP es X.env):DA X Z (e::es) (d0 fa fs):=
 DA.of (LV ha.h hr.h hs) λσ H Q hE0=>hE0.elim λX9 μ G s h p=>⟨X9,μ,G,s,h,(d9.bind p).mono λx X0 G1 H1 x' h1 p1 v rv=>
  ⟨X9,X0,G1,s.mono x',h1,(d9.bind p1).mono λxs WY G2 H2 x2 h2 p2 vs rvs=>d9.ok p2 h2 (v::vs) ⟨v,vs,rfl,rv.mono x2,rvs⟩⟩⟩
def M4(fs:DSt->M (List D)):Fe:=λσ=>do
 let xs <-fs σ
 if xs.length<=zo then pure (.tup xs)else M.stuck
def M6(o:DO):M D:=λG=>some (.ok (.ref G.length),G++[o])
def R7(fs:DSt->M (List D)):Fe:=λσ=>do
 let xs <-fs σ
 if xs.length<=zo then M6 (.lst xs)else M.stuck
theorem EC{G:DH}{Q:VK}(h:v8 cc μ G H)(r:t6 cc μ H xs vs)
 (p:d9 cc Z μ H (some (Except.ok (.tup xs),G)) λd X2 _ H'=>∀v,j5 cc X2 H' d v->Q v H') (q:Addr) (hq:H q=none):Q (.ref q) (upd H q (.tup vs)):=by
 have k:Ext μ H μ (upd H q (.tup vs)):=Ext.lay hq _
 refine p μ _ k (h.same k λa o e n=>?_) _ ?_
 ·rw[J2 (J3 e hq)];exact e
 · unfold j5
   exact⟨q,vs,rfl,SqT.of O6,r.mono k⟩
theorem U3{G:DH}{Q:VK}(h:v8 cc μ G H)(r:t6 cc μ H xs vs)
 (p:d9 cc Z μ H (M6 (.lst xs) G) λd X2 _ H'=>∀v,j5 cc X2 H' d v->Q v H') (q:Addr) (hq:H q=none):Q (.ref q) (upd H q (.lst vs)):=by
 have k:Ext μ H (μ++[q]) (upd H q (.lst vs)):=Ext.add hq _
 refine p (μ++[q]) _ k (h.new hq ⟨vs,O6,r.mono k⟩) _ ?_
 unfold j5
 exact⟨q,by rw[<-h.len];simp,rfl⟩
theorem SV{x1}(h:DA X Z es fs):DE X Z (.Tuple es x1 pos) (M4 fs):=
 DE.of (mT h.h) λσ H Q hE0=>hE0.elim λX9 μ G s h p=>⟨X9,μ,G,s,h,(d9.bind p).mono λxs X0 G1 H1 x' h1 p1 vs rv=>by
  split at p1
  · rename_i hz
    exact⟨by rw[<-rv.length];exact hz,λq hq=>EC h1 rv p1 q hq⟩
  ·exact p1.elim⟩
theorem fB8(h:DA X Z es fs):DE X Z (.List es pos) (R7 fs):=
 DE.of (Lz h.h) λσ H Q hE0=>hE0.elim λX9 μ G s h p=>⟨X9,μ,G,s,h,(d9.bind p).mono λxs X0 G1 H1 x' h1 p1 vs rv=>by
  split at p1
  · rename_i hz
    exact⟨by rw[<-rv.length];exact hz,λq hq=>U3 h1 rv p1 q hq⟩
  ·exact p1.elim⟩
theorem gM(σ:St)(H:Hp)(Q:VK)(h:N4 cc Z (x0 F fs) σ H Q):tCB (kD cc Z F) (kE cc Z fs) σ H Q:=by
 obtain⟨X9,μ,G,s,h,p⟩:=h
 exact⟨X9,μ,G,s,h,(d9.bind p).mono λx X0 G1 H1 x' h1 p1 vs rv=>⟨x,X0,G1,rv,h1,p1⟩⟩
theorem BV{id:String}(hc:X4 X Z (.builtin id) F)(hg:Gl X x)(hm:X.mg x=none)(hv:zX x=some (.builtin id))(ha:DA X Z (e::es) fs)(hn:x≠ "__name__")(hdb:(x==("__debug__" :Str))=false)
 (he:zP (e::es) X.env= (false,eval e X.env)::zP es X.env) (hpl:(xf pos (zP es X.env)).any (·.1)=false):DE X Z (.Call (.Name x p) (e::es) [] pos) (x0 F fs):=
 DE.of (eB6 hc.h hg hm hv ha.h hn hdb he hpl) gM
theorem lT(hc:X4 X Z (.type T) F)(hg:Gl X x)(hm:X.mg x=none)(hv:zX x=some (.type T))(ha:DA X Z (e::es) fs)(hn:x≠ "__name__")(hdb:(x==("__debug__" :Str))=false)
 (he:zP (e::es) X.env= (false,eval e X.env)::zP es X.env) (hpl:(xf pos (zP es X.env)).any (·.1)=false):DE X Z (.Call (.Name x p) (e::es) [] pos) (x0 F fs):=
 DE.of (dI4 hc.h hg hm hv ha.h hn hdb he hpl) gM
def spD(c:Wc)(n:Nat)(F:List D->M D):Sp:=λvs H Q _=>vs.length=n/\∃ds μ G,t6 c μ H ds vs/\v8 c μ G H/\d9 c ZF μ H (F ds G) λd X2 _ H'=>∀v,j5 c X2 H' d v->Q v H'
def noX{α:Type}(m:M α):M α:=λG=>match m G with
 |some (.ok a,G1)=>some (.ok a,G1)
 |_=>none
theorem rJ{H:Hp}{G:DH}{K:α->List Addr->DH->Hp->Prop}(p:d9 cc Z μ H (noX m G) K):d9 cc ZF μ H (m G) K:=by
 unfold noX at p
 match m G,p with
 |some (.ok a,G1),p=>exact p
 |some (.error x,G1),p=>exact p.elim
 |none,p=>exact p.elim
def fnX(n:Nat)(F:List D->M D):List D->M D:=λds=>if ds.length=n then noX (F ds)else M.stuck
theorem pL{H:Hp}{n:Nat}{G:DH}{K:D->List Addr->DH->Hp->Prop}(p:d9 cc Z μ H (fnX n F ds G) K):ds.length=n/\d9 cc ZF μ H (F ds G) K:=by
 unfold fnX at p
 split at p
 ·rename_i h;exact⟨h,rJ p⟩
 ·exact p.elim
theorem Nw(hF:O0 X.prog X.w X.K X.mg X.base CX0 k f fd ps (spD (wc X) n F))(hr:V5 k X.A)(hg:Gl X x)(hm:X.mg x=some (.ref f))(hk:yi X.K (.ref f)=true)(hb:D5 X.K fd ps [])
 (ha:DA X Z (e::es) fs)
 (hdb:(x==("__debug__" :Str))=false) (he:zP (e::es) X.env= (false,eval e X.env)::zP es X.env) (hpl:(xf pos (zP es X.env)).any (·.1)=false):
 DE X Z (.Call (.Name x p) (e::es) [] pos) (x0 (fnX n F) fs):=
 DE.of (kX hF hr hg hm hk hb .nil vK ha.h hdb he hpl) λσ H Q hE0=>hE0.elim λX9 μ G s h p=>by
  refine⟨X9,μ,G,s,h,(d9.bind p).mono λds' X0 G1 H1 x' h1 p1 vs rv=>?_⟩
  obtain⟨hl,p2⟩:=pL p1
  show spD (wc X) n F (vs++[]) H1 Q E0
  rw[yX]
  exact⟨by rw[<-rv.length];exact hl,ds',X0,G1,rv,h1,p2⟩
end
abbrev Fs:=DSt->M Fl
def o9:Fs:=λσ=>pure (.nx σ)
def j8(a b:Fs):Fs:=λσ=>do
 match <-a σ with
 | .nx X1=>b X1
 |r=>pure r
def o4(f:Fe):Fs:=λσ=>do pure (.rt (<-f σ))
def F3(f:Fe):Fs:=λσ=>do
 let _ <-f σ
 pure (.nx σ)
def ifS(t:DSt->M Bool)(a b:Fs):Fs:=λσ=>do if <-t σ then a σ else b σ
abbrev Fg:=D->DSt->M DSt
abbrev Fgs:=List D->DSt->M DSt
def y0(i:Nat):Fg:=λd σ=>pure (σ.set i (some d))
def y4:Fgs:=λds σ=>match ds with
 |[]=>pure σ
 |_=>M.stuck
def T3(g:Fg)(r:Fgs):Fgs:=λds σ=>match ds with
 |d::t=>do r t (<-g d σ)
 |[]=>M.stuck
def A4(n:Nat)(g:Fgs):Fg:=λd σ=>match d with
 | .tup l=>if l.length=n then g l σ else M.stuck
 |_=>M.stuck
def u9(f:Fe)(g:Fg):Fs:=λσ=>do
 let d <-f σ
 let X1 <-g d σ
 pure (.nx X1)
section
variable(c:Wc)(Z:XC)
def tB(g:Fg):TG:=λv σ H Q=>∃d X9 μ G,j5 c μ H d v/\K7 c μ H X9 σ/\v8 c μ G H/\d9 c Z μ H (g d X9 G) λWW X2 _ H'=>∀ X1,K7 c X2 H' WW X1->Q X1 H'
def OF(g:Fgs):TGs:=λvs σ H Q=>∃ds X9 μ G,t6 c μ H ds vs/\K7 c μ H X9 σ/\v8 c μ G H/\d9 c Z μ H (g ds X9 G) λWW X2 _ H'=>∀ X1,K7 c X2 H' WW X1->Q X1 H'
end
theorem tB.elim{P:Prop}{v:V}{σ:St}{H:Hp}(h:tB c Z g v σ H Q)(k:∀d X9 μ G,j5 c μ H d v->K7 c μ H X9 σ->v8 c μ G H->d9 c Z μ H (g d X9 G) (λWW X2 _ H'=>∀ X1,K7 c X2 H' WW X1->Q X1 H')->P):P:=by
 obtain⟨e0,e1,e2,e3,e4,e5,e6,e7⟩:=h
 exact k e0 e1 e2 e3 e4 e5 e6 e7
theorem OF.elim{Z:XC}{P:Prop}{σ:St}{H:Hp}(h:OF c Z g vs σ H Q)(k:∀ds X9 μ G,t6 c μ H ds vs->K7 c μ H X9 σ->v8 c μ G H->d9 c Z μ H (g ds X9 G) (λWW X2 _ H'=>∀ X1,K7 c X2 H' WW X1->Q X1 H')->P):P:=by
 obtain⟨e0,e1,e2,e3,e4,e5,e6,e7⟩:=h
 exact k e0 e1 e2 e3 e4 e5 e6 e7
structure DG(X:Cx)(Z:XC)(tg:Expr)(g:Fg):Prop where
 h:PG X tg (tB (wc X) Z g)
structure DGs(X:Cx)(Z:XC)(tgs:List Expr)(g:Fgs):Prop where
 h:PGs X tgs (OF (wc X) Z g)
theorem PG.mono(h:PG X e t)(k:∀v σ H Q,t' v σ H Q->t v σ H Q):PG X e t':=λpins s σ H v u Q I r q=>h pins s σ H v u Q I r (k v σ H Q q)
theorem PGs.mono(h:PGs X e t)(k:∀v σ H Q,t' v σ H Q->t v σ H Q):PGs X e t':=λpins s σ H v u Q I r q=>h pins s σ H v u Q I r (k v σ H Q q)
theorem DG.of(h:PG X e t)(k:∀v σ H Q,tB (wc X) Z g v σ H Q->t v σ H Q):DG X Z e g:=⟨PG.mono h k⟩
theorem DGs.of(h:PGs X e t)(k:∀v σ H Q,OF (wc X) Z g v σ H Q->t v σ H Q):DGs X Z e g:=⟨PGs.mono h k⟩
section
variable{X:Cx}{Z:XC}{st:Stmt}{W2 sa sb:List Stmt}{f g:Fs}
theorem eR8:DB X Z [] o9:=DB.of Wx λE σ H hE0=>hE0.elim λX9 μ G s h p=>d9.ok p h σ s
theorem mU(h:v8 cc μ G H)
 (p:d9 cc Z μ H ((match fl with| .nx X1=>g X1|r=>pure r:M Fl) G) λfl X2 _ H'=>HA cc E fl X2 H'):HA cc {E with nx:=VA cc Z g E} fl μ H:=by
 cases fl with
 |nx X9=>exact λσ s=>⟨X9,μ,G,s,h,p⟩
 |rt d=>exact d9.ok p h
 |bk X9=>exact d9.ok p h
 |ct X9=>exact d9.ok p h
theorem MO(h1:DS X Z st f)(h2:DB X Z W2 g):DB X Z (st::W2) (j8 f g):=
 DB.of (qd h1.h h2.h) λE σ H hE0=>hE0.elim λX9 μ G s h p=>⟨X9,μ,G,s,h,(d9.bind p).mono λfl X0 G1 H1 x' h1 p1=>mU h1 p1⟩
theorem SL(h1:DS X Z st f):DB X Z [st] f:=⟨rV h1.h⟩
theorem eM6(he:DE X Z e fa)(hs:swapsWith e none pos.line X.env=pure false):DS X Z (.Expr e pos) (F3 fa):=
 DS.of (UY he.h hs) λE σ H hE0=>hE0.elim λX9 μ G s h p=>⟨X9,μ,G,s,h,(d9.bind p).mono λd X0 G1 H1 x' h1 p1 v rv=>d9.ok p1 h1 σ (s.mono x')⟩
theorem hX(he:DE X Z e fa):DS X Z (.Return (some e) pos) (o4 fa):=
 DS.of (mV he.h) λE σ H hE0=>hE0.elim λX9 μ G s h p=>⟨X9,μ,G,s,h,(d9.bind p).mono λd X0 G1 H1 x' h1 p1 v rv=>d9.ok p1 h1 v rv⟩
theorem Cg(hc:DT X Z c t)(ha:DB X Z sa f)(hb:DB X Z sb g):DS X Z (.If c sa sb pos) (ifS t f g):=
 DS.of (RU hc.h ha.h hb.h) λE σ H hE0=>hE0.elim λX9 μ G s h p=>⟨X9,μ,G,s,h,(d9.bind p).mono λx X0 G1 H1 x' h1 p1=>by
  cases x with
  |true=>exact⟨X9,X0,G1,s.mono x',h1,p1⟩
  |false=>exact⟨X9,X0,G1,s.mono x',h1,p1⟩⟩
theorem MM{x:Str}(hN:X.N.Nodup)(hi:X.N[i]? =some x)(hx:Loc X.env.scope x)(hf:X.fn x=true\/X.env.scope.names.lookup x=some .local):DG X Z (.Name x pos) (y0 i):=
 DG.of (eG0 hN hi hx hf) λv σ H Q hE0=>hE0.elim λd X9 μ G r s h p=>d9.ok p h _ (s.put r i)
theorem vc:DGs X Z [] y4:=DGs.of Kg λvs σ H Q hE0=>hE0.elim λds X9 μ G r s h p=>by
 cases ds with
 |nil=>cases r;exact⟨rfl,d9.ok p h _ s⟩
 |cons _ _=>exact p.elim
theorem wS(h1:DG X Z e gg)(h2:DGs X Z es gr)(hs:(xg (e::es) X.env).map (·.2)=Yc e X.env::(xg es X.env).map (·.2)):DGs X Z (e::es) (T3 gg gr):=
 DGs.of (dS7 h1.h h2.h hs) λvs σ H Q hE0=>hE0.elim λds X9 μ G r s h p=>by
  cases ds with
  |nil=>exact p.elim
  |cons d t=>
    obtain⟨v,vr,rfl,rv,rt⟩:=r
    exact⟨v,vr,rfl,d,X9,μ,G,rv,s,h,(d9.bind p).mono λdσ1 X0 G1 H1 x' h1 p1 WZ s1=>⟨t,dσ1,X0,G1,rt.mono x',s1,h1,p1⟩⟩
theorem Vq{gs:Fgs}(hc:X.calm=true)(h:DGs X Z es gs)(hn:(xg es X.env).length=n)(hst:(xg es X.env).findIdx? (·.1)=none):DG X Z (.Tuple es k pos) (A4 n gs):=
 DG.of (eR6 hc h.h hn hst) λv σ H Q hE0=>hE0.elim λd X9 μ G r s h p=>by
  cases d with
  |tup l=>
    unfold j5 at r
    obtain⟨a,vs,rfl,q,rl⟩:=r
    have p':d9 (wc X) Z μ H ((if l.length=n then gs l X9 else M.stuck:M DSt) G) λWW X2 _ H'=>∀ X1,K7 (wc X) X2 H' WW X1->Q X1 H':=p
    split at p'
    · rename_i hl
      exact⟨a,vs,rfl,q,by rw[<-rl.length];exact hl,l,X9,μ,G,rl,s,h,p'⟩
    ·exact p'.elim
  |_=>exact p.elim
theorem MX(he:DE X Z e fa)(hg:DG X Z tg gg)(hs:swapsWithSole [tg] e pos.line X.env=pure false)(hw:swappedStores [tg] e X.env=pure none)
 (h1:(xg [tg] X.env).map (·.2)= [Yc tg X.env]):DS X Z (.Assign [tg] e pos) (u9 fa gg):=
 DS.of (Mb he.h hg.h hs hw h1) λE σ H hE0=>hE0.elim λX9 μ G s h p=>⟨X9,μ,G,s,h,(d9.bind p).mono λd X0 G1 H1 x' h1 p1 v rv=>
  ⟨d,X9,X0,G1,rv,s.mono x',h1,(d9.bind p1).mono λdσ2 WY G2 H2 x2 h2 p2 σ2 s2=>d9.ok p2 h2 σ2 s2⟩⟩
end
def S5:Nat->(DSt->M Bool)->Fs->Fs
 |0,_,_=>λ_=>M.stuck
 |n+1,t,b=>λσ=>do
   if <-t σ then
    match <-b σ with
    | .nx X1=>S5 n t b X1
    | .ct X1=>S5 n t b X1
    | .bk X1=>pure (.nx X1)
    | .rt d=>pure (.rt d)
   else pure (.nx σ)
open Classical in
def i8(t:DSt->M Bool)(b:Fs):Fs:=λσ G=>if h:∃n,(S5 n t b σ G).isSome=true then S5 (Yt h) t b σ G else none
theorem M.bind_mono{f g:α->M β}{r:Except Str β×DH}(h:(m >>= f) G=some r)(k:∀a G',f a G'=some r->g a G'=some r):(m >>= g) G=some r:=by
 rw[M.bind_eq]at h ⊢
 match m G,h with
 |some (.ok a,G'),h=>exact k a G' h
 |some (.error x,G'),h=>exact h
theorem qJ{t:DSt->M Bool}:∀ {n} {σ} {G:DH} {r:Except Str Fl×DH},S5 n t b σ G=some r->S5 (n+1) t b σ G=some r
 |0,_,_,_,h=>by exact J7 h
 |n+1,σ,G,r,h=>by
   unfold S5 at h ⊢
   refine M.bind_mono h λc G1 h1=>?_
   cases c with
   |true=>
     refine M.bind_mono h1 λfl G2 h2=>?_
     cases fl with
     |nx X1=>exact qJ h2
     |ct X1=>exact qJ h2
     |bk X1=>exact h2
     |rt d=>exact h2
   |false=>exact h1
theorem TQ(hm:n<=m)(h:S5 n t b σ G=some r):S5 m t b σ G=some r:=by
 induction hm with
 |refl=>exact h
 |step _ ih=>exact qJ ih
section
theorem nX(hp:PassesOwn (zE X.prog X.w) X.A X.env X.xe)(hc:DT X Z c t)(hb:DB X Z body f):DS X Z (.While c body [] pos) (i8 t f):=
 DS.of (uT hp hc.h hb.h) λE σ H hE0=>hE0.elim λX9 μ G s h p=>by
  unfold i8 at p
  split at p
  · rename_i ex
    refine⟨λm σ H=>∃X9 μ G,K7 (wc X) μ H X9 σ/\v8 (wc X) μ G H/\d9 (wc X) Z μ H (S5 m t f X9 G) λfl X2 _ H'=>HA (wc X) E fl X2 H',⟨_,X9,μ,G,s,h,p⟩,?_⟩
    rintro m σ H ⟨X9,μ,G,s,h,p⟩
    cases m with
    |zero=>exact p.elim
    |succ m=>
      refine⟨X9,μ,G,s,h,(d9.bind p).mono λx X0 G1 H1 x' h1 p1=>?_⟩
      cases x with
      |false=>exact d9.ok p1 h1 σ (s.mono x')
      |true=>
        refine⟨λX1 H'=>∃X9 μ G,K7 (wc X) μ H' X9 X1/\v8 (wc X) μ G H'/\d9 (wc X) Z μ H' (S5 m t f X9 G) λfl X2 _ H'=>HA (wc X) E fl X2 H',λX1 H' w=>⟨m,xr _,w⟩,X9,X0,G1,s.mono x',h1,(d9.bind p1).mono λfl WY G2 H2 x2 h2 p2=>?_⟩
        cases fl with
        |nx WW=>exact λX1 s'=>⟨WW,WY,G2,s',h2,p2⟩
        |ct WW=>exact λX1 s'=>⟨WW,WY,G2,s',h2,p2⟩
        |bk WW=>exact λX1 s'=>d9.ok p2 h2 X1 s'
        |rt d=>exact λv r=>d9.ok p2 h2 v r
  ·exact p.elim
end
def T0(g:Fg)(b:Fs)(ck:DH->Bool):List D->Fs
 |[]=>λσ G=>if ck G then some (.ok (.nx σ),G)else none
 | d :: r => λσ G => if ck G then (do
    match <-b (<-g d σ) with
    | .nx X1=>T0 g b ck r X1
    | .ct X1=>T0 g b ck r X1
    | .bk X1=>pure (.nx X1)
    | .rt d=>pure (.rt d):M Fl) G else none
structure Src where
 items:List D
 ck:DH->Bool
def B3(it:DSt->M Src)(g:Fg)(b:Fs):Fs:=λσ=>do
 let s <-it σ
 T0 g b s.ck s.items σ
def ItD(c:Wc)(μ:List Addr)(H:Hp)(J:It)(s:Src):Prop:=∀ X2 G' H',Ext μ H X2 H'->v8 c X2 G' H'->s.ck G'=true->∀i:Nat,
 (∀d,s.items[i]? =some d->J.go i H'/\∀x H2,J.yld i H' x H2->Ext X2 H' X2 H2/\v8 c X2 G' H2/\j5 c X2 H2 d x)/\(s.items.length<=i->J.stop i H')
def fH(c:Wc)(Z:XC)(it:DSt->M Src):TI:=λσ H R=>∃X9 μ G,K7 c μ H X9 σ/\v8 c μ G H/\d9 c Z μ H (it X9 G) λs X2 _ H'=>∀J,ItD c X2 H' J s->R J H'
theorem fH.elim{P:Prop}{σ:St}{H:Hp}(h:fH c Z it σ H R)(k:∀X9 μ G,K7 c μ H X9 σ->v8 c μ G H->d9 c Z μ H (it X9 G) (λs X2 _ H'=>∀J,ItD c X2 H' J s->R J H')->P):P:=by
 obtain⟨e0,e1,e2,e3,e4,e5⟩:=h
 exact k e0 e1 e2 e3 e4 e5
structure DI(X:Cx)(Z:XC)(tg e:Expr)(it:DSt->M Src):Prop where
 h:PI X tg e (fH (wc X) Z it)
theorem PI.mono(h:PI X tg e t)(k:∀ σ H R,t' σ H R->t σ H R):PI X tg e t':=λpins s σ H R I q=>h pins s σ H R I (k σ H R q)
theorem DI.of(h:PI X tg e t)(k:∀ σ H R,fH (wc X) Z it σ H R->t σ H R):DI X Z tg e it:=⟨PI.mono h k⟩
section
def Gx(c:Wc)(E:bA)(fl:Fl)(μ:List Addr)(_:DH)(H:Hp):Prop:=HA c E fl μ H
inductive BM(c:Wc)(Z:XC)(gg:Fg)(f:Fs)(sr:Src)(E:bA)(X0:List Addr)(H1:Hp)(i:Nat)(σ:St)(H:Hp):Prop
 |mk (X9:DSt) (μ:List Addr) (G:DH) (k:Ext X0 H1 μ H) (s:K7 c μ H X9 σ) (h:v8 c μ G H) (p:d9 c Z μ H (T0 gg f sr.ck (sr.items.drop i) X9 G) (Gx c E))
theorem eV5(hp:PassesOwn (zE X.prog X.w) X.A X.env X.xe)(hc:X.calm=true)(hi:DI X Z tg iter it)(hg:DG X Z tg gg)(hb:DB X Z body f)(hs:∀x,yJ iter X.env x=pure x):
 DS X Z (.For tg iter body [] pos) (B3 it gg f):=
 DS.of (ES hp hc hi.h hg.h hb.h hs) λE σ H hE0=>hE0.elim λX9 μ G s h p=>⟨X9,μ,G,s,h,(d9.bind p).mono λsr X0 G1 H1 x' h1 p1 J hJ=>by
  refine⟨λi m X1 H'=>m=sr.items.length-i/\i<=sr.items.length/\BM (wc X) Z gg f sr E X0 H1 i X1 H',
   ⟨sr.items.length,rfl,zQ _,X9,X0,G1,Ext.refl _ _,s.mono x',h1,p1⟩,?_⟩
  rintro i m X1 H' ⟨rfl,hi',WW,X2,G',k',s',h',p'⟩
  by_cases hlt:i<sr.items.length
  · rw[xu hlt]at p'
    unfold T0 at p'
    split at p'
    · rename_i ck
      obtain⟨q1,_⟩:=hJ X2 G' H' k' h' ck i
      obtain⟨go,yl⟩:=q1 _ (zi hlt)
      refine .inr ⟨go,λσ2 H2=>BM (wc X) Z gg f sr E X0 H1 (i+1) σ2 H2,λσ2 H2 w=>⟨sr.items.length-(i+1),Yi _ _ hlt,rfl,hlt,w⟩,λx H2 y=>?_⟩
      obtain⟨k2,h2,rx⟩:=yl x H2 y
      have p2:=d9.bind (p'.from k2)
      refine⟨_,WW,X2,G',rx,s'.mono k2,h2,p2.mono λdσ3 WP G3 H3 x3 h3 p3 WN s3=>?_⟩
      refine⟨dσ3,WP,G3,s3,h3,(d9.bind p3).mono λfl WL G4 H4 x4 h4 p4=>?_⟩
      cases fl with
      |nx dσ4=>exact λσ4 s4=>⟨dσ4,WL,G4,k'.trans (k2.trans (x3.trans x4)),s4,h4,p4⟩
      |ct dσ4=>exact λσ4 s4=>⟨dσ4,WL,G4,k'.trans (k2.trans (x3.trans x4)),s4,h4,p4⟩
      |bk dσ4=>exact λσ4 s4=>d9.ok p4 h4 σ4 s4
      |rt d=>exact λv r=>d9.ok p4 h4 v r
    ·exact p'.elim
  · have e:i=sr.items.length:=Nat.le_antisymm hi' (Nat.le_of_not_lt hlt)
    subst e
    rw[List.drop_length]at p'
    unfold T0 at p'
    split at p'
    · rename_i ck
      obtain⟨_,q2⟩:=hJ X2 G' H' k' h' ck sr.items.length
      exact .inl ⟨q2 (zn _),d9.ok p' h' X1 s'⟩
    ·exact p'.elim⟩
end
def L4(env:Env):List (Str×NameKind)->List (Str×Addr)->List (Str×Addr)
 |[],cs=>cs
 |(n,k)::r,cs=>L4 env r (if k == .free then (match env.cells.lookup n with|some c=>(n,c)::cs|none=>cs)else cs)
theorem iM:∀l cs,(∀p∈l,p.2= .free->∃c,env.cells.lookup p.1=some c)->
 (forIn l cs (fun(x:Str×NameKind) (cs:List (Str×Addr))=>(match x with|(name,kind)=>if (kind==NameKind.free)=true then do let c <-cellOf env name;pure (ForInStep.yield ((name,c)::cs))else pure (ForInStep.yield cs):Sem (ForInStep (List (Str×Addr))))):Sem (List (Str×Addr)))=pure (L4 env l cs)
 |[],cs,_=>rfl
 |(n,k)::r,cs,h=>by
  have ih:=λcs'=>iM r cs' λp hp=>h p (zB _ hp)
  rw[ZL]
  unfold L4
  rcases hk:(k==NameKind.free)with _|_
  ·
    have e:(match ((n,k):Str×NameKind) with|(name,kind)=>if (kind==NameKind.free)=true then do let c <-cellOf env name;pure (ForInStep.yield ((name,c)::cs))else pure (ForInStep.yield cs):Sem (ForInStep (List (Str×Addr))))=pure (ForInStep.yield cs):=by
     show (if (k==NameKind.free)=true then _ else _)=_
     rw[hk];rfl
    rw[e]
    exact ih cs
  ·
    obtain⟨c,hc⟩:=h (n,k) zK (by simpa using hk)
    have hcell:cellOf env n=pure c:=by unfold cellOf;rw[hc]
    have e:(match ((n,k):Str×NameKind) with|(name,kind)=>if (kind==NameKind.free)=true then do let c <-cellOf env name;pure (ForInStep.yield ((name,c)::cs))else pure (ForInStep.yield cs):Sem (ForInStep (List (Str×Addr))))=pure (ForInStep.yield ((n,c)::cs)):=by
     show (if (k==NameKind.free)=true then (do let c <-cellOf env n;pure (ForInStep.yield ((n,c)::cs)))else _)=_
     rw[hk,hcell];rfl
    rw[e,hc]
    exact ih ((n,c)::cs)
theorem Dp(h:∀p∈scope.names,p.2= .free->∃c,env.cells.lookup p.1=some c):closureFor scope env=pure (L4 env scope.names []):=by
 have q:=iM scope.names [] h
 unfold closureFor
 dsimp only
 rw[q]
 rfl
theorem kP:∀l cs,(cs.lookup x=some c->env.cells.lookup x=some c)->(L4 env l cs).lookup x=some c->env.cells.lookup x=some c
 |[],cs,h,e=>h e
 |(n,k)::r,cs,h,e=>by
  unfold L4 at e
  refine kP r _ (λe1=>?_) e
  split at e1
  · split at e1
    · rename_i c' hc
      rw[yw]at e1
      split at e1
      · rename_i hx
        have hx':x=n:=by simpa using hx
        subst hx'
        cases e1
        exact hc
      ·exact h e1
    ·exact h e1
  ·exact h e1
theorem Z6(h:(L4 env l []).lookup x=some c):env.cells.lookup x=some c:=kP l [] (λz=>by exact J7 z) h
theorem tR:∀l cs,(∃c,cs.lookup x=some c)->∃c,(L4 env l cs).lookup x=some c
 |[],cs,h=>h
 |(n,k)::r,cs,h=>by
  unfold L4
  refine tR r _ ?_
  split
  · split
    · rename_i c' hc
      rw[yw]
      split
      ·exact⟨_,rfl⟩
      ·exact h
    ·exact h
  ·exact h
theorem OH(hc:env.cells.lookup x=some c):∀l cs,(x,NameKind.free)∈l->∃c,(L4 env l cs).lookup x=some c
 |[],cs,h=>by simp at h
 |(n,k)::r,cs,h=>by
  unfold L4
  rcases zt.mp h with e|h
  · cases e
    refine tR r _ ?_
    rw[hc]
    simp
  ·exact OH hc r _ h
section
theorem Rm(I:Nat->zv->Prop)
 (turn:∀n s,I n s->zw (zE prog w) A (Zt it) (λr W1=>match r with
   |none=>R (.ok .next) W1
   | some v => zw (zE prog w) A (xD target it v) (λ_ s₁' => zw (zE prog w) A (Yc target env v) (λ_ s₂ =>
      zw (zE prog w) A (forIn ifs true λc r=>if r=true then do let ok <-isTrue c env (eval c env);pure (ForInStep.yield ok)else pure (ForInStep.yield r)) (λok s₃=>
       if ok=true then zw (zE prog w) A (eval elt env) (λx s₄=>
        zw (zE prog w) A (call (.builtin "list.append") [acc,x]) (λ_ s₅=>∃m,m<n/\I m s₅) (λ_ _=>False) s₄) (λ_ _=>False) s₃
       else ∃m,m<n/\I m s₃) (λ_ _=>False) s₂) (λ_ _=>False) s₁') (λ_ _=>False) W1) (λ_ _=>False) s)
 (n:Nat) (h:I n s):
 ZC (zE prog w) A (.compLoop (.ListComp elt [⟨target,iter,ifs,0⟩] scope pos) 0 it acc env) R s:=by
 refine codeAny_loop rfl I (λn s hI=>?_) n h
 show zw _ A ((compTurn (.ListComp elt [⟨target,iter,ifs,0⟩] scope pos) 0 it acc env).onRaise (λx=>do noteFrame x env;theTreesLotGoes x)) _ _ s
 refine wpAny_noted ?_
 rw[compTurn_list]
 refine za (ZH (za (jz (turn n s hI) (λr W1 h₁=>?_) λ_ _ h'=>h'.elim)))
 rcases r with _|v
 ·exact zp h₁
 ·
   refine za (jz h₁ (λ_ s₁' h₁'=>?_) λ_ _ h'=>h'.elim)
   refine za (jz h₁' (λ_ s₂ h₂=>za (jz h₂ (λok s₃ h₃=>?_) λ_ _ h'=>h'.elim)) λ_ _ h'=>h'.elim)
   rcases ok with _|_
   ·
     exact zp ⟨rfl,h₃⟩
   ·
     exact za (za (jz h₃ (λx s₄ h₄=>za (jz h₄ (λ_ s₅ h₅=>zp (zp ⟨rfl,h₅⟩)) λ_ _ h'=>h'.elim)) λ_ _ h'=>h'.elim))
end
def S6(X:Cx)(scope:Scope)(N:List Str)(C:Addr)(s:zv)(H:Hp)(ex:List Addr):Cx where
 prog:=X.prog
 w:=X.w
 K:=X.K
 mg:=X.mg
 base:=X.base
 A:=X.A
 N:=N
 WX:=s
 H₀:=H
 env:=compEnvC scope (L4 X.env scope.names []) C X.env
 outer:=X.stack
 stack:=X.stack
 ex:=ex
 fn:=λ_=>false
 calm:=X.calm
 pn:= []
 xe:=λ_ _=>False
structure E4(X:Cx)(scope:Scope)(N:List Str)(caps:List (Option Nat)):Prop where
 kind:scope.kind= .function
 cell:∀y∈scope.names,y.2≠ .cell
 names:∀y∈scope.names,y.2= .local->scope.names.lookup y.1=some .local
 free:∀y∈scope.names,y.2= .free->X.env.kindOf y.1=some .cell\/X.env.kindOf y.1=some .free
 frees:∀y∈scope.names,y.2= .free->scope.names.lookup y.1=some .free
 len:caps.length=N.length
 caps:∀(i j:Nat),caps[i]? =some (some j)->∃x,N[i]? =some x/\X.N[j]? =some x/\(x,NameKind.free)∈scope.names
def U9{α:Type}(caps:List (Option Nat))(σ:List (Option α)):List (Option α):=caps.map λo=>o.bind λj=>(σ[j]?).join
theorem bI{env:Env}:∀names:List (Str×NameKind),(names.map fun(n,k)=>if (k==NameKind.free&&env.scope.kind == .function&&env.kindOf n==some .cell)then (n,NameKind.cell)else (n,k)).lookup x=
 (names.lookup x).map λk=>if (k==NameKind.free&&env.scope.kind == .function&&env.kindOf x==some .cell)then NameKind.cell else k
 |[]=>rfl
 |(n,k)::r=>by
  have ih:=bI (env:=env) (x:=x) r
  rw[zU]
  by_cases hx:x=n
  · subst hx
    dsimp only
    split
    ·rename_i h;simp[yw];simp at h;simp[h]
    ·rename_i h;simp[yw];simp at h;intro a b c;exact absurd c (h a b)
  · have hb:(x==n)=false:=by simpa using hx
    dsimp only
    split
    ·rw[yw,yw,hb];exact ih
    ·rw[yw,yw,hb];exact ih
section
variable{X:Cx}{scope:Scope}{N:List Str}{caps:List (Option Nat)}
theorem E4.isFree(k:E4 X scope N caps){x:Str}(h:(relabel scope X.env).names.lookup x=some .cell\/(relabel scope X.env).names.lookup x=some .free):(x,NameKind.free)∈scope.names:=by
 have e:(relabel scope X.env).names.lookup x= (scope.names.lookup x).map λk=>if (k==NameKind.free&&X.env.scope.kind == .function&&X.env.kindOf x==some .cell)then NameKind.cell else k:=bI scope.names
 rw[e]at h
 rcases hl:scope.names.lookup x with _|kd
 ·rw[hl]at h;rcases h with h|h<;>exact J7 h
 ·
   rw[hl]at h
   have hm:=yH hl
   have hn:=k.cell _ hm
   simp only[xS]at h
   cases kd with
   |free=>exact hm
   |cell=>exact absurd rfl hn
   |_=>rcases h with h|h<;>simp at h
theorem E4.cells(k:E4 X scope N caps)(ok:X.Ok):∀p∈scope.names,p.2= .free->∃c,X.env.cells.lookup p.1=some c:=λp hp e=>ok.has p.1 (k.free p hp e)
theorem dH0(I:Inv X pins σ H s)(k:E4 X scope N caps)(hC:s.heap.objs.size<=C)(hex:∀b∈ex,B1 X pins H b)(hlt:∀b∈ex,b<s.heap.objs.size):(S6 X scope N C s H ex).Ok where
 mod:=I.ok.mod
 kind:=k.kind
 glob:=I.ok.glob
 blt:=I.ok.blt
 above:=hC
 inj:=λx y c h1 h2=>I.ok.inj x y c (Z6 h1) (Z6 h2)
 has:=λx hx=>by
  have hm:=k.isFree hx
  obtain⟨c,hc⟩:=k.cells I.ok _ hm rfl
  exact OH hc _ _ hm
 cab:=λx c h=>by exact i5 h
 hd:=I.ok.hd
 frames:=I.ok.frames
 stk:=.inl rfl
 exf:=λb hb=>⟨zD (jh (hlt b hb) hC),λx c e=>(hex b hb).2.2.2.2.1 x c (Z6 e)⟩
 bs:=I.bs
 bsz:=zG I.ok.bsz I.sz
 noex:=λb o e hb=>by
  rcases (hex b hb).2.2.2.1 with z|z
  ·exact I.ok.noex b o e z
  ·exact absurd (jh (zr (I.ok.bs b o e).1) z) (yt _)
 exfs:=λb hb z=>by
  rcases zt.mp (I.stkSub b z)with e|e
  ·exact(hex b hb).2.1 e
  ·exact(hex b hb).2.2.1 e
 funs:=I.stack
 frf:=I.stkFree
 gd:=I.ok.gd
theorem DR{σ:List (Option α)}{i:Nat}(h:(U9 caps σ)[i]? =some (some v)):∃j,caps[i]? =some (some j)/\σ[j]? =some (some v):=by
 unfold U9 at h
 rw[zV]at h
 rcases e:caps[i]? with _|o
 ·rw[e]at h;exact J7 h
 ·
   rw[e]at h
   rcases o with _|j
   ·cases h
   ·
     refine⟨j,rfl,?_⟩
     simp only[xS,Option.bind_some,zH]at h
     rcases e2:σ[j]? with _|w
     ·rw[e2]at h;exact J7 h
     ·rw[e2]at h;simp at h;rw[h]
theorem Qg{h₁:Heap}{tk:Nat}(I:Inv X pins σ H s)(k:E4 X scope N caps)(hC:s.heap.objs.size<C)(hex:∀b∈ex,B1 X pins H b)(hlt:∀b∈ex,b<s.heap.objs.size)
 (old:∀b o,s.heap.get? b=some o->h₁.get? b=some o) (hns:h₁.Ns C λ_=>none) (hacc:h₁.get? s.heap.objs.size=some {cls:=.type "list",data:=.seq ([]:List zk).toArray 0}):
 Inv (S6 X scope N C s H ex) [] (U9 caps σ) (upd H s.heap.objs.size (.lst [])) {s with heap:=h₁,toks:=tk}:=by
 have hD:H s.heap.objs.size=none:=I.hok.fresh (zn _)
 refine⟨dH0 I k (yV hC) hex hlt,rfl,I.bare,Un.laid old (zn _) hD,⟨_,hns,λi x v h1 h2 h3=>?_⟩,λx c e=>?_,?_,λx c e=>?_,λp hp=>absurd (show p∈([]:PNS)from hp) (by simp),?_,?_⟩
 · obtain⟨j,e1,e2⟩:=DR h2
   obtain⟨y,e3,e4,e5⟩:=k.caps i j e1
   have exy:y=x:=by
    have:some y=some x:=e3.symm.trans h1
    exact zY this
   subst exy
   have hk:=k.free _ e5 rfl
   obtain⟨m,hn,hl⟩:=I.loc
   obtain⟨u,r,l⟩:=hl j y v e4 e2 (by rcases hk with z|z;exact .inr (.inl z);exact .inr (.inr z))
   refine⟨u,r,.inr ?_⟩
   rcases l with⟨z,_⟩|⟨_,c,ec,hc⟩
   ·rcases hk with z'|z'<;>(rw[z]at z';cases z')
   · refine⟨?_,c,?_,?_⟩
     · rcases h3 with h3|h3|h3
       · exfalso
         have e:(relabel scope X.env).names.lookup y= (scope.names.lookup y).map λk=>if (k==NameKind.free&&X.env.scope.kind == .function&&X.env.kindOf y==some .cell)then NameKind.cell else k:=bI scope.names
         have h3':(relabel scope X.env).names.lookup y=some .local:=h3
         rw[e]at h3'
         rw[k.frees _ e5 rfl]at h3'
         simp only[xS]at h3'
         split at h3'<;>cases h3'
       ·exact .inl h3
       ·exact .inr h3
     · obtain⟨c',ec'⟩:=OH ec scope.names [] e5
       have:=Z6 ec'
       rw[ec]at this
       cases this
       exact ec'
     · obtain⟨o,ho,hd⟩:=hc
       exact⟨o,old _ _ ho,hd⟩
 · obtain⟨v,o,ho,hd⟩:=I.cell x c (Z6 e)
   exact⟨v,o,old _ _ ho,hd⟩
 · show upd H s.heap.objs.size (.lst []) C=none
   rw[J2 (yb hC)]
   exact I.hok.fresh (yV hC)
 · obtain⟨v,o,ho,hd⟩:=I.cell x c (Z6 e)
   rw[J2 (zD (zr ho))]
   exact I.freeC x c (Z6 e)
 ·exact I.hok.laid old (zn _) ⟨zQ _, [],0,.nil,hacc⟩
 · show (U9 caps σ).length=N.length
   unfold U9
   rw[zg];exact k.len
theorem Tm(I:Inv X pins σ H s)(hex:∀b∈ex,B1 X pins H b)(hC:s.heap.objs.size<C)
 (I':Inv (S6 X scope N C s H ex) pins' X1 H' s') (sb:xF C s'.heap h'):Inv X pins σ H' {s' with heap:=h'}:=by
 have hos:s'.os=s.os:=I'.os
 have hfree:H' C=none:=I'.free
 have neC:∀b o,s.heap.get? b=some o->b≠C:=λb o e z=>by
  have:=zr e
  rw[z]at this
  exact absurd (xN hC this) (yt _)
 have hun:Un (frs X.stack) ex H H' s.heap s'.heap:=I'.base
 have hun2:Un (frs X.stack) ex H H' s.heap h':=by
  refine⟨λb o e n hb hx=>(sb.2 b (neC b o e)).trans (hun.keep b o e n hb hx),λb o e n hb hx=>?_,hun.free,λb o e hx=>?_,hun.tups,hun.frzs,hun.tbls⟩
  · obtain⟨sl,q⟩:=hun.slot b o e n hb hx
    exact⟨sl,(sb.2 b (neC b o e)).trans q⟩
  · obtain⟨o',q⟩:=hun.there b o e hx
    exact⟨o',(sb.2 b (neC b o e)).trans q⟩
 have hok2:HOk X.prog X.w H' h':=λa o e=>by
  have nc:∀c u,H' c=some u->c≠C:=λc u q z=>by rw[z,hfree]at q;exact J7 q
  refine(I'.hok a o e).stay (λb u hb q=>?_) (λ_ q=>q) λ_ _ q=>q
  rcases hb with rfl|hb
  ·exact(sb.2 b (nc b o e)).trans q
  ·exact(sb.2 b (nc b _ hb)).trans q
 obtain⟨hh,g,d,t,os'⟩:=s'
 obtain rfl:os'=s.os:=hos
 have fin:=I.call (d':=d) (t':=t) hun2 hok2 I'.bare λb hb=>⟨(hex b hb).2.2.2.1,(hex b hb).2.1,(hex b hb).2.2.2.2.1,(hex b hb).2.2.2.2.2⟩
 exact fin
end
def hide(q:Addr)(H:Hp):Hp:=λb=>if b=q then none else H b
theorem iC:hide q H q=none:=by unfold hide;rw[if_pos rfl]
theorem V0(h:b≠q):hide q H b=H b:=by unfold hide;rw[if_neg h]
theorem R8(h:hide q H b=some o):b≠q/\H b=some o:=by
 by_cases e:b=q
 ·rw[e,iC]at h;exact J7 h
 ·rw[V0 e]at h;exact⟨e,h⟩
theorem PU(h:H q=some o):upd (hide q H) q o=H:=by
 funext b
 by_cases e:b=q
 ·rw[e,O6,h]
 ·rw[J2 e,V0 e]
theorem aE:hide q (upd H q o)=hide q H:=by
 funext b
 by_cases e:b=q
 ·rw[e,iC,iC]
 ·rw[V0 e,V0 e,J2 e]
theorem iF(h:H q=none):hide q H=H:=by
 funext b
 by_cases e:b=q
 ·rw[e,iC,h]
 ·rw[V0 e]
section
mutual
theorem j5.sq(k:∀a xs,SqT c.K H a xs->SqT c.K H' a xs):∀ {d} {v},j5 c μ H d v->j5 c μ H' d v
 | .non,_,h=>h
 | .bl _,_,h=>h
 | .int _,_,h=>h
 | .str _,_,h=>h
 | .ty _,_,h=>h
 | .fn _,_,h=>h
 | .ref i,v,h=>by unfold j5 at h ⊢;exact h
 | .tup l,v,h=>by
   unfold j5 at h ⊢
   obtain⟨a,vs,e,q,r⟩:=h
   exact⟨a,vs,e,k _ _ q,t6.sq k r⟩
theorem t6.sq(k:∀a xs,SqT c.K H a xs->SqT c.K H' a xs):∀ {l} {vs},t6 c μ H l vs->t6 c μ H' l vs
 |[],_,h=>h
 |d::ds,vs,h=>by
   unfold t6 at h ⊢
   obtain⟨v,r,e,q,t⟩:=h
   exact⟨v,r,e,j5.sq k q,t6.sq k t⟩
end
theorem z0.sq(k:∀a xs,SqT c.K H a xs->SqT c.K H' a xs):∀ {l} {vs},z0 c μ H l vs->z0 c μ H' l vs
 |[],_,h=>h
 |(_,d)::ds,vs,h=>by
  obtain⟨v,r,e,q,t⟩:=h
  exact⟨v,r,e,j5.sq k q,z0.sq k t⟩
theorem KA(hq:H q=some (.lst vs)){K:zh}(a:Addr)(xs:List V)(h:SqT K H a xs):SqT K (hide q H) a xs:=by
 rcases h with(h|⟨o,h⟩)|h
 ·exact .inl (.inl (by rw[V0 (λe=>by rw[e,hq]at h;cases h)];exact h))
 ·exact .inl (.inr ⟨o,by rw[V0 (λe=>by rw[e,hq]at h;cases h)];exact h⟩)
 ·exact .inr h
theorem lE{K:zh}(a:Addr)(xs:List V)(h:SqT K (hide q H) a xs):SqT K H a xs:=by
 rcases h with(h|⟨o,h⟩)|h
 ·exact .inl (.inl (R8 h).2)
 ·exact .inl (.inr ⟨o,(R8 h).2⟩)
 ·exact .inr h
theorem K7.sq(k:∀a xs,SqT c.K H a xs->SqT c.K H' a xs)(h:K7 c μ H X9 σ):K7 c μ H' X9 σ:=⟨h.1,λi d e=>let ⟨v,a,b⟩:=h.2 i d e;⟨v,a,b.sq k⟩⟩
theorem Ext.hide(x:Ext μ H X2 H')(n:q∉μ)(hq:H q=some (.lst vs)):H' q=some (.lst vs)/\q∉X2/\Ext μ (DL.hide q H) X2 (DL.hide q H'):=by
 refine⟨x.oth q _ hq n,λh=>?_,x.pre,λa h1 h2=>?_,λb o e nb=>?_,λb xs e=>?_,λb o u e=>?_⟩
 ·have:=x.new q h n;rw[hq]at this;exact AE this
 · by_cases e:a=q
   ·rw[e,iC]
   ·rw[V0 e];exact x.new a h1 h2
 ·obtain⟨e1,e2⟩:=R8 e;rw[V0 e1];exact x.oth b o e2 nb
 ·obtain⟨e1,e2⟩:=R8 e;rw[V0 e1];exact x.tup b xs e2
 ·obtain⟨e1,e2⟩:=R8 e;rw[V0 e1];exact x.frz b o u e2
theorem Ext.unhide(x:Ext μ H X2 (DL.hide q H')):Ext μ H X2 H':=
 ⟨x.pre,x.new,λb o e n=>(R8 (x.oth b o e n)).2,λb xs e=>(R8 (x.tup b xs e)).2,λb o u e=>(R8 (x.frz b o u e)).2⟩
theorem v8.hide(h:v8 c μ G H)(n:q∉μ)(hq:H q=some (.lst vs)):v8 c μ G (DL.hide q H):=
 ⟨h.len,h.inj,λi o a g m=>by
  have na:a≠q:=λe=>n (by rw[<-e];exact yn m)
  have r:=h.obj i o a g m
  cases o with
  |lst l=>obtain⟨ws,e,r⟩:=r;exact⟨ws,by rw[V0 na];exact e,r.sq (KA hq)⟩
  |dct l=>obtain⟨ws,e,r⟩:=r;exact⟨ws,by rw[V0 na];exact e,r.sq (KA hq)⟩
  |rod l=>obtain⟨ws,o,e,r⟩:=r;exact⟨ws,o,by rw[V0 na];exact e,r.sq (KA hq)⟩
  |rol l=>
    obtain⟨ws,e,r⟩:=r
    refine⟨ws,?_,r.sq (KA hq)⟩
    rcases e with⟨o,e⟩|e
    ·exact .inl ⟨o,by rw[V0 na];exact e⟩
    ·exact .inr e⟩
theorem v8.unhide(h:v8 c μ G (DL.hide q H)):v8 c μ G H:=
 ⟨h.len,h.inj,λi o a g m=>by
  have r:=h.obj i o a g m
  cases o with
  |lst l=>obtain⟨ws,e,r⟩:=r;exact⟨ws,(R8 e).2,r.sq lE⟩
  |dct l=>obtain⟨ws,e,r⟩:=r;exact⟨ws,(R8 e).2,r.sq lE⟩
  |rod l=>obtain⟨ws,o,e,r⟩:=r;exact⟨ws,o,(R8 e).2,r.sq lE⟩
  |rol l=>
    obtain⟨ws,e,r⟩:=r
    refine⟨ws,?_,r.sq lE⟩
    rcases e with⟨o,e⟩|e
    ·exact .inl ⟨o,(R8 e).2⟩
    ·exact .inr e⟩
inductive UH{α:Type}(c:Wc)(q:Addr)(vs:List V)(μ:List Addr)(H:Hp)(K:α->List Addr->DH->Hp->Prop)(a:α)(X2:List Addr)(G':DH)(H':Hp):Prop
 |mk (e:H' q=some (.lst vs)) (n:q∉X2) (h:v8 c X2 G' (DL.hide q H')) (x:Ext μ (DL.hide q H) X2 (DL.hide q H')) (k:K a X2 G' (DL.hide q H'))
theorem d9.unhide{r:Option (Except Str α×DH)}{K:α->List Addr->DH->Hp->Prop}(n:q∉μ)(hq:H q=some (.lst vs))(p:d9 c ZF μ (DL.hide q H) r K):
 d9 c Z μ H r (UH c q vs μ H K):=by
 match r,p with
 |some (.ok a,G'),p=>
   intro X2 H' x h
   obtain⟨e1,e2,e3⟩:=x.hide n hq
   have h2:=h.hide e2 e1
   exact⟨e1,e2,h2,e3,p X2 _ e3 h2⟩
 |some (.error z,G'),p=>
   intro X2 H' x h
   obtain⟨e1,e2,e3⟩:=x.hide n hq
   exact(p X2 _ e3 (h.hide e2 e1)).elim
theorem v8.mem_lt(I:Inv X pins σ H s)(h:v8 (wc X) μ G H)(ha:a∈μ):a<s.heap.objs.size:=by
 obtain⟨i,hi⟩:=JH ha
 have hl:i<G.length:=by rw[<-h.len];exact lt_of_get hi
 have r:=h.obj i G[i] a (zi hl) hi
 rcases e:G[i]with l|l|l|l
 ·rw[e]at r;obtain⟨_,e,_⟩:=r;exact I.hok.lt e
 ·
   rw[e]at r
   obtain⟨ws,e,_⟩:=r
   rcases e with⟨o,e⟩|e
   ·exact I.hok.lt e
   · rcases e with(e|⟨o,e⟩)|⟨o,its,n,e,_⟩
     ·exact J7 e
     ·exact J7 e
     ·exact zr (I.kIn a o e)
 ·rw[e]at r;obtain⟨_,e,_⟩:=r;exact I.hok.lt e
 ·rw[e]at r;obtain⟨_,_,e,_⟩:=r;exact I.hok.lt e
end
def PTs(X:Cx)(ifs:List Expr)(t:TT):Prop:=
 ∀(pins:PNS) (s:zv) (σ:St) (H:Hp) (Q:Bool->Hp->Prop),Inv X pins σ H s->t σ H Q->
  zw (zE X.prog X.w) X.A (forIn ifs true λc r=>if r=true then do let ok <-isTrue c X.env (eval c X.env);pure (ForInStep.yield ok)else pure (ForInStep.yield r)) (TP X pins σ Q) X.xe s
structure DTs(X:Cx)(Z:XC)(ifs:List Expr)(f:DSt->M Bool):Prop where
 h:PTs X ifs (sA (wc X) Z f)
def M5:DSt->M Bool:=λ_=>pure true
theorem eF7:DTs X Z [] M5:=⟨λpins s σ H Q I hE0=>hE0.elim λX9 μ G sr h p=>wpAny_tests_nil ⟨H,I,d9.ok p h⟩⟩
theorem eK9(h:DT X Z c t):DTs X Z [c] t:=⟨λpins s σ H Q I q=>wpAny_tests_one (h.h pins s σ H Q I q)⟩
def N7(g:Fg)(t:DSt->M Bool)(e:Fe)(ck:DH->Bool):List D->DSt->M (List D)
 |[]=>λ_ G=>if ck G then some (.ok [],G)else none
 | d :: r => λσ G => if ck G then (do
    let WZ <-g d σ
    if <-t WZ then do
     let y <-e WZ
     let ys <-N7 g t e ck r WZ
     pure (y::ys)
    else N7 g t e ck r WZ:M (List D)) G else none
def J5(it:DSt->M Src)(caps:List (Option Nat))(g:Fg)(t:DSt->M Bool)(e:Fe):Fe:=λσ=>do
 let s <-it σ
 if s.items.length<=zo then do
  let ys <-noX (N7 g t e s.ck s.items (U9 caps σ))
  M6 (.lst ys)
 else M.stuck
theorem dL4(h:K7 c μ H X9 σ):K7 c μ H (U9 caps X9) (U9 caps σ):=by
 refine⟨by simp[U9],λi d e=>?_⟩
 obtain⟨j,e1,e2⟩:=DR e
 obtain⟨v,e3,r⟩:=h.2 j d e2
 refine⟨v,?_,r⟩
 unfold U9
 rw[zV,e1]
 simp[e3]
section
set_option maxHeartbeats 1000000 in
def CKV(c:Wc)(Q:VK)(d:D)(X2:List Addr)(_:DH)(H':Hp):Prop:=∀v,j5 c X2 H' d v->Q v H'
def CKR(c:Wc)(Z:XC)(Q:VK)(ys W2:List D)(μ:List Addr)(G:DH)(H:Hp):Prop:=d9 c Z μ H (M6 (.lst (ys++W2)) G) (CKV c Q)
def gR(gg:Fg)(tt:DSt->M Bool)(fe:Fe)(ck:DH->Bool)(items:List D)(σ:DSt)(y:D):M (List D):=do let ys <-N7 gg tt fe ck items σ;pure (y::ys)
def fM(gg:Fg)(tt:DSt->M Bool)(fe:Fe)(ck:DH->Bool)(items:List D)(σ:DSt)(b:Bool):M (List D):=if b=true then (do let y <-fe σ;let ys <-N7 gg tt fe ck items σ;pure (y::ys))else N7 gg tt fe ck items σ
def wU(gg:Fg)(tt:DSt->M Bool)(fe:Fe)(ck:DH->Bool)(items:List D)(σ:DSt):M (List D):=do if <-tt σ then do {let y <-fe σ;let ys <-N7 gg tt fe ck items σ;pure (y::ys)}else N7 gg tt fe ck items σ
inductive CG(X:Cx)(Z:XC)(Q:VK)(vs:List V)(DD:Addr)(ys:List D)(X2:List Addr)(H5:Hp)(m:DSt->M (List D))(WQ:St)(H6:Hp):Prop
 |mk (WU:DSt) (μ6:List Addr) (G6:DH) (s:K7 (wc X) μ6 H6 WU WQ) (h:v8 (wc X) μ6 G6 H6) (u:UH (wc X) DD vs X2 H5 (λX9 μ G H=>d9 (wc X) ZF μ H (m X9 G) (CKR (wc X) Z Q ys)) WU μ6 G6 H6)
inductive CT(X:Cx)(Z:XC)(Q:VK)(vs:List V)(DD:Addr)(ys:List D)(WU:DSt)(WQ:St)(μ6:List Addr)(H6:Hp)(m:Bool->M (List D))(b:Bool)(H7:Hp):Prop
 |mk (WK:List Addr) (G7:DH) (s:K7 (wc X) WK H7 WU WQ) (h:v8 (wc X) WK G7 H7) (u:UH (wc X) DD vs μ6 H6 (λb μ G H=>d9 (wc X) ZF μ H (m b G) (CKR (wc X) Z Q ys)) b WK G7 H7)
inductive CE(X:Cx)(Z:XC)(Q:VK)(vs:List V)(DD:Addr)(ys:List D)(WU:DSt)(WQ:St)(WK:List Addr)(H7:Hp)(m:D->M (List D))(v:V)(H8:Hp):Prop
 |mk (y:D) (μ8:List Addr) (G8:DH) (r:j5 (wc X) μ8 H8 y v) (s:K7 (wc X) μ8 H8 WU WQ) (h:v8 (wc X) μ8 G8 H8) (u:UH (wc X) DD vs WK H7 (λy μ G H=>d9 (wc X) ZF μ H (m y G) (CKR (wc X) Z Q ys)) y μ8 G8 H8)
inductive QJ(Y:Cx)(Z:XC)(Q:VK)(gg:Fg)(tt:DSt->M Bool)(fe:Fe)(src:Src)(fp:List Addr)(tn:Nat->Heap->Prop)(DD:Addr)(WY:List Addr)(H2:Hp)(n:Nat)(s':zv):Prop
 |mk (i:Nat) (ys:List D) (vs:List V) (X1:St) (H':Hp) (WW:DSt) (X2:List Addr) (G':DH) (e:n=src.items.length-i) (hi:i<=src.items.length) (hv:vs.length<=i)
    (I:Inv Y [] X1 H' s') (st:tn i s'.heap) (fr:∀b∈fp,H' b=none) (hs:H' DD=some (.lst vs)) (nD:DD∉X2)
    (x:Ext WY H2 X2 (hide DD H')) (h:v8 (wc Y) X2 G' (hide DD H')) (sr:K7 (wc Y) X2 (hide DD H') WW X1) (rl:t6 (wc Y) X2 (hide DD H') ys vs)
    (p:d9 (wc Y) ZF X2 (hide DD H') (N7 gg tt fe src.ck (src.items.drop i) WW G') (CKR (wc Y) Z Q ys))
theorem mX{Y:Cx}{Q:VK}{src:Src}{tn:Nat->Heap->Prop}{DD it:Addr}{H2:Hp}{J:It}{R:Result->zv->Prop}(hcX:Y.calm=true)(hg:DG Y ZF tg gg)(ht:DTs Y ZF ifs tt)(he:DE Y ZF elt fe)(T:F7 Y.prog Y.w Y.K tg J fp it tn)
 (fpX:∀(H':Hp) (b:Addr),b∈fp->H' b=none->B1 Y [] H' b) (hJ:ItD (wc Y) WY H2 J src) (hlen:src.items.length<=zo) (fin:∀(H':Hp) (X1:St) (s4:zv),Inv Y [] X1 H' s4->Q (.ref DD) H'->R (.ok .next) s4) (n:Nat) (s':zv) (h:QJ Y Z Q gg tt fe src fp tn DD WY H2 n s') {NX:zv->Prop} (nx:∀m s,m<n->QJ Y Z Q gg tt fe src fp tn DD WY H2 m s->NX s):
 zw (zE Y.prog Y.w) Y.A (Zt (.ref it)) (λr W1=>match r with
  |none=>R (.ok .next) W1
  | some v => zw (zE Y.prog Y.w) Y.A (xD tg (.ref it) v) (λ_ s₁' => zw (zE Y.prog Y.w) Y.A (Yc tg Y.env v) (λ_ s₂ =>
     zw (zE Y.prog Y.w) Y.A (forIn ifs true λc r=>if r=true then do let ok <-isTrue c Y.env (eval c Y.env);pure (ForInStep.yield ok)else pure (ForInStep.yield r)) (λok s₃=>
      if ok=true then zw (zE Y.prog Y.w) Y.A (eval elt Y.env) (λx s₄=>
       zw (zE Y.prog Y.w) Y.A (call (.builtin "list.append") [.ref DD,x]) (λ_ s₅=>NX s₅) Y.xe s₄) Y.xe s₃
      else NX s₃) Y.xe s₂) Y.xe s₁') Y.xe W1) Y.xe s':=by
 obtain⟨i,ys,vs,X1,H',WW,X2,G',rfl,hi',hvl,I',st',fr',hvs,nD',x',h',sr',rl,p'⟩:=h
 by_cases hlt:i<src.items.length
 · rw[xu hlt]at p'
   unfold N7 at p'
   split at p'
   case isFalse=>exact p'.elim
   rename_i ck
   obtain⟨q1,_⟩:=hJ X2 G' H' x'.unhide h'.unhide ck i
   obtain⟨go,yl⟩:=q1 _ (zi hlt)
   refine thn (T.item (Y) rfl rfl rfl hcX i [] s' X1 H' Y.xe I' (λb hb=>fpX H' b hb (fr' b hb)) st' go) λr s4 z4=>?_
   obtain⟨u,rfl,h4⟩:=z4
   refine thn h4 λ_ s5 z5=>?_
   obtain⟨x,H5,I5,r5,y5,st5,fr5⟩:=z5
   obtain⟨k5,h5,rx5⟩:=yl x H5 y5
   obtain⟨e5,n5,k5'⟩:=k5.hide nD' hvs
   have I5':=I5.pinned (λb hb=>fpX H5 b hb (fr5 b hb)) (T.obj _ _ st5)
   have keepIt:∀ {WM:St} {H7:Hp} {s7:zv},Inv (Y) ([]++bD fp s5.heap) WM H7 s7->Inv (Y) [] WM H7 s7/\tn (i+1) s7.heap/\∀b∈fp,H7 b=none:=λ{WM H7 s7} I7=>by
    refine⟨I7.unpinned,T.keep _ _ _ st5 λb hb o e=>(I7.pin (b,o) (zJ _ (zJ _ (LA hb e)))).1,λb hb=>?_⟩
    obtain⟨o,e,d⟩:=T.obj _ _ st5 b hb
    exact(I7.pin (b,o) (zJ _ (zJ _ (LA hb e)))).2.1
   have p5:=d9.unhide (Z:=ZF) n5 e5 (d9.bind (p'.from k5'))
   refine thn (hg.h _ s5 X1 H5 x u _ I5' r5 ⟨_,WW,X2,G',rx5,(sr'.mono k5').sq lE,h5,p5.mono λWU μ6 G6 H6 x6 h6 q6 WQ sr6=>(⟨WU,μ6,G6,sr6,h6,q6⟩:CG Y Z Q vs DD ys X2 H5 (wU gg tt fe src.ck (src.items.drop (i+1))) WQ H6)⟩) λ_ s6 z6=>?_
   obtain⟨WQ,H6,I6,WU,μ6,G6,sr6,h6,e6,n6,hh6,x6,p6⟩:=z6
   have p6':=d9.unhide (Z:=ZF) n6 e6 (d9.bind p6)
   refine thn (ht.h _ s6 WQ H6 (CT Y Z Q vs DD ys WU WQ μ6 H6 (fM gg tt fe src.ck (src.items.drop (i+1)) WU)) I6 ⟨WU,μ6,G6,sr6,h6,p6'.mono λb WK G7 H7 x7 h7 q7=>⟨WK,G7,sr6.mono x7,h7,q7⟩⟩) λb s7 z7=>?_
   obtain⟨H7,I7,WK,G7,sr7,h7,e7,n7,hh7,x7,p7⟩:=z7
   unfold fM at p7
   have x27:Ext WY H2 WK (hide DD H7):=x'.trans (k5'.trans (x6.trans x7))
   have rl7:t6 (wc Y) WK (hide DD H7) ys vs:=rl.mono (k5'.trans (x6.trans x7))
   rcases b with _|_
   ·
     rw[if_neg jc]at p7 ⊢
     obtain⟨I8,st8,fr8⟩:=keepIt I7
     exact nx _ _ (Yi _ _ hlt) ⟨i+1,ys,vs,WQ,H7,WU,WK,G7,rfl,hlt,Nat.le_succ_of_le hvl,I8,st8,fr8,e7,n7,x27,hh7,sr7.sq (KA e7),rl7,p7⟩
   ·
     rw[if_pos rfl]at p7 ⊢
     have p7':=d9.unhide (Z:=ZF) n7 e7 (d9.bind p7)
     refine thn (he.h _ s7 WQ H7 (CE Y Z Q vs DD ys WU WQ WK H7 (gR gg tt fe src.ck (src.items.drop (i+1)) WU)) I7 ⟨WU,WK,G7,sr7,h7,p7'.mono λy μ8 G8 H8 x8 h8 q8 v rv=>⟨y,μ8,G8,rv,sr7.mono x8,h8,q8⟩⟩) λyu s8 z8=>?_
     obtain⟨yv,H8,I8,ry,y,μ8,G8,ryd,sr8,h8,e8,n8,hh8,x8,p8⟩:=z8
     unfold gR at p8
     refine thn (sQ _ s8 WQ H8 (.ref DD) [yv] (.ref DD) [yu] (λ_ H9=>H9=upd H8 DD (.lst (vs++[yv]))) I8 rfl (.cons ry .nil) ⟨DD,vs,yv,rfl,rfl,e8,by lia,rfl⟩) λ_ s9 z9=>?_
     obtain⟨_,H9,I9,_,rfl⟩:=z9
     obtain⟨I10,st10,fr10⟩:=keepIt I9
     have hd9:hide DD (upd H8 DD (.lst (vs++[yv])))=hide DD H8:=aE
     refine nx _ _ (Yi _ _ hlt) ⟨i+1,ys++[y],vs++[yv],WQ,_,WU,μ8,G8,rfl,hlt,by rw[zA];exact Nat.succ_le_succ hvl,I10,st10,fr10,O6,n8,?_,?_,?_,?_,?_⟩
     ·rw[hd9];exact x27.trans x8
     ·rw[hd9];exact hh8
     ·rw[hd9];exact sr8.sq (KA e8)
     ·rw[hd9];exact(rl7.mono x8).append ⟨yv, [],rfl,ryd.sq (KA e8),rfl⟩
     · rw[hd9]
       refine(d9.bind p8).mono λW2 μ'' G'' H'' x'' h'' q''=>?_
       have q3:=d9.ok q'' h''
       show d9 (wc Y) Z μ'' H'' (M6 (.lst (ys++[y]++W2)) G'') (CKV (wc Y) Q)
       rw[ya]
       exact q3
 · have e:i=src.items.length:=by lia
   subst e
   rw[List.drop_length]at p'
   unfold N7 at p'
   split at p'
   case isFalse=>exact p'.elim
   rename_i ck
   obtain⟨_,q2⟩:=hJ X2 G' H' x'.unhide h'.unhide ck src.items.length
   refine thn (T.done (Y) rfl rfl rfl hcX src.items.length [] s' X1 H' Y.xe I' (λb hb=>fpX H' b hb (fr' b hb)) st' (q2 (zn _))) λr s4 ⟨hr,I4⟩=>?_
   subst hr
   have p9:d9 (wc Y) Z X2 (hide DD H') (M6 (.lst (ys++[])) G') (CKV (wc Y) Q):=d9.ok p' h'
   rw[yX]at p9
   have q9:=U3 (q:=DD) h' rl p9 iC
   rw[PU hvs]at q9
   exact fin H' X1 s4 I4 q9
theorem GO{use:Option (zk->Sem Unit)}{Q:VK}{ps:Pos}{pins:PNS}{s:zv}{σ:St}{H:Hp}{X9:DSt}{G:DH}(hc:X.calm=true)(hi:DI X Z tg iter it)(k:E4 X scope N caps)
 (hg:∀C s H ex,DG (S6 X scope N C s H ex) ZF tg gg) (ht:∀C s H ex,DTs (S6 X scope N C s H ex) ZF ifs tt) (he:∀C s H ex,DE (S6 X scope N C s H ex) ZF elt fe)
 (hs:∀x,yJ iter X.env x=pure x) (I:Inv X pins σ H s) (sr:K7 (wc X) μ H X9 σ) (hr:v8 (wc X) μ G H) (p:d9 (wc X) Z μ H (J5 it caps gg tt fe X9 G) λd X2 _ H'=>∀v,j5 (wc X) X2 H' d v->Q v H')
 (fin:∀(DD C:Addr) (s4:zv) (H':Hp) m (o:Flow),s4.heap.Ns C m->(∀h'',xF C s4.heap h''->Inv X pins σ H' {s4 with heap:=h''})->H' C=none->(∀H9:Hp,H9 C=none->B1 X pins H9 C)->Q (.ref DD) H'->compPost (zE X.prog X.w) X.A X.xe use PQ (.ref DD) C (.ok o) s4):
 zw (zE X.prog X.w) X.A (comprehension (.ListComp elt [⟨tg,iter,ifs,0⟩] scope pos) scope X.env ps (newList []) false (eval iter X.env) use) PQ X.xe s:=by
 replace p:d9 (wc X) Z μ H (J5 it caps gg tt fe X9 G) (CKV (wc X) Q):=p
 have p1:=d9.bind p
 refine wpAny_comprehension_free rfl hs (Dp (k.cells I.ok)) k.kind k.names ?_
 refine thn (hi.h pins s σ H (λJ H1=>∃src X0 G1,Ext μ H X0 H1/\v8 (wc X) X0 G1 H1/\ItD (wc X) X0 H1 J src/\
  d9 (wc X) Z X0 H1 ((if src.items.length<=zo then (do let ys <-noX (N7 gg tt fe src.ck src.items (U9 caps X9));M6 (.lst ys))else M.stuck:M D) G1) (CKV (wc X) Q))
  I ⟨X9,μ,G,sr,hr,p1.mono λsrc X0 G1 H1 x1 h1 p1 J hJ=>⟨src,X0,G1,x1,h1,hJ,p1⟩⟩) λv s1 q1=>thn q1 λitv s2 q2=>?_
 obtain⟨itA,fp,tn,J,H2,rfl,I2,T,st2,f2,src,WY,G2,x2,h2,hJ,p2⟩:=q2
 split at p2
 case isFalse=>exact p2.elim
 rename_i hlen
 have hfp:∀b∈fp,b<s2.heap.objs.size:=λb hb=>by obtain⟨o,e,_⟩:=T.obj _ _ st2 b hb;exact zr e
 refine yI (wpAny_newFunctionEnv k.cell (by intro y hy;simp at hy) (λh₁ hns₁ hsb₁=>?_) k.kind)
 dsimp only at hns₁ hsb₁ ⊢
 generalize hHP:s2.heap.push {cls:=.type "list",dict:=none,data:=.seq ([]:List zk).toArray}=HP at hns₁ hsb₁ ⊢
 have hC:HP.objs.size=s2.heap.objs.size+1:=by rw[<-hHP,jY]
 have hCl:s2.heap.objs.size<HP.objs.size:=by rw[hC];exact xr _
 have hDC:s2.heap.objs.size≠HP.objs.size:=zD hCl
 have old:∀b o,s2.heap.get? b=some o->h₁.get? b=some o:=λb o e=>hsb₁.extBut b o (by have:=zr e;exact zD (xN this hCl)) (zd _ (hHP▸zd _ e))
 have hacc:h₁.get? s2.heap.objs.size=some {cls:=.type "list",data:=.seq ([]:List zk).toArray 0}:=hsb₁.extBut _ _ hDC (zd _ (hHP▸zq _ rfl))
 have hD:H2 s2.heap.objs.size=none:=I2.hok.fresh (zn _)
 have nD:s2.heap.objs.size∉WY:=λz=>yt _ (h2.mem_lt I2 z)
 have st1:tn 0 h₁:=T.keep _ _ _ st2 λb _ o e=>old b o e
 have fpX:∀(H':Hp) (b:Addr),b∈fp->H' b=none->B1 (S6 X scope N HP.objs.size s2 H2 fp) [] H' b:=λH' b hb hn=>
  ⟨hn,zD (xN (hfp b hb) hCl),λz=>by
   rcases zt.mp (I2.stkSub b z)with e|e
   ·exact(f2 b hb).2.1 e
   ·exact(f2 b hb).2.2.1 e,.inl hb,λx c e=>(f2 b hb).2.2.2.2.1 x c (Z6 e),λp hp=>absurd (show p∈([]:PNS)from hp) (by simp)⟩
 have hcX:(S6 X scope N HP.objs.size s2 H2 fp).calm=true:=hc
 have p3:=rJ (d9.bind p2)
 generalize hDD:s2.heap.objs.size=DD at *
 have loop:∀s₃:zv,s₃= {s2 with heap:=h₁,toks:=s2.toks+([]:List (Str×zk)).length}->
  ZC (zE X.prog X.w) X.A (.compLoop (.ListComp elt [⟨tg,iter,ifs,0⟩] scope pos) 0 (.ref itA) (.ref DD) (compEnvC scope (L4 X.env scope.names []) HP.objs.size X.env))
   (compPost (zE X.prog X.w) X.A X.xe use PQ (.ref DD) HP.objs.size) s₃:=by
  rintro s₃ rfl
  refine Rm (QJ (S6 X scope N HP.objs.size s2 H2 fp) Z Q gg tt fe src fp tn DD WY H2) (λn s' h=>mX hcX (hg _ _ _ _) (ht _ _ _ _) (he _ _ _ _) T fpX hJ hlen (λH' X1 s4 I4 q9=>?_) n s' h λm s h1 h2=>⟨m,h1,h2⟩) src.items.length
   ⟨0, [], [],U9 caps σ,upd H2 DD (.lst []),U9 caps X9,WY,G2,rfl,zQ _,zn _,?_,st1,λb hb=>?_,O6,nD,?_,?_,?_,rfl,?_⟩
  · obtain⟨m,hn,_⟩:=I4.loc
    exact fin DD HP.objs.size s4 H' m _ hn (λh'' sb=>Tm I2 (λb hb=>f2 b hb) (by rw[hDD];exact hCl) I4 sb) I4.free (λH9 hn9=>I2.fpOk (by rw[hDD];exact yV hCl) hn9) q9
  · have:=Qg (tk:=s2.toks+([]:List (Str×zk)).length) I2 k (by rw[hDD];exact hCl) f2 (λb hb=>by rw[hDD];exact hfp b hb) old hns₁ (by rw[hDD];exact hacc)
    rw[hDD]at this
    exact this
  ·rw[J2 (zD (hfp b hb))];exact(f2 b hb).1
  ·rw[aE,iF hD];exact Ext.refl _ _
  ·rw[aE,iF hD];exact h2
  ·rw[aE,iF hD];exact dL4 (sr.mono x2)
  · rw[aE,iF hD,List.drop_zero]
    exact p3
 exact codeAny_compStart_list (loop _ rfl) (T.self _ 0 _ _ _ st1 (loop _ rfl))
theorem HX(hc:X.calm=true)(hi:DI X Z tg iter it)(k:E4 X scope N caps)
 (hg:∀C s H ex,DG (S6 X scope N C s H ex) ZF tg gg) (ht:∀C s H ex,DTs (S6 X scope N C s H ex) ZF ifs tt) (he:∀C s H ex,DE (S6 X scope N C s H ex) ZF elt fe)
 (hs:∀x,yJ iter X.env x=pure x):DE X Z (.ListComp elt [⟨tg,iter,ifs,0⟩] scope pos) (J5 it caps gg tt fe):=⟨by
 intro pins s σ H Q I hE0
 refine hE0.elim λX9 μ G sr hr p=>?_
 rw[eval_ListComp]
 exact GO hc hi k hg ht he hs I sr hr p λDD C s4 H' m o hn fin _ _ q9=>⟨m,hn,λh'' sb=>⟨.ref DD,H',fin h'' sb,rfl,q9⟩⟩⟩
end
def O5(r:Nat):M DO:=λG=>match G[r]? with
 |some o=>some (.ok o,G)
 |none=>none
def listOf:DO->M (List D)
 | .lst l=>pure l
 | .rol l=>pure l
 | .dct _=>M.stuck
 | .rod _=>M.stuck
def OW:D->M (List D)
 | .tup l=>pure l
 | .ref r=>O5 r >>= listOf
 |_=>M.stuck
def M0{α:Type}:Option α->M α
 |some a=>pure a
 |none=>M.stuck
section
theorem IxR.mono(h:IxR X r)(k:∀x y H Q,r' x y H Q->r x y H Q):IxR X r':=λva sl pins s σ H x y v u Q I rx ry q hs=>h va sl pins s σ H x y v u Q I rx ry (k x y H Q q) hs
theorem N5{f:DO->M α}{K:α->List Addr->DH->Hp->Prop}(p:d9 c Z μ H ((O5 r >>= f) G) K):∃o,G[r]? =some o/\d9 c Z μ H (f o G) K:=by
 rw[M.bind_eq]at p
 unfold O5 at p
 rcases e:G[r]? with _|o
 ·rw[e]at p;exact p.elim
 ·rw[e]at p;exact⟨o,rfl,p⟩
theorem U4{r:Option β}{f:β->M α}{K:α->List Addr->DH->Hp->Prop}(p:d9 c Z μ H ((M0 r >>= f) G) K):∃o,r=some o/\d9 c Z μ H (f o G) K:=by
 rcases r with _|o
 ·exact p.elim
 ·exact⟨o,rfl,p⟩
theorem OG{f:List D->M α}{K:α->List Addr->DH->Hp->Prop}(h:v8 c μ G H)(r:j5 c μ H d v)(p:d9 c Z μ H ((OW d >>= f) G) K):
 ∃l a vs,v= .ref a/\t6 c μ H l vs/\d9 c Z μ H (f l G) K/\((d= .tup l/\SqT c.K H a vs)\/(∃i,d= .ref i/\μ[i]? =some a/\((G[i]? =some (.lst l)/\H a=some (.lst vs))\/(G[i]? =some (.rol l)/\RoL c.K H a vs)))):=by
 rcases d with _|_|_|_|l|i|_|_<;>try (exact p.elim;done)
 ·
   unfold j5 at r
   obtain⟨a,vs,e,q,rl⟩:=r
   exact⟨l,a,vs,e,rl,p,.inl ⟨rfl,q⟩⟩
 ·
   unfold j5 at r
   obtain⟨a,m,e⟩:=r
   have p':d9 c Z μ H ((O5 i >>= λo=>listOf o >>= f) G) K:=by rw[<-M.bind_assoc];exact p
   obtain⟨o,g,p2⟩:=N5 p'
   have ro:=h.obj i o a g m
   rcases o with l|l|l|l
   ·obtain⟨vs,q,rl⟩:=ro;exact⟨l,a,vs,e,rl,p2,.inr ⟨i,rfl,m,.inl ⟨g,q⟩⟩⟩
   ·obtain⟨vs,q,rl⟩:=ro;exact⟨l,a,vs,e,rl,p2,.inr ⟨i,rfl,m,.inr ⟨g,q⟩⟩⟩
   ·exact p2.elim
   ·exact p2.elim
theorem K0(r:j5 c μ H (.int i) v):v= .int i:=by unfold j5 at r;exact r
theorem U1(r:j5 c μ H (.str i) v):v= .str i:=by unfold j5 at r;exact r
theorem L5(r:j5 c μ H (.bl i) v):v= .bl i:=by unfold j5 at r;exact r
theorem iD(r:j5 c μ H .non v):v= .non:=by unfold j5 at r;exact r
theorem ofI:j5 c μ H (.int i) (.int i):=by unfold j5;rfl
theorem ofS:j5 c μ H (.str i) (.str i):=by unfold j5;rfl
theorem ofB:j5 c μ H (.bl i) (.bl i):=by unfold j5;rfl
theorem ofN:j5 c μ H .non .non:=by unfold j5;rfl
def FA(g:Int->Int->M D):D->D->M D:=λx y=>match x,y with
 | .int i,.int j=>g i j
 |_,_=>M.stuck
theorem nK[∀i j,Decidable (C i j)]{g:Int->Int->Int}(h:OpR X f (rI C λi j=>.int (g i j))):OpD X Z f (FA λi j=>if C i j then pure (.int (g i j))else M.stuck):=
 OpD.of h λx y H Q hE0=>hE0.elim λdx dy μ G rx ry hr p=>by
  rcases dx with _|_|_|_|_|_|_|_<;>rcases dy with _|_|_|_|_|_|_|_<;>first
   |exact p.elim
   |skip
  rename_i i j
  unfold FA at p
  dsimp only at p
  split at p
  · rename_i hc
    exact⟨i,j,K0 rx,K0 ry,hc,d9.ok p hr _ ofI⟩
  ·exact p.elim
theorem AT{g:Int->Int->Int}(h:OpR X f (A8 λi j=>.int (g i j))):OpD X Z f (FA λi j=>pure (.int (g i j))):=
 OpD.of h λx y H Q hE0=>hE0.elim λdx dy μ G rx ry hr p=>by
  rcases dx with _|_|_|_|_|_|_|_<;>rcases dy with _|_|_|_|_|_|_|_<;>first
   |exact p.elim
   |exact⟨_,_,K0 rx,K0 ry,d9.ok p hr _ ofI⟩
def F2:D->D->M D:=FA λi j=>pure (.int (i-j))
theorem nS:OpD X Z (jH .Sub) F2:=AT lP
instance (i j:Int):Decidable (P3 i j):=by unfold P3;infer_instance
def RB(_ j:Int):Prop:=0<j/\j<2 ^ 100
instance (i j:Int):Decidable (RB i j):=by unfold RB;infer_instance
theorem TW:OpR X (jH .FloorDiv) (rI RB λi j=>.int (i / j)):=opI λi j _ _ _ _ _ hc q=>by
 have h1:(0:Int)<j:=hc.1
 have h2:j<2 ^ 100:=hc.2
 refine floordiv_int (by lia) (by rw[Int.fdiv_eq_ediv_of_nonneg i (by lia)];exact q) (.inl (PyProof.noPylong_of_log2 ?_))
 have h3:j.natAbs<2 ^ 100:=by lia
 have h4:j.natAbs≠0:=by lia
 have:=(Nat.log2_lt h4).mpr h3
 lia
def M9:D->D->M D:=FA λi j=>if RB i j then pure (.int (i / j))else M.stuck
theorem FY:OpD X Z (jH .FloorDiv) M9:=nK TW
def K5:D->D->M D:=FA λi j=>if 0<j then pure (.int (i % j))else M.stuck
theorem Tv:OpD X Z (jH .Mod) K5:=nK eY1
instance (i j:Int):Decidable (A9 i j):=by unfold A9;infer_instance
def L7:D->D->M D:=FA λi j=>if A9 i j then pure (.int (i ^ j.toNat))else M.stuck
theorem Qz:OpD X Z (jH .Pow) L7:=nK oP
theorem rY{w:jg}{s:zv}{t b:Addr}{ws:List zk}(ht:Yn s.heap t #[])(hb:Yn s.heap b ws.toArray)
 (h1:Q (.ref b) s):zw (zE prog w) A (jH .Add (.ref t) (.ref b)) Q E s:=by
 obtain⟨⟨cls,dd,data,sl⟩,ho,hc,n,hd⟩:=id ht
 obtain⟨⟨cls2,dd2,data2,sl2⟩,ho2,hc2,n2,hd2⟩:=id hb
 simp only at hc hd hc2 hd2
 subst hc hd hc2 hd2
 exact concat_meets ⟨_,ho,rfl⟩ ⟨_,ho2,rfl⟩ XB JN Zu Zq (Zn _ _)
  (tuple_addW0 t b #[] ws.toArray n n2 dd dd2 sl sl2 (by simp)) ⟨ho,ho2,h1⟩
def SX(K:zh):R2:=λx y H Q=>∃a b ys,x= .ref a/\y= .ref b/\SqT K H a []/\SqT K H b ys/\Q (.ref b) H
theorem dT9:OpR X (jH .Add) (SX X.K):=by
 intro pins s σ H x y v u Q I rx ry h
 obtain⟨a,b,ys,rfl,rfl,ha,hb,q⟩:=h
 cases rx
 cases ry
 obtain⟨its,r,p,_⟩:=I.tuple ha
 obtain⟨its2,r2,p2,_⟩:=I.tuple hb
 cases r
 exact rY p p2 ⟨.ref b,H,I,rfl,q⟩
def T7:D->D->M D:=λx y=>match x,y with
 | .int i,.int j=>pure (.int (i+j))
 | .str a,.str b=>if a.length+b.length<=zo then pure (.str (a++b))else M.stuck
 | .tup a,.tup b=>if a.length+b.length<=zo then pure (.tup (a++b))else M.stuck
 | .ref i,.ref j=>do
   match <-O5 i,<-O5 j with
   | .lst a,.lst b=>if a.length+b.length<=zo then M6 (.lst (a++b))else M.stuck
   |_,_=>M.stuck
 |_,_=>M.stuck
theorem vF{Q:VK}(h:v8 c μ G H)(q:SqT c.K H a vs)(r:t6 c μ H xs vs)
 (p:d9 c Z μ H (some (Except.ok (.tup xs),G)) λd X2 _ H'=>∀v,j5 c X2 H' d v->Q v H'):Q (.ref a) H:=d9.ok p h _ (by unfold j5;exact⟨a,vs,rfl,q,r⟩)
theorem fT:OpD X Z (jH .Add) T7:=
 OpD.of (OpR.or kT (OpR.or vq (OpR.or Vz (OpR.or dT9 vd)))) λx y H Q hE0=>hE0.elim λdx dy μ G rx ry hr p=>by
  rcases dx with _|_|_|_|_|_|_|_<;>rcases dy with _|_|_|_|_|_|_|_<;>first
   |exact p.elim
   |skip
  ·exact .inl ⟨_,_,K0 rx,K0 ry,d9.ok p hr _ ofI⟩
  · rename_i a b
    refine .inr (.inl ?_)
    unfold T7 at p
    dsimp only at p
    split at p
    · rename_i hz
      exact⟨a,b,U1 rx,U1 ry,hz,d9.ok p hr _ ofS⟩
    ·exact p.elim
  · rename_i a b
    unfold j5 at rx ry
    obtain⟨ax,vx,rfl,qx,lx⟩:=rx
    obtain⟨ay,vy,rfl,qy,ly⟩:=ry
    unfold T7 at p
    dsimp only at p
    split at p
    · rename_i hz
      by_cases hv:vx= []
      · subst hv
        rcases a with _|⟨_,_⟩
        ·exact .inr (.inr (.inr (.inl ⟨ax,ay,vy,rfl,rfl,qx,qy,vF hr qy ly p⟩)))
        ·obtain⟨_,_,z,_⟩:=lx;cases z
      · refine .inr (.inr (.inl ⟨ax,ay,vx,vy,rfl,rfl,qx,qy,hv,by rw[<-lx.length,<-ly.length];exact hz,?_⟩))
        refine⟨λhy=>?_,λhy q hq=>EC hr (lx.append ly) p q hq⟩
        subst hy
        refine vF hr qx ?_ p
        rcases b with _|⟨_,_⟩
        ·rw[yX];exact lx
        ·obtain⟨_,_,z,_⟩:=ly;cases z
    ·exact p.elim
  · rename_i i j
    unfold j5 at rx ry
    obtain⟨ax,mx,rfl⟩:=rx
    obtain⟨ay,my,rfl⟩:=ry
    obtain⟨ox,gx,p⟩:=N5 p
    obtain⟨oy,gy,p⟩:=N5 p
    have hx:=hr.obj i ox ax gx mx
    have hy:=hr.obj j oy ay gy my
    rcases ox with _|_|_|_<;>rcases oy with _|_|_|_<;>first
     |exact p.elim
     |skip
    obtain⟨vx,ex,lx⟩:=hx
    obtain⟨vy,ey,ly⟩:=hy
    dsimp only at p
    split at p
    · rename_i hz
      exact .inr (.inr (.inr (.inr ⟨ax,ay,vx,vy,rfl,rfl,ex,ey,by rw[<-lx.length,<-ly.length];exact hz,λq hq=>U3 hr (lx.append ly) p q hq⟩)))
    ·exact p.elim
end
def N0(G:DH):D->Option (Bool×List D)
 | .tup l=>some (true,l)
 | .ref i=>match G[i]? with
   |some (.lst l)=>some (false,l)
   |some (.rol l)=>some (false,l)
   |_=>none
 |_=>none
def i7:D->Bool
 | .non=>true
 | .bl _=>true
 | .int _=>true
 | .str _=>true
 |_=>false
def eqS:D->D->Option Bool
 | .non,.non=>some true
 | .bl a,.bl b=>some (a==b)
 | .int a,.int b=>some (a==b)
 | .str a,.str b=>some (a==b)
 | .bl a,.int b=>some ((if a then (1:Int)else 0)==b)
 | .int a,.bl b=>some (a==(if b then (1:Int)else 0))
 |x,y=>if i7 x&&i7 y then some false else none
def eqL(f:D->D->Option Bool):List D->List D->Option Bool
 |[], []=>some true
 |[],_::_=>some false
 |_::_, []=>some false
 |x::xs,y::ys=>match f x y,eqL f xs ys with
   |some e,some r=>some (e&&r)
   |_,_=>none
def eqN:Nat->DH->D->D->Option Bool
 |0,_,_,_=>none
 |n+1,G,x,y=>match N0 G x,N0 G y with
   |some (k1,a),some (k2,b)=>if k1=k2 then (if k1=false/\a.length≠b.length then some false else eqL (eqN n G) a b)else some false
   |some _,none=>if i7 y then some false else none
   |none,some _=>if i7 x then some false else none
   |none,none=>eqS x y
theorem RD:eqN (n+1) G x y=match N0 G x,N0 G y with
 |some (k1,a),some (k2,b)=>if k1=k2 then (if k1=false/\a.length≠b.length then some false else eqL (eqN n G) a b)else some false
 |some _,none=>if i7 y then some false else none
 |none,some _=>if i7 x then some false else none
 |none,none=>eqS x y:=rfl
theorem HF:eqL f (x::xs) (y::ys)=match f x y,eqL f xs ys with
 |some e,some r=>some (e&&r)
 |_,_=>none:=rfl
theorem OL:∀a b r,eqL f a b=some r->(∀j x y,a[j]? =some x->b[j]? =some y->f x y=some (e j))->r= ((jC (min a.length b.length)).all e&&a.length==b.length)
 |[], [],r,h,_=>by cases h;rfl
 |[],_::_,r,h,_=>by cases h;simp
 |_::_, [],r,h,_=>by cases h;simp
 |x::xs,y::ys,r,h,he=>by
   rw[HF]at h
   have h0:=he 0 x y rfl rfl
   rw[h0]at h
   rcases hr:eqL f xs ys with _|r'
   ·rw[hr]at h;exact J7 h
   ·
     rw[hr]at h
     have ih:=OL xs ys r' hr λj x' y' h1 h2=>he (j+1) x' y' (by simpa using h1) (by simpa using h2)
     cases h
     rw[ih]
     have:min (x::xs).length (y::ys).length=min xs.length ys.length+1:=by simp only[zT];lia
     rw[this,xG,jX,xI]
     simp[Bool.and_assoc,Zi]
theorem wK:∀a b r,eqL f a b=some r->∀(j:Nat) x y,a[j]? =some x->b[j]? =some y->∃e,f x y=some e
 |[],_,_,_,_,_,_,h,_=>by simp at h
 |_::_, [],_,_,_,_,_,_,h=>by simp at h
 |x::xs,y::ys,r,h,j,x',y',h1,h2=>by
   rw[HF]at h
   rcases hf:f x y with _|e
   ·rw[hf]at h;exact J7 h
   ·
     rcases hr:eqL f xs ys with _|r'
     ·rw[hf,hr]at h;exact J7 h
     ·
       cases j with
       |zero=>simp at h1 h2;subst h1 h2;exact⟨e,hf⟩
       |succ j=>exact wK xs ys r' hr j x' y' (by simpa using h1) (by simpa using h2)
section
def CD(s:zv)(k:Bool)(a:Addr)(its:List zk):Prop:=if k then s.heap.IsTuple a its.toArray else s.heap.IsList a its.toArray
theorem a9(I:Inv X pins σ H s)(h:v8 (wc X) μ G H)(e:N0 G d=some (k,l))(r:j5 (wc X) μ H d x)(rv:J9 x v):
 ∃a vs its,x= .ref a/\v= .ref a/\t6 (wc X) μ H l vs/\v6 vs its/\CD s k a its/\(if k then SqT X.K H a vs else SqL X.K H a vs):=by
 rcases d with _|_|_|_|l'|i|_|_<;>try (cases e;done)
 ·
   unfold N0 at e
   cases e
   unfold j5 at r
   obtain⟨a,vs,rfl,q,rl⟩:=r
   obtain⟨its,rr,p,_⟩:=I.tuple q
   exact⟨a,vs,its,rfl,rv,rl,rr,p,q⟩
 ·
   have e':(match G[i]? with|some (.lst l)=>some (false,l)|some (.rol l)=>some (false,l)|_=>none)=some (k,l):=e
   unfold j5 at r
   obtain⟨a,m,rfl⟩:=r
   have key:∀vs,SqL X.K H a vs->t6 (wc X) μ H l vs->k=false->∃a' vs its,V.ref a= .ref a'/\v= .ref a'/\t6 (wc X) μ H l vs/\v6 vs its/\CD s k a' its/\(if k then SqT X.K H a' vs else SqL X.K H a' vs):=λvs q rl hk=>by
    subst hk
    obtain⟨its,rr,p,_⟩:=I.list q
    exact⟨a,vs,its,rfl,rv,rl,rr,p.isList,q⟩
   generalize g:G[i]? =o at e'
   rcases o with _|l'|l'|_|_<;>cases e'
   · obtain⟨vs,q,rl⟩:=h.obj i _ a g m
     exact key vs (SqL.of q) rl rfl
   · obtain⟨vs,q,rl⟩:=h.obj i _ a g m
     exact key vs q.sq rl rfl
theorem DM(hs:i7 d=true)(r:j5 c μ H d (.ref a)):False:=by
 cases d<;>first
  |exact absurd (show false=true from hs) jc
  |(unfold j5 at r;cases r)
theorem NL(h:eqS x y=some b):i7 x=true/\i7 y=true:=by
 rcases x with _|_|_|_|_|_|_|_<;>rcases y with _|_|_|_|_|_|_|_<;>first
  |exact⟨rfl,rfl⟩
  |(cases h;done)
theorem GU(h:eqS x y=some b)(rx:j5 c μ H x v)(ry:j5 c μ H y v):b=true:=by
 obtain⟨s1,s2⟩:=NL h
 rcases x with _|_|_|_|_|_|_|_<;>rcases y with _|_|_|_|_|_|_|_<;>first
  |(cases s1;done)
  |(cases s2;done)
  |(unfold j5 at rx ry;rw[rx]at ry;cases ry;done)
  |(unfold j5 at rx ry;rw[rx]at ry;cases ry;cases h;first|rfl|simp)
theorem HU(I:Inv X pins σ H s)(h1:CD s k a its)(h2:CD s k' a its'):k=k':=by
 cases k<;>cases k'<;>first
  |rfl
  |exact absurd rfl (XY h1 h2)
  |exact absurd rfl (XY h2 h1)
theorem nP:∀l l' vs b,t6 c μ H l vs->t6 c μ H l' vs->(∀d d' v b,v∈vs->j5 c μ H d v->j5 c μ H d' v->f d d'=some b->b=true)->eqL f l l'=some b->b=true
 |[], [],_,b,_,_,_,e=>by cases e;rfl
 |[],_::_,vs,b,r1,r2,_,_=>by cases r1;obtain⟨_,_,z,_⟩:=r2;exact SF z
 |_::_, [],vs,b,r1,r2,_,_=>by cases r2;obtain⟨_,_,z,_⟩:=r1;cases z
 |d::ds,d'::ds',vs,b,r1,r2,k,e=>by
   obtain⟨v0,vr,rfl,q0,t0⟩:=r1
   obtain⟨v1,vr',e1,q1,t1⟩:=r2
   cases e1
   rw[HF]at e
   rcases hf:f d d' with _|e0
   ·rw[hf]at e;exact J7 e
   ·
     rcases hr:eqL f ds ds' with _|r'
     ·rw[hf,hr]at e;exact J7 e
     ·
       rw[hf,hr]at e
       cases e
       have z1:=k d d' v0 e0 zK q0 q1 hf
       have z2:=nP ds ds' vr r' t0 t1 (λa a' v b hm=>k a a' v b (zB _ hm)) hr
       rw[z1,z2];rfl
theorem AL(I:Inv X pins σ H s)(h:v8 (wc X) μ G H):∀n {dx dy} {x} {v} {b},j5 (wc X) μ H dx x->j5 (wc X) μ H dy x->J9 x v->eqN n G dx dy=some b->b=true
 |0,_,_,_,_,_,_,_,_,e=>by exact J7 e
 |n+1,dx,dy,x,v,b,rx,ry,rv,e=>by
   rw[RD]at e
   rcases hx:N0 G dx with _|p
   ·
     rw[hx]at e
     rcases hy:N0 G dy with _|p
     ·rw[hy]at e;exact GU e rx ry
     ·
       obtain⟨k,l⟩:=p
       rw[hy]at e
       dsimp only at e
       split at e
       · rename_i hs
         obtain⟨a,_,_,rfl,_⟩:=a9 I h hy ry rv
         exact(DM hs rx).elim
       ·exact J7 e
   ·
     obtain⟨k,l⟩:=p
     rw[hx]at e
     rcases hy:N0 G dy with _|p'
     ·
       rw[hy]at e
       dsimp only at e
       split at e
       · rename_i hs
         obtain⟨a,_,_,rfl,_⟩:=a9 I h hx rx rv
         exact(DM hs ry).elim
       ·exact J7 e
     ·
       obtain⟨k',l'⟩:=p'
       rw[hy]at e
       dsimp only at e
       obtain⟨a,vs,its,rfl,rfl,rl,rr,sq,q⟩:=a9 I h hx rx rv
       obtain⟨a',vs',its',ea,_,rl',rr',sq',q'⟩:=a9 I h hy ry rv
       cases ea
       have hk:k=k':=HU I sq sq'
       subst hk
       have hvs:vs=vs':=by
        rcases k with _|_
        ·exact I.list_inj q q'
        ·exact I.tuple_inj q q'
       subst hvs
       rw[if_pos rfl,if_neg (by rw[rl.length,rl'.length];simp)]at e
       have hv:∀v∈vs,∃u,J9 v u:=λv hv=>by
        obtain⟨i,hi⟩:=JH hv
        obtain⟨u,_,ru⟩:=rr.get hi
        exact⟨u,ru⟩
       exact nP l l' vs b rl rl' (λd d' v b hm r1 r2 ef=>by
        obtain⟨u,ru⟩:=hv v hm
        exact AL I h n r1 r2 ru ef) e
theorem eS0(rx:j5 c μ H dx x)(ry:j5 c μ H dy y)(rv:J9 x v)(ru:J9 y u)(e:eqS dx dy=some b):
 Yq A s v u b/\Zz A s v u (!b)/\jJ A s v u b:=by
 obtain⟨s1,s2⟩:=NL e
 rcases dx with _|i|i|i|_|_|_|_<;>try (cases s1;done)
 ·
   unfold j5 at rx;subst rx;cases rv
   rcases dy with _|j|j|j|_|_|_|_<;>try (cases s2;done)
   ·unfold j5 at ry;subst ry;cases ru;cases e;exact⟨SeqAt.RcAt.none_none,SeqAt.RcNeAt.none_none,Yw _⟩
   ·unfold j5 at ry;subst ry;cases ru;cases e;exact⟨SeqAt.RcAt.none_bool _,SeqAt.RcNeAt.none_bool _,Xn _⟩
   ·unfold j5 at ry;subst ry;obtain⟨t,rfl⟩:=ru;cases e;exact⟨SeqAt.RcAt.none_int _ _,SeqAt.RcNeAt.none_int _ _,XI _ _⟩
   ·unfold j5 at ry;subst ry;obtain⟨t,rfl⟩:=ru;cases e;exact⟨SeqAt.RcAt.none_str _ _,SeqAt.RcNeAt.none_str _ _,XH _ _⟩
 ·
   unfold j5 at rx;subst rx;cases rv
   rcases dy with _|j|j|j|_|_|_|_<;>try (cases s2;done)
   ·unfold j5 at ry;subst ry;cases ru;cases e;exact⟨SeqAt.RcAt.bool_none _,SeqAt.RcNeAt.bool_none _,Xo _⟩
   ·unfold j5 at ry;subst ry;cases ru;cases e;exact⟨SeqAt.RcAt.bool_bool _ _,SeqAt.RcNeAt.bool_bool _ _,Xp _ _⟩
   ·unfold j5 at ry;subst ry;obtain⟨t,rfl⟩:=ru;cases e;exact⟨SeqAt.RcAt.bool_int _ _ _,SeqAt.RcNeAt.bool_int _ _ _,XO _ _ _⟩
   ·unfold j5 at ry;subst ry;obtain⟨t,rfl⟩:=ru;cases e;exact⟨SeqAt.RcAt.bool_str _ _ _,SeqAt.RcNeAt.bool_str _ _ _,XM _ _ _⟩
 ·
   unfold j5 at rx;subst rx;obtain⟨t,rfl⟩:=rv
   rcases dy with _|j|j|j|_|_|_|_<;>try (cases s2;done)
   ·unfold j5 at ry;subst ry;cases ru;cases e;exact⟨SeqAt.RcAt.int_none _ _,SeqAt.RcNeAt.int_none _ _,XJ _ _⟩
   ·unfold j5 at ry;subst ry;cases ru;cases e;exact⟨SeqAt.RcAt.int_bool _ _ _,SeqAt.RcNeAt.int_bool _ _ _,XL _ _ _⟩
   ·unfold j5 at ry;subst ry;obtain⟨t,rfl⟩:=ru;cases e;exact⟨SeqAt.RcAt.int_int _ _ _ _,SeqAt.RcNeAt.int_int _ _ _ _,XV _ _ _ _⟩
   ·unfold j5 at ry;subst ry;obtain⟨t,rfl⟩:=ru;cases e;exact⟨SeqAt.RcAt.int_str _ _ _ _,SeqAt.RcNeAt.int_str _ _ _ _,ZO _ _ _ _⟩
 ·
   unfold j5 at rx;subst rx;obtain⟨t,rfl⟩:=rv
   rcases dy with _|j|j|j|_|_|_|_<;>try (cases s2;done)
   ·unfold j5 at ry;subst ry;cases ru;cases e;exact⟨SeqAt.RcAt.str_none _ _,SeqAt.RcNeAt.str_none _ _,XF _ _⟩
   ·unfold j5 at ry;subst ry;cases ru;cases e;exact⟨SeqAt.RcAt.str_bool _ _ _,SeqAt.RcNeAt.str_bool _ _ _,XG _ _ _⟩
   ·unfold j5 at ry;subst ry;obtain⟨t,rfl⟩:=ru;cases e;exact⟨SeqAt.RcAt.str_int _ _ _ _,SeqAt.RcNeAt.str_int _ _ _ _,ZN _ _ _ _⟩
   ·unfold j5 at ry;subst ry;obtain⟨t,rfl⟩:=ru;cases e;exact⟨SeqAt.RcAt.str_str _ _ _ _,SeqAt.RcNeAt.str_str _ _ _ _,XU _ _ _ _⟩
theorem eR(hu:A.units<xk)(sq:CD s k a its)(ry:j5 c μ H dy y)(ru:J9 y u)(hs:i7 dy=true):
 (Yq A s (.ref a) u false/\Zz A s (.ref a) u true/\jJ A s (.ref a) u false)/\(Yq A s u (.ref a) false/\Zz A s u (.ref a) true/\jJ A s u (.ref a) false):=by
 rcases k with _|_
 ·
   rcases dy with _|j|j|j|_|_|_|_<;>try (cases hs;done)
   ·unfold j5 at ry;subst ry;cases ru;exact⟨⟨.list_none sq hu,.list_none sq hu,.list_none sq hu⟩,.none_list sq hu,.none_list sq hu,.none_list sq hu⟩
   ·unfold j5 at ry;subst ry;cases ru;exact⟨⟨.list_bool _ sq hu,.list_bool _ sq hu,.list_bool _ sq hu⟩,.bool_list _ sq hu,.bool_list _ sq hu,.bool_list _ sq hu⟩
   ·unfold j5 at ry;subst ry;obtain⟨t,rfl⟩:=ru;exact⟨⟨.list_int _ _ sq hu,.list_int _ _ sq hu,.list_int _ _ sq hu⟩,.int_list _ _ sq hu,.int_list _ _ sq hu,.int_list _ _ sq hu⟩
   ·unfold j5 at ry;subst ry;obtain⟨t,rfl⟩:=ru;exact⟨⟨.list_str _ _ sq hu,.list_str _ _ sq hu,.list_str _ _ sq hu⟩,.str_list _ _ sq hu,.str_list _ _ sq hu,.str_list _ _ sq hu⟩
 ·
   rcases dy with _|j|j|j|_|_|_|_<;>try (cases hs;done)
   ·unfold j5 at ry;subst ry;cases ru;exact⟨⟨.tuple_none sq hu,.tuple_none sq hu,.tuple_none sq hu⟩,.none_tuple sq hu,.none_tuple sq hu,.none_tuple sq hu⟩
   ·unfold j5 at ry;subst ry;cases ru;exact⟨⟨.tuple_bool _ sq hu,.tuple_bool _ sq hu,.tuple_bool _ sq hu⟩,.bool_tuple _ sq hu,.bool_tuple _ sq hu,.bool_tuple _ sq hu⟩
   ·unfold j5 at ry;subst ry;obtain⟨t,rfl⟩:=ru;exact⟨⟨.tuple_int _ _ sq hu,.tuple_int _ _ sq hu,.tuple_int _ _ sq hu⟩,.int_tuple _ _ sq hu,.int_tuple _ _ sq hu,.int_tuple _ _ sq hu⟩
   ·unfold j5 at ry;subst ry;obtain⟨t,rfl⟩:=ru;exact⟨⟨.tuple_str _ _ sq hu,.tuple_str _ _ sq hu,.tuple_str _ _ sq hu⟩,.str_tuple _ _ sq hu,.str_tuple _ _ sq hu,.str_tuple _ _ sq hu⟩
theorem eD(I:Inv X pins σ H s)(h:v8 (wc X) μ G H):∀n A,A.units+n<xk->∀ {dx dy} {x y:V} {v u} {b:Bool},j5 (wc X) μ H dx x->j5 (wc X) μ H dy y->J9 x v->J9 y u->eqN n G dx dy=some b->
 Yq A s v u b/\Zz A s v u (!b)/\jJ A s v u b
 |0,_,_,_,_,_,_,_,_,_,_,_,_,_,e=>by exact J7 e
 |n+1,A,hu,dx,dy,x,y,v,u,b,rx,ry,rv,ru,e=>by
   have hu0:A.units<xk:=by lia
   have hu1:A.in1.units+n<xk:=by show A.units+1+n<xk;lia
   have e0:=e
   rw[RD]at e
   rcases hx:N0 G dx with _|p
   ·
     rw[hx]at e
     rcases hy:N0 G dy with _|p
     ·rw[hy]at e;exact eS0 rx ry rv ru e
     ·
       obtain⟨k,l⟩:=p
       rw[hy]at e
       dsimp only at e
       split at e
       · rename_i hs
         cases e
         obtain⟨a,vs,its,rfl,rfl,_,_,sq,_⟩:=a9 I h hy ry ru
         exact(eR hu0 sq rx rv hs).2
       ·exact J7 e
   ·
     obtain⟨k,l⟩:=p
     rw[hx]at e
     obtain⟨a,vs,its,rfl,rfl,rl,rr,sq,q⟩:=a9 I h hx rx rv
     rcases hy:N0 G dy with _|p'
     ·
       rw[hy]at e
       dsimp only at e
       split at e
       · rename_i hs
         cases e
         exact(eR hu0 sq ry ru hs).1
       ·exact J7 e
     ·
       obtain⟨k',l'⟩:=p'
       rw[hy]at e
       dsimp only at e
       obtain⟨a',vs',its',rfl,rfl,rl',rr',sq',q'⟩:=a9 I h hy ry ru
       -- the two at one place
       have main:Yq A s (.ref a) (.ref a') b/\Zz A s (.ref a) (.ref a') (!b):=by
        have len1:its.toArray.size=l.length:=by rw[zj,<-rr.length,rl.length]
        have len2:its'.toArray.size=l'.length:=by rw[zj,<-rr'.length,rl'.length]
        by_cases hk:k=k'
        · subst hk
          rw[if_pos rfl]at e
          by_cases hlen:k=false/\l.length≠l'.length
          · rw[if_pos hlen]at e
            cases e
            obtain⟨rfl,hne⟩:=hlen
            have hz:(its.toArray.size != its'.toArray.size)=true:=by rw[len1,len2];simpa using hne
            exact⟨SeqAt.RcAt.lists_lengths sq sq' hz hu0,SeqAt.RcNeAt.lists_lengths sq sq' hz hu0⟩
          · rw[if_neg hlen]at e
            have items:∀j (h1:j<its.toArray.size) (h2:j<its'.toArray.size),∃e,eqN n G (l.getD j .non) (l'.getD j .non)=some e/\jJ A.in1 s its.toArray[j] its'.toArray[j] e:=λj h1 h2=>by
             have j1:j<l.length:=by rw[<-len1];exact h1
             have j2:j<l'.length:=by rw[<-len2];exact h2
             have g1:l[j]? =some l[j]:=zi j1
             have g2:l'[j]? =some l'[j]:=zi j2
             obtain⟨e1,he1⟩:=wK l l' b e j _ _ g1 g2
             obtain⟨v1,hv1,r1⟩:=rl.get g1
             obtain⟨v2,hv2,r2⟩:=rl'.get g2
             obtain⟨u1,hu1',ru1⟩:=rr.get hv1
             obtain⟨u2,hu2',ru2⟩:=rr'.get hv2
             have w1:its.toArray[j]=u1:=by
              have:its.toArray[j]? =some u1:=by simpa using hu1'
              rw[jy h1]at this
              exact zY this
             have w2:its'.toArray[j]=u2:=by
              have:its'.toArray[j]? =some u2:=by simpa using hu2'
              rw[jy h2]at this
              exact zY this
             rw[w1,w2]
             refine⟨e1,?_,(eD I h n A.in1 hu1 r1 r2 ru1 ru2 he1).2.2⟩
             rw[ja,ja,g1,g2]
             exact he1
            have hr:=OL (e:=λj=>(eqN n G (l.getD j .non) (l'.getD j .non)).getD false) l l' b e λj x y g1 g2=>by
             obtain⟨e1,he1⟩:=wK l l' b e j x y g1 g2
             rw[ja,ja,g1,g2]
             simp only[Option.getD_some]
             rw[he1];rfl
            have he:∀j (h1:j<its.toArray.size) (h2:j<its'.toArray.size),jJ A.in1 s its.toArray[j] its'.toArray[j] ((eqN n G (l.getD j .non) (l'.getD j .non)).getD false):=λj h1 h2=>by
             obtain⟨e1,he1,hh⟩:=items j h1 h2
             rw[he1];exact hh
            rcases k with _|_
            ·
              have hl:l.length=l'.length:=ji λz=>hlen ⟨rfl,z⟩
              have hsz:its.toArray.size=its'.toArray.size:=by rw[len1,len2,hl]
              have z1:=SeqAt.RcAt.lists sq sq' hsz hu0 he
              have z2:=SeqAt.RcNeAt.lists sq sq' hsz hu0 he
              have hr2:b= (jC its.toArray.size).all λj=>(eqN n G (l.getD j .non) (l'.getD j .non)).getD false:=by
               rw[hr,len1,hl];simp
              rw[<-hr2]at z1 z2
              exact⟨z1,z2⟩
            ·
              have z1:=SeqAt.RcAt.tuples sq sq' hu0 he
              have z2:=SeqAt.RcNeAt.tuples sq sq' hu0 he
              rw[len1,len2,<-hr]at z1 z2
              exact⟨z1,z2⟩
        · rw[if_neg hk]at e
          cases e
          cases k<;>cases k'<;>first
           |exact absurd rfl hk
           |exact⟨SeqAt.RcAt.list_tuple sq sq' hu0,SeqAt.RcNeAt.list_tuple sq sq' hu0⟩
           |exact⟨SeqAt.RcAt.tuple_list sq sq' hu0,SeqAt.RcNeAt.tuple_list sq sq' hu0⟩
       refine⟨main.1,main.2,?_⟩
       by_cases ha:a=a'
       · subst ha
         have:b=true:=AL I h (n+1) rx ry rv e0
         rw[this]
         exact Yw _
       ·exact SeqAt.EqAt.of_refs ha main.1
end
section
def eqD:D->D->M D:=λx y G=>match eqN 40 G x y with
 |some b=>some (.ok (.bl b),G)
 |none=>none
def neD:D->D->M D:=λx y G=>match eqN 40 G x y with
 |some b=>some (.ok (.bl (!b)),G)
 |none=>none
theorem aX(hu:X.A.units+64<xk):OpD X Z (zO .Eq) eqD:=⟨by
 intro pins s σ H x y v u Q I rx ry hE0
 refine hE0.elim λdx dy μ G rdx rdy hr p=>?_
 unfold eqD at p
 rcases e:eqN 40 G dx dy with _|b
 ·rw[e]at p;exact p.elim
 ·
   rw[e]at p
   exact(eD I hr 40 X.A (by lia) rdx rdy rx ry e).1 X.prog X.w X.xe _ ⟨.bl b,H,I,rfl,d9.ok p hr _ ofB⟩⟩
theorem OU(hu:X.A.units+64<xk):OpD X Z (zO .NotEq) neD:=⟨by
 intro pins s σ H x y v u Q I rx ry hE0
 refine hE0.elim λdx dy μ G rdx rdy hr p=>?_
 unfold neD at p
 rcases e:eqN 40 G dx dy with _|b
 ·rw[e]at p;exact p.elim
 ·
   rw[e]at p
   exact(eD I hr 40 X.A (by lia) rdx rdy rx ry e).2.1 X.prog X.w X.xe _ ⟨.bl (!b),H,I,rfl,d9.ok p hr _ ofB⟩⟩
def leD:D->D->M D:=λx y=>match x,y with
 | .int i,.int j=>pure (.bl (decide (i<=j)))
 | .str i,.str j=>pure (.bl (!decide (j.cps.toList<i.cps.toList)))
 |_,_=>M.stuck
def gtD:D->D->M D:=λx y=>match x,y with
 | .int i,.int j=>pure (.bl (decide (j<i)))
 | .str i,.str j=>pure (.bl (decide (j.cps.toList<i.cps.toList)))
 |_,_=>M.stuck
def geD:D->D->M D:=λx y=>match x,y with
 | .int i,.int j=>pure (.bl (decide (j<=i)))
 | .str i,.str j=>pure (.bl (!decide (i.cps.toList<j.cps.toList)))
 |_,_=>M.stuck
theorem uJ{op:CmpOp}{fi:Int->Int->Bool}{fs:Str->Str->Bool}(hi:OpR X (zO op) (A8 λi j=>.bl (fi i j)))
 (hs:∀(i j:Str) (t u:Tok) (s:zv) Q E,Q (.bool (fs i j)) s->zw (zE X.prog X.w) X.A (zO op (.str i t) (.str j u)) Q E s)
 (h1:∀i j,o (.int i) (.int j)=pure (.bl (fi i j))) (h2:∀i j,o (.str i) (.str j)=pure (.bl (fs i j)))
 (h3:∀x y,(∀i j,¬(x= .int i/\y= .int j))->(∀i j,¬(x= .str i/\y= .str j))->o x y=M.stuck):OpD X Z (zO op) o:=⟨by
 intro pins s σ H x y v u Q I rx ry hE0
 refine hE0.elim λdx dy μ G rdx rdy hr p=>?_
 by_cases c1:∃i j,dx= .int i/\dy= .int j
 · obtain⟨i,j,rfl,rfl⟩:=c1
   rw[h1]at p
   exact hi pins s σ H x y v u Q I rx ry ⟨i,j,K0 rdx,K0 rdy,d9.ok p hr _ ofB⟩
 · by_cases c2:∃i j,dx= .str i/\dy= .str j
   · obtain⟨i,j,rfl,rfl⟩:=c2
     rw[h2]at p
     have e1:=U1 rdx
     have e2:=U1 rdy
     subst e1 e2
     obtain⟨t,rfl⟩:=rx
     obtain⟨t',rfl⟩:=ry
     exact hs i j t t' s _ _ ⟨.bl (fs i j),H,I,rfl,d9.ok p hr _ ofB⟩
   · rw[h3 dx dy (λi j z=>c1 ⟨i,j,z⟩) (λi j z=>c2 ⟨i,j,z⟩)]at p
     exact p.elim⟩
theorem MS:OpD X Z (zO .LtE) leD:=uJ Gw (λ_ _ _ _ _ _ _ q=>PySem.P.le_str q) (λ_ _=>rfl) (λ_ _=>rfl) λx y n1 n2=>by
 rcases x with _|_|_|_|_|_|_|_<;>rcases y with _|_|_|_|_|_|_|_<;>first
  |rfl
  |exact absurd ⟨rfl,rfl⟩ (n1 _ _)
  |exact absurd ⟨rfl,rfl⟩ (n2 _ _)
theorem dY:OpD X Z (zO .Gt) gtD:=uJ fG6 (λ_ _ _ _ _ _ _ q=>PySem.P.gt_str q) (λ_ _=>rfl) (λ_ _=>rfl) λx y n1 n2=>by
 rcases x with _|_|_|_|_|_|_|_<;>rcases y with _|_|_|_|_|_|_|_<;>first
  |rfl
  |exact absurd ⟨rfl,rfl⟩ (n1 _ _)
  |exact absurd ⟨rfl,rfl⟩ (n2 _ _)
theorem qU:OpD X Z (zO .GtE) geD:=uJ UW (λ_ _ _ _ _ _ _ q=>PySem.P.ge_str q) (λ_ _=>rfl) (λ_ _=>rfl) λx y n1 n2=>by
 rcases x with _|_|_|_|_|_|_|_<;>rcases y with _|_|_|_|_|_|_|_<;>first
  |rfl
  |exact absurd ⟨rfl,rfl⟩ (n1 _ _)
  |exact absurd ⟨rfl,rfl⟩ (n2 _ _)
def vH:D->Bool
 | .non=>true
 |_=>false
theorem RR(r:j5 c μ H d v):decide (v= .non)=vH d:=by
 cases d with
 |non=>rw[iD r];rfl
 |tup l=>unfold j5 at r;obtain⟨a,_,rfl,_⟩:=r;rfl
 |ref l=>unfold j5 at r;obtain⟨a,_,rfl⟩:=r;rfl
 |fn l=>unfold j5 at r;obtain⟨a,_,rfl⟩:=r;rfl
 |_=>unfold j5 at r;subst r;rfl
def CB:D->M D:=λx=>match x with
 | .int i=>pure (.int (-i))
 |_=>M.stuck
theorem cZ:UnD X Z (unaryOp .USub) CB:=⟨by
 intro pins s σ H x v Q I rx hE0
 refine hE0.elim λdx μ G rdx hr p=>?_
 cases dx<;>first
  |exact p.elim
  |exact qg pins s σ H x v Q I rx ⟨_,K0 rdx,d9.ok p hr _ ofI⟩⟩
instance (x:Str) (n:Int):Decidable (YS x n):=by unfold YS;infer_instance
def U2:D->D->M D:=λx y=>match x,y with
 | .int i,.int j=>if P3 i j then pure (.int (i*j))else M.stuck
 | .str x,.int n=>if YS x n then pure (.str (Txt.mul x n))else M.stuck
 |_,_=>M.stuck
theorem UU:OpR X (jH .Mult) (λx y H Q=>∃z n,x= .str z/\y= .int n/\YS z n/\Q (.str (Txt.mul z n)) H):=by
 intro pins s σ H x y v u Q I rx ry h
 obtain⟨z,n,rfl,rfl,hk,q⟩:=h
 obtain⟨t,rfl⟩:=rx
 obtain⟨t',rfl⟩:=ry
 exact PySem.SB.mul hk λt' k=>⟨.str _,H,I.tok _,⟨_,rfl⟩,q⟩
theorem UK:OpD X Z (jH .Mult) U2:=
 OpD.of (OpR.or FW UU) λx y H Q hE0=>hE0.elim λdx dy μ G rdx rdy hr p=>by
  rcases dx with _|_|_|_|_|_|_|_<;>rcases dy with _|_|_|_|_|_|_|_<;>first
   |exact p.elim
   |skip
  · unfold U2 at p
    dsimp only at p
    split at p
    ·rename_i hc;exact .inl ⟨_,_,K0 rdx,K0 rdy,hc,d9.ok p hr _ ofI⟩
    ·exact p.elim
  · unfold U2 at p
    dsimp only at p
    split at p
    ·rename_i hc;exact .inr ⟨_,_,U1 rdx,K0 rdy,hc,d9.ok p hr _ ofS⟩
    ·exact p.elim
end
def CI(A:jr)(s:zv)(y x:zk)(b:Bool):Prop:=
 ∀(prog:zZ) (w:jg) (E:VSP) (Q:VSP),Q (.bool b) s->zw (zE prog w) A (XT .Lt y x) Q E s
inductive LtR(A:jr)(s:zv):List zk->List zk->Bool->Prop
 |nil:LtR A s [] [] false
 |nilc {y ys}:LtR A s [] (y::ys) true
 |cnil {x xs}:LtR A s (x::xs) [] false
 |eq {x y xs ys b}:jJ A s x y true->LtR A s xs ys b->LtR A s (x::xs) (y::ys) b
 |ne {x y xs ys b}:jJ A s x y false->CI A s x y b->LtR A s (x::xs) (y::ys) b
section
open PySem.SeqAt
open PySem.AutoSeq1 (wpAny_loadPart')
open PySem.MeetsSeq PySem.MeetsSeq2 PySem.MeetsSeq3
theorem KU(l b:Addr)(items items2:Array zk)(n n2:Nat)(dd dd2:Option Addr)(sl sl2:Array (Option zk))(k:Bool):
 Meets (yj.«tuple.__lt__» ⟨[.ref l,.ref b], []⟩)
  (λA R s=>s.heap.get? l=some {cls:=.type "tuple",dict:=dd,data:=.seq items n,slots:=sl}/\s.heap.get? b=some {cls:=.type "tuple",dict:=dd2,data:=.seq items2 n2,slots:=sl2}/\
    LtR A.in1 s items.toList items2.toList k/\R (.ok (.ret (.bool k))) s):=
 .of_wp λprog w A R s h=>by
  obtain⟨hp,g,d,tk,os⟩:=s;obtain⟨hl,hb,hk,h⟩:=h
  have f2:=AutoSeq1.sub_tuple_tuple
  wp_walk using js hl,js hb,wpAny_forIn_list _ (λW2 b s'=>b.1=none/\s'= ⟨hp,g,d,tk,os⟩/\∃(vs ws:List zk),W2=vs.zip ws/\
   vs.length+items2.size=ws.length+items.size/\LtR A.in1 ⟨hp,g,d,tk,os⟩ vs ws k) _
  case turn=>
   rintro⟨y,x⟩ W2 b s' ⟨hb',rfl,vs,ws,hz,hlen,hR⟩
   cases hR with
   |nil=>exact cJ hz
   |nilc=>exact cJ hz
   |cnil=>exact cJ hz
   |eq he hR'=>
     rw[Zk]at hz
     injection hz with hyx hrest
     injection hyx with hy hx
     subst hy hx
     refine za (he prog w _ _ ?_)
     wp_walk
     simp only[zT]at hlen
     exact⟨rfl,rfl,_,_,hrest,by lia,hR'⟩
   |ne he hc=>
     rw[Zk]at hz
     injection hz with hyx hrest
     injection hyx with hy hx
     subst hy hx
     refine za (he prog w _ _ ?_)
     have hri:=hc prog w
     wp_walk using hri
     exact⟨_,rfl,h⟩
  case fin=>
   rintro⟨b1,b2⟩ s' ⟨hb',rfl,vs,ws,hz,hlen,hR⟩
   simp only at hb'
   subst hb'
   have hv:k=decide (items.size<items2.size):=by
    cases hR with
    |nil=>simp only[yp]at hlen;exact(decide_eq_false (by lia)).symm
    |nilc=>simp only[yp,zT]at hlen;exact(decide_eq_true (by lia)).symm
    |cnil=>simp only[yp,zT]at hlen;exact(decide_eq_false (by lia)).symm
    |eq _ _=>rw[Zk]at hz;exact SF hz
    |ne _ _=>rw[Zk]at hz;exact SF hz
   rw[hv]at h
   wp_walk
   exact⟨_,rfl,by simpa [Builtin.Tuple.tupleCompareSizes]using h⟩
  case h=>
   exact⟨rfl,rfl,items.toList,items2.toList,rfl,by simp;lia,hk⟩
theorem Mj(l b:Addr)(items items2:Array zk)(n n2:Nat)(dd dd2:Option Addr)(sl sl2:Array (Option zk))(k:Bool):∀vs ws i,items.toList.drop i=vs->items2.toList.drop i=ws->i<=items.size->i<=items2.size->
 Meets (yj.«list.__eq__.loop» ⟨[.ref l,.ref b,Xa i,Xa 0], []⟩)
  (λA R s=>s.heap.get? l=some {cls:=.type "list",dict:=dd,data:=.seq items n,slots:=sl}/\s.heap.get? b=some {cls:=.type "list",dict:=dd2,data:=.seq items2 n2,slots:=sl2}/\
    LtR A.in1 s vs ws k/\R (.ok (.ret (.bool k))) s):=by
 have dropn:∀(a:Array zk) (i:Nat),a.toList.drop i= []->i<=a.size->i=a.size:=λa i e hi=>by
  have:=List.drop_eq_nil_iff.mp e
  simp at this;lia
 have dropc:∀(a:Array zk) (i:Nat) (v:zk) (r:List zk),a.toList.drop i=v::r->i<a.size/\a[((i:Nat):Int).toNat]? =some v/\a.toList.drop (i+1)=r:=λa i v r e=>by
  have hlt:i<a.toList.length:=by
   rcases YK i a.toList.length with q|q
   ·exact q
   ·rw[Ji q]at e;exact SF e
  rw[xu hlt]at e
  injection e with e1 e2
  refine⟨by simpa using hlt,?_,e2⟩
  simp at hlt
  simp[hlt]
  simpa using e1
 intro vs
 induction vs with
 |nil=>
   intro ws i hv hw hi hi2 prog w A R s h
   obtain⟨hp,g,d,tk,os⟩:=s;obtain⟨hl,hb,he,h⟩:=h
   have e1:=dropn items i hv hi
   wp_walk using js hl,js hb
   have hi1:items[((i:Nat):Int).toNat]? =none:=by simp;lia
   rw[hi1]
   rcases ws with _|⟨y,ys⟩
   ·
     have e2:=dropn items2 i hw hi2
     cases he
     wp_walk using js hl,js hb
     show R (.ok (.ret (.bool (decide (items.size<items2.size))))) _
     rw[decide_eq_false (by lia)]
     exact h
   ·
     obtain⟨hlt,_,_⟩:=dropc items2 i y ys hw
     cases he
     wp_walk using js hl,js hb
     show R (.ok (.ret (.bool (decide (items.size<items2.size))))) _
     rw[decide_eq_true (by lia)]
     exact h
 |cons x xs ih=>
   intro ws i hv hw hi hi2 prog w A R s h
   obtain⟨hp,g,d,tk,os⟩:=s;obtain⟨hl,hb,he,h⟩:=h
   obtain⟨hlt,g1,d1⟩:=dropc items i x xs hv
   wp_walk using js hl,js hb
   rcases ws with _|⟨y,ys⟩
   ·
     have e2:=dropn items2 i hw hi2
     have hi2':items2[((i:Nat):Int).toNat]? =none:=by simp;lia
     rw[g1,hi2']
     cases he
     wp_walk using js hl,js hb
     show R (.ok (.ret (.bool (decide (items.size<items2.size))))) _
     rw[decide_eq_false (by lia)]
     exact h
   ·
     obtain⟨hlt2,g2,d2⟩:=dropc items2 i y ys hw
     have hc:((i:Int)+1)= ((i+1:Nat):Int):=by push_cast;rfl
     rw[g1,g2]
     cases he with
     |eq he he'=>
       refine za (he prog w _ _ ?_)
       wp_walk
       rw[hc]
       exact⟨yB plain_eq_loop _,yr entry_eq_loop (by
        rw[jP plain_eq_loop _]
        exact ih ys (i+1) d1 d2 (by lia) (by lia) prog w A R _ ⟨hl,hb,he',h⟩)⟩
     |ne he hcmp=>
       refine za (he prog w _ _ ?_)
       have hri:=hcmp prog w
       wp_walk using js hl,js hb
       rw[g1,g2]
       wp_walk using hri
       exact h
theorem Dz(l b:Addr)(items items2:Array zk)(n n2:Nat)(dd dd2:Option Addr)(sl sl2:Array (Option zk))(k:Bool):
 Meets (yj.«list.__lt__» ⟨[.ref l,.ref b], []⟩)
  (λA R s=>s.heap.get? l=some {cls:=.type "list",dict:=dd,data:=.seq items n,slots:=sl}/\s.heap.get? b=some {cls:=.type "list",dict:=dd2,data:=.seq items2 n2,slots:=sl2}/\
    LtR A.in1 s items.toList items2.toList k/\R (.ok (.ret (.bool k))) s):=by
 intro prog w A R s h
 obtain⟨hp,g,d,tk,os⟩:=s;obtain⟨hl,hb,he,h⟩:=h
 have f3:=AutoSeq1.sub_list_list
 wp_walk using js hl,js hb
 exact⟨yB plain_eq_loop _,yr entry_eq_loop (by
  rw[jP plain_eq_loop _]
  exact Mj l b items items2 n n2 dd dd2 sl sl2 k items.toList items2.toList 0 rfl rfl (zQ _) (zQ _) prog w A R _ ⟨hl,hb,he,h⟩)⟩
end
def ltS:D->D->Option Bool
 | .int a,.int b=>some (decide (a<b))
 | .str a,.str b=>some (decide (a.cps.toList<b.cps.toList))
 | .bl a,.bl b=>some (decide (b2i a<b2i b))
 |_,_=>none
def ltL(eq lt:D->D->Option Bool):List D->List D->Option Bool
 |[], []=>some false
 |[],_::_=>some true
 |_::_, []=>some false
 |x::xs,y::ys=>match eq x y with
   |some true=>ltL eq lt xs ys
   |some false=>lt x y
   |none=>none
def ltN:Nat->DH->D->D->Option Bool
 |0,_,_,_=>none
 |n+1,G,x,y=>match N0 G x,N0 G y with
   |some (k1,a),some (k2,b)=>if k1=k2 then ltL (eqN n G) (ltN n G) a b else none
   |none,none=>ltS x y
   |_,_=>none
theorem Fz:ltN (n+1) G x y=match N0 G x,N0 G y with
 |some (k1,a),some (k2,b)=>if k1=k2 then ltL (eqN n G) (ltN n G) a b else none
 |none,none=>ltS x y
 |_,_=>none:=rfl
section
theorem Gk(rx:j5 c μ H dx x)(ry:j5 c μ H dy y)(rv:J9 x v)(ru:J9 y u)(e:ltS dx dy=some b):CI A s v u b:=by
 intro prog w E Q hq
 rcases dx with _|_|_|_|_|_|_|_<;>rcases dy with _|_|_|_|_|_|_|_<;>first
  |(cases e;done)
  |skip
 · cases e
   unfold j5 at rx ry;subst rx ry;cases rv;cases ru
   exact(lt_bool hq:zw (zE prog w) A (zO .Lt _ _) Q E s)
 · cases e
   unfold j5 at rx ry;subst rx ry;obtain⟨t,rfl⟩:=rv;obtain⟨t',rfl⟩:=ru
   exact(lt_int hq:zw (zE prog w) A (zO .Lt _ _) Q E s)
 · cases e
   unfold j5 at rx ry;subst rx ry;obtain⟨t,rfl⟩:=rv;obtain⟨t',rfl⟩:=ru
   exact(lt_str hq:zw (zE prog w) A (zO .Lt _ _) Q E s)
theorem lt_at(I:Inv X pins σ H s)(h:v8 (wc X) μ G H):∀n A,A.units+n<xk->∀ {dx dy} {x y} {v u} {b},j5 (wc X) μ H dx x->j5 (wc X) μ H dy y->J9 x v->J9 y u->ltN n G dx dy=some b->CI A s v u b
 |0,_,_,_,_,_,_,_,_,_,_,_,_,_,e=>by exact J7 e
 |n+1,A,hu,dx,dy,x,y,v,u,b,rx,ry,rv,ru,e=>by
   have hu0:A.units<xk:=by lia
   have hu1:A.in1.units+n<xk:=by show A.units+1+n<xk;lia
   rw[Fz]at e
   rcases hx:N0 G dx with _|p
   ·
     rw[hx]at e
     rcases hy:N0 G dy with _|p
     ·rw[hy]at e;exact Gk rx ry rv ru e
     ·rw[hy]at e;exact J7 e
   ·
     obtain⟨k,l⟩:=p
     rw[hx]at e
     rcases hy:N0 G dy with _|p'
     ·rw[hy]at e;exact J7 e
     ·
       obtain⟨k',l'⟩:=p'
       rw[hy]at e
       dsimp only at e
       split at e
       case isFalse=>exact J7 e
       rename_i hk
       subst hk
       obtain⟨a,vs,its,rfl,rfl,rl,rr,sq,q⟩:=a9 I h hx rx rv
       obtain⟨a',vs',its',rfl,rfl,rl',rr',sq',q'⟩:=a9 I h hy ry ru
       have main:∀(l l':List D) (vs vs':List V) (its its':List zk),t6 (wc X) μ H l vs->t6 (wc X) μ H l' vs'->v6 vs its->v6 vs' its'->ltL (eqN n G) (ltN n G) l l'=some b->LtR A.in1 s its its' b:=by
        intro l
        induction l with
        |nil=>
          intro l' vs vs' its its' r r' q q' e
          cases r;cases q
          rcases l' with _|⟨_,_⟩
          ·cases r';cases q';cases e;exact .nil
          ·
            obtain⟨_,_,rfl,_,_⟩:=r'
            cases q'
            cases e
            exact .nilc
        |cons d ds ih=>
          intro l' vs vs' its its' r r' q q' e
          obtain⟨v0,vr,rfl,r0,rt⟩:=r
          cases q with
          |cons q0 qt=>
            rcases l' with _|⟨d',ds'⟩
            ·cases r';cases q';cases e;exact .cnil
            ·
              obtain⟨v1,vr',rfl,r1,rt'⟩:=r'
              cases q' with
              |cons q1 qt'=>
                unfold ltL at e
                rcases he:eqN n G d d' with _|b0
                ·rw[he]at e;exact J7 e
                ·
                  rw[he]at e
                  have hE:=(eD I h n A.in1 hu1 r0 r1 q0 q1 he).2.2
                  rcases b0 with _|_
                  ·exact .ne hE (lt_at I h n A.in1 hu1 r0 r1 q0 q1 e)
                  ·exact .eq hE (ih ds' vr vr' _ _ rt rt' qt qt' e)
       have hR:=main l l' vs vs' its its' rl rl' rr rr' e
       intro prog w E Q hq
       rcases k with _|_
       ·
         obtain⟨⟨cls,dd,data,sl⟩,ho,hc,m,hd⟩:=id sq
         obtain⟨⟨cls2,dd2,data2,sl2⟩,ho2,hc2,m2,hd2⟩:=id sq'
         simp only at hc hd hc2 hd2
         subst hc hd hc2 hd2
         exact richCompare_meets_room ⟨_,ho,rfl⟩ ⟨_,ho2,rfl⟩ PySem.F.slot_list_lt PySem.F.entry_list_lt (PySem.F.args_list_lt_2 _ _) (Dz a a' its.toArray its'.toArray m m2 dd dd2 sl sl2 b)
          ⟨ho,ho2,hR,show Value.bool b≠Value.notImplemented/\Q (.bool b) s from⟨(λx=>nomatch x),hq⟩⟩ hu0
       ·
         obtain⟨⟨cls,dd,data,sl⟩,ho,hc,m,hd⟩:=id sq
         obtain⟨⟨cls2,dd2,data2,sl2⟩,ho2,hc2,m2,hd2⟩:=id sq'
         simp only at hc hd hc2 hd2
         subst hc hd hc2 hd2
         exact richCompare_meets_room ⟨_,ho,rfl⟩ ⟨_,ho2,rfl⟩ PySem.F.slot_tuple_lt PySem.F.entry_tuple_lt (PySem.F.args_tuple_lt_2 _ _) (KU a a' its.toArray its'.toArray m m2 dd dd2 sl sl2 b)
          ⟨ho,ho2,hR,show Value.bool b≠Value.notImplemented/\Q (.bool b) s from⟨(λx=>nomatch x),hq⟩⟩ hu0
def ltD:D->D->M D:=λx y G=>match ltN 40 G x y with
 |some b=>some (.ok (.bl b),G)
 |none=>none
theorem CU(hu:X.A.units+64<xk):OpD X Z (zO .Lt) ltD:=⟨by
 intro pins s σ H x y v u Q I rx ry hE0
 refine hE0.elim λdx dy μ G rdx rdy hr p=>?_
 unfold ltD at p
 rcases e:ltN 40 G dx dy with _|b
 ·rw[e]at p;exact p.elim
 ·
   rw[e]at p
   exact lt_at I hr 40 X.A (by lia) rdx rdy rx ry e X.prog X.w X.xe _ ⟨.bl b,H,I,rfl,d9.ok p hr _ ofB⟩⟩
end
def d4:D->Bool
 | .non=>true
 | .bl _=>true
 | .int _=>true
 | .str _=>true
 |_=>false
def toV:D->V
 | .bl b=>.bl b
 | .int i=>.int i
 | .str x=>.str x
 |_=>.non
def d6:D->Option Key
 | .int i=>some (.inl i)
 | .str x=>some (.inr x)
 |_=>none
def u3(l:List (Key×D))(k:Key):Option D:=(l.find? λkv=>decide (kv.1=k)).map (·.2)
def inB(x y:D)(G:DH):Option Bool:=match y with
 | .str j=>match x with
   | .str i=>some (!(Zg j i 0 j.length 1).isEmpty)
   |_=>none
 | .ref r=>match G[r]? with
   |some (.dct l)=>(d6 x).map λk=>(u3 l k).isSome
   |some (.rod _)=>none
   |some (.lst l)=>if d4 x&&l.all d4 then some (inV (toV x) (l.map toV))else none
   |some (.rol l)=>if d4 x&&l.all d4 then some (inV (toV x) (l.map toV))else none
   |none=>none
 | .tup l=>if d4 x&&l.all d4 then some (inV (toV x) (l.map toV))else none
 |_=>none
def inD:D->D->M D:=λx y G=>match inB x y G with
 |some b=>some (.ok (.bl b),G)
 |none=>none
def D9:D->D->M D:=λx y G=>match inB x y G with
 |some b=>some (.ok (.bl (!b)),G)
 |none=>none
section
theorem aR(f:d4 d=true)(r:j5 c μ H d v):v=toV d/\B7 v=true:=by
 cases d<;>first
  |exact absurd (show false=true from f) jc
  |(unfold j5 at r;subst r;exact⟨rfl,rfl⟩)
theorem VP:∀ {l} {vs},l.all d4=true->t6 c μ H l vs->vs=l.map toV/\vs.all B7=true
 |[],_,_,r=>by cases r;exact⟨rfl,rfl⟩
 |d::ds,_,f,r=>by
   obtain⟨v,t,rfl,q,rt⟩:=r
   rw[jX,jp]at f
   obtain⟨e1,e2⟩:=aR f.1 q
   obtain⟨e3,e4⟩:=VP f.2 rt
   refine⟨by rw[zU,<-e1,<-e3],?_⟩
   rw[jX,e2,e4];rfl
theorem VJ(e:d6 d=some k)(r:j5 c μ H d v):v=kV k:=by
 cases d<;>first
  |(cases e;unfold j5 at r;exact r)
  |exact J7 e
theorem lK:∀ {l} {kvs},z0 c μ H l kvs->match u3 l k with|some d=>∃v,C3 kvs k=some v/\j5 c μ H d v|none=>C3 kvs k=none
 |[],_,r=>by cases r;exact rfl
 |(k',d)::t,_,r=>by
  obtain⟨v,kt,rfl,q,rt⟩:=r
  by_cases e:k'=k
  · have h1:u3 ((k',d)::t) k=some d:=by unfold u3;simp[e]
    rw[h1]
    exact⟨v,WE e,q⟩
  · have h1:u3 ((k',d)::t) k=u3 t k:=by unfold u3;simp[e]
    rw[h1]
    have ih:=lK (k:=k) rt
    rw[UF e]
    exact ih
theorem VX(r:z0 c μ H l kvs):(u3 l k).isSome= (C3 kvs k).isSome:=by
 have q:=lK (k:=k) r
 rcases e:u3 l k with _|d
 ·rw[e]at q;rw[q];rfl
 ·rw[e]at q;obtain⟨v,q,_⟩:=q;rw[q];rfl
theorem in_at(hu:X.A.units+64<xk)(I:Inv X pins σ H s)(hr:v8 (wc X) μ G H)(rdx:j5 (wc X) μ H dx x)(rdy:j5 (wc X) μ H dy y)(rx:J9 x v)(ry:J9 y u)
 (e:inB dx dy G=some b):
 (Q (.bl b) H->zw (zE X.prog X.w) X.A (zO .In v u) (EP X pins σ Q) X.xe s)/\(Q (.bl (!b)) H->zw (zE X.prog X.w) X.A (zO .NotIn v u) (EP X pins σ Q) X.xe s):=by
 have seq:∀(p:Addr) (l:List D) (vs:List V),y= .ref p->(SqL X.K H p vs\/SqT X.K H p vs)->t6 (wc X) μ H l vs->(if (d4 dx&&l.all d4)=true then some (inV (toV dx) (l.map toV))else none)=some b->
  (Q (.bl b) H->zw (zE X.prog X.w) X.A (zO .In v u) (EP X pins σ Q) X.xe s)/\(Q (.bl (!b)) H->zw (zE X.prog X.w) X.A (zO .NotIn v u) (EP X pins σ Q) X.xe s):=by
  intro p l vs hy hq rl e
  split at e
  · rename_i hf
    rw[jp]at hf
    cases e
    obtain⟨e1,e2⟩:=aR hf.1 rdx
    obtain⟨e3,e4⟩:=VP hf.2 rl
    rw[<-e1,<-e3]
    exact⟨λq=>Cz pins s σ H x y v u Q I rx ry ⟨p,vs,hy,hq,e2,e4,q⟩,λq=>Qc pins s σ H x y v u Q I rx ry ⟨p,vs,hy,hq,e2,e4,q⟩⟩
  ·exact J7 e
 rcases dy with _|_|_|j|l|i|_|_<;>try (cases e;done)
 ·
   rcases dx with _|_|_|i|_|_|_|_<;>try (cases e;done)
   ·
     cases e
     have e1:=U1 rdx
     have e2:=U1 rdy
     exact⟨λq=>Hc pins s σ H x y v u Q I rx ry ⟨i,j,e1,e2,q⟩,λq=>CZ pins s σ H x y v u Q I rx ry ⟨i,j,e1,e2,q⟩⟩
 ·
   unfold j5 at rdy
   obtain⟨a,vs,hy,q,rl⟩:=rdy
   exact seq a l vs hy (.inr q) rl e
 ·
   unfold j5 at rdy
   obtain⟨a,m,hy⟩:=rdy
   rcases g:G[i]? with _|o
   ·unfold inB at e;simp only[g]at e;exact J7 e
   ·
     have ro:=hr.obj i o a g m
     rcases o with l|l|l|l
     ·
       obtain⟨vs,q,rl⟩:=ro
       unfold inB at e;simp only[g]at e
       exact seq a l vs hy (.inl (SqL.of q)) rl e
     ·
       obtain⟨vs,q,rl⟩:=ro
       unfold inB at e;simp only[g]at e
       exact seq a l vs hy (.inl q.sq) rl e
     ·
       obtain⟨kvs,q,rk⟩:=ro
       unfold inB at e;simp only[g]at e
       rcases hk:d6 dx with _|k
       ·rw[hk]at e;exact J7 e
       ·
         rw[hk]at e
         cases e
         have ek:=VJ hk rdx
         have dg:OB H a x (C3 kvs k):=by rw[ek];exact OB.k q
         subst hy
         cases ry
         dsimp only
         rw[VX rk]
         exact⟨λq=>iV (by lia) I dg rx λs' I'=>⟨.bl _,H,I',rfl,q⟩,λq=>GT (by lia) I dg rx λs' I'=>⟨.bl _,H,I',rfl,q⟩⟩
     ·unfold inB at e;simp only[g]at e;exact J7 e
theorem wY(hu:X.A.units+64<xk):OpD X Z (zO .In) inD:=⟨by
 intro pins s σ H x y v u Q I rx ry hE0
 refine hE0.elim λdx dy μ G rdx rdy hr p=>?_
 unfold inD at p
 rcases e:inB dx dy G with _|b
 ·rw[e]at p;exact p.elim
 ·rw[e]at p;exact(in_at hu I hr rdx rdy rx ry e).1 (d9.ok p hr _ ofB)⟩
theorem OV(hu:X.A.units+64<xk):OpD X Z (zO .NotIn) D9:=⟨by
 intro pins s σ H x y v u Q I rx ry hE0
 refine hE0.elim λdx dy μ G rdx rdy hr p=>?_
 unfold D9 at p
 rcases e:inB dx dy G with _|b
 ·rw[e]at p;exact p.elim
 ·rw[e]at p;exact(in_at hu I hr rdx rdy rx ry e).2 (d9.ok p hr _ ofB)⟩
inductive Ty where
 |int|bool|str|tuple|list|dict
 deriving DecidableEq
def Ty.name:Ty->String
 | .int=> "int"| .bool=> "bool"| .str=> "str"| .tuple=> "tuple"| .list=> "list"| .dict=> "dict"
def Ty.of(n:String):Option Ty:=if n= "int" then some .int else if n= "bool" then some .bool else if n= "str" then some .str else if n= "tuple" then some .tuple else if n= "list" then some .list else if n= "dict" then some .dict else none
theorem Ty.of_name{n:String}{T:Ty}(h:Ty.of n=some T):n=T.name:=by
 unfold Ty.of at h
 split at h
 ·rename_i e;cases h;exact e
 split at h
 ·rename_i e;cases h;exact e
 split at h
 ·rename_i e;cases h;exact e
 split at h
 ·rename_i e;cases h;exact e
 split at h
 ·rename_i e;cases h;exact e
 split at h
 ·rename_i e;cases h;exact e
 ·exact J7 h
inductive Kd where
 |non|bool|int|str|tuple|list|dict
def Kd.is:Kd->Ty->Bool
 | .bool,.int=>true
 | .bool,.bool=>true
 | .int,.int=>true
 | .str,.str=>true
 | .tuple,.tuple=>true
 | .list,.list=>true
 | .dict,.dict=>true
 |_,_=>false
def Kd.name:Kd->String
 | .non=> "NoneType"| .bool=> "bool"| .int=> "int"| .str=> "str"| .tuple=> "tuple"| .list=> "list"| .dict=> "dict"
def dB(G:DH):D->Option Kd
 | .non=>some .non
 | .bl _=>some .bool
 | .int _=>some .int
 | .str _=>some .str
 | .tup _=>some .tuple
 | .ref i=>match G[i]? with
   |some (.lst _)=>some .list
   |some (.rol _)=>some .list
   |some (.dct _)=>some .dict
   |some (.rod _)=>some .dict
   |none=>none
 |_=>none
def oB:List D->Option (List Ty)
 |[]=>some []
 | .ty n::r=>match Ty.of n,oB r with
   |some T,some Ts=>some (T::Ts)
   |_,_=>none
 |_=>none
def Q0:List D->M D:=λds G=>match ds with
 |[d,.ty n]=>match dB G d,Ty.of n with
   |some k,some T=>some (.ok (.bl (k.is T)),G)
   |_,_=>none
 |[d,.tup l]=>match dB G d,oB l with
   |some k,some Ts=>some (.ok (.bl (Ts.any k.is)),G)
   |_,_=>none
 |_=>none
theorem Gz(K:zh)(k:Kd)(T:Ty):PySem.W.kitOne K (.type k.name) (.type T.name)=some (k.is T):=by
 cases k<;>cases T<;>rfl
theorem VL{A:jr}{E:VSP}{pins:PNS}{σ:St}{s:zv}{d:D}{x:V}{v:zk}{k:Kd}(I:Inv X pins σ H s)(hr:v8 (wc X) μ G H)(r:j5 (wc X) μ H d x)(rv:J9 x v)(e:dB G d=some k):
 ∃HH:Heap->Prop,PySem.W.KitX X.K v (.type k.name) HH/\HH s.heap/\v≠ .builtin "__main__.__loader__#opaque":=by
 rcases d with _|b|b|b|l|i|_|_<;>try (cases e;done)
 ·cases e;unfold j5 at r;subst r;cases rv;exact⟨_,PySem.W.kitx_none,True.intro,λz=>nomatch z⟩
 ·cases e;unfold j5 at r;subst r;cases rv;exact⟨_,PySem.W.kitx_bool,True.intro,λz=>nomatch z⟩
 ·cases e;unfold j5 at r;subst r;obtain⟨t,rfl⟩:=rv;exact⟨_,PySem.W.kitx_int,True.intro,λz=>nomatch z⟩
 ·cases e;unfold j5 at r;subst r;obtain⟨t,rfl⟩:=rv;exact⟨_,PySem.W.kitx_str,True.intro,λz=>nomatch z⟩
 ·
   cases e
   unfold j5 at r
   obtain⟨a,vs,rfl,q,_⟩:=r
   cases rv
   obtain⟨its,_,⟨o,h1,h2,_⟩,_⟩:=I.tuple q
   exact⟨_,PySem.W.kitx_tuple,⟨o,h1,h2⟩,λz=>nomatch z⟩
 ·
   unfold j5 at r
   obtain⟨a,m,rfl⟩:=r
   cases rv
   unfold dB at e
   rcases g:G[i]? with _|o
   ·simp only[g]at e;exact J7 e
   ·
     have ro:=hr.obj i o a g m
     simp only[g]at e
     rcases o with l|l|l|l
     ·
       cases e
       obtain⟨vs,q,_⟩:=ro
       obtain⟨its,_,⟨o,n,h1,h2,_⟩,_⟩:=I.list (SqL.of q)
       exact⟨_,JA,⟨o,h1,h2⟩,λz=>nomatch z⟩
     ·
       cases e
       obtain⟨vs,q,_⟩:=ro
       obtain⟨its,_,⟨o,n,h1,h2,_⟩,_⟩:=I.list q.sq
       exact⟨_,JA,⟨o,h1,h2⟩,λz=>nomatch z⟩
     ·
       cases e
       obtain⟨kvs,q,_⟩:=ro
       obtain⟨_,_,vs,_,o,es,ep,h1,h2,_⟩:=(show T4 X.prog X.w H s.heap a (.dK kvs)from I.hok a _ q)
       exact⟨_,JB,⟨o,h1,h2.1⟩,λz=>nomatch z⟩
     ·
       cases e
       obtain⟨kvs,ob,q,_⟩:=ro
       obtain⟨_,_,_,vs,_,o,es,ep,h1,h2,_⟩:=(show T4 X.prog X.w H s.heap a (.frz ob (.dK kvs))from I.hok a _ q)
       exact⟨_,JB,⟨o,h1,h2.1⟩,λz=>nomatch z⟩
theorem dO:∀ {l:List D} {vs:List V} {us:List zk} {Ts:List Ty},oB l=some Ts->t6 c μ H l vs->v6 vs us->us=Ts.map λT=>.type T.name
 |[],_,_,_,e,r,q=>by cases e;cases r;cases q;rfl
 |d::ds,_,_,Ts,e,r,q=>by
   obtain⟨v,t,rfl,r0,rt⟩:=r
   cases q with
   |cons q0 qt=>
     rcases d with _|_|_|_|_|_|_|n<;>try (cases e;done)
     ·
       replace e:(match Ty.of n,oB ds with|some T,some Ts=>some (T::Ts)|_,_=>none)=some Ts:=e
       rcases h1:Ty.of n with _|T
       ·rw[h1]at e;exact J7 e
       ·
         rcases h2:oB ds with _|Ts'
         ·rw[h1,h2]at e;exact J7 e
         ·
           rw[h1,h2]at e
           cases e
           unfold j5 at r0
           subst r0
           rw[dO h2 rt qt,zU,show _=Value.type n from q0,Ty.of_name h1]
theorem QN(K:zh)(k:Kd):∀Ts:List Ty,PySem.W.kitAny K (.type k.name) (Ts.map λT=>.type T.name)=some (Ts.any k.is)
 |[]=>rfl
 |T::Ts=>by
   have ih:=QN K k Ts
   cases k<;>cases T<;>first
    |rfl
    |exact ih
theorem VZ:X4 X Z (.builtin "isinstance") Q0:=⟨by
 intro pins s σ H xs us Q I r hE0
 obtain⟨ds,μ,G,rl,hr,p⟩:=hE0
 rcases ds with _|⟨d,_|⟨_|_|_|_|l|_|_|n,_|⟨_,_⟩⟩⟩<;>try exact p.elim
 all_goals (delta Q0 at p;dsimp only at p)
 · obtain⟨v,t,rfl,r0,v1,t1,rfl,r1,e⟩:=rl
   cases e
   obtain⟨u,u',rfl,ru,ru'⟩:=QE r
   unfold j5 at r1
   obtain⟨a,vs,rfl,q,rll⟩:=r1
   cases ru'
   rcases hk:dB G d with _|k
   ·rw[hk]at p;exact p.elim
   ·
     rcases hT:oB l with _|Ts
     ·rw[hk,hT]at p;exact p.elim
     ·
       rw[hk,hT]at p
       obtain⟨HH,kx,hh,hne⟩:=VL (A:=X.A) (E:=X.xe) I hr r0 ru hk
       obtain⟨its,rr,⟨⟨cls,dd,data,sl⟩,h1,h2,n,h3⟩,_⟩:=I.tuple q
       simp only at h2 h3
       subst h2 h3
       exact PySem.W.kia_tup kx I.kIn hh h1 (by rw[dO hT rll rr];exact QN X.K k Ts) hne λtk=>⟨.bl _,H,I.tok tk,rfl,d9.ok p hr _ ofB⟩
 · obtain⟨v,t,rfl,r0,v1,t1,rfl,r1,e⟩:=rl
   cases e
   obtain⟨u,u',rfl,ru,ru'⟩:=QE r
   unfold j5 at r1
   subst r1
   cases ru'
   rcases hk:dB G d with _|k
   ·rw[hk]at p;exact p.elim
   ·
     rcases hT:Ty.of n with _|T
     ·rw[hk,hT]at p;exact p.elim
     ·
       rw[hk,hT]at p
       rw[Ty.of_name hT]
       obtain⟨HH,kx,hh,hne⟩:=VL (A:=X.A) (E:=X.xe) I hr r0 ru hk
       exact PySem.W.kia_one kx I.kIn hh (Gz X.K k T) hne λtk=>⟨.bl _,H,I.tok tk,rfl,d9.ok p hr _ ofB⟩⟩
end
theorem qN{c:Wc}{μ:List Addr}{H:Hp}{l:List D}{vs:List V}{i:Int}{d:D}(r:t6 c μ H l vs)(e:atI l i=some d):∃v,atI vs i=some v/\j5 c μ H d v:=by
 unfold atI at e ⊢
 rw[<-r.length]
 cases h:ixN l.length i with
 |none=>rw[h]at e;cases e
 |some j=>
   rw[h]at e
   obtain⟨v,h1,h2⟩:=r.get e
   exact⟨v,h1,h2⟩
def ixD:D->D->M D:=λx y=>match x,y with
 | .tup l,.int i=>M0 (atI l i)
 | .str z,.int i=>if z.length<=zo then do
    let c <-M0 (atI z.cps.toList i)
    pure (.str ⟨#[c]⟩)
   else M.stuck
 | .ref r,.int i=>do
   let l <-O5 r >>= listOf
   M0 (atI l i)
 |_,_=>M.stuck
section
variable{X:Cx}{Z:XC}{a b e:Expr}{fa fb:Fe}{pos:Pos}
def IxD(X:Cx)(Z:XC)(o:D->D->M D):Prop:=IxR X (n9 (wc X) Z o)
theorem iQ{o:D->D->M D}(ho:IxD X Z o)(ha:DE X Z a fa)(hb:DE X Z b fb)(hs:fF b):DE X Z (.Subscript a b pos) (c7 o fa fb):=DE.of (vj ho ha.h hb.h hs) FE
theorem RI{c:Wc}{μ:List Addr}{H:Hp}{G:DH}{r:Option D}{K:D->List Addr->DH->Hp->Prop}(h:v8 c μ G H)(p:d9 c Z μ H (M0 r G) K):∃d,r=some d/\K d μ G H:=by
 cases r with
 |none=>exact p.elim
 |some d=>exact⟨d,rfl,d9.ok p h⟩
theorem BR:IxD X Z ixD:=IxR.mono (Hk.or (ix_tup.or GS)) λx y H Q hE0=>hE0.elim λdx dy μ G rx ry hr p=>by
 rcases dx with _|_|_|_|_|_|_|_<;>rcases dy with _|_|_|_|_|_|_|_<;>first
  |exact p.elim
  |skip
 · rename_i z i
   refine .inr (.inr ?_)
   unfold ixD at p
   dsimp only at p
   split at p
   · rename_i hz
     obtain⟨c,ec,p2⟩:=U4 p
     exact⟨z,i,c,U1 rx,K0 ry,hz,ec,d9.ok p2 hr _ ofS⟩
   ·exact p.elim
 · rename_i l i
   refine .inr (.inl ?_)
   unfold j5 at rx
   obtain⟨a,vs,rfl,q,rl⟩:=rx
   obtain⟨d,ed,k⟩:=RI hr p
   obtain⟨v,ev,rv⟩:=qN rl ed
   exact⟨a,vs,i,v,rfl,K0 ry,q,ev,k v rv⟩
 · rename_i r i
   refine .inl ?_
   obtain⟨l,a,vs,rfl,rl,p2,hq⟩:=OG hr rx p
   obtain⟨d,ed,k⟩:=RI hr p2
   obtain⟨v,ev,rv⟩:=qN rl ed
   rcases hq with⟨z,_⟩|⟨_,_,_,⟨_,q⟩|⟨_,q⟩⟩
   ·cases z
   ·exact⟨a,vs,i,v,rfl,K0 ry,SqL.of q,ev,k v rv⟩
   ·exact⟨a,vs,i,v,rfl,K0 ry,q.sq,ev,k v rv⟩
theorem Rj(ha:DE X Z a fa)(hb:DE X Z b fb)(hs:fF b):DE X Z (.Subscript a b pos) (c7 ixD fa fb):=iQ BR ha hb hs
def cutD(xs:List D)(lo hi:Option Int):List D:=(xs.drop (HT.sIx xs.length 0 lo)).take (HT.sIx xs.length xs.length hi-HT.sIx xs.length 0 lo)
abbrev Fo:=DSt->M (Option Int)
def y6:Fo:=λ_=>pure none
def N2(f:Fe):Fo:=λσ=>do
 match <-f σ with
 | .int i=>pure (some i)
 |_=>M.stuck
def aG(c:Wc)(Z:XC)(f:Fo):TO:=λσ H Q=>∃X9 μ G,K7 c μ H X9 σ/\v8 c μ G H/\d9 c Z μ H (f X9 G) λo _ _ H'=>Q o H'
theorem aG.elim{c:Wc}{Z:XC}{P:Prop}{f:Fo}{σ:St}{H:Hp}{Q:Option Int->Hp->Prop}(h:aG c Z f σ H Q)(k:∀X9 μ G,K7 c μ H X9 σ->v8 c μ G H->d9 c Z μ H (f X9 G) (λo _ _ H'=>Q o H')->P):P:=by
 obtain⟨e0,e1,e2,e3,e4,e5⟩:=h
 exact k e0 e1 e2 e3 e4 e5
structure DOp(X:Cx)(Z:XC)(e:Option Expr)(f:Fo):Prop where
 h:PO X e (aG (wc X) Z f)
theorem PO.mono{e:Option Expr}{t t':TO}(h:PO X e t)(k:∀ σ H Q,t' σ H Q->t σ H Q):PO X e t':=λpins s σ H Q I q=>h pins s σ H Q I (k σ H Q q)
theorem DOp.of{e:Option Expr}{f:Fo}{t:TO}(h:PO X e t)(k:∀ σ H Q,aG (wc X) Z f σ H Q->t σ H Q):DOp X Z e f:=⟨PO.mono h k⟩
theorem eL8:DOp X Z none y6:=DOp.of rS λσ H Q hE0=>hE0.elim λX9 μ G s h p=>d9.ok p h
theorem MZ(h:DE X Z e fa):DOp X Z (some e) (N2 fa):=DOp.of (eK8 h.h) λσ H Q hE0=>hE0.elim λX9 μ G s h p=>⟨X9,μ,G,s,h,(d9.bind p).mono λd X0 G1 H1 x1 h1 p1 v rv=>by
 cases d with
 |int i=>exact⟨i,K0 rv,d9.ok p1 h1⟩
 |_=>exact p1.elim⟩
def slD:D->Option Int->Option Int->M D:=λx lo hi=>match x with
 | .tup l=>pure (.tup (cutD l lo hi))
 | .ref r=>do
   let l <-O5 r >>= listOf
   M6 (.lst (cutD l lo hi))
 |_=>M.stuck
def SlD(X:Cx)(Z:XC)(o:D->Option Int->Option Int->M D):Prop:=
 SlR X λx lo hi H Q=>∃dx μ G,j5 (wc X) μ H dx x/\v8 (wc X) μ G H/\d9 (wc X) Z μ H (o dx lo hi G) λd X2 _ H'=>∀v,j5 (wc X) X2 H' d v->Q v H'
theorem SlR.mono{r r':V->Option Int->Option Int->Hp->VK->Prop}(h:SlR X r)(k:∀x lo hi H Q,r' x lo hi H Q->r x lo hi H Q):SlR X r':=λpins s σ H x v vl vu lo hi sl Q I rx hs pl pu q=>h pins s σ H x v vl vu lo hi sl Q I rx hs pl pu (k x lo hi H Q q)
theorem MU{prog:zZ}{w:jg}{A:jr}{E:VSP}{s:zv}{t sl:Addr}{items:Array zk}{vl vu:zk}{lo hi:Option Int}{Q:VSP}(ht:Yn s.heap t items)(hs:s.heap.IsSliceOf sl vl vu .none)(pl:IsPart vl lo)(pu:IsPart vu hi)
 (hw:HT.sIx items.size 0 lo=0/\HT.sIx items.size items.size hi=items.size) (h:Q (.ref t) s):zw (zE prog w) A (Xl (.ref t) (.ref sl)) Q E s:=by
 obtain⟨os,hos,hcs,hds⟩:=id hs
 have hTs:s.TypeIs (.ref sl) "slice":=⟨os,hos,hcs⟩
 unfold Xl
 try with_reducible refine jI ?_
 first|refine za (zp ?_)|skip
 refine za (wpAny_sequenceKey ht.typeIs (by decide) ?_)
 refine za (jV ht.typeIs jv
  (jE jv ht.typeIs entry_tuple_getitem ?_ (args_tuple_getitem _ _)))
 show zw _ _ (Yr (.ref t) >>= _) _ _ s
 refine za (tupleItemsOf_ ht ?_)
 refine za (xP hTs ?_)
 rw[if_pos (by decide)]
 refine za (HT.sliceApplied_gen hs pl pu ?_)
 have hyes:(((HT.sIx items.size 0 lo:Nat):Int)==0&&(1:Int)==1&&(HT.sIx items.size items.size hi-HT.sIx items.size 0 lo)==items.size)=true:=by
  rw[hw.1,hw.2];simp
 show zw _ _ (if (((HT.sIx items.size 0 lo:Nat):Int)==0&&(1:Int)==1&&(HT.sIx items.size items.size hi-HT.sIx items.size 0 lo)==items.size)=true then _ else _) _ _ s
 rw[if_pos hyes]
 unfold Builtin.Tuple.tupleIsExact
 refine za (za (xP ht.typeIs (zp ?_)))
 rw[if_pos (by decide)]
 exact za (Zs (zp ⟨_,rfl,zp h⟩))
def Sf(K:zh):V->Option Int->Option Int->Hp->VK->Prop:=λx lo hi H Q=>∃a xs,x= .ref a/\SqT K H a xs/\(HT.sIx xs.length 0 lo=0/\HT.sIx xs.length xs.length hi=xs.length)/\Q (.ref a) H
theorem qW:SlR X (Sf X.K):=by
 intro pins s σ H x v vl vu lo hi sl Q I rx hs pl pu h
 obtain⟨a,xs,rfl,hx,hw,q⟩:=h
 cases rx
 obtain⟨its,r,ht,hz⟩:=I.tuple hx
 have hlen:its.toArray.size=xs.length:=by rw[zj];exact r.length.symm
 exact⟨"tuple",_,jv.lookup,ht.typeIs,MU ht hs pl pu (by rw[hlen];exact hw) ⟨.ref a,H,I,rfl,q⟩⟩
theorem kI{c:Wc}{μ:List Addr}{H:Hp}{l:List D}{vs:List V}(r:t6 c μ H l vs)(lo hi:Option Int):t6 c μ H (cutD l lo hi) (l7 vs lo hi):=by
 unfold cutD l7
 rw[r.length]
 exact(r.drop _).take _
theorem fL5:SlD X Z slD:=SlR.mono (sl_tup.or (qW.or lS)) λx lo hi H Q ⟨dx,μ,G,rx,hr,p⟩=>by
 rcases dx with _|_|_|_|l|r|_|_<;>try (exact p.elim;done)
 ·
   unfold j5 at rx
   obtain⟨a,vs,rfl,q,rl⟩:=rx
   by_cases hw:HT.sIx vs.length 0 lo=0/\HT.sIx vs.length vs.length hi=vs.length
   · refine .inr (.inl ⟨a,vs,rfl,q,hw,vF hr q ?_ p⟩)
     have e:l7 vs lo hi=vs:=by unfold l7;rw[hw.1,hw.2];simp
     have:=kI rl lo hi
     rw[e]at this
     exact this
   ·exact .inl ⟨a,vs,rfl,q,hw,λp' hp=>EC hr (kI rl lo hi) p p' hp⟩
 ·
   obtain⟨l,a,vs,rfl,rl,p2,hq⟩:=OG hr rx p
   have hs:SqL (wc X).K H a vs:=by
    rcases hq with⟨z,_⟩|⟨_,_,_,⟨_,q⟩|⟨_,q⟩⟩
    ·cases z
    ·exact SqL.of q
    ·exact q.sq
   exact .inr (.inr ⟨a,vs,rfl,hs,λp' hp=>U3 hr (kI rl lo hi) p2 p' hp⟩)
variable{lo hi:Option Expr}{fl fh:Fo}{p2:Pos}
end
def S4(r:Nat)(o:DO):M Unit:=λG=>some (.ok (),G.set r o)
def L9(l:List (Key×D))(k:Key)(d:D):List (Key×D):=if l.any (λkv=>decide (kv.1=k))then l.map (λkv=>if kv.1=k then (kv.1,d)else kv)else l++[(k,d)]
def SA:D->D->D->M Unit:=λo i d=>match o with
 | .ref r=>do
   match <-O5 r with
   | .lst l=>match i with
     | .int k=>match ixN l.length k with
       |some j=>S4 r (.lst (l.set j d))
       |none=>M.stuck
     |_=>M.stuck
   | .dct l=>match d6 i with
     |some k=>if l.length<zo then S4 r (.dct (L9 l k d))else M.stuck
     |none=>M.stuck
   | .rol _=>M.stuck
   | .rod _=>M.stuck
 |_=>M.stuck
def D2(fo fi:Fe):Fg:=λd σ=>do
 let o <-fo σ
 let i <-fi σ
 let _ <-SA o i d
 pure σ
section
variable{X:Cx}{Z:XC}{μ:List Addr}{H:Hp}{G:DH}
theorem QP(rv:j5 c μ H d v):∀ {l} {kvs},z0 c μ H l kvs->z0 c μ H (L9 l k d) (K2 kvs k v):=by
 have any_eq:∀ {l:List (Key×D)} {kvs:List (Key×V)},z0 c μ H l kvs->(l.any λkv=>decide (kv.1=k))= (kvs.any λkv=>decide (kv.1=k)):=by
  intro l
  induction l with
  |nil=>intro kvs r;cases r;rfl
  |cons p t ih=>
    intro kvs r
    obtain⟨v',kt,rfl,_,rt⟩:=r
    rw[jW,jW,ih rt]
 have map_eq:∀ {l:List (Key×D)} {kvs:List (Key×V)},z0 c μ H l kvs->z0 c μ H (l.map λkv=>if kv.1=k then (kv.1,d)else kv) (kvs.map λkv=>if kv.1=k then (kv.1,v)else kv):=by
  intro l
  induction l with
  |nil=>intro kvs r;cases r;rfl
  |cons p t ih=>
    intro kvs r
    obtain⟨k',d'⟩:=p
    obtain⟨v',kt,rfl,q,rt⟩:=r
    rw[zU,zU]
    by_cases e:k'=k
    · simp only[e,if_true]
      exact⟨v,_,rfl,rv,ih rt⟩
    · simp only[e,if_false]
      exact⟨v',_,rfl,q,ih rt⟩
 have app_eq:∀ {l:List (Key×D)} {kvs:List (Key×V)},z0 c μ H l kvs->z0 c μ H (l++[(k,d)]) (kvs++[(k,v)]):=by
  intro l
  induction l with
  |nil=>intro kvs r;cases r;exact⟨v, [],rfl,rv,rfl⟩
  |cons p t ih=>
    intro kvs r
    obtain⟨v',kt,rfl,q,rt⟩:=r
    exact⟨v',_,rfl,q,ih rt⟩
 intro l kvs r
 unfold L9 K2
 rw[any_eq r]
 split
 ·exact map_eq r
 ·exact app_eq r
theorem z0.length:∀ {l} {kvs},z0 c μ H l kvs->l.length=kvs.length
 |[],_,r=>by cases r;rfl
 |_::_,_,r=>by obtain⟨_,_,rfl,_,t⟩:=r;simp[z0.length t]
theorem vQ{Q:List Addr->DH->Hp->Prop}(h:v8 c μ G H)(g:G[r]? =some o)(n:¬C4 (some o))(m:μ[r]? =some a)(n':¬C4 (some o'))(ho:∀x:Ext μ H μ (upd H a u),A6 c μ (upd H a u) a o')
 (p:d9 c Z μ H (S4 r o' G) λ_ X2 G' H'=>Q X2 G' H'):Q μ (G.set r o') (upd H a u):=by
 obtain⟨u',e,n1,n2⟩:=(h.obj r o a g m).some_of n
 have x:Ext μ H μ (upd H a u):=Ext.mut (yn m) e n1 n2 u
 exact p μ _ x (h.set g n m x n' (ho x))
def uI(c:Wc)(Z:XC)(f:D->D->D->M Unit):TSet:=λo i v H Q=>∃d1 d2 d3 μ G,j5 c μ H d1 o/\j5 c μ H d2 i/\j5 c μ H d3 v/\v8 c μ G H/\d9 c Z μ H (f d1 d2 d3 G) λ_ _ _ H'=>Q H'
theorem uI.elim{P:Prop}{o:V}{i:V}{v:V}{H:Hp}(h:uI c Z f o i v H Q)(k:∀d1 d2 d3 μ G,j5 c μ H d1 o->j5 c μ H d2 i->j5 c μ H d3 v->v8 c μ G H->d9 c Z μ H (f d1 d2 d3 G) (λ_ _ _ H'=>Q H')->P):P:=by
 obtain⟨e0,e1,e2,e3,e4,e5,e6,e7,e8,e9⟩:=h
 exact k e0 e1 e2 e3 e4 e5 e6 e7 e8 e9
theorem Qq(hu:X.A.units+64<xk):vJ X (uI (wc X) Z SA):=by
 intro pins s σ H o i v ov iv u Q I ro ri rv hE0
 obtain⟨d1,d2,d3,μ,G,r1,r2,r3,hr,p⟩:=hE0
 rcases d1 with _|_|_|_|_|r|_|_<;>try (exact p.elim;done)
 ·
   unfold j5 at r1
   obtain⟨a,m,rfl⟩:=r1
   obtain⟨ob,g,p1⟩:=N5 p
   have rob:=hr.obj r ob a g m
   rcases ob with l|l|l|l
   ·
     obtain⟨vs,ea,rl⟩:=rob
     rcases d2 with _|_|k|_|_|_|_|_<;>try (exact p1.elim;done)
     ·
       dsimp only at p1
       rcases hk:ixN l.length k with _|j
       ·simp only[hk]at p1;exact p1.elim
       ·
         simp only[hk]at p1
         exact Vm pins s σ H (.ref a) i v ov iv u Q I ro ri rv ⟨a,vs,k,j,rfl,K0 r2,ea,by rw[<-rl.length];exact hk,vQ (o':=.lst (l.set j d3)) hr g (λz=>z) m (λz=>z) (λx=>⟨_,O6,(rl.mono x).set (r3.mono x) j⟩) p1⟩
   ·exact p1.elim
   ·
     obtain⟨kvs,ea,rk⟩:=rob
     dsimp only at p1
     rcases hk:d6 d2 with _|k
     ·simp only[hk]at p1;exact p1.elim
     ·
       simp only[hk]at p1
       split at p1
       · rename_i hz
         have ei:=VJ hk r2
         subst ei
         cases ro
         refine eU (by lia) I (wF.k ea (by rw[<-rk.length];exact hz)) ri rv λs' I'=>⟨_,I',?_⟩
         exact vQ (o':=.dct (L9 l k d3)) hr g (λz=>z) m (λz=>z) (λx=>⟨_,O6,QP (r3.mono x) (rk.mono x)⟩) p1
       ·exact p1.elim
   ·exact p1.elim
variable{a b e o i:Expr}{fa fb fo fi:Fe}
theorem fA5(hu:X.A.units+64<xk)(ho:DE X Z o fo)(hi:DE X Z i fi)
 (ha:∀v,Yc (.Subscript o i pos) X.env v= (do
   let ov <-YA [v] (eval o X.env)
   let iv <-YA [v,ov] (eval i X.env)
   Jd pos
   YA [v,ov,iv] (setItem ov iv v)
   release [v,ov,iv] [])):DG X Z (.Subscript o i pos) (D2 fo fi):=
 DG.of (sW ho.h hi.h (Qq hu) ha) λv σ H Q hE0=>hE0.elim λd X9 μ G r s h p=>⟨X9,μ,G,s,h,(d9.bind p).mono λd1 X0 G1 H1 x1 h1 p1 v1 r1=>
  ⟨X9,X0,G1,s.mono x1,h1,(d9.bind p1).mono λd2 WY G2 H2 x2 h2 p2 v2 r2=>⟨d1,d2,d,WY,G2,r1.mono x2,r2,r.mono (x1.trans x2),h2,(d9.bind p2).mono λ_ WP G3 H3 x3 h3 p3=>d9.ok p3 h3 σ (s.mono (x1.trans (x2.trans x3)))⟩⟩⟩
def IM:Fe:=λ_=>M6 (.dct [])
theorem Wj:DE X Z (.Dict [] [] pos) IM:=DE.of Cv λσ H Q hE0=>hE0.elim λX9 μ G s h p q hq=>by
 have k:Ext μ H (μ++[q]) (upd H q (.dK [])):=Ext.add hq _
 refine p (μ++[q]) _ k (h.new hq ⟨[],O6,rfl⟩) _ ?_
 unfold j5
 exact⟨q,by rw[<-h.len];simp,rfl⟩
def R5:D->M Unit:=λx=>match x with
 | .ref r=>do
   match <-O5 r with
   | .lst _=>pure ()
   |_=>M.stuck
 |_=>M.stuck
def mtE(t:D->M Unit)(m:D->List D->M D)(fo:Fe)(fs:DSt->M (List D)):Fe:=λσ=>do
 let x <-fo σ
 let _ <-t x
 let xs <-fs σ
 m x xs
def lstM(r:Nat):M (List D):=do
 match <-O5 r with
 | .lst l=>pure l
 |_=>M.stuck
def y7:D->List D->M D:=λx xs=>match x,xs with
 | .ref r, [y]=>do
   let l <-lstM r
   if l.length<zo then do
    let _ <-S4 r (.lst (l++[y]))
    pure .non
   else M.stuck
 |_,_=>M.stuck
def wA:D->List D->M D:=λx xs=>match x,xs with
 | .ref r, [.ref q]=>do
   let l <-lstM r
   let k <-lstM q
   if l.length+k.length<=zo then do
    let _ <-S4 r (.lst (l++k))
    pure .non
   else M.stuck
 |_,_=>M.stuck
def PC:D->List D->M D:=λx xs=>match x,xs with
 | .ref r, []=>do
   let l <-lstM r
   match l.getLast? with
   |some y=>do
     let _ <-S4 r (.lst l.dropLast)
     pure y
   |none=>M.stuck
 |_,_=>M.stuck
theorem dG{a:Addr}{f:List D->M α}{K:α->List Addr->DH->Hp->Prop}(h:v8 c μ G H)(m:μ[r]? =some a)(p:d9 c Z μ H ((lstM r >>= f) G) K):
 ∃l vs,G[r]? =some (.lst l)/\H a=some (.lst vs)/\t6 c μ H l vs/\d9 c Z μ H (f l G) K:=by
 have p':d9 c Z μ H ((O5 r >>= λo=>(match o with| .lst l=>pure l|_=>M.stuck:M (List D)) >>= f) G) K:=by rw[<-M.bind_assoc];exact p
 obtain⟨o,g,p2⟩:=N5 p'
 have ro:=h.obj r o a g m
 rcases o with l|_|_|_<;>try (exact p2.elim;done)
 ·obtain⟨vs,e,rl⟩:=ro;exact⟨l,vs,g,e,rl,p2⟩
def MtD(X:Cx)(Z:XC)(id:String)(m:D->List D->M D):Prop:=
 MtR X id λx xs H Q=>∃d ds μ G,j5 (wc X) μ H d x/\t6 (wc X) μ H ds xs/\v8 (wc X) μ G H/\d9 (wc X) Z μ H (m d ds G) λd X2 _ H'=>∀v,j5 (wc X) X2 H' d v->Q v H'
theorem EJ{r:Nat}{a:Addr}{f:M α}{K:α->List Addr->DH->Hp->Prop}(h:v8 c μ G H)(g:G[r]? =some (.lst l))(m:μ[r]? =some a)(rl:∀x:Ext μ H μ (upd H a (.lst vs')),t6 c μ (upd H a (.lst vs')) l' vs')
 (p:d9 c Z μ H ((S4 r (.lst l') >>= λ_=>f) G) K):Ext μ H μ (upd H a (.lst vs'))/\v8 c μ (G.set r (.lst l')) (upd H a (.lst vs'))/\d9 c Z μ (upd H a (.lst vs')) (f (G.set r (.lst l'))) K:=by
 obtain⟨u',e,n1,n2⟩:=(h.obj r _ a g m).some_of (λz=>z)
 have x:Ext μ H μ (upd H a (.lst vs')):=Ext.mut (yn m) e n1 n2 _
 have h':v8 c μ (G.set r (.lst l')) (upd H a (.lst vs')):=h.set g (λz=>z) m x (λz=>z) ⟨vs',O6,rl x⟩
 exact⟨x,h',d9.from p x⟩
theorem dX:MtD X Z "list.append" y7:=by
 intro pins s σ H x xs v us Q I rx rs hE0
 obtain⟨d,ds,μ,G,rd,rds,hr,p⟩:=hE0
 rcases d with _|_|_|_|_|r|_|_<;>try (exact p.elim;done)
 ·
   unfold j5 at rd
   obtain⟨a,m,rfl⟩:=rd
   rcases ds with _|⟨y,t⟩
   ·exact p.elim
   ·
     rcases t with _|⟨_,_⟩
     ·
       obtain⟨yv,tv,rfl,ry,e⟩:=rds
       cases e
       obtain⟨l,vs,g,ea,rl,p1⟩:=dG hr m p
       split at p1
       · rename_i hz
         obtain⟨x1,h1,p2⟩:=EJ hr g m (λx=>(rl.mono x).append (t6.cons (ry.mono x) t6.nil)) p1
         exact sQ pins s σ H (.ref a) [yv] v us Q I rx rs ⟨a,vs,yv,rfl,rfl,ea,by rw[<-rl.length];exact hz,d9.ok p2 h1 _ ofN⟩
       ·exact p1.elim
     ·exact p.elim
theorem dF4:MtD X Z "list.extend" wA:=by
 intro pins s σ H x xs v us Q I rx rs hE0
 obtain⟨d,ds,μ,G,rd,rds,hr,p⟩:=hE0
 rcases d with _|_|_|_|_|r|_|_<;>try (exact p.elim;done)
 ·
   unfold j5 at rd
   obtain⟨a,m,rfl⟩:=rd
   rcases ds with _|⟨y,t⟩
   ·exact p.elim
   ·
     rcases t with _|⟨_,_⟩
     ·
       obtain⟨yv,tv,rfl,ry,e⟩:=rds
       cases e
       rcases y with _|_|_|_|_|q|_|_<;>try (exact p.elim;done)
       ·
         unfold j5 at ry
         obtain⟨b,m2,rfl⟩:=ry
         obtain⟨l,vs,g,ea,rl,p1⟩:=dG hr m p
         obtain⟨k,ws,g2,eb,rk,p2⟩:=dG hr m2 p1
         split at p2
         · rename_i hz
           obtain⟨x1,h1,p3⟩:=EJ hr g m (λx=>(rl.mono x).append (rk.mono x)) p2
           exact Vf pins s σ H (.ref a) [.ref b] v us Q I rx rs ⟨a,b,vs,ws,rfl,rfl,ea,eb,by rw[<-rl.length,<-rk.length];exact hz,d9.ok p3 h1 _ ofN⟩
         ·exact p2.elim
     ·cases y<;>exact p.elim
theorem PX:MtD X Z "list.pop" PC:=by
 intro pins s σ H x xs v us Q I rx rs hE0
 obtain⟨d,ds,μ,G,rd,rds,hr,p⟩:=hE0
 rcases d with _|_|_|_|_|r|_|_<;>try (exact p.elim;done)
 ·
   unfold j5 at rd
   obtain⟨a,m,rfl⟩:=rd
   rcases ds with _|⟨_,_⟩
   ·
     cases rds
     obtain⟨l,vs,g,ea,rl,p1⟩:=dG hr m p
     rcases hy:l.getLast? with _|y
     ·simp only[hy]at p1;exact p1.elim
     ·
       simp only[hy]at p1
       obtain⟨x1,h1,p2⟩:=EJ hr g m (λx=>(rl.mono x).dropLast) p1
       rw[List.getLast?_eq_getElem?]at hy
       obtain⟨yv,e1,ry⟩:=rl.get hy
       rw[rl.length]at e1
       exact tT pins s σ H (.ref a) [] v us Q I rx rs ⟨a,vs,yv,rfl,rfl,ea,e1,d9.ok p2 h1 _ (ry.mono x1)⟩
   ·exact p.elim
variable{es:List Expr}{fs:DSt->M (List D)}{name:Str}{apos cpos:Pos}{id:String}{mm:D->List D->M D}
theorem LR{f:Unit->M α}{K:α->List Addr->DH->Hp->Prop}(h:v8 c μ G H)(r:j5 c μ H d v)(p:d9 c Z μ H ((R5 d >>= f) G) K):tyV c.K "list" v H/\d9 c Z μ H (f () G) K:=by
 rcases d with _|_|_|_|_|i|_|_<;>try (exact p.elim;done)
 ·
   unfold j5 at r
   obtain⟨a,m,rfl⟩:=r
   have p':d9 c Z μ H ((O5 i >>= λo=>(match o with| .lst _=>pure ()|_=>M.stuck:M Unit) >>= f) G) K:=by rw[<-M.bind_assoc];exact p
   obtain⟨o,g,p2⟩:=N5 p'
   have ro:=h.obj i o a g m
   rcases o with l|_|_|_<;>try (exact p2.elim;done)
   ·obtain⟨vs,e,rl⟩:=ro;exact⟨.inl ⟨rfl,vs,SqL.of e⟩,p2⟩
theorem MQ(slot:Slot "list" name id)(hty:typeOf (.builtin id)=pure (.type "method_descriptor"))(hm:MtD X Z id mm)(ho:DE X Z o fo)(ha:DA X Z (e::es) fs)
 (hbase:xB o name X.env (eval o X.env)=eval o X.env)
 (hfew:((xf cpos (zP (e::es) X.env)).all (λx=> !x.1)&&(Jp cpos (Yz [] X.env)).all (λx=>x.1.isSome)
   && decide ((e::es).length+([]:List Keyword).length+(if ([]:List Keyword).isEmpty then 0 else 1)<30))=true)
 (hline:(apos.endLine==cpos.line)=true) (hs:zP (e::es) X.env= (false,eval e X.env)::zP es X.env) (hplain:(xf cpos (zP es X.env)).any (·.1)=false):
 DE X Z (.Call (.Attribute o name apos) (e::es) [] cpos) (mtE R5 mm fo fs):=
 DE.of (TK Xr slot hty hm ho.h ha.h hbase hfew hline hs hplain) λσ H Q hE0=>hE0.elim λX9 μ G s h p=>⟨X9,μ,G,s,h,(d9.bind p).mono λd X0 G1 H1 x1 h1 p1 v rv=>by
  obtain⟨ty,p2⟩:=LR h1 rv p1
  exact⟨ty,X9,X0,G1,s.mono x1,h1,(d9.bind p2).mono λds WY G2 H2 x2 h2 p3 vs rvs=>⟨d,ds,WY,G2,rv.mono x2,rvs,h2,p3⟩⟩⟩
theorem Kh(slot:Slot "list" name id)(hty:typeOf (.builtin id)=pure (.type "method_descriptor"))(hm:MtD X Z id mm)(ho:DE X Z o fo)
 (hbase:xB o name X.env (eval o X.env)=eval o X.env) (hline:(apos.endLine==cpos.line)=true):DE X Z (.Call (.Attribute o name apos) [] [] cpos) (mtE R5 mm fo g0):=
 DE.of (Mc Xr slot hty hm ho.h hbase hline) λσ H Q hE0=>hE0.elim λX9 μ G s h p=>⟨X9,μ,G,s,h,(d9.bind p).mono λd X0 G1 H1 x1 h1 p1 v rv=>by
  obtain⟨ty,p2⟩:=LR h1 rv p1
  exact⟨ty,d, [],X0,G1,rv,rfl,h1,p2⟩⟩
end
def SI(k:Bool)(h:Heap)(it a:Addr)(i:Nat):Prop:=if k then h.IsTupleIter it a i else h.IsListIter it a i
def SC(k:Bool)(h:Heap)(a:Addr)(items:Array zk):Prop:=if k then h.IsTuple a items else h.IsList a items
section
variable{prog:zZ}{w:jg}{A:jr}{E:VSP}{s:zv}
theorem SI.keep(x:SI k h it a i)(q:∀o,h.get? it=some o->h'.get? it=some o):SI k h' it a i:=by
 rcases k with _|_
 ·exact Heap.IsListIter.at (show h.IsListIter it a i from x) q
 ·exact Heap.IsTupleIter.at (show h.IsTupleIter it a i from x) q
theorem SC.keep(x:SC k h a its)(q:∀o,h.get? a=some o->h'.get? a=some o):SC k h' a its:=by
 rcases k with _|_
 ·obtain⟨o,e,r⟩:=(show h.IsList a its from x);exact⟨o,q o e,r⟩
 ·obtain⟨o,e,r⟩:=(show h.IsTuple a its from x);exact⟨o,q o e,r⟩
theorem SI.there(x:SI k h it a i):∃o,h.get? it=some o/\∀v,o.data≠ .cell v:=by
 rcases k with _|_
 ·obtain⟨o,e,c,d⟩:=(show h.IsListIter it a i from x);exact⟨o,e,λv z=>by rw[d]at z;cases z⟩
 ·obtain⟨o,e,c,d⟩:=(show h.IsTupleIter it a i from x);exact⟨o,e,λv z=>by rw[d]at z;cases z⟩
theorem RT(hit:s.heap.IsTupleIter it t i)(ht:s.heap.IsTuple t items)(hx:items[i]? =some x)
 (hQ:∀h',h'.IsTupleIter it t (i+1)->xF it s.heap h'->Q x {s with heap:=h'}):zw (zE prog w) A (jm (.ref it)) Q E s:=by
 obtain⟨ob,hob,hcls,hdat⟩:=id hit
 obtain⟨ot,hot,_,nt,hdt⟩:=ht
 unfold jm
 refine za (jV hit.typeIs xq (jE xq hit.typeIs XW ?_ (XQ _)))
 show zw _ _ (field (.ref it) 0 >>= _) _ _ s
 refine za (jU hob hdat rfl ?_)
 show zw _ _ (if (Value.ref t==Value.none)=true then _ else _) _ _ s
 rw[if_neg (show ¬((Value.ref t==Value.none)=true)from jc)]
 show zw _ _ (field (.ref it) 1 >>= _) _ _ s
 refine za (jU hob hdat rfl ?_)
 show zw _ _ (seqItems? (.ref t) >>= _) _ _ s
 refine za (jR hot hdt ?_)
 simp only[jF,hx]
 refine za (wpAny_setField hob hdat (by simp) (zp ⟨x,rfl,zp (hQ _ ?_ (xM ..))⟩))
 exact⟨_,xa _ hob (Obj.isFreed_of_fields (Obj.data_mapFields hdat _)),(Obj.cls_mapFields ..).trans hcls,by rw[Obj.data_mapFields hdat];simp[Xa]⟩
theorem bF5(hh:A.handled=none)(hit:s.heap.IsTupleIter it t i)(ht:s.heap.IsTuple t items)(hx:items[i]? =none)
 (hE:∀h' e,JE it s.heap h'->(∃o,h'.get? e=some o/\o.cls= .type "StopIteration")->E (.ref e) {s with heap:=h'}):zw (zE prog w) A (jm (.ref it)) Q E s:=by
 obtain⟨ob,hob,hcls,hdat⟩:=id hit
 obtain⟨ot,hot,_,nt,hdt⟩:=ht
 unfold jm
 refine za (jV hit.typeIs xq (jE xq hit.typeIs XW ?_ (XQ _)))
 show zw _ _ (field (.ref it) 0 >>= _) _ _ s
 refine za (jU hob hdat rfl ?_)
 show zw _ _ (if (Value.ref t==Value.none)=true then _ else _) _ _ s
 rw[if_neg (show ¬((Value.ref t==Value.none)=true)from jc)]
 show zw _ _ (field (.ref it) 1 >>= _) _ _ s
 refine za (jU hob hdat rfl ?_)
 show zw _ _ (seqItems? (.ref t) >>= _) _ _ s
 refine za (jR hot hdt ?_)
 simp only[jF,hx]
 refine za (Zs (za (wpAny_setField hob hdat (by simp) ?_)))
 show zw _ _ (newExc (.type "StopIteration") [] >>= _) _ _ _
 refine za ?_
 simp only[newExc,newTuple]
 refine za (yI ?_ (by size_fits))
 refine za (wpAny_of_eq (by first|rfl|(simp only[firstArgMember];rfl)) ?_)
 refine yI ?_ (by size_fits)
 delta raiseNew;dsimp only
 refine za (JK ?_)
 first|rw[show A.in1.handled=none from hh]|rw[hh]
 refine za (zp (wpAny_throw ?_))
 exact hE _ _ (((xM ..).extBut.push _).push _) ⟨_,zq _ rfl,rfl⟩
theorem QH(hit:SI k s.heap it a i)(hl:SC k s.heap a items)(hx:items[i]? =some x)
 (hQ:∀h',SI k h' it a (i+1)->xF it s.heap h'->Q x {s with heap:=h'}):zw (zE prog w) A (jm (.ref it)) Q E s:=by
 rcases k with _|_
 ·exact wpAny_nextOf_list_item hit hl hx hQ
 ·exact RT hit hl hx hQ
theorem nR(hh:A.handled=none)(hit:SI k s.heap it a i)(hl:SC k s.heap a items)(hx:items[i]? =none)
 (hE:∀h' e,JE it s.heap h'->(∃o,h'.get? e=some o/\o.cls= .type "StopIteration")->E (.ref e) {s with heap:=h'}):zw (zE prog w) A (jm (.ref it)) Q E s:=by
 rcases k with _|_
 ·exact wpAny_nextOf_list_end hh hit hl hx hE
 ·exact bF5 hh hit hl hx hE
structure ZA(z TI TO i1 i2:Addr):Prop where
 TIz:TI≠z
 TOz:TO≠z
 i1z:i1≠z
 i2z:i2≠z
 TITO:TI≠TO
 TIi1:TI≠i1
 TIi2:TI≠i2
 TOi1:TO≠i1
 TOi2:TO≠i2
 i12:i1≠i2
theorem qc(n:Nat):ZA (n+4:Nat) (n+2:Nat) (n+3:Nat) n (n+1:Nat):=⟨(by show @Ne Nat _ _;lia),(by show @Ne Nat _ _;lia),(by show @Ne Nat _ _;lia),(by show @Ne Nat _ _;lia),(by show @Ne Nat _ _;lia),(by show @Ne Nat _ _;lia),(by show @Ne Nat _ _;lia),(by show @Ne Nat _ _;lia),(by show @Ne Nat _ _;lia),(by show @Ne Nat _ _;lia)⟩
theorem UO(h:l<n):¬ @JG Addr (List Addr) JX [(n+4:Nat),(n+3:Nat),n,(n+1:Nat)] l:=by
 simp only[zt,zS,or_false,not_or]
 exact⟨(by show ¬ @Eq Nat _ _;lia),(by show ¬ @Eq Nat _ _;lia),(by show ¬ @Eq Nat _ _;lia),(by show ¬ @Eq Nat _ _;lia)⟩
theorem pX(hb: @JG Addr (List Addr) JX [(n+4:Nat),(n+2:Nat),(n+3:Nat),n,(n+1:Nat)] b): @LE.le Nat instLENat n b:=by
 simp only[zt,zS,or_false]at hb
 rcases hb with rfl|rfl|rfl|rfl|rfl<;>(show @LE.le Nat instLENat _ _;lia)
variable{z TI TO i1 i2 l1 l2:Addr}{xs ys:Array zk}{k1 k2:Bool}{i:Nat}
theorem uW{Q:VSP}(Ap:ZA z TI TO i1 i2)(n1:l1∉ [z,TO,i1,i2])(n2:l2∉ [z,TO,i1,i2])
 (hz:Zp s.heap z TI TO .none) (hTI:yz s.heap TI (.ref i1) (.ref i2)) (hTO:yz s.heap TO a b)
 (h1:SI k1 s.heap i1 l1 i) (h2:SI k2 s.heap i2 l2 i) (hl1:SC k1 s.heap l1 xs) (hl2:SC k2 s.heap l2 ys) (hx:xs[i]? =some x) (hy:ys[i]? =some y)
 (hQ:∀h',Zp h' z TI TO (Xa s.heap.objs.size)->yz h' TO x y->SI k1 h' i1 l1 (i+1)->SI k2 h' i2 l2 (i+1)->yz h' s.heap.objs.size x y->h'.objs.size=s.heap.objs.size+1->
   (∀c o,c≠z->c≠TO->c≠i1->c≠i2->s.heap.get? c=some o->h'.get? c=some o)->Q (.ref s.heap.objs.size) {s with heap:=h'}):
 zw (zE prog w) A (yj.«zip.__next__» ⟨[.ref z], []⟩) (λfin s'=>∃v,fin= .done (.ret v)/\Q v s') E s:=by
 simp only[zt,zS,or_false,not_or]at n1 n2
 show zw _ _ (field (.ref z) 2 >>= _) _ _ _
 refine za (jU hz rfl rfl ?_)
 show zw _ _ (field (.ref z) 3 >>= _) _ _ _
 refine za (jU hz rfl rfl ?_)
 refine za (jR hTI rfl ?_)
 show zw _ _ (yg (.ref z) >>= _) _ _ _
 refine za ?_
 unfold yg
 refine za (jU hz rfl rfl (zp ?_))
 simp only[if_true]
 refine za (Zs ?_)
 refine za (jU hz rfl rfl ?_)
 refine za (xc hz (by simp) λg₁ hz₁ WV=>?_)
 replace hz₁:Zp g₁ z TI TO .ellipsis:=hz₁
 refine za ?_
 simp only[List.zipIdx_cons,List.zipIdx_nil,ZL,Xx]
 refine za (za (YN ?_))
 show zw _ _ (jm (.ref i1) >>= _) _ _ _
 refine za (QH (h1.keep λo e=>WV.extBut _ _ Ap.i1z e) (hl1.keep λo e=>WV.extBut _ _ n1.1 e) hx λg₂ h1₂ WS=>zp ?_)
 have hTO₂:yz g₂ TO a b:=WS.extBut _ _ Ap.TOi1 (WV.extBut _ _ Ap.TOz hTO)
 refine za (jR hTO₂ rfl ?_)
 refine za (Yx hTO₂ λg₃ hTO₃ hs₃=>?_)
 replace hTO₃:yz g₃ TO x b:=hTO₃
 refine za (xw (zp ?_))
 refine za (za (YN ?_))
 show zw _ _ (jm (.ref i2) >>= _) _ _ _
 have up3:∀c o,c≠z->c≠TO->c≠i1->s.heap.get? c=some o->g₃.get? c=some o:=λc o c1 c2 c3 e=>hs₃.extBut _ _ c2 (WS.extBut _ _ c3 (WV.extBut _ _ c1 e))
 refine za (QH (h2.keep λo e=>up3 _ _ Ap.i2z Ap.TOi2.symm Ap.i12.symm e) (hl2.keep λo e=>up3 _ _ n2.1 n2.2.1 n2.2.2.1 e) hy λg₄ h2₄ hs₄=>zp ?_)
 have hTO₄:yz g₄ TO x b:=hs₄.extBut _ _ Ap.TOi2 hTO₃
 refine za (jR hTO₄ rfl ?_)
 refine za (Yx hTO₄ λWT hTO₅ hs₅=>?_)
 replace hTO₅:yz WT TO x y:=hTO₅
 refine za (xw (zp (zp ?_)))
 refine za (jR hTO₅ rfl ?_)
 refine za (wpAny_newTuple ?_)
 have hsz:WT.objs.size=s.heap.objs.size:=by rw[hs₅.1,hs₄.1,hs₃.1,WS.1,WV.1]
 have hz₅:Zp WT z TI TO .ellipsis:=hs₅.extBut _ _ Ap.TOz.symm (hs₄.extBut _ _ Ap.i2z.symm (hs₃.extBut _ _ Ap.TOz.symm (WS.extBut _ _ Ap.i1z.symm hz₁)))
 have hk₅:∀c o,c≠z->c≠TO->c≠i1->c≠i2->s.heap.get? c=some o->WT.get? c=some o:=λc o c1 c2 c3 c4 e=>hs₅.extBut _ _ c2 (hs₄.extBut _ _ c4 (up3 c o c1 c2 c3 e))
 have h1₅:SI k1 WT i1 l1 (i+1):=h1₂.keep λo e=>hs₅.extBut _ _ Ap.TOi1.symm (hs₄.extBut _ _ Ap.i12 (hs₃.extBut _ _ Ap.TOi1.symm e))
 have h2₅:SI k2 WT i2 l2 (i+1):=h2₄.keep λo e=>hs₅.extBut _ _ Ap.TOi2.symm e
 have hzlt:z<WT.objs.size:=zr hz₅
 show zw _ _ (Zj (.ref z) (.ref WT.objs.size) >>= _) _ _ _
 refine za ?_
 unfold Zj
 have hz₆:Zp (WT.push {cls:=.type "tuple",data:=.seq #[x,y]}) z TI TO .ellipsis:=zd _ hz₅
 refine za (xc hz₆ (by simp) λg₇ hz₇ hs₇=>?_)
 replace hz₇:Zp g₇ z TI TO (Xa WT.objs.size):=hz₇
 refine xc hz₇ (by simp) λg₈ hz₈ hs₈=>?_
 replace hz₈:Zp g₈ z TI TO (Xa WT.objs.size):=hz₈
 have up:∀c o,c≠z->WT.get? c=some o->g₈.get? c=some o:=λc o c1 e=>hs₈.extBut _ _ c1 (hs₇.extBut _ _ c1 (zd _ e))
 have hT₈:yz g₈ WT.objs.size x y:=hs₈.extBut _ _ (yb hzlt) (hs₇.extBut _ _ (yb hzlt) (zq _ rfl))
 have hz8:g₈.objs.size=WT.objs.size+1:=by rw[hs₈.1,hs₇.1,jY]
 rw[hsz]at hz₈ hT₈ hz8
 refine zp ⟨_,rfl,?_⟩
 show Q (.ref WT.objs.size) _
 rw[hsz]
 exact hQ g₈ hz₈ (up _ _ Ap.TOz hTO₅) (h1₅.keep λo e=>up _ o Ap.i1z e) (h2₅.keep λo e=>up _ o Ap.i2z e) hT₈ hz8 λc o c1 c2 c3 c4 e=>up c o c1 (hk₅ c o c1 c2 c3 c4 e)
theorem Wq(hh:A.handled=none)(Ap:ZA z TI TO i1 i2)(n1:l1∉ [z,TO,i1,i2])(n2:l2∉ [z,TO,i1,i2])
 (hz:Zp s.heap z TI TO .none) (hTI:yz s.heap TI (.ref i1) (.ref i2)) (hTO:yz s.heap TO a b)
 (h1:SI k1 s.heap i1 l1 i) (h2:SI k2 s.heap i2 l2 i) (hl1:SC k1 s.heap l1 xs) (hl2:SC k2 s.heap l2 ys) (hend:xs[i]? =none\/ys[i]? =none)
 (hE:∀h' e,(∀c o,c≠z->c≠TO->c≠i1->c≠i2->s.heap.get? c=some o->h'.get? c=some o)->(∃o,h'.get? e=some o/\o.cls= .type "StopIteration")->E (.ref e) {s with heap:=h'}):
 zw (zE prog w) A (yj.«zip.__next__» ⟨[.ref z], []⟩) Q E s:=by
 simp only[zt,zS,or_false,not_or]at n1 n2
 show zw _ _ (field (.ref z) 2 >>= _) _ _ _
 refine za (jU hz rfl rfl ?_)
 show zw _ _ (field (.ref z) 3 >>= _) _ _ _
 refine za (jU hz rfl rfl ?_)
 refine za (jR hTI rfl ?_)
 show zw _ _ (yg (.ref z) >>= _) _ _ _
 refine za ?_
 unfold yg
 refine za (jU hz rfl rfl (zp ?_))
 simp only[if_true]
 refine za (Zs ?_)
 refine za (jU hz rfl rfl ?_)
 refine za (xc hz (by simp) λg₁ hz₁ WV=>?_)
 replace hz₁:Zp g₁ z TI TO .ellipsis:=hz₁
 refine za ?_
 simp only[List.zipIdx_cons,List.zipIdx_nil,ZL,Xx]
 refine za (za (YN ?_))
 show zw _ _ (jm (.ref i1) >>= _) _ _ _
 rcases hx:xs[i]? with _|x
 ·
   refine za (nR hh (h1.keep λo e=>WV.extBut _ _ Ap.i1z e) (hl1.keep λo e=>WV.extBut _ _ n1.1 e) hx λg₂ e WS he=>?_)
   obtain⟨oe,hoe,hce⟩:=he
   have hz₂:Zp g₂ z TI TO .ellipsis:=WS _ _ Ap.i1z.symm hz₁
   have hez:e≠z:=λq=>by subst q;rw[hz₂]at hoe;cases hoe;simp at hce
   exact xc hz₂ (by simp) λg₃ _ hs₃=>hE g₃ e (λc o c1 _ c3 _ q=>hs₃.extBut _ _ c1 (WS _ _ c3 (WV.extBut _ _ c1 q))) ⟨oe,hs₃.extBut _ _ hez hoe,hce⟩
 ·
   have hy:ys[i]? =none:=by
    rcases hend with h|h
    ·rw[hx]at h;exact AE h
    ·exact h
   refine za (QH (h1.keep λo e=>WV.extBut _ _ Ap.i1z e) (hl1.keep λo e=>WV.extBut _ _ n1.1 e) hx λg₂ h1₂ WS=>zp ?_)
   have hTO₂:yz g₂ TO a b:=WS.extBut _ _ Ap.TOi1 (WV.extBut _ _ Ap.TOz hTO)
   refine za (jR hTO₂ rfl ?_)
   refine za (Yx hTO₂ λg₃ hTO₃ hs₃=>?_)
   refine za (xw (zp ?_))
   refine za (za (YN ?_))
   show zw _ _ (jm (.ref i2) >>= _) _ _ _
   have up3:∀c o,c≠z->c≠TO->c≠i1->s.heap.get? c=some o->g₃.get? c=some o:=λc o c1 c2 c3 e=>hs₃.extBut _ _ c2 (WS.extBut _ _ c3 (WV.extBut _ _ c1 e))
   refine za (nR hh (h2.keep λo e=>up3 _ _ Ap.i2z Ap.TOi2.symm Ap.i12.symm e) (hl2.keep λo e=>up3 _ _ n2.1 n2.2.1 n2.2.2.1 e) hy λg₄ e hs₄ he=>?_)
   obtain⟨oe,hoe,hce⟩:=he
   have hz₄:Zp g₄ z TI TO .ellipsis:=hs₄ _ _ Ap.i2z.symm (hs₃.extBut _ _ Ap.TOz.symm (WS.extBut _ _ Ap.i1z.symm hz₁))
   have hez:e≠z:=λq=>by subst q;rw[hz₄]at hoe;cases hoe;simp at hce
   exact xc hz₄ (by simp) λWT _ hs₅=>hE WT e (λc o c1 c2 c3 c4 q=>hs₅.extBut _ _ c1 (hs₄ _ _ c4 (up3 c o c1 c2 c3 q))) ⟨oe,hs₅.extBut _ _ hez hoe,hce⟩
theorem Kv(Ap:ZA z TI TO i1 i2)(n1:l1∉ [z,TO,i1,i2])(n2:l2∉ [z,TO,i1,i2])
 (hz:Zp s.heap z TI TO .none) (hTI:yz s.heap TI (.ref i1) (.ref i2)) (hTO:yz s.heap TO a b)
 (h1:SI k1 s.heap i1 l1 i) (h2:SI k2 s.heap i2 l2 i) (hl1:SC k1 s.heap l1 xs) (hl2:SC k2 s.heap l2 ys) (hx:xs[i]? =some x) (hy:ys[i]? =some y)
 (hQ:∀h',Zp h' z TI TO (Xa s.heap.objs.size)->yz h' TO x y->SI k1 h' i1 l1 (i+1)->SI k2 h' i2 l2 (i+1)->yz h' s.heap.objs.size x y->h'.objs.size=s.heap.objs.size+1->
   (∀c o,c≠z->c≠TO->c≠i1->c≠i2->s.heap.get? c=some o->h'.get? c=some o)->Q (some (.ref s.heap.objs.size)) {s with heap:=h'}):
 zw (zE prog w) A (Zt (.ref z)) Q E s:=by
 have hT:s.TypeIs (.ref z) "zip":=⟨_,hz,rfl⟩
 unfold Zt
 exact za (YO (jV hT ZX (jE ZX hT F.entry_zip_next
  (uW Ap n1 n2 hz hTI hTO h1 h2 hl1 hl2 hx hy λh' a1 a2 a3 a4 a5 a6 a7=>zp (hQ h' a1 a2 a3 a4 a5 a6 a7)) (F.args_zip_next_1 _))))
theorem Gb(hh:A.handled=none)(Ap:ZA z TI TO i1 i2)(n1:l1∉ [z,TO,i1,i2])(n2:l2∉ [z,TO,i1,i2])
 (hz:Zp s.heap z TI TO .none) (hTI:yz s.heap TI (.ref i1) (.ref i2)) (hTO:yz s.heap TO a b)
 (h1:SI k1 s.heap i1 l1 i) (h2:SI k2 s.heap i2 l2 i) (hl1:SC k1 s.heap l1 xs) (hl2:SC k2 s.heap l2 ys) (hend:xs[i]? =none\/ys[i]? =none)
 (hQ:∀h',(∀c o,c≠z->c≠TO->c≠i1->c≠i2->s.heap.get? c=some o->h'.get? c=some o)->Q none {s with heap:=h'}):zw (zE prog w) A (Zt (.ref z)) Q E s:=by
 have hT:s.TypeIs (.ref z) "zip":=⟨_,hz,rfl⟩
 unfold Zt
 refine za (YO (jV hT ZX (jE ZX hT F.entry_zip_next
  (Wq hh Ap n1 n2 hz hTI hTO h1 h2 hl1 hl2 hend λh' e hk he=>?_) (F.args_zip_next_1 _))))
 obtain⟨o,ho,hc⟩:=he
 exact za (xZ ⟨o,ho,hc⟩ Jm (zp (hQ _ hk)))
end
def vC(k:Bool)(a:Addr):Obj:={cls:=.type (if k then "tuple_iterator" else "list_iterator"),data:=.fields #[.ref a,.int 0 0]}
abbrev zh1(k1:Bool)(h:Heap)(l1:Addr):Heap:=h.push (vC k1 l1)
abbrev zh2(k1 k2:Bool)(h:Heap)(l1 l2:Addr):Heap:=(zh1 k1 h l1).push (vC k2 l2)
abbrev zh3(k1 k2:Bool)(h:Heap)(l1 l2:Addr):Heap:=(zh2 k1 k2 h l1 l2).push {cls:=.type "tuple",data:=.seq #[.ref h.objs.size,.ref (zh1 k1 h l1).objs.size]}
abbrev zh4(k1 k2:Bool)(h:Heap)(l1 l2:Addr):Heap:=(zh3 k1 k2 h l1 l2).push {cls:=.type "tuple",data:=.seq #[.none,.none]}
abbrev zh5(k1 k2:Bool)(h:Heap)(l1 l2:Addr):Heap:=(zh4 k1 k2 h l1 l2).push {cls:=.type "zip",data:=.fields #[.none,.bool false,.bool false,.ref (zh2 k1 k2 h l1 l2).objs.size,.ref (zh3 k1 k2 h l1 l2).objs.size]}
theorem RN(hl:SC k s.heap a items)(h:Q (.ref s.heap.objs.size) {s with heap:=s.heap.push (vC k a)}):zw (zE prog w) A (Jk (.ref a)) Q E s:=by
 rcases k with _|_
 ·exact xo hl h
 ·exact wpAny_pyIter_tuple hl h
theorem eD6(k1 k2:Bool)(l1 l2:Addr)(xs ys:Array zk):
 Meets (yj.«zip.__new__» ⟨[.type "zip",.ref l1,.ref l2], []⟩) (λ_ R s=>SC k1 s.heap l1 xs/\SC k2 s.heap l2 ys/\R (.ok (.ret (.ref (zh4 k1 k2 s.heap l1 l2).objs.size))) {s with heap:=zh5 k1 k2 s.heap l1 l2}):=
 .of_wp λprog w A R s h=>by
  obtain⟨hp,g,d,tk,os⟩:=s
  obtain⟨hl1,hl2,h⟩:=h
  have hsub:=sub_zip
  have hL1:SC k1 (Shared.heap ⟨hp,g,d,tk,os⟩) l1 xs:=hl1
  have hL2:SC k2 (Shared.heap ⟨hp.push (vC k1 l1),g,d,tk,os⟩) l2 ys:=hl2.keep λo e=>zd _ e
  wp_walk using RN hL1,RN hL2
  exact⟨_,rfl,h⟩
section
theorem fX{ch:List Addr}(I:Inv X pins σ H s)(hf:∀b∈ch,B1 X pins H b)(k:∀b o,b∉ch->s.heap.get? b=some o->h'.get? b=some o)
 (hz:vs.length<=zo) (rv:v6 vs us) (ht:t4 h' s.heap.objs.size us.toArray):Inv X pins σ (upd H s.heap.objs.size (.tup vs)) {s with heap:=h',toks:=t'}:=by
 have hq:H s.heap.objs.size=none:=I.hok.fresh (zn _)
 have neq:∀b o,s.heap.get? b=some o->b≠s.heap.objs.size:=λb o e=>zD (zr e)
 have nch:∀b u,H b=some u->b∉ch:=λb u e z=>by rw[(hf b z).1]at e;cases e
 refine I.step (λb hb=>⟨(hf b hb).2.2.2.1,(hf b hb).2.1,(hf b hb).2.2.2.2.1,(hf b hb).2.2.2.2.2⟩) (λb o _ _ hc e _=>k b o hc e) (λb o _ _ hc e _=>⟨o.slots,k b o hc e⟩)
  (λb o _ e n=>by rw[J2 (neq b o e)];exact n) (λb o hc e=>⟨o,k b o hc e⟩) (λb xs e=>by rw[J2 (J3 e hq)];exact e) (λb o u e=>by rw[J2 (J3 e hq)];exact e)
  (λb ps e=>⟨#[],by rw[J2 (J3 e hq),e];simp⟩) (λm hm=>?_) (λb u e=>?_) I.bare
 · obtain⟨o,es,ep,ho,r⟩:=hm
   exact⟨o,es,ep,k _ o (λz=>(hf _ z).2.1 rfl) ho,r⟩
 · by_cases hb:b=s.heap.objs.size
   · subst hb
     rw[O6]at e
     cases e
     exact⟨hz,us,rv,ht⟩
   · rw[J2 hb]at e
     refine(I.hok b u e).stay (λc v hc q=>k c v ?_ q) (λc q=>by rw[J2 (J3 q hq)];exact q) λc xs q=>by rw[J2 (J3 q hq)];exact q
     rcases hc with z|z
     ·rw[z];exact nch b u e
     ·exact nch c _ z
theorem DK{ch:List Addr}(I:Inv X pins σ H s)(hf:∀b∈ch,B1 X pins H b)(k:∀b o,b∉ch->s.heap.get? b=some o->h'.get? b=some o):Inv X pins σ H {s with heap:=h',toks:=t'}:=by
 have nch:∀b u,H b=some u->b∉ch:=λb u e z=>by rw[(hf b z).1]at e;cases e
 refine I.step (λb hb=>⟨(hf b hb).2.2.2.1,(hf b hb).2.1,(hf b hb).2.2.2.2.1,(hf b hb).2.2.2.2.2⟩) (λb o _ _ hc e _=>k b o hc e) (λb o _ _ hc e _=>⟨o.slots,k b o hc e⟩)
  (λ_ _ _ _ n=>n) (λb o hc e=>⟨o,k b o hc e⟩) (λ_ _ e=>e) (λ_ _ _ e=>e) (λb ps e=>⟨#[],by rw[e];simp⟩) (λm hm=>?_) (λb u e=>?_) I.bare
 · obtain⟨o,es,ep,ho,r⟩:=hm
   exact⟨o,es,ep,k _ o (λz=>(hf _ z).2.1 rfl) ho,r⟩
 · refine(I.hok b u e).stay (λc v hc q=>k c v ?_ q) (λ_ q=>q) λ_ _ q=>q
   rcases hc with z|z
   ·rw[z];exact nch b u e
   ·exact nch c _ z
end
def Sq(K:zh)(k:Bool)(H:Hp)(a:Addr)(vs:List V):Prop:=if k then SqT K H a vs else SqL K H a vs
theorem dC(I:Inv X pins σ H s)(h:Sq X.K k H a vs):∃its:List zk,v6 vs its/\SC k s.heap a its.toArray/\vs.length<=zo:=by
 rcases k with _|_
 ·obtain⟨its,r,p,z⟩:=I.list h;exact⟨its,r,p.isList,z⟩
 ·obtain⟨its,r,p,z⟩:=I.tuple h;exact⟨its,r,p,z⟩
theorem GP(I:Inv X pins σ H s)(h:Sq X.K k H a vs)(h':Sq X.K k H a ws):vs=ws:=by
 rcases k with _|_
 ·exact I.list_inj h h'
 ·exact I.tuple_inj h h'
def Itz(K:zh)(k1 k2:Bool)(a b:Addr):It:=
 ⟨λi H=>∃xs ys x y,Sq K k1 H a xs/\Sq K k2 H b ys/\xs[i]? =some x/\ys[i]? =some y,
  λi H v H'=>∃q x y,H q=none/\v= .ref q/\H'=upd H q (.tup [x,y])/\(∀xs,Sq K k1 H a xs->xs[i]? =some x)/\∀ys,Sq K k2 H b ys->ys[i]? =some y,
  λi H=>∃xs ys,Sq K k1 H a xs/\Sq K k2 H b ys/\(xs.length<=i\/ys.length<=i)⟩
theorem eM(r:v6 vs its){i:Nat}(h:vs[i]? =some x):∃u,its.toArray[i]? =some u/\J9 x u:=by
 obtain⟨u,e,ru⟩:=r.get h
 exact⟨u,by simpa using e,ru⟩
theorem qw{w:jg}{K:zh}{es:List Expr}{x1:Nat}{tp:Pos}{l1 l2 z TI TO i1 i2:Addr}(Ap:ZA z TI TO i1 i2)(n1:l1∉ [z,TO,i1,i2])(n2:l2∉ [z,TO,i1,i2]):
 F7 P w K (.Tuple es x1 tp) (Itz K k1 k2 l1 l2) [z,TI,TO,i1,i2] z (λi h=>Zp h z TI TO .none/\yz h TI (.ref i1) (.ref i2)/\(∃a b,yz h TO a b)/\SI k1 h i1 l1 i/\SI k2 h i2 l2 i) where
 mem:=by simp
 obj:=λi h st b hb=>by
  obtain⟨s1,s2,⟨a,c,s3⟩,s4,s5⟩:=st
  simp only[zt,zS,or_false]at hb
  rcases hb with rfl|rfl|rfl|rfl|rfl
  ·exact⟨_,s1,λv z=>nomatch z⟩
  ·exact⟨_,s2,λv z=>nomatch z⟩
  ·exact⟨_,s3,λv z=>nomatch z⟩
  ·exact s4.there
  ·exact s5.there
 keep:=λi h h' st k=>by
  obtain⟨s1,s2,⟨a,c,s3⟩,s4,s5⟩:=st
  exact⟨k _ (by simp) _ s1,k _ (by simp) _ s2,⟨a,c,k _ (by simp) _ s3⟩,s4.keep (k _ (by simp)),s5.keep (k _ (by simp))⟩
 item:=by
  intro X hP hw hK hc i pins s σ H E I hf st hg
  subst hP hw hK
  obtain⟨xs,ys,x,y,q1,q2,hx,hy⟩:=hg
  obtain⟨its1,r1,c1,z1⟩:=dC I q1
  obtain⟨its2,r2,c2,z2⟩:=dC I q2
  obtain⟨u1,e1,ru1⟩:=eM r1 hx
  obtain⟨u2,e2,ru2⟩:=eM r2 hy
  obtain⟨s1,s2,⟨a,c,s3⟩,s4,s5⟩:=st
  refine Kv Ap n1 n2 s1 s2 s3 s4 s5 c1 c2 e1 e2 λg b1 b2 b3 b4 b5 b6 b7=>⟨_,rfl,?_⟩
  refine wpAny_letOwnedTupleGo_zip b1 λg2 c1' sb=>?_
  have keep:∀b o,b∉ [z,TI,TO,i1,i2]->s.heap.get? b=some o->g2.get? b=some o:=λb o hb e=>by
   simp only[zt,zS,or_false,not_or]at hb
   exact(sb.2 b hb.1).trans (b7 b o hb.1 hb.2.2.1 hb.2.2.2.1 hb.2.2.2.2 e)
  have zlt:z<s.heap.objs.size:=zr s1
  have hnew:t4 g2 s.heap.objs.size [u1,u2].toArray:=⟨_,(sb.2 _ (yb zlt)).trans b5,rfl,_,rfl⟩
  have hq:H s.heap.objs.size=none:=I.hok.fresh (zn _)
  refine⟨.ref s.heap.objs.size,upd H s.heap.objs.size (.tup [x,y]),fX I hf keep (by show 2<=zo;decide) (.cons ru1 (.cons ru2 .nil)) hnew,rfl,⟨_,x,y,hq,rfl,rfl,λxs' h=>by rw[GP I h q1];exact hx,λys' h=>by rw[GP I h q2];exact hy⟩,?_,λb hb=>?_⟩
  · refine⟨c1',?_,⟨_,_,(sb.2 _ Ap.TOz).trans b2⟩,b3.keep λo e=>(sb.2 _ Ap.i1z).trans e,b4.keep λo e=>(sb.2 _ Ap.i2z).trans e⟩
    exact(sb.2 _ Ap.TIz).trans (b7 TI _ Ap.TIz Ap.TITO Ap.TIi1 Ap.TIi2 s2)
  · have hb':b<s.heap.objs.size:=by
     simp only[zt,zS,or_false]at hb
     rcases hb with rfl|rfl|rfl|rfl|rfl
     ·exact zlt
     ·exact zr s2
     ·exact zr s3
     ·obtain⟨_,e,_⟩:=s4.there;exact zr e
     ·obtain⟨_,e,_⟩:=s5.there;exact zr e
    rw[J2 (zD hb')]
    exact(hf b hb).1
 done:=by
  intro X hP hw hK hc i pins s σ H E I hf st hg
  subst hP hw hK
  obtain⟨xs,ys,q1,q2,hend⟩:=hg
  obtain⟨its1,r1,c1,z1⟩:=dC I q1
  obtain⟨its2,r2,c2,z2⟩:=dC I q2
  obtain⟨s1,s2,⟨a,c,s3⟩,s4,s5⟩:=st
  have hl1:=r1.length
  have hl2:=r2.length
  refine Gb (I.ok.hd hc) Ap n1 n2 s1 s2 s3 s4 s5 c1 c2 (by rcases hend with h|h;left;simp;lia;right;simp;lia) λg b7=>⟨rfl,DK I hf λb o hb e=>?_⟩
  simp only[zt,zS,or_false,not_or]at hb
  exact b7 b o hb.1 hb.2.2.1 hb.2.2.2.1 hb.2.2.2.2 e
 self:=λ_ _ _ _ _ st h=>wpAny_pyIter_zip st.1 h
def OY(K:zh)(ta:TA):TI:=λσ H R=>ta σ H λvs H1=>∃k1 k2 a b xs ys,vs= [.ref a,.ref b]/\Sq K k1 H1 a xs/\Sq K k2 H1 b ys/\R (Itz K k1 k2 a b) H1
section
theorem Tw(hl1:SC k1 s.heap l1 xs)(hl2:SC k2 s.heap l2 ys)
 (h:Q (.ref (zh4 k1 k2 s.heap l1 l2).objs.size) {s with heap:=zh5 k1 k2 s.heap l1 l2}):zw (zE prog w) A (call (.type "zip") [.ref l1,.ref l2]) Q E s:=by
 refine callType_new F.called_zip (by decide) (F.typeCall_zip_2 _ _) (F.newCall_zip_2 _ _) (λobj=>F.args_object_init_3 obj _ _) F.entry_zip_new (eD6 k1 k2 l1 l2 xs ys) ⟨hl1,hl2,?_⟩
 exact⟨⟨_,zq _ rfl,rfl⟩,h⟩
structure ZMk(k1 k2:Bool)(h h5:Heap)(l1 l2:Addr)(n:Nat):Prop where
 keep:∀b o,h.get? b=some o->h5.get? b=some o
 sz:h5.objs.size=n+5
 g5:Zp h5 (n+4:Nat) (n+2:Nat) (n+3:Nat) .none
 g4:yz h5 (n+3:Nat) .none .none
 g3:yz h5 (n+2:Nat) (.ref n) (.ref (n+1:Nat))
 s1:SI k1 h5 n l1 0
 s2:SI k2 h5 (n+1:Nat) l2 0
theorem zmk:(zh4 k1 k2 h l1 l2).objs.size=h.objs.size+4/\ZMk k1 k2 h (zh5 k1 k2 h l1 l2) l1 l2 h.objs.size:=by
 have z1:(zh1 k1 h l1).objs.size=h.objs.size+1:=jY ..
 have z2:(zh2 k1 k2 h l1 l2).objs.size=h.objs.size+2:=by rw[jY,z1]
 have z3:(zh3 k1 k2 h l1 l2).objs.size=h.objs.size+3:=by rw[jY,z2]
 have z4:(zh4 k1 k2 h l1 l2).objs.size=h.objs.size+4:=by rw[jY,z3]
 have z5:(zh5 k1 k2 h l1 l2).objs.size=h.objs.size+5:=by rw[jY,z4]
 have g5:Zp (zh5 k1 k2 h l1 l2) (zh4 k1 k2 h l1 l2).objs.size (zh2 k1 k2 h l1 l2).objs.size (zh3 k1 k2 h l1 l2).objs.size .none:=zq _ rfl
 have g4:yz (zh5 k1 k2 h l1 l2) (zh3 k1 k2 h l1 l2).objs.size .none .none:=zd _ (zq _ rfl)
 have g3:yz (zh5 k1 k2 h l1 l2) (zh2 k1 k2 h l1 l2).objs.size (.ref h.objs.size) (.ref (zh1 k1 h l1).objs.size):=zd _ (zd _ (zq _ rfl))
 have g2:(zh5 k1 k2 h l1 l2).get? (zh1 k1 h l1).objs.size=some (vC k2 l2):=zd _ (zd _ (zd _ (zq _ (by cases k2<;>rfl))))
 have g1:(zh5 k1 k2 h l1 l2).get? h.objs.size=some (vC k1 l1):=zd _ (zd _ (zd _ (zd _ (zq _ (by cases k1<;>rfl)))))
 rw[z4,z2,z3]at g5
 rw[z3]at g4
 rw[z2,z1]at g3
 rw[z1]at g2
 refine⟨z4,λb o e=>zd _ (zd _ (zd _ (zd _ (zd _ e)))),z5,g5,g4,g3,?_,?_⟩
 · rcases k1 with _|_
   ·exact⟨_,g1,rfl,rfl⟩
   ·exact⟨_,g1,rfl,rfl⟩
 · rcases k2 with _|_
   ·exact⟨_,g2,rfl,rfl⟩
   ·exact⟨_,g2,rfl,rfl⟩
theorem SC.lt(c:SC k h a xs): @LT.lt Nat instLTNat a h.objs.size:=by
 rcases k with _|_
 ·obtain⟨o,e,_⟩:=(show h.IsList a _ from c);exact zr e
 ·obtain⟨o,e,_⟩:=(show h.IsTuple a _ from c);exact zr e
theorem bV(hl1:SC k1 s.heap l1 xs)(hl2:SC k2 s.heap l2 ys)
 (h:∀h5 n,n=s.heap.objs.size->ZMk k1 k2 s.heap h5 l1 l2 n->Q (.ref (n+4:Nat)) {s with heap:=h5}):zw (zE prog w) A (call (.type "zip") [.ref l1,.ref l2]) Q E s:=by
 refine Tw hl1 hl2 ?_
 have:=zmk (k1:=k1) (k2:=k2) (h:=s.heap) (l1:=l1) (l2:=l2)
 rw[this.1]
 exact h _ _ rfl this.2
theorem Mg{es:List Expr}{ta:TA}{p pos:Pos}(hg:Gl X "zip")(hm:X.mg "zip" =none)(ha:PA X [a,b] ta)(hs:zP [a,b] X.env= [(false,eval a X.env),(false,eval b X.env)])(hs2:zP [b] X.env= [(false,eval b X.env)])(hbt:zX "zip" =some (.type "zip")):
 PI X (.Tuple es x1 tp) (.Call (.Name "zip" p) [a,b] [] pos) (OY X.K ta):=by
 intro pins s σ H R I h
 refine Call_ (A5 I hg hm hbt (ym (thn (ha pos pins s σ H _ I h) λus s1 hE1=>hE1.elim λvs H1 I1 r1 q1=>?_) (by rw[hs,hs2]) (by rw[hs2];rfl)))
 obtain⟨k1,k2,l1,l2,xs,ys,rfl,q1,q2,q⟩:=q1
 obtain⟨u1,u2,rfl,ru1,ru2⟩:=QE r1
 cases ru1
 cases ru2
 obtain⟨its1,rr1,c1,z1⟩:=dC I1 q1
 obtain⟨its2,rr2,c2,z2⟩:=dC I1 q2
 refine bV c1 c2 λh5 n en Z=>?_
 have n1:=UO (en▸c1.lt)
 have n2:=UO (en▸c2.lt)
 refine wpAny_pyIter_zip Z.g5 ?_
 refine⟨(n+4:Nat),_,_,Itz X.K k1 k2 l1 l2,H1,rfl,I1.kept Z.keep,qw (qc n) n1 n2,⟨Z.g5,Z.g3,⟨_,_,Z.g4⟩,Z.s1,Z.s2⟩,λb hb=>?_,q⟩
 have hb':s1.heap.objs.size<=b:=en▸pX hb
 exact I1.fpOk hb' (I1.hok.fresh hb')
end
section
open Classical in
def ckO(r:Nat)(o:DO):DH->Bool:=λG=>decide (G[r]? =some o)
def P2:D->M Src:=λx=>match x with
 | .tup l=>pure ⟨l,λ_=>true⟩
 | .ref r=>do
   let o <-O5 r
   let l <-listOf o
   pure ⟨l,ckO r o⟩
 |_=>M.stuck
def Kp(c:Wc)(μ:List Addr)(H:Hp)(k:Bool)(a:Addr)(s:Src):Prop:=∀ X2 G' H',Ext μ H X2 H'->v8 c X2 G' H'->s.ck G'=true->∃vs,Sq c.K k H' a vs/\t6 c X2 H' s.items vs
theorem wJ{H:Hp}{G:DH}{d:D}{v:V}{f:Src->M α}{K:α->List Addr->DH->Hp->Prop}(h:v8 c μ G H)(r:j5 c μ H d v)(p:d9 c Z μ H ((P2 d >>= f) G) K):
 ∃s k a vs,v= .ref a/\Sq c.K k H a vs/\t6 c μ H s.items vs/\Kp c μ H k a s/\s.ck G=true/\(∀i,d= .ref i->k=false)/\d9 c Z μ H (f s G) K:=by
 rcases d with _|_|_|_|l|i|_|_<;>try (exact p.elim;done)
 ·
   unfold j5 at r
   obtain⟨a,vs,rfl,q,rl⟩:=r
   exact⟨⟨l,λ_=>true⟩,true,a,vs,rfl,q,rl,λX2 G' H' x h' _=>⟨vs,x.sqT q,rl.mono x⟩,rfl,(λi z=>nomatch z),p⟩
 ·
   unfold j5 at r
   obtain⟨a,m,rfl⟩:=r
   have p':d9 c Z μ H ((O5 i >>= λo=>(listOf o >>= λl=>(pure ⟨l,ckO i o⟩:M Src)) >>= f) G) K:=by rw[<-M.bind_assoc];exact p
   obtain⟨o,g,p2⟩:=N5 p'
   have ro:=h.obj i o a g m
   have ck:ckO i o G=true:=by unfold ckO;simp[g]
   cases o with
   |lst l=>
     obtain⟨vs,q,rl⟩:=ro
     refine⟨⟨l,ckO i (.lst l)⟩,false,a,vs,rfl,SqL.of q,rl,λX2 G' H' x h' hck=>?_,ck,(λ_ _=>rfl),p2⟩
     have g':G'[i]? =some (.lst l):=by unfold ckO at hck;simpa using hck
     obtain⟨vs',q',rl'⟩:=h'.obj i _ a g' (aK x.pre m)
     exact⟨vs',SqL.of q',rl'⟩
   |rol l=>
     obtain⟨vs,q,rl⟩:=ro
     refine⟨⟨l,ckO i (.rol l)⟩,false,a,vs,rfl,q.sq,rl,λX2 G' H' x h' hck=>?_,ck,(λ_ _=>rfl),p2⟩
     have g':G'[i]? =some (.rol l):=by unfold ckO at hck;simpa using hck
     obtain⟨vs',q',rl'⟩:=h'.obj i _ a g' (aK x.pre m)
     exact⟨vs',q'.sq,rl'⟩
   |dct l=>exact p2.elim
   |rod l=>exact p2.elim
theorem qM{H:Hp}{i:Nat}{d:D}{x:V}(r:t6 c μ H l vs)(h:l[i]? =some d)(hx:vs[i]? =some x):j5 c μ H d x:=by
 obtain⟨v,e,q⟩:=r.get h
 rw[hx]at e
 cases e
 exact q
def K3(lo:Int)(n:Nat):List D:=(jC n).map fun(i:Nat)=>D.int (lo+(i:Int))
def R3(fs:DSt->M (List D)):DSt->M Src:=λσ=>do
 match <-fs σ with
 |[.int j]=>if -(2 ^ 62)<=j/\j<2 ^ 62 then pure ⟨K3 0 j.toNat,λ_=>true⟩else M.stuck
 |_=>M.stuck
theorem Lc(lo:Int)(n:Nat):ItD c μ H (Itr lo n) ⟨K3 lo n,λ_=>true⟩:=λX2 G' H' x' h' _ i=>by
 refine⟨λd hd=>?_,λhi=>?_⟩
 · have hi:i<n:=by have:=lt_of_get hd;simpa [K3]using this
   have e:d= .int (lo+i):=by
    unfold K3 at hd
    rw[zV,JY hi]at hd
    simp at hd
    exact hd.symm
   subst e
   exact⟨hi,λx H2 ⟨e1,e2⟩=>by subst e1 e2;exact⟨Ext.refl _ _,h',ofI⟩⟩
 · show n<=i
   simpa [K3]using hi
theorem Rk(hg:Gl X "range")(hm:X.mg "range" =none)(ha:DA X Z [a] fs)(hs:zP [a] X.env= [(false,eval a X.env)]):DI X Z tg (.Call (.Name "range" p) [a] [] pos) (R3 fs):=
 DI.of (hZ hg hm ha.h hs) λσ H R hE0=>hE0.elim λX9 μ G s h p=>⟨X9,μ,G,s,h,(d9.bind p).mono λds X0 G1 H1 x1 h1 p1 vs rv=>by
  rcases ds with _|⟨_|_|j|_|_|_|_|_,_|⟨_,_⟩⟩<;>dsimp only at p1<;>try exact p1.elim
  · split at p1
    · rename_i hj
      obtain⟨v,t,rfl,r0,e⟩:=rv
      cases e
      exact⟨j,by rw[K0 r0],hj.1,hj.2,d9.ok p1 h1 _ (Lc 0 _)⟩
    ·exact p1.elim⟩
def iA(fs:DSt->M (List D)):DSt->M Src:=λσ=>do
 match <-fs σ with
 |[a,b]=>do
   let s1 <-P2 a
   let s2 <-P2 b
   pure ⟨(s1.items.zip s2.items).map λp=>.tup [p.1,p.2],λG=>s1.ck G&&s2.ck G⟩
 |_=>M.stuck
theorem Nf(h:v8 c μ G H)(hq:H q=none)(r:t6 c μ H ds vs):Ext μ H μ (upd H q (.tup vs))/\v8 c μ G (upd H q (.tup vs))/\j5 c μ (upd H q (.tup vs)) (.tup ds) (.ref q):=by
 have k:Ext μ H μ (upd H q (.tup vs)):=Ext.lay hq _
 refine⟨k,h.same k λa o e n=>by rw[J2 (J3 e hq)];exact e,?_⟩
 unfold j5
 exact⟨q,vs,rfl,SqT.of O6,r.mono k⟩
theorem Hd{tp:Pos}{p pos:Pos}(hg:Gl X "zip")(hm:X.mg "zip" =none)(ha:DA X Z [a,b] fs)(hs:zP [a,b] X.env= [(false,eval a X.env),(false,eval b X.env)])(hs2:zP [b] X.env= [(false,eval b X.env)])(hbt:zX "zip" =some (.type "zip")):
 DI X Z (.Tuple es x1 tp) (.Call (.Name "zip" p) [a,b] [] pos) (iA fs):=
 DI.of (Mg hg hm ha.h hs hs2 hbt) λσ H R hE0=>hE0.elim λX9 μ G s h p=>⟨X9,μ,G,s,h,(d9.bind p).mono λds X0 G1 H1 x1 h1 p1 vs rv=>by
  rcases ds with _|⟨d1,_|⟨d2,_|⟨_,_⟩⟩⟩<;>dsimp only at p1<;>try exact p1.elim
  · obtain⟨v1,t1,rfl,r1,v2,t2,rfl,r2,e⟩:=rv
    cases e
    obtain⟨s1,k1,a1,w1,rfl,q1,l1,is1,ck1,_,p2⟩:=wJ h1 r1 p1
    obtain⟨s2,k2,a2,w2,rfl,q2,l2,is2,ck2,_,p3⟩:=wJ h1 r2 p2
    refine⟨k1,k2,a1,a2,w1,w2,rfl,q1,q2,d9.ok p3 h1 _ λX2 G' H' x' h' ck' i=>?_⟩
    have ck'':s1.ck G'=true/\s2.ck G'=true:=by simpa using ck'
    obtain⟨u1,q1',l1'⟩:=is1 X2 G' H' x' h' ck''.1
    obtain⟨u2,q2',l2'⟩:=is2 X2 G' H' x' h' ck''.2
    refine⟨λd hd=>?_,λhi=>?_⟩
    · rw[zV]at hd
      rcases hz:(s1.items.zip s2.items)[i]? with _|pr
      ·rw[hz]at hd;cases hd
      ·
        rw[hz]at hd
        obtain⟨e1,e2⟩:=pr
        have hd':d= .tup [e1,e2]:=by simpa using hd.symm
        subst hd'
        rw[XS]at hz
        obtain⟨y1,hy1,ry1⟩:=l1'.get hz.1
        obtain⟨y2,hy2,ry2⟩:=l2'.get hz.2
        refine⟨⟨u1,u2,y1,y2,q1',q2',hy1,hy2⟩,λx H2 ⟨q,z1,z2,hq,ex,eH,f1,f2⟩=>?_⟩
        subst ex eH
        have g1:=f1 u1 q1'
        have g2:=f2 u2 q2'
        rw[hy1]at g1
        rw[hy2]at g2
        cases g1
        cases g2
        exact Nf h' hq ⟨y1,_,rfl,ry1,y2,_,rfl,ry2,rfl⟩
    · refine⟨u1,u2,q1',q2',?_⟩
      rw[<-l1'.length,<-l2'.length]
      simp at hi
      lia⟩
end
def X7:List D->M D:=λds=>match ds with
 |[.str z]=>if z.length<=zo then pure (.int z.length)else M.stuck
 |[.tup l]=>pure (.int l.length)
 |[.ref r]=>do
   match <-O5 r with
   | .lst l=>pure (.int l.length)
   | .rol l=>pure (.int l.length)
   | .dct l=>pure (.int l.length)
   | .rod _=>M.stuck
 |_=>M.stuck
def O4:List D->M D:=λds=>match ds with
 |[.tup l]=>pure (.tup l)
 |[.ref r]=>do
   let l <-O5 r >>= listOf
   pure (.tup l)
 |_=>M.stuck
def EA:List D->M D:=λds=>match ds with
 |[.tup l]=>M6 (.lst l)
 |[.ref r]=>do
   let l <-O5 r >>= listOf
   M6 (.lst l)
 |_=>M.stuck
def gA:List D->M D:=λds=>match ds with
 |[.int i,.int j]=>pure (.int (if j>i then j else i))
 |_=>M.stuck
def qC:List D->M D:=λds=>match ds with
 |[.int i]=>pure (.int (if i<0 then -i else i))
 |_=>M.stuck
def lA:List D->M D:=λds=>match ds with
 |[.int i]=>pure (.int i)
 |[.bl k]=>pure (.int (if k then 1 else 0))
 |_=>M.stuck
def F5:List D->Option (List Int)
 |[]=>some []
 | .int i::r=>(F5 r).map (i :: ·)
 |_=>none
def i6:List D->Option (List Bool)
 |[]=>some []
 | .bl b::r=>(i6 r).map (b :: ·)
 |_=>none
def C1:List D->M D:=λds=>match ds with
 |[.ref r]=>do
   let l <-O5 r >>= listOf
   let bs <-M0 (i6 l)
   pure (.bl (bs.all id))
 |_=>M.stuck
def dA:List D->M D:=λds=>match ds with
 |[.ref r]=>do
   let l <-O5 r >>= listOf
   let bs <-M0 (i6 l)
   pure (.bl (bs.any id))
 |_=>M.stuck
theorem mO{F:List D->M α}{c:Wc}{Z:XC}{H:Hp}{G:DH}{K:α->List Addr->DH->Hp->Prop}(p:d9 c Z μ H (F ds G) K)(h0:F []=M.stuck)(h2:∀a b t,F (a::b::t)=M.stuck)(hn:F [.non]=M.stuck)(hb:∀b,F [.bl b]=M.stuck)(hi:∀b,F [.int b]=M.stuck)(hs:∀b,F [.str b]=M.stuck)(ht:∀b,F [.tup b]=M.stuck)(hf:∀b,F [.fn b]=M.stuck)(hy:∀b,F [.ty b]=M.stuck):∃r,ds= [.ref r]:=by
 rcases ds with _|⟨d,_|⟨_,_⟩⟩
 ·rw[h0]at p;exact p.elim
 · rcases d with _|b|b|b|b|b|b|b
   ·rw[hn]at p;exact p.elim
   ·rw[hb]at p;exact p.elim
   ·rw[hi]at p;exact p.elim
   ·rw[hs]at p;exact p.elim
   ·rw[ht]at p;exact p.elim
   ·exact⟨b,rfl⟩
   ·rw[hf]at p;exact p.elim
   ·rw[hy]at p;exact p.elim
 ·rw[h2]at p;exact p.elim
section
theorem T1(r:t6 c μ H [d] vs):∃v,vs= [v]/\j5 c μ H d v:=by
 obtain⟨v,t,rfl,q,e⟩:=r
 cases e
 exact⟨v,rfl,q⟩
theorem gQ(r:t6 c μ H [d,e] vs):∃v w,vs= [v,w]/\j5 c μ H d v/\j5 c μ H e w:=by
 obtain⟨v,t,rfl,q,v',t',rfl,q',z⟩:=r
 cases z
 exact⟨v,v',rfl,q,q'⟩
theorem mZ:X4 X Z (.builtin "len") X7:=X4.of (F1.or Pq (F1.or lZ nZ)) λxs H Q hE0=>hE0.elim λds μ G rl hr p=>by
 rcases ds with _|⟨_|_|_|z|l|i|_|_,_|⟨_,_⟩⟩<;>try exact p.elim
 all_goals (delta X7 at p;dsimp only at p)
 · obtain⟨v,rfl,r⟩:=T1 rl
   split at p
   · rename_i hz
     exact .inr (.inl ⟨z,by rw[U1 r],hz,d9.ok p hr _ ofI⟩)
   ·exact p.elim
 · obtain⟨v,rfl,r⟩:=T1 rl
   unfold j5 at r
   obtain⟨a,vs,rfl,q,rl'⟩:=r
   exact .inl ⟨a,vs,rfl,.inr q,by rw[<-rl'.length];exact d9.ok p hr _ ofI⟩
 · obtain⟨v,rfl,r⟩:=T1 rl
   unfold j5 at r
   obtain⟨a,m,rfl⟩:=r
   obtain⟨o,g,p1⟩:=N5 p
   have ro:=hr.obj i o a g m
   rcases o with l|l|l|l
   ·obtain⟨vs,q,rl'⟩:=ro;exact .inl ⟨a,vs,rfl,.inl (SqL.of q),by rw[<-rl'.length];exact d9.ok p1 hr _ ofI⟩
   ·obtain⟨vs,q,rl'⟩:=ro;exact .inl ⟨a,vs,rfl,.inl q.sq,by rw[<-rl'.length];exact d9.ok p1 hr _ ofI⟩
   ·obtain⟨kvs,q,rk⟩:=ro;exact .inr (.inr ⟨a,kvs,rfl,q,by rw[<-rk.length];exact d9.ok p1 hr _ ofI⟩)
   ·exact p1.elim
theorem OA{f:List D->M α}{K:α->List Addr->DH->Hp->Prop}(h:v8 c μ G H)(rv:j5 c μ H (.ref r) v)(p:d9 c Z μ H (((O5 r >>= listOf) >>= f) G) K):
 ∃l a vs,v= .ref a/\t6 c μ H l vs/\SqL c.K H a vs/\d9 c Z μ H (f l G) K:=by
 obtain⟨l,a,vs,rfl,rl,p2,hq⟩:=OG h rv p
 refine⟨l,a,vs,rfl,rl,?_,p2⟩
 rcases hq with⟨z,_⟩|⟨_,_,_,⟨_,q⟩|⟨_,q⟩⟩
 ·cases z
 ·exact SqL.of q
 ·exact q.sq
theorem eZ:X4 X Z (.type "tuple") O4:=X4.of Tp λxs H Q hE0=>hE0.elim λds μ G rl hr p=>by
 rcases ds with _|⟨_|_|_|_|l|i|_|_,_|⟨_,_⟩⟩<;>try exact p.elim
 all_goals (delta O4 at p;dsimp only at p)
 · obtain⟨v,rfl,r⟩:=T1 rl
   have r':=r
   unfold j5 at r'
   obtain⟨a,vs,rfl,q,rl'⟩:=r'
   exact⟨a,vs,rfl,.inr ⟨q,d9.ok p hr _ r⟩⟩
 · obtain⟨v,rfl,r⟩:=T1 rl
   obtain⟨l,a,vs,rfl,rl',q,p2⟩:=OA hr r p
   exact⟨a,vs,rfl,.inl ⟨q,λl' hl=>EC hr rl' p2 l' hl⟩⟩
theorem Nb:X4 X Z (.type "list") EA:=X4.of Bg λxs H Q hE0=>hE0.elim λds μ G rl hr p=>by
 rcases ds with _|⟨_|_|_|_|l|i|_|_,_|⟨_,_⟩⟩<;>try exact p.elim
 all_goals (delta EA at p;dsimp only at p)
 · obtain⟨v,rfl,r⟩:=T1 rl
   unfold j5 at r
   obtain⟨a,vs,rfl,q,rl'⟩:=r
   exact⟨a,vs,rfl,.inr q,λl' hl=>U3 hr rl' p l' hl⟩
 · obtain⟨v,rfl,r⟩:=T1 rl
   obtain⟨l,a,vs,rfl,rl',q,p2⟩:=OA hr r p
   exact⟨a,vs,rfl,.inl q,λl' hl=>U3 hr rl' p2 l' hl⟩
theorem AV(hc:X.calm=true):X4 X Z (.builtin "max") gA:=X4.of (oW hc) λxs H Q hE0=>hE0.elim λds μ G rl hr p=>by
 delta gA at p
 rcases ds with _|⟨_|_|i|_|_|_|_|_,t⟩<;>try exact p.elim
 rcases t with _|⟨_|_|j|_|_|_|_|_,_|⟨_,_⟩⟩<;>try exact p.elim
 obtain⟨v,w,rfl,r,r'⟩:=gQ rl
 exact⟨_,_,by rw[K0 r,K0 r'],d9.ok p hr _ ofI⟩
theorem Db:X4 X Z (.builtin "abs") qC:=X4.of kf λxs H Q hE0=>hE0.elim λds μ G rl hr p=>by
 rcases ds with _|⟨_|_|_|_|_|_|_|_,_|⟨_,_⟩⟩<;>try exact p.elim
 all_goals (delta qC at p;dsimp only at p)
 · obtain⟨v,rfl,r⟩:=T1 rl
   exact⟨_,by rw[K0 r],d9.ok p hr _ ofI⟩
theorem Gj:X4 X Z (.type "int") lA:=X4.of dJ7 λxs H Q hE0=>hE0.elim λds μ G rl hr p=>by
 rcases ds with _|⟨_|_|_|_|_|_|_|_,_|⟨_,_⟩⟩<;>try exact p.elim
 all_goals (delta lA at p;dsimp only at p)
 · obtain⟨v,rfl,r⟩:=T1 rl
   exact .inr ⟨_,by rw[L5 r],d9.ok p hr _ ofI⟩
 · obtain⟨v,rfl,r⟩:=T1 rl
   exact .inl ⟨_,by rw[K0 r],d9.ok p hr _ ofI⟩
theorem CP:∀ {l} {ns} {vs} {us},F5 l=some ns->t6 c μ H l vs->v6 vs us->us.length=ns.length/\∀i u,us[i]? =some u->∃t,u=Value.int (ns.getD i 0) t
 |[],_,_,_,e,r,q=>by cases e;cases r;cases q;exact⟨rfl,λi u h=>by simp at h⟩
 |d::ds,ns,_,_,e,r,q=>by
   obtain⟨v,t,rfl,r0,rt⟩:=r
   cases q with
   |cons q0 qt=>
     rcases d with _|_|n|_|_|_|_|_<;>try (cases e;done)
     ·
       replace e:(F5 ds).map (n :: ·)=some ns:=e
       rcases h:F5 ds with _|ms
       ·rw[h]at e;exact J7 e
       ·
         rw[h]at e
         cases e
         obtain⟨h1,h2⟩:=CP h rt qt
         refine⟨by simp[h1],λi u hu=>?_⟩
         cases i with
         |zero=>
           simp at hu;subst hu
           rw[K0 r0]at q0
           exact q0
         |succ i=>simpa using h2 i u (by simpa using hu)
theorem FI:∀ {l} {bs} {vs} {us},i6 l=some bs->t6 c μ H l vs->v6 vs us->us.length=bs.length/\∀i u,us[i]? =some u->u=Value.bool (bs.getD i false)
 |[],_,_,_,e,r,q=>by cases e;cases r;cases q;exact⟨rfl,λi u h=>by simp at h⟩
 |d::ds,ns,_,_,e,r,q=>by
   obtain⟨v,t,rfl,r0,rt⟩:=r
   cases q with
   |cons q0 qt=>
     rcases d with _|n|_|_|_|_|_|_<;>try (cases e;done)
     ·
       replace e:(i6 ds).map (n :: ·)=some ns:=e
       rcases h:i6 ds with _|ms
       ·rw[h]at e;exact J7 e
       ·
         rw[h]at e
         cases e
         obtain⟨h1,h2⟩:=FI h rt qt
         refine⟨by simp[h1],λi u hu=>?_⟩
         cases i with
         |zero=>
           simp at hu;subst hu
           rw[L5 r0]at q0
           exact q0
         |succ i=>simpa using h2 i u (by simpa using hu)
theorem AU(bs:List Bool):((jC bs.length).all λi=>bs.getD i false)=bs.all id:=by
 induction bs with
 |nil=>rfl
 |cons b t ih=>rw[zT,xG,jX,xI,jX];simp[Zi];rw[<-ih];simp
theorem Cc(bs:List Bool):((jC bs.length).any λi=>bs.getD i false)=bs.any id:=by
 induction bs with
 |nil=>rfl
 |cons b t ih=>rw[zT,xG,jW,ZG,jW];simp[Zi];rw[<-ih];simp
theorem iO{σ:St}{a:Addr}{its:List zk}(hc:X.calm=true)(I:Inv X pins σ H s)(hl:s.heap.IsList a its.toArray)
 (h:Walks X.prog X.w X.A.in1 s.heap.objs.size [s.heap.objs.size,a] [s.heap.objs.size] its.toArray.size (λi v=>its.toArray[i]? =some v) (λi h=>h.IsListIter s.heap.objs.size a i/\h.IsList a its.toArray)->
   ∀h2:Heap,(h2.IsListIter s.heap.objs.size a 0/\h2.IsList a its.toArray)->(∀b∈ [s.heap.objs.size,a],b<h2.objs.size)->(∀h' tk,(∀b o,b∉ [s.heap.objs.size]->h2.get? b=some o->h'.get? b=some o)->Inv X pins σ H {s with heap:=h',toks:=tk})->Q (.ref s.heap.objs.size) {s with heap:=h2}):
 zw (zE X.prog X.w) X.A.in1 (Jk (.ref a)) Q E s:=by
 have hlt:a<s.heap.objs.size:=by obtain⟨_,e,_⟩:=hl;exact zr e
 refine xo hl ?_
 have hh:X.A.in1.handled=none:=I.ok.hd hc
 refine h (JP hh s.heap.objs.size a (zD hlt) its.toArray) _ ⟨⟨_,zq _ rfl,rfl,rfl⟩,hl.push _⟩ (λb hb=>?_) λh' tk k=>?_
 · rw[jY]
   simp only[zt,zS,or_false]at hb
   rcases hb with rfl|rfl
   ·exact xr _
   ·exact jO hlt
 ·exact I.kept λb o e=>k b o (by simp only[zC];exact zD (zr e)) (zd _ e)
theorem qf(hc:X.calm=true):X4 X Z (.builtin "all") C1:=⟨by
 intro pins s σ H xs us Q I r hE0
 obtain⟨ds,μ,G,rl,hr,p⟩:=hE0
 obtain⟨i,rfl⟩:=mO p rfl (λa _ _=>by cases a<;>rfl) rfl (λ_=>rfl) (λ_=>rfl) (λ_=>rfl) (λ_=>rfl) (λ_=>rfl) λ_=>rfl
 · obtain⟨v,rfl,rv⟩:=T1 rl
   obtain⟨u,rfl,ru⟩:=Q2 r
   obtain⟨l,a,vs,rfl,rl',q,p2⟩:=OA hr rv p
   cases ru
   obtain⟨bs,en,p3⟩:=U4 p2
   obtain⟨its,rr,pl,hz⟩:=I.list q
   obtain⟨h1,h2⟩:=FI en rl' rr
   refine call_all_walk (iO hc I pl.isList λW g hg hb hk=>⟨_,_,_,_,_,_,λi=>bs.getD i false,rfl,W,hg,λi v s' Q' E' hv hq=>?_,λh' tk k=>?_⟩)
   · rw[h2 i v (by simpa using hv)]
     exact yd hq
   · refine⟨.bl (bs.all id),H,hk h' tk k,?_,d9.ok p3 hr _ ofB⟩
     have e:its.toArray.size=bs.length:=by rw[zj];exact h1
     rw[e,AU];rfl⟩
theorem eX9(hc:X.calm=true):X4 X Z (.builtin "any") dA:=⟨by
 intro pins s σ H xs us Q I r hE0
 obtain⟨ds,μ,G,rl,hr,p⟩:=hE0
 obtain⟨i,rfl⟩:=mO p rfl (λa _ _=>by cases a<;>rfl) rfl (λ_=>rfl) (λ_=>rfl) (λ_=>rfl) (λ_=>rfl) (λ_=>rfl) λ_=>rfl
 · obtain⟨v,rfl,rv⟩:=T1 rl
   obtain⟨u,rfl,ru⟩:=Q2 r
   obtain⟨l,a,vs,rfl,rl',q,p2⟩:=OA hr rv p
   cases ru
   obtain⟨bs,en,p3⟩:=U4 p2
   obtain⟨its,rr,pl,hz⟩:=I.list q
   obtain⟨h1,h2⟩:=FI en rl' rr
   refine call_any_walk (iO hc I pl.isList λW g hg hb hk=>⟨_,_,_,_,_,_,λi=>bs.getD i false,rfl,W,hg,λi v s' Q' E' hv hq=>?_,λh' tk k=>?_⟩)
   · rw[h2 i v (by simpa using hv)]
     exact yd hq
   · refine⟨.bl (bs.any id),H,hk h' tk k,?_,d9.ok p3 hr _ ofB⟩
     have e:its.toArray.size=bs.length:=by rw[zj];exact h1
     rw[e,Cc];rfl⟩
theorem wz(hg:Gl X x)(hm:X.mg x=none)(hv:zX x=some (.type n))(hn:x≠ "__name__")(hd:(x==("__debug__" :Str))=false):DE X Z (.Name x pos) (cE (.ty n)):=
 aD (v:=.ty n) (Mm hg hm hv rfl hn hd) λ_ _=>by unfold j5;rfl
end
def S3:D->M Bool:=λx=>match x with
 | .non=>pure false
 | .bl b=>pure b
 | .int i=>pure (i != 0)
 | .str y=>if y.length<=zo then pure ((y.length:Int) != 0)else M.stuck
 | .tup l=>pure (!l.isEmpty)
 | .ref r=>do
   match <-O5 r with
   | .lst l=>pure (!l.isEmpty)
   | .rol l=>pure (!l.isEmpty)
   | .dct l=>pure (!l.isEmpty)
   | .rod _=>M.stuck
 |_=>M.stuck
def K1(f:Fe):DSt->M Bool:=λσ=>do S3 (<-f σ)
section
theorem nC(r:t6 cc μ H l vs):vs.isEmpty=l.isEmpty:=by
 cases l with
 |nil=>cases r;rfl
 |cons _ _=>obtain⟨_,_,rfl,_⟩:=r;rfl
theorem bQ(r:z0 cc μ H l vs):vs.isEmpty=l.isEmpty:=by
 cases l with
 |nil=>cases r;rfl
 |cons _ _=>obtain⟨_,_,rfl,_⟩:=r;rfl
theorem dV5(ha:DE X Z a fa)(he:∀whole,isTrue a X.env whole= (do let v <-whole;Jd a.pos;YA [v] (truthy v))):DT X Z a (K1 fa):=
 DT.of (gS ha.h he) λσ H Q hE0=>hE0.elim λX9 μ G s h p=>⟨X9,μ,G,s,h,(d9.bind p).mono λd X0 G1 H1 x1 h1 p1 v rv=>by
  cases d with
  |non=>rw[iD rv];exact⟨false,rfl,d9.ok p1 h1⟩
  |bl b=>rw[L5 rv];exact⟨b,rfl,d9.ok p1 h1⟩
  |int b=>rw[K0 rv];exact⟨_,rfl,d9.ok p1 h1⟩
  |str y=>
    rw[U1 rv]
    unfold S3 at p1
    dsimp only at p1
    split at p1
    ·rename_i hz;exact⟨_,⟨hz,rfl⟩,d9.ok p1 h1⟩
    ·exact p1.elim
  |tup l=>
    unfold j5 at rv
    obtain⟨a,vs,rfl,q,rl⟩:=rv
    exact⟨!vs.isEmpty,.inr (.inl ⟨vs,q,rfl⟩),by rw[nC rl];exact d9.ok p1 h1⟩
  |ref r=>
    unfold j5 at rv
    obtain⟨a,m,rfl⟩:=rv
    obtain⟨o,g,p2⟩:=N5 p1
    have ro:=h1.obj r o a g m
    cases o with
    |lst l=>obtain⟨vs,q,rl⟩:=ro;exact⟨!vs.isEmpty,.inl ⟨vs,SqL.of q,rfl⟩,by rw[nC rl];exact d9.ok p2 h1⟩
    |rol l=>obtain⟨vs,q,rl⟩:=ro;exact⟨!vs.isEmpty,.inl ⟨vs,q.sq,rfl⟩,by rw[nC rl];exact d9.ok p2 h1⟩
    |dct l=>obtain⟨vs,q,rl⟩:=ro;exact⟨!vs.isEmpty,.inr (.inr ⟨vs,q,rfl⟩),by rw[bQ rl];exact d9.ok p2 h1⟩
    |rod l=>exact p2.elim
  |_=>exact p1.elim⟩
def C9(o o':D->D->M D)(fa fb fc:Fe):Fe:=λσ=>do
 let x <-fa σ
 let y <-fb σ
 if <-AD (<-o x y)then o' y (<-fc σ)else pure (.bl false)
theorem Lf(ho:OpD X Z (zO op) o)(ho':OpD X Z (zO op') o')(ha:DE X Z a fa)(hb:DE X Z b fb)(hc:DE X Z c fc)
 (hm:lastMarks [op,op'] [b,c]=false):DE X Z (.Compare a [op,op'] [b,c] pos) (C9 o o' fa fb fc):=
 DE.of (dS5 ho.h ho'.h ha.h hb.h hc.h hm) λσ H Q hE0=>hE0.elim λX9 μ G s h p=>⟨X9,μ,G,s,h,(d9.bind p).mono λx X0 G1 H1 x1 h1 p1 v rv=>
  ⟨X9,X0,G1,s.mono x1,h1,(d9.bind p1).mono λy WY G2 H2 x2 h2 p2 u ru=>⟨x,y,WY,G2,rv.mono x2,ru,h2,(d9.bind p2).mono λz WP G3 H3 x3 h3 p3 w rw'=>by
   obtain⟨k,rfl,p4⟩:=tJ p3
   refine⟨k,L5 rw',?_⟩
   cases k with
   |true=>exact⟨X9,WP,G3,s.mono (x1.trans (x2.trans x3)),h3,(d9.bind p4).mono λt WL G4 H4 x4 h4 p5 q rq=>⟨y,t,WL,G4,ru.mono (x3.trans x4),rq,h4,p5⟩⟩
   |false=>exact d9.ok p4 h3 _ ofB⟩⟩⟩
end
def VF(osc scope:Scope)(N XN:List Str)(caps:List (Option Nat)):Bool:=
 decide (scope.kind= .function)&&scope.names.all (λy=>decide (y.2≠ .cell))&&scope.names.all (λy=>decide (y.2= .local->scope.names.lookup y.1=some .local)) &&
 scope.names.all (λy=>decide (y.2= .free->(osc.names.lookup y.1=some .cell\/osc.names.lookup y.1=some .free)))&&scope.names.all (λy=>decide (y.2= .free->scope.names.lookup y.1=some .free)) &&
 decide (caps.length=N.length)&&(jC caps.length).all λi=>match caps[i]? with
  |some (some j)=>match N[i]?,XN[j]? with
    |some x,some y=>decide (x=y)&&decide ((x,NameKind.free)∈scope.names)
    |_,_=>false
  |_=>true
theorem E4.of{caps:List (Option Nat)}(h:VF osc scope N XN caps=true)(hs:X.env.scope=osc)(hN:X.N=XN):E4 X scope N caps:=by
 unfold VF at h
 simp only[jp,decide_eq_true_eq,yN]at h
 obtain⟨⟨⟨⟨⟨⟨h1,h2⟩,h3⟩,h4⟩,h5⟩,h6⟩,h7⟩:=h
 refine⟨h1,h2,h3,λy hy e=>?_,h5,h6,λi j e=>?_⟩
 · have:=h4 y hy e
   show X.env.scope.names.lookup y.1=_\/X.env.scope.names.lookup y.1=_
   rw[hs];exact this
 · have hi:i∈jC caps.length:=by rw[Zl];exact lt_of_get e
   have q:=h7 i hi
   simp only[e]at q
   rw[hN]
   split at q
   · rename_i x y e1 e2
     simp only[jp,decide_eq_true_eq]at q
     exact⟨x,e1,by rw[e2,q.1],q.2⟩
   ·exact i5 q
def u0(m:Nat)(fb:Fs):List D->M D:=λds=>do
 match <-fb (ds.map some++zu (m-ds.length) none) with
 | .nx _=>pure .non
 | .rt d=>pure d
 |_=>M.stuck
structure FF(K:zh)(mg:Str->Option zk)(x:Str)(st:Stmt)(ps:List Str)(f:Addr)(fd:xl):Prop where
 F:Fun K x x st f fd
 b:D5 K fd ps []
 m:mg x=some (.ref f)
theorem eX(r:t6 c μ H ds vs):K7 c μ H (ds.map some++zu (N.length-ds.length) none) (L2.start N vs):=by
 unfold L2.start
 rw[r.length]
 refine⟨by simp[r.length],λi d e=>?_⟩
 by_cases hi:i<ds.length
 · rw[zF (by simpa using hi),zV]at e
   have hd:ds[i]? =some d:=by
    cases h:ds[i]? with
    |none=>rw[h]at e;exact J7 e
    |some d'=>rw[h]at e;simpa using e
   obtain⟨v,hv,rv⟩:=r.get hd
   refine⟨v,?_,rv⟩
   rw[zF (by simp;rw[<-r.length];exact hi),zV,hv]
   rfl
 · rw[yy (by simpa using hi),Zy]at e
   split at e<;>cases e
theorem uL{w:jg}{K:zh}{base:Heap}{x:Str}{st:Stmt}{f:Addr}{k n m:Nat}{fb:Fs}(F:FF K mg x st ps f fd)(S:x5 N ps (M3 st))(hn:ps.length=n)(hm:N.length=m)
 (hbody:∀(cdv:zk) (A:jr) (outer:List Env) (s:zv) (H:Hp) (E:XK),V5 k (A.deeper (ZI x (M3 st) s.heap.objs.size f cdv))->DB (u7 CX0 P w K mg base N x (M3 st) f cdv A outer s H E).nox ZF (i4 st) fb):
 O0 P w K mg base CX0 (k+1) f fd ps (spD ⟨K,mg⟩ n (u0 m fb)):=by
 refine F.F.ok S (λvs H Q E h=>by rw[hn];exact h.1) λcdv A outer s H vs Q E hr h=>⟨_,(hbody cdv A outer s H E hr).h,?_⟩
 obtain⟨hl,ds,μ,G,rl,hG,p⟩:=h
 subst hm
 refine⟨_,μ,G,eX rl,hG,(d9.bind p).mono λfl X0 G1 H1 x1 h1 p1=>?_⟩
 cases fl with
 |nx X9=>exact λσ _=>d9.ok p1 h1 _ ofN
 |rt d=>exact λv rv=>d9.ok p1 h1 v rv
 |bk _=>exact p1.elim
 |ct _=>exact p1.elim
def TF(K:zh):Sp:=λvs H Q _=>∃(a:Addr) (ns:List Int),vs= [.ref a]/\SqL K H a (ns.map V.int)/\AG H/\ns.length<=63/\∀H',Q (.bl true) H'
theorem fL:∀ns:List Int,t6 c μ H (ns.map D.int) (ns.map V.int)
 |[]=>rfl
 |n::t=>⟨.int n,_,rfl,ofI,fL t⟩
theorem wW{w:jg}{K:zh}{base:Heap}{f:Addr}{k:Nat}(hF:O0 P w K mg base CX0 k f fd ["script"] (spD ⟨K,mg⟩ 1 F))
 (pure:∀ns:List Int,ns.length<=63->∃G',F [.ref 0] [.rol (ns.map D.int)]=some (.ok (.bl true),G')):O0 P w K mg base CX0 k f fd ["script"] (TF K):=
 hF.imp λvs H Q E h=>by
  obtain⟨a,ns,rfl,hS,hO,hl,q⟩:=h
  obtain⟨G',e⟩:=pure ns hl
  refine⟨rfl, [.ref 0], [a], [.rol (ns.map D.int)],⟨.ref a, [],rfl,by unfold j5;exact⟨a,rfl,rfl⟩,rfl⟩,⟨rfl,λi j b e1 e2=>?_,λi o b e1 e2=>?_⟩,?_⟩
  · have h1:=lt_of_get e1
    have h2:=lt_of_get e2
    simp at h1 h2
    left;lia
  · have h1:=lt_of_get e2
    simp at h1
    subst h1
    have e1':o= .rol (ns.map D.int):=by simpa using e1.symm
    have e2':b=a:=by simpa using e2.symm
    subst e1' e2'
    refine⟨ns.map V.int,?_,fL ns⟩
    rcases hS with(hS|⟨o,hS⟩)|hS
    · rcases hO b with z|⟨o,xs,z⟩
      ·rw[z]at hS;exact J7 hS
      ·rw[z]at hS;cases hS
    ·exact .inl ⟨o,hS⟩
    ·exact .inr (.inr hS)
  · rw[e]
    exact λX2 H' _ _ v rv=>by rw[L5 rv];exact q H'
theorem Cj:zX "len" =some (.builtin "len"):=by decide +kernel
theorem vw:zX "isinstance" =some (.builtin "isinstance"):=by decide +kernel
theorem Bd:zX "all" =some (.builtin "all"):=by decide +kernel
theorem Bx:zX "any" =some (.builtin "any"):=by decide +kernel
theorem eV:zX "min" =some (.builtin "min"):=by decide +kernel
theorem KL:zX "max" =some (.builtin "max"):=by decide +kernel
theorem Tf:zX "abs" =some (.builtin "abs"):=by decide +kernel
theorem NI:zX "sorted" =some (.builtin "sorted"):=by decide +kernel
theorem VY:zX "tuple" =some (.type "tuple"):=by decide +kernel
theorem vY:zX "list" =some (.type "list"):=by decide +kernel
theorem OS:zX "int" =some (.type "int"):=by decide +kernel
theorem eH0:zX "dict" =some (.type "dict"):=by decide +kernel
theorem fB5:zX "zip" =some (.type "zip"):=by decide +kernel
end DL
namespace DL
open PySem L2
def Wp{α:Type}(m:M α)(G:DH)(Q:α->DH->Prop):Prop:=∃a G',m G=some (.ok a,G')/\Q a G'
section
theorem Wp.mono(h:Wp m G Q)(k:∀a G',Q a G'->Q' a G'):Wp m G Q':=let ⟨a,G',e,q⟩:=h;⟨a,G',e,k a G' q⟩
theorem m5:Wp (pure a) G Q↔Q a G:=by
 constructor
 · rintro⟨b,G',e,q⟩
   cases e
   exact q
 ·exact λq=>⟨a,G,rfl,q⟩
theorem qA:Wp (M.stuck:M α) G Q↔False:=by
 constructor
 · rintro⟨b,G',e,q⟩
   exact J7 e
 ·exact yx
theorem j9:Wp (m >>= f) G Q↔Wp m G λa G1=>Wp (f a) G1 Q:=by
 constructor
 · rintro⟨a,G',e,q⟩
   rw[M.bind_eq]at e
   match h:m G,e with
   |some (.ok b,G1),e=>exact⟨b,G1,h,a,G',e,q⟩
 · rintro⟨b,G1,e,a,G',e',q⟩
   exact⟨a,G',by rw[M.bind_ok e];exact e',q⟩
theorem L8(h:m G=some (.ok a,G')):Wp m G Q↔Q a G':=⟨fun⟨b,G2,e,q⟩=>by rw[h]at e;cases e;exact q,λq=>⟨a,G',h,q⟩⟩
theorem D3:Wp (M0 o) G Q↔∃a,o=some a/\Q a G:=by
 rcases o with _|a
 ·
   constructor
   · rintro⟨_,_,e,_⟩
     exact J7 e
   · rintro⟨_,e,_⟩
     exact J7 e
 ·
   constructor
   · rintro⟨_,_,e,q⟩
     cases e
     exact⟨_,rfl,q⟩
   · rintro⟨_,e,q⟩
     cases e
     exact⟨_,_,rfl,q⟩
theorem O3{Q:DO->DH->Prop}:Wp (O5 r) G Q↔∃o,G[r]? =some o/\Q o G:=by
 constructor
 · rintro⟨a,G',e,q⟩
   delta O5 at e
   rcases h:G[r]? with _|o
   ·rw[h]at e;exact J7 e
   ·rw[h]at e;cases e;exact⟨_,rfl,q⟩
 · rintro⟨o,e,q⟩
   refine⟨o,G,?_,q⟩
   delta O5
   rw[e]
theorem Q8{Q:DPP}:Wp (M6 o) G Q↔Q (.ref G.length) (G++[o]):=L8 rfl
theorem QD{Q:Unit->DH->Prop}:Wp (S4 r o) G Q↔Q () (G.set r o):=L8 rfl
end
section
theorem Q5:Wp (b8 i σ) G Q↔∃d,σ[i]? =some (some d)/\Q d G:=by
 constructor
 · rintro⟨d,G',e,q⟩
   delta b8 at e
   rcases h:σ[i]? with _|o
   ·rw[h]at e;exact J7 e
   ·
     rw[h]at e
     rcases o with _|d'
     ·exact J7 e
     ·cases e;exact⟨_,rfl,q⟩
 · rintro⟨d,h,q⟩
   exact⟨d,G,by delta b8;rw[h],q⟩
theorem c9:Wp (cE d σ) G Q↔Q d G:=m5
theorem u4:Wp (c7 o a b σ) G Q↔Wp (a σ) G λx G1=>Wp (b σ) G1 λy G2=>Wp (o x y) G2 Q:=by unfold c7;simp only[j9]
theorem MN:Wp (unE o a σ) G Q↔Wp (a σ) G λx G1=>Wp (o x) G1 Q:=by unfold unE;simp only[j9]
theorem C8:Wp (if k=true then m else n) G R↔if k=true then Wp m G R else Wp n G R:=by cases k<;>exact Iff.rfl
theorem vP:Wp (AD d) G B↔∃k,d= .bl k/\B k G:=by
 constructor
 · rintro⟨k,G',e,q⟩
   rcases d with _|b|_|_|_|_|_|_<;>try (cases e;done)
   ·cases e;exact⟨_,rfl,q⟩
 · rintro⟨k,e,q⟩
   subst e
   exact⟨k,G,rfl,q⟩
theorem VH:Wp (ifE t a b σ) G Q↔Wp (t σ) G λk G1=>if k=true then Wp (a σ) G1 Q else Wp (b σ) G1 Q:=by unfold ifE;simp only[j9,C8]
theorem F8:Wp (m7 a σ) G B↔Wp (a σ) G λx G1=>∃k,x= .bl k/\B k G1:=by unfold m7;simp only[j9,vP]
theorem fB:Wp (K1 a σ) G B↔Wp (a σ) G λx G1=>Wp (S3 x) G1 B:=by unfold K1;simp only[j9]
theorem EQ:Wp (D0 t u σ) G B↔Wp (t σ) G λk G1=>if k=true then Wp (u σ) G1 B else B false G1:=by unfold D0;simp only[j9,C8,m5]
theorem eZ7:Wp (orT t u σ) G B↔Wp (t σ) G λk G1=>if k=true then B true G1 else Wp (u σ) G1 B:=by unfold orT;simp only[j9,C8,m5]
theorem GK:Wp (L1 t σ) G B↔Wp (t σ) G λk G1=>B (!k) G1:=by unfold L1;simp only[j9,m5]
theorem m8:Wp (g0 σ) G R↔R [] G:=m5
theorem R4:Wp (d0 a fs σ) G R↔Wp (a σ) G λx G1=>Wp (fs σ) G1 λxs G2=>R (x::xs) G2:=by unfold d0;simp only[j9,m5]
theorem V1:Wp (x0 F fs σ) G Q↔Wp (fs σ) G λds G1=>Wp (F ds) G1 Q:=by unfold x0;simp only[j9]
theorem aC{α:Type}{m:M α}{R:α->DH->Prop}:Wp (noX m) G R↔Wp m G R:=by
 constructor
 · rintro⟨x,G',e,q⟩
   delta noX at e
   rcases h:m G with _|p
   ·rw[h]at e;exact J7 e
   ·
     rw[h]at e
     obtain⟨_|y,G1⟩:=p
     ·exact J7 e
     ·cases e;exact⟨_,_,h,q⟩
 · rintro⟨x,G',e,q⟩
   exact⟨x,G',by delta noX;rw[e],q⟩
theorem V7:Wp (fnX n F ds) G Q↔ds.length=n/\Wp (F ds) G Q:=by
 unfold fnX
 by_cases h:ds.length=n
 ·rw[if_pos h,aC];exact⟨λq=>⟨h,q⟩,λq=>q.2⟩
 ·rw[if_neg h];exact⟨λq=>(qA.mp q).elim,λq=>(h q.1).elim⟩
theorem S7:Wp (M4 fs σ) G Q↔Wp (fs σ) G λxs G1=>xs.length<=zo/\Q (.tup xs) G1:=by
 unfold M4
 simp only[j9]
 constructor
 · rintro⟨xs,G1,e,q⟩
   refine⟨xs,G1,e,?_⟩
   by_cases h:xs.length<=zo
   ·rw[if_pos h]at q;exact⟨h,m5.mp q⟩
   ·rw[if_neg h]at q;exact(qA.mp q).elim
 · rintro⟨xs,G1,e,h,q⟩
   exact⟨xs,G1,e,by dsimp only;rw[if_pos h];exact m5.mpr q⟩
theorem T2:Wp (R7 fs σ) G Q↔Wp (fs σ) G λxs G1=>xs.length<=zo/\Q (.ref G1.length) (G1++[.lst xs]):=by
 unfold R7
 simp only[j9]
 constructor
 · rintro⟨xs,G1,e,q⟩
   refine⟨xs,G1,e,?_⟩
   by_cases h:xs.length<=zo
   ·rw[if_pos h]at q;exact⟨h,Q8.mp q⟩
   ·rw[if_neg h]at q;exact(qA.mp q).elim
 · rintro⟨xs,G1,e,h,q⟩
   exact⟨xs,G1,e,by dsimp only;rw[if_pos h];exact Q8.mpr q⟩
theorem t7:Wp (o9 σ) G P↔P (.nx σ) G:=m5
theorem j6:Wp (j8 f g σ) G P↔Wp (f σ) G λfl G1=>match fl with
 | .nx X1=>Wp (g X1) G1 P
 |r=>P r G1:=by
 delta j8
 refine Iff.trans j9 ?_
 constructor
 · rintro⟨fl,G1,e,q⟩
   refine⟨fl,G1,e,?_⟩
   cases fl<;>first
    |exact q
    |exact m5.mp q
 · rintro⟨fl,G1,e,q⟩
   refine⟨fl,G1,e,?_⟩
   cases fl<;>first
    |exact q
    |exact m5.mpr q
theorem L3:Wp (o4 a σ) G P↔Wp (a σ) G λd G1=>P (.rt d) G1:=by unfold o4;simp only[j9,m5]
theorem nA:Wp (F3 a σ) G P↔Wp (a σ) G λ_ G1=>P (.nx σ) G1:=by unfold F3;simp only[j9,m5]
theorem g9:Wp (ifS t f g σ) G P↔Wp (t σ) G λk G1=>if k=true then Wp (f σ) G1 P else Wp (g σ) G1 P:=by unfold ifS;simp only[j9,C8]
theorem W6:Wp (u9 a gg σ) G P↔Wp (a σ) G λd G1=>Wp (gg d σ) G1 λX1 G2=>P (.nx X1) G2:=by unfold u9;simp only[j9,m5]
theorem N6:Wp (y0 i d σ) G S↔S (σ.set i (some d)) G:=m5
theorem W9:Wp (u0 m f ds) G Q↔Wp (f (ds.map some++zu (m-ds.length) none)) G λfl G1=>match fl with
 | .nx _=>Q .non G1
 | .rt d=>Q d G1
 |_=>False:=by
 delta u0
 refine Iff.trans j9 ?_
 constructor
 · rintro⟨fl,G1,e,q⟩
   refine⟨fl,G1,e,?_⟩
   cases fl<;>first
    |exact m5.mp q
    |exact qA.mp q
 · rintro⟨fl,G1,e,q⟩
   refine⟨fl,G1,e,?_⟩
   cases fl<;>first
    |exact m5.mpr q
    |exact qA.mpr q
def mJ(o:Option Bool)(g:Bool->Bool)(G:DH):Option (Except Str D×DH):=match o with
 |some b=>some (.ok (.bl (g b)),G)
 |none=>none
theorem iE{g:Bool->Bool}(h:m G=mJ o g G):Wp m G Q↔∃k,o=some k/\Q (.bl (g k)) G:=by
 unfold Wp
 rw[h]
 rcases o with _|k
 ·
   constructor
   · rintro⟨_,_,e,_⟩
     exact J7 e
   · rintro⟨_,e,_⟩
     exact J7 e
 ·
   constructor
   · rintro⟨_,_,e,q⟩
     cases e
     exact⟨_,rfl,q⟩
   · rintro⟨_,e,q⟩
     cases e
     exact⟨_,_,rfl,q⟩
theorem eE:Wp (eqD x y) G Q↔∃k,eqN 40 G x y=some k/\Q (.bl k) G:=iE rfl
theorem cA:Wp (neD x y) G Q↔∃k,eqN 40 G x y=some k/\Q (.bl (!k)) G:=iE rfl
theorem BI:Wp (ltD x y) G Q↔∃k,ltN 40 G x y=some k/\Q (.bl k) G:=iE rfl
end
end DL
namespace DL
open PySem PySem.Spec L2
open PyProof.Rows hiding St
section
theorem Rh(hc:X.calm=true)(hi:DI X Z tg iter it)(k:E4 X scope N caps)
 (hg:∀C s H ex,DG (S6 X scope N C s H ex) ZF tg gg) (ht:∀C s H ex,DTs (S6 X scope N C s H ex) ZF ifs tt) (he:∀C s H ex,DE (S6 X scope N C s H ex) ZF elt fe)
 (hs:∀x,yJ iter X.env x=pure x) (hgo:DG X Z (.Name y py) g2) (hsw:swapsWith (.ListComp elt [⟨tg,iter,ifs,0⟩] scope pos) (some (.Name y py)) spos.line X.env=pure true):
 DS X Z (.Assign [.Name y py] (.ListComp elt [⟨tg,iter,ifs,0⟩] scope pos) spos) (u9 (J5 it caps gg tt fe) g2):=by
 refine⟨?_⟩
 intro pins s σ H En I hE0
 refine hE0.elim λX9 μ G sr hr p0=>?_
 obtain⟨Q,hQ,p⟩:∃Q:VK,(∀v H',Q v H'->tB (wc X) Z g2 v σ H' En.nx)/\d9 (wc X) Z μ H (J5 it caps gg tt fe X9 G) λd X2 _ H'=>∀v,j5 (wc X) X2 H' d v->Q v H':=
  ⟨λv H'=>tB (wc X) Z g2 v σ H' En.nx,λ_ _ z=>z,(d9.bind p0).mono λd X0 G1 H1 x' h1 p1 v rv=>⟨d,X9,X0,G1,rv,sr.mono x',h1,(d9.bind p1).mono λdσ2 WY G2 H2 x2 h2 p2 σ2 s2=>d9.ok p2 h2 σ2 s2⟩⟩
 rw[exec_Assign_Name_used _ _ _ _ hsw]
 refine za (ZH (za ?_))
 show zw _ X.A (do let _ <-comprehension (.ListComp elt [⟨tg,iter,ifs,0⟩] scope pos) scope X.env _ (newList []) false (eval iter X.env) (some (Yc (.Name y py) X.env))) _ _ s
 refine za (jz (GO hc hi k hg ht he hs I sr hr p λDD C s4 H' m o hn fin hCn hf q9=>?_) (λ_ s' hq=>zp (zp hq)) λ_ _ e=>e)
 have fC:∀ {H9:Hp},H9 C=none->∀b∈ [C],B1 X pins H9 b:=λ{H9} hn9 b hb=>by
  rw[zC]at hb
  subst hb
  exact hf H9 hn9
 obtain⟨oC,zC1,zC2,hoC,zC3⟩:=id hn
 have I5:=(fin s4.heap ⟨rfl,λ_ _=>rfl⟩).pinned (fC hCn) (λb hb=>by
  rw[zC]at hb
  subst hb
  exact⟨oC,hoC,λv z=>by first|(rw[zC3.1]at z;cases z)|(rw[zC3.2.1]at z;cases z)⟩)
 refine thn (hgo.h _ s4 σ H' (.ref DD) (.ref DD) _ I5 rfl (hQ _ _ q9)) λ_ s5 ⟨σ5,H5,I6,q6⟩=>?_
 obtain⟨g5,g5n,_⟩:=I6.pin (C,oC) (zJ _ (zJ _ (LA (by simp) hoC)))
 refine⟨m,hn.at' (λo e=>by rw[hoC]at e;cases e;exact g5),λh'' sb=>⟨σ5,H5,DK I6.unpinned (fC g5n) λb o hb e=>(sb.2 b (by simpa using hb)).trans e,q6⟩⟩
end
def E3:List D->Option (List Str)
 |[]=>some []
 | .str x::r=>(E3 r).map (x :: ·)
 |_=>none
def K6:List (Key×D)->Option (List Str)
 |[]=>some []
 |(.inr x,_)::r=>(K6 r).map (x :: ·)
 |_=>none
def leS(a b:Str):Bool:= !decide (b.cps.toList<a.cps.toList)
def B2(l:List Str):List Str:=l.mergeSort leS
theorem HG:leS a b=true↔a.cps.toList<=b.cps.toList:=by unfold leS;simp
theorem bK(a b c:Str)(h1:leS a b=true)(h2:leS b c=true):leS a c=true:=by
 rw[HG]at *;exact List.le_trans h1 h2
theorem pN(a b:Str):(leS a b||leS b a)=true:=by
 rw[Xi,HG,HG];exact List.le_total _ _
theorem GR(h1:leS a b=true)(h2:leS b a=true):a=b:=by
 rw[HG]at *
 have e:a.cps.toList=b.cps.toList:=List.le_antisymm h1 h2
 cases a;cases b
 congr 1
 exact YM.mp e
theorem KM:∀l p,risingS p l=true->(p::l).Pairwise λa b=>leS a b=true
 |[],p,_=>by simp
 |x::r,p,h=>by
   unfold risingS at h
   rw[jp]at h
   have ih:=KM r x h.2
   have hpx:leS p x=true:=by unfold leS;rw[<-ltCps_eq];exact h.1
   refine jb.mpr ⟨λy hy=>?_,ih⟩
   rcases zt.mp hy with rfl|hy
   ·exact hpx
   ·exact bK _ _ _ hpx ((jb.mp ih).1 y hy)
theorem gN(hp:l'.Perm l)(hs:sortedS l'=true):l'=B2 l:=by
 have h1:l'.Pairwise λa b=>leS a b=true:=by
  rcases l' with _|⟨x,r⟩
  ·simp
  ·exact KM r x hs
 have h2:(B2 l).Pairwise λa b=>leS a b=true:=xA bK pN l
 exact Xc (λa b _ _ h1 h2=>GR h1 h2) h1 h2 (hp.trans (jL l leS).symm)
section
theorem UR(K:PySem.W.KdlSrc prog w T r d n P OK)(hh:A.handled=none)(hok:OK s.heap)(hn:n<64)(hP:∀vs:List zk,vs.length=n->(∀(j:Nat) v,vs[j]? =some v->P j v)->StrsAre vs ss)
 (h:∀(h1 h':Heap) (tk e:Nat) out ss',(∀b o,s.heap.get? b=some o->h1.get? b=some o)->(∀b o,h1.get? b=some o->h'.get? b=some o)->h'.get? h1.objs.size=some (ju "list" out.toArray e)->StrsAre out ss'->ss'.Perm ss->sortedS ss'=true->Q (.ref h1.objs.size) {s with heap:=h',toks:=tk}):
 zw (zE prog w) A (call (.builtin "sorted") [.ref r]) Q E s:=by
 have hz:n<=zo:=zG (yV hn) (by decide)
 refine Xs kind_sorted plain_sorted entry_sorted (args_sorted1 _) ?_
 unfold yj.«sorted»
 refine za (zp ?_)
 refine za (Je K hh hok hz λh1 tk acc hk hacc=>?_)
 have hl:acc.toList.length=n:=by rw[jK];exact hacc.1
 refine za (Ze ?_ (by rw[hl];exact hz))
 have hS:StrsAre acc.toList ss:=hP acc.toList hl λj v e=>hacc.2 j v (by rw[<-jB];exact e)
 have hoL:(h1.push (ju "list" acc.toList.toArray 0)).get? h1.objs.size=some (ju "list" acc.toList.toArray 0):=zq _ rfl
 refine za (jI (jE Jt ⟨_,hoL,rfl⟩ Jb (list_sort_treeK strKind_oneLt hoL hS.keysOf (λv₁ v₂ W2 e=>keyKind_strs (by rw[<-e];exact hS)) (by rw[hl];exact hn) λst' a1 a2=>⟨_,rfl,?_⟩) (args_list_sort _)))
 obtain⟨ss',b1,b2,b3⟩:=sorted_out_str hS a1 a2
 obtain⟨e,he⟩:=sortedHeap_at hoL
 refine zp ⟨_,rfl,h h1 _ tk e ((yh st').map (·.2)).toList ss' hk (λb o hb=>?_) (by rw[ZV];exact he) b1 b2 b3⟩
 have hlt:b<h1.objs.size:=zr hb
 rw[sortedHeap_old (zD hlt) (by rw[Yg];exact jO hlt),xE _ _ _ (zD hlt)]
 exact hb
end
def dI:List D->M D:=λds=>match ds with
 |[.ref r]=>do
   match <-O5 r with
   | .dct l=>do
     let ss <-M0 (K6 l)
     if ss.length<64 then M6 (.lst ((B2 ss).map .str))else M.stuck
   |_=>M.stuck
 |_=>M.stuck
section
theorem NJ:∀ {l} {ss},K6 l=some ss->ss.length=l.length
 |[],_,e=>by cases e;rfl
 |(.inr x,_)::r,ss,e=>by
  replace e:=show (K6 r).map (_ :: ·)=some _ from e
  rcases h:K6 r with _|t
  ·rw[h]at e;cases e
  ·rw[h]at e;cases e;simp[NJ h]
 |(.inl _,_)::_,_,e=>by cases e
theorem WI{w:jg}:∀ {l} {ss:List Str} {kvs} {xs} {vs},K6 l=some ss->z0 c μ H l kvs->KV kvs xs->vs.length=xs.length->
 (∀(j:Nat) (v:zk),vs[j]? =some v->∃k x,xs[j]? =some (k,x)/\(Q9 P w).is k v=true)->StrsAre vs ss
 |[],_,_,xs,vs,e,r,kv,hl,hv=>by
   cases e;cases r;cases kv
   rcases vs with _|⟨_,_⟩
   ·exact .nil
   ·simp at hl
 |(.inr x,d)::t,ss,kvs,xs,vs,e,r,kv,hl,hv=>by
  replace e:=show (K6 t).map (_ :: ·)=some _ from e
  rcases h:K6 t with _|q
  ·rw[h]at e;cases e
  ·
    rw[h]at e
    cases e
    obtain⟨v0,tl,rfl,r0,rt⟩:=r
    cases kv with
    |cons hk ht=>
      cases vs with
      |nil=>simp at hl
      |cons u us=>
        obtain⟨k,y,e1,e2⟩:=hv 0 u rfl
        simp only[zy,zH]at e1
        have hk1:(Sum.inr x:Key)=_:=hk.1
        rw[e1]at hk1
        have e3:uA (.inr x) u=true:=by rw[hk1];exact e2
        rcases O8 e3 with⟨_,_,z,_⟩|⟨x',t',z,eu⟩
        ·cases z
        · cases z
          subst eu
          exact .cons _ _ (WI h rt ht (by simpa using hl) λj v hj=>by simpa using hv (j+1) v (by simpa using hj))
 |(.inl _,_)::_,_,_,_,_,e,_,_,_,_=>by cases e
theorem nG:∀ {out} {ss},StrsAre out ss->∃vs,vs=ss.map V.str/\v6 vs out/\t6 c μ H (ss.map D.str) vs
 |_,_,.nil=>⟨[],rfl,.nil,rfl⟩
 |_,_,.cons x t q=>by
   obtain⟨vs,e,h1,h2⟩:=nG q
   subst e
   exact⟨_,rfl,.cons ⟨t,rfl⟩ h1,_,_,rfl,by unfold j5;rfl,h2⟩
theorem dI9(hc:X.calm=true):X4 X Z (.builtin "sorted") dI:=⟨by
 intro pins s σ H xs us Q I r hE0
 obtain⟨ds,μ,G,rl,hr,p⟩:=hE0
 rcases ds with _|⟨_|_|_|_|_|i|_|_,_|⟨_,_⟩⟩<;>try exact p.elim
 all_goals (delta dI at p;dsimp only at p)
 · obtain⟨v,rfl,rv⟩:=T1 rl
   obtain⟨u,rfl,ru⟩:=Q2 r
   unfold j5 at rv
   obtain⟨a,m,rfl⟩:=rv
   cases ru
   obtain⟨o,g,p1⟩:=N5 p
   have ro:=hr.obj i o a g m
   cases o with
   |dct l=>
     obtain⟨kvs,q,rk⟩:=ro
     obtain⟨ss,es,p2⟩:=U4 p1
     split at p2
     case isFalse=>exact p2.elim
     rename_i h64
     obtain⟨z,hd,vs,rel,dd⟩:=UB I.hok q
     obtain⟨ep,hat⟩:=dd.dictAt
     have hn:vs.length=ss.length:=by rw[NJ es,<-rel.length,<-rk.length]
     refine UR (JS hd) (I.ok.hd hc) hat (by omega) (λus hl hu=>WI es rk rel (by omega) hu) λh1 h' tk e out ss' k1 k2 he hS hp hs=>?_
     have e2:=gN hp hs
     subst e2
     obtain⟨ws,ew,rv,rl2⟩:=nG (μ:=μ) hS
     have I1:Inv X pins σ H {s with heap:=h1,toks:=tk}:=I.kept k1
     have hf:=I1.hok.fresh (zn _)
     have hlen:ws.length<=zo:=by
      rw[ew,zg]
      have:=(jL ss leS).length_eq
      have e3:(B2 ss).length=ss.length:=this
      have:(64:Nat)<=zo:=by decide
      omega
     refine⟨.ref h1.objs.size,upd H h1.objs.size (.lst ws),I1.laid k2 (zn _) ⟨hlen,out,e,rv,he⟩,rfl,U3 hr rl2 p2 _ hf⟩
   |lst l=>exact p1.elim
   |rod l=>exact p1.elim
   |rol l=>exact p1.elim⟩
end
def Its(z:Str):It:=⟨λi _=>∃c,z.cps[i]? =some c,λi H x H'=>H'=H/\∃c,z.cps[i]? =some c/\x= .str ⟨#[c]⟩,λi _=>z.cps[i]? =none⟩
theorem BY{K:zh}(z:Str)(t:Tok)(it:Addr):F7 P w K tg (Its z) [it] it (λi h=>h.IsStrIter it "str_ascii_iterator" z t i) where
 mem:=by simp
 obj:=λi h st b hb=>by
  have e:b=it:=by simpa using hb
  subst e
  obtain⟨o,e,c,d⟩:=st
  exact⟨o,e,λv z=>by rw[d]at z;cases z⟩
 keep:=λi h h' st k=>let ⟨o,ho,r⟩:=st;⟨o,k it (by simp) o ho,r⟩
 item:=by
  intro X hP hw hK hc i pins s σ H E I hf st hg
  subst hP hw hK
  obtain⟨c,hx⟩:=hg
  obtain⟨f0,f1,f2,f3,f4,f5⟩:=hf it (by simp)
  refine wpAny_pyNext_ascii_item st hx λh' st' sb=>?_
  have I1:Inv X pins σ H {s with heap:=h',toks:=s.toks+1}:=I.turned (λb o hb e=>(sb.2 b hb).trans e) f0 f1 f3 f4 f5
  obtain⟨o,e,cc,d⟩:=id st'
  exact⟨_,rfl,sB e cc d (by decide) ⟨.str ⟨#[c]⟩,H,I1,⟨_,rfl⟩,⟨rfl,c,hx,rfl⟩,st',λb hb=>(hf b hb).1⟩⟩
 done:=by
  intro X hP hw hK hc i pins s σ H E I hf st hg
  subst hP hw hK
  obtain⟨f0,f1,f2,f3,f4,f5⟩:=hf it (by simp)
  exact wpAny_pyNext_ascii_end (I.ok.hd hc) st hg λh' eb=>⟨rfl,I.turned (λb o hb e=>eb b o hb e) f0 f1 f3 f4 f5⟩
 self:=λ_ _ _ _ _ st h=>wpAny_pyIter_striter_ascii st h
theorem wg{K:zh}(z:Str)(t:Tok)(it:Addr):F7 P w K tg (Its z) [it] it (λi h=>h.IsStrIter it "str_iterator" z t i) where
 mem:=by simp
 obj:=λi h st b hb=>by
  have e:b=it:=by simpa using hb
  subst e
  obtain⟨o,e,c,d⟩:=st
  exact⟨o,e,λv z=>by rw[d]at z;cases z⟩
 keep:=λi h h' st k=>let ⟨o,ho,r⟩:=st;⟨o,k it (by simp) o ho,r⟩
 item:=by
  intro X hP hw hK hc i pins s σ H E I hf st hg
  subst hP hw hK
  obtain⟨c,hx⟩:=hg
  obtain⟨f0,f1,f2,f3,f4,f5⟩:=hf it (by simp)
  refine wpAny_pyNext_wide_item st hx λh' st' sb=>?_
  have I1:Inv X pins σ H {s with heap:=h',toks:=s.toks+1}:=I.turned (λb o hb e=>(sb.2 b hb).trans e) f0 f1 f3 f4 f5
  obtain⟨o,e,cc,d⟩:=id st'
  exact⟨_,rfl,sB e cc d (by decide) ⟨.str ⟨#[c]⟩,H,I1,⟨_,rfl⟩,⟨rfl,c,hx,rfl⟩,st',λb hb=>(hf b hb).1⟩⟩
 done:=by
  intro X hP hw hK hc i pins s σ H E I hf st hg
  subst hP hw hK
  obtain⟨f0,f1,f2,f3,f4,f5⟩:=hf it (by simp)
  exact wpAny_pyNext_wide_end (I.ok.hd hc) st hg λh' eb=>⟨rfl,I.turned (λb o hb e=>eb b o hb e) f0 f1 f3 f4 f5⟩
 self:=λ_ _ _ _ _ st h=>wpAny_pyIter_striter_wide st h
section
def c6(z:Str):List D:=z.cps.toList.map λc=>.str ⟨#[c]⟩
def tG:D->M Src:=λx=>match x with
 | .str z=>pure ⟨c6 z,λ_=>true⟩
 | .tup l=>P2 (.tup l)
 | .ref r=>P2 (.ref r)
 |_=>M.stuck
end
section
end
theorem Rz{w:jg}{K:zh}{base:Heap}{CX:CXT}{k n:Nat}{f:Addr}(hn:ps.length=n):O0 P w K mg base CX k f fd ps (spD ⟨K,mg⟩ n λ_=>M.stuck):=
 ⟨λvs H Q E h=>by rw[hn];exact h.1,λA outer s H args us vs Q E hr=>by
  intros
  rename_i h
  first
   |exact h.2.elim
   |(obtain⟨_,_,_,_,_,_,z⟩:=h;exact z.elim)⟩
end DL
namespace W
open PySem PySem.Spec L2 DL
open PyProof.Rows hiding St
def pE(G:DH)(d:D):Prop:=∃k,dB G d=some k
theorem st1:([d].map some++zu n none:DSt)[0]? =some (some d):=by rfl
theorem QA{P:Bool->Prop}:(∃k,D.bl b= .bl k/\P k)↔P b:=⟨fun⟨k,e,p⟩=>by cases e;exact p,λp=>⟨b,rfl,p⟩⟩
theorem Q3{P:α->Prop}:(∃k,some b=some k/\P k)↔P b:=⟨fun⟨k,e,p⟩=>by cases e;exact p,λp=>⟨b,rfl,p⟩⟩
def wI:Option Int->D
 |none=>.non
 |some i=>.int i
theorem iZ:Wp (gtD (.int i) (.int j)) G Q↔Q (.bl (decide (j<i))) G:=m5
theorem ix_tup:Wp (ixD (.tup l) (.int i)) G Q↔∃d,atI l i=some d/\Q d G:=D3
def VC:Nat->DH->D->Prop
 |0,G,d=>pE G d
 |n+1,G,d=>pE G d/\∀l,d= .tup l->∀x∈l,VC n G x
theorem VC.there(h:VC n G d):pE G d:=by cases n;exact h;exact h.1
theorem W3:Wp (S3 (.bl b)) G B↔B b G:=m5
theorem U0:Wp (eqD (.int i) (.int j)) G Q↔Q (.bl (decide (i=j))) G:=by
 have e:eqN 40 G (.int i) (.int j)=some (decide (i=j)):=by rfl
 rw[eE,e];exact Q3
theorem X6(h:Wp m G λa G'=>a=x/\G'=G):m G=some (.ok x,G):=by
 obtain⟨a,G',e,e1,e2⟩:=h
 subst e1 e2
 exact e
theorem TN{g:Fg}{e:Fe}{G:DH}{I:DSt->Prop}(hck:ck G=true):∀items (σ:DSt),I σ->
 (∀d∈items,∀ σ,I σ->∃ WZ,g d σ G=some (.ok WZ,G)/\I WZ/\t WZ G=some (.ok true,G)/\e WZ G=some (.ok (f d),G))->N7 g t e ck items σ G=some (.ok (items.map f),G)
 |[],σ,_,_=>by unfold N7;simp only[hck,if_true,List.map]
 |d::r,σ,i,h=>by
   obtain⟨WZ,h1,i1,h2,h3⟩:=h d (by simp) σ i
   have h4:=TN hck r WZ i1 λd hd=>h d (by simp[hd])
   unfold N7
   simp only[hck,if_true]
   rw[M.bind_ok h1,M.bind_ok h2,if_pos rfl,M.bind_ok h3,M.bind_ok h4]
   rfl
theorem VM{it:DSt->M Src}{g:Fg}{e:Fe}{G:DH}{σ:DSt}{s:Src}(I:DSt->Prop)(hs:it σ G=some (.ok s,G))(hn:s.items.length<=zo)(hck:s.ck G=true)(hi:I (U9 caps σ))
 (h:∀d∈s.items,∀ σ,I σ->∃ WZ,g d σ G=some (.ok WZ,G)/\I WZ/\t WZ G=some (.ok true,G)/\e WZ G=some (.ok (f d),G)):
 Wp (J5 it caps g t e σ) G Q↔Q (.ref G.length) (G++[.lst (s.items.map f)]):=by
 unfold J5
 simp only[j9]
 rw[L8 hs,if_pos hn]
 simp only[j9,aC]
 rw[L8 (TN hck s.items _ hi h),Q8]
theorem MC:∀l:List α,i6 (l.map λx=>D.bl (f x))=some (l.map f)
 |[]=>rfl
 |a::r=>by show (i6 (r.map λx=>D.bl (f x))).map (f a :: ·)=_;rw[MC r];rfl
theorem bN{l:List D}{Q:DPP}(h:G[r]? =some (.lst (l.map λx=>.bl (f x)))):Wp (C1 [.ref r]) G Q↔Q (.bl (l.all f)) G:=by
 unfold C1
 simp only[j9,O3,h,Q3,DL.listOf,m5,D3,MC]
 simp[xI,Zi]
theorem pB:Wp (ltD (.int i) (.int j)) G Q↔Q (.bl (decide (i<j))) G:=by
 have e:ltN 40 G (.int i) (.int j)=some (decide (i<j)):=by rfl
 rw[BI,e];exact Q3
theorem P7:Wp (T7 (.int i) (.int j)) G Q↔Q (.int (i+j)) G:=m5
theorem at0:atI [a,b] 0=some a:=by rfl
theorem at1:atI [a,b] 1=some b:=by rfl
theorem kM(l:List D):DL.cutD l (some 1) none=l.drop 1:=by
 unfold DL.cutD
 rw[HT.sIx_none,show (some (1:Int))=some ((1:Nat):Int)from rfl,HT.sIx_nat]
 rcases l with _|⟨a,r⟩
 ·rfl
 ·simp[zT]
section
theorem lB:Wp (T0 g b ck [] σ) G P↔ck G=true/\P (.nx σ) G:=by
 unfold T0
 constructor
 · rintro⟨a,G',e,q⟩
   by_cases h:ck G=true
   ·simp only[h,if_true]at e;cases e;exact⟨h,q⟩
   ·simp only[h]at e;exact J7 e
 · rintro⟨h,q⟩
   exact⟨_,G,by simp only[h,if_true],q⟩
theorem HB:Wp (T0 g b ck (d::r) σ) G P↔ck G=true/\Wp (g d σ) G λWZ G1=>Wp (b WZ) G1 λfl G2=>match fl with
 | .nx X1=>Wp (T0 g b ck r X1) G2 P
 | .ct X1=>Wp (T0 g b ck r X1) G2 P
 | .bk X1=>P (.nx X1) G2
 | .rt d=>P (.rt d) G2:=by
 have e:Wp (T0 g b ck (d::r) σ) G P↔ck G=true/\Wp (do
  match <-b (<-g d σ) with
  | .nx X1=>T0 g b ck r X1
  | .ct X1=>T0 g b ck r X1
  | .bk X1=>pure (.nx X1)
  | .rt d=>pure (.rt d):M Fl) G P:=by
  rw[T0]
  constructor
  · rintro⟨a,G',e,q⟩
    by_cases h:ck G=true
    ·simp only[h,if_true]at e;exact⟨h,a,G',e,q⟩
    ·simp only[h]at e;exact J7 e
  · rintro⟨h,a,G',e,q⟩
    exact⟨a,G',by simp only[h,if_true];exact e,q⟩
 rw[e]
 simp only[j9]
 refine and_congr_right λ_=>?_
 constructor
 · rintro⟨WZ,G1,e1,fl,G2,e2,q⟩
   refine⟨WZ,G1,e1,fl,G2,e2,?_⟩
   cases fl<;>first
    |exact q
    |exact m5.mp q
 · rintro⟨WZ,G1,e1,fl,G2,e2,q⟩
   refine⟨WZ,G1,e1,fl,G2,e2,?_⟩
   cases fl<;>first
    |exact q
    |exact m5.mpr q
theorem pC:Wp (B3 it g b σ) G P↔Wp (it σ) G λs G1=>Wp (T0 g b s.ck s.items σ) G1 P:=by unfold B3;simp only[j9]
end
theorem eB:Wp (F2 (.int i) (.int j)) G Q↔Q (.int (i-j)) G:=m5
theorem atI_nat{k:Nat}(h:l[k]? =some s):atI l (k:Int)=some s:=by
 have hk:k<l.length:=by
  by_cases hk:k<l.length
  ·exact hk
  ·rw[zR (by omega)]at h;exact J7 h
 unfold atI ixN
 rw[if_pos (by omega),if_pos (by omega)]
 simpa using h
section
theorem u6(h:0<j):Wp (K5 (.int i) (.int j)) G Q↔Q (.int (i % j)) G:=by
 have e:K5 (.int i) (.int j)=if 0<j then pure (.int (i % j))else M.stuck:=rfl
 rw[e,if_pos h];exact m5
theorem M7(h:0<j/\j<2 ^ 100):Wp (M9 (.int i) (.int j)) G Q↔Q (.int (i / j)) G:=by
 have e:M9 (.int i) (.int j)=if RB i j then pure (.int (i / j))else M.stuck:=rfl
 rw[e,if_pos (show RB i j from h)];exact m5
theorem B6(h:P3 i j):Wp (U2 (.int i) (.int j)) G Q↔Q (.int (i*j)) G:=by
 have e:U2 (.int i) (.int j)=if P3 i j then pure (.int (i*j))else M.stuck:=rfl
 rw[e,if_pos h];exact m5
theorem L6{l:List D}(h:G[r]? =some (.lst l)):Wp (ixD (.ref r) (.int i)) G Q↔∃d,atI l i=some d/\Q d G:=by
 have e:ixD (.ref r) (.int i)= (do
  let l <-O5 r >>= DL.listOf
  M0 (atI l i)):=rfl
 rw[e]
 simp only[j9,O3,h,Q3,DL.listOf,m5,D3]
theorem PN{d:D}{R:Unit->DH->Prop}(h:G[r]? =some (.lst l))(hj:ixN l.length k=some j):Wp (SA (.ref r) (.int k) d) G R↔R () (G.set r (.lst (l.set j d))):=by
 unfold SA
 simp only[j9,O3,h,Q3,hj,QD]
theorem eJ:Wp (D2 fo fi d σ) G S↔Wp (fo σ) G λo G1=>Wp (fi σ) G1 λi G2=>Wp (SA o i d) G2 λ_ G3=>S σ G3:=by
 unfold D2;simp only[j9,m5]
end
def P5(G:DH)(r:Nat):Prop:=∃a b c e:Int,G[r]? =some (.lst [.int a,.int b,.int c,.int e])/\0<=b/\b<2 ^ 40
def Fr(r:Nat)(G G':DH):Prop:=G.length<=G'.length/\(∀i,i≠r->i<G.length->G'[i]? =G[i]?)/\P5 G' r
theorem P5.lt(h:P5 G r):r<G.length:=by
 obtain⟨a,b,c,e,hr,_⟩:=h
 by_cases hi:r<G.length
 ·exact hi
 ·rw[zR (by omega)]at hr;exact J7 hr
theorem P5.app(h:P5 G r):P5 (G++t) r:=by
 have hl:=h.lt
 obtain⟨a,b,c,e,hr,hb⟩:=h
 exact⟨a,b,c,e,by rw[zF hl];exact hr,hb⟩
theorem Fr.refl(h:P5 G r):Fr r G G:=⟨zn _,λ_ _ _=>rfl,h⟩
theorem Fr.trans(h:Fr r G G1)(k:Fr r G1 G2):Fr r G G2:=
 ⟨zG h.1 k.1,λi hi hl=>by rw[k.2.1 i hi (by have:=h.1;omega),h.2.1 i hi hl],k.2.2⟩
theorem Fr.app(h:P5 G r):Fr r G (G++t):=⟨by simp,λi _ hl=>zF hl,h.app⟩
theorem Fr.set(h:P5 (G.set r o) r):Fr r G (G.set r o):=⟨by simp,λi hi hl=>by rw[zL (Ne.symm hi)],h⟩
theorem HK(h:A9 i j):Wp (L7 (.int i) (.int j)) G Q↔Q (.int (i ^ j.toNat)) G:=by
 have e:L7 (.int i) (.int j)=if A9 i j then pure (.int (i ^ j.toNat))else M.stuck:=rfl
 rw[e,if_pos h];exact m5
theorem p18:Wp (L7 (.int 10) (.int 18)) G Q↔Q (.int 1000000000000000000) G:=by
 rw[HK (by decide)];exact Iff.rfl
theorem kq:Wp (CB (.int i)) G Q↔Q (.int (-i)) G:=m5
theorem pF{l:List D}{k:Int}(h0:0<=k)(h1:k<l.length):∃d,d∈l/\atI l k=some d:=by
 obtain⟨n,rfl⟩:=yQ h0
 have hn:n<l.length:=by omega
 exact⟨l[n],jx hn,atI_nat (zi hn)⟩
theorem sz{l:List D}(h:Nat.ble l.length 100=true:=by rfl):l.length<=zo:=zG (JF h) (by decide)
theorem Fr.lt(h:Fr r G G'):r<G'.length:=h.2.2.lt
theorem Fr.at(h:Fr r G G')(hp:p≠r)(e:G[p]? =some o):G'[p]? =some o:=by
 have hl:p<G.length:=by
  by_cases hi:p<G.length
  ·exact hi
  ·rw[zR (by omega)]at e;exact J7 e
 rw[h.2.1 p hp hl];exact e
theorem Kj{G t:DH}:(G++t)[G.length+k]? =t[k]? :=by
 rw[yy (by omega)];congr 1;omega
theorem Np{G t:DH}:(G++t)[G.length]? =t[0]? :=Kj (k:=0)
section
theorem l6:Wp (mtE t m fo fs σ) G Q↔Wp (fo σ) G λx G1=>Wp (t x) G1 λ_ G2=>Wp (fs σ) G2 λxs G3=>Wp (m x xs) G3 Q:=by
 unfold mtE;simp only[j9]
theorem R1(h:G[r]? =some (.lst l)):Wp (R5 (.ref r)) G R↔R () G:=by
 delta R5;exact j9.trans ((O3.trans (by rw[h];exact Q3)).trans m5)
theorem GA{l:List D}(h:G[r]? =some (.lst l))(hl:l.length<zo):Wp (y7 (.ref r) [y]) G Q↔Q .non (G.set r (.lst (l++[y]))):=by
 have e:y7 (.ref r) [y]= (do
  let l <-lstM r
  if l.length<zo then do
   let _ <-S4 r (.lst (l++[y]))
   pure .non
  else M.stuck):=rfl
 rw[e]
 unfold lstM
 simp only[j9,O3,h,Q3,m5,hl,if_true,QD]
theorem K8{l:List D}(h:G[r]? =some (.lst l)):Wp (O4 [.ref r]) G Q↔Q (.tup l) G:=by
 have e:O4 [.ref r]= (do
  let l <-O5 r >>= DL.listOf
  pure (.tup l)):=rfl
 rw[e]
 simp only[j9,O3,h,Q3,DL.listOf,m5]
theorem LU:Wp (EA [.tup l]) G Q↔Q (.ref G.length) (G++[.lst l]):=Q8
theorem rng1:Wp (R3 fs σ) G R↔Wp (fs σ) G λxs G1=>Wp (match xs with
 |[.int j]=>if -(2 ^ 62)<=j/\j<2 ^ 62 then pure ⟨K3 0 j.toNat,λ_=>true⟩else M.stuck
 |_=>M.stuck:M Src) G1 R:=by
 delta R3;exact j9
theorem rng1_int(h: -(2 ^ 62)<=j/\j<2 ^ 62):Wp (match [D.int j] with
 |[.int j]=>if -(2 ^ 62)<=j/\j<2 ^ 62 then pure ⟨K3 0 j.toNat,λ_=>true⟩else M.stuck
 |_=>M.stuck:M Src) G R↔R ⟨K3 0 j.toNat,λ_=>true⟩ G:=by
 show Wp (if -(2 ^ 62)<=j/\j<2 ^ 62 then pure ⟨K3 0 j.toNat,λ_=>true⟩else M.stuck:M Src) G R↔_
 rw[if_pos h];exact m5
theorem WG{a b:List D}(ha:G[i]? =some (.lst a))(hb:G[j]? =some (.lst b))(hl:a.length+b.length<=zo):Wp (T7 (.ref i) (.ref j)) G Q↔Q (.ref G.length) (G++[.lst (a++b)]):=by
 have e:T7 (.ref i) (.ref j)= (do
  match <-O5 i,<-O5 j with
  | .lst a,.lst b=>if a.length+b.length<=zo then M6 (.lst (a++b))else M.stuck
  |_,_=>M.stuck):=rfl
 rw[e]
 simp only[j9,O3,ha,hb,Q3,if_pos hl,Q8]
theorem IQ(hl:a.length+b.length<=zo):Wp (T7 (.tup a) (.tup b)) G Q↔Q (.tup (a++b)) G:=by
 have e:T7 (.tup a) (.tup b)=if a.length+b.length<=zo then pure (.tup (a++b))else M.stuck:=rfl
 rw[e,if_pos hl];exact m5
theorem aT:Wp (y6 σ) G R↔R none G:=m5
theorem UM:Wp (N2 f σ) G R↔Wp (f σ) G λx G1=>∃i,x= .int i/\R (some i) G1:=by
 delta N2
 refine Iff.trans j9 ?_
 constructor
 · rintro⟨x,G1,e,q⟩
   refine⟨x,G1,e,?_⟩
   rcases x with _|_|i|_|_|_|_|_<;>try (exact(qA.mp q).elim;done)
   ·exact⟨i,rfl,m5.mp q⟩
 · rintro⟨x,G1,e,i,rfl,q⟩
   exact⟨_,G1,e,m5.mpr q⟩
theorem sl_tup{lo hi:Option Int}:Wp (slD (.tup l) lo hi) G Q↔Q (.tup (DL.cutD l lo hi)) G:=m5
theorem Bp{P:Int->Prop}:(∃k,D.int i= .int k/\P k)↔P i:=⟨fun⟨k,e,p⟩=>by cases e;exact p,λp=>⟨i,rfl,p⟩⟩
end
def rB(d:D):Prop:=∃x y:Option Int,d= .tup [wI x,wI y]
def Fr2(r p:Nat)(G G':DH):Prop:=G.length<=G'.length/\(∀i,i≠r->i≠p->i<G.length->G'[i]? =G[i]?)/\P5 G' r
theorem Fr2.trans(h:Fr2 r p G G1)(k:Fr2 r p G1 G2):Fr2 r p G G2:=
 ⟨zG h.1 k.1,λi hi hp hl=>by rw[k.2.1 i hi hp (by have:=h.1;omega),h.2.1 i hi hp hl],k.2.2⟩
theorem Fr.two(h:Fr r G G1):Fr2 r p G G1:=⟨h.1,λi hi _ hl=>h.2.1 i hi hl,h.2.2⟩
theorem Fr2.set(hp:p≠r)(h:P5 G r):Fr2 r p G (G.set p o):=by
 refine⟨by simp,λi _ hi hl=>by rw[zL (Ne.symm hi)],?_⟩
 obtain⟨a,b,c,e,hr,hb⟩:=h
 exact⟨a,b,c,e,by rw[zL hp];exact hr,hb⟩
theorem rB.set{xs:List D}(h:∀d∈xs,rB d)(hd:rB d):∀x∈xs.set j d,rB x:=λx hx=>by
 rcases List.mem_or_eq_of_mem_set hx with hx|rfl
 ·exact h x hx
 ·exact hd
theorem j7{G:DH}:(G++[o])[G.length]? =some o:=Np
theorem O9{G t:DH}{p:Nat}(e:G[p]? =some o):(G++t)[p]? =some o:=by
 have hlt:p<G.length:=by
  by_cases hi:p<G.length
  ·exact hi
  ·rw[zR (by omega)]at e;exact J7 e
 rw[zF hlt];exact e
def okD:D->Bool
 | .non=>true
 | .bl _=>true
 | .int _=>true
 | .str _=>true
 | .tup _=>true
 |_=>false
theorem gU(x:Option Int):okD (wI x)=true:=by cases x<;>rfl
theorem pV(h:okD d=true):pE G d:=by
 cases d<;>first|exact⟨_,rfl⟩|exact i5 h
theorem Hq(h:∀x∈l,okD x=true):VC 1 G (.tup l):=⟨⟨_,rfl⟩,λl' e x hx=>by cases e;exact pV (h x hx)⟩
theorem rB.there(h:rB d):VC 1 G d:=by
 obtain⟨x,y,rfl⟩:=h
 exact Hq λz hz=>by
  simp only[zt,zS,or_false]at hz
  rcases hz with rfl|rfl<;>exact gU _
def Gr(G G':DH):Prop:=G.length<=G'.length/\∀i,i<G.length->G'[i]? =G[i]?
theorem Gr.refl:Gr G G:=⟨zn _,λ_ _=>rfl⟩
theorem Gr.trans(h:Gr G G1)(k:Gr G1 G2):Gr G G2:=⟨zG h.1 k.1,λi hi=>by rw[k.2 i (by have:=h.1;omega),h.2 i hi]⟩
theorem Gr.app:Gr G (G++t):=⟨by simp,λi hi=>zF hi⟩
theorem Gr.of(h:Gr G G1)(f:Fr r G1 G2)(hr:G.length<=r):Gr G G2:=⟨zG h.1 f.1,λi hi=>by rw[f.2.1 i (by omega) (by have:=h.1;omega),h.2 i hi]⟩
theorem Gr.at{p:Nat}(h:Gr G G')(e:G[p]? =some o):G'[p]? =some o:=by
 have hl:p<G.length:=by
  by_cases hi:p<G.length
  ·exact hi
  ·rw[zR (by omega)]at e;cases e
 rw[h.2 p hl];exact e
theorem QR:∀ns:List Int,F5 (ns.map D.int)=some ns
 |[]=>rfl
 |a::r=>by show (F5 (r.map D.int)).map (a :: ·)=_;rw[QR r];rfl
theorem MH{σ:DSt}{l:List D}{R:Src->DH->Prop}(e:G[p]? =some (.lst l)):Wp (P2 (.ref p)) G R↔R ⟨l,ckO p (.lst l)⟩ G:=by
 have h:P2 (.ref p)= (do
  let o <-O5 p
  let l <-DL.listOf o
  pure ⟨l,ckO p o⟩):=rfl
 rw[h]
 simp only[j9,O3,e,Q3,DL.listOf,m5]
section
theorem HM:Wp (C9 o o' a b c σ) G Q↔Wp (a σ) G λx G1=>Wp (b σ) G1 λy G2=>Wp (o x y) G2 λz G3=>∃k,z= .bl k/\if k=true then Wp (c σ) G3 λw G4=>Wp (o' y w) G4 Q else Q (.bl false) G3:=by
 unfold C9;simp only[j9,vP,C8,m5]
theorem wp_trueT:Wp (M5 σ) G B↔B true G:=m5
theorem Z8:Wp (N7 g t e ck [] σ) G R↔ck G=true/\R [] G:=by
 unfold N7
 constructor
 · rintro⟨a,G',e,q⟩
   by_cases h:ck G=true
   ·simp only[h,if_true]at e;cases e;exact⟨h,q⟩
   ·simp only[h]at e;exact J7 e
 · rintro⟨h,q⟩
   exact⟨_,G,by simp only[h,if_true],q⟩
theorem mG:Wp (N7 g t e ck (d::r) σ) G R↔ck G=true/\Wp (g d σ) G λWZ G1=>Wp (t WZ) G1 λb G2=>if b=true then Wp (e WZ) G2 λy G3=>Wp (N7 g t e ck r WZ) G3 λys G4=>R (y::ys) G4 else Wp (N7 g t e ck r WZ) G2 R:=by
 have h0:Wp (N7 g t e ck (d::r) σ) G R↔ck G=true/\Wp (do
  let WZ <-g d σ
  if <-t WZ then do
   let y <-e WZ
   let ys <-N7 g t e ck r WZ
   pure (y::ys)
  else N7 g t e ck r WZ:M (List D)) G R:=by
  rw[N7]
  constructor
  · rintro⟨a,G',e,q⟩
    by_cases h:ck G=true
    ·simp only[h,if_true]at e;exact⟨h,a,G',e,q⟩
    ·simp only[h]at e;exact J7 e
  · rintro⟨h,a,G',e,q⟩
    exact⟨a,G',by simp only[h,if_true];exact e,q⟩
 rw[h0]
 simp only[j9,C8,m5]
theorem wp_comp:Wp (J5 it caps g t e σ) G Q↔Wp (it σ) G λs G1=>s.items.length<=zo/\Wp (N7 g t e s.ck s.items (U9 caps σ)) G1 λys G2=>Q (.ref G2.length) (G2++[.lst ys]):=by
 unfold J5
 simp only[j9]
 constructor
 · rintro⟨s,G1,e1,q⟩
   refine⟨s,G1,e1,?_⟩
   by_cases h:s.items.length<=zo
   · rw[if_pos h]at q
     simp only[j9,aC,Q8]at q
     exact⟨h,q⟩
   ·rw[if_neg h]at q;exact(qA.mp q).elim
 · rintro⟨s,G1,e1,h,q⟩
   refine⟨s,G1,e1,?_⟩
   dsimp only
   rw[if_pos h]
   simp only[j9,aC,Q8]
   exact q
theorem U8(hck:ck G=true)(S:DSt->Prop):∀items σ,S σ->
 (∀d∈items,∀ σ,S σ->∃ WZ,g d σ G=some (.ok WZ,G)/\S WZ/\t WZ G=some (.ok (p d),G)/\e WZ G=some (.ok d,G))->N7 g t e ck items σ G=some (.ok (items.filter p),G)
 |[],σ,_,_=>by unfold N7;simp only[hck,if_true,List.filter_nil]
 |d::r,σ,i,h=>by
   obtain⟨WZ,h1,i1,h2,h3⟩:=h d (by simp) σ i
   have h4:=U8 hck S r WZ i1 λd hd=>h d (by simp[hd])
   unfold N7
   simp only[hck,if_true]
   rw[M.bind_ok h1,M.bind_ok h2]
   by_cases hp:p d=true
   · rw[if_pos hp,M.bind_ok h3,M.bind_ok h4,List.filter_cons_of_pos hp]
     rfl
   ·rw[if_neg hp,h4,List.filter_cons_of_neg hp]
end
section
theorem DY:Wp (eqD (.str a) (.str b)) G Q↔Q (.bl (a==b)) G:=by
 have e:eqN 40 G (.str a) (.str b)=some (a==b):=by rfl
 rw[eE,e];exact Q3
theorem QL:Wp (leD (.str a) (.str b)) G Q↔Q (.bl (!decide (b.cps.toList<a.cps.toList))) G:=m5
theorem BU(h:a.length+b.length<=zo):Wp (T7 (.str a) (.str b)) G Q↔Q (.str (a++b)) G:=by
 have e:T7 (.str a) (.str b)=if a.length+b.length<=zo then pure (.str (a++b))else M.stuck:=rfl
 rw[e,if_pos h];exact m5
theorem KI(h:z.length<=zo):Wp (X7 [.str z]) G Q↔Q (.int z.length) G:=by
 have e:X7 [.str z]=if z.length<=zo then pure (.int z.length)else M.stuck:=rfl
 rw[e,if_pos h];exact m5
theorem SJ:Wp (D9 x y) G Q↔∃k,inB x y G=some k/\Q (.bl (!k)) G:=iE (by unfold D9 mJ;cases inB x y G<;>rfl)
theorem LD:Wp (inD x y) G Q↔∃k,inB x y G=some k/\Q (.bl k) G:=iE (by unfold inD mJ;cases inB x y G<;>rfl)
theorem CY(e:G[p]? =some (.lst l)):Wp (tG (.ref p)) G R↔R ⟨l,ckO p (.lst l)⟩ G:=MH (σ:= []) e
end
def r9(c:Nat):Bool:=decide (97<=c)&&decide (c<=122)
def gI(z:Str):Bool:=z.cps.toList.all r9
theorem Fw(c:Nat):(!decide ((⟨#[c]⟩:Str).cps.toList<("a" :Str).cps.toList))=decide (97<=c):=by
 have e:("a" :Str).cps.toList= [97]:=by rfl
 rw[e]
 show (!decide ([c] < [97]))=_
 by_cases h:97<=c
 · have:¬c<97:=by lia
   simp[h,xO,this]
 · have:c<97:=by lia
   simp[h,xO,this]
theorem Tg(c:Nat):(!decide (("z" :Str).cps.toList<(⟨#[c]⟩:Str).cps.toList))=decide (c<=122):=by
 have e:("z" :Str).cps.toList= [122]:=by rfl
 rw[e]
 show (!decide ([122] < [c]))=_
 by_cases h:c<=122
 · have:¬122<c:=by lia
   simp[h,xO,this]
 · have:122<c:=by lia
   simp[h,xO,this]
end W
namespace DL
open PySem PySem.Spec L2
open PyProof.Rows hiding St
theorem Bc:Jj (.type "list_reverseiterator") "__len__" =pure none:=by rw[Zm,xn];kernel_rfl
theorem pZ:Jj (.type "list_reverseiterator") "__length_hint__" =pure (some (.builtin "list_reverseiterator.__length_hint__")):=by rw[Zm,xn];kernel_rfl
section
theorem Hg(hT:s.TypeIs (.ref I) "list_reverseiterator")(h:Q false s):zw (zE prog w) A (yO (.ref I)) Q E s:=by
 unfold yO
 refine za (XX hT Bc ?_)
 show zw _ A (specialOf (Value.ref I) (jo "__length_hint__") >>= _) _ _ _
 refine za (XX hT pZ ?_)
 generalize hid:("list_reverseiterator.__length_hint__" :String)=id0
 wp_delta
 rw[show splitId id0=some ("list_reverseiterator", "__length_hint__")from by subst hid;decide +kernel]
 subst hid
 refine za (xZ (b:=true) hT (by rw[xQ];kernel_rfl) ?_)
 refine zp ?_
 exact h
theorem Ww(hh:A.handled=none)(hI:s.heap.IsRevIter I l ((items.size:Int)-1))(hl:s.heap.IsList l items)(hne:l≠I)(S:Addr)(hSI:S≠I)(hSl:S≠l)(res:zk)(c₀:Nat)(hS:s.heap.get? S=some {cls:=.type "list",data:=.seq #[] c₀})
 (hR:∀h' tk acc' c',(∀b o,b≠S->b≠I->s.heap.get? b=some o->h'.get? b=some o)->h'.get? S=some {cls:=.type "list",dict:=none,data:=.seq acc' c',slots:= #[]}->ItemsOf (λi v=>items[items.size-1-i]? =some v) acc' items.size->R (.ok (.ret res)) {s with heap:=h',toks:=tk}) (hn:items.size<=zo):
 zw (zE prog w) A.in1 (yP (.ref S) (.ref I) res)
  (λfin s'=>match fin with| .done f=>R (.ok f) s'| .again c'=>c'.quiet=true/\ZC (zE prog w) A c' R s') (λe s'=>R (.error e) s') s:=by
 have hSf:S∉ [I,l]:=by simp only[zt,zS,or_false,not_or];exact⟨hSI,hSl⟩
 have W:=Walks.listRev (prog:=prog) (w:=w) (A:=A.in1) hh I l hne items
 have st:(0<=items.size/\s.heap.IsRevIter I l ((items.size:Int)-1-((0:Nat):Int))/\s.heap.IsList l items):=⟨zQ _,by simpa using hI,hl⟩
 unfold yP
 refine za (xP hI.typeIs ?_)
 have h1:YD (.ref S) (.ref I)=false:=by simp[YD,hSI]
 rw[if_neg (by rw[h1];decide)]
 refine za (wpAny_pyIter_revIter hI ?_)
 refine za (jI (Hg hI.typeIs ?_))
 refine xC (λhab=>absurd hab (by decide)) (λ_=>?_)
 refine zp ⟨yB PySem.F.plain_extend_loop _,codeAny_extend_loopS W.toS hn S hSf res items.size 0 _ #[] c₀ rfl (zQ _) st hS (ItemsOf.nil _) λs' acc' c' hm hS' hacc=>?_⟩
 rw[Moved.eq_with hm]
 refine hR s'.heap s'.toks acc' c' (λb o hb hbI e=>hm.heap b o (λhmem=>?_) e) hS' hacc
 rcases zt.mp hmem with e'|hmem
 ·exact hb e'
 ·exact hbI (zC.mp hmem)
theorem dW1(hh:A.handled=none)(hI:s.heap.IsRevIter I l ((items.size:Int)-1))(hl:s.heap.IsList l items)(hne:l≠I)(S:Addr)(hSI:S≠I)(hSl:S≠l)(hS:s.heap.get? S=some {cls:=.type "list",data:=.seq #[]})
 (hR:∀h' tk acc' c',(∀b o,b≠S->b≠I->s.heap.get? b=some o->h'.get? b=some o)->h'.get? S=some {cls:=.type "list",dict:=none,data:=.seq acc' c',slots:= #[]}->ItemsOf (λi v=>items[items.size-1-i]? =some v) acc' items.size->R (.ok (.ret .none)) {s with heap:=h',toks:=tk}) (hn:items.size<=zo):
 zw (zE prog w) A.in1 (yj.«list.__init__» ⟨[.ref S,.ref I], []⟩)
  (λfin s'=>match fin with| .done f=>R (.ok f) s'| .again c'=>c'.quiet=true/\ZC (zE prog w) A c' R s') (λe s'=>R (.error e) s') s:=by
 show zw _ _ (do let old <-YT (.ref S);Builtin.List.listUpdate (.ref S) (λ_=> #[]);letGo old.toList.reverse;yP (.ref S) (.ref I) .none) _ _ s
 refine za ?_
 unfold YT
 refine za (jR hS rfl (zp ?_))
 show zw _ _ (updateSeq S (λ_=> #[]) >>= λ_=>letGo (#[]:Array zk).toList.reverse >>= λ_=>yP (.ref S) (.ref I) .none) _ _ s
 refine za (Yj hS rfl ?_)
 have hS₂:=xa (jt (λ_=>(#[]:Array zk))) hS rfl
 have oth:∀b o,b≠S->s.heap.get? b=some o->(s.heap.update S (jt (λ_=>(#[]:Array zk)))).get? b=some o:=
  λb o hb e=>(yS _ _ (Ne.symm hb)).trans e
 refine za (xw ?_)
 refine Ww hh (hI.at λo e=>oth I o (Ne.symm hSI) e) (hl.at λo e=>oth l o (Ne.symm hSl) e) hne S hSI hSl .none _ hS₂ (λh' tk acc' c' hk hS' hacc=>?_) hn
 exact hR h' tk acc' c' (λb o hb hbI e=>hk b o hb hbI (oth b o hb e)) hS' hacc
theorem lV(hh:A.handled=none)(hI:s.heap.IsRevIter I l ((items.size:Int)-1))(hl:s.heap.IsList l items)(hne:l≠I)(hn:items.size<=zo)
 (hQ:∀h' tk acc' c',(∀b o,b≠I->s.heap.get? b=some o->h'.get? b=some o)->h'.get? s.heap.objs.size=some {cls:=.type "list",dict:=none,data:=.seq acc' c',slots:= #[]}->ItemsOf (λi v=>items[items.size-1-i]? =some v) acc' items.size->Q (.ref s.heap.objs.size) {s with heap:=h',toks:=tk}):
 zw (zE prog w) A (call (.type "list") [.ref I]) Q E s:=by
 refine callType_codes (Q₁:=λobj W1=>obj= .ref s.heap.objs.size/\W1= {s with heap:=s.heap.push {cls:=.type "list",data:=.seq #[]}}) PySem.F.called_list (PySem.F.typeCall_list_1 _) PySem.F.entry_list_init
  (code_list_new _ ⟨rfl,rfl⟩) λobj W1 h₁=>?_
 obtain⟨rfl,rfl⟩:=h₁
 have hS:(s.heap.push {cls:=.type "list",data:=.seq #[]}).get? s.heap.objs.size=some {cls:=.type "list",data:=.seq #[]}:=zq _ rfl
 have hltI:I<s.heap.objs.size:=by obtain⟨_,e,_⟩:=hI;exact zr e
 have hltl:l<s.heap.objs.size:=by obtain⟨_,e,_⟩:=hl;exact zr e
 refine⟨⟨_,hS,rfl⟩,PySem.F.args_list_init_2 _ _,dW1 (A:=A.in1) hh (hI.at λo e=>zd _ e) (hl.at λo e=>zd _ e) hne _ (yb hltI) (yb hltl) hS (λh' tk acc' c' hk hS' hacc=>?_) hn⟩
 exact⟨rfl,hQ h' tk acc' c' (λb o hbI e=>hk b o (zD (zr e)) hbI (zd _ e)) hS' hacc⟩
end
def lC:D->M D:=λx=>match x with
 | .ref r=>do
   let l <-O5 r >>= listOf
   M6 (.lst l.reverse)
 |_=>M.stuck
section
theorem qZ{its:List zk}(h:ItemsOf (λi v=>its.toArray[its.toArray.size-1-i]? =some v) acc its.toArray.size):acc.toList=its.reverse:=by
 have hl:acc.toList.length=its.length:=by rw[jK,h.1];simp
 apply YH
 intro i
 by_cases hi:i<its.length
 · have hi':i<acc.size:=by rw[h.1];simpa using hi
   have hv:=h.2 i acc[i] (jy hi')
   rw[List.getElem?_reverse hi,jB,jy hi',<-hv]
   simp
 ·rw[zR (by lia),zR (by rw[JW];lia)]
theorem Qm(he:DE X Z e fa)(hc:X.calm=true)(hg1:Gl X "list")(hm1:X.mg "list" =none)(hg2:Gl X "reversed")(hm2:X.mg "reversed" =none)
 (hs1:zP [Expr.Call (.Name "reversed" p2) [e] [] pos2] X.env= [(false,eval (.Call (.Name "reversed" p2) [e] [] pos2) X.env)]) (hs2:zP [e] X.env= [(false,eval e X.env)])
 (hb1:zX "list" =some (.type "list"):=by first|rfl|decide +kernel) (hb2:zX "reversed" =some (.type "reversed"):=by first|rfl|decide +kernel):
 DE X Z (.Call (.Name "list" p1) [.Call (.Name "reversed" p2) [e] [] pos2] [] pos1) (unE lC fa):=by
 refine⟨?_⟩
 intro pins s σ H Q I hE0
 refine hE0.elim λX9 μ G sr h p=>?_
 refine Call_ (A5 I hg1 hm1 hb1 (ym ?_ hs1 rfl))
 rw[hs1]
 refine yR (Call_ (A5 I hg2 hm2 hb2 (ym ?_ hs2 rfl)))
 rw[hs2]
 refine yR (thn (he.h pins s σ H _ I ⟨X9,μ,G,sr,h,(d9.bind p).mono λd X0 G1 H1 x1 h1 p1 v rv=>(⟨d,X0,G1,rv,h1,p1⟩:TC (wc X) Z lC v H1 Q)⟩) λv s1 ⟨x,H1,I1,r1,d,X0,G1,rd,h1,p1⟩=>?_)
 refine xb ?_
 rcases d with _|_|_|_|_|r|_|_<;>try (exact p1.elim;done)
 ·
   obtain⟨l,a,vs,rfl,rl,hq,p2⟩:=OA h1 rd p1
   cases r1
   obtain⟨its,rr,ht,hz⟩:=I1.list hq
   refine call_reversed_list ht.isList ?_
   refine xb ?_
   have hlt:a<s1.heap.objs.size:=by obtain⟨_,e,_⟩:=ht.isList;exact zr e
   have hI:(s1.heap.push (revObj a ((its.toArray.size:Int)-1))).IsRevIter s1.heap.objs.size a ((its.toArray.size:Int)-1):=⟨_,zq _ rfl,rfl,rfl⟩
   refine lV (I.ok.hd hc) hI (ht.isList.push _) (zD hlt) (by rw[zj,<-rr.length];exact hz) λh' tk acc' c' hk hS' hacc=>?_
   have e2:=qZ hacc
   have hD:s1.heap.objs.size<=(s1.heap.push (revObj a ((its.toArray.size:Int)-1))).objs.size:=by rw[jY];exact Nat.le_succ _
   have hf:=I1.hok.fresh hD
   have hS2:h'.get? (s1.heap.push (revObj a ((its.toArray.size:Int)-1))).objs.size=some {cls:=.type "list",data:=.seq its.reverse.toArray c'}:=by
    rw[hS',<-e2,ZV]
   exact⟨.ref _,upd H1 _ (.lst vs.reverse),I1.laid (λb u q=>hk b u (zD (zr q)) (zd _ q)) hD ⟨by rw[JW];exact hz,its.reverse,c',rr.reverse,hS2⟩,rfl,U3 h1 rl.reverse p2 _ hf⟩
end
end DL
namespace DL
open PySem PySem.Spec L2 Builtin Builtin.Str
open PyProof.Rows hiding St
section
variable{X:Cx}{Z:XC}{e:Expr}{fa:Fe}{p2 pos:Pos}{lo hi:Option Expr}{fl fh:Fo}
theorem cR(p:IsPart v o):∃l:Option (Int×Tok),v=partValue l/\l.map (·.1)=o:=by
 cases p with
 |none=>exact⟨none,rfl,rfl⟩
 |int i t=>exact⟨some (i,t),rfl,rfl⟩
theorem oT:SlR X (λx lo hi H Q=>∃z,x= .str z/\z.length<=zo/\Q (.str (Jf z lo hi)) H):=by
 intro pins s σ H x v vl vu lo hi sl Q I rx hs pl pu h
 obtain⟨z,rfl,hz,q⟩:=h
 obtain⟨t,rfl⟩:=rx
 obtain⟨l,el,eml⟩:=cR pl
 obtain⟨u,eu,emu⟩:=cR pu
 subst el eu eml emu
 refine⟨"str",_,PySem.F.slot_str_getitem.lookup,typeIs_str _ z t,?_⟩
 refine wpAny_getItem_str_slice (st:=none) (let ⟨o,h1,h2,h3⟩:=hs;⟨o,h1,h2,h3⟩) rfl ?_
 unfold sliceMade
 unfold Jf at q
 unfold slicePicked
 have e1:((Option.map (λx:Int×Tok=>x.1) none).getD 1)= (1:Int):=rfl
 simp only[e1]
 by_cases hc:((1:Int)==1&&(strSliceIndices (l.map (·.1)) (u.map (·.1)) 1 z.length).length==z.length)=true
 · rw[if_pos hc]at q
   rw[if_pos hc]
   exact⟨.str z,H,I,⟨t,rfl⟩,q⟩
 · rw[if_neg hc]at q
   rw[if_neg hc]
   refine⟨?_,.str _,H,I.tok _,⟨_,rfl⟩,q⟩
   have hle:=Txt.slice_le z (l.map (·.1)) (u.map (·.1))
   unfold Jf at hle
   rw[if_neg hc]at hle
   exact zG hle hz
def slT:D->Option Int->Option Int->M D:=λx lo hi=>match x with
 | .str z=>if z.length<=zo then pure (.str (Jf z lo hi))else M.stuck
 | .tup l=>slD (.tup l) lo hi
 | .ref r=>slD (.ref r) lo hi
 |_=>M.stuck
def B5(f:Fe)(lo hi:Fo):Fe:=λσ=>do
 let x <-f σ
 let l <-lo σ
 let h <-hi σ
 slT x l h
theorem vZ:SlD X Z slT:=SlR.mono (oT.or (fL5)) λx lo hi H Q ⟨dx,μ,G,rx,hr,p⟩=>by
 rcases dx with _|_|_|z|l|r|_|_<;>try (exact p.elim;done)
 ·
   unfold slT at p
   dsimp only at p
   split at p
   · rename_i hz
     exact .inl ⟨z,U1 rx,hz,d9.ok p hr _ (by unfold j5;rfl)⟩
   ·exact p.elim
 ·exact .inr ⟨.tup l,μ,G,rx,hr,p⟩
 ·exact .inr ⟨.ref r,μ,G,rx,hr,p⟩
theorem QV(he:DE X Z e fa)(hl:DOp X Z lo fl)(hu:DOp X Z hi fh):DE X Z (.Subscript e (.Slice lo hi none p2) pos) (B5 fa fl fh):=
 DE.of (Vh vZ he.h hl.h hu.h) λσ H Q hE0=>hE0.elim λX9 μ G s h p=>⟨X9,μ,G,s,h,(d9.bind p).mono λd X0 G1 H1 x1 h1 p1 v rv=>
  ⟨X9,X0,G1,s.mono x1,h1,(d9.bind p1).mono λl WY G2 H2 x2 h2 p2=>⟨X9,WY,G2,s.mono (x1.trans x2),h2,(d9.bind p2).mono λu WP G3 H3 x3 h3 p3=>⟨d,WP,G3,rv.mono (x2.trans x3),h3,p3⟩⟩⟩⟩
end
section
end
end DL
namespace W
open PySem PySem.Spec L2 DL Builtin Builtin.Str
open PyProof.Rows hiding St
section
theorem Nd{lo hi:Fo}:Wp (B5 f lo hi σ) G Q↔Wp (f σ) G λx G1=>Wp (lo σ) G1 λl G2=>Wp (hi σ) G2 λh G3=>Wp (slT x l h) G3 Q:=by
 unfold B5;simp only[j9]
theorem Kk(e:G[r]? =some (.lst l)):Wp (lC (.ref r)) G Q↔Q (.ref G.length) (G++[.lst l.reverse]):=by
 have h:lC (.ref r)= (do
  let l <-O5 r >>= DL.listOf
  M6 (.lst l.reverse)):=rfl
 rw[h]
 simp only[j9,O3,e,Q3,DL.listOf,m5,Q8]
end
end W
namespace DL
open PySem PySem.Spec L2
open PyProof.Rows hiding St
def E1:D->D->M D:=λx y=>match y with
 | .non=>pure (.bl (vH x))
 | .bl c=>match x with
   | .bl d=>pure (.bl (d==c))
   |_=>M.stuck
 |_=>M.stuck
def Q1:D->D->M D:=λx y=>match y with
 | .non=>pure (.bl (!vH x))
 | .bl c=>match x with
   | .bl d=>pure (.bl (d != c))
   |_=>M.stuck
 |_=>M.stuck
def E6(a b:Fe):Fe:=λσ=>do
 let x <-a σ
 if <-S3 x then pure x else b σ
def N1(a b:Fe):Fe:=λσ=>do
 let x <-a σ
 if <-S3 x then b σ else pure x
section
theorem oX:OpR X (zO .Is) (λx y H Q=>(y= .non/\Q (.bl (decide (x= .non))) H)\/∃c d,x= .bl c/\y= .bl d/\Q (.bl (c==d)) H):=by
 intro pins s σ H x y v u Q I rx ry h
 rcases h with h|⟨c,d,rfl,rfl,q⟩
 ·exact KY pins s σ H x y v u Q I rx ry h
 · cases rx
   cases ry
   exact is_bool ⟨.bl (c==d),H,I,rfl,q⟩
theorem Qx:OpR X (zO .IsNot) (λx y H Q=>(y= .non/\Q (.bl (!decide (x= .non))) H)\/∃c d,x= .bl c/\y= .bl d/\Q (.bl (c != d)) H):=by
 intro pins s σ H x y v u Q I rx ry h
 rcases h with h|⟨c,d,rfl,rfl,q⟩
 ·exact NS pins s σ H x y v u Q I rx ry h
 · cases rx
   cases ry
   exact isnot_bool ⟨.bl (c != d),H,I,rfl,q⟩
theorem EY:OpD X Z (zO .Is) E1:=OpD.of oX λx y H Q hE0=>hE0.elim λdx dy μ G rdx rdy hr p=>by
 rcases dy with _|d|_|_|_|_|_|_<;>try (exact p.elim;done)
 ·exact .inl ⟨iD rdy,by rw[RR rdx];exact d9.ok p hr _ ofB⟩
 ·
   rcases dx with _|c|_|_|_|_|_|_<;>try (exact p.elim;done)
   ·exact .inr ⟨c,d,L5 rdx,L5 rdy,d9.ok p hr _ ofB⟩
theorem UT:OpD X Z (zO .IsNot) Q1:=OpD.of Qx λx y H Q hE0=>hE0.elim λdx dy μ G rdx rdy hr p=>by
 rcases dy with _|d|_|_|_|_|_|_<;>try (exact p.elim;done)
 ·exact .inl ⟨iD rdy,by rw[RR rdx];exact d9.ok p hr _ ofB⟩
 ·
   rcases dx with _|c|_|_|_|_|_|_<;>try (exact p.elim;done)
   ·exact .inr ⟨c,d,L5 rdx,L5 rdy,d9.ok p hr _ ofB⟩
theorem iN{G:DH}{d:D}{v:V}{f:Bool->M α}{K:α->List Addr->DH->Hp->Prop}(h:v8 (wc X) μ G H)(rv:j5 (wc X) μ H d v)(p:d9 (wc X) Z μ H ((S3 d >>= f) G) K):
 ∃k,lJ X.K v H k/\d9 (wc X) Z μ H (f k G) K:=by
 have p1:=d9.bind p
 rcases d with _|b|b|y|l|r|_|_<;>try (exact p1.elim;done)
 ·rw[iD rv];exact⟨false,rfl,d9.ok p1 h⟩
 ·rw[L5 rv];exact⟨b,rfl,d9.ok p1 h⟩
 ·rw[K0 rv];exact⟨_,rfl,d9.ok p1 h⟩
 ·
   rw[U1 rv]
   unfold S3 at p1
   dsimp only at p1
   split at p1
   ·rename_i hz;exact⟨_,⟨hz,rfl⟩,d9.ok p1 h⟩
   ·exact p1.elim
 ·
   unfold j5 at rv
   obtain⟨a,vs,rfl,q,rl⟩:=rv
   exact⟨!vs.isEmpty,.inr (.inl ⟨vs,q,rfl⟩),by rw[nC rl];exact d9.ok p1 h⟩
 ·
   unfold j5 at rv
   obtain⟨a,m,rfl⟩:=rv
   obtain⟨o,g,p2⟩:=N5 p1
   have ro:=h.obj r o a g m
   rcases o with l|l|l|l
   ·obtain⟨vs,q,rl⟩:=ro;exact⟨!vs.isEmpty,.inl ⟨vs,SqL.of q,rfl⟩,by rw[nC rl];exact d9.ok p2 h⟩
   ·obtain⟨vs,q,rl⟩:=ro;exact⟨!vs.isEmpty,.inl ⟨vs,q.sq,rfl⟩,by rw[nC rl];exact d9.ok p2 h⟩
   ·obtain⟨vs,q,rl⟩:=ro;exact⟨!vs.isEmpty,.inr (.inr ⟨vs,q,rfl⟩),by rw[bQ rl];exact d9.ok p2 h⟩
   ·exact p2.elim
theorem Bv{W2:List Expr}(ha:DE X Z a fa)(hb:DE X Z (.BoolOp .Or (b::W2) pos) fb):DE X Z (.BoolOp .Or (a::b::W2) pos) (E6 fa fb):=by
 refine⟨?_⟩
 intro pins s σ H Q I hE0
 refine hE0.elim λX9 μ G sr h p=>?_
 refine BoolOp_or (thn (ha.h pins s σ H _ I ⟨X9,μ,G,sr,h,(d9.bind p).mono λd X0 G1 H1 x1 h1 p1 v rv=>(⟨d,X0,G1,x1,rv,h1,p1⟩:∃d X0 G1,Ext μ H X0 H1/\j5 (wc X) X0 H1 d v/\v8 (wc X) X0 G1 H1/\d9 (wc X) Z X0 H1 ((S3 d >>= λk=>if k=true then pure d else fb X9) G1) λd X2 _ H'=>∀v,j5 (wc X) X2 H' d v->Q v H')⟩) λv s1 ⟨x,H1,I1,r1,d,X0,G1,x1,rd,h1,p1⟩=>?_)
 obtain⟨k,tk,p2⟩:=iN h1 rd p1
 refine thn (CH pins s1 σ H1 x v (λc H'=>c=k/\H'=H1) I1 r1 ⟨k,tk,rfl,rfl⟩) λc s2 ⟨H2,I2,e1,e2⟩=>?_
 subst e1 e2
 rcases c with _|_
 ·exact hb.h pins s2 σ H2 Q I2 ⟨X9,X0,G1,sr.mono x1,h1,p2⟩
 ·exact⟨x,H2,I2,r1,d9.ok p2 h1 _ rd⟩
theorem oS{W2:List Expr}(ha:DE X Z a fa)(hb:DE X Z (.BoolOp .And (b::W2) pos) fb):DE X Z (.BoolOp .And (a::b::W2) pos) (N1 fa fb):=by
 refine⟨?_⟩
 intro pins s σ H Q I hE0
 refine hE0.elim λX9 μ G sr h p=>?_
 refine BoolOp_and (thn (ha.h pins s σ H _ I ⟨X9,μ,G,sr,h,(d9.bind p).mono λd X0 G1 H1 x1 h1 p1 v rv=>(⟨d,X0,G1,x1,rv,h1,p1⟩:∃d X0 G1,Ext μ H X0 H1/\j5 (wc X) X0 H1 d v/\v8 (wc X) X0 G1 H1/\d9 (wc X) Z X0 H1 ((S3 d >>= λk=>if k=true then fb X9 else pure d) G1) λd X2 _ H'=>∀v,j5 (wc X) X2 H' d v->Q v H')⟩) λv s1 ⟨x,H1,I1,r1,d,X0,G1,x1,rd,h1,p1⟩=>?_)
 obtain⟨k,tk,p2⟩:=iN h1 rd p1
 refine thn (CH pins s1 σ H1 x v (λc H'=>c=k/\H'=H1) I1 r1 ⟨k,tk,rfl,rfl⟩) λc s2 ⟨H2,I2,e1,e2⟩=>?_
 subst e1 e2
 rcases c with _|_
 ·exact⟨x,H2,I2,r1,d9.ok p2 h1 _ rd⟩
 ·exact hb.h pins s2 σ H2 Q I2 ⟨X9,X0,G1,sr.mono x1,h1,p2⟩
end
end DL
namespace W
open PySem PySem.Spec L2 DL
open PyProof.Rows hiding St
section
theorem nN:Wp (E6 a b σ) G Q↔Wp (a σ) G λx G1=>Wp (S3 x) G1 λk G2=>if k=true then Q x G2 else Wp (b σ) G2 Q:=by unfold E6;simp only[j9,C8,m5]
theorem ID:Wp (N1 a b σ) G Q↔Wp (a σ) G λx G1=>Wp (S3 x) G1 λk G2=>if k=true then Wp (b σ) G2 Q else Q x G2:=by unfold N1;simp only[j9,C8,m5]
end
end W
namespace DL
open PySem PySem.Spec L2
open PyProof.Rows hiding St
structure t9(F:List D->M D)(n:Nat)(x:Str)(P:zZ)(w:jg)(K:zh)(mg:Str->Option zk)(base:Heap)(k:Nat):Prop where
 ex:∃f fd ps,O0 P w K mg base CX0 k f fd ps (spD ⟨K,mg⟩ n F)/\mg x=some (.ref f)/\yi K (.ref f)=true/\D5 K fd ps []
theorem t9.of{P:zZ}{w:jg}{K:zh}{base:Heap}{k n:Nat}{x:Str}{st:Stmt}{f:Addr}(c:FF K mg x st ps f fd)(h:O0 P w K mg base CX0 k f fd ps (spD ⟨K,mg⟩ n F)):t9 F n x P w K mg base k:=
 ⟨f,fd,ps,h,c.m,c.F.kp,c.b⟩
def bltL:List Str:= ["len", "isinstance", "all", "any", "sum", "min", "max", "abs", "sorted", "tuple", "list", "int", "str", "bool", "dict", "zip", "enumerate", "range", "reversed", "set"]
structure BLs(mg:Str->Option zk):Prop where
 h:∀b∈bltL,mg b=none
theorem ED:(xf p l).any (·.1)=l.any (·.1):=by
 unfold xf
 rw[ZG]
 rfl
theorem QB:∀ {es},es.all R6=true->(zP es env).any (·.1)=false
 |[],_=>rfl
 |e::es,h=>by
   rw[jX,jp]at h
   rw[a8 h.1,jW,QB h.2]
   rfl
section
theorem Tq(hN:∃N ps sc,x5 N ps sc/\X.N=N)(hi:X.N[i]? =some x)(hx:Loc X.env.scope x)(hf:X.fn x=true\/X.env.scope.names.lookup x=some .local):DG X Z (.Name x pos) (y0 i):=by
 obtain⟨N,ps,sc,S,e⟩:=hN
 exact MM (by rw[e];exact S.nd) hi hx hf
theorem uU(ha:DE X Z e fa)(hr:DA X Z es fs)(hs:R6 e=true):DA X Z (e::es) (d0 fa fs):=gJ ha hr (a8 hs)
theorem Sh(hF:∃k kk,t9 F n x X.prog X.w X.K X.mg X.base k/\V5 kk X.A/\k<=kk)(hg:Gl X x)(ha:DA X Z (e::es) fs)(hdb:(x==("__debug__" :Str))=false)(hs:(e::es).all R6=true):
 DE X Z (.Call (.Name x p) (e::es) [] pos) (x0 (fnX n F) fs):=by
 obtain⟨k,kk,hF,hr,hk⟩:=hF
 obtain⟨f,fd,ps,h1,h2,h3,h4⟩:=hF.ex
 rw[jX,jp]at hs
 exact Nw h1 (hr.mono hk) hg h2 h3 h4 ha hdb (a8 hs.1) (by rw[ED];exact QB hs.2)
structure BD(F:List D->M D)(x:Str)(X:Cx)(Z:XC):Prop where
 ex:(∃id,X4 X Z (.builtin id) F/\zX x=some (.builtin id))\/(∃T,X4 X Z (.type T) F/\zX x=some (.type T))
theorem eS8(hc:X.calm=true)(hF:X.calm=true->BD F x X Z)(hb:BLs X.mg)(hx:bltL.elem x=true)(hg:Gl X x)(ha:DA X Z (e::es) fs)(hn:x≠ "__name__")(hdb:(x==("__debug__" :Str))=false)(hs:(e::es).all R6=true):
 DE X Z (.Call (.Name x p) (e::es) [] pos) (x0 F fs):=by
 have hm:=hb.h x (List.elem_iff.mp hx)
 rw[jX,jp]at hs
 rcases (hF hc).ex with⟨id,h1,h2⟩|⟨T,h1,h2⟩
 ·exact BV h1 hg hm h2 ha hn hdb (a8 hs.1) (by rw[ED];exact QB hs.2)
 ·exact lT h1 hg hm h2 ha hn hdb (a8 hs.1) (by rw[ED];exact QB hs.2)
theorem Nz(_:X.calm=true):BD X7 "len" X Z:=⟨.inl ⟨_,mZ,Cj⟩⟩
theorem bU9(_:X.calm=true):BD Q0 "isinstance" X Z:=⟨.inl ⟨_,VZ,vw⟩⟩
theorem fG2(h:X.calm=true):BD C1 "all" X Z:=⟨.inl ⟨_,qf h,Bd⟩⟩
theorem fY(h:X.calm=true):BD dA "any" X Z:=⟨.inl ⟨_,eX9 h,Bx⟩⟩
theorem mW(h:X.calm=true):BD gA "max" X Z:=⟨.inl ⟨_,AV h,KL⟩⟩
theorem DZ(_:X.calm=true):BD qC "abs" X Z:=⟨.inl ⟨_,Db,Tf⟩⟩
theorem kg(_:X.calm=true):BD O4 "tuple" X Z:=⟨.inr ⟨_,eZ,VY⟩⟩
theorem Fb(_:X.calm=true):BD EA "list" X Z:=⟨.inr ⟨_,Nb,vY⟩⟩
theorem Wv(_:X.calm=true):BD lA "int" X Z:=⟨.inr ⟨_,Gj,OS⟩⟩
theorem Hh:∀n∈ ["int", "bool", "str", "tuple", "list", "dict"],zX (jo n)=some (.type n):=by decide +kernel
theorem fF0(hb:BLs X.mg)(hn:n∈ ["int", "bool", "str", "tuple", "list", "dict"])(hx:bltL.elem (jo n)=true)(hg:Gl X (jo n))(hnn:jo n≠ "__name__")(hd:(jo n==("__debug__" :Str))=false):DE X Z (.Name (jo n) pos) (cE (.ty n)):=
 wz hg (hb.h _ (List.elem_iff.mp hx)) (Hh n hn) hnn hd
theorem qh(he:DE X Z e fa)(hc:X.calm=true)(hb:BLs X.mg)(hg1:Gl X "list")(hg2:Gl X "reversed")(hs:R6 e=true):DE X Z (.Call (.Name "list" p1) [.Call (.Name "reversed" p2) [e] [] pos2] [] pos1) (unE lC fa):=
 Qm he hc hg1 (hb.h _ (by decide +kernel)) hg2 (hb.h _ (by decide +kernel)) (Z5 rfl) (Z5 hs)
theorem Vp(hb:BLs X.mg)(hg:Gl X "range")(ha:DA X Z [a] fs)(hs:R6 a=true):DI X Z tg (.Call (.Name "range" p) [a] [] pos) (R3 fs):=Rk hg (hb.h _ (by decide +kernel)) ha (Z5 hs)
theorem fT5(hb:BLs X.mg)(hg:Gl X "zip")(ha:DA X Z [a,b] fs)(hs:R6 a=true)(hs2:R6 b=true):DI X Z (.Tuple es1 x1 tp) (.Call (.Name "zip" p) [a,b] [] pos) (iA fs):=Hd hg (hb.h _ (by decide +kernel)) ha (qV hs hs2) (Z5 hs2) fB5
def u5(sc:Scope):List Str:=(sc.names.filterMap λy=>if y.2 == .local&&y.1 != (".0" :Str)then some y.1 else none)++(sc.names.filterMap λy=>if y.2 == .free then some y.1 else none)
theorem eJ2(hc:X.calm=true)(hi:DI X Z tg iter it)(k:∃XN ps osc,x5 XN ps osc/\X.env.scope=osc/\X.N=XN/\VF osc scope (u5 scope) XN caps=true)(nd:(u5 scope).Nodup)
 (hg:(u5 scope).Nodup->∀C s H ex,DG (S6 X scope (u5 scope) C s H ex) ZF tg gg) (ht:∀C s H ex,DTs (S6 X scope (u5 scope) C s H ex) ZF ifs tt) (he:∀C s H ex,DE (S6 X scope (u5 scope) C s H ex) ZF elt fe)
 (hf:∀x,yJ iter X.env x=pure x):DE X Z (.ListComp elt [⟨tg,iter,ifs,0⟩] scope pos) (J5 it caps gg tt fe):=let ⟨_,_,_,_,hs,hN,k⟩:=k;HX hc hi (E4.of k hs hN) (hg nd) ht he hf
theorem dR4(hc:X.calm=true)(hi:DI X Z tg iter it)(k:∃XN ps osc,x5 XN ps osc/\X.env.scope=osc/\X.N=XN/\VF osc scope (u5 scope) XN caps=true)(nd:(u5 scope).Nodup)
 (hg:(u5 scope).Nodup->∀C s H ex,DG (S6 X scope (u5 scope) C s H ex) ZF tg gg) (ht:∀C s H ex,DTs (S6 X scope (u5 scope) C s H ex) ZF ifs tt) (he:∀C s H ex,DE (S6 X scope (u5 scope) C s H ex) ZF elt fe)
 (hf:∀x,yJ iter X.env x=pure x) (hgo:DG X Z (.Name y py) g2) (hsw:swapsWith (.ListComp elt [⟨tg,iter,ifs,0⟩] scope pos) (some (.Name y py)) spos.line X.env=pure true):
 DS X Z (.Assign [.Name y py] (.ListComp elt [⟨tg,iter,ifs,0⟩] scope pos) spos) (u9 (J5 it caps gg tt fe) g2):=let ⟨_,_,_,_,hs,hN,k⟩:=k;Rh hc hi (E4.of k hs hN) (hg nd) ht he hf hgo hsw
end
section
end
end DL
namespace W
open PySem PySem.Spec L2 DL
open PyProof.Rows hiding St
section
end
end W
namespace DL
open PySem PySem.Spec L2
open PyProof.Rows hiding St
def Itd(a:Addr)(o:Obj)(kvs:List (Key×V)):It:=
 ⟨λi H=>H a=some (.frz o (.dK kvs))/\∃kv,kvs[i]? =some kv,λi H x H'=>H'=H/\∃kv,kvs[i]? =some kv/\x=kV kv.1,λi H=>H a=some (.frz o (.dK kvs))/\kvs.length<=i⟩
theorem rQ:∀ {kvs} {vs} {i:Nat} {kv:κ×V},KV kvs vs->kvs[i]? =some kv->∃v,vs[i]? =some (kv.1,v)
 |_,_,_,_,.nil,e=>by simp at e
 |_,_,0,_,.cons h t,e=>by
   simp only[zy,zH]at e
   subst e
   exact⟨_,by rw[zy,h.1]⟩
 |_,_,i+1,_,.cons h t,e=>by
   simp only[zM]at e ⊢
   exact rQ t e
theorem eS(h:(Q9 P w).is k u=true):J9 (kV k) u:=by
 rcases O8 h with⟨i,t,rfl,rfl⟩|⟨x,t,rfl,rfl⟩
 ·exact⟨t,rfl⟩
 ·exact⟨t,rfl⟩
theorem aQ(I:Inv X pins σ H s)(ho:o.data= .dict es ep)(e:H a=some (.frz o (.dK kvs))):
 (a==yC)=false/\∃vs,KV kvs vs/\s.heap.DictAt (Q9 X.prog X.w) a vs ep:=by
 obtain⟨hget,hz,hS,vs,r,m⟩:=(show T4 X.prog X.w H s.heap a (.frz o (.dK kvs))from I.hok a _ e)
 obtain⟨ep',dat⟩:=m.dictAt
 have hep:ep'=ep:=by
  obtain⟨o',es',h1,_,h3,_⟩:=id dat
  rw[hget]at h1
  cases h1
  rw[ho]at h3
  cases h3
  rfl
 subst hep
 exact⟨hS,vs,r,dat⟩
theorem SN{P:zZ}{w:jg}{K:zh}{tg:Expr}{a:Addr}{o:Obj}{ep:Nat}(ho:o.data= .dict es ep)(it:Addr):F7 P w K tg (Itd a o kvs) [it] it (λi h=>h.IsKeyIter it a i kvs.length ep) where
 mem:=by simp
 obj:=λi h st b hb=>by
  have e:b=it:=by simpa using hb
  subst e
  obtain⟨o,e,c,d⟩:=st
  exact⟨o,e,λv z=>by rw[d]at z;cases z⟩
 keep:=λi h h' st k=>let ⟨o,ho,r⟩:=st;⟨o,k it (by simp) o ho,r⟩
 item:=by
  intro X hP hw hK hc i pins s σ H E I hf st hg
  subst hP hw hK
  obtain⟨hfr,kv,hx⟩:=hg
  obtain⟨f0,f1,f2,f3,f4,f5⟩:=hf it (by simp)
  obtain⟨hS,vs,rel,dat⟩:=aQ I ho hfr
  obtain⟨v,hv⟩:=rQ rel hx
  have hlen:kvs.length=vs.length:=yT rel
  rw[hlen]at st
  refine wpAny_pyNext_dict_item st dat hv λkey h' hk st' sb=>?_
  have I1:Inv X pins σ H {s with heap:=h'}:=I.turned (λb o hb e=>(sb.2 b hb).trans e) f0 f1 f3 f4 f5
  obtain⟨o',e,cc,d⟩:=id st'
  refine⟨_,rfl,sB e cc d (by decide) ⟨kV kv.1,H,I1,eS hk,⟨rfl,kv,hx,rfl⟩,by rw[hlen];exact st',λb hb=>(hf b hb).1⟩⟩
 done:=by
  intro X hP hw hK hc i pins s σ H E I hf st hg
  subst hP hw hK
  obtain⟨hfr,hi⟩:=hg
  obtain⟨f0,f1,f2,f3,f4,f5⟩:=hf it (by simp)
  obtain⟨hS,vs,rel,dat⟩:=aQ I ho hfr
  have hlen:kvs.length=vs.length:=yT rel
  rw[hlen]at st hi
  exact wpAny_pyNext_dict_end (I.ok.hd hc) st dat (zR hi) λh' eb=>⟨rfl,I.turned (λb o hb e=>eb b o hb e) f0 f1 f3 f4 f5⟩
 self:=λ_ _ _ _ _ st h=>wpAny_pyIter_keyiter st h
theorem v8.setR(h:v8 c μ G H)(g:G[i]? =some o)(n:¬C4 (some o))(m:μ[i]? =some a)(k:Ext μ H μ (upd H a u))(ho:A6 c μ (upd H a u) a o'):v8 c μ (G.set i o') (upd H a u):=by
 have hi:i<G.length:=lt_of_get g
 have get:∀j,(G.set i o')[j]? =if i=j then some o' else G[j]? :=λj=>by
  rw[YG]
  by_cases e:i=j
  ·subst e;simp[hi]
  ·simp[e]
 refine⟨by simp[h.len],λj l b ej el=>?_,λj o2 b gj mj=>?_⟩
 · rcases h.inj j l b ej el with e|e|e
   ·exact .inl e
   · by_cases ij:i=j
     ·subst ij;rw[g]at e;exact(n e).elim
     ·right;left;rw[get,if_neg ij];exact e
   · by_cases ij:i=l
     ·subst ij;rw[g]at e;exact(n e).elim
     ·right;right;rw[get,if_neg ij];exact e
 · rw[get]at gj
   by_cases ij:i=j
   · subst ij
     rw[if_pos rfl]at gj
     cases gj
     rw[m]at mj
     cases mj
     exact ho
   · rw[if_neg ij]at gj
     have q:=h.obj j o2 b gj mj
     by_cases hr:C4 (some o2)
     ·exact q.mono k (.inr hr)
     · have nb:b≠a:=λe=>by
        subst e
        rcases h.inj i j b m mj with e|e|e
        ·exact ij e
        ·rw[g]at e;exact n e
        ·rw[gj]at e;exact hr e
       exact q.mono k (.inl (J2 nb))
section
theorem Inv.freeze(I:Inv X pins σ H s)(e:H a=some (.dK kvs))(ho:s.heap.get? a=some o):Inv X pins σ (upd H a (.frz o (.dK kvs))) s:=by
 have q:T4 X.prog X.w H s.heap a (.dK kvs):=I.hok a _ e
 exact I.write (by rw[e];exact trivial) (.inl rfl) (λb u _ z=>z) ⟨o,ho⟩ ⟨ho,q⟩
def iW(K:zh)(tl:TE):TI:=λσ H R=>tl σ H λx H1=>((∃z,x= .str z/\R (Its z) H1)\/(∃k a xs,x= .ref a/\Sq K k H1 a xs/\R (if k=true then Itt K a else Itl K a) H1))\/
 (∃a kvs,x= .ref a/\H1 a=some (.dK kvs)/\∀o,R (Itd a o kvs) (upd H1 a (.frz o (.dK kvs))))\/(∃a o kvs,x= .ref a/\H1 a=some (.frz o (.dK kvs))/\R (Itd a o kvs) H1)
theorem Sg(hl:PE X e tl):PI X tg e (iW X.K tl):=by
 intro pins s σ H R I h
 refine thn (hl pins s σ H _ I h) λv s1 hE1=>hE1.elim λx H1 I1 r1 q1=>?_
 have fpo:∀b∈ [s1.heap.objs.size],B1 X pins H1 b:=λb hb=>by
  have z:b=s1.heap.objs.size:=by simpa using hb
  subst z
  exact I1.fpOk (zn _) (I1.hok.fresh (zn _))
 rcases q1 with(⟨z,rfl,q⟩|⟨k,a,xs,rfl,hq,q⟩)|⟨a,kvs,rfl,hq,q⟩|⟨a,o,kvs,rfl,hq,q⟩
 · obtain⟨t,rfl⟩:=(show ∃t,v=Value.str z t from r1)
   refine wpAny_pyIter_strU ?_
   have I2:Inv X pins σ H1 {s1 with heap:=s1.heap.push {cls:=.type (Zf z),data:=.fields #[.str z t,.int 0 0]}}:=I1.kept λb o z=>zd _ z
   have hg:(s1.heap.push {cls:=.type (Zf z),data:=.fields #[.str z t,.int 0 0]}).get? s1.heap.objs.size=some {cls:=.type (Zf z),data:=.fields #[.str z t,.int 0 0]}:=zq _ rfl
   by_cases ha:z.cps.all (· < 128)=true
   · have e:Zf z= "str_ascii_iterator":=by unfold Zf;rw[if_pos ha]
     refine⟨s1.heap.objs.size, [s1.heap.objs.size],_,_,H1,rfl,I2,BY z t _,?_,fpo,q⟩
     rw[e]at hg ⊢
     exact⟨_,hg,rfl,rfl⟩
   · have e:Zf z= "str_iterator":=by unfold Zf;rw[if_neg ha]
     refine⟨s1.heap.objs.size, [s1.heap.objs.size],_,_,H1,rfl,I2,wg z t _,?_,fpo,q⟩
     rw[e]at hg ⊢
     exact⟨_,hg,rfl,rfl⟩
 · cases r1
   rcases k with _|_
   ·
     obtain⟨its,rv,p,hz⟩:=I1.list hq
     exact xo p.isList ⟨s1.heap.objs.size, [s1.heap.objs.size],_,_,H1,rfl,I1.kept λb o z=>zd _ z,Wz a _,⟨_,zq _ rfl,rfl,rfl⟩,fpo,q⟩
   ·
     obtain⟨its,rv,p,hz⟩:=I1.tuple hq
     exact wpAny_pyIter_tuple (show s1.heap.IsTuple a its.toArray from p) ⟨s1.heap.objs.size, [s1.heap.objs.size],_,_,H1,rfl,I1.kept λb o z=>zd _ z,Gp a _,⟨_,zq _ rfl,rfl,rfl⟩,fpo,q⟩
 · cases r1
   obtain⟨hz,hS,vs,rel,dd⟩:=UB I1.hok hq
   obtain⟨ep,dat⟩:=dd.dictAt
   obtain⟨o,es,h1,h2,h3,h4⟩:=id dat
   have hlen:kvs.length=vs.length:=yT rel
   have I2:=DL.Inv.freeze I1 hq h1
   have fpo2:∀b∈ [s1.heap.objs.size],B1 X pins (upd H1 a (.frz o (.dK kvs))) b:=λb hb=>by
    have z:b=s1.heap.objs.size:=by simpa using hb
    subst z
    exact I2.fpOk (zn _) (I2.hok.fresh (zn _))
   refine wpAny_pyIter_dict hS dat ⟨s1.heap.objs.size, [s1.heap.objs.size],_,_,upd H1 a (.frz o (.dK kvs)),rfl,I2.kept λb o z=>zd _ z,SN h3 _,?_,fpo2,q o⟩
   rw[hlen]
   exact⟨_,zq _ rfl,rfl,rfl⟩
 · cases r1
   obtain⟨hget,hz,hS,vs,rel,dd⟩:=(show T4 X.prog X.w H1 s1.heap a (.frz o (.dK kvs))from I1.hok a _ hq)
   obtain⟨ep,dat⟩:=dd.dictAt
   obtain⟨o',es,h1,h2,h3,h4⟩:=id dat
   rw[hget]at h1
   cases h1
   have hlen:kvs.length=vs.length:=yT rel
   refine wpAny_pyIter_dict hS dat ⟨s1.heap.objs.size, [s1.heap.objs.size],_,_,H1,rfl,I1.kept λb o z=>zd _ z,SN h3 _,?_,fpo,q⟩
   rw[hlen]
   exact⟨_,zq _ rfl,rfl,rfl⟩
def uK:Key->D
 | .inl i=>.int i
 | .inr x=>.str x
def fD(l:List (Key×D)):List D:=l.map λkv=>uK kv.1
def OD:D->M Src:=λx=>match x with
 | .ref r=>do
   match <-O5 r with
   | .dct l=>do
     let _ <-S4 r (.rod l)
     pure ⟨fD l,λ_=>true⟩
   | .rod l=>pure ⟨fD l,λ_=>true⟩
   |_=>tG (.ref r)
 |d=>tG d
def itW(f:Fe):DSt->M Src:=λσ=>do OD (<-f σ)
theorem mI{v:V}{R:It->Hp->Prop}(h1:v8 (wc X) X0 G1 H1)(rv:j5 (wc X) X0 H1 d v)(p1:d9 (wc X) Z X0 H1 (tG d G1) λs X2 _ H'=>∀J,ItD (wc X) X2 H' J s->R J H'):
 (∃z,v= .str z/\R (Its z) H1)\/(∃k a xs,v= .ref a/\Sq X.K k H1 a xs/\R (if k=true then Itt X.K a else Itl X.K a) H1):=by
 have main:∀dd:D,(∀z,dd≠ .str z)->j5 (wc X) X0 H1 dd v->d9 (wc X) Z X0 H1 (P2 dd G1) (λs X2 _ H'=>∀J,ItD (wc X) X2 H' J s->R J H')->(∃z,v= .str z/\R (Its z) H1)\/(∃k a xs,v= .ref a/\Sq X.K k H1 a xs/\R (if k=true then Itt X.K a else Itl X.K a) H1):=by
  intro dd _ rv p1
  have p1':d9 (wc X) Z X0 H1 ((P2 dd >>= λs=>(pure s:M Src)) G1) λs X2 _ H'=>∀J,ItD (wc X) X2 H' J s->R J H':=by
   have e:(P2 dd >>= λs=>(pure s:M Src))=P2 dd:=by
    funext G
    rw[M.bind_eq]
    rcases P2 dd G with _|q
    ·rfl
    ·obtain⟨r,G'⟩:=q;cases r<;>rfl
   rw[e];exact p1
  obtain⟨sr,k,a,vs,rfl,q,rl,is,ck,_,p2⟩:=wJ h1 rv p1'
  refine .inr ⟨k,a,vs,rfl,q,d9.ok p2 h1 _ λX2 G' H' x' h' ck' i=>?_⟩
  obtain⟨vs',q',rl'⟩:=is X2 G' H' x' h' ck'
  refine⟨λd hd=>?_,λhi=>?_⟩
  · obtain⟨y,hy,ry⟩:=rl'.get hd
    cases k with
    |true=>
      rw[if_pos rfl]
      exact⟨⟨vs',y,q',hy⟩,λx H2 ⟨e1,e2⟩=>by subst e1;exact⟨Ext.refl _ _,h',qM rl' hd (e2 vs' q')⟩⟩
    |false=>
      rw[if_neg jc]
      exact⟨⟨vs',y,q',hy⟩,λx H2 ⟨e1,e2⟩=>by subst e1;exact⟨Ext.refl _ _,h',qM rl' hd (e2 vs' q')⟩⟩
  · cases k with
    |true=>rw[if_pos rfl];exact⟨vs',q',by rw[<-rl'.length];exact hi⟩
    |false=>rw[if_neg jc];exact⟨vs',q',by rw[<-rl'.length];exact hi⟩
 cases d with
 |str z=>
   refine .inl ⟨z,U1 rv,d9.ok p1 h1 _ λX2 G' H' x' h' ck' i=>⟨λd hd=>?_,λhi=>?_⟩⟩
   · simp only[c6,zV]at hd
     cases hc:z.cps.toList[i]? with
     |none=>rw[hc]at hd;cases hd
     |some c=>
       rw[hc]at hd
       cases hd
       have hc':z.cps[i]? =some c:=by rw[<-jB];exact hc
       exact⟨⟨c,hc'⟩,λx H2 ⟨e1,c2,e2,e3⟩=>by
        subst e1
        rw[hc']at e2
        cases e2
        exact⟨Ext.refl _ _,h',by rw[e3];unfold j5;rfl⟩⟩
   · simp only[c6,zg]at hi
     show z.cps[i]? =none
     rw[<-jB]
     exact zR hi
 |tup l=>exact main (.tup l) (λz q=>nomatch q) rv p1
 |ref r=>exact main (.ref r) (λz q=>nomatch q) rv p1
 |_=>exact p1.elim
theorem BN{H:Hp}:∀ {l} {kvs} {i:Nat} {kd},z0 c μ H l kvs->l[i]? =some kd->∃v,kvs[i]? =some (kd.1,v)
 |[],_,_,_,_,e=>by simp at e
 |(k,d)::r,_,0,_,h,e=>by
  obtain⟨v,t,rfl,_,_⟩:=h
  simp only[zy,zH]at e
  subst e
  exact⟨v,rfl⟩
 |(k,d)::r,_,i+1,_,h,e=>by
  obtain⟨v,t,rfl,_,ht⟩:=h
  simp only[zM]at e ⊢
  exact BN ht e
theorem Nq(k:Key):j5 c μ H (uK k) (kV k):=by
 cases k<;>(unfold uK j5;rfl)
theorem wP{c:Wc}{H:Hp}(e:H a=some (.frz o (.dK kvs)))(rk:z0 c μ H l kvs):ItD c μ H (Itd a o kvs) ⟨fD l,λ_=>true⟩:=by
 intro X2 G' H' x h' _ i
 have e':=x.frz _ _ _ e
 refine⟨λd hd=>?_,λhi=>⟨e',by rw[<-rk.length];simpa [fD]using hi⟩⟩
 simp only[fD,zV]at hd
 cases hl:l[i]? with
 |none=>rw[hl]at hd;cases hd
 |some kd=>
   rw[hl]at hd
   cases hd
   obtain⟨v,hv⟩:=BN rk hl
   exact⟨⟨e',_,hv⟩,λy H2 ⟨e1,kv,e2,e3⟩=>by
    subst e1
    rw[hv]at e2
    cases e2
    exact⟨Ext.refl _ _,h',by rw[e3];exact Nq _⟩⟩
theorem cU(he:DE X Z e f):DI X Z tg e (itW f):=
 DI.of (Sg he.h) λσ H R hE0=>hE0.elim λX9 μ G s h p=>⟨X9,μ,G,s,h,(d9.bind p).mono λd X0 G1 H1 x1 h1 p1 v rv=>by
  cases d with
  |ref r=>
    have rv':=rv
    unfold j5 at rv'
    obtain⟨a,m,rfl⟩:=rv'
    obtain⟨o,g,p2⟩:=N5 p1
    have ro:=h1.obj r o a g m
    rcases o with l|l|l|l
    ·exact .inl (mI h1 rv p2)
    ·exact .inl (mI h1 rv p2)
    ·
      obtain⟨kvs,q,rk⟩:=ro
      refine .inr (.inl ⟨a,kvs,rfl,q,λo=>?_⟩)
      have x:Ext X0 H1 X0 (upd H1 a (.frz o (.dK kvs))):=Ext.mut (yn m) q (λ_ z=>nomatch z) (λ_ _ z=>nomatch z) _
      have hk':=rk.mono x
      have h2:v8 (wc X) X0 (G1.set r (.rod l)) (upd H1 a (.frz o (.dK kvs))):=h1.setR g (λz=>z) m x ⟨kvs,o,O6,hk'⟩
      have p3:=d9.from p2 x
      exact d9.ok p3 h2 _ (wP O6 hk')
    ·
      obtain⟨kvs,o,q,rk⟩:=ro
      exact .inr (.inr ⟨a,o,kvs,rfl,q,d9.ok p2 h1 _ (wP q rk)⟩)
  |_=>exact .inl (mI h1 rv p1)⟩
end
end DL
namespace W
open PySem PySem.Spec L2 DL
open PyProof.Rows hiding St
section
theorem wp_itW:Wp (itW f σ) G R↔Wp (f σ) G λx G1=>Wp (OD x) G1 R:=by
 unfold itW;simp only[j9]
theorem srcW_tup:Wp (OD (.tup l)) G R↔R ⟨l,λ_=>true⟩ G:=m5
theorem P6(e:G[p]? =some (.lst l)):Wp (OD (.ref p)) G R↔R ⟨l,ckO p (.lst l)⟩ G:=by
 unfold OD
 simp only[j9,O3,e,Q3]
 exact CY e
end
end W
namespace DL
open PySem PySem.Spec L2
open PyProof.Rows hiding St
section
theorem Sc{a:Addr}{o:Obj}{n:Nat}(hT:T= "list"\/T= "tuple")(ho:s.heap.get? a=some o)(hc:o.cls= .type T)(hd:o.data= .seq vs.toArray n)(h64:vs.length<64)(hS:StrsAre vs ss)
 (h:∀(h1 h':Heap) (tk e:Nat) out ss',(∀b o,s.heap.get? b=some o->h1.get? b=some o)->(∀b o,h1.get? b=some o->h'.get? b=some o)->h'.get? h1.objs.size=some (ju "list" out.toArray e)->StrsAre out ss'->ss'.Perm ss->sortedS ss'=true->Q (.ref h1.objs.size) {s with heap:=h',toks:=tk}):
 zw (zE prog w) A (call (.builtin "sorted") [.ref a]) Q E s:=by
 have hz:vs.length<=zo:=zG (yV h64) (by decide)
 refine Xs kind_sorted plain_sorted entry_sorted (args_sorted1 _) ?_
 unfold yj.«sorted»
 refine za (zp ?_)
 refine za (wpAny_collect_seq a hT ho hc hd (λh1 hk=>?_) (by rw[zj];exact hz))
 refine za (Ze ?_ hz)
 have hoL:(h1.push (ju "list" vs.toArray 0)).get? h1.objs.size=some (ju "list" vs.toArray 0):=zq _ rfl
 refine za (jI (jE Jt ⟨_,hoL,rfl⟩ Jb (list_sort_treeK strKind_oneLt hoL hS.keysOf (λv₁ v₂ W2 e=>keyKind_strs (by rw[<-e];exact hS)) h64 λst' a1 a2=>⟨_,rfl,?_⟩) (args_list_sort _)))
 obtain⟨ss',b1,b2,b3⟩:=sorted_out_str hS a1 a2
 obtain⟨e,he⟩:=sortedHeap_at hoL
 refine zp ⟨_,rfl,h h1 _ s.toks e ((yh st').map (·.2)).toList ss' hk (λb o hb=>?_) (by rw[ZV];exact he) b1 b2 b3⟩
 have hlt:b<h1.objs.size:=zr hb
 rw[sortedHeap_old (zD hlt) (by rw[Yg];exact jO hlt),xE _ _ _ (zD hlt)]
 exact hb
end
def KC(l:List D):M D:=do
 let ss <-M0 (E3 l)
 if ss.length<64 then M6 (.lst ((B2 ss).map .str))else M.stuck
def t8:List D->M D:=λds=>match ds with
 |[.tup l]=>KC l
 |[.ref r]=>do
   match <-O5 r with
   | .lst l=>KC l
   | .dct l=>do
     let ss <-M0 (K6 l)
     if ss.length<64 then M6 (.lst ((B2 ss).map .str))else M.stuck
   |_=>M.stuck
 |_=>M.stuck
section
theorem RG:∀ {l} {ss} {vs} {us},E3 l=some ss->t6 c μ H l vs->v6 vs us->StrsAre us ss
 |[],_,_,_,e,r,v=>by cases e;cases r;cases v;exact .nil
 | .str x::t,ss,_,_,e,r,v=>by
   replace e:=show (E3 t).map (_ :: ·)=some _ from e
   rcases h:E3 t with _|q
   ·rw[h]at e;exact J7 e
   ·
     rw[h]at e
     cases e
     obtain⟨v0,tl,rfl,r0,rt⟩:=r
     cases v with
     |cons ru rt2=>
       rw[U1 r0]at ru
       obtain⟨tk,rfl⟩:=ru
       exact .cons _ _ (RG h rt rt2)
 | .non::_,_,_,_,e,_,_=>by exact J7 e
 | .bl _::_,_,_,_,e,_,_=>by exact J7 e
 | .int _::_,_,_,_,e,_,_=>by exact J7 e
 | .tup _::_,_,_,_,e,_,_=>by exact J7 e
 | .ref _::_,_,_,_,e,_,_=>by exact J7 e
 | .fn _::_,_,_,_,e,_,_=>by exact J7 e
 | .ty _::_,_,_,_,e,_,_=>by exact J7 e
theorem bM:∀ {l} {ss},E3 l=some ss->ss.length=l.length
 |[],_,e=>by cases e;rfl
 | .str x::t,ss,e=>by
   replace e:=show (E3 t).map (_ :: ·)=some _ from e
   rcases h:E3 t with _|q
   ·rw[h]at e;exact J7 e
   ·rw[h]at e;cases e;simp[bM h]
 | .non::_,_,e=>by exact J7 e
 | .bl _::_,_,e=>by exact J7 e
 | .int _::_,_,e=>by exact J7 e
 | .tup _::_,_,e=>by exact J7 e
 | .ref _::_,_,e=>by exact J7 e
 | .fn _::_,_,e=>by exact J7 e
 | .ty _::_,_,e=>by exact J7 e
theorem TM(I:Inv X pins σ H s)(hr:v8 (wc X) μ G H)(rl:t6 (wc X) μ H l vs)(rv:v6 vs us)(hT:T= "list"\/T= "tuple")(ho:s.heap.get? a=some o)(hc:o.cls= .type T)(hd:o.data= .seq us.toArray n)
 (p:d9 (wc X) Z μ H (KC l G) λd X2 _ H'=>∀v,j5 (wc X) X2 H' d v->Q v H'):zw (zE X.prog X.w) X.A (call (.builtin "sorted") [.ref a]) (EP X pins σ Q) X.xe s:=by
 obtain⟨ss,es,p2⟩:=U4 p
 split at p2
 case isFalse=>exact p2.elim
 rename_i h64
 have hS:=RG es rl rv
 have hlen0:us.length=ss.length:=by rw[bM es,rl.length,rv.length]
 refine Sc hT ho hc hd (by lia) hS λh1 h' tk e out ss' k1 k2 he hS' hp hs=>?_
 have e2:=gN hp hs
 subst e2
 obtain⟨ws,ew,rv',rl2⟩:=nG (μ:=μ) hS'
 have I1:Inv X pins σ H {s with heap:=h1,toks:=tk}:=I.kept k1
 have hf:=I1.hok.fresh (zn _)
 have hlen:ws.length<=zo:=by
  rw[ew,zg]
  have e3:(B2 ss).length=ss.length:=(jL ss leS).length_eq
  have:(64:Nat)<=zo:=by decide
  lia
 exact⟨.ref h1.objs.size,upd H h1.objs.size (.lst ws),I1.laid k2 (zn _) ⟨hlen,out,e,rv',he⟩,rfl,U3 hr rl2 p2 _ hf⟩
theorem cS4(hc:X.calm=true):X4 X Z (.builtin "sorted") t8:=⟨by
 intro pins s σ H xs us Q I r hE0
 obtain⟨ds,μ,G,rl,hr,p⟩:=hE0
 rcases ds with _|⟨_|_|_|_|l|i|_|_,_|⟨_,_⟩⟩<;>try exact p.elim
 all_goals (delta t8 at p;dsimp only at p)
 · obtain⟨v,rfl,rv⟩:=T1 rl
   obtain⟨u,rfl,ru⟩:=Q2 r
   unfold j5 at rv
   obtain⟨a,vs,rfl,q,rl'⟩:=rv
   cases ru
   obtain⟨its,rv,⟨o,h1,h2,n,h3⟩,hz⟩:=I.tuple q
   exact TM I hr rl' rv (.inr rfl) h1 h2 h3 p
 · obtain⟨v,rfl,rv⟩:=T1 rl
   obtain⟨u,rfl,ru⟩:=Q2 r
   have rv':=rv
   unfold j5 at rv'
   obtain⟨a,m,rfl⟩:=rv'
   cases ru
   obtain⟨o,g,p1⟩:=N5 p
   have ro:=hr.obj i o a g m
   rcases o with l|l|l|l
   ·
     obtain⟨vs,q,rl'⟩:=ro
     obtain⟨its,rv,pl,hz⟩:=I.list (SqL.of q)
     obtain⟨o,h1,h2,n,h3⟩:=pl.isList
     exact TM I hr rl' rv (.inl rfl) h1 h2 h3 p1
   ·exact p1.elim
   ·
     refine(dI9 (Z:=Z) hc).h pins s σ H [.ref a] [.ref a] Q I r ⟨[.ref i],μ,G,rl,hr,?_⟩
     have eo:O5 i G=some (.ok (.dct l),G):=by unfold O5;simp only[g]
     have e:dI [.ref i] G= ((do
      let ss <-M0 (K6 l)
      if ss.length<64 then M6 (.lst ((B2 ss).map .str))else M.stuck:M D)) G:=by
      show ((O5 i >>= λo=>match o with
       | .dct l => (do
         let ss <-M0 (K6 l)
         if ss.length<64 then M6 (.lst ((B2 ss).map .str))else M.stuck:M D)
       |_=>M.stuck):M D) G=_
      rw[M.bind_ok eo]
     rw[e]
     exact p1
   ·exact p1.elim⟩
theorem US(h:X.calm=true):BD t8 "sorted" X Z:=⟨.inl ⟨_,cS4 h,NI⟩⟩
end
end DL
namespace W
open PySem PySem.Spec L2 DL
open PyProof.Rows hiding St
section
theorem KZ(hs:E3 l=some ss)(h64:ss.length<64):Wp (KC l) G Q↔Q (.ref G.length) (G++[.lst ((B2 ss).map .str)]):=by
 unfold KC
 simp only[j9,D3,hs,Q3,if_pos h64,Q8]
theorem qX(e:G[r]? =some (.lst l))(hs:E3 l=some ss)(h64:ss.length<64):Wp (t8 [.ref r]) G Q↔Q (.ref G.length) (G++[.lst ((B2 ss).map .str)]):=by
 unfold t8
 simp only[j9,O3,e,Q3]
 exact KZ hs h64
theorem bL(e:G[r]? =some (.dct l))(hs:K6 l=some ss)(h64:ss.length<64):Wp (t8 [.ref r]) G Q↔Q (.ref G.length) (G++[.lst ((B2 ss).map .str)]):=by
 unfold t8
 simp only[j9,O3,e,Q3,D3,hs,if_pos h64,Q8]
end
end W
namespace DL
open PySem
theorem vb:Jj (.type "list") "keys" =pure none:=by rw[Zm,xn];kernel_rfl
section
theorem wT{h:Heap}{t:Nat}{os:OsState}{a:Addr}{o:Obj}{k:Nat}
 (hx:h.get? a=some o) (hc:o.cls= .type "list") (hdat:o.data= .seq xs k) (hd:o.dict=none) (hA:A.handled=none)
 (hq:∀h' tk,(∀b ob,h.get? b=some ob->h'.get? b=some ob)->Q none ⟨h',g,d,tk,os⟩):
 zw (zE prog w) A (getAttr? (.ref a) "keys") Q E ⟨h,g,d,t,os⟩:=by
 obtain⟨c,dct,dat,sl⟩:=o
 simp only at hc hdat hd
 subst hc hdat hd
 have hT:∀tk',(⟨h,g,d,tk',os⟩:zv).TypeIs (.ref a) "list":=λ_=>⟨_,hx,rfl⟩
 have f1:=sub_AttributeError
 have f3:=ZB.lookup
 have f4:=ZB.bind (.ref a)
 have f5:=am_list_getattr_none
 unfold getAttr? getAttrBy? getAttrBy
 repeat (any_goals (first|assumption|exact hT _|((with_reducible show zw _ _ (call (Value.builtin "list.__getattribute__") _ _) _ _ _);refine xK ZB (hT _) am_entry_list_getattribute (F.args_list_getattribute_2 _ _) (meets_getattribute_miss_list a xs k sl "keys" _ vb (by decide +kernel) (by decide +kernel)) ⟨hx,hA,λh' tk' e hx'=>?_⟩)|wp_step))
 obtain⟨t',u',he⟩:=hx'.there
 have hTe:∀tk'',(⟨h',g,d,tk'',os⟩:zv).TypeIs (.ref e) "AttributeError":=λ_=>⟨_,he,rfl⟩
 show zw _ _ (getattributeRaised _ _ _ _ _ _ _) _ _ _
 unfold getattributeRaised
 repeat (any_goals (first|assumption|exact hTe _|wp_step))
 exact hq _ _ hx'.keeps
end
end DL
namespace DL
open PySem
open PyProof.Rows (IsTup)
theorem vN:Jo table "dict.update.loop" =some yj.«dict.update.loop»:=entryFor_of_tree (by kernel_rfl)
theorem uE:plainId "dict.update.loop" =true:=by decide +kernel
section
variable{prog:zZ}{w:jg}{A:jr}{R:Result->zv->Prop}{I:Addr}{fp wr:List Addr}{n:Nat}{P:Nat->zk->Prop}{St:Nat->Heap->Prop}{K:Type}[DecidableEq K]{knd:KeyKind prog w K}
theorem wv(h:Yn s.heap ta #[x,y])(q:Q [x,y] s):zw (zE prog w) A (YU (.ref ta)) Q E s:=by
 obtain⟨o,ho,hc,m,hd⟩:=h
 have hT:s.TypeIs (.ref ta) "tuple":=⟨_,ho,hc⟩
 unfold YU
 refine za (xP hT ?_)
 rw[if_pos (by decide)]
 exact za (jR ho hd (zp q))
theorem VU(W:Walks prog w A.in1 I fp wr n P St)(S:Addr)(hSf:S∉fp)(h0:Heap)(ps:List (K×zk))(hn:ps.length=n)
 (hval:∀i v,P i v->∃ta key kv,v= .ref ta/\ps[i]? =some kv/\Yn h0 ta #[key,kv.2]/\knd.is kv.1 key=true/\ta≠S/\ta∉wr) (hsz:n<=zo):
 ∀k i s m tk,n-i=k->i<=n->St i s.heap->s.heap.DictOf knd S (Jl [] (ps.take i))->(∀b o,b≠S->b∉wr->h0.get? b=some o->s.heap.get? b=some o)->
  (∀h' tk',h'.DictOf knd S (Jl [] ps)->(∀b o,b≠S->b∉wr->h0.get? b=some o->h'.get? b=some o)->R (.ok (.ret .none)) {s with heap:=h',toks:=tk'})->
  ZC (zE prog w) A (.builtin "dict.update.loop" ⟨[.ref S,.ref I,.int m tk,.none], []⟩) R s:=by
 have hSw:S∉wr:=λh=>hSf (W.sub _ h)
 intro k
 induction k with
 |zero=>
   intro i s m tk hk hi hst hS hh hR
   have hin:i=n:=by lia
   subst hin
   refine yr vN ?_
   rw[jP uE _]
   show zw _ A.in1 (Zt (.ref I) >>= _) _ _ s
   refine za (W.done s _ _ hst λh' tk' hm=>?_)
   show zw _ A.in1 (Builtin.Dict.addKeywords S [] >>= _) _ _ _
   refine za (zp ?_)
   refine zp (hR h' tk' ?_ λb o hb hb' e=>hm b o hb' (hh b o hb hb' e))
   rw[List.take_of_length_le (by lia)]at hS
   obtain⟨o,es,ep,ho,W2⟩:=hS
   exact⟨o,es,ep,hm S _ hSw ho,W2⟩
 |succ k ih=>
   intro i s m tk hk hi hst hS hh hR
   have hlt:i<n:=by lia
   refine yr vN ?_
   rw[jP uE _]
   show zw _ A.in1 (Zt (.ref I) >>= _) _ _ s
   refine za (W.item i s _ _ hlt hst λv h' tk' hP hst' hm=>?_)
   obtain⟨ta,key,kv,rfl,hkv,⟨ot,hot,hct,mt,hdt⟩,hkey,hne,hnw⟩:=hval i v hP
   have hS':h'.DictOf knd S (Jl [] (ps.take i)):=by
    obtain⟨o,es,ep,ho,W2⟩:=hS
    exact⟨o,es,ep,hm S _ hSw ho,W2⟩
   have ht':Yn h' ta #[key,kv.2]:=⟨ot,hm ta _ hnw (hh ta _ hne hnw hot),hct,mt,hdt⟩
   refine za (jI ?_)
   refine za (Yy (wv ht' ?_))
   refine jI ?_
   have hlen:(Jl [] (ps.take i)).length<=zo:=by
    have:=merged_length_le [] (ps.take i)
    rw[Zw,yp]at this
    lia
   refine wpAny_dictSet_pairs hkey hS' λh'' hd'' hsb=>?_
   refine zp ⟨yB uE _,ih (i+1) _ _ _ (by lia) hlt (W.frame _ _ _ hst' λb hb o e=>?_) ?_ (λb o hb hb' e=>?_) λh3 tk3 hd3 hk3=>hR h3 tk3 hd3 hk3⟩
   ·rw[hsb.2 b (λh:b=S=>hSf (by rw[<-h];exact hb))];exact e
   ·rw[merged_take_succ [] ps i kv hkv];exact hd''
   ·rw[hsb.2 b hb];exact hm b o hb' (hh b o hb hb' e)
end
section
variable{prog:zZ}{w:jg}{A:jr}{E:VSP}{s:zv}{K:Type}[DecidableEq K]{knd:KeyKind prog w K}
theorem Dw{m:Nat}(hx:s.heap.get? src=some o)(hc:o.cls= .type "list")(hd:o.data= .seq items m)(hdict:o.dict=none)(hA:A.handled=none)
 (hn:ps.length=items.size) (hsz:items.size<=zo) (hval:∀(i:Nat) (v:zk),items[i]? =some v->∃(ta:Addr) (key:zk) (kv:K×zk),v= .ref ta/\ps[i]? =some kv/\Yn s.heap ta #[key,kv.2]/\knd.is kv.1 key=true)
 (h:∀h' tk,h'.DictOf knd s.heap.objs.size (Jl [] ps)->(∀b o,s.heap.get? b=some o->h'.get? b=some o)->Q (.ref s.heap.objs.size) {s with heap:=h',toks:=tk}):
 zw (zE prog w) A (call (.type "dict") [.ref src]) Q E s:=by
 refine callType_codes (Q₁:=λobj W1=>obj= .ref s.heap.objs.size/\W1= {s with heap:=s.heap.push {cls:=.type "dict",data:=.dict #[]}}) F.kt_called_dict (F.kt_typeCall_dict_1 _) F.entry_dict_init (kt_code_dict_new _ ⟨rfl,rfl⟩) ?_
 rintro obj W1 ⟨rfl,rfl⟩
 have hnew:(s.heap.push {cls:=.type "dict",data:=.dict #[]}).DictOf knd s.heap.objs.size []:=Jg s.heap
 have hlt:src<s.heap.objs.size:=zr hx
 have hx1:(s.heap.push {cls:=.type "dict",data:=.dict #[]}).get? src=some o:=zd _ hx
 have hT1:Shared.TypeIs {s with heap:=s.heap.push {cls:=.type "dict",data:=.dict #[]}} (.ref src) "list":=⟨_,hx1,hc⟩
 refine⟨hnew.typeIs,F.args_dict_init_2 _ _,?_⟩
 unfold yj.«dict.__init__»
 refine za ?_
 unfold Builtin.Dict.selfAndRest
 refine za (wpAny_notOrdered_dict hnew.typeIs ?_)
 show zw _ _ (pure (s.heap.objs.size, [Value.ref src])) _ _ _
 refine zp ?_
 show zw _ _ (YJ "dict.__init__" s.heap.objs.size (.ref src) [] .none) _ _ _
 unfold YJ
 refine za (xP hT1 ?_)
 rw[if_pos (by decide)]
 have hA2:A.in1.in1.handled=none:=by simp[hA]
 refine za (wT hx1 hc hd hdict hA2 λh2 tk2 k2=>?_)
 simp only[Option.isNone_none,if_true]
 refine za (Zs ?_)
 have hx2:h2.get? src=some o:=k2 _ _ hx1
 have hl2:h2.IsList src items:=⟨o,hx2,hc,m,hd⟩
 have hS2:h2.DictOf knd s.heap.objs.size []:=by
  obtain⟨o,es,ep,ho,W2⟩:=hnew
  exact⟨o,es,ep,k2 _ _ ho,W2⟩
 have hlt2:s.heap.objs.size<h2.objs.size:=by
  obtain⟨o,es,ep,ho,W2⟩:=hS2
  exact zr ho
 refine za (xo hl2 ?_)
 have hA1:A.in1.in1.handled=none:=hA2
 refine zp ⟨yB uE _,?_⟩
 have hkeep:∀b ob,s.heap.get? b=some ob->h2.get? b=some ob:=λb ob e=>k2 _ _ (zd _ e)
 refine VU (knd:=knd) (JP hA1 h2.objs.size src (zD (xN hlt hlt2)) items) s.heap.objs.size ?_ s.heap ps hn ?_ hsz items.size 0 _ _ _ (by lia) (zQ _) ?_ ?_ ?_ ?_
 · simp only[zt,zS,or_false,not_or]
   exact⟨zD hlt2,yb hlt⟩
 · intro i v hv
   obtain⟨ta,key,kv,e1,e2,e3,e4⟩:=hval i v hv
   have hta:ta<s.heap.objs.size:=by obtain⟨_,e,_⟩:=e3;exact zr e
   exact⟨ta,key,kv,e1,e2,e3,e4,zD hta,by simp only[zt,zS,or_false];exact zD (xN hta hlt2)⟩
 ·exact⟨⟨_,zq _ rfl,rfl,rfl⟩,hl2.push _⟩
 · show Heap.DictOf knd (h2.push _) _ _
   exact hS2.push _
 · intro b ob hb hb' e
   exact zd _ (hkeep b ob e)
 · intro h' tk' hd' hk'
   refine⟨rfl,h h' tk' hd' λb ob e=>hk' b ob ?_ ?_ e⟩
   ·exact zD (zr e)
   · simp only[zt,zS,or_false]
     exact zD (xN (zr e) hlt2)
end
end DL
namespace DL
open PySem PySem.Spec L2
open PyProof.Rows hiding St
def IB:D->Option (Key×D)
 | .tup [k,v]=>match d6 k with
   |some q=>some (q,v)
   |none=>none
 |_=>none
def P9:List D->Option (List (Key×D))
 |[]=>some []
 |d::r=>match IB d,P9 r with
   |some p,some ps=>some (p::ps)
   |_,_=>none
def rC(acc:List (Key×D))(l:List (Key×D)):List (Key×D):=l.foldl (λacc kv=>L9 acc kv.1 kv.2) acc
def pA:List D->M D:=λds=>match ds with
 |[.ref r]=>do
   let l <-O5 r >>= listOf
   let ps <-M0 (P9 l)
   M6 (.dct (rC [] ps))
 |_=>M.stuck
section
variable{X:Cx}{Z:XC}{μ:List Addr}{H:Hp}{G:DH}
theorem EV(h:IB d=some p):∃k,d= .tup [k,p.2]/\d6 k=some p.1:=by
 rcases d with _|_|_|_|l|_|_|_<;>try (cases h;done)
 rcases l with _|⟨k,_|⟨v,_|⟨_,_⟩⟩⟩<;>try (cases h;done)
 delta IB at h
 dsimp only at h
 rcases e:d6 k with _|q
 ·rw[e]at h;cases h
 ·rw[e]at h;cases h;exact⟨k,rfl,e⟩
theorem HQ{σ:St}(I:Inv X pins σ H s):∀ {l:List D} {ps} {vs:List V} {its},P9 l=some ps->t6 (wc X) μ H l vs->v6 vs its->
 ∃(kvs:List (Key×V)) (ws:List (Key×zk)),z0 (wc X) μ H ps kvs/\KV kvs ws/\ws.length=its.length/\∀(i:Nat) v,its[i]? =some v->∃(ta:Addr) (key:zk) (kv:Key×zk),v= .ref ta/\ws[i]? =some kv/\Yn s.heap ta #[key,kv.2]/\(Q9 X.prog X.w).is kv.1 key=true
 |[],ps,vs,its,e,rl,rv=>by
   cases e;cases rl;cases rv
   exact⟨[], [],rfl,.nil,rfl,λi v h=>by simp at h⟩
 |d::r,ps,vs,its,e,rl,rv=>by
   replace e:(match IB d,P9 r with|some p,some ps=>some (p::ps)|_,_=>none)=some ps:=e
   rcases e1:IB d with _|p
   ·rw[e1]at e;cases e
   ·
     rcases e2:P9 r with _|qs
     ·rw[e1,e2]at e;cases e
     ·
       rw[e1,e2]at e
       cases e
       obtain⟨v,t,rfl,r0,rt⟩:=rl
       cases rv with
       |cons q0 qt=>
         obtain⟨kvs,ws,h1,h2,h3,h4⟩:=HQ I e2 rt qt
         obtain⟨k,rfl,hk⟩:=EV e1
         unfold j5 at r0
         obtain⟨a,us,rfl,hq,ru⟩:=r0
         obtain⟨x,y,rfl,rx,ry⟩:=gQ ru
         obtain⟨its2,rr,ht,_⟩:=I.tuple hq
         obtain⟨p1,p2⟩:=p
         cases rr with
         |cons rr0 rr1=>
           cases rr1 with
           |cons rr2 rr3=>
             cases rr3
             rename_i w0 w1
             have ex:=VJ hk rx
             subst ex
             cases (show _=Value.ref a from q0)
             refine⟨(p1,y)::kvs,(p1,w1)::ws,⟨y,kvs,rfl,ry,h1⟩,.cons ⟨rfl,rr2⟩ h2,by simp[h3],λi v hv=>?_⟩
             cases i with
             |zero=>
               simp only[zy,zH]at hv
               subst hv
               exact⟨a,w0,(p1,w1),rfl,rfl,ht,nB rr0⟩
             |succ i=>exact h4 i v (by simpa using hv)
theorem uQ:∀ {ps} {kvs} {acc} {acc'},z0 c μ H ps kvs->z0 c μ H acc acc'->z0 c μ H (rC acc ps) (kvs.foldl (λacc kv=>K2 acc kv.1 kv.2) acc')
 |[],_,_,_,r,q=>by cases r;exact q
 |(k,d)::t,_,_,_,r,q=>by
  obtain⟨v,kt,rfl,rv,rt⟩:=r
  have z:=uQ rt (QP (k:=k) rv q)
  exact z
theorem qO:∀ {kvs} {ws} {acc:List (Key×V)} {acc'},KV kvs ws->KV acc acc'->KV (kvs.foldl (λacc kv=>K2 acc kv.1 kv.2) acc) (Jl acc' ws)
 |_,_,_,_,.nil,q=>q
 |_,_,_,_,.cons (a:=p) (b:=r) ⟨e,rv⟩ t,q=>by
   obtain⟨k,v⟩:=p
   obtain⟨k',u⟩:=r
   cases (show k=k' from e)
   have z:=qO t (q.put k rv)
   exact z
theorem Mf{σ:St}{Q:VK}{ps:List (Key×D)}{h':Heap}{tk:Nat}(I:Inv X pins σ H s)(hr:v8 (wc X) μ G H)(h1:z0 (wc X) μ H ps kvs)(h2:KV kvs ws)(hz:ws.length<=zo)
 (p:d9 (wc X) Z μ H (M6 (.dct (rC [] ps)) G) λd X2 _ H'=>∀v,j5 (wc X) X2 H' d v->Q v H')
 (hd:h'.DictOf (Q9 X.prog X.w) s.heap.objs.size (Jl [] ws)) (hk:∀b o,s.heap.get? b=some o->h'.get? b=some o):EP X pins σ Q (.ref s.heap.objs.size) {s with heap:=h',toks:=tk}:=by
 have k3:=qO h2 (.nil:KV [] [])
 have hl:(kvs.foldl (λacc kv=>K2 acc kv.1 kv.2) []).length<=zo:=by
  rw[k3.length]
  have:=merged_length_le [] ws
  rw[yp]at this
  lia
 have hq:H s.heap.objs.size=none:=I.hok.fresh (zn _)
 refine⟨.ref s.heap.objs.size,_,I.laid hk (zn _) (BP hl (beq_eq_false_iff_ne.mpr (Ne.symm (zD I.big))) k3 hd),rfl,?_⟩
 have k:Ext μ H (μ++[s.heap.objs.size]) (upd H s.heap.objs.size (.dK (kvs.foldl (λacc kv=>K2 acc kv.1 kv.2) []))):=Ext.add hq _
 have e0:z0 (wc X) μ H (rC [] ps) (kvs.foldl (λacc kv=>K2 acc kv.1 kv.2) []):=uQ h1 rfl
 refine p (μ++[s.heap.objs.size]) _ k (hr.new hq ⟨_,O6,e0.mono k⟩) _ ?_
 unfold j5
 exact⟨s.heap.objs.size,by rw[<-hr.len];simp,rfl⟩
theorem eI3(hc:X.calm=true):X4 X Z (.type "dict") pA:=⟨by
 intro pins s σ H xs us Q I r hE0
 obtain⟨ds,μ,G,rl,hr,p⟩:=hE0
 have hh:X.A.handled=none:=I.ok.hd hc
 rcases ds with _|⟨_|_|_|_|l|i|_|_,_|⟨_,_⟩⟩<;>try exact p.elim
 all_goals (delta pA at p;dsimp only at p)
 · obtain⟨v,rfl,rv⟩:=T1 rl
   obtain⟨u,rfl,ru⟩:=Q2 r
   obtain⟨l,a,vs,rfl,rl',q,p1⟩:=OA hr rv p
   cases ru
   obtain⟨ps,eps,p2⟩:=U4 p1
   obtain⟨its,rr,⟨o,n,g1,g2,g3,g4⟩,hz⟩:=I.list q
   obtain⟨kvs,ws,h1,h2,h3,h4⟩:=HQ I eps rl' rr
   have hlen:=rr.length
   exact Dw g1 g2 g4 g3 hh (by simpa using h3) (by simp only[zj];lia) (λi v hv=>h4 i v (by simpa using hv)) λh' tk hd hk=>Mf I hr h1 h2 (by lia) p2 hd hk⟩
theorem eD7(h:X.calm=true):BD pA "dict" X Z:=⟨.inr ⟨_,eI3 h,eH0⟩⟩
end
section
theorem t6.eraseIdx(n:Nat)(h:t6 c μ H l vs):t6 c μ H (l.eraseIdx n) (vs.eraseIdx n):=by
 rw[YL,YL]
 exact(t6.take _ h).append (t6.drop _ h)
end
end DL
namespace W
open PySem PySem.Spec L2 DL
open PyProof.Rows hiding St
end W
namespace DL
open PySem PySem.Spec L2
open PyProof.Rows hiding St
def ixG:D->D->M D:=λx y=>match x,y with
 | .ref r,.str z=>do
   match <-O5 r with
   | .dct l=>M0 (u3 l (.inr z))
   |_=>M.stuck
 |_,_=>ixD x y
section
theorem Bz:IxR X (λx y H Q=>∃a kvs k v,x= .ref a/\y=kV k/\H a=some (.dK kvs)/\C3 kvs k=some v/\Q v H):=by
 intro value slice pins s σ H x y v u Q I rx ry h hs
 obtain⟨a,kvs,k,z,rfl,rfl,e,l,q⟩:=h
 cases rx
 obtain⟨zz,hd,vs,rel,dd⟩:=UB I.hok e
 obtain⟨w',hw,rw'⟩:=C6.some_of (by rw[<-l];exact rel.val k)
 exact Yf dd.typeIs PySem.F.slot_dict_getitem.lookup (wpAny_getItem_of (nB ry) dd.mapOf hw ⟨rfl,z,H,I.tok _,rw',q⟩) hs
theorem kb:IxD X Z ixG:=IxR.mono (Bz.or BR) λx y H Q hE0=>hE0.elim λdx dy μ G rx ry hr p=>by
 by_cases c:∃r z,dx= .ref r/\dy= .str z
 · obtain⟨r,z,rfl,rfl⟩:=c
   refine .inl ?_
   unfold j5 at rx
   obtain⟨a,m,rfl⟩:=rx
   have p':d9 (wc X) Z μ H ((O5 r >>= λo=>match o with| .dct l=>M0 (u3 l (.inr z))|_=>M.stuck:M D) G) λd X2 _ H'=>∀v,j5 (wc X) X2 H' d v->Q v H':=p
   obtain⟨o,g,p1⟩:=N5 p'
   have ro:=hr.obj r o a g m
   rcases o with _|_|l|_<;>try (exact p1.elim;done)
   ·
     obtain⟨kvs,q,rk⟩:=ro
     obtain⟨d,ed,k⟩:=RI hr p1
     have z1:=lK (k:=.inr z) rk
     rw[ed]at z1
     obtain⟨v,ev,rv⟩:=z1
     exact⟨a,kvs,.inr z,v,rfl,U1 ry,q,ev,k v rv⟩
 · refine .inr ⟨dx,dy,μ,G,rx,ry,hr,?_⟩
   have e:ixG dx dy=ixD dx dy:=by
    rcases dx with _|_|_|_|_|r|_|_<;>try (rfl;done)
    ·
      rcases dy with _|_|_|z|_|_|_|_<;>try (rfl;done)
      ·exact absurd ⟨r,z,rfl,rfl⟩ c
   rw[<-e]
   exact p
theorem Dv(ha:DE X Z a fa)(hb:DE X Z b fb)(hs:fF b):DE X Z (.Subscript a b pos) (c7 ixG fa fb):=iQ kb ha hb hs
end
end DL
namespace W
open PySem PySem.Spec L2 DL
open PyProof.Rows hiding St
theorem KS(h:G[r]? =some (.dct l))(k:u3 l (.inr z)=some d):Wp (ixG (.ref r) (.str z)) G Q↔Q d G:=by
 have e:ixG (.ref r) (.str z)= (O5 r >>= λo=>match o with| .dct l=>M0 (u3 l (.inr z))|_=>M.stuck:M D):=rfl
 rw[e]
 simp only[j9,O3,h,Q3,D3,k,zH,exists_eq_left']
end W
namespace DL
open PySem PySem.W
open PyProof.Rows hiding St
def tOk{α:Type}(lt:Nat->Nat->Bool)(n:Nat):KasT α->(α->Prop)->Prop
 | .ret a,Q=>Q a
 | .ask i j k,Q=>i<n/\j<n/\tOk lt n (k (lt i j)) Q
section
theorem tOk.bind:∀t,tOk lt n t (λa=>tOk lt n (f a) Q)->tOk lt n (t.bind f) Q
 | .ret _,h=>h
 | .ask i j k,h=>⟨h.1,h.2.1,tOk.bind (k (lt i j)) h.2.2⟩
theorem tOk.mono(hq:∀a,Q a->Q' a):∀t,tOk lt n t Q->tOk lt n t Q'
 | .ret a,h=>hq a h
 | .ask i j k,h=>⟨h.1,h.2.1,tOk.mono hq (k (lt i j)) h.2.2⟩
theorem tOk.wp(hc:∀i j C,i<n->j<n->C (lt i j) s->cmp i j C s):∀t,tOk lt n t Q->t.kasWp cmp (λa s'=>s'=s/\Q a) s
 | .ret a,h=>⟨rfl,h⟩
 | .ask i j k,h=>hc i j _ h.1 h.2.1 (tOk.wp hc (k (lt i j)) h.2.2)
end
structure C7(lt:Nat->Nat->Bool)(n:Nat):Prop where
 tr:∀i j k,lt i j=true->lt j k=true->lt i k=true
 tot:∀i j,i<n->j<n->i≠j->lt i j=false->lt j i=true
structure S1(p:Array Nat)(n:Nat):Prop where
 pm:p.toList.Perm (jC n)
section
theorem S1.size(h:S1 p n):p.size=n:=by have:=h.pm.length_eq;simpa using this
theorem S1.bd(h:S1 p n)(hk:k<n):p.getD k 0<n:=by
 have hs:=h.size
 have e:p.getD k 0=p[k]'(by lia):=by simp[Yv,hs,hk]
 rw[e]
 have:p[k]'(by lia)∈p.toList:=by simp
 have:=h.pm.mem_iff.mp this
 simpa using this
theorem S1.ne(h:S1 p n)(hi:i<n)(hj:j<n)(hij:i≠j):p.getD i 0≠p.getD j 0:=by
 have hs:=h.size
 have nd:p.toList.Nodup:=h.pm.nodup_iff.mpr List.nodup_range
 have e1:p.getD i 0=p.toList[i]'(by simp;lia):=by simp[Yv,hs,hi]
 have e2:p.getD j 0=p.toList[j]'(by simp;lia):=by simp[Yv,hs,hj]
 rw[e1,e2]
 intro e
 exact hij ((Zx nd).mp e)
def C5(lt:Nat->Nat->Bool)(p:Array Nat)(m:Nat):Prop:=∀i j,i<j->j<m->lt (p.getD i 0) (p.getD j 0)=true
def NB(lt:Nat->Nat->Bool)(p:Array Nat)(m:Nat):Prop:=∀i j,i<j->j<m->lt (p.getD j 0) (p.getD i 0)=true
theorem cX(O:C7 lt n)(hk:1<=k)(h:C5 lt p k)(hl:lt (p.getD (k-1) 0) (p.getD k 0)=true):C5 lt p (k+1):=by
 intro i j hij hj
 by_cases hj':j<k
 ·exact h i j hij hj'
 · have ej:j=k:=by lia
   subst ej
   by_cases hi:i=j-1
   ·rw[hi];exact hl
   ·exact O.tr _ _ _ (h i (j-1) (by lia) (by lia)) hl
theorem SY(O:C7 lt n)(hk:1<=k)(h:NB lt p k)(hl:lt (p.getD k 0) (p.getD (k-1) 0)=true):NB lt p (k+1):=by
 intro i j hij hj
 by_cases hj':j<k
 ·exact h i j hij hj'
 · have ej:j=k:=by lia
   subst ej
   by_cases hi:i=j-1
   ·rw[hi];exact hl
   ·exact O.tr _ _ _ hl (h i (j-1) (by lia) (by lia))
theorem tH(O:C7 lt n)(P:S1 p n):∀f k,1<=k->k+f<=n->C5 lt p k->tOk lt n (kas_asc p f k) (λm=>k<=m/\m<=k+f/\C5 lt p m/\(m<k+f->lt (p.getD m 0) (p.getD (m-1) 0)=true))
 |0,k,h1,h2,u=>⟨zn _,zn _,u,λz=>by lia⟩
 |f+1,k,h1,h2,u=>by
   unfold kas_asc
   refine⟨P.bd (by lia),P.bd (by lia),?_⟩
   rcases e:lt (p.getD k 0) (p.getD (k-1) 0)with _|_
   ·
     have hl:=O.tot _ _ (P.bd (show k<n by lia)) (P.bd (show k-1<n by lia)) (P.ne (by lia) (by lia) (by lia)) e
     simp only[jk,if_false]
     exact(tH O P f (k+1) (by lia) (by lia) (cX O h1 u hl)).mono λm ⟨a,b,c,d⟩=>⟨by lia,by lia,c,λz=>d (by lia)⟩
   ·exact⟨zn _,by lia,u,λ_=>e⟩
theorem IR(O:C7 lt n)(P:S1 p n):∀f k,1<=k->k+f<=n->NB lt p k->tOk lt n (kas_desc f p k 0) (λr=>r.1=p/\r.2.2=0/\k<=r.2.1/\r.2.1<=k+f/\NB lt p r.2.1)
 |0,k,h1,h2,u=>⟨rfl,rfl,zn _,zn _,u⟩
 |f+1,k,h1,h2,u=>by
   unfold kas_desc
   refine⟨P.bd (by lia),P.bd (by lia),?_⟩
   rcases e:lt (p.getD k 0) (p.getD (k-1) 0)with _|_
   ·
     have hl:=O.tot _ _ (P.bd (show k<n by lia)) (P.bd (show k-1<n by lia)) (P.ne (by lia) (by lia) (by lia)) e
     simp only[jk,if_false]
     refine⟨P.bd (by lia),P.bd (by lia),?_⟩
     rw[hl]
     exact⟨rfl,rfl,zn _,jl _ _,u⟩
   ·
     simp only[if_true,yt,if_false,gt_iff_lt]
     exact(IR O P f (k+1) (by lia) (by lia) (SY O h1 u e)).mono λr ⟨a,b,c,d,g⟩=>⟨a,b,by lia,by lia,g⟩
theorem uD(p:Array Nat)(k:Nat):p.getD k 0= (p[k]?).getD 0:=by
 by_cases h:k<p.size<;>simp[Yv,h]
theorem MK(P:S1 p n):S1 (kas_rev p i j) n:=⟨(xm.mp (mirror_perm p i j _)).trans P.pm⟩
theorem oZ(P:S1 p n)(hm:m<=n)(d:NB lt p m):C5 lt (kas_rev p 0 m) m:=by
 intro i j hij hj
 have hs:=P.size
 have e:∀k,k<m->(kas_rev p 0 m).getD k 0=p.getD (m-1-k) 0:=λk hk=>by
  rw[uD,uD]
  unfold kas_rev
  rw[getElem?_mirror_all (by lia),if_pos ⟨zQ _,hk⟩,Nat.zero_add]
 rw[e i (by lia),e j hj]
 exact d (m-1-j) (m-1-i) (by lia) (by lia)
theorem TV(O:C7 lt n)(P:S1 p n)(h2:2<=n)(d:NB lt p 2):tOk lt n (kas_descPart 1 n p) (λr=>S1 r.2 n/\1<=r.1/\r.1<=n/\C5 lt r.2 r.1):=by
 unfold kas_descPart
 refine tOk.bind _ ((IR O P (n-(1+1)) (1+1) (by lia) (by lia) d).mono λr ⟨a,b,c,e,g⟩=>?_)
 obtain⟨r1,r2,r3⟩:=r
 dsimp only at a b c e g ⊢
 subst a b
 rw[if_neg (yt 0)]
 unfold kas_tail3
 refine tOk.bind _ ((tH O (MK P) (n-r2) r2 (by lia) (by lia) (oZ P (by lia) g)).mono λm ⟨a1,a2,a3,_⟩=>?_)
 exact⟨MK P,by lia,by lia,a3⟩
theorem lX(O:C7 lt n)(P:S1 p n)(h2:2<=n):tOk lt n (kas_count n p) (λr=>S1 r.2 n/\1<=r.1/\r.1<=n/\C5 lt r.2 r.1):=by
 unfold kas_count
 refine tOk.bind _ ((tH O P (n-1) 1 (zn _) (by lia) (λi j _ _=>by lia)).mono λm ⟨a1,a2,a3,a4⟩=>?_)
 by_cases hm:m=n
 · rw[if_pos (by simpa using hm)]
   exact⟨P,a1,by lia,a3⟩
 · rw[if_neg (by simpa using hm)]
   by_cases h1:m>1
   · rw[if_pos h1]
     refine⟨P.bd (by lia),P.bd (by lia),?_⟩
     rw[a3 0 (m-1) (by lia) (by lia)]
     exact⟨P,a1,by lia,a3⟩
   · rw[if_neg h1]
     have em:m=1:=by lia
     subst em
     refine TV O P h2 λi j hij hj=>?_
     have e1:i=0:=by lia
     have e2:j=1:=by lia
     subst e1 e2
     exact a4 (by lia)
theorem kJ(O:C7 lt n)(P:S1 p n)(hk:k<n)(u:C5 lt p k):∀f l r,l<=r->r<=k->r-l<=f->(∀i,i<l->lt (p.getD i 0) (p.getD k 0)=true)->(∀i,r<=i->i<k->lt (p.getD k 0) (p.getD i 0)=true)->
 tOk lt n (kas_place p k f l r) (λL=>L<=k/\(∀i,i<L->lt (p.getD i 0) (p.getD k 0)=true)/\∀i,L<=i->i<k->lt (p.getD k 0) (p.getD i 0)=true)
 |0,l,r,h1,h2,h3,a,b=>⟨by lia,a,λi hi=>b i (by lia)⟩
 |f+1,l,r,h1,h2,h3,a,b=>by
   unfold kas_place
   by_cases h:l>=r
   · rw[if_pos h]
     exact⟨by lia,a,λi hi=>b i (by lia)⟩
   · rw[if_neg h]
     have hm1:l<=(l+r) / 2:=by lia
     have hm2:(l+r) / 2<r:=by lia
     refine⟨P.bd hk,P.bd (by lia),?_⟩
     rcases e:lt (p.getD k 0) (p.getD ((l+r) / 2) 0)with _|_
     ·
       simp only[jk,if_false]
       have hl:=O.tot _ _ (P.bd hk) (P.bd (show (l+r) / 2<n by lia)) (P.ne hk (by lia) (by lia)) e
       refine kJ O P hk u f _ r (by lia) h2 (by lia) (λi hi=>?_) b
       by_cases ei:i= (l+r) / 2
       ·rw[ei];exact hl
       ·exact O.tr _ _ _ (u i ((l+r) / 2) (by lia) (by lia)) hl
     ·
       simp only[if_true]
       refine kJ O P hk u f l _ hm1 (by lia) (by lia) a λi hi hik=>?_
       by_cases ei:i= (l+r) / 2
       ·rw[ei];exact e
       ·exact O.tr _ _ _ e (u _ i (by lia) hik)
theorem iL(O:C7 lt n):∀f k p,S1 p n->k+f=n->C5 lt p k->tOk lt n (kas_bin f p k) (λq=>S1 q n/\C5 lt q n)
 |0,k,p,P,h,u=>⟨P,by rw[<-h];exact u⟩
 |f+1,k,p,P,h,u=>by
   unfold kas_bin
   refine tOk.bind _ ((kJ O P (show k<n by lia) u k 0 k (zQ _) (zn _) (by lia) (λi hi=>by lia) (λi h1 h2=>by lia)).mono λL ⟨hL,a,b⟩=>?_)
   have hs:=P.size
   refine iL O f (k+1) _ ⟨(xm.mp (bubble_perm p k (k-L))).trans P.pm⟩ (by lia) ?_
   have e:∀i,(bubble p k (k-L)).getD i 0=if i=L then p.getD k 0 else if L<i/\i<=k then p.getD (i-1) 0 else p.getD i 0:=λi=>by
    rw[uD,getElem?_bubble (by lia) _ (by lia),show k-(k-L)=L by lia]
    split
    ·rw[<-uD]
    ·split<;>rw[<-uD]
   intro i j hij hj
   rw[e i,e j]
   by_cases h1:i=L
   · rw[if_pos h1,if_neg (by lia),if_pos (by lia)]
     exact b (j-1) (by lia) (by lia)
   · rw[if_neg h1]
     by_cases h2:j=L
     · rw[if_pos h2,if_neg (by lia)]
       exact a i (by lia)
     · rw[if_neg h2]
       by_cases h3:L<i
       · rw[if_pos (by lia),if_pos (by lia)]
         exact u _ _ (by lia) (by lia)
       · rw[if_neg (by lia)]
         by_cases h4:L<j
         · rw[if_pos (by lia)]
           by_cases h5:i<j-1
           ·exact u _ _ h5 (by lia)
           ·lia
         · rw[if_neg (by lia)]
           exact u _ _ hij (by lia)
theorem eE8(O:C7 lt n)(h2:2<=n):tOk lt n (kas_sort n) (λq=>S1 q n/\C5 lt q n):=by
 unfold kas_sort
 refine tOk.bind _ ((lX O ⟨by simp⟩ h2).mono λr ⟨a,b,c,d⟩=>?_)
 by_cases h:r.1<n
 · rw[if_pos h,show max r.1 1=r.1 by lia]
   exact iL O _ _ _ a (by lia) d
 · rw[if_neg h]
   exact⟨a,by rw[show n=r.1 by lia];exact d⟩
end
end DL
namespace DL
open PySem PySem.Spec L2
open PyProof.Rows hiding St
def v3(F:List D->M D):List D->M (List D)
 |[]=>pure []
 |d::r=>do
   let k <-noX (F [d])
   let ks <-v3 F r
   pure (k::ks)
def sG:D->Option (Int×Str)
 | .tup [.int a,.str x]=>some (a,x)
 |_=>none
def fI7:D->Option (Int×Str)
 | .str x=>some (0,x)
 |_=>none
def l9(f:D->Option (Int×Str)):List D->Option (List (Int×Str))
 |[]=>some []
 |d::r=>match f d,l9 f r with
   |some a,some b=>some (a::b)
   |_,_=>none
def mB(l:List D):Option (List (Int×Str)):=match l9 sG l with
 |some q=>some q
 |none=>l9 fI7 l
def A1(p q:Int×Str):Bool:=if p.1=q.1 then decide (p.2.cps.toList<q.2.cps.toList)else decide (p.1<q.1)
def u8(p q:(Int×Str)×D):Bool:= !A1 q.1 p.1
def KB(qs:List (Int×Str))(l:List D):List D:=((qs.zip l).mergeSort u8).map (·.2)
def x9(F:List D->M D)(l:List D):M D:=do
 let ks <-v3 F l
 let qs <-M0 (mB ks)
 if qs.Nodup then M6 (.lst (KB qs l))else M.stuck
def D8(F:List D->M D):D->M D
 | .tup l=>if l.length<64 then x9 F l else M.stuck
 | .ref r=>do
   match <-O5 r with
   | .lst l=>if l.length<64 then x9 F l else M.stuck
   | .dct l=>do
     let ss <-M0 (K6 l)
     if ss.length<64 then x9 F (ss.map .str)else M.stuck
   |_=>M.stuck
 |_=>M.stuck
def RA(F:List D->M D)(f:Fe):Fe:=λσ=>do
 let x <-f σ
 D8 F x
theorem sE(p:Int×Str):A1 p p=false:=by
 unfold A1
 rw[if_pos rfl,decide_eq_false]
 exact ZZ _
theorem gC(h1:A1 p q=true)(h2:A1 q r=true):A1 p r=true:=by
 unfold A1 at *
 by_cases e1:p.1=q.1
 · rw[if_pos e1]at h1
   by_cases e2:q.1=r.1
   · rw[if_pos e2]at h2
     rw[if_pos (e1.trans e2)]
     simp only[decide_eq_true_eq]at *
     exact List.lt_trans h1 h2
   · rw[if_neg e2]at h2
     rw[if_neg (by rw[e1];exact e2),e1]
     exact h2
 · rw[if_neg e1]at h1
   simp only[decide_eq_true_eq]at h1
   by_cases e2:q.1=r.1
   · rw[if_pos e2]at h2
     rw[if_neg (by rw[<-e2];exact e1),<-e2]
     exact decide_eq_true h1
   · rw[if_neg e2]at h2
     simp only[decide_eq_true_eq]at h2
     rw[if_neg (by lia)]
     exact decide_eq_true (by lia)
theorem LC(h:p≠q)(h1:A1 p q=false):A1 q p=true:=by
 unfold A1 at *
 by_cases e1:p.1=q.1
 · rw[if_pos e1]at h1
   rw[if_pos e1.symm]
   simp only[decide_eq_false_iff_not,decide_eq_true_eq]at *
   have hle:q.2.cps.toList<=p.2.cps.toList:=h1
   refine ji λn=>h ?_
   have hle2:p.2.cps.toList<=q.2.cps.toList:=n
   have e:=List.le_antisymm hle2 hle
   cases p with|mk a x=>cases q with|mk b y=>
   dsimp only at e1 e
   subst e1
   congr 1
   cases x;cases y
   congr 1
   exact YM.mp e
 · rw[if_neg e1]at h1
   rw[if_neg (λe=>e1 e.symm)]
   simp only[decide_eq_false_iff_not,decide_eq_true_eq]at *
   lia
theorem AX{qs:List (Int×Str)}(nd:qs.Nodup):∀a∈qs.zip l,∀b∈qs.zip l,a.1=b.1->a=b:=by
 intro a ha b hb e
 obtain⟨i,hi,rfl⟩:=jS.mp ha
 obtain⟨j,hj,rfl⟩:=jS.mp hb
 simp only[List.getElem_zip]at e ⊢
 have:=(Zx nd).mp e
 subst this
 rfl
theorem DP(nd:qs.Nodup){z:List ((Int×Str)×D)}(hp:z.Perm (qs.zip l))(hs:z.Pairwise λa b=>u8 a b=true):z.map (·.2)=KB qs l:=by
 unfold KB
 congr 1
 have h2:((qs.zip l).mergeSort u8).Pairwise λa b=>u8 a b=true:=xA (λa b c h1 h2=>by
  unfold u8 at *
  simp only[yo]at *
  refine yG.mpr λh=>?_
  by_cases e:a.1=b.1
  ·rw[e]at h;rw[h]at h2;cases h2
  · have:=gC h (LC (λz=>e z.symm) h1)
    rw[this]at h2;cases h2) (λa b=>by
  unfold u8
  by_cases e:a.1=b.1
  ·rw[e,sE];rfl
  · cases q:A1 b.1 a.1 with
    |false=>rfl
    |true=>
      have:A1 a.1 b.1=false:=by
       refine yG.mpr λh=>?_
       have:=gC q h
       rw[sE]at this;cases this
      rw[this];rfl) _
 refine Xc (λa b ha hb h1 h2=>?_) hs h2 (hp.trans (jL _ _).symm)
 refine AX nd a (hp.mem_iff.mp ha) b ((jL _ _).mem_iff.mp hb) (ji λn=>?_)
 unfold u8 at *
 simp only[yo]at *
 have:=LC (λz=>n z.symm) h1
 rw[this]at h2;cases h2
def Cx.rm(X:Cx)(A:jr):Cx:={X with A:=A,xe:=λ_ _=>False}
section
theorem IU(I:Inv X pins σ H s)(h1:A.handled=X.A.handled)(h2:A.frames=X.A.frames/\A.guards=X.A.guards):Inv (Cx.rm X A) pins σ H s:=
 ⟨⟨I.ok.mod,I.ok.kind,I.ok.glob,I.ok.blt,I.ok.above,I.ok.inj,I.ok.has,I.ok.cab,λc=>h1.trans (I.ok.hd c),h2.1.trans I.ok.frames,I.ok.stk,I.ok.exf,I.ok.bs,I.ok.bsz,I.ok.noex,I.ok.exfs,I.ok.funs,I.ok.frf,h2.2.trans I.ok.gd⟩,I.os,I.bare,I.base,I.loc,I.cell,I.free,I.freeC,I.pin,I.hok,I.len⟩
theorem IZ(I:Inv (Cx.rm X A) pins σ H s)(h1:A.handled=X.A.handled)(h2:A.frames=X.A.frames/\A.guards=X.A.guards):Inv X pins σ H s:=
 ⟨⟨I.ok.mod,I.ok.kind,I.ok.glob,I.ok.blt,I.ok.above,I.ok.inj,I.ok.has,I.ok.cab,λc=>h1.symm.trans (I.ok.hd c),h2.1.symm.trans I.ok.frames,I.ok.stk,I.ok.exf,I.ok.bs,I.ok.bsz,I.ok.noex,I.ok.exfs,I.ok.funs,I.ok.frf,h2.2.symm.trans I.ok.gd⟩,I.os,I.bare,I.base,I.loc,I.cell,I.free,I.freeC,I.pin,I.hok,I.len⟩
end
section
theorem cQ(hF:O0 X.prog X.w X.K X.mg X.base CX0 k f fd ps (spD (wc X) 1 F))(hb:D5 X.K fd ps [])(hA:V5 k A)(h1:A.handled=X.A.handled)(h2:A.frames=X.A.frames/\A.guards=X.A.guards){a kS:Addr}{e1:Nat}
 (fa:∀H':Hp,H' a=none->B1 X pins H' a) (fk:∀H':Hp,H' kS=none->B1 X pins H' kS) (ne:a≠kS) {R:zv->Prop}
 (hbd:∀x s (R:zv->Prop),zw (zE X.prog X.w) A (call (.ref f) [x]) (λk s'=>∃ks e,Ya ks<64/\s'.heap.get? kS=some (ju "list" (jn ks) e)/\R {s' with heap:=s'.heap.update kS (jt (·.push k))}) (λ_ _=>False) s->
   zw (zE X.prog X.w) A (body x ⟨⟩) (λr s'=>r= .yield ⟨⟩/\R s') E s):∀(r:List D) (rv:List V) ru (dn:List D) (dv:List V) (du:List zk) (e:Nat) (μ:List Addr) (G:DH) (H:Hp) (s:zv),
   t6 (wc X) μ H r rv->v6 rv ru->t6 (wc X) μ H dn dv->v6 dv du->v8 (wc X) μ G H->Inv X pins σ H s->s.heap.get? kS=some (ju "list" (jn du) e)->s.heap.get? a=some (ju "list" #[] e1)->H a=none->H kS=none->du.length+ru.length<64->
   d9 (wc X) ZF μ H (v3 F r G) (λks X2 G' H'=>∀(s':zv) (kv:List V) (ku:List zk) (e':Nat),Ext μ H X2 H'->v8 (wc X) X2 G' H'->t6 (wc X) X2 H' (dn++ks) kv->v6 kv ku->Inv X pins σ H' s'->s'.heap.get? kS=some (ju "list" (jn ku) e')->s'.heap.get? a=some (ju "list" #[] e1)->H' a=none->H' kS=none->R s')->
   zw (zE X.prog X.w) A (forIn ru PUnit.unit body) (λ_ s'=>R s') E s
 |[],_,_,dn,dv,du,e,μ,G,H,s,r1,r2,q1,q2,hr,I,g1,g2,n1,n2,hl,p=>by
   cases r1;cases r2
   rw[Xx]
   exact zp (d9.ok p hr s dv du e (Ext.refl _ _) hr (by rw[yX];exact q1) q2 I g1 g2 n1 n2)
 |d::r,_,_,dn,dv,du,e,μ,G,H,s,r1,r2,q1,q2,hr,I,g1,g2,n1,n2,hl,p=>by
   obtain⟨v,rv,rfl,rd,rr⟩:=r1
   cases r2 with
   |cons ru rur=>
   rename_i u ur
   rw[ZL]
   have hfp:∀b∈ [a,kS],B1 X pins H b:=λb hb=>by
    rcases zt.mp hb with rfl|hb
    ·exact fa H n1
    ·rw[zC]at hb;subst hb;exact fk H n2
   have IX:=IU (I.pinned hfp (λb hb=>by
    rcases zt.mp hb with rfl|hb
    ·exact⟨_,g2,λv z=>by cases z⟩
    ·rw[zC]at hb;subst hb;exact⟨_,g1,λv z=>by cases z⟩)) h1 h2
   have pb:=rJ (d9.bind p)
   have call:=pI (X:=Cx.rm X A) (Q:=λv' H'=>∃k X0 G1,Ext μ H X0 H'/\v8 (wc X) X0 G1 H'/\j5 (wc X) X0 H' k v'/\d9 (wc X) ZF X0 H' ((v3 F r >>= λks=>pure (k::ks)) G1) _) hF hA hb .nil vK IX (show v6 [v] [u]from .cons ru .nil)
    (⟨rfl, [d],μ,G,⟨v, [],rfl,rd,rfl⟩,hr,pb.mono λk X0 G1 H1 x1 hr1 p1 v' rv'=>⟨k,X0,G1,x1,hr1,rv',p1⟩⟩)
   refine za (jz (hbd u s (λs'=>zw (zE X.prog X.w) A (forIn ur PUnit.unit body) (λ_ s'=>R s') E s') (jz call (λkv s' hk=>?_) λ_ _ z=>z)) (λq s' hq=>?_) λ_ _ z=>z)
   · obtain⟨v',H',I',rv',k0,X0,G1,x1,hr1,rk,p1⟩:=hk
     have I2:=IZ I' h1 h2
     obtain⟨g1',n2',_⟩:=I2.pin (kS,ju "list" (jn du) e) (zJ _ (zJ _ (LA (by simp) g1)))
     obtain⟨g2',n1',_⟩:=I2.pin (a,ju "list" #[] e1) (zJ _ (zJ _ (LA (by simp) g2)))
     rw[zT]at hl
     refine⟨du,e,by lia,g1',?_⟩
     have ea:(jn du).push kv=jn (du++[kv]):=by simp
     obtain⟨c2,hc2⟩:∃c2,(s'.heap.update kS (jt (·.push kv))).get? kS=some (ju "list" (jn (du++[kv])) c2):=⟨_,by rw[<-ea];exact Ja g1' (·.push kv)⟩
     have I3:=DK (h':=s'.heap.update kS (jt (·.push kv))) (t':=s'.toks) I2.unpinned (λb hb=>by rw[zC]at hb;subst hb;exact fk H' n2') (λb o hb e=>by
      rw[zC]at hb
      rw[yK _ _ _ _ hb];exact e)
     refine cQ hF hb hA h1 h2 fa fk ne hbd r rv ur (dn++[k0]) (dv++[v']) (du++[kv]) c2 X0 G1 H' _ (rr.mono x1) rur (t6.append (q1.mono x1) ⟨v', [],rfl,rk,rfl⟩) (q2.append (show v6 [v'] [kv]from .cons rv' .nil)) hr1 I3 hc2 (by rw[yK _ _ _ _ ne];exact g2') n1' n2' (by rw[zA,jD];lia) ?_
     refine(d9.bind p1).mono λks WY G2 H2 x2 hr2 p2 s3 kv2 ku2 e2 x2' hr2' a1 a2 a3 a4 a5 a6 a7=>?_
     exact d9.ok p2 hr2 s3 kv2 ku2 e2 (x1.trans x2) hr2 (by rw[ya]at a1;exact a1) a2 a3 a4 a5 a6 a7
   · obtain⟨rfl,hq⟩:=hq
     exact hq
end
section
theorem Dj{ch:List Addr}(I:Inv X pins σ H s)(hf:∀b∈ch,B1 X pins H b)(ha:a∈ch)(k:∀b o,b∉ch->s.heap.get? b=some o->h'.get? b=some o)
 (new:T4 X.prog X.w (upd H a (.lst ws)) h' a (.lst ws)):Inv X pins σ (upd H a (.lst ws)) {s with heap:=h',toks:=t'}:=by
 have hq:H a=none:=(hf a ha).1
 have nch:∀b u,H b=some u->b∉ch:=λb u e z=>by rw[(hf b z).1]at e;cases e
 refine I.step (λb hb=>⟨(hf b hb).2.2.2.1,(hf b hb).2.1,(hf b hb).2.2.2.2.1,(hf b hb).2.2.2.2.2⟩) (λb o _ _ hc e _=>k b o hc e) (λb o _ _ hc e _=>⟨o.slots,k b o hc e⟩)
  (λb o hc e n=>by rw[J2 (λz=>hc (by rw[z];exact ha))];exact n) (λb o hc e=>⟨o,k b o hc e⟩) (λb xs e=>by rw[J2 (J3 e hq)];exact e) (λb o u e=>by rw[J2 (J3 e hq)];exact e)
  (λb ps e=>⟨#[],by rw[J2 (J3 e hq),e];simp⟩) (λm hm=>?_) (λb u e=>?_) I.bare
 · obtain⟨o,es,ep,ho,r⟩:=hm
   exact⟨o,es,ep,k _ o (λz=>(hf _ z).2.1 rfl) ho,r⟩
 · by_cases hb:b=a
   · subst hb
     rw[O6]at e
     cases e
     exact new
   · rw[J2 hb]at e
     refine(I.hok b u e).stay (λc v hc q=>k c v ?_ q) (λc q=>by rw[J2 (J3 q hq)];exact q) λc xs q=>by rw[J2 (J3 q hq)];exact q
     rcases hc with z|z
     ·rw[z];exact nch b u e
     ·exact nch c _ z
def MA(h:Heap)(u:zk)(q:Int×Str):Prop:=∃a t t',u= .ref a/\Yn h a #[.int q.1 t,.str q.2 t']
def bB(u:zk)(q:Int×Str):Prop:=∃t,q.1=0/\u= .str q.2 t
def c8(P:zk->Int×Str->Prop)(ku:List zk)(qs:List (Int×Str)):Prop:=∀(i:Nat) (q:Int×Str),qs[i]? =some q->∃u,ku[i]? =some u/\P u q
theorem FJ{g:D->Option (Int×Str)}{P:zk->Int×Str->Prop}(hg:∀d q v u,g d=some q->j5 (wc X) μ H d v->J9 v u->P u q):∀ {ks qs kv ku},l9 g ks=some qs->t6 (wc X) μ H ks kv->v6 kv ku->qs.length=ku.length/\c8 P ku qs
 |[],qs,kv,ku,e,r,rv=>by
   cases e;cases r;cases rv
   exact⟨rfl,λi q z=>by simp at z⟩
 |d::r,qs,kv,ku,e,rr,rv=>by
   obtain⟨v,tl,rfl,rd,rt⟩:=rr
   cases rv with
   |cons ru rur=>
   rename_i u ur
   unfold l9 at e
   rcases h1:g d with _|a
   ·rw[h1]at e;cases e
   rcases h2:l9 g r with _|b
   ·rw[h1,h2]at e;cases e
   rw[h1,h2]at e
   cases e
   obtain⟨hl,hk⟩:=FJ hg h2 rt rur
   refine⟨by simp[hl],λi q z=>?_⟩
   cases i with
   |succ i=>simpa using hk i q (by simpa using z)
   |zero=>
     simp at z
     subst z
     exact⟨u,rfl,hg d a v u h1 rd ru⟩
theorem Nm(I:Inv X pins σ H s){ks qs kv ku}(e:mB ks=some qs)(rr:t6 (wc X) μ H ks kv)(rv:v6 kv ku):qs.length=ku.length/\(c8 (MA s.heap) ku qs\/c8 bB ku qs):=by
 unfold mB at e
 rcases h:l9 sG ks with _|q
 · rw[h]at e
   have:=FJ (P:=bB) (λd q v u h1 rd ru=>by
    rcases d with _|_|_|x|_|_|_|_<;>try (cases h1;done)
    cases h1
    rw[U1 rd]at ru
    obtain⟨t,rfl⟩:=ru
    exact⟨t,rfl,rfl⟩) e rr rv
   exact⟨this.1,.inr this.2⟩
 · rw[h]at e
   cases e
   have:=FJ (P:=MA s.heap) (λd q v u h1 rd ru=>by
    unfold sG at h1
    split at h1
    · cases h1
      unfold j5 at rd
      obtain⟨ad,vs,rfl,q,rl⟩:=rd
      obtain⟨v1,t1,rfl,e1,v2,t2,rfl,e2,e3⟩:=rl
      cases e3
      rw[K0 e1,U1 e2]at q
      cases ru
      obtain⟨its,rvs,tp,_⟩:=I.tuple q
      cases rvs with
      |cons r1 rr1=>
        cases rr1 with
        |cons r2 rr2=>
          cases rr2
          obtain⟨t,rfl⟩:=r1
          obtain⟨t',rfl⟩:=r2
          exact⟨ad,t,t',rfl,tp⟩
    ·cases h1) h rr rv
   exact⟨this.1,.inl this.2⟩
end
section
theorem Tb(hx:bB u q)(hy:bB u' q')(h:C (A1 q q') s):zw (zE prog w) A (keyLt' ZU u u') C E s:=by
 obtain⟨t,e,rfl⟩:=hx
 obtain⟨t',e',rfl⟩:=hy
 rw[keyLt'_oneType]
 unfold A1 at h
 rw[if_pos (e.trans e'.symm)]at h
 exact oneLt_str h
theorem eZ4(hx:MA s.heap u q)(hy:MA s.heap u' q')(h:C (A1 q q') s):zw (zE prog w) A (keyLt' (tuples' true) u u') C E s:=by
 obtain⟨a,t,t',rfl,o,ho,hc,n,hd⟩:=hx
 obtain⟨b,v,v',rfl,o2,ho2,hc2,n2,hd2⟩:=hy
 refine PySem.W.kat_lt ho hd ho2 hd2 ?_
 show PySem.W.KatLex prog w A true _ C [(.int q.1 t,.int q'.1 v),(.str q.2 t',.str q'.2 v')] 0 s
 refine JT (PySem.wpAny_eqBool_int (PySem.W.kat_go (λe=>?_) λe=>?_))
 · have e1:q.1=q'.1:=by simpa using e
   refine PySem.W.kat_yes (JT (eqBool_str (PySem.W.kat_go (λe=>?_) λe=>?_)))
   · have e2:q.2=q'.2:=by simpa using e
     have eq:q=q':=Xt e1 e2
     refine PySem.W.kat_yes (PySem.W.kat_nil ?_)
     rw[eq,sE]at h
     exact h
   · refine PySem.W.kat_no (PySem.W.kat_one _ _ (PySem.P.lt_str ?_))
     unfold A1 at h
     rw[if_pos e1]at h
     exact h
 · have e1:¬q.1=q'.1:=by simpa using e
   refine PySem.W.kat_no ?_
   show zw (zE prog w) A (oneLt' true _ _) C _ s
   rw[<-keyLt'_oneType]
   refine PySem.W.kat_lt_int ?_
   unfold A1 at h
   rw[if_neg e1]at h
   exact h
theorem nO{st:Yh}(hout:(yh st).map (·.2)=jn out)(hz:out.length<64)(hkz:ku.length<64)(hf:Zv st=none)(ho1:s.heap.get? kS=some (ju "list" (jn ku) e))(ho2:s.heap.get? a=some (ju "list" #[] e1))(ne:a≠kS)
 (h:∀(h':Heap) (e':Nat),(∀b o,b∉ [a,kS]->s.heap.get? b=some o->h'.get? b=some o)->h'.get? a=some (ju "list" (jn out) e')->P (.done (.ret .none)) {s with heap:=h'}):zw (zE prog w) A (ksk_tail a false e1 (.ref kS) st) P E s:=by
 have na:(s.heap.update kS (jt λ_=>(#[]:Array zk))).get? a=some (ju "list" #[] e1):=by rw[yK _ _ _ _ ne];exact ho2
 obtain⟨c2,hc2⟩:∃c2,((s.heap.update kS (jt λ_=>(#[]:Array zk))).update a (jt λ_=>jn out)).get? a=some (ju "list" (jn out) c2):=⟨_,Ja na λ_=>jn out⟩
 unfold ksk_tail
 try dsimp only
 rw[hout]
 refine za (YV ho1 rfl ?_ (by rw[zj,yA];lia) (zQ _))
 refine za (xw ?_)
 refine za (seqEpoch_at na rfl ?_)
 refine za (YV na rfl ?_ (zQ _) (zG (xt (zj ..)) (by rw[yA];lia)))
 rw[hf]
 simp only[bne_self_eq_false,jk,if_false]
 refine zp (h _ c2 (λb o hb eo=>?_) hc2)
 have hb':b≠a/\b≠kS:=by simpa using hb
 rw[yK _ _ _ _ hb'.1,yK _ _ _ _ hb'.2]
 exact eo
theorem Lb{qs:List (Int×Str)}{ku:List zk}(hq:qs.length=ku.length)(h2:2<=ku.length)(hk:c8 (MA s.heap) ku qs\/c8 bB ku qs):∃kd,(∀(Q:SortKind->zv->Prop) (E:VSP),Q kd s->zw (zE prog w) A (keyKind' ku.toArray) Q E s)/\∀(i j:Nat) q q' C,qs[i]? =some q->qs[j]? =some q'->C (A1 q q') s->YI prog w A kd ku i j C s:=by
 rcases hk with hk|hk
 · obtain⟨fs,T,hfs,hT⟩:∃fs:List zk,PySem.W.KatTups s.heap ku fs/\0<fs.length/\∀v∈fs,∃n t,v= .int n t:=by
    have gen:∀(ku:List zk) (qs:List (Int×Str)),qs.length=ku.length->c8 (MA s.heap) ku qs->∃fs:List zk,PySem.W.KatTups s.heap ku fs/\fs.length=ku.length/\∀v∈fs,∃n t,v= .int n t:=by
     intro ku
     induction ku with
     |nil=>exact λqs _ _=>⟨[],trivial,rfl,λv hv=>by cases hv⟩
     |cons u r ih=>
       intro qs hl hk
       rcases qs with _|⟨q,qr⟩
       ·simp at hl
       obtain⟨u',e1,ad,t,t',rfl,o,ho,hc,n,hd⟩:=hk 0 q rfl
       simp at e1
       subst e1
       obtain⟨fs,f1,f2,f3⟩:=ih qr (by simpa using hl) λi q hq=>by simpa using hk (i+1) q (by simpa using hq)
       refine⟨.int q.1 t::fs,PySem.W.KatTups.cons ho hc hd rfl f1,by simp[f2],λv hv=>?_⟩
       rcases zt.mp hv with rfl|hv
       ·exact⟨_,_,rfl⟩
       ·exact f3 v hv
    obtain⟨fs,f1,f2,f3⟩:=gen ku qs hq hk
    exact⟨fs,f1,by lia,f3⟩
   refine⟨_,λQ E h=>PySem.W.kat_kind (T:=.type "int") T hfs (λv hv=>?_) (by decide) h,λi j q q' C e1 e2 hC=>?_⟩
   · obtain⟨n,t,rfl⟩:=hT v hv
     exact PySem.W.Looks.of_pure rfl
   · obtain⟨u,u1,u2⟩:=hk i _ e1
     obtain⟨v,v1,v2⟩:=hk j _ e2
     unfold YI
     rw[ja,ja,u1,v1]
     exact eZ4 u2 v2 hC
 · have gen:∀(ku:List zk) (qs:List (Int×Str)),qs.length=ku.length->c8 bB ku qs->StrsAre ku (qs.map (·.2)):=by
    intro ku
    induction ku with
    |nil=>
      intro qs hl _
      rcases qs with _|⟨q,r⟩
      ·exact .nil
      ·simp at hl
    |cons u r ih=>
      intro qs hl hk
      rcases qs with _|⟨q,qr⟩
      ·simp at hl
      obtain⟨u',e1,t,_,rfl⟩:=hk 0 q rfl
      simp at e1
      subst e1
      exact .cons q.2 t (ih qr (by simpa using hl) λi q hq=>by simpa using hk (i+1) q (by simpa using hq))
   have hS:=gen ku qs hq hk
   refine⟨ZU,λQ E h=>?_,λi j q q' C e1 e2 hC=>?_⟩
   · rcases ku with _|⟨v1,_|⟨v2,vr⟩⟩
     ·simp at h2
     ·simp at h2
     · rw[keyKind_strs hS]
       exact zp h
   · obtain⟨u,u1,u2⟩:=hk i _ e1
     obtain⟨v,v1,v2⟩:=hk j _ e2
     unfold YI
     rw[ja,ja,u1,v1]
     exact Tb u2 v2 hC
theorem vv{e e1:Nat}{ku vs:List zk}{qs:List (Int×Str)}(hl:ku.length=vs.length)(h64:vs.length<64)(hq:qs.length=ku.length)(hk:c8 (MA s.heap) ku qs\/c8 bB ku qs)(nd:qs.Nodup)
 (ho1:s.heap.get? kS=some (ju "list" (jn ku) e)) (ho2:s.heap.get? a=some (ju "list" #[] e1)) (ne:a≠kS)
 (h:∀(h':Heap) (e':Nat) (p:List Nat),p.Perm (jC vs.length)->p.Pairwise (λi j=>A1 (qs.getD i (0, "")) (qs.getD j (0, ""))=true)->(∀b o,b∉ [a,kS]->s.heap.get? b=some o->h'.get? b=some o)->h'.get? a=some (ju "list" (jn (p.map λi=>vs.getD i Value.none)) e')->P (.done (.ret .none)) {s with heap:=h'}):
 zw (zE prog w) A (ksk_end a false vs.toArray e1 (.ref kS) (jn ku)) P E s:=by
 unfold ksk_end
 try dsimp only
 simp only[jk,if_false]
 by_cases h2:vs.toArray.size<2
 · rw[if_pos h2,if_pos h2]
   refine za (zp ?_)
   rw[StateT.run_pure]
   refine za (zp ?_)
   dsimp only
   have hv:(yh (SortSt.mk' general' ((jn ku).zip vs.toArray) #[] 7 none)).map (·.2)=jn ((jC vs.length).map λi=>vs.getD i Value.none):=by
    show ((jn ku).zip vs.toArray).map (·.2)=_
    apply YM.mp
    rw[Array.toList_map]
    apply YX
    ·simp[hl]
    · intro i hi hj
      simp at hi hj ⊢
      simp[hj]
   refine nO hv (by simp;lia) (by lia) rfl ho1 ho2 ne λh' e' k1 k2=>h h' e' _ (List.Perm.refl _) ?_ k1 k2
   have:vs.length<2:=by simpa using h2
   match hn:vs.length,this with
   |0,_=>simp
   |1,_=>simp[List.range_succ]
 · rw[if_neg h2,if_neg h2]
   have hn2:2<=vs.length:=by simpa using h2
   let lt:Nat->Nat->Bool:=λi j=>A1 (qs.getD i (0, "")) (qs.getD j (0, ""))
   have gq:∀i,i<vs.length->qs[i]? =some (qs.getD i (0, "")):=λi hi=>by
    rw[ja,zi (by lia)];rfl
   have O:C7 lt vs.length:=⟨λi j k h1 h2=>gC h1 h2,λi j hi hj hij h=>LC (λee=>hij ?_) h⟩
   case refine_1=>
    have e1:=gq i hi
    have e2:=gq j hj
    rw[ee]at e1
    have li:i<qs.length:=by lia
    exact(List.getElem?_inj li nd).mp (e1.trans e2.symm)
   obtain⟨kd,hkd,hlt⟩:=Lb hq (by lia) hk
   refine za (hkd _ _ ?_)
   · have run:=tOk.wp (λi j C hi hj hC=>hlt i j _ _ C (gq i hi) (gq j hj) hC) _ (eE8 O hn2)
     refine za (jz (PySem.W.kat_run (Q:=λst' s'=>∃p:Array Nat,p.size=vs.length/\yh st'=p.map (PySem.W.kas_item ((jn ku).zip vs.toArray))/\Zv st'=none/\s'=s/\S1 p vs.length/\C5 lt p vs.length) hl hn2 h64 (λp st' s' a1 a2 a3 a4=>⟨p,a1,a2,a3,a4⟩) run) ?_ λ_ _ x=>x)
     rintro⟨⟨⟩,st'⟩ s' ⟨p,hp,har,hf,rfl,P1,U⟩
     try dsimp only
     refine nO (PySem.W.kat_snds hl har) (by rw[zg,jK,hp];exact h64) (by lia) hf ho1 ho2 ne λh' e' k1 k2=>h h' e' p.toList P1.pm ?_ k1 k2
     rw[List.pairwise_iff_getElem]
     intro i j hi hj hij
     have hi':i<p.size:=by simpa using hi
     have hj':j<p.size:=by simpa using hj
     have:=U i j hij (by lia)
     simpa [Yv,hi',hj',lt]using this
end
section
theorem NW{p:List Nat}{l:List α}(h:p.Perm (jC n))(hn:l.length=n):(p.map λi=>l.getD i d).Perm l:=by
 have e:(jC n).map (λi=>l.getD i d)=l:=by
  apply YX
  ·simp[hn]
  · intro i hi hj
    simp[hj]
 have:=h.map λi=>l.getD i d
 rw[e]at this
 exact this
theorem iJ{qs:List (Int×Str)}{l:List D}(h1:i<qs.length)(h2:i<l.length):(qs.zip l).getD i ((0, ""),.non)= (qs[i],l[i]):=by
 rw[ja,zi (by simp;lia),List.getElem_zip];rfl
theorem NZ{qs:List (Int×Str)}{vs:List zk}{p:List Nat}(hl:qs.length=l.length)(rl:t6 (wc X) μ H l ws)(rv:v6 ws vs)(nd:qs.Nodup)(hp:p.Perm (jC vs.length))(hs:p.Pairwise (λi j=>A1 (qs.getD i (0, "")) (qs.getD j (0, ""))=true)):
 ∃ws',v6 ws' (p.map λi=>vs.getD i Value.none)/\t6 (wc X) μ H (KB qs l) ws'/\ws'.length=vs.length:=by
 have hlv:l.length=vs.length:=by rw[rl.length,rv.length]
 have hz:(qs.zip l).length=vs.length:=by simp[hl,hlv]
 have e:=DP nd (NW hp hz) (by
  rw[xi]
  refine hs.imp_of_mem λ{i j} hi hj h=>?_
  have li:i<vs.length:=by simpa using hp.mem_iff.mp hi
  have lj:j<vs.length:=by simpa using hp.mem_iff.mp hj
  have ei:((qs.zip l).getD i ((0, ""),.non)).1=qs.getD i (0, ""):=by rw[iJ (by lia) (by lia),ja,zi (by lia)];rfl
  have ej:((qs.zip l).getD j ((0, ""),.non)).1=qs.getD j (0, ""):=by rw[iJ (by lia) (by lia),ja,zi (by lia)];rfl
  unfold u8
  rw[ei,ej]
  simp only[yo]
  refine yG.mpr λh2=>?_
  have:=gC h h2
  rw[sE]at this;cases this)
 rw[xp]at e
 have main:∀p:List Nat,(∀i∈p,i<vs.length)->∃ws',v6 ws' (p.map λi=>vs.getD i Value.none)/\t6 (wc X) μ H (p.map λi=>((qs.zip l).getD i ((0, ""),.non)).2) ws'/\ws'.length=p.length:=by
  intro p
  induction p with
  |nil=>exact λ_=>⟨[],.nil,rfl,rfl⟩
  |cons i r ih=>
    intro hi
    obtain⟨ws',a1,a2,a3⟩:=ih λj hj=>hi j (zB _ hj)
    have li:=hi i (by simp)
    obtain⟨v,e1,r1⟩:=rl.get (d:=l[i]'(by lia)) (zi (by lia))
    obtain⟨u,e2,r2⟩:=rv.get e1
    refine⟨v::ws',?_,⟨v,ws',rfl,?_,a2⟩,by simp[a3]⟩
    · have:vs.getD i Value.none=u:=by rw[ja,e2];rfl
      rw[zU,this]
      exact .cons r2 a1
    · have:((qs.zip l).getD i ((0, ""),.non)).2=l[i]'(by lia):=by rw[iJ (by lia) (by lia)]
      show j5 (wc X) μ H (((qs.zip l).getD i ((0, ""),.non)).2) v
      rw[this]
      exact r1
 obtain⟨ws',a1,a2,a3⟩:=main p λi hi=>by simpa using hp.mem_iff.mp hi
 exact⟨ws',a1,by rw[<-e];exact a2,by rw[a3,hp.length_eq];simp⟩
theorem gO(hF:O0 X.prog X.w X.K X.mg X.base CX0 k f fd ps (spD (wc X) 1 F))(hb:D5 X.K fd ps [])(hrm:V5 (k+2) X.A)(I:Inv X pins σ H s)(hr:v8 (wc X) μ G H)(h64:l.length<64)
 (hcol:∀Q',(∀h1 tk vs ws,(∀b o,s.heap.get? b=some o->h1.get? b=some o)->v6 ws vs->t6 (wc X) μ H l ws->Q' vs {s with heap:=h1,toks:=tk})->zw (zE X.prog X.w) X.A.in1 (collect u) Q' X.xe s)
 (p:d9 (wc X) Z μ H (x9 F l G) (λd X2 _ H'=>∀v,j5 (wc X) X2 H' d v->Q v H')):zw (zE X.prog X.w) X.A (call (.builtin "sorted") [u] [(jo "key",.ref f)]) (EP X pins σ Q) X.xe s:=by
 refine call_function_entry_kw kind_sorted plain_sorted entry_sorted (ksk_s1 _ _) ?_
 unfold yj.«sorted»
 refine za (zp ?_)
 refine za (hcol _ λh1 tk vs ws k1 rv rl=>?_)
 have hlv:l.length=vs.length:=by rw[rl.length,rv.length]
 refine za (Ze ?_ (by rw[yA];lia))
 have I1:Inv X pins σ H {s with heap:=h1,toks:=tk}:=I.kept k1
 have hoL:(h1.push (ju "list" vs.toArray 0)).get? h1.objs.size=some (ju "list" vs.toArray 0):=zq _ rfl
 refine za (jI (wpAny_call_entry_kw Jt ⟨_,hoL,rfl⟩ Jb ?_ (ksk_l1 _ _)))
 show zw (zE X.prog X.w) X.A.in1.in1 (yj.«list.sort» ⟨[.ref h1.objs.size], [(jo "key",.ref f)]⟩) _ _ _
 rw[ksk_t1]
 unfold ksk_tree
 refine za (listItems_at hoL rfl ?_)
 refine za (YV hoL rfl ?_ (by rw[zj,yA];lia) (zQ _))
 obtain⟨e1,ho1⟩:∃e1,((h1.push (ju "list" vs.toArray 0)).update h1.objs.size (jt λ_=>(#[]:Array zk))).get? h1.objs.size=some (ju "list" #[] e1):=⟨_,Ja hoL λ_=> #[]⟩
 refine za (seqEpoch_at ho1 rfl ?_)
 refine za (wpAny_newTuple ?_ (by show vs.length<=_;rw[yA];lia))
 refine za (Ze ?_ (zQ _))
 refine jI ?_
 have hsz:((h1.push (ju "list" vs.toArray 0)).update h1.objs.size (jt λ_=>(#[]:Array zk))).objs.size=h1.objs.size+1:=by rw[Heap.size_update,Yg]
 have hkS:(((h1.push (ju "list" vs.toArray 0)).update h1.objs.size (jt λ_=>(#[]:Array zk))).push (ju "tuple" vs.toArray 0)).objs.size=h1.objs.size+2:=by rw[Yg,hsz]
 have keep:∀b o,h1.get? b=some o->((((h1.push (ju "list" vs.toArray 0)).update h1.objs.size (jt λ_=>(#[]:Array zk))).push (ju "tuple" vs.toArray 0)).push (ju "list" #[] 0)).get? b=some o:=λb o q=>by
  have hlt:b<h1.objs.size:=zr q
  rw[xE _ _ _ (by rw[hkS];exact zD (jO (jO hlt))),xE _ _ _ (by rw[hsz];exact zD (jO hlt)),yK _ _ _ _ (zD hlt),xE _ _ _ (zD hlt)]
  exact q
 have I2:Inv X pins σ H {s with heap:=(((h1.push (ju "list" vs.toArray 0)).update h1.objs.size (jt λ_=>(#[]:Array zk))).push (ju "tuple" vs.toArray 0)).push (ju "list" #[] 0),toks:=tk}:=I1.kept keep
 have na:H h1.objs.size=none:=I1.hok.fresh (zn _)
 have nk:H (h1.objs.size+2)=none:=I1.hok.fresh (jl _ _)
 have ga:((((h1.push (ju "list" vs.toArray 0)).update h1.objs.size (jt λ_=>(#[]:Array zk))).push (ju "tuple" vs.toArray 0)).push (ju "list" #[] 0)).get? h1.objs.size=some (ju "list" #[] e1):=zd _ (zd _ ho1)
 have gk:((((h1.push (ju "list" vs.toArray 0)).update h1.objs.size (jt λ_=>(#[]:Array zk))).push (ju "tuple" vs.toArray 0)).push (ju "list" #[] 0)).get? (h1.objs.size+2)=some (ju "list" (jn []) 0):=by
  rw[<-hkS];exact zq _ rfl
 have fa:∀H':Hp,H' h1.objs.size=none->B1 X pins H' h1.objs.size:=λH' hn=>I1.fpOk (zn _) hn
 have fk:∀H':Hp,H' (h1.objs.size+2)=none->B1 X pins H' (h1.objs.size+2):=λH' hn=>I1.fpOk (jl _ _) hn
 have ne:h1.objs.size≠h1.objs.size+2:=by lia
 unfold x9 at p
 have pk:d9 (wc X) ZF μ H (v3 F l G) (λks X2 G' H'=>ks.length=l.length/\d9 (wc X) Z X2 H' ((M0 (mB ks) >>= λqs=>if qs.Nodup then M6 (.lst (KB qs l))else M.stuck) G') (λd X2 _ H'=>∀v,j5 (wc X) X2 H' d v->Q v H')):=by
  have q:=d9.bind p
  have hkl:∀(l:List D) (G:DH) (ks:List D) (G':DH),v3 F l G=some (.ok ks,G')->ks.length=l.length:=by
   intro l
   induction l with
   |nil=>intro G ks G' z;cases z;rfl
   |cons d r ih=>
     intro G ks G' z
     unfold v3 at z
     rw[M.bind_eq]at z
     match h:noX (F [d]) G,z with
     |some (.ok kk,G1),z=>
       dsimp only at z
       rw[M.bind_eq]at z
       match h2:v3 F r G1,z with
       |some (.ok ks,G2),z=>
         cases z
         simp[ih _ _ _ h2]
  have kne:∀(l:List D) (G:DH) (x:Str) (G':DH),v3 F l G≠some (.error x,G'):=by
   intro l
   induction l with
   |nil=>intro G x G' z;cases z
   |cons d r ih=>
     intro G x G' z
     unfold v3 at z
     rw[M.bind_eq]at z
     have nx:∀x G',noX (F [d]) G≠some (.error x,G'):=λx G' z=>by
      unfold noX at z
      try dsimp only at z
      split at z<;>cases z
     match h:noX (F [d]) G,z with
     |some (.error y,G1),z=>exact nx _ _ h
     |some (.ok kk,G1),z=>
       dsimp only at z
       rw[M.bind_eq]at z
       match h2:v3 F r G1,z with
       |some (.error y,G2),z=>exact ih _ _ _ h2
       |some (.ok ks,G2),z=>cases z
  match hh:v3 F l G,q with
  |some (.ok ks,G1),q=>exact λX2 H' x h=>⟨hkl _ _ _ _ hh,q X2 H' x h⟩
  |some (.error x,G1),q=>exact(kne _ _ _ _ hh).elim
 rw[hkS]
 show zw (zE X.prog X.w) X.A.in1.in1 (ksk_rest h1.objs.size (.ref f) false vs.toArray e1 (.ref (h1.objs.size+2))) _ _ _
 unfold ksk_rest
 refine za (Zs ?_)
 first
  |rw[List.forIn_toArray]
  |(rw[<-Array.forIn_toList];simp only[List.toList_toArray])
  |rw[<-Array.forIn_toList]
 refine za (cQ (σ:=σ) hF hb hrm.in1.in1 rfl ⟨rfl,rfl⟩ fa fk ne (λx s0 R hx=>?_) l ws vs [] [] [] 0 μ G H _ rl rv rfl .nil hr I2 gk ga na nk (by simp;lia) ?_)
 · refine za (YO (jz hx (λkv s'' hk=>?_) λ_ _ hF=>hF.elim))
   obtain⟨ks,e,hks,g,hR⟩:=hk
   try dsimp only
   refine za (YV g rfl ?_ (by rw[zj,yA];lia) (zG (xt (Array.size_push ..)) (by rw[zj,yA];lia)))
   exact zp ⟨rfl,hR⟩
 · refine pk.mono λks X2 G' H' x1 hr1 ⟨hks,p1⟩ s' kv ku e' _ _ q1 q2 I' g1 g2 n1 n2=>?_
   rw[Xg]at q1
   obtain⟨qs,eq,p2⟩:=U4 p1
   split at p2
   case isFalse=>exact p2.elim
   rename_i nd
   obtain⟨hl1,hk1⟩:=Nm I' eq q1 q2
   try dsimp only
   refine za (listItems_at g1 rfl ?_)
   have hkv:ku.length=vs.length:=by
    rw[<-q2.length,<-q1.length,hks,hlv]
   refine vv hkv (by lia) hl1 hk1 nd g1 g2 ne λh' e2 pp hp hs keep2 gg=>?_
   have rl':t6 (wc X) X2 H' l ws:=rl.mono x1
   obtain⟨ws',a1,a2,a3⟩:=NZ (by rw[hl1,hkv,hlv]) rl' rv nd hp hs
   refine⟨_,rfl,zp ⟨_,rfl,.ref h1.objs.size,upd H' h1.objs.size (.lst ws'),Dj I' (λb hb=>?_) (by simp) keep2 ⟨by rw[a3,yA];lia,_,e2,a1,gg⟩,rfl,U3 hr1 a2 p2 _ n1⟩⟩
   rcases zt.mp hb with rfl|hb
   ·exact fa _ n1
   ·rw[zC]at hb;subst hb;exact fk _ n2
theorem Bj(hc:X.calm=true)(hF:O0 X.prog X.w X.K X.mg X.base CX0 k f fd ps (spD (wc X) 1 F))(hb:D5 X.K fd ps [])(hrm:V5 (k+2) X.A)(I:Inv X pins σ H s)(hr:v8 (wc X) μ G H)(rd:j5 (wc X) μ H d v)(ru:J9 v u)
 (p:d9 (wc X) Z μ H (D8 F d G) (λd X2 _ H'=>∀v,j5 (wc X) X2 H' d v->Q v H')):zw (zE X.prog X.w) X.A (call (.builtin "sorted") [u] [(jo "key",.ref f)]) (EP X pins σ Q) X.xe s:=by
 have seq:∀ {a:Addr} {T:String} {o:Obj} {its:List zk} {vs:List V} {n:Nat} {l:List D},(T= "list"\/T= "tuple")->s.heap.get? a=some o->o.cls= .type T->o.data= .seq its.toArray n->v6 vs its->t6 (wc X) μ H l vs->vs.length<=zo->
  d9 (wc X) Z μ H ((if l.length<64 then x9 F l else M.stuck:M D) G) (λd X2 _ H'=>∀v,j5 (wc X) X2 H' d v->Q v H')->zw (zE X.prog X.w) X.A (call (.builtin "sorted") [.ref a] [(jo "key",.ref f)]) (EP X pins σ Q) X.xe s:=by
  intro a T o its vs n l hT h1 h2 h3 rv rl hz p
  split at p
  case isFalse=>exact p.elim
  rename_i h64
  refine gO hF hb hrm I hr h64 (λQ' hQ=>wpAny_collect_seq a hT h1 h2 h3 (λh' kk=>?_) (by rw[zj,<-rv.length];exact hz)) p
  exact hQ h' s.toks its vs kk rv rl
 unfold D8 at p
 split at p
 · rename_i l
   unfold j5 at rd
   obtain⟨a,vs,rfl,q,rl⟩:=rd
   cases ru
   obtain⟨its,rv,⟨o,h1,h2,n,h3⟩,hz⟩:=I.tuple q
   exact seq (.inr rfl) h1 h2 h3 rv rl hz p
 · rename_i i
   unfold j5 at rd
   obtain⟨a,m,rfl⟩:=rd
   cases ru
   obtain⟨o,g,p1⟩:=N5 p
   have ro:=hr.obj i o a g m
   rcases o with l|l|l|l
   ·
     obtain⟨vs,q,rl⟩:=ro
     obtain⟨its,rv,pl,hz⟩:=I.list (SqL.of q)
     obtain⟨o,h1,h2,n,h3⟩:=pl.isList
     exact seq (.inl rfl) h1 h2 h3 rv rl hz p1
   ·exact p1.elim
   ·
     obtain⟨kvs,q,rk⟩:=ro
     obtain⟨ss,es,p2⟩:=U4 p1
     split at p2
     case isFalse=>exact p2.elim
     rename_i h64
     obtain⟨z,hd,vs,rel,dd⟩:=UB I.hok q
     obtain⟨ep,hat⟩:=dd.dictAt
     have hn:vs.length=ss.length:=by rw[NJ es,<-rel.length,<-rk.length]
     refine gO hF hb hrm I hr (by simpa using h64) (λQ' hQ=>Je (JS hd) (I.ok.hd hc) hat (by rw[yA];omega) λh1 tk acc hk hacc=>?_) p2
     have hS:StrsAre acc.toList ss:=WI es rk rel (by rw[jK];exact hacc.1) λj v e=>hacc.2 j v (by rw[<-jB];exact e)
     obtain⟨ws,ew,rv,rl2⟩:=nG (μ:=μ) hS
     exact hQ h1 tk acc.toList ws hk rv rl2
   ·exact p1.elim
 ·exact p.elim
end
section
theorem Lp(hc:X.calm=true)(hF:∃k kk,t9 F 1 x X.prog X.w X.K X.mg X.base k/\V5 kk X.A/\k+2<=kk)(hbl:BLs X.mg)(hgs:Gl X "sorted")(hg:Gl X x)(he:DE X Z e fe)(hs:R6 e=true)(hdb:(x==("__debug__" :Str))=false):
 DE X Z (.Call (.Name "sorted" p) [e] [⟨some "key",.Name x pf,kp⟩] pos) (RA F fe):=⟨by
 intro pins s σ H Q I h
 obtain⟨k,kk,hF,hrm,hk⟩:=hF
 obtain⟨f,fd,ps,f1,f2,f3,f4⟩:=hF.ex
 have hbs:zX ("sorted" :Str)=some (.builtin "sorted"):=NI
 refine jT (A5 I hgs (hbl.h _ (by decide +kernel)) hbs ?_ (by decide) (by decide))
 obtain⟨X9,μ,G,sr,hr,pp⟩:=h
 unfold RA at pp
 have pa:=d9.bind pp
 have hst:zP [e] X.env= (false,eval e X.env)::zP [] X.env:=Z5 hs
 refine callWith_builtin_kwB (by rw[ED];exact QB (by rw[jX,hs];rfl)) rfl (evalArgs_kw2 rfl ?_ hst)
 have ha:DA X Z [e] (d0 fe g0):=gJ he AH hst
 refine thn (ha.h pos pins s σ H (λvs H1=>∃v d X0 G1,vs= [v]/\j5 (wc X) X0 H1 d v/\v8 (wc X) X0 G1 H1/\d9 (wc X) Z X0 H1 (D8 F d G1) (λd X2 _ H'=>∀v,j5 (wc X) X2 H' d v->Q v H')) I ?_) λus s1 ⟨vs,H1,I1,r1,v,d,X0,G1,e1,rd,hr1,p1⟩=>?_
 · refine⟨X9,μ,G,sr,hr,?_⟩
   show d9 (wc X) Z μ H ((fe X9 >>= λy=>(pure [y]:M (List D))) G) _
   match hm:fe X9 G,pa with
   |some (.ok y,G1),pa=>
     rw[M.bind_ok hm]
     intro X2 H' x1 h1 vs rv
     obtain⟨v,ev,rv2⟩:=T1 rv
     subst ev
     exact⟨v,y,X2,G1,rfl,rv2,h1,pa X2 H' x1 h1⟩
   |some (.error y,G1),pa=>
     rw[M.bind_eq,hm]
     exact pa
 · subst e1
   obtain⟨u,rfl,ru⟩:=Q2 r1
   show zw _ _ (evalAll [(do let v <-eval (.Name x pf) X.env;Jd pos;pure v)]) _ _ s1
   refine wpAny_evalAll_cons (za (oH I1 hg f2 (za (ZH (zp (wpAny_evalAll_nil ?_)))) hdb))
   exact Bj hc f1 f4 (hrm.mono hk) I1 hr1 rd ru p1⟩
end
def CR(K:zh)(mg:Str->Option zk)(d:D)(u:zk):Prop:=∃v,J9 v u/\∀ μ H,j5 ⟨K,mg⟩ μ H d v
def CRL(K:zh)(mg:Str->Option zk)(l:List D)(us:List zk):Prop:=∃vs,v6 vs us/\∀ μ H,t6 ⟨K,mg⟩ μ H l vs
section
variable{K:zh}{mg:Str->Option zk}
theorem cr_str:CR K mg (.str x) (.str x t):=⟨.str x,⟨t,rfl⟩,λμ H=>by unfold j5;rfl⟩
theorem cr_int:CR K mg (.int i) (.int i t):=⟨.int i,⟨t,rfl⟩,λμ H=>by unfold j5;rfl⟩
theorem cr_bl:CR K mg (.bl b) (.bool b):=⟨.bl b,rfl,λμ H=>by unfold j5;rfl⟩
theorem cr_non:CR K mg .non .none:=⟨.non,rfl,λμ H=>by unfold j5;rfl⟩
theorem crl_nil:CRL K mg [] []:=⟨[],.nil,λ_ _=>rfl⟩
theorem crl_cons(h:CR K mg d u)(t:CRL K mg l us):CRL K mg (d::l) (u::us):=by
 obtain⟨v,r,h⟩:=h
 obtain⟨vs,rs,t⟩:=t
 exact⟨v::vs,.cons r rs,λμ H=>⟨v,vs,rfl,h μ H,t μ H⟩⟩
theorem cr_tup(hl:K.lookup a=some ⟨.type "tuple",none,.seq us.toArray n,sl⟩)(hz:Nat.ble us.length 100=true)(h:CRL K mg l us):CR K mg (.tup l) (.ref a):=by
 obtain⟨vs,rs,t⟩:=h
 refine⟨.ref a,rfl,λμ H=>?_⟩
 unfold j5
 refine⟨a,vs,rfl,.inr ⟨_,us.toArray,n,hl,rfl,rfl,?_,rs⟩,t μ H⟩
 rw[zj]
 exact zG (JF hz) (by decide)
end
structure GC(K:zh)(mg:Str->Option zk)(x:Str)(d:D):Prop where
 ex:∃u,mg x=some u/\CR K mg d u
section
theorem Fv(hc:GC X.K X.mg x d)(hg:Gl X x)(hdb:(x==("__debug__" :Str))=false):DE X Z (.Name x pos) (cE d):=⟨by
 intro pins s σ H Q I hE0
 refine hE0.elim λX9 μ G sr hr p=>?_
 obtain⟨u,hm,v,ru,rv⟩:=hc.ex
 exact oH I hg hm ⟨v,H,I,ru,d9.ok p hr v (rv μ H)⟩ hdb⟩
end
def IG:D->M Unit:=λx=>match x with
 | .str _=>pure ()
 |_=>M.stuck
section
variable{X:Cx}{Z:XC}{o e:Expr}{es:List Expr}{fo:Fe}{fs:DSt->M (List D)}{name:Str}{id:String}{mm:D->List D->M D}{apos cpos:Pos}
theorem vg{H:Hp}{G:DH}{d:D}{v:V}{f:Unit->M α}{K:α->List Addr->DH->Hp->Prop}(r:j5 c μ H d v)(p:d9 c Z μ H ((IG d >>= f) G) K):tyV c.K "str" v H/\d9 c Z μ H (f () G) K:=by
 rcases d with _|_|_|x|_|_|_|_<;>try (exact p.elim;done)
 ·rw[U1 r];exact⟨rfl,p⟩
theorem tV(slot:Slot "str" name id)(hty:typeOf (.builtin id)=pure (.type "method_descriptor"))(hm:MtD X Z id mm)(ho:DE X Z o fo)(ha:DA X Z (e::es) fs)
 (hbase:xB o name X.env (eval o X.env)=eval o X.env)
 (hfew:((xf cpos (zP (e::es) X.env)).all (λx=> !x.1)&&(Jp cpos (Yz [] X.env)).all (λx=>x.1.isSome)
   && decide ((e::es).length+([]:List Keyword).length+(if ([]:List Keyword).isEmpty then 0 else 1)<30))=true)
 (hline:(apos.endLine==cpos.line)=true) (hs:zP (e::es) X.env= (false,eval e X.env)::zP es X.env) (hplain:(xf cpos (zP es X.env)).any (·.1)=false):
 DE X Z (.Call (.Attribute o name apos) (e::es) [] cpos) (mtE IG mm fo fs):=
 DE.of (TK PySem.F.plainAttrs_str slot hty hm ho.h ha.h hbase hfew hline hs hplain) λσ H Q hE0=>hE0.elim λX9 μ G s h p=>⟨X9,μ,G,s,h,(d9.bind p).mono λd X0 G1 H1 x1 h1 p1 v rv=>by
  obtain⟨ty,p2⟩:=vg rv p1
  exact⟨ty,X9,X0,G1,s.mono x1,h1,(d9.bind p2).mono λds WY G2 H2 x2 h2 p3 vs rvs=>⟨d,ds,WY,G2,rv.mono x2,rvs,h2,p3⟩⟩⟩
end
def EB(sep:Str)(l:List D):M D:=do
 let ss <-M0 (E3 l)
 if (ss.map (·.length)).sum+ss.length*sep.length<=16777216 then pure (.str (Yd sep ss))else M.stuck
def FC:D->List D->M D:=λx ds=>match x,ds with
 | .str sep, [.tup l]=>EB sep l
 | .str sep, [.ref r]=>do
   match <-O5 r with
   | .lst l=>EB sep l
   |_=>M.stuck
 |_,_=>M.stuck
section
theorem sY:MtD X Z "str.join" FC:=by
 intro pins s σ H x xs v us Q I rx rvs hE0
 obtain⟨d,ds,μ,G,rd,rl,hr,p⟩:=hE0
 unfold FC at p
 split at p
 · rename_i sep l
   rw[U1 rd]at rx
   obtain⟨t,rfl⟩:=rx
   obtain⟨v1,rfl,rv1⟩:=T1 rl
   obtain⟨u,rfl,ru⟩:=Q2 rvs
   unfold j5 at rv1
   obtain⟨a,vs,rfl,q,rl'⟩:=rv1
   cases ru
   obtain⟨its,rv,tp,hz⟩:=I.tuple q
   unfold EB at p
   obtain⟨ss,es,p2⟩:=U4 p
   split at p2
   case isFalse=>exact p2.elim
   rename_i hok
   exact join_tuple tp (RG es rl' rv) hok λt' k=>⟨.str (Yd sep ss),H,I.tok k,⟨t',rfl⟩,d9.ok p2 hr _ (by unfold j5;rfl)⟩
 · rename_i sep r
   rw[U1 rd]at rx
   obtain⟨t,rfl⟩:=rx
   obtain⟨v1,rfl,rv1⟩:=T1 rl
   obtain⟨u,rfl,ru⟩:=Q2 rvs
   unfold j5 at rv1
   obtain⟨a,m,rfl⟩:=rv1
   cases ru
   obtain⟨o,g,p1⟩:=N5 p
   have ro:=hr.obj r o a g m
   rcases o with l|l|l|l
   ·
     obtain⟨vs,q,rl'⟩:=ro
     obtain⟨its,rv,pl,hz⟩:=I.list (SqL.of q)
     unfold EB at p1
     obtain⟨ss,es,p2⟩:=U4 p1
     split at p2
     case isFalse=>exact p2.elim
     rename_i hok
     exact join_list pl.isList (RG es rl' rv) hok λt' k=>⟨.str (Yd sep ss),H,I.tok k,⟨t',rfl⟩,d9.ok p2 hr _ (by unfold j5;rfl)⟩
   ·exact p1.elim
   ·exact p1.elim
   ·exact p1.elim
 ·exact p.elim
end
end DL
namespace W
open PySem PySem.Spec L2 DL
open PyProof.Rows hiding St
section
theorem TZ:Wp (IG (.str z)) G R↔R () G:=m5
theorem Qb(e:G[r]? =some (.lst l))(hs:E3 l=some ss)(hok:(ss.map (·.length)).sum+ss.length*sep.length<=16777216):Wp (FC (.str sep) [.ref r]) G Q↔Q (.str (Yd sep ss)) G:=by
 have h:FC (.str sep) [.ref r]= (do
  match <-O5 r with
  | .lst l=>EB sep l
  |_=>M.stuck):=rfl
 rw[h]
 simp only[j9,O3,e,Q3,EB,D3,hs,if_pos hok,m5]
end
end W
namespace DL
open PySem PySem.Spec L2
open PyProof.Rows hiding St
def w9(n:Nat)(lo hi st:Option Int):List Nat:=sliceRange (yZ lo hi st n).1 (yZ lo hi st n).2.1 (yZ lo hi st n).2.2
def nE(l:List D)(lo hi st:Option Int):List D:=(w9 l.length lo hi st).filterMap (l[·]?)
def y9:D->Option Int->Option Int->Option Int->M D:=λx lo hi st=>match x with
 | .ref r=>do
   let l <-O5 r >>= listOf
   if st=some 0 then M.stuck else M6 (.lst (nE l lo hi st))
 |_=>M.stuck
def WC(f:Fe)(lo hi st:Fo):Fe:=λσ=>do
 let x <-f σ
 let l <-lo σ
 let h <-hi σ
 let s <-st σ
 y9 x l h s
section
variable{X:Cx}{Z:XC}{μ:List Addr}{H:Hp}
theorem t6.pick(h:t6 c μ H l vs):∀is:List Nat,t6 c μ H (is.filterMap (l[·]?)) (is.filterMap (vs[·]?))
 |[]=>rfl
 |i::r=>by
   have ih:=t6.pick h r
   rw[jM,jM]
   by_cases hi:i<l.length
   · have e:l[i]? =some l[i]:=zi hi
     obtain⟨v,e2,r2⟩:=h.get e
     rw[e,e2]
     exact⟨v,_,rfl,r2,ih⟩
   · have hi2:vs.length<=i:=by rw[<-h.length];lia
     rw[zR (by lia),zR hi2]
     exact ih
theorem rK(h:v6 vs us):∀is:List Nat,v6 (is.filterMap (vs[·]?)) (is.filterMap (us[·]?))
 |[]=>.nil
 |i::r=>by
   have ih:=rK h r
   rw[jM,jM]
   by_cases hi:i<vs.length
   · have e:vs[i]? =some vs[i]:=zi hi
     obtain⟨v,e2,r2⟩:=h.get e
     rw[e,e2]
     exact .cons r2 ih
   · have hi2:us.length<=i:=by rw[<-h.length];lia
     rw[zR (by lia),zR hi2]
     exact ih
variable{e t:Expr}{lo hi:Option Expr}{fa:Fe}{fl fh ft:Fo}{p2 pos:Pos}
theorem FS(he:DE X Z e fa)(hl:DOp X Z lo fl)(hu:DOp X Z hi fh)(ht:DOp X Z (some t) ft):DE X Z (.Subscript e (.Slice lo hi (some t) p2) pos) (WC fa fl fh ft):=⟨by
 intro pins s σ H Q I hE0
 refine hE0.elim λX9 μ G sr h p=>?_
 have p0:=d9.bind p
 refine Subscript_ (thn (he.h pins s σ H (λv H1=>∃d X0 G1,j5 (wc X) X0 H1 d v/\v8 (wc X) X0 G1 H1/\K7 (wc X) X0 H1 X9 σ/\d9 (wc X) Z X0 H1 ((fl X9 >>= λl=>fh X9 >>= λh=>ft X9 >>= λs=>y9 d l h s) G1) (λd X2 _ H'=>∀v,j5 (wc X) X2 H' d v->Q v H')) I ⟨X9,μ,G,sr,h,p0.mono λd X0 G1 H1 x1 h1 p1 v rv=>⟨d,X0,G1,rv,h1,sr.mono x1,p1⟩⟩) λv s1 ⟨x,H1,I1,r1,d,X0,G1,rd,h1,sr1,p1⟩=>?_)
 refine wpAny_Slice ?_
 refine thn (hl.h pins s1 σ H1 (λl H2=>∃ WY G2,j5 (wc X) WY H2 d x/\v8 (wc X) WY G2 H2/\K7 (wc X) WY H2 X9 σ/\d9 (wc X) Z WY H2 ((fh X9 >>= λh=>ft X9 >>= λs=>y9 d l h s) G2) (λd X2 _ H'=>∀v,j5 (wc X) X2 H' d v->Q v H')) I1 ⟨X9,X0,G1,sr1,h1,(d9.bind p1).mono λl WY G2 H2 x2 h2 p2=>⟨WY,G2,rd.mono x2,h2,sr1.mono x2,p2⟩⟩) λvl s2 ⟨l,H2,I2,pl,WY,G2,rd2,h2,sr2,p2⟩=>?_
 refine thn (hu.h pins s2 σ H2 (λu H3=>∃ WP G3,j5 (wc X) WP H3 d x/\v8 (wc X) WP G3 H3/\K7 (wc X) WP H3 X9 σ/\d9 (wc X) Z WP H3 ((ft X9 >>= λs=>y9 d l u s) G3) (λd X2 _ H'=>∀v,j5 (wc X) X2 H' d v->Q v H')) I2 ⟨X9,WY,G2,sr2,h2,(d9.bind p2).mono λu WP G3 H3 x3 h3 p3=>⟨WP,G3,rd2.mono x3,h3,sr2.mono x3,p3⟩⟩) λvu s3 ⟨u,H3,I3,pu,WP,G3,rd3,h3,sr3,p3⟩=>?_
 refine thn (ht.h pins s3 σ H3 (λk H4=>∃ WL G4,j5 (wc X) WL H4 d x/\v8 (wc X) WL G4 H4/\d9 (wc X) Z WL H4 (y9 d l u k G4) (λd X2 _ H'=>∀v,j5 (wc X) X2 H' d v->Q v H')) I3 ⟨X9,WP,G3,sr3,h3,(d9.bind p3).mono λk WL G4 H4 x4 h4 p4=>⟨WL,G4,rd3.mono x4,h4,p4⟩⟩) λvk s4 ⟨k,H4,I4,pk,WL,G4,rd4,h4,p4⟩=>?_
 have I5:Inv X pins σ H4 {s4 with heap:=s4.heap.push {cls:=.type "slice",data:=.fields #[vl,vu,vk]}}:=I4.kept λb ob q=>zd _ q
 have hsl:Heap.IsSliceOf (s4.heap.push {cls:=.type "slice",data:=.fields #[vl,vu,vk]}) s4.heap.objs.size vl vu vk:=Xd ..
 cases d with
 |ref r=>
   obtain⟨ls,a,vs,rfl,rl,p5,hq⟩:=OG h4 rd4 p4
   cases r1
   split at p5
   case isTrue=>exact p5.elim
   rename_i hk0
   have hs:SqL X.K H4 a vs:=by
    rcases hq with⟨z,_⟩|⟨_,_,_,⟨_,q⟩|⟨_,q⟩⟩
    ·cases z
    ·exact SqL.of q
    ·exact q.sq
   obtain⟨its,rr,ht,hz⟩:=I5.list hs
   refine tail_any ht.isList.typeIs Xk.lookup (JM ht.isList hsl pl pu pk hk0 ?_ (by rw[zj,<-rr.length];exact hz)) (by with_unfolding_all rfl)
   have hf:=I5.hok.fresh (zn _)
   have en:its.toArray.size=vs.length:=by rw[zj,rr.length]
   have ep:XA its.toArray l u k=jn ((w9 ls.length l u k).filterMap (its[·]?)):=by
    unfold XA w9
    rw[rl.length,en]
    congr 1
    congr 1
    funext i
    simp
   have hlen:((w9 ls.length l u k).filterMap (vs[·]?)).length<=zo:=by
    have h1:=slicePick_size_le its.toArray l u k
    rw[ep,zj,zj]at h1
    have h2:=(rK rr (w9 ls.length l u k)).length
    have h3:=rr.length
    lia
   rw[ep]
   refine⟨.ref _,upd H4 _ (.lst ((w9 ls.length l u k).filterMap (vs[·]?))),I5.laid (λb u e=>zd _ e) (zn _) ?_,rfl,U3 h4 (rl.pick _) p5 _ hf⟩
   exact⟨hlen,_,0,rK rr _,zq _ rfl⟩
 |_=>exact p4.elim⟩
end
end DL
namespace W
open PySem PySem.Spec L2 DL
open PyProof.Rows hiding St
section
theorem Dx{lo hi st:Fo}:Wp (WC f lo hi st σ) G Q↔Wp (f σ) G λx G1=>Wp (lo σ) G1 λl G2=>Wp (hi σ) G2 λh G3=>Wp (st σ) G3 λk G4=>Wp (y9 x l h k) G4 Q:=by
 unfold WC;simp only[j9]
theorem EW{lo hi st:Option Int}(e:G[p]? =some (.rol l))(h:st≠some 0):Wp (y9 (.ref p) lo hi st) G Q↔Q (.ref G.length) (G++[.lst (nE l lo hi st)]):=by
 have h0:y9 (.ref p) lo hi st= (do
  let l <-O5 p >>= DL.listOf
  if st=some 0 then M.stuck else M6 (.lst (nE l lo hi st))):=rfl
 rw[h0]
 simp only[j9,O3,e,Q3,DL.listOf,m5,if_neg h,Q8]
end
end W
namespace DL
open PySem PySem.Spec L2
open PyProof.Rows hiding St
section
theorem Gf(σ:St)(H:Hp)(Q:VK)(h:N4 (wc X) Z (C9 o o' fa fb fc) σ H Q):oK (n9 (wc X) Z o) (n9 (wc X) Z o') (N4 (wc X) Z fa) (N4 (wc X) Z fb) (N4 (wc X) Z fc) σ H Q:=by
 obtain⟨X9,μ,G,s,h,p⟩:=h
 exact⟨X9,μ,G,s,h,(d9.bind p).mono λx X0 G1 H1 x1 h1 p1 v rv=>
  ⟨X9,X0,G1,s.mono x1,h1,(d9.bind p1).mono λy WY G2 H2 x2 h2 p2 u ru=>⟨x,y,WY,G2,rv.mono x2,ru,h2,(d9.bind p2).mono λz WP G3 H3 x3 h3 p3 w rw'=>by
   obtain⟨k,rfl,p4⟩:=tJ p3
   refine⟨k,L5 rw',?_⟩
   cases k with
   |true=>exact⟨X9,WP,G3,s.mono (x1.trans (x2.trans x3)),h3,(d9.bind p4).mono λt WL G4 H4 x4 h4 p5 q rq=>⟨y,t,WL,G4,ru.mono (x3.trans x4),rq,h4,p5⟩⟩
   |false=>exact d9.ok p4 h3 _ ofB⟩⟩⟩
theorem Wg(ho:OpD X Z (zO op) o)(ho':OpD X Z (zO op') o')(ha:DE X Z a fa)(hb:DE X Z b fb)(hc:DE X Z c fc)
 (hm:lastMarks [op,op'] [b,c]=false):DT X Z (.Compare a [op,op'] [b,c] pos) (m7 (C9 o o' fa fb fc)):=
 DT.of (qk ho.h ho'.h ha.h hb.h hc.h hm) λσ H Q hE0=>hE0.elim λX9 μ G s h p=>Gf σ H _ ⟨X9,μ,G,s,h,(d9.bind p).mono λx X0 G1 H1 x' h1 p1 v rv=>by
  cases x with
  |bl k'=>unfold j5 at rv;exact⟨k',rv,d9.ok p1 h1⟩
  |_=>exact p1.elim⟩
theorem GX(hF:∃k kk,t9 F 0 x X.prog X.w X.K X.mg X.base k/\V5 kk X.A/\k<=kk)(hg:Gl X x)(hdb:(x==("__debug__" :Str))=false):
 DE X Z (.Call (.Name x p) [] [] pos) (x0 (fnX 0 F) g0):=by
 obtain⟨k,kk,hF,hr,hk⟩:=hF
 obtain⟨f,fd,ps,h1,h2,h3,h4⟩:=hF.ex
 exact DE.of (dR7 h1 (hr.mono hk) hg h2 h3 h4 .nil vK hdb) λσ H Q hE0=>hE0.elim λX9 μ G s h p=>by
  obtain⟨hl,p2⟩:=pL (show d9 (wc X) Z μ H (fnX 0 F [] G) _ from p)
  exact⟨rfl, [],μ,G,rfl,h,p2⟩
end
section
end
end DL
namespace W
open PySem PySem.Spec L2 DL
open PyProof.Rows hiding St
end W
namespace DL
open PySem PySem.Spec L2
open PyProof.Rows hiding St
section
variable{X:Cx}{Z:XC}{o e:Expr}{es:List Expr}{fo:Fe}{fs:DSt->M (List D)}{name:Str}{id:String}{mm:D->List D->M D}{apos cpos:Pos}
end
section
end
def t5(G:DH)(x:D):List D->Option Bool
 |[]=>some false
 |d::t=>match eqN 40 G d x,t5 G x t with
   |some a,some b=>some (a||b)
   |_,_=>none
theorem qz:t5 G x (d::t)=match eqN 40 G d x,t5 G x t with
 |some a,some b=>some (a||b)
 |_,_=>none:=rfl
def N9(x y:D)(G:DH):Option Bool:=match y with
 | .tup l=>t5 G x l
 | .ref r=>match G[r]? with
   |some (.lst l)=>t5 G x l
   |some (.rol l)=>t5 G x l
   |_=>none
 |_=>none
def inX:D->D->M D:=λx y G=>match N9 x y G with
 |some b=>some (.ok (.bl b),G)
 |none=>none
section
theorem bY(hu:X.A.units+64<xk)(I:Inv X pins σ H s)(hr:v8 (wc X) μ G H)(rdx:j5 (wc X) μ H dx x)(rx:J9 x v):
 ∀ {l} {vs} {us} {b},t6 (wc X) μ H l vs->v6 vs us->t5 G dx l=some b->
  (∀u∈us,∃c,jJ X.A.in1 s u v c)/\(b=true->∃u∈us,jJ X.A.in1 s u v true)/\(b=false->∀u∈us,jJ X.A.in1 s u v false):=by
 intro l
 induction l with
 |nil=>
   intro vs us b rl rv e
   cases rl
   cases rv
   cases e
   exact⟨λu hu=>(by cases hu),λz=>absurd z jc,λ_ u hu=>(by cases hu)⟩
 |cons d t ih=>
   intro vs us b rl rv e
   obtain⟨w,tv,rfl,q,rt⟩:=rl
   cases rv with
   |cons r1 rs=>
   rename_i u us1
   rw[qz]at e
   rcases e1:eqN 40 G d dx with _|a
   ·rw[e1]at e;cases e
   ·
     rcases e2:t5 G dx t with _|b2
     ·rw[e1,e2]at e;cases e
     ·
       rw[e1,e2]at e
       cases e
       have h1:=(eD I hr 40 X.A.in1 (by show X.A.units+1+40<xk;lia) q rdx r1 rx e1).2.2
       obtain⟨k1,k2,k3⟩:=ih rt rs e2
       refine⟨λu' hu'=>?_,λz=>?_,λz u' hu'=>?_⟩
       · rcases zt.mp hu' with rfl|hu'
         ·exact⟨a,h1⟩
         ·exact k1 u' hu'
       · rcases a with _|_
         ·
           obtain⟨u',h3,h4⟩:=k2 z
           exact⟨u',zB _ h3,h4⟩
         ·exact⟨u,zK,h1⟩
       · rcases a with _|_
         ·
           rcases zt.mp hu' with rfl|hu'
           ·exact h1
           ·exact k3 z u' hu'
         ·cases z
open Classical in
theorem OP(hu:X.A.units+64<xk)(I:Inv X pins σ H s)(hr:v8 (wc X) μ G H)(rdx:j5 (wc X) μ H dx x)(rx:J9 x v)
 (rl:t6 (wc X) μ H l vs) (rv:v6 vs us) (e:t5 G dx l=some b):
   ∃f:zk->Bool,(∀u∈us,jJ X.A.in1 s u v (f u))/\us.any f=b:=by
 obtain⟨k1,k2,k3⟩:=bY hu I hr rdx rx rl rv e
 rcases b with _|_
 ·exact⟨λ_=>false,λu hu=>k3 rfl u hu,by simp⟩
 ·
   refine⟨λu=>decide (jJ X.A.in1 s u v true),λu hu=>?_,?_⟩
   · dsimp only
     by_cases c:jJ X.A.in1 s u v true
     ·rw[decide_eq_true c];exact c
     · rw[decide_eq_false c]
       obtain⟨c',hc⟩:=k1 u hu
       rcases c' with _|_
       ·exact hc
       ·exact absurd hc c
   · obtain⟨u,hu,h⟩:=k2 rfl
     exact List.any_eq_true.mpr ⟨u,hu,decide_eq_true h⟩
theorem iU(hu:X.A.units+64<xk)(I:Inv X pins σ H s)(hr:v8 (wc X) μ G H)(rdx:j5 (wc X) μ H dx x)(rdy:j5 (wc X) μ H dy y)(rx:J9 x v)(ry:J9 y u)
 (e:N9 dx dy G=some b):
 (Q (.bl b) H->zw (zE X.prog X.w) X.A (zO .In v u) (EP X pins σ Q) X.xe s)/\(Q (.bl (!b)) H->zw (zE X.prog X.w) X.A (zO .NotIn v u) (EP X pins σ Q) X.xe s):=by
 have seq:∀(p:Addr) (l:List D) (vs:List V),y= .ref p->(SqL X.K H p vs\/SqT X.K H p vs)->t6 (wc X) μ H l vs->t5 G dx l=some b->
  (Q (.bl b) H->zw (zE X.prog X.w) X.A (zO .In v u) (EP X pins σ Q) X.xe s)/\(Q (.bl (!b)) H->zw (zE X.prog X.w) X.A (zO .NotIn v u) (EP X pins σ Q) X.xe s):=by
  intro p l vs hy hq rl e
  subst hy
  cases ry
  rcases hq with hq|hq
  · obtain⟨its,r,pl,hz⟩:=I.list hq
    obtain⟨f,h1,h2⟩:=OP hu I hr rdx rx rl r e
    have h3:its.toArray.any f=b:=by rw[<-h2];simp
    exact⟨λq=>SeqAt.in_listAt f pl.isList (λw hw=>h1 w (by simpa using hw)) ⟨.bl _,H,I,rfl,by rw[h3];exact q⟩,λq=>JU f pl.isList (λw hw=>h1 w (by simpa using hw)) ⟨.bl _,H,I,rfl,by rw[h3];exact q⟩⟩
  · obtain⟨its,r,pl,hz⟩:=I.tuple hq
    obtain⟨f,h1,h2⟩:=OP hu I hr rdx rx rl r e
    have h3:its.toArray.any f=b:=by rw[<-h2];simp
    exact⟨λq=>SeqAt.in_tupleAt f pl (λw hw=>h1 w (by simpa using hw)) ⟨.bl _,H,I,rfl,by rw[h3];exact q⟩,λq=>JC f pl (λw hw=>h1 w (by simpa using hw)) ⟨.bl _,H,I,rfl,by rw[h3];exact q⟩⟩
 rcases dy with _|_|_|_|l|i|_|_<;>try (cases e;done)
 ·
   unfold j5 at rdy
   obtain⟨a,vs,hy,q,rl⟩:=rdy
   exact seq a l vs hy (.inr q) rl e
 ·
   unfold j5 at rdy
   obtain⟨a,m,hy⟩:=rdy
   rcases g:G[i]? with _|o
   ·unfold N9 at e;simp only[g]at e;cases e
   ·
     have ro:=hr.obj i o a g m
     rcases o with l|l|_|_<;>try (unfold N9 at e;simp only[g]at e;cases e;done)
     ·
       obtain⟨vs,q,rl⟩:=ro
       unfold N9 at e;simp only[g]at e
       exact seq a l vs hy (.inl (SqL.of q)) rl e
     ·
       obtain⟨vs,q,rl⟩:=ro
       unfold N9 at e;simp only[g]at e
       exact seq a l vs hy (.inl q.sq) rl e
theorem qY(hu:X.A.units+64<xk):OpD X Z (zO .In) inX:=⟨by
 intro pins s σ H x y v u Q I rx ry hE0
 refine hE0.elim λdx dy μ G rdx rdy hr p=>?_
 unfold inX at p
 rcases e:N9 dx dy G with _|b
 ·rw[e]at p;exact p.elim
 ·rw[e]at p;exact(iU hu I hr rdx rdy rx ry e).1 (d9.ok p hr _ ofB)⟩
end
theorem dZ:seqRepeat? (.type "tuple")=pure (some (.builtin "tuple.__mul__")):=by
 unfold seqRepeat?
 rw[PySem.seqSlot_of (T:= "tuple") (name:= "__mul__") (id:= "tuple.__mul__") Zd.lookup (by decide +kernel),PySem.seqSlot_of (T:= "tuple") (name:= "__rmul__") (id:= "tuple.__rmul__") Xq.lookup (by decide +kernel)]
 rfl
theorem fV:fillsNumberSlot (.type "tuple") "mul" =pure false:=
 PySem.fillsNumberSlot_seq (id:= "tuple.__mul__") (r:=some (.builtin "tuple.__rmul__")) Zd.lookup (by decide +kernel) Xq.lookup (by decide +kernel)
theorem Fm(a:Int)(t:Tok)(l:Addr)(items:Array zk)(n:Nat)(dd:Option Addr)(sl:Array (Option zk)):
 Meets (yj.«int.__rmul__» ⟨[.int a t,.ref l], []⟩) (λ_ R s=>s.heap.get? l=some {cls:=.type "tuple",dict:=dd,data:=.seq items n,slots:=sl}/\R (.ok (.ret Value.notImplemented)) s):=
 .of_wp λprog w A R s h=>by obtain⟨hp,g,d,tk,os⟩:=s;obtain⟨hl,h⟩:=h;wp_walk;exact⟨_,rfl,h⟩
theorem lR(items:Array zk):∀k a,(ZE (λx1 x2=>x1++x2) a (zu k items)).size=a.size+k*items.size
 |0,a=>by simp
 |k+1,a=>by rw[yc,xX,lR items k,Array.size_append,Ju];lia
theorem iR(h1: -(2 ^ 63)<=x)(h2:x<2 ^ 63):decide ((decide (x < -(2 ^ 63))||decide (x>=2 ^ 63))=true)=false:=by
 rw[decide_eq_false (Int.not_lt.mpr h1),decide_eq_false (Int.not_le.mpr h2)];rfl
theorem Lj(l:Addr)(items:Array zk)(n:Nat)(dd:Option Addr)(sl:Array (Option zk))(x:Int)(u:Tok)(h1: -(2 ^ 63)<=x)(h2:x<2 ^ 63)(h3:(items.isEmpty||x==1)=true):
 Meets (yj.«tuple.__mul__» ⟨[.ref l,.int x u], []⟩) (λ_ R s=>s.heap.get? l=some {cls:=.type "tuple",dict:=dd,data:=.seq items n,slots:=sl}/\R (.ok (.ret (Value.ref l))) s):=
 .of_wp λprog w A R s h=>by
  obtain⟨hp,g,d,tk,os⟩:=s;obtain⟨hl,h⟩:=h
  wp_walk
  refine Yk (iR h1 h2) ?_
  wp_walk
  exact⟨_,rfl,h⟩
theorem tW(l:Addr)(items:Array zk)(n:Nat)(dd:Option Addr)(sl:Array (Option zk))(x:Int)(u:Tok)(h1: -(2 ^ 63)<=x)(h2:x<2 ^ 63)(h3:¬(items.isEmpty||x==1)=true)(hz:items.size*x.toNat<=zo):
 Meets (yj.«tuple.__mul__» ⟨[.ref l,.int x u], []⟩) (λ_ R s=>s.heap.get? l=some {cls:=.type "tuple",dict:=dd,data:=.seq items n,slots:=sl}/\
  R (.ok (.ret (Value.ref s.heap.objs.size))) {s with heap:=s.heap.push {cls:=Value.type "tuple",data:=Data.seq (ZE (λx1 x2=>x1++x2) #[] (zu x.toNat items))},toks:=s.toks}):=
 .of_wp λprog w A R s h=>by
  obtain⟨hp,g,d,tk,os⟩:=s;obtain⟨hl,h⟩:=h
  wp_walk
  refine Yk (iR h1 h2) ?_
  by_cases hx:(decide (x<=0)||items.isEmpty)=true
  · have hx0:x<=0:=by
     have he:items.isEmpty=false:=by
      rcases e:items.isEmpty with _|_
      ·rfl
      ·rw[e]at h3;exact absurd rfl h3
     rw[he,Yu]at hx
     exact of_decide_eq_true hx
    have e0:x.toNat=0:=by lia
    rw[e0]at h
    wp_walk
    exact⟨_,rfl,h⟩
  · obtain⟨hc1,hc2⟩:(¬(items.size:Int)*x>(2 ^ 63-1) / 8)/\¬Builtin.Tuple.tupleTooMany ((items.size:Int)*x)=true:=by
     have hx0:¬x<=0:=λz=>hx (by rw[decide_eq_true z];rfl)
     have e1:(items.size:Int)*x= ((items.size*x.toNat:Nat):Int):=by
      rw[Int.natCast_mul,Int.toNat_of_nonneg (by lia)]
     have e2:items.size*x.toNat<=2 ^ 24:=hz
     rw[e1]
     exact⟨by lia,λz=>absurd (of_decide_eq_true z) (by show ¬((2 ^ 24:Nat):Int)<_;lia)⟩
    wp_walk
    refine Yk (decide_eq_false hc1) ?_
    wp_walk
    refine Yk (decide_eq_false (XR.mpr (by rw[lR];simp only[Array.size_empty];rw[Jv];lia))) ?_
    wp_walk
    exact⟨_,rfl,h⟩
section
def fH8(K:zh):R2:=λx y H Q=>∃l k xs,x= .ref l/\y= .int k/\SqT K H l xs/\ -(2 ^ 63)<=k/\k<2 ^ 63/\xs.length*k.toNat<=zo/\
 ((xs= []\/k=1)->Q (.ref l) H)/\(¬(xs= []\/k=1)->∀p,H p=none->Q (.ref p) (upd H p (.tup (zu k.toNat xs).flatten)))
theorem Qf:OpR X (jH .Mult) (fH8 X.K):=by
 intro pins s σ H x y v u Q I rx ry h
 obtain⟨l,k,xs,rfl,rfl,hH,h1,h2,hz,q1,q2⟩:=h
 cases rx
 obtain⟨t,rfl⟩:=ry
 obtain⟨its,r,p,_⟩:=I.tuple hH
 have hlen:its.toArray.size*k.toNat<=zo:=by rw[zj,<-r.length];exact hz
 obtain⟨⟨cls,dd,data,sl⟩,ho,hc,n,hd⟩:=id p
 simp only at hc hd
 subst hc hd
 refine Jy (T:= "tuple") (U:= "int") (by decide) ⟨_,ho,rfl⟩ (λs'=>xJ s' k t) fV F.fills_int_mul ZY dZ F.slot_int_index.lookup
  (xK ZY (xJ s k t) F.entry_int_rmul (F.args_int_rmul_2 _ _) (Fm k t l its.toArray n dd sl)
    ⟨ho,rfl,⟨_,ho,rfl⟩,?_⟩)
 by_cases hc:xs= []\/k=1
 · have h3:(its.toArray.isEmpty||k==1)=true:=by
    rcases hc with rfl|rfl
    ·cases r;rfl
    ·simp
   exact xK Zd ⟨_,ho,rfl⟩ F.entry_tuple_mul (F.args_tuple_mul_2 _ _) (Lj l its.toArray n dd sl k t h1 h2 h3) ⟨ho,.ref l,H,I,rfl,q1 hc⟩
 · have h3:¬(its.toArray.isEmpty||k==1)=true:=by
    intro z
    rw[Xi]at z
    rcases z with z|z
    · have:its= []:=by simpa using z
      subst this
      exact hc (.inl (by cases r;rfl))
    ·exact hc (.inr (by simpa using z))
   refine xK Zd ⟨_,ho,rfl⟩ F.entry_tuple_mul (F.args_tuple_mul_2 _ _) (tW l its.toArray n dd sl k t h1 h2 h3 hlen) ⟨ho,?_⟩
   have f0:ZE (λx1 x2=>x1++x2) #[] (zu k.toNat its.toArray)= (zu k.toNat its).flatten.toArray:=by
    have:=UI its k.toNat []
    rw[Xg]at this
    exact this
   rw[f0]
   refine⟨.ref s.heap.objs.size,_,I.laid (t':=s.toks) (o:=.tup (zu k.toNat xs).flatten) (λb ob q=>zd _ q) (zn _) ?_,rfl,q2 hc _ (I.hok.fresh (zn _))⟩
   exact⟨by rw[eP,Jv];exact hz,_,r.rep k.toNat,t4.new _ _⟩
def bC:D->D->M D:=λx y=>match x,y with
 | .tup l,.int k=>if -(2 ^ 63)<=k/\k<2 ^ 63/\l.length*k.toNat<=zo then pure (.tup (zu k.toNat l).flatten)else M.stuck
 | .ref r,.int k=>do
   match <-O5 r with
   | .lst l=>if -(2 ^ 63)<=k/\k<2 ^ 63/\l.length*k.toNat<=zo then M6 (.lst (zu k.toNat l).flatten)else M.stuck
   |_=>M.stuck
 |_,_=>U2 x y
theorem t6.rep(r:t6 c μ H l vs):∀k:Nat,t6 c μ H (zu k l).flatten (zu k vs).flatten
 |0=>rfl
 |k+1=>by
   rw[yc,jZ,yc,jZ]
   exact r.append (t6.rep r k)
theorem uX:OpD X Z (jH .Mult) bC:=
 OpD.of (OpR.or Pg (OpR.or Qf (UK (Z:=Z)).h)) λx y H Q hE0=>hE0.elim λdx dy μ G rdx rdy hr p=>by
  by_cases c:∃l k,dx= .tup l/\dy= .int k
  · obtain⟨l,k,rfl,rfl⟩:=c
    refine .inr (.inl ?_)
    have ek:=K0 rdy
    unfold j5 at rdx
    obtain⟨a,vs,rfl,q,rl⟩:=rdx
    unfold bC at p
    dsimp only at p
    split at p
    · rename_i hz
      refine⟨a,k,vs,rfl,ek,q,hz.1,hz.2.1,by rw[<-rl.length];exact hz.2.2,λhc=>?_,λhc p' hp=>EC hr (rl.rep k.toNat) p p' hp⟩
      refine vF hr q ?_ p
      rcases hc with rfl|rfl
      · rcases l with _|⟨_,_⟩
        ·simp;exact rl
        ·obtain⟨_,_,z,_⟩:=rl;cases z
      ·simp;exact rl
    ·exact p.elim
  · by_cases c2:∃r k,dx= .ref r/\dy= .int k
    · obtain⟨r,k,rfl,rfl⟩:=c2
      refine .inl ?_
      have ek:=K0 rdy
      unfold j5 at rdx
      obtain⟨a,m,rfl⟩:=rdx
      have p':d9 (wc X) Z μ H ((O5 r >>= λo=>match o with| .lst l=>(if -(2 ^ 63)<=k/\k<2 ^ 63/\l.length*k.toNat<=zo then M6 (.lst (zu k.toNat l).flatten)else M.stuck)|_=>M.stuck:M D) G) λd X2 _ H'=>∀v,j5 (wc X) X2 H' d v->Q v H':=p
      obtain⟨o,g,p1⟩:=N5 p'
      have ro:=hr.obj r o a g m
      rcases o with l|_|_|_<;>try (exact p1.elim;done)
      ·
        obtain⟨vs,e,rl⟩:=ro
        dsimp only at p1
        split at p1
        · rename_i hz
          exact⟨a,k,vs,rfl,ek,e,hz.1,hz.2.1,by rw[<-rl.length];exact hz.2.2,λp' hp=>U3 hr (rl.rep k.toNat) p1 p' hp⟩
        ·exact p1.elim
    · refine .inr (.inr ⟨dx,dy,μ,G,rdx,rdy,hr,?_⟩)
      have e:bC dx dy=U2 dx dy:=by
       rcases dx with _|_|_|_|l|r|_|_<;>try (rfl;done)
       ·
         rcases dy with _|_|k|_|_|_|_|_<;>try (rfl;done)
         ·exact absurd ⟨_,_,rfl,rfl⟩ c
       ·
         rcases dy with _|_|k|_|_|_|_|_<;>try (rfl;done)
         ·exact absurd ⟨_,_,rfl,rfl⟩ c2
      rw[<-e]
      exact p
end
end DL
namespace W
open PySem PySem.Spec L2 DL
open PyProof.Rows hiding St
theorem LX(h:0<=k/\k<1000/\l.length<=1000):Wp (bC (.tup l) (.int k)) G Q↔Q (.tup (zu k.toNat l).flatten) G:=by
 have e:bC (.tup l) (.int k)= (if -(2 ^ 63)<=k/\k<2 ^ 63/\l.length*k.toNat<=zo then pure (.tup (zu k.toNat l).flatten)else M.stuck:M D):=rfl
 have hz:l.length*k.toNat<=zo:=by
  have:=Nat.mul_le_mul h.2.2 (show k.toNat<=1000 by lia)
  exact zG this (by decide)
 rw[e,if_pos ⟨by lia,by lia,hz⟩,m5]
end W
namespace DL
open PySem PySem.Spec L2
open PyProof.Rows hiding St
section
end
section
end
end DL
namespace W
open PySem PySem.Spec L2 DL
open PyProof.Rows hiding St
end W
namespace DL
open PySem PySem.Spec L2
open PyProof.Rows hiding St
theorem d8(e:m G=some (.ok a,G'))(q:Q a G'):Wp m G Q:=⟨a,G',e,q⟩
def PB(Q:DPP):Fl->DH->Prop
 | .nx _,G=>Q .non G
 | .rt d,G=>Q d G
 |_,_=>False
section
variable{m:Nat}{f S g:Fs}{ds as:List D}{d:D}{G G':DH}{Q:DPP}{P A:Fl->DH->Prop}{σ X1:DSt}{e:Fe}
theorem J6(w:Wp (f (ds.map some++zu (m-ds.length) none)) G (PB Q)):Wp (u0 m f ds) G Q:=
 W9.mpr (w.mono λfl G1 h=>match fl,h with
  | .nx _,h=>h
  | .rt _,h=>h
  | .bk _,h=>h.elim
  | .ct _,h=>h.elim)
theorem v9(q:Q d G):PB Q (.rt d) G:=q
theorem T5(e:f (ds.map some++zu (m-ds.length) none) G=some (.ok (.rt d),G'))(q:Q d G'):Wp (u0 m f ds) G Q:=J6 (d8 e q)
theorem J0(e:S σ G=some (.ok (.nx X1),G'))(w:Wp (g X1) G' P):Wp (j8 S g σ) G P:=j6.mpr (d8 e w)
theorem cC(e:S σ G=some (.ok (.rt d),G'))(q:P (.rt d) G'):Wp (j8 S g σ) G P:=j6.mpr (d8 e q)
end
section
variable{a b c:Fe}{d x y z:D}{G G1 G2:DH}{R:List D->DH->Prop}{σ:DSt}
theorem A3(e:t σ G=some (.ok true,G1))(w:Wp (f σ) G1 P):Wp (ifS t f g σ) G P:=g9.mpr (d8 e w)
theorem oA(e:t σ G=some (.ok false,G1))(w:Wp (g σ) G1 P):Wp (ifS t f g σ) G P:=g9.mpr (d8 e w)
theorem C0(w:Wp (t σ) G λk G1=>(k=true->Wp (f σ) G1 P)/\(k=false->Wp (g σ) G1 P)):Wp (ifS t f g σ) G P:=
 g9.mpr (w.mono λk G1 h=>by cases k with|true=>exact h.1 rfl|false=>exact h.2 rfl)
theorem i9(w:Wp (t σ) G λk G1=>(k=true->Wp (u σ) G1 B)/\(k=false->B false G1)):Wp (D0 t u σ) G B:=
 EQ.mpr (w.mono λk G1 h=>by cases k with|true=>exact h.1 rfl|false=>exact h.2 rfl)
theorem P8(w:Wp (t σ) G λk G1=>(k=true->B true G1)/\(k=false->Wp (u σ) G1 B)):Wp (orT t u σ) G B:=
 eZ7.mpr (w.mono λk G1 h=>by cases k with|true=>exact h.1 rfl|false=>exact h.2 rfl)
theorem wR{S:DSt->Prop}{R:DPP}(hS:S (σ.set i (some d)))(w:Wp (a (σ.set i (some d))) G R):Wp (y0 i d σ) G λWZ G1=>G1=G/\S WZ/\Wp (M5 WZ) G λb G2=>b=true/\G2=G/\Wp (a WZ) G R:=
 N6.mpr ⟨rfl,hS,W.wp_trueT.mpr ⟨rfl,rfl,w⟩⟩
theorem IF{g:Fg}(e:fs σ G=some (.ok [.int j],G1))(h0:0<=j)(h1:j<=10000)(w:Wp (N7 g t a (λ_=>true) (K3 0 j.toNat) (U9 caps σ)) G1 λys G2=>Q (.ref G2.length) (G2++[.lst ys])):Wp (J5 (R3 fs) caps g t a σ) G Q:=by
 refine W.wp_comp.mpr (W.rng1.mpr (d8 e ((W.rng1_int ⟨by lia,by lia⟩).mpr ⟨?_,w⟩)))
 show (K3 0 j.toNat).length<=zo
 unfold K3;rw[zg,jN]
 exact zG (by lia) (show 10000<=zo by decide)
theorem A7{g:Fg}(e:b σ G=some (.ok (.tup l),G1))(h:l.length<=10000)(w:Wp (N7 g t a (λ_=>true) l (U9 caps σ)) G1 λys G2=>Q (.ref G2.length) (G2++[.lst ys])):Wp (J5 (itW b) caps g t a σ) G Q:=
 W.wp_comp.mpr (W.wp_itW.mpr (d8 e (W.srcW_tup.mpr ⟨zG h (show 10000<=zo by decide),w⟩)))
theorem IW(w:Wp (t σ) G λk G1=>(k=true->Wp (f σ) G1 A)/\(k=false->Wp (g σ) G1 A))(k:∀fl G1,A fl G1->P fl G1):Wp (ifS t f g σ) G P:=(C0 w).mono k
theorem K9(w:Wp (a σ) G λd G1=>P (.nx (σ.set i (some d))) G1):Wp (u9 a (y0 i) σ) G P:=W6.mpr (w.mono λ_ _ h=>N6.mpr h)
theorem J1(w:Wp (a σ) G λd G1=>P (.rt d) G1):Wp (o4 a σ) G P:=L3.mpr w
theorem m6(e:fs σ G=some (.ok as,G1))(h:as.length=n)(w:Wp (F as) G1 Q):Wp (x0 (fnX n F) fs σ) G Q:=V1.mpr (d8 e (V7.mpr ⟨h,w⟩))
theorem N3(e:fs σ G=some (.ok as,G1))(w:Wp (F as) G1 Q):Wp (x0 F fs σ) G Q:=V1.mpr (d8 e w)
theorem N8(w:Wp (fs σ) G λas G1=>Wp (F as) G1 Q):Wp (x0 F fs σ) G Q:=V1.mpr w
theorem J4(ea:a σ G=some (.ok x,G1))(eb:b σ G1=some (.ok y,G2))(w:Wp (o x y) G2 Q):Wp (c7 o a b σ) G Q:=u4.mpr (d8 ea (d8 eb w))
theorem bin_w(w:Wp (a σ) G λx G1=>Wp (b σ) G1 λy G2=>Wp (o x y) G2 Q):Wp (c7 o a b σ) G Q:=u4.mpr w
theorem R0(e:a σ G=some (.ok x,G1))(w:Wp (fs σ) G1 λxs G2=>R (x::xs) G2):Wp (d0 a fs σ) G R:=R4.mpr (d8 e w)
theorem m9(w:Wp (a σ) G λx G1=>Wp (fs σ) G1 λxs G2=>R (x::xs) G2):Wp (d0 a fs σ) G R:=R4.mpr w
theorem K4(w:Wp (a σ) G λx G1=>∃k,x= .bl k/\B k G1):Wp (m7 a σ) G B:=F8.mpr w
end
def FH(K:zh)(x:Str)(st:Stmt):Prop:=∃(f:Addr) (od an:Option Addr) (sl:Array (Option zk)) (oc kV dc pm cd ct:zk),xT K jq x=some (some (.ref f))/\
 K.lookup f=some ⟨oc,od,.func (yq x x (h9 st) (i4 st) (M3 st) .none kV dc pm an cd ct),sl⟩/\Zc K cd x=true/\yi K (.ref f)=true
section
variable{K:zh}{h:Heap}{mg:Str->Option zk}{x:Str}{st:Stmt}
theorem FH.of{oc kV dc pm cd ct:zk}(a:xT K jq x=some (some (.ref f)))
 (l:K.lookup f=some ⟨oc,od,.func (yq x x (h9 st) (i4 st) (M3 st) .none kV dc pm an cd ct),sl⟩) (e:Zc K cd x=true) (k:yi K (.ref f)=true):FH K x st:=
 ⟨f,od,an,sl,oc,kV,dc,pm,cd,ct,a,l,e,k⟩
variable{ps:List Str}
theorem FH.ff(H:FH K x st)(X:K.In h)(G:h.Ns jq mg)(b:∀kV doc pm an cdv ct us,us.length=ps.length->bindArgs (yq x x (h9 st) (i4 st) (M3 st) .none kV doc pm an cdv ct) ⟨us, []⟩=pure (ps.zip us)):∃f fd,FF K mg x st ps f fd:=by
 obtain⟨f,od,an,sl,oc,kV,dc,pm,cd,ct,a,l,e,k⟩:=H
 exact⟨_,_,dF l e k,(dF l e k).binds b,ZW X G a⟩
theorem fP2(h:us.length=n+1):∃a t,us=a::t/\t.length=n:=by
 rcases us with _|⟨a,t⟩
 ·cases h
 ·exact⟨a,t,rfl,Xv h⟩
theorem BLs.of(X:K.In h)(G:h.Ns jq mg)(z:∀b∈bltL,xT K jq b=some none):BLs mg:=⟨λb hb=>PySem.W.mg_none_of X G (z b hb)⟩
end
abbrev fF1(h:Heap)(z TI TO:Addr)(f0:zk)(b:Bool):Prop:=
 h.get? z=some {cls:=.type "zip",dict:=none,data:=.fields #[f0,.bool b,.bool false,.ref TI,.ref TO],slots:= #[]}
section
variable{prog:zZ}{w:jg}{A:jr}{E:VSP}{s:zv}{k1 k2:Bool}{i:Nat}{z TI TO i1 i2 l1 l2 T:Addr}{xs ys:Array zk}{b:Bool}
structure ZSt(k1 k2:Bool)(z TI TO i1 i2 l1 l2:Addr)(xs ys:Array zk)(n0 i:Nat)(h:Heap):Prop where
 hz:(Zp h z TI TO .none/\∃a b,yz h TO a b)\/∃T b,fF1 h z TI TO (Xa ((n0+T:Nat):Int)) b/\T<i
 hTI:yz h TI (.ref i1) (.ref i2)
 h1:SI k1 h i1 l1 i
 h2:SI k2 h i2 l2 i
 c1:SC k1 h l1 xs
 c2:SC k2 h l2 ys
end
section
variable{H:Hp}{n0:Nat}{ws:List (V×V)}
end
section
variable{X:Cx}{Z:XC}{a b:Expr}{fs:DSt->M (List D)}{p1 p2 pos1 pos2:Pos}
end
end DL
namespace TS
open PySem PyProof.Rows
section
variable{prog:zZ}{w:jg}{A:jr}{E:VSP}{s:zv}
def kz(p:xV):Int:=numOf p.1
def isI(p:xV):Prop:=∃n t,p.1= .int n t
end
def leK(x y:xV):Prop:=kz x<=kz y
def Srt(l:List xV):Prop:=l.Pairwise leK
theorem Srt.app(ha:Srt a)(hb:Srt b)(h:∀x∈a,∀y∈b,leK x y):Srt (a++b):=yE.mpr ⟨ha,hb,h⟩
theorem Srt.left(h:Srt (a++b)):Srt a:=(yE.mp h).1
theorem Srt.right(h:Srt (a++b)):Srt b:=(yE.mp h).2.1
theorem Srt.mid(h:Srt (a++b)):∀x∈a,∀y∈b,leK x y:=(yE.mp h).2.2
structure MI(L out A B:List xV):Prop where
 perm:(out++(A++B)).Perm L
 so:Srt out
 oa:∀x∈out,∀y∈A,leK x y
 ob:∀x∈out,∀y∈B,leK x y
 sa:Srt A
 sb:Srt B
theorem MI.bk(h:MI L out A (C++B))(k:∀c∈C,∀x∈A,leK c x):MI L (out++C) A B where
 perm:=by
  refine List.Perm.trans ?_ h.perm
  rw[ya]
  refine List.Perm.append_left _ ?_
  rw[<-ya,<-ya]
  exact List.Perm.append_right _ List.perm_append_comm
 so:=h.so.app h.sb.left λx hx y hy=>h.ob x hx y (by simp[hy])
 oa:=λx hx y hy=>by
  rcases zW.mp hx with hx|hx
  ·exact h.oa x hx y hy
  ·exact k x hx y hy
 ob:=λx hx y hy=>by
  rcases zW.mp hx with hx|hx
  ·exact h.ob x hx y (by simp[hy])
  ·exact h.sb.mid x hx y hy
 sa:=h.sa
 sb:=h.sb.right
structure MJ(L A B S:List xV):Prop where
 perm:(A++(B++S)).Perm L
 ss:Srt S
 as:∀x∈A,∀y∈S,leK x y
 bs:∀x∈B,∀y∈S,leK x y
 sa:Srt A
 sb:Srt B
theorem MJ.bk(h:MJ L A (B++C) S)(k:∀a∈A,∀c∈C,leK a c):MJ L A B (C++S) where
 perm:=by have:=h.perm;simp only[ya]at this ⊢;exact this
 ss:=h.sb.right.app h.ss λx hx y hy=>h.bs x (by simp[hx]) y hy
 as:=λx hx y hy=>by
  rcases zW.mp hy with hy|hy
  ·exact k x hx y hy
  ·exact h.as x hx y hy
 bs:=λx hx y hy=>by
  rcases zW.mp hy with hy|hy
  ·exact h.sb.mid x hx y hy
  ·exact h.bs x (by simp[hx]) y hy
 sa:=h.sa
 sb:=h.sb.left
def E8(a:Array xV):Prop:=∀p∈a.toList,isI p
theorem E8.at(h:E8 a){i:Nat}(e:a[i]? =some p):isI p:=h p (by
 rw[<-jB]at e
 exact yn e)
theorem E8.get(h:E8 a)(hi:i<a.size):∃p,a[i]? =some p/\isI p:=⟨_,jy hi,h.at (jy hi)⟩
def Same(st st':Yh):Prop:=yU st'=yU st/\yh st'=yh st/\Zr st'=Zr st/\Zv st'=Zv st
theorem Same.refl{st:Yh}:Same st st:=⟨rfl,rfl,rfl,rfl⟩
theorem Same.trans(h:Same a b)(k:Same b c):Same a c:=⟨k.1.trans h.1,k.2.1.trans h.2.1,k.2.2.1.trans h.2.2.1,k.2.2.2.trans h.2.2.2⟩
structure LI(a b:Array xV)(out:Array xV)(ia ib:Nat):Prop where
 mi:MI (a.toList++b.toList) out.toList (a.toList.drop ia) (b.toList.drop ib)
 ha:ia+1<a.size
 hb:ib<b.size
 sz:out.size=ia+ib
section
variable{a b out:Array xV}{ia ib:Nat}
end
section
variable{prog:zZ}{w:jg}{A:jr}{E:VSP}{s:zv}
end
section
variable{prog:zZ}{w:jg}{A:jr}{E:VSP}{s:zv}
end
structure HI(a b:Array xV)(out:Array xV)(na nb:Nat):Prop where
 mj:MJ (a.toList++b.toList) (a.toList.take na) (b.toList.take nb) out.toList.reverse
 ha:0<na
 hb:1<nb
 la:na<=a.size
 lb:nb<=b.size
 sz:out.size+na+nb=a.size+b.size
section
variable{a b out:Array xV}{na nb:Nat}
end
section
variable{prog:zZ}{w:jg}{A:jr}{E:VSP}{s:zv}
end
section
variable{prog:zZ}{w:jg}{A:jr}{E:VSP}{s:zv}
structure Aft(st st':Yh)(l:List xV)(p:Array (Nat×Nat×Nat)):Prop where
 kind:yU st'=ZU
 arr:(yh st').toList=l
 pend:Zr st'=p
 fail:Zv st'=none
end
def ND(a:Array xV):Prop:=(a.toList.map kz).Nodup
theorem cF(e:a[i]? =some p):K a i=kz p:=by unfold K;rw[e];rfl
theorem ND.ne(h:ND a)(hi:i<a.size)(hj:j<a.size)(ne:i≠j):K a i≠K a j:=by
 rw[cF (jy hi),cF (jy hj)]
 intro e
 have:=Zx (i:=i) (j:=j) (h₀:=by simpa using hi) (h₁:=by simpa using hj) h
 simp only[List.getElem_map,Array.getElem_toList]at this
 exact ne (this.mp e)
theorem E8.perm(h:E8 a)(p:b.Perm a):E8 b:=λx hx=>h x ((xm.mp p).mem_iff.mp hx)
theorem ND.perm(h:ND a)(p:b.Perm a):ND b:=((xm.mp p).map kz).nodup_iff.mpr h
def Asc(a:Array xV)(lo m:Nat):Prop:=∀i,i+1<m->K a (lo+i)<K a (lo+i+1)
theorem Asc.lt{lo m:Nat}(h:Asc a lo m):∀ {j i},i<j->j<m->K a (lo+i)<K a (lo+j)
 |0,i,hij,_=>by lia
 |j+1,i,hij,hj=>by
   have h1:=h j hj
   by_cases e:i=j
   ·subst e;exact h1
   ·exact Int.lt_trans (h.lt (show i<j by lia) (by lia)) h1
theorem Asc.snoc{lo m:Nat}(h:Asc a lo m)(k:K a (lo+m-1)<K a (lo+m))(hm:1<=m):Asc a lo (m+1):=λi hi=>by
 by_cases e:i+1<m
 ·exact h i e
 · have:i=m-1:=by lia
   subst this
   rw[show lo+(m-1)=lo+m-1 by lia,show lo+m-1+1=lo+m by lia]
   exact k
structure Run(lo:Nat)(st st':Yh):Prop where
 kind:yU st'=ZU
 pend:Zr st'=Zr st
 fail:Zv st'=none
 perm:(yh st').Perm (yh st)
 low:∀i,i<lo->(yh st')[i]? = (yh st)[i]?
theorem Run.refl{lo:Nat}{st:Yh}(hk:yU st=ZU)(hf:Zv st=none):Run lo st st:=⟨hk,rfl,hf,.refl _,λ_ _=>rfl⟩
theorem Run.size{lo:Nat}{st st':Yh}(h:Run lo st st'):(yh st').size= (yh st).size:=h.perm.size_eq
section
variable{prog:zZ}{w:jg}{A:jr}{E:VSP}{s:zv}
theorem lt_at{st:Yh}(hk:yU st=ZU)(ha:E8 (yh st))(hi:i<(yh st).size)(hj:j<(yh st).size)(h:Q (some (decide (K (yh st) i<K (yh st) j))) st):wpS (zE prog w) A E s (ltAt' i j) Q st:=by
 obtain⟨p,e1,n,t,hp⟩:=ha.get hi
 obtain⟨q,e2,m,u,hq⟩:=ha.get hj
 obtain⟨p1,p2⟩:=p
 obtain⟨q1,q2⟩:=q
 cases hp
 cases hq
 rw[cF e1,cF e2]at h
 exact wpS_ltAt hk e1 e2 h
end
theorem Run.trans{lo:Nat}(h:Run lo a b)(k:Run lo b c):Run lo a c:=⟨k.kind,k.pend.trans h.pend,k.fail,k.perm.trans h.perm,λi hi=>(k.low i hi).trans (h.low i hi)⟩
theorem Fx{lo k l:Nat}(nd:ND a)(hs:lo+k<a.size)(h:Asc a lo k)(hl:l<=k)(h1:∀i,i<l->K a (lo+i)<=K a (lo+k))(h2:∀i,l<=i->i<k->K a (lo+k)<K a (lo+i)):Asc (bubble a (lo+k) (lo+k-(lo+l))) lo (k+1):=by
 have hd:lo+k-(lo+l)=k-l:=by lia
 rw[hd]
 have hK:=λj=>K_bubble (xs:=a) (src:=lo+k) (d:=k-l) hs (by lia) j
 intro i hi
 rw[hK,hK]
 have e:lo+k-(k-l)=lo+l:=by lia
 rw[e]
 by_cases c1:lo+i=lo+l
 · rw[if_pos c1,if_neg (by lia),if_pos (by lia)]
   have:i=l:=by lia
   subst this
   rw[show lo+i+1-1=lo+i by lia]
   exact h2 i (zn _) (by lia)
 · rw[if_neg c1]
   by_cases c2:lo+i+1=lo+l
   · rw[if_pos c2,if_neg (by lia)]
     have:=h1 i (by lia)
     have:=nd.ne (i:=lo+i) (j:=lo+k) (by lia) (by lia) (by lia)
     lia
   · rw[if_neg c2]
     by_cases c3:lo+l<lo+i/\lo+i<=lo+k
     · rw[if_pos c3,if_pos (by lia)]
       have:=h (i-1) (by lia)
       rw[show lo+(i-1)=lo+i-1 by lia,show lo+i-1+1=lo+i by lia]at this
       rw[show lo+i+1-1=lo+i by lia]
       exact this
     · rw[if_neg c3,if_neg (by lia)]
       exact h i (by lia)
section
variable{prog:zZ}{w:jg}{A:jr}{E:VSP}{s:zv}
theorem bin_w{st:Yh}{lo n ok:Nat}(hk:yU st=ZU)(hf:Zv st=none)(ha:E8 (yh st))(nd:ND (yh st))(h1:1<=ok)(hn:ok<=n)(hs:lo+n<=(yh st).size)(h0:Asc (yh st) lo ok)
 (h:∀st',Run lo st st'->Asc (yh st') lo n->Q true st'):wpS (zE prog w) A E s (binarySort' lo n ok) Q st:=by
 unfold binarySort'
 refine wpS_bind (wpS_mono (wpS_forRange (I:=λk c st'=>c= (none,())/\Run lo st st'/\ok<=k/\k<=n/\Asc (yh st') lo k) (Q:=λc st'=>c= (none,())/\Run lo st st'/\Asc (yh st') lo n) ?_ ?_ ⟨rfl,.refl hk hf,by lia,by lia,by rw[Nat.max_eq_left h1];exact h0⟩) ?_)
 · rintro k c st1 _ hx ⟨rfl,hR,g1,g2,g3⟩
   dsimp only
   have hz:=hR.size
   have ha1:=ha.perm hR.perm
   have nd1:=nd.perm hR.perm
   refine wpS_bind (wpS_mono (wpS_forRange (I:=λx c st'=>st'=st1/\∃l r,c= (none,l,r)/\l<=r/\r<=k/\r-l+x<=k/\(∀i,i<l->K (yh st1) (lo+i)<=K (yh st1) (lo+k))/\∀i,r<=i->i<k->K (yh st1) (lo+k)<K (yh st1) (lo+i)) (Q:=λc st'=>st'=st1/\∃l,c= (none,l,l)/\l<=k/\(∀i,i<l->K (yh st1) (lo+i)<=K (yh st1) (lo+k))/\∀i,l<=i->i<k->K (yh st1) (lo+k)<K (yh st1) (lo+i)) ?_ ?_ ⟨rfl,0,k,rfl,by lia,by lia,by lia,λi hi=>by lia,λi a b=>by lia⟩) ?_)
   · rintro x c st2 _ hx2 ⟨rfl,l,r,rfl,q1,q2,q3,q4,q5⟩
     dsimp only
     by_cases hl:l>=r
     · rw[if_pos hl]
       have:l=r:=by lia
       subst this
       exact Js ⟨rfl,l,rfl,q2,q4,q5⟩
     · rw[if_neg hl]
       refine wpS_bind (lt_at hR.kind ha1 (by lia) (by lia) ?_)
       dsimp only
       have hm1:l<=(l+r) / 2:=by lia
       have hm2:(l+r) / 2<r:=by lia
       generalize (l+r) / 2=m at hm1 hm2
       by_cases hlt:K (yh st2) (lo+k)<K (yh st2) (lo+m)
       · rw[if_pos (decide_eq_true hlt)]
         refine Js ⟨rfl,l,m,rfl,by lia,by lia,by lia,q4,λi a b=>?_⟩
         by_cases e:i=m
         ·subst e;exact hlt
         ·exact Int.lt_trans hlt (g3.lt (show m<i by lia) b)
       · rw[if_neg (by simpa using hlt)]
         refine Js ⟨rfl,m+1,r,rfl,by lia,by lia,by lia,λi a=>?_,q5⟩
         by_cases e:i=m
         ·subst e;lia
         · have:=g3.lt (show i<m by lia) (by lia)
           lia
   · rintro c st2 ⟨rfl,l,r,rfl,q1,q2,q3,q4,q5⟩
     have:l=r:=by rw[Nat.zero_max]at q3;lia
     subst this
     exact⟨rfl,l,rfl,q2,q4,q5⟩
   · rintro c st2 ⟨rfl,l,rfl,q2,q4,q5⟩
     dsimp only
     refine wpS_bind ?_
     show wpS _ _ _ _ (moveDown' (lo+k) (lo+l)) _ _
     rw[moveDown'_eq]
     refine wpS_modify (Js ⟨rfl,hR.trans ⟨hR.kind,rfl,hR.fail,bubble_perm _ _ _,λi hi=>?_⟩,by lia,by lia,Fx nd1 (by lia) g3 q2 q4 q5⟩)
     show (bubble (yh st2) (lo+k) (lo+k-(lo+l)))[i]? =_
     rw[getElem?_bubble (by lia) _ (by lia),if_neg (by lia),if_neg (by lia)]
 · rintro c st1 ⟨rfl,hR,g1,g2,g3⟩
   rw[Nat.max_eq_right (by lia)]at g3
   exact⟨rfl,hR,g3⟩
 · rintro c st1 ⟨rfl,hR,g3⟩
   exact Js (h st1 hR g3)
end
def lay:Nat->List (List xV)->List Nat->List (Nat×Nat×Nat)
 |o,r::rs,p::ps=>(o,r.length,p)::lay (o+r.length) rs ps
 |_,_,_=> []
theorem VO:∀ {rs1} {ps1} {rs2} {ps2} {o},rs1.length=ps1.length->lay o (rs1++rs2) (ps1++ps2)=lay o rs1 ps1++lay (o+rs1.flatten.length) rs2 ps2
 |[], [],_,_,o,_=>by simp[lay]
 |[],_::_,_,_,_,h=>by cases h
 |_::_, [],_,_,_,h=>by cases h
 |r::rs1,p::ps1,rs2,ps2,o,h=>by
   show (o,r.length,p)::lay (o+r.length) (rs1++rs2) (ps1++ps2)= (o,r.length,p)::(lay (o+r.length) rs1 ps1++_)
   rw[VO (Xv h),jZ,zA,Nat.add_assoc]
structure GI(a0:List xV)(st:Yh)(rs:List (List xV))(ps:List Nat)(T:List xV):Prop where
 kind:yU st=ZU
 fail:Zv st=none
 arr:(yh st).toList=rs.flatten++T
 perm:(yh st).toList.Perm a0
 len:rs.length=ps.length
 pend:Zr st= (lay 0 rs ps).toArray
 ok:∀r∈rs,0<r.length/\Srt r
section
variable{prog:zZ}{w:jg}{A:jr}{E:VSP}{s:zv}
end
theorem GI.push{st:Yh}{lo n:Nat}(g:GI a0 st rs ps (C++T))(hC:0<C.length)(sC:Srt C)(e:rs.flatten.length=lo)(en:C.length=n):GI a0 (setPending st ((Zr st).push (lo,n,0))) (rs++[C]) (ps++[0]) T:=by
 refine⟨g.kind,g.fail,?_,g.perm,by rw[zA,zA,g.len];rfl,?_,λr hr=>?_⟩
 · show (yh st).toList=_
   rw[g.arr];simp
 · show (Zr st).push (lo,n,0)=_
   rw[g.pend,VO g.len,List.push_toArray,Nat.zero_add,e]
   subst en
   rfl
 · rcases zW.mp hr with hr|hr
   ·exact g.ok r hr
   ·rw[zC.mp hr];exact⟨hC,sC⟩
section
variable{prog:zZ}{w:jg}{A:jr}{E:VSP}{s:zv}
end
section
variable{prog:zZ}{w:jg}{A:jr}{E:VSP}{s:zv}
end
end TS
namespace DL
open PySem PySem.Spec L2
open PyProof.Rows hiding St
section
variable{prog:zZ}{w:jg}{A:jr}{E:VSP}{s:zv}{T:String}{r d:Addr}{n:Nat}{P:Nat->zk->Prop}{OK:Heap->Prop}{Q:VSP}
end
section
variable{X:Cx}{Z:XC}{c:Wc}{μ:List Addr}{H:Hp}{G:DH}
end
def fR9(acc:Option Int)(old:Array zk):Prop:=match acc with
 |none=>old= #[]
 |some b=>∃t t',old= #[.int b t,.int b t']
def dD(r:Option Int)(v:zk):Prop:=match r with
 |none=>v= .none
 |some b=>∃t,v= .int b t
theorem Ng(a d:zk):XD "max" ⟨[a], [(jo "default",d)]⟩:=by unfold XD;kernel_rfl
def rE(a:Option Int)(n:Int):Option Int:=match a with
 |none=>some n
 |some b=>some (if n>b then n else b)
def wG(l:List Int):Option Int:=l.foldl rE none
theorem dI0(a d:zk):XD "min" ⟨[a], [(jo "default",d)]⟩:=by unfold XD;kernel_rfl
def uG(a:Option Int)(n:Int):Option Int:=match a with
 |none=>some n
 |some b=>some (if n<b then n else b)
def tE(l:List Int):Option Int:=l.foldl uG none
def mL:Bool->String
 |true=> "max.loop"
 |false=> "min.loop"
def mF:Bool->Option Int->Int->Option Int
 |true=>rE
 |false=>uG
section
variable{prog:zZ}{w:jg}{A:jr}{E:VSP}
theorem Sd{a b:Int}{t t':Tok}(h:Q (.bool (decide (a>b))) s):zw (zE prog w) A (XT .Gt (.int a t) (.int b t')) Q E s:=richCompare_gives (op:=.Gt) (xJ _ _ t) (xJ _ _ t') F.slot_int_gt F.entry_int_gt (F.args_int_gt_2 _ _) (gives_int_gt _ _ t t') (λx=>nomatch x) h
theorem Kb{a b:Int}{t t':Tok}(h:Q (.bool (decide (a<b))) s):zw (zE prog w) A (XT .Lt (.int a t) (.int b t')) Q E s:=richCompare_gives (op:=.Lt) (xJ _ _ t) (xJ _ _ t') F.slot_int_lt F.entry_int_lt (F.args_int_lt_2 _ _) (gives_int_lt _ _ t t') (λx=>nomatch x) h
set_option maxHeartbeats 1000000 in
theorem tQ(m:Bool)(hh:A.in1.handled=none)(hlI:l≠I)(hSI:S≠I)(hSl:S≠l)(hi:IntsAre vs ns):
 ∀k j s c acc old,vs.length-j=k->j<=vs.length->(s.heap.IsListIter I l j/\s.heap.IsList l vs.toArray)->s.heap.get? S=some (ju "list" old c)->fR9 acc old->
 (∀v h' tk,dD ((ns.drop j).foldl (mF m) acc) v->(∀b o,b≠I->b≠S->s.heap.get? b=some o->h'.get? b=some o)->R (.ok (.ret v)) {s with heap:=h',toks:=tk})->
 ZC (zE prog w) A (.builtin (mL m) ⟨[.ref I,.none,.ref S], [(jo "default",.none)]⟩) R s:=by
 have hlen:=hi.length
 have W:=JP (prog:=prog) (w:=w) hh I l hlI vs.toArray
 have n1:(ZQ "max" ++ ZQ ".loop" :String)= "max.loop":=by decide
 have n2:(ZQ "min" ++ ZQ ".loop" :String)= "min.loop":=by decide
 cases m
 all_goals
  dsimp only [mL,mF]
  intro k
  induction k with
  |zero=>
    intro j s c acc old hk hj hst hS ho hR
    have hd:ns.drop j= []:=Ji (by lia)
    rw[hd]at hR
    first|refine yr F.entry_max_loop ?_|refine yr F.entry_min_loop ?_
    first|rw[jP xy _]|rw[jP xx _]
    refine za (jR hS rfl ?_)
    refine za (Yy (W.done s _ _ (by rw[zj,show vs.length=j by lia];exact hst) λh' tk hk'=>?_))
    have hS':=hk' S _ (by simpa using hSI) hS
    rcases acc with _|b
    · cases ho
      refine za (Zs (zp (hR .none h' tk rfl λb o b1 _ e=>hk' b o (by simpa using b1) e)))
    · obtain⟨t,t',rfl⟩:=ho
      refine za (Yj hS' rfl (za (xw (zp ?_))))
      exact hR _ _ tk ⟨t,rfl⟩ λb o b1 b2 e=>(yS _ _ (Ne.symm b2)).trans (hk' b o (by simpa using b1) e)
  |succ k ih=>
    intro j s c acc old hk hj hst hS ho hR
    have hlt:j<ns.length:=by lia
    have hd:ns.drop j=ns[j]::ns.drop (j+1):=xu hlt
    rw[hd]at hR
    first|refine yr F.entry_max_loop ?_|refine yr F.entry_min_loop ?_
    first|rw[jP xy _]|rw[jP xx _]
    refine za (jR hS rfl ?_)
    refine za (Yy (W.item j s _ _ (by rw[zj];lia) hst λv h' tk hP hst' hk'=>?_))
    have hS':=hk' S _ (by simpa using hSI) hS
    obtain⟨t0,e0⟩:=hi.get j _ (zi hlt)
    have ev:v= .int ns[j] t0:=by
     have hP':vs[j]? =some v:=by simpa using hP
     rw[e0]at hP'
     exact(zY hP').symm
    subst ev
    have keep:∀ {f:Array zk->Array zk} (b:Addr) (o:Obj),b≠S->h'.get? b=some o->(h'.update S (jt f)).get? b=some o:=λb o hb e=>(yS _ _ (Ne.symm hb)).trans e
    have stay:∀ {f:Array zk->Array zk},(h'.update S (jt f)).IsListIter I l (j+1)/\(h'.update S (jt f)).IsList l vs.toArray:=⟨hst'.1.at λo e=>keep _ o hSI.symm e,hst'.2.at λo e=>keep _ o hSl.symm e⟩
    rcases acc with _|b
    · cases ho
      refine za (zp (za (Yj hS' rfl ?_)))
      first|rw[n1]|rw[n2]
      refine zp ⟨yB (by first|exact xy|exact xx) _,ih (j+1) _ _ (some ns[j]) _ (by lia) (by lia) stay (xa _ hS' rfl) ⟨t0,t0,rfl⟩ λv h2 tk2 o2 k2=>?_⟩
      exact hR v h2 tk2 o2 λb o b1 b2 e=>k2 b o b1 b2 (keep b o b2 (hk' b o (by simpa using b1) e))
    · obtain⟨t,t',rfl⟩:=ho
      refine za (zp (za (Yy (jI (za ?_)))))
      first|with_reducible refine Sd ?_|with_reducible refine Kb ?_
      refine za (jI (yd (za (xw (zp ?_)))))
      split<;>rename_i hb
      · rw[xX]at hR
        first|rw[show rE (some b) ns[j]=some ns[j]from congrArg some (if_pos (of_decide_eq_true hb))]at hR|rw[show uG (some b) ns[j]=some ns[j]from congrArg some (if_pos (of_decide_eq_true hb))]at hR
        refine za (Yj hS' rfl (za (xw ?_)))
        first|rw[n1]|rw[n2]
        refine zp ⟨yB (by first|exact xy|exact xx) _,ih (j+1) _ _ (some ns[j]) _ (by lia) (by lia) stay (xa _ hS' rfl) ⟨t0,t0,rfl⟩ λv h2 tk2 o2 k2=>?_⟩
        exact hR v h2 tk2 o2 λb o b1 b2 e=>k2 b o b1 b2 (keep b o b2 (hk' b o (by simpa using b1) e))
      · rw[xX]at hR
        first|rw[show rE (some b) ns[j]=some b from congrArg some (if_neg (of_decide_eq_false (yG.mpr hb)))]at hR|rw[show uG (some b) ns[j]=some b from congrArg some (if_neg (of_decide_eq_false (yG.mpr hb)))]at hR
        refine za (xw ?_)
        first|rw[n1]|rw[n2]
        refine zp ⟨yB (by first|exact xy|exact xx) _,ih (j+1) _ _ (some b) _ (by lia) (by lia) hst' hS' ⟨t,t',rfl⟩ λv h2 tk2 o2 k2=>?_⟩
        exact hR v h2 tk2 o2 λb o b1 b2 e=>k2 b o b1 b2 (hk' b o (by simpa using b1) e)
theorem hV(hh:A.in1.handled=none)(hl:s.heap.IsList l vs.toArray)(hi:IntsAre vs ns)
 (hQ:∀v h' tk,dD (wG ns) v->(∀b o,s.heap.get? b=some o->h'.get? b=some o)->Q v {s with heap:=h',toks:=tk}):zw (zE prog w) A (call (.builtin "max") [.ref l] [(jo "default",.none)]) Q E s:=by
 have hlt:l<s.heap.objs.size:=by obtain⟨_,e,_⟩:=hl;exact zr e
 have hname:(ZQ "max" ++ ZQ ".loop" :String)= "max.loop":=by decide
 refine kmb_tree F.kind_max F.plain_max F.entry_max (Ng _ _) ?_
 refine za (wpAny_of_eq (show ZS "max" ["key", "default"] 0 ⟨[], [(jo "default",.none)]⟩=pure [none,some .none]from rfl) (za (zp (za (xo hl (za (Ze ?_ (zQ _))))))))
 rw[hname]
 have hS:∀o,(s.heap.push o).objs.size=s.heap.objs.size+1:=λo=>Yg ..
 refine zp ⟨yB xy _,tQ true hh (zD hlt) (by rw[hS];exact yb (xr _)) (by rw[hS];exact yb (jO hlt)) hi _ 0 _ 0 none #[] rfl (zQ _) ⟨⟨_,zd _ (zq _ rfl),rfl,rfl⟩,(hl.push _).push _⟩ (zq _ rfl) rfl λv h' tk o k=>?_⟩
 exact hQ v h' tk o λb o e=>k b o (zD (zr e)) (by rw[hS];exact zD (jO (zr e))) (zd _ (zd _ e))
theorem dI2(hh:A.in1.handled=none)(hl:s.heap.IsList l vs.toArray)(hi:IntsAre vs ns)
 (hQ:∀v h' tk,dD (tE ns) v->(∀b o,s.heap.get? b=some o->h'.get? b=some o)->Q v {s with heap:=h',toks:=tk}):zw (zE prog w) A (call (.builtin "min") [.ref l] [(jo "default",.none)]) Q E s:=by
 have hlt:l<s.heap.objs.size:=by obtain⟨_,e,_⟩:=hl;exact zr e
 have hname:(ZQ "min" ++ ZQ ".loop" :String)= "min.loop":=by decide
 refine kmb_tree F.kind_min F.plain_min F.entry_min (dI0 _ _) ?_
 refine za (wpAny_of_eq (show ZS "min" ["key", "default"] 0 ⟨[], [(jo "default",.none)]⟩=pure [none,some .none]from rfl) (za (zp (za (xo hl (za (Ze ?_ (zQ _))))))))
 rw[hname]
 have hS:∀o,(s.heap.push o).objs.size=s.heap.objs.size+1:=λo=>Yg ..
 refine zp ⟨yB xx _,tQ false hh (zD hlt) (by rw[hS];exact yb (xr _)) (by rw[hS];exact yb (jO hlt)) hi _ 0 _ 0 none #[] rfl (zQ _) ⟨⟨_,zd _ (zq _ rfl),rfl,rfl⟩,(hl.push _).push _⟩ (zq _ rfl) rfl λv h' tk o k=>?_⟩
 exact hQ v h' tk o λb o e=>k b o (zD (zr e)) (by rw[hS];exact zD (jO (zr e))) (zd _ (zd _ e))
end
def H0(r:Option Int):D:=match r with
 |none=>.non
 |some b=>.int b
def lD(d:D):M (List Int):=match d with
 | .ref r=>(O5 r >>= listOf) >>= λl=>M0 (F5 l)
 |_=>M.stuck
def mmE(f:List Int->Option Int)(fe:Fe):Fe:=λσ=>fe σ >>= λd=>lD d >>= λns=>pure (H0 (f ns))
section
theorem Gg(h:dD r v):∃x:V,J9 x v/\∀c μ H,j5 c μ H (H0 r) x:=by
 rcases r with _|b
 ·cases h;exact⟨.non,rfl,λ_ _ _=>by unfold H0 j5;rfl⟩
 ·obtain⟨t,rfl⟩:=h;exact⟨.int b,⟨t,rfl⟩,λ_ _ _=>by unfold H0 j5;rfl⟩
theorem NQ:∀ {vs} {ns},vs.length=ns.length->(∀i u,vs[i]? =some u->∃t,u=Value.int (ns.getD i 0) t)->IntsAre vs ns
 |[], [],_,_=>.nil
 |v::vs,n::ns,e,h=>by
   obtain⟨t,rfl⟩:=h 0 v rfl
   exact .cons _ t (NQ (Xv e) λi u hu=>by simpa using h (i+1) u (by simpa using hu))
theorem Fj{f:List Int->M α}{K:α->List Addr->DH->Hp->Prop}(h:v8 c μ G H)(rv:j5 c μ H d v)(p:d9 c Z μ H ((lD d >>= f) G) K):
 ∃l ns a vs,v= .ref a/\t6 c μ H l vs/\SqL c.K H a vs/\F5 l=some ns/\d9 c Z μ H (f ns G) K:=by
 obtain⟨r,rfl⟩:∃r,d= .ref r:=match d,p with
  | .ref r,_=>⟨r,rfl⟩
 obtain⟨ns,⟨l,a,vs,e1,e2,e3,e4⟩,q⟩:∃ns,(∃l a vs,v= .ref a/\t6 c μ H l vs/\SqL c.K H a vs/\F5 l=some ns)/\d9 c Z μ H (f ns G) K:=by
  have p':d9 c Z μ H (((O5 r >>= listOf) >>= λl=>M0 (F5 l) >>= f) G) K:=by
   rw[<-M.bind_assoc];exact p
  obtain⟨l,a,vs,e1,e2,e3,p2⟩:=OA h rv p'
  obtain⟨ns,e4,p3⟩:=U4 p2
  exact⟨ns,⟨l,a,vs,e1,e2,e3,e4⟩,p3⟩
 exact⟨l,ns,a,vs,e1,e2,e3,e4,q⟩
theorem iX{K:List D->List Addr->DH->Hp->Prop}(p:d9 c Z μ H (fe X9 G) λd X2 G' H'=>K [d] X2 G' H'):d9 c Z μ H (d0 fe g0 X9 G) K:=by
 show d9 c Z μ H ((fe X9 >>= λy=>(pure [y]:M (List D))) G) K
 match hm:fe X9 G,p with
 |some (.ok y,G1),p=>rw[M.bind_ok hm];exact p
 |some (.error y,G1),p=>rw[M.bind_eq,hm];exact p
end
section
theorem kL{nm:Str}{bn:String}{O:List Int->Option Int}(hb:nm∈bltL)(ht:zX nm=some (.builtin bn))(hd:nm≠ "__name__")(hd2:(nm==("__debug__" :Str))=false)
 (hm:∀ {A:jr} {s:zv} {l vs ns Q E},A.in1.handled=none->s.heap.IsList l vs.toArray->IntsAre vs ns->(∀v h' tk,dD (O ns) v->(∀b o,s.heap.get? b=some o->h'.get? b=some o)->Q v {s with heap:=h',toks:=tk})->zw (zE X.prog X.w) A (call (.builtin bn) [.ref l] [(jo "default",.none)]) Q E s)
 (hc:X.calm=true) (hbl:BLs X.mg) (hg:Gl X nm) (he:DE X Z e fe) (hs:R6 e=true):DE X Z (.Call (.Name nm p) [e] [⟨some "default",.Constant .none j pn,kp⟩] pos) (mmE O fe):=⟨by
 intro pins s σ H Q I h
 refine jT (A5 I hg (hbl.h _ hb) ht ?_ hd hd2)
 refine h.elim λX9 μ G sr hr pp=>?_
 have hst:zP [e] X.env= (false,eval e X.env)::zP [] X.env:=Z5 hs
 refine callWith_builtin_kwB (by rw[ED];exact QB (by rw[jX,hs];rfl)) rfl (evalArgs_kw2 rfl ?_ hst)
 have ha:DA X Z [e] (d0 fe g0):=gJ he AH hst
 have pa:=d9.bind pp
 refine thn (ha.h pos pins s σ H (λvs H1=>∃v,vs= [v]/\TC (wc X) Z (λd=>lD d >>= λns=>pure (H0 (O ns))) v H1 Q) I ⟨X9,μ,G,sr,hr,iX (pa.mono λd X0 G1 H1 x1 h1 p1 vs rv=>?_)⟩) λus s1 hu=>hu.elim λvs H1 I1 r1 q1=>?_
 · obtain⟨v,rfl,r⟩:=T1 rv
   exact⟨v,rfl,d,X0,G1,r,h1,p1⟩
 · obtain⟨v,rfl,d,X0,G1,r,h1,p1⟩:=q1
   obtain⟨u,rfl,ru⟩:=Q2 r1
   obtain⟨l,ns,a,ws,rfl,rl,sq,en,p2⟩:=Fj h1 r p1
   cases ru
   show zw _ _ (evalAll [(do let v <-eval (.Constant .none j pn) X.env;Jd pos;pure v)]) _ _ s1
   refine wpAny_evalAll_cons (za (thn (KO pins s1 σ H1 (λv H'=>v= .non/\H'=H1) I1 ⟨rfl,rfl⟩) λu2 s2 hz=>hz.elim λv2 H2 I2 r2 e2=>?_))
   obtain⟨rfl,rfl⟩:=e2
   cases r2
   refine za (ZH (zp (wpAny_evalAll_nil ?_)))
   obtain⟨its,rr,pl,hz⟩:=I2.list sq
   obtain⟨n1,n2⟩:=CP en rl rr
   refine hm (I2.ok.hd hc) pl.isList (NQ n1 n2) λv h' tk ho hk=>?_
   obtain⟨x,rx,rp⟩:=Gg ho
   exact⟨x,H2,I2.kept hk,rx,d9.ok p2 h1 _ (rp _ _ _)⟩⟩
theorem EU(hc:X.calm=true)(hbl:BLs X.mg)(hg:Gl X "max")(he:DE X Z e fe)(hs:R6 e=true):DE X Z (.Call (.Name "max" p) [e] [⟨some "default",.Constant .none j pn,kp⟩] pos) (mmE wG fe):=kL (by decide +kernel) KL (by decide) (by decide) hV hc hbl hg he hs
theorem eL3(hc:X.calm=true)(hbl:BLs X.mg)(hg:Gl X "min")(he:DE X Z e fe)(hs:R6 e=true):DE X Z (.Call (.Name "min" p) [e] [⟨some "default",.Constant .none j pn,kp⟩] pos) (mmE tE fe):=kL (by decide +kernel) eV (by decide) (by decide) dI2 hc hbl hg he hs
end
structure NA(X:Cx)(e:Expr)(k:Int):Prop where
 h:PE X e (tC (.int k))
section
variable{X:Cx}{Z:XC}{pos:Pos}{e f:Expr}{i j k:Int}
theorem Vc{m pos}:NA X (.Constant (.int i) m pos) i:=⟨GM⟩
theorem Kc(he:NA X e i)(hf:NA X f j)(hc:A9 i j)(hk:i ^ j.toNat=k):NA X (.BinOp e .Pow f pos) k:=⟨by
 subst hk
 exact PE.mono (rH oP he.h hf.h) λσ H Q q=>⟨i,j,rfl,rfl,hc,q⟩⟩
theorem fE5(he:NA X e i)(hf:NA X f j)(hk:i-j=k):NA X (.BinOp e .Sub f pos) k:=⟨by
 subst hk
 exact PE.mono (rH lP he.h hf.h) λσ H Q q=>⟨i,j,rfl,rfl,q⟩⟩
end
end DL
namespace DL
open PySem PySem.W
open PyProof.Rows hiding St
structure WO(lt:Nat->Nat->Bool):Prop where
 tr:∀i j k,lt j i=false->lt k j=false->lt k i=false
 as:∀i j,lt i j=true->lt j i=false
section
def pJ{α:Type}(lt:Nat->Nat->Bool):KasT α->α
 | .ret a=>a
 | .ask i j k=>pJ lt (k (lt i j))
theorem tOk.run:∀t,tOk lt n t Q->tOk lt n t (λa=>a=pJ lt t/\Q a)
 | .ret a,h=>⟨rfl,h⟩
 | .ask i j k,h=>⟨h.1,h.2.1,tOk.run (k (lt i j)) h.2.2⟩
theorem tOk.is:∀t,tOk lt n t Q->Q (pJ lt t)
 | .ret a,h=>h
 | .ask i j k,h=>tOk.is (k (lt i j)) h.2.2
end
end DL
namespace DL
open PySem PySem.Spec L2
open PyProof.Rows hiding St
section
variable{X:Cx}{pins:PNS}{σ:St}{H:Hp}{s:zv}
end
section
variable{prog:zZ}{w:jg}{A:jr}{E:VSP}{s:zv}{C:Bool->zv->Prop}
end
section
variable{X:Cx}{Z:XC}{pins:PNS}{σ:St}{H:Hp}{s:zv}{F:List D->M D}{k:Nat}{f:Addr}{fd:xl}{ps:List Str}{μ:List Addr}{G:DH}
end
section
variable{X:Cx}{Z:XC}{e:Expr}{fe:Fe}{p pf kp pos:Pos}{x:Str}{F:List D->M D}
end
section
variable{prog:zZ}{w:jg}{A:jr}{E:VSP}{s:zv}
end
section
variable{X:Cx}{Z:XC}{es:List Expr}{pos:Pos}
end
section
variable{X:Cx}{Z:XC}
end
def cB:Fs:=λ_=>M.stuck
section
variable{X:Cx}{Z:XC}
theorem vm{st:Stmt}:DS X Z st cB:=⟨by
 intro pins s σ H E I hE0
 obtain⟨X9,μ,G,sr,hr,p⟩:=hE0
 exact p.elim⟩
end
abbrev L0(b:Bool):Obj:={cls:=.type "set",dict:=none,data:=.set #[] 0 (.fresh 0 0 b)}
theorem sb1:isSubtype (.type "dict") (.type "set")=pure false:=by rw[xQ];kernel_rfl
theorem sb2:isSubtype (.type "dict") (.type "frozenset")=pure false:=by rw[xQ];kernel_rfl
section
variable{prog:zZ}{w:jg}{A:jr}{E:VSP}{s:zv}
set_option maxHeartbeats 3200000 in
theorem MP(ho:s.heap.get? d=some {cls:=.type "dict",dict:=di,data:=.dict #[] ep,slots:=sl})(hs:(d==yC)=false)
 (h:∀b,Q (.ref s.heap.objs.size) {s with heap:=s.heap.push (L0 b)}):zw (zE prog w) A (call (.type "set") [.ref d]) Q E s:=by
 obtain⟨c0,t0,hm0⟩:=yY.mro
 have e1:=yY.made
 have e2:=yY.sub
 refine wpAny_call (codeAny_of_tree (show zw _ _ (callAny (.type "set") _) _ _ _ from ?_))
 refine zp ⟨Code.quiet_builtin _ (by decide +kernel),yr F.entry_type_call ?_⟩
 rw[Around.under_plain (weight_type_call_type "set" [.ref d] []) rfl]
 have e3:=yY.notType
 have e4:=yY.canCreate
 have e5:=F.typeCall_set_1 (.ref d)
 repeat (any_goals (first|assumption|wp_step))
 refine Yb (code_set_new_1 (.ref d) (E:=E) (Q₁:=λob s1=>∃b:Bool,ob= .ref s.heap.objs.size/\s1= {s with heap:=s.heap.push (L0 b)}) λb=>⟨b,rfl,rfl⟩) λr s1 hr=>?_
 rcases r with e|fl
 ·exact hr
 rcases fl with _|ob|_|_<;>try exact hr.elim
 obtain⟨b,rfl,rfl⟩:=hr
 have hS:(s.heap.push (L0 b)).get? s.heap.objs.size=some (L0 b):=zq _ rfl
 have hT:Shared.TypeIs {s with heap:=s.heap.push (L0 b)} (.ref s.heap.objs.size) "set":=⟨_,hS,rfl⟩
 have e6:=yY.init.lookup
 have e7:=yY.init.bind (.ref s.heap.objs.size)
 repeat (any_goals (first|assumption|wp_step))
 refine Yb (codeAny_call_builtin (R:=wants (λr s2=>r= .none/\s2= {s with heap:=s.heap.push (L0 b)}) E) yY.init.plain F.entry_set_init (check_set_init_1 hT ?_)) λr2 s2 hr2=>?_
 · have ho2:(s.heap.push (L0 b)).get? d=some {cls:=.type "dict",dict:=di,data:=.dict #[] ep,slots:=sl}:=zd _ ho
   have e8:=sb1
   have e9:=sb2
   unfold yj.«set.__init__» noKeywords Builtin.Frozenset.updateFrom
   simp only[Std.Legacy.Range.forIn_eq_forIn_range']
   wp_walk
   exact⟨rfl,rfl⟩
 · rcases r2 with e|fl
   ·exact hr2
   rcases fl with _|ob|_|_<;>try exact hr2.elim
   obtain⟨rfl,rfl⟩:=hr2
   repeat (any_goals (first|assumption|wp_step))
   exact h _
end
theorem Dm:Jo table "set.__or__" =some yj.«frozenset.__or__»:=Jn (id':= "frozenset.__or__") (by kernel_rfl) rfl (by decide +kernel) (by kernel_rfl)
section
variable{prog:zZ}{w:jg}{A:jr}{E:VSP}{s:zv}
set_option maxHeartbeats 3200000 in
theorem eC1(ha:s.heap.get? a=some (L0 b1))(hc:s.heap.get? c=some (L0 b2))(hne:a≠c)
 (h:∀b,Q (.ref s.heap.objs.size) {s with heap:=s.heap.push (L0 b)}):zw (zE prog w) A (jH .BitOr (.ref a) (.ref c)) Q E s:=by
 have hA:s.TypeIs (.ref a) "set":=⟨_,ha,rfl⟩
 have hC:s.TypeIs (.ref c) "set":=⟨_,hc,rfl⟩
 refine wpAny_binaryOp_same hA hC F.fills_set_or F.slot_set_or (jE F.slot_set_or hA Dm ?_ (F.args_set_or_2 _ _))
 unfold yj.«frozenset.__or__»
 have k1:=yY.sub
 have hne2:(a==c)=false:=by simp[hne]
 refine za (m:=Ym "__or__" ⟨[.ref a,.ref c], []⟩) ?_
 unfold Ym
 wp_walk
 refine Za (zp ?_)
 dsimp only
 generalize hb:(!_:Bool)=b3
 simp only[if_true,newObj]
 refine za (wpAny_alloc (zp ?_))
 have lt1:a<s.heap.objs.size:=zr ha
 have lt2:c<s.heap.objs.size:=zr hc
 have g1:(s.heap.push (L0 b3)).get? a=some (L0 b1):=zd _ ha
 have g2:(s.heap.push (L0 b3)).get? c=some (L0 b2):=zd _ hc
 have g3:(s.heap.push (L0 b3)).get? s.heap.objs.size=some (L0 b3):=zq _ rfl
 have n1:(s.heap.objs.size==a)=false:=by simp;lia
 have n2:(s.heap.objs.size==c)=false:=by simp;lia
 have n3:(Value.ref c != Value.ref a)=true:=by simp[bne];exact λz=>hne z.symm
 unfold setMerge
 simp only[n1]
 wp_walk
 exact⟨_,rfl,(λz=>nomatch z),h _⟩
end
theorem NG:Slot "set_iterator" "__next__" "set_iterator.__next__":=.of (owner:= "set_iterator") (n:= "__next__") (by rw[Zm,xn];kernel_rfl) (by decide +kernel) (by decide +kernel) (by decide +kernel) (by first|exact .inl (by decide +kernel)|exact .inr (by decide +kernel)) (by rw[xQ];kernel_rfl)
theorem ML:Slot "set_iterator" "__iter__" "set_iterator.__iter__":=.of (owner:= "set_iterator") (n:= "__iter__") (by rw[Zm,xn];kernel_rfl) (by decide +kernel) (by decide +kernel) (by decide +kernel) (by first|exact .inl (by decide +kernel)|exact .inr (by decide +kernel)) (by rw[xQ];kernel_rfl)
theorem OT:Jo table "set_iterator.__next__" =some yj.«set_iterator.__next__»:=entryFor_of_tree (by kernel_rfl)
theorem Hf:Jo table "set.__iter__" =some yj.«frozenset.__iter__»:=Jn (id':= "frozenset.__iter__") (by kernel_rfl) rfl (by decide +kernel) (by kernel_rfl)
theorem Cd(a:zk):XD "set_iterator.__next__" ⟨[a], []⟩:=by unfold XD;kernel_rfl
theorem Dq(a:zk):XD "set_iterator.__iter__" ⟨[a], []⟩:=by unfold XD;kernel_rfl
theorem Hz:Jo table "set_iterator.__iter__" =some yj.«dict_keyiterator.__iter__»:=Jn (id':= "dict_keyiterator.__iter__") (by kernel_rfl) rfl (by decide +kernel) (by kernel_rfl)
abbrev vD(a:Addr):Obj:={cls:=.type "set_iterator",data:=.fields #[.int 0 0,.int 0 0,.ref a,.int 0 0,.int 0 0]}
section
variable{prog:zZ}{w:jg}{A:jr}{E:VSP}{s:zv}
set_option maxHeartbeats 3200000 in
theorem Cw(ha:s.heap.get? a=some (L0 b))(h:Q (.ref s.heap.objs.size) {s with heap:=s.heap.push (vD a)}):zw (zE prog w) A (Jk (.ref a)) Q E s:=by
 have hA:s.TypeIs (.ref a) "set":=⟨_,ha,rfl⟩
 refine wpAny_pyIter_slot hA F.slot_set_iter (jE F.slot_set_iter hA Hf ?_ (F.args_set_iter_1 _))
 unfold yj.«frozenset.__iter__» Builtin.Frozenset.slot0 setDrawn
 wp_walk
 refine Za (zp (zp ?_))
 refine xC (λz=>?_) (λ_=>?_)
 · have z2:=(JI.mp z).2
   rcases b with _|_<;>exact YY (show false=true from z2)
 · wp_walk
   exact⟨_,rfl, "set_iterator",_,⟨_,zq _ rfl,rfl⟩,NG.lookup,h⟩
set_option maxHeartbeats 3200000 in
theorem tZ(hh:A.handled=none)(hi:s.heap.get? it=some (vD a))(ha:s.heap.get? a=some (L0 b))(h:∀h',JE it s.heap h'->Q none {s with heap:=h'}):zw (zE prog w) A (Zt (.ref it)) Q E s:=by
 have hT:s.TypeIs (.ref it) "set_iterator":=⟨_,hi,rfl⟩
 unfold Zt
 refine za (YO (jV (name:=jo "__next__") hT NG (jE NG hT OT ?_ (Cd _))))
 unfold yj.«set_iterator.__next__»
 wp_walk
 refine Za (zp ?_)
 refine xC (λbt=>?_) (λbt=>?_)
 · rw[if_neg (by decide)]
   unfold setWalk
   wp_walk
   refine Za (zp ?_)
   rw[if_pos bt]
   refine za (Za (zp ?_))
   refine zp ?_
   wp_walk
   simp only[raiseNew]
   refine za (JK ?_)
   rw[show A.in1.handled=none from hh]
   refine za (zp (wpAny_throw ?_))
   refine za (xZ (T:= "StopIteration") (b:=true) ⟨_,zq _ rfl,rfl⟩ Jm (zp ?_))
   exact h _ (((xM ..).extBut.push _).push _)
 · refine xC (λz=>?_) (λ_=>?_)
   ·rcases b with _|_<;>exact YY (show false=true from z)
   · wp_walk
     simp only[raiseNew]
     refine za (JK ?_)
     rw[show A.in1.handled=none from hh]
     refine za (zp (wpAny_throw ?_))
     refine za (xZ (T:= "StopIteration") (b:=true) ⟨_,zq _ rfl,rfl⟩ Jm (zp ?_))
     exact h _ (((xM ..).extBut.push _).push _)
theorem eC9(hi:s.heap.get? it=some (vD a))(h:Q (.ref it) s):zw (zE prog w) A (Jk (.ref it)) Q E s:=by
 have hT:s.TypeIs (.ref it) "set_iterator":=⟨_,hi,rfl⟩
 refine wpAny_pyIter_slot hT ML (jE ML hT Hz (show zw _ _ (ret (.ref it)) _ _ s from ?_) (Dq _))
 exact zp ⟨_,rfl, "set_iterator",_,hT,NG.lookup,h⟩
theorem gY(hh:A.handled=none)(I a:Addr)(b:Bool):Walks prog w A I [I,a] [I] 0 (λ_ _=>False) (λ_ h=>h.get? I=some (vD a)/\h.get? a=some (L0 b)) where
 sub:=λb hb=>by simp at hb;simp[hb]
 frame:=λ_ _ _ st hk=>⟨hk I (by simp) _ st.1,hk a (by simp) _ st.2⟩
 item:=λi s Q E hi st hQ=>absurd hi (Nat.not_lt_zero _)
 done:=λs Q E st hQ=>tZ hh st.1 st.2 λh' he=>hQ h' s.toks λb o hb e=>he b o (λz=>hb (by simp[z])) e
 self:=λ_ _ _ _ st hQ=>eC9 st.1 hQ
theorem Bm(hT:s.TypeIs (.ref r) "set")(h:Q false s):zw (zE prog w) A (yO (.ref r)) Q E s:=by
 unfold yO
 refine za (XX hT PySem.F.slot_set_len.lookup ?_)
 generalize hq:("set.__len__" :String)=id1
 wp_delta
 rw[show splitId id1=some ("set", "__len__")from by subst hq;decide +kernel]
 subst hq
 refine za (xZ (T:= "set") (b:=true) hT (by rw[xQ];kernel_rfl) ?_)
 refine xC (λz=>absurd z (by decide)) (λ_=>?_)
 refine xC (λ_=>?_) (λz=>absurd (by decide +kernel) z)
 exact za (xP hT (zp h))
theorem Mx:PySem.W.KdlSrc prog w "set" a a 0 (λ_ _=>False) (λh=>h.get? a=some (L0 b)) where
 type:=λ_ hm=>⟨_,hm,rfl⟩
 there:=λ_ hm=>⟨zr hm,zr hm⟩
 keep:=λ_ _ hm hk=>hk a (.inl rfl) _ hm
 notList:=by decide
 notTuple:=by decide
 hint:=λ_ _ _ _ hm hq=>Bm ⟨_,hm,rfl⟩ hq
 iter:=λ_ s hh hm=>⟨vD a,_,(λ_ _ hq=>Cw hm hq),gY hh _ a b,zq _ rfl,zd _ hm⟩
theorem cO2{b:Bool}(hh:A.handled=none)(ha:s.heap.get? a=some (L0 b))
 (h:∀(h1 h':Heap) (tk e:Nat),(∀b o,s.heap.get? b=some o->h1.get? b=some o)->(∀b o,h1.get? b=some o->h'.get? b=some o)->h'.get? h1.objs.size=some (ju "list" #[] e)->Q (.ref h1.objs.size) {s with heap:=h',toks:=tk}):
 zw (zE prog w) A (call (.builtin "sorted") [.ref a]) Q E s:=by
 refine UR (Mx (a:=a) (b:=b)) hh ha (by decide) (ss:= []) (λvs hl _=>?_) λh1 h' tk e out ss' k1 k2 he ho hp _=>?_
 ·rw[Xb hl];exact .nil
 · cases hp.eq_nil
   cases ho
   exact h h1 h' tk e k1 k2 he
end
def D7(d:D):M Unit:=match d with
 | .ref i=>O5 i >>= λo=>match o with
   | .dct []=>pure ()
   |_=>M.stuck
 |_=>M.stuck
def cI(fa fb:Fe):Fe:=λσ=>fa σ >>= λx=>D7 x >>= λ_=>fb σ >>= λy=>D7 y >>= λ_=>M6 (.lst [])
theorem qL:zX "set" =some (.type "set"):=by decide +kernel
section
variable{X:Cx}{Z:XC}{c:Wc}{μ:List Addr}{H:Hp}{G:DH}
theorem wM{α:Type}{d:D}{f:Unit->M α}{K:α->List Addr->DH->Hp->Prop}{v:V}(hr:v8 c μ G H)(rv:j5 c μ H d v)(p:d9 c Z μ H ((D7 d >>= f) G) K):∃a,v= .ref a/\H a=some (.dK [])/\d9 c Z μ H (f () G) K:=by
 obtain⟨i,rfl⟩:∃i,d= .ref i:=match d,p with
  | .ref i,_=>⟨i,rfl⟩
 have p':d9 c Z μ H ((O5 i >>= λo=>(match o with| .dct []=>pure ()|_=>M.stuck:M Unit) >>= f) G) K:=by rw[<-M.bind_assoc];exact p
 obtain⟨o,g,p1⟩:=N5 p'
 unfold j5 at rv
 obtain⟨a,m,rfl⟩:=rv
 have ro:=hr.obj i o a g m
 rcases o with l|l|l|l<;>try exact p1.elim
 rcases l with _|⟨_,_⟩<;>try exact p1.elim
 obtain⟨kvs,q,rk⟩:=ro
 cases rk
 exact⟨a,rfl,q,p1⟩
theorem FR(ok:HOk P w H h)(e:H a=some (.dK [])):∃di sl ep,h.get? a=some {cls:=.type "dict",dict:=di,data:=.dict #[] ep,slots:=sl}/\(a==yC)=false:=by
 obtain⟨z,hd,vs,rel,dd⟩:=UB ok e
 cases rel
 obtain⟨o,es,ep,h1,h2,h3,h4,h5⟩:=dd
 obtain⟨oc,od,odt,os⟩:=o
 have hz:es= #[]:=by
  have:=h5.1.length
  exact Array.eq_empty_of_size_eq_zero (by simpa using this)
 have hc:oc= .type "dict":=h2.1
 subst hz
 exact⟨od,os,ep,by rw[h1,hc,show odt=_ from h3],hd⟩
end
section
variable{X:Cx}{Z:XC}{ea eb:Expr}{fa fb:Fe}{p p1 p2 q1 q2 q3 pos:Pos}
theorem qj(hc:X.calm=true)(hbl:BLs X.mg)(hg1:Gl X "sorted")(hg2:Gl X "set")(ha:DE X Z ea fa)(hb:DE X Z eb fb)(sa:R6 ea=true)(sb:R6 eb=true):DE X Z (.Call (.Name "sorted" p) [.BinOp (.Call (.Name "set" p1) [ea] [] q1) .BitOr (.Call (.Name "set" p2) [eb] [] q2) q3] [] pos) (cI fa fb):=⟨by
 intro pins s σ H Q I h
 refine jT (A5 I hg1 (hbl.h _ (by decide +kernel)) NI ?_ (by decide) (by decide))
 refine h.elim λX9 μ G sr hr pp=>?_
 refine callWith_builtin1 (yR (wpAny_BinOp ?_)) rfl rfl
 refine jT (A5 I hg2 (hbl.h _ (by decide +kernel)) qL ?_ (by decide) (by decide))
 refine callWith_type1 ?_ (Z5 sa) rfl
 rw[Z5 sa]
 have pa:=d9.bind pp
 refine yR (thn (ha.h pins s σ H (λv H1=>∃x X0 G1,K7 (wc X) X0 H1 X9 σ/\v8 (wc X) X0 G1 H1/\j5 (wc X) X0 H1 x v/\d9 (wc X) Z X0 H1 ((D7 x >>= λ_=>fb X9 >>= λy=>D7 y >>= λ_=>M6 (.lst [])) G1) λd X2 _ H'=>∀v,j5 (wc X) X2 H' d v->Q v H') I ⟨X9,μ,G,sr,hr,pa.mono λd X0 G1 H1 x1 h1 p1 v rv=>⟨d,X0,G1,sr.mono x1,h1,rv,p1⟩⟩) λu s1 hE=>hE.elim λv H1 I1 r1 q=>?_)
 obtain⟨x,X0,G1,sr1,hr1,rv1,pp1⟩:=q
 obtain⟨a,rfl,ea1,pp2⟩:=wM hr1 rv1 pp1
 cases r1
 refine xb ?_
 obtain⟨di,sl,ep,g1,n1⟩:=FR I1.hok ea1
 refine MP g1 n1 λb1=>?_
 have I2:Inv X ((s1.heap.objs.size,L0 b1)::pins) σ H1 {s1 with heap:=s1.heap.push (L0 b1)}:=by
  have I2':Inv X pins σ H1 {s1 with heap:=s1.heap.push (L0 b1)}:=I1.kept (t':=s1.toks) λb o e=>zd _ e
  refine I2'.pins_of λpr hp=>?_
  rcases zt.mp hp with rfl|hp
  ·exact⟨zq _ rfl,I1.fresh,yb I1.lt,I1.nofs (zn _),λv z=>nomatch z⟩
  ·exact I2'.pin pr (zJ _ hp)
 refine jT (A5 I2 hg2 (hbl.h _ (by decide +kernel)) qL ?_ (by decide) (by decide))
 refine callWith_type1 ?_ (Z5 sb) rfl
 rw[Z5 sb]
 have pb:=d9.bind pp2
 refine yR (thn (hb.h _ _ σ H1 (λv H1=>∃x X0 G1,v8 (wc X) X0 G1 H1/\j5 (wc X) X0 H1 x v/\d9 (wc X) Z X0 H1 ((D7 x >>= λ_=>M6 (.lst [])) G1) λd X2 _ H'=>∀v,j5 (wc X) X2 H' d v->Q v H') I2 ⟨X9,X0,G1,sr1,hr1,pb.mono λd X0 G1 H1 x1 h1 p1 v rv=>⟨d,X0,G1,h1,rv,p1⟩⟩) λu s2 hE=>hE.elim λv H2 I3 r2 q=>?_)
 obtain⟨y,WY,G2,hr2,rv2,pp3⟩:=q
 obtain⟨a2,rfl,ea2,pp4⟩:=wM hr2 rv2 pp3
 cases r2
 refine xb ?_
 obtain⟨di2,sl2,ep2,g2,n2⟩:=FR I3.hok ea2
 refine MP g2 n2 λb2=>?_
 have gp:s2.heap.get? s1.heap.objs.size=some (L0 b1):=(I3.pin (s1.heap.objs.size,L0 b1) (zJ _ (zK ..))).1
 have I4:Inv X pins σ H2 {s2 with heap:=s2.heap.push (L0 b2)}:=(I3.pins_of λpr hp=>I3.pin pr (zJ _ (zB _ hp))).kept (t':=s2.toks) λb o e=>zd _ e
 refine eC1 (zd _ gp) (zq _ rfl) (zD (zr gp)) λb3=>?_
 have I5:=I4.kept (t':=s2.toks) (h':=(s2.heap.push (L0 b2)).push (L0 b3)) λb o e=>zd _ e
 refine xb ?_
 refine cO2 (I5.ok.hd hc) (zq _ rfl) λh1 h' tk e k1 k2 he=>?_
 have I6:Inv X pins σ H2 {s2 with heap:=h1,toks:=tk}:=I5.kept k1
 have hf:=I6.hok.fresh (zn _)
 exact⟨.ref h1.objs.size,upd H2 h1.objs.size (.lst []),I6.laid (t':=tk) k2 (zn _) ⟨zQ _, [],e,.nil,he⟩,rfl,U3 hr2 (t6.nil) pp4 _ hf⟩⟩
end
def Cf(A:jr)(s:zv)(y x:zk)(b:Bool):Prop:=
 ∀(prog:zZ) (w:jg) (E:VSP) (Q:VSP),Q (.bool b) s->zw (zE prog w) A (XT .GtE y x) Q E s
inductive GeR(A:jr)(s:zv):List zk->List zk->Bool->Prop
 |nil:GeR A s [] [] true
 |eq {x y xs ys b}:jJ A s x y true->GeR A s xs ys b->GeR A s (x::xs) (y::ys) b
 |ne {x y xs ys b}:jJ A s x y false->Cf A s x y b->GeR A s (x::xs) (y::ys) b
section
open PySem.SeqAt
open PySem.AutoSeq1 (wpAny_loadPart')
open PySem.MeetsSeq PySem.MeetsSeq2 PySem.MeetsSeq3
end
section
variable{X:Cx}{Z:XC}
end
def F6:Fe:=λ_=>M.stuck
section
theorem QZ:DE X Z e F6:=⟨by
 intro pins s σ H Q I hE0
 obtain⟨X9,μ,G,sr,hr,p⟩:=hE0
 exact p.elim⟩
end
def pH(c:Wc)(μ:List Addr)(H:Hp)(acc:Option (D×D))(old:Array zk):Prop:=match acc with
 |none=>old= #[]
 |some b=>∃v vk u uk,j5 c μ H b.1 v/\J9 v u/\j5 c μ H b.2 vk/\J9 vk uk/\old= #[u,uk]
theorem pH.mono(x:Ext μ H X2 H')(h:pH c μ H acc old):pH c X2 H' acc old:=by
 rcases acc with _|b
 ·exact h
 · obtain⟨v,vk,u,uk,a1,a2,a3,a4,a5⟩:=h
   exact⟨v,vk,u,uk,a1.mono x,a2,a3.mono x,a4,a5⟩
section
variable{X:Cx}{Z:XC}{pins:PNS}{σ:St}{k:Nat}{f:Addr}{fd:xl}{ps:List Str}{F:List D->M D}{A:jr}
end
section
variable{X:Cx}{Z:XC}{F:List D->M D}{x:Str}{e:Expr}{fe:Fe}{p pf kp pos:Pos}
end
section
variable{prog:zZ}{w:jg}{A:jr}{E:VSP}{s:zv}{K:Type}[DecidableEq K]{knd:KeyKind prog w K}
end
section
variable{X:Cx}{Z:XC}{ea:Expr}{fa:Fe}{p q1 ap pos:Pos}
end
inductive CdE(w:jg)(K:zh)(mg:Str->Option zk):List DictEntry->List (Str×D)->Prop
 |nil:CdE w K mg [] []
 |cons {z:Str} {t:Tok} {u:zk} {d:D} {es:List DictEntry} {tb:List (Str×D)} (h:CR K mg d u) (r:CdE w K mg es tb):CdE w K mg ({hash:=PyData.keyHash w.params z,key:=.str z t,val:=u}::es) ((z,d)::tb)
structure CdOk(w:jg)(K:zh)(mg:Str->Option zk)(x:Str)(tb:List (Str×D)):Prop where
 ex:∃a es n,mg x=some (.ref a)/\K.lookup a=some ⟨.type "dict",none,.dict (jn es) n, #[]⟩/\CdE w K mg es tb
 nd:(tb.map (·.1)).Nodup
section
variable{X:Cx}{Z:XC}{b:Expr}{fb:Fe}{x:Str}{tb:List (Str×D)}{p pos:Pos}
end
mutual
def pyD:D->PyData
 | .non=>.none
 | .bl b=>.bool b
 | .int i=>.int i
 | .str x=>.str x
 | .tup l=>.tuple (pyL l)
 | .ref _=>.none
 | .fn _=>.none
 | .ty _=>.none
def pyL:List D->List PyData
 |[]=> []
 |d::r=>pyD d::pyL r
end
mutual
def eC:D->Bool
 | .non=>true
 | .bl _=>true
 | .int _=>true
 | .str _=>true
 | .tup l=>vE l
 | .ref _=>false
 | .fn _=>false
 | .ty _=>false
def vE:List D->Bool
 |[]=>true
 |d::r=>eC d&&vE r
end
mutual
theorem iY:∀d:D,(pyD d).hasDict=false
 | .non=>rfl
 | .bl _=>rfl
 | .int _=>rfl
 | .str _=>rfl
 | .tup l=>by unfold pyD;exact UP l
 | .ref _=>rfl
 | .fn _=>rfl
 | .ty _=>rfl
theorem UP:∀l:List D,JV (pyL l)=false
 |[]=>rfl
 |d::r=>by unfold pyL;show ((pyD d).hasDict||JV (pyL r))=false;rw[iY d,UP r];rfl
end
section
variable{X:Cx}{Z:XC}{pins:PNS}{σ:St}{H:Hp}{s:zv}
theorem Bw(I:Inv X pins σ H s)(q:SqT X.K H a vs):∃o its n,s.heap.get? a=some o/\o.cls= .type "tuple"/\o.data= .seq its n/\v6 vs its.toList:=by
 rcases q with q|⟨o,its,n,hl,hc,hd,_,hv⟩
 · obtain⟨_,its,hv,o,e,c,n,d⟩:=(show T4 X.prog X.w H s.heap a (.tup vs)from BJ I.hok q)
   exact⟨o,its.toArray,n,e,c,(yL d).1,by simpa using hv⟩
 ·exact⟨o,its,n,I.kIn _ _ hl,hc,(yL hd).1,hv⟩
mutual
theorem rW(I:Inv X pins σ H s):∀d {v} {u},eC d=true->j5 (wc X) μ H d v->J9 v u->∃as,Reads s.heap u (pyD d) as
 | .non,v,u,_,r,q=>by unfold j5 at r;subst r;cases q;exact⟨_,.none⟩
 | .bl b,v,u,_,r,q=>by unfold j5 at r;subst r;cases q;exact⟨_,.bool b⟩
 | .int i,v,u,_,r,q=>by unfold j5 at r;subst r;obtain⟨t,rfl⟩:=q;exact⟨_,.int i t⟩
 | .str x,v,u,_,r,q=>by unfold j5 at r;subst r;obtain⟨t,rfl⟩:=q;exact⟨_,.str x t⟩
 | .tup l,v,u,hd,r,q=>by
   unfold j5 at r
   obtain⟨a,vs,rfl,sq,rl⟩:=r
   cases q
   obtain⟨o,its,n,e,c,d,hv⟩:=Bw I sq
   obtain⟨as,ra⟩:=uP I l (by unfold eC at hd;exact hd) rl hv
   unfold pyD
   exact⟨as,.tuple e c d ra⟩
 | .ref _,v,u,hd,_,_=>by unfold eC at hd;cases hd
 | .fn _,v,u,hd,_,_=>by unfold eC at hd;cases hd
 | .ty _,v,u,hd,_,_=>by unfold eC at hd;cases hd
theorem uP(I:Inv X pins σ H s):∀l {vs} {us},vE l=true->t6 (wc X) μ H l vs->v6 vs us->∃as,ReadsAll s.heap us (pyL l) as
 |[],vs,us,_,r,q=>by unfold t6 at r;subst r;cases q;exact⟨_,.nil⟩
 |d::l,vs,us,hd,r,q=>by
   unfold t6 at r
   obtain⟨v,r',rfl,r1,r2⟩:=r
   unfold vE at hd
   rw[jp]at hd
   cases q with
   |cons q1 q2=>
     obtain⟨as,h1⟩:=rW I d hd.1 r1 q1
     obtain⟨bs,h2⟩:=uP I l hd.2 r2 q2
     unfold pyL
     exact⟨_,.cons h1 h2⟩
end
end
section
variable{X:Cx}{Z:XC}
end
end DL
namespace W
open PySem PySem.Spec L2 DL
open PyProof.Rows hiding St
end W
namespace DL
open PySem PySem.Spec L2
open PyProof.Rows hiding St
section
variable{X:Cx}{Z:XC}{o:Expr}{fo:Fe}{name:Str}{id:String}{mm:D->List D->M D}{apos cpos:Pos}
end
def sV:zk->Str
 | .str x _=>x
 |_=> ""
def byT(w:jg):Bool:=w.params.followText "set-order"
def TSet(prog:zZ)(w:jg)(h:Heap)(a:Addr)(ss:List Str):Prop:=∃o es ep t,h.get? a=some o/\o.ExactSet/\o.data= .set es ep t/\ElemsOf (strKind prog w) es.toList/\(es.toList.map λe=>sV e.2).Perm ss/\es.size<scanBound/\t.fits es.size=true/\t.led= (!byT w)/\(0<es.size->t.plain=false)
section
variable{prog:zZ}{w:jg}{A:jr}{E:VSP}{s:zv}
end
theorem StrsAre.at:∀ {vs} {ss},StrsAre vs ss->∀(i:Nat) v,vs[i]? =some v->∃x t,ss[i]? =some x/\v= .str x t
 |_,_,.nil,i,v,h=>by simp at h
 |_,_,.cons x t hr,0,v,h=>by simp at h;exact⟨x,t,rfl,h.symm⟩
 |_,_,.cons n t hr,i+1,v,h=>by
   simp only[zM]at h ⊢
   exact StrsAre.at hr i v h
section
variable{prog:zZ}{w:jg}{A:jr}{R:Result->zv->Prop}{I:Addr}{fp wr:List Addr}{G:Array GenState->Array GenState->Prop}{n:Nat}{P:Nat->zk->Prop}{St:Nat->zv->Prop}
end
section
end
abbrev sO(es:Array (Int×zk))(ep:Nat)(t:SetTable):Obj:={cls:=.type "set",dict:=none,data:=.set es ep t,slots:= #[]}
section
end
section
end
structure SWalk(prog:zZ)(w:jg)(A:jr)(s:zv)(a:Addr)(ss:List Str)(I:Addr)(h':Heap):Prop where
 keep:∀b o,s.heap.get? b=some o->h'.get? b=some o
 new:s.heap.objs.size<=I
 walk:∃(J:Addr) (vs:List zk) (ss':List Str) (St:Nat->Heap->Prop),s.heap.objs.size<=J/\StrsAre vs ss'/\ss'.Perm ss/\Walks prog w A I [I,J,a] [I] vs.length (λi v=>vs[i]? =some v) St/\St 0 h'
section
end
section
variable{prog:zZ}{w:jg}{A:jr}{E:VSP}{s:zv}{a I:Addr}{es:Array (Int×zk)}{ep:Nat}{t:SetTable}
end
section
variable{prog:zZ}{w:jg}{s:zv}{a I:Addr}{es:Array (Int×zk)}{ep:Nat}{t:SetTable}
theorem TSet.type(hS:TSet prog w s.heap a ss):s.TypeIs (.ref a) "set":=by
 obtain⟨o,es,ep,t,ho,⟨x1,_⟩,_⟩:=hS
 exact⟨o,ho,x1⟩
end
section
end
section
end
section
end
end DL
namespace W
open PySem PySem.Spec L2 DL
open PyProof.Rows hiding St
end W
namespace DL
open PySem PySem.Spec L2
open PyProof.Rows hiding St
def lcg(m i:Nat):Nat:=(i*5+1) % (m+1)
def itr(m:Nat):Nat->Nat->Nat
 |0,i=>i
 |k+1,i=>itr m k (lcg m i)
def TL(m:Nat):Prop:=∀i≤m,∀j≤m,∃k≤m,itr m k i=j
def HC(owner:Array (Option Nat))(r:Option Nat):Prop:=∃j,r=some j/\owner[j]? =some none
theorem dF5{owner:Array (Option Nat)}(h:(jC n).find? (λk=>(owner.getD (i+k) (some 0)).isNone)=some k):owner[i+k]? =some none:=by
 have:=List.find?_some h
 have e:owner.getD (i+k) (some 0)=none:=by simpa using this
 rw[Xj]at e
 rcases h2:owner[i+k]? with _|o
 ·rw[h2]at e;cases e
 · rw[h2]at e
   have:o=none:=e
   rw[this]
theorem dE8(h:owner[i]? =some none):HC owner (jA mask owner (f+1) i p):=by
 unfold jA
 have hr:∃m,YC mask i+1-i=m+1:=by
  unfold YC
  split
  ·exact⟨9,by omega⟩
  ·exact⟨0,by omega⟩
 obtain⟨m,hm⟩:=hr
 have:((jC (YC mask i+1-i)).find? λk=>(owner.getD (i+k) (some 0)).isNone)=some 0:=by
  rw[hm,xG,List.find?_cons_of_pos]
  rw[Xj,Nat.add_zero,h];rfl
 rw[this]
 exact⟨i,by simp,h⟩
theorem RP{owner:Array (Option Nat)}(h:HC owner (jA mask owner f (ZR mask i p).1 (ZR mask i p).2)):HC owner (jA mask owner (f+1) i p):=by
 unfold jA
 split
 · rename_i k hk
   exact⟨i+k,rfl,dF5 hk⟩
 ·exact h
theorem pM(hj:owner[j]? =some none):∀k f i,k<f->itr mask k i=j->HC owner (jA mask owner f i 0)
 |0,f+1,i,_,e=>by
   have e:i=j:=e
   rw[<-e]at hj
   exact dE8 hj
 |k+1,f+1,i,hf,e=>by
   refine RP ?_
   have e1:(ZR mask i 0).1=lcg mask i:=by show (i*5+1+0 / 32) % (mask+1)=_;simp[lcg]
   have e2:(ZR mask i 0).2=0:=by show 0 / 32=0;rfl
   rw[e1,e2]
   exact pM hj k f _ (by omega) e
theorem eO(hF:TL mask)(hj:owner[j]? =some none)(hm:j<=mask):∀n f i p,p<32 ^ n->n+mask<f->i<=mask->HC owner (jA mask owner f i p)
 |0,f,i,p,hp,hf,hi=>by
   obtain rfl:p=0:=by simpa using hp
   obtain⟨k,hk,e⟩:=hF i hi j hm
   exact pM hj k f i (by omega) e
 |n+1,f+1,i,p,hp,hf,hi=>by
   refine RP (eO hF hj hm n f _ _ ?_ (by omega) ?_)
   · show p / 32<32 ^ n
     rw[Nat.pow_succ]at hp
     omega
   · show (i*5+1+p / 32) % (mask+1)<=mask
     have:=Nat.mod_lt (i*5+1+p / 32) (show 0<mask+1 by omega)
     omega
structure BH(mask:Nat)(k:Nat)(owner:Array (Option Nat)):Prop where
 sz:owner.size=mask+1
 pm:(owner.toList.filterMap id).Perm (jC k)
theorem DQ:∀ {l:List (Option α)} {j:Nat},l[j]? =some none->((l.set j (some x)).filterMap id).Perm (x::l.filterMap id)
 |[],_,h=>by simp at h
 |a::l,0,h=>by
   have:a=none:=by simpa using h
   subst this
   simp
 |a::l,j+1,h=>by
   have ih:=DQ (x:=x) (l:=l) (j:=j) (by simpa using h)
   rw[jG]
   rcases a with _|a
   ·simpa using ih
   · show (a::List.filterMap id (l.set j (some x))).Perm (x::a::List.filterMap id l)
     exact(List.Perm.cons a ih).trans (List.Perm.swap ..)
theorem IN:∀ {l:List (Option Nat)},(l.filterMap id).length<l.length->∃j,j<l.length/\l[j]? =some none
 |[],h=>by simp at h
 |none::l,h=>⟨0,by simp,rfl⟩
 |some a::l,h=>by
   obtain⟨j,h1,h2⟩:=IN (l:=l) (by simpa using h)
   exact⟨j+1,by simpa using h1,by simpa using h2⟩
theorem BT(h:Int):xL h<32 ^ 13:=by
 unfold xL
 have h1:=jd h (show (0:Int)<2 ^ 64 by decide)
 have h2:=jf h (show (2 ^ 64:Int)≠0 by decide)
 have:(32:Nat) ^ 13=36893488147419103232:=by decide
 omega
theorem BH.step{owner:Array (Option Nat)}(hF:TL mask)(I:BH mask k owner)(hk:k<=mask)(h:Int):∃j,jA mask owner (YR mask) (xL h % (mask+1)) (xL h)=some j/\BH mask (k+1) (owner.setIfInBounds j (some k)):=by
 have hl:(owner.toList.filterMap id).length=k:=by rw[I.pm.length_eq,jN]
 obtain⟨j0,hj0,e0⟩:=IN (l:=owner.toList) (by rw[hl,jK,I.sz];omega)
 rw[jB]at e0
 have hm:j0<=mask:=by rw[jK,I.sz]at hj0;omega
 have hi:xL h % (mask+1)<=mask:=by have:=Nat.mod_lt (xL h) (show 0<mask+1 by omega);omega
 obtain⟨j,e,ho⟩:=eO hF e0 hm 13 (YR mask) _ _ (BT h) (by unfold YR;omega) hi
 refine⟨j,e,by simp[I.sz],?_⟩
 rw[Array.toList_setIfInBounds]
 refine(DQ (by rw[jB];exact ho)).trans ?_
 rw[List.range_succ]
 exact(List.Perm.cons k I.pm).trans (List.perm_append_singleton ..).symm
section
variable{prog:zZ}{w:jg}{A:jr}{E:VSP}{s:zv}{a:Addr}
end
section
end
section
end
section
theorem TSet.obj(hS:TSet prog w h a ss):∃es ep t,h.get? a=some (sO es ep t)/\t.fits es.size=true:=by
 obtain⟨o,es,ep,t,ho,⟨x1,x2,x3⟩,hd,_,_,_,hf,_⟩:=hS
 obtain⟨oc,od,odt,os⟩:=o
 obtain rfl:oc= .type "set":=x1
 obtain rfl:od=none:=x2
 obtain rfl:os= #[]:=x3
 obtain rfl:odt= .set es ep t:=hd
 exact⟨es,ep,t,ho,hf⟩
end
inductive IA(w:jg):List DictEntry->List Str->Prop
 |nil:IA w [] []
 |cons {e:DictEntry} {x:Str} {tk:Tok} {es:List DictEntry} {xs:List Str}:e.key= .str x tk->e.hash=hashStr w x->IA w es xs->IA w (e::es) (x::xs)
theorem IA.len(h:IA w es xs):es.length=xs.length:=by
 induction h with
 |nil=>rfl
 |cons _ _ _ ih=>simp[ih]
theorem IA.at(h:IA w es xs):∀ {i:Nat} {e:DictEntry},es[i]? =some e->∃x tk,xs[i]? =some x/\e.key= .str x tk/\e.hash=hashStr w x:=by
 induction h with
 |nil=>intro i e h;simp at h
 |cons h1 h2 _ ih=>
   intro i e h
   rcases i with _|i
   ·simp at h;subst h;exact⟨_,_,rfl,h1,h2⟩
   ·simpa using ih (by simpa using h)
section
end
section
end
section
end
end DL
namespace W
open PySem PySem.Spec L2 DL
open PyProof.Rows hiding St
end W
namespace DL
open PySem PySem.Spec L2
open PyProof.Rows hiding St
structure Ev where
 P:zZ
 w:jg
 K:zh
 mg:Str->Option zk
 base:Heap
structure EvX(E:Ev):Prop where
 ex:∃h:Heap,E.K.In h/\h.Ns jq E.mg
abbrev Ck(E:Ev)(F:List D->M D)(n:Nat)(x:Str)(k:Nat):Prop:=t9 F n x E.P E.w E.K E.mg E.base k
def BA(x:Str)(st:Stmt)(ps:List Str):Prop:=∀(kV doc pm:zk) (an:Option Addr) (cdv ct:zk) (us:List zk),us.length=ps.length->bindArgs (yq x x (h9 st) (i4 st) (M3 st) .none kV doc pm an cdv ct) ⟨us, []⟩=pure (ps.zip us)
section
variable{E:Ev}{x:Str}{st:Stmt}{k n m:Nat}{fb:Fs}
theorem M8(N ps:List Str)(X:EvX E)(Y:FH E.K x st)(S:x5 N ps (M3 st))(b:BA x st ps)(hn:ps.length=n)(hm:N.length=m)
 (hb:x5 N ps (M3 st)->∀f cdv A outer s H Z,V5 k (A.deeper (ZI x (M3 st) s.heap.objs.size f cdv))->DB (u7 CX0 E.P E.w E.K E.mg E.base N x (M3 st) f cdv A outer s H Z).nox ZF (i4 st) fb):Ck E (u0 m fb) n x (k+1):=by
 obtain⟨h,X,G⟩:=X.ex
 obtain⟨f,fd,c⟩:=Y.ff X G b
 exact t9.of c (uL c S hn hm (hb S f))
theorem GD(ps:List Str)(X:EvX E)(Y:FH E.K x st)(b:BA x st ps)(hn:ps.length=n):Ck E (λ_=>M.stuck) n x k:=by
 obtain⟨h,X,G⟩:=X.ex
 obtain⟨f,fd,c⟩:=Y.ff X G b
 exact t9.of c (Rz hn)
end
def FHs(K:zh)(top:Nat->Stmt):List Str->List Nat->Prop
 |x::r,i::s=>FH K x (top i)/\FHs K top r s
 |_,_=>True
section
variable{K:zh}{top:Nat->Stmt}{x:Str}{i:Nat}{r:List Str}{s:List Nat}{mg:Str->Option zk}{d:D}{u:zk}{h:Heap}
theorem FHs.c(h:FH K x (top i))(t:FHs K top r s):FHs K top (x::r) (i::s):=⟨h,t⟩
structure CC(K:zh)(mg:Str->Option zk)(x:Str)(d:D):Prop where
 ex:∃u,xT K jq x=some (some u)/\CR K mg d u
theorem CC.of(g:xT K jq x=some (some u))(r:CR K mg d u):CC K mg x d:=⟨u,g,r⟩
theorem CC.ok(c:CC K mg x d)(X:K.In h)(G:h.Ns jq mg):GC K mg x d:=by
 obtain⟨u,g,r⟩:=c.ex
 exact⟨u,ZW X G g,r⟩
theorem FT{fa:Addr}{P:zZ}{w:jg}{N:List Str}{k m:Nat}{fb:Fs}(X:K.In h)(G:h.Ns jq mg)(hfa:mg "law" =some (.ref fa))(Y:FH K "law" (top i))(b:BA "law" (top i) ["script"])(S:x5 N ["script"] (M3 (top i)))(hm:N.length=m)
 (hs:∀kV dc pm an cd ct (s:zv) (v:zk),Ye s (yq "law" "law" (h9 (top i)) (i4 (top i)) (M3 (top i)) .none kV dc pm an cd ct) ⟨[v], []⟩ [("script",v)])
 (hb:∀base,x5 N ["script"] (M3 (top i))->∀cdv A outer s H Z,V5 k (A.deeper (ZI "law" (M3 (top i)) s.heap.objs.size fa cdv))->DB (u7 CX0 P w K mg base N "law" (M3 (top i)) fa cdv A outer s H Z).nox ZF (i4 (top i)) fb)
 (pure:∀ns:List Int,ns.length<=63->∃G',u0 m fb [.ref 0] [.rol (ns.map D.int)]=some (.ok (.bl true),G')):
 ∃fd:xl,(∀(s:zv) (v:zk),Ye s fd ⟨[v], []⟩ [("script",v)])/\∀base:Heap,K.In base->base.Ns jq mg->O0 P w K mg base CX0 (k+1) fa fd ["script"] (TF K):=by
 obtain⟨f,od,an,sl,oc,kV,dc,pm,cd,ct,a,l,e,kp⟩:=Y
 have q:=hfa.symm.trans (ZW X G a)
 cases q
 exact⟨_,hs kV dc pm an cd ct,λbase _ _=>wW (uL ⟨dF l e kp,(dF l e kp).binds b,ZW X G a⟩ S rfl hm (hb base S)) pure⟩
theorem walk63{l:PySem.W.OpenLaw}{q:zZ}{loose:List Str}{XP:(Str->Option zk)->Heap->Prop}{YP:jg->Heap->Prop}{d:DefRec}{K:Params->zh}(k:Nat)(hn:l.most=some 63)(hdf:d.params.defaults= [])(hr:V5 k YB)
 (hY:∀(w:jg) (h:Heap),YP w h->(K w.params).In h)
 (F:∀(w:jg) (mg:Str->Option zk) (fa:Addr) (h:Heap),(K w.params).In h->h.Ns jq mg->mg d.name=some (.ref fa)->
   ∃fd:xl,(∀(s:zv) (u:zk),Ye s fd ⟨[u], []⟩ [("script",u)])/\∀base:Heap,(K w.params).In base->base.Ns jq mg->O0 l.prog w (K w.params) mg base CX0 k fa fd ["script"] (TF (K w.params))):
 PySem.W.WalkO q loose XP YP l.row.toRowW d [] (λf vs=>JO f vs):=
 L2.walk_of hn (by decide) hdf hr hY F (λ_ _ a ns hl hO hS=>⟨a,ns,rfl,hS,hO,hl,λ_=>rfl⟩) λ_ _ _ _ _ z=>z
end
end DL
namespace W
open PySem PySem.Spec L2 DL
open PyProof.Rows hiding St
def VQ:Fs:=o4 (M4 (d0 (M4 g0) (d0 (M4 (d0 (cE (.str ("of" :Str))) (d0 (M4 g0) g0))) (d0 (M4 g0) (d0 (cE .non) (d0 (cE .non) g0))))))
def J8:List D->M D:=u0 0 VQ
def PH:Fs:=j8 (ifS (m7 (c7 eqD (b8 0) (R7 g0))) (o4 (cE (.int 0))) o9) (o4 (mtE R5 PC (b8 0) g0))
def v7:List D->M D:=u0 1 PH
def fJ:Fs:=j8 (u9 (x0 (fnX 1 v7) (d0 (b8 0) g0)) (y0 1)) (j8 (ifS (m7 (c7 eqD (c7 K5 (b8 1) (cE (.int 8))) (cE (.int 7)))) (o4 (c7 K5 (c7 M9 (b8 1) (cE (.int 8))) (cE (.int 7)))) o9) (o4 (c7 K5 (c7 M9 (b8 1) (cE (.int 8))) (cE (.int 4)))))
def S9:List D->M D:=u0 2 fJ
def II:Fs:=j8 (u9 (x0 (fnX 1 v7) (d0 (b8 0) g0)) (y0 1)) (j8 (ifS (m7 (c7 eqD (c7 K5 (b8 1) (cE (.int 9))) (cE (.int 8)))) (o4 (c7 K5 (c7 T7 (c7 U2 (c7 M9 (b8 1) (cE (.int 9))) (cE (.int 1000003))) (x0 (fnX 1 v7) (d0 (b8 0) g0))) (c7 U2 (cE (.int 6)) (c7 L7 (cE (.int 10)) (cE (.int 10)))))) o9) (o4 (c7 K5 (c7 M9 (b8 1) (cE (.int 9))) (cE (.int 5)))))
def U7:List D->M D:=u0 2 II
def SB:Fs:=(j8 (u9 (c7 T7 (c7 T7 (b8 2) (cE (.int 2))) (x0 (fnX 1 U7) (d0 (b8 0) g0))) (y0 4)) (j8 (u9 (c7 T7 (b8 4) (x0 (fnX 1 U7) (d0 (b8 0) g0))) (y0 2)) (F3 (mtE R5 y7 (b8 1) (d0 (M4 (d0 (b8 4) (d0 (b8 2) g0))) g0)))))
def SC1:Fs:=(ifS (D0 (m7 (c7 neD (b8 1) (R7 g0))) (m7 (c7 eqD (c7 K5 (b8 5) (cE (.int 4))) (cE (.int 1))))) (u9 (M4 (d0 (cE .non) (d0 (c7 ixD (c7 ixD (b8 1) (cE (.int 0))) (cE (.int 1))) g0))) (D2 (b8 1) (cE (.int 0)))) o9)
def SC2:Fs:=(ifS (D0 (m7 (c7 neD (b8 1) (R7 g0))) (m7 (c7 eqD (c7 K5 (c7 M9 (b8 5) (cE (.int 4))) (cE (.int 4))) (cE (.int 1))))) (u9 (M4 (d0 (c7 ixD (c7 ixD (b8 1) (unE CB (cE (.int 1)))) (cE (.int 0))) (d0 (cE .non) g0))) (D2 (b8 1) (unE CB (cE (.int 1))))) o9)
def cH:Fs:=j8 (u9 (R7 g0) (y0 1)) (j8 (u9 (c7 F2 (unE CB (x0 (fnX 1 U7) (d0 (b8 0) g0))) (cE (.int 2))) (y0 2)) (j8 (B3 (R3 (d0 (x0 (fnX 1 S9) (d0 (b8 0) g0)) g0)) (y0 3) SB) (j8 (u9 (x0 (fnX 1 v7) (d0 (b8 0) g0)) (y0 5)) (j8 SC1 (j8 SC2 (o4 (x0 O4 (d0 (b8 1) g0))))))))
def T6:List D->M D:=u0 6 cH
def uF:Fs:=j8 (u9 (x0 (fnX 1 v7) (d0 (b8 0) g0)) (y0 2)) (j8 (ifS (orT (m7 (c7 eqD (b8 1) (cE (.int 0)))) (m7 (c7 eqD (c7 K5 (b8 2) (cE (.int 8))) (cE (.int 0))))) (o4 (c7 ixD (R7 (d0 (cE .non) (d0 (M4 (d0 (M4 g0) (d0 (cE (.str ("any" :Str))) g0))) g0))) (c7 K5 (c7 M9 (b8 2) (cE (.int 8))) (cE (.int 2))))) o9) (j8 (cB) (j8 (cB) (j8 (cB) (cB)))))
def Z2:List D->M D:=u0 8 uF
def dM:Fs:=o4 (M4 (d0 (M4 (d0 (M4 (d0 (cE .non) (d0 (cE .non) g0))) g0)) (d0 (M4 (d0 (cE (.str ("but" :Str))) (d0 (M4 g0) g0))) (d0 (M4 (d0 (cE (.bl false)) (d0 (cE (.bl true)) g0))) (d0 (M4 (d0 (M4 g0) (d0 (cE (.str ("any" :Str))) g0))) (d0 (M4 (d0 (M4 g0) (d0 (cE (.str ("any" :Str))) g0))) g0))))))
def qB:List D->M D:=u0 0 dM
def CK:Fs:=j8 (u9 (x0 (fnX 1 v7) (d0 (b8 0) g0)) (y0 1)) (j8 (ifS (m7 (c7 eqD (c7 K5 (b8 1) (cE (.int 9))) (cE (.int 8)))) (o4 (mtE IG FC (cE (.str ("" :Str))) (d0 (J5 (R3 (d0 (c7 K5 (c7 M9 (b8 1) (cE (.int 9))) (cE (.int 21))) g0)) [none,some 0] (y0 0) M5 (c7 ixD (cE (.str ("abcdefghijklmnopqrstuvwxyz" :Str))) (c7 K5 (x0 (fnX 1 v7) (d0 (b8 1) g0)) (cE (.int 26))))) g0))) o9) (o4 (c7 ixD (R7 (d0 (cE (.str ("" :Str))) (d0 (cE (.str ("a" :Str))) (d0 (cE (.str ("b" :Str))) (d0 (cE (.str ("aa" :Str))) (d0 (cE (.str ("ab" :Str))) (d0 (cE (.str ("ca" :Str))) g0))))))) (c7 K5 (c7 M9 (b8 1) (cE (.int 9))) (cE (.int 6))))))
def bE:List D->M D:=u0 2 CK
def tI:Fs:=o4 (M4 (d0 (x0 X7 (d0 (b8 0) g0)) (d0 (b8 0) g0)))
def P0:List D->M D:=u0 1 tI
def WB:Fs:=(j8 (u9 (x0 (fnX 1 bE) (d0 (b8 0) g0)) (y0 3)) (ifS (m7 (c7 D9 (b8 3) (b8 1))) (F3 (mtE R5 y7 (b8 1) (d0 (b8 3) g0))) o9))
def QG:Fs:=j8 (u9 (R7 g0) (y0 1)) (j8 (B3 (R3 (d0 (x0 (fnX 1 S9) (d0 (b8 0) g0)) g0)) (y0 2) WB) (o4 (x0 O4 (d0 (RA P0 (b8 1)) g0))))
def BB:List D->M D:=u0 4 QG
def I5:Fs:=(j8 (ifS (m7 (c7 eqD (x0 O4 (d0 (b8 3) g0)) (x0 (fnX 0 qB) g0))) (o4 (cE (.str ("any" :Str)))) o9) (o4 (x0 O4 (d0 (b8 3) g0))))
def EF(R:List D->M D):Fs:=j8 (u9 (x0 (fnX 1 v7) (d0 (b8 0) g0)) (y0 2)) (j8 (ifS (m7 (c7 ltD (c7 K5 (b8 2) (cE (.int 8))) (cE (.int 2)))) (o4 (c7 ixD (R7 (d0 (cE (.str ("any" :Str))) (d0 (x0 (fnX 0 J8) g0) g0))) (c7 K5 (b8 2) (cE (.int 8))))) o9) (j8 (u9 (x0 EA (d0 (c7 ixD (R7 (d0 (x0 (fnX 0 J8) g0) (d0 (x0 (fnX 0 qB) g0) g0))) (x0 lA (d0 (c7 eqD (c7 K5 (b8 2) (cE (.int 8))) (cE (.int 2))) g0))) g0)) (y0 3)) (j8 (u9 (c7 K5 (c7 M9 (b8 2) (cE (.int 8))) (cE (.int 5))) (y0 4)) (j8 (u9 (c7 M9 (b8 2) (cE (.int 40))) (y0 5)) (j8 (u9 (c7 gtD (c7 K5 (b8 2) (cE (.int 8))) (cE (.int 2))) (y0 6)) (j8 (ifS (orT (m7 (c7 eqD (b8 4) (cE (.int 0)))) (D0 (K1 (b8 6)) (m7 (c7 eqD (c7 K5 (b8 5) (cE (.int 2))) (cE (.int 0)))))) (u9 (x0 (fnX 1 T6) (d0 (b8 0) g0)) (D2 (b8 3) (cE (.int 0)))) o9) (j8 (ifS (orT (m7 (c7 eqD (b8 4) (cE (.int 1)))) (D0 (K1 (b8 6)) (m7 (c7 eqD (c7 K5 (c7 M9 (b8 5) (cE (.int 2))) (cE (.int 3))) (cE (.int 0)))))) (u9 (M4 (d0 (c7 ixD (R7 (d0 (cE (.str ("of" :Str))) (d0 (cE (.str ("but" :Str))) g0))) (c7 K5 (c7 M9 (b8 5) (cE (.int 6))) (cE (.int 2)))) (d0 (x0 (fnX 1 BB) (d0 (b8 0) g0)) g0))) (D2 (b8 3) (cE (.int 1)))) o9) (j8 (ifS (orT (m7 (c7 eqD (b8 4) (cE (.int 2)))) (D0 (K1 (b8 6)) (m7 (c7 eqD (c7 K5 (c7 M9 (b8 5) (cE (.int 12))) (cE (.int 3))) (cE (.int 0)))))) (u9 (c7 ixD (R7 (d0 (M4 g0) (d0 (M4 (d0 (cE (.bl false)) g0)) (d0 (M4 (d0 (cE (.bl true)) g0)) (d0 (M4 (d0 (cE (.bl false)) (d0 (cE (.bl true)) g0))) g0))))) (c7 K5 (c7 M9 (b8 5) (cE (.int 36))) (cE (.int 4)))) (D2 (b8 3) (cE (.int 2)))) o9) (j8 (ifS (orT (m7 (c7 eqD (b8 4) (cE (.int 3)))) (D0 (K1 (b8 6)) (m7 (c7 eqD (c7 K5 (c7 M9 (b8 5) (cE (.int 144))) (cE (.int 2))) (cE (.int 0)))))) (u9 (x0 (fnX 2 R) (d0 (b8 0) (d0 (b8 1) g0))) (D2 (b8 3) (cE (.int 3)))) o9) (j8 (ifS (orT (m7 (c7 eqD (b8 4) (cE (.int 4)))) (D0 (K1 (b8 6)) (m7 (c7 eqD (c7 K5 (c7 M9 (b8 5) (cE (.int 288))) (cE (.int 2))) (cE (.int 0)))))) (u9 (x0 (fnX 2 Z2) (d0 (b8 0) (d0 (b8 1) g0))) (D2 (b8 3) (cE (.int 4)))) o9) I5))))))))))
def S8(R:List D->M D):List D->M D:=u0 7 (EF R)
def BE(R:List D->M D):Fs:=j8 (ifS (m7 (c7 gtD (c7 K5 (b8 1) (cE (.int 8))) (cE (.int 3)))) (o4 (x0 (fnX 2 (S8 R)) (d0 (b8 0) (d0 (b8 2) g0)))) o9) (o4 (x0 (fnX 0 J8) g0))
def tD(R:List D->M D):List D->M D:=u0 3 (BE R)
def TB(R:List D->M D):Fs:=j8 (u9 (x0 (fnX 1 v7) (d0 (b8 0) g0)) (y0 2)) (j8 (ifS (orT (m7 (c7 eqD (b8 1) (cE (.int 0)))) (m7 (c7 eqD (c7 K5 (b8 2) (cE (.int 8))) (cE (.int 0))))) (o4 (c7 ixD (R7 (d0 (cE .non) (d0 (M4 (d0 (M4 g0) (d0 (cE (.str ("any" :Str))) g0))) g0))) (c7 K5 (c7 M9 (b8 2) (cE (.int 8))) (cE (.int 2))))) o9) (j8 (u9 (x0 (fnX 3 (tD R)) (d0 (b8 0) (d0 (b8 2) (d0 (c7 F2 (b8 1) (cE (.int 1))) g0)))) (y0 3)) (j8 (u9 (J5 (R3 (d0 (x0 (fnX 1 S9) (d0 (b8 0) g0)) g0)) [none,some 1,some 0] (y0 0) M5 (x0 (fnX 2 (S8 R)) (d0 (b8 2) (d0 (c7 F2 (b8 1) (cE (.int 1))) g0)))) (y0 4)) (o4 (M4 (d0 (x0 O4 (d0 (J5 (itW (b8 4)) [none] (y0 0) (m7 (c7 neD (b8 0) (x0 (fnX 0 J8) g0))) (b8 0)) g0)) (d0 (b8 3) g0)))))))
def kB:Nat->List D->M D
 |0=>λ_=>M.stuck
 |n+1=>u0 5 (TB (kB n))
def mE:List D->M D:=kB 60
def qH:List D->M D:=S8 mE
def LK:List D->M D:=tD mE
def OE:Fe:=(J5 (itW (b8 2)) [none] (y0 0) (m7 (c7 neD (b8 0) (x0 (fnX 0 J8) g0))) (b8 0))
def kF:Fs:=j8 (u9 (x0 (fnX 2 mE) (d0 (b8 0) (d0 (cE (.int 1)) g0))) (y0 1)) (j8 (ifS (D0 (m7 (c7 Q1 (b8 1) (cE .non))) (m7 (c7 eqD (c7 K5 (x0 (fnX 1 v7) (d0 (b8 0) g0)) (cE (.int 8))) (cE (.int 1))))) (j8 (u9 (J5 (R3 (d0 (cE (.int 12)) g0)) [none,some 0] (y0 0) M5 (x0 (fnX 2 qH) (d0 (b8 1) (d0 (cE (.int 0)) g0)))) (y0 2)) (u9 (M4 (d0 (x0 O4 (d0 OE g0)) (d0 (c7 ixD (b8 1) (cE (.int 1))) g0))) (y0 1))) o9) (o4 (c7 T7 (B5 (x0 (fnX 0 J8) g0) (y6) (N2 (cE (.int 3)))) (M4 (d0 (b8 1) (d0 (cE .non) g0))))))
def Q7:List D->M D:=u0 3 kF
def WH:Fs:=j8 (u9 (c7 K5 (c7 T7 (c7 K5 (b8 0) (cE (.int 2147483647))) (c7 U2 (cE (.int 40692)) (c7 T7 (b8 1) (cE (.int 1))))) (cE (.int 2147483647))) (y0 2)) (j8 (u9 (c7 K5 (c7 T7 (c7 T7 (c7 U2 (b8 2) (b8 2)) (c7 U2 (cE (.int 48271)) (b8 2))) (b8 1)) (cE (.int 2147483647))) (y0 2)) (j8 (u9 (c7 K5 (c7 U2 (b8 2) (b8 2)) (cE (.int 2147483629))) (y0 2)) (o4 (c7 M9 (c7 K5 (c7 U2 (b8 2) (cE (.int 69621))) (cE (.int 2147483629))) (cE (.int 8))))))
def OC:List D->M D:=u0 3 WH
def PB:Fs:=(j8 (u9 (c7 K5 (b8 7) (x0 X7 (d0 (b8 4) g0))) (y0 8)) (ifS (m7 (c7 gtD (c7 ixD (b8 5) (b8 8)) (cE (.int 0)))) (j8 (F3 (mtE R5 y7 (b8 6) (d0 (c7 K5 (c7 ixD (b8 5) (b8 8)) (cE (.int 1000003))) g0))) (u9 (c7 M9 (c7 ixD (b8 5) (b8 8)) (cE (.int 1000003))) (D2 (b8 5) (b8 8)))) (F3 (mtE R5 y7 (b8 6) (d0 (x0 (fnX 2 OC) (d0 (c7 ixD (b8 4) (b8 8)) (d0 (c7 M9 (b8 7) (x0 X7 (d0 (b8 4) g0))) g0))) g0)))))
def PR:Fe:=(J5 (itW (b8 4)) [none] (y0 0) M5 (c7 U2 (x0 qC (d0 (b8 0) g0)) (x0 lA (d0 (c7 geD (x0 qC (d0 (b8 0) g0)) (c7 L7 (cE (.int 10)) (cE (.int 18)))) g0))))
def PT:Fs:=(j8 (u9 PR (y0 5)) (j8 (u9 (R7 g0) (y0 6)) (j8 (B3 (R3 (d0 (b8 3) g0)) (y0 7) PB) (o4 (unE lC (b8 6))))))
def sH:Fs:=j8 (u9 (WC (b8 0) (N2 (b8 1)) (N2 (cE (.int 126))) (N2 (b8 2))) (y0 4)) (j8 (ifS (m7 (c7 eqD (b8 4) (R7 g0))) (u9 (R7 (d0 (b8 1) g0)) (y0 4)) o9) PT)
def O7:List D->M D:=u0 9 sH
def AK:Fs:=o4 (ifE (orT (m7 (c7 E1 (b8 0) (cE .non))) (m7 (c7 inX (cE (.tup [.tup [],.tup [.str ("of" :Str),.tup []],.tup [],.non,.non])) (c7 ixD (b8 0) (cE (.int 0)))))) (cE .non) (b8 0))
def eF:List D->M D:=u0 1 AK
def X3:Fs:=j8 (ifS (orT (m7 (c7 E1 (b8 0) (cE .non))) (K1 (x0 dA (d0 (J5 (itW (c7 ixD (b8 0) (cE (.int 0)))) [none,none,none] (A4 3 (T3 (y0 0) (T3 (y0 1) (T3 (y0 2) (y4))))) M5 (F6)) g0)))) (o4 (cE .non)) o9) (o4 (M4 (d0 (x0 O4 (d0 (J5 (itW (c7 ixD (b8 0) (cE (.int 0)))) [none,some 0] (y0 0) (orT (K1 (c7 ixD (b8 0) (cE (.int 1)))) (m7 (c7 neD (c7 ixD (b8 0) (cE (.int 2))) (c7 ixD (b8 1) (cE (.int 1)))))) (b8 0)) g0)) (d0 (c7 ixD (b8 0) (cE (.int 1))) g0))))
def W8:List D->M D:=u0 1 X3
def IK:Fs:=j8 (u9 (M4 (d0 (b8 0) (d0 (b8 1) (d0 (b8 2) (d0 (x0 (fnX 1 eF) (d0 (b8 3) g0)) (d0 (x0 (fnX 1 W8) (d0 (b8 4) g0)) g0)))))) (y0 5)) (o4 (ifE (m7 (c7 eqD (b8 5) (cE (.tup [.tup [.tup [.non,.non]],.tup [.str ("but" :Str),.tup []],.tup [.bl false,.bl true],.tup [.tup [],.str ("any" :Str)],.tup [.tup [],.str ("any" :Str)]])))) (cE (.str ("any" :Str))) (b8 5)))
def qF:List D->M D:=u0 6 IK
def CN:Fs:=o4 (mmE wG (J5 (itW (M4 (d0 (c7 ixD (b8 0) (cE (.int 0))) (d0 (c7 ixD (b8 1) (cE (.int 0))) g0)))) [none] (y0 0) (m7 (c7 Q1 (b8 0) (cE .non))) (b8 0)))
def ME:List D->M D:=u0 2 CN
def wN:Fs:=o4 (mmE tE (J5 (itW (M4 (d0 (c7 ixD (b8 0) (cE (.int 1))) (d0 (c7 ixD (b8 1) (cE (.int 1))) g0)))) [none] (y0 0) (m7 (c7 Q1 (b8 0) (cE .non))) (b8 0)))
def wE:List D->M D:=u0 2 wN
def NN:Fs:=o4 (N1 (c7 Q1 (c7 ixD (b8 0) (cE (.int 1))) (cE .non)) (E6 (c7 E1 (c7 ixD (b8 1) (cE (.int 1))) (cE .non)) (c7 ltD (c7 ixD (b8 0) (cE (.int 1))) (c7 ixD (b8 1) (cE (.int 1))))))
def bH:List D->M D:=u0 2 NN
def nL:Fs:=o4 (N1 (c7 Q1 (b8 0) (cE .non)) (N1 (c7 Q1 (b8 1) (cE .non)) (c7 gtD (b8 0) (b8 1))))
def fE:List D->M D:=u0 2 nL
def MT:DSt->M Bool:=(D0 (m7 (c7 ltD (b8 3) (x0 X7 (d0 (b8 0) g0)))) (m7 (c7 ltD (b8 4) (x0 X7 (d0 (b8 1) g0)))))
def MB:Fs:=(j8 (u9 (x0 (fnX 2 ME) (d0 (c7 ixD (b8 0) (b8 3)) (d0 (c7 ixD (b8 1) (b8 4)) g0))) (y0 5)) (j8 (u9 (x0 (fnX 2 wE) (d0 (c7 ixD (b8 0) (b8 3)) (d0 (c7 ixD (b8 1) (b8 4)) g0))) (y0 6)) (j8 (ifS (L1 (K1 (x0 (fnX 2 fE) (d0 (b8 5) (d0 (b8 6) g0))))) (F3 (mtE R5 y7 (b8 2) (d0 (M4 (d0 (b8 5) (d0 (b8 6) g0))) g0))) o9) (ifS (K1 (x0 (fnX 2 bH) (d0 (c7 ixD (b8 0) (b8 3)) (d0 (c7 ixD (b8 1) (b8 4)) g0)))) (u9 (c7 T7 (b8 3) (cE (.int 1))) (y0 3)) (u9 (c7 T7 (b8 4) (cE (.int 1))) (y0 4))))))
def cG:Fs:=j8 (u9 (R7 g0) (y0 2)) (j8 (u9 (cE (.int 0)) (y0 3)) (j8 (u9 (cE (.int 0)) (y0 4)) (j8 (i8 MT MB) (o4 (x0 O4 (d0 (b8 2) g0))))))
def lH:List D->M D:=u0 7 cG
def QI:Fs:=o4 (x0 pA (d0 (J5 (itW (b8 0)) [none] (y0 0) M5 (M4 (d0 (b8 0) (d0 (cE (.bl true)) g0)))) g0))
def vA:List D->M D:=u0 1 QI
def BK:Fs:=o4 (M4 (d0 (x0 X7 (d0 (b8 0) g0)) (d0 (b8 0) g0)))
def O2:List D->M D:=u0 1 BK
def nI:Fs:=o4 (x0 O4 (d0 (RA O2 (x0 (fnX 1 vA) (d0 (b8 0) g0))) g0))
def Z9:List D->M D:=u0 1 nI
def WJ:Fs:=o4 (x0 (fnX 1 Z9) (d0 (c7 T7 (b8 0) (b8 1)) g0))
def qD:List D->M D:=u0 2 WJ
def qK:Fs:=j8 (u9 (x0 (fnX 1 vA) (d0 (b8 1) g0)) (y0 2)) (o4 (x0 O4 (d0 (J5 (itW (b8 0)) [none,some 2] (y0 0) (m7 (c7 inD (b8 0) (b8 1))) (b8 0)) g0)))
def wD:List D->M D:=u0 3 qK
def gK:Fs:=j8 (u9 (x0 (fnX 1 vA) (d0 (b8 1) g0)) (y0 2)) (o4 (x0 O4 (d0 (J5 (itW (b8 0)) [none,some 2] (y0 0) (m7 (c7 D9 (b8 0) (b8 1))) (b8 0)) g0)))
def GB:List D->M D:=u0 3 gK
def AJ:Fs:=j8 (ifS (D0 (m7 (c7 eqD (c7 ixD (b8 0) (cE (.int 0))) (cE (.str ("of" :Str))))) (m7 (c7 eqD (c7 ixD (b8 1) (cE (.int 0))) (cE (.str ("of" :Str)))))) (o4 (M4 (d0 (cE (.str ("of" :Str))) (d0 (x0 (fnX 2 wD) (d0 (c7 ixD (b8 0) (cE (.int 1))) (d0 (c7 ixD (b8 1) (cE (.int 1))) g0))) g0)))) o9) (j8 (ifS (m7 (c7 eqD (c7 ixD (b8 0) (cE (.int 0))) (cE (.str ("of" :Str))))) (o4 (M4 (d0 (cE (.str ("of" :Str))) (d0 (x0 (fnX 2 GB) (d0 (c7 ixD (b8 0) (cE (.int 1))) (d0 (c7 ixD (b8 1) (cE (.int 1))) g0))) g0)))) o9) (j8 (ifS (m7 (c7 eqD (c7 ixD (b8 1) (cE (.int 0))) (cE (.str ("of" :Str))))) (o4 (M4 (d0 (cE (.str ("of" :Str))) (d0 (x0 (fnX 2 GB) (d0 (c7 ixD (b8 1) (cE (.int 1))) (d0 (c7 ixD (b8 0) (cE (.int 1))) g0))) g0)))) o9) (o4 (M4 (d0 (cE (.str ("but" :Str))) (d0 (x0 (fnX 2 qD) (d0 (c7 ixD (b8 0) (cE (.int 1))) (d0 (c7 ixD (b8 1) (cE (.int 1))) g0))) g0))))))
def WD:List D->M D:=u0 2 AJ
def pK:Fs:=o4 (ifE (m7 (c7 ltD (b8 1) (x0 X7 (d0 (c7 ixD (b8 0) (cE (.int 0))) g0)))) (c7 ixD (c7 ixD (b8 0) (cE (.int 0))) (b8 1)) (c7 ixD (b8 0) (cE (.int 1))))
def AC:List D->M D:=u0 2 pK
def DF:Fs:=o4 (x0 pA (d0 (J5 (itW (c7 ixD (b8 0) (cE (.int 0)))) [none,none,none] (A4 3 (T3 (y0 0) (T3 (y0 1) (T3 (y0 2) (y4))))) M5 (F6)) g0))
def T9:List D->M D:=u0 1 DF
def RF:Fs:=j8 (u9 (x0 (fnX 1 T9) (d0 (b8 0) g0)) (y0 2)) (j8 (u9 (x0 (fnX 1 T9) (d0 (b8 1) g0)) (y0 3)) (o4 (J5 (itW (cI (b8 2) (b8 3))) [none,some 2,some 0,some 1,some 3] (y0 0) M5 (F6))))
def AF:List D->M D:=u0 4 RF
def WF(R:List D->M D):Fs:=j8 (ifS (orT (m7 (c7 E1 (b8 0) (cE .non))) (m7 (c7 E1 (b8 1) (cE .non)))) (o4 (cE .non)) o9) (j8 (u9 (x0 gA (d0 (x0 X7 (d0 (c7 ixD (b8 0) (cE (.int 0))) g0)) (d0 (x0 X7 (d0 (c7 ixD (b8 1) (cE (.int 0))) g0)) g0))) (y0 2)) (j8 (u9 (J5 (R3 (d0 (b8 2) g0)) [none,some 0,some 1] (y0 0) M5 (x0 (fnX 2 R) (d0 (x0 (fnX 2 AC) (d0 (b8 1) (d0 (b8 0) g0))) (d0 (x0 (fnX 2 AC) (d0 (b8 2) (d0 (b8 0) g0))) g0)))) (y0 3)) (o4 (M4 (d0 (x0 O4 (d0 (b8 3) g0)) (d0 (x0 (fnX 2 R) (d0 (c7 ixD (b8 0) (cE (.int 1))) (d0 (c7 ixD (b8 1) (cE (.int 1))) g0))) g0))))))
def gD(R:List D->M D):List D->M D:=u0 4 (WF R)
def oG(R:List D->M D):Fs:=j8 (ifS (orT (m7 (c7 E1 (b8 0) (cE .non))) (m7 (c7 E1 (b8 1) (cE .non)))) (o4 (cE .non)) o9) (j8 (u9 (J5 (itW (x0 (fnX 2 AF) (d0 (b8 0) (d0 (b8 1) g0)))) [none,none,none] (A4 3 (T3 (y0 0) (T3 (y0 1) (T3 (y0 2) (y4))))) M5 (F6)) (y0 2)) (o4 (M4 (d0 (x0 O4 (d0 (b8 2) g0)) (d0 (x0 (fnX 2 R) (d0 (c7 ixD (b8 0) (cE (.int 1))) (d0 (c7 ixD (b8 1) (cE (.int 1))) g0))) g0)))))
def Z7(R:List D->M D):List D->M D:=u0 3 (oG R)
def TD(R:List D->M D):Fs:=j8 (ifS (m7 (c7 eqD (b8 0) (cE (.str ("any" :Str))))) (o4 (b8 1)) o9) (j8 (ifS (m7 (c7 eqD (b8 1) (cE (.str ("any" :Str))))) (o4 (b8 0)) o9) (o4 (x0 (fnX 5 qF) (d0 (x0 (fnX 2 lH) (d0 (c7 ixD (b8 0) (cE (.int 0))) (d0 (c7 ixD (b8 1) (cE (.int 0))) g0))) (d0 (x0 (fnX 2 WD) (d0 (c7 ixD (b8 0) (cE (.int 1))) (d0 (c7 ixD (b8 1) (cE (.int 1))) g0))) (d0 (x0 O4 (d0 (J5 (itW (c7 ixD (b8 0) (cE (.int 2)))) [none,some 1] (y0 0) (m7 (c7 inD (b8 0) (c7 ixD (b8 1) (cE (.int 2))))) (b8 0)) g0)) (d0 (x0 (fnX 2 (gD R)) (d0 (c7 ixD (b8 0) (cE (.int 3))) (d0 (c7 ixD (b8 1) (cE (.int 3))) g0))) (d0 (x0 (fnX 2 (Z7 R)) (d0 (c7 ixD (b8 0) (cE (.int 4))) (d0 (c7 ixD (b8 1) (cE (.int 4))) g0))) g0))))))))
def SD:Nat->List D->M D
 |0=>λ_=>M.stuck
 |n+1=>u0 2 (TD (SD n))
def E9:List D->M D:=SD 4
def wL:List D->M D:=gD E9
def ON:List D->M D:=Z7 E9
def uR:Fs:=o4 (N1 (x0 Q0 (d0 (b8 0) (d0 (cE (.ty "tuple")) g0))) (N1 (c7 eqD (x0 X7 (d0 (b8 0) g0)) (cE (.int 2))) (x0 Q0 (d0 (c7 ixD (b8 0) (cE (.int 0))) (d0 (cE (.ty "tuple")) g0)))))
def UE:List D->M D:=u0 1 uR
def bS:Fs:=o4 (E6 (c7 E1 (b8 0) (cE .non)) (x0 (fnX 1 UE) (d0 (b8 0) g0)))
def bG:List D->M D:=u0 1 bS
def aL:Fs:=o4 (x0 C1 (d0 (J5 (iA (d0 (b8 0) (d0 (B5 (b8 0) (N2 (cE (.int 1))) (y6)) g0))) [none,none] (A4 2 (T3 (y0 0) (T3 (y0 1) (y4)))) M5 (c7 ltD (b8 0) (b8 1))) g0))
def uB:List D->M D:=u0 1 aL
def tN:Fs:=o4 (J5 (itW (b8 0)) [none] (y0 0) M5 (c7 ixD (b8 0) (cE (.int 0))))
def KJ:List D->M D:=u0 1 tN
def V8:Fs:=j8 (ifS (m7 (c7 E1 (b8 0) (cE .non))) (o4 (cE (.bl true))) o9) (j8 (ifS (L1 (D0 (K1 (x0 (fnX 1 UE) (d0 (b8 0) g0))) (K1 (x0 C1 (d0 (J5 (itW (c7 ixD (b8 0) (cE (.int 0)))) [none] (y0 0) M5 (F6)) g0))))) (o4 (cE (.bl false))) o9) (o4 (x0 (fnX 1 uB) (d0 (x0 (fnX 1 KJ) (d0 (c7 ixD (b8 0) (cE (.int 0))) g0)) g0))))
def V6:List D->M D:=u0 1 V8
def sL:Fs:=o4 (N1 (c7 Q1 (c7 ixD (b8 0) (cE (.int 1))) (cE .non)) (N1 (c7 Q1 (c7 ixD (b8 1) (cE (.int 0))) (cE .non)) (c7 ltD (c7 T7 (c7 ixD (b8 0) (cE (.int 1))) (cE (.int 1))) (c7 ixD (b8 1) (cE (.int 0))))))
def NF:List D->M D:=u0 2 sL
def qR:Fs:=o4 (N1 (x0 Q0 (d0 (b8 0) (d0 (cE (.ty "int")) g0))) (RJ (x0 Q0 (d0 (b8 0) (d0 (cE (.ty "bool")) g0)))))
def oI:List D->M D:=u0 1 qR
def FM:Fs:=o4 (E6 (c7 E1 (b8 0) (cE .non)) (x0 (fnX 1 oI) (d0 (b8 0) g0)))
def VE:List D->M D:=u0 1 FM
def UQ:Fs:=j8 (ifS (L1 (D0 (K1 (x0 Q0 (d0 (b8 0) (d0 (cE (.ty "tuple")) g0)))) (m7 (c7 eqD (x0 X7 (d0 (b8 0) g0)) (cE (.int 2)))))) (o4 (cE (.bl false))) o9) (j8 (ifS (L1 (D0 (K1 (x0 (fnX 1 VE) (d0 (c7 ixD (b8 0) (cE (.int 0))) g0))) (K1 (x0 (fnX 1 VE) (d0 (c7 ixD (b8 0) (cE (.int 1))) g0))))) (o4 (cE (.bl false))) o9) (o4 (RJ (x0 (fnX 2 fE) (d0 (c7 ixD (b8 0) (cE (.int 0))) (d0 (c7 ixD (b8 0) (cE (.int 1))) g0))))))
def SG:List D->M D:=u0 1 UQ
def mM:Fs:=j8 (ifS (L1 (D0 (K1 (x0 Q0 (d0 (b8 0) (d0 (cE (.ty "tuple")) g0)))) (K1 (x0 C1 (d0 (J5 (itW (b8 0)) [none] (y0 0) M5 (x0 (fnX 1 SG) (d0 (b8 0) g0))) g0))))) (o4 (cE (.bl false))) o9) (o4 (x0 C1 (d0 (J5 (iA (d0 (b8 0) (d0 (B5 (b8 0) (N2 (cE (.int 1))) (y6)) g0))) [none,none] (A4 2 (T3 (y0 0) (T3 (y0 1) (y4)))) M5 (x0 (fnX 2 NF) (d0 (b8 0) (d0 (b8 1) g0)))) g0)))
def nF:List D->M D:=u0 1 mM
def mQ:Fs:=j8 (ifS (L1 (D0 (K1 (x0 Q0 (d0 (b8 0) (d0 (cE (.ty "tuple")) g0)))) (m7 (c7 eqD (x0 X7 (d0 (b8 0) g0)) (cE (.int 2)))))) (o4 (cE (.bl false))) o9) (o4 (N1 (x0 Q0 (d0 (c7 ixD (b8 0) (cE (.int 0))) (d0 (cE (.ty "str")) g0))) (N1 (c7 eqD (c7 ixD (b8 0) (cE (.int 0))) (b8 1)) (x0 Q0 (d0 (c7 ixD (b8 0) (cE (.int 1))) (d0 (cE (.ty "tuple")) g0))))))
def mH:List D->M D:=u0 2 mQ
def CM:Fs:=o4 (N1 (x0 Q0 (d0 (b8 0) (d0 (cE (.ty "str")) g0))) (x0 C1 (d0 (J5 (itW (b8 0)) [none] (y0 0) M5 (C9 leD leD (cE (.str ("a" :Str))) (b8 0) (cE (.str ("z" :Str))))) g0)))
def tF:List D->M D:=u0 1 CM
def QM:Fs:=j8 (ifS (L1 (orT (K1 (x0 (fnX 2 mH) (d0 (b8 0) (d0 (cE (.str ("of" :Str))) g0)))) (K1 (x0 (fnX 2 mH) (d0 (b8 0) (d0 (cE (.str ("but" :Str))) g0)))))) (o4 (cE (.bl false))) o9) (j8 (ifS (L1 (K1 (x0 C1 (d0 (J5 (itW (c7 ixD (b8 0) (cE (.int 1)))) [none] (y0 0) M5 (x0 (fnX 1 tF) (d0 (b8 0) g0))) g0)))) (o4 (cE (.bl false))) o9) (o4 (x0 (fnX 1 uB) (d0 (J5 (itW (c7 ixD (b8 0) (cE (.int 1)))) [none] (y0 0) M5 (x0 (fnX 1 O2) (d0 (b8 0) g0))) g0))))
def LG:List D->M D:=u0 1 QM
def PP:Fs:=j8 (ifS (L1 (K1 (x0 Q0 (d0 (b8 0) (d0 (cE (.ty "tuple")) g0))))) (o4 (cE (.bl false))) o9) (o4 (N1 (x0 C1 (d0 (J5 (itW (b8 0)) [none] (y0 0) M5 (x0 Q0 (d0 (b8 0) (d0 (cE (.ty "bool")) g0)))) g0)) (x0 (fnX 1 uB) (d0 (b8 0) g0))))
def gG:List D->M D:=u0 1 PP
def GE:Fs:=j8 (ifS (K1 (x0 Q0 (d0 (b8 0) (d0 (cE (.ty "str")) g0)))) (o4 (c7 eqD (b8 0) (cE (.str ("any" :Str))))) o9) (j8 (ifS (L1 (D0 (K1 (x0 Q0 (d0 (b8 0) (d0 (cE (.ty "tuple")) g0)))) (m7 (c7 eqD (x0 X7 (d0 (b8 0) g0)) (cE (.int 5)))))) (o4 (cE (.bl false))) o9) (j8 (ifS (L1 (D0 (K1 (x0 (fnX 1 nF) (d0 (c7 ixD (b8 0) (cE (.int 0))) g0))) (D0 (K1 (x0 (fnX 1 LG) (d0 (c7 ixD (b8 0) (cE (.int 1))) g0))) (K1 (x0 (fnX 1 gG) (d0 (c7 ixD (b8 0) (cE (.int 2))) g0)))))) (o4 (cE (.bl false))) o9) (o4 (N1 (x0 (fnX 1 bG) (d0 (c7 ixD (b8 0) (cE (.int 3))) g0)) (x0 (fnX 1 V6) (d0 (c7 ixD (b8 0) (cE (.int 4))) g0))))))
def mD:List D->M D:=u0 1 GE
def JL:Fs:=(ifS (m7 (c7 Q1 (c7 ixD (b8 0) (cE (.int 3))) (cE .non))) (F3 (mtE R5 wA (b8 1) (d0 (c7 T7 (x0 EA (d0 (c7 ixD (c7 ixD (b8 0) (cE (.int 3))) (cE (.int 0))) g0)) (R7 (d0 (c7 ixD (c7 ixD (b8 0) (cE (.int 3))) (cE (.int 1))) g0))) g0))) o9)
def JR:Fs:=(ifS (m7 (c7 Q1 (c7 ixD (b8 0) (cE (.int 4))) (cE .non))) (F3 (mtE R5 wA (b8 1) (d0 (c7 T7 (J5 (itW (c7 ixD (c7 ixD (b8 0) (cE (.int 4))) (cE (.int 0)))) [none] (y0 0) M5 (F6)) (R7 (d0 (c7 ixD (c7 ixD (b8 0) (cE (.int 4))) (cE (.int 1))) g0))) g0))) o9)
def qE:Fs:=j8 (u9 (R7 g0) (y0 1)) (j8 (ifS (m7 (c7 eqD (b8 0) (cE (.str ("any" :Str))))) (o4 (b8 1)) o9) (j8 JL (j8 JR (o4 (b8 1)))))
def MD:List D->M D:=u0 2 qE
def lF:Fs:=j8 (ifS (m7 (c7 eqD (b8 0) (cE (.str ("any" :Str))))) (o4 (cE (.bl true))) o9) (j8 (ifS (D0 (m7 (c7 Q1 (c7 ixD (b8 0) (cE (.int 3))) (cE .non))) (L1 (K1 (x0 C1 (d0 (J5 (itW (c7 ixD (c7 ixD (b8 0) (cE (.int 3))) (cE (.int 0)))) [none] (y0 0) M5 (c7 neD (b8 0) (cE (.tup [.tup [],.tup [.str ("of" :Str),.tup []],.tup [],.non,.non])))) g0))))) (o4 (cE (.bl false))) o9) (j8 (ifS (D0 (m7 (c7 Q1 (c7 ixD (b8 0) (cE (.int 4))) (cE .non))) (L1 (K1 (x0 C1 (d0 (J5 (itW (c7 ixD (c7 ixD (b8 0) (cE (.int 4))) (cE (.int 0)))) [none,some 0] (y0 0) M5 (F6)) g0))))) (o4 (cE (.bl false))) o9) (o4 (c7 neD (b8 0) (cE (.tup [.tup [.tup [.non,.non]],.tup [.str ("but" :Str),.tup []],.tup [.bl false,.bl true],.tup [.tup [],.str ("any" :Str)],.tup [.tup [],.str ("any" :Str)]]))))))
def X8:List D->M D:=u0 1 lF
def Z1:Fs:=(u9 (mtE R5 PC (b8 2) g0) (y0 3))
def V2:Fs:=(ifS (L1 (K1 (x0 (fnX 1 mD) (d0 (b8 3) g0)))) (o4 (cE (.bl false))) o9)
def V3:Fs:=(F3 (mtE R5 y7 (b8 1) (d0 (b8 3) g0)))
def V4:Fs:=(F3 (mtE R5 wA (b8 2) (d0 (x0 (fnX 1 MD) (d0 (b8 3) g0)) g0)))
def aH:Fs:=j8 (u9 (R7 g0) (y0 1)) (j8 (u9 (R7 (d0 (b8 0) g0)) (y0 2)) (j8 (i8 (K1 (b8 2)) (j8 Z1 (j8 V2 (j8 V3 V4)))) (o4 (x0 C1 (d0 (J5 (itW (b8 1)) [none] (y0 0) M5 (x0 (fnX 1 X8) (d0 (b8 0) g0))) g0)))))
def NC:List D->M D:=u0 4 aH
def lG:Fs:=o4 (x0 t8 (d0 (J5 (itW (x0 (fnX 1 BB) (d0 (b8 0) g0))) [none] (y0 0) (m7 (C9 ltD ltD (cE (.int 0)) (x0 X7 (d0 (b8 0) g0)) (cE (.int 9)))) (b8 0)) g0))
def SE:List D->M D:=u0 1 lG
def QC(R:List D->M D):Fs:=j8 (u9 (x0 (fnX 1 v7) (d0 (b8 0) g0)) (y0 2)) (j8 (u9 (c7 K5 (b8 2) (cE (.int 6))) (y0 3)) (j8 (ifS (m7 (c7 eqD (b8 3) (cE (.int 1)))) (o4 (c7 F2 (c7 K5 (c7 T7 (c7 U2 (c7 M9 (b8 2) (cE (.int 6))) (cE (.int 1000003))) (x0 (fnX 1 v7) (d0 (b8 0) g0))) (c7 T7 (c7 U2 (cE (.int 2)) (c7 L7 (cE (.int 10)) (cE (.int 12)))) (cE (.int 1)))) (c7 L7 (cE (.int 10)) (cE (.int 12))))) o9) (j8 (ifS (m7 (c7 eqD (b8 3) (cE (.int 2)))) (o4 (x0 (fnX 1 bE) (d0 (b8 0) g0))) o9) (j8 (ifS (m7 (c7 eqD (b8 3) (cE (.int 3)))) (o4 (c7 eqD (c7 K5 (c7 M9 (b8 2) (cE (.int 6))) (cE (.int 2))) (cE (.int 1)))) o9) (j8 (ifS (orT (m7 (c7 eqD (b8 3) (cE (.int 0)))) (m7 (c7 eqD (b8 1) (cE (.int 0))))) (o4 (c7 F2 (c7 K5 (c7 M9 (b8 2) (cE (.int 6))) (cE (.int 13))) (cE (.int 6)))) o9) (j8 (ifS (m7 (c7 eqD (b8 3) (cE (.int 4)))) (o4 (M4 (d0 (cE (.str ("list" :Str))) (d0 (x0 O4 (d0 (J5 (R3 (d0 (x0 (fnX 1 S9) (d0 (b8 0) g0)) g0)) [none,some 1,some 0] (y0 0) M5 (x0 (fnX 2 R) (d0 (b8 2) (d0 (c7 F2 (b8 1) (cE (.int 1))) g0)))) g0)) g0)))) o9) (o4 (M4 (d0 (cE (.str ("record" :Str))) (d0 (x0 O4 (d0 (J5 (itW (x0 (fnX 1 SE) (d0 (b8 0) g0))) [none,some 1,some 0] (y0 0) M5 (M4 (d0 (b8 0) (d0 (x0 (fnX 2 R) (d0 (b8 2) (d0 (c7 F2 (b8 1) (cE (.int 1))) g0))) g0)))) g0)) g0))))))))))
def iB:Nat->List D->M D
 |0=>λ_=>M.stuck
 |n+1=>u0 4 (QC (iB n))
def iH:List D->M D:=iB 5
def dH:Fs:=j8 (u9 (c7 ixD (b8 0) (c7 K5 (b8 1) (x0 X7 (d0 (b8 0) g0)))) (A4 2 (T3 (y0 2) (T3 (y0 3) (y4))))) (j8 (u9 (c7 K5 (c7 M9 (b8 1) (cE (.int 7))) (cE (.int 5))) (y0 4)) (j8 (ifS (D0 (m7 (c7 E1 (b8 2) (cE .non))) (m7 (c7 E1 (b8 3) (cE .non)))) (o4 (c7 F2 (b8 4) (cE (.int 2)))) o9) (j8 (ifS (m7 (c7 E1 (b8 2) (cE .non))) (o4 (c7 F2 (b8 3) (b8 4))) o9) (j8 (ifS (m7 (c7 E1 (b8 3) (cE .non))) (o4 (c7 T7 (b8 2) (b8 4))) o9) (o4 (c7 ixD (R7 (d0 (b8 2) (d0 (b8 3) (d0 (c7 T7 (b8 2) (c7 K5 (c7 M9 (b8 1) (cE (.int 35))) (c7 T7 (c7 F2 (b8 3) (b8 2)) (cE (.int 1))))) g0)))) (c7 K5 (c7 M9 (b8 1) (cE (.int 7))) (cE (.int 3)))))))))
def kG:List D->M D:=u0 5 dH
def aF:Fs:=j8 (ifS (m7 (c7 eqD (c7 ixD (b8 0) (cE (.int 0))) (cE (.str ("of" :Str))))) (o4 (c7 ixD (c7 ixD (b8 0) (cE (.int 1))) (c7 K5 (b8 1) (x0 X7 (d0 (c7 ixD (b8 0) (cE (.int 1))) g0))))) o9) (j8 (u9 (c7 ixD (R7 (d0 (cE (.str ("" :Str))) (d0 (cE (.str ("a" :Str))) (d0 (cE (.str ("b" :Str))) (d0 (cE (.str ("aa" :Str))) (d0 (cE (.str ("c" :Str))) (d0 (cE (.str ("q" :Str))) g0))))))) (c7 K5 (b8 1) (cE (.int 6)))) (y0 2)) (j8 (i8 (m7 (c7 inD (b8 2) (c7 ixD (b8 0) (cE (.int 1))))) (u9 (c7 T7 (b8 2) (cE (.str ("q" :Str)))) (y0 2))) (o4 (b8 2))))
def rG:List D->M D:=u0 3 aF
def PF(R:List D->M D):Fs:=j8 (u9 (J5 (itW (c7 ixD (b8 1) (cE (.int 0)))) [none,some 0] (y0 0) M5 (x0 (fnX 2 R) (d0 (b8 1) (d0 (b8 0) g0)))) (y0 2)) (j8 (ifS (m7 (c7 neD (c7 ixD (b8 1) (cE (.int 1))) (x0 (fnX 0 J8) g0))) (u9 (c7 T7 (b8 2) (J5 (R3 (d0 (c7 K5 (x0 (fnX 1 v7) (d0 (b8 0) g0)) (cE (.int 3))) g0)) [none,some 1,some 0] (y0 0) M5 (x0 (fnX 2 R) (d0 (b8 2) (d0 (c7 ixD (b8 1) (cE (.int 1))) g0))))) (y0 2)) o9) (o4 (M4 (d0 (cE (.str ("list" :Str))) (d0 (x0 O4 (d0 (b8 2) g0)) g0)))))
def Z3(R:List D->M D):List D->M D:=u0 3 (PF R)
def RL:Fs:=(o4 (M4 (d0 (cE (.str ("record" :Str))) (d0 (x0 O4 (d0 (J5 (itW (x0 t8 (d0 (b8 2) g0))) [none,some 2] (y0 0) M5 (M4 (d0 (b8 0) (d0 (c7 ixG (b8 1) (b8 0)) g0)))) g0)) g0))))
def iG(R:List D->M D):Fs:=j8 (u9 (IM) (y0 2)) (j8 (u9 (c7 ixD (R7 (d0 (cE (.str ("q" :Str))) (d0 (cE (.str ("a" :Str))) (d0 (cE (.str ("ba" :Str))) (d0 (cE (.str ("z" :Str))) g0))))) (c7 K5 (x0 (fnX 1 v7) (d0 (b8 0) g0)) (cE (.int 4)))) (y0 3)) (j8 (B3 (itW (c7 ixD (b8 1) (cE (.int 0)))) (y0 4) (cB)) (j8 (ifS (D0 (m7 (c7 neD (c7 ixD (b8 1) (cE (.int 1))) (x0 (fnX 0 J8) g0))) (D0 (m7 (c7 eqD (c7 K5 (x0 (fnX 1 v7) (d0 (b8 0) g0)) (cE (.int 2))) (cE (.int 1)))) (m7 (c7 D9 (b8 3) (J5 (itW (c7 ixD (b8 1) (cE (.int 0)))) [none] (y0 0) M5 (c7 ixD (b8 0) (cE (.int 0)))))))) (u9 (x0 (fnX 2 R) (d0 (b8 0) (d0 (c7 ixD (b8 1) (cE (.int 1))) g0))) (D2 (b8 2) (b8 3))) o9) RL)))
def U5(R:List D->M D):List D->M D:=u0 5 (iG R)
def Q4(R:List D->M D):Fs:=j8 (ifS (m7 (c7 eqD (b8 1) (cE (.str ("any" :Str))))) (o4 (x0 (fnX 2 iH) (d0 (b8 0) (d0 (cE (.int 1)) g0)))) o9) (j8 (u9 (x0 (fnX 0 J8) g0) (y0 2)) (j8 (u9 (J5 (R3 (d0 (cE (.int 5)) g0)) [none,some 2,some 1] (y0 0) (m7 (c7 neD (c7 ixD (b8 2) (b8 0)) (c7 ixD (b8 1) (b8 0)))) (b8 0)) (y0 3)) (j8 (ifS (m7 (c7 eqD (b8 3) (R7 g0))) (o4 (cE .non)) o9) (j8 (u9 (x0 (fnX 1 v7) (d0 (b8 0) g0)) (y0 4)) (j8 (u9 (c7 ixD (b8 3) (c7 K5 (b8 4) (x0 X7 (d0 (b8 3) g0)))) (y0 5)) (j8 (ifS (m7 (c7 eqD (b8 5) (cE (.int 0)))) (o4 (x0 (fnX 2 kG) (d0 (c7 ixD (b8 1) (cE (.int 0))) (d0 (c7 M9 (b8 4) (cE (.int 5))) g0)))) o9) (j8 (ifS (m7 (c7 eqD (b8 5) (cE (.int 1)))) (o4 (x0 (fnX 2 rG) (d0 (c7 ixD (b8 1) (cE (.int 1))) (d0 (c7 M9 (b8 4) (cE (.int 5))) g0)))) o9) (j8 (ifS (m7 (c7 eqD (b8 5) (cE (.int 2)))) (o4 (c7 ixD (c7 ixD (b8 1) (cE (.int 2))) (c7 K5 (c7 M9 (b8 4) (cE (.int 5))) (x0 X7 (d0 (c7 ixD (b8 1) (cE (.int 2))) g0))))) o9) (j8 (ifS (m7 (c7 eqD (b8 5) (cE (.int 3)))) (o4 (x0 (fnX 2 (Z3 R)) (d0 (b8 0) (d0 (c7 ixD (b8 1) (cE (.int 3))) g0)))) o9) (o4 (x0 (fnX 2 (U5 R)) (d0 (b8 0) (d0 (c7 ixD (b8 1) (cE (.int 4))) g0)))))))))))))
def Q6:Nat->List D->M D
 |0=>λ_=>M.stuck
 |n+1=>u0 6 (Q4 (Q6 n))
def V9:List D->M D:=Q6 6
def sI:List D->M D:=Z3 V9
def cP:List D->M D:=U5 V9
def GG:Fs:=j8 (ifS (m7 (c7 ltD (b8 1) (x0 X7 (d0 (c7 ixD (b8 0) (cE (.int 0))) g0)))) (o4 (c7 ixD (c7 ixD (b8 0) (cE (.int 0))) (b8 1))) o9) (o4 (c7 ixD (b8 0) (cE (.int 1))))
def PD:List D->M D:=u0 2 GG
def AB:Fs:=(j8 (u9 (x0 (fnX 2 V9) (d0 (b8 0) (d0 (c7 ixD (R7 (d0 (x0 (fnX 2 PD) (d0 (b8 1) (d0 (b8 4) g0))) (d0 (x0 (fnX 2 PD) (d0 (b8 2) (d0 (b8 4) g0))) g0))) (c7 K5 (x0 (fnX 1 v7) (d0 (b8 0) g0)) (cE (.int 2)))) g0))) (y0 5)) (ifS (m7 (c7 Q1 (b8 5) (cE .non))) (F3 (mtE R5 y7 (b8 3) (d0 (b8 5) g0))) o9))
def gF:Fs:=j8 (ifS (orT (m7 (c7 E1 (b8 1) (cE .non))) (m7 (c7 E1 (b8 2) (cE .non)))) (o4 (M4 (d0 (cE (.str ("list" :Str))) (d0 (M4 g0) g0)))) o9) (j8 (u9 (R7 g0) (y0 3)) (j8 (B3 (R3 (d0 (c7 T7 (c7 F2 (x0 gA (d0 (x0 X7 (d0 (c7 ixD (b8 1) (cE (.int 0))) g0)) (d0 (x0 X7 (d0 (c7 ixD (b8 2) (cE (.int 0))) g0)) g0))) (cE (.int 1))) (c7 K5 (x0 (fnX 1 v7) (d0 (b8 0) g0)) (cE (.int 4)))) g0)) (y0 4) AB) (o4 (M4 (d0 (cE (.str ("list" :Str))) (d0 (x0 O4 (d0 (b8 3) g0)) g0))))))
def qG:List D->M D:=u0 6 gF
def vR:Fs:=j8 (B3 (itW (c7 ixD (b8 0) (cE (.int 0)))) (y0 2) (cB)) (o4 (c7 ixD (b8 0) (cE (.int 1))))
def IE:List D->M D:=u0 3 vR
def KF(R:List D->M D):Fs:=j8 (ifS (orT (m7 (c7 E1 (b8 1) (cE .non))) (m7 (c7 ltD (x0 X7 (d0 (b8 0) g0)) (x0 X7 (d0 (c7 ixD (b8 1) (cE (.int 0))) g0))))) (o4 (cE (.bl false))) o9) (j8 (u9 (c7 T7 (c7 ixD (b8 1) (cE (.int 0))) (c7 bC (M4 (d0 (c7 ixD (b8 1) (cE (.int 1))) g0)) (c7 F2 (x0 X7 (d0 (b8 0) g0)) (x0 X7 (d0 (c7 ixD (b8 1) (cE (.int 0))) g0))))) (y0 2)) (o4 (x0 C1 (d0 (J5 (iA (d0 (b8 0) (d0 (b8 2) g0))) [none,none] (A4 2 (T3 (y0 0) (T3 (y0 1) (y4)))) M5 (x0 (fnX 2 R) (d0 (b8 0) (d0 (b8 1) g0)))) g0))))
def W0(R:List D->M D):List D->M D:=u0 3 (KF R)
def X5(R:List D->M D):Fs:=j8 (ifS (m7 (c7 E1 (b8 1) (cE .non))) (o4 (cE (.bl false))) o9) (j8 (u9 (J5 (itW (b8 0)) [none] (y0 0) M5 (c7 ixD (b8 0) (cE (.int 0)))) (y0 2)) (j8 (ifS (L1 (K1 (x0 C1 (d0 (J5 (itW (c7 ixD (b8 1) (cE (.int 0)))) [none,some 2] (y0 0) (K1 (c7 ixD (b8 0) (cE (.int 1)))) (F6)) g0)))) (o4 (cE (.bl false))) o9) (o4 (x0 C1 (d0 (J5 (itW (b8 0)) [none,none,some 1] (A4 2 (T3 (y0 0) (T3 (y0 1) (y4)))) M5 (x0 (fnX 2 R) (d0 (b8 1) (d0 (x0 (fnX 2 IE) (d0 (b8 2) (d0 (b8 0) g0))) g0)))) g0)))))
def R9(R:List D->M D):List D->M D:=u0 3 (X5 R)
def NE:Fe:=(N1 (E6 (c7 E1 (b8 0) (cE .non)) (c7 leD (b8 0) (b8 2))) (E6 (c7 E1 (b8 1) (cE .non)) (c7 leD (b8 2) (b8 1))))
def dE(R:List D->M D):Fs:=j8 (ifS (m7 (c7 eqD (b8 1) (cE (.str ("any" :Str))))) (o4 (cE (.bl true))) o9) (j8 (ifS (K1 (x0 Q0 (d0 (b8 0) (d0 (cE (.ty "bool")) g0)))) (o4 (c7 inD (b8 0) (c7 ixD (b8 1) (cE (.int 2))))) o9) (j8 (ifS (K1 (x0 Q0 (d0 (b8 0) (d0 (cE (.ty "int")) g0)))) (o4 (x0 dA (d0 (J5 (itW (c7 ixD (b8 1) (cE (.int 0)))) [none,none,some 0] (A4 2 (T3 (y0 0) (T3 (y0 1) (y4)))) M5 NE) g0))) o9) (j8 (ifS (K1 (x0 Q0 (d0 (b8 0) (d0 (cE (.ty "str")) g0)))) (o4 (c7 eqD (c7 inD (b8 0) (c7 ixD (c7 ixD (b8 1) (cE (.int 1))) (cE (.int 1)))) (c7 eqD (c7 ixD (c7 ixD (b8 1) (cE (.int 1))) (cE (.int 0))) (cE (.str ("of" :Str)))))) o9) (j8 (ifS (m7 (c7 eqD (c7 ixD (b8 0) (cE (.int 0))) (cE (.str ("list" :Str))))) (o4 (x0 (fnX 2 (W0 R)) (d0 (c7 ixD (b8 0) (cE (.int 1))) (d0 (c7 ixD (b8 1) (cE (.int 3))) g0)))) o9) (o4 (x0 (fnX 2 (R9 R)) (d0 (c7 ixD (b8 0) (cE (.int 1))) (d0 (c7 ixD (b8 1) (cE (.int 4))) g0))))))))
def oE:Nat->List D->M D
 |0=>λ_=>M.stuck
 |n+1=>u0 2 (dE (oE n))
def F9:List D->M D:=oE 6
def uM:List D->M D:=W0 F9
def GQ:List D->M D:=R9 F9
def LE1:Fe:=(J5 (R3 (d0 (cE (.int 6)) g0)) [none,some 1,some 2,some 3] (y0 0) M5 (x0 (fnX 3 qG) (d0 (b8 3) (d0 (c7 ixD (b8 1) (cE (.int 3))) (d0 (c7 ixD (b8 2) (cE (.int 3))) g0)))))
def LE2:Fe:=(J5 (R3 (d0 (cE (.int 3)) g0)) [none,some 3] (y0 0) M5 (x0 (fnX 2 iH) (d0 (b8 1) (d0 (cE (.int 2)) g0))))
def LE3:Fe:=(J5 (R3 (d0 (cE (.int 3)) g0)) [none,some 3,some 6] (y0 0) M5 (x0 (fnX 2 sI) (d0 (b8 1) (d0 (c7 ixD (b8 2) (cE (.int 3))) g0))))
def LB:Fs:=(ifS (m7 (c7 Q1 (c7 ixD (b8 6) (cE (.int 3))) (cE .non))) (u9 (c7 T7 (b8 5) LE3) (y0 5)) o9)
def FB:Fs:=(ifS (m7 (c7 neD (x0 (fnX 2 F9) (d0 (b8 7) (d0 (b8 4) g0))) (N1 (x0 (fnX 2 F9) (d0 (b8 7) (d0 (b8 1) g0))) (x0 (fnX 2 F9) (d0 (b8 7) (d0 (b8 2) g0)))))) (o4 (cE (.bl false))) o9)
def bF:Fs:=j8 (u9 (x0 (fnX 1 Q7) (d0 (x0 (fnX 4 O7) (d0 (b8 0) (d0 (cE (.int 0)) (d0 (cE (.int 3)) (d0 (cE (.int 60)) g0))))) g0)) (y0 1)) (j8 (u9 (x0 (fnX 1 Q7) (d0 (x0 (fnX 4 O7) (d0 (b8 0) (d0 (cE (.int 1)) (d0 (cE (.int 3)) (d0 (cE (.int 60)) g0))))) g0)) (y0 2)) (j8 (u9 (x0 (fnX 4 O7) (d0 (b8 0) (d0 (cE (.int 2)) (d0 (cE (.int 3)) (d0 (cE (.int 90)) g0))))) (y0 3)) (j8 (u9 (x0 (fnX 2 E9) (d0 (b8 1) (d0 (b8 2) g0))) (y0 4)) (j8 (ifS (orT (m7 (c7 Q1 (x0 (fnX 1 NC) (d0 (b8 4) g0)) (cE (.bl true)))) (orT (m7 (c7 neD (B5 (b8 4) (y6) (N2 (cE (.int 3)))) (B5 (x0 (fnX 0 J8) g0) (y6) (N2 (cE (.int 3)))))) (m7 (c7 Q1 (c7 ixD (b8 4) (cE (.int 4))) (cE .non))))) (o4 (cE (.bl false))) o9) (j8 (u9 (c7 T7 LE1 LE2) (y0 5)) (j8 (B3 (itW (M4 (d0 (b8 1) (d0 (b8 2) (d0 (b8 4) g0))))) (y0 6) LB) (j8 (B3 (itW (b8 5)) (y0 7) FB) (o4 (c7 eqD (x0 (fnX 2 E9) (d0 (b8 2) (d0 (b8 1) g0))) (b8 4))))))))))
def KH:List D->M D:=u0 8 bF
local macro_rules | `(tactic| walk_at "cl") => `(tactic| (refine ⟨?k, ?kk, ?a, ?b, ?c⟩; (case a => first | (dsimp only [Cx.nox, u7]; with_reducible assumption) | assumption); (case b => assumption); (case c => first | decide | omega)))
local macro_rules | `(tactic| walk_at "ck") => `(tactic| (refine ⟨?k, ?kk, ?kkk, ?a, ?b, ?c, ?d⟩; (case a => assumption); (case b => rfl); (case c => rfl); (case d => decide +kernel)))
local macro_rules | `(tactic| walk_at "od") => `(tactic| first
 |with_reducible exact fT
 |with_reducible exact nS
 |with_reducible exact UK
 |with_reducible exact uX
 |with_reducible exact FY
 |with_reducible exact Tv
 |with_reducible exact Qz
 |with_reducible exact MS
 |with_reducible exact dY
 |with_reducible exact qU
 |with_reducible exact EY
 |with_reducible exact UT
 |((with_reducible refine aX ?_);exact V5.units (by assumption))
 |((with_reducible refine OU ?_);exact V5.units (by assumption))
 |((with_reducible refine CU ?_);exact V5.units (by assumption))
 |((with_reducible refine wY ?_);exact V5.units (by assumption))
 |((with_reducible refine qY ?_);exact V5.units (by assumption))
 |((with_reducible refine OV ?_);exact V5.units (by assumption)))
local macro_rules | `(tactic| walk_at "bd") => `(tactic| first
 |with_reducible exact Nz
 |with_reducible exact bU9
 |with_reducible exact fG2
 |with_reducible exact fY
 |with_reducible exact kg
 |with_reducible exact Fb
 |with_reducible exact Wv
 |with_reducible exact mW
 |with_reducible exact DZ
 |with_reducible exact US
 |with_reducible exact eD7)
local macro_rules | `(tactic| walk_at "da") => `(tactic| first
 |with_reducible exact AH
 |((with_reducible refine uU ?_ ?_ ?_);walk_at "de";walk_at "da";rfl))
local macro_rules | `(tactic| walk_at "do") => `(tactic| first
 |with_reducible exact eL8
 |((with_reducible refine MZ ?_);walk_at "de"))
local macro_rules | `(tactic| walk_at "pk") => `(tactic| first | exact Vc | ((apply Kc); walk_at "pk"; walk_at "pk"; (unfold A9; decide); rfl) | ((apply fE5); walk_at "pk"; walk_at "pk"; rfl))
local macro_rules | `(tactic| walk_at "de") => `(tactic| first
 |with_reducible exact kj
 |with_reducible exact fK8
 |with_reducible exact RX
 |with_reducible exact eW3
 |((with_reducible refine Pc _ ?_ ?_ ?_ ?_);rfl;(first|exact Or.inl rfl|exact Or.inr (Or.inl rfl)|exact Or.inr (Or.inr rfl));decide;decide)
 |((with_reducible refine fF0 ?_ ?_ ?_ ?_ ?_ ?_);assumption;decide;decide +kernel;rfl;decide;decide)
 |((with_reducible refine Fv ?_ ?_ ?_);assumption;rfl;decide)
 |((with_reducible refine sX ?_ ?_ ?_);walk_at "od";walk_at "de";walk_at "de")
 |((with_reducible refine fL6 cZ ?_);walk_at "de")
 |((with_reducible refine uS ?_);walk_at "de")
 |((with_reducible refine FZ ?_ ?_ ?_ ?_);walk_at "od";walk_at "de";walk_at "de";with_unfolding_all rfl)
 |((with_reducible refine Lf ?_ ?_ ?_ ?_ ?_ ?_);walk_at "od";walk_at "od";walk_at "de";walk_at "de";walk_at "de";with_unfolding_all rfl)
 |((with_reducible refine Lw ?_);walk_at "de")
 |((with_reducible refine oS ?_ ?_);walk_at "de";walk_at "de")
 |((with_reducible refine Bv ?_ ?_);walk_at "de";walk_at "de")
 |((with_reducible refine ww ?_ ?_ ?_);walk_at "dt";walk_at "de";walk_at "de")
 |((with_reducible refine SV ?_);walk_at "da")
 |((with_reducible refine fB8 ?_);walk_at "da")
 |with_reducible exact Wj
 |((with_reducible refine QV ?_ ?_ ?_);walk_at "de";walk_at "do";walk_at "do")
 |((with_reducible refine FS ?_ ?_ ?_ ?_);walk_at "de";walk_at "do";walk_at "do";walk_at "do")
 |with_reducible exact QZ
 |((with_reducible refine Rj ?_ ?_ ?_);walk_at "de";walk_at "de";exact λ_ _=>rfl)
 |((with_reducible refine Dv ?_ ?_ ?_);walk_at "de";walk_at "de";exact λ_ _=>rfl)
 |((with_reducible refine qh ?_ ?_ ?_ ?_ ?_ ?_);walk_at "de";rfl;assumption;rfl;rfl;rfl)
 |((with_reducible refine Sh ?_ ?_ ?_ ?_ ?_);walk_at "cl";rfl;walk_at "da";decide;rfl)
 |((with_reducible refine GX ?_ ?_ ?_);walk_at "cl";rfl;decide)
 |((with_reducible refine EU ?_ ?_ ?_ ?_ ?_);rfl;assumption;rfl;walk_at "de";rfl)
 |((with_reducible refine qj ?_ ?_ ?_ ?_ ?_ ?_ ?_ ?_);rfl;assumption;rfl;rfl;walk_at "de";walk_at "de";rfl;rfl)
 |((with_reducible refine eL3 ?_ ?_ ?_ ?_ ?_);rfl;assumption;rfl;walk_at "de";rfl)
 |((with_reducible refine Lp ?_ ?_ ?_ ?_ ?_ ?_ ?_ ?_);rfl;walk_at "cl";assumption;rfl;rfl;walk_at "de";rfl;decide)
 |((with_reducible refine eS8 ?_ ?_ ?_ ?_ ?_ ?_ ?_ ?_ ?_);rfl;walk_at "bd";assumption;decide +kernel;rfl;walk_at "da";decide;decide;rfl)
 |((with_reducible refine MQ Jr PySem.F.type_list_append dX ?_ ?_ ?_ ?_ ?_ ?_ ?_);walk_at "de";walk_at "da";rfl;rfl;rfl;exact a8 rfl;rfl)
 |((with_reducible refine MQ Jq PySem.F.type_list_extend dF4 ?_ ?_ ?_ ?_ ?_ ?_ ?_);walk_at "de";walk_at "da";rfl;rfl;rfl;exact a8 rfl;rfl)
 |((with_reducible refine tV PySem.F.slot_str_join PySem.F.type_str_join sY ?_ ?_ ?_ ?_ ?_ ?_ ?_);walk_at "de";walk_at "da";rfl;rfl;rfl;exact a8 rfl;rfl)
 |((with_reducible refine Kh PySem.F.slot_list_pop PySem.F.type_list_pop PX ?_ ?_ ?_);walk_at "de";rfl;rfl)
 |((with_reducible refine eJ2 ?_ ?_ ?_ ?_ ?_ ?_ ?_ ?_);rfl;walk_at "di";walk_at "ck";decide +kernel;(intro _ _ _ _ _;walk_at "dg");(intro _ _ _ _;walk_at "dts");(intro _ _ _ _;walk_at "de");exact λ_=>rfl))
local macro_rules | `(tactic| walk_at "dt") => `(tactic| first
 |((with_reducible refine DW.dt ?_);walk_at "dw")
 |((with_reducible refine Vj ?_);walk_at "dt")
 |((with_reducible refine fB2 ?_ ?_ ?_ ?_);walk_at "od";walk_at "de";walk_at "de";with_unfolding_all rfl)
 |((with_reducible refine Wg ?_ ?_ ?_ ?_ ?_ ?_);walk_at "od";walk_at "od";walk_at "de";walk_at "de";walk_at "de";with_unfolding_all rfl)
 |((with_reducible refine dV5 ?_ ?_);walk_at "de";exact λ_=>rfl))
local macro_rules | `(tactic| walk_at "dw") => `(tactic| first
 |((with_reducible refine eF4 ?_);walk_at "dt")
 |((with_reducible refine AZ ?_);walk_at "dt")
 |((with_reducible refine sS ?_ ?_);walk_at "dt";walk_at "dw")
 |((with_reducible refine HV ?_ ?_);walk_at "dt";walk_at "dw"))
local macro_rules | `(tactic| walk_at "dts") => `(tactic| first
 |with_reducible exact eF7
 |((with_reducible refine eK9 ?_);walk_at "dt"))
local macro_rules | `(tactic| walk_at "di") => `(tactic| first
 |((with_reducible refine Vp ?_ ?_ ?_ ?_);assumption;rfl;walk_at "da";rfl)
 |((with_reducible refine fT5 ?_ ?_ ?_ ?_ ?_);assumption;rfl;walk_at "da";rfl;rfl)
 |((with_reducible refine cU ?_);walk_at "de"))
local macro_rules | `(tactic| walk_at "dg") => `(tactic| first
 |((with_reducible refine Tq ?_ ?_ ?_ ?_);exact⟨_,_,_, ‹x5 _ _ _›,rfl⟩;rfl;(first|exact Or.inl rfl|exact Or.inr rfl);(first|exact .inl rfl|exact .inr rfl))
 |((with_reducible refine MM ?_ ?_ ?_ ?_);assumption;rfl;(first|exact Or.inl rfl|exact Or.inr rfl);(first|exact .inl rfl|exact .inr rfl))
 |((with_reducible refine Vq ?_ ?_ ?_ ?_);rfl;walk_at "dgs";rfl;rfl)
 |((with_reducible refine fA5 ?_ ?_ ?_ ?_);exact V5.units (by assumption);walk_at "de";walk_at "de";exact λ_=>rfl))
local macro_rules | `(tactic| walk_at "dgs") => `(tactic| first
 |with_reducible exact vc
 |((with_reducible refine wS ?_ ?_ ?_);walk_at "dg";walk_at "dgs";rfl))
local macro_rules | `(tactic| walk_at "ds") => `(tactic| first
 |((with_reducible refine hX ?_);walk_at "de")
 |((with_reducible refine Cg ?_ ?_ ?_);walk_at "dt";walk_at "db";walk_at "db")
 |((with_reducible refine dR4 ?_ ?_ ?_ ?_ ?_ ?_ ?_ ?_ ?_ ?_);rfl;walk_at "di";walk_at "ck";decide +kernel;(intro _ _ _ _ _;walk_at "dg");(intro _ _ _ _;walk_at "dts");(intro _ _ _ _;walk_at "de");(exact λ_=>rfl);walk_at "dg";rfl)
 |((with_reducible refine MX ?_ ?_ ?_ ?_ ?_);walk_at "de";walk_at "dg";rfl;rfl;rfl)
 |((with_reducible refine eM6 ?_ ?_);walk_at "de";rfl)
 |((with_reducible refine eV5 ?_ ?_ ?_ ?_ ?_ ?_);exact JD;rfl;walk_at "di";walk_at "dg";walk_at "db";exact λ_=>rfl)
 |((with_reducible refine nX ?_ ?_ ?_);exact JD;walk_at "dt";walk_at "db")
 |with_reducible exact vm)
local macro_rules | `(tactic| walk_at "db") => `(tactic| first
 |with_reducible exact eR8
 |((with_reducible refine SL ?_);walk_at "ds")
 |((with_reducible refine MO ?_ ?_);walk_at "ds";walk_at "db"))
local macro_rules | `(tactic| walk_at "db0") => `(tactic| first
 |(refine SL ?_;walk_at "ds")
 |(refine MO ?_ ?_;walk_at "ds";walk_at "db"))
set_option maxHeartbeats 2000000
local macro_rules | `(tactic| walk_at "sc") => `(tactic| exact ⟨rfl, rfl, rfl, by decide +kernel, rfl, by decide +kernel, by decide +kernel⟩)
local macro_rules | `(tactic| walk_at "ba") => `(tactic| (intro _ _ _ _ _ _ us h; (repeat (have q := fP2 h; clear h; obtain ⟨_, _, e, h⟩ := q; subst e)); cases List.eq_nil_of_length_eq_zero h; rfl))
abbrev dP:D:=.tup [.tup [],.tup [.str ("of" :Str),.tup []],.tup [],.non,.non]
abbrev rO:D:=.tup [.tup [.tup [.non,.non]],.tup [.str ("but" :Str),.tup []],.tup [.bl false,.bl true],.tup [.tup [],.str ("any" :Str)],.tup [.tup [],.str ("any" :Str)]]
abbrev bR:D:=.str ("any" :Str)
structure BC(K:zh)(mg:Str->Option zk):Prop where
 b:BLs mg
 c_NOTHING:GC K mg "NOTHING" dP
 c_ALL_PARTS:GC K mg "ALL_PARTS" rO
 c_ANY:GC K mg "ANY" bR
local macro_rules | `(tactic| walk_at "s1") => `(tactic| (walk_at "sc"; walk_at "ba"; (intro _ _ _ _ _ _ _ _ _; obtain ⟨_, _, _, _⟩ := (‹_› : BC _ _); skip)))
def top(i:Nat):Stmt:=PySem.Challenge.pw_allmeet_k21_meets_of_lists.main.body.getD i (.Pass ⟨0,0,0,0⟩)
section
variable{E:Ev}(zx:EvX E)(zb:BC E.K E.mg)
include zx zb
theorem wq(Y:FH E.K "_law_none" (top 63)):Ck E J8 0 "_law_none" 1:=by
 refine M8 [] [] zx Y ?_ ?_ rfl rfl ?_;walk_at "s1";unfold VQ;walk_at "db0"
variable(k0:Ck E J8 0 "_law_none" 1)
theorem Vk(Y:FH E.K "_law_next" (top 55)):Ck E v7 1 "_law_next" 1:=by
 refine M8 ["purse"] ["purse"] zx Y ?_ ?_ rfl rfl ?_;walk_at "s1";unfold PH;walk_at "db0"
variable(k1:Ck E v7 1 "_law_next" 1)
include k1 in
theorem Rf(Y:FH E.K "_law_few" (top 56)):Ck E S9 1 "_law_few" 2:=by
 refine M8 ["purse", "number"] ["purse"] zx Y ?_ ?_ rfl rfl ?_;walk_at "s1";unfold fJ;walk_at "db0"
variable(k2:Ck E S9 1 "_law_few" 2)
include k1 in
theorem cA8(Y:FH E.K "_law_size" (top 57)):Ck E U7 1 "_law_size" 2:=by
 refine M8 ["purse", "number"] ["purse"] zx Y ?_ ?_ rfl rfl ?_;walk_at "s1";unfold II;walk_at "db0"
variable(k3:Ck E U7 1 "_law_size" 2)
include k1 k2 k3 in
theorem bB4(Y:FH E.K "_law_stretches" (top 58)):Ck E T6 1 "_law_stretches" 3:=by
 refine M8 ["purse", "found", "at", "k", "low", "ends"] ["purse"] zx Y ?_ ?_ rfl rfl ?_;walk_at "s1";unfold cH;unfold SB SC2 SC1;walk_at "db0"
variable(k4:Ck E T6 1 "_law_stretches" 3)
include k1 in
theorem Nj(Y:FH E.K "_law_records" (top 67)):Ck E Z2 2 "_law_records" 2:=by
 refine M8 ["purse", "deep", "pick", "more", "fields", "name", "inner", "must"] ["purse", "deep"] zx Y ?_ ?_ rfl rfl ?_;walk_at "s1";unfold uF;walk_at "db0"
variable(k5:Ck E Z2 2 "_law_records" 2)
theorem vW(Y:FH E.K "_law_every" (top 64)):Ck E qB 0 "_law_every" 1:=by
 refine M8 [] [] zx Y ?_ ?_ rfl rfl ?_;walk_at "s1";unfold dM;walk_at "db0"
variable(k6:Ck E qB 0 "_law_every" 1)
include k1 in
theorem Kx(Y:FH E.K "_law_word" (top 59)):Ck E bE 1 "_law_word" 2:=by
 refine M8 ["purse", "number"] ["purse"] zx Y ?_ ?_ rfl rfl ?_;walk_at "s1";unfold CK;walk_at "db0"
variable(k7:Ck E bE 1 "_law_word" 2)
theorem Hw(Y:FH E.K "_law_rank" (top 60)):Ck E P0 1 "_law_rank" 1:=by
 refine M8 ["word"] ["word"] zx Y ?_ ?_ rfl rfl ?_;walk_at "s1";unfold tI;walk_at "db0"
variable(k8:Ck E P0 1 "_law_rank" 1)
include k2 k7 k8 in
theorem Pv(Y:FH E.K "_law_words" (top 61)):Ck E BB 1 "_law_words" 4:=by
 refine M8 ["purse", "words", "k", "word"] ["purse"] zx Y ?_ ?_ rfl rfl ?_;walk_at "s1";unfold QG;unfold WB;walk_at "db0"
variable(k9:Ck E BB 1 "_law_words" 4)
include k0 k1 k4 k5 k6 k9 in
theorem fO{R:List D->M D}{lv:Nat}(kR:Ck E R 2 "_law_lists" lv)(h2:4<=lv)(Y:FH E.K "_law_set" (top 68)):Ck E (S8 R) 2 "_law_set" (lv+1):=by
 refine M8 ["purse", "deep", "pick", "parts", "at", "share", "other"] ["purse", "deep"] zx Y ?_ ?_ rfl rfl ?_;walk_at "s1";unfold EF;unfold I5;walk_at "db0"
include k0 in
theorem FL{R:List D->M D}{lv:Nat}(kR:Ck E R 2 "_law_lists" lv)(h11:Ck E (S8 R) 2 "_law_set" (lv+1))(h2:4<=lv)(Y:FH E.K "_law_more" (top 65)):Ck E (tD R) 3 "_law_more" (lv+2):=by
 refine M8 ["purse", "pick", "deep"] ["purse", "pick", "deep"] zx Y ?_ ?_ rfl rfl ?_;walk_at "s1";unfold BE;walk_at "db0"
include k0 k1 k2 in
theorem Bf{R:List D->M D}{lv:Nat}(kR:Ck E R 2 "_law_lists" lv)(h11:Ck E (S8 R) 2 "_law_set" (lv+1))(h12:Ck E (tD R) 3 "_law_more" (lv+2))(h2:4<=lv)(Y:FH E.K "_law_lists" (top 66)):Ck E (u0 5 (TB R)) 2 "_law_lists" (lv+3):=by
 refine M8 ["purse", "deep", "pick", "more", "fronts"] ["purse", "deep"] zx Y ?_ ?_ rfl rfl ?_;walk_at "s1";unfold TB;walk_at "db0"
section
variable(Y:FH E.K "_law_lists" (top 66))(Y11:FH E.K "_law_set" (top 68))(Y12:FH E.K "_law_more" (top 65))
include Y Y11 Y12 k0 k1 k2 k4 k5 k6 k9
theorem wO:∀n,Ck E (kB n) 2 "_law_lists" (4+3*n)
 |0=>GD ["purse", "deep"] zx Y (by walk_at "ba") rfl
 |n+1=>by
   have kR:=wO n
   have h11:=fO zx zb k0 k1 k4 k5 k6 k9 kR (jl _ _) Y11
   have h12:=FL zx zb k0 kR h11 (jl _ _) Y12
   exact Bf zx zb k0 k1 k2 kR h11 h12 (jl _ _) Y
end
include k0 k1 k2 k4 k5 k6 k9 in
theorem tU(Y:FH E.K "_law_lists" (top 66))(Y11:FH E.K "_law_set" (top 68))(Y12:FH E.K "_law_more" (top 65)):Ck E mE 2 "_law_lists" 184:=wO zx zb k0 k1 k2 k4 k5 k6 k9 Y Y11 Y12 60
variable(k10:Ck E mE 2 "_law_lists" 184)
include k0 k1 k4 k5 k6 k9 k10 in
theorem Ph(Y:FH E.K "_law_set" (top 68)):Ck E qH 2 "_law_set" 185:=fO zx zb k0 k1 k4 k5 k6 k9 k10 (by decide) Y
variable(k11:Ck E qH 2 "_law_set" 185)
include k0 k10 k11 in
theorem oU(Y:FH E.K "_law_more" (top 65)):Ck E LK 3 "_law_more" 186:=FL zx zb k0 k10 k11 (by decide) Y
variable(k12:Ck E LK 3 "_law_more" 186)
include k0 k1 k10 k11 in
theorem tY(Y:FH E.K "_law_of_lists" (top 79)):Ck E Q7 1 "_law_of_lists" 186:=by
 refine M8 ["purse", "part", "fronts"] ["purse"] zx Y ?_ ?_ rfl rfl ?_;walk_at "s1";unfold kF;unfold OE;walk_at "db0"
variable(k13:Ck E Q7 1 "_law_of_lists" 186)
theorem kc(Y:FH E.K "_law_mixed" (top 53)):Ck E OC 2 "_law_mixed" 1:=by
 refine M8 ["cell", "k", "number"] ["cell", "k"] zx Y ?_ ?_ rfl rfl ?_;walk_at "s1";unfold WH;walk_at "db0"
variable(k14:Ck E OC 2 "_law_mixed" 1)
include k14 in
theorem Dd(Y:FH E.K "_law_purse" (top 54)):Ck E O7 4 "_law_purse" 2:=by
 refine M8 ["script", "at", "step", "many", "cells", "rests", "purse", "k", "place"] ["script", "at", "step", "many"] zx Y ?_ ?_ rfl rfl ?_;walk_at "s1";unfold sH;unfold PT PR PB;walk_at "db0"
variable(k15:Ck E O7 4 "_law_purse" 2)
theorem TX(Y:FH E.K "lists_in_form" (top 45)):Ck E eF 1 "lists_in_form" 1:=by
 refine M8 ["lists"] ["lists"] zx Y ?_ ?_ rfl rfl ?_;walk_at "s1";unfold AK;walk_at "db0"
variable(k16:Ck E eF 1 "lists_in_form" 1)
theorem Fq(Y:FH E.K "records_in_form" (top 46)):Ck E W8 1 "records_in_form" 1:=by
 refine M8 ["records"] ["records"] zx Y ?_ ?_ rfl rfl ?_;walk_at "s1";unfold X3;walk_at "db0"
variable(k17:Ck E W8 1 "records_in_form" 1)
include k16 k17 in
theorem eI2(Y:FH E.K "made" (top 44)):Ck E qF 5 "made" 2:=by
 refine M8 ["numbers", "texts", "truths", "lists", "records", "parts"] ["numbers", "texts", "truths", "lists", "records"] zx Y ?_ ?_ rfl rfl ?_;walk_at "s1";unfold IK;walk_at "db0"
variable(k18:Ck E qF 5 "made" 2)
theorem Sj(Y:FH E.K "nearer_low" (top 17)):Ck E ME 2 "nearer_low" 1:=by
 refine M8 ["one", "other"] ["one", "other"] zx Y ?_ ?_ rfl rfl ?_;walk_at "s1";unfold CN;walk_at "db0"
variable(k19:Ck E ME 2 "nearer_low" 1)
theorem bR8(Y:FH E.K "nearer_high" (top 18)):Ck E wE 2 "nearer_high" 1:=by
 refine M8 ["one", "other"] ["one", "other"] zx Y ?_ ?_ rfl rfl ?_;walk_at "s1";unfold wN;walk_at "db0"
variable(k20:Ck E wE 2 "nearer_high" 1)
theorem AW(Y:FH E.K "ends_first" (top 19)):Ck E bH 2 "ends_first" 1:=by
 refine M8 ["one", "other"] ["one", "other"] zx Y ?_ ?_ rfl rfl ?_;walk_at "s1";unfold NN;walk_at "db0"
variable(k21:Ck E bH 2 "ends_first" 1)
theorem cL0(Y:FH E.K "is_empty" (top 11)):Ck E fE 2 "is_empty" 1:=by
 refine M8 ["low", "high"] ["low", "high"] zx Y ?_ ?_ rfl rfl ?_;walk_at "s1";unfold nL;walk_at "db0"
variable(k22:Ck E fE 2 "is_empty" 1)
include k19 k20 k21 k22 in
theorem pT(Y:FH E.K "meet_numbers" (top 16)):Ck E lH 2 "meet_numbers" 2:=by
 refine M8 ["one", "other", "met", "here", "there", "low", "high"] ["one", "other"] zx Y ?_ ?_ rfl rfl ?_;walk_at "s1";unfold cG;unfold MB MT;walk_at "db0"
variable(k23:Ck E lH 2 "meet_numbers" 2)
theorem lY(Y:FH E.K "marked" (top 21)):Ck E vA 1 "marked" 1:=by
 refine M8 ["texts"] ["texts"] zx Y ?_ ?_ rfl rfl ?_;walk_at "s1";unfold QI;walk_at "db0"
variable(k24:Ck E vA 1 "marked" 1)
theorem qp(Y:FH E.K "text_order" (top 7)):Ck E O2 1 "text_order" 1:=by
 refine M8 ["text"] ["text"] zx Y ?_ ?_ rfl rfl ?_;walk_at "s1";unfold BK;walk_at "db0"
variable(k25:Ck E O2 1 "text_order" 1)
include k24 k25 in
theorem Qw(Y:FH E.K "rising_texts" (top 22)):Ck E Z9 1 "rising_texts" 4:=by
 refine M8 ["texts"] ["texts"] zx Y ?_ ?_ rfl rfl ?_;walk_at "s1";unfold nI;walk_at "db0"
variable(k26:Ck E Z9 1 "rising_texts" 4)
include k26 in
theorem Pb(Y:FH E.K "in_either" (top 25)):Ck E qD 2 "in_either" 5:=by
 refine M8 ["one", "other"] ["one", "other"] zx Y ?_ ?_ rfl rfl ?_;walk_at "s1";unfold WJ;walk_at "db0"
variable(k27:Ck E qD 2 "in_either" 5)
include k24 in
theorem Lh(Y:FH E.K "in_both" (top 23)):Ck E wD 2 "in_both" 2:=by
 refine M8 ["one", "other", "there"] ["one", "other"] zx Y ?_ ?_ rfl rfl ?_;walk_at "s1";unfold qK;walk_at "db0"
variable(k28:Ck E wD 2 "in_both" 2)
include k24 in
theorem Sz(Y:FH E.K "without" (top 24)):Ck E GB 2 "without" 2:=by
 refine M8 ["one", "other", "there"] ["one", "other"] zx Y ?_ ?_ rfl rfl ?_;walk_at "s1";unfold gK;walk_at "db0"
variable(k29:Ck E GB 2 "without" 2)
include k27 k28 k29 in
theorem pY(Y:FH E.K "meet_texts" (top 20)):Ck E WD 2 "meet_texts" 6:=by
 refine M8 ["one", "other"] ["one", "other"] zx Y ?_ ?_ rfl rfl ?_;walk_at "s1";unfold AJ;walk_at "db0"
variable(k30:Ck E WD 2 "meet_texts" 6)
theorem QT(Y:FH E.K "front_at" (top 30)):Ck E AC 2 "front_at" 1:=by
 refine M8 ["lists", "place"] ["lists", "place"] zx Y ?_ ?_ rfl rfl ?_;walk_at "s1";unfold pK;walk_at "db0"
variable(k31:Ck E AC 2 "front_at" 1)
theorem gT(Y:FH E.K "fields_by_name" (top 31)):Ck E T9 1 "fields_by_name" 1:=by
 refine M8 ["records"] ["records"] zx Y ?_ ?_ rfl rfl ?_;walk_at "s1";unfold DF;walk_at "db0"
variable(k32:Ck E T9 1 "fields_by_name" 1)
include k32 in
theorem vT(Y:FH E.K "fields_beside" (top 51)):Ck E AF 2 "fields_beside" 2:=by
 refine M8 ["one", "other", "here", "there"] ["one", "other"] zx Y ?_ ?_ rfl rfl ?_;walk_at "s1";unfold RF;walk_at "db0"
variable(k33:Ck E AF 2 "fields_beside" 2)
include k31 in
theorem oN{R:List D->M D}{lv:Nat}(kR:Ck E R 2 "meet" lv)(h2:6<=lv)(Y:FH E.K "meet_lists" (top 49)):Ck E (gD R) 2 "meet_lists" (lv+1):=by
 refine M8 ["one", "other", "longer", "fronts"] ["one", "other"] zx Y ?_ ?_ rfl rfl ?_;walk_at "s1";unfold WF;walk_at "db0"
include k33 in
theorem fN{R:List D->M D}{lv:Nat}(kR:Ck E R 2 "meet" lv)(h2:6<=lv)(Y:FH E.K "meet_records" (top 50)):Ck E (Z7 R) 2 "meet_records" (lv+1):=by
 refine M8 ["one", "other", "fields"] ["one", "other"] zx Y ?_ ?_ rfl rfl ?_;walk_at "s1";unfold oG;walk_at "db0"
include k18 k23 k30 in
theorem QU{R:List D->M D}{lv:Nat}(kR:Ck E R 2 "meet" lv)(h35:Ck E (gD R) 2 "meet_lists" (lv+1))(h36:Ck E (Z7 R) 2 "meet_records" (lv+1))(h2:6<=lv)(Y:FH E.K "meet" (top 48)):Ck E (u0 2 (TD R)) 2 "meet" (lv+2):=by
 refine M8 ["one", "other"] ["one", "other"] zx Y ?_ ?_ rfl rfl ?_;walk_at "s1";unfold TD;walk_at "db0"
section
variable(Y:FH E.K "meet" (top 48))(Y35:FH E.K "meet_lists" (top 49))(Y36:FH E.K "meet_records" (top 50))
include Y Y35 Y36 k18 k23 k30 k31 k33
theorem oR:∀n,Ck E (SD n) 2 "meet" (6+2*n)
 |0=>GD ["one", "other"] zx Y (by walk_at "ba") rfl
 |n+1=>by
   have kR:=oR n
   have h35:=oN zx zb k31 kR (jl _ _) Y35
   have h36:=fN zx zb k33 kR (jl _ _) Y36
   exact QU zx zb k18 k23 k30 kR h35 h36 (jl _ _) Y
end
include k18 k23 k30 k31 k33 in
theorem SU(Y:FH E.K "meet" (top 48))(Y35:FH E.K "meet_lists" (top 49))(Y36:FH E.K "meet_records" (top 50)):Ck E E9 2 "meet" 14:=oR zx zb k18 k23 k30 k31 k33 Y Y35 Y36 4
variable(k34:Ck E E9 2 "meet" 14)
include k31 k34 in
theorem iS(Y:FH E.K "meet_lists" (top 49)):Ck E wL 2 "meet_lists" 15:=oN zx zb k31 k34 (by decide) Y
variable(k35:Ck E wL 2 "meet_lists" 15)
include k33 k34 in
theorem Tz(Y:FH E.K "meet_records" (top 50)):Ck E ON 2 "meet_records" 15:=fN zx zb k33 k34 (by decide) Y
variable(k36:Ck E ON 2 "meet_records" 15)
theorem Pw(Y:FH E.K "is_couple" (top 33)):Ck E UE 1 "is_couple" 1:=by
 refine M8 ["thing"] ["thing"] zx Y ?_ ?_ rfl rfl ?_;walk_at "s1";unfold uR;walk_at "db0"
variable(k37:Ck E UE 1 "is_couple" 1)
include k37 in
theorem hW(Y:FH E.K "has_lists_form" (top 35)):Ck E bG 1 "has_lists_form" 2:=by
 refine M8 ["thing"] ["thing"] zx Y ?_ ?_ rfl rfl ?_;walk_at "s1";unfold bS;walk_at "db0"
variable(k38:Ck E bG 1 "has_lists_form" 2)
theorem DX(Y:FH E.K "rising" (top 5)):Ck E uB 1 "rising" 1:=by
 refine M8 ["keys"] ["keys"] zx Y ?_ ?_ rfl rfl ?_;walk_at "s1";unfold aL;walk_at "db0"
variable(k39:Ck E uB 1 "rising" 1)
theorem kh(Y:FH E.K "names_of" (top 6)):Ck E KJ 1 "names_of" 1:=by
 refine M8 ["pairs"] ["pairs"] zx Y ?_ ?_ rfl rfl ?_;walk_at "s1";unfold tN;walk_at "db0"
variable(k40:Ck E KJ 1 "names_of" 1)
include k37 k39 k40 in
theorem Df(Y:FH E.K "has_records_form" (top 36)):Ck E V6 1 "has_records_form" 2:=by
 refine M8 ["thing"] ["thing"] zx Y ?_ ?_ rfl rfl ?_;walk_at "s1";unfold V8;walk_at "db0"
variable(k41:Ck E V6 1 "has_records_form" 2)
theorem Nh(Y:FH E.K "lies_clear" (top 12)):Ck E NF 2 "lies_clear" 1:=by
 refine M8 ["lower", "upper"] ["lower", "upper"] zx Y ?_ ?_ rfl rfl ?_;walk_at "s1";unfold sL;walk_at "db0"
variable(k42:Ck E NF 2 "lies_clear" 1)
theorem gX(Y:FH E.K "is_whole" (top 1)):Ck E oI 1 "is_whole" 1:=by
 refine M8 ["thing"] ["thing"] zx Y ?_ ?_ rfl rfl ?_;walk_at "s1";unfold qR;walk_at "db0"
variable(k43:Ck E oI 1 "is_whole" 1)
include k43 in
theorem Lq(Y:FH E.K "is_end" (top 9)):Ck E VE 1 "is_end" 2:=by
 refine M8 ["thing"] ["thing"] zx Y ?_ ?_ rfl rfl ?_;walk_at "s1";unfold FM;walk_at "db0"
variable(k44:Ck E VE 1 "is_end" 2)
include k22 k44 in
theorem Mz(Y:FH E.K "is_stretch" (top 10)):Ck E SG 1 "is_stretch" 3:=by
 refine M8 ["thing"] ["thing"] zx Y ?_ ?_ rfl rfl ?_;walk_at "s1";unfold UQ;walk_at "db0"
variable(k45:Ck E SG 1 "is_stretch" 3)
include k42 k45 in
theorem Hj(Y:FH E.K "is_numbers" (top 13)):Ck E nF 1 "is_numbers" 4:=by
 refine M8 ["thing"] ["thing"] zx Y ?_ ?_ rfl rfl ?_;walk_at "s1";unfold mM;walk_at "db0"
variable(k46:Ck E nF 1 "is_numbers" 4)
theorem qm(Y:FH E.K "is_tagged" (top 4)):Ck E mH 2 "is_tagged" 1:=by
 refine M8 ["thing", "word"] ["thing", "word"] zx Y ?_ ?_ rfl rfl ?_;walk_at "s1";unfold mQ;walk_at "db0"
variable(k47:Ck E mH 2 "is_tagged" 1)
theorem nV(Y:FH E.K "is_text" (top 2)):Ck E tF 1 "is_text" 1:=by
 refine M8 ["thing"] ["thing"] zx Y ?_ ?_ rfl rfl ?_;walk_at "s1";unfold CM;walk_at "db0"
variable(k48:Ck E tF 1 "is_text" 1)
include k25 k39 k47 k48 in
theorem Fh(Y:FH E.K "is_texts" (top 14)):Ck E LG 1 "is_texts" 2:=by
 refine M8 ["thing"] ["thing"] zx Y ?_ ?_ rfl rfl ?_;walk_at "s1";unfold QM;walk_at "db0"
variable(k49:Ck E LG 1 "is_texts" 2)
include k39 in
theorem aZ(Y:FH E.K "is_truths" (top 15)):Ck E gG 1 "is_truths" 2:=by
 refine M8 ["thing"] ["thing"] zx Y ?_ ?_ rfl rfl ?_;walk_at "s1";unfold PP;walk_at "db0"
variable(k50:Ck E gG 1 "is_truths" 2)
include k38 k41 k46 k49 k50 in
theorem kw(Y:FH E.K "has_set_form" (top 37)):Ck E mD 1 "has_set_form" 5:=by
 refine M8 ["thing"] ["thing"] zx Y ?_ ?_ rfl rfl ?_;walk_at "s1";unfold GE;walk_at "db0"
variable(k51:Ck E mD 1 "has_set_form" 5)
theorem Px(Y:FH E.K "inner_sets" (top 38)):Ck E MD 1 "inner_sets" 1:=by
 refine M8 ["thing", "inner"] ["thing"] zx Y ?_ ?_ rfl rfl ?_;walk_at "s1";unfold qE;unfold JR JL;walk_at "db0"
variable(k52:Ck E MD 1 "inner_sets" 1)
theorem Lk(Y:FH E.K "has_one_form" (top 42)):Ck E X8 1 "has_one_form" 1:=by
 refine M8 ["some"] ["some"] zx Y ?_ ?_ rfl rfl ?_;walk_at "s1";unfold lF;walk_at "db0"
variable(k53:Ck E X8 1 "has_one_form" 1)
include k51 k52 k53 in
theorem dH5(Y:FH E.K "is_set" (top 43)):Ck E NC 1 "is_set" 6:=by
 refine M8 ["thing", "found", "waiting", "some"] ["thing"] zx Y ?_ ?_ rfl rfl ?_;walk_at "s1";unfold aH;unfold V4 V2 V3 Z1;walk_at "db0"
variable(k54:Ck E NC 1 "is_set" 6)
include k9 in
theorem Nk(Y:FH E.K "_law_names" (top 62)):Ck E SE 1 "_law_names" 5:=by
 refine M8 ["purse"] ["purse"] zx Y ?_ ?_ rfl rfl ?_;walk_at "s1";unfold lG;walk_at "db0"
variable(k55:Ck E SE 1 "_law_names" 5)
include k1 k2 k7 k55 in
theorem rT{R:List D->M D}{lv kk:Nat}(kR:Ck E R 2 "_law_value" lv)(h1:lv<=kk)(h2:5<=kk)(Y:FH E.K "_law_value" (top 73)):Ck E (u0 4 (QC R)) 2 "_law_value" (kk+1):=by
 refine M8 ["purse", "deep", "pick", "way"] ["purse", "deep"] zx Y ?_ ?_ rfl rfl ?_;walk_at "s1";unfold QC;walk_at "db0"
section
variable(Y:FH E.K "_law_value" (top 73))
include Y k1 k2 k7 k55
theorem QK:∀n,Ck E (iB n) 2 "_law_value" (5+n)
 |0=>GD ["purse", "deep"] zx Y (by walk_at "ba") rfl
 |n+1=>rT zx zb k1 k2 k7 k55 (QK n) (zn _) (jl _ _) Y
end
include k1 k2 k7 k55 in
theorem QY(Y:FH E.K "_law_value" (top 73)):Ck E iH 2 "_law_value" 10:=QK zx zb k1 k2 k7 k55 Y 5
variable(k56:Ck E iH 2 "_law_value" 10)
theorem KW(Y:FH E.K "_law_number_in" (top 74)):Ck E kG 2 "_law_number_in" 1:=by
 refine M8 ["stretches", "number", "low", "high", "step"] ["stretches", "number"] zx Y ?_ ?_ rfl rfl ?_;walk_at "s1";unfold dH;walk_at "db0"
variable(k57:Ck E kG 2 "_law_number_in" 1)
theorem Fk(Y:FH E.K "_law_word_in" (top 75)):Ck E rG 2 "_law_word_in" 1:=by
 refine M8 ["texts", "number", "word"] ["texts", "number"] zx Y ?_ ?_ rfl rfl ?_;walk_at "s1";unfold aF;walk_at "db0"
variable(k58:Ck E rG 2 "_law_word_in" 1)
include k0 k1 in
theorem HN{R:List D->M D}{lv:Nat}(kR:Ck E R 2 "_law_value_in" lv)(h2:10<=lv)(Y:FH E.K "_law_list_in" (top 76)):Ck E (Z3 R) 2 "_law_list_in" (lv+1):=by
 refine M8 ["purse", "part", "values"] ["purse", "part"] zx Y ?_ ?_ rfl rfl ?_;walk_at "s1";unfold PF;walk_at "db0"
include k0 k1 in
theorem cL{R:List D->M D}{lv:Nat}(kR:Ck E R 2 "_law_value_in" lv)(h2:10<=lv)(Y:FH E.K "_law_record_in" (top 77)):Ck E (U5 R) 2 "_law_record_in" (lv+1):=by
 refine M8 ["purse", "part", "pairs", "name", "field"] ["purse", "part"] zx Y ?_ ?_ rfl rfl ?_;walk_at "s1";unfold iG;unfold RL;walk_at "db0"
include k0 k1 k56 k57 k58 in
theorem HY{R:List D->M D}{lv:Nat}(kR:Ck E R 2 "_law_value_in" lv)(h60:Ck E (Z3 R) 2 "_law_list_in" (lv+1))(h61:Ck E (U5 R) 2 "_law_record_in" (lv+1))(h2:10<=lv)(Y:FH E.K "_law_value_in" (top 78)):Ck E (u0 6 (Q4 R)) 2 "_law_value_in" (lv+2):=by
 refine M8 ["purse", "some", "none", "ways", "pick", "way"] ["purse", "some"] zx Y ?_ ?_ rfl rfl ?_;walk_at "s1";unfold Q4;walk_at "db0"
section
variable(Y:FH E.K "_law_value_in" (top 78))(Y60:FH E.K "_law_list_in" (top 76))(Y61:FH E.K "_law_record_in" (top 77))
include Y Y60 Y61 k0 k1 k56 k57 k58
theorem sM:∀n,Ck E (Q6 n) 2 "_law_value_in" (10+2*n)
 |0=>GD ["purse", "some"] zx Y (by walk_at "ba") rfl
 |n+1=>by
   have kR:=sM n
   have h60:=HN zx zb k0 k1 kR (jl _ _) Y60
   have h61:=cL zx zb k0 k1 kR (jl _ _) Y61
   exact HY zx zb k0 k1 k56 k57 k58 kR h60 h61 (jl _ _) Y
end
include k0 k1 k56 k57 k58 in
theorem Qd(Y:FH E.K "_law_value_in" (top 78))(Y60:FH E.K "_law_list_in" (top 76))(Y61:FH E.K "_law_record_in" (top 77)):Ck E V9 2 "_law_value_in" 22:=sM zx zb k0 k1 k56 k57 k58 Y Y60 Y61 6
variable(k59:Ck E V9 2 "_law_value_in" 22)
include k0 k1 k59 in
theorem Mq(Y:FH E.K "_law_list_in" (top 76)):Ck E sI 2 "_law_list_in" 23:=HN zx zb k0 k1 k59 (by decide) Y
variable(k60:Ck E sI 2 "_law_list_in" 23)
include k0 k1 k59 in
theorem fW(Y:FH E.K "_law_record_in" (top 77)):Ck E cP 2 "_law_record_in" 23:=cL zx zb k0 k1 k59 (by decide) Y
variable(k61:Ck E cP 2 "_law_record_in" 23)
theorem wZ(Y:FH E.K "_law_side" (top 80)):Ck E PD 2 "_law_side" 1:=by
 refine M8 ["part", "at"] ["part", "at"] zx Y ?_ ?_ rfl rfl ?_;walk_at "s1";unfold GG;walk_at "db0"
variable(k62:Ck E PD 2 "_law_side" 1)
include k1 k59 k62 in
theorem wV(Y:FH E.K "_law_amid" (top 81)):Ck E qG 3 "_law_amid" 23:=by
 refine M8 ["purse", "one", "other", "values", "at", "value"] ["purse", "one", "other"] zx Y ?_ ?_ rfl rfl ?_;walk_at "s1";unfold gF;unfold AB;walk_at "db0"
variable(k63:Ck E qG 3 "_law_amid" 23)
theorem OZ(Y:FH E.K "_law_inner" (top 69)):Ck E IE 2 "_law_inner" 1:=by
 refine M8 ["part", "name", "field"] ["part", "name"] zx Y ?_ ?_ rfl rfl ?_;walk_at "s1";unfold vR;walk_at "db0"
variable(k64:Ck E IE 2 "_law_inner" 1)
theorem KQ{R:List D->M D}{lv:Nat}(kR:Ck E R 2 "_law_in" lv)(h2:1<=lv)(Y:FH E.K "_law_in_lists" (top 70)):Ck E (W0 R) 2 "_law_in_lists" (lv+1):=by
 refine M8 ["values", "part", "sides"] ["values", "part"] zx Y ?_ ?_ rfl rfl ?_;walk_at "s1";unfold KF;walk_at "db0"
include k64 in
theorem aM{R:List D->M D}{lv:Nat}(kR:Ck E R 2 "_law_in" lv)(h2:1<=lv)(Y:FH E.K "_law_in_records" (top 71)):Ck E (R9 R) 2 "_law_in_records" (lv+1):=by
 refine M8 ["pairs", "part", "there"] ["pairs", "part"] zx Y ?_ ?_ rfl rfl ?_;walk_at "s1";unfold X5;walk_at "db0"
theorem nW{R:List D->M D}{lv:Nat}(kR:Ck E R 2 "_law_in" lv)(h66:Ck E (W0 R) 2 "_law_in_lists" (lv+1))(h67:Ck E (R9 R) 2 "_law_in_records" (lv+1))(h2:1<=lv)(Y:FH E.K "_law_in" (top 72)):Ck E (u0 2 (dE R)) 2 "_law_in" (lv+2):=by
 refine M8 ["value", "some"] ["value", "some"] zx Y ?_ ?_ rfl rfl ?_;walk_at "s1";unfold dE;unfold NE;walk_at "db0"
section
variable(Y:FH E.K "_law_in" (top 72))(Y66:FH E.K "_law_in_lists" (top 70))(Y67:FH E.K "_law_in_records" (top 71))
include Y Y66 Y67 k64
theorem KP:∀n,Ck E (oE n) 2 "_law_in" (1+2*n)
 |0=>GD ["value", "some"] zx Y (by walk_at "ba") rfl
 |n+1=>by
   have kR:=KP n
   have h66:=KQ zx zb kR (jl _ _) Y66
   have h67:=aM zx zb k64 kR (jl _ _) Y67
   exact nW zx zb kR h66 h67 (jl _ _) Y
end
include k64 in
theorem Pj(Y:FH E.K "_law_in" (top 72))(Y66:FH E.K "_law_in_lists" (top 70))(Y67:FH E.K "_law_in_records" (top 71)):Ck E F9 2 "_law_in" 13:=KP zx zb k64 Y Y66 Y67 6
variable(k65:Ck E F9 2 "_law_in" 13)
include k65 in
theorem bF9(Y:FH E.K "_law_in_lists" (top 70)):Ck E uM 2 "_law_in_lists" 14:=KQ zx zb k65 (by decide) Y
variable(k66:Ck E uM 2 "_law_in_lists" 14)
include k64 k65 in
theorem MV(Y:FH E.K "_law_in_records" (top 71)):Ck E GQ 2 "_law_in_records" 14:=aM zx zb k64 k65 (by decide) Y
variable(k67:Ck E GQ 2 "_law_in_records" 14)
end
set_option maxHeartbeats 4000000 in
theorem all_mk{l:PySem.W.OpenLaw}{w:jg}{K:zh}{h:Heap}{mg:Str->Option zk}{fa:Addr}(X:K.In h)(G:h.Ns jq mg)(hfa:mg "law" =some (.ref fa))(Z0:FHs K top ["_law_none", "_law_next", "_law_few", "_law_size", "_law_stretches", "_law_records", "_law_every", "_law_word", "_law_rank", "_law_words", "_law_lists", "_law_set", "_law_more", "_law_of_lists", "_law_mixed", "_law_purse", "lists_in_form", "records_in_form", "made", "nearer_low", "nearer_high", "ends_first", "is_empty", "meet_numbers", "marked"] [63,55,56,57,58,67,64,59,60,61,66,68,65,79,53,54,45,46,44,17,18,19,11,16,21])(Z25:FHs K top ["text_order", "rising_texts", "in_either", "in_both", "without", "meet_texts", "front_at", "fields_by_name", "fields_beside", "meet", "meet_lists", "meet_records", "is_couple", "has_lists_form", "rising", "names_of", "has_records_form", "lies_clear", "is_whole", "is_end", "is_stretch", "is_numbers", "is_tagged", "is_text", "is_texts"] [7,22,25,23,24,20,30,31,51,48,49,50,33,35,5,6,36,12,1,9,10,13,4,2,14])(Z50:FHs K top ["is_truths", "has_set_form", "inner_sets", "has_one_form", "is_set", "_law_names", "_law_value", "_law_number_in", "_law_word_in", "_law_value_in", "_law_list_in", "_law_record_in", "_law_side", "_law_amid", "_law_inner", "_law_in", "_law_in_lists", "_law_in_records", "law"] [15,37,38,42,43,62,73,74,75,78,76,77,80,81,69,72,70,71,82])
 (g_NOTHING:CC K mg "NOTHING" dP)
 (g_ALL_PARTS:CC K mg "ALL_PARTS" rO)
 (g_ANY:CC K mg "ANY" bR)
 (z:∀b∈bltL,xT K jq b=some none) (pure:∀ns:List Int,ns.length<=63->∃G',KH [.ref 0] [.rol (ns.map D.int)]=some (.ok (.bl true),G')):
 ∃fd:xl,(∀(s:zv) (v:zk),Ye s fd ⟨[v], []⟩ [("script",v)])/\∀base:Heap,K.In base->base.Ns jq mg->O0 l.prog w K mg base CX0 187 fa fd ["script"] (TF K):=by
 obtain⟨Y0,Y1,Y2,Y3,Y4,Y5,Y6,Y7,Y8,Y9,Y10,Y11,Y12,Y13,Y14,Y15,Y16,Y17,Y18,Y19,Y20,Y21,Y22,Y23,Y24,_⟩:=Z0
 obtain⟨Y25,Y26,Y27,Y28,Y29,Y30,Y31,Y32,Y33,Y34,Y35,Y36,Y37,Y38,Y39,Y40,Y41,Y42,Y43,Y44,Y45,Y46,Y47,Y48,Y49,_⟩:=Z25
 obtain⟨Y50,Y51,Y52,Y53,Y54,Y55,Y56,Y57,Y58,Y59,Y60,Y61,Y62,Y63,Y64,Y65,Y66,Y67,Y68,_⟩:=Z50
 have zb:BC K mg:=⟨BLs.of X G z,g_NOTHING.ok X G,g_ALL_PARTS.ok X G,g_ANY.ok X G⟩
 refine FT (N:= ["script", "one", "other", "purse", "found", "values", "some", "value"]) X G hfa Y68 (by walk_at "ba") (by walk_at "sc") rfl (λ_ _ _ _ _ _ s v=>.of_eq rfl) (λbase=>?_) pure
 have zx:EvX ⟨l.prog,w,K,mg,base⟩:=⟨h,X,G⟩
 have k0:=wq zx zb Y0
 have k1:=Vk zx zb Y1
 have k2:=Rf zx zb k1 Y2
 have k3:=cA8 zx zb k1 Y3
 have k4:=bB4 zx zb k1 k2 k3 Y4
 have k5:=Nj zx zb k1 Y5
 have k6:=vW zx zb Y6
 have k7:=Kx zx zb k1 Y7
 have k8:=Hw zx zb Y8
 have k9:=Pv zx zb k2 k7 k8 Y9
 have k10:=tU zx zb k0 k1 k2 k4 k5 k6 k9 Y10 Y11 Y12
 have k11:=Ph zx zb k0 k1 k4 k5 k6 k9 k10 Y11
 have k12:=oU zx zb k0 k10 k11 Y12
 have k13:=tY zx zb k0 k1 k10 k11 Y13
 have k14:=kc zx zb Y14
 have k15:=Dd zx zb k14 Y15
 have k16:=TX zx zb Y16
 have k17:=Fq zx zb Y17
 have k18:=eI2 zx zb k16 k17 Y18
 have k19:=Sj zx zb Y19
 have k20:=bR8 zx zb Y20
 have k21:=AW zx zb Y21
 have k22:=cL0 zx zb Y22
 have k23:=pT zx zb k19 k20 k21 k22 Y23
 have k24:=lY zx zb Y24
 have k25:=qp zx zb Y25
 have k26:=Qw zx zb k24 k25 Y26
 have k27:=Pb zx zb k26 Y27
 have k28:=Lh zx zb k24 Y28
 have k29:=Sz zx zb k24 Y29
 have k30:=pY zx zb k27 k28 k29 Y30
 have k31:=QT zx zb Y31
 have k32:=gT zx zb Y32
 have k33:=vT zx zb k32 Y33
 have k34:=SU zx zb k18 k23 k30 k31 k33 Y34 Y35 Y36
 have k35:=iS zx zb k31 k34 Y35
 have k36:=Tz zx zb k33 k34 Y36
 have k37:=Pw zx zb Y37
 have k38:=hW zx zb k37 Y38
 have k39:=DX zx zb Y39
 have k40:=kh zx zb Y40
 have k41:=Df zx zb k37 k39 k40 Y41
 have k42:=Nh zx zb Y42
 have k43:=gX zx zb Y43
 have k44:=Lq zx zb k43 Y44
 have k45:=Mz zx zb k22 k44 Y45
 have k46:=Hj zx zb k42 k45 Y46
 have k47:=qm zx zb Y47
 have k48:=nV zx zb Y48
 have k49:=Fh zx zb k25 k39 k47 k48 Y49
 have k50:=aZ zx zb k39 Y50
 have k51:=kw zx zb k38 k41 k46 k49 k50 Y51
 have k52:=Px zx zb Y52
 have k53:=Lk zx zb Y53
 have k54:=dH5 zx zb k51 k52 k53 Y54
 have k55:=Nk zx zb k9 Y55
 have k56:=QY zx zb k1 k2 k7 k55 Y56
 have k57:=KW zx zb Y57
 have k58:=Fk zx zb Y58
 have k59:=Qd zx zb k0 k1 k56 k57 k58 Y59 Y60 Y61
 have k60:=Mq zx zb k0 k1 k59 Y60
 have k61:=fW zx zb k0 k1 k59 Y61
 have k62:=wZ zx zb Y62
 have k63:=wV zx zb k1 k59 k62 Y63
 have k64:=OZ zx zb Y64
 have k65:=Pj zx zb k64 Y65 Y66 Y67
 have k66:=bF9 zx zb k65 Y66
 have k67:=MV zx zb k64 k65 Y67
 intro _ _ _ _ _ _ _ _
 obtain⟨_,_,_,_⟩:=zb;unfold bF;unfold LB LE3 FB LE1 LE2;walk_at "db0"
mutual
def szD:D->Nat
 | .tup l=>1+szL l
 | .str _=>1
 | .ref _=>1
 | .fn _=>1
 | .ty _=>1
 | .non=>1
 | .bl _=>1
 | .int _=>1
def szL:List D->Nat
 |[]=>0
 |d::r=>szD d+szL r
end
theorem aJ:∀d:D,1<=szD d:=λd=>by cases d<;>unfold szD<;>lia
theorem IJ:∀l:List D,l.length<=szL l
 |[]=>by simp[szL]
 |d::r=>by
   have:=IJ r
   have:=aJ d
   unfold szL
   simp only[zT]
   lia
theorem uC:∀a b:List D,szL (a++b)=szL a+szL b
 |[],b=>by simp[szL]
 |d::r,b=>by
   have:=uC r b
   simp only[List.cons_append,szL]
   lia
abbrev b9:Str:= "list"
abbrev aB:Str:= "record"
def Ap(G G':DH):Prop:=∃t,G'=G++t
theorem Ap.refl:Ap G G:=⟨[],by simp⟩
theorem Ap.trans(h:Ap G G1)(k:Ap G1 G2):Ap G G2:=by
 obtain⟨t,rfl⟩:=h
 obtain⟨u,rfl⟩:=k
 exact⟨t++u,by simp⟩
theorem Ap.one:Ap G (G++[o]):=⟨_,rfl⟩
theorem Ap.at{p:Nat}(h:Ap G G')(e:G[p]? =some o):G'[p]? =some o:=by
 obtain⟨t,rfl⟩:=h
 exact O9 e
theorem Ap.len(h:Ap G G'):G.length<=G'.length:=by
 obtain⟨t,rfl⟩:=h
 simp
theorem Ap.gr(h:Ap G G'):Gr G G':=by
 obtain⟨t,rfl⟩:=h
 exact Gr.app
section
theorem MF(J:DH->Prop)(S:DSt->Prop)(f:D->D)(hck:∀G,J G->ck G=true):∀items σ G,S σ->J G->
 (∀d∈items,∀ σ G,S σ->J G->Wp (g d σ) G λWZ G1=>G1=G/\S WZ/\Wp (t WZ) G λb G2=>b=true/\G2=G/\Wp (e WZ) G λy G3=>J G3/\y=f d)->
 Wp (N7 g t e ck items σ) G λys G'=>J G'/\ys=items.map f
 |[],σ,G,s,j,_=>by
   rw[Z8]
   exact⟨hck G j,j,rfl⟩
 |d::r,σ,G,s,j,step=>by
   rw[mG]
   refine⟨hck G j,Wp.mono (step d (by simp) σ G s j) λWZ G1 ⟨e1,s1,w1⟩=>?_⟩
   subst e1
   refine Wp.mono w1 λb G2 ⟨eb,e2,w2⟩=>?_
   subst eb e2
   rw[if_pos rfl]
   refine Wp.mono w2 λy G3 ⟨j3,py⟩=>?_
   refine Wp.mono (MF J S f hck r WZ G3 s1 j3 λd hd=>step d (by simp[hd])) λys G4 ⟨j4,l4⟩=>⟨j4,by simp[l4,py]⟩
end
theorem eI(e:G[p]? =some (.lst xs))(eq:G[q]? =some (.lst [])):Wp (eqD (.ref p) (.ref q)) G Q↔Q (.bl xs.isEmpty) G:=by
 have h:eqN 40 G (.ref p) (.ref q)=some xs.isEmpty:=by
  have h1:N0 G (.ref p)=some (false,xs):=by simp only[N0,e]
  have h2:N0 G (.ref q)=some (false, []):=by simp only[N0,eq]
  rw[RD,h1,h2]
  cases xs<;>rfl
 rw[eE,h];exact Q3
theorem eY0{lo hi:Option Int}(e:G[p]? =some (.lst l)):Wp (slD (.ref p) lo hi) G Q↔Q (.ref G.length) (G++[.lst (DL.cutD l lo hi)]):=by
 have h:slD (.ref p) lo hi= (do
  let l <-O5 p >>= DL.listOf
  M6 (.lst (DL.cutD l lo hi))):=rfl
 rw[h]
 simp only[j9,O3,e,Q3,DL.listOf,m5,Q8]
theorem big:1000000<zo:=by decide
section
theorem gE:Wp (S5 (n+1) t b σ) G P↔Wp (t σ) G λk G1=>if k=true then Wp (b σ) G1 λfl G2=>match fl with
 | .nx X1=>Wp (S5 n t b X1) G2 P
 | .ct X1=>Wp (S5 n t b X1) G2 P
 | .bk X1=>P (.nx X1) G2
 | .rt d=>P (.rt d) G2
 else P (.nx σ) G1:=by
 rw[S5]
 simp only[j9,C8,m5]
 constructor
 · rintro⟨k,G1,e,q⟩
   refine⟨k,G1,e,?_⟩
   rcases k with _|_
   ·exact q
   ·
     simp only[if_true]at q ⊢
     obtain⟨fl,G2,e2,q⟩:=q
     refine⟨fl,G2,e2,?_⟩
     cases fl<;>first
      |exact q
      |exact m5.mp q
 · rintro⟨k,G1,e,q⟩
   refine⟨k,G1,e,?_⟩
   rcases k with _|_
   ·exact q
   ·
     simp only[if_true]at q ⊢
     obtain⟨fl,G2,e2,q⟩:=q
     refine⟨fl,G2,e2,?_⟩
     cases fl<;>first
      |exact q
      |exact m5.mpr q
theorem KK(h:Wp (S5 n t b σ) G P):Wp (i8 t b σ) G P:=by
 obtain⟨a,G',e,q⟩:=h
 refine⟨a,G',?_,q⟩
 have hx:∃n,(S5 n t b σ G).isSome=true:=⟨n,by rw[e];rfl⟩
 unfold i8
 rw[dif_pos hx]
 have hs:=Classical.choose_spec hx
 obtain⟨r,hr⟩:=Xu.mp hs
 rw[hr]
 have e1:=TQ (Nat.le_max_left n (Yt hx)) e
 have e2:=TQ (Nat.le_max_right n (Yt hx)) hr
 rw[e1]at e2
 exact e2.symm
end
theorem kQ(h:G[r]? =some (.lst (l++[y]))):Wp (PC (.ref r) []) G Q↔Q y (G.set r (.lst l)):=by
 have e:PC (.ref r) []= (do
  let l <-lstM r
  match l.getLast? with
  |some y=>do
    let _ <-S4 r (.lst l.dropLast)
    pure y
  |none=>M.stuck):=rfl
 rw[e]
 unfold lstM
 simp only[j9,O3,h,Q3,m5,List.getLast?_append,List.getLast?_singleton,Option.some_or,List.dropLast_concat,QD]
theorem nQ(h:G[r]? =some (.lst l))(hq:G[q]? =some (.lst k))(hl:l.length+k.length<=zo):Wp (wA (.ref r) [.ref q]) G Q↔Q .non (G.set r (.lst (l++k))):=by
 have e:wA (.ref r) [.ref q]= (do
  let l <-lstM r
  let k <-lstM q
  if l.length+k.length<=zo then do
   let _ <-S4 r (.lst (l++k))
   pure .non
  else M.stuck):=rfl
 rw[e]
 unfold lstM
 simp only[j9,O3,h,hq,Q3,m5,if_pos hl,QD]
theorem Gr.set(h:Gr G0 G)(hp:G0.length<=p):Gr G0 (G.set p o):=⟨by rw[xW];exact h.1,λi hi=>by rw[zL (by lia)];exact h.2 i hi⟩
theorem iP(e:G[p]? =some (.lst xs)):Wp (S3 (.ref p)) G B↔B (!xs.isEmpty) G:=by
 unfold S3
 simp only[j9,O3,e,Q3,m5]
theorem lt_of_get{G:DH}(e:G[p]? =some o):p<G.length:=by
 by_cases hi:p<G.length
 ·exact hi
 ·rw[zR (by lia)]at e;exact J7 e
def VB(b:Nat):Nat->D->Prop
 |0,_=>False
 |n+1,d=>(∃i,d= .int i)\/(∃k,d= .bl k)\/(∃z,d= .str z/\z.length<=b)\/(∃l,d= .tup [.str b9,.tup l]/\∀x∈l,VB b n x)\/(∃l,d= .tup [.str aB,.tup l]/\∀x∈l,∃nm v,x= .tup [.str nm,v]/\nm.length<=1000/\VB b n v)
theorem VB.le(hb:b<=c):∀ {n m} {d},n<=m->VB b n d->VB c m d
 |0,_,_,_,h=>h.elim
 |n+1,0,_,h,_=>by lia
 |n+1,m+1,d,h,a=>by
   rcases a with a|a|⟨z,e,hz⟩|⟨l,e,hl⟩|⟨l,e,hl⟩
   ·exact .inl a
   ·exact .inr (.inl a)
   ·exact .inr (.inr (.inl ⟨z,e,by lia⟩))
   ·exact .inr (.inr (.inr (.inl ⟨l,e,λx hx=>VB.le hb (by lia) (hl x hx)⟩)))
   ·exact .inr (.inr (.inr (.inr ⟨l,e,λx hx=>let ⟨nm,v,q1,q2,q3⟩:=hl x hx;⟨nm,v,q1,q2,VB.le hb (by lia) q3⟩⟩)))
section
variable{bd n:Nat}
theorem VB.i{i:Int}:VB bd (n+1) (.int i):=.inl ⟨i,rfl⟩
theorem VB.b{i:Bool}:VB bd (n+1) (.bl i):=.inr (.inl ⟨i,rfl⟩)
theorem VB.r{l:List D}(h:∀x∈l,∃nm v,x= .tup [.str nm,v]/\nm.length<=1000/\VB bd n v):VB bd (n+1) (.tup [.str aB,.tup l]):=.inr (.inr (.inr (.inr ⟨l,rfl,h⟩)))
end
theorem VB.pos{b n:Nat}(h:VB b n d):0<n:=by
 cases n with
 |zero=>exact h.elim
 |succ n=>lia
theorem VB.there{b n:Nat}(h:VB b n d):pE G d:=by
 cases n with
 |zero=>exact h.elim
 |succ n=>rcases h with⟨i,rfl⟩|⟨k,rfl⟩|⟨z,rfl,hz⟩|⟨l,rfl,hl⟩|⟨l,rfl,hl⟩<;>exact⟨_,rfl⟩
section
variable{G:DH}{Q:DPP}
theorem LQ:Wp (neD (.bl a) (.bl c)) G Q↔Q (.bl (!(a==c))) G:=by
 have e:eqN 40 G (.bl a) (.bl c)=some (a==c):=by rfl
 rw[cA,e];exact Q3
theorem fD0:Wp (lA [.bl k]) G Q↔Q (.int (if k then 1 else 0)) G:=m5
theorem RW:Wp (qC [.int i]) G Q↔Q (.int (if i<0 then -i else i)) G:=m5
end
def F4{α β:Type}(R:α->β->Prop):List α->List β->Prop
 |[], []=>True
 |a::r,b::s=>R a b/\F4 R r s
 |_,_=>False
section
variable{α β:Type}{R S:α->β->Prop}
theorem F4.len:∀ {a} {b},F4 R a b->a.length=b.length
 |[], [],_=>rfl
 |_::_,_::_,h=>by simp[F4.len h.2]
 |[],_::_,h=>h.elim
 |_::_, [],h=>h.elim
theorem F4.mono(k:∀a b,R a b->S a b):∀ {a} {b},F4 R a b->F4 S a b
 |[], [],_=>trivial
 |_::_,_::_,h=>⟨k _ _ h.1,F4.mono k h.2⟩
 |[],_::_,h=>h.elim
 |_::_, [],h=>h.elim
theorem F4.app:∀ {a c} {b d},F4 R a b->F4 R c d->F4 R (a++c) (b++d)
 |[],_, [],_,_,h=>h
 |_::_,_,_::_,_,h,k=>⟨h.1,F4.app h.2 k⟩
 |[],_,_::_,_,h,_=>h.elim
 |_::_,_, [],_,h,_=>h.elim
end
abbrev Rg:=Option Int×Option Int
def inR(p:Rg)(x:Int):Prop:=(∀a,p.1=some a->a<=x)/\∀b,p.2=some b->x<=b
def inS(l:List Rg)(x:Int):Prop:=∃p∈l,inR p x
def okR(p:Rg):Prop:=∀a b,p.1=some a->p.2=some b->a<=b
def QF(p q:Rg):Prop:=∃a b,p.2=some a/\q.1=some b/\a+1<b
def Can(l:List Rg):Prop:=(∀p∈l,okR p)/\l.Pairwise QF
theorem O1:inS (p::l) x↔inR p x\/inS l x:=by
 unfold inS
 constructor
 · rintro⟨q,hq,h⟩
   rcases zt.mp hq with rfl|hq
   ·exact .inl h
   ·exact .inr ⟨q,hq,h⟩
 · rintro(h|⟨q,hq,h⟩)
   ·exact⟨p,zK ..,h⟩
   ·exact⟨q,zB _ hq,h⟩
theorem fA:¬inS [] x:=fun⟨_,h,_⟩=>nomatch h
theorem Can.tail(h:Can (p::l)):Can l:=⟨λq hq=>h.1 q (zB _ hq),(jb.mp h.2).2⟩
theorem Can.head(h:Can (p::l)):okR p:=h.1 p (zK ..)
theorem Can.beyond(h:Can (p::l))(hx:inS l x):∃a,p.2=some a/\a+1<x:=by
 obtain⟨q,hq,h1,h2⟩:=hx
 obtain⟨a,b,e1,e2,k⟩:=(jb.mp h.2).1 q hq
 exact⟨a,e1,by have:=h1 b e2;lia⟩
theorem Can.low(h:Can (p::l))(e:p.1=some a)(hx:inS (p::l) x):a<=x:=by
 rcases O1.mp hx with k|k
 ·exact k.1 a e
 · obtain⟨b,e2,k⟩:=h.beyond k
   have:=h.head a b e e2
   lia
theorem Can.deep(e:p.1=none)(a:Int):∃x,x<a/\inS (p::l) x:=by
 rcases e2:p.2 with _|b
 ·exact⟨a-1,by lia,O1.mpr (.inl ⟨λc hc=>(by rw[e]at hc;cases hc),λc hc=>(by rw[e2]at hc;cases hc)⟩)⟩
 ·exact⟨min (a-1) b,by lia,O1.mpr (.inl ⟨λc hc=>(by rw[e]at hc;cases hc),λc hc=>(by rw[e2]at hc;cases hc;lia)⟩)⟩
theorem okR.some(h:okR p):∃x,inR p x:=by
 obtain⟨a,b⟩:=p
 rcases a with _|a<;>rcases b with _|b
 ·exact⟨0,λc hc=>(nomatch hc),λc hc=>(nomatch hc)⟩
 ·exact⟨b,λc hc=>(nomatch hc),λc hc=>by cases hc;exact xU _⟩
 ·exact⟨a,λc hc=>(by cases hc;exact xU _),λc hc=>nomatch hc⟩
 ·exact⟨a,λc hc=>(by cases hc;exact xU _),λc hc=>by cases hc;exact h a b rfl rfl⟩
theorem BO(hp:Can (p::l))(hq:Can (q::m))(h:∀x,inS (p::l) x↔inS (q::m) x):p.1=q.1:=by
 have one:∀ {p q:Rg} {l m:List Rg} {a:Int},Can (p::l)->Can (q::m)->(∀x,inS (p::l) x↔inS (q::m) x)->p.1=some a->∃b,q.1=some b/\b<=a:=by
  intro p q l m a hp hq h e
  have ha:inS (p::l) a:=O1.mpr (.inl ⟨λc hc=>(by rw[e]at hc;cases hc;exact xU _),λb hb=>hp.head a b e hb⟩)
  rcases e2:q.1 with _|b
  · obtain⟨x,hx,k⟩:=Can.deep e2 a
    have:=hp.low e ((h x).mpr k)
    lia
  ·exact⟨b,rfl,hq.low e2 ((h a).mp ha)⟩
 rcases e1:p.1 with _|a
 · rcases e2:q.1 with _|b
   ·rfl
   · obtain⟨a,e3,_⟩:=one hq hp (λx=>(h x).symm) e2
     rw[e1]at e3;cases e3
 · obtain⟨b,e2,k1⟩:=one hp hq h e1
   obtain⟨a',e3,k2⟩:=one hq hp (λx=>(h x).symm) e2
   rw[e1]at e3;cases e3
   rw[e2,Int.le_antisymm k1 k2]
theorem uV(hp:Can (p::l))(hq:Can (q::m))(h:∀x,inS (p::l) x↔inS (q::m) x):p.2=q.2:=by
 have lo:=BO hp hq h
 have one:∀ {p q:Rg} {l m:List Rg} {a:Int},Can (p::l)->Can (q::m)->(∀x,inS (p::l) x↔inS (q::m) x)->p.1=q.1->p.2=some a->∃b,q.2=some b/\b<=a:=by
  intro p q l m a hp hq h lo e
  have hn:¬inS (q::m) (a+1):=λk=>by
   rcases O1.mp ((h (a+1)).mpr k)with k|k
   ·have:=k.2 a e;lia
   · obtain⟨b,e2,k⟩:=hp.beyond k
     rw[e]at e2;cases e2;lia
  have hlo:∀c,q.1=some c->c<=a:=λc hc=>hp.head c a (lo.trans hc) e
  rcases e2:q.2 with _|b
  ·exact absurd (O1.mpr (.inl ⟨λc hc=>(by have:=hlo c hc;lia),λc hc=>by rw[e2]at hc;cases hc⟩)) hn
  · refine⟨b,rfl,?_⟩
    rcases Int.lt_or_le a b with k|k
    ·exact absurd (O1.mpr (.inl ⟨λc hc=>(by have:=hlo c hc;lia),λc hc=>by rw[e2]at hc;cases hc;lia⟩)) hn
    ·exact k
 rcases e1:p.2 with _|a
 · rcases e2:q.2 with _|b
   ·rfl
   · obtain⟨a,e3,_⟩:=one hq hp (λx=>(h x).symm) lo.symm e2
     rw[e1]at e3;cases e3
 · obtain⟨b,e2,k1⟩:=one hp hq h lo e1
   obtain⟨a',e3,k2⟩:=one hq hp (λx=>(h x).symm) lo.symm e2
   rw[e1]at e3;cases e3
   rw[e2,Int.le_antisymm k1 k2]
theorem vI:∀ {l m},Can l->Can m->(∀x,inS l x↔inS m x)->l=m
 |[], [],_,_,_=>rfl
 |[],q::m,_,hm,h=>by
   obtain⟨x,hx⟩:=hm.head.some
   exact absurd ((h x).mpr (O1.mpr (.inl hx))) fA
 |p::l, [],hl,_,h=>by
   obtain⟨x,hx⟩:=hl.head.some
   exact absurd ((h x).mp (O1.mpr (.inl hx))) fA
 |p::l,q::m,hl,hm,h=>by
   have e:p=q:=Xt (BO hl hm h) (uV hl hm h)
   subst e
   rw[vI hl.tail hm.tail λx=>?_]
   have out:∀ {l:List Rg},Can (p::l)->inS l x->¬inR p x:=λhl k r=>by
    obtain⟨a,e,k⟩:=hl.beyond k
    have:=r.2 a e
    lia
   constructor
   · intro k
     rcases O1.mp ((h x).mp (O1.mpr (.inr k)))with r|r
     ·exact absurd r (out hl k)
     ·exact r
   · intro k
     rcases O1.mp ((h x).mpr (O1.mpr (.inr k)))with r|r
     ·exact absurd r (out hm k)
     ·exact r
def loR:Option Int->Option Int->Option Int
 |none,b=>b
 |some a,none=>some a
 |some a,some b=>some (max a b)
def hiR:Option Int->Option Int->Option Int
 |none,b=>b
 |some a,none=>some a
 |some a,some b=>some (min a b)
def efR(p q:Rg):Prop:=∃a,p.2=some a/\∀b,q.2=some b->a<b
theorem dS:(∀c,loR a b=some c->c<=x)↔(∀c,a=some c->c<=x)/\∀c,b=some c->c<=x:=by
 rcases a with _|a
 ·exact⟨λh=>⟨λ_ e=>J7 e,h⟩,λh=>h.2⟩
 · rcases b with _|b
   ·exact⟨λh=>⟨h,λ_ e=>J7 e⟩,λh=>h.1⟩
   ·exact⟨λh=>(have:=h _ rfl;⟨λ_ e=>zY e▸ZM (Int.le_max_left ..) this,λ_ e=>zY e▸ZM (Int.le_max_right ..) this⟩),λh _ e=>zY e▸Int.max_le.mpr ⟨h.1 _ rfl,h.2 _ rfl⟩⟩
theorem LM:(∀c,hiR a b=some c->x<=c)↔(∀c,a=some c->x<=c)/\∀c,b=some c->x<=c:=by
 rcases a with _|a
 ·exact⟨λh=>⟨λ_ e=>J7 e,h⟩,λh=>h.2⟩
 · rcases b with _|b
   ·exact⟨λh=>⟨h,λ_ e=>J7 e⟩,λh=>h.1⟩
   ·exact⟨λh=>(have:=h _ rfl;⟨λ_ e=>zY e▸ZM this (Int.min_le_left ..),λ_ e=>zY e▸ZM this (Int.min_le_right ..)⟩),λh _ e=>zY e▸Int.le_min.mpr ⟨h.1 _ rfl,h.2 _ rfl⟩⟩
theorem cS:inR (loR p.1 q.1,hiR p.2 q.2) x↔inR p x/\inR q x:=
 ⟨λh=>(have a:=dS.mp h.1;have b:=LM.mp h.2;⟨⟨a.1,b.1⟩,a.2,b.2⟩),λh=>⟨dS.mpr ⟨h.1.1,h.2.1⟩,LM.mpr ⟨h.1.2,h.2.2⟩⟩⟩
structure Mv(one other acc l m:List Rg):Prop where
 can:Can acc
 cl:Can l
 cm:Can m
 same:∀x,(inS one x/\inS other x)↔inS acc x\/(inS l x/\inS m x)
 room:∀r∈acc,∀p∈l,∀q∈m,QF r (loR p.1 q.1,none)
 small:acc.length+l.length+m.length<=one.length+other.length
theorem Mv.start(h1:Can one)(h2:Can other):Mv one other [] one other:=
 ⟨⟨λ_ h=>(nomatch h),.nil⟩,h1,h2,λx=>⟨.inr,λh=>h.elim (λk=>absurd k fA) id⟩,λ_ h=>(nomatch h),by simp⟩
theorem Mv.done(h:Mv one other acc l m)(e:l= []\/m= [])(x:Int):inS acc x↔inS one x/\inS other x:=by
 rw[h.same x]
 rcases e with rfl|rfl
 ·exact⟨.inl,λk=>k.elim id λk=>absurd k.1 fA⟩
 ·exact⟨.inl,λk=>k.elim id λk=>absurd k.2 fA⟩
theorem sU:inS (l++m) x↔inS l x\/inS m x:=by
 unfold inS
 constructor
 · rintro⟨p,hp,h⟩
   exact(zW.mp hp).elim (λk=>.inl ⟨p,k,h⟩) λk=>.inr ⟨p,k,h⟩
 · rintro(⟨p,hp,h⟩|⟨p,hp,h⟩)
   ·exact⟨p,yF _ hp,h⟩
   ·exact⟨p,zJ _ hp,h⟩
theorem Can.snoc(h:Can l)(ok:okR r)(c:∀p∈l,QF p r):Can (l++[r]):=
 ⟨λp hp=>(zW.mp hp).elim (h.1 p) λk=>by rw[zC.mp k];exact ok,
  yE.mpr ⟨h.2,yM ..,λp hp q hq=>by rw[zC.mp hq];exact c p hp⟩⟩
theorem qq(h:inR r x):okR r:=λa b e1 e2=>ZM (h.1 a e1) (h.2 b e2)
theorem QX(e:a=some c):∃d,loR a b=some d/\c<=d:=by
 subst e;rcases b with _|b
 ·exact⟨c,rfl,xU _⟩
 ·exact⟨max c b,rfl,by lia⟩
theorem IV(e:b=some c):∃d,loR a b=some d/\c<=d:=by
 subst e;rcases a with _|b
 ·exact⟨c,rfl,xU _⟩
 ·exact⟨max b c,rfl,by lia⟩
theorem rL{p q:Rg}(e:p.2=some a)(h:∀b,q.2=some b->a<=b):hiR p.2 q.2=some a:=by
 rw[e];rcases k:q.2 with _|b
 ·rfl
 · have:=h b k
   show some (min a b)=some a
   congr 1;lia
theorem aV:hiR a b=hiR b a:=by
 rcases a with _|a<;>rcases b with _|b<;>simp[hiR,Int.min_comm]
theorem qQ(cm:Can (q::m))(e:p.2=some a)(h:∀b,q.2=some b->a<=b):
 (inS (p::l) x/\inS (q::m) x)↔(inR p x/\inR q x)\/(inS l x/\inS (q::m) x):=by
 rw[O1]
 constructor
 · rintro⟨k1|k1,k2⟩
   · rcases O1.mp k2 with k|k
     ·exact .inl ⟨k1,k⟩
     · obtain⟨b,e2,k⟩:=cm.beyond k
       have:=h b e2;have:=k1.2 a e;lia
   ·exact .inr ⟨k1,k2⟩
 · rintro(⟨k1,k2⟩|⟨k1,k2⟩)
   ·exact⟨.inl k1,O1.mpr (.inl k2)⟩
   ·exact⟨.inr k1,k2⟩
theorem Mv.put(h:Mv one other acc (p::l) (q::m))
 (ha:acc'=acc/\¬okR (loR p.1 q.1,hiR p.2 q.2)\/acc'=acc++[(loR p.1 q.1,hiR p.2 q.2)]/\okR (loR p.1 q.1,hiR p.2 q.2)):
 Can acc'/\(∀x,inS acc' x↔inS acc x\/(inR p x/\inR q x))/\(∀r∈acc',r∈acc\/r= (loR p.1 q.1,hiR p.2 q.2))/\acc'.length<=acc.length+1:=by
 rcases ha with⟨rfl,k⟩|⟨rfl,k⟩
 ·exact⟨h.can,λx=>⟨.inl,λz=>z.elim id λz=>absurd (qq (cS.mpr z)) k⟩,λr hr=>.inl hr,by lia⟩
 · refine⟨h.can.snoc k λr hr=>?_,λx=>?_,λr hr=>(zW.mp hr).imp id zC.mp,by simp⟩
   · obtain⟨a,b,e1,e2,k⟩:=h.room r hr p (zK ..) q (zK ..)
     exact⟨a,b,e1,e2,k⟩
   · rw[sU,O1,cS]
     exact or_congr Iff.rfl ⟨λz=>z.elim id λz=>absurd z fA,.inl⟩
theorem Mv.left(h:Mv one other acc (p::l) (q::m))(e:efR p q)
 (ha:acc'=acc/\¬okR (loR p.1 q.1,hiR p.2 q.2)\/acc'=acc++[(loR p.1 q.1,hiR p.2 q.2)]/\okR (loR p.1 q.1,hiR p.2 q.2)):Mv one other acc' l (q::m):=by
 obtain⟨c,s,i,n⟩:=h.put ha
 obtain⟨a,e,he⟩:=e
 have he:=λb k=>Int.le_of_lt (he b k)
 refine⟨c,h.cl.tail,h.cm,λx=>?_,λr hr p' hp q' hq=>?_,?_⟩
 ·rw[h.same x,qQ h.cm e he,s x,or_assoc]
 · rcases i r hr with k|rfl
   ·exact h.room r k p' (zB _ hp) q' hq
   · obtain⟨a',b,e1,e2,k⟩:=(jb.mp h.cl.2).1 p' hp
     rw[e]at e1;cases e1
     obtain⟨d,e3,k2⟩:=QX e2
     exact⟨a,d,rL e he,e3,by lia⟩
 · have:=h.small
   simp only[zT]at this ⊢
   lia
theorem Mv.right(h:Mv one other acc (p::l) (q::m))(e:¬efR p q)
 (ha:acc'=acc/\¬okR (loR p.1 q.1,hiR p.2 q.2)\/acc'=acc++[(loR p.1 q.1,hiR p.2 q.2)]/\okR (loR p.1 q.1,hiR p.2 q.2)):Mv one other acc' (p::l) m:=by
 obtain⟨c,s,i,n⟩:=h.put ha
 have small:acc'.length+(p::l).length+m.length<=one.length+other.length:=by
  have:=h.small
  simp only[zT]at this ⊢
  lia
 rcases e2:q.2 with _|b
 · have hm:m= []:=by
    rcases m with _|⟨q',m⟩
    ·rfl
    · obtain⟨a,b,e1,_⟩:=(jb.mp h.cm.2).1 q' (zK ..)
      rw[e2]at e1;cases e1
   subst hm
   rcases e1:p.2 with _|a
   · have hl:l= []:=by
      rcases l with _|⟨p',l⟩
      ·rfl
      · obtain⟨a,b,e3,_⟩:=(jb.mp h.cl.2).1 p' (zK ..)
        rw[e1]at e3;cases e3
     subst hl
     refine⟨c,h.cl,h.cm.tail,λx=>?_,λ_ _ _ _ _ h=>(nomatch h),small⟩
     rw[h.same x,s x,O1,O1]
     have n0:¬inS [] x:=fA
     exact⟨λz=>.inl (z.imp id fun⟨z1,z2⟩=>⟨z1.elim id λz=>absurd z n0,z2.elim id λz=>absurd z n0⟩),λz=>z.elim (λz=>z.imp id fun⟨z1,z2⟩=>⟨.inl z1,.inl z2⟩) λz=>absurd z.2 n0⟩
   ·exact absurd ⟨a,e1,λb hb=>by rw[e2]at hb;cases hb⟩ e
 · have he:∀a,p.2=some a->b<=a:=λa ha=>by
    rcases Int.lt_or_le a b with k|k
    ·exact absurd ⟨a,ha,λb' hb=>by rw[e2]at hb;cases hb;exact k⟩ e
    ·exact k
   refine⟨c,h.cl,h.cm.tail,λx=>?_,λr hr p' hp q' hq=>?_,small⟩
   ·rw[h.same x,and_comm,qQ h.cl e2 he,s x,or_assoc,and_comm,and_comm (a:=inS m x)]
   · rcases i r hr with k|rfl
     ·exact h.room r k p' hp q' (zB _ hq)
     · obtain⟨a',b',e3,e4,k⟩:=(jb.mp h.cm.2).1 q' hq
       rw[e2]at e3;cases e3
       obtain⟨d,e5,k2⟩:=IV e4
       exact⟨b,d,by show hiR p.2 q.2=_;rw[aV];exact rL e2 he,e5,by lia⟩
theorem Gr.ap(h:Gr G G'):Ap G G':=by
 refine⟨G'.drop G.length,?_⟩
 refine YH λi=>?_
 rcases YK i G.length with c|c
 ·rw[zF c];exact h.2 i c
 · rw[yy c,List.getElem?_drop]
   congr 1;lia
theorem wQ:Wp (gtD (.int i) (.int j)) G Q↔Q (.bl (decide (i>j))) G:=m5
theorem Pf(e:G[p]? =some (.lst xs))(eq:G[q]? =some (.lst [])):Wp (neD (.ref p) (.ref q)) G Q↔Q (.bl (!xs.isEmpty)) G:=by
 have h:eqN 40 G (.ref p) (.ref q)=some xs.isEmpty:=by
  have h1:N0 G (.ref p)=some (false,xs):=by simp only[N0,e]
  have h2:N0 G (.ref q)=some (false, []):=by simp only[N0,eq]
  rw[RD]
  rw[h1,h2]
  rcases xs with _|⟨_,_⟩
  ·rfl
  ·rfl
 exact L8 (show neD (.ref p) (.ref q) G=_ from by unfold neD;rw[h])
theorem ixv(ha:a σ G=some (.ok (.ref r),G))(hb:b σ G=some (.ok (.int j),G))(e:G[r]? =some (.lst l))(hd:atI l j=some d)(q:Q d G):Wp (c7 ixD a b σ) G Q:=J4 ha hb ((L6 e).mpr ⟨d,hd,q⟩)
theorem TJ(ha:a σ G=some (.ok (.ref r),G))(hb:b σ G=some (.ok (.int k),G))(e:G[r]? =some (.lst l))(hj:ixN l.length k=some j)(q:S σ (G.set r (.lst (l.set j d)))):Wp (D2 a b d σ) G S:=eJ.mpr (d8 ha (d8 hb ((PN e hj).mpr q)))
theorem Rb{lo hi:Option Int}(e:G[p]? =some (.lst l)):Wp (slT (.ref p) lo hi) G Q↔Q (.ref G.length) (G++[.lst (DL.cutD l lo hi)]):=eY0 e
section
theorem RQ(e:a σ G=some (.ok (.bl true),G1))(w:Wp (b σ) G1 Q):Wp (N1 a b σ) G Q:=ID.mpr (d8 e (W3.mpr (by rw[if_pos rfl];exact w)))
theorem tL(w:Wp (a σ) G λx G1=>x= .bl true/\Wp (b σ) G1 Q):Wp (N1 a b σ) G Q:=ID.mpr (w.mono λx G1 q=>by
 obtain⟨rfl,q⟩:=q
 exact W3.mpr (by rw[if_pos rfl];exact q))
theorem wB(w:Wp (t σ) G λk G1=>k=true/\Wp (g σ) G1 P):Wp (ifS (L1 t) f g σ) G P:=C0 (GK.mpr (w.mono λk G1 q=>by
 obtain⟨rfl,q⟩:=q
 exact⟨λz=>(by exact i5 z),λ_=>q⟩))
theorem r6(w:Wp (a σ) G λx G1=>x= .bl true/\B true G1):Wp (K1 a σ) G B:=fB.mpr (w.mono λx G1 q=>by
 obtain⟨rfl,q⟩:=q
 exact W3.mpr q)
theorem EG(w:Wp (t σ) G λk G1=>k=true/\Wp (u σ) G1 B):Wp (D0 t u σ) G B:=i9 (w.mono λk G1 q=>⟨λ_=>q.2,λz=>by rw[q.1]at z;cases z⟩)
end
def rD(p:Rg):D:=.tup [H0 p.1,H0 p.2]
def rsD(l:List Rg):List D:=l.map rD
section
def qP:Option Int->Option Int->Bool
 |some x,some y=>decide (x>y)
 |_,_=>false
theorem dU(h:Q (.bl (qP a b)) G):Wp (fE [H0 a,H0 b]) G Q:=T5 (by
 rcases a with _|a
 ·rfl
 ·rcases b with _|b<;>rfl) h
theorem bP(ns:List Int)(e:fe σ G=some (.ok (.ref G.length),G++[.lst (ns.map D.int)]))(q:∀G',Ap G G'->Q (H0 (f ns)) G'):Wp (mmE f fe σ) G Q:=by
 have h0:mmE f fe σ= (fe σ >>= λd=>lD d >>= λns=>pure (H0 (f ns))):=rfl
 rw[h0]
 refine j9.mpr<| d8 e<| j9.mpr ?_
 have h1:lD (.ref G.length)= ((O5 G.length >>= DL.listOf) >>= λl=>M0 (F5 l)):=rfl
 rw[h1]
 refine j9.mpr<| j9.mpr<| O3.mpr ⟨_,j7,m5.mpr<| D3.mpr ⟨ns,QR ns,m5.mpr (q _ Ap.one)⟩⟩
def toI(a b:Option Int):List Int:=a.toList++b.toList
theorem mY:wG (toI a b)=loR a b:=by
 rcases a with _|a<;>rcases b with _|b<;>try rfl
 show some (if b>a then b else a)=some (max a b)
 congr 1
 split<;>lia
theorem eT9:tE (toI a b)=hiR a b:=by
 rcases a with _|a<;>rcases b with _|b<;>try rfl
 show some (if b<a then b else a)=some (min a b)
 congr 1
 split<;>lia
theorem LW(h:∀G',Ap G G'->Q (H0 (loR p.1 q.1)) G'):Wp (ME [rD p,rD q]) G Q:=by
 refine J6<| J1<| bP (toI p.1 q.1) ?_ λG' j=>by rw[mY];exact v9 (h G' j)
 obtain⟨a,_⟩:=p
 obtain⟨b,_⟩:=q
 rcases a with _|a<;>rcases b with _|b<;>rfl
theorem eW(h:∀G',Ap G G'->Q (H0 (hiR p.2 q.2)) G'):Wp (wE [rD p,rD q]) G Q:=by
 refine J6<| J1<| bP (toI p.2 q.2) ?_ λG' j=>by rw[eT9];exact v9 (h G' j)
 obtain⟨_,a⟩:=p
 obtain⟨_,b⟩:=q
 rcases a with _|a<;>rcases b with _|b<;>rfl
def efO:Option Int->Option Int->Bool
 |none,_=>false
 |some _,none=>true
 |some a,some b=>decide (a<b)
theorem fH3(h:Q (.bl (efO p.2 q.2)) G):Wp (bH [rD p,rD q]) G Q:=T5 (by
 obtain⟨_,a⟩:=p
 obtain⟨_,b⟩:=q
 rcases a with _|a
 ·rfl
 ·rcases b with _|b<;>rfl) h
theorem dL:efO p.2 q.2=true↔efR p q:=by
 unfold efR
 rcases p.2 with _|a
 ·exact⟨λh=>(nomatch h),fun⟨_,h,_⟩=>(nomatch h)⟩
 · rcases q.2 with _|b
   ·exact⟨λ_=>⟨a,rfl,λ_ h=>J7 h⟩,λ_=>rfl⟩
   ·exact⟨λh=>⟨a,rfl,λ_ k=>zY k▸of_decide_eq_true h⟩,fun⟨_,h,k⟩=>decide_eq_true (zY h▸k b rfl)⟩
theorem aN:qP r.1 r.2=false↔okR r:=by
 obtain⟨a,b⟩:=r
 unfold okR
 rcases a with _|a
 ·exact⟨λ_ _ _ h=>J7 h,λ_=>rfl⟩
 · rcases b with _|b
   ·exact⟨λ_ _ _ _ h=>J7 h,λ_=>rfl⟩
   ·exact⟨λh x y e1 e2=>by cases e1;cases e2;have:=of_decide_eq_false h;lia,λh=>decide_eq_false (by have:=h a b rfl rfl;lia)⟩
end
theorem Vw:cG=j8 (u9 (R7 g0) (y0 2)) (j8 (u9 (cE (.int 0)) (y0 3)) (j8 (u9 (cE (.int 0)) (y0 4)) (j8 (i8 MT MB) (o4 (x0 O4 (d0 (b8 2) g0)))))):=rfl
theorem GF(l:List Rg):(rsD l).length=l.length:=zg ..
theorem iK:atI (rsD (l0++p::l)) (l0.length:Int)=some (rD p):=atI_nat (by unfold rsD;simp)
theorem oJ(h0:σ[0]? =some (some (.tup a)))(h1:σ[1]? =some (some (.tup b)))(h3:σ[3]? =some (some (.int i)))(h4:σ[4]? =some (some (.int j)))(ha:atI a i=some x)(hb:atI b j=some y):
 d0 (c7 ixD (b8 0) (b8 3)) (d0 (c7 ixD (b8 1) (b8 4)) g0) σ G=some (.ok [x,y],G):=
 X6<| m9<| bin_w<| Q5.mpr ⟨_,h0,Q5.mpr ⟨_,h3,ix_tup.mpr ⟨x,ha,m9<| bin_w<| Q5.mpr ⟨_,h1,Q5.mpr ⟨_,h4,ix_tup.mpr ⟨y,hb,m8.mpr ⟨rfl,rfl⟩⟩⟩⟩⟩⟩⟩
theorem VG(l:List Rg)(p:Rg):rsD (l++[p])=rsD l++[rD p]:=xz ..
section
structure MI(one other:List Rg)(c:Nat)(G0:DH)(acc l0 l m0 m:List Rg)(G:DH):Prop where
 e1:one=l0++l
 e2:other=m0++m
 mv:Mv one other acc l m
 at':G[c]? =some (.lst (rsD acc))
 gr:Gr G0 G
 le:G0.length<=c
def mS(one other:List Rg)(c:Nat)(l0 m0:List Rg)(u v:Option D):DSt:= [some (.tup (rsD one)),some (.tup (rsD other)),some (.ref c),some (.int l0.length),some (.int m0.length),u,v]
theorem fT2:mS one other c (l0++[p]) m0 u v= [some (.tup (rsD one)),some (.tup (rsD other)),some (.ref c),some (.int (l0.length+1)),some (.int m0.length),u,v]:=by unfold mS;rw[zA];rfl
theorem Sb:mS one other c l0 (m0++[p]) u v= [some (.tup (rsD one)),some (.tup (rsD other)),some (.ref c),some (.int l0.length),some (.int (m0.length+1)),u,v]:=by unfold mS;rw[zA];rfl
theorem Ff(I:MI one other c G0 acc l0 (p::l) m0 (q::m) G)(hz:one.length+other.length<10000):
 Wp (MB (mS one other c l0 m0 u v)) G λfl G'=>∃acc' l0' l' m0' m' u' v',fl= .nx (mS one other c l0' m0' u' v')/\MI one other c G0 acc' l0' l' m0' m' G'/\l'.length+m'.length<(p::l).length+(q::m).length:=by
 have bg:=big
 have ea:atI (rsD one) (l0.length:Int)=some (rD p):=by rw[I.e1];exact iK
 have eb:atI (rsD other) (m0.length:Int)=some (rD q):=by rw[I.e2];exact iK
 refine j6.mpr<| K9<| m6 (oJ rfl rfl rfl rfl ea eb) rfl<| LW λG1 j1=>?_
 refine j6.mpr<| K9<| m6 (oJ rfl rfl rfl rfl ea eb) rfl<| eW λG2 j2=>?_
 have j:=j1.trans j2
 refine j6.mpr<| IW (A:=λfl G'=>fl= .nx (mS one other c l0 m0 (some (H0 (loR p.1 q.1))) (some (H0 (hiR p.2 q.2))))/\Gr G0 G'/\∃acc',G'[c]? =some (.lst (rsD acc'))/\(acc'=acc/\¬okR (loR p.1 q.1,hiR p.2 q.2)\/acc'=acc++[(loR p.1 q.1,hiR p.2 q.2)]/\okR (loR p.1 q.1,hiR p.2 q.2)))
  (GK.mpr<| fB.mpr<| m6 rfl rfl<| dU<| W3.mpr ⟨λh=>?_,λh=>?_⟩) ?_
 · have hl:(rsD acc).length<zo:=by have:=I.mv.small;rw[GF];lia
   refine nA.mpr<| l6.mpr<| d8 rfl<| (R1 (j.at I.at')).mpr<| d8 (a:= [rD (loR p.1 q.1,hiR p.2 q.2)]) rfl<| (GA (j.at I.at') hl).mpr ⟨rfl,(I.gr.trans j.gr).set I.le,_,(zN (lt_of_get (j.at I.at'))).trans (by rw[<-VG]),.inr ⟨rfl,aN.mp (yo _▸h)⟩⟩
 ·exact t7.mpr ⟨rfl,I.gr.trans j.gr,acc,j.at I.at',.inl ⟨rfl,λk=>by rw[aN.mpr k]at h;cases h⟩⟩
 · rintro _ G3 ⟨rfl,g3,acc',e3,ha⟩
   refine C0<| fB.mpr<| m6 (oJ rfl rfl rfl rfl ea eb) rfl<| fH3<| W3.mpr ⟨λh=>?_,λh=>?_⟩
   ·exact d8 (by rw[fT2];rfl) ⟨acc',l0++[p],l,m0,q::m,_,_,rfl,⟨by rw[I.e1];simp,I.e2,I.mv.left (dL.mp h) ha,e3,g3,I.le⟩,by simp⟩
   ·exact d8 (by rw[Sb];rfl) ⟨acc',l0,p::l,m0++[q],m,_,_,rfl,⟨I.e1,by rw[I.e2];simp,I.mv.right (λk=>by rw[dL.mpr k]at h;cases h) ha,e3,g3,I.le⟩,by simp⟩
theorem OR(I:MI one other c G0 acc l0 l m0 m G):MT (mS one other c l0 m0 u v) G=some (.ok (!l.isEmpty&&!m.isEmpty),G):=by
 have h1:one.length=l0.length+l.length:=by rw[I.e1,zA]
 have h2:other.length=m0.length+m.length:=by rw[I.e2,zA]
 refine X6<| i9<| d8 rfl ⟨λk=>d8 rfl ⟨?_,rfl⟩,λk=>⟨?_,rfl⟩⟩
 · rw[GF]at k ⊢
   have:=of_decide_eq_true k
   rcases l with _|⟨_,_⟩
   ·simp at h1;lia
   · rcases m with _|⟨_,_⟩
     ·exact decide_eq_false (by simp at h2;lia)
     ·exact decide_eq_true (by simp at h2;lia)
 · rw[GF]at k
   have:=of_decide_eq_false k
   rcases l with _|⟨_,_⟩
   ·rfl
   ·simp at h1;lia
theorem MW:∀n acc l0 l m0 m u v G,l.length+m.length<=n->MI one other c G0 acc l0 l m0 m G->one.length+other.length<10000->
 Wp (S5 (n+1) MT MB (mS one other c l0 m0 u v)) G λfl G'=>∃acc' l0' m0' u' v',fl= .nx (mS one other c l0' m0' u' v')/\Can acc'/\(∀x,inS acc' x↔inS one x/\inS other x)/\acc'.length<=one.length+other.length/\G'[c]? =some (.lst (rsD acc'))/\Gr G0 G':=by
 have stop:∀ {n:Nat} {acc l0 l m0 m:List Rg} {u v:Option D} {G:DH},MI one other c G0 acc l0 l m0 m G->(l= []\/m= [])->
  Wp (S5 (n+1) MT MB (mS one other c l0 m0 u v)) G λfl G'=>∃acc' l0' m0' u' v',fl= .nx (mS one other c l0' m0' u' v')/\Can acc'/\(∀x,inS acc' x↔inS one x/\inS other x)/\acc'.length<=one.length+other.length/\G'[c]? =some (.lst (rsD acc'))/\Gr G0 G':=λ{n acc l0 l m0 m u v G} I h=>by
  refine gE.mpr<| d8 (OR I) ?_
  have:(!l.isEmpty&&!m.isEmpty)=false:=by
   rcases h with rfl|rfl
   ·rfl
   ·cases l<;>rfl
  rw[this]
  exact⟨acc,l0,m0,u,v,rfl,I.mv.can,λx=>I.mv.done h x,by have:=I.mv.small;lia,I.at',I.gr⟩
 intro n
 induction n with
 |zero=>
   intro acc l0 l m0 m u v G hn I hz
   exact stop I (.inl (Xb (by lia)))
 |succ n ih=>
   intro acc l0 l m0 m u v G hn I hz
   rcases l with _|⟨p,l⟩
   ·exact stop I (.inl rfl)
   · rcases m with _|⟨q,m⟩
     ·exact stop I (.inr rfl)
     · refine gE.mpr<| d8 (OR I) ?_
       refine(Ff I hz).mono ?_
       rintro _ G1 ⟨acc',l0',l',m0',m',u',v',rfl,I',hl⟩
       exact ih acc' l0' l' m0' m' u' v' G1 (by lia) I' hz
theorem Kq(h1:Can one)(h2:Can other)(hz:one.length+other.length<10000)
 (q:∀met G',Can met->(∀x,inS met x↔inS one x/\inS other x)->met.length<=one.length+other.length->Ap G G'->Q (.tup (rsD met)) G'):Wp (lH [.tup (rsD one),.tup (rsD other)]) G Q:=by
 refine J6 (show Wp (cG [some (.tup (rsD one)),some (.tup (rsD other)),none,none,none,none,none]) G _ from ?_)
 rw[Vw]
 refine J0 rfl<| J0 rfl<| J0 (X1:=mS one other G.length [] [] none none) rfl<| j6.mpr<| KK<| (MW _ [] [] one [] other none none _ (zn _) ⟨rfl,rfl,Mv.start h1 h2,j7,Gr.app,zn _⟩ hz).mono ?_
 rintro _ G1 ⟨acc,l0,m0,u,v,rfl,c,i,n,e,g⟩
 exact J1<| N3 rfl<| (K8 e).mpr<| v9 (q acc G1 c i n g.ap)
end
def c5:D->D
 | .str z=>.tup [.int z.length,.str z]
 |_=>.non
def txB(a b:Str):Bool:=if a.length=b.length then decide (a.cps.toList<b.cps.toList)else decide (a.length<b.length)
theorem EL(h:z.length<=zo):Wp (O2 [.str z]) G Q↔Q (c5 (.str z)) G:=by
 unfold O2 BK
 have s0:([D.str z].map some++zu (1 - [D.str z].length) none:DSt)= [some (.str z)]:=rfl
 simp only[W9,s0,L3,S7,V1,R4,m8,Q5,zH,exists_eq_left',zy,KI h]
 exact⟨λq=>q.2,λq=>⟨sz,q⟩⟩
abbrev wOf:Str:= "of"
abbrev DJ:Str:= "but"
theorem AR(z:Str)(d:D):∀l:List (Key×D),K6 (l.map λkv=>if kv.1= .inr z then (kv.1,d)else kv)=K6 l
 |[]=>rfl
 |(k,v)::r=>by
  have ih:=AR z d r
  rw[zU]
  have e:(if ((k,v):Key×D).1= .inr z then (((k,v):Key×D).1,d)else (k,v)).1=k:=by split<;>rfl
  generalize (if ((k,v):Key×D).1= .inr z then (((k,v):Key×D).1,d)else (k,v))=p at e
  obtain⟨k',v'⟩:=p
  cases e
  cases k' with
  |inl i=>rfl
  |inr y=>simp only[K6,ih]
theorem uO(z:Str)(d:D):∀l ss,K6 l=some ss->K6 (l++[(.inr z,d)])=some (ss++[z])
 |[],ss,h=>by cases h;rfl
 |(.inl i,v)::r,ss,h=>by cases h
 |(.inr y,v)::r,ss,h=>by
  unfold K6 at h
  cases hr:K6 r with
  |none=>rw[hr]at h;cases h
  |some t=>
    rw[hr]at h
    cases h
    rw[List.cons_append]
    unfold K6
    rw[uO z d r t hr]
    rfl
theorem sZ(h:G[r]? =some (.dct l))(hl:l.length<zo):Wp (SA (.ref r) (.str z) d) G R↔R () (G.set r (.dct (L9 l (.inr z) d))):=by
 unfold SA
 simp only[j9,O3,h,Q3,d6,if_pos hl,QD]
theorem CJ:∀ss:List Str,E3 (ss.map D.str)=some ss
 |[]=>rfl
 |z::r=>by simp only[zU,E3,CJ r,xS]
def Dk(G:DH)(p:Nat)(l:List (Key×D)):Prop:=G[p]? =some (.dct l)\/G[p]? =some (.rod l)
theorem Dk.app(h:Dk G p l):Dk (G++t) p l:=by
 rcases h with h|h
 ·exact .inl (O9 h)
 ·exact .inr (O9 h)
theorem Dk.lt(h:Dk G p l):p<G.length:=by
 rcases h with h|h<;>exact lt_of_get h
def Tx(z:Str):Prop:=gI z=true/\z.length<=1000
def Ris(s:List Str):Prop:=s.Pairwise λa b=>txB a b=true
theorem pO(h1:txB a b=true)(h2:txB b c=true):txB a c=true:=by
 have:= @gC ((a.length:Int),a) ((b.length:Int),b) ((c.length:Int),c)
 unfold A1 at this
 unfold txB at *
 simp only[Int.ofNat_inj,Int.ofNat_lt]at this
 exact this h1 h2
theorem wC(a:Str):txB a a=false:=by
 unfold txB
 rw[if_pos rfl,decide_eq_false (ZZ _)]
theorem sK(a b:Str):txB a b=A1 ((a.length:Int),a) ((b.length:Int),b):=by
 unfold txB A1
 simp only[Int.ofNat_inj,Int.ofNat_lt]
theorem uH:∀ {s t},Ris s->Ris t->(∀z,z∈s↔z∈t)->s=t
 |[], [],_,_,_=>rfl
 |[],b::t,_,_,h=>by have:=(h b).mpr (by simp);cases this
 |a::s, [],_,_,h=>by have:=(h a).mp (by simp);cases this
 |a::s,b::t,h1,h2,h=>by
   obtain⟨p1,p2⟩:=jb.mp h1
   obtain⟨q1,q2⟩:=jb.mp h2
   have e:a=b:=by
    rcases zt.mp ((h a).mp (by simp))with e|m
    ·exact e
    · rcases zt.mp ((h b).mpr (by simp))with e|m'
      ·exact e.symm
      · have:=pO (q1 a m) (p1 b m')
        rw[wC]at this;cases this
   subst e
   congr 1
   refine uH p2 q2 λz=>⟨λm=>?_,λm=>?_⟩
   · rcases zt.mp ((h z).mp (zB _ m))with e|m'
     · subst e
       have:=p1 z m
       rw[wC]at this;cases this
     ·exact m'
   · rcases zt.mp ((h z).mpr (zB _ m))with e|m'
     · subst e
       have:=q1 z m
       rw[wC]at this;cases this
     ·exact m'
abbrev wrd(b:Bool):Str:=if b then wOf else DJ
def S0(b:Bool)(s:List Str):D:=.tup [.str (wrd b),.tup (s.map D.str)]
def Mk(l:List (Key×D))(ks:List Str):Prop:=K6 l=some ks/\ks.Nodup
theorem wH:∀ {l} {ks} {z},K6 l=some ks->(u3 l (.inr z)).isSome=decide (z∈ks)
 |[],ks,z,h=>by cases h;rfl
 |(.inl i,v)::r,ks,z,h=>by cases h
 |(.inr x,v)::r,ks,z,h=>by
  unfold K6 at h
  cases hr:K6 r with
  |none=>rw[hr]at h;cases h
  |some t=>
    rw[hr]at h
    cases h
    have ih:=wH (z:=z) hr
    unfold u3 at ih ⊢
    rw[yD]
    by_cases hx:x=z
    ·subst hx;simp
    · have h1:decide ((Sum.inr x:Key)= .inr z)=false:=by simpa using hx
      have h2:¬z=x:=λe=>hx e.symm
      simp only[h1]
      rw[ih]
      simp[h2]
theorem dW(h:K6 l=some ks):l.any (λkv=>decide (kv.1= .inr z))=decide (z∈ks):=by
 rw[<-wH h]
 unfold u3
 rw[Zo]
 induction l generalizing ks with
 |nil=>rfl
 |cons kv r ih=>
   rw[jW,yD]
   cases hk:decide (kv.1= .inr z) with
   |true=>rfl
   |false=>
     obtain⟨k,v⟩:=kv
     cases k with
     |inl i=>cases h
     |inr x=>
       unfold K6 at h
       cases hr:K6 r with
       |none=>rw[hr]at h;cases h
       |some t=>rw[ih hr];rfl
theorem cT(h:Mk l ks):Mk (L9 l (.inr z) d) (if z∈ks then ks else ks++[z]):=by
 unfold L9
 rw[dW h.1]
 by_cases hz:z∈ks
 · simp only[hz,decide_true,if_true]
   exact⟨by rw[AR];exact h.1,h.2⟩
 · simp only[hz,decide_false,jk,if_false]
   refine⟨uO z d l ks h.1,?_⟩
   rw[List.nodup_append]
   exact⟨h.2,by simp,λa ha b hb=>by rw[zC]at hb;subst hb;exact λe=>hz (by rw[<-e];exact ha)⟩
theorem AM:∀s:List Str,P9 (s.map λz=>.tup [.str z,.bl true])=some (s.map λz=>(.inr z,.bl true))
 |[]=>rfl
 |a::r=>by simp only[zU,P9,IB,d6,AM r]
theorem tO:∀(s:List Str) l ks,Mk l ks->∃ks',Mk (rC l (s.map λz=>(.inr z,.bl true))) ks'/\(∀z,z∈ks'↔z∈ks\/z∈s)/\ks'.length<=ks.length+s.length
 |[],l,ks,h=>⟨ks,h,by simp,by simp⟩
 |a::r,l,ks,h=>by
   obtain⟨ks',h1,h2,h3⟩:=tO r _ _ (cT h)
   refine⟨ks',h1,λz=>?_,?_⟩
   · rw[h2 z]
     by_cases ha:a∈ks
     · simp only[ha,if_true,zt]
       constructor
       · rintro(h|h)
         ·exact .inl h
         ·exact .inr (.inr h)
       · rintro(h|rfl|h)
         ·exact .inl h
         ·exact .inl ha
         ·exact .inr h
     ·simp only[ha,if_false,zW,zt,or_assoc,zS,false_or]
   · by_cases ha:a∈ks
     · simp only[ha,if_true]at h3
       simp only[zT];omega
     · simp only[ha,if_false,zA,jD]at h3
       simp only[zT];omega
theorem rP(e:G[r]? =some (.lst l))(h:P9 l=some ps):Wp (pA [.ref r]) G Q↔Q (.ref G.length) (G++[.dct (rC [] ps)]):=by
 unfold pA
 simp only[j9,O3,e,Q3,DL.listOf,m5,D3,h,Q8]
theorem nJ{s:List Str}{G:DH}(hl:s.length<=1000):Wp (vA [.tup (s.map D.str)]) G λx G'=>∃q l ks,x= .ref q/\G'[q]? =some (.dct l)/\Mk l ks/\(∀z,z∈ks↔z∈s)/\ks.length<=s.length/\Ap G G'/\G.length<=q:=by
 have bg:=big
 unfold vA QI
 have s0:([D.tup (s.map D.str)].map some++zu (1 - [D.tup (s.map D.str)].length) none:DSt)= [some (.tup (s.map D.str))]:=rfl
 simp only[W9,s0,L3,V1,R4,m8]
 rw[VM (λσ=>σ.length=1) rfl (by show (s.map D.str).length<=_;rw[zg];omega) rfl rfl (λx hx σ WR=>?_)]
 · have e:(s.map D.str).map (λx=>D.tup [x,.bl true])=s.map λz=>.tup [.str z,.bl true]:=by rw[xp];rfl
   show Wp (pA [.ref G.length]) (G++[.lst ((s.map D.str).map λx=>D.tup [x,.bl true])]) _
   rw[e,rP j7 (AM s)]
   obtain⟨ks',h1,h2,h3⟩:=tO s [] [] ⟨rfl,by simp⟩
   exact⟨_,_,ks',rfl,j7,h1,by simpa using h2,by simpa using h3,Ap.one.trans Ap.one,by simp⟩
 · match σ,WR with
   |[u],_=>
     refine⟨[some x],rfl,rfl,rfl,X6 ?_⟩
     simp only[S7,R4,m8,c9,Q5,zy,zH,exists_eq_left']
     exact⟨sz,by first|rfl|trivial,trivial⟩
theorem lM(e:G[q]? =some (.dct l))(h:K6 l=some ks):inB (.str z) (.ref q) G=some (decide (z∈ks)):=by
 unfold inB
 simp only[e,d6,xS,wH h]
theorem AQ{s:List Str}:((s.map D.str).filter λx=>match x with| .str z=>p z|_=>false)= (s.filter p).map D.str:=by
 rw[xY];rfl
theorem cV4{s t:List Str}{G:DH}(hs:s.length<=1000)(ht:t.length<=1000):Wp (wD [.tup (s.map D.str),.tup (t.map D.str)]) G λx G'=>x= .tup ((s.filter λz=>decide (z∈t)).map D.str)/\Ap G G':=by
 have bg:=big
 unfold wD qK
 have s0:([D.tup (s.map D.str),.tup (t.map D.str)].map some++zu (3 - [D.tup (s.map D.str),.tup (t.map D.str)].length) none:DSt)= [some (.tup (s.map D.str)),some (.tup (t.map D.str)),none]:=rfl
 simp only[W9,s0,j6,W6,N6,L3,V1,R4,m8,Q5,V7,wp_comp,wp_itW,srcW_tup,jQ,jG,zy,zM,zH,exists_eq_left']
 refine⟨rfl,Wp.mono (nJ ht) λx G1 ⟨q,l,ks,ex,e1,mk,mm,_,a1,_⟩=>?_⟩
 subst ex
 refine⟨by rw[zg];omega,?_⟩
 have hc:N7 (y0 0) (m7 (c7 inD (b8 0) (b8 1))) (b8 0) (λ_=>true) (s.map D.str) (U9 [none,some 2] [some (.tup (s.map D.str)),some (.tup (t.map D.str)),some (.ref q)]) G1=some (.ok ((s.map D.str).filter λx=>match x with| .str z=>decide (z∈t)|_=>false),G1):=by
  refine U8 rfl (λσ=>∃u,σ= [u,some (.ref q)]) _ _ ⟨none,rfl⟩ λx hx σ WR=>?_
  obtain⟨z,hz,rfl⟩:=zI.mp hx
  obtain⟨u,rfl⟩:=WR
  refine⟨[some (.str z),some (.ref q)],rfl,⟨_,rfl⟩,X6 ?_,rfl⟩
  simp only[F8,u4,Q5,zy,zM,zH,exists_eq_left',LD,lM e1 mk.1,QA]
  refine⟨?_,trivial⟩
  simp only[mm]
 refine(L8 hc).mpr ?_
 rw[K8 j7,AQ]
 exact⟨rfl,a1.trans Ap.one⟩
theorem NK{s t:List Str}{G:DH}(hs:s.length<=1000)(ht:t.length<=1000):Wp (GB [.tup (s.map D.str),.tup (t.map D.str)]) G λx G'=>x= .tup ((s.filter λz=> !decide (z∈t)).map D.str)/\Ap G G':=by
 have bg:=big
 unfold GB gK
 have s0:([D.tup (s.map D.str),.tup (t.map D.str)].map some++zu (3 - [D.tup (s.map D.str),.tup (t.map D.str)].length) none:DSt)= [some (.tup (s.map D.str)),some (.tup (t.map D.str)),none]:=rfl
 simp only[W9,s0,j6,W6,N6,L3,V1,R4,m8,Q5,V7,wp_comp,wp_itW,srcW_tup,jQ,jG,zy,zM,zH,exists_eq_left']
 refine⟨rfl,Wp.mono (nJ ht) λx G1 ⟨q,l,ks,ex,e1,mk,mm,_,a1,_⟩=>?_⟩
 subst ex
 refine⟨by rw[zg];omega,?_⟩
 have hc:N7 (y0 0) (m7 (c7 D9 (b8 0) (b8 1))) (b8 0) (λ_=>true) (s.map D.str) (U9 [none,some 2] [some (.tup (s.map D.str)),some (.tup (t.map D.str)),some (.ref q)]) G1=some (.ok ((s.map D.str).filter λx=>match x with| .str z=> !decide (z∈t)|_=>false),G1):=by
  refine U8 rfl (λσ=>∃u,σ= [u,some (.ref q)]) _ _ ⟨none,rfl⟩ λx hx σ WR=>?_
  obtain⟨z,hz,rfl⟩:=zI.mp hx
  obtain⟨u,rfl⟩:=WR
  refine⟨[some (.str z),some (.ref q)],rfl,⟨_,rfl⟩,X6 ?_,rfl⟩
  simp only[F8,u4,Q5,zy,zM,zH,exists_eq_left',SJ,lM e1 mk.1,QA]
  refine⟨?_,trivial⟩
  simp only[mm]
 refine(L8 hc).mpr ?_
 rw[K8 j7,AQ]
 exact⟨rfl,a1.trans Ap.one⟩
theorem EM:∀(s:List Str) G,(∀z∈s,z.length<=zo)->v3 O2 (s.map D.str) G=some (.ok (s.map λz=>c5 (.str z)),G)
 |[],G,_=>rfl
 |a::r,G,h=>by
   have h1:noX (O2 [.str a]) G=some (.ok (c5 (.str a)),G):=X6 (aC.mpr ((EL (h a (by simp))).mpr ⟨rfl,rfl⟩))
   have h2:=EM r G λz hz=>h z (by simp[hz])
   show (noX (O2 [.str a]) >>= λk=>v3 O2 (r.map D.str) >>= λks=>pure (k::ks)) G=_
   rw[M.bind_ok h1,M.bind_ok h2]
   rfl
theorem SM:∀s:List Str,l9 sG (s.map λz=>c5 (.str z))=some (s.map λz=>((z.length:Int),z))
 |[]=>rfl
 |a::r=>by simp only[zU,l9,SM r];rfl
theorem RO(s:List Str):mB (s.map λz=>c5 (.str z))=some (s.map λz=>((z.length:Int),z)):=by unfold mB;rw[SM]
theorem dN(nd:s.Nodup):∃m,KB (s.map λz=>((z.length:Int),z)) (s.map D.str)=m.map D.str/\Ris m/\m.Perm s:=by
 have hz:(s.map λz=>(((z.length:Int),z):Int×Str)).zip (s.map D.str)=s.map λz=>(((z.length:Int),z),D.str z):=by
  rw[List.zip_map']
 have nd2:(s.map λz=>(((z.length:Int),z):Int×Str)).Nodup:=by
  rw[List.Nodup,xi]
  exact nd.imp λ{a b} h e=>h (yL e).2
 let m:=s.mergeSort λa b=> !txB b a
 have hp:m.Perm s:=jL _ _
 have hs:m.Pairwise λa b=>(!txB b a)=true:=xA (λa b c h1 h2=>by
  simp only[yo]at *
  refine yG.mpr λh=>?_
  by_cases e:a=b
  ·subst e;rw[h]at h2;cases h2
  · rw[sK]at h h1 h2
    have:=gC h (LC (λz=>e (yL z).2.symm) h1)
    rw[this]at h2;cases h2) (λa b=>by
  by_cases e:a=b
  ·subst e;rw[wC];rfl
  · cases q:txB b a with
    |false=>rfl
    |true=>
      have:txB a b=false:=by
       refine yG.mpr λh=>?_
       have:=pO q h
       rw[wC]at this;cases this
      rw[this];rfl) _
 refine⟨m,?_,?_,hp⟩
 · have e:=DP nd2 (z:=m.map λz=>(((z.length:Int),z),D.str z)) (by rw[hz];exact hp.map _) (by
    rw[xi]
    refine hs.imp λ{a b} h=>?_
    unfold u8
    rw[<-sK];exact h)
   rw[<-e,xp]
   rfl
 · have ndm:m.Nodup:=hp.nodup_iff.mpr nd
   have:m.Pairwise λa b=>(!txB b a)=true/\a≠b:=List.Pairwise.and hs ndm
   refine this.imp λ{a b} h=>?_
   have h1:=h.1
   simp only[yo]at h1
   rw[sK]at h1 ⊢
   exact LC (λz=>h.2 (yL z).2.symm) h1
theorem Kw{l:List (Key×D)}(e:G[q]? =some (.dct l))(h:Mk l ks)(h64:ks.length<64)(hz:∀z∈ks,z.length<=zo)(hq:∀m,Ris m->m.Perm ks->Q (.ref G.length) (G++[.lst (m.map D.str)])):Wp (D8 O2 (.ref q)) G Q:=by
 obtain⟨m,e1,e2,e3⟩:=dN h.2
 have nd2:(ks.map λz=>(((z.length:Int),z):Int×Str)).Nodup:=by
  rw[List.Nodup,xi]
  exact h.2.imp λ{a b} h e=>h (yL e).2
 unfold D8
 simp only[j9,O3,e,Q3,D3,h.1,if_pos h64,x9]
 refine(L8 (EM ks G hz)).mpr ?_
 rw[RO]
 refine⟨_,rfl,?_⟩
 rw[if_pos nd2,Q8,e1]
 exact hq m e2 e3
theorem lL:Wp (RA F fe σ) G Q↔Wp (fe σ) G λx G1=>Wp (D8 F x) G1 Q:=by unfold RA;simp only[j9]
theorem aU{s:List Str}(hs:s.length<64)(hz:∀z∈s,Tx z):Wp (Z9 [.tup (s.map D.str)]) G λx G'=>∃m,x= .tup (m.map D.str)/\Ris m/\(∀z,z∈m↔z∈s)/\m.length<=s.length/\Ap G G':=by
 have bg:=big
 unfold Z9 nI
 have s0:([D.tup (s.map D.str)].map some++zu (1 - [D.tup (s.map D.str)].length) none:DSt)= [some (.tup (s.map D.str))]:=rfl
 simp only[W9,s0,L3,V1,R4,m8,Q5,V7,lL,zy,zH,exists_eq_left']
 refine⟨rfl,Wp.mono (nJ (by omega)) λx G1 ⟨q,l,ks,ex,e1,mk,mm,hl,a1,_⟩=>?_⟩
 subst ex
 refine Kw e1 mk (by omega) (λz hz'=>zG (hz z ((mm z).mp hz')).2 (by omega)) λm r p=>?_
 rw[K8 j7]
 exact⟨m,rfl,r,λz=>by rw[p.mem_iff,mm],by rw[p.length_eq];exact hl,a1.trans Ap.one⟩
theorem Qh{s t:List Str}(hs:s.length+t.length<64)(hz:∀z∈s,Tx z)(hz2:∀z∈t,Tx z):Wp (qD [.tup (s.map D.str),.tup (t.map D.str)]) G λx G'=>∃m,x= .tup (m.map D.str)/\Ris m/\(∀z,z∈m↔z∈s\/z∈t)/\m.length<=s.length+t.length/\Ap G G':=by
 have bg:=big
 unfold qD WJ
 have s0:([D.tup (s.map D.str),.tup (t.map D.str)].map some++zu (2 - [D.tup (s.map D.str),.tup (t.map D.str)].length) none:DSt)= [some (.tup (s.map D.str)),some (.tup (t.map D.str))]:=rfl
 simp only[W9,s0,L3,V1,R4,m8,Q5,u4,V7,zy,zM,zH,exists_eq_left']
 rw[IQ (by rw[zg,zg];omega),<-xz]
 refine⟨rfl,Wp.mono (aU (by rw[zA];exact hs) (λz hz'=>?_)) λx G1 ⟨m,e,r,mm,hl,a⟩=>⟨m,e,r,λz=>by rw[mm,zW],by rw[zA]at hl;exact hl,a⟩⟩
 rcases zW.mp hz' with h|h
 ·exact hz z h
 ·exact hz2 z h
def inT(b:Bool)(s:List Str)(z:Str):Prop:=if b then z∈s else z∉s
structure Rw(s:List Str):Prop where
 ris:Ris s
 tx:∀z∈s,Tx z
 len:s.length<30
def Mw(b c:Bool)(s t:List Str)(G:DH)(x:D)(G':DH):Prop:=∃m,x=S0 (b||c) m/\Ris m/\(∀z,inT (b||c) m z↔inT b s z/\inT c t z)/\(∀z∈m,z∈s\/z∈t)/\m.length<=s.length+t.length/\Ap G G'
theorem dJ(h:Ris s):Ris (s.filter p):=h.sublist JZ
theorem Hv(b:Bool):(wrd b==wOf)=b:=by cases b<;>decide
theorem Bk{s t:List Str}(hs:Rw s)(ht:Rw t):Wp (WD [S0 b s,S0 c t]) G (Mw b c s t G):=by
 have l1:=hs.len
 have l2:=ht.len
 unfold WD AJ
 have s0:([S0 b s,S0 c t].map some++zu (2 - [S0 b s,S0 c t].length) none:DSt)= [some (.tup [.str (wrd b),.tup (s.map D.str)]),some (.tup [.str (wrd c),.tup (t.map D.str)])]:=rfl
 simp only[W9,s0,j6,g9,EQ,F8,L3,S7,V1,R4,m8,Q5,u4,c9,V7,t7,zy,zM,zH,exists_eq_left',ix_tup,at0,at1,DY,QA,Hv]
 cases b<;>cases c<;>simp only[jk,if_false,if_true]
 · refine⟨rfl,Wp.mono (Qh (by omega) hs.tx ht.tx) λx G1 ⟨m,e,r,mm,hl,a⟩=>?_⟩
   subst e
   refine⟨sz,m,rfl,r,λz=>?_,λz hz=>(mm z).mp hz,hl,a⟩
   simp only[inT,Yu,jk,if_false,mm]
   exact not_or
 · refine⟨rfl,Wp.mono (NK (by omega) (by omega)) λx G1 ⟨e,a⟩=>?_⟩
   subst e
   refine⟨sz,_,rfl,dJ ht.ris,λz=>?_,λz hz=>.inr (jw.mp hz).1,zG (yf _ _) (by omega),a⟩
   simp only[inT,Bool.or_true,jk,if_false,if_true,jw,yo,decide_eq_false_iff_not]
   exact And.comm
 · refine⟨rfl,Wp.mono (NK (by omega) (by omega)) λx G1 ⟨e,a⟩=>?_⟩
   subst e
   refine⟨sz,_,rfl,dJ hs.ris,λz=>?_,λz hz=>.inl (jw.mp hz).1,zG (yf _ _) (by omega),a⟩
   simp only[inT,Yu,jk,if_false,if_true,jw,yo,decide_eq_false_iff_not]
 · refine⟨rfl,Wp.mono (cV4 (by omega) (by omega)) λx G1 ⟨e,a⟩=>?_⟩
   subst e
   refine⟨sz,_,rfl,dJ hs.ris,λz=>?_,λz hz=>.inl (jw.mp hz).1,zG (yf _ _) (by omega),a⟩
   simp only[inT,Bool.or_self,if_true,jw,decide_eq_true_eq]
inductive NV where
 |num (i:Int)
 |txt (z:Str)
 |tru (b:Bool)
 |lst (n:Nat) (f:Nat->NV)
 |rcd (p:Str->Bool) (f:Str->NV)
structure Pt(α:Type) where
 ns:List Rg
 b:Bool
 ss:List Str
 bs:List Bool
 ls:Option (List α×α)
 rs:Option (List (Str×Bool×α)×α)
section
def fld:List (Str×Bool×α)->α->Str->Bool×α
 |[],m,_=>(false,m)
 |e::fs,m,z=>if e.1=z then e.2 else fld fs m z
def frt(fs:List α)(m:α)(i:Nat):α:=(fs[i]?).getD m
variable(mem:α->NV->Prop)(gd:α->Prop)
def D1(r:Option (List α×α))(n:Nat)(f:Nat->NV):Prop:=∃fs m,r=some (fs,m)/\fs.length<=n/\∀i,i<n->mem (frt fs m i) (f i)
def A2(r:Option (List (Str×Bool×α)×α))(p:Str->Bool)(f:Str->NV):Prop:=∃fs m,r=some (fs,m)/\∀z,(p z=true->mem (fld fs m z).2 (f z))/\(p z=false->(fld fs m z).1=false)
def E7(s:Pt α):NV->Prop
 | .num i=>inS s.ns i
 | .txt z=>inT s.b s.ss z
 | .tru b=>b∈s.bs
 | .lst n f=>D1 mem s.ls n f
 | .rcd p f=>A2 mem s.rs p f
def lO:Option (Pt α)->NV->Prop
 |none,_=>True
 |some s,v=>E7 mem s v
def U6(r:Option (List α×α)):Prop:=∀fs m,r=some (fs,m)->gd m/\∀a∈fs,gd a/\∃v,mem a v
def Nms(fs:List (Str×Bool×α)):Prop:=fs.Pairwise λe e'=>e.1.cps.toList<e'.1.cps.toList
def C2(r:Option (List (Str×Bool×α)×α)):Prop:=∀fs m,r=some (fs,m)->gd m/\Nms fs/\∀e∈fs,gd e.2.2/\(e.2.1=true->∃v,mem e.2.2 v)/\(e.2.1=false->e.2.2≠m)
def B4:List (List Bool):= [[], [false], [true], [false,true]]
structure GdP(s:Pt α):Prop where
 ns:Can s.ns
 ss:Ris s.ss
 bs:s.bs∈B4
 ls:U6 mem gd s.ls
 rs:C2 mem gd s.rs
def GdS:Option (Pt α)->Prop
 |none=>True
 |some s=>GdP mem gd s/\¬∀v,E7 mem s v
def Ext:Prop:=∀a b,gd a->gd b->(∀v,mem a v↔mem b v)->a=b
end
theorem kN:∀l:List Str,∃N,∀z∈l,z.cps.size<N
 |[]=>⟨0,λ_ h=>nomatch h⟩
 |x::l=>by
   obtain⟨N,h⟩:=kN l
   refine⟨N+x.cps.size+1,λz hz=>?_⟩
   rcases zt.mp hz with rfl|hz
   ·lia
   ·have:=h z hz;lia
theorem fresh(l:List Str):∃z,z∉l:=by
 obtain⟨N,h⟩:=kN l
 refine⟨⟨Array.replicate N 0⟩,λhz=>?_⟩
 have:=h _ hz
 rw[Array.size_replicate]at this
 lia
theorem PL(hs:Ris s)(ht:Ris t)(h:∀z,inT b s z↔inT c t z):b=c/\s=t:=by
 obtain⟨z,hz⟩:=fresh (s++t)
 have z1:z∉s:=λk=>hz (yF _ k)
 have z2:z∉t:=λk=>hz (zJ _ k)
 rcases b with _|_<;>rcases c with _|_
 ·exact⟨rfl,uH hs ht λx=>Decidable.not_iff_not.mp (h x)⟩
 ·exact absurd ((h z).mp z1) z2
 ·exact absurd ((h z).mpr z2) z1
 ·exact⟨rfl,uH hs ht h⟩
theorem FP:∀a∈B4,∀b∈B4,(∀k,k∈a↔k∈b)->a=b:=by
 unfold B4
 decide
section
variable{α:Type}{mem:α->NV->Prop}{gd:α->Prop}
theorem D4(h:i<fs.length):frt fs m i=fs[i]:=by
 unfold frt;rw[zi h];rfl
theorem P4(h:fs.length<=i):frt fs m i=m:=by
 unfold frt;rw[zR h];rfl
theorem eG(fs:List α)(h:∀a∈fs,∃v,mem a v):∃f:Nat->NV,∀i hi,mem fs[i] (f i):=by
 refine⟨λi=>if hi:i<fs.length then (h fs[i] (jx hi)).choose else .num 0,λi hi=>?_⟩
 simp only[dif_pos hi]
 exact(h fs[i] (jx hi)).choose_spec
theorem fI(h:∀i hi,mem fs[i] (f i)):D1 mem (some (fs,m)) fs.length f:=
 ⟨fs,m,rfl,zn _,λi hi=>by rw[D4 hi];exact h i hi⟩
theorem T8:D1 mem (some (fs,m)) n f↔fs.length<=n/\∀i,i<n->mem (frt fs m i) (f i):=
 ⟨fun⟨gs,k,e,h⟩=>by cases e;exact h,λh=>⟨fs,m,rfl,h⟩⟩
theorem y8:¬D1 mem none n f:=fun⟨_,_,e,_⟩=>nomatch e
theorem LO(h1:U6 mem gd (some (fs,m)))(h:∀n f,D1 mem (some (fs,m)) n f↔D1 mem (some (gs,k)) n f):gs.length<=fs.length:=by
 obtain⟨f,hf⟩:=eG fs λa ha=>((h1 fs m rfl).2 a ha).2
 exact(T8.mp ((h _ _).mp (fI hf))).1
theorem mR(h1:U6 mem gd (some (fs,m)))(h:∀n f,D1 mem (some (fs,m)) n f↔D1 mem (some (gs,k)) n f)(i:Nat)(v:NV)(hv:mem (frt fs m i) v)(hi:i<=fs.length):mem (frt gs k i) v:=by
 obtain⟨f,hf⟩:=eG fs λa ha=>((h1 fs m rfl).2 a ha).2
 have w:D1 mem (some (fs,m)) (max fs.length (i+1)) (λj=>if j=i then v else f j):=T8.mpr ⟨by lia,λj hj=>by
  by_cases e:j=i
  ·rw[e];simp only[if_pos];exact hv
  · simp only[if_neg e]
    have hl:j<fs.length:=by lia
    rw[D4 hl];exact hf j hl⟩
 have:=(T8.mp ((h _ _).mp w)).2 i (by lia)
 simpa using this
theorem kW(he:Ext mem gd)(h1:U6 mem gd r)(h2:U6 mem gd t)(h:∀n f,D1 mem r n f↔D1 mem t n f):r=t:=by
 rcases r with _|⟨fs,m⟩<;>rcases t with _|⟨gs,k⟩
 ·rfl
 · obtain⟨f,hf⟩:=eG gs λa ha=>((h2 gs k rfl).2 a ha).2
   exact absurd ((h _ _).mpr (fI hf)) y8
 · obtain⟨f,hf⟩:=eG fs λa ha=>((h1 fs m rfl).2 a ha).2
   exact absurd ((h _ _).mp (fI hf)) y8
 · have hl:fs.length=gs.length:=Nat.le_antisymm (LO h2 λn f=>(h n f).symm) (LO h1 h)
   have e:∀i,i<=fs.length->gd (frt fs m i)->gd (frt gs k i)->frt fs m i=frt gs k i:=λi hi a b=>he _ _ a b λv=>⟨λhv=>mR h1 h i v hv hi,λhv=>mR h2 (λn f=>(h n f).symm) i v hv (hl▸hi)⟩
   have em:m=k:=by
    have:=e fs.length (zn _) (by rw[P4 (zn _)];exact(h1 fs m rfl).1) (by rw[P4 (xt hl.symm)];exact(h2 gs k rfl).1)
    rwa [P4 (zn _),P4 (xt hl.symm)]at this
   have ef:fs=gs:=YX hl λi ha hb=>by
    have:=e i (yV ha) (by rw[D4 ha];exact((h1 fs m rfl).2 _ (jx ha)).1) (by rw[D4 hb];exact((h2 gs k rfl).2 _ (jx hb)).1)
    rwa [D4 ha,D4 hb]at this
   rw[em,ef]
end
abbrev nlt(a b:Str):Prop:=a.cps.toList<b.cps.toList
theorem oD(a:Str):¬nlt a a:=ZZ _
theorem km(h:nlt a b)(k:nlt b c):nlt a c:=List.lt_trans h k
section
variable{mem:α->NV->Prop}{gd:α->Prop}
theorem tK{m:α}:z∈fs.map (·.1)->(z,fld fs m z)∈fs:=by
 induction fs with
 |nil=>intro h;cases h
 |cons e fs ih=>
   intro h
   unfold fld
   by_cases k:e.1=z
   ·rw[if_pos k,<-k];exact zK ..
   · rw[if_neg k]
     rcases zt.mp h with h|h
     ·exact absurd h.symm k
     ·exact zB _ (ih h)
theorem mC{m:α}:z∉fs.map (·.1)->fld fs m z= (false,m):=by
 induction fs with
 |nil=>intro h;rfl
 |cons e fs ih=>
   intro h
   unfold fld
   rw[if_neg λk=>h (zt.mpr (.inl k.symm)),ih λk=>h (zB _ k)]
theorem OM(hn:Nms fs)(he:e∈fs):fld fs m e.1=e.2:=by
 induction fs with
 |nil=>cases he
 |cons x fs ih=>
   unfold fld
   obtain⟨h1,h2⟩:=jb.mp hn
   rcases zt.mp he with rfl|he
   ·rw[if_pos rfl]
   ·rw[if_neg λk=>oD e.1 (by have:=h1 e he;rw[k]at this;exact this),ih h2 he]
theorem UA:A2 mem (some (fs,m)) p f↔∀z,(p z=true->mem (fld fs m z).2 (f z))/\(p z=false->(fld fs m z).1=false):=
 ⟨fun⟨gs,k,e,h⟩=>by cases e;exact h,λh=>⟨fs,m,rfl,h⟩⟩
theorem W5:¬A2 mem none p f:=fun⟨_,_,e,_⟩=>nomatch e
theorem tP{m:α}(h:C2 mem gd (some (fs,m)))(k:(fld fs m z).1=true):∃v,mem (fld fs m z).2 v:=by
 by_cases hz:z∈fs.map (·.1)
 ·exact((h fs m rfl).2.2 _ (tK hz)).2.1 k
 ·rw[mC hz]at k;cases k
theorem HL(h:C2 mem gd (some (fs,m)))(z:Str):gd (fld fs m z).2:=by
 by_cases hz:z∈fs.map (·.1)
 ·exact((h fs m rfl).2.2 _ (tK hz)).1
 ·rw[mC hz];exact(h fs m rfl).1
theorem pG(h:C2 mem gd (some (fs,m))):∃f:Str->NV,∀z,(fld fs m z).1=true->mem (fld fs m z).2 (f z):=by
 refine⟨λz=>if k:(fld fs m z).1=true then (tP h k).choose else .num 0,λz k=>?_⟩
 simp only[dif_pos k]
 exact(tP h k).choose_spec
theorem cK(h:∀z,(fld fs m z).1=true->mem (fld fs m z).2 (f z)):A2 mem (some (fs,m)) (λz=>(fld fs m z).1) f:=UA.mpr λz=>⟨h z,id⟩
theorem UN(h1:C2 mem gd (some (fs,m)))(h:∀p f,A2 mem (some (fs,m)) p f↔A2 mem (some (gs,k)) p f)(z:Str)(e:(fld fs m z).1=false):(fld gs k z).1=false:=by
 obtain⟨f,hf⟩:=pG h1
 exact(UA.mp ((h _ _).mp (cK hf)) z).2 e
theorem AO(h1:C2 mem gd (some (fs,m)))(h:∀p f,A2 mem (some (fs,m)) p f↔A2 mem (some (gs,k)) p f)(z:Str)(v:NV)(hv:mem (fld fs m z).2 v):mem (fld gs k z).2 v:=by
 obtain⟨f,hf⟩:=pG h1
 have w:A2 mem (some (fs,m)) (λy=>decide (y=z)||(fld fs m y).1) (λy=>if y=z then v else f y):=UA.mpr λy=>by
  by_cases e:y=z
  ·subst e;simp[hv]
  ·simp only[e,decide_false,Bool.false_or,if_false];exact⟨hf y,id⟩
 have:=(UA.mp ((h _ _).mp w) z).1 (by simp)
 simpa using this
theorem RK:∀ {fs gs:List (Str×Bool×α)},Nms fs->Nms gs->(∀e,e∈fs↔e∈gs)->fs=gs
 |[], [],_,_,_=>rfl
 |[],g::gs,_,_,h=>nomatch (h g).mpr (zK ..)
 |f::fs, [],_,_,h=>nomatch (h f).mp (zK ..)
 |f::fs,g::gs,hf,hg,h=>by
   obtain⟨f1,f2⟩:=jb.mp hf
   obtain⟨g1,g2⟩:=jb.mp hg
   have e:f=g:=by
    rcases zt.mp ((h f).mp (zK ..))with e|a
    ·exact e
    · rcases zt.mp ((h g).mpr (zK ..))with e|b
      ·exact e.symm
      ·exact absurd (km (f1 g b) (g1 f a)) (oD _)
   subst e
   rw[RK f2 g2 λe=>⟨λa=>?_,λa=>?_⟩]
   · rcases zt.mp ((h e).mp (zB _ a))with k|k
     ·exact absurd (f1 e a) (by rw[k];exact oD _)
     ·exact k
   · rcases zt.mp ((h e).mpr (zB _ a))with k|k
     ·exact absurd (g1 e a) (by rw[k];exact oD _)
     ·exact k
theorem Vb{fs gs:List (Str×Bool×α)}(h1:C2 mem gd (some (fs,m)))(h2:C2 mem gd (some (gs,m)))(e:∀z,fld fs m z=fld gs m z):fs=gs:=by
 have one:∀ {fs gs:List (Str×Bool×α)},C2 mem gd (some (fs,m))->(∀z,fld fs m z=fld gs m z)->∀x∈fs,x∈gs:=λ{fs gs} h1 e x hx=>by
  have ex:=OM (m:=m) (h1 _ _ rfl).2.1 hx
  by_cases hz:x.1∈gs.map (·.1)
  · have:=tK (m:=m) hz
    rw[<-e,ex]at this
    exact this
  · have h3:x.2= (false,m):=by rw[<-ex,e,mC hz]
    exact absurd (congrArg (·.2) h3) (((h1 _ _ rfl).2.2 x hx).2.2 (congrArg (·.1) h3))
 exact RK (h1 _ _ rfl).2.1 (h2 _ _ rfl).2.1 λx=>⟨one h1 e x,one h2 (λz=>(e z).symm) x⟩
theorem Cb(he:Ext mem gd)(h1:C2 mem gd r)(h2:C2 mem gd t)(h:∀p f,A2 mem r p f↔A2 mem t p f):r=t:=by
 rcases r with _|⟨fs,m⟩<;>rcases t with _|⟨gs,k⟩
 ·rfl
 · obtain⟨f,hf⟩:=pG h2
   exact absurd ((h _ _).mpr (cK hf)) W5
 · obtain⟨f,hf⟩:=pG h1
   exact absurd ((h _ _).mp (cK hf)) W5
 · have h':=λp f=>(h p f).symm
   have e:∀z,fld fs m z=fld gs k z:=λz=>Xt (by
    rcases a:(fld fs m z).1 with _|_
    ·exact(UN h1 h z a).symm
    · rcases b:(fld gs k z).1 with _|_
      ·exact absurd (UN h2 h' z b) (by rw[a];decide)
      ·rfl) (he _ _ (HL h1 z) (HL h2 z) λv=>⟨AO h1 h z v,AO h2 h' z v⟩)
   obtain⟨z,hz⟩:=fresh (fs.map (·.1)++gs.map (·.1))
   have em:m=k:=by
    have:=e z
    rw[mC λa=>hz (yF _ a),mC λa=>hz (zJ _ a)]at this
    exact congrArg (·.2) this
   subst em
   rw[Vb h1 h2 e]
theorem nT(he:Ext mem gd):Ext (lO mem) (GdS mem gd):=by
 intro a b ha hb h
 rcases a with _|a<;>rcases b with _|b
 ·rfl
 ·exact absurd (λv=>(h v).mp trivial) hb.2
 ·exact absurd (λv=>(h v).mpr trivial) ha.2
 · have e1:=vI ha.1.ns hb.1.ns λx=>h (.num x)
   have e2:=PL ha.1.ss hb.1.ss λx=>h (.txt x)
   have e3:=FP _ ha.1.bs _ hb.1.bs λx=>h (.tru x)
   have e4:=kW he ha.1.ls hb.1.ls λn f=>h (.lst n f)
   have e5:=Cb he ha.1.rs hb.1.rs λn f=>h (.rcd n f)
   rcases a with⟨a1,a2,a3,a4,a5,a6⟩
   rcases b with⟨b1,b2,b3,b4,b5,b6⟩
   obtain⟨e2,e2'⟩:=e2
   dsimp only at e1 e2 e2' e3 e4 e5
   rw[e1,e2,e2',e3,e4,e5]
end
def CS:Nat->Type
 |0=>Unit
 |n+1=>Option (Pt (CS n))
def inC:(n:Nat)->CS n->NV->Prop
 |0=>λ_ _=>True
 |n+1=>lO (inC n)
def Gd:(n:Nat)->CS n->Prop
 |0=>λ_=>True
 |n+1=>GdS (inC n) (Gd n)
theorem gB:∀n,Ext (inC n) (Gd n)
 |0=>λ_ _ _ _ _=>rfl
 |n+1=>nT (gB n)
structure EH(n:Nat)(s t m:CS n):Prop where
 g:Gd n m
 i:∀v,inC n m v↔inC n s v/\inC n t v
theorem EH.one(h:EH n s t m)(k:EH n s t m'):m=m':=gB n _ _ h.g k.g λv=>(h.i v).trans (k.i v).symm
section
variable{α:Type}{mem:α->NV->Prop}{gd:α->Prop}
structure IsM(mem:α->NV->Prop)(gd:α->Prop)(s t r:α):Prop where
 g:gd r
 i:∀v,mem r v↔mem s v/\mem t v
structure LsM(mem:α->NV->Prop)(gd:α->Prop)(fs:List α)(m:α)(gs:List α)(k:α)(hs:List α)(h:α):Prop where
 len:hs.length=max fs.length gs.length
 at_:∀i (hi:i<hs.length),IsM mem gd (frt fs m i) (frt gs k i) hs[i]
 more:IsM mem gd m k h
theorem LsM.frt(w:LsM mem gd fs m gs k hs h)(i:Nat):IsM mem gd (W.frt fs m i) (W.frt gs k i) (W.frt hs h i):=by
 have:=w.len
 by_cases hi:i<hs.length
 ·rw[D4 hi];exact w.at_ i hi
 ·rw[P4 (by lia),P4 (by lia),P4 (by lia)];exact w.more
theorem LsM.me(w:LsM mem gd fs m gs k hs h)(n:Nat)(f:Nat->NV):D1 mem (some (hs,h)) n f↔D1 mem (some (fs,m)) n f/\D1 mem (some (gs,k)) n f:=by
 rw[T8,T8,T8,w.len]
 constructor
 · rintro⟨a,b⟩
   exact⟨⟨by lia,λi hi=>((w.frt i).i _).mp (b i hi) |>.1⟩,by lia,λi hi=>((w.frt i).i _).mp (b i hi) |>.2⟩
 · rintro⟨⟨a,b⟩,c,d⟩
   exact⟨by lia,λi hi=>((w.frt i).i _).mpr ⟨b i hi,d i hi⟩⟩
theorem LsM.good(w:LsM mem gd fs m gs k hs h)(ne:∀a∈hs,∃v,mem a v):U6 mem gd (some (hs,h)):=λfs' m' e=>by
 cases e
 refine⟨w.more.g,λa ha=>⟨?_,ne a ha⟩⟩
 obtain⟨i,hi,rfl⟩:=jS.mp ha
 exact(w.at_ i hi).g
open Classical in
def eN(h:α)(es:List (Str×Bool×α)):List (Str×Bool×α):=es.filter λe=>e.2.1||!decide (e.2.2=h)
structure vz(mem:α->NV->Prop)(s:Pt α):Prop where
 ns:s.ns= [(none,none)]
 b:s.b=false
 ss:s.ss= []
 bs:s.bs= [false,true]
 ls:∃m,s.ls=some ([],m)/\∀v,mem m v
 rs:∃m,s.rs=some ([],m)/\∀v,mem m v
theorem gL:Can [(none,none)]:=⟨λp hp _ _ e=>by rw[zC.mp hp]at e;exact J7 e,yM ..⟩
theorem BZ(he:Ext mem gd)(h:GdP mem gd s):(∀v,E7 mem s v)↔vz mem s:=by
 constructor
 · intro a
   have e2:=PL (c:=false) h.ss .nil λz=>⟨λ_ k=>(nomatch k),λ_=>a (.txt z)⟩
   refine⟨vI h.ns gL λx=>⟨λ_=>⟨(none,none),zC.mpr rfl,λa e=>J7 e,λa e=>J7 e⟩,λ_=>a (.num x)⟩,e2.1,e2.2,FP _ h.bs _ (by decide) λk=>⟨λ_=>by cases k<;>decide,λ_=>a (.tru k)⟩,?_,?_⟩
   · obtain⟨fs,m,e,hl,_⟩:=a (.lst 0 λ_=>.num 0)
     have:fs= []:=List.length_eq_zero_iff.mp (Nat.le_zero.mp hl)
     subst this
     refine⟨m,e,λv=>?_⟩
     have:=a (.lst 1 λ_=>v)
     have:D1 mem s.ls 1 λ_=>v:=this
     rw[e]at this
     exact(T8.mp this).2 0 (by decide)
   · obtain⟨fs,m,e,hf⟩:=a (.rcd (λ_=>false) λ_=>.num 0)
     have al:∀z v,mem (fld fs m z).2 v:=λz v=>by
      have:A2 mem s.rs (λ_=>true) λ_=>v:=a (.rcd (λ_=>true) λ_=>v)
      rw[e]at this
      exact(UA.mp this z).1 rfl
     obtain⟨z,hz⟩:=fresh (fs.map (·.1))
     have hm:∀v,mem m v:=λv=>by have:=al z v;rwa [mC hz]at this
     have g:=h.rs fs m e
     have:fs= []:=List.eq_nil_iff_forall_not_mem.mpr λx hx=>by
      have k:=OM (m:=m) g.2.1 hx
      have g2:=g.2.2 x hx
      refine g2.2.2 (by rw[<-k];exact(hf x.1).2 rfl) (he _ _ g2.1 g.1 λv=>⟨λ_=>hm v,λ_=>by have:=al x.1 v;rwa [k]at this⟩)
     subst this
     exact⟨m,e,hm⟩
 · rintro⟨h1,h2,h3,h4,⟨m,e,hm⟩,k,e',hk⟩ v
   rcases v with i|z|b|⟨n,f⟩|⟨p,f⟩
   · show inS s.ns i
     rw[h1]
     exact⟨(none,none),zC.mpr rfl,λa e=>J7 e,λa e=>J7 e⟩
   · show inT s.b s.ss z
     rw[h2,h3]
     exact λk=>nomatch k
   · show b∈s.bs
     rw[h4]
     cases b<;>decide
   · show D1 mem s.ls n f
     rw[e]
     exact T8.mpr ⟨zQ _,λi _=>hm _⟩
   · show A2 mem s.rs p f
     rw[e']
     exact UA.mpr λz=>⟨λ_=>hk _,λ_=>rfl⟩
end
abbrev E2:Str:= "any"
def Z4(n:Nat)(G:DH)(x y:D)(P:Prop):Prop:=∃k,eqN n G x y=some k/\(k=true↔P)
def W4(n:Nat)(G:DH)(x y:List D)(P:Prop):Prop:=∃k,eqL (eqN n G) x y=some k/\(k=true↔P)
section
theorem Z4.tup(h:W4 n G a b P):Z4 (n+1) G (.tup a) (.tup b) P:=by
 obtain⟨k,e,i⟩:=h
 refine⟨k,?_,i⟩
 rw[RD]
 show (if true=true then (if true=false/\_ then some false else eqL (eqN n G) a b)else some false)=_
 rw[if_pos rfl,if_neg (λh=>YY h.1),e]
theorem W4.nil:W4 n G [] [] True:=⟨true,rfl,by simp⟩
theorem Z4.cons(h:Z4 n G x y P)(t:W4 n G xs ys P'):W4 n G (x::xs) (y::ys) (P/\P'):=by
 obtain⟨k,e,i⟩:=h
 obtain⟨k',e',i'⟩:=t
 refine⟨k&&k',by rw[HF,e,e'],?_⟩
 rw[JI,i,i']
theorem Z4.iff(h:Z4 n G x y P)(i:P↔P'):Z4 n G x y P':=h.elim λk z=>⟨k,z.1,z.2.trans i⟩
theorem W4.iff(h:W4 n G x y P)(i:P↔P'):W4 n G x y P':=h.elim λk z=>⟨k,z.1,z.2.trans i⟩
theorem W4.map{f:α->D}(h:∀a b,Z4 n G (f a) (f b) (a=b)):∀l m:List α,W4 n G (l.map f) (m.map f) (l=m)
 |[], []=>W4.nil.iff (by simp)
 |[],_::_=>⟨false,rfl,by simp⟩
 |_::_, []=>⟨false,rfl,by simp⟩
 |a::l,b::m=>((h a b).cons (W4.map h l m)).iff (by rw[List.cons.injEq])
theorem KG(a b:Str):Z4 (n+1) G (.str a) (.str b) (a=b):=⟨a==b,rfl,by simp⟩
theorem lI(a b:Bool):Z4 (n+1) G (.bl a) (.bl b) (a=b):=⟨a==b,rfl,by simp⟩
theorem dQ(a b:Option Int):Z4 (n+1) G (H0 a) (H0 b) (a=b):=by
 rcases a with _|a<;>rcases b with _|b
 ·exact⟨true,rfl,by simp⟩
 ·exact⟨false,rfl,by simp⟩
 ·exact⟨false,rfl,by simp⟩
 ·exact⟨a==b,rfl,by simp⟩
theorem LP(p q:Rg):Z4 (n+2) G (rD p) (rD q) (p=q):=(Z4.tup ((dQ p.1 q.1).cons ((dQ p.2 q.2).cons W4.nil))).iff (by rw[Jh];simp)
theorem TR(b c:Bool)(s t:List Str):Z4 (n+3) G (S0 b s) (S0 c t) (b=c/\s=t):=(Z4.tup ((KG (wrd b) (wrd c)).cons ((Z4.tup (W4.map KG s t)).cons W4.nil))).iff (by
 have:wrd b=wrd c↔b=c:=by cases b<;>cases c<;>decide
 rw[this];simp)
end
theorem NH(h:Z4 40 G x y P)(t:P->Q (.bl true) G)(f:¬P->Q (.bl false) G):Wp (eqD x y) G Q:=by
 obtain⟨k,e,i⟩:=h
 refine eE.mpr ⟨k,e,?_⟩
 rcases k with _|_
 ·exact f λp=>nomatch (i.mpr p)
 ·exact t (i.mp rfl)
section
variable(en:α->D)
def lsD:Option (List α×α)->D
 |none=>.non
 |some p=>.tup [.tup (p.1.map en),en p.2]
def fdE(e:Str×Bool×α):D:=.tup [.str e.1,.bl e.2.1,en e.2.2]
def rcD:Option (List (Str×Bool×α)×α)->D
 |none=>.non
 |some p=>.tup [.tup (p.1.map (fdE en)),en p.2]
def fiv(s:Pt α):List D:= [.tup (rsD s.ns),S0 s.b s.ss,.tup (s.bs.map D.bl),lsD en s.ls,rcD en s.rs]
def enS:Option (Pt α)->D
 |none=>.str E2
 |some s=>.tup (fiv en s)
def WA(N:Nat):Prop:=∀k G a b,Z4 (k+(N+3)) G (en a) (en b) (a=b)
end
def enC:(n:Nat)->CS n->D
 |0=>λ_=>.str E2
 |n+1=>enS (enC n)
section
variable{α:Type}{en:α->D}{N:Nat}
theorem rR(h:WA en N)(k:Nat)(G:DH)(a b:Option (List α×α)):Z4 (k+(N+5)) G (lsD en a) (lsD en b) (a=b):=by
 rcases a with _|⟨fs,m⟩<;>rcases b with _|⟨gs,l⟩
 ·exact⟨true,rfl,by simp⟩
 ·exact⟨false,rfl,by simp⟩
 ·exact⟨false,rfl,by simp⟩
 · have h2:=h (k+1) G m l
   rw[show k+1+(N+3)=k+(N+3)+1 by lia]at h2
   exact(Z4.tup ((Z4.tup (W4.map (h k G) fs gs)).cons (h2.cons W4.nil))).iff (by simp)
theorem eH8(h:WA en N)(k:Nat)(G:DH)(a b:Str×Bool×α):Z4 (k+(N+4)) G (fdE en a) (fdE en b) (a=b):=
 (Z4.tup ((KG a.1 b.1).cons ((lI a.2.1 b.2.1).cons ((h k G a.2.2 b.2.2).cons W4.nil)))).iff (by rw[Jh,Jh];simp)
theorem PK(h:WA en N)(k:Nat)(G:DH)(a b:Option (List (Str×Bool×α)×α)):Z4 (k+(N+6)) G (rcD en a) (rcD en b) (a=b):=by
 rcases a with _|⟨fs,m⟩<;>rcases b with _|⟨gs,l⟩
 ·exact⟨true,rfl,by simp⟩
 ·exact⟨false,rfl,by simp⟩
 ·exact⟨false,rfl,by simp⟩
 · have h2:=h (k+2) G m l
   rw[show k+2+(N+3)=k+(N+4)+1 by lia]at h2
   exact(Z4.tup ((Z4.tup (W4.map (eH8 h k G) fs gs)).cons (h2.cons W4.nil))).iff (by simp)
theorem bX(h:WA en N):WA (enS en) (N+4):=by
 intro k G a b
 rcases a with _|a<;>rcases b with _|b
 ·exact⟨true,rfl,by simp⟩
 ·exact⟨false,rfl,by simp⟩
 ·exact⟨false,rfl,by simp⟩
 · have h2:=rR h (k+1) G a.ls b.ls
   rw[show k+1+(N+5)=k+(N+6) by lia]at h2
   exact(Z4.tup ((Z4.tup (W4.map (LP) a.ns b.ns)).cons ((TR a.b b.b a.ss b.ss).cons ((Z4.tup (W4.map (lI) a.bs b.bs)).cons (h2.cons ((PK h k G a.rs b.rs).cons W4.nil)))))).iff (by
    obtain⟨a1,a2,a3,a4,a5,a6⟩:=a
    obtain⟨b1,b2,b3,b4,b5,b6⟩:=b
    simp only[zH,Pt.mk.injEq,and_assoc,and_true])
end
theorem KD:∀n,WA (enC n) (4*n)
 |0=>λk G a b=>(KG E2 E2).iff ⟨λ_=>rfl,λ_=>rfl⟩
 |n+1=>bX (KD n)
theorem IC(hn:n<=8)(G:DH)(a b:CS n):Z4 40 G (enC n a) (enC n b) (a=b):=by
 have:=KD n (37-4*n) G a b
 rwa [show 37-4*n+(4*n+3)=40 by lia]at this
theorem CO(h:enC n a=enC n b):a=b:=by
 obtain⟨k,e,i⟩:=KD n 0 [] a b
 obtain⟨k',e',i'⟩:=KD n 0 [] a a
 rw[<-h,e']at e
 cases e
 exact i.mp (i'.mpr rfl)
def S2(α:Type):Pt α:=⟨[],true, [], [],none,none⟩
def F0:D:=.tup [.tup [],S0 true [],.tup [],.non,.non]
section
variable{α:Type}{mem:α->NV->Prop}{gd:α->Prop}
theorem MG(v:NV):¬E7 mem (S2 α) v:=by
 rcases v with i|z|b|⟨n,f⟩|⟨p,f⟩
 ·exact fA
 ·exact λh=>(nomatch h)
 ·exact λh=>(nomatch h)
 ·exact y8
 ·exact W5
theorem SQ:GdS mem gd (some (S2 α)):=⟨⟨⟨λ_ h=>(nomatch h),.nil⟩,.nil,show []∈B4 by decide,λ_ _ e=>(nomatch e),λ_ _ e=>(nomatch e)⟩,λh=>MG (.num 0) (h _)⟩
end
theorem LY:∀ {n} {a},Gd n a->(enC n a=F0↔∀v,¬inC n a v)
 |0,a,_=>⟨λe=>D.noConfusion e,λe=>absurd trivial (e (.num 0))⟩
 |n+1,a,h=>⟨λe v k=>by
   have:a=some (S2 _):=CO e
   rw[this]at k
   exact MG v k,λe=>by
   have:a=some (S2 _):=gB (n+1) _ _ h SQ λv=>⟨λk=>absurd k (e v),λk=>absurd k (MG v)⟩
   rw[this];rfl⟩
theorem kC:∀ {n} (hn:n<=8) G a,Gd n a->Z4 40 G (enC n a) F0 (∀v,¬inC n a v)
 |0,_,_,a,_=>⟨false,rfl,λe=>(nomatch e),λe=>absurd trivial (e (.num 0))⟩
 |n+1,hn,G,a,h=>(IC hn G a (some (S2 _))).iff ((show a=some (S2 _)↔enC (n+1) a=F0 from⟨λe=>by rw[e];rfl,λe=>CO e⟩).trans (LY h))
structure SzP{α:Type}(sz:α->Prop)(k:Nat)(s:Pt α):Prop where
 ns:s.ns.length<=k
 ss:s.ss.length<=k
 tx:∀z∈s.ss,Tx z
 ls:∀fs m,s.ls=some (fs,m)->fs.length<=k/\sz m/\∀a∈fs,sz a
 rs:∀fs m,s.rs=some (fs,m)->fs= []/\sz m
def SzC:(n:Nat)->Nat->CS n->Prop
 |0,_=>λ_=>True
 |n+1,k=>λa=>∀s,a=some s->SzP (SzC n k) k s
section
variable{α:Type}{mem:α->NV->Prop}{gd:α->Prop}
theorem CW(ha:a∈fs)(e:∀v,¬mem a v)(n:Nat)(f:Nat->NV):¬D1 mem (some (fs,m)) n f:=λz=>by
 obtain⟨i,hi,rfl⟩:=jS.mp ha
 have:=T8.mp z
 have h2:=this.2 i (by lia)
 rw[D4 hi]at h2
 exact e _ h2
def kA(gd:α->Prop)(r:Option (List α×α)):Prop:=∀fs m,r=some (fs,m)->gd m/\∀a∈fs,gd a
def eA(gd:α->Prop)(r:Option (List (Str×Bool×α)×α)):Prop:=∀fs m,r=some (fs,m)->gd m/\Nms fs/\∀e∈fs,gd e.2.2
end
section
variable{n:Nat}{G:DH}
theorem gP(hn:n<=8):∀fs:List (CS n),(∀a∈fs,Gd n a)->∃b,t5 G F0 (fs.map (enC n))=some b/\(b=true↔∃a∈fs,∀v,¬inC n a v)
 |[],_=>⟨false,rfl,by simp⟩
 |f::r,h=>by
   obtain⟨b,e,hb⟩:=kC hn G f (h f (zK ..))
   obtain⟨c,e',hc⟩:=gP hn r λx hx=>h x (zB _ hx)
   refine⟨b||c,by rw[zU];unfold t5;rw[e,e'],?_⟩
   rw[Xi,hb,hc]
   simp
structure LiQ(n:Nat)(r0 r:Option (List (CS n)×CS n)):Prop where
 good:U6 (inC n) (Gd n) r
 mem:∀k f,D1 (inC n) r k f↔D1 (inC n) r0 k f
 one:r=none\/r=r0
theorem Tk(hn:n<=8)(h:kA (Gd n) r):Wp (eF [lsD (enC n) r]) G λx G'=>G'=G/\∃r',x=lsD (enC n) r'/\LiQ n r r':=by
 rcases r with _|⟨fs,m⟩
 ·exact T5 rfl ⟨rfl,none,rfl,λ_ _ e=>(nomatch e),λ_ _=>Iff.rfl,.inl rfl⟩
 · obtain⟨hm,hf⟩:=h fs m rfl
   obtain⟨b,e,hb⟩:=gP (G:=G) hn fs hf
   have ei:inX F0 (.tup (fs.map (enC n))) G=some (.ok (.bl b),G):=by unfold inX N9;simp only[e]
   refine J6 (show Wp (AK [some (.tup [.tup (fs.map (enC n)),enC n m])]) G _ from ?_)
   refine J1<| VH.mpr<| P8<| d8 rfl ⟨λz=>(nomatch z),λ_=>K4<| J4 rfl rfl<| d8 ei ⟨_,rfl,?_⟩⟩
   rcases b with _|_
   · refine d8 rfl (v9 ⟨rfl,some (fs,m),rfl,?_,λ_ _=>Iff.rfl,.inr rfl⟩)
     rintro _ _ ⟨⟩
     refine⟨hm,λa ha=>⟨hf a ha,ji λz=>?_⟩⟩
     exact nomatch hb.mpr ⟨a,ha,λv k=>z ⟨v,k⟩⟩
   · obtain⟨a,ha,ea⟩:=hb.mp rfl
     exact d8 rfl (v9 ⟨rfl,none,rfl,λ_ _ e=>(nomatch e),λk f=>⟨λz=>absurd z y8,λz=>absurd z (CW ha ea k f)⟩,.inl rfl⟩)
structure ReQ(n:Nat)(r0 r:Option (List (Str×Bool×CS n)×CS n)):Prop where
 good:C2 (inC n) (Gd n) r
 mem:∀k f,A2 (inC n) r k f↔A2 (inC n) r0 k f
 one:r=none\/∃es h,r0=some (es,h)/\r=some (eN h es,h)
theorem wf{l:List D}(h:G[r]? =some (.lst (l.map λx=>.bl (f x)))):Wp (dA [.ref r]) G Q↔Q (.bl (l.any f)) G:=by
 have h0:dA [.ref r]= (do
  let l <-O5 r >>= DL.listOf
  let bs <-M0 (i6 l)
  pure (.bl (bs.any id))):=rfl
 rw[h0]
 simp only[j9,O3,h,Q3,DL.listOf,m5,D3,MC,ZG]
 rfl
theorem Wf(h:eA (Gd n) (some ([],m))):C2 (inC n) (Gd n) (some ([],m)):=λfs m' e=>by
 cases e
 exact⟨(h _ _ rfl).1,.nil,λ_ z=>nomatch z⟩
theorem vX(h:eA (Gd n) r)(hl:∀es m,r=some (es,m)->es= []):Wp (W8 [rcD (enC n) r]) G λx G'=>Ap G G'/\∃r',x=rcD (enC n) r'/\ReQ n r r':=by
 rcases r with _|⟨es,m⟩
 ·exact T5 rfl ⟨Ap.refl,none,rfl,λ_ _ e=>(nomatch e),λ_ _=>Iff.rfl,.inl rfl⟩
 · cases hl es m rfl
   refine J6 (show Wp (X3 [some (.tup [.tup [],enC n m])]) G _ from ?_)
   unfold X3
   refine j6.mpr<| C0<| P8<| d8 (a:=false) (G':=G) rfl ⟨λz=>i5 z,λ_=>fB.mpr<| N8<| m9<| A7 (l:= []) rfl (by decide)<| Z8.mpr ⟨rfl,m8.mpr<| (wf (l:= []) (f:=λ_=>false) j7).mpr<| W3.mpr ⟨λz=>i5 z,λ_=>t7.mpr ?_⟩⟩⟩
   exact J1<| S7.mpr<| m9<| N8<| m9<| A7 (l:= []) rfl (by decide)<| Z8.mpr ⟨rfl,m8.mpr<| (K8 j7).mpr<| R0 (x:=enC n m) rfl<| m8.mpr ⟨sz,v9 ⟨⟨_,ya ..⟩,some ([],m),rfl,Wf h,λ_ _=>Iff.rfl,.inr ⟨[],m,rfl,rfl⟩⟩⟩⟩
end
theorem n4(J:DH->Prop)(S:DSt->Prop)(rel:D->D->Prop)(hck:∀G,J G->ck G=true):∀items σ G,S σ->J G->
 (∀d∈items,∀ σ G,S σ->J G->Wp (g d σ) G λWZ G1=>G1=G/\S WZ/\Wp (e WZ) G λy G3=>J G3/\rel d y)->
 Wp (N7 g M5 e ck items σ) G λys G'=>J G'/\∃zs:List (D×D),zs.map (·.1)=items/\ys=zs.map (·.2)/\∀z∈zs,rel z.1 z.2
 |[],σ,G,s,j,_=>Z8.mpr ⟨hck G j,j, [],rfl,rfl,λ_ h=>nomatch h⟩
 |d::r,σ,G,s,j,step=>by
   refine mG.mpr ⟨hck G j,(step d (zK ..) σ G s j).mono λWZ G1 ⟨e1,s1,w1⟩=>?_⟩
   subst e1
   refine d8 rfl ?_
   rw[if_pos rfl]
   refine w1.mono λy G3 ⟨j3,py⟩=>?_
   refine(n4 J S rel hck r WZ G3 s1 j3 λd hd=>step d (zB _ hd)).mono λys G4 ⟨j4,zs,h1,h2,h3⟩=>⟨j4,(d,y)::zs,by rw[zU,h1],by rw[zU,h2],λz hz=>?_⟩
   rcases zt.mp hz with rfl|hz
   ·exact py
   ·exact h3 z hz
theorem rA{e:β->D}{P:D->β->Prop}:∀zs:List (D×D),(∀z∈zs,∃m,z.2=e m/\P z.1 m)->∃hs:List β,zs.map (·.2)=hs.map e/\hs.length=zs.length/\∀(i:Nat) a d,hs[i]? =some a->(zs.map (·.1))[i]? =some d->P d a
 |[],_=>⟨[],rfl,rfl,λi a d h=>by simp at h⟩
 |z::zs,h=>by
   obtain⟨m,e1,p1⟩:=h z (zK ..)
   obtain⟨hs,e2,l2,p2⟩:=rA zs λx hx=>h x (zB _ hx)
   refine⟨m::hs,by rw[zU,zU,e1,e2],by rw[zT,zT,l2],λi a d ha hd=>?_⟩
   rcases i with _|i
   · simp only[zU,zy,zH]at ha hd
     rw[<-ha,<-hd];exact p1
   · simp only[zU,zM]at ha hd
     exact p2 i a d ha hd
section
theorem BL{i:Nat}:AC [lsD (enC n) (some (fs,m)),.int (i:Int)] G=some (.ok (enC n (frt fs m i)),G):=X6<| by
 refine J6 (show Wp (pK [some (.tup [.tup (fs.map (enC n)),enC n m]),some (.int (i:Int))]) G _ from ?_)
 refine J1<| VH.mpr<| K4<| J4 rfl rfl<| pB.mpr ⟨_,rfl,?_⟩
 by_cases h:i<fs.length
 · have e:decide ((i:Int)<((fs.map (enC n)).length:Int))=true:=by rw[zg];exact decide_eq_true (by lia)
   rw[e,if_pos rfl]
   refine J4 rfl rfl ?_
   refine ix_tup.mpr ⟨_,atI_nat ?_,v9 ⟨rfl,rfl⟩⟩
   rw[D4 h,zV,zi h]
   rfl
 · have e:decide ((i:Int)<((fs.map (enC n)).length:Int))=false:=by rw[zg];exact decide_eq_false (by lia)
   rw[e,P4 (XR.mp h)]
   exact d8 rfl (v9 ⟨rfl,rfl⟩)
def MAt(n:Nat)(R:List D->M D)(j k:Nat):Prop:=∀(s t:CS n) (G:DH),Gd n s->Gd n t->SzC n j s->SzC n k t->Wp (R [enC n s,enC n t]) G λx G'=>Ap G G'/\∃m,x=enC n m/\IsM (inC n) (Gd n) s t m/\SzC n (j+k) m
def lsZ(n k:Nat)(r:Option (List (CS n)×CS n)):Prop:=∀fs m,r=some (fs,m)->fs.length<=k/\SzC n k m/\∀a∈fs,SzC n k a
theorem FD(h:kA (Gd n) (some (fs,m)))(i:Nat):Gd n (frt fs m i):=by
 by_cases hi:i<fs.length
 ·rw[D4 hi];exact(h _ _ rfl).2 _ (jx hi)
 ·rw[P4 (XR.mp hi)];exact(h _ _ rfl).1
theorem UD(h:lsZ n k (some (fs,m)))(i:Nat):SzC n k (frt fs m i):=by
 by_cases hi:i<fs.length
 ·rw[D4 hi];exact(h _ _ rfl).2.2 _ (jx hi)
 ·rw[P4 (XR.mp hi)];exact(h _ _ rfl).2.1
structure MlQ(n k:Nat)(a b r:Option (List (CS n)×CS n)):Prop where
 raw:kA (Gd n) r
 mem:∀q f,D1 (inC n) r q f↔D1 (inC n) a q f/\D1 (inC n) b q f
 sz:lsZ n k r
theorem Bh{R:List D->M D}{a b:Option (List (CS n)×CS n)}(hjk:j+k<=47)(ih:MAt n R j k)(ga:kA (Gd n) a)(gb:kA (Gd n) b)(sa:lsZ n j a)(sb:lsZ n k b):Wp (gD R [lsD (enC n) a,lsD (enC n) b]) G λx G'=>Ap G G'/\∃r,x=lsD (enC n) r/\MlQ n (j+k) a b r:=by
 rcases a with _|⟨fs,m⟩
 ·exact T5 rfl ⟨Ap.refl,none,rfl,λ_ _ e=>(nomatch e),λ_ _=>⟨λz=>absurd z y8,λz=>absurd z.1 y8⟩,λ_ _ e=>(nomatch e)⟩
 rcases b with _|⟨gs,l⟩
 ·exact T5 rfl ⟨Ap.refl,none,rfl,λ_ _ e=>(nomatch e),λ_ _=>⟨λz=>absurd z y8,λz=>absurd z.2 y8⟩,λ_ _ e=>(nomatch e)⟩
 have l1:=(sa fs m rfl).1
 have l2:=(sb gs l rfl).1
 generalize hA:lsD (enC n) (some (fs,m))=A
 generalize hB:lsD (enC n) (some (gs,l))=B
 have A0:A= .tup [.tup (fs.map (enC n)),enC n m]:=hA.symm
 have B0:B= .tup [.tup (gs.map (enC n)),enC n l]:=hB.symm
 refine J6 (show Wp (WF R [some A,some B,none,none]) G _ from ?_)
 unfold WF
 refine J0 (X1:= [some A,some B,none,none]) (by rw[A0,B0];rfl) ?_
 have em:gA [.int ((fs.map (enC n)).length:Int),.int ((gs.map (enC n)).length:Int)] G=some (.ok (.int ((max fs.length gs.length:Nat):Int)),G):=by
  rw[zg,zg]
  show some (Except.ok (D.int (if (gs.length:Int)>(fs.length:Int)then (gs.length:Int)else (fs.length:Int))),G)=_
  congr 4
  split<;>lia
 refine j6.mpr<| K9<| N3 (by rw[A0,B0];rfl)<| d8 em ?_
 refine j6.mpr<| K9<| IF rfl (by lia) (by lia) ?_
 refine(n4 (λG'=>Ap G G') (λσ=>∃u,σ= [u,some A,some B]) (λd y=>∀i:Nat,d= .int (i:Int)->∃c,y=enC n c/\IsM (inC n) (Gd n) (frt fs m i) (frt gs l i) c/\SzC n (j+k) c) (λ_ _=>rfl) _ _ _ ⟨none,rfl⟩ Ap.refl ?_).mono ?_
 · intro d hd σ G1 WR a1
   obtain⟨u,rfl⟩:=WR
   obtain⟨i,hi,rfl⟩:=zI.mp hd
   refine d8 rfl ⟨rfl,⟨_,rfl⟩,?_⟩
   rw[Zh]
   refine m6 (G1:=G1) (as:= [enC n (frt fs m i),enC n (frt gs l i)]) ?_ rfl ?_
   · refine X6<| m9<| m6 rfl rfl<| d8 (by rw[<-hA];exact BL) ?_
     exact m9<| m6 rfl rfl<| d8 (by rw[<-hB];exact BL)<| m8.mpr ⟨rfl,rfl⟩
   · refine(ih _ _ G1 (FD ga i) (FD gb i) (UD sa i) (UD sb i)).mono ?_
     rintro x G2 ⟨a2,c,rfl,hc,sc⟩
     exact⟨a1.trans a2,λi' e=>by cases Int.ofNat.inj (D.int.inj e);exact⟨c,rfl,hc,sc⟩⟩
 · rintro ys G1 ⟨a1,zs,e1,rfl,hz⟩
   obtain⟨hs,e2,e3,e4⟩:=rA (P:=λd c=>∀i:Nat,d= .int (i:Int)->IsM (inC n) (Gd n) (frt fs m i) (frt gs l i) c/\SzC n (j+k) c) zs λz hz'=>by
    have hm:z.1∈zs.map (·.1):=zI.mpr ⟨z,hz',rfl⟩
    rw[e1]at hm
    obtain⟨i,_,ei⟩:=zI.mp hm
    rw[Zh]at ei
    obtain⟨c,e5,h5⟩:=hz z hz' i ei.symm
    refine⟨c,e5,λi' e'=>?_⟩
    rw[<-ei]at e'
    cases Int.ofNat.inj (D.int.inj e')
    exact h5
   rw[e2]
   have hl:hs.length=max fs.length gs.length:=by
    rw[e3,<-zg,e1];unfold K3;simp
   have at_:∀i (hi:i<hs.length),IsM (inC n) (Gd n) (frt fs m i) (frt gs l i) hs[i]/\SzC n (j+k) hs[i]:=λi hi=>by
    refine e4 i hs[i] (.int (i:Int)) (zi hi) ?_ i rfl
    rw[e1]
    unfold K3
    simp only[jF,zV]
    rw[JY (by rw[<-hl];exact hi)]
    simp
   refine J1<| S7.mpr<| m9<| N3 rfl<| (K8 j7).mpr<| m9 ?_
   refine m6 (by rw[A0,B0];rfl) rfl ?_
   refine(ih m l _ (ga _ _ rfl).1 (gb _ _ rfl).1 (sa _ _ rfl).2.1 (sb _ _ rfl).2.1).mono ?_
   rintro x G2 ⟨a2,h,rfl,hh,sh⟩
   have w:LsM (inC n) (Gd n) fs m gs l hs h:=⟨hl,λi hi=>(at_ i hi).1,hh⟩
   refine m8.mpr ⟨sz,v9 ⟨a1.trans (Ap.one.trans a2),some (hs,h),rfl,?_,w.me,?_⟩⟩
   · rintro _ _ ⟨⟩
     refine⟨hh.g,λa ha=>?_⟩
     obtain⟨i,hi,rfl⟩:=jS.mp ha
     exact(at_ i hi).1.g
   · rintro _ _ ⟨⟩
     refine⟨by lia,sh,λa ha=>?_⟩
     obtain⟨i,hi,rfl⟩:=jS.mp ha
     exact(at_ i hi).2
end
theorem D6(e:G[p]? =some (.lst l)):ckO p (.lst l) G=true:=by simp only[ckO,e];simp
section
def rsZ(n k:Nat)(r:Option (List (Str×Bool×CS n)×CS n)):Prop:=∀fs m,r=some (fs,m)->fs= []/\SzC n k m
structure MrQ(n k:Nat)(a b r:Option (List (Str×Bool×CS n)×CS n)):Prop where
 raw:eA (Gd n) r
 mem:∀p f,A2 (inC n) r p f↔A2 (inC n) a p f/\A2 (inC n) b p f
 sz:rsZ n k r
theorem QQ{R:Unit->DH->Prop}(e:G[p]? =some (.dct []))(r:R () G):Wp (D7 (.ref p)) G R:=by
 unfold D7
 exact j9.mpr<| O3.mpr ⟨_,e,m5.mpr r⟩
theorem PZ(ea:fa σ G=some (.ok (.ref p),G))(eb:fb σ G=some (.ok (.ref q),G))(e1:G[p]? =some (.dct []))(e2:G[q]? =some (.dct []))(h:Q (.ref G.length) (G++[.lst []])):Wp (cI fa fb σ) G Q:=by
 show Wp (fa σ >>= λx=>D7 x >>= λ_=>fb σ >>= λy=>D7 y >>= λ_=>M6 (.lst [])) G Q
 refine j9.mpr (d8 (a:=D.ref p) ea ?_)
 refine j9.mpr (QQ e1 ?_)
 refine j9.mpr (d8 (a:=D.ref q) eb ?_)
 exact j9.mpr (QQ e2 (Q8.mpr h))
theorem fP{x:D}:Wp (T9 [.tup [.tup [],x]]) G λy G'=>∃p,y= .ref p/\G'[p]? =some (.dct [])/\Ap G G':=by
 refine J6 (show Wp (DF [some (.tup [.tup [],x])]) G _ from ?_)
 unfold DF
 exact J1<| N8<| m9<| A7 (l:= []) rfl (by decide)<| Z8.mpr ⟨rfl,m8.mpr<| (rP j7 rfl).mpr<| v9 ⟨_,rfl,j7,Ap.one.trans Ap.one⟩⟩
theorem bZ{x y:D}:Wp (AF [.tup [.tup [],x],.tup [.tup [],y]]) G λz G'=>∃p,z= .ref p/\G'[p]? =some (.lst [])/\Ap G G':=by
 refine J6 (show Wp (RF [some (.tup [.tup [],x]),some (.tup [.tup [],y]),none,none]) G _ from ?_)
 unfold RF
 refine j6.mpr<| K9<| m6 (as:= [.tup [.tup [],x]]) rfl rfl<| fP.mono ?_
 rintro _ G1 ⟨p,rfl,e1,a1⟩
 refine j6.mpr<| K9<| m6 (as:= [.tup [.tup [],y]]) rfl rfl<| fP.mono ?_
 rintro _ G2 ⟨q,rfl,e2,a2⟩
 exact J1<| wp_comp.mpr<| wp_itW.mpr<| PZ (p:=p) (q:=q) rfl rfl (a2.at e1) e2<| (P6 j7).mpr ⟨sz,Z8.mpr ⟨D6 j7,v9 ⟨_,rfl,j7,a1.trans (a2.trans (Ap.one.trans Ap.one))⟩⟩⟩
theorem UG{mem:α->NV->Prop}:A2 mem (some ([],m)) p f↔∀z,p z=true->mem m (f z):=UA.trans ⟨λh z=>(h z).1,λh z=>⟨h z,λ_=>rfl⟩⟩
theorem PV(hjk:j+k<=47)(ih:MAt n R j k)(ga:eA (Gd n) a)(gb:eA (Gd n) b)(sa:rsZ n j a)(sb:rsZ n k b):Wp (Z7 R [rcD (enC n) a,rcD (enC n) b]) G λx G'=>Ap G G'/\∃r,x=rcD (enC n) r/\MrQ n (j+k) a b r:=by
 rcases a with _|⟨fs,m⟩
 ·exact T5 rfl ⟨Ap.refl,none,rfl,λ_ _ e=>(nomatch e),λ_ _=>⟨λz=>absurd z W5,λz=>absurd z.1 W5⟩,λ_ _ e=>(nomatch e)⟩
 rcases b with _|⟨gs,l⟩
 ·exact T5 rfl ⟨Ap.refl,none,rfl,λ_ _ e=>(nomatch e),λ_ _=>⟨λz=>absurd z W5,λz=>absurd z.2 W5⟩,λ_ _ e=>(nomatch e)⟩
 obtain⟨rfl,s1⟩:=sa fs m rfl
 obtain⟨rfl,s2⟩:=sb gs l rfl
 refine J6 (show Wp (oG R [some (.tup [.tup [],enC n m]),some (.tup [.tup [],enC n l]),none]) G _ from ?_)
 unfold oG
 refine J0 (X1:= [some (.tup [.tup [],enC n m]),some (.tup [.tup [],enC n l]),none]) rfl ?_
 refine j6.mpr<| K9<| wp_comp.mpr<| wp_itW.mpr<| m6 (as:= [.tup [.tup [],enC n m],.tup [.tup [],enC n l]]) rfl rfl<| bZ.mono ?_
 rintro _ G1 ⟨p,rfl,e1,a1⟩
 refine(P6 e1).mpr ⟨sz,Z8.mpr ⟨D6 e1,?_⟩⟩
 refine J1<| S7.mpr<| m9<| N3 (as:= [.ref G1.length]) rfl<| (K8 j7).mpr<| m9<| m6 (as:= [enC n m,enC n l]) rfl rfl ?_
 refine(ih _ _ _ (ga _ _ rfl).1 (gb _ _ rfl).1 s1 s2).mono ?_
 rintro _ G2 ⟨a2,c,rfl,hc,sc⟩
 refine m8.mpr ⟨sz,v9 ⟨a1.trans (Ap.one.trans a2),some ([],c),rfl,λfs m' e=>?_,λp f=>?_,λfs m' e=>?_⟩⟩
 ·cases e;exact⟨hc.g,.nil,λ_ h=>nomatch h⟩
 · rw[UG,UG,UG]
   exact⟨λh=>⟨λz hz=>((hc.i _).mp (h z hz)).1,λz hz=>((hc.i _).mp (h z hz)).2⟩,λh z hz=>(hc.i _).mpr ⟨h.1 z hz,h.2 z hz⟩⟩
 ·cases e;exact⟨rfl,sc⟩
end
section
def y3:(n:Nat)->CS n
 |0=>()
 |_+1=>none
theorem AI:∀n,enC n (y3 n)= .str E2
 |0=>rfl
 |_+1=>rfl
theorem rF:∀n v,inC n (y3 n) v
 |0,_=>trivial
 |_+1,_=>trivial
theorem RE:∀n,Gd n (y3 n)
 |0=>trivial
 |_+1=>trivial
theorem kO(g:Gd n a):a=y3 n↔∀v,inC n a v:=⟨λe v=>by rw[e];exact rF n v,λh=>gB n _ _ g (RE n) λv=>⟨λ_=>rF n v,λ_=>h v⟩⟩
def evP(n:Nat):Pt (CS n):=⟨[(none,none)],false, [], [false,true],some ([],y3 n),some ([],y3 n)⟩
def evD:D:=.tup [.tup [.tup [.non,.non]],S0 false [],.tup [.bl false,.bl true],.tup [.tup [],.str E2],.tup [.tup [],.str E2]]
theorem oM:enC (n+1) (some (evP n))=evD:=by
 show D.tup [_,_,_,.tup [_,enC n (y3 n)],.tup [_,enC n (y3 n)]]=_
 rw[AI]
 rfl
theorem oQ(g:GdP (inC n) (Gd n) q):q=evP n↔∀v,E7 (inC n) q v:=by
 rw[BZ (gB n) g]
 constructor
 · rintro rfl
   exact⟨rfl,rfl,rfl,rfl,⟨_,rfl,rF n⟩,_,rfl,rF n⟩
 · rintro⟨h1,h2,h3,h4,⟨m,e,hm⟩,k,e',hk⟩
   have em:=(kO (g.ls _ _ e).1).mpr hm
   have ek:=(kO (g.rs _ _ e').1).mpr hk
   rcases q with⟨a1,a2,a3,a4,a5,a6⟩
   dsimp only at h1 h2 h3 h4 e e'
   rw[h1,h2,h3,h4,e,e',em,ek]
   rfl
theorem fK(hn:n<=7)(G:DH)(g:GdP (inC n) (Gd n) q):Z4 40 G (.tup (fiv (enC n) q)) evD (∀v,E7 (inC n) q v):=by
 have:=(IC (n:=n+1) (by lia) G (some q) (some (evP n))).iff ⟨λe=>(oQ g).mp (zY e),λh=>congrArg some ((oQ g).mpr h)⟩
 rw[oM]at this
 exact this
structure MdQ(n:Nat)(p:Pt (CS n))(c:CS (n+1)):Prop where
 g:Gd (n+1) c
 i:∀v,inC (n+1) c v↔E7 (inC n) p v
 one:c=none\/∃l r,c=some ⟨p.ns,p.b,p.ss,p.bs,l,r⟩/\(l=none\/l=p.ls)/\(r=none\/∃es h,p.rs=some (es,h)/\r=some (eN h es,h))
theorem AS(hn:n<=7)(h1:Can p.ns)(h2:Ris p.ss)(h3:p.bs∈B4)(h4:kA (Gd n) p.ls)(h5:eA (Gd n) p.rs)(hl:∀es m,p.rs=some (es,m)->es= []):Wp (qF (fiv (enC n) p)) G λx G'=>Ap G G'/\∃c,x=enC (n+1) c/\MdQ n p c:=by
 refine J6 (show Wp (IK [some (.tup (rsD p.ns)),some (S0 p.b p.ss),some (.tup (p.bs.map D.bl)),some (lsD (enC n) p.ls),some (rcD (enC n) p.rs),none]) G _ from ?_)
 refine j6.mpr<| K9<| S7.mpr<| R0 rfl<| R0 rfl<| R0 rfl<| m9<| m6 rfl rfl<| (Tk (by lia) h4).mono ?_
 rintro _ _ ⟨rfl,l,rfl,f1⟩
 refine m9<| m6 rfl rfl<| (vX h5 hl).mono ?_
 rintro _ G1 ⟨j1,r,rfl,f2⟩
 have g:GdP (inC n) (Gd n) ⟨p.ns,p.b,p.ss,p.bs,l,r⟩:=⟨h1,h2,h3,f1.good,f2.good⟩
 have me:∀v,E7 (inC n) ⟨p.ns,p.b,p.ss,p.bs,l,r⟩ v↔E7 (inC n) p v:=λv=>by
  rcases v with i|z|b|⟨k,f⟩|⟨k,f⟩
  ·exact Iff.rfl
  ·exact Iff.rfl
  ·exact Iff.rfl
  ·exact f1.mem k f
  ·exact f2.mem k f
 refine m8.mpr ⟨sz,J1<| VH.mpr<| K4<| J4 rfl rfl<| NH (fK hn G1 g) (λa=>⟨_,rfl,?_⟩) (λa=>⟨_,rfl,?_⟩)⟩
 ·exact d8 rfl (v9 ⟨j1,none,rfl,trivial,λv=>⟨λ_=>(me v).mp (a v),λ_=>trivial⟩,.inl rfl⟩)
 ·exact d8 rfl (v9 ⟨j1,some ⟨p.ns,p.b,p.ss,p.bs,l,r⟩,rfl,⟨g,a⟩,me,.inr ⟨l,r,rfl,f1.one,f2.one⟩⟩)
theorem MdQ.sz(h:MdQ n p c)(s:SzP (SzC n k) k p):SzC (n+1) k c:=by
 rcases h.one with rfl|⟨l,r,rfl,hl,hr⟩
 ·exact λ_ e=>nomatch e
 · rintro _ ⟨⟩
   refine⟨s.ns,s.ss,s.tx,λfs m e=>?_,λfs m e=>?_⟩
   · rcases hl with rfl|rfl
     ·cases e
     ·exact s.ls fs m e
   · rcases hr with rfl|⟨es,h,e2,rfl⟩
     ·cases e
     · cases e
       have:=s.rs es m e2
       exact⟨by rw[this.1];rfl,this.2⟩
end
section
theorem UL(h:bs∈B4):inB (.bl k) (.tup (bs.map D.bl)) G=some (decide (k∈bs)):=by
 simp only[B4,zt,zS,or_false]at h
 rcases h with rfl|rfl|rfl|rfl<;>cases k<;>rfl
theorem Dg{s:List Bool}:((s.map D.bl).filter λx=>match x with| .bl z=>p z|_=>false)= (s.filter p).map D.bl:=by
 rw[xY];rfl
theorem kU{G:DH}(ht:t.bs∈B4):N7 (y0 0) (m7 (c7 inD (b8 0) (c7 ixD (b8 1) (cE (.int 2))))) (b8 0) (λ_=>true) (s.bs.map D.bl) (U9 [none,some 1] [some (.tup (fiv (enC n) s)),some (.tup (fiv (enC n) t))]) G=some (.ok ((s.bs.filter λk=>decide (k∈t.bs)).map D.bl),G):=by
 rw[<-Dg]
 refine U8 rfl (λσ=>∃u,σ= [u,some (.tup (fiv (enC n) t))]) _ _ ⟨none,rfl⟩ λx hx σ WR=>?_
 obtain⟨z,hz,rfl⟩:=zI.mp hx
 obtain⟨u,rfl⟩:=WR
 exact⟨[some (.bl z),some (.tup (fiv (enC n) t))],rfl,⟨_,rfl⟩,X6 (K4<| J4 rfl rfl<| LD.mpr ⟨_,UL ht,_,rfl,rfl,rfl⟩),rfl⟩
theorem HW:∀a∈B4,∀b∈B4,(a.filter λk=>decide (k∈b))∈B4:=by decide
theorem SzC.mono:∀ {n} {k l} {a},k<=l->SzC n k a->SzC n l a
 |0,_,_,_,_,_=>trivial
 |n+1,k,l,a,h,s=>λp e=>by
   have s:=s p e
   exact⟨zG s.ns h,zG s.ss h,s.tx,λfs m e=>⟨zG (s.ls fs m e).1 h,SzC.mono h (s.ls fs m e).2.1,λa ha=>SzC.mono h ((s.ls fs m e).2.2 a ha)⟩,λfs m e=>⟨(s.rs fs m e).1,SzC.mono h (s.rs fs m e).2⟩⟩
theorem U6.raw(h:U6 (inC n) (Gd n) r):kA (Gd n) r:=λfs m e=>⟨(h fs m e).1,λa ha=>((h fs m e).2 a ha).1⟩
theorem C2.raw(h:C2 (inC n) (Gd n) r):eA (Gd n) r:=λfs m e=>⟨(h fs m e).1,(h fs m e).2.1,λa ha=>((h fs m e).2.2 a ha).1⟩
theorem OI:∀n N j k,n<=7->n<N->j<=29->k<=29->j+k<=47->MAt n (SD N) j k
 |0,N+1,j,k,_,_,_,_,_=>λs t G _ _ _ _=>T5 rfl ⟨Ap.refl,(),rfl,⟨trivial,λv=>⟨λ_=>⟨trivial,trivial⟩,λ_=>trivial⟩⟩,trivial⟩
 |n+1,N+1,j,k,hn,hN,hj,hk,hjk=>λs t G gs gt ss st=>by
   have ih:=OI n N j k (by lia) (by lia) hj hk hjk
   refine J6 (show Wp (TD (SD N) [some (enC (n+1) s),some (enC (n+1) t)]) G _ from ?_)
   unfold TD
   rcases s with _|s
   ·exact j6.mpr<| A3 rfl<| J1<| d8 rfl<| v9 ⟨Ap.refl,t,rfl,⟨gt,λv=>⟨λh=>⟨trivial,h⟩,λh=>h.2⟩⟩,SzC.mono (Nat.le_add_left ..) st⟩
   refine j6.mpr<| oA rfl<| t7.mpr ?_
   rcases t with _|t
   ·exact j6.mpr<| A3 rfl<| J1<| d8 rfl<| v9 ⟨Ap.refl,some s,rfl,⟨gs,λv=>⟨λh=>⟨h,trivial⟩,λh=>h.1⟩⟩,SzC.mono (jl ..) ss⟩
   have ss:=ss s rfl
   have st:=st t rfl
   have l1:=ss.ns
   have l2:=st.ns
   have l3:=ss.ss
   have l4:=st.ss
   refine j6.mpr<| oA rfl<| t7.mpr<| J1<| N8<| m9<| m6 rfl rfl<| Kq gs.1.ns gt.1.ns (by lia) λns G1 c1 i1 l5 a1=>?_
   refine m9<| m6 rfl rfl<| (Bk ⟨gs.1.ss,ss.tx,by lia⟩ ⟨gt.1.ss,st.tx,by lia⟩).mono ?_
   rintro _ G2 ⟨xs,rfl,ris,sm,sub,sl,a2⟩
   have hb:(s.bs.map D.bl).length<=10000:=by
    rw[zg]
    have:=(show ∀a∈B4,a.length<=2 by decide) _ gs.1.bs
    lia
   refine m9<| N8<| m9<| A7 rfl hb<| d8 (kU gt.1.bs)<| m8.mpr<| (K8 j7).mpr ?_
   refine m9<| m6 rfl rfl<| (Bh hjk ih (U6.raw gs.1.ls) (U6.raw gt.1.ls) ss.ls st.ls).mono ?_
   rintro _ G4 ⟨a4,l,rfl,ql⟩
   refine m9<| m6 rfl rfl<| (PV hjk ih (C2.raw gs.1.rs) (C2.raw gt.1.rs) ss.rs st.rs).mono ?_
   rintro _ G5 ⟨a5,r,rfl,qr⟩
   refine m8.mpr<| V7.mpr ⟨rfl,(AS (p:=⟨ns,s.b||t.b,xs,s.bs.filter λk=>decide (k∈t.bs),l,r⟩) (by lia) c1 ris (HW _ gs.1.bs _ gt.1.bs) ql.raw qr.raw λes m e=>(qr.sz es m e).1).mono ?_⟩
   rintro _ G6 ⟨a6,c,rfl,hc⟩
   refine v9 ⟨a1.trans (a2.trans (Ap.one.trans (a4.trans (a5.trans a6)))),c,rfl,⟨hc.g,λv=>(hc.i v).trans ?_⟩,hc.sz ⟨by dsimp only;lia,by dsimp only;lia,λz hz=>(sub z hz).elim (ss.tx z) (st.tx z),ql.sz,qr.sz⟩⟩
   rcases v with i|z|b|⟨q,f⟩|⟨q,f⟩
   ·exact i1 i
   ·exact sm z
   · show b∈s.bs.filter _↔b∈s.bs/\b∈t.bs
     rw[jw,decide_eq_true_iff]
   ·exact ql.mem q f
   ·exact qr.mem q f
end
def Dr(G:DH)(r:Nat):Prop:=∃ns:List Nat,G[r]? =some (.lst (ns.map λn:Nat=>D.int (n:Int)))
def Fd(r:Nat)(G G':DH):Prop:=G.length<=G'.length/\(∀i,i≠r->i<G.length->G'[i]? =G[i]?)/\Dr G' r
theorem Dr.lt(h:Dr G r):r<G.length:=by
 obtain⟨ns,hr⟩:=h
 exact lt_of_get hr
theorem Dr.app(h:Dr G r):Dr (G++t) r:=by
 obtain⟨ns,hr⟩:=h
 exact⟨ns,O9 hr⟩
theorem Fd.refl(h:Dr G r):Fd r G G:=⟨zn _,λ_ _ _=>rfl,h⟩
theorem Fd.trans(h:Fd r G G1)(k:Fd r G1 G2):Fd r G G2:=
 ⟨zG h.1 k.1,λi hi hl=>by rw[k.2.1 i hi (by have:=h.1;lia),h.2.1 i hi hl],k.2.2⟩
theorem Fd.app(h:Dr G r):Fd r G (G++t):=⟨by simp,λi _ hl=>zF hl,h.app⟩
theorem Fd.at(h:Fd r G G')(hp:p≠r)(e:G[p]? =some o):G'[p]? =some o:=by
 rw[h.2.1 p hp (lt_of_get e)];exact e
theorem Dr.set(h:Dr G r)(hp:p≠r):Dr (G.set p o) r:=by
 obtain⟨ns,hr⟩:=h
 exact⟨ns,by rw[zL hp];exact hr⟩
theorem Fd.put(h:Fd r G G')(hp:G.length<=p)(hr:p≠r):Fd r G (G'.set p o):=
 ⟨by rw[xW];exact h.1,λi hi hl=>by rw[zL (by lia)];exact h.2.1 i hi hl,h.2.2.set hr⟩
section
theorem Lg(hz:z.length<=zo)(h0:0<=k)(h1:k<z.length)(q:∀c∈z.cps.toList,Q (.str ⟨#[c]⟩) G):Wp (ixD (.str z) (.int k)) G Q:=by
 have e:ixD (.str z) (.int k)=if z.length<=zo then (do
  let c <-M0 (atI z.cps.toList k)
  pure (.str ⟨#[c]⟩):M D)else M.stuck:=rfl
 rw[e,if_pos hz]
 simp only[j9,D3,m5]
 have hl:z.length=z.cps.toList.length:=rfl
 obtain⟨n,rfl⟩:=yQ h0
 have hn:n<z.cps.toList.length:=by lia
 refine⟨z.cps.toList[n],?_,q _ (jx hn)⟩
 unfold atI ixN
 rw[if_pos (by lia),if_pos (by lia)]
 simp only[jF,Option.bind_some,zi hn]
end
theorem W7(h:Dr G r)(q:∀k:Nat,∀G',Fd r G G'->Q (.int (k:Int)) G'):Wp (v7 [.ref r]) G Q:=by
 have h':=h
 obtain⟨ns,hr⟩:=h'
 have s0:([D.ref r].map some++zu (1 - [D.ref r].length) none:DSt)= [some (.ref r)]:=rfl
 unfold v7 PH
 simp only[W9,s0,j6,g9,F8,L3,u4,T2,l6,R4,m8,c9,Q5,t7,zH,exists_eq_left',zy]
 refine⟨sz,?_⟩
 have e1:=O9 (t:= [DO.lst []]) hr
 rw[eI e1 j7]
 refine⟨_,rfl,?_⟩
 rcases List.eq_nil_or_concat ns with rfl|⟨t,n,rfl⟩
 · simp only[ZD,List.isEmpty_nil,if_true]
   exact q 0 _ (Fd.app h)
 · have hne:((t.concat n).map λn:Nat=>D.int (n:Int)).isEmpty=false:=by simp
   simp only[hne,jk,if_false]
   rw[List.concat_eq_append,xz]at e1
   rw[R1 e1,kQ e1]
   refine q n _ ⟨by simp,λi hi hl=>?_,t,?_⟩
   ·rw[zL (Ne.symm hi),zF hl]
   ·rw[zN (lt_of_get e1)]
theorem nH(h:Dr G r)(q:∀k:Nat,k<7->∀G',Fd r G G'->Q (.int (k:Int)) G'):Wp (S9 [.ref r]) G Q:=by
 have s0:([D.ref r].map some++zu (2 - [D.ref r].length) none:DSt)= [some (.ref r),none]:=rfl
 unfold S9 fJ
 simp only[W9,s0,j6,W6,N6,g9,F8,L3,u4,V1,R4,m8,c9,Q5,V7,t7,zH,exists_eq_left',zy,zM,jQ,jG]
 refine⟨rfl,W7 h λk G1 f1=>?_⟩
 simp only[u6 (show (0:Int)<8 by decide),u6 (show (0:Int)<7 by decide),u6 (show (0:Int)<4 by decide),M7 (show (0:Int)<8/\(8:Int)<2 ^ 100 by decide),U0,QA]
 have n1:∀m:Int,0<m->m<=7->∃j:Nat,j<7/\(k:Int) / 8 % m= (j:Int):=λm hm h7=>by
  have a1:0<=(k:Int) / 8 % m:=jf _ (by lia)
  have a2:(k:Int) / 8 % m<m:=jd _ hm
  exact⟨((k:Int) / 8 % m).toNat,by lia,by lia⟩
 by_cases hk:(k:Int) % 8=7
 · simp only[hk,decide_true,if_true]
   obtain⟨j,hj,e⟩:=n1 7 (by decide) (by decide)
   rw[e];exact q j hj G1 f1
 · simp only[hk,decide_false,jk,if_false]
   obtain⟨j,hj,e⟩:=n1 4 (by decide) (by decide)
   rw[e];exact q j hj G1 f1
theorem p10:Wp (L7 (.int 10) (.int 10)) G Q↔Q (.int 10000000000) G:=by
 rw[HK (by decide)];rfl
theorem sJ(h:Dr G r)(q:∀k:Nat,∀G',Fd r G G'->Q (.int (k:Int)) G'):Wp (U7 [.ref r]) G Q:=by
 have s0:([D.ref r].map some++zu (2 - [D.ref r].length) none:DSt)= [some (.ref r),none]:=rfl
 unfold U7 II
 simp only[W9,s0,j6,W6,N6,g9,F8,L3,u4,V1,R4,m8,c9,Q5,V7,t7,zH,exists_eq_left',zy,zM,jQ,jG]
 refine⟨rfl,W7 h λk G1 f1=>?_⟩
 simp only[u6 (show (0:Int)<9 by decide),u6 (show (0:Int)<5 by decide),M7 (show (0:Int)<9/\(9:Int)<2 ^ 100 by decide),U0,QA,B6 (show P3 ((k:Int) / 9) 1000003 from Or.inr ⟨by decide,by decide⟩)]
 by_cases hk:(k:Int) % 9=8
 · simp only[hk,decide_true,if_true]
   refine⟨rfl,W7 f1.2.2 λj G2 f2=>?_⟩
   rw[P7,p10,B6 (show P3 6 10000000000 from Or.inl ⟨by decide,by decide⟩),u6 (by decide)]
   have a1:0<=((k:Int) / 9*1000003+(j:Int)) % (6*10000000000):=jf _ (by decide)
   obtain⟨m,hm⟩:=yQ a1
   rw[hm]
   exact q m G2 (f1.trans f2)
 · simp only[hk,decide_false,jk,if_false]
   have a1:0<=(k:Int) / 9 % 5:=jf _ (by decide)
   obtain⟨m,hm⟩:=yQ a1
   rw[hm]
   exact q m G1 f1
def Fd2(r p:Nat)(G G':DH):Prop:=G.length<=G'.length/\(∀i,i≠r->i≠p->i<G.length->G'[i]? =G[i]?)/\Dr G' r
theorem Fd2.trans(h:Fd2 r p G G1)(k:Fd2 r p G1 G2):Fd2 r p G G2:=
 ⟨zG h.1 k.1,λi hi hp hl=>by rw[k.2.1 i hi hp (by have:=h.1;lia),h.2.1 i hi hp hl],k.2.2⟩
theorem Fd.two(h:Fd r G G1):Fd2 r p G G1:=⟨h.1,λi hi _ hl=>h.2.1 i hi hl,h.2.2⟩
theorem Fd2.set(hp:p≠r)(h:Dr G r):Fd2 r p G (G.set p o):=
 ⟨by rw[xW];exact zn _,λi _ hi hl=>by rw[zL (Ne.symm hi)],h.set hp⟩
theorem Fd.thru(h:Fd r G G1)(k:Fd2 r p G1 G2)(hp:G.length<=p):Fd r G G2:=
 ⟨zG h.1 k.1,λi hi hl=>by rw[k.2.1 i hi (by lia) (by have:=h.1;lia),h.2.1 i hi hl],k.2.2⟩
theorem fV7:cH=j8 (u9 (R7 g0) (y0 1)) (j8 (u9 (c7 F2 (unE CB (x0 (fnX 1 U7) (d0 (b8 0) g0))) (cE (.int 2))) (y0 2)) (j8 (B3 (R3 (d0 (x0 (fnX 1 S9) (d0 (b8 0) g0)) g0)) (y0 3) SB) (j8 (u9 (x0 (fnX 1 v7) (d0 (b8 0) g0)) (y0 5)) (j8 SC1 (j8 SC2 (o4 (x0 O4 (d0 (b8 1) g0)))))))):=rfl
def Up(lo:Int)(ns:List Rg):Prop:=∀p∈ns,∃a:Int,p.2=some a/\a<=lo
section
theorem Hb(hp:p≠r)(h:Dr G r)(e:G[p]? =some (.lst (rsD ns)))(hn:Can ns)(hu:Up a ns)(hl:ns.length<=50):
 Wp (SB [some (.ref r),some (.ref p),some (.int a),u,v,w]) G λfl G'=>Fd2 r p G G'/\∃a' v' ns',fl= .nx [some (.ref r),some (.ref p),some (.int a'),u,v',w]/\G'[p]? =some (.lst (rsD ns'))/\Can ns'/\Up a' ns'/\ns'.length<=ns.length+1:=by
 have bg:=big
 refine j6.mpr<| K9<| bin_w<| d8 rfl<| m6 rfl rfl<| sJ h λk G1 f1=>P7.mpr<| j6.mpr<| K9<| bin_w<| d8 rfl<| m6 rfl rfl<| sJ f1.2.2 λj G2 f2=>P7.mpr ?_
 have f12:=f1.trans f2
 have e2:=f12.at hp e
 refine nA.mpr<| l6.mpr<| d8 rfl<| (R1 e2).mpr<| d8 (a:= [rD (some (a+2+k),some (a+2+k+j))]) rfl<| (GA e2 (by rw[GF];lia)).mpr ?_
 refine⟨f12.two.trans (Fd2.set hp f2.2.2),_,_,ns++[(some (a+2+k),some (a+2+k+j))],rfl,?_,hn.snoc (λx y ea eb=>?_) λx hx=>?_,λq hq=>?_,by simp⟩
 ·rw[zN (lt_of_get e2),VG]
 ·cases ea;cases eb;lia
 · obtain⟨b,eb,hb⟩:=hu x hx
   exact⟨b,_,eb,rfl,by lia⟩
 · rcases zW.mp hq with hq|hq
   · obtain⟨b,eb,hb⟩:=hu q hq
     exact⟨b,eb,by lia⟩
   · rw[zC.mp hq]
     exact⟨_,rfl,xU _⟩
end
theorem IL(hp:p≠r):∀items a u v ns G,Dr G r->G[p]? =some (.lst (rsD ns))->Can ns->Up a ns->ns.length+items.length<=50->
 Wp (T0 (y0 3) SB (λ_=>true) items [some (.ref r),some (.ref p),some (.int a),u,v,w]) G λfl G'=>Fd2 r p G G'/\∃a' u' v' ns',fl= .nx [some (.ref r),some (.ref p),some (.int a'),u',v',w]/\G'[p]? =some (.lst (rsD ns'))/\Can ns'/\ns'.length<=ns.length+items.length
 |[],a,u,v,ns,G,h,e,hn,hu,hl=>lB.mpr ⟨rfl,(Fd.refl h).two,a,u,v,ns,rfl,e,hn,by simp⟩
 |d::t,a,u,v,ns,G,h,e,hn,hu,hl=>by
   simp only[zT]at hl
   refine HB.mpr ⟨rfl,N6.mpr<| (Hb hp h e hn hu (by lia)).mono ?_⟩
   rintro _ G1 ⟨f1,a1,v1,ns1,rfl,q2,q3,q3',q4⟩
   refine(IL hp t a1 _ v1 ns1 G1 f1.2.2 q2 q3 q3' (by lia)).mono ?_
   rintro _ G2 ⟨f2,b1,b2,b3,b4,p1,p2,p3,p4⟩
   exact⟨f1.trans f2,b1,b2,b3,b4,p1,p2,p3,by simp only[zT];lia⟩
theorem vO(e:G[p]? =some (.lst (rsD ns))):Wp (neD (.ref p) (.ref G.length)) (G++[.lst []]) Q↔Q (.bl (!ns.isEmpty)) (G++[.lst []]):=by
 rw[Pf (O9 e) j7]
 unfold rsD
 rw[List.isEmpty_map]
theorem Can.noLow(h:Can (q::t)):Can ((none,q.2)::t):=by
 refine⟨λx hx=>?_,jb.mpr ⟨(jb.mp h.2).1,(jb.mp h.2).2⟩⟩
 rcases zt.mp hx with rfl|hx
 ·exact λ_ _ ea=>J7 ea
 ·exact h.1 x (zB _ hx)
theorem Can.noHigh(h:Can (t++[q])):Can (t++[(q.1,none)]):=by
 have hp:=yE.mp h.2
 exact Can.snoc ⟨λx hx=>h.1 x (yF _ hx),hp.1⟩ (λ_ _ _ eb=>J7 eb) λx hx=>hp.2.2 x hx q (zC.mpr rfl)
theorem Vd:ixN (l++[x]).length (-1)=some l.length:=by
 unfold ixN
 rw[if_neg (by lia),if_pos (by simp;lia)]
 congr 1
 simp;lia
section
variable{r p:Nat}{G:DH}{ns:List Rg}{a u v:Option D}{k:Nat}
def CQ(r p:Nat)(a u v:Option D)(k:Nat)(ns:List Rg)(G:DH)(fl:Fl)(G':DH):Prop:=Fd2 r p G G'/\∃ns',fl= .nx [some (.ref r),some (.ref p),a,u,v,some (.int (k:Int))]/\G'[p]? =some (.lst (rsD ns'))/\Can ns'/\ns'.length=ns.length
theorem Sw(hp:p≠r)(h:Dr G r)(e:G[p]? =some (.lst (rsD ns)))(hn:Can ns):Wp (SC1 [some (.ref r),some (.ref p),a,u,v,some (.int (k:Int))]) G (CQ r p a u v k ns G):=by
 have f1:Fd r G (G++[.lst []]):=Fd.app h
 refine C0<| i9<| K4<| bin_w<| d8 rfl<| T2.mpr<| m8.mpr ⟨sz,(vO e).mpr ⟨_,rfl,λg=>?_,λg=>⟨λz=>(nomatch z),λ_=>t7.mpr ⟨f1.two,ns,rfl,O9 e,hn,rfl⟩⟩⟩⟩
 rcases ns with _|⟨q,t⟩
 ·cases g
 · have e2:=f1.at hp e
   refine K4<| bin_w<| J4 rfl rfl<| (u6 (by decide)).mpr<| d8 rfl<| U0.mpr ⟨_,rfl,λ_=>?_,λ_=>t7.mpr ⟨f1.two,q::t,rfl,e2,hn,rfl⟩⟩
   refine W6.mpr<| S7.mpr<| R0 rfl<| m9<| bin_w<| ixv rfl rfl e2 (iK (l0:= []))<| d8 rfl<| (ix_tup).mpr ⟨H0 q.2,rfl,m8.mpr ⟨sz,TJ (j:=0) rfl rfl e2 ?_ ?_⟩⟩
   ·unfold ixN;rw[if_pos (by lia),if_pos (by simp[rsD])];rfl
   ·exact⟨f1.two.trans (Fd2.set hp f1.2.2),(none,q.2)::t,rfl,zN (lt_of_get e2),hn.noLow,rfl⟩
theorem gW(hp:p≠r)(h:Dr G r)(e:G[p]? =some (.lst (rsD ns)))(hn:Can ns):Wp (SC2 [some (.ref r),some (.ref p),a,u,v,some (.int (k:Int))]) G (CQ r p a u v k ns G):=by
 have f1:Fd r G (G++[.lst []]):=Fd.app h
 refine C0<| i9<| K4<| bin_w<| d8 rfl<| T2.mpr<| m8.mpr ⟨sz,(vO e).mpr ⟨_,rfl,λg=>?_,λg=>⟨λz=>(nomatch z),λ_=>t7.mpr ⟨f1.two,ns,rfl,O9 e,hn,rfl⟩⟩⟩⟩
 have hne:ns≠ []:=by rintro rfl;cases g
 clear g
 obtain⟨t,q,rfl⟩:∃(t:List Rg) (q:Rg),ns=t++[q]:=⟨_,_,(Xh hne).symm⟩
 have e2:=f1.at hp e
 refine K4<| bin_w<| bin_w<| J4 rfl rfl<| (M7 ⟨by decide,by decide⟩).mpr<| d8 rfl<| (u6 (by decide)).mpr<| d8 rfl<| U0.mpr ⟨_,rfl,λ_=>?_,λ_=>t7.mpr ⟨f1.two,t++[q],rfl,e2,hn,rfl⟩⟩
 rw[VG]at e2
 refine W6.mpr<| S7.mpr<| m9<| bin_w<| ixv rfl rfl e2 (Bb _ _)<| d8 rfl<| (ix_tup).mpr ⟨H0 q.1,rfl,d8 rfl ⟨sz,TJ rfl rfl e2 Vd ?_⟩⟩
 refine⟨f1.two.trans (Fd2.set hp f1.2.2),t++[(q.1,none)],rfl,?_,hn.noHigh,by simp⟩
 rw[zN (lt_of_get e2),VG,Jw _ _ (zn _),Nat.sub_self];rfl
theorem cK8(h:Dr G r):Wp (T6 [.ref r]) G λx G'=>∃ns,x= .tup (rsD ns)/\Can ns/\ns.length<=6/\Fd r G G':=by
 refine J6 (show Wp (cH [some (.ref r),none,none,none,none,none]) G _ from ?_)
 rw[fV7]
 have f1:Fd r G (G++[.lst []]):=Fd.app h
 have hp:G.length≠r:=by have:=h.lt;lia
 refine J0 (X1:= [some (.ref r),some (.ref G.length),none,none,none,none]) rfl<| j6.mpr<| K9<| bin_w<| MN.mpr<| m6 rfl rfl<| sJ f1.2.2 λk G1 f2=>kq.mpr<| d8 rfl<| eB.mpr ?_
 refine j6.mpr<| pC.mpr<| rng1.mpr<| m9<| m6 rfl rfl<| nH f2.2.2 λm hm G2 f3=>m8.mpr<| (rng1_int ⟨by lia,by lia⟩).mpr ?_
 have f23:=f2.trans f3
 have e2:G2[G.length]? =some (.lst (rsD [])):=f23.at hp j7
 have hlen:(K3 0 (m:Int).toNat).length=m:=by unfold K3;rw[zg,jN,jF]
 refine(IL hp (K3 0 (m:Int).toNat) _ none none [] G2 f3.2.2 e2 ⟨(λp hp=>by cases hp),.nil⟩ (λp hp=>by cases hp) (by rw[hlen];simp;lia)).mono ?_
 rintro _ G3 ⟨f4,lo',v4,v5,ns1,rfl,q2,q3,q4⟩
 refine j6.mpr<| K9<| m6 rfl rfl<| W7 f4.2.2 λn G4 f5=>?_
 refine j6.mpr<| (Sw hp f5.2.2 (f5.at hp q2) q3).mono ?_
 rintro _ G5 ⟨f6,ns2,rfl,q6,q7,q8⟩
 refine j6.mpr<| (gW hp f6.2.2 q6 q7).mono ?_
 rintro _ G6 ⟨f7,ns3,rfl,q10,q11,q12⟩
 have fb:=Fd.thru (f1.trans f23) (((f4.trans f5.two).trans f6).trans f7) (zn _)
 exact J1<| N3 rfl<| (K8 q10).mpr<| v9 ⟨ns3,rfl,q11,by rw[hlen]at q4;simp only[yp]at q4;lia,fb⟩
end
theorem uZ(a b:Str):L2.eqV (.str a) (.str b)= (a==b):=by rfl
theorem mK{s:List Str}:inB (.str z) (.tup (s.map D.str)) G=some (decide (z∈s)):=by
 have hf:(d4 (.str z)&&(s.map D.str).all d4)=true:=by simp[d4,xI]
 unfold inB
 simp only[hf,if_true]
 congr 1
 unfold L2.inV
 rw[xp,ZG]
 induction s with
 |nil=>rfl
 |cons a r ih=>
   rw[jW,ih (by simp[d4,xI])]
   have e:((λy=>L2.eqV y (toV (.str z)))∘(toV∘D.str)) a= (a==z):=uZ a z
   rw[e]
   by_cases h:a=z
   ·simp[h]
   · have:¬z=a:=λe=>h e.symm
     simp[h,this]
theorem wX(h:z.length<=zo):Wp (P0 [.str z]) G Q↔Q (c5 (.str z)) G:=by
 unfold P0 tI
 have s0:([D.str z].map some++zu (1 - [D.str z].length) none:DSt)= [some (.str z)]:=rfl
 simp only[W9,s0,L3,S7,V1,R4,m8,Q5,zH,exists_eq_left',zy,KI h]
 exact⟨λq=>q.2,λq=>⟨sz,q⟩⟩
theorem KN:∀(s:List Str) G,(∀z∈s,z.length<=zo)->v3 P0 (s.map D.str) G=some (.ok (s.map λz=>c5 (.str z)),G)
 |[],G,_=>rfl
 |a::r,G,h=>by
   have h1:noX (P0 [.str a]) G=some (.ok (c5 (.str a)),G):=X6 (aC.mpr ((wX (h a (by simp))).mpr ⟨rfl,rfl⟩))
   have h2:=KN r G λz hz=>h z (by simp[hz])
   show (noX (P0 [.str a]) >>= λk=>v3 P0 (r.map D.str) >>= λks=>pure (k::ks)) G=_
   rw[M.bind_ok h1,M.bind_ok h2]
   rfl
theorem bT{Q:DPP}(e:G[q]? =some (.lst (ks.map D.str)))(nd:ks.Nodup)(h64:ks.length<64)(hz:∀z∈ks,z.length<=zo)(hq:∀m,Ris m->m.Perm ks->Q (.ref G.length) (G++[.lst (m.map D.str)])):Wp (D8 P0 (.ref q)) G Q:=by
 obtain⟨m,e1,e2,e3⟩:=dN nd
 have nd2:(ks.map λz=>(((z.length:Int),z):Int×Str)).Nodup:=by
  rw[List.Nodup,xi]
  exact nd.imp λ{a b} h e=>h (yL e).2
 have hl:(ks.map D.str).length<64:=by rw[zg];exact h64
 unfold D8
 simp only[j9,O3,e,Q3,if_pos hl,x9]
 refine(L8 (KN ks G hz)).mpr ?_
 rw[D3,RO]
 refine⟨_,rfl,?_⟩
 rw[if_pos nd2,Q8,e1]
 exact hq m e2 e3
theorem eQ{s:List Str}(e:G[q]? =some (.lst (s.map D.str))):inB (.str z) (.ref q) G=some (decide (z∈s)):=by
 have h:=mK (z:=z) (s:=s) (G:=G)
 have e2:inB (.str z) (.ref q) G=inB (.str z) (.tup (s.map D.str)) G:=by
  simp only[inB,e]
 rw[e2,h]
theorem EN:∀ss:List Str,(Yd ("" :Str) ss).cps.toList= (ss.map λz=>z.cps.toList).flatten:=λss=>by
 have go:∀(r:List Str) (acc:Array Nat),(r.foldl (λacc p=>acc++("" :Str).cps++p.cps) acc).toList=acc.toList++(r.map λz=>z.cps.toList).flatten:=λr=>by
  induction r with
  |nil=>intro acc;simp
  |cons p r ih=>
    intro acc
    rw[xX,ih,JJ,JJ,zU,jZ,show ("" :Str).cps.toList= []from rfl,yX,ya]
 rcases ss with _|⟨a,r⟩
 ·rfl
 ·exact go r a.cps
theorem VT:∀c∈("abcdefghijklmnopqrstuvwxyz" :Str).cps.toList,r9 c=true:=by decide +kernel
def ER(y:D):Prop:=∃c:Nat,r9 c=true/\y= .str ⟨#[c]⟩
theorem QO:∀ {zs},(∀y∈zs,ER y)->∃ss:List Str,zs=ss.map D.str/\ss.length=zs.length/\(ss.map λz=>z.length).sum=zs.length/\∀c∈(ss.map λz=>z.cps.toList).flatten,r9 c=true
 |[],_=>⟨[],rfl,rfl,rfl,λ_ h=>nomatch h⟩
 |y::t,h=>by
   obtain⟨c,hc,rfl⟩:=h _ (zK ..)
   obtain⟨ss,h1,h2,h3,h4⟩:=QO λy hy=>h y (zB _ hy)
   refine⟨⟨#[c]⟩::ss,by rw[zU,h1],by simp[h2],?_,λx hx=>?_⟩
   · rw[zU,List.sum_cons,h3,zT]
     show 1+_=_
     lia
   · rw[zU,jZ]at hx
     rcases zW.mp hx with hx|hx
     ·rw[show x=c from zC.mp hx];exact hc
     ·exact h4 x hx
theorem tS:∀z∈(["", "a", "b", "aa", "ab", "ca"]:List Str),Tx z:=by
 intro z hz
 simp only[zt,zS,or_false]at hz
 rcases hz with rfl|rfl|rfl|rfl|rfl|rfl<;>exact⟨by decide +kernel,by decide +kernel⟩
section
theorem DN(h:Dr G r):Wp (bE [.ref r]) G λx G'=>(∃z,x= .str z/\Tx z)/\Fd r G G':=by
 have bg:=big
 refine J6 (show Wp (CK [some (.ref r),none]) G _ from ?_)
 refine j6.mpr<| K9<| m6 rfl rfl<| W7 h λk G1 f1=>j6.mpr<| C0<| K4<| bin_w<| J4 rfl rfl<| (u6 (by decide)).mpr<| d8 rfl<| U0.mpr ⟨_,rfl,λ_=>?_,λ_=>t7.mpr ?_⟩
 · have a1:0<=(k:Int) / 9 % 21:=jf _ (by decide)
   have a2:(k:Int) / 9 % 21<21:=jd _ (by decide)
   refine J1<| l6.mpr<| d8 rfl ?_
   refine TZ.mpr<| m9<| wp_comp.mpr<| rng1.mpr<| m9<| bin_w<| J4 rfl rfl<| (M7 ⟨by decide,by decide⟩).mpr<| d8 rfl<| (u6 (by decide)).mpr<| m8.mpr<| (rng1_int ⟨by lia,by lia⟩).mpr ?_
   have ln:(K3 0 ((k:Int) / 9 % 21).toNat).length= ((k:Int) / 9 % 21).toNat:=by unfold K3;rw[zg,jN]
   refine⟨by show (K3 0 ((k:Int) / 9 % 21).toNat).length<=_;rw[ln];lia,(n4 (Fd r G1) (λσ=>∃u,σ= [u,some (.ref r)]) (λ_ y=>ER y) (λ_ _=>rfl) _ _ G1 ⟨_,rfl⟩ (Fd.refl f1.2.2) ?_).mono ?_⟩
   · rintro d hd _ G3 ⟨v,rfl⟩ j
     refine N6.mpr ⟨rfl,⟨_,rfl⟩,bin_w<| d8 rfl<| bin_w<| m6 rfl rfl<| W7 j.2.2 λi G4 f4=>d8 rfl<| (u6 (by decide)).mpr ?_⟩
     have b1:0<=(i:Int) % 26:=jf _ (by decide)
     have b2:(i:Int) % 26<26:=jd _ (by decide)
     have hA:("abcdefghijklmnopqrstuvwxyz" :Str).length=26:=by rfl
     exact Lg (by lia) b1 (by lia) λc hc=>⟨j.trans f4,c,VT c hc,rfl⟩
   · rintro _ G3 ⟨f3,zs,e1,rfl,hz⟩
     obtain⟨ss,h1,h2,h3,h4⟩:=QO λy hy=>by
      obtain⟨z,hzm,rfl⟩:=zI.mp hy
      exact hz z hzm
     have lz:(zs.map (·.2)).length= ((k:Int) / 9 % 21).toNat:=by
      have:=congrArg Ya e1
      rw[zg]at this
      rw[zg,this]
      exact ln
     have hs:("" :Str).length=0:=rfl
     refine m8.mpr<| (Qb j7 (by rw[h1];exact CJ ss) ?_).mpr ?_
     · rw[h3,hs,Nat.mul_zero,Nat.add_zero,lz]
       lia
     · refine v9 ⟨⟨_,rfl,?_,?_⟩,f1.trans (f3.trans (Fd.app f3.2.2))⟩
       · show (Yd ("" :Str) ss).cps.toList.all r9=true
         rw[EN]
         exact yN.mpr h4
       · show (Yd ("" :Str) ss).cps.toList.length<=1000
         rw[EN,List.length_flatten,xp]
         have:(ss.map (Ya∘λz=>z.cps.toList)).sum= (zs.map (·.2)).length:=h3
         rw[this,lz]
         lia
 · have a1:0<=(k:Int) / 9 % 6:=jf _ (by decide)
   have a2:(k:Int) / 9 % 6<6:=jd _ (by decide)
   refine J1<| bin_w<| T2.mpr<| d8 rfl ⟨sz,bin_w<| J4 rfl rfl<| (M7 ⟨by decide,by decide⟩).mpr<| d8 rfl<| (u6 (by decide)).mpr<| (L6 j7).mpr ?_⟩
   obtain⟨d,hd,e⟩:=pF (l:=([("" :Str), "a", "b", "aa", "ab", "ca"]).map D.str) a1 (by exact a2)
   obtain⟨z,hz,rfl⟩:=zI.mp hd
   exact⟨_,e,v9 ⟨⟨z,rfl,tS z hz⟩,f1.trans (Fd.app f1.2.2)⟩⟩
end
theorem fI0:QG=j8 (u9 (R7 g0) (y0 1)) (j8 (B3 (R3 (d0 (x0 (fnX 1 S9) (d0 (b8 0) g0)) g0)) (y0 2) WB) (o4 (x0 O4 (d0 (RA P0 (b8 1)) g0)))):=rfl
def Wd(ss:List Str):Prop:=ss.Nodup/\∀z∈ss,Tx z
theorem pU{u v:Option D}(hp:p≠r)(h:Dr G r)(e:G[p]? =some (.lst (ss.map D.str)))(hs:Wd ss)(hl:ss.length<=1000):
 Wp (WB [some (.ref r),some (.ref p),u,v]) G λfl G'=>Fd2 r p G G'/\∃v' ss',fl= .nx [some (.ref r),some (.ref p),u,v']/\G'[p]? =some (.lst (ss'.map D.str))/\Wd ss'/\ss'.length<=ss.length+1:=by
 have bg:=big
 refine j6.mpr<| K9<| m6 rfl rfl<| (DN h).mono ?_
 rintro _ G1 ⟨⟨z,rfl,hz⟩,f1⟩
 have e1:=f1.at hp e
 refine C0<| K4<| bin_w<| d8 rfl<| d8 rfl<| SJ.mpr ⟨_,eQ e1,_,rfl,λhm=>?_,λ_=>t7.mpr ⟨f1.two,_,ss,rfl,e1,hs,by lia⟩⟩
 have hm:z∉ss:=by simpa using hm
 refine nA.mpr<| l6.mpr<| d8 rfl<| (R1 e1).mpr<| d8 rfl<| (GA e1 (by rw[zg];lia)).mpr ?_
 refine⟨f1.two.trans (Fd2.set hp f1.2.2),_,ss++[z],rfl,by rw[zN (lt_of_get e1),xz];rfl,⟨?_,λy hy=>?_⟩,by simp⟩
 · rw[List.nodup_append]
   exact⟨hs.1,by simp,λa ha b hb=>by rw[zC]at hb;subst hb;exact λe=>hm (by rw[<-e];exact ha)⟩
 · rcases zW.mp hy with hy|hy
   ·exact hs.2 y hy
   ·rw[zC]at hy;subst hy;exact hz
theorem sN(hp:p≠r):∀items u v ss G,Dr G r->G[p]? =some (.lst (ss.map D.str))->Wd ss->ss.length+items.length<=50->
 Wp (T0 (y0 2) WB (λ_=>true) items [some (.ref r),some (.ref p),u,v]) G λfl G'=>Fd2 r p G G'/\∃u' v' ss',fl= .nx [some (.ref r),some (.ref p),u',v']/\G'[p]? =some (.lst (ss'.map D.str))/\Wd ss'/\ss'.length<=ss.length+items.length
 |[],u,v,ss,G,h,e,hs,hl=>lB.mpr ⟨rfl,(Fd.refl h).two,u,v,ss,rfl,e,hs,by simp⟩
 |d::t,u,v,ss,G,h,e,hs,hl=>by
   simp only[zT]at hl
   refine HB.mpr ⟨rfl,N6.mpr<| (pU hp h e hs (by lia)).mono ?_⟩
   rintro _ G1 ⟨f1,v1,ss1,rfl,q2,q3,q4⟩
   refine(sN hp t _ v1 ss1 G1 f1.2.2 q2 q3 (by lia)).mono ?_
   rintro _ G2 ⟨f2,b1,b2,b3,p1,p2,p3,p4⟩
   exact⟨f1.trans f2,b1,b2,b3,p1,p2,p3,by simp only[zT];lia⟩
theorem PM(h:Dr G r):Wp (BB [.ref r]) G λx G'=>∃ss,x= .tup (ss.map D.str)/\Rw ss/\ss.length<=6/\Fd r G G':=by
 have bg:=big
 refine J6 (show Wp (QG [some (.ref r),none,none,none]) G _ from ?_)
 rw[fI0]
 have fd:Fd r G (G++[DO.lst []]):=Fd.app h
 have hp:G.length≠r:=by have:=h.lt;lia
 refine J0 (X1:= [some (.ref r),some (.ref G.length),none,none]) rfl<| j6.mpr<| pC.mpr<| rng1.mpr<| m9<| m6 rfl rfl<| nH fd.2.2 λm hm G2 f2=>m8.mpr<| (rng1_int ⟨by lia,by lia⟩).mpr ?_
 have e2:G2[G.length]? =some (.lst (([]:List Str).map D.str)):=f2.at hp j7
 have hlen:(K3 0 (m:Int).toNat).length=m:=by unfold K3;rw[zg,jN,jF]
 refine(sN hp (K3 0 (m:Int).toNat) none none [] G2 f2.2.2 e2 ⟨List.nodup_nil,λz hz=>nomatch hz⟩ (by rw[hlen];simp;lia)).mono ?_
 rintro _ G3 ⟨f3,u',v',ss,rfl,q2,q3,q4⟩
 rw[hlen,yp]at q4
 refine J1<| N8<| m9<| lL.mpr<| d8 rfl<| bT q2 q3.1 (by lia) (λz hz=>zG (q3.2 z hz).2 (by lia)) λm' rm pm=>m8.mpr<| (K8 j7).mpr ?_
 have fr:=(fd.trans f2).thru f3 (zn _)
 have hl:=pm.length_eq
 exact v9 ⟨m',rfl,⟨rm,λz hz=>q3.2 z (pm.mem_iff.mp hz),by lia⟩,by lia,fr.trans (Fd.app fr.2.2)⟩
theorem Vv{c:Int}{k:Nat}{G:DH}{Q:DPP}(hk:k<=1000)(q:∀m:Nat,Q (.int (m:Int)) G):Wp (OC [.int c,.int (k:Int)]) G Q:=by
 have s0:([D.int c,D.int (k:Int)].map some++zu (3 - [D.int c,D.int (k:Int)].length) none:DSt)= [some (.int c),some (.int (k:Int)),none]:=rfl
 have b:∀x:Int,0<=x % 2147483647/\x % 2147483647<2147483647:=λx=>⟨jf _ (by decide),jd _ (by decide)⟩
 have b':∀x:Int,0<=x % 2147483629/\x % 2147483629<2147483629:=λx=>⟨jf _ (by decide),jd _ (by decide)⟩
 have m1:P3 40692 ((k:Int)+1):=Or.inl ⟨by decide,by decide⟩
 have mm:∀x:Int,0<=x->x<2147483647->P3 x x:=λx h1 h2=>Or.inl ⟨by lia,by lia⟩
 have m3:∀x:Int,P3 48271 x:=λx=>Or.inl ⟨by decide,by decide⟩
 have m4:∀x:Int,P3 x 69621:=λx=>Or.inr ⟨by decide,by decide⟩
 unfold OC WH
 simp only[W9,s0,j6,W6,N6,L3,u4,c9,Q5,zH,exists_eq_left',zy,zM,jQ,jG,u6 (show (0:Int)<2147483647 by decide),u6 (show (0:Int)<2147483629 by decide),P7,B6 m1]
 generalize hx:(c % 2147483647+40692*((k:Int)+1)) % 2147483647=x
 have hb:=b (c % 2147483647+40692*((k:Int)+1))
 rw[hx]at hb
 simp only[B6 (mm x hb.1 hb.2),B6 (m3 x),P7]
 generalize hy:(x*x+48271*x+(k:Int)) % 2147483647=y
 have hb2:=b (x*x+48271*x+(k:Int))
 rw[hy]at hb2
 simp only[u6 (show (0:Int)<2147483647 by decide),hy,B6 (mm y hb2.1 hb2.2),u6 (show (0:Int)<2147483629 by decide),B6 (m4 _),M7 (show (0:Int)<8/\(8:Int)<2 ^ 100 by decide)]
 obtain⟨n,hn⟩:=yQ (b' (y*y % 2147483629*69621)).1
 rw[hn]
 have:=q (n / 8)
 simpa using this
theorem Md{a b:Nat}(h:0<b):Wp (K5 (.int (a:Int)) (.int (b:Int))) G Q↔Q (.int ((a % b:Nat):Int)) G:=by rw[u6 (by lia)];simp
theorem Vx{a b:Nat}(h:0<b)(h2:b<1000):Wp (M9 (.int (a:Int)) (.int (b:Int))) G Q↔Q (.int ((a / b:Nat):Int)) G:=by rw[M7 ⟨by lia,by lia⟩];simp
theorem fG{p k:Nat}(e:G[p]? =some (.lst l))(h:l[k]? =some d):Wp (ixD (.ref p) (.int (k:Int))) G Q↔Q d G:=by
 rw[L6 e,atI_nat h];exact Q3
theorem LH{p:Nat}{l:List D}{G:DH}{Q:DPP}(e:G[p]? =some (.lst l)):Wp (X7 [.ref p]) G Q↔Q (.int (l.length:Int)) G:=by
 unfold X7
 simp only[j9,O3,e,Q3,m5]
def t3(ns:List Nat):List D:=ns.map λn:Nat=>D.int (n:Int)
structure PuI(pc pr pp:Nat)(cs:List Int)(rs ns:List Nat)(G:DH):Prop where
 c:G[pc]? =some (.lst (cs.map D.int))
 r:G[pr]? =some (.lst (t3 rs))
 p:G[pp]? =some (.lst (t3 ns))
 n0:0<cs.length
 nl:cs.length<=100
 eq:rs.length=cs.length
 ne:pc≠pr/\pc≠pp/\pr≠pp
theorem PuI.at{pc pr pp:Nat}{cs:List Int}{rs ns:List Nat}{G:DH}(I:PuI pc pr pp cs rs ns G){k:Nat}(hk:k<cs.length):(∃n:Nat,rs[k]? =some n)/\∃c:Int,cs[k]? =some c:=by
 refine⟨⟨rs[k]'(by rw[I.eq];exact hk),zi _⟩,⟨cs[k],zi _⟩⟩
def Gr3(pr pp:Nat)(G G':DH):Prop:=G'.length=G.length/\∀i,i≠pr->i≠pp->G'[i]? =G[i]?
theorem Tc{pc pr pp k:Nat}{rs ns:List Nat}(I:PuI pc pr pp cs rs ns G)(hn:ns.length<=1000)(hk:k<=1000):
 Wp (PB [o0,o1,o2,o3,some (.ref pc),some (.ref pr),some (.ref pp),some (.int (k:Int)),u]) G λfl G'=>Gr3 pr pp G G'/\∃u' rs' ns',fl= .nx [o0,o1,o2,o3,some (.ref pc),some (.ref pr),some (.ref pp),some (.int (k:Int)),u']/\PuI pc pr pp cs rs' ns' G'/\ns'.length=ns.length+1:=by
 have bg:=big
 unfold PB
 have hlc:(cs.map D.int).length=cs.length:=zg _
 simp only[j6,W6,N6,g9,F8,nA,l6,eJ,u4,V1,R4,m8,c9,Q5,V7,zH,exists_eq_left',zy,zM,jQ,jG,LH I.c,hlc,Md I.n0]
 have hm:k % cs.length<cs.length:=Nat.mod_lt _ I.n0
 generalize hj:k % cs.length=j at hm ⊢
 obtain⟨⟨n,en⟩,c,ec⟩:=I.at hm
 have en':(t3 rs)[j]? =some (.int (n:Int)):=by unfold t3;rw[zV,en];rfl
 have ec':(cs.map D.int)[j]? =some (.int c):=by rw[zV,ec];rfl
 have hjr:j<rs.length:=by rw[I.eq];exact hm
 have hnl:(t3 ns).length=ns.length:=zg _
 rw[fG I.r en',iZ]
 simp only[QA]
 by_cases h0:(0:Int)<(n:Int)
 · simp only[h0,decide_true,if_true]
   rw[R1 I.p,fG I.r en',u6 (by decide),GA I.p (by lia)]
   have lp:=lt_of_get I.p
   have lr:=lt_of_get I.r
   have r1:(G.set pp (.lst (t3 ns++[.int ((n:Int) % 1000003)])))[pr]? =some (.lst (t3 rs)):=by rw[zL (Ne.symm I.ne.2.2)];exact I.r
   rw[fG r1 en',M7 (by decide),PN r1 (j:=j) (by unfold ixN t3;simp;lia)]
   refine⟨⟨by simp,λi h1 h2=>by rw[zL (Ne.symm h1),zL (Ne.symm h2)]⟩,_,rs.set j (n / 1000003),ns++[n % 1000003],rfl,⟨?_,?_,?_,I.n0,I.nl,by rw[xW];exact I.eq,I.ne⟩,by simp⟩
   ·rw[zL (Ne.symm I.ne.1),zL (Ne.symm I.ne.2.1)];exact I.c
   · rw[zN (lt_of_get r1)]
     unfold t3
     rw[List.map_set]
     simp
   · rw[zL I.ne.2.2,zN lp]
     unfold t3
     rw[xz]
     simp
 · simp only[h0,decide_false,jk,if_false]
   rw[R1 I.p,fG I.c ec',LH I.c,hlc,Vx I.n0 (by have:=I.nl;lia)]
   refine⟨rfl,Vv (zG (Nat.div_le_self _ _) hk) λm=>?_⟩
   rw[GA I.p (by lia)]
   refine⟨⟨by simp,λi h1 h2=>by rw[zL (Ne.symm h2)]⟩,_,rs,ns++[m],rfl,⟨?_,?_,?_,I.n0,I.nl,I.eq,I.ne⟩,by simp⟩
   ·rw[zL (Ne.symm I.ne.2.1)];exact I.c
   ·rw[zL (Ne.symm I.ne.2.2)];exact I.r
   · rw[zN (lt_of_get I.p)]
     unfold t3
     rw[xz]
     simp
theorem SO:∀m j v u rs ns G,PuI pc pr pp cs rs ns G->ns.length+m<=1000->j+m<=1000->
 Wp (T0 (y0 7) PB (λ_=>true) ((List.range' j m).map fun(i:Nat)=>D.int (0+(i:Int))) [o0,o1,o2,o3,some (.ref pc),some (.ref pr),some (.ref pp),v,u]) G λfl G'=>Gr3 pr pp G G'/\∃v' u' rs' ns',fl= .nx [o0,o1,o2,o3,some (.ref pc),some (.ref pr),some (.ref pp),v',u']/\PuI pc pr pp cs rs' ns' G'
 |0,j,v,u,rs,ns,G,I,hn,hj=>by
   simp only[List.range'_zero,ZD,lB]
   exact⟨trivial,⟨rfl,λ_ _ _=>rfl⟩,_,_,rs,ns,rfl,I⟩
 |m+1,j,v,u,rs,ns,G,I,hn,hj=>by
   simp only[List.range'_succ,zU,HB,N6,jG,jQ]
   refine⟨trivial,?_⟩
   rw[show (0+(j:Int))= (j:Int) by lia]
   refine Wp.mono (Tc I (by lia) (by lia)) λfl G1 ⟨g1,u1,rs1,ns1,e1,I1,hl1⟩=>?_
   subst e1
   exact Wp.mono (SO m (j+1) _ _ rs1 ns1 G1 I1 (by lia) (by lia)) λfl G2 ⟨g2,h2⟩=>⟨⟨g2.1.trans g1.1,λi a b=>(g2.2 i a b).trans (g1.2 i a b)⟩,h2⟩
theorem iT:sH=j8 (u9 (WC (b8 0) (N2 (b8 1)) (N2 (cE (.int 126))) (N2 (b8 2))) (y0 4)) (j8 (ifS (m7 (c7 eqD (b8 4) (R7 g0))) (u9 (R7 (d0 (b8 1) g0)) (y0 4)) o9) PT):=rfl
theorem dX2:Wp (geD (.int i) (.int j)) G Q↔Q (.bl (decide (j<=i))) G:=m5
def B8(c:Int):Nat:=if 1000000000000000000<=c.natAbs then c.natAbs else 0
theorem Qv{cs:List Int}(e:G[p]? =some (.lst (cs.map D.int)))(hl:cs.length<=100)(q:Q (.ref G.length) (G++[.lst (t3 (cs.map B8))])):Wp (PR [o0,o1,o2,o3,some (.ref p),o5,o6,o7,o8]) G Q:=by
 have bg:=big
 unfold PR
 have hs:itW (b8 4) [o0,o1,o2,o3,some (.ref p),o5,o6,o7,o8] G=some (.ok ⟨cs.map D.int,ckO p (.lst (cs.map D.int))⟩,G):=by
  obtain⟨a,G',e1,e2⟩:=(show Wp (itW (b8 4) [o0,o1,o2,o3,some (.ref p),o5,o6,o7,o8]) G λa G'=>a= ⟨cs.map D.int,ckO p (.lst (cs.map D.int))⟩/\G'=G by
   simp only[wp_itW,Q5,zy,zM,zH,exists_eq_left']
   rw[P6 e]
   exact⟨rfl,rfl⟩)
  rw[e2.1,e2.2]at e1
  exact e1
 rw[VM (λσ=>σ.length=1) hs (by show (cs.map D.int).length<=_;rw[zg];lia) (by simp only[ckO,e];simp) rfl (λx hx σ WR=>?_)]
 · have em:(cs.map D.int).map (λx=>match x with| .int c=>D.int (B8 c:Int)|_=>.non)=t3 (cs.map B8):=by
    unfold t3
    rw[xp,xp]
    rfl
   show Q (.ref G.length) (G++[.lst ((cs.map D.int).map λx=>match x with| .int c=>D.int (B8 c:Int)|_=>.non)])
   rw[em]
   exact q
 · obtain⟨c,hc,rfl⟩:=zI.mp hx
   match σ,WR with
   |[u],_=>
     refine⟨[some (.int c)],rfl,rfl,rfl,X6 ?_⟩
     simp only[u4,V1,R4,m8,c9,Q5,zy,zH,exists_eq_left',RW,p18,dX2,fD0]
     have ea:(if c<0 then -c else c)= (c.natAbs:Int):=by split<;>lia
     rw[ea]
     by_cases h1:1000000000000000000<=c.natAbs
     · have h1':decide ((1000000000000000000:Int)<=(c.natAbs:Int))=true:=decide_eq_true (by lia)
       rw[h1',if_pos rfl,B6 (Or.inr ⟨by decide,by decide⟩)]
       unfold B8
       rw[if_pos h1]
       exact⟨by simp,rfl⟩
     · have h1':decide ((1000000000000000000:Int)<=(c.natAbs:Int))=false:=decide_eq_false (by lia)
       rw[h1',if_neg (by decide),B6 (Or.inr ⟨by decide,by decide⟩)]
       unfold B8
       rw[if_neg h1]
       exact⟨by simp,rfl⟩
theorem RY{ns:List Int}{lo hi st:Option Int}:∃cs:List Int,nE (ns.map D.int) lo hi st=cs.map D.int/\cs.length<=ns.length:=by
 refine⟨(w9 ns.length lo hi st).filterMap (ns[·]?),?_,?_⟩
 · unfold nE
   rw[zg,List.map_filterMap]
   congr 1
   funext i
   rw[zV]
 · have h:=slicePick_size_le (ns.map λi=>Value.none).toArray lo hi st
   unfold XA at h
   rw[zj,zj,zg]at h
   refine zG (xt ?_) h
   unfold w9
   generalize sliceRange _ _ _=is
   induction is with
   |nil=>rfl
   |cons i r ih=>
     rw[jM,jM]
     by_cases hi:i<ns.length
     ·simp[hi,ih]
     ·simp[hi,ih]
theorem lQ{mm:Nat}(hm:mm<=1000){st:Int}{cs:List Int}{G G1:DH}(g1:Gr G G1)(e1:G1[pc]? =some (.lst (cs.map D.int)))(h0:0<cs.length)(hl:cs.length<=63)(hpc:G.length<=pc):
 Wp (PT [some (.ref p0),some (.int a),some (.int st),some (.int (mm:Int)),some (.ref pc),none,none,none,none]) G1 λfl G'=>∃r,fl= .rt (.ref r)/\Dr G' r/\Gr G G'/\G.length<=r:=by
 unfold PT
 simp only[j6,W6,N6,T2,m8,jQ,jG]
 refine Qv e1 (by lia) ⟨sz,?_⟩
 have l1:=lt_of_get e1
 rw[pC]
 simp only[rng1,R4,m8,Q5,zH,exists_eq_left',zy,zM]
 rw[rng1_int ⟨by lia,by lia⟩]
 have er:K3 0 ((mm:Nat):Int).toNat= (List.range' 0 mm).map fun(i:Nat)=>D.int (0+(i:Int)):=by
  unfold K3
  rw[List.range_eq_range',jF]
 show Wp (T0 (y0 7) PB (λ_=>true) (K3 0 ((mm:Nat):Int).toNat) _) _ _
 rw[er]
 have I:PuI pc G1.length (G1++[DO.lst (t3 (cs.map B8))]).length cs (cs.map B8) [] (G1++[DO.lst (t3 (cs.map B8))]++[DO.lst []]):=⟨O9 (O9 e1),O9 j7,j7,h0,by lia,by simp,by simp;lia⟩
 refine Wp.mono (SO mm 0 none none _ _ _ I (by simp;lia) (by lia)) λfl G3 ⟨g3,v',u',rs',ns',e3,I3⟩=>?_
 subst e3
 simp only[L3,MN,Q5,zH,exists_eq_left',zy,zM]
 rw[Kk I3.p]
 have hlen:=g3.1
 simp only[zA,jD]at hlen
 refine⟨_,rfl,⟨ns'.reverse,by rw[j7];unfold t3;rw[List.map_reverse]⟩,?_,?_⟩
 · refine⟨?_,λi hi=>?_⟩
   · have:=g1.1
     simp only[zA,jD];lia
   · have:=g1.1
     rw[zF (by lia),g3.2 i (by lia) (by simp;lia),zF (by simp;lia),zF (by lia),g1.2 i hi]
 · have:=g1.1
   lia
theorem LJ{mm:Nat}(hm:mm<=1000){p0:Nat}{a:Nat}{st:Int}(h0:st≠0){ns:List Int}(e:G[p0]? =some (.rol (ns.map D.int)))(hn:ns.length<=63):Wp (O7 [.ref p0,.int (a:Int),.int st,.int (mm:Int)]) G λx G'=>∃r,x= .ref r/\Dr G' r/\Gr G G'/\G.length<=r:=by
 have bg:=big
 unfold O7
 rw[iT]
 have s0:([D.ref p0,.int (a:Int),.int st,.int (mm:Int)].map some++zu (9 - [D.ref p0,.int (a:Int),.int st,.int (mm:Int)].length) none:DSt)= [some (.ref p0),some (.int (a:Int)),some (.int st),some (.int (mm:Int)),none,none,none,none,none]:=rfl
 simp only[W9,s0,j6,W6,N6,g9,F8,u4,T2,R4,m8,c9,Q5,t7,Dx,UM,Bp,zH,exists_eq_left',zy,zM,jQ,jG]
 rw[EW e (by simpa using h0)]
 obtain⟨cs,ec,hc⟩:=RY
 rw[ec]
 refine⟨sz,?_⟩
 rw[eI (O9 j7) j7]
 simp only[QA]
 cases cs with
 |nil=>
   simp only[ZD,List.isEmpty_nil,if_true]
   refine⟨sz,?_⟩
   refine Wp.mono (lQ hm (cs:= [(a:Int)]) (Gr.app.trans (Gr.app.trans Gr.app)) j7 (by simp) (by simp) (by simp)) λfl G' ⟨r,e1,h1⟩=>?_
   subst e1
   exact⟨r,rfl,h1⟩
 |cons c0 cr=>
   simp only[zU,List.isEmpty_cons,jk,if_false]
   refine Wp.mono (lQ hm (cs:=c0::cr) (Gr.app.trans Gr.app) (O9 j7) (by simp) (by lia) (zn _)) λfl G' ⟨r,e1,h1⟩=>?_
   subst e1
   exact⟨r,rfl,h1⟩
def DC(n:Nat)(c:CS n):Prop:=Gd n c/\SzC n 6 c
def LOk(n:Nat)(r:Option (List (CS n)×CS n)):Prop:=U6 (inC n) (Gd n) r/\lsZ n 6 r
def ROk(n:Nat)(r:Option (List (Str×Bool×CS n)×CS n)):Prop:=C2 (inC n) (Gd n) r/\rsZ n 6 r
def cD(n:Nat):CS (n+1):=some (S2 _)
theorem RH:∀n k,SzC n k (y3 n)
 |0,_=>trivial
 |_+1,_=>λ_ e=>nomatch e
theorem BQ(n:Nat):DC n (y3 n):=⟨RE n,RH n 6⟩
theorem LF(n:Nat):DC (n+1) (cD n):=⟨SQ,by
 rintro _ ⟨⟩
 exact⟨zQ _,zQ _,λ_ h=>(nomatch h),λ_ _ e=>(nomatch e),λ_ _ e=>(nomatch e)⟩⟩
theorem Sx:LOk n none:=⟨λ_ _ e=>(nomatch e),λ_ _ e=>(nomatch e)⟩
theorem eV6:ROk n none:=⟨λ_ _ e=>(nomatch e),λ_ _ e=>(nomatch e)⟩
theorem eK:LOk n (some ([],y3 n)):=⟨by rintro _ _ ⟨⟩;exact⟨RE n,λ_ h=>(nomatch h)⟩,by rintro _ _ ⟨⟩;exact⟨zQ _,RH n 6,λ_ h=>(nomatch h)⟩⟩
theorem bJ:ROk n (some ([],y3 n)):=⟨by rintro _ _ ⟨⟩;exact⟨RE n,.nil,λ_ h=>(nomatch h)⟩,by rintro _ _ ⟨⟩;exact⟨rfl,RH n 6⟩⟩
theorem UJ:J8 [] G=some (.ok F0,G):=rfl
theorem OO:qB [] G=some (.ok evD,G):=rfl
theorem mP:(k:Int) / 8 % 2=0\/(k:Int) / 8 % 2=1:=by
 have a1:0<=(k:Int) / 8 % 2:=jf _ (by decide)
 have a2:(k:Int) / 8 % 2<2:=jd _ (by decide)
 lia
theorem Nx:∃b,atI [D.non,.tup [.tup [],.str E2]] ((k:Int) / 8 % 2)=some (lsD (enC n) b)/\LOk n b:=by
 rcases mP with z|z
 ·exact⟨none,by rw[z];rfl,Sx⟩
 ·exact⟨some ([],y3 n),by rw[z];show _=some (D.tup [.tup [],enC n (y3 n)]);rw[AI];rfl,eK⟩
theorem nY:∃b,atI [D.non,.tup [.tup [],.str E2]] ((k:Int) / 8 % 2)=some (rcD (enC n) b)/\ROk n b:=by
 rcases mP with z|z
 ·exact⟨none,by rw[z];rfl,eV6⟩
 ·exact⟨some ([],y3 n),by rw[z];show _=some (D.tup [.tup [],enC n (y3 n)]);rw[AI];rfl,bJ⟩
def DAt(d:Nat)(R:List D->M D):Prop:=∀(G:DH) (r:Nat),Dr G r->Wp (R [.ref r,.int (d:Int)]) G λx G'=>Fd r G G'/\∃c,x=enC (d+1) c/\DC (d+1) c
section
variable{r d:Nat}{G:DH}{R:List D->M D}
theorem aY(ih:DAt d (S8 R))(h:Dr G r):Wp (tD R [.ref r,.int (k:Int),.int (d:Int)]) G λx G'=>Fd r G G'/\∃c,x=enC (d+1) c/\DC (d+1) c:=by
 refine J6 (show Wp (BE R [some (.ref r),some (.int (k:Int)),some (.int (d:Int))]) G _ from ?_)
 unfold BE
 refine j6.mpr<| C0<| K4<| bin_w<| J4 rfl rfl<| (u6 (by decide)).mpr<| d8 rfl<| wQ.mpr ⟨_,rfl,λ_=>?_,λ_=>t7.mpr ?_⟩
 ·exact J1<| m6 rfl rfl<| ih G r h
 ·exact J1<| m6 rfl rfl<| d8 UJ<| v9 ⟨Fd.refl h,cD d,rfl,LF d⟩
theorem FO:((d+1:Nat):Int)-1= (d:Int):=by lia
theorem pP(h6:d<=6)(ih:∀d',d=d'+1->DAt d' (S8 R))(h:Dr G r):Wp (u0 5 (TB R) [.ref r,.int (d:Int)]) G λx G'=>Fd r G G'/\∃b,x=lsD (enC d) b/\LOk d b:=by
 refine J6 (show Wp (TB R [some (.ref r),some (.int (d:Int)),none,none,none]) G _ from ?_)
 unfold TB
 refine j6.mpr<| K9<| m6 rfl rfl<| W7 h λk G1 f1=>j6.mpr ?_
 have pick:∀ {σ:DSt} {P:Fl->DH->Prop},σ[2]? =some (some (.int (k:Int)))->(∀x G',(Fd r G G'/\∃b,x=lsD (enC d) b/\LOk d b)->P (.rt x) G')->Wp (o4 (c7 ixD (R7 (d0 (cE .non) (d0 (M4 (d0 (M4 g0) (d0 (cE (.str ("any" :Str))) g0))) g0))) (c7 K5 (c7 M9 (b8 2) (cE (.int 8))) (cE (.int 2)))) σ) G1 P:=λ{σ P} WR hP=>by
  refine J1<| bin_w<| T2.mpr<| d8 rfl ⟨sz,bin_w<| J4 (X6 (Q5.mpr ⟨_,WR,rfl,rfl⟩)) rfl<| (M7 ⟨by decide,by decide⟩).mpr<| d8 rfl<| (u6 (by decide)).mpr<| (L6 j7).mpr ?_⟩
  obtain⟨b,hb,ob⟩:=Nx
  exact⟨_,hb,hP _ _ ⟨f1.trans (Fd.app f1.2.2),b,rfl,ob⟩⟩
 refine C0<| P8<| K4<| J4 rfl rfl<| U0.mpr ⟨_,rfl,λ_=>⟨λ_=>pick rfl λ_ _ q=>q,λz=>nomatch z⟩,λhd=>?_⟩
 have hd:¬((d:Int)=0):=of_decide_eq_false hd
 refine K4<| bin_w<| J4 rfl rfl<| (u6 (by decide)).mpr<| d8 rfl<| U0.mpr ⟨_,rfl,λ_=>pick rfl λ_ _ q=>q,λ_=>t7.mpr ?_⟩
 rcases d with _|d
 ·exact absurd rfl hd
 have ih:=ih d rfl
 refine j6.mpr<| K9<| m6 (by show some (Except.ok [D.ref r,.int (k:Int),.int (((d+1:Nat):Int)-1)],G1)=_;rw[FO]) rfl<| (aY ih f1.2.2).mono ?_
 rintro _ G2 ⟨f2,m,rfl,hm⟩
 refine j6.mpr<| K9<| wp_comp.mpr<| rng1.mpr<| m9<| m6 rfl rfl<| nH f2.2.2 λq hq G3 f3=>m8.mpr<| (rng1_int ⟨by lia,by lia⟩).mpr ?_
 have hlen:(K3 0 (q:Int).toNat).length=q:=by unfold K3;rw[zg,jN,jF]
 refine⟨by have:=big;dsimp only;rw[hlen];lia,?_⟩
 refine(n4 (λG'=>Fd r G3 G') (λσ=>∃u,σ= [u,some (.int ((d+1:Nat):Int)),some (.ref r)]) (λ_ y=>∃c,y=enC (d+1) c/\DC (d+1) c) (λ_ _=>rfl) _ _ _ ⟨none,rfl⟩ (Fd.refl f3.2.2) ?_).mono ?_
 · intro x hx σ G4 WR f4
   obtain⟨u,rfl⟩:=WR
   refine d8 rfl ⟨rfl,⟨_,rfl⟩,?_⟩
   refine m6 (by show some (Except.ok [D.ref r,.int (((d+1:Nat):Int)-1)],G4)=_;rw[FO]) rfl<| (ih G4 r f4.2.2).mono ?_
   rintro y G5 ⟨f5,c,e,hc⟩
   exact⟨f4.trans f5,c,e,hc⟩
 · rintro ys G4 ⟨f4,zs,e1,rfl,hz⟩
   obtain⟨fs,e2,e3,e4⟩:=rA (P:=λ_ c=>DC (d+1) c) zs hz
   rw[e2]
   have hl:fs.length=q:=by rw[e3,<-zg,e1,hlen]
   have hf:∀a∈fs,DC (d+1) a:=λa ha=>by
    obtain⟨i,hi,rfl⟩:=jS.mp ha
    have hi':i<(zs.map (·.1)).length:=by rw[zg,<-e3];exact hi
    exact e4 i fs[i] _ (zi hi) (zi hi')
   have f5:Fd r G4 (G4++[.lst (fs.map (enC (d+1)))]):=Fd.app f4.2.2
   generalize hG:G4++[DO.lst (fs.map (enC (d+1)))]=G5 at *
   have e5:G5[G4.length]? =some (.lst (fs.map (enC (d+1)))):=by rw[<-hG];exact j7
   have hc:N7 (y0 0) (m7 (c7 neD (b8 0) (x0 (fnX 0 J8) g0))) (b8 0) (ckO G4.length (.lst (fs.map (enC (d+1))))) (fs.map (enC (d+1))) (U9 [none] [some (.ref r),some (.int ((d+1:Nat):Int)),some (.int (k:Int)),some (enC (d+1) m),some (.ref G4.length)]) G5=some (.ok ((fs.map (enC (d+1))).filter λx=> !(eqN 40 G5 x F0).getD false),G5):=by
    refine U8 (D6 e5) (λσ=>∃u,σ= [u]) _ _ ⟨_,rfl⟩ λx hx σ WR=>?_
    obtain⟨a,ha,rfl⟩:=zI.mp hx
    obtain⟨u,rfl⟩:=WR
    obtain⟨b,e,_⟩:=IC (by lia) G5 a (cD d)
    refine⟨[some (enC (d+1) a)],rfl,⟨_,rfl⟩,X6 (K4<| J4 rfl rfl<| cA.mpr ⟨b,e,_,rfl,?_,rfl⟩),rfl⟩
    rw[show eqN 40 G5 (enC (d+1) a) F0=some b from e]
    rfl
   refine J1<| S7.mpr<| m9<| N8<| m9<| wp_comp.mpr<| wp_itW.mpr<| d8 rfl<| (P6 e5).mpr ⟨by have:=big;rw[zg,hl];lia,d8 hc<| m8.mpr<| (K8 j7).mpr<| d8 rfl ⟨sz,?_⟩⟩
   have ef:((fs.map (enC (d+1))).filter λx=> !(eqN 40 G5 x F0).getD false)= (fs.filter λa=> !(eqN 40 G5 (enC (d+1) a) F0).getD false).map (enC (d+1)):=by rw[xY];rfl
   rw[ef]
   refine v9 ⟨(f1.trans (f2.trans (f3.trans (f4.trans f5)))).trans (Fd.app f5.2.2),some (_,m),rfl,?_,?_⟩
   · rintro _ _ ⟨⟩
     refine⟨hm.1,λa ha=>?_⟩
     obtain⟨h1,h2⟩:=jw.mp ha
     refine⟨(hf a h1).1,ji λz=>?_⟩
     obtain⟨b,e,hb⟩:=kC (by lia) G5 a (hf a h1).1
     rw[e]at h2
     have:b=true:=hb.mpr λv k=>z ⟨v,k⟩
     rw[this]at h2
     cases h2
   · rintro _ _ ⟨⟩
     exact⟨by have:=yf (λa=> !(eqN 40 G5 (enC (d+1) a) F0).getD false) fs;lia,hm.2,λa ha=>(hf a (jw.mp ha).1).2⟩
end
def OkP(n:Nat)(w:Pt (CS n)):Prop:=GdP (inC n) (Gd n) w/\SzP (SzC n 6) 6 w
theorem gZ(n:Nat):OkP n (S2 _):=⟨(LF n).1.1,(LF n).2 _ rfl⟩
theorem Sk(n:Nat):OkP n (evP n):=⟨⟨gL,.nil,(show [false,true]∈B4 by decide),eK.1,bJ.1⟩,⟨(by decide: [((none:Option Int),(none:Option Int))].length<=6),zQ _,λ_ h=>(nomatch h),eK.2,bJ.2⟩⟩
def cnd(i:Int)(f:Fe):DSt->M Bool:=(orT (m7 (c7 eqD (b8 4) (cE (.int i)))) (D0 (K1 (b8 6)) (m7 (c7 eqD f (cE (.int 0))))))
def SS(d r p:Nat)(u:Option D)(a:Int)(s:Nat)(o:Bool):DSt:= [some (.ref r),some (.int (d:Int)),u,some (.ref p),some (.int a),some (.int (s:Int)),some (.bl o)]
section
theorem UC(hf:∀ {Q},(∀j:Int,Q (.int j) G)->Wp (f (SS d r p u a s o)) G Q)(h:∀k,B k G):Wp (cnd i f (SS d r p u a s o)) G B:=
 P8<| K4<| bin_w<| d8 rfl<| d8 rfl<| U0.mpr ⟨_,rfl,λ_=>h true,λ_=>i9<| fB.mpr<| d8 rfl<| W3.mpr ⟨λ_=>K4<| bin_w<| hf λj=>d8 rfl<| U0.mpr ⟨_,rfl,h _⟩,λ_=>h false⟩⟩
theorem Lv(hc:0<c)(q:∀j:Int,Q (.int j) G):Wp ((c7 K5 (b8 5) (cE (.int c))) (SS d r p u a s o)) G Q:=J4 rfl rfl<| (u6 hc).mpr (q _)
theorem mds(hb:0<b/\b<2 ^ 100)(hc:0<c)(q:Q (.int ((s:Int) / b % c)) G):Wp ((c7 K5 (c7 M9 (b8 5) (cE (.int b))) (cE (.int c))) (SS d r p u a s o)) G Q:=bin_w<| J4 rfl rfl<| (M7 hb).mpr<| d8 rfl<| (u6 hc).mpr q
def PI(d r p:Nat)(u:Option D)(a:Int)(s:Nat)(o:Bool)(G:DH)(fl:Fl)(G':DH):Prop:=Fd2 r p G G'/\fl= .nx (SS d r p u a s o)/\∃w,G'[p]? =some (.lst (fiv (enC d) w))/\OkP d w
theorem stay(h:Dr G r)(e:G[p]? =some (.lst (fiv (enC d) w)))(ok:OkP d w):PI d r p u a s o G (.nx (SS d r p u a s o)) G:=⟨(Fd.refl h).two,rfl,w,e,ok⟩
theorem sD(hp:p≠r)(f1:Fd r G G1)(e:G[p]? =some (.lst (fiv (enC d) w)))(hj:ixN 5 i=some j)(hd:(fiv (enC d) w).set j x=fiv (enC d) w')(ok:OkP d w'):Wp (D2 (b8 3) (cE (.int i)) x (SS d r p u a s o)) G1 λσ G2=>PI d r p u a s o G (.nx σ) G2:=by
 have e1:=f1.at hp e
 refine TJ rfl rfl e1 hj ?_
 rw[hd]
 exact⟨f1.two.trans (Fd2.set hp f1.2.2),rfl,w',zN (lt_of_get e1),ok⟩
def I0:Fs:=(ifS (cnd 0 (c7 K5 (b8 5) (cE (.int 2)))) (u9 (x0 (fnX 1 T6) (d0 (b8 0) g0)) (D2 (b8 3) (cE (.int 0)))) o9)
def I1:Fs:=(ifS (cnd 1 (c7 K5 (c7 M9 (b8 5) (cE (.int 2))) (cE (.int 3)))) (u9 (M4 (d0 (c7 ixD (R7 (d0 (cE (.str ("of" :Str))) (d0 (cE (.str ("but" :Str))) g0))) (c7 K5 (c7 M9 (b8 5) (cE (.int 6))) (cE (.int 2)))) (d0 (x0 (fnX 1 BB) (d0 (b8 0) g0)) g0))) (D2 (b8 3) (cE (.int 1)))) o9)
def I2:Fs:=(ifS (cnd 2 (c7 K5 (c7 M9 (b8 5) (cE (.int 12))) (cE (.int 3)))) (u9 (c7 ixD (R7 (d0 (M4 g0) (d0 (M4 (d0 (cE (.bl false)) g0)) (d0 (M4 (d0 (cE (.bl true)) g0)) (d0 (M4 (d0 (cE (.bl false)) (d0 (cE (.bl true)) g0))) g0))))) (c7 K5 (c7 M9 (b8 5) (cE (.int 36))) (cE (.int 4)))) (D2 (b8 3) (cE (.int 2)))) o9)
def I3(R:List D->M D):Fs:=(ifS (cnd 3 (c7 K5 (c7 M9 (b8 5) (cE (.int 144))) (cE (.int 2)))) (u9 (x0 (fnX 2 R) (d0 (b8 0) (d0 (b8 1) g0))) (D2 (b8 3) (cE (.int 3)))) o9)
def I4:Fs:=(ifS (cnd 4 (c7 K5 (c7 M9 (b8 5) (cE (.int 288))) (cE (.int 2)))) (u9 (x0 (fnX 2 Z2) (d0 (b8 0) (d0 (b8 1) g0))) (D2 (b8 3) (cE (.int 4)))) o9)
theorem Rp(hp:p≠r)(h:Dr G r)(e:G[p]? =some (.lst (fiv (enC d) w)))(ok:OkP d w):Wp (I0 (SS d r p u a s o)) G (PI d r p u a s o G):=by
 refine C0<| UC (λq=>Lv (by decide) q) λk=>⟨λ_=>W6.mpr<| m6 rfl rfl<| (cK8 h).mono ?_,λ_=>t7.mpr (stay h e ok)⟩
 rintro _ G1 ⟨ns,rfl,cn,ln,f1⟩
 exact sD (w':={w with ns:=ns}) hp f1 e rfl rfl ⟨⟨cn,ok.1.ss,ok.1.bs,ok.1.ls,ok.1.rs⟩,⟨by dsimp only;lia,ok.2.ss,ok.2.tx,ok.2.ls,ok.2.rs⟩⟩
theorem Cm(hp:p≠r)(h:Dr G r)(e:G[p]? =some (.lst (fiv (enC d) w)))(ok:OkP d w):Wp (I1 (SS d r p u a s o)) G (PI d r p u a s o G):=by
 refine C0<| UC (λq=>mds ⟨by decide,by decide⟩ (by decide) (q _)) λk=>⟨λ_=>?_,λ_=>t7.mpr (stay h e ok)⟩
 have f0:Fd r G (G++[.lst [.str wOf,.str DJ]]):=Fd.app h
 refine W6.mpr<| S7.mpr<| m9<| bin_w<| T2.mpr<| d8 rfl ⟨sz,mds ⟨by decide,by decide⟩ (by decide)<| (L6 j7).mpr ?_⟩
 have hd:∃b:Bool,atI [D.str wOf,.str DJ] ((s:Int) / 6 % 2)=some (.str (wrd b)):=by
  have a1:0<=(s:Int) / 6 % 2:=jf _ (by decide)
  have a2:(s:Int) / 6 % 2<2:=jd _ (by decide)
  rcases (show (s:Int) / 6 % 2=0\/(s:Int) / 6 % 2=1 by lia)with z|z
  ·exact⟨true,by rw[z];rfl⟩
  ·exact⟨false,by rw[z];rfl⟩
 obtain⟨b,hb⟩:=hd
 refine⟨_,hb,m9<| m6 rfl rfl<| (PM f0.2.2).mono ?_⟩
 rintro _ G1 ⟨ss,rfl,rs,ls,f1⟩
 exact m8.mpr ⟨sz,sD (w':={w with b:=b,ss:=ss}) hp (f0.trans f1) e rfl rfl ⟨⟨ok.1.ns,rs.ris,ok.1.bs,ok.1.ls,ok.1.rs⟩,⟨ok.2.ns,by dsimp only;lia,rs.tx,ok.2.ls,ok.2.rs⟩⟩⟩
theorem fK0(hp:p≠r)(h:Dr G r)(e:G[p]? =some (.lst (fiv (enC d) w)))(ok:OkP d w):Wp (I2 (SS d r p u a s o)) G (PI d r p u a s o G):=by
 refine C0<| UC (λq=>mds ⟨by decide,by decide⟩ (by decide) (q _)) λk=>⟨λ_=>?_,λ_=>t7.mpr (stay h e ok)⟩
 have f0:Fd r G (G++[.lst (B4.map λl=>.tup (l.map D.bl))]):=Fd.app h
 refine W6.mpr<| bin_w<| T2.mpr<| d8 rfl ⟨sz,mds ⟨by decide,by decide⟩ (by decide)<| (L6 j7).mpr ?_⟩
 obtain⟨d,hd,ed⟩:=pF (l:=B4.map λl=>.tup (l.map D.bl)) (jf _ (by decide)) (jd _ (by decide))
 obtain⟨l,hl,rfl⟩:=zI.mp hd
 exact⟨_,ed,sD (w':={w with bs:=l}) hp f0 e rfl rfl ⟨⟨ok.1.ns,ok.1.ss,hl,ok.1.ls,ok.1.rs⟩,⟨ok.2.ns,ok.2.ss,ok.2.tx,ok.2.ls,ok.2.rs⟩⟩⟩
def LAt(d:Nat)(R:List D->M D):Prop:=∀(G:DH) (r:Nat),Dr G r->Wp (R [.ref r,.int (d:Int)]) G λx G'=>Fd r G G'/\∃b,x=lsD (enC d) b/\LOk d b
theorem eY(h:Dr G r):Wp (Z2 [.ref r,.int 0]) G λx G'=>Fd r G G'/\∃b,x=rcD (enC 0) b/\ROk 0 b:=by
 refine J6 (show Wp (uF [some (.ref r),some (.int 0),none,none,none,none,none,none]) G _ from ?_)
 unfold uF
 refine j6.mpr<| K9<| m6 rfl rfl<| W7 h λk G1 f1=>j6.mpr ?_
 refine C0<| P8<| K4<| J4 (x:=.int 0) (y:=.int 0) rfl rfl<| U0.mpr ⟨_,rfl,λ_=>⟨λ_=>?_,λz=>nomatch z⟩,λz=>nomatch z⟩
 refine J1<| bin_w<| T2.mpr<| d8 rfl ⟨sz,bin_w<| J4 (x:=.int (k:Int)) (y:=.int 8) rfl rfl<| (M7 ⟨by decide,by decide⟩).mpr<| d8 (a:=.int 2) rfl<| (u6 (by decide)).mpr<| (L6 j7).mpr ?_⟩
 obtain⟨b,hb,ob⟩:=nY (n:=0)
 exact⟨_,hb,v9 ⟨f1.trans (Fd.app f1.2.2),b,rfl,ob⟩⟩
theorem fL0(ih:LAt d R)(hp:p≠r)(h:Dr G r)(e:G[p]? =some (.lst (fiv (enC d) w)))(ok:OkP d w):Wp (I3 R (SS d r p u a s o)) G (PI d r p u a s o G):=by
 refine C0<| UC (λq=>mds ⟨by decide,by decide⟩ (by decide) (q _)) λk=>⟨λ_=>W6.mpr<| m6 rfl rfl<| (ih _ _ h).mono ?_,λ_=>t7.mpr (stay h e ok)⟩
 rintro _ G1 ⟨f1,b,rfl,ob⟩
 exact sD (w':={w with ls:=b}) hp f1 e rfl rfl ⟨⟨ok.1.ns,ok.1.ss,ok.1.bs,ob.1,ok.1.rs⟩,⟨ok.2.ns,ok.2.ss,ok.2.tx,ob.2,ok.2.rs⟩⟩
theorem Sm(hp:p≠r)(h:Dr G r)(e:G[p]? =some (.lst (fiv (enC 0) w)))(ok:OkP 0 w):Wp (I4 (SS 0 r p u a s o)) G (PI 0 r p u a s o G):=by
 refine C0<| UC (λq=>mds ⟨by decide,by decide⟩ (by decide) (q _)) λk=>⟨λ_=>W6.mpr<| m6 rfl rfl<| (eY h).mono ?_,λ_=>t7.mpr (stay h e ok)⟩
 rintro _ G1 ⟨f1,b,rfl,ob⟩
 exact sD (w':={w with rs:=b}) hp f1 e rfl rfl ⟨⟨ok.1.ns,ok.1.ss,ok.1.bs,ok.1.ls,ob.1⟩,⟨ok.2.ns,ok.2.ss,ok.2.tx,ok.2.ls,ob.2⟩⟩
theorem pW(h6:d<=6)(e:G[p]? =some (.lst (fiv (enC d) w)))(ok:OkP d w):Wp (I5 (SS d r p u a s o)) G λfl G'=>∃c,fl= .rt (enC (d+1) c)/\DC (d+1) c/\G'=G:=by
 refine j6.mpr<| C0<| K4<| bin_w<| N3 rfl<| (K8 e).mpr<| m6 rfl rfl<| d8 OO<| NH (fK (by lia) G ok.1) (λ_=>⟨_,rfl,λ_=>?_,λz=>nomatch z⟩) (λhn=>⟨_,rfl,λz=>(nomatch z),λ_=>t7.mpr ?_⟩)
 ·exact J1<| d8 rfl ⟨none,rfl,BQ (d+1),rfl⟩
 ·exact J1<| N3 rfl<| (K8 e).mpr ⟨some w,rfl,⟨⟨ok.1,hn⟩,by rintro _ ⟨⟩;exact ok.2⟩,rfl⟩
end
theorem wd:EF R=j8 (u9 (x0 (fnX 1 v7) (d0 (b8 0) g0)) (y0 2)) (j8 (ifS (m7 (c7 ltD (c7 K5 (b8 2) (cE (.int 8))) (cE (.int 2)))) (o4 (c7 ixD (R7 (d0 (cE (.str ("any" :Str))) (d0 (x0 (fnX 0 J8) g0) g0))) (c7 K5 (b8 2) (cE (.int 8))))) o9) (j8 (u9 (x0 EA (d0 (c7 ixD (R7 (d0 (x0 (fnX 0 J8) g0) (d0 (x0 (fnX 0 qB) g0) g0))) (x0 lA (d0 (c7 eqD (c7 K5 (b8 2) (cE (.int 8))) (cE (.int 2))) g0))) g0)) (y0 3)) (j8 (u9 (c7 K5 (c7 M9 (b8 2) (cE (.int 8))) (cE (.int 5))) (y0 4)) (j8 (u9 (c7 M9 (b8 2) (cE (.int 40))) (y0 5)) (j8 (u9 (c7 gtD (c7 K5 (b8 2) (cE (.int 8))) (cE (.int 2))) (y0 6)) (j8 I0 (j8 I1 (j8 I2 (j8 (I3 R) (j8 I4 I5)))))))))):=rfl
theorem DU(ih:LAt 0 R):DAt 0 (S8 R):=λG r h=>by
 refine J6 (show Wp (EF R [some (.ref r),some (.int 0),none,none,none,none,none]) G _ from ?_)
 rw[wd]
 refine j6.mpr<| K9<| m6 rfl rfl<| W7 h λk G1 f1=>?_
 have a1:0<=(k:Int) % 8:=jf _ (by decide)
 refine j6.mpr<| C0<| K4<| bin_w<| J4 rfl rfl<| (u6 (by decide)).mpr<| d8 rfl<| pB.mpr ⟨_,rfl,λhk=>?_,λ_=>t7.mpr ?_⟩
 · have hk:(k:Int) % 8<2:=of_decide_eq_true hk
   refine J1<| bin_w<| T2.mpr<| R0 rfl<| m9<| m6 rfl rfl<| d8 UJ<| m8.mpr ⟨sz,J4 rfl rfl<| (u6 (by decide)).mpr<| (L6 j7).mpr ?_⟩
   rcases (show (k:Int) % 8=0\/(k:Int) % 8=1 by lia)with z|z
   ·rw[z];exact⟨.str E2,rfl,v9 ⟨f1.trans (Fd.app f1.2.2),none,rfl,BQ 1⟩⟩
   ·rw[z];exact⟨F0,rfl,v9 ⟨f1.trans (Fd.app f1.2.2),cD 0,rfl,LF 0⟩⟩
 · refine j6.mpr<| K9<| N8<| m9<| bin_w<| T2.mpr<| m9<| m6 rfl rfl<| d8 UJ<| m9<| m6 rfl rfl<| d8 OO<| m8.mpr ⟨sz,N8<| m9<| bin_w<| J4 rfl rfl<| (u6 (by decide)).mpr<| d8 rfl<| U0.mpr<| m8.mpr ?_⟩
   have f2:Fd r G1 (G1++[.lst [F0,evD]]):=Fd.app f1.2.2
   have hd:∃(i:Int) (w:Pt (CS 0)),OkP 0 w/\lA [.bl (decide ((k:Int) % 8=2))]=pure (.int i)/\atI [F0,evD] i=some (.tup (fiv (enC 0) w)):=by
    by_cases z:(k:Int) % 8=2
    ·rw[decide_eq_true z];exact⟨1,evP 0,Sk 0,rfl,by rw[show D.tup (fiv (enC 0) (evP 0))=evD from oM];rfl⟩
    ·rw[decide_eq_false z];exact⟨0,S2 _,gZ 0,rfl,rfl⟩
   obtain⟨i,w,ok,ei,ew⟩:=hd
   rw[ei]
   refine m5.mpr<| (L6 j7).mpr ⟨_,ew,m8.mpr<| LU.mpr ?_⟩
   have f3:Fd r (G1++[.lst [F0,evD]]) (G1++[.lst [F0,evD]]++[.lst (fiv (enC 0) w)]):=Fd.app f2.2.2
   have hp:(G1++[DO.lst [F0,evD]]).length≠r:=by have:=f2.2.2.lt;lia
   have fq:Fd r G _:=f1.trans (f2.trans f3)
   have hq:G.length<=(G1++[DO.lst [F0,evD]]).length:=(f1.trans f2).1
   generalize hpp:(G1++[DO.lst [F0,evD]]).length=p at *
   have e3:(G1++[.lst [F0,evD]]++[.lst (fiv (enC 0) w)])[p]? =some (.lst (fiv (enC 0) w)):=by rw[<-hpp];exact j7
   generalize G1++[.lst [F0,evD]]++[.lst (fiv (enC 0) w)]=G3 at *
   refine j6.mpr<| K9<| bin_w<| J4 rfl rfl<| (M7 ⟨by decide,by decide⟩).mpr<| d8 rfl<| (u6 (by decide)).mpr ?_
   refine j6.mpr<| K9<| J4 rfl rfl<| (M7 ⟨by decide,by decide⟩).mpr ?_
   refine j6.mpr<| K9<| bin_w<| J4 rfl rfl<| (u6 (by decide)).mpr<| d8 rfl<| wQ.mpr ?_
   rw[show (k:Int) / 40= ((k / 40:Nat):Int) by lia]
   refine j6.mpr<| (Rp hp fq.2.2 e3 ok).mono ?_
   rintro _ G4 ⟨g4,rfl,w4,e4,ok4⟩
   refine j6.mpr<| (Cm hp g4.2.2 e4 ok4).mono ?_
   rintro _ G5 ⟨g5,rfl,w5,e5,ok5⟩
   refine j6.mpr<| (fK0 hp g5.2.2 e5 ok5).mono ?_
   rintro _ G6 ⟨g6,rfl,w6,e6,ok6⟩
   refine j6.mpr<| (fL0 ih hp g6.2.2 e6 ok6).mono ?_
   rintro _ G7 ⟨g7,rfl,w7,e7,ok7⟩
   refine j6.mpr<| (Sm hp g7.2.2 e7 ok7).mono ?_
   rintro _ G8 ⟨g8,rfl,w8,e8,ok8⟩
   refine(pW (by decide) e8 ok8).mono ?_
   rintro _ G9 ⟨c,rfl,hc,rfl⟩
   exact v9 ⟨fq.thru ((((g4.trans g5).trans g6).trans g7).trans g8) hq,c,rfl,hc⟩
theorem sT:LAt 0 (kB (n+1)):=λG r h=>pP (by decide) (λ_ e=>nomatch e) h
theorem SR:DAt 0 (S8 (kB (n+1))):=DU sT
theorem IS:LAt 1 (kB (n+2)):=λG r h=>pP (by decide) (λd' e=>by cases e;exact SR) h
def vM:D->Bool
 | .str s=>r9 (s.cps.getD 0 0)
 |_=>false
theorem dH6(z:Str):(c6 z).all vM=gI z:=by
 unfold c6 gI
 rw[xI]
 rfl
theorem TU(z:Str):(c6 z).length=z.length:=by
 unfold c6
 rw[zg]
 rfl
theorem vf{z:Str}{d:D}(h:d∈c6 z):∃c,d= .str ⟨#[c]⟩:=by
 unfold c6 at h
 obtain⟨c,_,rfl⟩:=zI.mp h
 exact⟨c,rfl⟩
theorem RZ{c:Nat}{G:DH}{Q:DPP}:Wp (leD (.str ("a" :Str)) (.str ⟨#[c]⟩)) G Q↔Q (.bl (decide (97<=c))) G:=by rw[QL,Fw]
theorem Kz{c:Nat}{G:DH}{Q:DPP}:Wp (leD (.str ⟨#[c]⟩) (.str ("z" :Str))) G Q↔Q (.bl (decide (c<=122))) G:=by rw[QL,Tg]
theorem Wh(c:Nat):vM (.str ⟨#[c]⟩)=r9 c:=rfl
theorem Mp{G:DH}{σ:DSt}{fs:DSt->M (List D)}{R:Src->DH->Prop}:Wp (iA fs σ) G R↔Wp (fs σ) G λxs G1=>Wp (match xs with
 |[a,b]=>do
   let s1 <-P2 a
   let s2 <-P2 b
   pure ⟨(s1.items.zip s2.items).map λp=>.tup [p.1,p.2],λG=>s1.ck G&&s2.ck G⟩
 |_=>M.stuck:M Src) G1 R:=by
 unfold iA;simp only[j9]<;>rfl
theorem vV{G:DH}{p q:Nat}{k l:List D}{R:Src->DH->Prop}(ep:G[p]? =some (.lst k))(eq:G[q]? =some (.lst l)):Wp (match [D.ref p,D.ref q] with
 |[a,b]=>do
   let s1 <-P2 a
   let s2 <-P2 b
   pure ⟨(s1.items.zip s2.items).map λp=>.tup [p.1,p.2],λG=>s1.ck G&&s2.ck G⟩
 |_=>M.stuck:M Src) G R↔R ⟨(k.zip l).map λp=>.tup [p.1,p.2],λG=>ckO p (.lst k) G&&ckO q (.lst l) G⟩ G:=by
 show Wp (do
  let s1 <-P2 (.ref p)
  let s2 <-P2 (.ref q)
  pure ⟨(s1.items.zip s2.items).map λp=>.tup [p.1,p.2],λG=>s1.ck G&&s2.ck G⟩:M Src) G R↔_
 simp only[j9]
 rw[MH (σ:= []) ep,MH (σ:= []) eq]
 exact m5
theorem B9{b a:Fe}{caps:List (Option Nat)}{σ:DSt}{s:Src}{G:DH}{Q:DPP}(S:DSt->Prop)(e:itW b σ G=some (.ok s,G))(hl:s.items.length<=zo)(hck:∀G',Ap G G'->s.ck G'=true)(hS:S (U9 caps σ))
 (h:∀d∈s.items,∀ WZ G1,S WZ->Ap G G1->S (WZ.set 0 (some d))/\Wp (a (WZ.set 0 (some d))) G1 λy G2=>y= .bl true/\Ap G1 G2) (q:∀G',Ap G G'->Q (.bl true) G'):
 Wp (x0 C1 (d0 (J5 (itW b) caps (y0 0) M5 a) g0) σ) G Q:=by
 refine N8<| m9<| wp_comp.mpr<| d8 e ⟨hl,(MF (Ap G) S (λ_=>.bl true) hck s.items _ G hS Ap.refl λd hd WZ G1 s1 j=>?_).mono ?_⟩
 · have:=h d hd WZ G1 s1 j
   exact wR this.1 (this.2.mono λy G2 q=>⟨j.trans q.2,q.1⟩)
 · rintro _ G2 ⟨j,rfl⟩
   refine m8.mpr ((bN (l:=s.items) (f:=λ_=>true) j7).mpr ?_)
   rw[yN.mpr λ_ _=>rfl]
   exact q _ (j.trans Ap.one)
def One(σ:DSt):Prop:=∃u,σ= [u]
theorem UX{z:Str}{G:DH}{Q:DPP}(h:Tx z)(q:∀G',Ap G G'->Q (.bl true) G'):Wp (tF [.str z]) G Q:=by
 have bg:=big
 refine J6<| J1<| ID.mpr<| d8 (a:=.bl true) rfl<| W3.mpr ?_
 rw[if_pos rfl]
 refine B9 One (s:=⟨c6 z,λ_=>true⟩) rfl (by show (c6 z).length<=_;rw[TU];have:=h.2;lia) (λ_ _=>rfl) ⟨_,rfl⟩ ?_ λG' a=>v9 (q G' a)
 rintro d hd _ G1 ⟨u,rfl⟩ j
 refine⟨⟨_,rfl⟩,?_⟩
 have hl:=yN.mp ((dH6 z).trans h.1) d hd
 obtain⟨c,rfl⟩:=vf hd
 rw[Wh]at hl
 have hl2:decide (97<=c)=true/\decide (c<=122)=true:=by
  unfold r9 at hl
  exact jp _ _▸hl
 refine HM.mpr<| d8 (a:=.str ("a" :Str)) rfl<| d8 (a:=.str ⟨#[c]⟩) rfl<| RZ.mpr ⟨_,rfl,?_⟩
 rw[if_pos hl2.1]
 refine d8 (a:=.str ("z" :Str)) rfl<| Kz.mpr ⟨?_,Ap.refl⟩
 rw[hl2.2]
theorem IH{α:Type}{R:α->α->Prop}:∀ {l:List α},l.Pairwise R->∀p∈l.zip (l.drop 1),R p.1 p.2
 |[],_,p,hp=>by cases hp
 |[x],_,p,hp=>by cases hp
 |x::y::r,h,p,hp=>by
   have h':=jb.mp h
   rcases zt.mp (show p∈(x,y)::(y::r).zip r from hp)with rfl|hp
   ·exact h'.1 _ (by simp)
   ·exact IH (l:=y::r) h'.2 p hp
def SqD(G:DH)(d:D)(l:List D):Prop:=d= .tup l\/∃p,d= .ref p/\G[p]? =some (.lst l)
theorem NP{d:D}{l:List D}{e:Fe}{G:DH}{Q:DPP}(hd:SqD G d l)(hl:l.length<=10000)
 (h:∀p∈l.zip (l.drop 1),∀G1,Ap G G1->Wp (e [some p.1,some p.2]) G1 λy G2=>y= .bl true/\Ap G1 G2) (q:∀G',Ap G G'->Q (.bl true) G'):
 Wp (x0 C1 (d0 (J5 (iA (d0 (b8 0) (d0 (B5 (b8 0) (N2 (cE (.int 1))) (y6)) g0))) [none,none] (A4 2 (T3 (y0 0) (T3 (y0 1) (y4)))) M5 e) g0) [some d]) G Q:=by
 have bg:=big
 have hz:(l.zip (l.drop 1)).length<=zo:=by rw[ZK];lia
 have main:∀(ck:DH->Bool) (G0:DH),Ap G G0->(∀G',Ap G0 G'->ck G'=true)->Wp (N7 (A4 2 (T3 (y0 0) (T3 (y0 1) (y4)))) M5 e ck ((l.zip (l.drop 1)).map λp=>.tup [p.1,p.2]) [none,none]) G0 λys G2=>Wp (g0 [some d]) (G2++[.lst ys]) λxs G3=>Wp (C1 (.ref G2.length::xs)) G3 Q:=by
  intro ck G0 j0 hck
  refine(MF (Ap G0) (λσ=>∃u v,σ= [u,v]) (λ_=>.bl true) hck _ _ G0 ⟨_,_,rfl⟩ Ap.refl ?_).mono ?_
  · rintro d hd _ G1 ⟨u,v,rfl⟩ j
    obtain⟨p,hp,rfl⟩:=zI.mp hd
    exact d8 (a:= [some p.1,some p.2]) rfl ⟨rfl,⟨_,_,rfl⟩,d8 (a:=true) rfl ⟨rfl,rfl,(h p hp G1 (j0.trans j)).mono λy G2 q=>⟨j.trans q.2,q.1⟩⟩⟩
  · rintro _ G2 ⟨j,rfl⟩
    refine m8.mpr ((bN (l:=(l.zip (l.drop 1)).map λp=>.tup [p.1,p.2]) (f:=λ_=>true) j7).mpr ?_)
    rw[yN.mpr λ_ _=>rfl]
    exact q _ ((j0.trans j).trans Ap.one)
 refine N8<| m9<| wp_comp.mpr ?_
 rcases hd with rfl|⟨p,rfl,ep⟩
 · refine d8 (a:=⟨(l.zip (DL.cutD l (some 1) none)).map λp=>.tup [p.1,p.2],λ_=>true&&true⟩) (G':=G) rfl ?_
   rw[kM]
   exact⟨by rw[zg];exact hz,main _ G Ap.refl λ_ _=>rfl⟩
 · refine Mp.mpr<| R0 (x:=.ref p) rfl<| m9<| Nd.mpr<| d8 (a:=.ref p) rfl<| UM.mpr<| d8 (a:=.int 1) rfl ⟨1,rfl,aT.mpr<| (Rb ep).mpr<| m8.mpr<| (vV (O9 ep) j7).mpr ?_⟩
   rw[kM]
   refine⟨by rw[zg];exact hz,main _ _ Ap.one λG' j=>?_⟩
   have h1:=j.at (O9 ep)
   have h2:=j.at (j7 (G:=G) (o:=DO.lst (l.drop 1)))
   simp only[ckO,h1,h2]
   simp
theorem EZ{G:DH}{a b:Str}:ltN 40 G (c5 (.str a)) (c5 (.str b))=some (txB a b):=by
 show ltL (eqN 39 G) (ltN 39 G) [.int a.length,.str a] [.int b.length,.str b]=_
 have e1:eqN 39 G (.int a.length) (.int b.length)=some (decide ((a.length:Int)=b.length)):=rfl
 have e2:eqN 39 G (.str a) (.str b)=some (a==b):=rfl
 unfold txB
 unfold ltL
 rw[e1]
 by_cases h:a.length=b.length
 · have h':((a.length:Int)=b.length):=by lia
   rw[if_pos h]
   simp only[h',decide_true]
   unfold ltL
   rw[e2]
   by_cases k:a=b
   · subst k
     simp[ltL,ZZ]
   · have k':(a==b)=false:=by simpa using k
     rw[k']
     rfl
 · have h':¬((a.length:Int)=b.length):=by lia
   rw[if_neg h]
   simp only[h',decide_false]
   show some (decide ((a.length:Int)<b.length))=_
   congr 1
   by_cases k:a.length<b.length
   ·rw[decide_eq_true k,decide_eq_true (by lia)]
   ·rw[decide_eq_false k,decide_eq_false (by lia)]
theorem HJ{d:D}{l:List D}{G:DH}{Q:DPP}(hd:SqD G d l)(hl:l.length<=10000)(h:l.Pairwise λa b=>∀G,ltN 40 G a b=some true)(q:∀G',Ap G G'->Q (.bl true) G'):Wp (uB [d]) G Q:=
 J6<| J1<| NP hd hl (λp hp G1 j=>bin_w<| d8 rfl<| d8 rfl<| BI.mpr ⟨true,IH h p hp G1,rfl,Ap.refl⟩) λG' a=>v9 (q G' a)
theorem Dc{ts:List Str}(h:Ris ts):((ts.map D.str).map c5).Pairwise λa b=>∀G,ltN 40 G a b=some true:=by
 rw[xp]
 exact xi.mpr (h.imp λ{a b} q G=>EZ.trans (by rw[q]))
theorem Lx{tr:List Bool}(h:tr∈B4):(tr.map D.bl).Pairwise λa b=>∀G,ltN 40 G a b=some true:=by
 simp only[B4,zt,zS,or_false]at h
 rcases h with rfl|rfl|rfl|rfl
 ·exact .nil
 ·exact yM _ _
 ·exact yM _ _
 ·exact jb.mpr ⟨λy hy G=>(by rw[zC.mp hy];rfl),yM _ _⟩
theorem cP7{tr:List Bool}{G:DH}{Q:DPP}(h:tr∈B4)(q:∀G',Ap G G'->Q (.bl true) G'):Wp (gG [.tup (tr.map D.bl)]) G Q:=by
 have hl:tr.length<=2:=(show ∀a∈B4,a.length<=2 by decide) _ h
 have bg:=big
 refine J6<| J0 (X1:= [some (.tup (tr.map D.bl))]) rfl<| J1<| tL<| B9 One (s:=⟨tr.map D.bl,λ_=>true⟩) rfl (by show (tr.map D.bl).length<=_;rw[zg];lia) (λ_ _=>rfl) ⟨_,rfl⟩ ?_ λG' a=>⟨rfl,m6 (as:= [.tup (tr.map D.bl)]) rfl rfl<| HJ (.inl rfl) (by rw[zg];lia) (Lx h) λG2 a2=>v9 (q G2 (a.trans a2))⟩
 rintro d hd _ G1 ⟨u,rfl⟩ j
 obtain⟨b,_,rfl⟩:=zI.mp hd
 exact⟨⟨_,rfl⟩,d8 (a:=.bl true) rfl ⟨rfl,Ap.refl⟩⟩
theorem FU{w:Bool}{ts:List Str}{G:DH}{Q:DPP}(h1:∀z∈ts,Tx z)(h:Ris ts)(hl:ts.length<=100)(q:∀G',Ap G G'->Q (.bl true) G'):Wp (LG [S0 w ts]) G Q:=by
 have bg:=big
 refine J6<| J0 (X1:= [some (S0 w ts)]) (G':=G) (by cases w<;>rfl)<| j6.mpr<| wB<| r6<| B9 One (s:=⟨ts.map D.str,λ_=>true⟩) rfl (by show (ts.map D.str).length<=_;rw[zg];lia) (λ_ _=>rfl) ⟨_,rfl⟩ ?_ λG' a=>⟨rfl,rfl,t7.mpr ?_⟩
 · rintro d hd _ G1 ⟨u,rfl⟩ j
   obtain⟨z,hz,rfl⟩:=zI.mp hd
   exact⟨⟨_,rfl⟩,m6 (as:= [.str z]) rfl rfl<| UX (h1 z hz) λG2 a2=>⟨rfl,a2⟩⟩
 · refine J1<| N8<| m9<| A7 (l:=ts.map D.str) (G1:=G') rfl (by rw[zg];lia)<| (MF (λG2=>G2=G') One c5 (λ_ _=>rfl) _ _ G' ⟨_,rfl⟩ rfl ?_).mono ?_
   · rintro d hd _ _ ⟨u,rfl⟩ rfl
     obtain⟨z,hz,rfl⟩:=zI.mp hd
     exact wR ⟨_,rfl⟩ (m6 (as:= [.str z]) rfl rfl<| (EL (by have:=(h1 z hz).2;lia)).mpr ⟨rfl,rfl⟩)
   · rintro _ _ ⟨rfl,rfl⟩
     exact m8.mpr<| V7.mpr ⟨rfl,HJ (.inr ⟨_,rfl,j7⟩) (by rw[zg,zg];lia) (Dc h) λG2 a2=>v9 (q G2 ((a.trans Ap.one).trans a2))⟩
theorem Pz{p:Rg}(h:okR p):Wp (SG [rD p]) G λy G2=>y= .bl true/\Ap G G2:=by
 obtain⟨a,b⟩:=p
 rcases a with _|a<;>rcases b with _|b
 ·exact d8 (a:=.bl true) rfl ⟨rfl,Ap.refl⟩
 ·exact d8 (a:=.bl true) rfl ⟨rfl,Ap.refl⟩
 ·exact d8 (a:=.bl true) rfl ⟨rfl,Ap.refl⟩
 · refine d8 (a:=.bl (!decide (a>b))) rfl ⟨?_,Ap.refl⟩
   rw[decide_eq_false (by have:=h a b rfl rfl;lia)];rfl
theorem cG4{p r:Rg}(h:QF p r):Wp (NF [rD p,rD r]) G λy G2=>y= .bl true/\Ap G G2:=by
 obtain⟨p1,p2⟩:=p
 obtain⟨r1,r2⟩:=r
 obtain⟨a,b,rfl,rfl,hab⟩:=h
 refine J6<| J1<| RQ rfl<| RQ rfl<| bin_w<| d8 (a:=.int (a+1)) rfl<| d8 (a:=.int b) rfl<| BI.mpr ⟨decide (a+1<b),rfl,v9 ⟨?_,Ap.refl⟩⟩
 rw[decide_eq_true hab]
theorem FG{ns:List Rg}:(rsD ns).length=ns.length:=zg ..
theorem VS{ns:List Rg}{G:DH}{Q:DPP}(h:Can ns)(hl:ns.length<=100)(q:∀G',Ap G G'->Q (.bl true) G'):Wp (nF [.tup (rsD ns)]) G Q:=by
 have bg:=big
 refine J6<| j6.mpr<| wB<| EG<| r6<| d8 (a:=.bl true) rfl ⟨rfl,rfl,r6<| B9 One (s:=⟨rsD ns,λ_=>true⟩) rfl (by show (rsD ns).length<=_;rw[FG];lia) (λ_ _=>rfl) ⟨_,rfl⟩ ?_ λG' a=>⟨rfl,rfl,t7.mpr ?_⟩⟩
 · rintro d hd _ G1 ⟨u,rfl⟩ j
   obtain⟨p,hp,rfl⟩:=zI.mp hd
   exact⟨⟨_,rfl⟩,m6 (as:= [rD p]) rfl rfl<| Pz (h.1 p hp)⟩
 · refine J1<| NP (l:=rsD ns) (.inl rfl) (by rw[FG];lia) (λp hp G1 j=>?_) λG2 a2=>v9 (q G2 (a.trans a2))
   unfold rsD at hp;rw[<-List.map_drop,List.zip_map,zI]at hp
   obtain⟨⟨x,y⟩,hxy,rfl⟩:=hp
   exact m6 (as:= [rD x,rD y]) rfl rfl<| cG4 (IH h.2 (x,y) hxy)
def GW(d:D):Prop:=∃n c,n<=6/\d=enC n c/\Gd n c/\SzC n 47 c
theorem LL{t u:DSt->M Bool}(e:t σ G=some (.ok true,G))(w:Wp (u σ) G λk G2=>k=true/\Wp (g σ) G2 P):Wp (ifS (D0 t (L1 u)) f g σ) G P:=
 C0<| i9<| d8 e ⟨λ_=>GK.mpr (w.mono λk G2 q=>by
  obtain⟨rfl,q⟩:=q
  exact⟨λz=>(by cases z),λ_=>q⟩),λz=>(by cases z)⟩
section
variable{n:Nat}{G:DH}{s:Pt (CS n)}
theorem vh(r:Option (List (CS n)×CS n)):bG [lsD (enC n) r] G=some (.ok (.bl true),G):=by
 rcases r with _|⟨fs,m⟩<;>rfl
theorem Nv(h:∀fs m,r=some (fs,m)->fs= [])(q:∀G',Ap G G'->Q (.bl true) G'):Wp (V6 [rcD (enC n) r]) G Q:=by
 rcases r with _|⟨fs,m⟩
 ·exact T5 rfl (q G Ap.refl)
 · cases h fs m rfl
   refine J6 (show Wp (V8 [some (.tup [.tup [],enC n m])]) G _ from ?_)
   unfold V8
   refine J0 (X1:= [some (.tup [.tup [],enC n m])]) (G':=G) rfl<| j6.mpr<| wB<| EG<| d8 (a:=true) (G':=G) rfl ⟨rfl,r6<| B9 One (s:=⟨[],λ_=>true⟩) rfl (zQ _) (λ_ _=>rfl) ⟨_,rfl⟩ (λ_ h=>nomatch h) λG1 a1=>⟨rfl,rfl,t7.mpr ?_⟩⟩
   refine J1<| N8<| m9<| m6 (as:= [.tup []]) rfl rfl<| d8 (a:=.ref G1.length) (G':=G1++[.lst []]) rfl<| m8.mpr<| V7.mpr ⟨rfl,HJ (.inr ⟨_,rfl,j7⟩) (zQ _) .nil λG2 a2=>v9 (q G2 ((a1.trans Ap.one).trans a2))⟩
theorem hU(g:GdP (inC n) (Gd n) s)(z:SzP (SzC n 47) 47 s)(q:∀G',Ap G G'->Q (.bl true) G'):Wp (mD [.tup (fiv (enC n) s)]) G Q:=by
 refine J6 (show Wp (GE [some (.tup (fiv (enC n) s))]) G _ from ?_)
 unfold GE
 have l1:=z.ns
 have l2:=z.ss
 refine J0 (X1:= [some (.tup (fiv (enC n) s))]) (G':=G) rfl<| J0 (X1:= [some (.tup (fiv (enC n) s))]) (G':=G) rfl ?_
 refine j6.mpr<| wB<| EG<| r6<| m6 (as:= [.tup (rsD s.ns)]) rfl rfl<| VS g.ns (by lia) λG1 a1=>⟨rfl,rfl,?_⟩
 refine EG<| r6<| m6 (as:= [S0 s.b s.ss]) rfl rfl<| FU z.tx g.ss (by lia) λG2 a2=>⟨rfl,rfl,?_⟩
 refine r6<| m6 (as:= [.tup (s.bs.map D.bl)]) rfl rfl<| cP7 g.bs λG3 a3=>⟨rfl,rfl,t7.mpr ?_⟩
 exact J1<| tL<| m6 (as:= [lsD (enC n) s.ls]) rfl rfl<| d8 (vh s.ls) ⟨rfl,m6 (as:= [rcD (enC n) s.rs]) rfl rfl<| Nv (λfs m e=>(z.rs fs m e).1) λG4 a4=>v9 (q G4 (a1.trans (a2.trans (a3.trans a4))))⟩
end
theorem GW.form(h:GW d)(q:∀G',Ap G G'->Q (.bl true) G'):Wp (mD [d]) G Q:=by
 obtain⟨n,c,_,rfl,g,z⟩:=h
 rcases n with _|n
 ·exact T5 rfl (q G Ap.refl)
 rcases c with _|s
 ·exact T5 rfl (q G Ap.refl)
 ·exact hU g.1 (z s rfl) q
theorem SK:qE=j8 (u9 (R7 g0) (y0 1)) (j8 (ifS (m7 (c7 eqD (b8 0) (cE (.str ("any" :Str))))) (o4 (b8 1)) o9) (j8 JL (j8 JR (o4 (b8 1))))):=rfl
theorem Ap.set{G0 G:DH}{p:Nat}{o:DO}(h:Ap G0 G)(hp:G0.length<=p):Ap G0 (G.set p o):=by
 obtain⟨t,rfl⟩:=h
 exact⟨t.set (p-G0.length) o,Jw _ _ hp⟩
section
variable{G G0:DH}{Q:DPP}{p:Nat}{l0:List D}
theorem pR{d:D}{a b:Fe}{fs:List D}{m:D}{G1:DH}{P:Fl->DH->Prop}(hA:Ap G0 G)(hp:G0.length<=p)(e:G[p]? =some (.lst l0))(hl:l0.length<=100)(hf:fs.length<=100)(ha:Wp (a [some d,some (.ref p)]) G λx G1=>x= .ref G.length/\G1=G++[.lst fs])(hb:∀G,b [some d,some (.ref p)] G=some (.ok m,G))(q:∀G',Ap G0 G'->G'[p]? =some (.lst (l0++(fs++[m])))->P (.nx [some d,some (.ref p)]) G'):
 Wp (F3 (mtE R5 wA (b8 1) (d0 (c7 T7 a (R7 (d0 b g0))) g0)) [some d,some (.ref p)]) G P:=by
 have bg:=big
 refine nA.mpr<| l6.mpr<| d8 (a:=.ref p) rfl<| (R1 e).mpr<| m9<| bin_w<| ha.mono ?_
 rintro _ _ ⟨rfl,rfl⟩
 refine T2.mpr<| R0 (hb _)<| m8.mpr ⟨sz,?_⟩
 refine(WG (O9 j7) j7 (by show fs.length+1<=_;lia)).mpr<| m8.mpr ?_
 have e3:(G++[DO.lst fs]++[DO.lst [m]]++[DO.lst (fs++[m])])[p]? =some (.lst l0):=O9 (O9 (O9 e))
 refine(nQ e3 j7 (by rw[zA];show l0.length+(fs.length+1)<=_;lia)).mpr ?_
 exact q _ (Ap.set (((hA.trans Ap.one).trans Ap.one).trans Ap.one) hp) (zN (lt_of_get e3))
def lk{n:Nat}(r:Option (List (CS n)×CS n)):List D:=match r with
 |none=> []
 |some (fs,m)=>fs.map (enC n)++[enC n m]
def rk{n:Nat}(r:Option (List (Str×Bool×CS n)×CS n)):List D:=match r with
 |none=> []
 |some (_,m)=> [enC n m]
theorem Rq{n:Nat}{s:Pt (CS n)}(z:SzP (SzC n 47) 47 s)(hA:Ap G0 G)(hp:G0.length<=p)(e:G[p]? =some (.lst []))(q:∀G',Ap G0 G'->G'[p]? =some (.lst (lk s.ls))->P (.nx [some (.tup (fiv (enC n) s)),some (.ref p)]) G'):Wp (JL [some (.tup (fiv (enC n) s)),some (.ref p)]) G P:=by
 obtain⟨ns,b,ss,bs,ls,rs⟩:=s
 rcases ls with _|⟨fs,m⟩
 ·exact oA (G1:=G) rfl<| t7.mpr (q G hA e)
 · have:=(z.ls fs m rfl).1
   exact A3 (G1:=G) rfl<| pR (G1:=G) (fs:=fs.map (enC n)) hA hp e (zQ _) (by rw[zg];lia) (d8 (a:=.ref G.length) (G':=G++[.lst (fs.map (enC n))]) rfl ⟨rfl,rfl⟩) (λ_=>rfl) q
theorem MY{n:Nat}{s:Pt (CS n)}(z:SzP (SzC n 47) 47 s)(hA:Ap G0 G)(hp:G0.length<=p)(e:G[p]? =some (.lst l0))(hl:l0.length<=100)(q:∀G',Ap G0 G'->G'[p]? =some (.lst (l0++rk s.rs))->P (.nx [some (.tup (fiv (enC n) s)),some (.ref p)]) G'):Wp (JR [some (.tup (fiv (enC n) s)),some (.ref p)]) G P:=by
 obtain⟨ns,b,ss,bs,ls,rs⟩:=s
 rcases rs with _|⟨fs,m⟩
 ·exact oA (G1:=G) rfl<| t7.mpr (q G hA (by show _=some (DO.lst (l0++[]));rw[yX];exact e))
 · cases (z.rs fs m rfl).1
   exact A3 (G1:=G) rfl<| pR (G1:=G) (fs:= []) hA hp e hl (zQ _) (d8 (a:=.ref G.length) (G':=G++[.lst []]) rfl ⟨rfl,rfl⟩) (λ_=>rfl) q
theorem szT(l:List D):szD (.tup l)=1+szL l:=by rw[szD]
theorem szC(d:D)(l:List D):szL (d::l)=szD d+szL l:=by rw[szL]
theorem szN:szL []=0:=by rw[szL]
theorem GW.inner(h:GW d)(q:∀p G' ks,Ap G G'->G.length<=p->G'[p]? =some (.lst ks)->(∀x∈ks,GW x)->szL ks<szD d->Q (.ref p) G'):Wp (MD [d]) G Q:=by
 obtain⟨n,c,hn,rfl,g,z⟩:=h
 have any:∀ {x:D},x= .str E2->Wp (MD [.str E2]) G Q:=λ{x} _=>by
  refine J6 (show Wp (qE [some (.str E2),none]) G _ from ?_)
  rw[SK]
  exact J0 (X1:= [some (.str E2),some (.ref G.length)]) (G':=G++[.lst []]) rfl<| cC (d:=.ref G.length) (G':=G++[.lst []]) rfl (v9 (q _ _ [] Ap.one (zn _) j7 (λ_ h=>nomatch h) (by rw[szN];exact aJ _)))
 rcases n with _|n
 ·exact any rfl
 rcases c with _|s
 ·exact any rfl
 have z:=z s rfl
 refine J6 (show Wp (qE [some (.tup (fiv (enC n) s)),none]) G _ from ?_)
 rw[SK]
 refine J0 (X1:= [some (.tup (fiv (enC n) s)),some (.ref G.length)]) (G':=G++[.lst []]) rfl<| J0 (X1:= [some (.tup (fiv (enC n) s)),some (.ref G.length)]) (G':=G++[.lst []]) rfl ?_
 refine j6.mpr<| Rq z Ap.one (zn _) j7 λG1 a1 e1=>?_
 have hl:(lk s.ls).length<=100:=by
  rcases hls:s.ls with _|⟨fs,m⟩
  ·exact zQ _
  · have:=(z.ls fs m hls).1
    show (fs.map (enC n)++[enC n m]).length<=100
    rw[zA,zg];simp;lia
 refine j6.mpr<| MY z a1 (zn _) e1 hl λG2 a2 e2=>?_
 refine J1<| d8 (a:=.ref G.length) (G':=G2) rfl (v9 (q _ _ _ a2 (zn _) e2 (λx hx=>?_) ?_))
 · rcases zW.mp hx with hx|hx
   · rcases hls:s.ls with _|⟨fs,m⟩
     ·rw[hls]at hx;cases hx
     · rw[hls]at hx
       have zl:=z.ls fs m hls
       have gl:=g.1.ls fs m hls
       rcases zW.mp hx with hx|hx
       · obtain⟨a,ha,rfl⟩:=zI.mp hx
         exact⟨n,a,by lia,rfl,(gl.2 a ha).1,zl.2.2 a ha⟩
       ·rw[zC.mp hx];exact⟨n,m,by lia,rfl,gl.1,zl.2.1⟩
   · rcases hrs:s.rs with _|⟨fs,m⟩
     ·rw[hrs]at hx;cases hx
     · rw[hrs]at hx
       rw[zC.mp hx];exact⟨n,m,by lia,rfl,(g.1.rs fs m hrs).1,(z.rs fs m hrs).2⟩
 · show szL (lk s.ls++rk s.rs)<szD (.tup [.tup (rsD s.ns),S0 s.b s.ss,.tup (s.bs.map D.bl),lsD (enC n) s.ls,rcD (enC n) s.rs])
   have k1:szL (lk s.ls)<=szD (lsD (enC n) s.ls):=by
    rcases s.ls with _|⟨fs,m⟩
    ·show szL []<=_;rw[szN];exact zQ _
    · show szL (fs.map (enC n)++[enC n m])<=szD (.tup [.tup (fs.map (enC n)),enC n m])
      rw[uC,szT,szC,szC,szC,szN,szT];lia
   have k2:szL (rk s.rs)<=szD (rcD (enC n) s.rs):=by
    rcases s.rs with _|⟨fs,m⟩
    ·show szL []<=_;rw[szN];exact zQ _
    · show szL [enC n m]<=szD (.tup [.tup (fs.map (fdE (enC n))),enC n m])
      rw[szT,szC,szC,szC,szN];lia
   rw[uC,szT,szC,szC,szC,szC,szC,szN];lia
end
theorem GW.one(h:GW d)(q:∀G',Ap G G'->Q (.bl true) G'):Wp (X8 [d]) G Q:=by
 have bg:=big
 obtain⟨n,c,hn,rfl,g,z⟩:=h
 rcases n with _|n
 ·exact T5 rfl (q G Ap.refl)
 rcases c with _|s
 ·exact T5 rfl (q G Ap.refl)
 have z:=z s rfl
 refine J6 (show Wp (lF [some (.tup (fiv (enC n) s))]) G _ from ?_)
 unfold lF
 refine J0 (X1:= [some (.tup (fiv (enC n) s))]) (G':=G) rfl ?_
 have last:∀G',Ap G G'->Wp (o4 (c7 neD (b8 0) (cE evD)) [some (.tup (fiv (enC n) s))]) G' (DL.PB Q):=λG' a=>by
  obtain⟨k,e,i⟩:=fK (by lia) G' g.1
  refine J1<| J4 (x:=.tup (fiv (enC n) s)) (y:=evD) rfl rfl<| cA.mpr ⟨k,e,?_⟩
  rcases k with _|_
  ·exact v9 (q G' a)
  ·exact absurd (i.mp rfl) g.2
 have two:∀G',Ap G G'->Wp (j8 (ifS (D0 (m7 (c7 Q1 (c7 ixD (b8 0) (cE (.int 4))) (cE .non))) (L1 (K1 (x0 C1 (d0 (J5 (itW (c7 ixD (c7 ixD (b8 0) (cE (.int 4))) (cE (.int 0)))) [none,some 0] (y0 0) M5 (F6)) g0))))) (o4 (cE (.bl false))) o9) (o4 (c7 neD (b8 0) (cE evD))) [some (.tup (fiv (enC n) s))]) G' (DL.PB Q):=λG' a=>by
  obtain⟨ns,b,ss,bs,ls,rs⟩:=s
  rcases rs with _|⟨fs,m⟩
  ·exact J0 (X1:= [_]) (G':=G') rfl (last G' a)
  · cases (z.rs fs m rfl).1
    exact j6.mpr<| LL rfl<| r6<| B9 (λσ=>∃u v,σ= [u,v]) (s:=⟨[],λ_=>true⟩) rfl (zQ _) (λ_ _=>rfl) ⟨_,_,rfl⟩ (λ_ h=>nomatch h) λG2 a2=>⟨rfl,rfl,t7.mpr (last G2 (a.trans a2))⟩
 obtain⟨ns,b,ss,bs,ls,rs⟩:=s
 rcases ls with _|⟨fs,m⟩
 ·exact J0 (X1:= [_]) (G':=G) rfl (two G Ap.refl)
 · have gl:=g.1.ls fs m rfl
   have zl:=(z.ls fs m rfl).1
   refine j6.mpr<| LL rfl<| r6<| B9 One (s:=⟨fs.map (enC n),λ_=>true⟩) rfl (by show (fs.map (enC n)).length<=_;rw[zg];lia) (λ_ _=>rfl) ⟨_,rfl⟩ ?_ λG2 a2=>⟨rfl,rfl,t7.mpr (two G2 a2)⟩
   rintro d hd _ G1 ⟨u,rfl⟩ j
   obtain⟨a,ha,rfl⟩:=zI.mp hd
   obtain⟨k,e,i⟩:=kC (by lia) G1 a (gl.2 a ha).1
   refine⟨⟨_,rfl⟩,J4 (x:=enC n a) (y:=F0) rfl rfl<| cA.mpr ⟨k,e,?_⟩⟩
   rcases k with _|_
   ·exact⟨rfl,Ap.refl⟩
   · obtain⟨v,hv⟩:=(gl.2 a ha).2
     exact absurd hv (i.mp rfl v)
def ZT:DSt->M Bool:=K1 (b8 2)
theorem fU7:aH=j8 (u9 (R7 g0) (y0 1)) (j8 (u9 (R7 (d0 (b8 0) g0)) (y0 2)) (j8 (i8 ZT (j8 Z1 (j8 V2 (j8 V3 V4)))) (o4 (x0 C1 (d0 (J5 (itW (b8 1)) [none] (y0 0) M5 (x0 (fnX 1 X8) (d0 (b8 0) g0))) g0))))):=rfl
theorem NM{p r:Nat}{x:Option D}{G0:DH}(hp:G0.length<=p)(hr:G0.length<=r)(hpr:p≠r):∀(fuel:Nat) (ws fd:List D) (u:Option D) (G:DH),Ap G0 G->G[p]? =some (.lst ws)->G[r]? =some (.lst fd)->szL ws<fuel->szL ws+fd.length<=1000000->(∀d∈ws,GW d)->(∀d∈fd,GW d)->
 Wp (S5 fuel ZT (j8 Z1 (j8 V2 (j8 V3 V4))) [x,some (.ref r),some (.ref p),u]) G λfl G'=>∃u' fd',fl= .nx [x,some (.ref r),some (.ref p),u']/\Ap G0 G'/\G'[r]? =some (.lst fd')/\(∀d∈fd',GW d)/\fd'.length<=1000000
 |0,ws,fd,u,G,_,_,_,hf,_,_,_=>absurd hf (Nat.not_lt_zero _)
 |fuel+1,ws,fd,u,G,hA,e,er,hf,hb,hw,hd=>by
   have bg:=big
   by_cases hne:ws= []
   · subst hne
     refine gE.mpr<| fB.mpr<| d8 (a:=.ref p) rfl<| (iP e).mpr ?_
     rw[if_neg (by simp)]
     exact⟨u,fd,rfl,hA,er,hd,by lia⟩
   · obtain⟨t,q,rfl⟩:∃(t:List D) (q:D),ws=t++[q]:=⟨ws.dropLast,ws.getLast hne,(Xh hne).symm⟩
     refine gE.mpr<| fB.mpr<| d8 (a:=.ref p) rfl<| (iP e).mpr ?_
     rw[if_pos (by simp)]
     refine j6.mpr<| K9<| l6.mpr<| d8 (a:=.ref p) rfl<| (R1 e).mpr<| m8.mpr<| (kQ e).mpr ?_
     have e1:(G.set p (.lst t))[p]? =some (.lst t):=zN (lt_of_get e)
     have er1:(G.set p (.lst t))[r]? =some (.lst fd):=by rw[zL hpr];exact er
     have a1:Ap G0 (G.set p (.lst t)):=hA.set hp
     have hq:=hw q (by simp)
     have hs:szL (t++[q])=szL t+szD q:=by rw[uC,szC,szN];rfl
     rw[hs]at hf hb
     refine j6.mpr<| wB<| r6<| m6 (as:= [q]) rfl rfl<| hq.form λG2 a2=>⟨rfl,rfl,t7.mpr ?_⟩
     have e2:=a2.at e1
     have er2:=a2.at er1
     refine j6.mpr<| nA.mpr<| l6.mpr<| d8 (a:=.ref r) rfl<| (R1 er2).mpr<| d8 (a:= [q]) (G':=G2) rfl<| (GA er2 (by lia)).mpr ?_
     have e3:(G2.set r (.lst (fd++[q])))[p]? =some (.lst t):=by rw[zL (Ne.symm hpr)];exact e2
     have er3:(G2.set r (.lst (fd++[q])))[r]? =some (.lst (fd++[q])):=zN (lt_of_get er2)
     have a3:Ap G0 (G2.set r (.lst (fd++[q]))):=(a1.trans a2).set hr
     refine nA.mpr<| l6.mpr<| d8 (a:=.ref p) rfl<| (R1 e3).mpr<| m9<| m6 (as:= [q]) rfl rfl<| hq.inner λp4 G4 ks a4 l4 e4 gk hk=>m8.mpr ?_
     have e5:=a4.at e3
     have er5:=a4.at er3
     have hl1:=IJ t
     have hl2:=IJ ks
     refine(nQ e5 e4 (by lia)).mpr ?_
     refine NM hp hr hpr fuel (t++ks) (fd++[q]) _ _ ((a3.trans a4).set hp) (zN (lt_of_get e5)) (by rw[zL hpr];exact er5) (by rw[uC];lia) (by rw[uC,zA,jD];have:=aJ q;lia) (λd hd'=>?_) (λd hd'=>?_)
     · rcases zW.mp hd' with hd'|hd'
       ·exact hw d (by simp[hd'])
       ·exact gk d hd'
     · rcases zW.mp hd' with hd'|hd'
       ·exact hd d hd'
       ·rw[zC.mp hd'];exact hq
theorem dW8{d:D}{G:DH}{Q:DPP}(hd:szD d<=900000)(h:GW d)(q:∀G',Ap G G'->Q (.bl true) G'):Wp (NC [d]) G Q:=by
 have bg:=big
 refine J6 (show Wp (aH [some d,none,none,none]) G _ from ?_)
 rw[fU7]
 have hs:szL [d]=szD d:=by rw[szC,szN];rfl
 refine J0 (X1:= [some d,some (.ref G.length),none,none]) (G':=G++[.lst []]) rfl<| J0 (X1:= [some d,some (.ref G.length),some (.ref (G++[DO.lst []]).length),none]) (G':=G++[.lst []]++[.lst [d]]) rfl ?_
 refine j6.mpr<| KK (n:=szD d+1)<| (NM (G0:=G) (p:=(G++[DO.lst []]).length) (r:=G.length) (by simp) (zn _) (by simp) (szD d+1) [d] [] none _ (Ap.one.trans Ap.one) j7 (O9 j7) (by rw[hs];lia) (by rw[hs,yp];lia) (λx hx=>by rw[zC.mp hx];exact h) (λx hx=>by cases hx)).mono ?_
 rintro _ G1 ⟨u',fd,rfl,a1,e1,h1,hl⟩
 refine J1<| B9 One (s:=⟨fd,ckO G.length (.lst fd)⟩) (X6<| wp_itW.mpr<| d8 (a:=.ref G.length) rfl<| (P6 e1).mpr ⟨rfl,rfl⟩) (by show fd.length<=_;lia) (λG' a=>by show ckO G.length (.lst fd) G'=true;unfold ckO;rw[a.at e1];simp) ⟨_,rfl⟩ ?_ λG2 a2=>v9 (q G2 (a1.trans a2))
 rintro x hx _ G2 ⟨u,rfl⟩ j
 exact⟨⟨_,rfl⟩,m6 (as:= [x]) rfl rfl<| (h1 x hx).one λG3 a3=>⟨rfl,a3⟩⟩
def pvD(p:Str×D):D:=.tup [.str p.1,p.2]
inductive VD:Nat->D->NV->Prop
 |num {k:Nat} {i:Int}:VD k (.int i) (.num i)
 |txt {k:Nat} {z:Str}:VD k (.str z) (.txt z)
 |tru {k:Nat} {b:Bool}:VD k (.bl b) (.tru b)
 |lst {k:Nat} {ds:List D} {f:Nat->NV} (hl:ds.length<=500) (h:∀(i:Nat) (d:D),ds[i]? =some d->VD k d (f i)):VD (k+1) (.tup [.str b9,.tup ds]) (.lst ds.length f)
 |rcd {k:Nat} {ps:List (Str×D)} {q:Str->Bool} {f:Str->NV} (hl:ps.length<=500) (h:∀p∈ps,VD k p.2 (f p.1)) (hq:∀z,q z=true↔z∈ps.map (·.1)):VD (k+1) (.tup [.str aB,.tup (ps.map pvD)]) (.rcd q f)
def EI(k:Nat)(R:List D->M D):Prop:=∀(n:Nat) (c:CS n) (d:D) (v:NV) (G:DH),SzC n 47 c->Gd n c->VD k d v->Wp (R [d,enC n c]) G λx G'=>Ap G G'/\∃b:Bool,x= .bl b/\(b=true↔inC n c v)
theorem EK{α:Type}{G:DH}{l:List α}{f:α->Bool}(h:G[r]? =some (.lst (l.map λx=>.bl (f x)))):Wp (C1 [.ref r]) G Q↔Q (.bl (l.all f)) G:=by
 have h0:C1 [.ref r]= (do
  let l <-O5 r >>= DL.listOf
  let bs <-M0 (i6 l)
  pure (.bl (bs.all id))):=rfl
 rw[h0]
 simp only[j9,O3,h,Q3,DL.listOf,m5,D3,MC,xI]
 rfl
theorem Fp{ι:Type}{α:Type}{m:M α}{P:ι->Prop}{Q:ι->α->DH->Prop}(i0:ι)(h0:P i0)(h:∀i,P i->Wp m G (Q i)):Wp m G λx G'=>∀i,P i->Q i x G':=by
 obtain⟨a,G',e,_⟩:=h i0 h0
 refine⟨a,G',e,λi hi=>?_⟩
 obtain⟨a',G'',e',q⟩:=h i hi
 rw[e]at e';cases e';exact q
section
variable{n k:Nat}{R:List D->M D}{G:DH}
theorem Qk(ih:EI k R){r:Option (List (CS n)×CS n)}{ds:List D}{f:Nat->NV}(hz:lsZ n 47 r)(hg:kA (Gd n) r)(hl:ds.length<=500)(h:∀(i:Nat) (d:D),ds[i]? =some d->VD k d (f i)):Wp (W0 R [.tup ds,lsD (enC n) r]) G λx G'=>Ap G G'/\∃b:Bool,x= .bl b/\(b=true↔D1 (inC n) r ds.length f):=by
 have bg:=big
 rcases r with _|⟨fs,m⟩
 ·exact T5 (d:=.bl false) rfl ⟨Ap.refl,false,rfl,λz=>(nomatch z),λz=>absurd z y8⟩
 have z:=hz fs m rfl
 refine J6 (show Wp (KF R [some (.tup ds),some (.tup [.tup (fs.map (enC n)),enC n m]),none]) G _ from ?_)
 unfold KF
 refine j6.mpr<| C0<| P8<| d8 (a:=false) (G':=G) rfl ⟨λz=>(nomatch z),λ_=>K4<| J4 (x:=.int (ds.length:Int)) (y:=.int ((fs.map (enC n)).length:Int)) rfl rfl<| pB.mpr ⟨_,rfl,λg=>?_,λg=>t7.mpr ?_⟩⟩
 · have g:=of_decide_eq_true g
   rw[zg]at g
   exact J1<| d8 (a:=.bl false) (G':=G) rfl<| v9 ⟨Ap.refl,false,rfl,λz=>(nomatch z),λz=>by have:=(T8.mp z).1;lia⟩
 have g:=of_decide_eq_false g
 rw[zg]at g
 have e0:((ds.length:Int)-((fs.map (enC n)).length:Int))= ((ds.length-fs.length:Nat):Int):=by rw[zg];lia
 refine j6.mpr<| K9<| bin_w<| d8 (a:=.tup (fs.map (enC n))) (G':=G) rfl<| bin_w<| d8 (a:=.tup [enC n m]) (G':=G) rfl<| J4 (x:=.int (ds.length:Int)) (y:=.int ((fs.map (enC n)).length:Int)) rfl rfl<| eB.mpr ?_
 rw[e0]
 refine(LX ⟨by lia,by lia,by simp⟩).mpr ?_
 rw[jF,show (zu (ds.length-fs.length) [enC n m]).flatten=zu (ds.length-fs.length) (enC n m) by simp]
 refine(IQ (by rw[zg,ZP];lia)).mpr ?_
 have hs:∀i,i<ds.length->(fs.map (enC n)++zu (ds.length-fs.length) (enC n m))[i]? =some (enC n (frt fs m i)):=λi hi=>by
  by_cases h1:i<fs.length
  ·rw[zF (by rw[zg];exact h1),zV,zi h1,D4 h1];rfl
  ·rw[yy (by rw[zg];lia),Zy,if_pos (by rw[zg];lia),P4 (by lia)]
 have hlen:(fs.map (enC n)++zu (ds.length-fs.length) (enC n m)).length=ds.length:=by rw[zA,zg,ZP];lia
 generalize fs.map (enC n)++zu (ds.length-fs.length) (enC n m)=ss at hs hlen
 refine J1<| N8<| m9<| wp_comp.mpr<| d8 (a:=⟨(ds.zip ss).map λp=>.tup [p.1,p.2],λ_=>true&&true⟩) (G':=G) rfl ⟨by show (List.map _ (ds.zip ss)).length<=_;rw[zg,ZK];lia,?_⟩
 have gf:∀i,Gd n (frt fs m i):=λi=>FD hg i
 have zf:∀i,SzC n 47 (frt fs m i):=λi=>UD hz i
 refine(n4 (λG'=>Ap G G') (λσ=>∃u v,σ= [u,v]) (λd y=>∃b:Bool,y= .bl b/\∀i:Nat,((ds.zip ss).map λp=>D.tup [p.1,p.2])[i]? =some d->(b=true↔inC n (frt fs m i) (f i))) (λ_ _=>rfl) _ _ G ⟨_,_,rfl⟩ Ap.refl ?_).mono ?_
 · rintro d hd _ G1 ⟨u,v,rfl⟩ a1
   obtain⟨i0,hi0⟩:=ye.mp hd
   have at_:∀i:Nat,((ds.zip ss).map λp=>D.tup [p.1,p.2])[i]? =some d->∃x,d= .tup [x,enC n (frt fs m i)]/\VD k x (f i):=λi hi=>by
    rw[zV]at hi
    rcases e:(ds.zip ss)[i]? with _|⟨x,s⟩
    ·rw[e]at hi;cases hi
    · rw[e]at hi;cases hi
      obtain⟨e1,e2⟩:=XS.mp e
      have:=hs i (je.mp e1).1
      rw[e2]at this;cases this
      exact⟨x,rfl,h i x e1⟩
   obtain⟨x,rfl,_⟩:=at_ i0 hi0
   refine d8 (a:= [some x,some (enC n (frt fs m i0))]) rfl ⟨rfl,⟨_,_,rfl⟩,?_⟩
   refine m6 (as:= [x,enC n (frt fs m i0)]) rfl rfl<| (Fp (P:=λi:Nat=>((ds.zip ss).map λp=>D.tup [p.1,p.2])[i]? =some (.tup [x,enC n (frt fs m i0)])) (Q:=λi y G3=>Ap G1 G3/\∃b:Bool,y= .bl b/\(b=true↔inC n (frt fs m i) (f i))) i0 hi0 λi hi=>?_).mono λy G3 q=>?_
   · obtain⟨x',e,hv⟩:=at_ i hi
     obtain⟨rfl,e2⟩:x=x'/\enC n (frt fs m i0)=enC n (frt fs m i):=by
      have:=D.tup.inj e
      exact⟨(xH this).1,(xH (xH this).2).1⟩
     rw[e2]
     exact ih n _ x _ G1 (zf i) (gf i) hv
   · obtain⟨a3,b,rfl,_⟩:=q i0 hi0
     refine⟨a1.trans a3,b,rfl,λi hi=>?_⟩
     obtain⟨_,b',e,hb⟩:=q i hi
     cases e;exact hb
 · rintro _ G1 ⟨a1,zs,e1,rfl,hz⟩
   obtain⟨hs',e2,e3,e4⟩:=rA (β:=Bool) (e:=D.bl) (P:=λd b=>∀i:Nat,((ds.zip ss).map λp=>D.tup [p.1,p.2])[i]? =some d->(b=true↔inC n (frt fs m i) (f i))) zs hz
   rw[e2,show hs'.map D.bl=hs'.map λb=>D.bl (id b)from rfl]
   refine m8.mpr<| (EK (l:=hs') (f:=id) j7).mpr<| v9 ⟨a1.trans Ap.one,_,rfl,?_⟩
   have hln:hs'.length=ds.length:=by
    rw[e3,<-zg (f:=(·.1)),e1,zg,ZK,hlen,Nat.min_self]
   rw[T8,yN]
   have at2:∀(i:Nat) b,hs'[i]? =some b->(b=true↔inC n (frt fs m i) (f i)):=λi b hb=>by
    have hi:i<((ds.zip ss).map λp=>D.tup [p.1,p.2]).length:=by
     rw[zg,ZK,hlen,Nat.min_self,<-hln];exact(je.mp hb).1
    have hd:=zi hi
    exact e4 i b _ hb (by rw[e1];exact hd) i hd
   refine⟨λhh=>⟨by lia,λi hi=>?_⟩,λhh b hb=>?_⟩
   · have hb:=zi (l:=hs') (i:=i) (by lia)
     exact(at2 i _ hb).mp (hh _ (jx _))
   · obtain⟨i,hi⟩:=ye.mp hb
     exact(at2 i b hi).mpr (hh.2 i (by have:=(je.mp hi).1;lia))
end
section
variable{a b:Fe}{σ:DSt}{G:DH}{k j:Bool}
theorem Hx(ea:a σ G=some (.ok (.bl k),G))(eb:b σ G=some (.ok (.bl j),G)):N1 a b σ G=some (.ok (.bl (k&&j)),G):=X6<| ID.mpr<| d8 ea<| W3.mpr<| by
 cases k
 ·rw[if_neg (by decide)];exact⟨rfl,rfl⟩
 ·rw[if_pos rfl];exact d8 eb ⟨rfl,rfl⟩
theorem OQ(ea:a σ G=some (.ok (.bl false),G))(eb:b σ G=some (.ok (.bl j),G)):E6 a b σ G=some (.ok (.bl j),G):=X6<| nN.mpr<| d8 ea<| W3.mpr<| by
 rw[if_neg (by decide)];exact d8 eb ⟨rfl,rfl⟩
theorem IP(ea:a σ G=some (.ok (.bl true),G)):E6 a b σ G=some (.ok (.bl true),G):=X6<| nN.mpr<| d8 ea<| W3.mpr<| by
 rw[if_pos rfl];exact⟨rfl,rfl⟩
end
def loB:Option Int->Int->Bool
 |none,_=>true
 |some a,x=>decide (a<=x)
def hiB:Option Int->Int->Bool
 |none,_=>true
 |some a,x=>decide (x<=a)
theorem aP{p:Rg}{x:Int}:(loB p.1 x&&hiB p.2 x)=true↔inR p x:=by
 obtain⟨a,b⟩:=p
 unfold inR
 rcases a with _|a<;>rcases b with _|b<;>simp[loB,hiB]
theorem GY{p:Rg}{x:Int}{G:DH}:NE [some (H0 p.1),some (H0 p.2),some (.int x)] G=some (.ok (.bl (loB p.1 x&&hiB p.2 x)),G):=by
 obtain⟨a,b⟩:=p
 refine Hx ?_ ?_
 · rcases a with _|a
   ·exact IP rfl
   ·exact OQ rfl rfl
 · rcases b with _|b
   ·exact IP rfl
   ·exact OQ rfl rfl
theorem dR{x:Int}{G:DH}:∀(ns:List Rg) (u v:Option D),N7 (A4 2 (T3 (y0 0) (T3 (y0 1) y4))) M5 NE (λ_=>true) (rsD ns) [u,v,some (.int x)] G=some (.ok (ns.map λp=>.bl (loB p.1 x&&hiB p.2 x)),G)
 |[],u,v=>X6 (Z8.mpr ⟨rfl,rfl,rfl⟩)
 | p :: r, u, v => X6 (mG.mpr ⟨rfl, d8 (a := [some (H0 p.1), some (H0 p.2), some (.int x)]) (G' := G) rfl <| d8 (a := true) (G' := G) rfl <| by
    rw[if_pos rfl];exact d8 GY<| d8 (dR r _ _) ⟨rfl,rfl⟩⟩)
theorem CV{α:Type}{G:DH}{l:List α}{f:α->Bool}(h:G[r]? =some (.lst (l.map λx=>.bl (f x)))):Wp (dA [.ref r]) G Q↔Q (.bl (l.any f)) G:=by
 have h0:dA [.ref r]= (do
  let l <-O5 r >>= DL.listOf
  let bs <-M0 (i6 l)
  pure (.bl (bs.any id))):=rfl
 rw[h0]
 simp only[j9,O3,h,Q3,DL.listOf,m5,D3,MC,ZG]
 rfl
theorem Ch{p q:Str×D}(h:pvD p=pvD q):p=q:=by
 have:=D.tup.inj h
 exact Xt (D.str.inj (xH this).1) (xH (xH this).2).1
theorem qv{x y:D}:IE [.tup [.tup [],x],y] G=some (.ok x,G):=rfl
section
variable{n k:Nat}{R:List D->M D}{G:DH}
theorem fZ(ih:EI k R){r:Option (List (Str×Bool×CS n)×CS n)}{ps:List (Str×D)}{q:Str->Bool}{f:Str->NV}(hz:rsZ n 47 r)(hg:eA (Gd n) r)(hl:ps.length<=500)(h:∀p∈ps,VD k p.2 (f p.1))(hq:∀z,q z=true↔z∈ps.map (·.1)):Wp (R9 R [.tup (ps.map pvD),rcD (enC n) r]) G λx G'=>Ap G G'/\∃b:Bool,x= .bl b/\(b=true↔A2 (inC n) r q f):=by
 have bg:=big
 rcases r with _|⟨fs,m⟩
 ·exact T5 (d:=.bl false) rfl ⟨Ap.refl,false,rfl,λz=>(nomatch z),λz=>absurd z W5⟩
 obtain⟨rfl,zm⟩:=hz fs m rfl
 have gm:=(hg _ m rfl).1
 have hl2:(ps.map pvD).length<=10000:=by rw[zg];lia
 refine J6 (show Wp (X5 R [some (.tup (ps.map pvD)),some (.tup [.tup [],enC n m]),none]) G _ from ?_)
 unfold X5
 refine J0 (X1:= [some (.tup (ps.map pvD)),some (.tup [.tup [],enC n m]),none]) (G':=G) rfl<| j6.mpr<| K9<| A7 (l:=ps.map pvD) (G1:=G) rfl hl2<| (n4 (λG'=>G'=G) One (λ_ _=>True) (λ_ _=>rfl) _ _ G ⟨_,rfl⟩ rfl ?_).mono ?_
 · rintro d hd _ _ ⟨u,rfl⟩ rfl
   obtain⟨p,_,rfl⟩:=zI.mp hd
   exact N6.mpr ⟨rfl,⟨_,rfl⟩,d8 (a:=.str p.1) rfl ⟨rfl,trivial⟩⟩
 rintro ys G0 ⟨e0,_⟩
 rw[e0]
 refine j6.mpr<| wB<| r6<| N8<| m9<| A7 (l:= []) rfl (by decide)<| Z8.mpr ⟨rfl,m8.mpr<| (EK (l:=([]:List Bool)) (f:=id) j7).mpr ⟨rfl,rfl,t7.mpr ?_⟩⟩
 generalize hG1:G++[DO.lst ys]++[DO.lst (([]:List Bool).map λx=>.bl (id x))]=G1
 have a0:Ap G G1:=by rw[<-hG1];exact Ap.one.trans Ap.one
 refine J1<| N8<| m9<| A7 (l:=ps.map pvD) (G1:=G1) rfl hl2<| (n4 (λG'=>Ap G1 G') (λσ=>∃u v,σ= [u,v,some (.tup [.tup [],enC n m])]) (λd y=>∃b:Bool,y= .bl b/\∀p∈ps,pvD p=d->(b=true↔inC n m (f p.1))) (λ_ _=>rfl) _ _ G1 ⟨_,_,rfl⟩ Ap.refl ?_).mono ?_
 · rintro d hd _ G2 ⟨u,v,rfl⟩ a2
   obtain⟨p,hp,rfl⟩:=zI.mp hd
   refine d8 (a:= [some (.str p.1),some p.2,some (.tup [.tup [],enC n m])]) rfl ⟨rfl,⟨_,_,rfl⟩,?_⟩
   refine N8<| R0 (x:=p.2) rfl<| m9<| m6 (as:= [.tup [.tup [],enC n m],.str p.1]) rfl rfl<| d8 qv<| m8.mpr<| V7.mpr ⟨rfl,(ih n m p.2 _ G2 zm gm (h p hp)).mono ?_⟩
   rintro _ G3 ⟨a3,b,rfl,hb⟩
   exact⟨a2.trans a3,b,rfl,λp' _ e=>by rw[Ch e];exact hb⟩
 · rintro _ G2 ⟨a2,zs,e1,rfl,hz⟩
   obtain⟨bs,e2,e3,e4⟩:=rA (β:=Bool) (e:=D.bl) (P:=λd b=>∀p∈ps,pvD p=d->(b=true↔inC n m (f p.1))) zs hz
   rw[e2,show bs.map D.bl=bs.map λb=>D.bl (id b)from rfl]
   refine m8.mpr<| (EK (l:=bs) (f:=id) j7).mpr<| v9 ⟨a0.trans (a2.trans Ap.one),_,rfl,?_⟩
   have hln:bs.length=ps.length:=by rw[e3,<-zg (f:=(·.1)),e1,zg]
   have at2:∀(i:Nat) b p,bs[i]? =some b->ps[i]? =some p->(b=true↔inC n m (f p.1)):=λi b p hb hp=>
    e4 i b (pvD p) hb (by rw[e1,zV,hp];rfl) p (yn hp) rfl
   rw[UG,yN]
   refine⟨λhh z hqz=>?_,λhh b hb=>?_⟩
   · obtain⟨p,hp,rfl⟩:=zI.mp ((hq z).mp hqz)
     obtain⟨i,hi⟩:=ye.mp hp
     have hl3:=(je.mp hi).1
     have hb:=zi (l:=bs) (i:=i) (by lia)
     exact(at2 i _ p hb hi).mp (hh _ (jx _))
   · obtain⟨i,hi⟩:=ye.mp hb
     have hl3:=(je.mp hi).1
     have hp:=zi (l:=ps) (i:=i) (by lia)
     exact(at2 i b _ hi hp).mpr (hh _ ((hq _).mpr (zI.mpr ⟨_,jx _,rfl⟩)))
end
theorem in_at:∀k N,k<N->EI k (oE N)
 |k,N+1,hk=>λn c d v G hz hg hv=>by
   rcases n with _|n
   ·exact d8 (a:=.bl true) (G':=G) rfl ⟨Ap.refl,true,rfl,λ_=>trivial,λ_=>rfl⟩
   rcases c with _|s
   ·exact d8 (a:=.bl true) (G':=G) rfl ⟨Ap.refl,true,rfl,λ_=>trivial,λ_=>rfl⟩
   have z:=hz s rfl
   have g:=hg.1
   refine J6 (show Wp (dE (oE N) [some d,some (.tup (fiv (enC n) s))]) G _ from ?_)
   unfold dE
   refine J0 (X1:= [some d,some (.tup (fiv (enC n) s))]) (G':=G) rfl ?_
   rcases hv with _|_|_|⟨hl,h⟩|⟨hl,h,hq⟩
   · refine J0 (X1:= [_,_]) (G':=G) rfl<| j6.mpr<| A3 (G1:=G) rfl<| J1<| N8<| m9<| A7 (l:=rsD s.ns) (G1:=G) rfl (by rw[FG];have:=z.ns;lia)<| d8 (dR s.ns none none)<| m8.mpr<| (CV (l:=s.ns) j7).mpr<| v9 ⟨Ap.one,_,rfl,?_⟩
     rw[List.any_eq_true]
     exact⟨fun⟨p,hp,h⟩=>⟨p,hp,aP.mp h⟩,fun⟨p,hp,h⟩=>⟨p,hp,aP.mpr h⟩⟩
   · rename_i z'
     refine J0 (X1:= [_,_]) (G':=G) rfl<| J0 (X1:= [_,_]) (G':=G) rfl<| j6.mpr<| A3 (G1:=G) rfl<| J1<| bin_w<| J4 (x:=.str z') (y:=.tup (s.ss.map D.str)) rfl rfl<| LD.mpr ⟨_,mK,?_⟩
     have e:(c7 eqD (c7 ixD (c7 ixD (b8 1) (cE (.int 1))) (cE (.int 0))) (cE (.str ("of" :Str)))) [some (.str z'),some (.tup (fiv (enC n) s))] G=some (.ok (.bl s.b),G):=by
      rcases s with⟨ns,b,ss,bs,ls,rs⟩
      cases b<;>rfl
     refine d8 e<| eE.mpr ⟨_,rfl,v9 ⟨Ap.refl,_,rfl,?_⟩⟩
     show _↔inT s.b s.ss z'
     unfold inT
     by_cases hm:z'∈s.ss<;>cases s.b<;>simp[hm]
   · rename_i b
     exact j6.mpr<| A3 (G1:=G) rfl<| J1<| J4 (x:=.bl b) (y:=.tup (s.bs.map D.bl)) rfl rfl<| LD.mpr ⟨_,UL g.bs,v9 ⟨Ap.refl,_,rfl,by rw[decide_eq_true_eq];exact Iff.rfl⟩⟩
   · rename_i k ds f
     refine J0 (X1:= [_,_]) (G':=G) rfl<| J0 (X1:= [_,_]) (G':=G) rfl<| J0 (X1:= [_,_]) (G':=G) rfl<| j6.mpr<| A3 (G1:=G) rfl<| J1<| m6 (as:= [.tup ds,lsD (enC n) s.ls]) rfl rfl<| (Qk (in_at k N (by lia)) z.ls (U6.raw g.ls) hl h).mono λx G' q=>v9 q
   · rename_i k ps q f
     refine J0 (X1:= [_,_]) (G':=G) rfl<| J0 (X1:= [_,_]) (G':=G) rfl<| J0 (X1:= [_,_]) (G':=G) rfl<| j6.mpr<| oA (G1:=G) rfl<| t7.mpr<| J1<| m6 (as:= [.tup (ps.map pvD),rcD (enC n) s.rs]) rfl rfl<| (fZ (in_at k N (by lia)) z.rs (C2.raw g.rs) hl h hq).mono λx G' q=>v9 q
theorem gH{ds:List D}(hl:ds.length<=500)(h:∀d∈ds,∃v,VD k d v):∃v,VD (k+1) (.tup [.str b9,.tup ds]) v:=
 ⟨_,.lst (f:=λi=>if hi:i<ds.length then (h ds[i] (jx hi)).choose else .num 0) hl λi d e=>by
  obtain⟨hi,rfl⟩:=je.mp e
  simp only[dif_pos hi]
  exact(h ds[i] (jx hi)).choose_spec⟩
theorem PJ{ps:List (Str×D)}(hl:ps.length<=500)(nd:(ps.map (·.1)).Nodup)(h:∀p∈ps,∃v,VD k p.2 v):∃v,VD (k+1) (.tup [.str aB,.tup (ps.map pvD)]) v:=by
 have hf:∀z,∃v,∀p∈ps,p.1=z->VD k p.2 v:=λz=>by
  by_cases hz:∃p∈ps,p.1=z
  · obtain⟨p,hp,rfl⟩:=hz
    obtain⟨v,hv⟩:=h p hp
    refine⟨v,λp' hp' e=>?_⟩
    obtain⟨i,hi⟩:=ye.mp hp
    obtain⟨j,hj⟩:=ye.mp hp'
    have e1:(ps.map (·.1))[i]? =some p.1:=by rw[zV,hi];rfl
    have e2:(ps.map (·.1))[j]? =some p.1:=by rw[zV,hj];exact congrArg some e
    have:=(List.getElem?_inj (je.mp e1).1 nd).mp (e1.trans e2.symm)
    rw[this,hj]at hi
    cases hi
    exact hv
  ·exact⟨.num 0,λp hp e=>absurd ⟨p,hp,e⟩ hz⟩
 exact⟨_,.rcd (q:=λz=>decide (z∈ps.map (·.1))) (f:=λz=>(hf z).choose) hl (λp hp=>(hf p.1).choose_spec p hp rfl) λz=>by rw[decide_eq_true_eq]⟩
theorem eT(h:l.Nodup):(B2 l).Pairwise nlt:=by
 have h2:(B2 l).Pairwise λa b=>leS a b=true:=xA bK pN l
 have h3:(B2 l).Nodup:=(jL l leS).nodup_iff.mpr h
 refine(h2.and (Xw.mp h3)).imp λ{a b} k=>?_
 rcases Classical.em (nlt a b)with x|x
 ·exact x
 ·exact absurd (GR k.1 (by unfold leS;simpa using x)) k.2
theorem fC3(h:Ris s):s.Nodup:=by
 rw[Xw]
 refine Xy ?_ h
 intro a b k e
 rw[e,wC]at k
 cases k
def nmB:D->Bool
 | .str z=>decide ((0:Int)<(z.length:Int))&&decide ((z.length:Int)<9)
 |_=>false
section
theorem Bq(h:Dr G r):Wp (SE [.ref r]) G λx G'=>Fd r G G'/\∃(p:Nat) (ws:List Str),x= .ref p/\G.length<=p/\G'[p]? =some (.lst (ws.map D.str))/\ws.Pairwise nlt/\(∀z∈ws,Tx z/\0<z.length)/\ws.length<=6:=by
 have bg:=big
 refine J6 (show Wp (lG [some (.ref r)]) G _ from ?_)
 unfold lG
 refine J1<| N8<| m9<| wp_comp.mpr<| wp_itW.mpr<| m6 rfl rfl<| (PM h).mono ?_
 rintro _ G1 ⟨ss,rfl,rw_,ls,f1⟩
 refine srcW_tup.mpr ⟨by rw[zg];lia,?_⟩
 have hc:N7 (y0 0) (m7 (C9 ltD ltD (cE (.int 0)) (x0 X7 (d0 (b8 0) g0)) (cE (.int 9)))) (b8 0) (λ_=>true) (ss.map D.str) (U9 [none] [some (.ref r)]) G1=some (.ok ((ss.map D.str).filter nmB),G1):=by
  refine U8 rfl (λσ=>∃u,σ= [u]) _ _ ⟨_,rfl⟩ λx hx σ WR=>?_
  obtain⟨z,hz,rfl⟩:=zI.mp hx
  obtain⟨u,rfl⟩:=WR
  refine⟨[some (.str z)],rfl,⟨_,rfl⟩,X6 (K4<| HM.mpr<| d8 rfl<| d8 (X6<| N3 rfl<| (KI (zG (rw_.tx z hz).2 (by lia))).mpr ⟨rfl,rfl⟩)<| pB.mpr ⟨_,rfl,?_⟩),rfl⟩
  show if decide ((0:Int)<(z.length:Int))=true then _ else _
  by_cases hz:(0:Int)<(z.length:Int)
  · rw[decide_eq_true hz,if_pos rfl]
    refine d8 rfl<| pB.mpr ⟨_,rfl,?_,rfl⟩
    show _= (decide ((0:Int)<(z.length:Int))&&decide ((z.length:Int)<9))
    rw[decide_eq_true hz];rfl
  · rw[decide_eq_false hz,if_neg (by decide)]
    refine⟨_,rfl,?_,rfl⟩
    show _= (decide ((0:Int)<(z.length:Int))&&decide ((z.length:Int)<9))
    rw[decide_eq_false hz];rfl
 have ef:(ss.map D.str).filter nmB= (ss.filter (nmB∘D.str)).map D.str:=by rw[xY]
 rw[ef]at hc
 have hl:=yf (nmB∘D.str) ss
 refine d8 hc<| m8.mpr<| (qX j7 (CJ _) (by lia)).mpr<| v9 ⟨(f1.trans (Fd.app f1.2.2)).trans (Fd.app (Fd.app f1.2.2).2.2),_,_,rfl,?_,j7,eT ((fC3 rw_.ris).sublist JZ),λz hz=>?_,?_⟩
 · have:=f1.1
   rw[zA];lia
 · have hz:=(jL _ leS).mem_iff.mp hz
   obtain⟨h1,h2⟩:=jw.mp hz
   refine⟨rw_.tx z h1,?_⟩
   have h2:(decide ((0:Int)<(z.length:Int))&&decide ((z.length:Int)<9))=true:=h2
   rw[jp,decide_eq_true_iff]at h2
   lia
 ·exact zG (xt (jL _ leS).length_eq) (by lia)
end
theorem p12{G:DH}{Q:DPP}:Wp (L7 (.int 10) (.int 12)) G Q↔Q (.int 1000000000000) G:=by
 rw[HK (by decide)];rfl
theorem qI{r:Nat}:∀(n k:Nat) (G:DH),k<n->Dr G r->Wp (iB n [.ref r,.int (k:Int)]) G λx G'=>(∃v,VD k x v)/\Fd r G G'
 |0,k,G,hk,_=>by lia
 |n+1,k,G,hk,h=>by
   have bg:1000<=zo:=by decide
   refine J6 (show Wp (QC (iB n) [some (.ref r),some (.int (k:Int)),none,none]) G _ from ?_)
   unfold QC
   refine j6.mpr<| K9<| m6 (as:= [.ref r]) rfl rfl<| W7 h λj G1 f1=>?_
   refine j6.mpr<| K9<| J4 (x:=.int j) (y:=.int 6) rfl rfl<| (u6 (by decide)).mpr ?_
   generalize (j:Int) % 6=w
   refine j6.mpr<| C0<| K4<| J4 (x:=.int w) (y:=.int 1) rfl rfl<| U0.mpr ⟨_,rfl,λ_=>?_,λ_=>t7.mpr ?_⟩
   ·exact J1<| bin_w<| bin_w<| bin_w<| bin_w<| J4 (x:=.int j) (y:=.int 6) rfl rfl<| (M7 ⟨by decide,by decide⟩).mpr<| d8 (a:=.int 1000003) (G':=G1) rfl<| (B6 (Or.inr ⟨by decide,by decide⟩)).mpr<| m6 (as:= [.ref r]) rfl rfl<| W7 f1.2.2 λi G2 f2=>P7.mpr<| bin_w<| bin_w<| d8 (a:=.int 2) (G':=G2) rfl<| J4 (x:=.int 10) (y:=.int 12) rfl rfl<| p12.mpr<| (B6 (Or.inl ⟨by decide,by decide⟩)).mpr<| d8 (a:=.int 1) (G':=G2) rfl<| P7.mpr<| (u6 (by decide)).mpr<| J4 (x:=.int 10) (y:=.int 12) rfl rfl<| p12.mpr<| eB.mpr<| v9 ⟨⟨_,.num⟩,f1.trans f2⟩
   refine j6.mpr<| C0<| K4<| J4 (x:=.int w) (y:=.int 2) rfl rfl<| U0.mpr ⟨_,rfl,λ_=>?_,λ_=>t7.mpr ?_⟩
   · refine J1<| m6 (as:= [.ref r]) rfl rfl<| (DN f1.2.2).mono ?_
     rintro _ G2 ⟨⟨z,rfl,_⟩,f2⟩
     exact v9 ⟨⟨_,.txt⟩,f1.trans f2⟩
   refine j6.mpr<| C0<| K4<| J4 (x:=.int w) (y:=.int 3) rfl rfl<| U0.mpr ⟨_,rfl,λ_=>?_,λ_=>t7.mpr ?_⟩
   ·exact J1<| bin_w<| bin_w<| J4 (x:=.int j) (y:=.int 6) rfl rfl<| (M7 ⟨by decide,by decide⟩).mpr<| d8 (a:=.int 2) (G':=G1) rfl<| (u6 (by decide)).mpr<| d8 (a:=.int 1) (G':=G1) rfl<| U0.mpr<| v9 ⟨⟨_,.tru⟩,f1⟩
   have hint {P:Fl->DH->Prop} (q:∀i:Int,P (.rt (.int i)) G1):Wp (o4 (c7 F2 (c7 K5 (c7 M9 (b8 2) (cE (.int 6))) (cE (.int 13))) (cE (.int 6))) [some (.ref r),some (.int (k:Int)),some (.int j),some (.int w)]) G1 P:=
    J1<| bin_w<| bin_w<| J4 (x:=.int j) (y:=.int 6) rfl rfl<| (M7 ⟨by decide,by decide⟩).mpr<| d8 (a:=.int 13) (G':=G1) rfl<| (u6 (by decide)).mpr<| d8 (a:=.int 6) (G':=G1) rfl<| eB.mpr<| q _
   refine j6.mpr<| C0<| P8<| K4<| J4 (x:=.int w) (y:=.int 0) rfl rfl<| U0.mpr ⟨_,rfl,λ_=>⟨λ_=>hint λi=>v9 ⟨⟨_,.num⟩,f1⟩,λz=>absurd z (by decide)⟩,λ_=>K4<| J4 (x:=.int k) (y:=.int 0) rfl rfl<| U0.mpr ⟨_,rfl,λ_=>hint λi=>v9 ⟨⟨_,.num⟩,f1⟩,λhz=>t7.mpr ?_⟩⟩
   have k0:¬(k:Int)=0:=of_decide_eq_false hz
   have ek:(k:Int)-1= ((k-1:Nat):Int):=by lia
   obtain⟨k',rfl⟩:∃k',k=k'+1:=⟨k-1,by lia⟩
   have rc (G2:DH) (h2:Dr G2 r) {Q:DPP} (q:∀x G3,(∃v,VD k' x v)->Fd r G2 G3->Q x G3) (u:Option D):Wp (x0 (fnX 2 (iB n)) (d0 (b8 2) (d0 (c7 F2 (b8 1) (cE (.int 1))) g0)) [u,some (.int ((k'+1:Nat):Int)),some (.ref r)]) G2 Q:=by
    refine N8<| R0 (x:=.ref r) (G1:=G2) rfl<| m9<| J4 (x:=.int ((k'+1:Nat):Int)) (y:=.int 1) rfl rfl<| eB.mpr<| m8.mpr<| V7.mpr ⟨rfl,?_⟩
    rw[ek]
    exact(qI n k' G2 (by lia) h2).mono λx G3 ⟨hv,f⟩=>q x G3 hv f
   refine j6.mpr<| C0<| K4<| J4 (x:=.int w) (y:=.int 4) rfl rfl<| U0.mpr ⟨_,rfl,λ_=>?_,λ_=>t7.mpr ?_⟩
   · refine J1<| S7.mpr<| R0 (x:=.str b9) (G1:=G1) rfl<| m9<| N8<| m9<| wp_comp.mpr<| rng1.mpr<| m9<| m6 (as:= [.ref r]) rfl rfl<| nH f1.2.2 λm hm G2 f2=>m8.mpr<| (rng1_int ⟨by lia,by lia⟩).mpr ?_
     have ln:(K3 0 (m:Int).toNat).length=m:=by unfold K3;rw[zg,jN];rfl
     refine⟨by show (K3 0 (m:Int).toNat).length<=_;rw[ln];lia,(n4 (Fd r G2) (λσ=>∃u,σ= [u,some (.int ((k'+1:Nat):Int)),some (.ref r)]) (λ_ y=>∃v,VD k' y v) (λ_ _=>rfl) _ _ G2 ⟨_,rfl⟩ (Fd.refl f2.2.2) ?_).mono ?_⟩
     · rintro d hd _ G3 ⟨v,rfl⟩ jj
       exact N6.mpr ⟨rfl,⟨_,rfl⟩,rc G3 jj.2.2 (λx G4 hv f4=>⟨jj.trans f4,hv⟩) _⟩
     · rintro _ G3 ⟨f3,zs,e1,rfl,hz⟩
       have lz:(zs.map (·.2)).length=m:=by
        have:=congrArg Ya e1
        rw[zg]at this
        rw[zg,this]
        exact ln
       exact m8.mpr<| (K8 j7).mpr<| m8.mpr ⟨sz,v9 ⟨gH (by lia) (λd hd=>by
        obtain⟨z,hzm,rfl⟩:=zI.mp hd
        exact hz z hzm),f1.trans (f2.trans (f3.trans (Fd.app f3.2.2)))⟩⟩
   · refine J1<| S7.mpr<| R0 (x:=.str aB) (G1:=G1) rfl<| m9<| N8<| m9<| wp_comp.mpr<| wp_itW.mpr<| m6 (as:= [.ref r]) rfl rfl<| (Bq f1.2.2).mono ?_
     rintro _ G2 ⟨f2,p,ss,rfl,hp0,e2,sn,_,hl⟩
     have hp:p≠r:=by have:=f1.2.2.lt;lia
     refine(P6 e2).mpr ⟨by rw[zg];lia,(n4 (λG'=>Fd r G2 G') (λσ=>∃u,σ= [u,some (.int ((k'+1:Nat):Int)),some (.ref r)]) (λx y=>∃q:Str×D,y=pvD q/\x= .str q.1/\∃v,VD k' q.2 v) (λG' jj=>D6 (jj.at hp e2)) _ _ G2 ⟨_,rfl⟩ (Fd.refl f2.2.2) ?_).mono ?_⟩
     · rintro d hd _ G3 ⟨v,rfl⟩ jj
       obtain⟨nm,_,rfl⟩:=zI.mp hd
       exact N6.mpr ⟨rfl,⟨_,rfl⟩,S7.mpr<| R0 (x:=.str nm) (G1:=G3) rfl<| m9<| rc G3 jj.2.2 (λx G4 hv f4=>m8.mpr ⟨sz,jj.trans f4,(nm,x),rfl,rfl,hv⟩) _⟩
     · rintro _ G3 ⟨f3,zs,e1,rfl,hz⟩
       obtain⟨hs,e3,e4,e5⟩:=rA (β:=Str×D) (e:=pvD) (P:=λx q=>x= .str q.1/\∃v,VD k' q.2 v) zs hz
       have lz:hs.length=ss.length:=by rw[e4,<-zg (f:=(·.1)),e1,zg]
       have at_:∀(i:Nat) q,hs[i]? =some q->ss[i]? =some q.1/\∃v,VD k' q.2 v:=λi q hq=>by
        have hi:i<ss.length:=by have:=(je.mp hq).1;lia
        have hd:(zs.map (·.1))[i]? =some (.str ss[i]):=by rw[e1,zV,zi hi];rfl
        obtain⟨x1,x2⟩:=e5 i q _ hq hd
        exact⟨by rw[zi hi,D.str.inj x1],x2⟩
       have en:hs.map (·.1)=ss:=YH λi=>by
        rw[zV]
        rcases hq:hs[i]? with _|q
        ·rw[zR (by have:=List.getElem?_eq_none_iff.mp hq;lia)];rfl
        ·rw[(at_ i q hq).1];rfl
       rw[e3]
       refine m8.mpr<| (K8 j7).mpr<| m8.mpr ⟨sz,v9 ⟨PJ (by lia) (by rw[en];exact Xy (λ{a b} (h:nlt a b) (e:a=b)=>by subst e;exact oD _ h) sn) (λq hq=>?_),f1.trans (f2.trans (f3.trans (Fd.app f3.2.2)))⟩⟩
       obtain⟨i,hi⟩:=ye.mp hq
       exact(at_ i q hi).2
theorem OJ{l:List D}{i:Int}(h0:0<=i)(h1:i<l.length)(q:∀d∈l,Q d G):Wp (ixD (.tup l) (.int i)) G Q:=by
 obtain⟨d,hd,e⟩:=pF h0 h1
 exact ix_tup.mpr ⟨d,e,q d hd⟩
theorem RC{l:List D}{i:Int}(e:G[p]? =some (.lst l))(h0:0<=i)(h1:i<l.length)(q:∀d∈l,Q d G):Wp (ixD (.ref p) (.int i)) G Q:=by
 obtain⟨d,hd,e2⟩:=pF h0 h1
 exact(L6 e).mpr ⟨d,e2,q d hd⟩
theorem aA{j:Int}{l:List D}(hl:l≠ []):0<=j % (l.length:Int)/\j % (l.length:Int)<l.length:=by
 have:(0:Int)<l.length:=by rcases l with _|_;exact absurd rfl hl;simp
 exact⟨jf _ (by lia),jd _ this⟩
theorem CF{l:List D}(hl:l≠ []):(0:Int)<l.length:=by rcases l with _|_;exact absurd rfl hl;simp
theorem Rv{ns:List Rg}(hc:Can ns)(hn:ns≠ []){j:Nat}:Wp (kG [.tup (rsD ns),.int (j:Int)]) G λx G'=>Ap G G'/\∃i,x= .int i:=by
 have hn':rsD ns≠ []:=λh=>hn (Yo.mp h)
 refine J6 (show Wp (dH [some (.tup (rsD ns)),some (.int (j:Int)),none,none,none]) G _ from ?_)
 unfold dH
 refine j6.mpr<| W6.mpr<| bin_w<| d8 (a:=.tup (rsD ns)) (G':=G) rfl<| J4 (x:=.int (j:Int)) (y:=.int ((rsD ns).length:Int)) rfl rfl<| (u6 (CF hn')).mpr<| OJ (aA hn').1 (aA hn').2 λd hd=>?_
 obtain⟨⟨a,b⟩,hp,rfl⟩:=zI.mp hd
 refine d8 (a:= [some (.tup (rsD ns)),some (.int (j:Int)),some (H0 a),some (H0 b),none]) (G':=G) rfl ?_
 refine j6.mpr<| K9<| bin_w<| J4 (x:=.int (j:Int)) (y:=.int 7) rfl rfl<| (M7 ⟨by decide,by decide⟩).mpr<| d8 (a:=.int 5) (G':=G) rfl<| (u6 (by decide)).mpr ?_
 generalize (j:Int) / 7 % 5=st
 rcases a with _|a<;>rcases b with _|b
 ·exact cC (G':=G) rfl (v9 ⟨Ap.refl,_,rfl⟩)
 ·exact J0 (X1:= [_,_,_,_,_]) (G':=G) rfl<| cC (G':=G) rfl (v9 ⟨Ap.refl,_,rfl⟩)
 ·exact J0 (X1:= [_,_,_,_,_]) (G':=G) rfl<| J0 (X1:= [_,_,_,_,_]) (G':=G) rfl<| cC (G':=G) rfl (v9 ⟨Ap.refl,_,rfl⟩)
 · have hab:=hc.1 _ hp a b rfl rfl
   refine J0 (X1:= [_,_,_,_,_]) (G':=G) rfl<| J0 (X1:= [_,_,_,_,_]) (G':=G) rfl<| J0 (X1:= [_,_,_,_,_]) (G':=G) rfl ?_
   refine J1<| bin_w<| T2.mpr<| R0 (x:=.int a) rfl<| R0 (x:=.int b) rfl<| m9<| bin_w<| d8 (a:=.int a) (G':=G) rfl<| bin_w<| J4 (x:=.int (j:Int)) (y:=.int 35) rfl rfl<| (M7 ⟨by decide,by decide⟩).mpr<| bin_w<| J4 (x:=.int b) (y:=.int a) rfl rfl<| eB.mpr<| d8 (a:=.int 1) (G':=G) rfl<| P7.mpr<| (u6 (by lia)).mpr<| P7.mpr<| m8.mpr ⟨sz,?_⟩
   refine bin_w<| J4 (x:=.int (j:Int)) (y:=.int 7) rfl rfl<| (M7 ⟨by decide,by decide⟩).mpr<| d8 (a:=.int 3) rfl<| (u6 (by decide)).mpr<| RC j7 (jf _ (by decide)) (jd _ (by decide)) λd hd=>v9 ⟨Ap.one,?_⟩
   simp only[zt,zS,or_false]at hd
   rcases hd with rfl|rfl|rfl<;>exact⟨_,rfl⟩
theorem VN{ss:List Str}(hs:∀z∈ss,Tx z){b:Bool}{a1:Option D}:∀(fuel:Nat) (z:Str),1002<=z.length+fuel->z.length<=1001->Wp (S5 fuel (m7 (c7 inD (b8 2) (c7 ixD (b8 0) (cE (.int 1))))) (u9 (c7 T7 (b8 2) (cE (.str ("q" :Str)))) (y0 2)) [some (S0 b ss),a1,some (.str z)]) G λfl G'=>G'=G/\∃z',fl= .nx [some (S0 b ss),a1,some (.str z')]
 |0,z,h1,h2=>by lia
 |fuel+1,z,h1,h2=>by
   have bg:=big
   refine gE.mpr<| K4<| J4 (x:=.str z) (y:=.tup (ss.map D.str)) rfl rfl<| LD.mpr ⟨_,mK,_,rfl,?_⟩
   by_cases hz:z∈ss
   · rw[decide_eq_true hz,if_pos rfl]
     have:=(hs z hz).2
     have hq:("q" :Str).length=1:=rfl
     have hl:(z++("q" :Str)).length=z.length+1:=by
      show (z.cps++("q" :Str).cps).size=_
      rw[Array.size_append];rfl
     refine K9<| J4 (x:=.str z) (y:=.str "q") rfl rfl<| (BU (by rw[hq];lia)).mpr ?_
     exact VN hs fuel _ (by rw[hl];lia) (by rw[hl];lia)
   · rw[decide_eq_false hz,if_neg (by decide)]
     exact⟨rfl,z,rfl⟩
theorem Lm{ss:List Str}(hs:∀z∈ss,Tx z){b:Bool}(hb:¬(b=true/\ss= [])){j:Nat}:Wp (rG [S0 b ss,.int (j:Int)]) G λx G'=>Ap G G'/\∃z,x= .str z:=by
 refine J6 (show Wp (aF [some (S0 b ss),some (.int (j:Int)),none]) G _ from ?_)
 unfold aF
 rcases b with _|_
 · refine J0 (X1:= [some (S0 false ss),some (.int (j:Int)),none]) (G':=G) rfl<| j6.mpr<| K9<| bin_w<| T2.mpr<| d8 (a:= [.str "",.str "a",.str "b",.str "aa",.str "c",.str "q"]) (G':=G) rfl ⟨sz,J4 (x:=.int (j:Int)) (y:=.int 6) rfl rfl<| (u6 (by decide)).mpr<| RC j7 (jf _ (by decide)) (jd _ (by decide)) λd hd=>?_⟩
   obtain⟨z,rfl,hz⟩:∃z:Str,d= .str z/\z.length<=2:=by
    simp only[zt,zS,or_false]at hd
    rcases hd with rfl|rfl|rfl|rfl|rfl|rfl<;>exact⟨_,rfl,by decide⟩
   refine j6.mpr<| KK (n:=1002)<| (VN hs 1002 z (by lia) (by lia)).mono ?_
   rintro _ _ ⟨rfl,z',rfl⟩
   exact J1<| d8 (a:=.str z') rfl (v9 ⟨Ap.one,_,rfl⟩)
 · have hn:ss.map D.str≠ []:=λh=>hb ⟨rfl,Yo.mp h⟩
   refine j6.mpr<| A3 (G1:=G) rfl<| J1<| bin_w<| d8 (a:=.tup (ss.map D.str)) (G':=G) rfl<| J4 (x:=.int (j:Int)) (y:=.int ((ss.map D.str).length:Int)) rfl rfl<| (u6 (CF hn)).mpr<| OJ (aA hn).1 (aA hn).2 λd hd=>?_
   obtain⟨z,_,rfl⟩:=zI.mp hd
   exact v9 ⟨Ap.refl,_,rfl⟩
theorem VD.mono{k:Nat}{d:D}{v:NV}(h:VD k d v):∀ {k'},k<=k'->VD k' d v:=by
 induction h with
 |num=>exact λ_=>.num
 |txt=>exact λ_=>.txt
 |tru=>exact λ_=>.tru
 |lst hl _ ih=>
   intro k' hk
   obtain⟨k'',rfl⟩:∃k'',k'=k''+1:=⟨k'-1,by lia⟩
   exact .lst hl λi d e=>ih i d e (by lia)
 |rcd hl _ hq ih=>
   intro k' hk
   obtain⟨k'',rfl⟩:∃k'',k'=k''+1:=⟨k'-1,by lia⟩
   exact .rcd hl (λp hp=>ih p hp (by lia)) hq
def VI(n:Nat)(R:List D->M D):Prop:=∀(c:CS n) (G:DH) (r:Nat),Dr G r->Gd n c->SzC n 47 c->Wp (R [.ref r,enC n c]) G λx G'=>Fd r G G'/\((x= .non/\∀v,¬inC n c v)\/∃v,VD (n+1) x v)
section
variable{n r:Nat}{R:List D->M D}{G:DH}
theorem VI.some(ih:VI n R){c:CS n}(h:Dr G r)(g:Gd n c)(z:SzC n 47 c)(hv:∃v,inC n c v)(q:∀x G',Fd r G G'->(∃v,VD (n+1) x v)->Q x G'):Wp (R [.ref r,enC n c]) G Q:=
 (ih c G r h g z).mono λx G' ⟨f,hx⟩=>by
   rcases hx with⟨_,no⟩|hx
   ·exact absurd hv.choose_spec (no _)
   ·exact q x G' f hx
theorem NR(hn:n<=6)(ih:VI n R){fs:List (CS n)}{m:CS n}(h:Dr G r)(g:U6 (inC n) (Gd n) (some (fs,m)))(z:lsZ n 47 (some (fs,m))):Wp (Z3 R [.ref r,lsD (enC n) (some (fs,m))]) G λx G'=>Fd r G G'/\∃v,VD (n+2) x v:=by
 have bg:=big
 have g:=g fs m rfl
 have z:=z fs m rfl
 refine J6 (show Wp (PF R [some (.ref r),some (.tup [.tup (fs.map (enC n)),enC n m]),none]) G _ from ?_)
 unfold PF
 refine j6.mpr<| K9<| A7 (l:=fs.map (enC n)) (G1:=G) rfl (by rw[zg];lia)<| (n4 (Fd r G) (λσ=>∃u,σ= [u,some (.ref r)]) (λ_ y=>∃v,VD (n+1) y v) (λ_ _=>rfl) _ _ G ⟨_,rfl⟩ (Fd.refl h) ?_).mono ?_
 · rintro d hd _ G1 ⟨u,rfl⟩ f1
   obtain⟨a,ha,rfl⟩:=zI.mp hd
   exact N6.mpr ⟨rfl,⟨_,rfl⟩,m6 (as:= [.ref r,enC n a]) rfl rfl<| ih.some f1.2.2 (g.2 a ha).1 (z.2.2 a ha) (g.2 a ha).2 λx G2 f2 hx=>⟨f1.trans f2,hx⟩⟩
 rintro _ G1 ⟨f1,zs,e1,rfl,hz⟩
 have l1:(zs.map (·.2)).length<=47:=by
  rw[zg,<-zg (f:=(·.1)),e1,zg];exact z.1
 have h1:∀d∈zs.map (·.2),∃v,VD (n+1) d v:=λd hd=>by
  obtain⟨x,hx,rfl⟩:=zI.mp hd
  exact hz x hx
 generalize zs.map (·.2)=ys at l1 h1
 have f2:Fd r G (G1++[.lst ys]):=f1.trans (Fd.app f1.2.2)
 have hp:G1.length≠r:=by have:=f1.2.2.lt;lia
 have e2:(G1++[.lst ys])[G1.length]? =some (.lst ys):=j7
 generalize G1.length=p at hp e2
 generalize G1++[DO.lst ys]=G2 at f2 e2
 have last:∀(p':Nat) (ws:List D) (G3:DH),Fd r G G3->G3[p']? =some (.lst ws)->ws.length<=500->(∀d∈ws,∃v,VD (n+1) d v)->Wp (o4 (M4 (d0 (cE (.str ("list" :Str))) (d0 (x0 O4 (d0 (b8 2) g0)) g0))) [some (.ref r),some (.tup [.tup (fs.map (enC n)),enC n m]),some (.ref p')]) G3 (DL.PB λx G'=>Fd r G G'/\∃v,VD (n+2) x v):=λp' ws G3 f e hl hw=>
  J1<| S7.mpr<| R0 (x:=.str b9) rfl<| m9<| N3 (as:= [.ref p']) rfl<| (K8 e).mpr<| m8.mpr ⟨sz,v9 ⟨f,gH hl hw⟩⟩
 obtain⟨b,eb,hb⟩:=kC (by lia) G2 m g.1
 refine j6.mpr<| C0<| K4<| J4 (x:=enC n m) (y:=F0) rfl rfl<| cA.mpr ⟨b,eb,_,rfl,λhm=>?_,λ_=>t7.mpr (last p ys G2 f2 e2 (by lia) h1)⟩
 have hm:∃v,inC n m v:=ji λno=>by
  rw[hb.mpr λv hv=>no ⟨v,hv⟩]at hm;cases hm
 refine K9<| bin_w<| d8 (a:=.ref p) (G':=G2) rfl<| wp_comp.mpr<| rng1.mpr<| m9<| bin_w<| m6 (as:= [.ref r]) rfl rfl<| W7 f2.2.2 λk G3 f3=>d8 (a:=.int 3) (G':=G3) rfl<| (u6 (by decide)).mpr<| m8.mpr<| (rng1_int ⟨by lia,by lia⟩).mpr ?_
 have hk0:0<=(k:Int) % 3:=jf _ (by decide)
 have hk3:(k:Int) % 3<3:=jd _ (by decide)
 have ln:(K3 0 ((k:Int) % 3).toNat).length<=3:=by unfold K3;rw[zg,jN];lia
 refine⟨by dsimp only;lia,(n4 (Fd r G3) (λσ=>∃u,σ= [u,some (.tup [.tup (fs.map (enC n)),enC n m]),some (.ref r)]) (λ_ y=>∃v,VD (n+1) y v) (λ_ _=>rfl) _ _ G3 ⟨_,rfl⟩ (Fd.refl f3.2.2) ?_).mono ?_⟩
 · rintro d hd _ G4 ⟨u,rfl⟩ f4
   exact N6.mpr ⟨rfl,⟨_,rfl⟩,m6 (as:= [.ref r,enC n m]) rfl rfl<| ih.some f4.2.2 g.1 z.2.1 hm λx G5 f5 hx=>⟨f4.trans f5,hx⟩⟩
 rintro _ G4 ⟨f4,zs,e3,rfl,hz⟩
 have l2:(zs.map (·.2)).length<=3:=by
  rw[zg,<-zg (f:=(·.1)),e3];exact ln
 have f5:Fd r G2 (G4++[.lst (zs.map (·.2))]):=f3.trans (f4.trans (Fd.app f4.2.2))
 refine(WG (f5.at hp e2) j7 (by lia)).mpr ?_
 refine last _ (ys++zs.map (·.2)) _ (f2.trans (f5.trans (Fd.app f5.2.2))) j7 (by rw[zA];lia) λd hd=>?_
 rcases zW.mp hd with hd|hd
 ·exact h1 d hd
 · obtain⟨x,hx,rfl⟩:=zI.mp hd
   exact hz x hx
end
section
variable{n r:Nat}{R:List D->M D}{G:DH}
theorem FN{WN σ4:Option D}{A:D}{p:Nat}(f:Fd r G0 G)(e:G[p]? =some (.dct [])):Wp (RL [some (.ref r),some A,some (.ref p),WN,σ4]) G (DL.PB λx G'=>Fd r G0 G'/\∃v,VD (n+2) x v):=by
 refine J1<| S7.mpr<| R0 (x:=.str aB) rfl<| m9<| N8<| m9<| wp_comp.mpr<| wp_itW.mpr<| N3 (as:= [.ref p]) rfl<| (bL (ss:= []) e rfl (by decide)).mpr ?_
 rw[show (B2 []).map D.str= [] by unfold B2;simp]
 refine(P6 j7).mpr ⟨sz,Z8.mpr ⟨D6 j7,m8.mpr<| (K8 j7).mpr<| m8.mpr ⟨sz,v9 ⟨?_,?_⟩⟩⟩⟩
 ·exact f.trans ((Fd.app f.2.2).trans (Fd.app (Fd.app f.2.2).2.2))
 ·exact PJ (ps:= []) (by decide) .nil (λ_ h=>nomatch h)
theorem fT7{WN σ4:Option D}{A:D}{p:Nat}{z:Str}{d:D}(f:Fd r G0 G)(e:G[p]? =some (.dct [(.inr z,d)]))(hd:∃v,VD (n+1) d v):Wp (RL [some (.ref r),some A,some (.ref p),WN,σ4]) G (DL.PB λx G'=>Fd r G0 G'/\∃v,VD (n+2) x v):=by
 refine J1<| S7.mpr<| R0 (x:=.str aB) rfl<| m9<| N8<| m9<| wp_comp.mpr<| wp_itW.mpr<| N3 (as:= [.ref p]) rfl<| (bL (ss:= [z]) e rfl (by simp)).mpr ?_
 have es:(B2 [z]).map D.str= [.str z]:=by unfold B2;simp
 rw[es]
 have e1:(G++[.lst [.str z]])[p]? =some (.dct [(.inr z,d)]):=O9 e
 refine(P6 j7).mpr ⟨sz,mG.mpr ⟨D6 j7,N6.mpr<| d8 (a:=true) rfl ?_⟩⟩
 rw[if_pos rfl]
 refine S7.mpr<| R0 (x:=.str z) rfl<| m9<| J4 (x:=.ref p) (y:=.str z) rfl rfl<| (KS (d:=d) e1 (by simp[u3])).mpr<| m8.mpr ⟨sz,Z8.mpr ⟨D6 j7,m8.mpr<| (K8 j7).mpr<| m8.mpr ⟨sz,v9 ⟨?_,?_⟩⟩⟩⟩
 ·exact f.trans ((Fd.app f.2.2).trans (Fd.app (Fd.app f.2.2).2.2))
 ·exact PJ (ps:= [(z,d)]) (by simp) (by simp) (λp hp=>by rw[zC.mp hp];exact hd)
theorem vU(hn:n<=6)(ih:VI n R){m:CS n}(h:Dr G r)(g:Gd n m)(z:SzC n 47 m):Wp (U5 R [.ref r,.tup [.tup [],enC n m]]) G λx G'=>Fd r G G'/\∃v,VD (n+2) x v:=by
 have bg:=big
 refine J6 (show Wp (iG R [some (.ref r),some (.tup [.tup [],enC n m]),none,none,none]) G _ from ?_)
 unfold iG
 refine J0 (X1:= [some (.ref r),some (.tup [.tup [],enC n m]),some (.ref G.length),none,none]) (G':=G++[.dct []]) rfl ?_
 have f0:Fd r G (G++[.dct []]):=Fd.app h
 have f1:Fd r G (G++[.dct []]++[.lst [.str "q",.str "a",.str "ba",.str "z"]]):=f0.trans (Fd.app f0.2.2)
 have hp:G.length≠r:=by have:=h.lt;lia
 have e1:(G++[DO.dct []]++[DO.lst [.str "q",.str "a",.str "ba",.str "z"]])[G.length]? =some (.dct []):=O9 j7
 have eL:(G++[DO.dct []]++[DO.lst [.str "q",.str "a",.str "ba",.str "z"]])[(G++[DO.dct []]).length]? =some (.lst [.str "q",.str "a",.str "ba",.str "z"]):=j7
 have hL:(G++[DO.dct []]).length≠r:=by have:=f0.2.2.lt;lia
 refine j6.mpr<| K9<| bin_w<| T2.mpr<| d8 (a:= [.str "q",.str "a",.str "ba",.str "z"]) (G':=G++[.dct []]) rfl ⟨sz,?_⟩
 refine bin_w<| m6 (as:= [.ref r]) rfl rfl<| W7 f1.2.2 λk G2 f2=>d8 (a:=.int 4) (G':=G2) rfl<| (u6 (by decide)).mpr<| RC (f2.at hL eL) (jf _ (by decide)) (jd _ (by decide)) λd hd=>?_
 obtain⟨w,rfl⟩:∃w:Str,d= .str w:=by
  simp only[zt,zS,or_false]at hd
  rcases hd with rfl|rfl|rfl|rfl<;>exact⟨_,rfl⟩
 have e2:=f2.at hp e1
 have f2:=f1.trans f2
 refine J0 (X1:= [some (.ref r),some (.tup [.tup [],enC n m]),some (.ref G.length),some (.str w),none]) (G':=G2) rfl ?_
 obtain⟨b,eb,hb⟩:=kC (by lia) G2 m g
 refine j6.mpr<| C0<| i9<| K4<| J4 (x:=enC n m) (y:=F0) rfl rfl<| cA.mpr ⟨b,eb,_,rfl,λhm=>?_,λ_=>⟨λz=>(nomatch z),λ_=>t7.mpr (FN f2 e2)⟩⟩
 have hm:∃v,inC n m v:=ji λno=>by
  rw[hb.mpr λv hv=>no ⟨v,hv⟩]at hm;cases hm
 refine i9<| K4<| bin_w<| bin_w<| m6 (as:= [.ref r]) rfl rfl<| W7 f2.2.2 λj G3 f3=>d8 (a:=.int 2) (G':=G3) rfl<| (u6 (by decide)).mpr<| d8 (a:=.int 1) (G':=G3) rfl<| U0.mpr ⟨_,rfl,λ_=>?_,λ_=>⟨λz=>(nomatch z),λ_=>t7.mpr (FN (f2.trans f3) (f3.at hp e2))⟩⟩
 have e3:=f3.at hp e2
 have f3:=f2.trans f3
 refine K4<| bin_w<| d8 (a:=.str w) (G':=G3) rfl<| d8 (a:=.ref G3.length) (G':=G3++[.lst []]) rfl<| SJ.mpr ⟨false,eQ (s:= []) j7,_,rfl,λ_=>?_,λz=>(nomatch z)⟩
 have f4:Fd r G (G3++[.lst []]):=f3.trans (Fd.app f3.2.2)
 have e4:(G3++[DO.lst []])[G.length]? =some (.dct []):=O9 e3
 refine W6.mpr<| m6 (as:= [.ref r,enC n m]) rfl rfl<| ih.some f4.2.2 g z hm λx G5 f5 hx=>?_
 have e5:=f5.at hp e4
 refine eJ.mpr<| d8 (a:=.ref G.length) (G':=G5) rfl<| d8 (a:=.str w) (G':=G5) rfl<| (sZ e5 (by show 0<_;lia)).mpr ?_
 exact fT7 (z:=w) (d:=x) (Fd.put (f4.trans f5) (zn _) hp) (by rw[zN (lt_of_get e5)];rfl) hx
end
section
variable{n:Nat}{G:DH}{s:Pt (CS n)}
def noP(s:Pt (CS n)):Nat->Prop
 |0=>s.ns= []
 |1=>s.b=true/\s.ss= []
 |2=>s.bs= []
 |3=>s.ls=none
 |_=>s.rs=none
theorem tM(hn:n<=6)(k:Nat)(hk:k<5):∃x y,(fiv (enC n) s)[k]? =some x/\(fiv (enC n) (S2 (CS n)))[k]? =some y/\Z4 40 G x y (noP s k):=by
 have ta:WA (enC n) (4*n):=KD n
 match k,hk with
 |0,_=>exact⟨_,_,rfl,rfl,(Z4.tup (n:=39) (W4.map LP s.ns [])).iff Iff.rfl⟩
 |1,_=>exact⟨_,_,rfl,rfl,TR (n:=37) s.b true s.ss []⟩
 |2,_=>exact⟨_,_,rfl,rfl,(Z4.tup (n:=39) (W4.map lI s.bs [])).iff Iff.rfl⟩
 |3,_=>exact⟨_,_,rfl,rfl,by
    have:=rR ta (35-4*n) G s.ls none
    rwa [show 35-4*n+(4*n+5)=40 by lia]at this⟩
 |4,_=>exact⟨_,_,rfl,rfl,by
    have:=PK ta (34-4*n) G s.rs none
    rwa [show 34-4*n+(4*n+6)=40 by lia]at this⟩
def wyB(G:DH)(s:Pt (CS n)):D->Bool
 | .int i=> !(eqN 40 G ((atI (fiv (enC n) s) i).getD .non) ((atI (fiv (enC n) (S2 (CS n))) i).getD .non)).getD false
 |_=>false
theorem FX(hn:n<=6):N7 (y0 0) (m7 (c7 neD (c7 ixD (b8 2) (b8 0)) (c7 ixD (b8 1) (b8 0)))) (b8 0) (λ_=>true) (K3 0 (5:Int).toNat) (U9 [none,some 2,some 1] [a0,some (.tup (fiv (enC n) s)),some (.tup (fiv (enC n) (S2 (CS n)))),a3,a4,a5]) G=some (.ok ((K3 0 (5:Int).toNat).filter (wyB G s)),G):=by
 refine U8 rfl (λσ=>∃u,σ= [u,some (.tup (fiv (enC n) (S2 (CS n)))),some (.tup (fiv (enC n) s))]) _ _ ⟨_,rfl⟩ λd hd σ WR=>?_
 obtain⟨k,hk,rfl⟩:=zI.mp hd
 obtain⟨u,rfl⟩:=WR
 rw[Zh]
 obtain⟨x,y,e1,e2,b,e3,_⟩:=tM (G:=G) (s:=s) hn k (Zl.mp hk)
 refine⟨[some (.int (k:Int)),_,_],rfl,⟨_,rfl⟩,X6 ?_,rfl⟩
 refine K4<| bin_w<| J4 (x:=.tup (fiv (enC n) s)) (y:=.int (k:Int)) rfl rfl<| ix_tup.mpr ⟨x,atI_nat e1,?_⟩
 refine J4 (x:=.tup (fiv (enC n) (S2 (CS n)))) (y:=.int (k:Int)) rfl rfl<| ix_tup.mpr ⟨y,atI_nat e2,cA.mpr ⟨b,e3,_,rfl,?_,rfl⟩⟩
 show (!b)= !(eqN 40 G ((atI (fiv (enC n) s) (k:Int)).getD .non) ((atI (fiv (enC n) (S2 (CS n))) (k:Int)).getD .non)).getD false
 rw[atI_nat e1,atI_nat e2]
 show (!b)= !(eqN 40 G x y).getD false
 rw[e3];rfl
theorem VV(hn:n<=6){d:D}:d∈(K3 0 (5:Int).toNat).filter (wyB G s)↔∃k:Nat,k<5/\d= .int (k:Int)/\¬noP s k:=by
 have one:∀k:Nat,k<5->(wyB G s (.int (k:Int))=true↔¬noP s k):=λk hk=>by
  obtain⟨x,y,e1,e2,b,e3,hb⟩:=tM (G:=G) (s:=s) hn k hk
  show (!(eqN 40 G ((atI (fiv (enC n) s) (k:Int)).getD .non) ((atI (fiv (enC n) (S2 (CS n))) (k:Int)).getD .non)).getD false)=true↔_
  rw[atI_nat e1,atI_nat e2]
  show (!(eqN 40 G x y).getD false)=true↔_
  rw[e3,<-hb]
  cases b<;>simp
 rw[jw]
 constructor
 · rintro⟨h1,h2⟩
   obtain⟨k,hk,rfl⟩:=zI.mp h1
   have hk:k<5:=Zl.mp hk
   rw[Zh]at h2 ⊢
   exact⟨k,hk,rfl,(one k hk).mp h2⟩
 · rintro⟨k,hk,rfl,h⟩
   exact⟨zI.mpr ⟨k,Zl.mpr hk,by rw[Zh]⟩,(one k hk).mpr h⟩
theorem eU0(h:∀k,k<5->noP s k)(v:NV):¬E7 (inC n) s v:=by
 have h0:s.ns= []:=h 0 (by decide)
 have h1:s.b=true/\s.ss= []:=h 1 (by decide)
 have h2:s.bs= []:=h 2 (by decide)
 have h3:s.ls=none:=h 3 (by decide)
 have h4:s.rs=none:=h 4 (by decide)
 have:s=S2 (CS n):=by
  obtain⟨ns,b,ss,bs,ls,rs⟩:=s
  cases h0;cases h1.1;cases h1.2;cases h2;cases h3;cases h4;rfl
 rw[this]
 exact MG v
end
theorem qT(e:G[p]? =some (.lst l))(h:l.length<=zo)(q:Q (.int (l.length:Int)) G):Wp (X7 [.ref p]) G Q:=(LH e).mpr q
theorem GH:∀n N,n<N->n<=6->VI n (Q6 N)
 |n,N+1,hN,hn=>λc G r h g z=>by
   have bg:=big
   have any:Wp (Q6 (N+1) [.ref r,.str E2]) G λx G'=>Fd r G G'/\((x= .non/\∀v,¬inC n c v)\/∃v,VD (n+1) x v):=by
    refine J6 (show Wp (Q4 (Q6 N) [some (.ref r),some (.str E2),none,none,none,none]) G _ from ?_)
    unfold Q4
    exact j6.mpr<| A3 (G1:=G) rfl<| J1<| m6 (as:= [.ref r,.int 1]) rfl rfl<| (qI 5 1 G (by decide) h).mono λx G' ⟨⟨v,hv⟩,f⟩=>v9 ⟨f,.inr ⟨v,hv.mono (by lia)⟩⟩
   rcases n with _|n
   ·exact any
   rcases c with _|s
   ·exact any
   clear any
   have ih:=GH n N (by lia) (by lia)
   have z:=z s rfl
   refine J6 (show Wp (Q4 (Q6 N) [some (.ref r),some (.tup (fiv (enC n) s)),none,none,none,none]) G _ from ?_)
   unfold Q4
   refine J0 (X1:= [some (.ref r),some (.tup (fiv (enC n) s)),none,none,none,none]) (G':=G) rfl<| J0 (X1:= [some (.ref r),some (.tup (fiv (enC n) s)),some (.tup (fiv (enC n) (S2 (CS n)))),none,none,none]) (G':=G) rfl ?_
   refine j6.mpr<| K9<| IF (j:=5) (G1:=G) rfl (by decide) (by decide)<| d8 (FX (by lia)) ?_
   have wm:∀d,d∈(K3 0 (5:Int).toNat).filter (wyB G s)↔_:=λd=>VV (by lia)
   have wl:((K3 0 (5:Int).toNat).filter (wyB G s)).length<=5:=yf _ _
   generalize (K3 0 (5:Int).toNat).filter (wyB G s)=ws at wm wl
   have f1:Fd r G (G++[.lst ws]):=Fd.app h
   have hp:G.length≠r:=by have:=h.lt;lia
   have f2:Fd r G (G++[.lst ws]++[.lst []]):=f1.trans (Fd.app f1.2.2)
   have e2:(G++[DO.lst ws]++[DO.lst []])[G.length]? =some (.lst ws):=O9 j7
   refine j6.mpr<| C0<| K4<| bin_w<| d8 (a:=.ref G.length) (G':=G++[.lst ws]) rfl<| d8 (a:=.ref (G++[DO.lst ws]).length) (G':=G++[.lst ws]++[.lst []]) rfl<| (eI e2 j7).mpr ⟨_,rfl,λhw=>?_,λhw=>t7.mpr ?_⟩
   · refine J1<| d8 (a:=.non) rfl (v9 ⟨f2,.inl ⟨rfl,λv=>eU0 (λk hk=>ji λno=>?_) v⟩⟩)
     have:=(wm _).mpr ⟨k,hk,rfl,no⟩
     rw[List.isEmpty_iff.mp hw]at this
     cases this
   have hne:ws≠ []:=λe=>by rw[e]at hw;cases hw
   generalize G++[DO.lst ws]++[DO.lst []]=G2 at f2 e2
   refine j6.mpr<| K9<| m6 (as:= [.ref r]) rfl rfl<| W7 f2.2.2 λj G3 f3=>?_
   have e3:=f3.at hp e2
   have f3:=f2.trans f3
   refine j6.mpr<| K9<| bin_w<| d8 (a:=.ref G.length) (G':=G3) rfl<| bin_w<| d8 (a:=.int (j:Int)) (G':=G3) rfl<| N3 (as:= [.ref G.length]) rfl<| qT e3 (by lia)<| (u6 (CF hne)).mpr<| RC e3 (aA hne).1 (aA hne).2 λd hd=>?_
   obtain⟨k,hk,rfl,no⟩:=(wm d).mp hd
   have ok:∀ {x G'},Fd r G3 G'->(∃v,VD (n+2) x v)->(DL.PB λx G'=>Fd r G G'/\((x= .non/\∀v,¬inC (n+1) (some s) v)\/∃v,VD (n+2) x v)) (.rt x) G':=λf hv=>v9 ⟨f3.trans f,.inr hv⟩
   have h3:=f3.2.2
   have ej:(j:Int) / 5= ((j / 5:Nat):Int):=by lia
   match k,hk,no with
   |0,_,no=>
     refine j6.mpr<| A3 (G1:=G3) rfl<| J1<| N8<| R0 (x:=.tup (rsD s.ns)) rfl<| m9<| J4 (x:=.int (j:Int)) (y:=.int 5) rfl rfl<| (M7 ⟨by decide,by decide⟩).mpr<| m8.mpr<| V7.mpr ⟨rfl,?_⟩
     rw[ej]
     refine(Rv g.1.ns no).mono ?_
     rintro _ G4 ⟨⟨t,rfl⟩,i,rfl⟩
     exact ok (Fd.app h3) ⟨_,.num⟩
   |1,_,no=>
     refine J0 (X1:= [_,_,_,_,_,_]) (G':=G3) rfl<| j6.mpr<| A3 (G1:=G3) rfl<| J1<| N8<| R0 (x:=S0 s.b s.ss) rfl<| m9<| J4 (x:=.int (j:Int)) (y:=.int 5) rfl rfl<| (M7 ⟨by decide,by decide⟩).mpr<| m8.mpr<| V7.mpr ⟨rfl,?_⟩
     rw[ej]
     refine(Lm z.tx no).mono ?_
     rintro _ G4 ⟨⟨t,rfl⟩,i,rfl⟩
     exact ok (Fd.app h3) ⟨_,.txt⟩
   |2,_,no=>
     have hb:s.bs.map D.bl≠ []:=λe=>no (Yo.mp e)
     refine J0 (X1:= [_,_,_,_,_,_]) (G':=G3) rfl<| J0 (X1:= [_,_,_,_,_,_]) (G':=G3) rfl<| j6.mpr<| A3 (G1:=G3) rfl<| J1<| bin_w<| d8 (a:=.tup (s.bs.map D.bl)) (G':=G3) rfl<| bin_w<| J4 (x:=.int (j:Int)) (y:=.int 5) rfl rfl<| (M7 ⟨by decide,by decide⟩).mpr<| d8 (a:=.int ((s.bs.map D.bl).length:Int)) (G':=G3) rfl<| (u6 (CF hb)).mpr<| OJ (aA hb).1 (aA hb).2 λd hd=>?_
     obtain⟨b,_,rfl⟩:=zI.mp hd
     exact ok (Fd.refl h3) ⟨_,.tru⟩
   |3,_,no=>
     obtain⟨⟨fs,m⟩,hls⟩:∃q,s.ls=some q:=Xe.mp no
     have gl:=g.1.ls
     have zl:lsZ n 47 s.ls:=z.ls
     rw[hls]at gl zl
     refine J0 (X1:= [_,_,_,_,_,_]) (G':=G3) rfl<| J0 (X1:= [_,_,_,_,_,_]) (G':=G3) rfl<| J0 (X1:= [_,_,_,_,_,_]) (G':=G3) rfl<| j6.mpr<| A3 (G1:=G3) rfl<| J1<| m6 (as:= [.ref r,lsD (enC n) s.ls]) rfl rfl ?_
     rw[hls]
     exact(NR (by lia) ih h3 gl zl).mono λx G' ⟨f,hv⟩=>ok f hv
   |4,_,no=>
     obtain⟨⟨fs,m⟩,hrs⟩:∃q,s.rs=some q:=Xe.mp no
     obtain⟨rfl,zm⟩:=z.rs fs m hrs
     refine J0 (X1:= [_,_,_,_,_,_]) (G':=G3) rfl<| J0 (X1:= [_,_,_,_,_,_]) (G':=G3) rfl<| J0 (X1:= [_,_,_,_,_,_]) (G':=G3) rfl<| j6.mpr<| oA (G1:=G3) rfl<| t7.mpr<| J1<| m6 (as:= [.ref r,rcD (enC n) s.rs]) rfl rfl ?_
     rw[hrs]
     exact(vU (by lia) ih h3 (g.1.rs _ m hrs).1 zm).mono λx G' ⟨f,hv⟩=>ok f hv
def LS(b:Option (List (CS 1)×CS 1)):CS 2:=some ⟨[],true, [], [],b,none⟩
abbrev lsT(b:Option (List (CS 1)×CS 1)):D:=.tup [.tup [],S0 true [],.tup [],lsD (enC 1) b,.non]
theorem vB(h:U6 (inC 1) (Gd 1) b):Gd 2 (LS b):=⟨⟨⟨λ_ h=>(nomatch h),.nil⟩,.nil,show []∈B4 by decide,h,λ_ _ e=>(nomatch e)⟩,λh=>by
 obtain⟨p,hp,_⟩:=h (.num 0)
 cases hp⟩
theorem pD(h:lsZ 1 k b):SzC 2 k (LS b):=by
 rintro _ ⟨⟩
 exact⟨zQ _,zQ _,λ_ h=>(nomatch h),h,λ_ _ e=>(nomatch e)⟩
theorem lsZ.mono(hk:k<=l)(h:lsZ n k b):lsZ n l b:=λfs m e=>⟨zG (h fs m e).1 hk,SzC.mono hk (h fs m e).2.1,λa ha=>SzC.mono hk ((h fs m e).2.2 a ha)⟩
theorem UZ{fs:List (CS 1)}(e:G[q]? =some (.lst (fs.map (enC 1))))(hl:fs.length<=100)(hf:∀a∈fs,DC 1 a)(k:∀gs:List (CS 1),gs.length<=fs.length->(∀a∈gs,DC 1 a/\∃v,inC 1 a v)->Q (.ref G.length) (G++[.lst (gs.map (enC 1))])):Wp (OE [a0,a1,some (.ref q)]) G Q:=by
 have bg:=big
 have hc:N7 (y0 0) (m7 (c7 neD (b8 0) (x0 (fnX 0 J8) g0))) (b8 0) (ckO q (.lst (fs.map (enC 1)))) (fs.map (enC 1)) (U9 [none] [a0,a1,some (.ref q)]) G=some (.ok ((fs.map (enC 1)).filter λx=> !(eqN 40 G x F0).getD false),G):=by
  refine U8 (D6 e) (λσ=>∃u,σ= [u]) _ _ ⟨_,rfl⟩ λx hx σ WR=>?_
  obtain⟨a,ha,rfl⟩:=zI.mp hx
  obtain⟨u,rfl⟩:=WR
  obtain⟨b,e,_⟩:=IC (by decide) G a (cD 0)
  refine⟨[some (enC 1 a)],rfl,⟨_,rfl⟩,X6 (K4<| J4 (x:=enC 1 a) (y:=F0) rfl rfl<| cA.mpr ⟨b,e,_,rfl,?_,rfl⟩),rfl⟩
  rw[show eqN 40 G (enC 1 a) F0=some b from e]
  rfl
 have ef:((fs.map (enC 1)).filter λx=> !(eqN 40 G x F0).getD false)= (fs.filter λa=> !(eqN 40 G (enC 1 a) F0).getD false).map (enC 1):=by rw[xY];rfl
 refine wp_comp.mpr<| wp_itW.mpr<| d8 (a:=.ref q) (G':=G) rfl<| (P6 e).mpr ⟨by rw[zg];lia,d8 hc ?_⟩
 rw[ef]
 refine k _ (yf _ _) λa ha=>?_
 obtain⟨h1,h2⟩:=jw.mp ha
 refine⟨hf a h1,ji λno=>?_⟩
 obtain⟨b,e,i⟩:=kC (by decide) G a (hf a h1).1
 rw[show eqN 40 G (enC 1 a) F0=some b from e,i.mpr λv hv=>no ⟨v,hv⟩]at h2
 cases h2
theorem rM(h:Dr G r):Wp (Q7 [.ref r]) G λx G'=>Fd r G G'/\∃b,x=lsT b/\U6 (inC 1) (Gd 1) b/\lsZ 1 12 b:=by
 have bg:=big
 refine J6 (show Wp (kF [some (.ref r),none,none]) G _ from ?_)
 unfold kF
 refine j6.mpr<| K9<| m6 (as:= [.ref r,.int 1]) rfl rfl<| (IS (n:=58) G r h).mono ?_
 rintro _ G1 ⟨f1,b,rfl,gb,zb⟩
 have last:∀(b:Option (List (CS 1)×CS 1)) (G2:DH) (a2:Option D),Fd r G G2->U6 (inC 1) (Gd 1) b->lsZ 1 12 b->Wp (o4 (c7 T7 (B5 (x0 (fnX 0 J8) g0) (y6) (N2 (cE (.int 3)))) (M4 (d0 (b8 1) (d0 (cE .non) g0)))) [some (.ref r),some (lsD (enC 1) b),a2]) G2 (DL.PB λx G'=>Fd r G G'/\∃b,x=lsT b/\U6 (inC 1) (Gd 1) b/\lsZ 1 12 b):=λb G2 a2 f g z=>
  J1<| d8 (a:=lsT b) (G':=G2) rfl (v9 ⟨f,b,rfl,g,z⟩)
 rcases b with _|⟨fs,m⟩
 ·exact J0 (X1:= [some (.ref r),some .non,none]) (G':=G1) rfl (last none G1 none f1 gb (lsZ.mono (by decide) zb))
 refine j6.mpr<| C0<| i9<| d8 (a:=true) (G':=G1) rfl ⟨λ_=>K4<| bin_w<| bin_w<| m6 (as:= [.ref r]) rfl rfl<| W7 f1.2.2 λk G2 f2=>d8 (a:=.int 8) (G':=G2) rfl<| (u6 (by decide)).mpr<| d8 (a:=.int 1) (G':=G2) rfl<| U0.mpr ⟨_,rfl,λ_=>?_,λ_=>t7.mpr (last (some (fs,m)) G2 none (f1.trans f2) gb (lsZ.mono (by decide) zb))⟩,λz=>nomatch z⟩
 have f2:=f1.trans f2
 refine j6.mpr<| K9<| IF (j:=12) (G1:=G2) rfl (by decide) (by decide)<| (n4 (Fd r G2) (λσ=>∃u,σ= [u,some (.ref r)]) (λ_ y=>∃c,y=enC 1 c/\DC 1 c) (λ_ _=>rfl) _ _ G2 ⟨_,rfl⟩ (Fd.refl f2.2.2) ?_).mono ?_
 · rintro d hd _ G3 ⟨u,rfl⟩ f3
   refine N6.mpr ⟨rfl,⟨_,rfl⟩,m6 (as:= [.ref r,.int 0]) rfl rfl<| (SR (n:=59) G3 r f3.2.2).mono ?_⟩
   rintro _ G4 ⟨f4,c,rfl,hc⟩
   exact⟨f3.trans f4,c,rfl,hc⟩
 rintro _ G3 ⟨f3,zs,e1,rfl,hz⟩
 obtain⟨cs,e2,e3,e4⟩:=rA (β:=CS 1) (e:=enC 1) (P:=λ_ c=>DC 1 c) zs hz
 rw[e2]
 have hl:cs.length=12:=by rw[e3,<-zg (f:=(·.1)),e1];rfl
 have hf:∀a∈cs,DC 1 a:=λa ha=>by
  obtain⟨i,hi,rfl⟩:=jS.mp ha
  have hi':i<(zs.map (·.1)).length:=by rw[zg,<-e3];exact hi
  exact e4 i cs[i] _ (zi hi) (zi hi')
 have f4:Fd r G (G3++[.lst (cs.map (enC 1))]):=(f2.trans f3).trans (Fd.app f3.2.2)
 refine K9<| S7.mpr<| m9<| N8<| m9<| (show Wp (OE [some (.ref r),some (lsD (enC 1) (some (fs,m))),some (.ref G3.length)]) _ _ from UZ j7 (by lia) hf λgs lg hg=>m8.mpr<| (K8 j7).mpr<| R0 (x:=enC 1 m) rfl<| m8.mpr ⟨sz,?_⟩)
 refine last (some (gs,m)) _ _ (f4.trans (Fd.app f4.2.2)) ?_ ?_
 · rintro _ _ ⟨⟩
   exact⟨(gb fs m rfl).1,λa ha=>⟨(hg a ha).1.1,(hg a ha).2⟩⟩
 · rintro _ _ ⟨⟩
   exact⟨by lia,SzC.mono (by decide) (zb fs m rfl).2.1,λa ha=>SzC.mono (by decide) (hg a ha).1.2⟩
theorem pQ{fs:List (CS 1)}{m:CS 1}{i:Nat}:PD [lsD (enC 1) (some (fs,m)),.int (i:Int)] G=some (.ok (enC 1 (frt fs m i)),G):=X6<| by
 refine J6 (show Wp (GG [some (.tup [.tup (fs.map (enC 1)),enC 1 m]),some (.int (i:Int))]) G _ from ?_)
 unfold GG
 refine j6.mpr<| C0<| K4<| J4 (x:=.int (i:Int)) (y:=.int ((fs.map (enC 1)).length:Int)) rfl rfl<| pB.mpr ⟨_,rfl,λh=>?_,λh=>t7.mpr ?_⟩
 · have h:=of_decide_eq_true h
   rw[zg]at h
   have hi:i<fs.length:=by lia
   exact J1<| J4 (x:=.tup (fs.map (enC 1))) (y:=.int (i:Int)) rfl rfl<| ix_tup.mpr ⟨_,atI_nat (by rw[zV,zi hi];rfl),v9 ⟨by rw[D4 hi],rfl⟩⟩
 · have h:=of_decide_eq_false h
   rw[zg]at h
   exact J1<| d8 (a:=enC 1 m) (G':=G) rfl (v9 ⟨by rw[P4 (by lia)],rfl⟩)
section
variable{r p:Nat}{fs gs:List (CS 1)}{m l:CS 1}(g1:U6 (inC 1) (Gd 1) (some (fs,m)))(z1:lsZ 1 12 (some (fs,m)))(g2:U6 (inC 1) (Gd 1) (some (gs,l)))(z2:lsZ 1 12 (some (gs,l)))
include g1 z1 g2 z2
def BF(G:DH)(p:Nat)(k:Nat):Prop:=∃ws:List D,G[p]? =some (.lst ws)/\ws.length<=k/\∀d∈ws,∃v,VD 2 d v
theorem fP3{k i:Nat}{G:DH}{u:Option D}(hp:p≠r)(h:Dr G r)(w:BF G p k)(hk:k<=400):Wp (AB [some (.ref r),some (lsD (enC 1) (some (fs,m))),some (lsD (enC 1) (some (gs,l))),some (.ref p),some (.int (i:Int)),u]) G λfl G'=>Fd2 r p G G'/\BF G' p (k+1)/\∃u,fl= .nx [some (.ref r),some (lsD (enC 1) (some (fs,m))),some (lsD (enC 1) (some (gs,l))),some (.ref p),some (.int (i:Int)),u]:=by
 have bg:=big
 obtain⟨ws,e,lw,hw⟩:=w
 have f1:Fd r G (G++[.lst [enC 1 (frt fs m i),enC 1 (frt gs l i)]]):=Fd.app h
 have hL:G.length≠r:=by have:=h.lt;lia
 refine j6.mpr<| K9<| N8<| R0 (x:=.ref r) rfl<| m9<| bin_w<| T2.mpr<| m9<| m6 (as:= [lsD (enC 1) (some (fs,m)),.int (i:Int)]) rfl rfl<| d8 pQ<| m9<| m6 (as:= [lsD (enC 1) (some (gs,l)),.int (i:Int)]) rfl rfl<| d8 pQ<| m8.mpr ⟨sz,?_⟩
 refine bin_w<| m6 (as:= [.ref r]) rfl rfl<| W7 f1.2.2 λj G2 f2=>d8 (a:=.int 2) (G':=G2) rfl<| (u6 (by decide)).mpr<| RC (f2.at hL j7) (jf _ (by decide)) (jd _ (by decide)) λd hd=>m8.mpr<| V7.mpr ⟨rfl,?_⟩
 obtain⟨c,rfl,gc,zc⟩:∃c,d=enC 1 c/\Gd 1 c/\SzC 1 47 c:=by
  simp only[zt,zS,or_false]at hd
  rcases hd with rfl|rfl
  ·exact⟨_,rfl,FD (U6.raw g1) i,SzC.mono (by decide) (UD z1 i)⟩
  ·exact⟨_,rfl,FD (U6.raw g2) i,SzC.mono (by decide) (UD z2 i)⟩
 have f2:=f1.trans f2
 refine(GH 1 6 (by decide) (by decide) c G2 r f2.2.2 gc zc).mono ?_
 rintro x G3 ⟨f3,hx⟩
 have e3:=f3.at hp (f2.at hp e)
 have f3:=f2.trans f3
 rcases hx with⟨rfl,_⟩|⟨v,hv⟩
 ·exact oA (G1:=G3) rfl<| t7.mpr ⟨f3.two,⟨ws,e3,by lia,hw⟩,_,rfl⟩
 · have ex:m7 (c7 Q1 (b8 5) (cE .non)) [some (.ref r),some (lsD (enC 1) (some (fs,m))),some (lsD (enC 1) (some (gs,l))),some (.ref p),some (.int (i:Int)),some x] G3=some (.ok true,G3):=by
    rcases hv with _|_|_|_|_<;>rfl
   refine A3 (G1:=G3) ex<| nA.mpr<| l6.mpr<| d8 (a:=.ref p) (G':=G3) rfl<| (R1 e3).mpr<| d8 (a:= [x]) (G':=G3) rfl<| (GA e3 (by lia)).mpr ⟨f3.two.trans (Fd2.set hp f3.2.2),⟨ws++[x],zN (lt_of_get e3),by rw[zA,jD];lia,λd hd=>?_⟩,_,rfl⟩
   rcases zW.mp hd with hd|hd
   ·exact hw d hd
   ·rw[zC.mp hd];exact⟨v,hv⟩
theorem GL(hp:p≠r):∀(is:List Nat) (k:Nat) (u v:Option D) (G:DH),Dr G r->BF G p k->k+is.length<=300->Wp (T0 (y0 4) AB (λ_=>true) (is.map fun(i:Nat)=>D.int (0+(i:Int))) [some (.ref r),some (lsD (enC 1) (some (fs,m))),some (lsD (enC 1) (some (gs,l))),some (.ref p),u,v]) G λfl G'=>Fd2 r p G G'/\BF G' p 300/\∃u v,fl= .nx [some (.ref r),some (lsD (enC 1) (some (fs,m))),some (lsD (enC 1) (some (gs,l))),some (.ref p),u,v]
 |[],k,u,v,G,h,w,hk=>lB.mpr ⟨rfl,(Fd.refl h).two,w.elim λws e=>⟨ws,e.1,zG e.2.1 (by simp at hk;lia),e.2.2⟩,_,_,rfl⟩
 |i::is,k,u,v,G,h,w,hk=>by
   rw[zT]at hk
   rw[zU,Zh]
   refine HB.mpr ⟨rfl,N6.mpr<| (fP3 g1 z1 g2 z2 hp h w (by lia)).mono ?_⟩
   rintro _ G1 ⟨f1,w1,u1,rfl⟩
   refine(GL hp is (k+1) _ _ G1 f1.2.2 w1 (by lia)).mono ?_
   rintro _ G2 ⟨f2,w2,u2,v2,rfl⟩
   exact⟨f1.trans f2,w2,_,_,rfl⟩
end
theorem lW(h:Dr G r)(g1:U6 (inC 1) (Gd 1) b)(z1:lsZ 1 12 b)(g2:U6 (inC 1) (Gd 1) c)(z2:lsZ 1 12 c):Wp (qG [.ref r,lsD (enC 1) b,lsD (enC 1) c]) G λx G'=>Fd r G G'/\∃v,VD 3 x v:=by
 refine J6 (show Wp (gF [some (.ref r),some (lsD (enC 1) b),some (lsD (enC 1) c),none,none,none]) G _ from ?_)
 rw[show gF=j8 (ifS (orT (m7 (c7 E1 (b8 1) (cE .non))) (m7 (c7 E1 (b8 2) (cE .non)))) (o4 (M4 (d0 (cE (.str ("list" :Str))) (d0 (M4 g0) g0)))) o9) (j8 (u9 (R7 g0) (y0 3)) (j8 (B3 (R3 (d0 (c7 T7 (c7 F2 (x0 gA (d0 (x0 X7 (d0 (c7 ixD (b8 1) (cE (.int 0))) g0)) (d0 (x0 X7 (d0 (c7 ixD (b8 2) (cE (.int 0))) g0)) g0))) (cE (.int 1))) (c7 K5 (x0 (fnX 1 v7) (d0 (b8 0) g0)) (cE (.int 4)))) g0)) (y0 4) AB) (o4 (M4 (d0 (cE (.str ("list" :Str))) (d0 (x0 O4 (d0 (b8 3) g0)) g0))))))from rfl]
 have none_:∃v,VD 3 (.tup [.str b9,.tup []]) v:=gH (by decide) (λ_ h=>nomatch h)
 rcases b with _|⟨fs,m⟩
 ·exact cC (d:=.tup [.str b9,.tup []]) (G':=G) rfl (v9 ⟨Fd.refl h,none_⟩)
 rcases c with _|⟨gs,l⟩
 ·exact cC (d:=.tup [.str b9,.tup []]) (G':=G) rfl (v9 ⟨Fd.refl h,none_⟩)
 have l1:=(z1 fs m rfl).1
 have l2:=(z2 gs l rfl).1
 generalize hA:lsD (enC 1) (some (fs,m))=A
 generalize hB:lsD (enC 1) (some (gs,l))=B
 have A0:A= .tup [.tup (fs.map (enC 1)),enC 1 m]:=hA.symm
 have B0:B= .tup [.tup (gs.map (enC 1)),enC 1 l]:=hB.symm
 refine J0 (X1:= [some (.ref r),some A,some B,none,none,none]) (G':=G) (by rw[A0,B0];rfl)<| J0 (X1:= [some (.ref r),some A,some B,some (.ref G.length),none,none]) (G':=G++[.lst []]) rfl ?_
 have em:gA [.int ((fs.map (enC 1)).length:Int),.int ((gs.map (enC 1)).length:Int)] (G++[.lst []])=some (.ok (.int ((max fs.length gs.length:Nat):Int)),G++[.lst []]):=by
  rw[zg,zg]
  show some (Except.ok (D.int (if (gs.length:Int)>(fs.length:Int)then (gs.length:Int)else (fs.length:Int))),G++[DO.lst []])=_
  congr 4
  split<;>lia
 have f0:Fd r G (G++[.lst []]):=Fd.app h
 have hp:G.length≠r:=by have:=h.lt;lia
 refine j6.mpr<| pC.mpr<| rng1.mpr<| m9<| bin_w<| bin_w<| N3 (as:= [.int ((fs.map (enC 1)).length:Int),.int ((gs.map (enC 1)).length:Int)]) (by rw[A0,B0];rfl)<| d8 em<| d8 (a:=.int 1) rfl<| eB.mpr<| bin_w<| m6 (as:= [.ref r]) rfl rfl<| W7 f0.2.2 λj G2 f2=>d8 (a:=.int 4) (G':=G2) rfl<| (u6 (by decide)).mpr<| P7.mpr<| m8.mpr ?_
 have j0:0<=(j:Int) % 4:=jf _ (by decide)
 have j4:(j:Int) % 4<4:=jd _ (by decide)
 refine(rng1_int ⟨by lia,by lia⟩).mpr ?_
 generalize hn:(((max fs.length gs.length:Nat):Int)-1+(j:Int) % 4).toNat=q
 have hq:q<=20:=by lia
 rw[<-hA,<-hB]
 refine(GL g1 z1 g2 z2 hp (jC q) 0 none none G2 f2.2.2 ⟨[],f2.at hp j7,zn _,λ_ h=>nomatch h⟩ (by rw[jN];lia)).mono ?_
 rintro _ G3 ⟨f3,⟨ws,e3,lw,hw⟩,u,v,rfl⟩
 refine J1<| S7.mpr<| R0 (x:=.str b9) rfl<| m9<| N3 (as:= [.ref G.length]) rfl<| (K8 e3).mpr<| m8.mpr ⟨sz,v9 ⟨(f0.trans f2).thru f3 (zn _),gH (by lia) hw⟩⟩
theorem Gr.fd{r:Nat}{G G1 G2:DH}(h:Gr G G1)(f:Fd r G1 G2)(hr:G.length<=r):Gr G G2:=⟨zG h.1 f.1,λi hi=>by rw[f.2.1 i (by lia) (by have:=h.1;lia),h.2 i hi]⟩
theorem Dr.ap{G G':DH}{r:Nat}(h:Dr G r)(a:Ap G G'):Dr G' r:=by
 obtain⟨t,rfl⟩:=a
 exact h.app
theorem Fd.ap{G G':DH}{r:Nat}(h:Dr G r)(a:Ap G G'):Fd r G G':=by
 obtain⟨t,rfl⟩:=a
 exact Fd.app h
theorem wj{b c:Option (List (CS 1)×CS 1)}{m:CS 2}(h:IsM (inC 2) (Gd 2) (LS b) (LS c) m):∃e,m=LS e/\U6 (inC 1) (Gd 1) e:=by
 have no:∀v,inC 2 m v->∃n f,v= .lst n f:=λv hv=>by
  have:=((h.i v).mp hv).1
  rcases v with i|z|k|⟨n,f⟩|⟨q,f⟩
  ·obtain⟨p,hp,_⟩:=this;cases hp
  ·exact absurd (show z∈([]:List Str)from this) (by simp)
  ·exact absurd (show k∈([]:List Bool)from this) (by simp)
  ·exact⟨n,f,rfl⟩
  ·exact absurd this W5
 rcases m with _|s
 ·obtain⟨n,f,e⟩:=no (.num 0) trivial;cases e
 have gl:=h.g.1.ls
 refine⟨s.ls,gB 2 _ _ h.g (vB gl) λv=>?_,gl⟩
 constructor
 · intro hv
   obtain⟨n,f,rfl⟩:=no v hv
   exact hv
 · intro hv
   rcases v with i|z|k|⟨n,f⟩|⟨q,f⟩
   ·obtain⟨p,hp,_⟩:=hv;cases hp
   ·exact absurd (show z∈([]:List Str)from hv) (by simp)
   ·exact absurd (show k∈([]:List Bool)from hv) (by simp)
   ·exact hv
   ·exact absurd hv W5
def BW:Nat->Nat
 |0=>1
 |n+1=>300+49*BW n
theorem kH{l:List D}{k:Nat}(h:∀x∈l,szD x<=k):szL l<=l.length*k:=by
 induction l with
 |nil=>rw[szN];exact zQ _
 |cons d l ih=>
   rw[szC,zT,Ju]
   have:=h d (zK ..)
   have:=ih λx hx=>h x (zB _ hx)
   lia
theorem oF(z:Str):szD (.str z)=1:=by rw[szD]
theorem UV(z:Bool):szD (.bl z)=1:=by rw[szD]
theorem RM(a:Option Int):szD (H0 a)=1:=by rcases a with _|a<;>(show szD _=1;unfold H0;rw[szD])
theorem CL:∀(n:Nat) (c:CS n),SzC n 47 c->Gd n c->szD (enC n c)<=BW n
 |0,c,_,_=>by show szD (.str E2)<=1;rw[oF];exact zn _
 |n+1,c,z,g=>by
   rcases c with _|s
   · show szD (.str E2)<=_
     rw[oF];unfold BW;lia
   have z:=z s rfl
   have ih:=CL n
   show szD (.tup [.tup (rsD s.ns),S0 s.b s.ss,.tup (s.bs.map D.bl),lsD (enC n) s.ls,rcD (enC n) s.rs])<=300+49*BW n
   have k1:szD (.tup (rsD s.ns))<=1+47*3:=by
    rw[szT]
    have:=kH (l:=rsD s.ns) (k:=3) λx hx=>by
     obtain⟨p,_,rfl⟩:=zI.mp hx
     show szD (.tup [H0 p.1,H0 p.2])<=3
     rw[szT,szC,szC,szN,RM,RM]
     exact zn _
    rw[FG]at this
    have:=z.ns
    lia
   have k2:szD (S0 s.b s.ss)<=50:=by
    show szD (.tup [.str (wrd s.b),.tup (s.ss.map D.str)])<=50
    have:=kH (l:=s.ss.map D.str) (k:=1) λx hx=>by
     obtain⟨p,_,rfl⟩:=zI.mp hx
     rw[oF];exact zn _
    rw[zg]at this
    have:=z.ss
    rw[szT,szC,szC,szN,oF,szT]
    lia
   have k3:szD (.tup (s.bs.map D.bl))<=3:=by
    have:=kH (l:=s.bs.map D.bl) (k:=1) λx hx=>by
     obtain⟨p,_,rfl⟩:=zI.mp hx
     rw[UV];exact zn _
    rw[zg]at this
    have:=(show ∀a∈B4,a.length<=2 by decide) _ g.1.bs
    rw[szT];lia
   have k4:szD (lsD (enC n) s.ls)<=2+48*BW n:=by
    rcases hls:s.ls with _|⟨fs,m⟩
    ·show szD .non<=_;rw[szD];lia
    · have zl:=z.ls fs m hls
      have gl:=g.1.ls fs m hls
      show szD (.tup [.tup (fs.map (enC n)),enC n m])<=_
      have h1:=kH (l:=fs.map (enC n)) (k:=BW n) λx hx=>by
       obtain⟨a,ha,rfl⟩:=zI.mp hx
       exact ih a (zl.2.2 a ha) (gl.2 a ha).1
      rw[zg]at h1
      have h2:=ih m zl.2.1 gl.1
      have h3:fs.length*BW n<=47*BW n:=Nat.mul_le_mul_right _ zl.1
      rw[szT,szC,szC,szN,szT]
      lia
   have k5:szD (rcD (enC n) s.rs)<=2+BW n:=by
    rcases hrs:s.rs with _|⟨fs,m⟩
    ·show szD .non<=_;rw[szD];lia
    · obtain⟨rfl,zm⟩:=z.rs fs m hrs
      have h2:=ih m zm (g.1.rs _ m hrs).1
      show szD (.tup [.tup [],enC n m])<=_
      rw[szT,szC,szC,szN,szT,szN]
      lia
   rw[szT,szC,szC,szC,szC,szC,szN]
   lia
def VW(G:DH)(p k:Nat):Prop:=∃ws:List D,G[p]? =some (.lst ws)/\ws.length<=k/\∀d∈ws,∃v,VD 3 d v
theorem VW.fd{r p k:Nat}(h:VW G p k)(f:Fd r G G')(hp:p≠r):VW G' p k:=h.elim λws e=>⟨ws,f.at hp e.1,e.2⟩
theorem GJ{el:Fe}{caps:List (Option Nat)}{σ τ:DSt}{j:Nat}(hj:j<=100)(hc:U9 caps σ=none::τ)(h:Dr G r)(hs:∀(u:Option D) (G1:DH),Dr G1 r->Wp (el (u::τ)) G1 λx G2=>Fd r G1 G2/\∃v,VD 3 x v)(k:∀(G':DH) (ws:List D),Fd r G G'->ws.length<=j->(∀d∈ws,∃v,VD 3 d v)->Q (.ref G'.length) (G'++[.lst ws])):Wp (J5 (R3 (d0 (cE (.int (j:Int))) g0)) caps (y0 0) M5 el σ) G Q:=by
 refine IF (j:=(j:Int)) (G1:=G) rfl (by lia) (by lia) ?_
 rw[hc]
 refine(n4 (Fd r G) (λσ=>∃u,σ=u::τ) (λ_ y=>∃v,VD 3 y v) (λ_ _=>rfl) _ _ G ⟨none,rfl⟩ (Fd.refl h) ?_).mono ?_
 · rintro d hd _ G1 ⟨u,rfl⟩ f1
   exact N6.mpr ⟨rfl,⟨_,rfl⟩,(hs _ G1 f1.2.2).mono λx G2 ⟨f2,hx⟩=>⟨f1.trans f2,hx⟩⟩
 · rintro _ G1 ⟨f1,zs,e1,rfl,hz⟩
   refine k G1 _ f1 ?_ λd hd=>?_
   · rw[zg,<-zg (f:=(·.1)),e1]
     unfold K3
     rw[zg,jN,jF]
     exact zn _
   · obtain⟨x,hx,rfl⟩:=zI.mp hd
     exact hz x hx
abbrev OkL(b:Option (List (CS 1)×CS 1)):Prop:=U6 (inC 1) (Gd 1) b/\lsZ 1 24 b
section
variable{r:Nat}{b c e:Option (List (CS 1)×CS 1)}
theorem Pm{s0 a6 a7:Option D}{p k:Nat}{d:Option (List (CS 1)×CS 1)}(hd:OkL d)(h:Dr G r)(hp:p≠r)(w:VW G p k)(hk:k<=200):Wp (LB [s0,some (lsT b),some (lsT c),some (.ref r),some (lsT e),some (.ref p),some (lsT d),a7]) G λfl G'=>Fd r G G'/\∃p',p'≠r/\VW G' p' (k+3)/\fl= .nx [s0,some (lsT b),some (lsT c),some (.ref r),some (lsT e),some (.ref p'),some (lsT d),a7]:=by
 have bg:=big
 rcases d with _|⟨fs,m⟩
 ·exact oA (G1:=G) rfl<| t7.mpr ⟨Fd.refl h,p,hp,w.elim λws q=>⟨ws,q.1,by lia,q.2.2⟩,rfl⟩
 refine A3 (G1:=G) rfl<| K9<| bin_w<| d8 (a:=.ref p) (G':=G) rfl<| GJ (j:=3) (r:=r) (τ:= [some (.ref r),some (lsT (some (fs,m)))]) (by decide) rfl h (λu G1 h1=>?_) λG1 ws f1 l1 h1=>?_
 ·exact m6 (as:= [.ref r,lsD (enC 1) (some (fs,m))]) rfl rfl<| NR (by decide) (GH 1 6 (by decide) (by decide)) h1 hd.1 (lsZ.mono (by decide) hd.2)
 obtain⟨us,e1,l2,h2⟩:=w.fd f1 hp
 have f2:Fd r G (G1++[.lst ws]):=f1.trans (Fd.app f1.2.2)
 refine(WG (O9 e1) j7 (by lia)).mpr ⟨f2.trans (Fd.app f2.2.2),_,?_,⟨us++ws,j7,by rw[zA];lia,λd hd=>?_⟩,rfl⟩
 ·have:=f2.2.2.lt;lia
 · rcases zW.mp hd with hd|hd
   ·exact h2 d hd
   ·exact h1 d hd
theorem MR{s0 a7:Option D}:∀(ds:List (Option (List (CS 1)×CS 1))) (p k:Nat) (u:Option D) (G:DH),(∀d∈ds,OkL d)->Dr G r->p≠r->VW G p k->k+3*ds.length<=100->Wp (T0 (y0 6) LB (λ_=>true) (ds.map lsT) [s0,some (lsT b),some (lsT c),some (.ref r),some (lsT e),some (.ref p),u,a7]) G λfl G'=>Fd r G G'/\∃p' u,p'≠r/\VW G' p' 100/\fl= .nx [s0,some (lsT b),some (lsT c),some (.ref r),some (lsT e),some (.ref p'),u,a7]
 |[],p,k,u,G,_,h,hp,w,hk=>lB.mpr ⟨rfl,Fd.refl h,p,u,hp,w.elim λws q=>⟨ws,q.1,zG q.2.1 (by simp at hk;lia),q.2.2⟩,rfl⟩
 |d::ds,p,k,u,G,hd,h,hp,w,hk=>by
   rw[zT]at hk
   refine HB.mpr ⟨rfl,N6.mpr<| (Pm (a6:=none) (hd d (zK ..)) h hp w (by lia)).mono ?_⟩
   rintro _ G1 ⟨f1,p1,hp1,w1,rfl⟩
   refine(MR ds p1 (k+3) _ G1 (λx hx=>hd x (zB _ hx)) f1.2.2 hp1 w1 (by lia)).mono ?_
   rintro _ G2 ⟨f2,p2,u2,hp2,w2,rfl⟩
   exact⟨f1.trans f2,p2,u2,hp2,w2,rfl⟩
theorem Ld{s0 s3 s5 s6:Option D}{d:D}(ob:OkL b)(oc:OkL c)(oe:OkL e)(hm:IsM (inC 2) (Gd 2) (LS b) (LS c) (LS e))(hd:∃v,VD 3 d v):Wp (FB [s0,some (lsT b),some (lsT c),s3,some (lsT e),s5,s6,some d]) G λfl G'=>Ap G G'/\fl= .nx [s0,some (lsT b),some (lsT c),s3,some (lsT e),s5,s6,some d]:=by
 obtain⟨v,hv⟩:=hd
 have one:∀ {x:Option (List (CS 1)×CS 1)} {G:DH},OkL x->Wp (F9 [d,lsT x]) G λy G'=>Ap G G'/\∃b:Bool,y= .bl b/\(b=true↔inC 2 (LS x) v):=λ{x G} o=>in_at 3 6 (by decide) 2 (LS x) d v G (pD (lsZ.mono (by decide) o.2)) (vB o.1) hv
 refine C0<| K4<| bin_w<| m6 (as:= [d,lsT e]) rfl rfl<| (one oe).mono ?_
 rintro _ G1 ⟨a1,k1,rfl,i1⟩
 refine ID.mpr<| m6 (as:= [d,lsT b]) rfl rfl<| (one ob).mono ?_
 rintro _ G2 ⟨a2,k2,rfl,i2⟩
 have hi:=hm.i v
 rw[<-i1,<-i2]at hi
 refine W3.mpr ?_
 rcases k2 with _|_
 · rw[if_neg (by decide)]
   have:k1=false:=by cases k1;rfl;exact absurd (hi.mp rfl).1 (by decide)
   rw[this]
   exact LQ.mpr ⟨false,rfl,λz=>i5 z,λ_=>t7.mpr ⟨a1.trans a2,rfl⟩⟩
 · rw[if_pos rfl]
   refine m6 (as:= [d,lsT c]) rfl rfl<| (one oc).mono ?_
   rintro _ G3 ⟨a3,k3,rfl,i3⟩
   rw[<-i3]at hi
   have:k1=k3:=by
    rcases k1 with _|_<;>rcases k3 with _|_
    ·rfl
    ·exact absurd (hi.mpr ⟨rfl,rfl⟩) (by decide)
    ·exact absurd (hi.mp rfl).2 (by decide)
    ·rfl
   rw[this]
   refine LQ.mpr ⟨false,?_,λz=>i5 z,λ_=>t7.mpr ⟨a1.trans (a2.trans a3),rfl⟩⟩
   cases k3<;>rfl
theorem sR{s0 s3 s5 s6:Option D}{p:Nat}{l0:List D}(ob:OkL b)(oc:OkL c)(oe:OkL e)(hm:IsM (inC 2) (Gd 2) (LS b) (LS c) (LS e)):∀(l:List D) (u:Option D) (G:DH),(∀d∈l,∃v,VD 3 d v)->G[p]? =some (.lst l0)->Wp (T0 (y0 7) FB (ckO p (.lst l0)) l [s0,some (lsT b),some (lsT c),s3,some (lsT e),s5,s6,u]) G λfl G'=>∃u,fl= .nx [s0,some (lsT b),some (lsT c),s3,some (lsT e),s5,s6,u]
 |[],u,G,_,e=>lB.mpr ⟨D6 e,_,rfl⟩
 |d::r,u,G,h,e=>by
   refine HB.mpr ⟨D6 e,N6.mpr<| (Ld ob oc oe hm (h d (zK ..))).mono ?_⟩
   rintro _ G1 ⟨a1,rfl⟩
   exact sR ob oc oe hm r _ G1 (λy hy=>h y (zB _ hy)) (a1.at e)
end
theorem Hm:bF=j8 (u9 (x0 (fnX 1 Q7) (d0 (x0 (fnX 4 O7) (d0 (b8 0) (d0 (cE (.int 0)) (d0 (cE (.int 3)) (d0 (cE (.int 60)) g0))))) g0)) (y0 1)) (j8 (u9 (x0 (fnX 1 Q7) (d0 (x0 (fnX 4 O7) (d0 (b8 0) (d0 (cE (.int 1)) (d0 (cE (.int 3)) (d0 (cE (.int 60)) g0))))) g0)) (y0 2)) (j8 (u9 (x0 (fnX 4 O7) (d0 (b8 0) (d0 (cE (.int 2)) (d0 (cE (.int 3)) (d0 (cE (.int 90)) g0))))) (y0 3)) (j8 (u9 (x0 (fnX 2 E9) (d0 (b8 1) (d0 (b8 2) g0))) (y0 4)) (j8 (ifS (orT (m7 (c7 Q1 (x0 (fnX 1 NC) (d0 (b8 4) g0)) (cE (.bl true)))) (orT (m7 (c7 neD (B5 (b8 4) (y6) (N2 (cE (.int 3)))) (B5 (x0 (fnX 0 J8) g0) (y6) (N2 (cE (.int 3)))))) (m7 (c7 Q1 (c7 ixD (b8 4) (cE (.int 4))) (cE .non))))) (o4 (cE (.bl false))) o9) (j8 (u9 (c7 T7 LE1 LE2) (y0 5)) (j8 (B3 (itW (M4 (d0 (b8 1) (d0 (b8 2) (d0 (b8 4) g0))))) (y0 6) LB) (j8 (B3 (itW (b8 5)) (y0 7) FB) (o4 (c7 eqD (x0 (fnX 2 E9) (d0 (b8 2) (d0 (b8 1) g0))) (b8 4)))))))))):=rfl
theorem fS(ns:List Int)(hn:ns.length<=63):Wp (KH [.ref 0]) [.rol (ns.map D.int)] λd _=>d= .bl true:=by
 have bg:=big
 have e0:([DO.rol (ns.map D.int)]:DH)[0]? =some (.rol (ns.map D.int)):=rfl
 generalize ([DO.rol (ns.map D.int)]:DH)=G at *
 refine J6 (show Wp (bF [some (.ref 0),none,none,none,none,none,none,none]) G _ from ?_)
 rw[Hm]
 refine j6.mpr<| K9<| N8<| m9<| m6 (as:= [.ref 0,.int 0,.int 3,.int 60]) rfl rfl<| (LJ (mm:=60) (by decide) (a:=0) (st:=3) (by decide) e0 hn).mono ?_
 rintro _ G1 ⟨r1,rfl,d1,g1,l1⟩
 refine m8.mpr<| V7.mpr ⟨rfl,(rM d1).mono ?_⟩
 rintro _ G2 ⟨f2,b,rfl,gb,zb⟩
 have g2:=Gr.fd g1 f2 l1
 refine j6.mpr<| K9<| N8<| m9<| m6 (as:= [.ref 0,.int 1,.int 3,.int 60]) rfl rfl<| (LJ (mm:=60) (by decide) (a:=1) (st:=3) (by decide) (g2.at e0) hn).mono ?_
 rintro _ G3 ⟨r3,rfl,d3,g3,l3⟩
 refine m8.mpr<| V7.mpr ⟨rfl,(rM d3).mono ?_⟩
 rintro _ G4 ⟨f4,c,rfl,gc,zc⟩
 have g4:=g2.trans (Gr.fd g3 f4 l3)
 refine j6.mpr<| K9<| m6 (as:= [.ref 0,.int 2,.int 3,.int 90]) rfl rfl<| (LJ (mm:=90) (by decide) (a:=2) (st:=3) (by decide) (g4.at e0) hn).mono ?_
 rintro _ G5 ⟨r,rfl,d5,g5,l5⟩
 refine j6.mpr<| K9<| m6 (as:= [enC 2 (LS b),enC 2 (LS c)]) rfl rfl<| (OI 2 4 12 12 (by decide) (by decide) (by decide) (by decide) (by decide) (LS b) (LS c) G5 (vB gb) (vB gc) (pD zb) (pD zc)).mono ?_
 rintro _ G6 ⟨a6,m,rfl,hm,sm⟩
 obtain⟨e,rfl,ge⟩:=wj hm
 have ze:lsZ 1 24 e:=(sm _ rfl).ls
 have s47:SzC 2 47 (LS e):=SzC.mono (by decide) sm
 have ob:OkL b:=⟨gb,lsZ.mono (by decide) zb⟩
 have oc:OkL c:=⟨gc,lsZ.mono (by decide) zc⟩
 have oe:OkL e:=⟨ge,ze⟩
 refine j6.mpr<| C0<| P8<| K4<| bin_w<| m6 (as:= [lsT e]) rfl rfl<| dW8 (zG (CL 2 (LS e) s47 hm.g) (by decide)) ⟨2,LS e,by decide,rfl,hm.g,s47⟩ λG7 a7=>d8 (a:=.bl true) (G':=G7) rfl<| d8 (a:=.bl false) (G':=G7) rfl ⟨false,rfl,λz=>i5 z,λ_=>?_⟩
 refine P8<| d8 (a:=false) (G':=G7) rfl ⟨λz=>i5 z,λ_=>d8 (a:=false) (G':=G7) rfl ⟨λz=>i5 z,λ_=>t7.mpr ?_⟩⟩
 have d7:Dr G7 r:=(d5.ap a6).ap a7
 refine j6.mpr<| K9<| bin_w<| GJ (j:=6) (r:=r) (τ:= [some (lsT b),some (lsT c),some (.ref r)]) (by decide) rfl d7 (λu H h1=>?_) λG8 ws f8 l8 h8=>?_
 ·exact m6 (as:= [.ref r,lsD (enC 1) b,lsD (enC 1) c]) rfl rfl<| lW h1 gb zb gc zc
 have f9:Fd r G7 (G8++[.lst ws]):=f8.trans (Fd.app f8.2.2)
 have hp8:G8.length≠r:=by have:=f8.2.2.lt;lia
 refine GJ (j:=3) (r:=r) (τ:= [some (.ref r)]) (by decide) rfl f9.2.2 (λu H h1=>?_) λG10 us f10 l10 h10=>?_
 ·exact m6 (as:= [.ref r,.int 2]) rfl rfl<| (qI 5 2 H (by decide) h1).mono λx G' ⟨⟨v,hv⟩,f⟩=>⟨f,v,hv.mono (by decide)⟩
 have e11:=O9 (t:= [.lst us]) (f10.at hp8 j7)
 refine(WG e11 j7 (by lia)).mpr ?_
 have f11:Fd r G7 (G10++[.lst us]):=f9.trans (f10.trans (Fd.app f10.2.2))
 have f12:Fd r G7 (G10++[.lst us]++[.lst (ws++us)]):=f11.trans (Fd.app f11.2.2)
 have hp12:(G10++[DO.lst us]).length≠r:=by have:=f11.2.2.lt;lia
 have w12:VW (G10++[.lst us]++[.lst (ws++us)]) (G10++[DO.lst us]).length 9:=⟨ws++us,j7,by rw[zA];lia,λd hd=>by
  rcases zW.mp hd with hd|hd
  ·exact h8 d hd
  ·exact h10 d hd⟩
 generalize (G10++[DO.lst us]).length=p at hp12 w12
 generalize G10++[DO.lst us]++[DO.lst (ws++us)]=G12 at f12 w12
 refine j6.mpr<| pC.mpr<| wp_itW.mpr<| d8 (a:=.tup [lsT b,lsT c,lsT e]) (G':=G12) rfl<| srcW_tup.mpr<| (show Wp (T0 (y0 6) LB (λ_=>true) ([b,c,e].map lsT) [some (.ref 0),some (lsT b),some (lsT c),some (.ref r),some (lsT e),some (.ref p),none,none]) G12 _ from(MR [b,c,e] p 9 none G12 (λd hd=>by
  simp only[zt,zS,or_false]at hd
  rcases hd with rfl|rfl|rfl
  ·exact ob
  ·exact oc
  ·exact oe) f12.2.2 hp12 w12 (by simp)).mono ?_)
 rintro _ G13 ⟨f13,p',u,hp',⟨vs,e13,_,h13⟩,rfl⟩
 refine j6.mpr<| pC.mpr<| wp_itW.mpr<| d8 (a:=.ref p') (G':=G13) rfl<| (P6 e13).mpr<| (sR ob oc oe hm vs none G13 h13 e13).mono ?_
 rintro _ G14 ⟨u',rfl⟩
 refine J1<| bin_w<| m6 (as:= [enC 2 (LS c),enC 2 (LS b)]) rfl rfl<| (OI 2 4 12 12 (by decide) (by decide) (by decide) (by decide) (by decide) (LS c) (LS b) G14 (vB gc) (vB gb) (pD zc) (pD zb)).mono ?_
 rintro _ G15 ⟨a15,m',rfl,hm',_⟩
 have em:m'=LS e:=gB 2 _ _ hm'.g hm.g λv=>(hm'.i v).trans (and_comm.trans (hm.i v).symm)
 rw[em]
 refine d8 (a:=enC 2 (LS e)) (G':=G15) rfl<| NH (IC (by decide) G15 (LS e) (LS e)) (λ_=>v9 rfl) λno=>absurd rfl no
theorem pure_law:∀ns:List Int,ns.length<=63->∃G',KH [.ref 0] [.rol (ns.map D.int)]=some (.ok (.bl true),G'):=λns hn=>by
 obtain⟨d,G',e,rfl⟩:=fS ns hn
 exact⟨G',e⟩
end W
namespace PySem.W.Fast
def tw6007105554413652623:=()
def tw10744885397154749155:=()
def tw3362381002014194112:=()
def tw8043467971259373898:=()
def tw16999751214422262889:=()
def tw4429519481034909371:=()
def tw13126168918604046378:=()
def tw14093140466955400466:=()
def tw527747265828186741:=()
def tw8291679976238633985:=()
def tw9140920335537308255:=()
def tw589530635004550888:=()
def tw8511608899296855807:=()
def tw1618263793941625591:=()
def tw7980356620857999376:=()
def tw6461561866804410271:=()
def tw9922450483063666224:=()
def tw13757649098763999310:=()
def tw15783346597566187012:=()
def tw17301962012635160813:=()
def tw7141522108046105331:=()
def tw12572767175792806564:=()
def tw15283896060434171468:=()
def tw14151988292662093967:=()
def tw15472994720943428671:=()
def tw12611007884390369658:=()
def tw5921300761279394697:=()
def tw18348904288257903480:=()
def tw3324148782282710491:=()
def tw5266640580827159663:=()
def tw3484747122137017870:=()
def tw552270403109118593:=()
def tw13167911906893227135:=()
def tw14522073051777356488:=()
def tw5451268460583343783:=()
def tw9637452172781170298:=()
def tw5022545779907190605:=()
def tw11707639790219399763:=()
def tw1740603482692641599:=()
def tw3065911993178415292:=()
def tw2290424923678203231:=()
def tw15338485175639406189:=()
def tw5342134060244370717:=()
def tw2450827625708407264:=()
def tw9646606838475732934:=()
def tw12047814834139031209:=()
def tw1256349240285151325:=()
def tw11268122092739975556:=()
def tw11324029379349578809:=()
def tw8436565115954616753:=()
def tw1333444865692604280:=()
def tw5929443732140705299:=()
def tw17502851168289660483:=()
def tw15327011517783865608:=()
def tw16200319402384833776:=()
def tw2640111395076262783:=()
def tw14332450678289353750:=()
def tw11285780489900790342:=()
def tw10869860423785596060:=()
def tw15437006921849421254:=()
end PySem.W.Fast
local macro_rules | `(tactic| walk_at "fh") => `(tactic| first | exact trivial | (refine DL.FHs.c ?q ?b; (case q => refine' DL.FH.of ?a ?l ?e ?k; (case a => k_is); (case l => k_is); (case e => k_is); (case k => k_is)); (case b => walk_at "fh")))
local macro_rules | `(tactic| walk_at "cr") => `(tactic| first | exact DL.cr_str | exact DL.cr_int | exact DL.cr_bl | exact DL.cr_non | (refine' DL.cr_tup ?l ?z ?h; (case l => k_is); (case z => rfl); (case h => walk_at "cs")))
local macro_rules | `(tactic| walk_at "cs") => `(tactic| first | exact DL.crl_nil | (refine' DL.crl_cons ?a ?b; (case a => walk_at "cr"); (case b => walk_at "cs")))
set_option maxRecDepth 100000 in
set_option maxHeartbeats 0 in
theorem PySem.Challenge.cw_allmeet_k21_meets_of_lists_holds : PySem.Challenge.rw_allmeet_k21_meets_of_lists.Holds := by
 w_on;o_law;k_head;(case hw=>w_witness2)
 k_fill
 refine DL.walk63 (l := PySem.Challenge.rw_allmeet_k21_meets_of_lists) 187 rfl rfl ⟨rfl, by decide, by decide, rfl⟩ (fun w h Y => PySem.W.kIn_of Y) ?F
 case F=>
  intro w mg fa h KX G hmg
  refine' W.all_mk KX G hmg ?Y0 ?Y25 ?Y50 ?_ ?_ ?_ ?z W.pure_law
  (case z=>intro b hb;simp only[DL.bltL,zt,zS,or_false]at hb;rcases hb with rfl|rfl|rfl|rfl|rfl|rfl|rfl|rfl|rfl|rfl|rfl|rfl|rfl|rfl|rfl|rfl|rfl|rfl|rfl|rfl<;>k_is)
  (case Y0=>walk_at "fh")
  (case Y25=>walk_at "fh")
  (case Y50=>walk_at "fh")
  all_goals (refine' DL.CC.of ?g ?r;(case g=>k_is);(case r=>walk_at "cr"))
