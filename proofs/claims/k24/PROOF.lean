import PyProof.Rows.All
import Wide.All
import OpenK.AllK
import Wide.FinOn
import Lean
import PyProof.EqAt
import PyProof.EqKinds
import PyProof.TupleCall
import PyProof.NeKinds
import PyProof.ZipIter
import PyProof.EnumFor
import PyProof.EnumMake
import PyProof.EnumStmt
import PyProof.Draws
import KE.KDictSum
import PyProof.Rows.SortStr
import PyProof.StrWalks
import KE.KRevIter
import KE.KDictList
import PyProof.CollectIter
import PyProof.SliceStr2
import PyProof.StrBlockI
import KE.KListMore
import PyProof.DictWalks
import PyProof.TupleOfSeq
import PyProof.AttrMissHeap
import PyProof.AttrMissSeq
import KE.KDictOf
import PyProof.WalksMore
import KE.KSortTup
import KE.KSortKey
import PyProof.Rows.StrJoin2
import PyProof.ListMulRoad
import PyProof.FactsAll.tuple_2
import PyProof.Rows.SortShell
import PyProof.WalkInts
import KE.KMinBuiltin
import KE.KIntText
import PyProof.CallStr
import PyProof.PureStr
import PyProof.Rows.SetFrom
import KE.KMinKey
import PyProof.DictItems
import PyProof.DictItemsLoops
import PyProof.ReprRoads
import PyProof.WalksS
import PyProof.MeetsSeq2
import PySem.Challenge.RW_allmeet_k24_whole_meets_in_any_order
set_option Elab.async false
set_option linter.all false
set_option maxRecDepth 100000
open PySem renaming wpAny_bind→za,wpAny_pure→zc,Value→zg,sizeLine→zl,Shared→zm,wpAny→zt,model→zz,wpAny_ite_split→zH,wpAny_setState_of→zI,starEach→zK,compareOp→zR,Program→zT,bootBuiltins→ja,World→jg,Around→ji,wpAny_holding→jl,wpAny_loadPart'→jo,mainGlobals→jv,plainId_quiet→jC,wpAny_mono→jH,wpAny_call_entry→jL,codeAny_builtin→jO,wpAny_Call_Name_kw→jZ,binaryOp→ya,wpAny_truthy_bool→ye,Builtin→yi,wpAny_callSpecial?_slot→yq,wpAny_updateSeq→yr,sizeLine_eq→yA,cLine→yC,mem_of_lookup→yJ,foldedSetIterable→yK,FuncData→yM,sysModules→yP,backTo→yQ,wpAny_letGo→xa,sliceBounds→xb,wpAny_rule→xh,assignEach→xj,attributeBase→xn,builtinLookup_eq_fast→xq,wpAny_newObj_type→xt,wpAny_tryCatch→xC,wpAny_typeOf→xG,wpAny_askSetting→xH,wpAny_newList→xN,letOwnedTupleGo→xP,codeAny→xQ,rawInt→xS,wpAny_storeSet_of→xZ,wpAny_seqItems→Za,wpAny_pyIter_list→Zb,isSubtype_type→Zc,pyNext→Zi,strIterType→Zp,typeLookup_type→Zs,codeAny_mono→Zw,pickOrder→Zy,tupleKind_room_in1→ZB,keywordEach→ZM,fits_of_scanBound→ZN,wpAny_standAt→ZV,wpAny_attempt→ZW,wpAny_isInstance→Yi,wpAny_forIn_list→Yj,scanBound→Yk,setEntries→Yu,richCompare_meets_room→Yv,assign→Yw,BindsTo→Yy,wpAny_execs_nil→YA,relayAll→YQ,tupleKind→YT,setNext→YU,holding→YV,callerA→YW,ElemsOf→YZ,behindInMarks→Xi,MulOk→Xj,wpAny_setField_rec→Xp,typeLookup→Xq,typeIs_int→Xr,setRoomFor→Xs,slot_list_getitem→Xz,getItem→XB,backToKw→XD,slicePick→XX,noFill_tuple_add→XY,argsOk→XZ,wpAny_specialOf→Jo,valueAt→Ju,standAt→Jv,pyIter→JA,plain→JB,merged→JC,entryFor_alias→JD,entryFor→JE,wpAny_getItem_list_slice→JZ
open List renaming length_map→ze,getElem?_eq_getElem→zf,size_toArray→zj,mem_cons_of_mem→zk,mem_cons_self→zq,mem_singleton→zr,mem_cons→zu,getElem?_cons_zero→zy,map_cons→zB,length_cons→zD,mem_append_right→zF,getElem?_map→zG,getElem?_append_left→zJ,getElem?_set_self→zL,length_append→zM,getElem?_eq_none→zN,getElem?_cons_succ→zO,getD_eq_getElem?_getD→zP,getElem?_set_ne→zS,pairwise_cons→zU,range→zX,mem_map→zY,mem_append→jc,getElem?_eq_some_iff→jd,replicate→jk,toArray→jn,map_append→jr,mergeSort_perm→js,not_mem_nil→ju,mem_filter→jE,pairwise_map→jF,map_map→jK,set_cons_succ→jM,filterMap_cons→jQ,length_singleton→jS,foldl_cons→jT,set_cons_zero→jU,mem_of_getElem?→jW,mem_iff_getElem→jX,getElem_mem→jY,any_cons→yb,all_cons→yc,zip_cons_cons→yg,length_range→yk,length_nil→yn,range'→yw,lookup_cons→yy,all_eq_true→yz,drop_eq_getElem_cons→yB,find?_cons→yD,nodup_append→yE,mem_append_left→yF,append_assoc→yG,pairwise_mergeSort→yN,mem_range→yO,range_succ_eq_map→yW,append_nil→yZ,length_filter_le→xg,nodup_iff_pairwise_ne→xo,getElem?_append_right→xp,ext_getElem→xw,pairwise_iff_getElem→xB,nodup_cons→xI,length_set→xJ,length→xM,range'_succ→xW,length_take→xX,any_eq_true→xY,range_eq_range'→Zf,filter_map→Zh,filter_sublist→Zl,map_nil→Zn,pairwise_singleton→ZE,length_eq_zero_iff→ZG,filter_cons_of_pos→ZH,filter_cons_of_neg→ZI,drop_eq_nil_of_le→ZS,any_map→ZT,all_map→ZU,nil_append→Ya,pairwise_append→Yq,lt_irrefl→Yr,filterMap→Ys,filterMap_map→YN,Nodup→YO,reverse_cons→Xb,getElem?_set→Xc,ext_getElem?→Xd,prefix_refl→Xn,getElem_inj→Xo,of_mem_zip→Xy,getElem?_replicate→Jt,take_of_length_le→Jz,getElem?_toArray→JM,dropLast_eq_take→JN,length_eraseIdx→JW,getElem?_of_mem→JX
open PySem.Heap renaming get?_push_of_some→zh,lt_size→zn,get?_push_size→zp,get?_update_other→jt,get?_update_self→jw,SameBut→jx,get?_update_ne→yL,get?_push_ne→xk,size_push→Zr
open PySem.W renaming Frag→zi,keepIn→yh,fnOf→yo,nsIn→Zg,findIn→Zj,codeIn→Zk,mg_of→Yp,methodObj→YF,kas_ask→Xe,cellsFrom_some→Ja,kdu_collect→Jw,specialIn→JP,kitx_list→JQ,kitx_dict→JR
open Nat renaming le_refl→zo,ne_of_lt→zw,le_trans→zC,lt_of_lt_of_le→zV,le_add_right→jb,zero_le→jh,lt_succ_of_lt→jG,ne_of_gt→yd,le_of_lt→yt,lt_irrefl→yx,lt_succ_self→xy,lt_or_ge→xz,le_of_eq→xA,eq_zero_or_pos→xL,lt_trans→xU,mod_lt→ZZ,sub_succ_lt_self→Yz,not_lt→YS,le_of_ble_eq_true→JV
open Array renaming length_toList→zA,getElem?_toList→jq,getElem?_eq_getElem→xx,size_map→xO,toArray_toList→Ze,getD_eq_getD_getElem?→Zm,getD→YK,toList_inj→Xg,eq_empty_of_size_eq_zero→Xh,perm_iff_toList_perm→XJ,toList_append→JY
open Option.some renaming injEq→zE,inj→zQ
open Classical renaming byContradiction→zW,choose→YJ
open Bool renaming and_eq_true→zZ,false_eq_true→jf,false_ne_true→jm,not_eq_true'→ym,eq_false_iff→xR,or_false→Zz,or_eq_false_iff→Yt,and_false→XW,false_or→Jn
open PySem.Str renaming ofString→je
open PySem.Obj renaming mapSeq→jp,putSet→xr
open PyProof.Rows renaming seqObj→jy,slot_tuple_getitem→jD,callWith_type1→yj,kindOf→xT,size_push'→ZD,Keyed→ZR,envOfC→ZY,entry_list_sort→YC,arrOf→YD,IsTup→YE,slot_list_sort→YR,AllBare→Xa,listUpdate_at→Xm,plain_sorted→XG,keyKind_strs→XH,entry_sorted→XI,kind_sorted→Jm,list_sort_treeK→Jr,get?_update_seq→Js,sorted_out_str→JH,sortedHeap_old→JI,oneType'→JJ,failedOf→JK,args_list_sort→JL
open PySem.Around renaming under_plainId→jz
open PySem.SetTable renaming sizeAbove→jA,bits→yT,grown→xc,fits→xu,turns→ZO,fresh→ZP,below→ZQ,leap→Yl,laid→Ym,roomFor→YL,runEnd→YX,road→Xu,fill→Xv,layClean→JF
open PySem.SetTable.layClean renaming free→jB
open PySem.Builtin.List renaming listExtendWith→jI,listLengthHint→yR,listSameRef→xm,listItems→Xk
open Int renaming emod_nonneg→jJ,emod_lt_of_pos→jN,toNat_natCast→jR,le_refl→yH,eq_ofNat_of_zero_le→yS,le_trans→Yb,zero_add→JO
open PySem.SeqAt renaming EqAt→jP,RcNeAt→ZJ,RcAt→YG,ne_of_list_tuple→Jp,notIn_tupleAt→JT
open PySem.Heap.SameBut renaming update→jV,refl→yf
open Prod.mk renaming inj→yp
open PySem.F renaming called_set→yI,plain_min_loop→xD,plain_max_loop→xE,plain_extend_loop→Zq,args_tuple_add_2→Zt,entry_tuple_add→Zx,slot_tuple_add→ZC,slot_list_getattribute→ZK,slot_dict_get→ZL,plain_list_iadd→XQ,plainAttrs_list→XR,args_dict_get_3→XS,entry_dict_get→Jj,slot_list_append→JG
open PySem.Calls renaming spliced_cons→yU,spliced_nil→xf,call_function_entry→Zu,Name_function_global→XF,callWith_builtin→Jq
open False renaming elim→yV
open PySem.Paired renaming length→yX
open PySem.Builtin.Slice renaming slicePlaces→yY,sliceAdjust→Zd,sliceApplied→YI
open PySem.Builtin.Tuple renaming tupleExact→xl,tupleCompareSizes→Ye,tupleItemsOf→YH
open PySem.Builtin.Str renaming occurrences→xv
open Option renaming map_some→xF,isSome_map→Zv,isSome_iff_exists→XU
open Function renaming comp_def→xK
open PySem.Builtin.Frozenset renaming addrOf→xV,updateFrom→ZX,unchanged→Yf,isAnySet→Yn,slot1→YB
open ToString renaming toString→Zo
open PySem.SeqAt.EqAt renaming str_int→Yc,int_str→Yd,same→YM,none_bool→XL,bool_none→XM,bool_bool→XO,str_none→Jb,str_bool→Jc,none_str→Jd,none_int→Je,int_none→Jf,int_bool→Jg,bool_str→Jh,bool_int→Ji,str_str→Jk,int_int→Jl
open PySem.AutoSeq1 renaming wpAny_loadPart'→Yg,sub_tuple_tuple→Xx
open List.cons renaming inj→Yh
open PySem.Builtin.Builtins renaming bindParams→Yo
open PySem.Txt renaming join→Yx,slice→Jx
open PySem.MeetsSeq2 renaming wpAny_forIn_array→YY
open PySem.Builtin.Dict renaming updateFrom→Xf,pairItems→Xl
open List.Perm renaming eq_of_pairwise→Xt
open PySem.Heap.IsSliceOf renaming new→Xw
open PySem.pickOrder renaming go→XA
open PySem.Walks renaming list→XE
open Prod renaming ext→XT,ext_iff→Jy
open List.Pairwise renaming imp→XV
open PySem.Value renaming isStrOf_shape→JS
open PySem.PassesOwn renaming never→JU
noncomputable section
abbrev VSP:=zg->zm->Prop
abbrev PNS:=List (PySem.Addr×PySem.Obj)
namespace L2
open PySem PySem.Spec PyProof.Rows
theorem J6{α:Type}{a:α}{P:Prop}(h:none=some a):P:=nomatch h
theorem eW8{α:Type}{a:α}{P:Prop}(h:some a=none):P:=nomatch h
theorem O5{P:Prop}(h:false=true):P:=nomatch h
theorem bU9{α:Type}{a:α}{l:List α}{P:Prop}(h: []=a::l):P:=nomatch h
theorem cW3{α:Type}{a:α}{l:List α}{P:Prop}(h:a::l= []):P:=nomatch h
noncomputable abbrev Key:=Sum Int Str
noncomputable def bH2:Key->zg->Bool
 | .inl k,v=>Value.isInt k v
 | .inr x,v=>Value.isStrOf x v
noncomputable def fO3(w:jg):Key->Int
 | .inl k=>hashInt k
 | .inr x=>hashStr w x
theorem Q0:∀ {k:Key} {v:zg},bH2 k v=true->(∃i t,k=Sum.inl i/\v=Value.int i t)\/(∃x t,k=Sum.inr x/\v=Value.str x t)
 | .inl i,v,h=>by
   obtain⟨t,e⟩:=Value.isInt_shape (k:=i) (v:=v) h
   exact .inl ⟨i,t,rfl,e⟩
 | .inr x,v,h=>by
   obtain⟨t,e⟩:=JS (x:=x) (v:=v) h
   exact .inr ⟨x,t,rfl,e⟩
theorem cZ8(i:Int)(t:Tok):bH2 (.inl i) (.int i t)=true:=by simp[bH2,Value.isInt]
theorem dD6(x:Str)(t:Tok):bH2 (.inr x) (.str x t)=true:=by simp[bH2,Value.isStrOf]
theorem eS7(a b:Int):decide ((Sum.inl a:Key)=Sum.inl b)= (a==b):=by
 by_cases e:a=b
 ·subst e;simp
 · have h:¬(Sum.inl a:Key)=Sum.inl b:=λq=>e (Sum.inl.inj q)
   rw[decide_eq_false h]
   exact(beq_eq_false_iff_ne.mpr e).symm
theorem eZ0(a b:Str):decide ((Sum.inr a:Key)=Sum.inr b)=decide (a=b):=by
 by_cases e:a=b
 ·subst e;simp
 · have h:¬(Sum.inr a:Key)=Sum.inr b:=λq=>e (Sum.inr.inj q)
   rw[decide_eq_false h,decide_eq_false e]
theorem eT8(a:Int)(b:Str):decide ((Sum.inl a:Key)=Sum.inr b)=false:=decide_eq_false (λq=>nomatch q)
theorem eN2(a:Str)(b:Int):decide ((Sum.inr a:Key)=Sum.inl b)=false:=decide_eq_false (λq=>nomatch q)
def O4(prog:zT)(w:jg):PySem.KeyKind prog w Key where
 is:=bH2
 hash:=fO3 w
 inj:=λv a b ha hb=>by
  rcases Q0 ha with⟨i,t,rfl,rfl⟩|⟨x,t,rfl,rfl⟩
  · rcases Q0 hb with⟨j,u,rfl,e⟩|⟨y,u,rfl,e⟩
    ·injection e with e1 _;rw[e1]
    ·exact nomatch e
  · rcases Q0 hb with⟨j,u,rfl,e⟩|⟨y,u,rfl,e⟩
    ·exact nomatch e
    ·injection e with e1 _;rw[e1]
 byValue:=λk v h=>by
  rcases Q0 h with⟨i,t,rfl,rfl⟩|⟨x,t,rfl,rfl⟩<;>rfl
 pyHash:=λhv h=>by
  rcases Q0 hv with⟨i,t,rfl,rfl⟩|⟨x,t,rfl,rfl⟩
  ·exact wpAny_pyHash_int h
  ·exact wpAny_pyHash_str h
 eqBool:=λhu hv h=>by
  rcases Q0 hu with⟨i,t,rfl,rfl⟩|⟨x,t,rfl,rfl⟩
  · rcases Q0 hv with⟨j,u,rfl,rfl⟩|⟨y,u,rfl,rfl⟩
    ·rw[eS7]at h;exact wpAny_eqBool_int h
    ·rw[eT8]at h;exact Yd i t y u _ _ _ _ h
  · rcases Q0 hv with⟨j,u,rfl,rfl⟩|⟨y,u,rfl,rfl⟩
    ·rw[eN2]at h;exact Yc x t j u _ _ _ _ h
    ·rw[eZ0]at h;exact wpAny_eqBool_str h
 «strs»:=λk x t v h=>by
  rcases Q0 h with⟨i,u,rfl,e⟩|⟨y,u,rfl,e⟩
  ·exact nomatch e
  · injection e with e1 _
    subst e1
    cases v<;>rfl
theorem cI7(prog:zT)(w:jg)(i:Int)(t:Tok):(O4 prog w).is (.inl i) (.int i t)=true:=cZ8 i t
theorem cH3(prog:zT)(w:jg)(x:Str)(t:Tok):(O4 prog w).is (.inr x) (.str x t)=true:=dD6 x t
inductive V where
 |non|bl (b:Bool)|int (i:Int)|str (x:Str)|byt (b:Array UInt8)|flt (b:UInt64)|ref (a:Addr)|ty (n:String)
 deriving DecidableEq
noncomputable def J9:V->zg->Prop
 | .non,u=>u=Value.none
 | .bl b,u=>u=Value.bool b
 | .int i,u=>∃t,u=Value.int i t
 | .str x,u=>∃t,u=Value.str x t
 | .byt b,u=>∃t,u=Value.bytes b t
 | .flt b,u=>∃t,u=Value.float b t
 | .ref a,u=>u=Value.ref a
 | .ty n,u=>u=Value.type n
abbrev v6:List V->List zg->Prop:=Paired J9
theorem v6.length{xs:List V}{us:List zg}(r:v6 xs us):xs.length=us.length:=yX r
theorem v6.get:∀ {xs:List V} {us:List zg} {i:Nat} {x:V},v6 xs us->xs[i]? =some x->∃u,us[i]? =some u/\J9 x u
 |_,_,_,_,.nil,e=>by simp at e
 |_,_,0,_,.cons r _,e=>by simp at e;subst e;exact⟨_,rfl,r⟩
 |_,_,i+1,x,.cons _ t,e=>by
   obtain⟨u,h1,h2⟩:=v6.get (i:=i) (x:=x) t (by simpa using e)
   exact⟨u,by simpa using h1,h2⟩
theorem v6.set{x:V}{u:zg}(r:J9 x u):∀ {xs:List V} {us:List zg} (i:Nat),v6 xs us->v6 (xs.set i x) (us.set i u)
 |_,_,_,.nil=>.nil
 |_,_,0,.cons _ t=>.cons r t
 |_,_,i+1,.cons q t=>.cons q (v6.set r i t)
theorem v6.append{xs ys:List V}{us ws:List zg}(h:v6 xs us)(k:v6 ys ws):v6 (xs++ys) (us++ws):=by
 induction h with
 |nil=>exact k
 |cons r t ih=>exact .cons r ih
theorem v6.take:∀ {xs:List V} {us:List zg} (n:Nat),v6 xs us->v6 (xs.take n) (us.take n)
 |_,_,0,_=>.nil
 |_,_,_+1,.nil=>.nil
 |_,_,n+1,.cons r t=>.cons r (v6.take n t)
theorem v6.drop:∀ {xs:List V} {us:List zg} (n:Nat),v6 xs us->v6 (xs.drop n) (us.drop n)
 |_,_,0,r=>r
 |_,_,_+1,.nil=>.nil
 |_,_,n+1,.cons _ t=>v6.drop n t
def cH2:Option V->Option zg->Prop
 |some v,some u=>J9 v u
 |none,none=>True
 |_,_=>False
def KV{κ:Type}:List (κ×V)->List (κ×zg)->Prop:=Paired fun(p:κ×V) (q:κ×zg)=>p.1=q.1/\J9 p.2 q.2
noncomputable def kV:Key->V
 | .inl i=>.int i
 | .inr x=>.str x
inductive HO where
 /-- a list -/
 |lst (xs:List V)
 /-- a tuple (never changes) -/
 |tup (xs:List V)
 /-- a dict whose keys are ints and texts;one whose keys are tuples of ints and texts (the empty one is both) -/
 |dK (kvs:List (Key×V))|dT (kvs:List (List Key×V))
 /-- a set of ints:its members,its size -/
 |set (S:Int->Bool) (n:Nat)
 /-- an instance of the class at C,its dict at dx,its attributes -/
 |ins (C dx:Addr) (fs:List (Str×V))
 /-- the dict of the instance at x -/
 |own (x:Addr)
 /-- the dict of an exception -/
 |xd (fs:List (Str×V))
 /-- a bound method,f of x -/
 |met (f x:Addr)
 /-- a range object lo,lo+1,.. below hi -/
 |rng (lo hi:Int)
 /-- a thing that is known to the object (the script;a dict while a loop walks it):read,never written while it is so -/
 |frz (o:Obj) (u:HO)
 /-- a code object's table -/
 |tbl (ps:Array zg)
 /-- any other thing,by what is true of its one object (a def of one's own:SetO a S n:=HO.ext λh=>..) -/
 |ext (φ:Heap->Prop)
noncomputable abbrev Hp:=Addr->Option HO
noncomputable def upd(H:Hp)(a:Addr)(o:HO):Hp:=λb=>if b=a then some o else H b
theorem U5{H:Hp}{a:Addr}{o:HO}:upd H a o a=some o:=by unfold upd;rw[if_pos rfl]
theorem K3{H:Hp}{a b:Addr}{o:HO}(h:b≠a):upd H a o b=H b:=by unfold upd;rw[if_neg h]
theorem fF1{H:Hp}{a b:Addr}{o u:HO}(h:H a=some o)(h':H b=some u)(d:o≠u):a≠b:=by
 intro e;subst e;rw[h]at h';exact d (zQ h')
theorem M4{H:Hp}{a b:Addr}{o:HO}(h:H a=some o)(h':H b=none):a≠b:=by
 intro e;subst e;rw[h]at h';cases h'
section
variable(P:zT)(w:jg)
noncomputable def aP7(h:Heap)(a:Addr)(items:Array zg):Prop:=∃o,h.get? a=some o/\o.cls= .type "tuple"/\∃n,(o.data,o.dict)= (Data.seq items n,none)
theorem aP7.tup{h:Heap}{a:Addr}{items:Array zg}(x:aP7 h a items):YE h a items:=by
 obtain⟨o,e,c,n,d⟩:=x
 exact⟨o,e,c,n,(yp d).1⟩
theorem aP7.new(h:Heap)(items:Array zg):aP7 (h.push {cls:=.type "tuple",data:=.seq items}) h.objs.size items:=⟨_,zp _ rfl,rfl,_,rfl⟩
def W2(H:Hp)(h:Heap)(a:Addr):HO->Prop
 | .lst xs=>xs.length<=zl/\∃(its:List zg) (n:Nat),v6 xs its/\h.get? a=some {cls:=.type "list",data:=.seq its.toArray n}
 | .tup xs=>xs.length<=zl/\∃its:List zg,v6 xs its/\aP7 h a its.toArray
 | .dK kvs=>kvs.length<=zl/\(a==yP)=false/\∃vs,KV kvs vs/\h.DictOf (O4 P w) a vs
 | .dT kvs=>kvs.length<=zl/\(a==yP)=false/\∃xs:List (List Key×Addr×zg),
    Paired (fun(p:List Key×V) (q:List Key×Addr×zg)=>p.1=q.1/\H q.2.1=some (.tup (p.1.map kV))/\J9 p.2 q.2.2) kvs xs/\
    ∃o es ep,h.get? a=some o/\o.ExactDict/\o.data= .dict es ep/\es.toList=xs.map (entryOfKey (YT (O4 P w)))/\(xs.map (·.1)).Nodup
 | .set S n=>h.SetOf (intKind P w) a S n
 | .ins C dx fs=>H dx=some (.own a)/\fs.length<=1000/\dx≠a/\h.get? a=some (PySem.W.instObj C dx)/\
    ∃mA,h.Ns1 dx mA/\(∀f,cH2 (fs.lookup f) (mA f))/\PySem.Within mA (fs.map (·.1))
 | .own _=>∃o,h.get? a=some o
 | .xd fs=>∃mA,h.Ns1 a mA/\∀f,cH2 (fs.lookup f) (mA f)
 | .rng lo hi=>∃t u v,h.get? a=some {cls:=.type "range",data:=.fields #[.int lo t,.int hi u,.int 1 v]}
 | .frz o u=>h.get? a=some o/\W2 H h a u
 | .tbl ps=>h.get? a=some {cls:=.none,data:=.fields ps}
 | .met f x=>h.get? a=some (YF (.ref f) (.ref x))
 | .ext φ=>φ h/\(∃o,h.get? a=some o)/\∀h1 h2:Heap,φ h1->(∀o,h1.get? a=some o->h2.get? a=some o)->φ h2
def HOk(H:Hp)(h:Heap):Prop:=∀a o,H a=some o->W2 P w H h a o
end
section
theorem W2.lt(x:W2 P w H h a o):a<h.objs.size:=by
 cases o with
 |lst xs=>obtain⟨_,_,_,_,e⟩:=x;exact zn e
 |tup xs=>obtain⟨_,_,_,p⟩:=x;exact(aP7.tup p).lt
 |dK kvs=>obtain⟨_,_,_,_,o,_,_,e,_⟩:=x;exact zn e
 |dT kvs=>obtain⟨_,_,_,_,o,_,_,e,_⟩:=x;exact zn e
 |set S n=>obtain⟨o,_,_,_,e,_⟩:=x;exact zn e
 |ins C dx fs=>obtain⟨_,_,_,e,_⟩:=x;exact zn e
 |own y=>obtain⟨_,e⟩:=x;exact zn e
 |xd fs=>obtain⟨_,⟨_,_,_,e,_⟩,_⟩:=x;exact zn e
 |rng lo hi=>obtain⟨_,_,_,e⟩:=x;exact zn e
 |frz ob u=>obtain⟨e,_⟩:=x;exact zn e
 |tbl ps=>exact zn (show h.get? a=some _ from x)
 |met f y=>exact zn (show h.get? a=some _ from x)
 |ext φ=>obtain⟨_,⟨_,e⟩,_⟩:=x;exact zn e
theorem Paired.mapP{α β:Type}{F G:α->β->Prop}{l₁:List α}{l₂:List β}(h:Paired F l₁ l₂)(f:∀a b,F a b->G a b):Paired G l₁ l₂:=by
 induction h with
 |nil=>exact .nil
 |cons r t ih=>exact .cons (f _ _ r) ih
theorem W2.stay(x:W2 P w H h a o)(k:∀b u,(b=a\/H b=some (.own a))->h.get? b=some u->h'.get? b=some u)
 (ho:∀b,H b=some (.own a)->H' b=some (.own a)) (ht:∀b xs,H b=some (.tup xs)->H' b=some (.tup xs)):W2 P w H' h' a o:=by
 induction o with
 |lst xs=>obtain⟨z,its,n,r,e⟩:=x;exact⟨z,its,n,r,k _ _ (.inl rfl) e⟩
 |tup xs=>obtain⟨z,its,r,ob,e,c⟩:=x;exact⟨z,its,r,ob,k _ _ (.inl rfl) e,c⟩
 |dK kvs=>obtain⟨z,y,vs,r,ob,es,ep,e,c⟩:=x;exact⟨z,y,vs,r,ob,es,ep,k _ _ (.inl rfl) e,c⟩
 |dT kvs=>
   obtain⟨z,y,xs,r,ob,es,ep,e,c⟩:=x
   exact⟨z,y,xs,Paired.mapP r λp q z=>⟨z.1,ht _ _ z.2.1,z.2.2⟩,ob,es,ep,k _ _ (.inl rfl) e,c⟩
 |set S n=>obtain⟨ob,es,ep,t,e,c⟩:=x;exact⟨ob,es,ep,t,k _ _ (.inl rfl) e,c⟩
 |ins C dx fs=>
   obtain⟨d,z,ne,e,mA,⟨od,es,ep,e2,c⟩,r⟩:=x
   exact⟨ho _ d,z,ne,k _ _ (.inl rfl) e,mA,⟨od,es,ep,k _ _ (.inr d) e2,c⟩,r⟩
 |own y=>obtain⟨ob,e⟩:=x;exact⟨ob,k _ _ (.inl rfl) e⟩
 |xd fs=>obtain⟨mA,⟨od,es,ep,e,c⟩,r⟩:=x;exact⟨mA,⟨od,es,ep,k _ _ (.inl rfl) e,c⟩,r⟩
 |rng lo hi=>obtain⟨t,u,v,e⟩:=x;exact⟨t,u,v,k _ _ (.inl rfl) e⟩
 |frz ob u ih=>obtain⟨e,q⟩:=x;exact⟨k _ _ (.inl rfl) e,ih q⟩
 |tbl ps=>
   have e:h.get? a=some {cls:=.none,data:=.fields ps}:=x
   show h'.get? a=some {cls:=.none,data:=.fields ps}
   exact k a _ (.inl rfl) e
 |met f y=>
   have e:h.get? a=some (YF (.ref f) (.ref y)):=x
   show h'.get? a=some (YF (.ref f) (.ref y))
   exact k a _ (.inl rfl) e
 |ext φ=>obtain⟨p,⟨o,e⟩,st⟩:=x;exact⟨st _ _ p λo q=>k _ _ (.inl rfl) q,⟨o,k _ _ (.inl rfl) e⟩,st⟩
theorem HOk.lt(x:HOk P w H h)(e:H a=some o):a<h.objs.size:=(x a o e).lt
theorem HOk.fresh(x:HOk P w H h)(e:h.objs.size<=a):H a=none:=by
 cases q:H a with
 |none=>rfl
 |some u=>exact absurd (zV (x.lt q) e) (yx _)
theorem HOk.kept(x:HOk P w H h)(k:∀b u,h.get? b=some u->h'.get? b=some u):HOk P w H h':=λa o e=>
 (x a o e).stay (λb u _ q=>k b u q) (λ_ q=>q) λ_ _ q=>q
theorem HOk.laid(x:HOk P w H h)(k:∀b u,h.get? b=some u->h'.get? b=some u)(hp:h.objs.size<=a)(new:W2 P w (upd H a o) h' a o):HOk P w (upd H a o) h':=λb u e=>by
 have hn:=x.fresh hp
 by_cases hb:b=a
 ·subst hb;rw[U5]at e;cases e;exact new
 · rw[K3 hb]at e
   exact(x b u e).stay (λc v _ q=>k c v q) (λc q=>by rw[K3 (M4 q hn)];exact q) λc xs q=>by rw[K3 (M4 q hn)];exact q
end
noncomputable def Rd(H:Hp)(a:Addr)(u:HO):Prop:=H a=some u\/∃o,H a=some (.frz o u)
theorem Rd.ok{P:zT}{w:jg}{H:Hp}{h:Heap}{a:Addr}{u:HO}(r:Rd H a u)(x:HOk P w H h):W2 P w H h a u:=by
 rcases r with r|⟨o,r⟩
 ·exact x a u r
 · obtain⟨_,q⟩:=x a _ r
   exact q
noncomputable def Mut:Option HO->Prop
 |some (.lst _)=>True
 |some (.dK _)=>True
 |some (.dT _)=>True
 |some (.set _ _)=>True
 |some (.ins _ _ _)=>True
 |some (.ext _)=>True
 |_=>False
section
theorem HOk.write(ok:HOk P w H h)(mu:Mut (H x))(he:e=x\/H e=some (.own x))(k:∀b u,b≠e->h.get? b=some u->h'.get? b=some u)(heo:∃u,h'.get? e=some u)
 (new:W2 P w (upd H x o') h' x o'):HOk P w (upd H x o') h':=λb u q=>by
 have nown:∀c y,H c=some (.own y)->c≠x:=λc y r z=>by subst z;rw[r]at mu;exact mu
 have ntup:∀c xs,H c=some (.tup xs)->c≠x:=λc xs r z=>by subst z;rw[r]at mu;exact mu
 by_cases hb:b=x
 ·subst hb;rw[U5]at q;cases q;exact new
 · rw[K3 hb]at q
   by_cases hbe:b=e
   · have q':H b=some (.own x):=by
      rcases he with z|z
      ·exact absurd (hbe.trans z) hb
      ·rw[hbe];exact z
     rw[q]at q';cases q'
     obtain⟨v,hv⟩:=heo
     exact⟨v,by rw[hbe];exact hv⟩
   · refine(ok b u q).stay (λc v hc r=>k c v ?_ r) (λc r=>by rw[K3 (nown c b r)];exact r) λc xs r=>by rw[K3 (ntup c xs r)];exact r
     rcases hc with rfl|hc
     ·exact hbe
     · rintro rfl
       rcases he with z|z
       ·exact nown c b hc z
       ·rw[hc]at z;cases z;exact hb rfl
end
structure Un(fs ex:List Addr)(H H':Hp)(h h':Heap):Prop where
 keep:∀b o,h.get? b=some o->H b=none->b∉fs->b∉ex->h'.get? b=some o
 slot:∀b o,h.get? b=some o->H b=none->b∈fs->b∉ex->∃sl,h'.get? b=some {o with slots:=sl}
 free:∀b o,h.get? b=some o->H b=none->b∉ex->H' b=none
 there:∀b o,h.get? b=some o->b∉ex->∃o',h'.get? b=some o'
 tups:∀b xs,H b=some (.tup xs)->H' b=some (.tup xs)
 frzs:∀b o u,H b=some (.frz o u)->H' b=some (.frz o u)
 tbls:∀b ps,H b=some (.tbl ps)->∃more,H' b=some (.tbl (ps++more))
section
theorem Un.any(u:Un fs ex H H1 h h1){b:Addr}{ob:Obj}(q:h.get? b=some ob)(n:H b=none)(hx:b∉ex):∃sl,h1.get? b=some {ob with slots:=sl}:=by
 by_cases hb:b∈fs
 ·exact u.slot b ob q n hb hx
 ·exact⟨ob.slots,u.keep b ob q n hb hx⟩
theorem Un.kept(k:∀b u,h.get? b=some u->h'.get? b=some u):Un fs ex H H h h':=
 ⟨λb ob q _ _ _=>k b ob q,λb ob q _ _ _=>⟨ob.slots,k b ob q⟩,λ_ _ _ n _=>n,λb ob q _=>⟨ob,k b ob q⟩,λ_ _ q=>q,λ_ _ _ q=>q,λ_ ps q=>⟨#[],by rw[q];simp⟩⟩
theorem Un.refl:Un fs ex H H h h:=Un.kept λ_ _ q=>q
theorem Un.laid(k:∀b u,h.get? b=some u->h'.get? b=some u)(hp:h.objs.size<=a)(hn:H a=none):Un fs ex H (upd H a o) h h' where
 keep:=λb u q _ _ _=>k b u q
 slot:=λb u q _ _ _=>⟨u.slots,k b u q⟩
 free:=λb u q n _=>by rw[K3 (zw (zV (zn q) hp))];exact n
 there:=λb u q _=>⟨u,k b u q⟩
 tups:=λb xs q=>by rw[K3 (M4 q hn)];exact q
 frzs:=λb u xs q=>by rw[K3 (M4 q hn)];exact q
 tbls:=λb ps q=>⟨#[],by rw[K3 (M4 q hn),q];simp⟩
theorem Un.write(mu:Mut (H x))(he:e=x\/H e=some (.own x))(k:∀b u,b≠e->h.get? b=some u->h'.get? b=some u)(heo:∃u,h'.get? e=some u):Un fs ex H (upd H x o) h h':=by
 have hx:∀b,H b=none->b≠x:=λb n z=>by subst z;rw[n]at mu;exact mu
 have hb:∀b,H b=none->b≠e:=λb n z=>by
  subst z
  rcases he with r|r
  ·exact hx b n r
  ·rw[n]at r;cases r
 have hm:∀b u,H b=some u->¬Mut (some u)->b≠x:=λb u q nm z=>by subst z;rw[q]at mu;exact nm mu
 refine⟨λb u q n _ _=>k b u (hb b n) q,λb u q n _ _=>⟨u.slots,k b u (hb b n) q⟩,λb u q n _=>by rw[K3 (hx b n)];exact n,λb u q _=>?_,
  λb xs q=>by rw[K3 (hm b _ q λz=>z)];exact q,λb u xs q=>by rw[K3 (hm b _ q λz=>z)];exact q,λb ps q=>⟨#[],by rw[K3 (hm b _ q λz=>z),q];simp⟩⟩
 by_cases hbe:b=e
 ·subst hbe;exact heo
 ·exact⟨u,k b u hbe q⟩
end
noncomputable def trk(h:Heap)(H:Hp):List Addr:=(zX h.objs.size).filter λa=>(H a).isSome
def cA7(h:Heap)(H:Hp):Heap:=PySem.W.hideAll h (trk h H)
theorem dC9(h:Heap)(H:Hp):(cA7 h H).objs.size=h.objs.size:=PySem.W.hideAll_size _ _
theorem dK5{h:Heap}{H:Hp}{b:Addr}{o:Obj}(e:h.get? b=some o)(n:H b=none):(cA7 h H).get? b=some o:=
 PySem.W.hideAll_get _ e λhm=>by
  have q:(H b).isSome=true:=(jE.mp hm).2
  rw[n]at q;simp at q
theorem eH4{h:Heap}{H:Hp}{b:Addr}{o:Obj}(e:(cA7 h H).get? b=some o):h.get? b=some o/\H b=none:=by
 have e':h.get? b=some o:=PySem.W.of_hideAll (trk h H) e
 refine⟨e',?_⟩
 cases q:H b with
 |none=>rfl
 |some x=>
   have hm:b∈trk h H:=jE.mpr ⟨yO.mpr (zn e'),by simp[q]⟩
   have z:(cA7 h H).get? b=none:=PySem.W.hideAll_none (trk h H) hm
   rw[z]at e;cases e
noncomputable def eD5(g h:Heap)(L:Addr):PNS:=(zX h.objs.size).filterMap λa=>if a=L\/(g.get? a).isSome=true then none else (h.get? a).map λo=>(a,o)
def Q9(g h:Heap)(L d:Addr):PNS:=(eD5 g h L).filter λp=>decide (p.1≠d)
structure Mod(K:zi)(mg:Str->Option zg)(base:Heap):Prop where
 kin:K.In base
 glob:base.Ns jv mg
 blt:∃mb,base.Ns builtinsNs mb/\∀x:Str,x≠ "__name__"->mb x=ja x
 nolimit:base.NoLimit
structure Cx where
 prog:zT
 w:jg
 K:zi
 mg:Str->Option zg
 base:Heap
 A:ji
 N:List Str
 WX:zm
 H₀:Hp
 env:Env
 outer:List Env
 stack:List Env
 ex:List Addr
 fn:Str->Bool
 calm:Bool
 pn:PNS
 xe:VSP
noncomputable def frs(l:List Env):List Addr:=l.filterMap (·.frame)
abbrev Cx.fs(X:Cx):List Addr:=frs X.outer
noncomputable def Vis(sc:Scope)(x:Str):Prop:=sc.names.lookup x=some .local\/sc.names.lookup x=some .cell\/sc.names.lookup x=some .free
noncomputable def Loc(sc:Scope)(x:Str):Prop:=sc.names.lookup x=some .local\/sc.names.lookup x=some .cell
noncomputable def fQ5(env:Env)(h:Heap)(m:Str->Option zg)(x:Str)(u:zg):Prop:=
 (env.kindOf x=some .local/\m x=some u)\/((env.kindOf x=some .cell\/env.kindOf x=some .free)/\∃c,env.cells.lookup x=some c/\h.IsCell c (some u))
structure Cx.Ok(X:Cx):Prop where
 mod:Mod X.K X.mg X.base
 kind:X.env.scope.kind= .function
 glob:X.env.globals=jv
 blt:X.env.builtins=builtinsNs
 above:X.WX.heap.objs.size<=X.env.locals
 inj:∀x y c,X.env.cells.lookup x=some c->X.env.cells.lookup y=some c->x=y
 has:∀x,(X.env.kindOf x=some .cell\/X.env.kindOf x=some .free)->∃c,X.env.cells.lookup x=some c
 cab:∀x c,X.fn x=true->X.env.cells.lookup x=some c->X.WX.heap.objs.size<=c
 hd:X.calm=true->X.A.handled=none
 frames:X.A.frames=some X.stack
 stk:X.stack=X.outer\/(X.stack=X.env::X.outer/\X.env.frame=some X.env.locals)
 exf:∀b∈X.ex,b≠X.env.locals/\∀x c,X.env.cells.lookup x=some c->c≠b
 bs:∀b o,X.base.get? b=some o->X.WX.heap.get? b=some o/\X.H₀ b=none
 bsz:X.base.objs.size<=X.WX.heap.objs.size
 noex:∀b o,X.base.get? b=some o->b∉X.ex
 exfs:∀b∈X.ex,b∉X.fs
 funs:X.WX.heap.FunFrames X.base X.outer
 frf:∀b∈X.fs,X.H₀ b=none
 gd:X.A.guards=some []
structure Inv(X:Cx)(pins:PNS)(σ:List (Option V))(H:Hp)(s:zm):Prop where
 ok:X.Ok
 os:s.os=X.WX.os
 bare:Xa s.gens
 base:Un X.fs X.ex X.H₀ H X.WX.heap s.heap
 loc:∃m,s.heap.Ns X.env.locals m/\∀(i:Nat) (x:Str) (v:V),X.N[i]? =some x->σ[i]? =some (some v)->Vis X.env.scope x->∃u,J9 v u/\fQ5 X.env s.heap m x u
 cell:∀x c,X.env.cells.lookup x=some c->∃v,s.heap.IsCell c v
 free:H X.env.locals=none
 freeC:∀x c,X.env.cells.lookup x=some c->H c=none
 pin:∀p∈X.pn++pins,s.heap.get? p.1=some p.2/\H p.1=none/\p.1≠X.env.locals/\p.1∉X.fs/\∀v,p.2.data≠ .cell v
 hok:HOk X.prog X.w H s.heap
 len:σ.length=X.N.length
section
variable{X:Cx}{pins:PNS}{σ:List (Option V)}{H H':Hp}{s:zm}
theorem Cx.Ok.nofr(ok:X.Ok){b:Addr}{o:Obj}(e:X.base.get? b=some o):b∉X.fs:=λhb=>by
 have:=(ok.funs.mem hb).1
 rw[e]at this;cases this
theorem Inv.bs(I:Inv X pins σ H s):∀b o,X.base.get? b=some o->s.heap.get? b=some o/\H b=none:=λb o e=>
 ⟨I.base.keep b o (I.ok.bs b o e).1 (I.ok.bs b o e).2 (I.ok.nofr e) (I.ok.noex b o e),I.base.free b o (I.ok.bs b o e).1 (I.ok.bs b o e).2 (I.ok.noex b o e)⟩
theorem Inv.bk(I:Inv X pins σ H s):∀b o,X.base.get? b=some o->s.heap.get? b=some o:=λb o e=>(I.bs b o e).1
theorem Inv.mod(I:Inv X pins σ H s):Mod X.K X.mg X.base:=I.ok.mod
theorem Inv.kIn(I:Inv X pins σ H s):X.K.In s.heap:=I.ok.mod.kin.keeps I.bk
theorem Inv.lt(I:Inv X pins σ H s):X.env.locals<s.heap.objs.size:=let ⟨_,hn,_⟩:=I.loc;hn.lt
theorem Inv.sz(I:Inv X pins σ H s):X.WX.heap.objs.size<=s.heap.objs.size:=zC I.ok.above (yt I.lt)
theorem Inv.nofs(I:Inv X pins σ H s){a:Addr}(h:s.heap.objs.size<=a):a∉X.fs:=λhb=>by
 obtain⟨_,o,ho,_⟩:=I.ok.funs.mem hb
 exact absurd (zV (zn ho) (zC I.sz h)) (yx _)
theorem Inv.cne(I:Inv X pins σ H s):∀x c,X.env.cells.lookup x=some c->c≠X.env.locals:=λx c e z=>by
 obtain⟨v,o,ho,hd⟩:=I.cell x c e
 obtain⟨m,⟨o',es,ep,ho',hd',_⟩,_⟩:=I.loc
 rw[z,ho']at ho;cases ho;rw[hd']at hd;cases hd
theorem Inv.funs(I:Inv X pins σ H s):s.heap.FunFrames X.base X.outer:=by
 have all:∀(l:List Env),(∀b∈frs l,b∈X.fs)->X.WX.heap.FunFrames X.base l->s.heap.FunFrames X.base l:=by
  intro l
  induction l with
  |nil=>intro _ _;trivial
  |cons env r ih=>
    intro hs hl
    obtain⟨hk,⟨L,o,hf,hn,ho,hd⟩,hr⟩:=hl
    have hL:L∈X.fs:=hs L (by unfold frs;rw[jQ,hf];exact zq)
    obtain⟨sl,e⟩:=I.base.slot L o ho (I.ok.frf L hL) hL λz=>I.ok.exfs L z hL
    exact⟨hk,⟨L,_,hf,hn,e,hd⟩,ih (λb hb=>hs b (by unfold frs;rw[jQ,hf];exact zk _ hb)) hr⟩
 exact all X.outer (λ_ hb=>hb) I.ok.funs
theorem Inv.stack(I:Inv X pins σ H s):s.heap.FunFrames X.base X.stack:=by
 rcases I.ok.stk with e|⟨e,hf⟩
 ·rw[e];exact I.funs
 · rw[e]
   obtain⟨m,hn,_⟩:=I.loc
   refine .cons (by rw[I.ok.kind];decide) hf hn ?_ I.funs
   exact Heap.get?_none_of_le (zC I.ok.bsz I.ok.above)
theorem Inv.stkSub(I:Inv X pins σ H s):∀b∈frs X.stack,b∈X.env.locals::X.fs:=λb hb=>by
 rcases I.ok.stk with e|⟨e,hf⟩
 ·rw[e]at hb;exact zk _ hb
 · rw[e]at hb
   unfold frs at hb
   rw[jQ,hf]at hb
   exact hb
theorem Inv.stkFree(I:Inv X pins σ H s):∀b∈frs X.stack,H b=none:=λb hb=>by
 rcases zu.mp (I.stkSub b hb)with e|hb
 ·rw[e];exact I.free
 · obtain⟨_,o,ho,_⟩:=I.ok.funs.mem hb
   exact I.base.free b o ho (I.ok.frf b hb) λz=>I.ok.exfs b z hb
theorem Inv.step{g':Array GenState}{t':Nat}{d':Drawn}{ch:List Addr}(I:Inv X pins σ H s)
 (hch:∀b∈ch,(b∈X.ex\/X.WX.heap.objs.size<=b)/\b≠X.env.locals/\(∀x c,X.env.cells.lookup x=some c->c≠b)/\∀p∈X.pn++pins,p.1≠b)
 (keep:∀b o,b≠X.env.locals->b∉X.fs->b∉ch->s.heap.get? b=some o->H b=none->h'.get? b=some o)
 (slot:∀b o,b≠X.env.locals->b∈X.fs->b∉ch->s.heap.get? b=some o->H b=none->∃sl,h'.get? b=some {o with slots:=sl}) (free:∀b o,b∉ch->s.heap.get? b=some o->H b=none->H' b=none)
 (there:∀b o,b∉ch->s.heap.get? b=some o->∃o',h'.get? b=some o')
 (tups:∀b xs,H b=some (.tup xs)->H' b=some (.tup xs)) (frzs:∀b o u,H b=some (.frz o u)->H' b=some (.frz o u)) (tbls:∀b ps,H b=some (.tbl ps)->∃more,H' b=some (.tbl (ps++more)))
 (ns:∀m,s.heap.Ns X.env.locals m->h'.Ns X.env.locals m) (hok:HOk X.prog X.w H' h') (hg:Xa g'):
 Inv X pins σ H' {s with heap:=h',gens:=g',drawn:=d',toks:=t'}:=by
 have neL:∀b o,X.WX.heap.get? b=some o->b≠X.env.locals:=λb o e=>zw (zV (zn e) I.ok.above)
 have neC:∀b o,X.WX.heap.get? b=some o->b∉X.ex->b∉ch:=λb o e hx hb=>by
  rcases (hch b hb).1 with z|z
  ·exact hx z
  ·exact absurd (zV (zn e) z) (yx _)
 have cellK:∀x c,X.env.cells.lookup x=some c->∀v,s.heap.IsCell c v->h'.IsCell c v:=λx c e v ⟨o,ho,hd⟩=>by
  have nch:c∉ch:=λz=>(hch c z).2.2.1 x c e rfl
  by_cases hc:c∈X.fs
  · obtain⟨sl,q⟩:=slot c o (I.cne x c e) hc nch ho (I.freeC x c e)
    exact⟨_,q,hd⟩
  ·exact⟨o,keep c o (I.cne x c e) hc nch ho (I.freeC x c e),hd⟩
 refine⟨I.ok,I.os,hg,⟨λb o e n hb hx=>?_,λb o e n hb hx=>?_,λb o e n hx=>?_,λb o e hx=>?_,λb xs e=>tups b xs (I.base.tups b xs e),λb o xs e=>frzs b o xs (I.base.frzs b o xs e),λb ps e=>?_⟩,?_,λx c e=>?_,?_,λx c e=>?_,λp hp=>?_,hok,I.len⟩
 ·exact keep b o (neL b o e) hb (neC b o e hx) (I.base.keep b o e n hb hx) (I.base.free b o e n hx)
 · obtain⟨sl,e1⟩:=I.base.slot b o e n hb hx
   obtain⟨sl',e2⟩:=slot b _ (neL b o e) hb (neC b o e hx) e1 (I.base.free b o e n hx)
   exact⟨sl',e2⟩
 · obtain⟨o',e1⟩:=I.base.there b o e hx
   exact free b o' (neC b o e hx) e1 (I.base.free b o e n hx)
 · obtain⟨o',e1⟩:=I.base.there b o e hx
   exact there b o' (neC b o e hx) e1
 · obtain⟨m1,e1⟩:=I.base.tbls b ps e
   obtain⟨m2,e2⟩:=tbls b _ e1
   exact⟨m1++m2,by rw[e2,Array.append_assoc]⟩
 · obtain⟨m,hn,hl⟩:=I.loc
   refine⟨m,ns m hn,λi x v e1 e2 e3=>?_⟩
   obtain⟨u,r,l⟩:=hl i x v e1 e2 e3
   refine⟨u,r,?_⟩
   rcases l with l|⟨k,c,e,z⟩
   ·exact .inl l
   ·exact .inr ⟨k,c,e,cellK x c e _ z⟩
 · obtain⟨v,z⟩:=I.cell x c e
   exact⟨v,cellK x c e v z⟩
 · obtain⟨m,⟨o,_,_,ho,_⟩,_⟩:=I.loc
   exact free _ o (λz=>(hch _ z).2.1 rfl) ho I.free
 · obtain⟨v,o,ho,hd⟩:=I.cell x c e
   exact free c o (λz=>(hch c z).2.2.1 x c e rfl) ho (I.freeC x c e)
 · obtain⟨e,n,ne,nf,d⟩:=I.pin p hp
   have nch:p.1∉ch:=λz=>(hch p.1 z).2.2.2 p hp rfl
   exact⟨keep p.1 p.2 ne nf nch e n,free p.1 p.2 nch e n,ne,nf,d⟩
theorem Inv.un{t':Nat}(I:Inv X pins σ H s)(u:Un X.fs [] H H' s.heap h')(hok:HOk X.prog X.w H' h'):Inv X pins σ H' {s with heap:=h',toks:=t'}:=by
 obtain⟨m,⟨o,es,ep,ho,r⟩,_⟩:=id I.loc
 obtain⟨sl,hL⟩:=u.any ho I.free (by simp)
 exact I.step (g':=s.gens) (d':=s.drawn) (ch:= []) (λ_ z=>nomatch z) (λb o _ hb _ e n=>u.keep b o e n hb (by simp)) (λb o _ hb _ e n=>u.slot b o e n hb (by simp)) (λb o _ e n=>u.free b o e n (by simp)) (λb o _ e=>u.there b o e (by simp)) u.tups u.frzs u.tbls (λm' hm=>by
  obtain⟨o',es',ep',ho',r'⟩:=hm
  rw[ho]at ho';cases ho'
  exact⟨_,es',ep',hL,r'⟩) hok I.bare
theorem Inv.call{g':Array GenState}{t':Nat}{d':Drawn}{ch:List Addr}(I:Inv X pins σ H s)(u:Un (frs X.stack) ch H H' s.heap h')(hok:HOk X.prog X.w H' h')(hg:Xa g')
 (hch:∀b∈ch,(b∈X.ex\/X.WX.heap.objs.size<=b)/\b≠X.env.locals/\(∀x c,X.env.cells.lookup x=some c->c≠b)/\∀p∈X.pn++pins,p.1≠b):
 Inv X pins σ H' {s with heap:=h',gens:=g',drawn:=d',toks:=t'}:=by
 obtain⟨m,⟨o,es,ep,ho,r⟩,_⟩:=id I.loc
 obtain⟨sl,hL⟩:=u.any ho I.free λz=>(hch _ z).2.1 rfl
 exact I.step (ch:=ch) hch (λb o hL hb hc e n=>u.keep b o e n (λz=>(zu.mp (I.stkSub b z)).elim hL hb) hc) (λb o _ _ hc e n=>u.any e n hc) (λb o hc e n=>u.free b o e n hc) (λb o hc e=>u.there b o e hc) u.tups u.frzs u.tbls (λm' hm=>by
  obtain⟨o',es',ep',ho',r'⟩:=hm
  rw[ho]at ho';cases ho'
  exact⟨_,es',ep',hL,r'⟩) hok hg
theorem Inv.turned{t':Nat}{it:Addr}(I:Inv X pins σ H s)(k:∀b o,b≠it->s.heap.get? b=some o->h'.get? b=some o)(hn:H it=none)(hL:it≠X.env.locals)
 (h1:it∈X.ex\/X.WX.heap.objs.size<=it) (h2:∀x c,X.env.cells.lookup x=some c->c≠it) (h3:∀p∈X.pn++pins,p.1≠it):Inv X pins σ H {s with heap:=h',toks:=t'}:=by
 have nit:∀b u,H b=some u->b≠it:=λb u e z=>by rw[z,hn]at e;cases e
 refine I.step (g':=s.gens) (d':=s.drawn) (ch:= [it]) (λb hb=>?_) (λb o _ _ hc e _=>k b o (λz=>hc (by simp[z])) e) (λb o _ _ hc e _=>⟨o.slots,k b o (λz=>hc (by simp[z])) e⟩) (λ_ _ _ _ n=>n)
  (λb o hc e=>⟨o,k b o (λz=>hc (by simp[z])) e⟩) (λ_ _ e=>e) (λ_ _ _ e=>e) (λb ps e=>⟨#[],by rw[e];simp⟩) (λm hm=>?_) (λb u e=>?_) I.bare
 · have e:b=it:=by simpa using hb
   subst e
   exact⟨h1,hL,h2,h3⟩
 · obtain⟨o,es,ep,ho,r⟩:=hm
   exact⟨o,es,ep,k _ o (Ne.symm hL) ho,r⟩
 · refine(I.hok b u e).stay (λc v hc q=>k c v ?_ q) (λ_ q=>q) λ_ _ q=>q
   rcases hc with z|z
   ·rw[z];exact nit b u e
   ·exact nit c _ z
theorem Inv.tok(I:Inv X pins σ H s)(t:Nat):Inv X pins σ H {s with toks:=t}:=I.un (h':=s.heap) (t':=t) Un.refl I.hok
theorem Inv.kept{t':Nat}(I:Inv X pins σ H s)(k:∀b u,s.heap.get? b=some u->h'.get? b=some u):Inv X pins σ H {s with heap:=h',toks:=t'}:=I.un (Un.kept k) (I.hok.kept k)
theorem Inv.laid{a:Addr}{o:HO}{t':Nat}(I:Inv X pins σ H s)(k:∀b u,s.heap.get? b=some u->h'.get? b=some u)(hp:s.heap.objs.size<=a)(new:W2 X.prog X.w (upd H a o) h' a o):
 Inv X pins σ (upd H a o) {s with heap:=h',toks:=t'}:=I.un (Un.laid k hp (I.hok.fresh hp)) (I.hok.laid k hp new)
theorem Inv.write{x e:Addr}{o:HO}{t':Nat}(I:Inv X pins σ H s)(mu:Mut (H x))(he:e=x\/H e=some (.own x))(k:∀b u,b≠e->s.heap.get? b=some u->h'.get? b=some u)(heo:∃u,h'.get? e=some u)
 (new:W2 X.prog X.w (upd H x o) h' x o):Inv X pins σ (upd H x o) {s with heap:=h',toks:=t'}:=I.un (Un.write mu he k heo) (I.hok.write mu he k heo new)
theorem Inv.pins_of{pins':PNS}(I:Inv X pins σ H s)(h:∀p∈pins',s.heap.get? p.1=some p.2/\H p.1=none/\p.1≠X.env.locals/\p.1∉X.fs/\∀v,p.2.data≠ .cell v):Inv X pins' σ H s:=
 ⟨I.ok,I.os,I.bare,I.base,I.loc,I.cell,I.free,I.freeC,λp hp=>(jc.mp hp).elim (λz=>I.pin p (yF _ z)) (h p),I.hok,I.len⟩
theorem cH1{N:List Str}(hN:N.Nodup){i j:Nat}{x:Str}(a:N[i]? =some x)(b:N[j]? =some x):i=j:=by
 obtain⟨h1,e1⟩:=jd.mp a
 obtain⟨h2,e2⟩:=jd.mp b
 exact(Xo hN).mp (e1.trans e2.symm)
theorem dE6{M:Model}{A:ji}{E:VSP}{i:Nat}{x:Str}{v:V}{u:zg}{Q:Unit->zm->Prop}(I:Inv X pins σ H s)(hN:X.N.Nodup)(hi:X.N[i]? =some x)(hx:Loc X.env.scope x)(r:J9 v u)
 (h:∀s',Inv X pins (σ.set i (some v)) H s'->(∃a,jx a s.heap s'.heap/\(a=X.env.locals\/X.env.cells.lookup x=some a))->Q () s') (hf:X.fn x=true\/X.env.scope.names.lookup x=some .local):zt M A (storeName X.env x u) Q E s:=by
 obtain⟨m,hn,hl⟩:=id I.loc
 have hcls:(X.env.scope.kind == .class||(X.env.scope.kind == .module&&X.env.locals != X.env.globals))=false:=by rw[I.ok.kind];rfl
 have hiσ:i<σ.length:=by rw[I.len];exact(jd.mp hi).1
 have cne:=I.cne
 have tracked:∀ {a:Addr} {h':Heap},(∃o,s.heap.get? a=some o/\H a=none)->jx a s.heap h'->HOk X.prog X.w H h':=λ{a h'} ha hs b ob e=>by
  obtain⟨_,_,hfree⟩:=ha
  refine(I.hok b ob e).stay (λc w' hc q=>(hs.2 c ?_).trans q) (λ_ q=>q) λ_ _ q=>q
  rintro rfl
  rcases hc with rfl|hc
  ·rw[hfree]at e;cases e
  ·rw[hfree]at hc;cases hc
 rcases hx with hk|hk
 · refine wpAny_storeName_local hk hn (λh' hn' hs=>?_) hcls
   obtain⟨oL,_,_,hoL,_⟩:=id hn
   refine h _ ⟨I.ok,I.os,I.bare,⟨λb o e n hb hx=>?_,λb o e n hb hx=>?_,I.base.free,λb o e hx=>?_,I.base.tups,I.base.frzs,I.base.tbls⟩,⟨_,hn',λj y v' e1 e2 e3=>?_⟩,λy c e=>?_,I.free,I.freeC,λp hp=>?_,tracked ⟨oL,hoL,I.free⟩ hs,by simpa using I.len⟩ ⟨_,hs,.inl rfl⟩
   ·exact(hs.2 b (zw (zV (zn e) I.ok.above))).trans (I.base.keep b o e n hb hx)
   · obtain⟨sl,e1⟩:=I.base.slot b o e n hb hx
     exact⟨sl,(hs.2 b (zw (zV (zn e) I.ok.above))).trans e1⟩
   · obtain⟨o',e1⟩:=I.base.there b o e hx
     exact⟨o',(hs.2 b (zw (zV (zn e) I.ok.above))).trans e1⟩
   · by_cases hj:j=i
     · subst hj
       rw[hi]at e1;cases e1
       rw[zL hiσ]at e2
       cases e2
       exact⟨u,r,.inl ⟨hk,by simp⟩⟩
     · rw[zS (Ne.symm hj)]at e2
       obtain⟨u',r',q⟩:=hl j y v' e1 e2 e3
       refine⟨u',r',?_⟩
       rcases q with⟨k,e⟩|⟨k,c,e,z⟩
       · refine .inl ⟨k,?_⟩
         have:y≠x:=λe=>hj (cH1 hN e1 (e▸hi))
         simp[this,e]
       ·exact .inr ⟨k,c,e,z.sameBut hs (cne y c e)⟩
   · obtain⟨w',z⟩:=I.cell y c e
     exact⟨w',z.sameBut hs (cne y c e)⟩
   · obtain⟨e,n,ne,nf,d⟩:=I.pin p hp
     exact⟨(hs.2 p.1 ne).trans e,n,ne,nf,d⟩
 · have hfn:X.fn x=true:=by
    rcases hf with z|z
    ·exact z
    ·rw[z]at hk;cases hk
   obtain⟨c,hc⟩:=I.ok.has x (.inl hk)
   obtain⟨w',z⟩:=I.cell x c hc
   refine wpAny_storeName_cell I.ok.kind hk hc z (λh' hc' hs=>?_)
   obtain⟨oc,hoc,hocd⟩:=id z
   refine h {s with heap:=h'} ⟨I.ok,I.os,I.bare,⟨λb o e n hb hx=>?_,λb o e n hb hx=>?_,I.base.free,λb o e hx=>?_,I.base.tups,I.base.frzs,I.base.tbls⟩,⟨m,hn.sameBut hs (Ne.symm (cne x c hc)),λj y v' e1 e2 e3=>?_⟩,λy c' e=>?_,I.free,I.freeC,λp hp=>?_,tracked ⟨oc,hoc,I.freeC x c hc⟩ hs,by simpa using I.len⟩ ⟨c,hs,.inr hc⟩
   ·exact(hs.2 b (zw (zV (zn e) (I.ok.cab x c hfn hc)))).trans (I.base.keep b o e n hb hx)
   · obtain⟨sl,e1⟩:=I.base.slot b o e n hb hx
     exact⟨sl,(hs.2 b (zw (zV (zn e) (I.ok.cab x c hfn hc)))).trans e1⟩
   · obtain⟨o',e1⟩:=I.base.there b o e hx
     exact⟨o',(hs.2 b (zw (zV (zn e) (I.ok.cab x c hfn hc)))).trans e1⟩
   · by_cases hj:j=i
     · subst hj
       rw[hi]at e1;cases e1
       rw[zL hiσ]at e2
       cases e2
       exact⟨u,r,.inr ⟨.inl hk,c,hc,hc'⟩⟩
     · rw[zS (Ne.symm hj)]at e2
       obtain⟨u',r',q⟩:=hl j y v' e1 e2 e3
       refine⟨u',r',?_⟩
       rcases q with q|⟨k,c',e,z'⟩
       ·exact .inl q
       · refine .inr ⟨k,c',e,z'.sameBut hs ?_⟩
         rintro rfl
         exact hj (cH1 hN e1 (I.ok.inj _ _ _ e hc▸hi))
   · by_cases hcc:c'=c
     ·subst hcc;exact⟨_,hc'⟩
     · obtain⟨w2,z2⟩:=I.cell y c' e
       exact⟨w2,z2.sameBut hs hcc⟩
   · obtain⟨e,n,ne,nf,d⟩:=I.pin p hp
     refine⟨(hs.2 p.1 ?_).trans e,n,ne,nf,d⟩
     intro q
     rw[q,hoc]at e
     have q':oc=p.2:=zQ e
     exact d w' (by rw[<-q'];exact hocd)
theorem dK4{M:Model}{A:ji}{E:VSP}{i:Nat}{x:Str}{v:V}{u:zg}{Q:Unit->zm->Prop}(I:Inv X pins σ H s)(hN:X.N.Nodup)(hi:X.N[i]? =some x)(hx:Loc X.env.scope x)(r:J9 v u)
 (h:∀s',Inv X pins (σ.set i (some v)) H s'->Q () s') (hf:X.fn x=true\/X.env.scope.names.lookup x=some .local):zt M A (storeName X.env x u) Q E s:=
 dE6 I hN hi hx r (λs' I' _=>h s' I') hf
end
noncomputable abbrev XK:=zg->Option Addr->Hp->Prop
noncomputable abbrev St:=List (Option V)
noncomputable abbrev VK:=V->Hp->Prop
noncomputable abbrev TE:=St->Hp->VK->Prop
noncomputable abbrev TT:=St->Hp->(Bool->Hp->Prop)->Prop
noncomputable abbrev TA:=St->Hp->(List V->Hp->Prop)->Prop
structure bZ2 where
 nx:St->Hp->Prop
 rt:VK
 bk:St->Hp->Prop:=λ_ _=>False
 ct:St->Hp->Prop:=λ_ _=>False
noncomputable abbrev TS:=bZ2->St->Hp->Prop
def EP(X:Cx)(pins:PNS)(σ:St)(Q:VK)(u:zg)(s':zm):Prop:=∃v H',Inv X pins σ H' s'/\J9 v u/\Q v H'
noncomputable def TP(X:Cx)(pins:PNS)(σ:St)(Q:Bool->Hp->Prop)(b:Bool)(s':zm):Prop:=∃H',Inv X pins σ H' s'/\Q b H'
noncomputable def AP(X:Cx)(pins:PNS)(σ:St)(Q:List V->Hp->Prop)(us:List zg)(s':zm):Prop:=∃vs H',Inv X pins σ H' s'/\v6 vs us/\Q vs H'
theorem EP.elim{X:Cx}{pins:PNS}{σ:St}{Q:VK}{u:zg}{s:zm}{P:Prop}(h:EP X pins σ Q u s)(k:∀v H,Inv X pins σ H s->J9 v u->Q v H->P):P:=by
 obtain⟨a,b,c,d,e⟩:=h
 exact k a b c d e
theorem TP.elim{X:Cx}{pins:PNS}{σ:St}{Q:Bool->Hp->Prop}{u:Bool}{s:zm}{P:Prop}(h:TP X pins σ Q u s)(k:∀H,Inv X pins σ H s->Q u H->P):P:=by
 obtain⟨b,c,e⟩:=h
 exact k b c e
theorem AP.elim{X:Cx}{pins:PNS}{σ:St}{Q:List V->Hp->Prop}{u:List zg}{s:zm}{P:Prop}(h:AP X pins σ Q u s)(k:∀v H,Inv X pins σ H s->v6 v u->Q v H->P):P:=by
 obtain⟨a,b,c,d,e⟩:=h
 exact k a b c d e
def SP(X:Cx)(pins:PNS)(D:bZ2)(f:Flow)(s':zm):Prop:=
 match f with
 | .next=>∃ X2 H',Inv X pins X2 H' s'/\D.nx X2 H'
 | .brk=>∃ X2 H',Inv X pins X2 H' s'/\D.bk X2 H'
 | .cont=>∃ X2 H',Inv X pins X2 H' s'/\D.ct X2 H'
 | .ret u=>∃v X2 H',Inv X pins X2 H' s'/\J9 v u/\D.rt v H'
def PE(X:Cx)(e:Expr)(t:TE):Prop:=
 ∀(pins:PNS) (s:zm) (σ:St) (H:Hp) (Q:VK),Inv X pins σ H s->t σ H Q->zt (zz X.prog X.w) X.A (eval e X.env) (EP X pins σ Q) X.xe s
def PT(X:Cx)(e:Expr)(t:TT):Prop:=
 ∀(pins:PNS) (s:zm) (σ:St) (H:Hp) (Q:Bool->Hp->Prop),Inv X pins σ H s->t σ H Q->zt (zz X.prog X.w) X.A (isTrue e X.env (eval e X.env)) (TP X pins σ Q) X.xe s
def PW(X:Cx)(e:Expr)(t:TT):Prop:=
 ∀(whole:Sem zg) (pins:PNS) (s:zm) (σ:St) (H:Hp) (Q:Bool->Hp->Prop),Inv X pins σ H s->t σ H Q->zt (zz X.prog X.w) X.A (isTrue e X.env whole) (TP X pins σ Q) X.xe s
def PA(X:Cx)(es:List Expr)(t:TA):Prop:=
 ∀(pos:Pos) (pins:PNS) (s:zm) (σ:St) (H:Hp) (Q:List V->Hp->Prop),Inv X pins σ H s->t σ H Q->zt (zz X.prog X.w) X.A (spliced (yQ pos (zK es X.env))) (AP X pins σ Q) X.xe s
def PS(X:Cx)(st:Stmt)(t:TS):Prop:=
 ∀(pins:PNS) (s:zm) (σ:St) (H:Hp) (D:bZ2),Inv X pins σ H s->t D σ H->zt (zz X.prog X.w) X.A (exec st X.env) (SP X pins D) X.xe s
def PSs(X:Cx)(st:List Stmt)(t:TS):Prop:=
 ∀(pins:PNS) (s:zm) (σ:St) (H:Hp) (D:bZ2),Inv X pins σ H s->t D σ H->zt (zz X.prog X.w) X.A (execs st X.env) (SP X pins D) X.xe s
theorem thn{α:Type}{t:Sem α}{Q Q':α->zm->Prop}{M:Model}{A:ji}{E:VSP}{s:zm}(h:zt M A t Q E s)(hQ:∀a s,Q a s->Q' a s):zt M A t Q' E s:=jH h hQ λ_ _ x=>x
section
variable{X:Cx}
noncomputable def fM5(i:Nat):TE:=λσ H Q=>∃v,σ[i]? =some (some v)/\Q v H
noncomputable def tC(v:V):TE:=λ_ H Q=>Q v H
theorem eW2{i:Nat}{x:Str}{pos:Pos}(hN:X.N[i]? =some x)(hv:Vis X.env.scope x)(hd:(x==("__debug__" :Str))=false)(hcd:(x==("__classdict__" :Str))=false):PE X (.Name x pos) (fM5 i):=by
 intro pins s σ H Q I h
 obtain⟨v,e,h⟩:=h
 obtain⟨m,hn,hl⟩:=I.loc
 obtain⟨u,r,l⟩:=hl i x v hN e hv
 have fin:EP X pins σ Q u s:=⟨v,H,I,r,h⟩
 rcases l with⟨hk,hm⟩|⟨hk,c,hc,hcell⟩
 ·exact wpAny_Name (wpAny_loadName_local I.ok.kind hk hn hm fin) hd
 · rcases hk with hk|hk
   ·exact wpAny_Name (wpAny_loadName_cell I.ok.kind hk hc hcell fin) hd
   ·exact wpAny_Name (wpAny_loadName_free I.ok.kind hk hc hcell fin hcd) hd
theorem dM5{i j pos}:PE X (.Constant (.int i) j pos) (tC (.int i)):=λ_ _ _ H _ I h=>wpAny_Constant_int ⟨.int i,H,I.tok _,⟨_,rfl⟩,h⟩
theorem fB1{b j pos}:PE X (.Constant (.bool b) j pos) (tC (.bl b)):=λ_ _ _ H _ I h=>Constant_bool ⟨.bl b,H,I,rfl,h⟩
theorem dH5{j pos}:PE X (.Constant .none j pos) (tC .non):=λ_ _ _ H _ I h=>Constant_none ⟨.non,H,I,rfl,h⟩
theorem eO3{x j pos}:PE X (.Constant (.str x) j pos) (tC (.str x)):=λ_ _ _ H _ I h=>Calls.Constant_str ⟨.str x,H,I.tok _,⟨_,rfl⟩,h⟩
noncomputable def Gl(X:Cx)(x:Str):Prop:=X.env.kindOf x=some .globalImplicit
theorem bI8{E:VSP}{pins:PNS}{s:zm}{σ:St}{H:Hp}{x:Str}{u:zg}{pos:Pos}{Q:VSP}(I:Inv X pins σ H s)(hg:Gl X x)(hm:X.mg x=some u)(h:Q u s)
 (hd:(x==("__debug__" :Str))=false):zt (zz X.prog X.w) X.A (eval (.Name x pos) X.env) Q E s:=
 XF I.ok.kind hg (Calls.loadGlobal_global (by rw[I.ok.glob];exact I.mod.glob.keeps I.bk) hm h) hd
theorem aK2{E:VSP}{pins:PNS}{s:zm}{σ:St}{H:Hp}{x:Str}{u:zg}{pos:Pos}{Q:VSP}(I:Inv X pins σ H s)(hg:Gl X x)(hm:X.mg x=none)(hv:ja x=some u)(h:Q u s)
 (hn:x≠ "__name__":=by decide) (hd:(x==("__debug__" :Str))=false:=by decide):zt (zz X.prog X.w) X.A (eval (.Name x pos) X.env) Q E s:=by
 obtain⟨mb,h1,h2⟩:=I.mod.blt
 exact XF I.ok.kind hg (Calls.loadGlobal_builtin (by rw[I.ok.glob];exact I.mod.glob.keeps I.bk) hm (by rw[I.ok.blt];exact h1.keeps I.bk) ((h2 x hn).trans hv) h) hd
theorem dZ1{x:Str}{v:V}{u:zg}{pos:Pos}(hg:Gl X x)(hm:X.mg x=none)(hv:ja x=some u)(r:J9 v u)(hn:x≠ "__name__")(hd:(x==("__debug__" :Str))=false):PE X (.Name x pos) (tC v):=
 λ_ _ _ H _ I h=>aK2 I hg hm hv ⟨v,H,I,r,h⟩ hn hd
variable{a b:Expr}{ta tb:TE}{pos:Pos}
variable{tA tB':TT}{Q9:List Expr}
noncomputable def fP9(t u:TT):TT:=λσ H Q=>t σ H λc H1=>if c=true then u σ H1 Q else Q false H1
noncomputable def tOr(t u:TT):TT:=λσ H Q=>t σ H λc H1=>if c=true then Q true H1 else u σ H1 Q
noncomputable def fR0(t:TT):TT:=λσ H Q=>t σ H λc H1=>Q (!c) H1
theorem dX3(ha:PT X a tA):PW X (.BoolOp .And [a] pos) tA:=by
 intro wh pins s σ H Q I h
 refine isTrue_and (thn (ha pins s σ H Q I h) λc s1 e=>?_)
 cases c with
 |true=>exact isTrue_and_nil e
 |false=>exact e
theorem eO6(ha:PT X a tA):PW X (.BoolOp .Or [a] pos) tA:=by
 intro wh pins s σ H Q I h
 refine isTrue_or (thn (ha pins s σ H Q I h) λc s1 e=>?_)
 cases c with
 |false=>exact isTrue_or_nil e
 |true=>exact e
theorem eU3(ha:PT X a tA)(hb:PW X (.BoolOp .And (b::Q9) pos) tB'):PW X (.BoolOp .And (a::b::Q9) pos) (fP9 tA tB'):=by
 intro wh pins s σ H Q I h
 refine isTrue_and (thn (ha pins s σ H _ I h) λc s1 hE1=>hE1.elim λH1 I1 q1=>?_)
 cases c with
 |true=>exact hb wh pins s1 σ H1 Q I1 q1
 |false=>exact⟨H1,I1,q1⟩
theorem fE5(ha:PT X a tA)(hb:PW X (.BoolOp .Or (b::Q9) pos) tB'):PW X (.BoolOp .Or (a::b::Q9) pos) (tOr tA tB'):=by
 intro wh pins s σ H Q I h
 refine isTrue_or (thn (ha pins s σ H _ I h) λc s1 hE1=>hE1.elim λH1 I1 q1=>?_)
 cases c with
 |true=>exact⟨H1,I1,q1⟩
 |false=>exact hb wh pins s1 σ H1 Q I1 q1
theorem eR6(ha:PT X a tA):PT X (.UnaryOp .Not a pos) (fR0 tA):=by
 intro pins s σ H Q I h
 exact isTrue_not (ha pins s σ H (λc H1=>Q (!c) H1) I h)
noncomputable def fG5(ta:TE):TE:=λσ H Q=>ta σ H λx H1=>∃c,x= .bl c/\Q (.bl (!c)) H1
theorem eZ2{op}{t:TE}(h:PE X a t):PE X (.BoolOp op [a] pos) t:=λpins s σ H Q I hw=>BoolOp_one (h pins s σ H Q I hw)
theorem fA1(ha:PE X a ta):PE X (.UnaryOp .Not a pos) (fG5 ta):=by
 intro pins s σ H Q I h
 refine UnaryOp_ (thn (ha pins s σ H _ I h) λv s1 hE1=>hE1.elim λx H1 I1 r1 q1=>?_)
 obtain⟨c,rfl,q1⟩:=q1
 cases r1
 exact not_of (ye ⟨.bl (!c),H1,I1,rfl,q1⟩)
noncomputable def tIf(t:TT)(ta tb:TE):TE:=λσ H Q=>t σ H λc H1=>if c=true then ta σ H1 Q else tb σ H1 Q
theorem dG8{c:Expr}(hc:PT X c tA)(ha:PE X a ta)(hb:PE X b tb):PE X (.IfExp c a b pos) (tIf tA ta tb):=by
 intro pins s σ H Q I h
 refine wpAny_IfExp (thn (hc pins s σ H _ I h) λd s1 hE1=>hE1.elim λH1 I1 q1=>?_)
 cases d with
 |true=>exact ha pins s1 σ H1 Q I1 q1
 |false=>exact hb pins s1 σ H1 Q I1 q1
end
def SqL(K:zi)(H:Hp)(a:Addr)(xs:List V):Prop:=
 Rd H a (.lst xs)\/
  ∃(o:Obj) (its:Array zg) (n:Nat),K.lookup a=some o/\o.cls= .type "list"/\o.dict=none/\o.data= .seq its n/\its.size<=zl/\v6 xs its.toList
def SqT(K:zi)(H:Hp)(a:Addr)(xs:List V):Prop:=
 Rd H a (.tup xs)\/
  ∃(o:Obj) (its:Array zg) (n:Nat),K.lookup a=some o/\o.cls= .type "tuple"/\(o.data,o.dict)= (Data.seq its n,none)/\its.size<=zl/\v6 xs its.toList
noncomputable def fR5:zg->Option V
 | .none=>some .non
 | .bool b=>some (.bl b)
 | .int i _=>some (.int i)
 | .str x _=>some (.str x)
 | .bytes b _=>some (.byt b)
 | .float b _=>some (.flt b)
 | .ref a=>some (.ref a)
 | .type n=>some (.ty n)
 |_=>none
theorem J9.abs{x:V}{u:zg}(r:J9 x u):fR5 u=some x:=by
 cases x with
 |non=>cases r;rfl
 |bl _=>cases r;rfl
 |int _=>obtain⟨t,rfl⟩:=r;rfl
 |str _=>obtain⟨t,rfl⟩:=r;rfl
 |byt _=>obtain⟨t,rfl⟩:=r;rfl
 |flt _=>obtain⟨t,rfl⟩:=r;rfl
 |ref _=>cases r;rfl
 |ty _=>cases r;rfl
theorem J9.inj{x y:V}{u:zg}(r:J9 x u)(q:J9 y u):x=y:=zQ (r.abs.symm.trans q.abs)
theorem v6.inj{xs ys:List V}{us:List zg}(h:v6 xs us)(k:v6 ys us):xs=ys:=by
 induction h generalizing ys with
 |nil=>cases k;rfl
 |cons r t ih=>cases k with
   |cons r' t'=>rw[r.inj r',ih t']
section
theorem SqL.of{K:zi}(h:H a=some (.lst xs)):SqL K H a xs:=.inl (.inl h)
theorem SqT.of{K:zi}(h:H a=some (.tup xs)):SqT K H a xs:=.inl (.inl h)
theorem Inv.list(I:Inv X pins σ H s)(h:SqL X.K H a xs):∃its:List zg,v6 xs its/\PlainL s.heap a its.toArray/\xs.length<=zl:=by
 rcases h with h|⟨o,its,n,hk,hc,hd,hs,hz,r⟩
 · obtain⟨z,its,n,r,e⟩:=h.ok I.hok
   exact⟨its,r,⟨_,n,e,rfl,rfl,rfl⟩,z⟩
 · refine⟨its.toList,r,⟨o,n,I.kIn a o hk,hc,hd,by simpa using hs⟩,?_⟩
   have e:=r.length
   simp only[zA]at e
   lia
theorem Inv.tuple(I:Inv X pins σ H s)(h:SqT X.K H a xs):∃its:List zg,v6 xs its/\YE s.heap a its.toArray/\xs.length<=zl:=by
 rcases h with h|⟨o,its,n,hk,hc,hs,hz,r⟩
 · obtain⟨z,its,r,p⟩:=h.ok I.hok
   exact⟨its,r,aP7.tup p,z⟩
 · refine⟨its.toList,r,⟨o,I.kIn a o hk,hc,n,by simpa using (yp hs).1⟩,?_⟩
   have e:=r.length
   simp only[zA]at e
   lia
theorem Inv.list_inj(I:Inv X pins σ H s)(h:SqL X.K H a xs)(h':SqL X.K H a ys):xs=ys:=by
 obtain⟨its,r,⟨o,n,e,_,_,d⟩,_⟩:=I.list h
 obtain⟨its',r',⟨o',n',e',_,_,d'⟩,_⟩:=I.list h'
 rw[e]at e';cases e'
 rw[d]at d'
 injection d' with d1 _
 have:its=its':=by simpa using congrArg Array.toList d1
 subst this
 exact r.inj r'
theorem Inv.tuple_inj(I:Inv X pins σ H s)(h:SqT X.K H a xs)(h':SqT X.K H a ys):xs=ys:=by
 obtain⟨its,r,⟨o,e,_,n,d⟩,_⟩:=I.tuple h
 obtain⟨its',r',⟨o',e',_,n',d'⟩,_⟩:=I.tuple h'
 rw[e]at e';cases e'
 rw[d]at d'
 injection d' with d1 _
 have:its=its':=by simpa using congrArg Array.toList d1
 subst this
 exact r.inj r'
end
noncomputable abbrev Cx.wish(X:Cx)(E:VSP):Cx:={X with xe:=E}
noncomputable abbrev Cx.nox(X:Cx):Cx:=X.wish λ_ _=>False
theorem Cx.Ok.wish{X:Cx}(ok:X.Ok)(E:VSP):(X.wish E).Ok:=
 ⟨ok.mod,ok.kind,ok.glob,ok.blt,ok.above,ok.inj,ok.has,ok.cab,ok.hd,ok.frames,ok.stk,ok.exf,ok.bs,ok.bsz,ok.noex,ok.exfs,ok.funs,ok.frf,ok.gd⟩
theorem Cx.Ok.unwish{X:Cx}{E:VSP}(ok:(X.wish E).Ok):X.Ok:=
 ⟨ok.mod,ok.kind,ok.glob,ok.blt,ok.above,ok.inj,ok.has,ok.cab,ok.hd,ok.frames,ok.stk,ok.exf,ok.bs,ok.bsz,ok.noex,ok.exfs,ok.funs,ok.frf,ok.gd⟩
section
theorem Inv.wish(I:Inv X pins σ H s)(E:VSP):Inv (X.wish E) pins σ H s:=⟨I.ok.wish E,I.os,I.bare,I.base,I.loc,I.cell,I.free,I.freeC,I.pin,I.hok,I.len⟩
theorem Inv.unwish(I:Inv (X.wish E) pins σ H s):Inv X pins σ H s:=⟨I.ok.unwish,I.os,I.bare,I.base,I.loc,I.cell,I.free,I.freeC,I.pin,I.hok,I.len⟩
theorem SP.unwish{D:bZ2}{f:Flow}{s':zm}(h:SP (X.wish E) pins D f s'):SP X pins D f s':=by
 cases f with
 |next=>obtain⟨X2,H',I,q⟩:=h;exact⟨X2,H',I.unwish,q⟩
 |brk=>obtain⟨X2,H',I,q⟩:=h;exact⟨X2,H',I.unwish,q⟩
 |cont=>obtain⟨X2,H',I,q⟩:=h;exact⟨X2,H',I.unwish,q⟩
 |ret u=>obtain⟨v,X2,H',I,r,q⟩:=h;exact⟨v,X2,H',I.unwish,r,q⟩
theorem PSs.nox{st:List Stmt}{t:TS}(h:PSs X.nox st t):PSs X st t:=λpins s σ H D I hw=>
 jH (h pins s σ H D (I.wish _) hw) (λ_ _ q=>q.unwish) λ_ _ z=>yV z
end
section
variable{X:Cx}{st:Stmt}{Q9:List Stmt}{t u:TS}
noncomputable def fL9:TS:=λD σ H=>D.nx σ H
noncomputable def fO5(t u:TS):TS:=λD σ H=>t {D with nx:=u D} σ H
theorem eB8:PSs X [] fL9:=λ_ _ σ H _ I h=>YA ⟨σ,H,I,h⟩
theorem dN3(h1:PS X st t)(h2:PSs X Q9 u):PSs X (st::Q9) (fO5 t u):=by
 intro pins s σ H D I h
 refine wpAny_execs_cons (thn (h1 pins s σ H {D with nx:=u D} I h) λf s1 q=>?_)
 cases f with
 |next=>
   obtain⟨X2,H',I',q⟩:=q
   exact h2 pins s1 X2 H' D I' q
 |ret v=>exact q
 |brk=>exact q
 |cont=>exact q
theorem dV5(h1:PS X st t):PSs X [st] t:=by
 intro pins s σ H D I h
 refine wpAny_execs_cons (thn (h1 pins s σ H D I h) λf s1 q=>?_)
 cases f with
 |next=>exact YA q
 |ret v=>exact q
 |brk=>exact q
 |cont=>exact q
theorem Inv.quiet{pins:PNS}{σ:St}{H:Hp}{s:zm}(I:Inv X pins σ H s):interactive X.env=false:=by simp[interactive,I.ok.kind]
noncomputable def fC4(te:TE):TS:=λD σ H=>te σ H λ_ H1=>D.nx σ H1
theorem eF4(he:PE X e te)(hs:swapsWith e none pos.line X.env=pure false):PS X (.Expr e pos) (fC4 te):=by
 intro pins s σ H D I h
 exact wpAny_Expr_any (thn (he pins s σ H _ I h) λv s1 hE1=>hE1.elim λx H1 I1 r1 q1=>⟨σ,H1,I1,q1⟩) I.quiet hs
noncomputable def fP6(te:TE):TS:=λD σ H=>te σ H D.rt
theorem eR9(he:PE X e te):PS X (.Return (some e) pos) (fP6 te):=by
 intro pins s σ H D I h
 exact wpAny_Return_some (thn (he pins s σ H _ I h) λv s1 hE1=>hE1.elim λx H1 I1 r1 q1=>⟨x,σ,H1,I1,r1,q1⟩)
noncomputable def fQ1(c:TT)(t u:TS):TS:=λD σ H=>c σ H λb H1=>if b=true then t D σ H1 else u D σ H1
theorem fE9{c:Expr}{a b:List Stmt}{tc:TT}(hc:PT X c tc)(ha:PSs X a t)(hb:PSs X b u):PS X (.If c a b pos) (fQ1 tc t u):=by
 intro pins s σ H D I h
 refine wpAny_If (thn (hc pins s σ H _ I h) λd s1 hE1=>hE1.elim λH1 I1 q1=>?_)
 cases d with
 |true=>exact ha pins s1 σ H1 D I1 q1
 |false=>exact hb pins s1 σ H1 D I1 q1
end
noncomputable abbrev TG:=V->St->Hp->(St->Hp->Prop)->Prop
noncomputable abbrev TGs:=List V->St->Hp->(St->Hp->Prop)->Prop
def PG(X:Cx)(target:Expr)(t:TG):Prop:=
 ∀(pins:PNS) (s:zm) (σ:St) (H:Hp) (v:V) (u:zg) (Q:St->Hp->Prop),Inv X pins σ H s->J9 v u->t v σ H Q->
  zt (zz X.prog X.w) X.A (Yw target X.env u) (λ_ s'=>∃ X2 H',Inv X pins X2 H' s'/\Q X2 H') X.xe s
noncomputable def PGs(X:Cx)(ts:List Expr)(t:TGs):Prop:=
 ∀(pins:PNS) (s:zm) (σ:St) (H:Hp) (vs:List V) (us:List zg) (Q:St->Hp->Prop),Inv X pins σ H s->v6 vs us->t vs σ H Q->
  zt (zz X.prog X.w) X.A (assignInOrder ((xj ts X.env).map (·.2)) us) (λ_ s'=>∃ X2 H',Inv X pins X2 H' s'/\Q X2 H') X.xe s
noncomputable abbrev TSet:=V->V->V->Hp->(Hp->Prop)->Prop
def eY8(X:Cx)(t:TSet):Prop:=
 ∀(pins:PNS) (s:zm) (σ:St) (H:Hp) (o i v:V) (ov iv u:zg) (Q:Hp->Prop),Inv X pins σ H s->J9 o ov->J9 i iv->J9 v u->t o i v H Q->
  zt (zz X.prog X.w) X.A (setItem ov iv u) (λ_ s'=>∃H',Inv X pins σ H' s'/\Q H') X.xe s
section
noncomputable def fB8(i:Nat):TG:=λv σ H Q=>Q (σ.set i (some v)) H
theorem eB1{i:Nat}{x:Str}(hN:X.N.Nodup)(hi:X.N[i]? =some x)(hx:Loc X.env.scope x)(hf:X.fn x=true\/X.env.scope.names.lookup x=some .local):PG X (.Name x pos) (fB8 i):=by
 intro pins s σ H v u Q I r h
 exact wpAny_assign_Name (dK4 I hN hi hx r (λs' I'=>⟨_,H,I',h⟩) hf)
noncomputable def fN3:TGs:=λvs σ H Q=>vs= []/\Q σ H
noncomputable def fE3(t:TG)(u:TGs):TGs:=λvs σ H Q=>∃v r,vs=v::r/\t v σ H λX2 H'=>u r X2 H' Q
theorem eB4:PGs X [] fN3:=by
 intro pins s σ H vs us Q I r h
 obtain⟨e,h⟩:=h
 subst e
 cases r
 exact assignInOrder_nil ⟨σ,H,I,h⟩
theorem dH7{e:Expr}{es:List Expr}{t:TG}{u:TGs}(h1:PG X e t)(h2:PGs X es u)
 (hs:(xj (e::es) X.env).map (·.2)=Yw e X.env::(xj es X.env).map (·.2)):PGs X (e::es) (fE3 t u):=by
 intro pins s σ H vs us Q I r h
 obtain⟨v,vr,e1,h⟩:=h
 subst e1
 cases r with
 |cons r rr=>
   rw[hs]
   refine assignInOrder_cons (thn (h1 pins s σ H _ _ _ I r h) λ_ s1 ⟨W1,H1,I1,q1⟩=>?_)
   exact h2 pins s1 W1 H1 _ _ Q I1 rr q1
def fQ2(K:zi)(n:Nat)(t:TGs):TG:=λv σ H Q=>∃a xs,v= .ref a/\SqT K H a xs/\xs.length=n/\t xs σ H Q
theorem eS8{es:List Expr}{k:Nat}{t:TGs}{n:Nat}(hc:X.calm=true)(h:PGs X es t)
 (hn:(xj es X.env).length=n) (hst:(xj es X.env).findIdx? (·.1)=none):PG X (.Tuple es k pos) (fQ2 X.K n t):=by
 intro pins s σ H v u Q I r hw
 obtain⟨a,xs,e1,hq,hl,hw⟩:=hw
 subst e1
 cases r
 obtain⟨its,rv,ht,hz⟩:=I.tuple hq
 refine assign_Tuple_tuple (I.ok.hd hc) ht (by simp[hn,<-hl,rv.length]) hst λh' hx=>?_
 have I1:Inv X pins σ H {s with heap:=h'}:=I.kept (t':=s.toks) λb o e=>hx b o (zw (zn e)) e
 exact h pins _ σ H xs _ Q I1 (by simpa using rv) hw
noncomputable def fN5(to ti:TE)(t:TSet):TG:=λv σ H Q=>to σ H λo H1=>ti σ H1 λi H2=>t o i v H2 λH3=>Q σ H3
theorem eY5{o i:Expr}{to ti:TE}{t:TSet}(ho:PE X o to)(hi:PE X i ti)(hs:eY8 X t)
 (ha:∀v,Yw (.Subscript o i pos) X.env v= (do
   let ov <-YV [v] (eval o X.env)
   let iv <-YV [v,ov] (eval i X.env)
   Jv pos
   YV [v,ov,iv] (setItem ov iv v)
   release [v,ov,iv] [])):PG X (.Subscript o i pos) (fN5 to ti t):=by
 intro pins s σ H v u Q I r h
 rw[ha]
 refine za (jl (thn (ho pins s σ H _ I h) λov s1 ⟨x,H1,I1,r1,q1⟩=>?_))
 refine za (jl (thn (hi pins s1 σ H1 _ I1 q1) λiv s2 ⟨y,H2,I2,r2,q2⟩=>?_))
 refine za (ZV (za (jl (thn (hs pins s2 σ H2 x y v ov iv u _ I2 r1 r2 r q2) λ_ s3 ⟨H3,I3,q3⟩=>?_))))
 exact wpAny_release ⟨σ,H3,I3,q3⟩
noncomputable def fO7(te:TE)(g:TG):TS:=λD σ H=>te σ H λx H1=>g x σ H1 D.nx
theorem eO7{tg e:Expr}{te:TE}{g:TG}(he:PE X e te)(hg:PG X tg g)(hs:swapsWithSole [tg] e pos.line X.env=pure false)(hw:swappedStores [tg] e X.env=pure none)
 (h1:(xj [tg] X.env).map (·.2)= [Yw tg X.env]):PS X (.Assign [tg] e pos) (fO7 te g):=by
 intro pins s σ H D I h
 refine wpAny_Assign_stores (thn (he pins s σ H _ I h) λv s1 hE1=>hE1.elim λx H1 I1 r1 q1=>?_) hs hw
 rw[h1]
 exact thn (hg pins s1 σ H1 x v _ I1 r1 q1) λ_ s2 q=>q
end
section
noncomputable def eS4(c:TT)(tb:TS):TS:=λD σ H=>∃W:Nat->St->Hp->Prop,(∃m,W m σ H)/\∀m σ H,W m σ H->
 c σ H λb H1=>if b=true then ∃N:St->Hp->Prop,(∀ X2 H',N X2 H'->∃m',m'<m/\W m' X2 H')/\tb {D with nx:=N,ct:=N,bk:=D.nx} σ H1 else D.nx σ H1
theorem dM3{c:Expr}{body:List Stmt}{tc:TT}{tb:TS}(hp:PassesOwn (zz X.prog X.w) X.A X.env X.xe)(hc:PT X c tc)(hb:PSs X body tb):PS X (.While c body [] pos) (eS4 tc tb):=by
 intro pins s σ H D I h
 obtain⟨W,⟨m0,w0⟩,turn⟩:=h
 refine wpAny_While (codeAny_whileLoop (λn s'=>∃ X2 H',Inv X pins X2 H' s'/\W n X2 H') ?_ m0 ⟨σ,H,I,w0⟩)
 rintro n s1 ⟨W1,H1,I1,w1⟩
 refine wpAny_passesOwn hp (thn (hc pins s1 W1 H1 _ I1 (turn n W1 H1 w1)) λb s2 hE1=>hE1.elim λH2 I2 q2=>?_)
 cases b with
 |true=>
   obtain⟨N,hN,q2⟩:=q2
   rw[if_pos rfl]
   refine wpAny_passesOwn hp (thn (hb pins s2 W1 H2 _ I2 q2) λf s3 q3=>?_)
   cases f with
   |next=>
     obtain⟨WQ,H3,I3,n3⟩:=q3
     obtain⟨m',hm,w3⟩:=hN WQ H3 n3
     exact⟨m',hm,WQ,H3,I3,w3⟩
   |cont=>
     obtain⟨WQ,H3,I3,n3⟩:=q3
     obtain⟨m',hm,w3⟩:=hN WQ H3 n3
     exact⟨m',hm,WQ,H3,I3,w3⟩
   |brk=>exact q3
   |ret v=>exact q3
 |false=>
   rw[if_neg jm]
   exact YA ⟨W1,H2,I2,q2⟩
end
structure It where
 go:Nat->Hp->Prop
 yld:Nat->Hp->V->Hp->Prop
 stop:Nat->Hp->Prop
noncomputable def aN9(X:Cx)(pins:PNS)(H:Hp)(b:Addr):Prop:=
 H b=none/\b≠X.env.locals/\b∉X.fs/\(b∈X.ex\/X.WX.heap.objs.size<=b)/\(∀x c,X.env.cells.lookup x=some c->c≠b)/\∀p∈X.pn++pins,p.1≠b
theorem Inv.fpOk{X:Cx}{pins:PNS}{σ:St}{H H':Hp}{s:zm}{b:Addr}(I:Inv X pins σ H s)(hb:s.heap.objs.size<=b)(hn:H' b=none):aN9 X pins H' b:=by
 refine⟨hn,yd (zV I.lt hb),I.nofs hb,.inr (zC I.sz hb),λx c e z=>?_,λp hp z=>?_⟩
 · obtain⟨v,q⟩:=I.cell x c e
   exact absurd (zV q.lt (by rw[z];exact hb)) (yx _)
 ·exact absurd (zV (zn (I.pin p hp).1) (by rw[z];exact hb)) (yx _)
inductive TIt(X:Cx)(pins:PNS)(σ:St)(J:It)(fp:List Addr)(tn:Nat->Heap->Prop)(i:Nat)(H:Hp)(u:zg)(s2:zm):Prop
 |mk (x:V) (H':Hp) (I:Inv X pins σ H' s2) (r:J9 x u) (y:J.yld i H x H') (st:tn (i+1) s2.heap) (fr:∀b∈fp,H' b=none)
structure bW3(P:zT)(w:jg)(K:zi)(tg:Expr)(J:It)(fp:List Addr)(it:Addr)(tn:Nat->Heap->Prop):Prop where
 mem:it∈fp
 obj:∀i h,tn i h->∀b∈fp,∃o,h.get? b=some o/\∀v,o.data≠ .cell v
 keep:∀i h h',tn i h->(∀b∈fp,∀o,h.get? b=some o->h'.get? b=some o)->tn i h'
 item:∀(X:Cx),X.prog=P->X.w=w->X.K=K->X.calm=true->∀(i:Nat) (pins:PNS) (s:zm) (σ:St) (H:Hp) (E:VSP),Inv X pins σ H s->(∀b∈fp,aN9 X pins H b)->tn i s.heap->J.go i H->
  zt (zz P w) X.A (Zi (.ref it)) (λr s1=>∃u,r=some u/\
   zt (zz P w) X.A (xP tg (.ref it) u) (λ_ s2=>TIt X pins σ J fp tn i H u s2) E s1) E s
 done:∀(X:Cx),X.prog=P->X.w=w->X.K=K->X.calm=true->∀(i:Nat) (pins:PNS) (s:zm) (σ:St) (H:Hp) (E:VSP),Inv X pins σ H s->(∀b∈fp,aN9 X pins H b)->tn i s.heap->J.stop i H->
  zt (zz P w) X.A (Zi (.ref it)) (λr s1=>r=none/\Inv X pins σ H s1) E s
 self:∀(A:ji) (i:Nat) (s:zm) (Q:VSP) (E:VSP),tn i s.heap->Q (.ref it) s->zt (zz P w) A (JA (.ref it)) Q E s
noncomputable abbrev TI:=St->Hp->(It->Hp->Prop)->Prop
inductive PIE(X:Cx)(pins:PNS)(σ:St)(tg:Expr)(R:It->Hp->Prop)(itv:zg)(s2:zm):Prop
 |mk (it:Addr) (fp:List Addr) (tn:Nat->Heap->Prop) (J:It) (H':Hp) (e:itv= .ref it) (I:Inv X pins σ H' s2) (T:bW3 X.prog X.w X.K tg J fp it tn) (st:tn 0 s2.heap) (f:∀b∈fp,aN9 X pins H' b) (r:R J H')
noncomputable def PI(X:Cx)(tg iter:Expr)(wi:TI):Prop:=
 ∀(pins:PNS) (s:zm) (σ:St) (H:Hp) (R:It->Hp->Prop),Inv X pins σ H s->wi σ H R->
  zt (zz X.prog X.w) X.A (eval iter X.env) (λv s1=>zt (zz X.prog X.w) X.A (JA v) (PIE X pins σ tg R) X.xe s1) X.xe s
theorem bV5{M:Model}{A:ji}{E:VSP}{s:zm}{tg:Expr}{it:Addr}{u:zg}{o:Obj}{n:String}{vs:Array zg}{Q:Unit->zm->Prop}(ho:s.heap.get? it=some o)(hc:o.cls= .type n)(hd:o.data= .fields vs)
 (hn: ["enumerate", "zip", "dict_itemiterator", "dict_reverseitemiterator", "odict_iterator", "itertools.zip_longest", "itertools.pairwise"].contains n=false) (hQ:Q () s):zt M A (xP tg (.ref it) u) Q E s:=by
 unfold xP
 cases tg<;>first
  |exact zc hQ
  | (cases u <;> first
      |exact zc hQ
      | (refine za (wpAny_load ho ?_)
         rw[hc,hd]
         show zt M A (if (["enumerate", "zip", "dict_itemiterator", "dict_reverseitemiterator", "odict_iterator", "itertools.zip_longest", "itertools.pairwise"].contains n&&vs[0]? == some (xS _))=true then _ else _) Q E s
         rw[if_neg (by intro h;rw[hn,Bool.false_and]at h;cases h)]
         exact zc hQ))
def Itl(K:zi)(a:Addr):It:=
 ⟨λi H=>∃xs x,SqL K H a xs/\xs[i]? =some x,λi H x H'=>H'=H/\∀xs,SqL K H a xs->xs[i]? =some x,λi H=>∃xs,SqL K H a xs/\xs.length<=i⟩
def Itt(K:zi)(a:Addr):It:=
 ⟨λi H=>∃xs x,SqT K H a xs/\xs[i]? =some x,λi H x H'=>H'=H/\∀xs,SqT K H a xs->xs[i]? =some x,λi H=>∃xs,SqT K H a xs/\xs.length<=i⟩
noncomputable def Itr(lo:Int)(n:Nat):It:=⟨λi _=>i<n,λi H x H'=>H'=H/\x= .int (lo+i),λi _=>n<=i⟩
theorem cY5{P:zT}{w:jg}{K:zi}{tg:Expr}(a it:Addr):bW3 P w K tg (Itl K a) [it] it (λi h=>h.IsListIter it a i) where
 mem:=by simp
 obj:=λi h st b hb=>by
  have e:b=it:=by simpa using hb
  subst e
  obtain⟨o,e,c,d⟩:=st
  exact⟨o,e,λv z=>by rw[d]at z;cases z⟩
 keep:=λi h h' st k=>st.at λo e=>k it (by simp) o e
 item:=by
  intro X hP hw hK hc i pins s σ H E I hf st hg
  subst hP hw hK
  obtain⟨xs,x,hq,hx⟩:=hg
  obtain⟨its,rv,p,hz⟩:=I.list hq
  obtain⟨u,hu,ru⟩:=rv.get hx
  obtain⟨f0,f1,f2,f3,f4,f5⟩:=hf it (by simp)
  refine wpAny_pyNext_list_item st p.isList (x:=u) (by simpa using hu) λh' st' sb=>?_
  have I1:Inv X pins σ H {s with heap:=h'}:=I.turned (t':=s.toks) (λb o hb e=>(sb.2 b hb).trans e) f0 f1 f3 f4 f5
  obtain⟨o,e,c,d⟩:=id st'
  exact⟨u,rfl,bV5 (s:={s with heap:=h'}) e c d (by decide) ⟨x,H,I1,ru,⟨rfl,λys hy=>by rw[I.list_inj hy hq];exact hx⟩,st',λb hb=>(hf b hb).1⟩⟩
 done:=by
  intro X hP hw hK hc i pins s σ H E I hf st hg
  subst hP hw hK
  obtain⟨xs,hq,hx⟩:=hg
  obtain⟨its,rv,p,hz⟩:=I.list hq
  obtain⟨f0,f1,f2,f3,f4,f5⟩:=hf it (by simp)
  have hl:=rv.length
  exact wpAny_pyNext_list_end (I.ok.hd hc) st p.isList (by simp;lia) λh' eb=>⟨rfl,I.turned (t':=s.toks) (λb o hb e=>eb b o hb e) f0 f1 f3 f4 f5⟩
 self:=λ_ _ _ _ _ st h=>wpAny_pyIter_listiter st h
theorem cL4{P:zT}{w:jg}{K:zi}{tg:Expr}(a it:Addr):bW3 P w K tg (Itt K a) [it] it (λi h=>h.IsTupleIter it a i) where
 mem:=by simp
 obj:=λi h st b hb=>by
  have e:b=it:=by simpa using hb
  subst e
  obtain⟨o,e,c,d⟩:=st
  exact⟨o,e,λv z=>by rw[d]at z;cases z⟩
 keep:=λi h h' st k=>st.at λo e=>k it (by simp) o e
 item:=by
  intro X hP hw hK hc i pins s σ H E I hf st hg
  subst hP hw hK
  obtain⟨xs,x,hq,hx⟩:=hg
  obtain⟨its,rv,p,hz⟩:=I.tuple hq
  obtain⟨u,hu,ru⟩:=rv.get hx
  obtain⟨f0,f1,f2,f3,f4,f5⟩:=hf it (by simp)
  refine wpAny_pyNext_tuple_item st (show s.heap.IsTuple a its.toArray from p) (x:=u) (by simpa using hu) λh' st' sb=>?_
  have I1:Inv X pins σ H {s with heap:=h'}:=I.turned (t':=s.toks) (λb o hb e=>(sb.2 b hb).trans e) f0 f1 f3 f4 f5
  obtain⟨o,e,c,d⟩:=id st'
  exact⟨u,rfl,bV5 (s:={s with heap:=h'}) e c d (by decide) ⟨x,H,I1,ru,⟨rfl,λys hy=>by rw[I.tuple_inj hy hq];exact hx⟩,st',λb hb=>(hf b hb).1⟩⟩
 done:=by
  intro X hP hw hK hc i pins s σ H E I hf st hg
  subst hP hw hK
  obtain⟨xs,hq,hx⟩:=hg
  obtain⟨its,rv,p,hz⟩:=I.tuple hq
  obtain⟨f0,f1,f2,f3,f4,f5⟩:=hf it (by simp)
  have hl:=rv.length
  exact wpAny_pyNext_tuple_end (I.ok.hd hc) st (show s.heap.IsTuple a its.toArray from p) (by simp;lia) λh' eb=>⟨rfl,I.turned (t':=s.toks) (λb o hb e=>eb b o hb e) f0 f1 f3 f4 f5⟩
 self:=λ_ _ _ _ _ st h=>wpAny_pyIter_tupleiter st h
theorem cO5{P:zT}{w:jg}{K:zi}{tg:Expr}(it:Addr)(lo:Int)(n:Nat):bW3 P w K tg (Itr lo n) [it] it (λi h=>IsRangeIter h it (lo+(i:Nat)*1) ((n:Int)-(i:Nat)) 1) where
 mem:=by simp
 obj:=λi h st b hb=>by
  have e:b=it:=by simpa using hb
  subst e
  exact⟨_,st,λv z=>by
   have z':Data.fields _=Data.cell v:=z
   cases z'⟩
 keep:=λi h h' st k=>k it (by simp) _ st
 item:=by
  intro X hP hw hK hc i pins s σ H E I hf st hg
  subst hP hw hK
  obtain⟨f0,f1,f2,f3,f4,f5⟩:=hf it (by simp)
  have W:=Walks.range (prog:=X.prog) (w:=X.w) (I.ok.hd hc) it lo 1 n
  refine W.item i s _ _ hg st λv h' tk hv st' kk=>?_
  obtain⟨t,rfl⟩:=hv
  have I1:Inv X pins σ H {s with heap:=h',toks:=tk}:=I.turned (λb o hb e=>kk b o (by simpa using hb) e) f0 f1 f3 f4 f5
  refine⟨_,rfl,bV5 (s:={s with heap:=h',toks:=tk}) (n:= "range_iterator") st' rfl rfl (by decide) ⟨.int (lo+i),H,I1,⟨t,?_⟩,⟨rfl,rfl⟩,st',λb hb=>(hf b hb).1⟩⟩
  rw[Int.mul_one]
 done:=by
  intro X hP hw hK hc i pins s σ H E I hf st hg
  subst hP hw hK
  obtain⟨f0,f1,f2,f3,f4,f5⟩:=hf it (by simp)
  exact wpAny_pyNext_range_end (I.ok.hd hc) st (by have:n<=i:=hg;lia) λh' eb=>⟨rfl,I.turned (t':=s.toks) (λb o hb e=>eb b o hb e) f0 f1 f3 f4 f5⟩
 self:=λ_ _ _ _ _ st h=>wpAny_pyIter_rangeiter st h
section
theorem cJ3{pins:PNS}{σ:St}{H:Hp}{s:zm}{R:It->Hp->Prop}{E:VSP}{lo hi:Int}{t u v:Tok}{tk:Nat}(I:Inv X pins σ H s)(h1: -(2 ^ 62)<=lo)(h2:lo<2 ^ 62)(h3: -(2 ^ 62)<=hi)(h4:hi<2 ^ 62)
 (q:R (Itr lo (hi-lo).toNat) H):zt (zz X.prog X.w) X.A (JA (.ref s.heap.objs.size)) (PIE X pins σ tg R) E {s with heap:=s.heap.push {cls:=.type "range",data:=.fields #[.int lo t,.int hi u,.int 1 v]},toks:=tk}:=by
 refine wpAny_pyIter_range (IsRange.new ..) (small_one h1 h2 h3 h4) ?_
 have I1:Inv X pins σ H {s with heap:=s.heap.push {cls:=.type "range",data:=.fields #[.int lo t,.int hi u,.int 1 v]},toks:=tk}:=I.kept λb o e=>zh _ e
 refine⟨(s.heap.push {cls:=.type "range",data:=.fields #[.int lo t,.int hi u,.int 1 v]}).objs.size, [(s.heap.push {cls:=.type "range",data:=.fields #[.int lo t,.int hi u,.int 1 v]}).objs.size],_,_,H,rfl,
  I1.kept (t':=tk) λb o e=>zh _ e,cO5 _ lo (hi-lo).toNat,?_,λb hb=>?_,q⟩
 · have e1:lo+((0:Nat):Int)*1=lo:=by simp
   have e2:(((hi-lo).toNat:Nat):Int)-((0:Nat):Int)=Builtin.Range.rangeSize lo hi 1:=by rw[rangeSize_one];split<;>lia
   show IsRangeIter _ _ (lo+((0:Nat):Int)*1) ((((hi-lo).toNat:Nat):Int)-((0:Nat):Int)) 1
   rw[e1,e2]
   exact zp _ rfl
 · have e:b= (s.heap.push {cls:=.type "range",data:=.fields #[.int lo t,.int hi u,.int 1 v]}).objs.size:=by simpa using hb
   subst e
   exact I1.fpOk (zo _) (I1.hok.fresh (zo _))
def fC9(ta:TA):TI:=λσ H R=>ta σ H λvs H1=>∃j:Int,vs= [.int j]/\ -(2 ^ 62)<=j/\j<2 ^ 62/\R (Itr 0 j.toNat) H1
def fD4(ta:TA):TI:=λσ H R=>ta σ H λvs H1=>∃i j:Int,vs= [.int i,.int j]/\(-(2 ^ 62)<=i/\i<2 ^ 62/\ -(2 ^ 62)<=j/\j<2 ^ 62)/\R (Itr i (j-i).toNat) H1
theorem dC8{a:Expr}{ta:TA}{p pos:Pos}(hg:Gl X "range")(hm:X.mg "range" =none)(ha:PA X [a] ta)(hs:zK [a] X.env= [(false,eval a X.env)]):PI X tg (.Call (.Name "range" p) [a] [] pos) (fC9 ta):=by
 intro pins s σ H R I h
 refine Call_ (aK2 I hg hm boot_range (yj (thn (ha pos pins s σ H _ I h) λus s1 hE1=>hE1.elim λvs H1 I1 r1 q1=>?_) hs rfl))
 obtain⟨j,e,q1,q2,q⟩:=q1
 subst e
 cases r1 with
 |cons r rr=>
   cases rr
   obtain⟨t,rfl⟩:=r
   exact call_range_1 (cJ3 I1 (by lia) (by lia) q1 q2 (by simpa using q))
theorem dA0{a b:Expr}{ta:TA}{p pos:Pos}(hg:Gl X "range")(hm:X.mg "range" =none)(ha:PA X [a,b] ta)(hs:zK [a,b] X.env= [(false,eval a X.env),(false,eval b X.env)])(hs2:zK [b] X.env= [(false,eval b X.env)]):
 PI X tg (.Call (.Name "range" p) [a,b] [] pos) (fD4 ta):=by
 intro pins s σ H R I h
 refine Call_ (aK2 I hg hm boot_range (yj (thn (ha pos pins s σ H _ I h) λus s1 hE1=>hE1.elim λvs H1 I1 r1 q1=>?_) (by rw[hs,hs2]) (by rw[hs2];rfl)))
 obtain⟨i,j,e,⟨q1,q2,q3,q4⟩,q⟩:=q1
 subst e
 cases r1 with
 |cons r rr=>
   cases rr with
   |cons r' rr=>
     cases rr
     obtain⟨t,rfl⟩:=r
     obtain⟨t',rfl⟩:=r'
     exact call_range_2 (cJ3 I1 q1 q2 q3 q4 q)
noncomputable def fQ9(wi:TI)(g:TG)(tb:TS):TS:=λD σ H=>wi σ H λJ H1=>∃W:Nat->Nat->St->Hp->Prop,(∃m,W 0 m σ H1)/\∀i m σ H,W i m σ H->
 (J.stop i H/\D.nx σ H)\/(J.go i H/\∃N:St->Hp->Prop,(∀ X2 H',N X2 H'->∃m',m'<m/\W (i+1) m' X2 H')/\∀x H',J.yld i H x H'->g x σ H' λσ2 H2=>tb {D with nx:=N,ct:=N,bk:=D.nx} σ2 H2)
noncomputable def bL8(fp:List Addr)(h:Heap):PNS:=fp.filterMap λb=>(h.get? b).map λo=>(b,o)
theorem aE6{fp:List Addr}{h:Heap}{b:Addr}{o:Obj}(hb:b∈fp)(e:h.get? b=some o):(b,o)∈bL8 fp h:=List.mem_filterMap.mpr ⟨b,hb,by rw[e];rfl⟩
theorem dA4{fp:List Addr}{h:Heap}{p:Addr×Obj}(hp:p∈bL8 fp h):p.1∈fp/\h.get? p.1=some p.2:=by
 obtain⟨b,hb,e⟩:=List.mem_filterMap.mp hp
 cases q:h.get? b with
 |none=>rw[q]at e;cases e
 |some o=>
   rw[q]at e
   have e':(b,o)=p:=zQ e
   subst e'
   exact⟨hb,q⟩
theorem Inv.pinned{pins:PNS}{σ:St}{H:Hp}{s:zm}{fp:List Addr}(I:Inv X pins σ H s)(hf:∀b∈fp,aN9 X pins H b)(ho:∀b∈fp,∃o,s.heap.get? b=some o/\∀v,o.data≠ .cell v):Inv X (pins++bL8 fp s.heap) σ H s:=
 I.pins_of λp hp=>(jc.mp hp).elim (λz=>I.pin p (zF _ z)) λz=>by
  obtain⟨hb,e⟩:=dA4 z
  obtain⟨f0,f1,f2,_⟩:=hf p.1 hb
  obtain⟨o,e',d⟩:=ho p.1 hb
  rw[e]at e';cases e'
  exact⟨e,f0,f1,f2,d⟩
theorem Inv.unpinned{pins pl:PNS}{σ:St}{H:Hp}{s:zm}(I:Inv X (pins++pl) σ H s):Inv X pins σ H s:=I.pins_of λp hp=>I.pin p (zF _ (yF _ hp))
inductive eS6(X:Cx)(pins:PNS)(fp:List Addr)(tn:Nat->Heap->Prop)(W:Nat->Nat->St->Hp->Prop)(n:Nat)(s':zm):Prop
 |mk (i:Nat) (X2:St) (H':Hp) (I:Inv X pins X2 H' s') (st:tn i s'.heap) (fr:∀b∈fp,H' b=none) (w:W i n X2 H')
theorem dX4{body:List Stmt}{g:TG}{tb:TS}{pins:PNS}{D:bZ2}{it:Addr}{fp:List Addr}{tn:Nat->Heap->Prop}{J:It}{W:Nat->Nat->St->Hp->Prop}{EE:VSP}(hp:∀e s,X.xe e s->EE e s)(hc:X.calm=true)(hg:PG X tg g)(hb:PSs X body tb)
 (T:bW3 X.prog X.w X.K tg J fp it tn) (stat:∀ {H':Hp},(∀b∈fp,H' b=none)->∀b∈fp,aN9 X pins H' b)
 (turn:∀i m σ H,W i m σ H->
 (J.stop i H/\D.nx σ H)\/(J.go i H/\∃N:St->Hp->Prop,(∀ X2 H',N X2 H'->∃m',m'<m/\W (i+1) m' X2 H')/\∀x H',J.yld i H x H'->g x σ H' λσ2 H2=>tb {D with nx:=N,ct:=N,bk:=D.nx} σ2 H2))
   {n:Nat} {s3:zm} (h3:eS6 X pins fp tn W n s3) {NX:zm->Prop} (nx:∀m s,m<n->eS6 X pins fp tn W m s->NX s):
   zt (zz X.prog X.w) X.A (Zi (.ref it)) (λr s1=>match r with
    |none=>zt (zz X.prog X.w) X.A (execs [] X.env) (λf s2=>SP X pins D f s2) EE s1
    | some v => zt (zz X.prog X.w) X.A (xP tg (.ref it) v) (λ_ s2 => zt (zz X.prog X.w) X.A (Yw tg X.env v) (λ_ s4 => zt (zz X.prog X.w) X.A (execs body X.env) (λf s5 => match f with
       | .next| .cont=>NX s5
       | .brk=>SP X pins D .next s5
       | .ret v=>SP X pins D (.ret v) s5) EE s4) EE s2) EE s1) EE s3:=by
 obtain⟨i,WQ,H3,I3,st3,fr3,w3⟩:=h3
 rcases turn i n WQ H3 w3 with⟨stop,qn⟩|⟨go,N,hN,step⟩
 · refine jH (T.done X rfl rfl rfl hc i pins s3 WQ H3 X.xe I3 (stat fr3) st3 stop) (λr s4 z1=>?_) hp
   obtain⟨hr,I4⟩:=z1
   subst hr
   exact YA ⟨WQ,H3,I4,qn⟩
 · refine jH (T.item X rfl rfl rfl hc i pins s3 WQ H3 X.xe I3 (stat fr3) st3 go) (λr s4 z2=>?_) hp
   obtain⟨u,hr,h4⟩:=z2
   subst hr
   refine jH h4 (λ_ s5 z3=>?_) hp
   obtain⟨x,H5,I5,r5,y5,st5,fr5⟩:=z3
   have I5':=I5.pinned (stat fr5) (T.obj _ _ st5)
   refine jH (hg _ s5 WQ H5 x u _ I5' r5 (step x H5 y5)) (λ_ s6 z4=>?_) hp
   obtain⟨WU,H6,I6,q6⟩:=z4
   refine jH (hb _ s6 WU H6 _ I6 q6) (λf s7 q7=>?_) hp
   have again:∀ {WT:St} {H7:Hp},Inv X (pins++bL8 fp s5.heap) WT H7 s7->N WT H7->NX s7:=λ{WT H7} I7 n7=>by
    obtain⟨m',hm,w7⟩:=hN WT H7 n7
    refine nx m' _ hm ⟨i+1,WT,H7,I7.unpinned,T.keep _ _ _ st5 λb hb o e=>(I7.pin (b,o) (zF _ (zF _ (aE6 hb e)))).1,λb hb=>?_,w7⟩
    obtain⟨o,e,d⟩:=T.obj _ _ st5 b hb
    exact(I7.pin (b,o) (zF _ (zF _ (aE6 hb e)))).2.1
   cases f with
   |next=>obtain⟨WT,H7,I7,n7⟩:=q7;exact again I7 n7
   |cont=>obtain⟨WT,H7,I7,n7⟩:=q7;exact again I7 n7
   |brk=>obtain⟨WT,H7,I7,q7⟩:=q7;exact⟨WT,H7,I7.unpinned,q7⟩
   |ret v=>obtain⟨x7,WT,H7,I7,r7,q7⟩:=q7;exact⟨x7,WT,H7,I7.unpinned,r7,q7⟩
theorem eU1{iter:Expr}{body:List Stmt}{wi:TI}{g:TG}{tb:TS}{pos:Pos}(hp:PassesOwn (zz X.prog X.w) X.A X.env X.xe)(hc:X.calm=true)(hi:PI X tg iter wi)(hg:PG X tg g)(hb:PSs X body tb)
 (hs:∀x,yK iter X.env x=pure x):PS X (.For tg iter body [] pos) (fQ9 wi g tb):=by
 intro pins s σ H D I h
 refine wpAny_For (thn (hi pins s σ H _ I h) λv s1 h1=>thn h1 λitv s2 h2=>?_) hs
 obtain⟨it,fp,tn,J,H2,e,I2,T,st2,f2,W,⟨m0,w0⟩,turn⟩:=h2
 subst e
 -- what stays true of the iterator's objects through the loop
 have stat:∀ {H':Hp},(∀b∈fp,H' b=none)->∀b∈fp,aN9 X pins H' b:=λhn b hb=>⟨hn b hb,(f2 b hb).2⟩
 exact codeAny_forLoop_any (eS6 X pins fp tn W) (λn s3 h3=>dX4 hp hc hg hb T stat turn h3 λm s h1 h2=>⟨m,h1,h2⟩) m0 ⟨0,σ,H2,I2,st2,λb hb=>(f2 b hb).1,w0⟩
end
noncomputable abbrev R2:=V->V->Hp->VK->Prop
def OpR(X:Cx)(f:zg->zg->Sem zg)(r:R2):Prop:=
 ∀(pins:PNS) (s:zm) (σ:St) (H:Hp) (x y:V) (v u:zg) (Q:VK),Inv X pins σ H s->J9 x v->J9 y u->r x y H Q->
  zt (zz X.prog X.w) X.A (f v u) (EP X pins σ Q) X.xe s
def UnR(X:Cx)(f:zg->Sem zg)(r:V->Hp->VK->Prop):Prop:=
 ∀(pins:PNS) (s:zm) (σ:St) (H:Hp) (x:V) (v:zg) (Q:VK),Inv X pins σ H s->J9 x v->r x H Q->
  zt (zz X.prog X.w) X.A (f v) (EP X pins σ Q) X.xe s
def aD0(X:Cx)(f:zg)(r:List V->Hp->VK->Prop):Prop:=
 ∀(pins:PNS) (s:zm) (σ:St) (H:Hp) (xs:List V) (us:List zg) (Q:VK),Inv X pins σ H s->v6 xs us->r xs H Q->
  zt (zz X.prog X.w) X.A (call f us) (EP X pins σ Q) X.xe s
def fQ3(X:Cx)(r:V->Hp->(Bool->Hp->Prop)->Prop):Prop:=
 ∀(pins:PNS) (s:zm) (σ:St) (H:Hp) (x:V) (v:zg) (Q:Bool->Hp->Prop),Inv X pins σ H s->J9 x v->r x H Q->
  zt (zz X.prog X.w) X.A (truthy v) (TP X pins σ Q) X.xe s
noncomputable def tOp(r:R2)(ta tb:TE):TE:=λσ H Q=>ta σ H λx H1=>tb σ H1 λy H2=>r x y H2 Q
noncomputable def tUn(r:V->Hp->VK->Prop)(ta:TE):TE:=λσ H Q=>ta σ H λx H1=>r x H1 Q
noncomputable def rI(C:Int->Int->Prop)(g:Int->Int->V):R2:=λx y H Q=>∃i j,x= .int i/\y= .int j/\C i j/\Q (g i j) H
noncomputable def rI0(g:Int->Int->V):R2:=λx y H Q=>∃i j,x= .int i/\y= .int j/\Q (g i j) H
noncomputable def rU(g:Int->V):V->Hp->VK->Prop:=λx H Q=>∃i,x= .int i/\Q (g i) H
section
theorem eQ7(ha:PE X a ta)(hb:PE X b tb){pins:PNS}{s:zm}{σ:St}{H:Hp}{R:V->V->Hp->Prop}(I:Inv X pins σ H s)
 (h:ta σ H λx H1=>tb σ H1 λy H2=>R x y H2) {Q:VSP} {f:zg->zg->Sem zg}
 (hf:∀v u s2 x y H2,Inv X pins σ H2 s2->J9 x v->J9 y u->R x y H2->zt (zz X.prog X.w) X.A (f v u) Q X.xe s2):
 zt (zz X.prog X.w) X.A (eval a X.env) (λv X0=>zt (zz X.prog X.w) X.A (eval b X.env) (λu s₂=>zt (zz X.prog X.w) X.A (f v u) Q X.xe s₂) X.xe X0) X.xe s:=by
 refine thn (ha pins s σ H _ I h) λv s1 hE1=>hE1.elim λx H1 I1 r1 q1=>?_
 refine thn (hb pins s1 σ H1 _ I1 q1) λu s2 hE1=>hE1.elim λy H2 I2 r2 q2=>?_
 exact hf v u s2 x y H2 I2 r1 r2 q2
theorem dL6{op:Operator}{r:R2}(ho:OpR X (ya op) r)(ha:PE X a ta)(hb:PE X b tb):PE X (.BinOp a op b pos) (tOp r ta tb):=by
 intro pins s σ H Q I h
 exact wpAny_BinOp (eQ7 ha hb I h λv u s2 x y H2 I2 rx ry q=>ho pins s2 σ H2 x y v u Q I2 rx ry q)
theorem fE4{op:UnaryOp}{r:V->Hp->VK->Prop}(ho:UnR X (unaryOp op) r)(ha:PE X a ta):PE X (.UnaryOp op a pos) (tUn r ta):=by
 intro pins s σ H Q I h
 exact UnaryOp_ (thn (ha pins s σ H _ I h) λv s1 hE1=>hE1.elim λx H1 I1 r1 q1=>ho pins s1 σ H1 x v Q I1 r1 q1)
theorem opI{f:zg->zg->Sem zg}{C:Int->Int->Prop}{g:Int->Int->Int}
 (rule:∀(i j:Int) (t u:Tok) (s:zm) (Q:VSP) (E:VSP),C i j->Q (.int (g i j) s.toks) {s with toks:=s.toks+1}->zt (zz X.prog X.w) X.A (f (.int i t) (.int j u)) Q E s):
 OpR X f (rI C λi j=>.int (g i j)):=by
 intro pins s σ H x y v u Q I rx ry h
 obtain⟨i,j,rfl,rfl,hc,q⟩:=h
 obtain⟨t,rfl⟩:=rx
 obtain⟨t',rfl⟩:=ry
 exact rule i j t t' s _ _ hc ⟨.int (g i j),H,I.tok _,⟨_,rfl⟩,q⟩
theorem fD3{f:zg->zg->Sem zg}{g:Int->Int->Int}
 (rule:∀(i j:Int) (t u:Tok) (s:zm) (Q:VSP) (E:VSP),Q (.int (g i j) s.toks) {s with toks:=s.toks+1}->zt (zz X.prog X.w) X.A (f (.int i t) (.int j u)) Q E s):
 OpR X f (rI0 λi j=>.int (g i j)):=by
 intro pins s σ H x y v u Q I rx ry h
 obtain⟨i,j,rfl,rfl,q⟩:=h
 obtain⟨t,rfl⟩:=rx
 obtain⟨t',rfl⟩:=ry
 exact rule i j t t' s _ _ ⟨.int (g i j),H,I.tok _,⟨_,rfl⟩,q⟩
theorem fM6{f:zg->zg->Sem zg}{g:Int->Int->Bool}
 (rule:∀(i j:Int) (t u:Tok) (s:zm) (Q:VSP) (E:VSP),Q (.bool (g i j)) s->zt (zz X.prog X.w) X.A (f (.int i t) (.int j u)) Q E s):
 OpR X f (rI0 λi j=>.bl (g i j)):=by
 intro pins s σ H x y v u Q I rx ry h
 obtain⟨i,j,rfl,rfl,q⟩:=h
 obtain⟨t,rfl⟩:=rx
 obtain⟨t',rfl⟩:=ry
 exact rule i j t t' s _ _ ⟨.bl (g i j),H,I,rfl,q⟩
noncomputable def cC2(i j:Int):Prop:=0<=j/\j<=1000000/\i.natAbs<2 ^ 64
noncomputable def bA1(i j:Int):Prop:=(-(2 ^ 64)<i/\i<2 ^ 64)\/(-(2 ^ 64)<j/\j<2 ^ 64)
theorem bA1.ok{i j:Int}(h:bA1 i j):IntMulOk i j:=by
 rcases h with⟨h1,h2⟩|⟨h1,h2⟩
 ·exact .of_left (intBits_le_64 h1 h2)
 ·exact .of_right (intBits_le_64 h1 h2)
theorem eN7:OpR X (ya .Add) (rI0 λi j=>.int (i+j)):=fD3 λ_ _ _ _ _ _ _ q=>add_int q
theorem dL4:OpR X (ya .Sub) (rI0 λi j=>.int (i-j)):=fD3 λ_ _ _ _ _ _ _ q=>sub_int q
theorem eW9:OpR X (ya .Mult) (rI bA1 λi j=>.int (i*j)):=opI λ_ _ _ _ _ _ _ hc q=>mul_int q hc.ok
theorem eO0:OpR X (ya .Mod) (rI (λ_ j=>0<j) λi j=>.int (i % j)):=opI λi j _ _ _ _ _ hc q=>by
 have h1:(0:Int)<j:=hc
 exact mod_int' (by lia) (by rw[Int.fmod_eq_emod_of_nonneg i (by lia)];exact q)
theorem dI4:OpR X (ya .Pow) (rI cC2 λi j=>.int (i ^ j.toNat)):=opI λ_ _ _ _ _ _ _ hc q=>pow_int_small hc.1 hc.2.1 hc.2.2 q
theorem unI{f:zg->Sem zg}{g:Int->Int}
 (rule:∀(i:Int) (t:Tok) (s:zm) (Q:VSP) (E:VSP),Q (.int (g i) s.toks) {s with toks:=s.toks+1}->zt (zz X.prog X.w) X.A (f (.int i t)) Q E s):
 UnR X f (rU λi=>.int (g i)):=by
 intro pins s σ H x v Q I rx h
 obtain⟨i,rfl,q⟩:=h
 obtain⟨t,rfl⟩:=rx
 exact rule i t s _ _ ⟨.int (g i),H,I.tok _,⟨_,rfl⟩,q⟩
theorem eZ3:UnR X (unaryOp .USub) (rU λi=>.int (-i)):=unI λ_ _ _ _ _ q=>neg_int q
end
section
theorem cL6{pins:PNS}{σ:St}{H:Hp}{s:zm}{Q:VK}{k k':Bool}(I:Inv X pins σ H s)(q:Q (.bl k) H)(e:k=k'):EP X pins σ Q (.bool k') s:=by
 subst e
 exact⟨.bl k,H,I,rfl,q⟩
theorem fC3:OpR X (zR .Gt) (rI0 λi j=>.bl (decide (j<i))):=fM6 λ_ _ _ _ _ _ _ q=>gt_int q
theorem fC0:OpR X (zR .GtE) (rI0 λi j=>.bl (decide (j<=i))):=fM6 λ_ _ _ _ _ _ _ q=>ge_int q
theorem dE5:OpR X (zR .In) (λx y H Q=>∃i j,x= .str i/\y= .str j/\Q (.bl (!(xv j i 0 j.length 1).isEmpty)) H):=by
 intro pins s σ H x y v u Q I rx ry h
 obtain⟨i,j,rfl,rfl,q⟩:=h
 obtain⟨t,rfl⟩:=rx
 obtain⟨t',rfl⟩:=ry
 exact in_str (cL6 I q rfl)
theorem eK5:OpR X (zR .Is) (λx y H Q=>y= .non/\Q (.bl (decide (x= .non))) H):=by
 intro pins s σ H x y v u Q I rx ry h
 obtain⟨rfl,q⟩:=h
 cases ry
 refine is_none_gen (cL6 I q ?_)
 cases x<;>first
  |(cases rx;rfl)
  |(obtain⟨t,rfl⟩:=rx;rfl)
theorem dZ4:OpR X (zR .IsNot) (λx y H Q=>y= .non/\Q (.bl (!decide (x= .non))) H):=by
 intro pins s σ H x y v u Q I rx ry h
 obtain⟨rfl,q⟩:=h
 cases ry
 refine isnot_none_gen (cL6 I q ?_)
 cases x<;>first
  |(cases rx;rfl)
  |(obtain⟨t,rfl⟩:=rx;rfl)
theorem OpR.or{f:zg->zg->Sem zg}{r r':R2}(h:OpR X f r)(h':OpR X f r'):OpR X f (λx y H Q=>r x y H Q\/r' x y H Q):=by
 intro pins s σ H x y v u Q I rx ry q
 rcases q with q|q
 ·exact h pins s σ H x y v u Q I rx ry q
 ·exact h' pins s σ H x y v u Q I rx ry q
theorem eC2{op:CmpOp}{r:R2}(ho:OpR X (zR op) r)(ha:PE X a ta)(hb:PE X b tb)(hm:Xi op b=false):PE X (.Compare a [op] [b] pos) (tOp r ta tb):=by
 intro pins s σ H Q I h
 exact wpAny_Compare1 (eQ7 ha hb I h λv u s2 x y H2 I2 rx ry q=>ho pins s2 σ H2 x y v u Q I2 rx ry q) hm
noncomputable def eI0(t:TE):TT:=λσ H Q=>t σ H λx H'=>∃k,x= .bl k/\Q k H'
theorem eA4{op:CmpOp}{r:R2}(ho:OpR X (zR op) r)(ha:PE X a ta)(hb:PE X b tb)(hm:Xi op b=false):PT X (.Compare a [op] [b] pos) (eI0 (tOp r ta tb)):=by
 intro pins s σ H Q I h
 refine wpAny_isTrue_Compare1 (thn (ha pins s σ H _ I h) λv s1 hE1=>hE1.elim λx H1 I1 r1 q1=>thn (hb pins s1 σ H1 _ I1 q1) λu s2 hE1=>hE1.elim λy H2 I2 r2 q2=>
  thn (ho pins s2 σ H2 x y v u _ I2 r1 r2 q2) λc s3 ⟨z,H3,I3,r3,k,e,q3⟩=>?_) hm
 subst e
 cases r3
 exact ye ⟨H3,I3,q3⟩
noncomputable def dV1(r r':R2)(ta tb tc:TE):TE:=λσ H Q=>ta σ H λx H1=>tb σ H1 λy H2=>r x y H2 λz H3=>∃k,z= .bl k/\
 (if k=true then tc σ H3 λw' H4=>r' y w' H4 Q else Q (.bl false) H3)
theorem dV0{op op':CmpOp}{r r':R2}(ho:OpR X (zR op) r)(ho':OpR X (zR op') r')(ha:PE X a ta)(hb:PE X b tb)(hc:PE X c tc)
 (hm:lastMarks [op,op'] [b,c]=false):PT X (.Compare a [op,op'] [b,c] pos) (eI0 (dV1 r r' ta tb tc)):=by
 intro pins s σ H Q I h
 refine isTrue_chain (thn (ha pins s σ H _ I h) λv s1 hE1=>hE1.elim λx H1 I1 r1 q1=>test_link (thn (hb pins s1 σ H1 _ I1 q1) λu s2 hE1=>hE1.elim λy H2 I2 r2 q2=>
  thn (ho pins s2 σ H2 x y v u _ I2 r1 r2 q2) λd s3 ⟨z,H3,I3,r3,k,e,q3⟩=>?_)) hm
 subst e
 cases r3
 refine ye ?_
 cases k with
 |false=>
   obtain⟨k',e',q'⟩:=q3
   cases e'
   exact ite_ff ⟨H3,I3,q'⟩
 |true=>
   refine ite_tt (test_last (thn (hc pins s3 σ H3 _ I3 q3) λw' s4 ⟨z',H4,I4,r4,q4⟩=>thn (ho' pins s4 σ H4 y z' u w' _ I4 r2 r4 q4) λd' s5 ⟨z2,H5,I5,r5,k2,e2,q5⟩=>?_))
   subst e2
   cases r5
   exact ye ⟨H5,I5,q5⟩
def fA4(K:zi)(x:V)(H:Hp)(k:Bool):Prop:=
 match x with
 | .non=>k=false
 | .bl b=>k=b
 | .int i=>k= (i != 0)
 | .str y=>y.length<=zl/\k= ((y.length:Int) != 0)
 | .byt y=>y.size<=zl/\k= ((y.size:Int) != 0)
 | .ref p=>(∃xs,SqL K H p xs/\k= !xs.isEmpty)\/(∃xs,SqT K H p xs/\k= !xs.isEmpty)\/∃kvs,H p=some (.dK kvs)/\k= !kvs.isEmpty
 |_=>False
theorem cQ4{κ:Type}{kvs:List (κ×V)}{vs:List (κ×zg)}(r:KV kvs vs):(!vs.isEmpty)= !kvs.isEmpty:=by
 cases r<;>rfl
theorem bO1{xs:List V}{its:List zg}(r:v6 xs its):(!its.toArray.isEmpty)= !xs.isEmpty:=by
 cases r<;>simp
theorem aZ8:(zl:Nat)<2 ^ 63:=by rw[yA];decide
theorem cP4:fQ3 X (λx H Q=>∃k,fA4 X.K x H k/\Q k H):=by
 intro pins s σ H x v Q I rx h
 obtain⟨k,e,q⟩:=h
 have hl:=aZ8
 have hs:zl=16777216:=yA
 cases x with
 |non=>
   cases rx
   have e':k=false:=e
   subst e'
   exact truthy_none ⟨H,I,q⟩
 |bl b=>
   cases rx
   have e':k=b:=e
   subst e'
   exact ye ⟨H,I,q⟩
 |int i=>
   obtain⟨t,rfl⟩:=rx
   have e':k= (i != 0):=e
   subst e'
   exact PySem.P.truthy_int ⟨H,I,q⟩
 |str y=>
   obtain⟨t,rfl⟩:=rx
   obtain⟨hy,e'⟩:y.length<=zl/\k= ((y.length:Int) != 0):=e
   subst e'
   exact PySem.P.truthy_str (by lia) ⟨H,I.tok _,q⟩
 |byt y=>
   obtain⟨t,rfl⟩:=rx
   obtain⟨hy,e'⟩:y.size<=zl/\k= ((y.size:Int) != 0):=e
   subst e'
   exact PySem.W.truthy_bytes (by lia) ⟨H,I.tok _,q⟩
 |ref p=>
   cases rx
   have e':(∃xs,SqL X.K H p xs/\k= !xs.isEmpty)\/(∃xs,SqT X.K H p xs/\k= !xs.isEmpty)\/∃kvs,H p=some (.dK kvs)/\k= !kvs.isEmpty:=e
   rcases e' with⟨xs,hx,e'⟩|⟨xs,hx,e'⟩|⟨kvs,hx,e'⟩
   · subst e'
     obtain⟨its,r,pl,hz⟩:=I.list hx
     have hlen:=r.length
     exact wpAny_truthy_list pl.isList (by simp only[zj];lia) ⟨H,I.tok _,by rw[bO1 r];exact q⟩
   · subst e'
     obtain⟨its,r,pl,hz⟩:=I.tuple hx
     have hlen:=r.length
     exact truthy_tuple pl (by simp only[zj];lia) ⟨H,I.tok _,by rw[bO1 r];exact q⟩
   · subst e'
     obtain⟨hz,hS,vs,r,m⟩:kvs.length<=zl/\(p==yP)=false/\∃vs,KV kvs vs/\s.heap.DictOf (O4 X.prog X.w) p vs:=I.hok p _ hx
     have hlen:kvs.length=vs.length:=yX r
     exact wpAny_truthy_dict hS m (by lia) ⟨H,I.tok _,by rw[cQ4 r];exact q⟩
 |_=>exact(show False from e).elim
theorem dG1(ha:PE X a ta)(he:∀whole,isTrue a X.env whole= (do let v <-whole;Jv a.pos;YV [v] (truthy v))):
 PT X a (λσ H Q=>ta σ H λx H'=>∃k,fA4 X.K x H' k/\Q k H'):=by
 intro pins s σ H Q I h
 exact isTrue_plain (thn (ha pins s σ H _ I h) λv s1 hE1=>hE1.elim λx H1 I1 r1 q1=>cP4 pins s1 σ H1 x v Q I1 r1 q1) (he _)
theorem cN0:OpR X (ya .Add) (λx y H Q=>∃i j,x= .str i/\y= .str j/\i.length+j.length<=zl/\Q (.str (i++j)) H):=by
 intro pins s σ H x y v u Q I rx ry h
 obtain⟨i,j,rfl,rfl,hz,q⟩:=h
 obtain⟨t,rfl⟩:=rx
 obtain⟨t',rfl⟩:=ry
 exact add_str (λt' tk=>⟨.str (i++j),H,I.tok _,⟨_,rfl⟩,q⟩) hz
theorem aG1{x:V}{us:List zg}(r:v6 [x] us):∃u,us= [u]/\J9 x u:=by
 cases r with
 |cons r1 r2=>cases r2;exact⟨_,rfl,r1⟩
theorem cD9{x y:V}{us:List zg}(r:v6 [x,y] us):∃u w',us= [u,w']/\J9 x u/\J9 y w':=by
 cases r with
 |cons r1 r2=>
   cases r2 with
   |cons r3 r4=>cases r4;exact⟨_,_,rfl,r1,r3⟩
theorem dR1:aD0 X (.builtin "abs") (λxs H Q=>∃i,xs= [.int i]/\Q (.int (if i<0 then -i else i)) H):=by
 intro pins s σ H xs us Q I r h
 obtain⟨i,rfl,q⟩:=h
 obtain⟨u,rfl,t,rfl⟩:=aG1 r
 exact call_abs_int λu tk=>⟨.int (if i<0 then -i else i),H,I.tok _,⟨_,rfl⟩,q⟩
theorem dA7(hc:X.calm=true):aD0 X (.builtin "max") (λxs H Q=>∃i j,xs= [.int i,.int j]/\Q (.int (if j>i then j else i)) H):=by
 intro pins s σ H xs us Q I r h
 obtain⟨i,j,rfl,q⟩:=h
 obtain⟨u,w',rfl,⟨t,rfl⟩,⟨t',rfl⟩⟩:=cD9 r
 refine max_two_ints (I.ok.hd hc) λh' tk k=>⟨_,H,I.kept k,?_,q⟩
 by_cases hj:j>i
 ·rw[if_pos hj,if_pos hj];exact⟨_,rfl⟩
 ·rw[if_neg hj,if_neg hj];exact⟨_,rfl⟩
theorem dB9:aD0 X (.type "int") (λxs H Q=>(∃i,xs= [.int i]/\Q (.int i) H)\/∃k,xs= [.bl k]/\Q (.int (if k then 1 else 0)) H):=by
 intro pins s σ H xs us Q I r h
 rcases h with⟨i,rfl,q⟩|⟨k,rfl,q⟩
 · obtain⟨u,rfl,t,rfl⟩:=aG1 r
   exact call_int_int ⟨.int i,H,I,⟨_,rfl⟩,q⟩
 · obtain⟨u,rfl,r1⟩:=aG1 r
   cases r1
   exact call_int_bool ⟨.int (if k then 1 else 0),H,I.tok _,⟨_,rfl⟩,q⟩
end
structure ObjM(h:Heap)(x dx C:Addr)(mA:Str->Option zg):Prop where
 obj:h.get? x=some (PySem.W.instObj C dx)
 ns:h.Ns1 dx mA
 ne:dx≠x
section
variable{prog:zT}{w:jg}{A:ji}{E:VSP}{s:zm}{K:zi}{x dx C f:Addr}{mA:Str->Option zg}{name:Str}{v:zg}
end
section
end
structure Cls(K:zi)(C:Addr):Prop where
 pg:PySem.W.plainGet K C Str.empty=true
 hd:PySem.W.hasDictIn K C=true
 po:PySem.W.plainOver K C=true
 sa:Zj K (.ref C) "__setattr__" =some (some (.builtin "object.__setattr__"))
structure Con(K:zi)(C:Addr)(f:Str)(v:V)(u:zg):Prop where
 at_:Zj K (.ref C) f=some (some u)
 rel:J9 v u
 get:JP K u "__get__" =some none
 cp:PySem.W.copiedNames.contains f=false
structure Meth(K:zi)(C:Addr)(m:Str)(f:Addr):Prop where
 at_:Zj K (.ref C) m=some (some (.ref f))
 fn:PySem.W.isFn K (.ref f)=true
 kp:yh K (.ref f)=true
section
end
section
end
section
inductive bL2(K:zi)(H:Hp):V->zg->Prop where
 |non:bL2 K H .non (.type "NoneType")
 |bl (x:Bool):bL2 K H (.bl x) (.type "bool")
 |int (i:Int):bL2 K H (.int i) (.type "int")
 |str (x:Str):bL2 K H (.str x) (.type "str")
 |flt (x:UInt64):bL2 K H (.flt x) (.type "float")
 |lst {a:Addr} {xs:List V} (e:H a=some (.lst xs)):bL2 K H (.ref a) (.type "list")
 |frz {a:Addr} {o:Obj} {xs:List V} (e:H a=some (.frz o (.lst xs))):bL2 K H (.ref a) (.type "list")
 |tup {a:Addr} {xs:List V} (e:H a=some (.tup xs)):bL2 K H (.ref a) (.type "tuple")
 |dK {a:Addr} {kvs:List (Key×V)} (e:H a=some (.dK kvs)):bL2 K H (.ref a) (.type "dict")
 |dT {a:Addr} {kvs:List (List Key×V)} (e:H a=some (.dT kvs)):bL2 K H (.ref a) (.type "dict")
 |ins {a C dx:Addr} {fs:List (Str×V)} (e:H a=some (.ins C dx fs)) (cl:Cls K C) (ha:Zj K (.ref C) "__class__" =some (some (.builtin "object.__class__")))
    (hn:JP K (.builtin "object.__class__") "__get__" =some (some (.builtin "getset_descriptor.__get__"))) (htk:PySem.W.takesIn K (.builtin "object.__class__")=some true)
    (hm:PySem.W.mroIn K C (.type "object")=some true):bL2 K H (.ref a) (.ref C)
end
structure V7(k:Nat)(A:ji):Prop where
 hd:A.handled=none
 dp:A.depth+3*k+5<recursionLimit
 un:A.units+16*k+200<yC
 gd:A.guards=some []
theorem V7.mono{j k:Nat}{A:ji}(r:V7 k A)(h:j<=k):V7 j A:=⟨r.hd,by have:=r.dp;lia,by have:=r.un;lia,r.gd⟩
theorem V7.deeper{k:Nat}{A:ji}(r:V7 (k+1) A)(env:Env):V7 k (A.deeper env):=
 ⟨r.hd,by have:=r.dp;show A.depth+1+3*k+5<_;lia,by have:=r.un;show A.units+3+16*k+200<_;lia,r.gd⟩
theorem V7.in1{k:Nat}{A:ji}(r:V7 (k+1) A):V7 k A.in1:=
 ⟨r.hd,by have:=r.dp;show A.depth+3*k+5<_;lia,by have:=r.un;show A.units+1+16*k+200<_;lia,r.gd⟩
theorem V7.depth{k:Nat}{A:ji}(r:V7 k A):A.depth<recursionLimit:=by have:=r.dp;lia
theorem V7.units{k:Nat}{A:ji}(r:V7 k A):A.units+64<yC:=by have:=r.un;lia
noncomputable def fA7:TA:=λ_ H Q=>Q [] H
noncomputable def fF4(ta:TE)(tr:TA):TA:=λσ H Q=>ta σ H λx H1=>tr σ H1 λxs H2=>Q (x::xs) H2
section
theorem eL0:PA X [] fA7:=λ_ _ _ _ H Q I h=>xf ⟨[],H,I,.nil,h⟩
theorem eE5(ha:PE X e te)(hr:PA X es t)(hs:zK (e::es) X.env= (false,eval e X.env)::zK es X.env):PA X (e::es) (fF4 te t):=by
 intro pos pins s σ H Q I h
 rw[hs]
 show zt _ _ (spliced ((false,eval e X.env)::yQ pos (zK es X.env))) _ _ s
 refine yU (thn (ha pins s σ H _ I h) λu s1 hE1=>hE1.elim λx H1 I1 r1 q1=>?_)
 exact thn (hr pos pins s1 σ H1 _ I1 q1) λus s2 hE1=>hE1.elim λxs H2 I2 r2 q2=>⟨x::xs,H2,I2,.cons r1 r2,q2⟩
def fN0(t:TA):TE:=λσ H Q=>t σ H λxs H1=>xs.length<=zl/\∀p,H1 p=none->Q (.ref p) (upd H1 p (.tup xs))
def fN1(t:TA):TE:=λσ H Q=>t σ H λxs H1=>xs.length<=zl/\∀p,H1 p=none->Q (.ref p) (upd H1 p (.lst xs))
theorem eY1{x1}(h:PA X es t):PE X (.Tuple es x1 pos) (fN0 t):=by
 intro pins s σ H Q I hq
 refine wpAny_Tuple_spliced (thn (h pos pins s σ H _ I hq) λus s1 ⟨xs,H1,I1,r,z,q⟩=>⟨by rw[<-r.length];exact z,?_⟩)
 have hf:H1 s1.heap.objs.size=none:=I1.hok.fresh (zo _)
 refine⟨.ref s1.heap.objs.size,upd H1 s1.heap.objs.size (.tup xs),I1.laid (t':=s1.toks) (λb u e=>zh _ e) (zo _) ?_,rfl,q _ hf⟩
 exact⟨z,us,r,⟨_,zp _ rfl,rfl,_,rfl⟩⟩
theorem eZ7(h:PA X es t):PE X (.List es pos) (fN1 t):=by
 intro pins s σ H Q I hq
 refine wpAny_List_spliced (thn (h pos pins s σ H _ I hq) λus s1 ⟨xs,H1,I1,r,z,q⟩=>⟨by rw[<-r.length];exact z,?_⟩)
 have hf:H1 s1.heap.objs.size=none:=I1.hok.fresh (zo _)
 refine⟨.ref s1.heap.objs.size,upd H1 s1.heap.objs.size (.lst xs),I1.laid (t':=s1.toks) (λb u e=>zh _ e) (zo _) ?_,rfl,q _ hf⟩
 exact⟨z,us,0,r,zp _ rfl⟩
end
noncomputable abbrev Sp:=List V->Hp->VK->XK->Prop
noncomputable abbrev CXT:=List Env->Hp->zm->XK->VSP
structure eG0(P:zT)(w:jg)(K:zi)(mg:Str->Option zg)(base:Heap)(A:ji)(outer:List Env)(s:zm)(H:Hp):Prop where
 frames:A.frames=some outer
 mod:Mod K mg base
 bs:∀b o,base.get? b=some o->s.heap.get? b=some o/\H b=none
 bsz:base.objs.size<=s.heap.objs.size
 funs:s.heap.FunFrames base outer
 frf:∀b∈frs outer,H b=none
 hok:HOk P w H s.heap
 bare:Xa s.gens
def CE(outer:List Env)(P:zT)(w:jg)(H:Hp)(s:zm)(Q:VK)(u:zg)(s':zm):Prop:=
 ∃v H',s'.os=s.os/\Xa s'.gens/\Un (frs outer) [] H H' s.heap s'.heap/\HOk P w H' s'.heap/\J9 v u/\Q v H'
def CR(CX:CXT)(outer:List Env)(P:zT)(w:jg)(H:Hp)(s:zm)(Q:VK)(E:XK)(r:Result)(s':zm):Prop:=
 match r with
 | .ok (.ret u)=>CE outer P w H s Q u s'
 | .ok _=>False
 | .error e=>CX outer H s E e s'
structure aN4(P:zT)(w:jg)(K:zi)(mg:Str->Option zg)(base:Heap)(CX:CXT)(k:Nat)(f:Addr)(fd:yM)(ps:List Str)(sp:Sp):Prop where
 len:∀vs H Q E,sp vs H Q E->vs.length=ps.length
 run:∀(A:ji) (outer:List Env) (s:zm) (H:Hp) (args:Args) (us:List zg) (vs:List V) (Q:VK) (E:XK),V7 k A->eG0 P w K mg base A outer s H->Yy s fd args (ps.zip us)->v6 vs us->sp vs H Q E->
  xQ (zz P w) A (.call (.ref f) args) (CR CX outer P w H s Q E) s
theorem aN4.imp{P:zT}{w:jg}{K:zi}{mg:Str->Option zg}{base:Heap}{CX:CXT}{k:Nat}{f:Addr}{fd:yM}{ps:List Str}{sp sp':Sp}(F:aN4 P w K mg base CX k f fd ps sp)
 (h:∀vs H Q E,sp' vs H Q E->sp vs H Q E):aN4 P w K mg base CX k f fd ps sp':=
 ⟨λvs H Q E q=>F.len vs H Q E (h _ _ _ _ q),λA outer s H args us vs Q E hr he hb hv hs=>F.run A outer s H args us vs Q E hr he hb hv (h _ _ _ _ hs)⟩
section
theorem Inv.env0(I:Inv X pins σ H s):eG0 X.prog X.w X.K X.mg X.base X.A X.stack s H:=
 ⟨I.ok.frames,I.ok.mod,I.bs,zC I.ok.bsz I.sz,I.stack,I.stkFree,I.hok,I.bare⟩
theorem Inv.after{Q:VK}{u:zg}(I:Inv X pins σ H s)(h:CE X.stack X.prog X.w H s Q u s'):EP X pins σ Q u s':=by
 obtain⟨v,H',os,bare,un,hok,r,q⟩:=h
 obtain⟨hh,g,d,t,os'⟩:=s'
 obtain rfl:os'=s.os:=os
 exact⟨v,H',I.call (h':=hh) (g':=g) (d':=d) (t':=t) (ch:= []) un hok bare (λb z=>absurd z (by simp)),r,q⟩
end
noncomputable def eI4(sp:Sp)(dvs:List V)(E:XK)(t:TA):TE:=λσ H Q=>t σ H λvs H1=>sp (vs++dvs) H1 Q E
noncomputable def aT1(K:zi)(fd:yM)(ps:List Str)(ds:List zg):Prop:=
 ∀(s:zm) (us:List zg),K.In s.heap->(us++ds).length=ps.length->Yy s fd ⟨us, []⟩ (ps.zip (us++ds))
theorem aT1.all{K:zi}{fd:yM}{ps:List Str}(h:∀us:List zg,us.length=ps.length->bindArgs fd ⟨us, []⟩=pure (ps.zip us)):aT1 K fd ps []:=λs us _ hl=>by
 rw[yZ]at hl ⊢
 exact .of_eq (h us hl)
noncomputable def cB0(CX:CXT)(X:Cx)(E:XK):Prop:=∀(pins:PNS) (σ:St) (H:Hp) (s:zm) (e:zg) (s':zm),Inv X pins σ H s->CX X.stack H s E e s'->X.xe e s'
section
theorem cO4{pins:PNS}{σ:St}{H:Hp}{s:zm}{Q:VK}{us:List zg}{vs:List V}(F:aN4 X.prog X.w X.K X.mg X.base CX k f fd ps sp)(hr:V7 k X.A)(hb:aT1 X.K fd ps ds)(hd:v6 dvs ds)(hx:cB0 CX X E)
 (I:Inv X pins σ H s) (r:v6 vs us) (h:sp (vs++dvs) H Q E):zt (zz X.prog X.w) X.A (call (.ref f) us) (EP X pins σ Q) X.xe s:=by
 have r2:v6 (vs++dvs) (us++ds):=r.append hd
 have hl:(us++ds).length=ps.length:=by rw[<-r2.length];exact F.len _ _ _ _ h
 refine wpAny_call (Zw (F.run X.A X.stack s H ⟨us, []⟩ (us++ds) (vs++dvs) Q E hr I.env0 (hb s us I.kIn hl) r2 h) λr s' hq=>?_)
 cases r with
 |error e=>exact hx pins σ H s e s' I hq
 |ok fl=>
   cases fl with
   |ret u=>exact I.after hq
   |next=>exact yV hq
   |brk=>exact yV hq
   |cont=>exact yV hq
theorem eF1(F:aN4 X.prog X.w X.K X.mg X.base CX k f fd ps sp)(hr:V7 k X.A)(hg:Gl X x)(hm:X.mg x=some (.ref f))(hk:yh X.K (.ref f)=true)(hb:aT1 X.K fd ps ds)(hd:v6 dvs ds)(hx:cB0 CX X E)
 (ha:PA X (e::es) t) (hdb:(x==("__debug__" :Str))=false) (he:zK (e::es) X.env= (false,eval e X.env)::zK es X.env) (hpl:(yQ pos (zK es X.env)).any (·.1)=false):
 PE X (.Call (.Name x p) (e::es) [] pos) (eI4 sp dvs E t):=by
 intro pins s σ H Q I h
 refine jZ (bI8 I hg hm ?_ hdb)
 refine PySem.W.callWith_K (h₀:=X.base) I.ok.mod.kin hk (thn (ha pos pins s σ H _ I h) λus s1 hE1=>hE1.elim λvs H1 I1 r q=>⟨I1.kIn,?_⟩) he hpl
 exact cO4 F hr hb hd hx I1 r q
theorem dJ2(F:aN4 X.prog X.w X.K X.mg X.base CX k f fd ps sp)(hr:V7 k X.A)(hg:Gl X x)(hm:X.mg x=some (.ref f))(hk:yh X.K (.ref f)=true)(hb:aT1 X.K fd ps ds)(hd:v6 dvs ds)(hx:cB0 CX X E)
 (hdb:(x==("__debug__" :Str))=false):PE X (.Call (.Name x p) [] [] pos) (eI4 sp dvs E fA7):=by
 intro pins s σ H Q I h
 refine jZ (bI8 I hg hm ?_ hdb)
 exact PySem.W.callWith_K0 I.kIn hk (cO4 (us:= []) F hr hb hd hx I .nil h)
structure Mk(K:zi)(C f:Addr):Prop where
 makes:PySem.W.makesIn K C=true
 init:Zj K (.ref C) "__init__" =some (some (.ref f))
 fn:PySem.W.isFn K (.ref f)=true
 kp:yh K (.ref C)=true
end
section
structure KBinds(K:zi)(fd:yM)(ps ks:List Str)(g:List zg->List zg->List zg)(gV:List V->List V->List V):Prop where
 to:∀(s:zm) (us ws:List zg),K.In s.heap->(g us ws).length=ps.length->Yy s fd ⟨us,ks.zip ws⟩ (ps.zip (g us ws))
 rel:∀ {vs:List V} {us:List zg} {zs:List V} {ws:List zg},v6 vs us->v6 zs ws->v6 (gV vs zs) (g us ws)
end
structure aE3(N P:List Str)(sc:Scope):Prop where
 kind:sc.kind= .function
 co:sc.isCoroutine=false
 gen:sc.isGenerator=false
 nd:N.Nodup
 pre:N.take P.length=P
 par:∀x∈P,sc.names.lookup x=some .local\/sc.names.lookup x=some .cell
 nofree:∀y∈sc.names,y.2≠ .free
theorem bS7{xT:Str->Option NameKind}{x:Str}:∀ {binds:List (Str×zg)} {m:Str->Option zg},(∀v,(x,v)∉binds)->bindL xT binds m x=m x
 |[],_,_=>rfl
 |(n,v)::r,m,h=>by
  unfold bindL
  rw[bS7 λw hw=>h w (zk _ hw)]
  split
  · have:x≠n:=by rintro rfl;exact h v zq
    simp[this]
  ·rfl
theorem bV8{xT:Str->Option NameKind}{x:Str}:∀ {binds:List (Str×zg)} {m:Str->Option zg},(∀v,(x,v)∉binds)->bindC xT binds m x=m x
 |[],_,_=>rfl
 |(n,v)::r,m,h=>by
  unfold bindC
  rw[bV8 λw hw=>h w (zk _ hw)]
  split
  ·rfl
  · have:x≠n:=by rintro rfl;exact h v zq
    simp[this]
theorem bU3{xT:Str->Option NameKind}{x:Str}{v:zg}:∀ {P:List Str} {vs:List zg} {i:Nat} {m:Str->Option zg},P.Nodup->P[i]? =some x->vs[i]? =some v->xT x=some .local->
 bindL xT (P.zip vs) m x=some v
 |[],_,_,_,_,h,_,_=>by simp at h
 |_::_, [],_,_,_,_,h,_=>by simp at h
 |p::P,w::vs,0,m,nd,h1,h2,hk=>by
   simp at h1 h2;subst h1;subst h2
   show bindL xT ((p,w)::P.zip vs) m p=_
   unfold bindL
   rw[bS7 λv hv=>(xI.mp nd).1 (Xy hv).1,if_pos hk]
   simp
 |p::P,w::vs,i+1,m,nd,h1,h2,hk=>by
   show bindL xT ((p,w)::P.zip vs) m x=_
   unfold bindL
   exact bU3 (i:=i) (xI.mp nd).2 (by simpa using h1) (by simpa using h2) hk
theorem bS2{xT:Str->Option NameKind}{x:Str}{v:zg}:∀ {P:List Str} {vs:List zg} {i:Nat} {m:Str->Option zg},P.Nodup->P[i]? =some x->vs[i]? =some v->xT x≠some .local->
 bindC xT (P.zip vs) m x=some v
 |[],_,_,_,_,h,_,_=>by simp at h
 |_::_, [],_,_,_,_,h,_=>by simp at h
 |p::P,w::vs,0,m,nd,h1,h2,hk=>by
   simp at h1 h2;subst h1;subst h2
   show bindC xT ((p,w)::P.zip vs) m p=_
   unfold bindC
   rw[bV8 λv hv=>(xI.mp nd).1 (Xy hv).1,if_neg hk]
   simp
 |p::P,w::vs,i+1,m,nd,h1,h2,hk=>by
   show bindC xT ((p,w)::P.zip vs) m x=_
   unfold bindC
   exact bS2 (i:=i) (xI.mp nd).2 (by simpa using h1) (by simpa using h2) hk
noncomputable def start(N:List Str)(vs:List V):St:=vs.map some++jk (N.length-vs.length) none
noncomputable def bQ6(CX:CXT)(P:zT)(w:jg)(K:zi)(mg:Str->Option zg)(base:Heap)(N:List Str)(qual:Str)(scope:Scope)(f:Addr)(cd:zg)(A:ji)(outer:List Env)(s:zm)(H:Hp)(E:XK):Cx where
 prog:=P
 w:=w
 K:=K
 mg:=mg
 base:=base
 A:=A.deeper (ZY qual scope s.heap.objs.size f cd)
 N:=N
 WX:=s
 H₀:=H
 env:=ZY qual scope s.heap.objs.size f cd
 outer:=outer
 stack:=ZY qual scope s.heap.objs.size f cd::outer
 ex:= []
 calm:=true
 fn:=λ_=>true
 pn:= []
 xe:=λe s'=>zt (zz P w) (A.deeper (ZY qual scope s.heap.objs.size f cd)) (leaving (ZY qual scope s.heap.objs.size f cd) e) (λ_ s''=>CX outer H s E e s'') (λe' s''=>CX outer H s E e' s'') s'
theorem cI5{sc:Scope}{n:Nat}{x:Str}(h:sc.names.lookup x=some .cell):∃c,(cellsFrom n sc.names []).lookup x=some c:=by
 have q:=Ja sc.names n [] (.inl h)
 exact XU.mp q
theorem cZ5{CX:CXT}{P:zT}{w:jg}{K:zi}{mg:Str->Option zg}{base:Heap}{N ps:List Str}{qual:Str}{scope:Scope}{f:Addr}{cd:zg}{A:ji}{outer:List Env}{s s1:zm}{H:Hp}{E:XK}{us:List zg}{vs:List V}
 (S:aE3 N ps scope) (hd:A.handled=none) (gd:A.guards=some []) (e0:eG0 P w K mg base A outer s H) (hl:vs.length=ps.length) (r:v6 vs us)
 (x:InCallC s s.heap.objs.size (bindL (ZY qual scope s.heap.objs.size f cd).kindOf (ps.zip us) λ_=>none) (cellsFrom (s.heap.objs.size+1) scope.names []) (bindC (ZY qual scope s.heap.objs.size f cd).kindOf (ps.zip us) λ_=>none) s1):
 Inv (bQ6 CX P w K mg base N qual scope f cd A outer s H E) [] (start N vs) H s1:=by
 have hpl:ps.length<=N.length:=by have:=congrArg xM S.pre;rw[xX]at this;lia
 obtain⟨h1,tk,rfl,hk⟩:=x.done
 have noA:∀b:Addr,b∉(bQ6 CX P w K mg base N qual scope f cd A outer s H E).ex:=λb z=>absurd (show b∈([]:List Addr)from z) (by simp)
 refine⟨⟨e0.mod,S.kind,rfl,rfl,zo _,λy z c h1 h2=>?_,λy hy=>?_,λy c _ h=>?_,λ_=>hd,Around.frames_deeper e0.frames,.inr ⟨rfl,rfl⟩,λb z=>absurd z (noA b),e0.bs,e0.bsz,λb _ _=>noA b,λb z=>absurd z (noA b),e0.funs,e0.frf,gd⟩,
  rfl,e0.bare,Un.kept hk,⟨_,x.toInCall.ns,λi y v h1 h2 h3=>?_⟩,λy c h=>⟨_,x.cell y c h⟩,e0.hok.fresh (zo _),λy c h=>?_,λp hp=>absurd (show p∈([]:PNS)from hp) (by simp),e0.hok.kept hk,?_⟩
 ·exact name_of_addr x.apart (yJ h1) (yJ h2)
 · have hy:scope.names.lookup y=some .cell\/scope.names.lookup y=some .free:=hy
   rcases hy with hy|hy
   ·exact cI5 hy
   ·exact absurd rfl (S.nofree _ (yJ hy))
 ·exact yt (x.above y c (yJ h))
 · have hi:i<vs.length:=by
    unfold start at h2
    by_cases hi:i<vs.length
    ·exact hi
    · rw[xp (by simpa using hi)]at h2
      rw[Jt]at h2
      split at h2<;>cases h2
   have ha:vs[i]? =some v:=by
    unfold start at h2
    rw[zJ (by simpa using hi),zG]at h2
    cases e:vs[i]? with
    |none=>rw[e]at h2;cases h2
    |some a=>rw[e]at h2;cases h2;rfl
   obtain⟨u,hu,rv⟩:=r.get ha
   have hp:ps[i]? =some y:=by
    rw[<-S.pre,List.getElem?_take_of_lt (by lia)];exact h1
   have ndP:ps.Nodup:=by rw[<-S.pre];exact S.nd.sublist (List.take_sublist _ _)
   refine⟨u,rv,?_⟩
   rcases S.par y (jW hp)with k|k
   ·exact .inl ⟨k,bU3 ndP hp hu k⟩
   · obtain⟨c,e⟩:=cI5 (n:=s.heap.objs.size+1) k
     refine .inr ⟨.inl k,c,e,?_⟩
     have q:=x.cell y c e
     rw[bS2 ndP hp hu (by show scope.names.lookup y≠_;rw[k];decide)]at q
     exact q
 ·exact e0.hok.fresh (yt (x.above y c (yJ h)))
 · unfold start
   show _=N.length
   rw[zM,ze,List.length_replicate]
   lia
theorem fK9{CX:CXT}{P:zT}{w:jg}{K:zi}{mg:Str->Option zg}{base:Heap}{k:Nat}{f:Addr}{name qual:Str}{params:Arguments}{body:List Stmt}{scope:Scope}{dV kV doc pm cdv ct oc:zg}{an od:Option Addr}
 {osl:Array (Option zg)} {N ps:List Str} {sp:Sp} (lk:K.lookup f=some ⟨oc,od,.func (yo name qual params body scope dV kV doc pm an cdv ct),osl⟩) (hcd:Zk K cdv qual=true) (S:aE3 N ps scope)
 (len:∀vs H Q E,sp vs H Q E->vs.length=ps.length)
 (hbody:∀(A:ji) (outer:List Env) (s:zm) (H:Hp) (vs:List V) (Q:VK) (E:XK),V7 k (A.deeper (ZY qual scope s.heap.objs.size f cdv))->sp vs H Q E->
   ∃t,PSs (bQ6 CX P w K mg base N qual scope f cdv A outer s H E) body t/\t {nx:=λ_ H'=>Q .non H',rt:=Q} (start N vs) H):
 aN4 P w K mg base CX (k+1) f (yo name qual params body scope dV kV doc pm an cdv ct) ps sp:=by
 refine⟨len,λA outer s H args us vs Q E hr e0 hb r hsp=>?_⟩
 have hl:=len _ _ _ _ hsp
 have KX:K.In s.heap:=e0.mod.kin.keeps λb o e=>(e0.bs b o e).1
 have lim:s.heap.NoLimit:=e0.mod.nolimit.keeps λb o e=>(e0.bs b o e).1
 have hkind:∀y∈ps.zip us,scope.names.lookup y.1=some .local\/(scope.names.lookup y.1=some .cell/\((cellsFrom (s.heap.objs.size+1) scope.names []).lookup y.1).isSome=true):=fun⟨n,v⟩ hy=>by
  rcases S.par n (Xy hy).1 with q|q
  ·exact .inl q
  ·exact .inr ⟨q,Ja _ _ _ (.inl q)⟩
 refine codeAny_call_function hr.depth (KX _ _ lk) rfl S.co S.gen rfl (PySem.W.codeRec_of KX hcd) (hb _ _ _ _ ?_)
 refine wpAny_newFunctionEnv_cells S.kind hkind λenv he s1 x=>?_
 subst he
 refine⟨lim.keeps x.toInCall.keep,codeAny_func ?_⟩
 obtain⟨t,ht,hq⟩:=hbody A outer s H vs Q E (hr.deeper _) hsp
 have I:Inv (bQ6 CX P w K mg base N qual scope f cdv A outer s H E) [] (start N vs) H s1:=cZ5 S hr.hd hr.gd e0 hl r x
 refine jH (ht [] s1 (start N vs) H _ I hq) (λfl s' hs=>?_) λe s' hs=>hs
 have fin:∀ {X2:St} {H':Hp} {v:V} {u:zg},Inv (bQ6 CX P w K mg base N qual scope f cdv A outer s H E) [] X2 H' s'->J9 v u->Q v H'->CE outer P w H s Q u s':=
  λ{X2 H' v u} J rv q=>⟨v,H',J.os,J.bare,J.base,J.hok,rv,q⟩
 cases fl with
 |ret u=>
   obtain⟨v,X2,H',J,rv,q⟩:=hs
   exact fin J rv q
 |next=>
   obtain⟨X2,H',J,q⟩:=hs
   exact fin (v:=V.non) (u:=Value.none) J rfl q
 |brk=>
   obtain⟨_,_,_,q⟩:=hs
   exact yV q
 |cont=>
   obtain⟨_,_,_,q⟩:=hs
   exact yV q
section
variable{X:Cx}{x:Str}{p pos:Pos}{e:Expr}{es:List Expr}{t:TA}{id T:String}{r:List V->Hp->VK->Prop}
noncomputable def tCB(r:List V->Hp->VK->Prop)(t:TA):TE:=λσ H Q=>t σ H λvs H1=>r vs H1 Q
theorem dN5(hc:aD0 X (.builtin id) r)(hg:Gl X x)(hm:X.mg x=none)(hv:ja x=some (.builtin id))(ha:PA X (e::es) t)(hn:x≠ "__name__")(hdb:(x==("__debug__" :Str))=false)
 (he:zK (e::es) X.env= (false,eval e X.env)::zK es X.env) (hpl:(yQ pos (zK es X.env)).any (·.1)=false):PE X (.Call (.Name x p) (e::es) [] pos) (tCB r t):=by
 intro pins s σ H Q I h
 refine jZ (aK2 I hg hm hv ?_ hn hdb)
 exact PyProof.Rows.callWith_builtin1 (thn (ha pos pins s σ H _ I h) λus s1 hE1=>hE1.elim λvs H1 I1 r1 q1=>hc pins s1 σ H1 vs us Q I1 r1 q1) he hpl
theorem dD8(hc:aD0 X (.type T) r)(hg:Gl X x)(hm:X.mg x=none)(hv:ja x=some (.type T))(ha:PA X (e::es) t)(hn:x≠ "__name__")(hdb:(x==("__debug__" :Str))=false)
 (he:zK (e::es) X.env= (false,eval e X.env)::zK es X.env) (hpl:(yQ pos (zK es X.env)).any (·.1)=false):PE X (.Call (.Name x p) (e::es) [] pos) (tCB r t):=by
 intro pins s σ H Q I h
 refine jZ (aK2 I hg hm hv ?_ hn hdb)
 exact yj (thn (ha pos pins s σ H _ I h) λus s1 hE1=>hE1.elim λvs H1 I1 r1 q1=>hc pins s1 σ H1 vs us Q I1 r1 q1) he hpl
end
end L2
namespace HT
open PySem PyProof.Rows
section
open PySem.SeqAt
open PySem.AutoSeq1 (wpAny_loadPart')
open PySem.MeetsSeq PySem.MeetsSeq2 PySem.MeetsSeq3
end
section
theorem cat_tup{t b:Addr}{vs ws:List zg}{Q:VSP}(ht:YE s.heap t vs.toArray)(hb:YE s.heap b ws.toArray)(hv:vs≠ [])
 (h1:ws= []->Q (.ref t) s) (h2:ws≠ []->Q (.ref s.heap.objs.size) {s with heap:=s.heap.push {cls:=.type "tuple",data:=.seq (vs++ws).toArray}})
 (hsz:vs.length+ws.length<=zl):zt (zz prog w) A (ya .Add (.ref t) (.ref b)) Q E s:=by
 obtain⟨⟨cls,dd,data,sl⟩,ho,hc,n,hd⟩:=id ht
 obtain⟨⟨cls2,dd2,data2,sl2⟩,ho2,hc2,n2,hd2⟩:=id hb
 simp only at hc hd hc2 hd2
 subst hc hd hc2 hd2
 have e:vs.toArray++ws.toArray= (vs++ws).toArray:=by simp
 by_cases hw:ws= []
 · exact concat_meets ⟨_,ho,rfl⟩ ⟨_,ho2,rfl⟩ XY seq_tuple_add ZC Zx (Zt _ _)
    (tuple_addW1 t b vs.toArray ws.toArray n n2 dd dd2 sl sl2 (by simpa using hv) (by simp[hw])) ⟨ho,ho2,h1 hw⟩
 · refine concat_meets ⟨_,ho,rfl⟩ ⟨_,ho2,rfl⟩ XY seq_tuple_add ZC Zx (Zt _ _)
    (tuple_addW2 t b vs.toArray ws.toArray n n2 dd dd2 sl sl2 (by simpa using hv) (by simpa using hw) (by rw[zj,zj];exact hsz)) ⟨ho,ho2,?_⟩
   rw[e]
   exact h2 hw
noncomputable def sIx(n d:Nat):Option Int->Nat
 |none=>d
 |some v=>if v<0 then (v+(n:Int)).toNat else min v.toNat n
theorem eW5(n d:Nat)(hd:d<=n)(o:Option Int):sIx n d o<=n:=by
 cases o with
 |none=>exact hd
 |some v=>
   show (if v<0 then (v+(n:Int)).toNat else min v.toNat n)<=n
   by_cases hv:v<0
   ·rw[if_pos hv];lia
   ·rw[if_neg hv];exact Nat.min_le_right _ _
theorem cS7(v:Int)(n d:Nat):(if v<0 then max (v+(n:Int)) 0 else min v (n:Int))= ((sIx n d (some v):Nat):Int):=by
 show (if v<0 then max (v+(n:Int)) 0 else min v (n:Int))= (((if v<0 then (v+(n:Int)).toNat else min v.toNat n):Nat):Int)
 by_cases hv:v<0
 ·simp only[if_pos hv];lia
 ·simp only[if_neg hv];lia
theorem cP5(lo hi:Option Int)(n:Nat):Zd lo hi 1 (n:Int)= (((sIx n 0 lo:Nat):Int),((sIx n n hi:Nat):Int)):=by
 have h1:¬((1:Int)<0):=by lia
 unfold Zd
 simp only[h1,if_false]
 refine XT ?_ ?_
 · cases lo with
   |none=>rfl
   |some v=>exact cS7 v n 0
 · cases hi with
   |none=>rfl
   |some v=>exact cS7 v n n
theorem cM7(i j:Nat):yY (i:Int) (j:Int) 1=j-i:=by
 unfold yY
 have h1:(1:Int)>0:=by lia
 simp only[h1,if_true,Int.ediv_one]
 split<;>lia
theorem bN2{v:zg}{o:Option Int}{Q:Option Int->zm->Prop}(p:IsPart v o)(h:Q o s):zt (zz prog w) A (Builtin.Slice.slicePartIndex v) Q E s:=by
 cases p with
 |none=>exact slicePart_none h
 |int i t=>exact slicePart_int h
theorem sliceApplied_gen{sl:Addr}{vl vu:zg}{lo hi:Option Int}{n:Nat}{Q:Int×Int×Nat->zm->Prop}(hs:s.heap.IsSliceOf sl vl vu .none)(pl:IsPart vl lo)(pu:IsPart vu hi)
 (h:Q (((sIx n 0 lo:Nat):Int),1,sIx n n hi-sIx n 0 lo) s):zt (zz prog w) A (YI (.ref sl) (pure (n:Int))) Q E s:=by
 obtain⟨os,hos,hcs,hds⟩:=id hs
 unfold YI Builtin.Slice.sliceFields
 refine za (za (wpAny_field hos hds (x:=vl) rfl (za (wpAny_field hos hds (x:=vu) rfl (za (wpAny_field hos hds (x:=.none) rfl (zc ?_)))))))
 refine za (slicePart_none ?_)
 show zt _ _ (if ((1:Int)==0)=true then _ else _) _ _ s
 rw[if_neg (by decide)]
 refine za (bN2 pl (za (bN2 pu (za (zc ?_)))))
 show zt _ _ (match Zd lo hi 1 (n:Int) with|(lo,hi)=>pure (lo,(1:Int),yY lo hi 1)) _ _ s
 rw[cP5 lo hi n]
 show zt _ _ (pure (((sIx n 0 lo:Nat):Int),(1:Int),yY ((sIx n 0 lo:Nat):Int) ((sIx n n hi:Nat):Int) 1)) _ _ s
 rw[cM7]
 exact zc h
theorem dL8(xs:Array zg)(i k:Nat):((zX k).filterMap fun(m:Nat)=>xs[((i:Int)+(m:Int)*1).toNat]?).toArray= ((xs.toList.drop i).take k).toArray:=by
 have e:(fun(m:Nat)=>xs[((i:Int)+(m:Int)*1).toNat]?)=λm=>xs[i+m]? :=by
  funext m
  have:((i:Int)+(m:Int)*1).toNat=i+m:=by lia
  rw[this]
 rw[e]
 have:=pick_run xs i k
 rw[YN]at this
 have e2:((λx=>xs[x]?)∘λx=>i+x)=λm=>xs[i+m]? :=rfl
 rw[e2]at this
 rw[this]
theorem getItem_tuple_cut{t sl:Addr}{items:Array zg}{vl vu:zg}{lo hi:Option Int}{Q:VSP}(ht:YE s.heap t items)(hs:s.heap.IsSliceOf sl vl vu .none)(pl:IsPart vl lo)(pu:IsPart vu hi)
 (hw:¬(sIx items.size 0 lo=0/\sIx items.size items.size hi=items.size))
 (h:Q (.ref s.heap.objs.size) {s with heap:=s.heap.push {cls:=.type "tuple",data:=.seq ((items.toList.drop (sIx items.size 0 lo)).take (sIx items.size items.size hi-sIx items.size 0 lo)).toArray}})
 (hsz:items.size<=zl):zt (zz prog w) A (XB (.ref t) (.ref sl)) Q E s:=by
 have htake:sizeOk (.seq ((items.toList.drop (sIx items.size 0 lo)).take (sIx items.size items.size hi-sIx items.size 0 lo)).toArray):=by
  show ((items.toList.drop (sIx items.size 0 lo)).take (sIx items.size items.size hi-sIx items.size 0 lo)).toArray.size<=zl
  rw[zj,xX,List.length_drop,zA]
  lia
 have hj:sIx items.size items.size hi<=items.size:=eW5 _ _ (zo _) hi
 obtain⟨os,hos,hcs,hds⟩:=id hs
 have hTs:s.TypeIs (.ref sl) "slice":=⟨os,hos,hcs⟩
 unfold XB
 try with_reducible refine jl ?_
 first|refine za (zc ?_)|skip
 refine za (wpAny_sequenceKey ht.typeIs (by decide) ?_)
 refine za (yq (name:=je "__getitem__") ht.typeIs jD
  (jL jD ht.typeIs entry_tuple_getitem ?_ (args_tuple_getitem _ _)))
 show zt _ _ (YH (.ref t) >>= _) _ _ s
 refine za (tupleItemsOf_ ht ?_)
 refine za (xG hTs ?_)
 rw[if_pos (by decide)]
 refine za (sliceApplied_gen hs pl pu ?_)
 have hno:¬((((sIx items.size 0 lo:Nat):Int)==0&&(1:Int)==1&&(sIx items.size items.size hi-sIx items.size 0 lo)==items.size)=true):=by
  intro q
  rw[zZ,zZ]at q
  have q1:((sIx items.size 0 lo:Nat):Int)=0:=eq_of_beq q.1.1
  have q2:sIx items.size items.size hi-sIx items.size 0 lo=items.size:=eq_of_beq q.2
  exact hw ⟨by lia,by lia⟩
 show zt _ _ (if (((sIx items.size 0 lo:Nat):Int)==0&&(1:Int)==1&&(sIx items.size items.size hi-sIx items.size 0 lo)==items.size)=true then _ else _) _ _ s
 rw[if_neg hno,dL8]
 first
  |exact za (m:=xl _) (xt (zc ⟨_,rfl,zc h⟩) htake)
  |exact za (m:=xl _) (xt (za (zc (zc ⟨_,rfl,zc h⟩))) htake)
  |exact za (za (m:=xl _) (xt (zc (zc ⟨_,rfl,zc h⟩)) htake))
  |exact za (za (m:=xl _) (xt (zc ⟨_,rfl,zc h⟩) htake))
end
end HT
namespace L2
open PySem PySem.Spec PyProof.Rows
noncomputable abbrev TO:=St->Hp->(Option Int->Hp->Prop)->Prop
noncomputable def PO(X:Cx)(e:Option Expr)(t:TO):Prop:=
 ∀(pins:PNS) (s:zm) (σ:St) (H:Hp) (Q:Option Int->Hp->Prop),Inv X pins σ H s->t σ H Q->
  zt (zz X.prog X.w) X.A (evalPart e X.env) (λu s'=>∃o H',Inv X pins σ H' s'/\IsPart u o/\Q o H') X.xe s
noncomputable def dX1:TO:=λ_ H Q=>Q none H
noncomputable def fF2(t:TE):TO:=λσ H Q=>t σ H λx H1=>∃i,x= .int i/\Q (some i) H1
section
variable{X:Cx}{e:Expr}{te:TE}{lo hi:Option Expr}{tl th:TO}{pos p2:Pos}
theorem dY2:PO X none dX1:=by
 intro pins s σ H Q I h
 rw[evalPart_none]
 exact zc ⟨none,H,I,.none,h⟩
theorem dV8(h:PE X e te):PO X (some e) (fF2 te):=by
 intro pins s σ H Q I hw
 rw[evalPart_some]
 refine thn (h pins s σ H _ I hw) λu s1 hE1=>hE1.elim λx H1 I1 r1 q1=>?_
 obtain⟨i,rfl,q⟩:=q1
 obtain⟨t,rfl⟩:=r1
 exact⟨some i,H1,I1,.int i t,q⟩
def SlR(X:Cx)(r:V->Option Int->Option Int->Hp->VK->Prop):Prop:=
 ∀(pins:PNS) (s:zm) (σ:St) (H:Hp) (x:V) (v vl vu:zg) (lo hi:Option Int) (sl:Addr) (Q:VK),Inv X pins σ H s->J9 x v->s.heap.IsSliceOf sl vl vu .none->IsPart vl lo->IsPart vu hi->r x lo hi H Q->
  ∃T id,Xq (.type T) "__getitem__" =pure (some (.builtin id))/\s.TypeIs v T/\zt (zz X.prog X.w) X.A (XB v (.ref sl)) (EP X pins σ Q) X.xe s
theorem SlR.or{r r':V->Option Int->Option Int->Hp->VK->Prop}(h:SlR X r)(h':SlR X r'):SlR X (λx lo hi H Q=>r x lo hi H Q\/r' x lo hi H Q):=by
 intro pins s σ H x v vl vu lo hi sl Q I rx hs pl pu q
 rcases q with q|q
 ·exact h pins s σ H x v vl vu lo hi sl Q I rx hs pl pu q
 ·exact h' pins s σ H x v vl vu lo hi sl Q I rx hs pl pu q
noncomputable def tSl(r:V->Option Int->Option Int->Hp->VK->Prop)(te:TE)(tl th:TO):TE:=λσ H Q=>te σ H λx H1=>tl σ H1 λl H2=>th σ H2 λu H3=>r x l u H3 Q
theorem dN2{r:V->Option Int->Option Int->Hp->VK->Prop}(hr:SlR X r)(he:PE X e te)(hl:PO X lo tl)(hu:PO X hi th):PE X (.Subscript e (.Slice lo hi none p2) pos) (tSl r te tl th):=by
 intro pins s σ H Q I h
 refine Subscript_ (thn (he pins s σ H _ I h) λv s1 hE1=>hE1.elim λx H1 I1 r1 q1=>?_)
 refine wpAny_Slice (thn (hl pins s1 σ H1 _ I1 q1) λvl s2 ⟨l,H2,I2,pl,q2⟩=>thn (hu pins s2 σ H2 _ I2 q2) λvu s3 ⟨u,H3,I3,pu,q3⟩=>?_)
 rw[evalPart_none]
 refine zc ?_
 have I4:Inv X pins σ H3 {s3 with heap:=s3.heap.push {cls:=.type "slice",data:=.fields #[vl,vu,.none]}}:=I3.kept (t':=s3.toks) λb ob q=>zh _ q
 obtain⟨T,id,hT,ht,hg⟩:=hr pins {s3 with heap:=s3.heap.push {cls:=.type "slice",data:=.fields #[vl,vu,.none]}} σ H3 x v vl vu l u s3.heap.objs.size Q I4 r1 (Xw ..) pl pu q3
 show zt (zz X.prog X.w) X.A (subscriptTail e (.Slice lo hi none p2) v (.ref s3.heap.objs.size)) (EP X pins σ Q) X.xe {s3 with heap:=s3.heap.push {cls:=.type "slice",data:=.fields #[vl,vu,.none]}}
 exact tail_any (ops:= [.ref s3.heap.objs.size,v]) ht hT hg (by with_unfolding_all rfl)
def bP7(xs:List V)(lo hi:Option Int):List V:=(xs.drop (HT.sIx xs.length 0 lo)).take (HT.sIx xs.length xs.length hi-HT.sIx xs.length 0 lo)
theorem bG7(xs:List V)(lo hi:Option Int):(bP7 xs lo hi).length<=xs.length:=by
 unfold bP7
 rw[xX,List.length_drop]
 lia
def fO6(K:zi):V->Option Int->Option Int->Hp->VK->Prop:=λx lo hi H Q=>∃a xs,x= .ref a/\SqT K H a xs/\
 ¬(HT.sIx xs.length 0 lo=0/\HT.sIx xs.length xs.length hi=xs.length)/\∀p,H p=none->Q (.ref p) (upd H p (.tup (bP7 xs lo hi)))
theorem sl_tup:SlR X (fO6 X.K):=by
 intro pins s σ H x v vl vu lo hi sl Q I rx hs pl pu h
 obtain⟨a,xs,rfl,hx,hw,q⟩:=h
 cases rx
 obtain⟨its,r,ht,hz⟩:=I.tuple hx
 have hlen:its.toArray.size=xs.length:=by rw[zj];exact r.length.symm
 refine⟨"tuple",_,jD.lookup,ht.typeIs,?_⟩
 refine HT.getItem_tuple_cut ht hs pl pu (by rw[hlen];exact hw) ?_ (by rw[hlen];exact hz)
 rw[hlen]
 refine⟨.ref s.heap.objs.size,_,I.laid (t':=s.toks) (o:=.tup (bP7 xs lo hi)) (λb ob q=>zh _ q) (zo _) ?_,rfl,q _ (I.hok.fresh (zo _))⟩
 exact⟨zC (bG7 xs lo hi) hz,_,(r.drop (HT.sIx xs.length 0 lo)).take (HT.sIx xs.length xs.length hi-HT.sIx xs.length 0 lo),aP7.new _ _⟩
def fM4(K:zi):R2:=λx y H Q=>∃a b xs ys,x= .ref a/\y= .ref b/\SqT K H a xs/\SqT K H b ys/\xs≠ []/\xs.length+ys.length<=zl/\
 (ys= []->Q (.ref a) H)/\(ys≠ []->∀p,H p=none->Q (.ref p) (upd H p (.tup (xs++ys))))
theorem v6.nil_iff{xs:List V}{us:List zg}(r:v6 xs us):us= []↔xs= []:=by
 cases r with
 |nil=>simp
 |cons _ _=>simp
theorem eH2:OpR X (ya .Add) (fM4 X.K):=by
 intro pins s σ H x y v u Q I rx ry h
 obtain⟨a,b,xs,ys,rfl,rfl,ha,hb,hx,hz,q1,q2⟩:=h
 cases rx
 cases ry
 obtain⟨its,r1,p1,_⟩:=I.tuple ha
 obtain⟨its2,r2,p2,_⟩:=I.tuple hb
 refine HT.cat_tup p1 p2 (λz=>hx (r1.nil_iff.mp z)) (λz=>⟨.ref a,H,I,rfl,q1 (r2.nil_iff.mp z)⟩) (λz=>?_) (by rw[<-r1.length,<-r2.length];exact hz)
 refine⟨.ref s.heap.objs.size,_,I.laid (t':=s.toks) (o:=.tup (xs++ys)) (λb ob q=>zh _ q) (zo _) ?_,rfl,q2 (λw=>z (r2.nil_iff.mpr w)) _ (I.hok.fresh (zo _))⟩
 exact⟨by rw[zM];exact hz,_,r1.append r2,aP7.new _ _⟩
end
noncomputable def ixN(n:Nat)(i:Int):Option Nat:=if 0<=i then (if i<n then some i.toNat else none)else if -(n:Int)<=i then some (i+n).toNat else none
def atI{α:Type}(xs:List α)(i:Int):Option α:=(ixN xs.length i).bind λj=>xs[j]?
theorem cX1{n:Nat}{i:Int}{j:Nat}(h:ixN n i=some j):seqIndex? i n=some j/\j<n/\ -(n:Int)<=i/\i<n:=by
 unfold ixN at h
 by_cases h0:0<=i
 · rw[if_pos h0]at h
   by_cases h1:i<n
   · rw[if_pos h1]at h
     have e:i.toNat=j:=zQ h
     exact⟨by rw[seqIndex_of h0 h1,e],by lia,by lia,h1⟩
   ·rw[if_neg h1]at h;cases h
 · rw[if_neg h0]at h
   by_cases h1: -(n:Int)<=i
   · rw[if_pos h1]at h
     have e:(i+n).toNat=j:=zQ h
     exact⟨by rw[seqIndex_neg (by lia) h1,e],by lia,h1,by lia⟩
   ·rw[if_neg h1]at h;cases h
theorem bY2{α:Type}{xs:List α}{i:Int}{v:α}(h:atI xs i=some v):∃j,seqIndex? i xs.length=some j/\xs[j]? =some v/\j<xs.length/\ -(xs.length:Int)<=i/\i<xs.length:=by
 unfold atI at h
 cases e:ixN xs.length i with
 |none=>rw[e]at h;cases h
 |some j=>
   rw[e]at h
   obtain⟨h1,h2,h3,h4⟩:=cX1 e
   exact⟨j,h1,h,h2,h3,h4⟩
theorem atI_nat{α:Type}{xs:List α}{j:Nat}{v:α}(h:xs[j]? =some v):atI xs (j:Int)=some v:=by
 have hj:j<xs.length:=(jd.mp h).1
 have e:ixN xs.length (j:Int)=some j:=by
  unfold ixN
  rw[if_pos (by lia),if_pos (by lia)];simp
 unfold atI;rw[e];exact h
theorem dG9{α:Type}(xs:List α)(v:α):atI (xs++[v]) (-1)=some v:=by
 have hl:(xs++[v]).length=xs.length+1:=by simp
 have e:ixN (xs++[v]).length (-1)=some xs.length:=by
  unfold ixN
  rw[hl,if_neg (by decide),if_pos (by lia)]
  congr 1
  lia
 unfold atI
 rw[e]
 show (xs++[v])[xs.length]? =some v
 simp
noncomputable def cA3(b:Expr):Prop:=∀o i,subscripted b false o i=operate [o,i] (XB o i)
def IxR(X:Cx)(r:R2):Prop:=
 ∀(value slice:Expr) (pins:PNS) (s:zm) (σ:St) (H:Hp) (x y:V) (v u:zg) (Q:VK),Inv X pins σ H s->J9 x v->J9 y u->r x y H Q->
  subscripted slice false v u=operate [v,u] (XB v u)->zt (zz X.prog X.w) X.A (subscriptTail value slice v u) (EP X pins σ Q) X.xe s
def MtR(X:Cx)(id:String)(r:V->List V->Hp->VK->Prop):Prop:=
 ∀(pins:PNS) (s:zm) (σ:St) (H:Hp) (x:V) (xs:List V) (v:zg) (us:List zg) (Q:VK),Inv X pins σ H s->J9 x v->v6 xs us->r x xs H Q->
  zt (zz X.prog X.w) X.A (call (.builtin id) (v::us)) (EP X pins σ Q) X.xe s
section
variable{X:Cx}
theorem IxR.or{r r':R2}(h:IxR X r)(h':IxR X r'):IxR X (λx y H Q=>r x y H Q\/r' x y H Q):=by
 intro value slice pins s σ H x y v u Q I rx ry q hs
 rcases q with q|q
 ·exact h value slice pins s σ H x y v u Q I rx ry q hs
 ·exact h' value slice pins s σ H x y v u Q I rx ry q hs
theorem fD7{r:R2}(hr:IxR X r)(ha:PE X a ta)(hb:PE X b tb)(hs:cA3 b):PE X (.Subscript a b pos) (tOp r ta tb):=by
 intro pins s σ H Q I h
 exact Subscript_ (eQ7 ha hb I h λv u s2 x y H2 I2 rx ry q=>hr a b pins s2 σ H2 x y v u Q I2 rx ry q (hs _ _))
def fN6(K:zi):R2:=λx y H Q=>∃p xs i v,x= .ref p/\y= .int i/\SqL K H p xs/\atI xs i=some v/\Q v H
def fP0(K:zi):R2:=λx y H Q=>∃p xs i v,x= .ref p/\y= .int i/\SqT K H p xs/\atI xs i=some v/\Q v H
def fR2:R2:=λx y H Q=>∃z i c,x= .str z/\y= .int i/\z.length<=zl/\atI z.cps.toList i=some c/\Q (.str ⟨#[c]⟩) H
theorem dZ3:IxR X (fN6 X.K):=by
 intro value slice pins s σ H x y v u Q I rx ry h hs
 obtain⟨p,xs,i,z,rfl,rfl,hq,he,q⟩:=h
 cases rx
 obtain⟨t,rfl⟩:=ry
 obtain⟨its,r,pl,hz⟩:=I.list hq
 obtain⟨j,h1,h2,h3,h4,h5⟩:=bY2 he
 obtain⟨w,ew,rw'⟩:=r.get h2
 have hl:=r.length
 have hn:=aZ8
 have fin:EP X pins σ Q w s:=⟨z,H,I,rw',q⟩
 by_cases h0:0<=i
 · have hj:i.toNat=j:=by
    rw[seqIndex_of h0 h5]at h1
    exact zQ h1
   exact item_listR pl.isList h0 (by lia) (by rw[hj];simpa using ew) fin hs
 · have hj:(i+(its.toArray.size:Int)).toNat=j:=by
    rw[seqIndex_neg (by lia) h4]at h1
    rw[zj,<-hl]
    exact zQ h1
   exact subscriptTail_builtinR (x:=w) pl.isList.typeIs Xz.lookup
    (wpAny_getItem_list_neg (Q:=λr s'=>r=w/\EP X pins σ Q r s') pl.isList (by lia) (by rw[zj]<;>lia) (by lia) (by rw[hj];simpa using ew) ⟨rfl,fin⟩) hs
theorem ix_tup:IxR X (fP0 X.K):=by
 intro value slice pins s σ H x y v u Q I rx ry h hs
 obtain⟨p,xs,i,z,rfl,rfl,hq,he,q⟩:=h
 cases rx
 obtain⟨t,rfl⟩:=ry
 obtain⟨its,r,pl,hz⟩:=I.tuple hq
 obtain⟨j,h1,h2,h3,h4,h5⟩:=bY2 he
 obtain⟨w,ew,rw'⟩:=r.get h2
 have hl:=r.length
 have hn:=aZ8
 have fin:EP X pins σ Q w s:=⟨z,H,I,rw',q⟩
 exact subscriptTail_builtinR (x:=w) pl.typeIs jD.lookup
  (getItem_tuple (j:=j) (Q:=λr s'=>r=w/\EP X pins σ Q r s') pl (by lia) (by lia) (by rw[zj,<-hl];exact h1) (by simpa using ew) ⟨rfl,fin⟩) hs
theorem eU9:IxR X fR2:=by
 intro value slice pins s σ H x y v u Q I rx ry h hs
 obtain⟨z,i,c,rfl,rfl,hz,he,q⟩:=h
 obtain⟨t,rfl⟩:=rx
 obtain⟨t',rfl⟩:=ry
 obtain⟨j,h1,h2,h3,h4,h5⟩:=bY2 he
 have hl:z.cps.toList.length=z.length:=by simp[Str.length]
 rw[hl]at h1 h4 h5
 have hn:=aZ8
 exact tail_any (typeIs_str s z t) slot_str_getitem.lookup (getItem_str (c:=c) (by
  have e1:decide (i < -(2 ^ 63:Int))=false:=decide_eq_false (by lia)
  have e2:decide (i>=2 ^ 63)=false:=decide_eq_false (by lia)
  rw[e1,e2,Zz]) (by rw[h1];simpa using h2) ⟨.str ⟨#[c]⟩,H,I.tok _,⟨_,rfl⟩,q⟩) hs
theorem cQ6(its:List zg)(n j:Nat)(u:zg):jp (·.setIfInBounds j u) {cls:=.type "list",data:=.seq its.toArray n}= {cls:=.type "list",data:=.seq (its.set j u).toArray n}:=by
 simp[jp]
theorem Inv.lst{pins:PNS}{σ:St}{H:Hp}{s:zm}{p:Addr}{xs:List V}(I:Inv X pins σ H s)(h:H p=some (.lst xs)):
 ∃(its:List zg) (n:Nat),v6 xs its/\s.heap.get? p=some {cls:=.type "list",data:=.seq its.toArray n}/\xs.length<=zl:=by
 obtain⟨z,its,n,r,e⟩:=I.hok p _ h
 exact⟨its,n,r,e,z⟩
theorem Inv.lstUpd{pins:PNS}{σ:St}{H:Hp}{s:zm}{p:Addr}{xs ys:List V}{its its':List zg}{n n':Nat}{f:Obj->Obj}(I:Inv X pins σ H s)(h:H p=some (.lst xs))
 (ho:s.heap.get? p=some {cls:=.type "list",data:=.seq its.toArray n}) (hf:f {cls:=.type "list",data:=.seq its.toArray n}= {cls:=.type "list",data:=.seq its'.toArray n'}) (r:v6 ys its') (hz:ys.length<=zl) (t:Nat):
 Inv X pins σ (upd H p (.lst ys)) {s with heap:=s.heap.update p f,toks:=t}:=by
 have e:(s.heap.update p f).get? p=some {cls:=.type "list",data:=.seq its'.toArray n'}:=by
  rw[jw f ho (by rw[hf]<;>rfl),hf]
 refine I.write (x:=p) (e:=p) (by rw[h];trivial) (.inl rfl) (λb u hb q=>(jt _ _ (Ne.symm hb)).trans q) ⟨_,e⟩ ?_
 exact⟨hz,its',n',r,e⟩
def fF9:V->V->V->Hp->(Hp->Prop)->Prop:=λo i v H Q=>∃p xs k j,o= .ref p/\i= .int k/\H p=some (.lst xs)/\ixN xs.length k=some j/\Q (upd H p (.lst (xs.set j v)))
theorem dH2:eY8 X fF9:=by
 intro pins s σ H o i v ov iv u Q I ro ri rv h
 obtain⟨p,xs,k,j,rfl,rfl,hp,hj,q⟩:=h
 cases ro
 obtain⟨t,rfl⟩:=ri
 obtain⟨its,n,r,ho,hz⟩:=I.lst hp
 obtain⟨h1,h2,h3,h4⟩:=cX1 hj
 have hl:=r.length
 have hn:=aZ8
 have I':Inv X pins σ (upd H p (.lst (xs.set j v))) {s with heap:=s.heap.update p (jp (·.setIfInBounds j u))}:=
  I.lstUpd hp ho (cQ6 its n j u) (r.set rv j) (by rw[xJ];exact hz) s.toks
 by_cases h0:0<=k
 · have hk:k.toNat=j:=by
    rw[seqIndex_of h0 h4]at h1
    exact zQ h1
   exact PySem.W.ki_setAt ho h0 (by lia) (by rw[zj,<-hl];exact h4) (by rw[hk];exact⟨_,I',q⟩)
 · have hk:(k+(its.toArray.size:Int)).toNat=j:=by
    rw[seqIndex_neg (by lia) h3]at h1
    rw[zj,<-hl]
    exact zQ h1
   exact PySem.W.ki_setBack ho (by lia) (by rw[zj,<-hl];exact h3) (by lia) (by rw[hk];exact⟨_,I',q⟩)
theorem bY4(lo hi:Option Int)(n:Nat):(xb lo hi none n).1= ((HT.sIx n 0 lo:Nat):Int)/\(xb lo hi none n).2.1= ((HT.sIx n n hi:Nat):Int)/\(xb lo hi none n).2.2=1:=by
 refine⟨?_,?_,rfl⟩
 · cases lo with
   |none=>simp[xb,HT.sIx]
   |some i=>
     simp only[xb,HT.sIx,Option.getD_none,show (1:Int)>0 by decide,if_true]
     by_cases h:i<0
     ·simp only[h,if_true]<;>lia
     ·simp only[h,if_false]<;>lia
 · cases hi with
   |none=>simp[xb,HT.sIx]
   |some i=>
     simp only[xb,HT.sIx,Option.getD_none,show (1:Int)>0 by decide,if_true]
     by_cases h:i<0
     ·simp only[h,if_true]<;>lia
     ·simp only[h,if_false]<;>lia
theorem bP9(its:List zg)(lo hi:Option Int):XX its.toArray lo hi none= ((its.drop (HT.sIx its.length 0 lo)).take (HT.sIx its.length its.length hi-HT.sIx its.length 0 lo)).toArray:=by
 obtain⟨h1,h2,h3⟩:=bY4 lo hi its.toArray.size
 unfold XX
 rw[h1,h2,h3]
 simp only[sliceRange_one,pick_run,zj]<;>rfl
def fM8(K:zi):V->Option Int->Option Int->Hp->VK->Prop:=λx lo hi H Q=>∃a xs,x= .ref a/\SqL K H a xs/\∀p,H p=none->Q (.ref p) (upd H p (.lst (bP7 xs lo hi)))
theorem eB9:SlR X (fM8 X.K):=by
 intro pins s σ H x v vl vu lo hi sl Q I rx hs pl pu h
 obtain⟨a,xs,rfl,hx,q⟩:=h
 cases rx
 obtain⟨its,r,ht,hz⟩:=I.list hx
 have hlen:=r.length
 refine⟨"list",_,Xz.lookup,ht.isList.typeIs,?_⟩
 refine JZ ht.isList hs pl pu .none (by simp) ?_ (by rw[zj]<;>lia)
 rw[bP9,<-hlen]
 refine⟨.ref s.heap.objs.size,_,I.laid (t':=s.toks) (o:=.lst (bP7 xs lo hi)) (λb ob q=>zh _ q) (zo _) ?_,rfl,q _ (I.hok.fresh (zo _))⟩
 exact⟨zC (bG7 xs lo hi) hz,_,0,(r.drop (HT.sIx xs.length 0 lo)).take (HT.sIx xs.length xs.length hi-HT.sIx xs.length 0 lo),zp _ rfl⟩
noncomputable def aX5:V->Bool
 | .non=>true
 | .bl _=>true
 | .int _=>true
 | .str _=>true
 |_=>false
noncomputable def eqV:V->V->Bool
 | .non,.non=>true
 | .bl a,.bl b=>a==b
 | .bl a,.int b=>(if a then 1 else 0)==b
 | .int a,.bl b=>a==(if b then 1 else 0)
 | .int a,.int b=>a==b
 | .str a,.str b=>a==b
 |_,_=>false
theorem eQ9{A:ji}{s:zm}{y x:V}{u v:zg}(ry:J9 y u)(rx:J9 x v)(fy:aX5 y=true)(fx:aX5 x=true):jP A s u v (eqV y x):=by
 cases y with
 |non=>
   cases ry
   cases x with
   |non=>cases rx;exact YM _
   |bl b=>cases rx;exact XL b
   |int b=>obtain⟨t,rfl⟩:=rx;exact Je b t
   |str b=>obtain⟨t,rfl⟩:=rx;exact Jd b t
   |_=>exact absurd (show false=true from fx) jm
 |bl a=>
   cases ry
   cases x with
   |non=>cases rx;exact XM a
   |bl b=>cases rx;exact XO a b
   |int b=>obtain⟨t,rfl⟩:=rx;exact Ji a b t
   |str b=>obtain⟨t,rfl⟩:=rx;exact Jh a b t
   |_=>exact absurd (show false=true from fx) jm
 |int a=>
   obtain⟨t',rfl⟩:=ry
   cases x with
   |non=>cases rx;exact Jf a t'
   |bl b=>cases rx;exact Jg a t' b
   |int b=>obtain⟨t,rfl⟩:=rx;exact Jl a t' b t
   |str b=>obtain⟨t,rfl⟩:=rx;exact Yd a t' b t
   |_=>exact absurd (show false=true from fx) jm
 |str a=>
   obtain⟨t',rfl⟩:=ry
   cases x with
   |non=>cases rx;exact Jb a t'
   |bl b=>cases rx;exact Jc a t' b
   |int b=>obtain⟨t,rfl⟩:=rx;exact Yc a t' b t
   |str b=>obtain⟨t,rfl⟩:=rx;exact Jk a t' b t
   |_=>exact absurd (show false=true from fx) jm
 |_=>exact absurd (show false=true from fy) jm
def eqU(x:V)(u:zg):Bool:=match u with
 | .none=>eqV .non x
 | .bool b=>eqV (.bl b) x
 | .int i _=>eqV (.int i) x
 | .str z _=>eqV (.str z) x
 |_=>false
theorem dR2{x y:V}{u:zg}(r:J9 y u)(f:aX5 y=true):eqU x u=eqV y x:=by
 cases y with
 |non=>cases r;rfl
 |bl b=>cases r;rfl
 |int i=>obtain⟨t,rfl⟩:=r;rfl
 |str z=>obtain⟨t,rfl⟩:=r;rfl
 |_=>exact absurd (show false=true from f) jm
theorem bI4{x:V}{xs:List V}{us:List zg}(h:v6 xs us)(f:xs.all aX5=true):us.any (eqU x)=xs.any λy=>eqV y x:=by
 induction h with
 |nil=>rfl
 |cons r t ih=>
   rw[yc,zZ]at f
   rw[yb,yb,dR2 r f.1,ih f.2]
theorem aT7{A:ji}{s:zm}{x:V}{v:zg}(rx:J9 x v)(fx:aX5 x=true):∀ {xs:List V} {us:List zg},v6 xs us->xs.all aX5=true->∀u∈us,jP A s u v (eqU x u)
 |_,_,.nil,_=>λu hu=>by cases hu
 |y::xs,u::us,.cons r t,f=>λu' hu=>by
   rw[yc,zZ]at f
   rcases zu.mp hu with rfl|hu
   ·rw[dR2 r f.1];exact eQ9 r rx f.1 fx
   ·exact aT7 rx fx t f.2 u' hu
def inV(x:V)(xs:List V):Bool:=xs.any λy=>eqV y x
def rIn(K:zi)(neg:Bool):R2:=λx y H Q=>∃p xs,y= .ref p/\(SqL K H p xs\/SqT K H p xs)/\aX5 x=true/\xs.all aX5=true/\Q (.bl (if neg then !inV x xs else inV x xs)) H
theorem dF3:OpR X (zR .In) (rIn X.K false):=by
 intro pins s σ H x y v u Q I rx ry h
 obtain⟨p,xs,rfl,hq,fx,fs,q⟩:=h
 cases ry
 rcases hq with hq|hq
 · obtain⟨its,r,pl,hz⟩:=I.list hq
   refine SeqAt.in_listAt (eqU x) pl.isList (λw hw=>aT7 rx fx r fs w (by simpa using hw)) ⟨.bl _,H,I,rfl,?_⟩
   rw[show its.toArray.any (eqU x)=its.any (eqU x) by simp,bI4 r fs]
   exact q
 · obtain⟨its,r,pl,hz⟩:=I.tuple hq
   refine SeqAt.in_tupleAt (eqU x) pl (λw hw=>aT7 rx fx r fs w (by simpa using hw)) ⟨.bl _,H,I,rfl,?_⟩
   rw[show its.toArray.any (eqU x)=its.any (eqU x) by simp,bI4 r fs]
   exact q
theorem bY8:OpR X (zR .NotIn) (rIn X.K true):=by
 intro pins s σ H x y v u Q I rx ry h
 obtain⟨p,xs,rfl,hq,fx,fs,q⟩:=h
 cases ry
 rcases hq with hq|hq
 · obtain⟨its,r,pl,hz⟩:=I.list hq
   refine SeqAt.notIn_listAt (eqU x) pl.isList (λw hw=>aT7 rx fx r fs w (by simpa using hw)) ⟨.bl _,H,I,rfl,?_⟩
   rw[show its.toArray.any (eqU x)=its.any (eqU x) by simp,bI4 r fs]
   exact q
 · obtain⟨its,r,pl,hz⟩:=I.tuple hq
   refine JT (eqU x) pl (λw hw=>aT7 rx fx r fs w (by simpa using hw)) ⟨.bl _,H,I,rfl,?_⟩
   rw[show its.toArray.any (eqU x)=its.any (eqU x) by simp,bI4 r fs]
   exact q
theorem bX4:OpR X (zR .NotIn) (λx y H Q=>∃i j,x= .str i/\y= .str j/\Q (.bl (!(!(xv j i 0 j.length 1).isEmpty))) H):=by
 intro pins s σ H x y v u Q I rx ry h
 obtain⟨i,j,rfl,rfl,q⟩:=h
 obtain⟨t,rfl⟩:=rx
 obtain⟨t',rfl⟩:=ry
 exact notIn_str ⟨.bl _,H,I,rfl,q⟩
theorem cB1:aD0 X (.builtin "len") (λxs H Q=>∃p ys,xs= [.ref p]/\(SqL X.K H p ys\/SqT X.K H p ys)/\Q (.int ys.length) H):=by
 intro pins s σ H xs us Q I r h
 obtain⟨p,ys,rfl,hq,q⟩:=h
 obtain⟨u,rfl,rx⟩:=aG1 r
 cases rx
 have hn:=aZ8
 rcases hq with hq|hq
 · obtain⟨its,r',pl,hz⟩:=I.list hq
   have hlen:=r'.length
   exact Calls.call_len_list pl.isList (by simp only[zj]<;>lia) ⟨.int ys.length,H,I.tok _,⟨s.toks+1,by rw[zj,hlen]⟩,q⟩
 · obtain⟨its,r',pl,hz⟩:=I.tuple hq
   have hlen:=r'.length
   exact len_tuple pl (by simp only[zj]<;>lia) ⟨.int ys.length,H,I.tok _,⟨s.toks+1,by rw[zj,hlen]⟩,q⟩
theorem bY7:aD0 X (.builtin "len") (λxs H Q=>∃z,xs= [.str z]/\z.length<=zl/\Q (.int z.length) H):=by
 intro pins s σ H xs us Q I r h
 obtain⟨z,rfl,hz,q⟩:=h
 obtain⟨u,rfl,t,rfl⟩:=aG1 r
 have hn:=aZ8
 exact len_str (by lia) ⟨.int z.length,H,I.tok _,⟨_,rfl⟩,q⟩
theorem aD0.or{f:zg}{r r':List V->Hp->VK->Prop}(h:aD0 X f r)(h':aD0 X f r'):aD0 X f (λxs H Q=>r xs H Q\/r' xs H Q):=by
 intro pins s σ H xs us Q I rs q
 rcases q with q|q
 ·exact h pins s σ H xs us Q I rs q
 ·exact h' pins s σ H xs us Q I rs q
theorem bZ0:aD0 X (.type "list") (λxs H Q=>∃p ys,xs= [.ref p]/\(SqL X.K H p ys\/SqT X.K H p ys)/\∀l,H l=none->Q (.ref l) (upd H l (.lst ys))):=by
 intro pins s σ H xs us Q I r h
 obtain⟨p,ys,rfl,hq,q⟩:=h
 obtain⟨u,rfl,rx⟩:=aG1 r
 cases rx
 have fin:∀(its:List zg),v6 ys its->ys.length<=zl->∀(h':Heap) (c':Nat),(∀b o',s.heap.get? b=some o'->h'.get? b=some o')->
  h'.get? s.heap.objs.size=some {cls:=.type "list",dict:=none,data:=.seq its.toArray c',slots:= #[]}->EP X pins σ Q (.ref s.heap.objs.size) {s with heap:=h'}:=λits r' hz h' c' kp e=>
  ⟨.ref s.heap.objs.size,_,I.laid (t':=s.toks) kp (zo _) (show W2 X.prog X.w _ h' _ (.lst ys) from⟨hz,its,c',r',e⟩),rfl,q _ (I.hok.fresh (zo _))⟩
 rcases hq with hq|hq
 · obtain⟨its,r',pl,hz⟩:=I.list hq
   have hlen:=r'.length
   obtain⟨o,ho,hc,n,hd⟩:=pl.isList
   exact call_list_seq p (.inl rfl) ho hc hd (λh' c' kp e=>fin its r' hz h' c' kp e) (by simp only[zj]<;>lia)
 · obtain⟨its,r',pl,hz⟩:=I.tuple hq
   have hlen:=r'.length
   obtain⟨o,ho,hc,n,hd⟩:=pl
   exact call_list_seq p (.inr rfl) ho hc hd (λh' c' kp e=>fin its r' hz h' c' kp e) (by simp only[zj]<;>lia)
theorem bR5:aD0 X (.type "tuple") (λxs H Q=>∃p ys,xs= [.ref p]/\((SqL X.K H p ys/\∀l,H l=none->Q (.ref l) (upd H l (.tup ys)))\/(SqT X.K H p ys/\Q (.ref p) H))):=by
 intro pins s σ H xs us Q I r h
 obtain⟨p,ys,rfl,h⟩:=h
 obtain⟨u,rfl,rx⟩:=aG1 r
 cases rx
 rcases h with⟨hq,q⟩|⟨hq,q⟩
 · obtain⟨its,r',pl,hz⟩:=I.list hq
   have hlen:=r'.length
   refine call_tuple_list pl.isList (λh' kp=>?_) (by simp only[zj]<;>lia)
   have I1:Inv X pins σ H {s with heap:=h'}:=I.kept (t':=s.toks) kp
   have I2:Inv X pins σ (upd H h'.objs.size (.tup ys)) {s with heap:=h'.push {cls:=.type "tuple",data:=.seq its.toArray}}:=
    I1.laid (t':=s.toks) (λb o e=>zh _ e) (zo _) (show W2 X.prog X.w _ _ _ (.tup ys) from⟨hz,its,r',aP7.new _ _⟩)
   exact⟨.ref h'.objs.size,_,I2,rfl,q _ (I1.hok.fresh (zo _))⟩
 · obtain⟨its,r',pl,hz⟩:=I.tuple hq
   exact call_tuple_same pl ⟨.ref p,H,I,rfl,q⟩
def tyV(K:zi)(T:String)(x:V)(H:Hp):Prop:=match x with
 | .str _=>T= "str"
 | .int _=>T= "int"
 | .ref p=>(T= "list"/\∃xs,SqL K H p xs)\/(T= "tuple"/\∃o,K.lookup p=some o/\o.cls= .type "tuple"/\o.dict=none)\/
    (T= "dict"/\((∃kvs,H p=some (.dK kvs))\/∃kvs,H p=some (.dT kvs)))\/(T= "set"/\∃S n,H p=some (.set S n))
 |_=>False
theorem dT9{pins:PNS}{σ:St}{H:Hp}{s:zm}{T:String}{x:V}{v:zg}(I:Inv X pins σ H s)(r:J9 x v)(ty:tyV X.K T x H):
 s.TypeIs v T/\∀a,v= .ref a->∃ob,s.heap.get? a=some ob/\ob.dict=none:=by
 cases x with
 |str z=>
   obtain⟨t,rfl⟩:=r
   cases (show T= "str" from ty)
   exact⟨typeIs_str s z t,λ_ e=>nomatch e⟩
 |int i=>
   obtain⟨t,rfl⟩:=r
   cases (show T= "int" from ty)
   exact⟨Xr s i t,λ_ e=>nomatch e⟩
 |ref p=>
   cases r
   rcases ty with⟨rfl,xs,hq⟩|⟨rfl,o,hk,hc,hd⟩|⟨rfl,hk⟩|⟨rfl,S,n,hk⟩
   · obtain⟨its,_,pl,_⟩:=I.list hq
     refine⟨pl.isList.typeIs,λa e=>?_⟩
     cases e
     obtain⟨o,n,e,c,hd,_⟩:=pl
     exact⟨o,e,hd⟩
   · refine⟨⟨o,I.kIn p o hk,hc⟩,λa e=>?_⟩
     cases e
     exact⟨o,I.kIn _ o hk,hd⟩
   · have z:∃o,s.heap.get? p=some o/\o.ExactDict:=by
      rcases hk with⟨kvs,hk⟩|⟨kvs,hk⟩
      · obtain⟨_,_,_,_,o,_,_,e,ex,_⟩:=I.hok p _ hk
        exact⟨o,e,ex⟩
      · obtain⟨_,_,_,_,o,_,_,e,ex,_⟩:=I.hok p _ hk
        exact⟨o,e,ex⟩
     obtain⟨o,e,ex⟩:=z
     refine⟨⟨o,e,ex.1⟩,λa e2=>?_⟩
     cases e2
     exact⟨o,e,ex.2.1⟩
   · obtain⟨o,_,_,_,e,ex,_⟩:=I.hok p _ hk
     refine⟨⟨o,e,ex.1⟩,λa e2=>?_⟩
     cases e2
     exact⟨o,e,ex.2.1⟩
 |_=>exact yV ty
def fP7(K:zi)(T:String)(r:V->List V->Hp->VK->Prop)(to:TE):TE:=λσ H Q=>to σ H λx H1=>tyV K T x H1/\r x [] H1 Q
def tBM(K:zi)(T:String)(r:V->List V->Hp->VK->Prop)(to:TE)(t:TA):TE:=λσ H Q=>to σ H λx H1=>tyV K T x H1/\t σ H1 λxs H2=>r x xs H2 Q
variable{o e:Expr}{es:List Expr}{to:TE}{t:TA}{name:Str}{apos cpos:Pos}{T id:String}{r:V->List V->Hp->VK->Prop}
theorem eQ2(pa:PlainAttrs T)(slot:Slot T name id)(hty:typeOf (.builtin id)=pure (.type "method_descriptor"))(hm:MtR X id r)(ho:PE X o to)
 (hbase:xn o name X.env (eval o X.env)=eval o X.env) (hline:(apos.endLine==cpos.line)=true):PE X (.Call (.Attribute o name apos) [] [] cpos) (fP7 X.K T r to):=by
 intro pins s σ H Q I h
 refine wpAny_Call_method0_late hbase hline (thn (ho pins s σ H _ I h) λv s1 ⟨x,H1,I1,r1,ty,q1⟩=>?_)
 obtain⟨h1,h2⟩:=dT9 I1 r1 ty
 exact⟨T,id,pa,slot,hty,h1,h2,Jq rfl (PySem.evalArgs_none (hm pins s1 σ H1 x [] v [] Q I1 r1 .nil q1))⟩
theorem dN1(pa:PlainAttrs T)(slot:Slot T name id)(hty:typeOf (.builtin id)=pure (.type "method_descriptor"))(hm:MtR X id r)(ho:PE X o to)(ha:PA X (e::es) t)
 (hbase:xn o name X.env (eval o X.env)=eval o X.env)
 (hfew:((yQ cpos (zK (e::es) X.env)).all (λx=> !x.1)&&(XD cpos (ZM [] X.env)).all (λx=>x.1.isSome)
   && decide ((e::es).length+([]:List Keyword).length+(if ([]:List Keyword).isEmpty then 0 else 1)<30))=true)
 (hline:(apos.endLine==cpos.line)=true) (hs:zK (e::es) X.env= (false,eval e X.env)::zK es X.env) (hplain:(yQ cpos (zK es X.env)).any (·.1)=false):
 PE X (.Call (.Attribute o name apos) (e::es) [] cpos) (tBM X.K T r to t):=by
 intro pins s σ H Q I h
 refine wpAny_Call_method_late hbase hfew hline rfl (thn (ho pins s σ H _ I h) λv s1 ⟨x,H1,I1,r1,ty,q1⟩=>?_)
 obtain⟨h1,h2⟩:=dT9 I1 r1 ty
 refine⟨T,id,pa,slot,hty,h1,h2,?_⟩
 have hA:=ha cpos pins s1 σ H1 _ I1 q1
 rw[hs]at hA ⊢
 refine Jq (by show (false||(yQ cpos (zK es X.env)).any (·.1))=false;rw[hplain]<;>rfl) (Calls.evalArgs_plain ?_)
 exact thn hA λus s2 hE1=>hE1.elim λvs H2 I2 r2 q2=>hm pins s2 σ H2 x vs v us Q I2 r1 r2 q2
end
def MtM(X:Cx)(id:String)(r:V->List V->Hp->VK->Prop):Prop:=
 ∀(pins:PNS) (s:zm) (σ:St) (H:Hp) (x:V) (xs:List V) (v:zg) (us:List zg) (Q:VK),Inv X pins σ H s->J9 x v->v6 xs us->r x xs H Q->
  zt (zz X.prog X.w) X.A (call (.builtin id) (v::us)) (EP X pins σ Q) X.xe s
theorem v6.one{x:V}{us:List zg}(h:v6 [x] us):∃u,us= [u]/\J9 x u:=by
 cases h with
 |cons r t=>cases t;exact⟨_,rfl,r⟩
theorem v6.zero:∀ {us:List zg},v6 [] us->us= []
 |_,.nil=>rfl
theorem v6.dropLast{xs:List V}{us:List zg}(h:v6 xs us):v6 xs.dropLast us.dropLast:=by
 induction h with
 |nil=>exact .nil
 |cons r t ih=>
   cases t with
   |nil=>exact .nil
   |cons q t'=>exact .cons r ih
theorem v6.reverse{xs:List V}{us:List zg}(h:v6 xs us):v6 xs.reverse us.reverse:=by
 induction h with
 |nil=>exact .nil
 |cons r t ih=>rw[Xb,Xb];exact v6.append ih (.cons r .nil)
theorem cM6{α:Type}(l:List α):l.eraseIdx (l.length-1)=l.dropLast:=by
 induction l with
 |nil=>rfl
 |cons a r ih=>
   cases r with
   |nil=>rfl
   |cons b r=>
     have e:(a::b::r).length-1= ((b::r).length-1)+1:=by
      have h1:(a::b::r).length=r.length+2:=rfl
      have h2:(b::r).length=r.length+1:=rfl
      lia
     rw[e,List.eraseIdx_cons_succ,ih]
     all_goals rfl
section
theorem Inv.lset{its its':List zg}{n:Nat}{f:Array zg->Array zg}{t':Nat}(I:Inv X pins σ H s)(hH:H l=some (.lst xs))
 (e:s.heap.get? l=some {cls:=.type "list",data:=.seq its.toArray n}) (hf:f its.toArray=its'.toArray) (hv:v6 ys its') (hz:ys.length<=zl):
 Inv X pins σ (upd H l (.lst ys)) {s with heap:=s.heap.update l (jp f),toks:=t'}:=by
 have q:=PySem.IsL.update e f
 rw[hf]at q
 refine I.write (x:=l) (e:=l) (by rw[hH];exact trivial) (.inl rfl) (λb' u hb hu=>(jt s.heap (jp f) (Ne.symm hb)).trans hu) ⟨_,q⟩ ?_
 exact⟨hz,its',_,hv,q⟩
theorem Inv.lnew{its:List zg}{t':Nat}(I:Inv X pins σ H s)(hv:v6 ys its)(hz:ys.length<=zl):
 Inv X pins σ (upd H s.heap.objs.size (.lst ys)) {s with heap:=s.heap.push {cls:=.type "list",data:=.seq its.toArray},toks:=t'}:=
 I.laid (λ_ _ q=>zh _ q) (zo _) ⟨hz,its,0,hv,zp _ rfl⟩
theorem Inv.fresh(I:Inv X pins σ H s):H s.heap.objs.size=none:=I.hok.fresh (zo _)
theorem Inv.lstM(I:Inv X pins σ H s)(hH:H l=some (.lst xs)):xs.length<=zl/\∃(its:List zg) (n:Nat),v6 xs its/\xs.length=its.length/\s.heap.get? l=some {cls:=.type "list",data:=.seq its.toArray n}:=by
 obtain⟨z,its,n,r,e⟩:=I.hok l _ hH
 exact⟨z,its,n,r,r.length,e⟩
end
section
def dX9:V->List V->Hp->VK->Prop:=λx vs H Q=>∃l xs y,x= .ref l/\vs= [y]/\H l=some (.lst xs)/\xs.length<zl/\Q .non (upd H l (.lst (xs++[y])))
theorem bT8:MtM X "list.append" dX9:=by
 intro pins s σ H x vs v us Q I rx rv h
 obtain⟨l,xs,y,rfl,rfl,hH,hz,q⟩:=h
 cases rx
 obtain⟨u,rfl,ru⟩:=rv.one
 obtain⟨z,its,n,r,hl,e⟩:=I.lstM hH
 refine call_meets JG ⟨_,e,rfl⟩ F.entry_list_append (F.args_list_append_2 _ _) (PySem.list_append l its.toArray n u (by rw[zj];lia)) ⟨e,?_⟩
 refine⟨.non,_,I.lset (its':=its++[u]) hH e (by simp) (r.append (.cons ru .nil)) ?_,rfl,q⟩
 rw[zM,jS]
 lia
def fN4:V->List V->Hp->VK->Prop:=λx vs H Q=>∃l xs y,x= .ref l/\vs= []/\H l=some (.lst xs)/\xs[xs.length-1]? =some y/\Q y (upd H l (.lst xs.dropLast))
theorem eN5:MtM X "list.pop" fN4:=by
 intro pins s σ H x vs v us Q I rx rv h
 obtain⟨l,xs,y,rfl,rfl,hH,hy,q⟩:=h
 cases rx
 have hus:=rv.zero
 subst hus
 obtain⟨z,its,n,r,hl,e⟩:=I.lstM hH
 obtain⟨u,hu,ru⟩:=r.get hy
 have hy':its.toArray[its.toArray.size-1]? =some u:=by
  show its.toArray[its.length-1]? =some u
  rw[<-jq,<-hl]
  exact hu
 refine call_meets F.slot_list_pop ⟨_,e,rfl⟩ F.entry_list_pop (F.args_list_pop_1 _) (MeetsSeq.list_pop_last l its.toArray n u hy' (by rw[zj];lia)) ⟨e,?_⟩
 refine⟨y,_,I.lset (its':=its.dropLast) hH e ?_ r.dropLast ?_,ru,q⟩
 · show its.toArray.eraseIdxIfInBounds (its.toArray.size-1)=its.dropLast.toArray
   rw[zj,List.eraseIdxIfInBounds_toArray,cM6]
 · rw[List.length_dropLast]
   lia
def fO8:R2:=λx y H Q=>∃l b xs zs,x= .ref l/\y= .ref b/\H l=some (.lst xs)/\H b=some (.lst zs)/\xs.length+zs.length<=zl/\∀p,H p=none->Q (.ref p) (upd H p (.lst (xs++zs)))
theorem eR0:OpR X (ya .Add) fO8:=by
 intro pins s σ H x y v u Q I rx ry h
 obtain⟨l,b,xs,zs,rfl,rfl,hH,hB,hz,q⟩:=h
 cases rx
 cases ry
 obtain⟨z,its,n,r,hl,e⟩:=I.lstM hH
 obtain⟨z2,its2,n2,r2,hl2,e2⟩:=I.lstM hB
 refine PySem.P.add_list e e2 ?_ (by rw[zj,zj];lia)
 have ea:its.toArray++its2.toArray= (its++its2).toArray:=by simp
 rw[ea]
 exact⟨.ref _,_,I.lnew (t':=s.toks) (r.append r2) (by rw[zM];lia),rfl,q _ I.fresh⟩
end
section
end
section
end
end L2
namespace Att
open PySem PySem.W PySem.Calls PyProof.Rows
theorem bH4{P:Params}{h:Heap}:∀(ns:List Int) (vs:List zg),WellAll P h vs (ns.map WData.int)->IntsAre vs ns:=by
 intro ns
 induction ns with
 |nil=>
   intro vs w
   rw[Zn]at w
   cases w
   exact .nil
 |cons n ns ih=>
   intro vs w
   rw[zB]at w
   cases w with
   |cons a b=>
     cases a
     exact .cons _ _ (ih _ b)
theorem dE9{l:OpenLaw}{n:Nat}(hn:l.most=some n){P:Params}{h:Heap}{args:List WData}{vals:List zg}
 (hpre:l.row.toRowW.claim.pre args=true) (hwl:WellAll P h vals args):
 ∃a vs ns,vals= [Value.ref a]/\args= [WData.list (ns.map WData.int)]/\h.get? a=some {cls:=.type "list",data:=.seq vs.toArray}/\IntsAre vs ns/\ns.length<=n:=by
 have hsh:WShape.hasAll [] args [.list .int]=true:=(pre_splitW hpre).1
 have hc:l.pre.holds [] {args:=args}=true:=(pre_splitW hpre).2
 obtain⟨d,r,rfl,h1,h2⟩:=hasAllW_cons hsh
 obtain rfl:=hasAllW_nil h2
 obtain⟨xs,rfl,h3⟩:=hasW_list h1
 obtain⟨ns,rfl⟩:=items_int h3
 have hlen:ns.length<=n:=by
  unfold OpenLaw.pre at hc
  have h4:(WTm.not (.lt (.lit (.int (n:Int))) (.len (.arg 0)))).holds [] {args:= [.list (ns.map .int)]}=true:=by
   have h4:=(holds_andW hc).1
   rw[hn]at h4
   exact h4
  have h5:=condW_of h4 (w_not (w_lt w_lit (w_len_list (w_arg rfl))))
  rw[ze]at h5
  refine Nat.le_of_not_lt λq=>?_
  have q':(n:Int)<((ns.length:Nat):Int):=by lia
  first
   |(rw[decide_eq_true q']at h5;exact absurd h5 (by decide))
   |(simp at h5;lia)
 cases hwl with
 |cons w1 w2=>
   cases w2
   cases w1 with
   |list ho hall=>exact⟨_,_,ns,rfl,rfl,ho,bH4 ns _ hall,hlen⟩
theorem dB5(l:OpenLaw)(args:List WData):l.row.toRowW.claim.post args (.bool true) args=true:=
 postW_of (r:=l.row.toRowW) (X:=(true==true))
  (show WShape.has [] (.bool true) .bool=true by first|rfl|decide|simp[WShape.has,WShape.arms,WShape.armsAll])
  (show (WTm.eq .res (.lit (.bool true))).value [] {args:=args,res:=some (.bool true),after:=args}=some (.bool (true==true))from w_eq_bool (w_res rfl) w_lit) rfl
theorem attach_call{l:OpenLaw}{n:Nat}{q:zT}{loose:List Str}{XP:(Str->Option zg)->Heap->Prop}{YP:jg->Heap->Prop}{d:DefRec}
 (hn:l.most=some n) (hdf:d.params.defaults= [])
 (call:∀(w:jg) (WX X0:zm) (mg mb:Str->Option zg) (fa:Addr) (o:Obj) (pm cd doc:zg) (a:Addr) (vs:List zg) (ns:List Int),
   Ground q loose [] XP w WX mg mb X0.heap->YP w X0.heap->
   X0.heap.get? fa=some o->o.data= .func (docDef d.name d.params d.body d.scope pm cd doc)->X0.heap.CodeRec cd d.name->mg d.name=some (.ref fa)->
   X0.heap.get? a=some {cls:=.type "list",data:=.seq vs.toArray}->IntsAre vs ns->ns.length<=n->X0.gens= #[]->
   xQ (zz l.prog w) YW (.call (.ref fa) ⟨[.ref a], []⟩) (λr s'=>r= .ok (.ret (.bool true))/\OldK X0.heap s'.heap/\s'.os=X0.os/\Xa s'.gens) X0):
 WalkO q loose XP YP l.row.toRowW d [] (λf vs=>PySem.call f vs):=by
 intro w WX X0 mg mb G Y fa o pm cd doc dV kV ho hd hcd hD hmg hg args vals as hpre hlay hrd hwl hlo
 obtain rfl:dV= .none:=Dflts.none hD hdf
 obtain rfl:kV= .none:=Dflts.noKw hD
 obtain⟨a,vs,ns,rfl,rfl,hobj,hints,hlen⟩:=dE9 hn hpre hwl
 refine enter_call (Zw (call w WX X0 mg mb fa o pm cd doc a vs ns G Y ho (fd_plain hd) hcd hmg hobj hints hlen hg) λr s' hq=>?_)
 obtain⟨rfl,h2,h3,h4⟩:=hq
 exact⟨.inl ⟨.bool true,.bool true, [],rfl,λ_=>rfl,.bool true,dB5 l _,λ_=>⟨List.Pairwise.nil,λ_ hm=>(nomatch hm)⟩⟩,h2,h3,h4⟩
section
variable{prog:zT}{w:jg}{A:ji}{s:zm}{K:Frag}
end
end Att
namespace L2
open PySem PySem.Spec PyProof.Rows
theorem bS3:∀ {vs:List zg} {ns:List Int},IntsAre vs ns->v6 (ns.map V.int) vs
 |_,_,.nil=>.nil
 |_,_,.cons n t h=>.cons ⟨t,rfl⟩ (bS3 h)
noncomputable def eG6(H:Hp):Prop:=∀b,H b=none\/∃o xs,H b=some (.frz o (.lst xs))
theorem dQ7{P:zT}{w:jg}{K:zi}{mg mb:Str->Option zg}{CX:CXT}{k:Nat}{fa a:Addr}{fd:yM}{x:Str}{sp:Sp}{X0:zm}{vs:List zg}{ns:List Int}
 (KX:K.In X0.heap) (hns:X0.heap.Ns jv mg) (hb:X0.heap.Ns builtinsNs mb) (hbb:∀x:Str,x≠ "__name__"->mb x=ja x) (hlim:X0.heap.NoLimit) (hg:X0.gens= #[])
 (ha:X0.heap.get? a=some {cls:=.type "list",data:=.seq vs.toArray}) (hi:IntsAre vs ns) (hl:ns.length<=zl) (hr:V7 k YW)
 (F:∀base:Heap,K.In base->base.Ns jv mg->aN4 P w K mg base CX k fa fd [x] sp) (hbind:∀(s:zm) (u:zg),Yy s fd ⟨[u], []⟩ [(x,u)])
 (hsp:∀H:Hp,eG6 H->SqL K H a (ns.map V.int)->sp [.ref a] H (λv _=>v= .bl true) λ_ _ _=>False)
 (hCX:∀H e s',CX [] H X0 (λ_ _ _=>False) e s'->False):
 xQ (zz P w) YW (.call (.ref fa) ⟨[.ref a], []⟩) (λr s'=>r= .ok (.ret (.bool true))/\OldK X0.heap s'.heap/\s'.os=X0.os/\Xa s'.gens) X0:=by
 have rv:=bS3 hi
 have lenV:=hi.length
 -- from an abstract heap in which nothing but the script may be tracked
 have core:∀H:Hp,eG6 H->SqL K H a (ns.map V.int)->HOk P w H X0.heap->(∀b,H b≠none->b=a)->(H a≠none->K.lookup a=none)->
  xQ (zz P w) YW (.call (.ref fa) ⟨[.ref a], []⟩) (λr s'=>r= .ok (.ret (.bool true))/\OldK X0.heap s'.heap/\s'.os=X0.os/\Xa s'.gens) X0:=by
  intro H hO hS hok hA hK
  have base_of:∀ {b:Addr} {o:Obj},X0.heap.get? b=some o->H b=none->(cA7 X0.heap H).get? b=some o:=λe n=>dK5 e n
  have noA:∀ {b:Addr} {o:Obj} {es:Array DictEntry} {ep:Nat},X0.heap.get? b=some o->o.data= .dict es ep->H b=none:=λ{b o es ep} e d=>by
   cases q:H b with
   |none=>rfl
   |some u=>
     have e':b=a:=hA b (by rw[q];simp)
     subst e'
     rw[ha]at e;cases e
     have d':Data.seq vs.toArray _=Data.dict es ep:=d
     cases d'
  have nsK:∀ {b:Addr} {m:Str->Option zg},X0.heap.Ns b m->(cA7 X0.heap H).Ns b m:=λ{b m} ⟨o,es,ep,e,d,r⟩=>⟨o,es,ep,base_of e (noA e d),d,r⟩
  have hKb:K.In (cA7 X0.heap H):=λb o e=>base_of (KX b o e) (by
   cases q:H b with
   |none=>rfl
   |some u=>
     have e':b=a:=hA b (by rw[q];simp)
     subst e'
     rw[hK (by rw[q];simp)]at e;cases e)
  have hM:Mod K mg (cA7 X0.heap H):=⟨hKb,nsK hns,⟨mb,nsK hb,hbb⟩,let ⟨mc,h1,h2⟩:=hlim;⟨mc,nsK h1,h2⟩⟩
  have e0:eG0 P w K mg (cA7 X0.heap H) YW [] X0 H:=⟨rfl,hM,λb o e=>eH4 e,xA (dC9 _ _),trivial,λb hb=>absurd (show b∈([]:List Addr)from hb) (by simp),hok,.of_eq hg⟩
  refine Zw ((F _ hKb (nsK hns)).run YW [] X0 H ⟨[.ref a], []⟩ [.ref a] [.ref a] _ _ hr e0 (hbind X0 (.ref a)) (.cons rfl .nil) (hsp H hO hS)) λr s' h=>?_
  cases r with
  |error e=>exact(hCX H e s' h).elim
  |ok fl=>
    cases fl with
    |next=>exact yV h
    |brk=>exact yV h
    |cont=>exact yV h
    |ret u=>
      obtain⟨v,H',os,bare,un,hok',r',q⟩:=h
      have q':v= .bl true:=q
      subst q'
      obtain rfl:u=Value.bool true:=r'
      refine⟨rfl,OldK.of_keep λb o e=>?_,os,bare⟩
      cases q:H b with
      |none=>exact un.keep b o e q (by intro z;exact absurd (show b∈([]:List Addr)from z) (by simp)) (by simp)
      |some u=>
        rcases hO b with z|⟨ob,xs,z⟩
        ·rw[q]at z;cases z
        · have z2:=un.frzs b ob _ z
          obtain⟨e1,_⟩:=hok b _ z
          obtain⟨e2,_⟩:=hok' b _ z2
          rw[e]at e1;cases e1
          exact e2
 cases hk:K.lookup a with
 |some o=>
   -- the script is one of the module's own objects
   have e:=KX a o hk
   rw[ha]at e
   cases e
   refine core (λ_=>none) (λ_=>.inl rfl) (.inr ⟨_,vs.toArray,_,hk,rfl,rfl,rfl,by rw[zj,lenV];exact hl,by simpa using rv⟩) (λb u z=>by have z':(none:Option HO)=some u:=z;cases z') (λb z=>absurd rfl z) λz=>absurd rfl z
 |none=>
   refine core (λb=>if b=a then some (.frz {cls:=.type "list",data:=.seq vs.toArray} (.lst (ns.map V.int)))else none) (λb=>?_) (.inl (.inr ⟨{cls:=.type "list",data:=.seq vs.toArray},if_pos rfl⟩)) (λb u z=>?_) (λb z=>?_) λ_=>hk
   · by_cases hb:b=a
     ·exact .inr ⟨_,_,if_pos hb⟩
     ·exact .inl (if_neg hb)
   · by_cases hb:b=a
     · have z':=(if_pos hb).symm.trans z
       cases z'
       subst hb
       exact⟨ha,by rw[ze];exact hl,vs,_,rv,ha⟩
     · have z':=(if_neg hb).symm.trans z
       cases z'
   · by_cases hb:b=a
     ·exact hb
     ·exact absurd (if_neg hb) z
theorem walk_of{l:PySem.W.OpenLaw}{n k:Nat}{q:zT}{loose:List Str}{XP:(Str->Option zg)->Heap->Prop}{YP:jg->Heap->Prop}{d:DefRec}{K:Params->zi}{CX:jg->CXT}{sp:jg->Sp}{x:Str}
 (hn:l.most=some n) (hn2:n<=zl) (hdf:d.params.defaults= []) (hr:V7 k YW)
 (hY:∀(w:jg) (h:Heap),YP w h->(K w.params).In h)
 (F:∀(w:jg) (mg:Str->Option zg) (fa:Addr) (h:Heap),(K w.params).In h->h.Ns jv mg->mg d.name=some (.ref fa)->
   ∃fd:yM,(∀(s:zm) (u:zg),Yy s fd ⟨[u], []⟩ [(x,u)])/\
    ∀base:Heap,(K w.params).In base->base.Ns jv mg->aN4 l.prog w (K w.params) mg base (CX w) k fa fd [x] (sp w))
 (hsp:∀(w:jg) (H:Hp) (a:Addr) (ns:List Int),ns.length<=n->eG6 H->SqL (K w.params) H a (ns.map V.int)->sp w [.ref a] H (λv _=>v= .bl true) λ_ _ _=>False)
 (hCX:∀(w:jg) (H:Hp) (s:zm) (e:zg) (s':zm),CX w [] H s (λ_ _ _=>False) e s'->False):
 PySem.W.WalkO q loose XP YP l.row.toRowW d [] (λf vs=>PySem.call f vs):=by
 refine Att.attach_call hn hdf λw WX X0 mg mb fa o pm cd doc a vs ns G Y ho hd hcd hmg hobj hints hlen hg=>?_
 have KX:=hY w _ Y
 obtain⟨fd,hb,hF⟩:=F w mg fa _ KX G.T.g hmg
 exact dQ7 KX G.T.g G.T.b G.T.builtins G.T.nolimit hg hobj hints (zC hlen hn2) hr hF hb (λH hO hS=>hsp w H a ns hlen hO hS) λH e s'=>hCX w H X0 e s'
noncomputable def aL8(s:Stmt):Arguments:=match s with
 | .FunctionDef _ a _ _ _ _ _ _ _ _=>a
 |_=>{posonlyargs:= [],args:= [],vararg:=none,kwonlyargs:= [],kw_defaults:= [],kwarg:=none,defaults:= []}
noncomputable def aB9(s:Stmt):List Stmt:=match s with
 | .FunctionDef _ _ b _ _ _ _ _ _ _=>b
 |_=> []
noncomputable def M6(s:Stmt):Scope:=match s with
 | .FunctionDef _ _ _ _ _ _ sc _ _ _=>sc
 |_=>{kind:=.function,names:= [],isGenerator:=false,isCoroutine:=false}
noncomputable abbrev CX0:CXT:=λ_ _ _ _ _ _=>False
noncomputable abbrev E0:XK:=λ_ _ _=>False
theorem dO2{X:Cx}:cB0 CX0 X E0:=λ_ _ _ _ _ _ _ h=>h.elim
structure Fun(K:zi)(x qual:Str)(st:Stmt)(f:Addr)(fd:yM):Prop where
 ex:∃(oc:zg) (od:Option Addr) (kV doc pm:zg) (an:Option Addr) (cdv ct:zg) (osl:Array (Option zg)),
  fd=yo x qual (aL8 st) (aB9 st) (M6 st) .none kV doc pm an cdv ct/\K.lookup f=some ⟨oc,od,.func fd,osl⟩/\Zk K cdv qual=true
 kp:yh K (.ref f)=true
section
variable{P:zT}{w:jg}{K:zi}{mg:Str->Option zg}{base:Heap}
theorem Fun.ok{x qual:Str}{st:Stmt}{f:Addr}{fd:yM}{N ps:List Str}{k:Nat}{sp:Sp}(F:Fun K x qual st f fd)(S:aE3 N ps (M6 st))(len:∀vs H Q E,sp vs H Q E->vs.length=ps.length)
 (hbody:∀(cdv:zg) (A:ji) (outer:List Env) (s:zm) (H:Hp) (vs:List V) (Q:VK) (E:XK),V7 k (A.deeper (ZY qual (M6 st) s.heap.objs.size f cdv))->sp vs H Q E->
   ∃t,PSs (bQ6 CX0 P w K mg base N qual (M6 st) f cdv A outer s H E).nox (aB9 st) t/\t {nx:=λ_ H'=>Q .non H',rt:=Q} (start N vs) H):aN4 P w K mg base CX0 (k+1) f fd ps sp:=by
 obtain⟨oc,od,kV,doc,pm,an,cdv,ct,osl,rfl,lk,hcd⟩:=F.ex
 refine fK9 lk hcd S len λA outer s H vs Q E hr hsp=>?_
 obtain⟨t,h,q⟩:=hbody cdv A outer s H vs Q E hr hsp
 exact⟨t,h.nox,q⟩
theorem Fun.binds{x qual:Str}{st:Stmt}{f:Addr}{fd:yM}{ps:List Str}(F:Fun K x qual st f fd)
 (h:∀(kV doc pm:zg) (an:Option Addr) (cdv ct:zg) (us:List zg),us.length=ps.length->bindArgs (yo x qual (aL8 st) (aB9 st) (M6 st) .none kV doc pm an cdv ct) ⟨us, []⟩=pure (ps.zip us)):aT1 K fd ps []:=by
 obtain⟨oc,od,kV,doc,pm,an,cdv,ct,osl,rfl,lk,hcd⟩:=F.ex
 exact .all (h kV doc pm an cdv ct)
theorem bZ1{x qual:Str}{st:Stmt}{f:Addr}{oc:zg}{od an:Option Addr}{osl:Array (Option zg)}{kV doc pm cdv ct:zg}(l:K.lookup f=some ⟨oc,od,.func (yo x qual (aL8 st) (aB9 st) (M6 st) .none kV doc pm an cdv ct),osl⟩)
 (c:Zk K cdv qual=true) (k:yh K (.ref f)=true):Fun K x qual st f (yo x qual (aL8 st) (aB9 st) (M6 st) .none kV doc pm an cdv ct):=⟨⟨oc,od,kV,doc,pm,an,cdv,ct,osl,rfl,l,c⟩,k⟩
end
section
end
section
variable[DecidableEq κ]
noncomputable def aW9(kvs:List (κ×V))(k:κ):Option V:=(kvs.find? λkv=>decide (kv.1=k)).map (·.2)
noncomputable def aT2(kvs:List (κ×V))(k:κ)(v:V):List (κ×V):=
 if (kvs.any λkv=>decide (kv.1=k))=true then kvs.map (λkv=>if kv.1=k then (kv.1,v)else kv)else kvs++[(k,v)]
theorem bA0{k:κ}(e:p.1=k):aW9 (p::r) k=some p.2:=by simp[aW9,yD,e]
theorem bB1{k:κ}(e:¬p.1=k):aW9 (p::r) k=aW9 r k:=by simp[aW9,yD,e]
theorem cI8(k:κ):∀kvs:List (κ×V),(kvs.any λkv=>decide (kv.1=k))= (aW9 kvs k).isSome
 |[]=>rfl
 |p::r=>by
   rw[yb]
   by_cases e:p.1=k
   ·simp only[bA0 e,decide_eq_true e,Bool.true_or,Option.isSome_some]
   ·rw[bB1 e,decide_eq_false e,Jn];exact cI8 k r
theorem bG4(kvs:List (κ×V))(k:κ)(v:V):(aT2 kvs k v).length<=kvs.length+1:=by
 unfold aT2
 split
 ·rw[ze];lia
 ·rw[zM,zD,yn];lia
theorem cH2.isSome_eq(r:cH2 o u):o.isSome=u.isSome:=by
 cases o with
 |none=>cases u with
   |none=>rfl
   |some _=>exact(show False from r).elim
 |some _=>cases u with
   |none=>exact(show False from r).elim
   |some _=>rfl
theorem cH2.getD(r:cH2 o u)(rd:J9 d d'):J9 (o.getD d) (u.getD d'):=by
 cases o with
 |none=>cases u with
   |none=>exact rd
   |some _=>exact(show False from r).elim
 |some _=>cases u with
   |none=>exact(show False from r).elim
   |some _=>exact r
theorem KV.val(r:KV kvs vs)(k:κ):cH2 (aW9 kvs k) (Ju vs k):=by
 unfold KV at r
 induction r with
 |nil=>exact True.intro
 |@cons p q ps qs h t ih=>
   obtain⟨h1,h2⟩:=h
   by_cases e:p.1=k
   · have e':q.1=k:=h1.symm.trans e
     have b:Ju (q::qs) k=some q.2:=by simp[Ju,yD,e']
     rw[bA0 e,b];exact h2
   · have e':¬q.1=k:=λz=>e (h1.trans z)
     have b:Ju (q::qs) k=Ju qs k:=by simp[Ju,yD,e']
     rw[bB1 e,b];exact ih
theorem KV.any(r:KV kvs vs)(k:κ):(kvs.any λkv=>decide (kv.1=k))=vs.any λkv=>decide (kv.1=k):=by
 unfold KV at r
 induction r with
 |nil=>rfl
 |cons h t ih=>rw[yb,yb,ih,h.1]
theorem KV.repl(r:KV kvs vs)(k:κ)(ry:J9 y u):
 KV (kvs.map λkv=>if kv.1=k then (kv.1,y)else kv) (vs.map λkv=>if kv.1=k then (kv.1,u)else kv):=by
 unfold KV at r ⊢
 induction r with
 |nil=>exact .nil
 |@cons p q ps qs h t ih=>
   rw[zB,zB]
   refine .cons ?_ ih
   obtain⟨h1,h2⟩:=h
   by_cases e:p.1=k
   ·rw[if_pos e,if_pos (h1.symm.trans e)];exact⟨h1,ry⟩
   ·rw[if_neg e,if_neg (λz=>e (h1.trans z))];exact⟨h1,h2⟩
theorem KV.put(r:KV kvs vs)(k:κ)(ry:J9 y u):KV (aT2 kvs k y) (stored vs k u):=by
 unfold aT2 stored
 rw[r.any k]
 by_cases e:(vs.any λkv=>decide (kv.1=k))=true
 ·rw[if_pos e,if_pos e];exact r.repl k ry
 ·rw[if_neg e,if_neg e];exact Paired.snoc r ⟨rfl,ry⟩
theorem KV.length(r:KV kvs vs):kvs.length=vs.length:=yX r
end
theorem bT9(r:J9 (kV k) u):(O4 P w).is k u=true:=by
 cases k with
 |inl i=>obtain⟨t,e⟩:=(show ∃t,u=Value.int i t from r);subst e;exact cI7 P w i t
 |inr x=>obtain⟨t,e⟩:=(show ∃t,u=Value.str x t from r);subst e;exact cH3 P w x t
theorem bV2:∀ {ks} {us},v6 (ks.map kV) us->ItemsAre (O4 P w) ks us
 |[],_,r=>by rw[Zn]at r;cases r;exact .nil
 |k::ks,_,r=>by
   rw[zB]at r
   cases r with
   |cons h t=>exact .cons (bT9 h) (bV2 t)
abbrev KT(H:Hp):List (List Key×V)->List (List Key×Addr×zg)->Prop:=Paired λp q=>p.1=q.1/\H q.2.1=some (.tup (p.1.map kV))/\J9 p.2 q.2.2
theorem KT.val{H:Hp}(r:KT H kvs xs)(k:List Key):cH2 (aW9 kvs k) ((atKey xs k).map (·.2)):=by
 induction r with
 |nil=>exact True.intro
 |@cons p q ps qs h t ih=>
   obtain⟨h1,_,h2⟩:=h
   by_cases e:p.1=k
   · have e':q.1=k:=h1.symm.trans e
     have b:atKey (q::qs) k=some q.2:=by simp[atKey,yD,e']
     rw[bA0 e,b];exact h2
   · have e':¬q.1=k:=λz=>e (h1.trans z)
     have b:atKey (q::qs) k=atKey qs k:=by simp[atKey,yD,e']
     rw[bB1 e,b];exact ih
theorem KT.repl(r:KT H kvs xs)(k:List Key)(ry:J9 y u):
 KT H (kvs.map λkv=>if kv.1=k then (kv.1,y)else kv) (xs.map (putAt k u)):=by
 induction r with
 |nil=>exact .nil
 |@cons p q ps qs h t ih=>
   rw[zB,zB]
   refine .cons ?_ ih
   obtain⟨h1,h2,h3⟩:=h
   unfold putAt
   by_cases e:p.1=k
   ·rw[if_pos e,if_pos (h1.symm.trans e)];exact⟨h1,h2,ry⟩
   ·rw[if_neg e,if_neg (λz=>e (h1.trans z))];exact⟨h1,h2,h3⟩
theorem KT.put(r:KT H kvs xs)(k:List Key)(hb:H b=some (.tup (k.map kV)))(ry:J9 y u):
 KT H (aT2 kvs k y) (storedH xs k b u):=by
 have e:(kvs.any λkv=>decide (kv.1=k))= (atKey xs k).isSome:=by
  rw[cI8,(r.val k).isSome_eq,Zv]
 unfold aT2 storedH
 rw[e]
 by_cases q:(atKey xs k).isSome=true
 ·rw[if_pos q,if_pos q];exact r.repl k ry
 ·rw[if_neg q,if_neg q];exact Paired.snoc r ⟨rfl,hb,ry⟩
theorem KT.keeps(r:KT H kvs xs)(ht:∀b ys,H b=some (.tup ys)->H' b=some (.tup ys)):KT H' kvs xs:=
 Paired.mapP r λ_ _ z=>⟨z.1,ht _ _ z.2.1,z.2.2⟩
section
theorem dL5(ok:HOk P w H h)(e:Rd H a u):W2 P w H h a u:=e.ok ok
theorem cG2(ok:HOk P w H h)(e:Rd H a (.dK kvs)):kvs.length<=zl/\(a==yP)=false/\∃vs,KV kvs vs/\h.DictOf (O4 P w) a vs:=
 show W2 P w H h a (.dK kvs)from dL5 ok e
theorem cE3(ok:HOk P w H h)(e:H a=some (.dK kvs)):kvs.length<=zl/\(a==yP)=false/\∃vs,KV kvs vs/\h.DictOf (O4 P w) a vs:=cG2 ok (.inl e)
theorem bL3(ok:HOk P w H h)(e:H a=some (.tup (ks.map kV))):(YT (O4 P w)).is h ks a:=by
 obtain⟨_,its,r,o,h1,h2,n,h3⟩:=(show W2 P w H h a (.tup (ks.map kV))from ok a _ e)
 exact⟨o,its.toArray,n,h1,h2,(yp h3).1,by simpa using bV2 r⟩
theorem cW7(ok:HOk P w H h)(e:Rd H a (.dT kvs)):kvs.length<=zl/\(a==yP)=false/\
 ∃xs,KT H kvs xs/\h.DictOfH (YT (O4 P w)) a xs:=by
 obtain⟨z,y,xs,r,o,es,ep,h1,h2,h3,h4,h5⟩:=(show W2 P w H h a (.dT kvs)from dL5 ok e)
 refine⟨z,y,xs,r,o,es,ep,h1,h2,h3,h4,λx hx=>?_,h5⟩
 have all:∀ {l:List (List Key×V)} {m:List (List Key×Addr×zg)},KT H l m->∀x∈m,(YT (O4 P w)).is h x.1 x.2.1:=by
  intro l m q
  induction q with
  |nil=>intro x hx;exact nomatch hx
  |@cons p q ps qs hq t ih=>
    intro x hx
    rcases zu.mp hx with e|hx
    · subst e
      exact bL3 ok (by rw[<-hq.1];exact hq.2.1)
    ·exact ih x hx
 exact all r x hx
theorem fH5(ok:HOk P w H h)(e:H a=some (.dT kvs)):kvs.length<=zl/\(a==yP)=false/\
 ∃xs,KT H kvs xs/\h.DictOfH (YT (O4 P w)) a xs:=cW7 ok (.inl e)
end
def cJ5(H:Hp)(a:Addr)(y:V)(r:Option V):Prop:=
 (∃kvs k,Rd H a (.dK kvs)/\y=kV k/\r=aW9 kvs k)\/∃kvs k b,Rd H a (.dT kvs)/\y= .ref b/\H b=some (.tup (k.map kV))/\r=aW9 kvs k
def dZ9(H:Hp)(a:Addr)(y v:V)(H':Hp):Prop:=
 (∃kvs k,H a=some (.dK kvs)/\y=kV k/\kvs.length<zl/\H'=upd H a (.dK (aT2 kvs k v)))\/
 ∃kvs k b,H a=some (.dT kvs)/\y= .ref b/\H b=some (.tup (k.map kV))/\kvs.length<zl/\H'=upd H a (.dT (aT2 kvs k v))
theorem cJ5.k{k:Key}(e:H a=some (.dK kvs)):cJ5 H a (kV k) (aW9 kvs k):=.inl ⟨kvs,k,.inl e,rfl,rfl⟩
theorem dZ9.k{k:Key}(e:H a=some (.dK kvs))(hl:kvs.length<zl):dZ9 H a (kV k) v (upd H a (.dK (aT2 kvs k v))):=.inl ⟨kvs,k,e,rfl,hl,rfl⟩
section
theorem Inv.big(I:Inv X pins σ H s):yP<s.heap.objs.size:=by
 have h:jv<s.heap.objs.size:=(I.mod.glob.keeps I.bk).lt
 exact xU (by decide) h
theorem fQ8(hu:A.units+1<yC)(I:Inv X pins σ H s)(g:cJ5 H a y o)(ry:J9 y u)(h:∀s',Inv X pins σ H s'->Q (.bool o.isSome) s'):
 zt (zz X.prog X.w) A (zR .In u (.ref a)) Q E s:=by
 rcases g with⟨kvs,k,e,ey,l⟩|⟨kvs,k,b,e,ey,eb,l⟩
 · subst ey
   obtain⟨z,hd,vs,rel,dd⟩:=cG2 I.hok e
   refine wpAny_in_of (bT9 ry) hd dd.mapOf ?_
   rw[<-(rel.val k).isSome_eq,<-l]
   exact h _ (I.tok _)
 · subst ey
   cases (show u=Value.ref b from ry)
   obtain⟨z,hd,xs,rel,dd⟩:=cW7 I.hok e
   refine wpAny_in_heap (ZB hu) (bL3 I.hok eb) hd dd ?_
   have q:=(rel.val k).isSome_eq
   rw[Zv]at q
   rw[<-q,<-l]
   exact h _ (I.tok _)
theorem dX5(hu:A.units+1<yC)(I:Inv X pins σ H s)(g:cJ5 H a y o)(ry:J9 y u)(h:∀s',Inv X pins σ H s'->Q (.bool (!o.isSome)) s'):
 zt (zz X.prog X.w) A (zR .NotIn u (.ref a)) Q E s:=by
 rcases g with⟨kvs,k,e,ey,l⟩|⟨kvs,k,b,e,ey,eb,l⟩
 · subst ey
   obtain⟨z,hd,vs,rel,dd⟩:=cG2 I.hok e
   refine wpAny_notIn_of (bT9 ry) hd dd.mapOf ?_
   rw[<-(rel.val k).isSome_eq,<-l]
   exact h _ (I.tok _)
 · subst ey
   cases (show u=Value.ref b from ry)
   obtain⟨z,hd,xs,rel,dd⟩:=cW7 I.hok e
   refine wpAny_notIn_heap (ZB hu) (bL3 I.hok eb) hd dd ?_
   have q:=(rel.val k).isSome_eq
   rw[Zv]at q
   rw[<-q,<-l]
   exact h _ (I.tok _)
theorem cU3(I:Inv X pins σ H s)(mu:Mut (H a))(hs:jx a s.heap h')(he:∃q,h'.get? a=some q)(new:W2 X.prog X.w (upd H a ob) h' a ob):
 Inv X pins σ (upd H a ob) {s with heap:=h',toks:=t'}:=
 I.write mu (.inl rfl) (λb q hb z=>(hs.2 b hb).trans z) he new
theorem dJ4(z:kvs.length<=zl)(hd:(a==yP)=false)(rel:KV kvs vs)(dd:h'.DictOf (O4 P w) a vs):
 W2 P w H' h' a (.dK kvs):=⟨z,hd,vs,rel,dd⟩
theorem dB8(hu:A.units+1<yC)(I:Inv X pins σ H s)(g:dZ9 H a y v H')(ry:J9 y u)(rv:J9 v r)(h:∀s',Inv X pins σ H' s'->Q () s'):
 zt (zz X.prog X.w) A (setItem (.ref a) u r) Q E s:=by
 rcases g with⟨kvs,k,e,ey,l,eH⟩|⟨kvs,k,b,e,ey,eb,l,eH⟩
 · subst ey eH
   obtain⟨z,hd,vs,rel,dd⟩:=cE3 I.hok e
   have hz:vs.length<=zl:=by rw[<-rel.length];exact z
   have hl:(aT2 kvs k v).length<=zl:=by have:=bG4 kvs k v;lia
   refine wpAny_setItem_pairs (bT9 ry) dd λh' dd' hs=>h _ ?_
   have he:∃q,h'.get? a=some q:=let ⟨q,_,_,hq,_⟩:=dd';⟨q,hq⟩
   exact cU3 I (by rw[e];exact True.intro) hs he (dJ4 hl hd (rel.put k rv) dd')
 · subst ey eH
   cases (show u=Value.ref b from ry)
   obtain⟨z,hd,xs,rel,dd⟩:=fH5 I.hok e
   have hz:xs.length<=zl:=by rw[<-yX rel];exact z
   have hl:(aT2 kvs k v).length<=zl:=by have:=bG4 kvs k v;lia
   refine wpAny_setItem_heap (ZB hu) (bL3 I.hok eb) dd λh' dd' hs=>h _ ?_
   obtain⟨q,es,ep,hq,h2,h3,h4,_,h5⟩:=dd'
   refine cU3 I (by rw[e];exact True.intro) hs ⟨q,hq⟩ ⟨hl,hd,_,(rel.put k eb rv).keeps λc ys ec=>?_,q,es,ep,hq,h2,h3,h4,h5⟩
   rw[K3 (fF1 ec e (λz=>nomatch z))]
   exact ec
end
section
theorem fM7(I:Inv X pins σ H s)(e:Rd H a (.dK kvs))(h:∀t s',Inv X pins σ H s'->Q (.int kvs.length t) s'):zt (zz X.prog X.w) A (call (.builtin "len") [.ref a]) Q E s:=by
 obtain⟨z,hd,vs,rel,dd⟩:=cG2 I.hok e
 refine call_len_dict hd dd (by rw[<-rel.length];rw[yA]at z;lia) ?_
 rw[<-rel.length]
 exact h _ _ (I.tok _)
end
section
end
section
end
structure M1(X:Cx)(o:Expr)(m:Str)(apos:Pos)(e:Expr)(cpos:Pos):Prop where
 base:xn o m X.env (eval o X.env)=eval o X.env
 few:((yQ cpos (zK [e] X.env)).all (λx=> !x.1)&&(XD cpos (ZM [] X.env)).all (λx=>x.1.isSome)
  && decide (([e]:List Expr).length+([]:List Keyword).length+(if ([]:List Keyword).isEmpty then 0 else 1)<30))=true
 line:(apos.endLine==cpos.line)=true
 trees:yQ cpos (zK [e] X.env)= [(false,eval e X.env)]
structure M2(X:Cx)(o:Expr)(m:Str)(apos:Pos)(e f:Expr)(cpos:Pos):Prop where
 base:xn o m X.env (eval o X.env)=eval o X.env
 few:((yQ cpos (zK [e,f] X.env)).all (λx=> !x.1)&&(XD cpos (ZM [] X.env)).all (λx=>x.1.isSome)
  && decide (([e,f]:List Expr).length+([]:List Keyword).length+(if ([]:List Keyword).isEmpty then 0 else 1)<30))=true
 line:(apos.endLine==cpos.line)=true
 trees:yQ cpos (zK [e,f] X.env)= [(false,eval e X.env),(false,eval f X.env)]
section
theorem eL2(hu:A.units+1<yC)(I:Inv X pins σ H s)(g:cJ5 H a y o)(ry:J9 y u)(rd:J9 d r)(h:∀w' s',Inv X pins σ H s'->J9 (o.getD d) w'->Q w' s'):
 zt (zz X.prog X.w) A (call (.builtin "dict.get") [.ref a,u,r]) Q E s:=by
 rcases g with⟨kvs,k,e,ey,l⟩|⟨kvs,k,b,e,ey,eb,l⟩
 · subst ey
   obtain⟨z,hd,vs,rel,dd⟩:=cG2 I.hok e
   refine call_meetsIn ZL dd.typeIs Jj (XS _ _ _) (meets_dict_get_default (O4 X.prog X.w) a (bT9 ry) hd r) ⟨_,dd.mapOf,h _ _ (I.tok _) ?_⟩
   rw[l]
   exact(rel.val k).getD rd
 · subst ey
   cases (show u=Value.ref b from ry)
   obtain⟨z,hd,xs,rel,dd⟩:=cW7 I.hok e
   refine call_meetsIn ZL dd.typeIs Jj (XS _ _ _) (meetsH_dict_get_default (YT (O4 X.prog X.w)) a b hd r) ⟨ZB hu,k,xs,bL3 I.hok eb,dd,h _ _ (I.tok _) ?_⟩
   rw[l]
   exact(rel.val k).getD rd
end
section
end
section
end
section
end
section
theorem dD2:aD0 X (.builtin "len") (λxs H Q=>∃a kvs,xs= [V.ref a]/\H a=some (.dK kvs)/\Q (.int kvs.length) H):=by
 intro pins s σ H xs us Q I r h
 obtain⟨a,kvs,rfl,ha,q⟩:=h
 obtain⟨u,rfl,ru⟩:=aG1 r
 cases ru
 exact fM7 I (.inl ha) λt s' I'=>⟨.int kvs.length,H,I',⟨t,rfl⟩,q⟩
end
section
variable[DecidableEq κ]
end
end L2
namespace DL
open PySem PySem.Spec L2
open PyProof.Rows hiding St
inductive D where
 |non|bl (b:Bool)|int (i:Int)|str (x:Str)|tup (l:List D)|ref (i:Nat)|fn (x:Str)|ty (n:String)
inductive DO where
 |lst (l:List D)|rol (l:List D)|dct (l:List (Key×D))|rod (l:List (Key×D))
noncomputable abbrev DH:=List DO
abbrev DPP:=D->DH->Prop
noncomputable abbrev DSt:=List (Option D)
structure Wc where
 K:zi
 mg:Str->Option zg
noncomputable abbrev wc(X:Cx):Wc:=⟨X.K,X.mg⟩
mutual
noncomputable def d8(c:Wc)(μ:List Addr)(H:Hp):D->V->Prop
 | .non,v=>v= .non
 | .bl b,v=>v= .bl b
 | .int i,v=>v= .int i
 | .str x,v=>v= .str x
 | .ty n,v=>v= .ty n
 | .fn x,v=>∃a,c.mg x=some (.ref a)/\v= .ref a
 | .ref i,v=>∃a,μ[i]? =some a/\v= .ref a
 | .tup l,v=>∃a vs,v= .ref a/\SqT c.K H a vs/\t7 c μ H l vs
noncomputable def t7(c:Wc)(μ:List Addr)(H:Hp):List D->List V->Prop
 |[],vs=>vs= []
 |d::ds,vs=>∃v r,vs=v::r/\d8 c μ H d v/\t7 c μ H ds r
end
def aA8(c:Wc)(μ:List Addr)(H:Hp):List (Key×D)->List (Key×V)->Prop
 |[],kvs=>kvs= []
 |(k,d)::r,kvs=>∃v t,kvs= (k,v)::t/\d8 c μ H d v/\aA8 c μ H r t
structure Ext(μ:List Addr)(H:Hp)(X9:List Addr)(H':Hp):Prop where
 pre:μ <+:X9
 new:∀a∈X9,a∉μ->H a=none
 oth:∀b o,H b=some o->b∉μ->H' b=some o
 tup:∀b xs,H b=some (.tup xs)->H' b=some (.tup xs)
 frz:∀b o u,H b=some (.frz o u)->H' b=some (.frz o u)
theorem Ext.refl(μ:List Addr)(H:Hp):Ext μ H μ H:=⟨Xn _,λa h n=>absurd h n,λ_ _ h _=>h,λ_ _ h=>h,λ_ _ _ h=>h⟩
theorem Ext.trans(a:Ext μ H X1 H1)(b:Ext X1 H1 WZ H2):Ext μ H WZ H2 where
 pre:=a.pre.trans b.pre
 new:=λx h n=>by
  by_cases h1:x∈X1
  ·exact a.new x h1 n
  · have e1:=b.new x h h1
    rcases e:H x with _|o
    ·rfl
    ·rw[a.oth x o e n]at e1;exact eW8 e1
 oth:=λx o e n=>by
  refine b.oth x o (a.oth x o e n) λh1=>?_
  have:=a.new x h1 n
  rw[e]at this;exact eW8 this
 tup:=λx xs e=>b.tup x xs (a.tup x xs e)
 frz:=λx o u e=>b.frz x o u (a.frz x o u e)
theorem Ext.lay(h:H p=none)(o:HO):Ext μ H μ (upd H p o):=
 ⟨Xn _,λa h n=>absurd h n,λb o' q _=>by rw[K3 (M4 q h)];exact q,λb xs q=>by rw[K3 (M4 q h)];exact q,λb o' u q=>by rw[K3 (M4 q h)];exact q⟩
theorem Ext.add(h:H p=none)(o:HO):Ext μ H (μ++[p]) (upd H p o):=
 ⟨List.prefix_append _ _,λa ha n=>by
  rcases jc.mp ha with z|z
  ·exact absurd z n
  ·rw[zr.mp z];exact h,λb o' q _=>by rw[K3 (M4 q h)];exact q,λb xs q=>by rw[K3 (M4 q h)];exact q,λb o' u q=>by rw[K3 (M4 q h)];exact q⟩
theorem Ext.mut(hp:p∈μ)(h:H p=some o')(n1:∀xs,o'≠ .tup xs)(n2:∀o u,o'≠ .frz o u)(o:HO):Ext μ H μ (upd H p o):=
 ⟨Xn _,λa h n=>absurd h n,λb o2 q n=>by rw[K3 (λe=>n (by rw[e];exact hp))];exact q,λb xs q=>by
  rw[K3 (λe=>by subst e;rw[h]at q;cases q;exact n1 _ rfl)];exact q,
  λb oo u q=>by
   rw[K3 (λe=>by subst e;rw[h]at q;cases q;exact n2 _ _ rfl)];exact q⟩
theorem Ext.sqT{K:zi}(k:Ext μ H X9 H')(h:SqT K H a xs):SqT K H' a xs:=by
 rcases h with(h|⟨o,h⟩)|h
 ·exact .inl (.inl (k.tup _ _ h))
 ·exact .inl (.inr ⟨o,k.frz _ _ _ h⟩)
 ·exact .inr h
def RoL(K:zi)(H:Hp)(a:Addr)(xs:List V):Prop:=(∃o,H a=some (.frz o (.lst xs)))\/(SqL K (λ_=>none) a xs)
theorem dN4{K:zi}(h:SqL K (λ_=>none) a xs):SqL K H a xs:=by
 rcases h with(h|⟨o,h⟩)|h
 ·exact J6 h
 ·exact J6 h
 ·exact .inr h
theorem RoL.sq{K:zi}(h:RoL K H a xs):SqL K H a xs:=by
 rcases h with⟨o,h⟩|h
 ·exact .inl (.inr ⟨o,h⟩)
 ·exact dN4 h
theorem Ext.roL{K:zi}(k:Ext μ H X9 H')(h:RoL K H a xs):RoL K H' a xs:=by
 rcases h with⟨o,h⟩|h
 ·exact .inl ⟨o,k.frz _ _ _ h⟩
 ·exact .inr h
section
variable{μ X9:List Addr}
theorem cA6(h:μ <+:X9){i:Nat}(e:μ[i]? =some a):X9[i]? =some a:=by
 obtain⟨t,rfl⟩:=h
 have:i<μ.length:=by
  rcases xz i μ.length with q|q
  ·exact q
  ·rw[zN q]at e;exact J6 e
 rw[zJ this];exact e
mutual
theorem d8.mono(x:Ext μ H X9 H'):∀ {d} {v},d8 c μ H d v->d8 c X9 H' d v
 | .non,_,h=>h
 | .bl _,_,h=>h
 | .int _,_,h=>h
 | .str _,_,h=>h
 | .ty _,_,h=>h
 | .fn _,_,h=>h
 | .ref i,v,h=>by
   unfold d8 at h ⊢
   obtain⟨a,e,r⟩:=h
   exact⟨a,cA6 x.pre e,r⟩
 | .tup l,v,h=>by
   unfold d8 at h ⊢
   obtain⟨a,vs,e,q,r⟩:=h
   exact⟨a,vs,e,x.sqT q,t7.mono x r⟩
theorem t7.mono(x:Ext μ H X9 H'):∀ {l} {vs},t7 c μ H l vs->t7 c X9 H' l vs
 |[],_,h=>h
 |d::ds,vs,h=>by
   unfold t7 at h ⊢
   obtain⟨v,r,e,q,t⟩:=h
   exact⟨v,r,e,d8.mono x q,t7.mono x t⟩
end
theorem aA8.mono(x:Ext μ H X9 H'):∀ {l} {vs},aA8 c μ H l vs->aA8 c X9 H' l vs
 |[],_,h=>h
 |(_,d)::ds,vs,h=>by
  obtain⟨v,r,e,q,t⟩:=h
  exact⟨v,r,e,d8.mono x q,aA8.mono x t⟩
theorem t7.nil:t7 c μ H [] []:=rfl
theorem t7.cons(h:d8 c μ H d v)(t:t7 c μ H ds vs):t7 c μ H (d::ds) (v::vs):=⟨v,vs,rfl,h,t⟩
theorem t7.length:∀ {l} {vs},t7 c μ H l vs->l.length=vs.length
 |[],_,h=>by cases h;rfl
 |_::_,_,h=>by obtain⟨v,r,rfl,_,t⟩:=h;simp[t7.length t]
theorem t7.get:∀ {l} {vs} {i:Nat} {d},t7 c μ H l vs->l[i]? =some d->∃v,vs[i]? =some v/\d8 c μ H d v
 |[],_,_,_,_,e=>by simp at e
 |_::_,_,0,_,h,e=>by
   obtain⟨v,r,rfl,q,t⟩:=h
   simp at e;subst e
   exact⟨v,rfl,q⟩
 |_::_,_,i+1,_,h,e=>by
   obtain⟨v,r,rfl,q,t⟩:=h
   simp at e
   obtain⟨w,h1,h2⟩:=t7.get t e
   exact⟨w,by simpa using h1,h2⟩
theorem t7.append:∀ {l l'} {vs vs'},t7 c μ H l vs->t7 c μ H l' vs'->t7 c μ H (l++l') (vs++vs')
 |[],_,_,_,h,t=>by cases h;exact t
 |_::_,_,_,_,h,t=>by
   obtain⟨v,r,rfl,q,u⟩:=h
   exact⟨v,r++_,rfl,q,t7.append u t⟩
theorem t7.take:∀n {l} {vs},t7 c μ H l vs->t7 c μ H (l.take n) (vs.take n)
 |0,_,_,_=>rfl
 |_+1, [],_,h=>by cases h;rfl
 |n+1,_::_,_,h=>by
   obtain⟨v,r,rfl,q,u⟩:=h
   exact⟨v,r.take n,rfl,q,t7.take n u⟩
theorem t7.drop:∀n {l} {vs},t7 c μ H l vs->t7 c μ H (l.drop n) (vs.drop n)
 |0,_,_,h=>h
 |_+1, [],_,h=>by cases h;rfl
 |n+1,_::_,_,h=>by
   obtain⟨v,r,rfl,q,u⟩:=h
   exact t7.drop n u
theorem t7.set(hv:d8 c μ H d v):∀n {l} {vs},t7 c μ H l vs->t7 c μ H (l.set n d) (vs.set n v)
 |_, [],_,h=>by cases h;rfl
 |0,_::_,_,h=>by
   obtain⟨w,r,rfl,q,u⟩:=h
   exact⟨v,r,rfl,hv,u⟩
 |n+1,_::_,_,h=>by
   obtain⟨w,r,rfl,q,u⟩:=h
   exact⟨w,r.set n v,rfl,q,t7.set hv n u⟩
theorem t7.reverse:∀ {l} {vs},t7 c μ H l vs->t7 c μ H l.reverse vs.reverse
 |[],_,h=>by cases h;rfl
 |_::_,_,h=>by
   obtain⟨w,r,rfl,q,u⟩:=h
   simp only[Xb]
   exact t7.append (t7.reverse u) ⟨w, [],rfl,q,rfl⟩
theorem t7.dropLast(h:t7 c μ H l vs):t7 c μ H l.dropLast vs.dropLast:=by
 rw[JN,JN,h.length]
 exact h.take _
noncomputable def aQ4:Option DO->Prop
 |some (.rol _)=>True
 |some (.rod _)=>True
 |_=>False
def aP4(c:Wc)(μ:List Addr)(H:Hp)(a:Addr):DO->Prop
 | .lst l=>∃vs,H a=some (.lst vs)/\t7 c μ H l vs
 | .rol l=>∃vs,RoL c.K H a vs/\t7 c μ H l vs
 | .dct l=>∃kvs,H a=some (.dK kvs)/\aA8 c μ H l kvs
 | .rod l=>∃kvs o,H a=some (.frz o (.dK kvs))/\aA8 c μ H l kvs
structure u9(c:Wc)(μ:List Addr)(G:DH)(H:Hp):Prop where
 len:μ.length=G.length
 inj:∀(i j:Nat) (a:Addr),μ[i]? =some a->μ[j]? =some a->i=j\/aQ4 G[i]? \/aQ4 G[j]?
 obj:∀(i:Nat) (o:DO) (a:Addr),G[i]? =some o->μ[i]? =some a->aP4 c μ H a o
theorem lt_of_get{α:Type}{l:List α}{x:α}(e:l[i]? =some x):i<l.length:=by
 rcases xz i l.length with q|q
 ·exact q
 ·rw[zN q]at e;exact J6 e
theorem aP4.mono(x:Ext μ H X9 H')(h:aP4 c μ H a o)(e:H' a=H a\/aQ4 (some o)):aP4 c X9 H' a o:=by
 rcases o with l|l|l|l
 ·
   obtain⟨vs,q,r⟩:=h
   rcases e with e|e
   ·exact⟨vs,e.trans q,r.mono x⟩
   ·exact e.elim
 ·obtain⟨vs,q,r⟩:=h;exact⟨vs,x.roL q,r.mono x⟩
 ·
   obtain⟨vs,q,r⟩:=h
   rcases e with e|e
   ·exact⟨vs,e.trans q,r.mono x⟩
   ·exact e.elim
 ·obtain⟨vs,o,q,r⟩:=h;exact⟨vs,o,x.frz _ _ _ q,r.mono x⟩
theorem aP4.some_of(h:aP4 c μ H a o)(n:¬aQ4 (some o)):∃u,H a=some u/\(∀xs,u≠ .tup xs)/\∀o' u',u≠ .frz o' u':=by
 rcases o with l|l|l|l
 ·obtain⟨vs,q,_⟩:=h;exact⟨_,q,(λ_ z=>nomatch z),(λ_ _ z=>nomatch z)⟩
 ·exact(n trivial).elim
 ·obtain⟨vs,q,_⟩:=h;exact⟨_,q,(λ_ z=>nomatch z),(λ_ _ z=>nomatch z)⟩
 ·exact(n trivial).elim
theorem u9.same(h:u9 c μ G H)(k:Ext μ H μ H')(e:∀a o,H a=some o->(∀xs,o≠ .tup xs)->H' a=some o):u9 c μ G H':=
 ⟨h.len,h.inj,λi o a g m=>by
  have q:=h.obj i o a g m
  by_cases hr:aQ4 (some o)
  ·exact q.mono k (.inr hr)
  · obtain⟨u,e1,n1,n2⟩:=q.some_of hr
    exact q.mono k (.inl ((e a u e1 n1).trans e1.symm))⟩
theorem u9.new{p:Addr}(h:u9 c μ G H)(hp:H p=none)(ho:aP4 c (μ++[p]) (upd H p u) p o):u9 c (μ++[p]) (G++[o]) (upd H p u):=by
 have k:Ext μ H (μ++[p]) (upd H p u):=Ext.add hp u
 have old:∀(i:Nat) (a:Addr),i<μ.length->(μ++[p])[i]? =some a->μ[i]? =some a:=λi a hi e=>by
  rw[zJ hi]at e;exact e
 refine⟨by simp[h.len],λi j a ei ej=>?_,λi o' a g m=>?_⟩
 · have li:=lt_of_get ei
   have lj:=lt_of_get ej
   simp only[zM,jS]at li lj
   by_cases hi:i<μ.length
   · have mi:=old i a hi ei
     have gi:(G++[o])[i]? =G[i]? :=zJ (by rw[<-h.len];exact hi)
     by_cases hj:j<μ.length
     · have mj:=old j a hj ej
       have gj:(G++[o])[j]? =G[j]? :=zJ (by rw[<-h.len];exact hj)
       rw[gi,gj]
       exact h.inj i j a mi mj
     · -- j is the new one:a=p
       have ej':j=μ.length:=by lia
       subst ej'
       have ea:a=p:=by simpa using ej.symm
       subst ea
       right;left
       rw[gi]
       have hg:i<G.length:=by rw[<-h.len];exact hi
       have q:=h.obj i G[i] a (zf hg) mi
       rw[zf hg]
       refine zW λn=>?_
       obtain⟨u',e1,_⟩:=q.some_of n
       rw[hp]at e1;exact J6 e1
   · have ei':i=μ.length:=by lia
     by_cases hj:j<μ.length
     · have mj:=old j a hj ej
       have gj:(G++[o])[j]? =G[j]? :=zJ (by rw[<-h.len];exact hj)
       subst ei'
       have ea:a=p:=by simpa using ei.symm
       subst ea
       right;right
       rw[gj]
       have hg:j<G.length:=by rw[<-h.len];exact hj
       have q:=h.obj j G[j] a (zf hg) mj
       rw[zf hg]
       refine zW λn=>?_
       obtain⟨u',e1,_⟩:=q.some_of n
       rw[hp]at e1;exact J6 e1
     ·left;lia
 · have li:=lt_of_get m
   simp only[zM,jS]at li
   by_cases hi:i<μ.length
   · have mi:=old i a hi m
     rw[zJ (by rw[<-h.len];exact hi)]at g
     have q:=h.obj i o' a g mi
     by_cases hr:aQ4 (some o')
     ·exact q.mono k (.inr hr)
     · obtain⟨u',e1,_⟩:=q.some_of hr
       exact q.mono k (.inl (K3 (M4 e1 hp)))
   · have ei':i=μ.length:=by lia
     subst ei'
     have ea:a=p:=by simpa using m.symm
     subst ea
     rw[h.len]at g
     have eo:o'=o:=by simpa using g.symm
     subst eo
     exact ho
theorem u9.set{o o':DO}{u:HO}(h:u9 c μ G H)(g:G[i]? =some o)(n:¬aQ4 (some o))(m:μ[i]? =some a)(k:Ext μ H μ (upd H a u))(n':¬aQ4 (some o'))(ho:aP4 c μ (upd H a u) a o'):u9 c μ (G.set i o') (upd H a u):=by
 have hi:i<G.length:=lt_of_get g
 have get:∀j,(G.set i o')[j]? =if i=j then some o' else G[j]? :=λj=>by
  rw[Xc]
  by_cases e:i=j
  ·subst e;simp[hi]
  ·simp[e]
 refine⟨by simp[h.len],λj l b ej el=>?_,λj o2 b gj mj=>?_⟩
 · rcases h.inj j l b ej el with e|e|e
   ·exact .inl e
   · by_cases ij:i=j
     ·subst ij;rw[g]at e;exact(n e).elim
     ·right;left;rw[get,if_neg ij];exact e
   · by_cases ij:i=l
     ·subst ij;rw[g]at e;exact(n e).elim
     ·right;right;rw[get,if_neg ij];exact e
 · rw[get]at gj
   by_cases ij:i=j
   · subst ij
     rw[if_pos rfl]at gj
     cases gj
     rw[m]at mj
     cases mj
     exact ho
   · rw[if_neg ij]at gj
     have q:=h.obj j o2 b gj mj
     by_cases hr:aQ4 (some o2)
     ·exact q.mono k (.inr hr)
     · have nb:b≠a:=λe=>by
        subst e
        rcases h.inj i j b m mj with e|e|e
        ·exact ij e
        ·rw[g]at e;exact n e
        ·rw[gj]at e;exact hr e
       exact q.mono k (.inl (K3 nb))
def M5(c:Wc)(μ:List Addr)(H:Hp)(Z7:DSt)(σ:St):Prop:=Z7.length=σ.length/\∀(i:Nat) (d:D),Z7[i]? =some (some d)->∃v,σ[i]? =some (some v)/\d8 c μ H d v
theorem M5.mono(x:Ext μ H X9 H')(h:M5 c μ H Z7 σ):M5 c X9 H' Z7 σ:=
 ⟨h.1,λi d e=>let ⟨v,a,b⟩:=h.2 i d e;⟨v,a,b.mono x⟩⟩
theorem M5.put(h:M5 c μ H Z7 σ)(r:d8 c μ H d v)(i:Nat):M5 c μ H (Z7.set i (some d)) (σ.set i (some v)):=by
 refine⟨by simp[h.1],λj d' e=>?_⟩
 rw[Xc]at e ⊢
 by_cases ij:i=j
 · subst ij
   rw[if_pos rfl]at e ⊢
   rw[<-h.1]
   split at e
   · rename_i hl
     rw[if_pos hl]
     cases e
     exact⟨v,rfl,r⟩
   ·exact J6 e
 · rw[if_neg ij]at e ⊢
   exact h.2 j d' e
end
noncomputable def M(α:Type):=DH->Option (Except Str α×DH)
namespace M
noncomputable def pure{α:Type}(a:α):M α:=λG=>some (.ok a,G)
noncomputable def bind{α β:Type}(m:M α)(f:α->M β):M β:=λG=>match m G with
 |none=>none
 |some (.ok a,G1)=>f a G1
 |some (.error x,G1)=>some (.error x,G1)
noncomputable def stuck{α:Type}:M α:=λ_=>none
end M
noncomputable instance:Monad M:={pure:=M.pure,bind:=M.bind}
theorem M.bind_eq(m:M α)(f:α->M β)(G:DH):(m >>= f) G=match m G with
 |none=>none
 |some (.ok a,G1)=>f a G1
 |some (.error x,G1)=>some (.error x,G1):=rfl
theorem M.bind_ok{f:α->M β}(h:m G=some (.ok a,G1)):(m >>= f) G=f a G1:=by rw[M.bind_eq,h]
theorem M.bind_assoc(m:M α)(f:α->M β)(g:β->M γ):((m >>= f) >>= g)= (m >>= λa=>f a >>= g):=by
 funext G
 simp only[M.bind_eq]
 rcases m G with _|p
 ·rfl
 ·obtain⟨r,G1⟩:=p;cases r<;>rfl
noncomputable abbrev XC:=Str->List Addr->DH->Hp->Prop
noncomputable def ZF:XC:=λ_ _ _ _=>False
noncomputable def d7{α:Type}(c:Wc)(Z:XC)(μ:List Addr)(H:Hp)(r:Option (Except Str α×DH))(K:α->List Addr->DH->Hp->Prop):Prop:=
 match r with
 |none=>False
 |some (.ok a,G')=>∀ X9 H',Ext μ H X9 H'->u9 c X9 G' H'->K a X9 G' H'
 |some (.error x,G')=>∀ X9 H',Ext μ H X9 H'->u9 c X9 G' H'->Z x X9 G' H'
section
theorem d7.mono{K K':α->List Addr->DH->Hp->Prop}(h:d7 c Z μ H r K)
 (k:∀a X9 G' H',Ext μ H X9 H'->u9 c X9 G' H'->K a X9 G' H'->K' a X9 G' H'):d7 c Z μ H r K':=by
 match r,h with
 |some (.ok a,G'),h=>exact λX9 H' p e=>k a X9 G' H' p e (h X9 H' p e)
 |some (.error x,G'),h=>exact h
theorem d7.from{K:α->List Addr->DH->Hp->Prop}(h:d7 c Z μ H r K)(p:Ext μ H X9 H'):d7 c Z X9 H' r K:=by
 match r,h with
 |some (.ok a,G'),h=>exact λWZ H2 p2 e=>h WZ H2 (p.trans p2) e
 |some (.error x,G'),h=>exact λWZ H2 p2 e=>h WZ H2 (p.trans p2) e
theorem d7.bind{m:M α}{K:β->List Addr->DH->Hp->Prop}(h:d7 c Z μ H ((m >>= f) G) K):
 d7 c Z μ H (m G) (λa X9 G' H'=>d7 c Z X9 H' (f a G') K):=by
 rw[M.bind_eq]at h
 match m G,h with
 |some (.ok a,G'),h=>exact λX9 H' p e=>d7.from h p
 |some (.error x,G'),h=>exact h
theorem d7.ok{K:α->List Addr->DH->Hp->Prop}(h:d7 c Z μ H (some (.ok a,G)) K)(e:u9 c μ G H):K a μ G H:=h μ H (Ext.refl _ _) e
end
inductive Fl where
 |nx (σ:DSt)|rt (d:D)|bk (σ:DSt)|ct (σ:DSt)
section
variable(c:Wc)(Z:XC)
def aS2(f:DSt->M D):TE:=λσ H Q=>∃Z7 μ G,M5 c μ H Z7 σ/\u9 c μ G H/\d7 c Z μ H (f Z7 G) λd X9 _ H'=>∀v,d8 c X9 H' d v->Q v H'
def bO2(f:DSt->M Bool):TT:=λσ H Q=>∃Z7 μ G,M5 c μ H Z7 σ/\u9 c μ G H/\d7 c Z μ H (f Z7 G) λb X9 _ H'=>Q b H'
def cE2(f:DSt->M (List D)):TA:=λσ H Q=>∃Z7 μ G,M5 c μ H Z7 σ/\u9 c μ G H/\d7 c Z μ H (f Z7 G) λds X9 _ H'=>∀vs,t7 c X9 H' ds vs->Q vs H'
def bJ7(E:bZ2)(fl:Fl)(μ:List Addr)(H:Hp):Prop:=match fl with
 | .nx Z7=>∀ σ,M5 c μ H Z7 σ->E.nx σ H
 | .rt d=>∀v,d8 c μ H d v->E.rt v H
 | .bk Z7=>∀ σ,M5 c μ H Z7 σ->E.bk σ H
 | .ct Z7=>∀ σ,M5 c μ H Z7 σ->E.ct σ H
def bK5(f:DSt->M Fl):TS:=λE σ H=>∃Z7 μ G,M5 c μ H Z7 σ/\u9 c μ G H/\d7 c Z μ H (f Z7 G) λfl X9 _ H'=>bJ7 c E fl X9 H'
end
theorem aS2.elim{P:Prop}{H:Hp}{Q:VK}(h:aS2 c Z f σ H Q)(k:∀Z7 μ G,M5 c μ H Z7 σ->u9 c μ G H->d7 c Z μ H (f Z7 G) (λd X9 _ H'=>∀v,d8 c X9 H' d v->Q v H')->P):P:=by
 obtain⟨e0,e1,e2,e3,e4,e5⟩:=h
 exact k e0 e1 e2 e3 e4 e5
theorem bO2.elim{P:Prop}{σ:St}{H:Hp}(h:bO2 c Z f σ H Q)(k:∀Z7 μ G,M5 c μ H Z7 σ->u9 c μ G H->d7 c Z μ H (f Z7 G) (λb X9 _ H'=>Q b H')->P):P:=by
 obtain⟨e0,e1,e2,e3,e4,e5⟩:=h
 exact k e0 e1 e2 e3 e4 e5
theorem cE2.elim{P:Prop}{σ:St}{H:Hp}(h:cE2 c Z f σ H Q)(k:∀Z7 μ G,M5 c μ H Z7 σ->u9 c μ G H->d7 c Z μ H (f Z7 G) (λds X9 _ H'=>∀vs,t7 c X9 H' ds vs->Q vs H')->P):P:=by
 obtain⟨e0,e1,e2,e3,e4,e5⟩:=h
 exact k e0 e1 e2 e3 e4 e5
theorem bK5.elim{P:Prop}{σ:St}{H:Hp}(h:bK5 c Z f E σ H)(k:∀Z7 μ G,M5 c μ H Z7 σ->u9 c μ G H->d7 c Z μ H (f Z7 G) (λfl X9 _ H'=>bJ7 c E fl X9 H')->P):P:=by
 obtain⟨e0,e1,e2,e3,e4,e5⟩:=h
 exact k e0 e1 e2 e3 e4 e5
structure DE(X:Cx)(Z:XC)(e:Expr)(f:DSt->M D):Prop where
 h:PE X e (aS2 (wc X) Z f)
structure DT(X:Cx)(Z:XC)(e:Expr)(f:DSt->M Bool):Prop where
 h:PT X e (bO2 (wc X) Z f)
structure DA(X:Cx)(Z:XC)(e:List Expr)(f:DSt->M (List D)):Prop where
 h:PA X e (cE2 (wc X) Z f)
structure DS(X:Cx)(Z:XC)(e:Stmt)(f:DSt->M Fl):Prop where
 h:PS X e (bK5 (wc X) Z f)
structure DB(X:Cx)(Z:XC)(e:List Stmt)(f:DSt->M Fl):Prop where
 h:PSs X e (bK5 (wc X) Z f)
theorem PE.mono(h:PE X e t)(k:∀ σ H Q,t' σ H Q->t σ H Q):PE X e t':=λpins s σ H Q I q=>h pins s σ H Q I (k σ H Q q)
theorem PT.mono(h:PT X e t)(k:∀ σ H Q,t' σ H Q->t σ H Q):PT X e t':=λpins s σ H Q I q=>h pins s σ H Q I (k σ H Q q)
theorem PW.mono(h:PW X e t)(k:∀ σ H Q,t' σ H Q->t σ H Q):PW X e t':=λwh pins s σ H Q I q=>h wh pins s σ H Q I (k σ H Q q)
theorem PA.mono(h:PA X e t)(k:∀ σ H Q,t' σ H Q->t σ H Q):PA X e t':=λpos pins s σ H Q I q=>h pos pins s σ H Q I (k σ H Q q)
theorem PS.mono(h:PS X e t)(k:∀E σ H,t' E σ H->t E σ H):PS X e t':=λpins s σ H E I q=>h pins s σ H E I (k E σ H q)
theorem PSs.mono(h:PSs X e t)(k:∀E σ H,t' E σ H->t E σ H):PSs X e t':=λpins s σ H E I q=>h pins s σ H E I (k E σ H q)
theorem DE.of(h:PE X e t)(k:∀ σ H Q,aS2 (wc X) Z f σ H Q->t σ H Q):DE X Z e f:=⟨PE.mono h k⟩
theorem DT.of(h:PT X e t)(k:∀ σ H Q,bO2 (wc X) Z f σ H Q->t σ H Q):DT X Z e f:=⟨PT.mono h k⟩
theorem DA.of(h:PA X e t)(k:∀ σ H Q,cE2 (wc X) Z f σ H Q->t σ H Q):DA X Z e f:=⟨PA.mono h k⟩
theorem DS.of(h:PS X e t)(k:∀E σ H,bK5 (wc X) Z f E σ H->t E σ H):DS X Z e f:=⟨PS.mono h k⟩
theorem DB.of(h:PSs X e t)(k:∀E σ H,bK5 (wc X) Z f E σ H->t E σ H):DB X Z e f:=⟨PSs.mono h k⟩
end DL
namespace DL
open PySem PySem.Spec L2
open PyProof.Rows hiding St
noncomputable def T7:Expr->Bool
 | .Starred ..=>false
 |_=>true
theorem q17(h:T7 e=true):zK (e::es) env= (false,eval e env)::zK es env:=by
 cases e<;>first
  |rfl
  |exact O5 h
theorem aA9(h:T7 e=true):zK [e] env= [(false,eval e env)]:=q17 h
theorem dQ5(h:T7 a=true)(h':T7 b=true):zK [a,b] env= [(false,eval a env),(false,eval b env)]:=by rw[q17 h,aA9 h']
abbrev Fe:=DSt->M D
noncomputable def b7(i:Nat):Fe:=λσ G=>match σ[i]? with
 |some (some d)=>some (.ok d,G)
 |_=>none
def cE(d:D):Fe:=λ_=>pure d
noncomputable def b8(o:D->D->M D)(a b:Fe):Fe:=λσ=>do o (<-a σ) (<-b σ)
noncomputable def unE(o:D->M D)(a:Fe):Fe:=λσ=>do o (<-a σ)
def q14:DSt->M (List D):=λ_=>pure []
def q13(a:Fe)(r:DSt->M (List D)):DSt->M (List D):=λσ=>do
 let x <-a σ
 let xs <-r σ
 pure (x::xs)
noncomputable def q15(F:List D->M D)(a:DSt->M (List D)):Fe:=λσ=>do F (<-a σ)
def dG7:D->M Bool
 | .bl b=>pure b
 |_=>M.stuck
def fI1(a:Fe):Fe:=λσ=>do pure (.bl (!(<-dG7 (<-a σ))))
noncomputable def ifE(t:DSt->M Bool)(a b:Fe):Fe:=λσ=>do if <-t σ then a σ else b σ
section
variable(c:Wc)(Z:XC)
def aU3(o:D->D->M D):R2:=λx y H Q=>∃dx dy μ G,d8 c μ H dx x/\d8 c μ H dy y/\u9 c μ G H/\d7 c Z μ H (o dx dy G) λd X9 _ H'=>∀v,d8 c X9 H' d v->Q v H'
def bK7(o:D->M D):V->Hp->VK->Prop:=λx H Q=>∃dx μ G,d8 c μ H dx x/\u9 c μ G H/\d7 c Z μ H (o dx G) λd X9 _ H'=>∀v,d8 c X9 H' d v->Q v H'
def bK0(F:List D->M D):List V->Hp->VK->Prop:=λxs H Q=>∃ds μ G,t7 c μ H ds xs/\u9 c μ G H/\d7 c Z μ H (F ds G) λd X9 _ H'=>∀v,d8 c X9 H' d v->Q v H'
end
theorem aU3.elim{P:Prop}{x:V}{y:V}{Q:VK}(h:aU3 c Z o x y H Q)(k:∀dx dy μ G,d8 c μ H dx x->d8 c μ H dy y->u9 c μ G H->d7 c Z μ H (o dx dy G) (λd X9 _ H'=>∀v,d8 c X9 H' d v->Q v H')->P):P:=by
 obtain⟨e0,e1,e2,e3,e4,e5,e6,e7⟩:=h
 exact k e0 e1 e2 e3 e4 e5 e6 e7
theorem bK7.elim{P:Prop}{x:V}{Q:VK}(h:bK7 c Z o x H Q)(k:∀dx μ G,d8 c μ H dx x->u9 c μ G H->d7 c Z μ H (o dx G) (λd X9 _ H'=>∀v,d8 c X9 H' d v->Q v H')->P):P:=by
 obtain⟨e0,e1,e2,e3,e4,e5⟩:=h
 exact k e0 e1 e2 e3 e4 e5
theorem bK0.elim{P:Prop}{H:Hp}{Q:VK}(h:bK0 c Z F xs H Q)(k:∀ds μ G,t7 c μ H ds xs->u9 c μ G H->d7 c Z μ H (F ds G) (λd X9 _ H'=>∀v,d8 c X9 H' d v->Q v H')->P):P:=by
 obtain⟨e0,e1,e2,e3,e4,e5⟩:=h
 exact k e0 e1 e2 e3 e4 e5
structure OpD(X:Cx)(Z:XC)(f:zg->zg->Sem zg)(o:D->D->M D):Prop where
 h:OpR X f (aU3 (wc X) Z o)
structure UnD(X:Cx)(Z:XC)(f:zg->Sem zg)(o:D->M D):Prop where
 h:UnR X f (bK7 (wc X) Z o)
structure aA4(X:Cx)(Z:XC)(f:zg)(F:List D->M D):Prop where
 h:aD0 X f (bK0 (wc X) Z F)
theorem OpR.mono(h:OpR X f r)(k:∀x y H Q,r' x y H Q->r x y H Q):OpR X f r':=λpins s σ H x y v u Q I rx ry q=>h pins s σ H x y v u Q I rx ry (k x y H Q q)
theorem aD0.mono(h:aD0 X f r)(k:∀xs H Q,r' xs H Q->r xs H Q):aD0 X f r':=λpins s σ H xs us Q I rx q=>h pins s σ H xs us Q I rx (k xs H Q q)
theorem OpD.of(h:OpR X f r)(k:∀x y H Q,aU3 (wc X) Z o x y H Q->r x y H Q):OpD X Z f o:=⟨OpR.mono h k⟩
theorem aA4.of(h:aD0 X f r)(k:∀xs H Q,bK0 (wc X) Z F xs H Q->r xs H Q):aA4 X Z f F:=⟨aD0.mono h k⟩
section
variable{X:Cx}{Z:XC}{a b c e:Expr}{pos:Pos}
theorem bA8(σ:St)(H:Hp)(Q:VK)(h:aS2 cc Z (b8 o fa fb) σ H Q):tOp (aU3 cc Z o) (aS2 cc Z fa) (aS2 cc Z fb) σ H Q:=by
 obtain⟨Z7,μ,G,s,h,p⟩:=h
 exact⟨Z7,μ,G,s,h,(d7.bind p).mono λx X1 G1 H1 x' h1 p1 v rv=>⟨Z7,X1,G1,s.mono x',h1,(d7.bind p1).mono λy WZ G2 H2 x2 h2 p2 u ru=>⟨x,y,WZ,G2,rv.mono x2,ru,h2,p2⟩⟩⟩
theorem eT5(h:PE X e (fM5 i)):DE X Z e (b7 i):=DE.of h λσ H Q hE0=>hE0.elim λZ7 μ G s h p=>by
 delta b7 at p
 rcases he:Z7[i]? with _|_|d
 ·rw[he]at p;exact p.elim
 ·rw[he]at p;exact p.elim
 · rw[he]at p
   obtain⟨v,e1,r⟩:=s.2 i d he
   exact⟨v,e1,d7.ok p h v r⟩
theorem dV3(h:PE X e (tC v))(r:∀ μ H,d8 (wc X) μ H d v):DE X Z e (cE d):=DE.of h λσ H Q hE0=>hE0.elim λZ7 μ G s h p=>d7.ok p h v (r _ _)
theorem q20{i j pos}:DE X Z (.Constant (.int i) j pos) (cE (.int i)):=dV3 dM5 λ_ _=>by unfold d8;rfl
theorem fB9{i j pos}:DE X Z (.Constant (.bool i) j pos) (cE (.bl i)):=dV3 fB1 λ_ _=>by unfold d8;rfl
theorem eY7{j pos}:DE X Z (.Constant .none j pos) (cE .non):=dV3 dH5 λ_ _=>by unfold d8;rfl
theorem eT0{i j pos}:DE X Z (.Constant (.str i) j pos) (cE (.str i)):=dV3 eO3 λ_ _=>by unfold d8;rfl
theorem fP2(i:Nat)(hN:X.N[i]? =some x)(hv:Vis X.env.scope x)(hd:(x==("__debug__" :Str))=false)
 (hcd:(x==("__classdict__" :Str))=false):DE X Z (.Name x pos) (b7 i):=eT5 (eW2 hN hv hd hcd)
theorem fJ3(ho:OpD X Z (ya op) o)(ha:DE X Z a fa)(hb:DE X Z b fb):DE X Z (.BinOp a op b pos) (b8 o fa fb):=
 DE.of (dL6 ho.h ha.h hb.h) bA8
theorem eM6(ho:OpD X Z (zR op) o)(ha:DE X Z a fa)(hb:DE X Z b fb)(hm:Xi op b=false):DE X Z (.Compare a [op] [b] pos) (b8 o fa fb):=
 DE.of (eC2 ho.h ha.h hb.h hm) bA8
theorem fD8(ho:UnD X Z (unaryOp op) o)(ha:DE X Z a fa):DE X Z (.UnaryOp op a pos) (unE o fa):=
 DE.of (fE4 ho.h ha.h) λσ H Q hE0=>hE0.elim λZ7 μ G s h p=>⟨Z7,μ,G,s,h,(d7.bind p).mono λx X1 G1 H1 x' h1 p1 v rv=>⟨x,X1,G1,rv,h1,p1⟩⟩
theorem bT4{H:Hp}{d:D}{f:Bool->M α}{G:DH}{K:α->List Addr->DH->Hp->Prop}(p:d7 cc Z μ H ((dG7 d >>= f) G) K):∃k,d= .bl k/\d7 cc Z μ H (f k G) K:=by
 cases d with
 |bl k=>exact⟨k,rfl,p⟩
 |_=>exact p.elim
theorem eP9{op}(h:DE X Z a f):DE X Z (.BoolOp op [a] pos) f:=⟨eZ2 h.h⟩
theorem eK4(ha:DE X Z a fa):DE X Z (.UnaryOp .Not a pos) (fI1 fa):=
 DE.of (fA1 ha.h) λσ H Q hE0=>hE0.elim λZ7 μ G s h p=>⟨Z7,μ,G,s,h,(d7.bind p).mono λx X1 G1 H1 x' h1 p1 v rv=>by
  obtain⟨k',rfl,p2⟩:=bT4 p1
  unfold d8 at rv
  exact⟨k',rv,d7.ok p2 h1 _ (by unfold d8;rfl)⟩⟩
def f9(f:Fe):DSt->M Bool:=λσ=>do dG7 (<-f σ)
def aH6(a b:DSt->M Bool):DSt->M Bool:=λσ=>do if <-a σ then b σ else pure false
def orT(a b:DSt->M Bool):DSt->M Bool:=λσ=>do if <-a σ then pure true else b σ
def V0(a:DSt->M Bool):DSt->M Bool:=λσ=>do pure (!(<-a σ))
structure DW(X:Cx)(Z:XC)(e:Expr)(f:DSt->M Bool):Prop where
 h:PW X e (bO2 (wc X) Z f)
theorem DW.of(h:PW X e t)(k:∀ σ H Q,bO2 (wc X) Z f σ H Q->t σ H Q):DW X Z e f:=⟨PW.mono h k⟩
variable{ta tb:DSt->M Bool}{Q9:List Expr}
theorem DW.dt(h:DW X Z a ta):DT X Z a ta:=⟨λpins s σ H Q I q=>h.h _ pins s σ H Q I q⟩
theorem eW6(ho:OpD X Z (zR op) o)(ha:DE X Z a fa)(hb:DE X Z b fb)(hm:Xi op b=false):DT X Z (.Compare a [op] [b] pos) (f9 (b8 o fa fb)):=
 DT.of (eA4 ho.h ha.h hb.h hm) λσ H Q hE0=>hE0.elim λZ7 μ G s h p=>bA8 σ H _ ⟨Z7,μ,G,s,h,(d7.bind p).mono λx X1 G1 H1 x' h1 p1 v rv=>by
  cases x with
  |bl k'=>unfold d8 at rv;exact⟨k',rv,d7.ok p1 h1⟩
  |_=>exact p1.elim⟩
theorem eA9(ha:DT X Z a ta):DW X Z (.BoolOp .And [a] pos) ta:=⟨dX3 ha.h⟩
theorem eK3(ha:DT X Z a ta):DW X Z (.BoolOp .Or [a] pos) ta:=⟨eO6 ha.h⟩
theorem eN1(ha:DT X Z a ta)(hb:DW X Z (.BoolOp .And (b::Q9) pos) tb):DW X Z (.BoolOp .And (a::b::Q9) pos) (aH6 ta tb):=
 DW.of (eU3 ha.h hb.h) λσ H Q hE0=>hE0.elim λZ7 μ G s h p=>⟨Z7,μ,G,s,h,(d7.bind p).mono λx X1 G1 H1 x' h1 p1=>by
  cases x with
  |true=>exact⟨Z7,X1,G1,s.mono x',h1,p1⟩
  |false=>exact d7.ok p1 h1⟩
theorem fB5(ha:DT X Z a ta)(hb:DW X Z (.BoolOp .Or (b::Q9) pos) tb):DW X Z (.BoolOp .Or (a::b::Q9) pos) (orT ta tb):=
 DW.of (fE5 ha.h hb.h) λσ H Q hE0=>hE0.elim λZ7 μ G s h p=>⟨Z7,μ,G,s,h,(d7.bind p).mono λx X1 G1 H1 x' h1 p1=>by
  cases x with
  |false=>exact⟨Z7,X1,G1,s.mono x',h1,p1⟩
  |true=>exact d7.ok p1 h1⟩
theorem eR1(ha:DT X Z a ta):DT X Z (.UnaryOp .Not a pos) (V0 ta):=
 DT.of (eR6 ha.h) λσ H Q hE0=>hE0.elim λZ7 μ G s h p=>⟨Z7,μ,G,s,h,(d7.bind p).mono λx X1 G1 H1 x' h1 p1=>d7.ok p1 h1⟩
theorem fF0(hc:DT X Z c ta)(ha:DE X Z a fa)(hb:DE X Z b fb):DE X Z (.IfExp c a b pos) (ifE ta fa fb):=
 DE.of (dG8 hc.h ha.h hb.h) λσ H Q hE0=>hE0.elim λZ7 μ G s h p=>⟨Z7,μ,G,s,h,(d7.bind p).mono λx X1 G1 H1 x' h1 p1=>by
  cases x with
  |true=>exact⟨Z7,X1,G1,s.mono x',h1,p1⟩
  |false=>exact⟨Z7,X1,G1,s.mono x',h1,p1⟩⟩
theorem q19:DA X Z [] q14:=DA.of eL0 λσ H Q hE0=>hE0.elim λZ7 μ G s h p=>d7.ok p h [] rfl
theorem q18(ha:DE X Z e fa)(hr:DA X Z es fs)(hs:zK (e::es) X.env= (false,eval e X.env)::zK es X.env):DA X Z (e::es) (q13 fa fs):=
 DA.of (eE5 ha.h hr.h hs) λσ H Q hE0=>hE0.elim λZ7 μ G s h p=>⟨Z7,μ,G,s,h,(d7.bind p).mono λx X1 G1 H1 x' h1 p1 v rv=>
  ⟨Z7,X1,G1,s.mono x',h1,(d7.bind p1).mono λxs WZ G2 H2 x2 h2 p2 vs rvs=>d7.ok p2 h2 (v::vs) ⟨v,vs,rfl,rv.mono x2,rvs⟩⟩⟩
def J7(fs:DSt->M (List D)):Fe:=λσ=>do
 let xs <-fs σ
 if xs.length<=zl then pure (.tup xs)else M.stuck
noncomputable def Q5(o:DO):M D:=λG=>some (.ok (.ref G.length),G++[o])
def X3(fs:DSt->M (List D)):Fe:=λσ=>do
 let xs <-fs σ
 if xs.length<=zl then Q5 (.lst xs)else M.stuck
theorem bB6{G:DH}{Q:VK}(h:u9 cc μ G H)(r:t7 cc μ H xs vs)
 (p:d7 cc Z μ H (some (Except.ok (.tup xs),G)) λd X9 _ H'=>∀v,d8 cc X9 H' d v->Q v H') (q:Addr) (hq:H q=none):Q (.ref q) (upd H q (.tup vs)):=by
 have k:Ext μ H μ (upd H q (.tup vs)):=Ext.lay hq _
 refine p μ _ k (h.same k λa o e n=>?_) _ ?_
 ·rw[K3 (M4 e hq)];exact e
 · unfold d8
   exact⟨q,vs,rfl,SqT.of U5,r.mono k⟩
theorem Z1{G:DH}{Q:VK}(h:u9 cc μ G H)(r:t7 cc μ H xs vs)
 (p:d7 cc Z μ H (Q5 (.lst xs) G) λd X9 _ H'=>∀v,d8 cc X9 H' d v->Q v H') (q:Addr) (hq:H q=none):Q (.ref q) (upd H q (.lst vs)):=by
 have k:Ext μ H (μ++[q]) (upd H q (.lst vs)):=Ext.add hq _
 refine p (μ++[q]) _ k (h.new hq ⟨vs,U5,r.mono k⟩) _ ?_
 unfold d8
 exact⟨q,by rw[<-h.len];simp,rfl⟩
theorem eT3{x1}(h:DA X Z es fs):DE X Z (.Tuple es x1 pos) (J7 fs):=
 DE.of (eY1 h.h) λσ H Q hE0=>hE0.elim λZ7 μ G s h p=>⟨Z7,μ,G,s,h,(d7.bind p).mono λxs X1 G1 H1 x' h1 p1 vs rv=>by
  split at p1
  · rename_i hz
    exact⟨by rw[<-rv.length];exact hz,λq hq=>bB6 h1 rv p1 q hq⟩
  ·exact p1.elim⟩
theorem eQ1(h:DA X Z es fs):DE X Z (.List es pos) (X3 fs):=
 DE.of (eZ7 h.h) λσ H Q hE0=>hE0.elim λZ7 μ G s h p=>⟨Z7,μ,G,s,h,(d7.bind p).mono λxs X1 G1 H1 x' h1 p1 vs rv=>by
  split at p1
  · rename_i hz
    exact⟨by rw[<-rv.length];exact hz,λq hq=>Z1 h1 rv p1 q hq⟩
  ·exact p1.elim⟩
theorem bS5(σ:St)(H:Hp)(Q:VK)(h:aS2 cc Z (q15 F fs) σ H Q):tCB (bK0 cc Z F) (cE2 cc Z fs) σ H Q:=by
 obtain⟨Z7,μ,G,s,h,p⟩:=h
 exact⟨Z7,μ,G,s,h,(d7.bind p).mono λx X1 G1 H1 x' h1 p1 vs rv=>⟨x,X1,G1,rv,h1,p1⟩⟩
theorem dP4{id:String}(hc:aA4 X Z (.builtin id) F)(hg:Gl X x)(hm:X.mg x=none)(hv:ja x=some (.builtin id))(ha:DA X Z (e::es) fs)(hn:x≠ "__name__")(hdb:(x==("__debug__" :Str))=false)
 (he:zK (e::es) X.env= (false,eval e X.env)::zK es X.env) (hpl:(yQ pos (zK es X.env)).any (·.1)=false):DE X Z (.Call (.Name x p) (e::es) [] pos) (q15 F fs):=
 DE.of (dN5 hc.h hg hm hv ha.h hn hdb he hpl) bS5
theorem dB4(hc:aA4 X Z (.type T) F)(hg:Gl X x)(hm:X.mg x=none)(hv:ja x=some (.type T))(ha:DA X Z (e::es) fs)(hn:x≠ "__name__")(hdb:(x==("__debug__" :Str))=false)
 (he:zK (e::es) X.env= (false,eval e X.env)::zK es X.env) (hpl:(yQ pos (zK es X.env)).any (·.1)=false):DE X Z (.Call (.Name x p) (e::es) [] pos) (q15 F fs):=
 DE.of (dD8 hc.h hg hm hv ha.h hn hdb he hpl) bS5
def spD(c:Wc)(n:Nat)(F:List D->M D):Sp:=λvs H Q _=>vs.length=n/\∃ds μ G,t7 c μ H ds vs/\u9 c μ G H/\d7 c ZF μ H (F ds G) λd X9 _ H'=>∀v,d8 c X9 H' d v->Q v H'
noncomputable def noX{α:Type}(m:M α):M α:=λG=>match m G with
 |some (.ok a,G1)=>some (.ok a,G1)
 |_=>none
theorem bN5{H:Hp}{G:DH}{K:α->List Addr->DH->Hp->Prop}(p:d7 cc Z μ H (noX m G) K):d7 cc ZF μ H (m G) K:=by
 unfold noX at p
 match m G,p with
 |some (.ok a,G1),p=>exact p
 |some (.error x,G1),p=>exact p.elim
 |none,p=>exact p.elim
def fnX(n:Nat)(F:List D->M D):List D->M D:=λds=>if ds.length=n then noX (F ds)else M.stuck
theorem cJ8{H:Hp}{n:Nat}{G:DH}{K:D->List Addr->DH->Hp->Prop}(p:d7 cc Z μ H (fnX n F ds G) K):ds.length=n/\d7 cc ZF μ H (F ds G) K:=by
 unfold fnX at p
 split at p
 ·rename_i h;exact⟨h,bN5 p⟩
 ·exact p.elim
theorem dW4(hF:aN4 X.prog X.w X.K X.mg X.base CX0 k f fd ps (spD (wc X) n F))(hr:V7 k X.A)(hg:Gl X x)(hm:X.mg x=some (.ref f))(hk:yh X.K (.ref f)=true)(hb:aT1 X.K fd ps [])
 (ha:DA X Z (e::es) fs)
 (hdb:(x==("__debug__" :Str))=false) (he:zK (e::es) X.env= (false,eval e X.env)::zK es X.env) (hpl:(yQ pos (zK es X.env)).any (·.1)=false):
 DE X Z (.Call (.Name x p) (e::es) [] pos) (q15 (fnX n F) fs):=
 DE.of (eF1 hF hr hg hm hk hb .nil dO2 ha.h hdb he hpl) λσ H Q hE0=>hE0.elim λZ7 μ G s h p=>by
  refine⟨Z7,μ,G,s,h,(d7.bind p).mono λds' X1 G1 H1 x' h1 p1 vs rv=>?_⟩
  obtain⟨hl,p2⟩:=cJ8 p1
  show spD (wc X) n F (vs++[]) H1 Q E0
  rw[yZ]
  exact⟨by rw[<-rv.length];exact hl,ds',X1,G1,rv,h1,p2⟩
end
abbrev Fs:=DSt->M Fl
def j9:Fs:=λσ=>pure (.nx σ)
def j5(a b:Fs):Fs:=λσ=>do
 match <-a σ with
 | .nx X2=>b X2
 |r=>pure r
def m8(f:Fe):Fs:=λσ=>do pure (.rt (<-f σ))
def aM6(f:Fe):Fs:=λσ=>do
 let _ <-f σ
 pure (.nx σ)
noncomputable def ifS(t:DSt->M Bool)(a b:Fs):Fs:=λσ=>do if <-t σ then a σ else b σ
abbrev Fg:=D->DSt->M DSt
abbrev Fgs:=List D->DSt->M DSt
def q16(i:Nat):Fg:=λd σ=>pure (σ.set i (some d))
def aZ1:Fgs:=λds σ=>match ds with
 |[]=>pure σ
 |_=>M.stuck
def Q3(g:Fg)(r:Fgs):Fgs:=λds σ=>match ds with
 |d::t=>do r t (<-g d σ)
 |[]=>M.stuck
def aZ7(n:Nat)(g:Fgs):Fg:=λd σ=>match d with
 | .tup l=>if l.length=n then g l σ else M.stuck
 |_=>M.stuck
def o9(f:Fe)(g:Fg):Fs:=λσ=>do
 let d <-f σ
 let X2 <-g d σ
 pure (.nx X2)
section
variable(c:Wc)(Z:XC)
def bU0(g:Fg):TG:=λv σ H Q=>∃d Z7 μ G,d8 c μ H d v/\M5 c μ H Z7 σ/\u9 c μ G H/\d7 c Z μ H (g d Z7 G) λWW X9 _ H'=>∀ X2,M5 c X9 H' WW X2->Q X2 H'
def cA9(g:Fgs):TGs:=λvs σ H Q=>∃ds Z7 μ G,t7 c μ H ds vs/\M5 c μ H Z7 σ/\u9 c μ G H/\d7 c Z μ H (g ds Z7 G) λWW X9 _ H'=>∀ X2,M5 c X9 H' WW X2->Q X2 H'
end
theorem bU0.elim{P:Prop}{v:V}{σ:St}{H:Hp}(h:bU0 c Z g v σ H Q)(k:∀d Z7 μ G,d8 c μ H d v->M5 c μ H Z7 σ->u9 c μ G H->d7 c Z μ H (g d Z7 G) (λWW X9 _ H'=>∀ X2,M5 c X9 H' WW X2->Q X2 H')->P):P:=by
 obtain⟨e0,e1,e2,e3,e4,e5,e6,e7⟩:=h
 exact k e0 e1 e2 e3 e4 e5 e6 e7
theorem cA9.elim{Z:XC}{P:Prop}{σ:St}{H:Hp}(h:cA9 c Z g vs σ H Q)(k:∀ds Z7 μ G,t7 c μ H ds vs->M5 c μ H Z7 σ->u9 c μ G H->d7 c Z μ H (g ds Z7 G) (λWW X9 _ H'=>∀ X2,M5 c X9 H' WW X2->Q X2 H')->P):P:=by
 obtain⟨e0,e1,e2,e3,e4,e5,e6,e7⟩:=h
 exact k e0 e1 e2 e3 e4 e5 e6 e7
structure DG(X:Cx)(Z:XC)(tg:Expr)(g:Fg):Prop where
 h:PG X tg (bU0 (wc X) Z g)
structure DGs(X:Cx)(Z:XC)(tgs:List Expr)(g:Fgs):Prop where
 h:PGs X tgs (cA9 (wc X) Z g)
theorem PG.mono(h:PG X e t)(k:∀v σ H Q,t' v σ H Q->t v σ H Q):PG X e t':=λpins s σ H v u Q I r q=>h pins s σ H v u Q I r (k v σ H Q q)
theorem PGs.mono(h:PGs X e t)(k:∀v σ H Q,t' v σ H Q->t v σ H Q):PGs X e t':=λpins s σ H v u Q I r q=>h pins s σ H v u Q I r (k v σ H Q q)
theorem DG.of(h:PG X e t)(k:∀v σ H Q,bU0 (wc X) Z g v σ H Q->t v σ H Q):DG X Z e g:=⟨PG.mono h k⟩
theorem DGs.of(h:PGs X e t)(k:∀v σ H Q,cA9 (wc X) Z g v σ H Q->t v σ H Q):DGs X Z e g:=⟨PGs.mono h k⟩
section
variable{X:Cx}{Z:XC}{st:Stmt}{Q9 sa sb:List Stmt}{f g:Fs}
theorem eO9:DB X Z [] j9:=DB.of eB8 λE σ H hE0=>hE0.elim λZ7 μ G s h p=>d7.ok p h σ s
theorem dX0(h:u9 cc μ G H)
 (p:d7 cc Z μ H ((match fl with| .nx X2=>g X2|r=>pure r:M Fl) G) λfl X9 _ H'=>bJ7 cc E fl X9 H'):bJ7 cc {E with nx:=bK5 cc Z g E} fl μ H:=by
 cases fl with
 |nx Z7=>exact λσ s=>⟨Z7,μ,G,s,h,p⟩
 |rt d=>exact d7.ok p h
 |bk Z7=>exact d7.ok p h
 |ct Z7=>exact d7.ok p h
theorem cT3(h1:DS X Z st f)(h2:DB X Z Q9 g):DB X Z (st::Q9) (j5 f g):=
 DB.of (dN3 h1.h h2.h) λE σ H hE0=>hE0.elim λZ7 μ G s h p=>⟨Z7,μ,G,s,h,(d7.bind p).mono λfl X1 G1 H1 x' h1 p1=>dX0 h1 p1⟩
theorem dG4(h1:DS X Z st f):DB X Z [st] f:=⟨dV5 h1.h⟩
theorem eA6(he:DE X Z e fa)(hs:swapsWith e none pos.line X.env=pure false):DS X Z (.Expr e pos) (aM6 fa):=
 DS.of (eF4 he.h hs) λE σ H hE0=>hE0.elim λZ7 μ G s h p=>⟨Z7,μ,G,s,h,(d7.bind p).mono λd X1 G1 H1 x' h1 p1 v rv=>d7.ok p1 h1 σ (s.mono x')⟩
theorem eQ5(he:DE X Z e fa):DS X Z (.Return (some e) pos) (m8 fa):=
 DS.of (eR9 he.h) λE σ H hE0=>hE0.elim λZ7 μ G s h p=>⟨Z7,μ,G,s,h,(d7.bind p).mono λd X1 G1 H1 x' h1 p1 v rv=>d7.ok p1 h1 v rv⟩
theorem fM0(hc:DT X Z c t)(ha:DB X Z sa f)(hb:DB X Z sb g):DS X Z (.If c sa sb pos) (ifS t f g):=
 DS.of (fE9 hc.h ha.h hb.h) λE σ H hE0=>hE0.elim λZ7 μ G s h p=>⟨Z7,μ,G,s,h,(d7.bind p).mono λx X1 G1 H1 x' h1 p1=>by
  cases x with
  |true=>exact⟨Z7,X1,G1,s.mono x',h1,p1⟩
  |false=>exact⟨Z7,X1,G1,s.mono x',h1,p1⟩⟩
theorem cT1{x:Str}(hN:X.N.Nodup)(hi:X.N[i]? =some x)(hx:Loc X.env.scope x)(hf:X.fn x=true\/X.env.scope.names.lookup x=some .local):DG X Z (.Name x pos) (q16 i):=
 DG.of (eB1 hN hi hx hf) λv σ H Q hE0=>hE0.elim λd Z7 μ G r s h p=>d7.ok p h _ (s.put r i)
theorem eH1:DGs X Z [] aZ1:=DGs.of eB4 λvs σ H Q hE0=>hE0.elim λds Z7 μ G r s h p=>by
 cases ds with
 |nil=>cases r;exact⟨rfl,d7.ok p h _ s⟩
 |cons _ _=>exact p.elim
theorem dK0(h1:DG X Z e gg)(h2:DGs X Z es gr)(hs:(xj (e::es) X.env).map (·.2)=Yw e X.env::(xj es X.env).map (·.2)):DGs X Z (e::es) (Q3 gg gr):=
 DGs.of (dH7 h1.h h2.h hs) λvs σ H Q hE0=>hE0.elim λds Z7 μ G r s h p=>by
  cases ds with
  |nil=>exact p.elim
  |cons d t=>
    obtain⟨v,vr,rfl,rv,rt⟩:=r
    exact⟨v,vr,rfl,d,Z7,μ,G,rv,s,h,(d7.bind p).mono λdσ1 X1 G1 H1 x' h1 p1 W1 s1=>⟨t,dσ1,X1,G1,rt.mono x',s1,h1,p1⟩⟩
theorem eM9{gs:Fgs}(hc:X.calm=true)(h:DGs X Z es gs)(hn:(xj es X.env).length=n)(hst:(xj es X.env).findIdx? (·.1)=none):DG X Z (.Tuple es k pos) (aZ7 n gs):=
 DG.of (eS8 hc h.h hn hst) λv σ H Q hE0=>hE0.elim λd Z7 μ G r s h p=>by
  cases d with
  |tup l=>
    unfold d8 at r
    obtain⟨a,vs,rfl,q,rl⟩:=r
    have p':d7 (wc X) Z μ H ((if l.length=n then gs l Z7 else M.stuck:M DSt) G) λWW X9 _ H'=>∀ X2,M5 (wc X) X9 H' WW X2->Q X2 H':=p
    split at p'
    · rename_i hl
      exact⟨a,vs,rfl,q,by rw[<-rl.length];exact hl,l,Z7,μ,G,rl,s,h,p'⟩
    ·exact p'.elim
  |_=>exact p.elim
theorem eV9(he:DE X Z e fa)(hg:DG X Z tg gg)(hs:swapsWithSole [tg] e pos.line X.env=pure false)(hw:swappedStores [tg] e X.env=pure none)
 (h1:(xj [tg] X.env).map (·.2)= [Yw tg X.env]):DS X Z (.Assign [tg] e pos) (o9 fa gg):=
 DS.of (eO7 he.h hg.h hs hw h1) λE σ H hE0=>hE0.elim λZ7 μ G s h p=>⟨Z7,μ,G,s,h,(d7.bind p).mono λd X1 G1 H1 x' h1 p1 v rv=>
  ⟨d,Z7,X1,G1,rv,s.mono x',h1,(d7.bind p1).mono λdσ2 WZ G2 H2 x2 h2 p2 σ2 s2=>d7.ok p2 h2 σ2 s2⟩⟩
end
def W8:Nat->(DSt->M Bool)->Fs->Fs
 |0,_,_=>λ_=>M.stuck
 |n+1,t,b=>λσ=>do
   if <-t σ then
    match <-b σ with
    | .nx X2=>W8 n t b X2
    | .ct X2=>W8 n t b X2
    | .bk X2=>pure (.nx X2)
    | .rt d=>pure (.rt d)
   else pure (.nx σ)
open Classical in
def bD9(t:DSt->M Bool)(b:Fs):Fs:=λσ G=>if h:∃n,(W8 n t b σ G).isSome=true then W8 (YJ h) t b σ G else none
theorem M.bind_mono{f g:α->M β}{r:Except Str β×DH}(h:(m >>= f) G=some r)(k:∀a G',f a G'=some r->g a G'=some r):(m >>= g) G=some r:=by
 rw[M.bind_eq]at h ⊢
 match m G,h with
 |some (.ok a,G'),h=>exact k a G' h
 |some (.error x,G'),h=>exact h
theorem aU2{t:DSt->M Bool}:∀ {n} {σ} {G:DH} {r:Except Str Fl×DH},W8 n t b σ G=some r->W8 (n+1) t b σ G=some r
 |0,_,_,_,h=>by exact J6 h
 |n+1,σ,G,r,h=>by
   unfold W8 at h ⊢
   refine M.bind_mono h λc G1 h1=>?_
   cases c with
   |true=>
     refine M.bind_mono h1 λfl G2 h2=>?_
     cases fl with
     |nx X2=>exact aU2 h2
     |ct X2=>exact aU2 h2
     |bk X2=>exact h2
     |rt d=>exact h2
   |false=>exact h1
theorem bV9(hm:n<=m)(h:W8 n t b σ G=some r):W8 m t b σ G=some r:=by
 induction hm with
 |refl=>exact h
 |step _ ih=>exact aU2 ih
section
theorem dT6(hp:PassesOwn (zz X.prog X.w) X.A X.env X.xe)(hc:DT X Z c t)(hb:DB X Z body f):DS X Z (.While c body [] pos) (bD9 t f):=
 DS.of (dM3 hp hc.h hb.h) λE σ H hE0=>hE0.elim λZ7 μ G s h p=>by
  unfold bD9 at p
  split at p
  · rename_i ex
    refine⟨λm σ H=>∃Z7 μ G,M5 (wc X) μ H Z7 σ/\u9 (wc X) μ G H/\d7 (wc X) Z μ H (W8 m t f Z7 G) λfl X9 _ H'=>bJ7 (wc X) E fl X9 H',⟨_,Z7,μ,G,s,h,p⟩,?_⟩
    rintro m σ H ⟨Z7,μ,G,s,h,p⟩
    cases m with
    |zero=>exact p.elim
    |succ m=>
      refine⟨Z7,μ,G,s,h,(d7.bind p).mono λx X1 G1 H1 x' h1 p1=>?_⟩
      cases x with
      |false=>exact d7.ok p1 h1 σ (s.mono x')
      |true=>
        refine⟨λX2 H'=>∃Z7 μ G,M5 (wc X) μ H' Z7 X2/\u9 (wc X) μ G H'/\d7 (wc X) Z μ H' (W8 m t f Z7 G) λfl X9 _ H'=>bJ7 (wc X) E fl X9 H',λX2 H' w=>⟨m,xy _,w⟩,Z7,X1,G1,s.mono x',h1,(d7.bind p1).mono λfl WZ G2 H2 x2 h2 p2=>?_⟩
        cases fl with
        |nx WW=>exact λX2 s'=>⟨WW,WZ,G2,s',h2,p2⟩
        |ct WW=>exact λX2 s'=>⟨WW,WZ,G2,s',h2,p2⟩
        |bk WW=>exact λX2 s'=>d7.ok p2 h2 X2 s'
        |rt d=>exact λv r=>d7.ok p2 h2 v r
  ·exact p.elim
end
def aB8(g:Fg)(b:Fs)(ck:DH->Bool):List D->Fs
 |[]=>λσ G=>if ck G then some (.ok (.nx σ),G)else none
 | d :: r => λσ G => if ck G then (do
    match <-b (<-g d σ) with
    | .nx X2=>aB8 g b ck r X2
    | .ct X2=>aB8 g b ck r X2
    | .bk X2=>pure (.nx X2)
    | .rt d=>pure (.rt d):M Fl) G else none
structure Src where
 items:List D
 ck:DH->Bool
def aF5(it:DSt->M Src)(g:Fg)(b:Fs):Fs:=λσ=>do
 let s <-it σ
 aB8 g b s.ck s.items σ
def ItD(c:Wc)(μ:List Addr)(H:Hp)(J:It)(s:Src):Prop:=∀ X9 G' H',Ext μ H X9 H'->u9 c X9 G' H'->s.ck G'=true->∀i:Nat,
 (∀d,s.items[i]? =some d->J.go i H'/\∀x H2,J.yld i H' x H2->Ext X9 H' X9 H2/\u9 c X9 G' H2/\d8 c X9 H2 d x)/\(s.items.length<=i->J.stop i H')
def cU1(c:Wc)(Z:XC)(it:DSt->M Src):TI:=λσ H R=>∃Z7 μ G,M5 c μ H Z7 σ/\u9 c μ G H/\d7 c Z μ H (it Z7 G) λs X9 _ H'=>∀J,ItD c X9 H' J s->R J H'
theorem cU1.elim{P:Prop}{σ:St}{H:Hp}(h:cU1 c Z it σ H R)(k:∀Z7 μ G,M5 c μ H Z7 σ->u9 c μ G H->d7 c Z μ H (it Z7 G) (λs X9 _ H'=>∀J,ItD c X9 H' J s->R J H')->P):P:=by
 obtain⟨e0,e1,e2,e3,e4,e5⟩:=h
 exact k e0 e1 e2 e3 e4 e5
structure DI(X:Cx)(Z:XC)(tg e:Expr)(it:DSt->M Src):Prop where
 h:PI X tg e (cU1 (wc X) Z it)
theorem PI.mono(h:PI X tg e t)(k:∀ σ H R,t' σ H R->t σ H R):PI X tg e t':=λpins s σ H R I q=>h pins s σ H R I (k σ H R q)
theorem DI.of(h:PI X tg e t)(k:∀ σ H R,cU1 (wc X) Z it σ H R->t σ H R):DI X Z tg e it:=⟨PI.mono h k⟩
section
def fP8(c:Wc)(E:bZ2)(fl:Fl)(μ:List Addr)(_:DH)(H:Hp):Prop:=bJ7 c E fl μ H
inductive fG2(c:Wc)(Z:XC)(gg:Fg)(f:Fs)(sr:Src)(E:bZ2)(X1:List Addr)(H1:Hp)(i:Nat)(σ:St)(H:Hp):Prop
 |mk (Z7:DSt) (μ:List Addr) (G:DH) (k:Ext X1 H1 μ H) (s:M5 c μ H Z7 σ) (h:u9 c μ G H) (p:d7 c Z μ H (aB8 gg f sr.ck (sr.items.drop i) Z7 G) (fP8 c E))
theorem eO1(hp:PassesOwn (zz X.prog X.w) X.A X.env X.xe)(hc:X.calm=true)(hi:DI X Z tg iter it)(hg:DG X Z tg gg)(hb:DB X Z body f)(hs:∀x,yK iter X.env x=pure x):
 DS X Z (.For tg iter body [] pos) (aF5 it gg f):=
 DS.of (eU1 hp hc hi.h hg.h hb.h hs) λE σ H hE0=>hE0.elim λZ7 μ G s h p=>⟨Z7,μ,G,s,h,(d7.bind p).mono λsr X1 G1 H1 x' h1 p1 J hJ=>by
  refine⟨λi m X2 H'=>m=sr.items.length-i/\i<=sr.items.length/\fG2 (wc X) Z gg f sr E X1 H1 i X2 H',
   ⟨sr.items.length,rfl,jh _,Z7,X1,G1,Ext.refl _ _,s.mono x',h1,p1⟩,?_⟩
  rintro i m X2 H' ⟨rfl,hi',WW,X9,G',k',s',h',p'⟩
  by_cases hlt:i<sr.items.length
  · rw[yB hlt]at p'
    unfold aB8 at p'
    split at p'
    · rename_i ck
      obtain⟨q1,_⟩:=hJ X9 G' H' k' h' ck i
      obtain⟨go,yl⟩:=q1 _ (zf hlt)
      refine .inr ⟨go,λσ2 H2=>fG2 (wc X) Z gg f sr E X1 H1 (i+1) σ2 H2,λσ2 H2 w=>⟨sr.items.length-(i+1),Yz _ _ hlt,rfl,hlt,w⟩,λx H2 y=>?_⟩
      obtain⟨k2,h2,rx⟩:=yl x H2 y
      have p2:=d7.bind (p'.from k2)
      refine⟨_,WW,X9,G',rx,s'.mono k2,h2,p2.mono λdσ3 WS G3 H3 x3 h3 p3 WQ s3=>?_⟩
      refine⟨dσ3,WS,G3,s3,h3,(d7.bind p3).mono λfl WP G4 H4 x4 h4 p4=>?_⟩
      cases fl with
      |nx dσ4=>exact λσ4 s4=>⟨dσ4,WP,G4,k'.trans (k2.trans (x3.trans x4)),s4,h4,p4⟩
      |ct dσ4=>exact λσ4 s4=>⟨dσ4,WP,G4,k'.trans (k2.trans (x3.trans x4)),s4,h4,p4⟩
      |bk dσ4=>exact λσ4 s4=>d7.ok p4 h4 σ4 s4
      |rt d=>exact λv r=>d7.ok p4 h4 v r
    ·exact p'.elim
  · have e:i=sr.items.length:=Nat.le_antisymm hi' (Nat.le_of_not_lt hlt)
    subst e
    rw[List.drop_length]at p'
    unfold aB8 at p'
    split at p'
    · rename_i ck
      obtain⟨_,q2⟩:=hJ X9 G' H' k' h' ck sr.items.length
      exact .inl ⟨q2 (zo _),d7.ok p' h' X2 s'⟩
    ·exact p'.elim⟩
end
noncomputable def aQ0(env:Env):List (Str×NameKind)->List (Str×Addr)->List (Str×Addr)
 |[],cs=>cs
 |(n,k)::r,cs=>aQ0 env r (if k == .free then (match env.cells.lookup n with|some c=>(n,c)::cs|none=>cs)else cs)
theorem cC8:∀l cs,(∀p∈l,p.2= .free->∃c,env.cells.lookup p.1=some c)->
 (forIn l cs (fun(x:Str×NameKind) (cs:List (Str×Addr))=>(match x with|(name,kind)=>if (kind==NameKind.free)=true then do let c <-cellOf env name;pure (ForInStep.yield ((name,c)::cs))else pure (ForInStep.yield cs):Sem (ForInStep (List (Str×Addr))))):Sem (List (Str×Addr)))=pure (aQ0 env l cs)
 |[],cs,_=>rfl
 |(n,k)::r,cs,h=>by
  have ih:=λcs'=>cC8 r cs' λp hp=>h p (zk _ hp)
  rw[List.forIn_cons]
  unfold aQ0
  rcases hk:(k==NameKind.free)with _|_
  ·
    have e:(match ((n,k):Str×NameKind) with|(name,kind)=>if (kind==NameKind.free)=true then do let c <-cellOf env name;pure (ForInStep.yield ((name,c)::cs))else pure (ForInStep.yield cs):Sem (ForInStep (List (Str×Addr))))=pure (ForInStep.yield cs):=by
     show (if (k==NameKind.free)=true then _ else _)=_
     rw[hk];rfl
    rw[e]
    exact ih cs
  ·
    obtain⟨c,hc⟩:=h (n,k) zq (by simpa using hk)
    have hcell:cellOf env n=pure c:=by unfold cellOf;rw[hc]
    have e:(match ((n,k):Str×NameKind) with|(name,kind)=>if (kind==NameKind.free)=true then do let c <-cellOf env name;pure (ForInStep.yield ((name,c)::cs))else pure (ForInStep.yield cs):Sem (ForInStep (List (Str×Addr))))=pure (ForInStep.yield ((n,c)::cs)):=by
     show (if (k==NameKind.free)=true then (do let c <-cellOf env n;pure (ForInStep.yield ((n,c)::cs)))else _)=_
     rw[hk,hcell];rfl
    rw[e,hc]
    exact ih ((n,c)::cs)
theorem bE0(h:∀p∈scope.names,p.2= .free->∃c,env.cells.lookup p.1=some c):closureFor scope env=pure (aQ0 env scope.names []):=by
 have q:=cC8 scope.names [] h
 unfold closureFor
 dsimp only
 rw[q]
 rfl
theorem bS9:∀l cs,(cs.lookup x=some c->env.cells.lookup x=some c)->(aQ0 env l cs).lookup x=some c->env.cells.lookup x=some c
 |[],cs,h,e=>h e
 |(n,k)::r,cs,h,e=>by
  unfold aQ0 at e
  refine bS9 r _ (λe1=>?_) e
  split at e1
  · split at e1
    · rename_i c' hc
      rw[yy]at e1
      split at e1
      · rename_i hx
        have hx':x=n:=by simpa using hx
        subst hx'
        cases e1
        exact hc
      ·exact h e1
    ·exact h e1
  ·exact h e1
theorem aB3(h:(aQ0 env l []).lookup x=some c):env.cells.lookup x=some c:=bS9 l [] (λz=>by exact J6 z) h
theorem bM1:∀l cs,(∃c,cs.lookup x=some c)->∃c,(aQ0 env l cs).lookup x=some c
 |[],cs,h=>h
 |(n,k)::r,cs,h=>by
  unfold aQ0
  refine bM1 r _ ?_
  split
  · split
    · rename_i c' hc
      rw[yy]
      split
      ·exact⟨_,rfl⟩
      ·exact h
    ·exact h
  ·exact h
theorem bF1(hc:env.cells.lookup x=some c):∀l cs,(x,NameKind.free)∈l->∃c,(aQ0 env l cs).lookup x=some c
 |[],cs,h=>by simp at h
 |(n,k)::r,cs,h=>by
  unfold aQ0
  rcases zu.mp h with e|h
  · cases e
    refine bM1 r _ ?_
    rw[hc]
    simp
  ·exact bF1 hc r _ h
section
theorem bW2(I:Nat->zm->Prop)
 (turn:∀n s,I n s->zt (zz prog w) A (Zi it) (λr X0=>match r with
   |none=>R (.ok .next) X0
   | some v => zt (zz prog w) A (xP target it v) (λ_ s₁' => zt (zz prog w) A (Yw target env v) (λ_ s₂ =>
      zt (zz prog w) A (forIn ifs true λc r=>if r=true then do let ok <-isTrue c env (eval c env);pure (ForInStep.yield ok)else pure (ForInStep.yield r)) (λok s₃=>
       if ok=true then zt (zz prog w) A (eval elt env) (λx s₄=>
        zt (zz prog w) A (call (.builtin "list.append") [acc,x]) (λ_ s₅=>∃m,m<n/\I m s₅) (λ_ _=>False) s₄) (λ_ _=>False) s₃
       else ∃m,m<n/\I m s₃) (λ_ _=>False) s₂) (λ_ _=>False) s₁') (λ_ _=>False) X0) (λ_ _=>False) s)
 (n:Nat) (h:I n s):
 xQ (zz prog w) A (.compLoop (.ListComp elt [⟨target,iter,ifs,0⟩] scope pos) 0 it acc env) R s:=by
 refine codeAny_loop rfl I (λn s hI=>?_) n h
 show zt _ A ((compTurn (.ListComp elt [⟨target,iter,ifs,0⟩] scope pos) 0 it acc env).onRaise (λx=>do noteFrame x env;theTreesLotGoes x)) _ _ s
 refine wpAny_noted ?_
 rw[compTurn_list]
 refine za (ZV (za (jH (turn n s hI) (λr X0 h₁=>?_) λ_ _ h'=>h'.elim)))
 rcases r with _|v
 ·exact zc h₁
 ·
   refine za (jH h₁ (λ_ s₁' h₁'=>?_) λ_ _ h'=>h'.elim)
   refine za (jH h₁' (λ_ s₂ h₂=>za (jH h₂ (λok s₃ h₃=>?_) λ_ _ h'=>h'.elim)) λ_ _ h'=>h'.elim)
   rcases ok with _|_
   ·
     exact zc ⟨rfl,h₃⟩
   ·
     exact za (za (jH h₃ (λx s₄ h₄=>za (jH h₄ (λ_ s₅ h₅=>zc (zc ⟨rfl,h₅⟩)) λ_ _ h'=>h'.elim)) λ_ _ h'=>h'.elim))
end
def U9(X:Cx)(scope:Scope)(N:List Str)(C:Addr)(s:zm)(H:Hp)(ex:List Addr):Cx where
 prog:=X.prog
 w:=X.w
 K:=X.K
 mg:=X.mg
 base:=X.base
 A:=X.A
 N:=N
 WX:=s
 H₀:=H
 env:=compEnvC scope (aQ0 X.env scope.names []) C X.env
 outer:=X.stack
 stack:=X.stack
 ex:=ex
 fn:=λ_=>false
 calm:=X.calm
 pn:= []
 xe:=λ_ _=>False
structure aI1(X:Cx)(scope:Scope)(N:List Str)(caps:List (Option Nat)):Prop where
 kind:scope.kind= .function
 cell:∀y∈scope.names,y.2≠ .cell
 names:∀y∈scope.names,y.2= .local->scope.names.lookup y.1=some .local
 free:∀y∈scope.names,y.2= .free->X.env.kindOf y.1=some .cell\/X.env.kindOf y.1=some .free
 frees:∀y∈scope.names,y.2= .free->scope.names.lookup y.1=some .free
 len:caps.length=N.length
 caps:∀(i j:Nat),caps[i]? =some (some j)->∃x,N[i]? =some x/\X.N[j]? =some x/\(x,NameKind.free)∈scope.names
def W3{α:Type}(caps:List (Option Nat))(σ:List (Option α)):List (Option α):=caps.map λo=>o.bind λj=>(σ[j]?).join
theorem aY1{env:Env}:∀names:List (Str×NameKind),(names.map fun(n,k)=>if (k==NameKind.free&&env.scope.kind == .function&&env.kindOf n==some .cell)then (n,NameKind.cell)else (n,k)).lookup x=
 (names.lookup x).map λk=>if (k==NameKind.free&&env.scope.kind == .function&&env.kindOf x==some .cell)then NameKind.cell else k
 |[]=>rfl
 |(n,k)::r=>by
  have ih:=aY1 (env:=env) (x:=x) r
  rw[zB]
  by_cases hx:x=n
  · subst hx
    dsimp only
    split
    ·rename_i h;simp[yy];simp at h;simp[h]
    ·rename_i h;simp[yy];simp at h;intro a b c;exact absurd c (h a b)
  · have hb:(x==n)=false:=by simpa using hx
    dsimp only
    split
    ·rw[yy,yy,hb];exact ih
    ·rw[yy,yy,hb];exact ih
section
variable{X:Cx}{scope:Scope}{N:List Str}{caps:List (Option Nat)}
theorem aI1.isFree(k:aI1 X scope N caps){x:Str}(h:(relabel scope X.env).names.lookup x=some .cell\/(relabel scope X.env).names.lookup x=some .free):(x,NameKind.free)∈scope.names:=by
 have e:(relabel scope X.env).names.lookup x= (scope.names.lookup x).map λk=>if (k==NameKind.free&&X.env.scope.kind == .function&&X.env.kindOf x==some .cell)then NameKind.cell else k:=aY1 scope.names
 rw[e]at h
 rcases hl:scope.names.lookup x with _|kd
 ·rw[hl]at h;rcases h with h|h<;>exact J6 h
 ·
   rw[hl]at h
   have hm:=yJ hl
   have hn:=k.cell _ hm
   simp only[xF]at h
   cases kd with
   |free=>exact hm
   |cell=>exact absurd rfl hn
   |_=>rcases h with h|h<;>simp at h
theorem aI1.cells(k:aI1 X scope N caps)(ok:X.Ok):∀p∈scope.names,p.2= .free->∃c,X.env.cells.lookup p.1=some c:=λp hp e=>ok.has p.1 (k.free p hp e)
theorem cZ3(I:Inv X pins σ H s)(k:aI1 X scope N caps)(hC:s.heap.objs.size<=C)(hex:∀b∈ex,aN9 X pins H b)(hlt:∀b∈ex,b<s.heap.objs.size):(U9 X scope N C s H ex).Ok where
 mod:=I.ok.mod
 kind:=k.kind
 glob:=I.ok.glob
 blt:=I.ok.blt
 above:=hC
 inj:=λx y c h1 h2=>I.ok.inj x y c (aB3 h1) (aB3 h2)
 has:=λx hx=>by
  have hm:=k.isFree hx
  obtain⟨c,hc⟩:=k.cells I.ok _ hm rfl
  exact bF1 hc _ _ hm
 cab:=λx c h=>by exact O5 h
 hd:=I.ok.hd
 frames:=I.ok.frames
 stk:=.inl rfl
 exf:=λb hb=>⟨zw (zV (hlt b hb) hC),λx c e=>(hex b hb).2.2.2.2.1 x c (aB3 e)⟩
 bs:=I.bs
 bsz:=zC I.ok.bsz I.sz
 noex:=λb o e hb=>by
  rcases (hex b hb).2.2.2.1 with z|z
  ·exact I.ok.noex b o e z
  ·exact absurd (zV (zn (I.ok.bs b o e).1) z) (yx _)
 exfs:=λb hb z=>by
  rcases zu.mp (I.stkSub b z)with e|e
  ·exact(hex b hb).2.1 e
  ·exact(hex b hb).2.2.1 e
 funs:=I.stack
 frf:=I.stkFree
 gd:=I.ok.gd
theorem bV3{σ:List (Option α)}{i:Nat}(h:(W3 caps σ)[i]? =some (some v)):∃j,caps[i]? =some (some j)/\σ[j]? =some (some v):=by
 unfold W3 at h
 rw[zG]at h
 rcases e:caps[i]? with _|o
 ·rw[e]at h;exact J6 h
 ·
   rw[e]at h
   rcases o with _|j
   ·cases h
   ·
     refine⟨j,rfl,?_⟩
     simp only[xF,Option.bind_some,zE]at h
     rcases e2:σ[j]? with _|w
     ·rw[e2]at h;exact J6 h
     ·rw[e2]at h;simp at h;rw[h]
theorem cN6{h₁:Heap}{tk:Nat}(I:Inv X pins σ H s)(k:aI1 X scope N caps)(hC:s.heap.objs.size<C)(hex:∀b∈ex,aN9 X pins H b)(hlt:∀b∈ex,b<s.heap.objs.size)
 (old:∀b o,s.heap.get? b=some o->h₁.get? b=some o) (hns:h₁.Ns C λ_=>none) (hacc:h₁.get? s.heap.objs.size=some {cls:=.type "list",data:=.seq ([]:List zg).toArray 0}):
 Inv (U9 X scope N C s H ex) [] (W3 caps σ) (upd H s.heap.objs.size (.lst [])) {s with heap:=h₁,toks:=tk}:=by
 have hD:H s.heap.objs.size=none:=I.hok.fresh (zo _)
 refine⟨cZ3 I k (yt hC) hex hlt,rfl,I.bare,Un.laid old (zo _) hD,⟨_,hns,λi x v h1 h2 h3=>?_⟩,λx c e=>?_,?_,λx c e=>?_,λp hp=>absurd (show p∈([]:PNS)from hp) (by simp),?_,?_⟩
 · obtain⟨j,e1,e2⟩:=bV3 h2
   obtain⟨y,e3,e4,e5⟩:=k.caps i j e1
   have exy:y=x:=by
    have:some y=some x:=e3.symm.trans h1
    exact zQ this
   subst exy
   have hk:=k.free _ e5 rfl
   obtain⟨m,hn,hl⟩:=I.loc
   obtain⟨u,r,l⟩:=hl j y v e4 e2 (by rcases hk with z|z;exact .inr (.inl z);exact .inr (.inr z))
   refine⟨u,r,.inr ?_⟩
   rcases l with⟨z,_⟩|⟨_,c,ec,hc⟩
   ·rcases hk with z'|z'<;>(rw[z]at z';cases z')
   · refine⟨?_,c,?_,?_⟩
     · rcases h3 with h3|h3|h3
       · exfalso
         have e:(relabel scope X.env).names.lookup y= (scope.names.lookup y).map λk=>if (k==NameKind.free&&X.env.scope.kind == .function&&X.env.kindOf y==some .cell)then NameKind.cell else k:=aY1 scope.names
         have h3':(relabel scope X.env).names.lookup y=some .local:=h3
         rw[e]at h3'
         rw[k.frees _ e5 rfl]at h3'
         simp only[xF]at h3'
         split at h3'<;>cases h3'
       ·exact .inl h3
       ·exact .inr h3
     · obtain⟨c',ec'⟩:=bF1 ec scope.names [] e5
       have:=aB3 ec'
       rw[ec]at this
       cases this
       exact ec'
     · obtain⟨o,ho,hd⟩:=hc
       exact⟨o,old _ _ ho,hd⟩
 · obtain⟨v,o,ho,hd⟩:=I.cell x c (aB3 e)
   exact⟨v,o,old _ _ ho,hd⟩
 · show upd H s.heap.objs.size (.lst []) C=none
   rw[K3 (yd hC)]
   exact I.hok.fresh (yt hC)
 · obtain⟨v,o,ho,hd⟩:=I.cell x c (aB3 e)
   rw[K3 (zw (zn ho))]
   exact I.freeC x c (aB3 e)
 ·exact I.hok.laid old (zo _) ⟨jh _, [],0,.nil,hacc⟩
 · show (W3 caps σ).length=N.length
   unfold W3
   rw[ze];exact k.len
theorem dK2(I:Inv X pins σ H s)(hex:∀b∈ex,aN9 X pins H b)(hC:s.heap.objs.size<C)
 (I':Inv (U9 X scope N C s H ex) pins' X2 H' s') (sb:jx C s'.heap h'):Inv X pins σ H' {s' with heap:=h'}:=by
 have hos:s'.os=s.os:=I'.os
 have hfree:H' C=none:=I'.free
 have neC:∀b o,s.heap.get? b=some o->b≠C:=λb o e z=>by
  have:=zn e
  rw[z]at this
  exact absurd (xU hC this) (yx _)
 have hun:Un (frs X.stack) ex H H' s.heap s'.heap:=I'.base
 have hun2:Un (frs X.stack) ex H H' s.heap h':=by
  refine⟨λb o e n hb hx=>(sb.2 b (neC b o e)).trans (hun.keep b o e n hb hx),λb o e n hb hx=>?_,hun.free,λb o e hx=>?_,hun.tups,hun.frzs,hun.tbls⟩
  · obtain⟨sl,q⟩:=hun.slot b o e n hb hx
    exact⟨sl,(sb.2 b (neC b o e)).trans q⟩
  · obtain⟨o',q⟩:=hun.there b o e hx
    exact⟨o',(sb.2 b (neC b o e)).trans q⟩
 have hok2:HOk X.prog X.w H' h':=λa o e=>by
  have nc:∀c u,H' c=some u->c≠C:=λc u q z=>by rw[z,hfree]at q;exact J6 q
  refine(I'.hok a o e).stay (λb u hb q=>?_) (λ_ q=>q) λ_ _ q=>q
  rcases hb with rfl|hb
  ·exact(sb.2 b (nc b o e)).trans q
  ·exact(sb.2 b (nc b _ hb)).trans q
 obtain⟨hh,g,d,t,os'⟩:=s'
 obtain rfl:os'=s.os:=hos
 have fin:=I.call (d':=d) (t':=t) hun2 hok2 I'.bare λb hb=>⟨(hex b hb).2.2.2.1,(hex b hb).2.1,(hex b hb).2.2.2.2.1,(hex b hb).2.2.2.2.2⟩
 exact fin
end
noncomputable def hide(q:Addr)(H:Hp):Hp:=λb=>if b=q then none else H b
theorem aM2:hide q H q=none:=by unfold hide;rw[if_pos rfl]
theorem X4(h:b≠q):hide q H b=H b:=by unfold hide;rw[if_neg h]
theorem U3(h:hide q H b=some o):b≠q/\H b=some o:=by
 by_cases e:b=q
 ·rw[e,aM2]at h;exact J6 h
 ·rw[X4 e]at h;exact⟨e,h⟩
theorem dN0(h:H q=some o):upd (hide q H) q o=H:=by
 funext b
 by_cases e:b=q
 ·rw[e,U5,h]
 ·rw[K3 e,X4 e]
theorem aT9:hide q (upd H q o)=hide q H:=by
 funext b
 by_cases e:b=q
 ·rw[e,aM2,aM2]
 ·rw[X4 e,X4 e,K3 e]
theorem aW0(h:H q=none):hide q H=H:=by
 funext b
 by_cases e:b=q
 ·rw[e,aM2,h]
 ·rw[X4 e]
section
mutual
theorem d8.sq(k:∀a xs,SqT c.K H a xs->SqT c.K H' a xs):∀ {d} {v},d8 c μ H d v->d8 c μ H' d v
 | .non,_,h=>h
 | .bl _,_,h=>h
 | .int _,_,h=>h
 | .str _,_,h=>h
 | .ty _,_,h=>h
 | .fn _,_,h=>h
 | .ref i,v,h=>by unfold d8 at h ⊢;exact h
 | .tup l,v,h=>by
   unfold d8 at h ⊢
   obtain⟨a,vs,e,q,r⟩:=h
   exact⟨a,vs,e,k _ _ q,t7.sq k r⟩
theorem t7.sq(k:∀a xs,SqT c.K H a xs->SqT c.K H' a xs):∀ {l} {vs},t7 c μ H l vs->t7 c μ H' l vs
 |[],_,h=>h
 |d::ds,vs,h=>by
   unfold t7 at h ⊢
   obtain⟨v,r,e,q,t⟩:=h
   exact⟨v,r,e,d8.sq k q,t7.sq k t⟩
end
theorem aA8.sq(k:∀a xs,SqT c.K H a xs->SqT c.K H' a xs):∀ {l} {vs},aA8 c μ H l vs->aA8 c μ H' l vs
 |[],_,h=>h
 |(_,d)::ds,vs,h=>by
  obtain⟨v,r,e,q,t⟩:=h
  exact⟨v,r,e,d8.sq k q,aA8.sq k t⟩
theorem aM3(hq:H q=some (.lst vs)){K:zi}(a:Addr)(xs:List V)(h:SqT K H a xs):SqT K (hide q H) a xs:=by
 rcases h with(h|⟨o,h⟩)|h
 ·exact .inl (.inl (by rw[X4 (λe=>by rw[e,hq]at h;cases h)];exact h))
 ·exact .inl (.inr ⟨o,by rw[X4 (λe=>by rw[e,hq]at h;cases h)];exact h⟩)
 ·exact .inr h
theorem aN8{K:zi}(a:Addr)(xs:List V)(h:SqT K (hide q H) a xs):SqT K H a xs:=by
 rcases h with(h|⟨o,h⟩)|h
 ·exact .inl (.inl (U3 h).2)
 ·exact .inl (.inr ⟨o,(U3 h).2⟩)
 ·exact .inr h
theorem M5.sq(k:∀a xs,SqT c.K H a xs->SqT c.K H' a xs)(h:M5 c μ H Z7 σ):M5 c μ H' Z7 σ:=⟨h.1,λi d e=>let ⟨v,a,b⟩:=h.2 i d e;⟨v,a,b.sq k⟩⟩
theorem Ext.hide(x:Ext μ H X9 H')(n:q∉μ)(hq:H q=some (.lst vs)):H' q=some (.lst vs)/\q∉X9/\Ext μ (DL.hide q H) X9 (DL.hide q H'):=by
 refine⟨x.oth q _ hq n,λh=>?_,x.pre,λa h1 h2=>?_,λb o e nb=>?_,λb xs e=>?_,λb o u e=>?_⟩
 ·have:=x.new q h n;rw[hq]at this;exact eW8 this
 · by_cases e:a=q
   ·rw[e,aM2]
   ·rw[X4 e];exact x.new a h1 h2
 ·obtain⟨e1,e2⟩:=U3 e;rw[X4 e1];exact x.oth b o e2 nb
 ·obtain⟨e1,e2⟩:=U3 e;rw[X4 e1];exact x.tup b xs e2
 ·obtain⟨e1,e2⟩:=U3 e;rw[X4 e1];exact x.frz b o u e2
theorem Ext.unhide(x:Ext μ H X9 (DL.hide q H')):Ext μ H X9 H':=
 ⟨x.pre,x.new,λb o e n=>(U3 (x.oth b o e n)).2,λb xs e=>(U3 (x.tup b xs e)).2,λb o u e=>(U3 (x.frz b o u e)).2⟩
theorem u9.hide(h:u9 c μ G H)(n:q∉μ)(hq:H q=some (.lst vs)):u9 c μ G (DL.hide q H):=
 ⟨h.len,h.inj,λi o a g m=>by
  have na:a≠q:=λe=>n (by rw[<-e];exact jW m)
  have r:=h.obj i o a g m
  cases o with
  |lst l=>obtain⟨ws,e,r⟩:=r;exact⟨ws,by rw[X4 na];exact e,r.sq (aM3 hq)⟩
  |dct l=>obtain⟨ws,e,r⟩:=r;exact⟨ws,by rw[X4 na];exact e,r.sq (aM3 hq)⟩
  |rod l=>obtain⟨ws,o,e,r⟩:=r;exact⟨ws,o,by rw[X4 na];exact e,r.sq (aM3 hq)⟩
  |rol l=>
    obtain⟨ws,e,r⟩:=r
    refine⟨ws,?_,r.sq (aM3 hq)⟩
    rcases e with⟨o,e⟩|e
    ·exact .inl ⟨o,by rw[X4 na];exact e⟩
    ·exact .inr e⟩
theorem u9.unhide(h:u9 c μ G (DL.hide q H)):u9 c μ G H:=
 ⟨h.len,h.inj,λi o a g m=>by
  have r:=h.obj i o a g m
  cases o with
  |lst l=>obtain⟨ws,e,r⟩:=r;exact⟨ws,(U3 e).2,r.sq aN8⟩
  |dct l=>obtain⟨ws,e,r⟩:=r;exact⟨ws,(U3 e).2,r.sq aN8⟩
  |rod l=>obtain⟨ws,o,e,r⟩:=r;exact⟨ws,o,(U3 e).2,r.sq aN8⟩
  |rol l=>
    obtain⟨ws,e,r⟩:=r
    refine⟨ws,?_,r.sq aN8⟩
    rcases e with⟨o,e⟩|e
    ·exact .inl ⟨o,(U3 e).2⟩
    ·exact .inr e⟩
inductive UH{α:Type}(c:Wc)(q:Addr)(vs:List V)(μ:List Addr)(H:Hp)(K:α->List Addr->DH->Hp->Prop)(a:α)(X9:List Addr)(G':DH)(H':Hp):Prop
 |mk (e:H' q=some (.lst vs)) (n:q∉X9) (h:u9 c X9 G' (DL.hide q H')) (x:Ext μ (DL.hide q H) X9 (DL.hide q H')) (k:K a X9 G' (DL.hide q H'))
theorem d7.unhide{r:Option (Except Str α×DH)}{K:α->List Addr->DH->Hp->Prop}(n:q∉μ)(hq:H q=some (.lst vs))(p:d7 c ZF μ (DL.hide q H) r K):
 d7 c Z μ H r (UH c q vs μ H K):=by
 match r,p with
 |some (.ok a,G'),p=>
   intro X9 H' x h
   obtain⟨e1,e2,e3⟩:=x.hide n hq
   have h2:=h.hide e2 e1
   exact⟨e1,e2,h2,e3,p X9 _ e3 h2⟩
 |some (.error z,G'),p=>
   intro X9 H' x h
   obtain⟨e1,e2,e3⟩:=x.hide n hq
   exact(p X9 _ e3 (h.hide e2 e1)).elim
theorem u9.mem_lt(I:Inv X pins σ H s)(h:u9 (wc X) μ G H)(ha:a∈μ):a<s.heap.objs.size:=by
 obtain⟨i,hi⟩:=JX ha
 have hl:i<G.length:=by rw[<-h.len];exact lt_of_get hi
 have r:=h.obj i G[i] a (zf hl) hi
 rcases e:G[i]with l|l|l|l
 ·rw[e]at r;obtain⟨_,e,_⟩:=r;exact I.hok.lt e
 ·
   rw[e]at r
   obtain⟨ws,e,_⟩:=r
   rcases e with⟨o,e⟩|e
   ·exact I.hok.lt e
   · rcases e with(e|⟨o,e⟩)|⟨o,its,n,e,_⟩
     ·exact J6 e
     ·exact J6 e
     ·exact zn (I.kIn a o e)
 ·rw[e]at r;obtain⟨_,e,_⟩:=r;exact I.hok.lt e
 ·rw[e]at r;obtain⟨_,_,e,_⟩:=r;exact I.hok.lt e
end
def PTs(X:Cx)(ifs:List Expr)(t:TT):Prop:=
 ∀(pins:PNS) (s:zm) (σ:St) (H:Hp) (Q:Bool->Hp->Prop),Inv X pins σ H s->t σ H Q->
  zt (zz X.prog X.w) X.A (forIn ifs true λc r=>if r=true then do let ok <-isTrue c X.env (eval c X.env);pure (ForInStep.yield ok)else pure (ForInStep.yield r)) (TP X pins σ Q) X.xe s
structure DTs(X:Cx)(Z:XC)(ifs:List Expr)(f:DSt->M Bool):Prop where
 h:PTs X ifs (bO2 (wc X) Z f)
def aC8:DSt->M Bool:=λ_=>pure true
theorem eB3:DTs X Z [] aC8:=⟨λpins s σ H Q I hE0=>hE0.elim λZ7 μ G sr h p=>wpAny_tests_nil ⟨H,I,d7.ok p h⟩⟩
theorem dV7(h:DT X Z c t):DTs X Z [c] t:=⟨λpins s σ H Q I q=>wpAny_tests_one (h.h pins s σ H Q I q)⟩
def N6(g:Fg)(t:DSt->M Bool)(e:Fe)(ck:DH->Bool):List D->DSt->M (List D)
 |[]=>λ_ G=>if ck G then some (.ok [],G)else none
 | d :: r => λσ G => if ck G then (do
    let W1 <-g d σ
    if <-t W1 then do
     let y <-e W1
     let ys <-N6 g t e ck r W1
     pure (y::ys)
    else N6 g t e ck r W1:M (List D)) G else none
def R0(it:DSt->M Src)(caps:List (Option Nat))(g:Fg)(t:DSt->M Bool)(e:Fe):Fe:=λσ=>do
 let s <-it σ
 if s.items.length<=zl then do
  let ys <-noX (N6 g t e s.ck s.items (W3 caps σ))
  Q5 (.lst ys)
 else M.stuck
theorem dA5(h:M5 c μ H Z7 σ):M5 c μ H (W3 caps Z7) (W3 caps σ):=by
 refine⟨by simp[W3],λi d e=>?_⟩
 obtain⟨j,e1,e2⟩:=bV3 e
 obtain⟨v,e3,r⟩:=h.2 j d e2
 refine⟨v,?_,r⟩
 unfold W3
 rw[zG,e1]
 simp[e3]
section
set_option maxHeartbeats 1000000 in
def CKV(c:Wc)(Q:VK)(d:D)(X9:List Addr)(_:DH)(H':Hp):Prop:=∀v,d8 c X9 H' d v->Q v H'
def CKR(c:Wc)(Z:XC)(Q:VK)(ys Q9:List D)(μ:List Addr)(G:DH)(H:Hp):Prop:=d7 c Z μ H (Q5 (.lst (ys++Q9)) G) (CKV c Q)
def eH8(gg:Fg)(tt:DSt->M Bool)(fe:Fe)(ck:DH->Bool)(items:List D)(σ:DSt)(y:D):M (List D):=do let ys <-N6 gg tt fe ck items σ;pure (y::ys)
def cX5(gg:Fg)(tt:DSt->M Bool)(fe:Fe)(ck:DH->Bool)(items:List D)(σ:DSt)(b:Bool):M (List D):=if b=true then (do let y <-fe σ;let ys <-N6 gg tt fe ck items σ;pure (y::ys))else N6 gg tt fe ck items σ
def eU8(gg:Fg)(tt:DSt->M Bool)(fe:Fe)(ck:DH->Bool)(items:List D)(σ:DSt):M (List D):=do if <-tt σ then do {let y <-fe σ;let ys <-N6 gg tt fe ck items σ;pure (y::ys)}else N6 gg tt fe ck items σ
inductive CG(X:Cx)(Z:XC)(Q:VK)(vs:List V)(DD:Addr)(ys:List D)(X9:List Addr)(H5:Hp)(m:DSt->M (List D))(WU:St)(H6:Hp):Prop
 |mk (WV:DSt) (μ6:List Addr) (G6:DH) (s:M5 (wc X) μ6 H6 WV WU) (h:u9 (wc X) μ6 G6 H6) (u:UH (wc X) DD vs X9 H5 (λZ7 μ G H=>d7 (wc X) ZF μ H (m Z7 G) (CKR (wc X) Z Q ys)) WV μ6 G6 H6)
inductive CT(X:Cx)(Z:XC)(Q:VK)(vs:List V)(DD:Addr)(ys:List D)(WV:DSt)(WU:St)(μ6:List Addr)(H6:Hp)(m:Bool->M (List D))(b:Bool)(H7:Hp):Prop
 |mk (WR:List Addr) (G7:DH) (s:M5 (wc X) WR H7 WV WU) (h:u9 (wc X) WR G7 H7) (u:UH (wc X) DD vs μ6 H6 (λb μ G H=>d7 (wc X) ZF μ H (m b G) (CKR (wc X) Z Q ys)) b WR G7 H7)
inductive CE(X:Cx)(Z:XC)(Q:VK)(vs:List V)(DD:Addr)(ys:List D)(WV:DSt)(WU:St)(WR:List Addr)(H7:Hp)(m:D->M (List D))(v:V)(H8:Hp):Prop
 |mk (y:D) (μ8:List Addr) (G8:DH) (r:d8 (wc X) μ8 H8 y v) (s:M5 (wc X) μ8 H8 WV WU) (h:u9 (wc X) μ8 G8 H8) (u:UH (wc X) DD vs WR H7 (λy μ G H=>d7 (wc X) ZF μ H (m y G) (CKR (wc X) Z Q ys)) y μ8 G8 H8)
inductive eR7(Y:Cx)(Z:XC)(Q:VK)(gg:Fg)(tt:DSt->M Bool)(fe:Fe)(src:Src)(fp:List Addr)(tn:Nat->Heap->Prop)(DD:Addr)(WZ:List Addr)(H2:Hp)(n:Nat)(s':zm):Prop
 |mk (i:Nat) (ys:List D) (vs:List V) (X2:St) (H':Hp) (WW:DSt) (X9:List Addr) (G':DH) (e:n=src.items.length-i) (hi:i<=src.items.length) (hv:vs.length<=i)
    (I:Inv Y [] X2 H' s') (st:tn i s'.heap) (fr:∀b∈fp,H' b=none) (hs:H' DD=some (.lst vs)) (nD:DD∉X9)
    (x:Ext WZ H2 X9 (hide DD H')) (h:u9 (wc Y) X9 G' (hide DD H')) (sr:M5 (wc Y) X9 (hide DD H') WW X2) (rl:t7 (wc Y) X9 (hide DD H') ys vs)
    (p:d7 (wc Y) ZF X9 (hide DD H') (N6 gg tt fe src.ck (src.items.drop i) WW G') (CKR (wc Y) Z Q ys))
theorem dC1{Y:Cx}{Q:VK}{src:Src}{tn:Nat->Heap->Prop}{DD it:Addr}{H2:Hp}{J:It}{R:Result->zm->Prop}(hcX:Y.calm=true)(hg:DG Y ZF tg gg)(ht:DTs Y ZF ifs tt)(he:DE Y ZF elt fe)(T:bW3 Y.prog Y.w Y.K tg J fp it tn)
 (fpX:∀(H':Hp) (b:Addr),b∈fp->H' b=none->aN9 Y [] H' b) (hJ:ItD (wc Y) WZ H2 J src) (hlen:src.items.length<=zl) (fin:∀(H':Hp) (X2:St) (s4:zm),Inv Y [] X2 H' s4->Q (.ref DD) H'->R (.ok .next) s4) (n:Nat) (s':zm) (h:eR7 Y Z Q gg tt fe src fp tn DD WZ H2 n s') {NX:zm->Prop} (nx:∀m s,m<n->eR7 Y Z Q gg tt fe src fp tn DD WZ H2 m s->NX s):
 zt (zz Y.prog Y.w) Y.A (Zi (.ref it)) (λr X0=>match r with
  |none=>R (.ok .next) X0
  | some v => zt (zz Y.prog Y.w) Y.A (xP tg (.ref it) v) (λ_ s₁' => zt (zz Y.prog Y.w) Y.A (Yw tg Y.env v) (λ_ s₂ =>
     zt (zz Y.prog Y.w) Y.A (forIn ifs true λc r=>if r=true then do let ok <-isTrue c Y.env (eval c Y.env);pure (ForInStep.yield ok)else pure (ForInStep.yield r)) (λok s₃=>
      if ok=true then zt (zz Y.prog Y.w) Y.A (eval elt Y.env) (λx s₄=>
       zt (zz Y.prog Y.w) Y.A (call (.builtin "list.append") [.ref DD,x]) (λ_ s₅=>NX s₅) Y.xe s₄) Y.xe s₃
      else NX s₃) Y.xe s₂) Y.xe s₁') Y.xe X0) Y.xe s':=by
 obtain⟨i,ys,vs,X2,H',WW,X9,G',rfl,hi',hvl,I',st',fr',hvs,nD',x',h',sr',rl,p'⟩:=h
 by_cases hlt:i<src.items.length
 · rw[yB hlt]at p'
   unfold N6 at p'
   split at p'
   case isFalse=>exact p'.elim
   rename_i ck
   obtain⟨q1,_⟩:=hJ X9 G' H' x'.unhide h'.unhide ck i
   obtain⟨go,yl⟩:=q1 _ (zf hlt)
   refine thn (T.item (Y) rfl rfl rfl hcX i [] s' X2 H' Y.xe I' (λb hb=>fpX H' b hb (fr' b hb)) st' go) λr s4 z4=>?_
   obtain⟨u,rfl,h4⟩:=z4
   refine thn h4 λ_ s5 z5=>?_
   obtain⟨x,H5,I5,r5,y5,st5,fr5⟩:=z5
   obtain⟨k5,h5,rx5⟩:=yl x H5 y5
   obtain⟨e5,n5,k5'⟩:=k5.hide nD' hvs
   have I5':=I5.pinned (λb hb=>fpX H5 b hb (fr5 b hb)) (T.obj _ _ st5)
   have keepIt:∀ {WT:St} {H7:Hp} {s7:zm},Inv (Y) ([]++bL8 fp s5.heap) WT H7 s7->Inv (Y) [] WT H7 s7/\tn (i+1) s7.heap/\∀b∈fp,H7 b=none:=λ{WT H7 s7} I7=>by
    refine⟨I7.unpinned,T.keep _ _ _ st5 λb hb o e=>(I7.pin (b,o) (zF _ (zF _ (aE6 hb e)))).1,λb hb=>?_⟩
    obtain⟨o,e,d⟩:=T.obj _ _ st5 b hb
    exact(I7.pin (b,o) (zF _ (zF _ (aE6 hb e)))).2.1
   have p5:=d7.unhide (Z:=ZF) n5 e5 (d7.bind (p'.from k5'))
   refine thn (hg.h _ s5 X2 H5 x u _ I5' r5 ⟨_,WW,X9,G',rx5,(sr'.mono k5').sq aN8,h5,p5.mono λWV μ6 G6 H6 x6 h6 q6 WU sr6=>(⟨WV,μ6,G6,sr6,h6,q6⟩:CG Y Z Q vs DD ys X9 H5 (eU8 gg tt fe src.ck (src.items.drop (i+1))) WU H6)⟩) λ_ s6 z6=>?_
   obtain⟨WU,H6,I6,WV,μ6,G6,sr6,h6,e6,n6,hh6,x6,p6⟩:=z6
   have p6':=d7.unhide (Z:=ZF) n6 e6 (d7.bind p6)
   refine thn (ht.h _ s6 WU H6 (CT Y Z Q vs DD ys WV WU μ6 H6 (cX5 gg tt fe src.ck (src.items.drop (i+1)) WV)) I6 ⟨WV,μ6,G6,sr6,h6,p6'.mono λb WR G7 H7 x7 h7 q7=>⟨WR,G7,sr6.mono x7,h7,q7⟩⟩) λb s7 z7=>?_
   obtain⟨H7,I7,WR,G7,sr7,h7,e7,n7,hh7,x7,p7⟩:=z7
   unfold cX5 at p7
   have x27:Ext WZ H2 WR (hide DD H7):=x'.trans (k5'.trans (x6.trans x7))
   have rl7:t7 (wc Y) WR (hide DD H7) ys vs:=rl.mono (k5'.trans (x6.trans x7))
   rcases b with _|_
   ·
     rw[if_neg jm]at p7 ⊢
     obtain⟨I8,st8,fr8⟩:=keepIt I7
     exact nx _ _ (Yz _ _ hlt) ⟨i+1,ys,vs,WU,H7,WV,WR,G7,rfl,hlt,Nat.le_succ_of_le hvl,I8,st8,fr8,e7,n7,x27,hh7,sr7.sq (aM3 e7),rl7,p7⟩
   ·
     rw[if_pos rfl]at p7 ⊢
     have p7':=d7.unhide (Z:=ZF) n7 e7 (d7.bind p7)
     refine thn (he.h _ s7 WU H7 (CE Y Z Q vs DD ys WV WU WR H7 (eH8 gg tt fe src.ck (src.items.drop (i+1)) WV)) I7 ⟨WV,WR,G7,sr7,h7,p7'.mono λy μ8 G8 H8 x8 h8 q8 v rv=>⟨y,μ8,G8,rv,sr7.mono x8,h8,q8⟩⟩) λyu s8 z8=>?_
     obtain⟨yv,H8,I8,ry,y,μ8,G8,ryd,sr8,h8,e8,n8,hh8,x8,p8⟩:=z8
     unfold eH8 at p8
     refine thn (bT8 _ s8 WU H8 (.ref DD) [yv] (.ref DD) [yu] (λ_ H9=>H9=upd H8 DD (.lst (vs++[yv]))) I8 rfl (.cons ry .nil) ⟨DD,vs,yv,rfl,rfl,e8,by lia,rfl⟩) λ_ s9 z9=>?_
     obtain⟨_,H9,I9,_,rfl⟩:=z9
     obtain⟨I10,st10,fr10⟩:=keepIt I9
     have hd9:hide DD (upd H8 DD (.lst (vs++[yv])))=hide DD H8:=aT9
     refine nx _ _ (Yz _ _ hlt) ⟨i+1,ys++[y],vs++[yv],WU,_,WV,μ8,G8,rfl,hlt,by rw[zM];exact Nat.succ_le_succ hvl,I10,st10,fr10,U5,n8,?_,?_,?_,?_,?_⟩
     ·rw[hd9];exact x27.trans x8
     ·rw[hd9];exact hh8
     ·rw[hd9];exact sr8.sq (aM3 e8)
     ·rw[hd9];exact(rl7.mono x8).append ⟨yv, [],rfl,ryd.sq (aM3 e8),rfl⟩
     · rw[hd9]
       refine(d7.bind p8).mono λQ9 μ'' G'' H'' x'' h'' q''=>?_
       have q3:=d7.ok q'' h''
       show d7 (wc Y) Z μ'' H'' (Q5 (.lst (ys++[y]++Q9)) G'') (CKV (wc Y) Q)
       rw[yG]
       exact q3
 · have e:i=src.items.length:=by lia
   subst e
   rw[List.drop_length]at p'
   unfold N6 at p'
   split at p'
   case isFalse=>exact p'.elim
   rename_i ck
   obtain⟨_,q2⟩:=hJ X9 G' H' x'.unhide h'.unhide ck src.items.length
   refine thn (T.done (Y) rfl rfl rfl hcX src.items.length [] s' X2 H' Y.xe I' (λb hb=>fpX H' b hb (fr' b hb)) st' (q2 (zo _))) λr s4 ⟨hr,I4⟩=>?_
   subst hr
   have p9:d7 (wc Y) Z X9 (hide DD H') (Q5 (.lst (ys++[])) G') (CKV (wc Y) Q):=d7.ok p' h'
   rw[yZ]at p9
   have q9:=Z1 (q:=DD) h' rl p9 aM2
   rw[dN0 hvs]at q9
   exact fin H' X2 s4 I4 q9
theorem bT7{use:Option (zg->Sem Unit)}{Q:VK}{ps:Pos}{pins:PNS}{s:zm}{σ:St}{H:Hp}{Z7:DSt}{G:DH}(hc:X.calm=true)(hi:DI X Z tg iter it)(k:aI1 X scope N caps)
 (hg:∀C s H ex,DG (U9 X scope N C s H ex) ZF tg gg) (ht:∀C s H ex,DTs (U9 X scope N C s H ex) ZF ifs tt) (he:∀C s H ex,DE (U9 X scope N C s H ex) ZF elt fe)
 (hs:∀x,yK iter X.env x=pure x) (I:Inv X pins σ H s) (sr:M5 (wc X) μ H Z7 σ) (hr:u9 (wc X) μ G H) (p:d7 (wc X) Z μ H (R0 it caps gg tt fe Z7 G) λd X9 _ H'=>∀v,d8 (wc X) X9 H' d v->Q v H')
 (fin:∀(DD C:Addr) (s4:zm) (H':Hp) m (o:Flow),s4.heap.Ns C m->(∀h'',jx C s4.heap h''->Inv X pins σ H' {s4 with heap:=h''})->H' C=none->(∀H9:Hp,H9 C=none->aN9 X pins H9 C)->Q (.ref DD) H'->compPost (zz X.prog X.w) X.A X.xe use PQ (.ref DD) C (.ok o) s4):
 zt (zz X.prog X.w) X.A (comprehension (.ListComp elt [⟨tg,iter,ifs,0⟩] scope pos) scope X.env ps (newList []) false (eval iter X.env) use) PQ X.xe s:=by
 replace p:d7 (wc X) Z μ H (R0 it caps gg tt fe Z7 G) (CKV (wc X) Q):=p
 have p1:=d7.bind p
 refine wpAny_comprehension_free rfl hs (bE0 (k.cells I.ok)) k.kind k.names ?_
 refine thn (hi.h pins s σ H (λJ H1=>∃src X1 G1,Ext μ H X1 H1/\u9 (wc X) X1 G1 H1/\ItD (wc X) X1 H1 J src/\
  d7 (wc X) Z X1 H1 ((if src.items.length<=zl then (do let ys <-noX (N6 gg tt fe src.ck src.items (W3 caps Z7));Q5 (.lst ys))else M.stuck:M D) G1) (CKV (wc X) Q))
  I ⟨Z7,μ,G,sr,hr,p1.mono λsrc X1 G1 H1 x1 h1 p1 J hJ=>⟨src,X1,G1,x1,h1,hJ,p1⟩⟩) λv s1 q1=>thn q1 λitv s2 q2=>?_
 obtain⟨itA,fp,tn,J,H2,rfl,I2,T,st2,f2,src,WZ,G2,x2,h2,hJ,p2⟩:=q2
 split at p2
 case isFalse=>exact p2.elim
 rename_i hlen
 have hfp:∀b∈fp,b<s2.heap.objs.size:=λb hb=>by obtain⟨o,e,_⟩:=T.obj _ _ st2 b hb;exact zn e
 refine xt (wpAny_newFunctionEnv k.cell (by intro y hy;simp at hy) (λh₁ hns₁ hsb₁=>?_) k.kind)
 dsimp only at hns₁ hsb₁ ⊢
 generalize hHP:s2.heap.push {cls:=.type "list",dict:=none,data:=.seq ([]:List zg).toArray}=HP at hns₁ hsb₁ ⊢
 have hC:HP.objs.size=s2.heap.objs.size+1:=by rw[<-hHP,Zr]
 have hCl:s2.heap.objs.size<HP.objs.size:=by rw[hC];exact xy _
 have hDC:s2.heap.objs.size≠HP.objs.size:=zw hCl
 have old:∀b o,s2.heap.get? b=some o->h₁.get? b=some o:=λb o e=>hsb₁.extBut b o (by have:=zn e;exact zw (xU this hCl)) (zh _ (hHP▸zh _ e))
 have hacc:h₁.get? s2.heap.objs.size=some {cls:=.type "list",data:=.seq ([]:List zg).toArray 0}:=hsb₁.extBut _ _ hDC (zh _ (hHP▸zp _ rfl))
 have hD:H2 s2.heap.objs.size=none:=I2.hok.fresh (zo _)
 have nD:s2.heap.objs.size∉WZ:=λz=>yx _ (h2.mem_lt I2 z)
 have st1:tn 0 h₁:=T.keep _ _ _ st2 λb _ o e=>old b o e
 have fpX:∀(H':Hp) (b:Addr),b∈fp->H' b=none->aN9 (U9 X scope N HP.objs.size s2 H2 fp) [] H' b:=λH' b hb hn=>
  ⟨hn,zw (xU (hfp b hb) hCl),λz=>by
   rcases zu.mp (I2.stkSub b z)with e|e
   ·exact(f2 b hb).2.1 e
   ·exact(f2 b hb).2.2.1 e,.inl hb,λx c e=>(f2 b hb).2.2.2.2.1 x c (aB3 e),λp hp=>absurd (show p∈([]:PNS)from hp) (by simp)⟩
 have hcX:(U9 X scope N HP.objs.size s2 H2 fp).calm=true:=hc
 have p3:=bN5 (d7.bind p2)
 generalize hDD:s2.heap.objs.size=DD at *
 have loop:∀s₃:zm,s₃= {s2 with heap:=h₁,toks:=s2.toks+([]:List (Str×zg)).length}->
  xQ (zz X.prog X.w) X.A (.compLoop (.ListComp elt [⟨tg,iter,ifs,0⟩] scope pos) 0 (.ref itA) (.ref DD) (compEnvC scope (aQ0 X.env scope.names []) HP.objs.size X.env))
   (compPost (zz X.prog X.w) X.A X.xe use PQ (.ref DD) HP.objs.size) s₃:=by
  rintro s₃ rfl
  refine bW2 (eR7 (U9 X scope N HP.objs.size s2 H2 fp) Z Q gg tt fe src fp tn DD WZ H2) (λn s' h=>dC1 hcX (hg _ _ _ _) (ht _ _ _ _) (he _ _ _ _) T fpX hJ hlen (λH' X2 s4 I4 q9=>?_) n s' h λm s h1 h2=>⟨m,h1,h2⟩) src.items.length
   ⟨0, [], [],W3 caps σ,upd H2 DD (.lst []),W3 caps Z7,WZ,G2,rfl,jh _,zo _,?_,st1,λb hb=>?_,U5,nD,?_,?_,?_,rfl,?_⟩
  · obtain⟨m,hn,_⟩:=I4.loc
    exact fin DD HP.objs.size s4 H' m _ hn (λh'' sb=>dK2 I2 (λb hb=>f2 b hb) (by rw[hDD];exact hCl) I4 sb) I4.free (λH9 hn9=>I2.fpOk (by rw[hDD];exact yt hCl) hn9) q9
  · have:=cN6 (tk:=s2.toks+([]:List (Str×zg)).length) I2 k (by rw[hDD];exact hCl) f2 (λb hb=>by rw[hDD];exact hfp b hb) old hns₁ (by rw[hDD];exact hacc)
    rw[hDD]at this
    exact this
  ·rw[K3 (zw (hfp b hb))];exact(f2 b hb).1
  ·rw[aT9,aW0 hD];exact Ext.refl _ _
  ·rw[aT9,aW0 hD];exact h2
  ·rw[aT9,aW0 hD];exact dA5 (sr.mono x2)
  · rw[aT9,aW0 hD,List.drop_zero]
    exact p3
 exact codeAny_compStart_list (loop _ rfl) (T.self _ 0 _ _ _ st1 (loop _ rfl))
theorem eD1(hc:X.calm=true)(hi:DI X Z tg iter it)(k:aI1 X scope N caps)
 (hg:∀C s H ex,DG (U9 X scope N C s H ex) ZF tg gg) (ht:∀C s H ex,DTs (U9 X scope N C s H ex) ZF ifs tt) (he:∀C s H ex,DE (U9 X scope N C s H ex) ZF elt fe)
 (hs:∀x,yK iter X.env x=pure x):DE X Z (.ListComp elt [⟨tg,iter,ifs,0⟩] scope pos) (R0 it caps gg tt fe):=⟨by
 intro pins s σ H Q I hE0
 refine hE0.elim λZ7 μ G sr hr p=>?_
 rw[eval_ListComp]
 exact bT7 hc hi k hg ht he hs I sr hr p λDD C s4 H' m o hn fin _ _ q9=>⟨m,hn,λh'' sb=>⟨.ref DD,H',fin h'' sb,rfl,q9⟩⟩⟩
end
noncomputable def R1(r:Nat):M DO:=λG=>match G[r]? with
 |some o=>some (.ok o,G)
 |none=>none
def listOf:DO->M (List D)
 | .lst l=>pure l
 | .rol l=>pure l
 | .dct _=>M.stuck
 | .rod _=>M.stuck
def fO4:D->M (List D)
 | .tup l=>pure l
 | .ref r=>R1 r >>= listOf
 |_=>M.stuck
def aI5{α:Type}:Option α->M α
 |some a=>pure a
 |none=>M.stuck
section
theorem IxR.mono(h:IxR X r)(k:∀x y H Q,r' x y H Q->r x y H Q):IxR X r':=λva sl pins s σ H x y v u Q I rx ry q hs=>h va sl pins s σ H x y v u Q I rx ry (k x y H Q q) hs
theorem O1{f:DO->M α}{K:α->List Addr->DH->Hp->Prop}(p:d7 c Z μ H ((R1 r >>= f) G) K):∃o,G[r]? =some o/\d7 c Z μ H (f o G) K:=by
 rw[M.bind_eq]at p
 unfold R1 at p
 rcases e:G[r]? with _|o
 ·rw[e]at p;exact p.elim
 ·rw[e]at p;exact⟨o,rfl,p⟩
theorem T9{r:Option β}{f:β->M α}{K:α->List Addr->DH->Hp->Prop}(p:d7 c Z μ H ((aI5 r >>= f) G) K):∃o,r=some o/\d7 c Z μ H (f o G) K:=by
 rcases r with _|o
 ·exact p.elim
 ·exact⟨o,rfl,p⟩
theorem aW2{f:List D->M α}{K:α->List Addr->DH->Hp->Prop}(h:u9 c μ G H)(r:d8 c μ H d v)(p:d7 c Z μ H ((fO4 d >>= f) G) K):
 ∃l a vs,v= .ref a/\t7 c μ H l vs/\d7 c Z μ H (f l G) K/\((d= .tup l/\SqT c.K H a vs)\/(∃i,d= .ref i/\μ[i]? =some a/\((G[i]? =some (.lst l)/\H a=some (.lst vs))\/(G[i]? =some (.rol l)/\RoL c.K H a vs)))):=by
 rcases d with _|_|_|_|l|i|_|_<;>try (exact p.elim;done)
 ·
   unfold d8 at r
   obtain⟨a,vs,e,q,rl⟩:=r
   exact⟨l,a,vs,e,rl,p,.inl ⟨rfl,q⟩⟩
 ·
   unfold d8 at r
   obtain⟨a,m,e⟩:=r
   have p':d7 c Z μ H ((R1 i >>= λo=>listOf o >>= f) G) K:=by rw[<-M.bind_assoc];exact p
   obtain⟨o,g,p2⟩:=O1 p'
   have ro:=h.obj i o a g m
   rcases o with l|l|l|l
   ·obtain⟨vs,q,rl⟩:=ro;exact⟨l,a,vs,e,rl,p2,.inr ⟨i,rfl,m,.inl ⟨g,q⟩⟩⟩
   ·obtain⟨vs,q,rl⟩:=ro;exact⟨l,a,vs,e,rl,p2,.inr ⟨i,rfl,m,.inr ⟨g,q⟩⟩⟩
   ·exact p2.elim
   ·exact p2.elim
theorem aG6(r:d8 c μ H (.int i) v):v= .int i:=by unfold d8 at r;exact r
theorem aQ2(r:d8 c μ H (.str i) v):v= .str i:=by unfold d8 at r;exact r
theorem bR3(r:d8 c μ H (.bl i) v):v= .bl i:=by unfold d8 at r;exact r
theorem dM8(r:d8 c μ H .non v):v= .non:=by unfold d8 at r;exact r
theorem ofI:d8 c μ H (.int i) (.int i):=by unfold d8;rfl
theorem ofS:d8 c μ H (.str i) (.str i):=by unfold d8;rfl
theorem ofB:d8 c μ H (.bl i) (.bl i):=by unfold d8;rfl
theorem ofN:d8 c μ H .non .non:=by unfold d8;rfl
def cL5(g:Int->Int->M D):D->D->M D:=λx y=>match x,y with
 | .int i,.int j=>g i j
 |_,_=>M.stuck
theorem bW8[∀i j,Decidable (C i j)]{g:Int->Int->Int}(h:OpR X f (rI C λi j=>.int (g i j))):OpD X Z f (cL5 λi j=>if C i j then pure (.int (g i j))else M.stuck):=
 OpD.of h λx y H Q hE0=>hE0.elim λdx dy μ G rx ry hr p=>by
  rcases dx with _|_|_|_|_|_|_|_<;>rcases dy with _|_|_|_|_|_|_|_<;>first
   |exact p.elim
   |skip
  rename_i i j
  unfold cL5 at p
  dsimp only at p
  split at p
  · rename_i hc
    exact⟨i,j,aG6 rx,aG6 ry,hc,d7.ok p hr _ ofI⟩
  ·exact p.elim
theorem dT8{g:Int->Int->Int}(h:OpR X f (rI0 λi j=>.int (g i j))):OpD X Z f (cL5 λi j=>pure (.int (g i j))):=
 OpD.of h λx y H Q hE0=>hE0.elim λdx dy μ G rx ry hr p=>by
  rcases dx with _|_|_|_|_|_|_|_<;>rcases dy with _|_|_|_|_|_|_|_<;>first
   |exact p.elim
   |exact⟨_,_,aG6 rx,aG6 ry,d7.ok p hr _ ofI⟩
def aO1:D->D->M D:=cL5 λi j=>pure (.int (i-j))
theorem eX0:OpD X Z (ya .Sub) aO1:=dT8 dL4
noncomputable instance (i j:Int):Decidable (bA1 i j):=by unfold bA1;infer_instance
noncomputable def bR8(_ j:Int):Prop:=0<j/\j<2 ^ 100
noncomputable instance (i j:Int):Decidable (bR8 i j):=by unfold bR8;infer_instance
theorem dH6:OpR X (ya .FloorDiv) (rI bR8 λi j=>.int (i / j)):=opI λi j _ _ _ _ _ hc q=>by
 have h1:(0:Int)<j:=hc.1
 have h2:j<2 ^ 100:=hc.2
 refine floordiv_int (by lia) (by rw[Int.fdiv_eq_ediv_of_nonneg i (by lia)];exact q) (.inl (PyProof.noPylong_of_log2 ?_))
 have h3:j.natAbs<2 ^ 100:=by lia
 have h4:j.natAbs≠0:=by lia
 have:=(Nat.log2_lt h4).mpr h3
 lia
def O6:D->D->M D:=cL5 λi j=>if bR8 i j then pure (.int (i / j))else M.stuck
theorem eA2:OpD X Z (ya .FloorDiv) O6:=bW8 dH6
def K5:D->D->M D:=cL5 λi j=>if 0<j then pure (.int (i % j))else M.stuck
theorem eU4:OpD X Z (ya .Mod) K5:=bW8 eO0
noncomputable instance (i j:Int):Decidable (cC2 i j):=by unfold cC2;infer_instance
def cM8:D->D->M D:=cL5 λi j=>if cC2 i j then pure (.int (i ^ j.toNat))else M.stuck
theorem eX6:OpD X Z (ya .Pow) cM8:=bW8 dI4
theorem dH1{w:jg}{s:zm}{t b:Addr}{ws:List zg}(ht:YE s.heap t #[])(hb:YE s.heap b ws.toArray)
 (h1:Q (.ref b) s):zt (zz prog w) A (ya .Add (.ref t) (.ref b)) Q E s:=by
 obtain⟨⟨cls,dd,data,sl⟩,ho,hc,n,hd⟩:=id ht
 obtain⟨⟨cls2,dd2,data2,sl2⟩,ho2,hc2,n2,hd2⟩:=id hb
 simp only at hc hd hc2 hd2
 subst hc hd hc2 hd2
 exact concat_meets ⟨_,ho,rfl⟩ ⟨_,ho2,rfl⟩ XY seq_tuple_add ZC Zx (Zt _ _)
  (tuple_addW0 t b #[] ws.toArray n n2 dd dd2 sl sl2 (by simp)) ⟨ho,ho2,h1⟩
def eS5(K:zi):R2:=λx y H Q=>∃a b ys,x= .ref a/\y= .ref b/\SqT K H a []/\SqT K H b ys/\Q (.ref b) H
theorem dL7:OpR X (ya .Add) (eS5 X.K):=by
 intro pins s σ H x y v u Q I rx ry h
 obtain⟨a,b,ys,rfl,rfl,ha,hb,q⟩:=h
 cases rx
 cases ry
 obtain⟨its,r,p,_⟩:=I.tuple ha
 obtain⟨its2,r2,p2,_⟩:=I.tuple hb
 cases r
 exact dH1 p p2 ⟨.ref b,H,I,rfl,q⟩
def aP1:D->D->M D:=λx y=>match x,y with
 | .int i,.int j=>pure (.int (i+j))
 | .str a,.str b=>if a.length+b.length<=zl then pure (.str (a++b))else M.stuck
 | .tup a,.tup b=>if a.length+b.length<=zl then pure (.tup (a++b))else M.stuck
 | .ref i,.ref j=>do
   match <-R1 i,<-R1 j with
   | .lst a,.lst b=>if a.length+b.length<=zl then Q5 (.lst (a++b))else M.stuck
   |_,_=>M.stuck
 |_,_=>M.stuck
theorem bD4{Q:VK}(h:u9 c μ G H)(q:SqT c.K H a vs)(r:t7 c μ H xs vs)
 (p:d7 c Z μ H (some (Except.ok (.tup xs),G)) λd X9 _ H'=>∀v,d8 c X9 H' d v->Q v H'):Q (.ref a) H:=d7.ok p h _ (by unfold d8;exact⟨a,vs,rfl,q,r⟩)
theorem eX5:OpD X Z (ya .Add) aP1:=
 OpD.of (OpR.or eN7 (OpR.or cN0 (OpR.or eH2 (OpR.or dL7 eR0)))) λx y H Q hE0=>hE0.elim λdx dy μ G rx ry hr p=>by
  rcases dx with _|_|_|_|_|_|_|_<;>rcases dy with _|_|_|_|_|_|_|_<;>first
   |exact p.elim
   |skip
  ·exact .inl ⟨_,_,aG6 rx,aG6 ry,d7.ok p hr _ ofI⟩
  · rename_i a b
    refine .inr (.inl ?_)
    unfold aP1 at p
    dsimp only at p
    split at p
    · rename_i hz
      exact⟨a,b,aQ2 rx,aQ2 ry,hz,d7.ok p hr _ ofS⟩
    ·exact p.elim
  · rename_i a b
    unfold d8 at rx ry
    obtain⟨ax,vx,rfl,qx,lx⟩:=rx
    obtain⟨ay,vy,rfl,qy,ly⟩:=ry
    unfold aP1 at p
    dsimp only at p
    split at p
    · rename_i hz
      by_cases hv:vx= []
      · subst hv
        rcases a with _|⟨_,_⟩
        ·exact .inr (.inr (.inr (.inl ⟨ax,ay,vy,rfl,rfl,qx,qy,bD4 hr qy ly p⟩)))
        ·obtain⟨_,_,z,_⟩:=lx;cases z
      · refine .inr (.inr (.inl ⟨ax,ay,vx,vy,rfl,rfl,qx,qy,hv,by rw[<-lx.length,<-ly.length];exact hz,?_⟩))
        refine⟨λhy=>?_,λhy q hq=>bB6 hr (lx.append ly) p q hq⟩
        subst hy
        refine bD4 hr qx ?_ p
        rcases b with _|⟨_,_⟩
        ·rw[yZ];exact lx
        ·obtain⟨_,_,z,_⟩:=ly;cases z
    ·exact p.elim
  · rename_i i j
    unfold d8 at rx ry
    obtain⟨ax,mx,rfl⟩:=rx
    obtain⟨ay,my,rfl⟩:=ry
    obtain⟨ox,gx,p⟩:=O1 p
    obtain⟨oy,gy,p⟩:=O1 p
    have hx:=hr.obj i ox ax gx mx
    have hy:=hr.obj j oy ay gy my
    rcases ox with _|_|_|_<;>rcases oy with _|_|_|_<;>first
     |exact p.elim
     |skip
    obtain⟨vx,ex,lx⟩:=hx
    obtain⟨vy,ey,ly⟩:=hy
    dsimp only at p
    split at p
    · rename_i hz
      exact .inr (.inr (.inr (.inr ⟨ax,ay,vx,vy,rfl,rfl,ex,ey,by rw[<-lx.length,<-ly.length];exact hz,λq hq=>Z1 hr (lx.append ly) p q hq⟩)))
    ·exact p.elim
end
noncomputable def aG8(G:DH):D->Option (Bool×List D)
 | .tup l=>some (true,l)
 | .ref i=>match G[i]? with
   |some (.lst l)=>some (false,l)
   |some (.rol l)=>some (false,l)
   |_=>none
 |_=>none
noncomputable def aX4:D->Bool
 | .non=>true
 | .bl _=>true
 | .int _=>true
 | .str _=>true
 |_=>false
def eqS:D->D->Option Bool
 | .non,.non=>some true
 | .bl a,.bl b=>some (a==b)
 | .int a,.int b=>some (a==b)
 | .str a,.str b=>some (a==b)
 | .bl a,.int b=>some ((if a then (1:Int)else 0)==b)
 | .int a,.bl b=>some (a==(if b then (1:Int)else 0))
 |x,y=>if aX4 x&&aX4 y then some false else none
noncomputable def eqL(f:D->D->Option Bool):List D->List D->Option Bool
 |[], []=>some true
 |[],_::_=>some false
 |_::_, []=>some false
 |x::xs,y::ys=>match f x y,eqL f xs ys with
   |some e,some r=>some (e&&r)
   |_,_=>none
def eqN:Nat->DH->D->D->Option Bool
 |0,_,_,_=>none
 |n+1,G,x,y=>match aG8 G x,aG8 G y with
   |some (k1,a),some (k2,b)=>if k1=k2 then (if k1=false/\a.length≠b.length then some false else eqL (eqN n G) a b)else some false
   |some _,none=>if aX4 y then some false else none
   |none,some _=>if aX4 x then some false else none
   |none,none=>eqS x y
theorem cB6:eqN (n+1) G x y=match aG8 G x,aG8 G y with
 |some (k1,a),some (k2,b)=>if k1=k2 then (if k1=false/\a.length≠b.length then some false else eqL (eqN n G) a b)else some false
 |some _,none=>if aX4 y then some false else none
 |none,some _=>if aX4 x then some false else none
 |none,none=>eqS x y:=rfl
theorem cX4:eqL f (x::xs) (y::ys)=match f x y,eqL f xs ys with
 |some e,some r=>some (e&&r)
 |_,_=>none:=rfl
theorem bV0:∀a b r,eqL f a b=some r->(∀j x y,a[j]? =some x->b[j]? =some y->f x y=some (e j))->r= ((zX (min a.length b.length)).all e&&a.length==b.length)
 |[], [],r,h,_=>by cases h;rfl
 |[],_::_,r,h,_=>by cases h;simp
 |_::_, [],r,h,_=>by cases h;simp
 |x::xs,y::ys,r,h,he=>by
   rw[cX4]at h
   have h0:=he 0 x y rfl rfl
   rw[h0]at h
   rcases hr:eqL f xs ys with _|r'
   ·rw[hr]at h;exact J6 h
   ·
     rw[hr]at h
     have ih:=bV0 xs ys r' hr λj x' y' h1 h2=>he (j+1) x' y' (by simpa using h1) (by simpa using h2)
     cases h
     rw[ih]
     have:min (x::xs).length (y::ys).length=min xs.length ys.length+1:=by simp only[zD];lia
     rw[this,yW,yc,ZU]
     simp[Bool.and_assoc,xK]
theorem bO4:∀a b r,eqL f a b=some r->∀(j:Nat) x y,a[j]? =some x->b[j]? =some y->∃e,f x y=some e
 |[],_,_,_,_,_,_,h,_=>by simp at h
 |_::_, [],_,_,_,_,_,_,h=>by simp at h
 |x::xs,y::ys,r,h,j,x',y',h1,h2=>by
   rw[cX4]at h
   rcases hf:f x y with _|e
   ·rw[hf]at h;exact J6 h
   ·
     rcases hr:eqL f xs ys with _|r'
     ·rw[hf,hr]at h;exact J6 h
     ·
       cases j with
       |zero=>simp at h1 h2;subst h1 h2;exact⟨e,hf⟩
       |succ j=>exact bO4 xs ys r' hr j x' y' (by simpa using h1) (by simpa using h2)
section
noncomputable def cK2(s:zm)(k:Bool)(a:Addr)(its:List zg):Prop:=if k then s.heap.IsTuple a its.toArray else s.heap.IsList a its.toArray
theorem aG9(I:Inv X pins σ H s)(h:u9 (wc X) μ G H)(e:aG8 G d=some (k,l))(r:d8 (wc X) μ H d x)(rv:J9 x v):
 ∃a vs its,x= .ref a/\v= .ref a/\t7 (wc X) μ H l vs/\v6 vs its/\cK2 s k a its/\(if k then SqT X.K H a vs else SqL X.K H a vs):=by
 rcases d with _|_|_|_|l'|i|_|_<;>try (cases e;done)
 ·
   unfold aG8 at e
   cases e
   unfold d8 at r
   obtain⟨a,vs,rfl,q,rl⟩:=r
   obtain⟨its,rr,p,_⟩:=I.tuple q
   exact⟨a,vs,its,rfl,rv,rl,rr,p,q⟩
 ·
   have e':(match G[i]? with|some (.lst l)=>some (false,l)|some (.rol l)=>some (false,l)|_=>none)=some (k,l):=e
   unfold d8 at r
   obtain⟨a,m,rfl⟩:=r
   have key:∀vs,SqL X.K H a vs->t7 (wc X) μ H l vs->k=false->∃a' vs its,V.ref a= .ref a'/\v= .ref a'/\t7 (wc X) μ H l vs/\v6 vs its/\cK2 s k a' its/\(if k then SqT X.K H a' vs else SqL X.K H a' vs):=λvs q rl hk=>by
    subst hk
    obtain⟨its,rr,p,_⟩:=I.list q
    exact⟨a,vs,its,rfl,rv,rl,rr,p.isList,q⟩
   generalize g:G[i]? =o at e'
   rcases o with _|l'|l'|_|_<;>cases e'
   · obtain⟨vs,q,rl⟩:=h.obj i _ a g m
     exact key vs (SqL.of q) rl rfl
   · obtain⟨vs,q,rl⟩:=h.obj i _ a g m
     exact key vs q.sq rl rfl
theorem bJ8(hs:aX4 d=true)(r:d8 c μ H d (.ref a)):False:=by
 cases d<;>first
  |exact absurd (show false=true from hs) jm
  |(unfold d8 at r;cases r)
theorem cE8(h:eqS x y=some b):aX4 x=true/\aX4 y=true:=by
 rcases x with _|_|_|_|_|_|_|_<;>rcases y with _|_|_|_|_|_|_|_<;>first
  |exact⟨rfl,rfl⟩
  |(cases h;done)
theorem dP1(h:eqS x y=some b)(rx:d8 c μ H x v)(ry:d8 c μ H y v):b=true:=by
 obtain⟨s1,s2⟩:=cE8 h
 rcases x with _|_|_|_|_|_|_|_<;>rcases y with _|_|_|_|_|_|_|_<;>first
  |(cases s1;done)
  |(cases s2;done)
  |(unfold d8 at rx ry;rw[rx]at ry;cases ry;done)
  |(unfold d8 at rx ry;rw[rx]at ry;cases ry;cases h;first|rfl|simp)
theorem cL7(I:Inv X pins σ H s)(h1:cK2 s k a its)(h2:cK2 s k' a its'):k=k':=by
 cases k<;>cases k'<;>first
  |rfl
  |exact absurd rfl (Jp h1 h2)
  |exact absurd rfl (Jp h2 h1)
theorem cH8:∀l l' vs b,t7 c μ H l vs->t7 c μ H l' vs->(∀d d' v b,v∈vs->d8 c μ H d v->d8 c μ H d' v->f d d'=some b->b=true)->eqL f l l'=some b->b=true
 |[], [],_,b,_,_,_,e=>by cases e;rfl
 |[],_::_,vs,b,r1,r2,_,_=>by cases r1;obtain⟨_,_,z,_⟩:=r2;exact bU9 z
 |_::_, [],vs,b,r1,r2,_,_=>by cases r2;obtain⟨_,_,z,_⟩:=r1;cases z
 |d::ds,d'::ds',vs,b,r1,r2,k,e=>by
   obtain⟨v0,vr,rfl,q0,t0⟩:=r1
   obtain⟨v1,vr',e1,q1,t1⟩:=r2
   cases e1
   rw[cX4]at e
   rcases hf:f d d' with _|e0
   ·rw[hf]at e;exact J6 e
   ·
     rcases hr:eqL f ds ds' with _|r'
     ·rw[hf,hr]at e;exact J6 e
     ·
       rw[hf,hr]at e
       cases e
       have z1:=k d d' v0 e0 zq q0 q1 hf
       have z2:=cH8 ds ds' vr r' t0 t1 (λa a' v b hm=>k a a' v b (zk _ hm)) hr
       rw[z1,z2];rfl
theorem cE0(I:Inv X pins σ H s)(h:u9 (wc X) μ G H):∀n {dx dy} {x} {v} {b},d8 (wc X) μ H dx x->d8 (wc X) μ H dy x->J9 x v->eqN n G dx dy=some b->b=true
 |0,_,_,_,_,_,_,_,_,e=>by exact J6 e
 |n+1,dx,dy,x,v,b,rx,ry,rv,e=>by
   rw[cB6]at e
   rcases hx:aG8 G dx with _|p
   ·
     rw[hx]at e
     rcases hy:aG8 G dy with _|p
     ·rw[hy]at e;exact dP1 e rx ry
     ·
       obtain⟨k,l⟩:=p
       rw[hy]at e
       dsimp only at e
       split at e
       · rename_i hs
         obtain⟨a,_,_,rfl,_⟩:=aG9 I h hy ry rv
         exact(bJ8 hs rx).elim
       ·exact J6 e
   ·
     obtain⟨k,l⟩:=p
     rw[hx]at e
     rcases hy:aG8 G dy with _|p'
     ·
       rw[hy]at e
       dsimp only at e
       split at e
       · rename_i hs
         obtain⟨a,_,_,rfl,_⟩:=aG9 I h hx rx rv
         exact(bJ8 hs ry).elim
       ·exact J6 e
     ·
       obtain⟨k',l'⟩:=p'
       rw[hy]at e
       dsimp only at e
       obtain⟨a,vs,its,rfl,rfl,rl,rr,sq,q⟩:=aG9 I h hx rx rv
       obtain⟨a',vs',its',ea,_,rl',rr',sq',q'⟩:=aG9 I h hy ry rv
       cases ea
       have hk:k=k':=cL7 I sq sq'
       subst hk
       have hvs:vs=vs':=by
        rcases k with _|_
        ·exact I.list_inj q q'
        ·exact I.tuple_inj q q'
       subst hvs
       rw[if_pos rfl,if_neg (by rw[rl.length,rl'.length];simp)]at e
       have hv:∀v∈vs,∃u,J9 v u:=λv hv=>by
        obtain⟨i,hi⟩:=JX hv
        obtain⟨u,_,ru⟩:=rr.get hi
        exact⟨u,ru⟩
       exact cH8 l l' vs b rl rl' (λd d' v b hm r1 r2 ef=>by
        obtain⟨u,ru⟩:=hv v hm
        exact cE0 I h n r1 r2 ru ef) e
theorem eQ3(rx:d8 c μ H dx x)(ry:d8 c μ H dy y)(rv:J9 x v)(ru:J9 y u)(e:eqS dx dy=some b):
 YG A s v u b/\ZJ A s v u (!b)/\jP A s v u b:=by
 obtain⟨s1,s2⟩:=cE8 e
 rcases dx with _|i|i|i|_|_|_|_<;>try (cases s1;done)
 ·
   unfold d8 at rx;subst rx;cases rv
   rcases dy with _|j|j|j|_|_|_|_<;>try (cases s2;done)
   ·unfold d8 at ry;subst ry;cases ru;cases e;exact⟨SeqAt.RcAt.none_none,SeqAt.RcNeAt.none_none,YM _⟩
   ·unfold d8 at ry;subst ry;cases ru;cases e;exact⟨SeqAt.RcAt.none_bool _,SeqAt.RcNeAt.none_bool _,XL _⟩
   ·unfold d8 at ry;subst ry;obtain⟨t,rfl⟩:=ru;cases e;exact⟨SeqAt.RcAt.none_int _ _,SeqAt.RcNeAt.none_int _ _,Je _ _⟩
   ·unfold d8 at ry;subst ry;obtain⟨t,rfl⟩:=ru;cases e;exact⟨SeqAt.RcAt.none_str _ _,SeqAt.RcNeAt.none_str _ _,Jd _ _⟩
 ·
   unfold d8 at rx;subst rx;cases rv
   rcases dy with _|j|j|j|_|_|_|_<;>try (cases s2;done)
   ·unfold d8 at ry;subst ry;cases ru;cases e;exact⟨SeqAt.RcAt.bool_none _,SeqAt.RcNeAt.bool_none _,XM _⟩
   ·unfold d8 at ry;subst ry;cases ru;cases e;exact⟨SeqAt.RcAt.bool_bool _ _,SeqAt.RcNeAt.bool_bool _ _,XO _ _⟩
   ·unfold d8 at ry;subst ry;obtain⟨t,rfl⟩:=ru;cases e;exact⟨SeqAt.RcAt.bool_int _ _ _,SeqAt.RcNeAt.bool_int _ _ _,Ji _ _ _⟩
   ·unfold d8 at ry;subst ry;obtain⟨t,rfl⟩:=ru;cases e;exact⟨SeqAt.RcAt.bool_str _ _ _,SeqAt.RcNeAt.bool_str _ _ _,Jh _ _ _⟩
 ·
   unfold d8 at rx;subst rx;obtain⟨t,rfl⟩:=rv
   rcases dy with _|j|j|j|_|_|_|_<;>try (cases s2;done)
   ·unfold d8 at ry;subst ry;cases ru;cases e;exact⟨SeqAt.RcAt.int_none _ _,SeqAt.RcNeAt.int_none _ _,Jf _ _⟩
   ·unfold d8 at ry;subst ry;cases ru;cases e;exact⟨SeqAt.RcAt.int_bool _ _ _,SeqAt.RcNeAt.int_bool _ _ _,Jg _ _ _⟩
   ·unfold d8 at ry;subst ry;obtain⟨t,rfl⟩:=ru;cases e;exact⟨SeqAt.RcAt.int_int _ _ _ _,SeqAt.RcNeAt.int_int _ _ _ _,Jl _ _ _ _⟩
   ·unfold d8 at ry;subst ry;obtain⟨t,rfl⟩:=ru;cases e;exact⟨SeqAt.RcAt.int_str _ _ _ _,SeqAt.RcNeAt.int_str _ _ _ _,Yd _ _ _ _⟩
 ·
   unfold d8 at rx;subst rx;obtain⟨t,rfl⟩:=rv
   rcases dy with _|j|j|j|_|_|_|_<;>try (cases s2;done)
   ·unfold d8 at ry;subst ry;cases ru;cases e;exact⟨SeqAt.RcAt.str_none _ _,SeqAt.RcNeAt.str_none _ _,Jb _ _⟩
   ·unfold d8 at ry;subst ry;cases ru;cases e;exact⟨SeqAt.RcAt.str_bool _ _ _,SeqAt.RcNeAt.str_bool _ _ _,Jc _ _ _⟩
   ·unfold d8 at ry;subst ry;obtain⟨t,rfl⟩:=ru;cases e;exact⟨SeqAt.RcAt.str_int _ _ _ _,SeqAt.RcNeAt.str_int _ _ _ _,Yc _ _ _ _⟩
   ·unfold d8 at ry;subst ry;obtain⟨t,rfl⟩:=ru;cases e;exact⟨SeqAt.RcAt.str_str _ _ _ _,SeqAt.RcNeAt.str_str _ _ _ _,Jk _ _ _ _⟩
theorem bH1(hu:A.units<yC)(sq:cK2 s k a its)(ry:d8 c μ H dy y)(ru:J9 y u)(hs:aX4 dy=true):
 (YG A s (.ref a) u false/\ZJ A s (.ref a) u true/\jP A s (.ref a) u false)/\(YG A s u (.ref a) false/\ZJ A s u (.ref a) true/\jP A s u (.ref a) false):=by
 rcases k with _|_
 ·
   rcases dy with _|j|j|j|_|_|_|_<;>try (cases hs;done)
   ·unfold d8 at ry;subst ry;cases ru;exact⟨⟨.list_none sq hu,.list_none sq hu,.list_none sq hu⟩,.none_list sq hu,.none_list sq hu,.none_list sq hu⟩
   ·unfold d8 at ry;subst ry;cases ru;exact⟨⟨.list_bool _ sq hu,.list_bool _ sq hu,.list_bool _ sq hu⟩,.bool_list _ sq hu,.bool_list _ sq hu,.bool_list _ sq hu⟩
   ·unfold d8 at ry;subst ry;obtain⟨t,rfl⟩:=ru;exact⟨⟨.list_int _ _ sq hu,.list_int _ _ sq hu,.list_int _ _ sq hu⟩,.int_list _ _ sq hu,.int_list _ _ sq hu,.int_list _ _ sq hu⟩
   ·unfold d8 at ry;subst ry;obtain⟨t,rfl⟩:=ru;exact⟨⟨.list_str _ _ sq hu,.list_str _ _ sq hu,.list_str _ _ sq hu⟩,.str_list _ _ sq hu,.str_list _ _ sq hu,.str_list _ _ sq hu⟩
 ·
   rcases dy with _|j|j|j|_|_|_|_<;>try (cases hs;done)
   ·unfold d8 at ry;subst ry;cases ru;exact⟨⟨.tuple_none sq hu,.tuple_none sq hu,.tuple_none sq hu⟩,.none_tuple sq hu,.none_tuple sq hu,.none_tuple sq hu⟩
   ·unfold d8 at ry;subst ry;cases ru;exact⟨⟨.tuple_bool _ sq hu,.tuple_bool _ sq hu,.tuple_bool _ sq hu⟩,.bool_tuple _ sq hu,.bool_tuple _ sq hu,.bool_tuple _ sq hu⟩
   ·unfold d8 at ry;subst ry;obtain⟨t,rfl⟩:=ru;exact⟨⟨.tuple_int _ _ sq hu,.tuple_int _ _ sq hu,.tuple_int _ _ sq hu⟩,.int_tuple _ _ sq hu,.int_tuple _ _ sq hu,.int_tuple _ _ sq hu⟩
   ·unfold d8 at ry;subst ry;obtain⟨t,rfl⟩:=ru;exact⟨⟨.tuple_str _ _ sq hu,.tuple_str _ _ sq hu,.tuple_str _ _ sq hu⟩,.str_tuple _ _ sq hu,.str_tuple _ _ sq hu,.str_tuple _ _ sq hu⟩
theorem bK8(I:Inv X pins σ H s)(h:u9 (wc X) μ G H):∀n A,A.units+n<yC->∀ {dx dy} {x y:V} {v u} {b:Bool},d8 (wc X) μ H dx x->d8 (wc X) μ H dy y->J9 x v->J9 y u->eqN n G dx dy=some b->
 YG A s v u b/\ZJ A s v u (!b)/\jP A s v u b
 |0,_,_,_,_,_,_,_,_,_,_,_,_,_,e=>by exact J6 e
 |n+1,A,hu,dx,dy,x,y,v,u,b,rx,ry,rv,ru,e=>by
   have hu0:A.units<yC:=by lia
   have hu1:A.in1.units+n<yC:=by show A.units+1+n<yC;lia
   have e0:=e
   rw[cB6]at e
   rcases hx:aG8 G dx with _|p
   ·
     rw[hx]at e
     rcases hy:aG8 G dy with _|p
     ·rw[hy]at e;exact eQ3 rx ry rv ru e
     ·
       obtain⟨k,l⟩:=p
       rw[hy]at e
       dsimp only at e
       split at e
       · rename_i hs
         cases e
         obtain⟨a,vs,its,rfl,rfl,_,_,sq,_⟩:=aG9 I h hy ry ru
         exact(bH1 hu0 sq rx rv hs).2
       ·exact J6 e
   ·
     obtain⟨k,l⟩:=p
     rw[hx]at e
     obtain⟨a,vs,its,rfl,rfl,rl,rr,sq,q⟩:=aG9 I h hx rx rv
     rcases hy:aG8 G dy with _|p'
     ·
       rw[hy]at e
       dsimp only at e
       split at e
       · rename_i hs
         cases e
         exact(bH1 hu0 sq ry ru hs).1
       ·exact J6 e
     ·
       obtain⟨k',l'⟩:=p'
       rw[hy]at e
       dsimp only at e
       obtain⟨a',vs',its',rfl,rfl,rl',rr',sq',q'⟩:=aG9 I h hy ry ru
       -- the two at one place
       have main:YG A s (.ref a) (.ref a') b/\ZJ A s (.ref a) (.ref a') (!b):=by
        have len1:its.toArray.size=l.length:=by rw[zj,<-rr.length,rl.length]
        have len2:its'.toArray.size=l'.length:=by rw[zj,<-rr'.length,rl'.length]
        by_cases hk:k=k'
        · subst hk
          rw[if_pos rfl]at e
          by_cases hlen:k=false/\l.length≠l'.length
          · rw[if_pos hlen]at e
            cases e
            obtain⟨rfl,hne⟩:=hlen
            have hz:(its.toArray.size != its'.toArray.size)=true:=by rw[len1,len2];simpa using hne
            exact⟨SeqAt.RcAt.lists_lengths sq sq' hz hu0,SeqAt.RcNeAt.lists_lengths sq sq' hz hu0⟩
          · rw[if_neg hlen]at e
            have items:∀j (h1:j<its.toArray.size) (h2:j<its'.toArray.size),∃e,eqN n G (l.getD j .non) (l'.getD j .non)=some e/\jP A.in1 s its.toArray[j] its'.toArray[j] e:=λj h1 h2=>by
             have j1:j<l.length:=by rw[<-len1];exact h1
             have j2:j<l'.length:=by rw[<-len2];exact h2
             have g1:l[j]? =some l[j]:=zf j1
             have g2:l'[j]? =some l'[j]:=zf j2
             obtain⟨e1,he1⟩:=bO4 l l' b e j _ _ g1 g2
             obtain⟨v1,hv1,r1⟩:=rl.get g1
             obtain⟨v2,hv2,r2⟩:=rl'.get g2
             obtain⟨u1,hu1',ru1⟩:=rr.get hv1
             obtain⟨u2,hu2',ru2⟩:=rr'.get hv2
             have w1:its.toArray[j]=u1:=by
              have:its.toArray[j]? =some u1:=by simpa using hu1'
              rw[xx h1]at this
              exact zQ this
             have w2:its'.toArray[j]=u2:=by
              have:its'.toArray[j]? =some u2:=by simpa using hu2'
              rw[xx h2]at this
              exact zQ this
             rw[w1,w2]
             refine⟨e1,?_,(bK8 I h n A.in1 hu1 r1 r2 ru1 ru2 he1).2.2⟩
             rw[zP,zP,g1,g2]
             exact he1
            have hr:=bV0 (e:=λj=>(eqN n G (l.getD j .non) (l'.getD j .non)).getD false) l l' b e λj x y g1 g2=>by
             obtain⟨e1,he1⟩:=bO4 l l' b e j x y g1 g2
             rw[zP,zP,g1,g2]
             simp only[Option.getD_some]
             rw[he1];rfl
            have he:∀j (h1:j<its.toArray.size) (h2:j<its'.toArray.size),jP A.in1 s its.toArray[j] its'.toArray[j] ((eqN n G (l.getD j .non) (l'.getD j .non)).getD false):=λj h1 h2=>by
             obtain⟨e1,he1,hh⟩:=items j h1 h2
             rw[he1];exact hh
            rcases k with _|_
            ·
              have hl:l.length=l'.length:=zW λz=>hlen ⟨rfl,z⟩
              have hsz:its.toArray.size=its'.toArray.size:=by rw[len1,len2,hl]
              have z1:=SeqAt.RcAt.lists sq sq' hsz hu0 he
              have z2:=SeqAt.RcNeAt.lists sq sq' hsz hu0 he
              have hr2:b= (zX its.toArray.size).all λj=>(eqN n G (l.getD j .non) (l'.getD j .non)).getD false:=by
               rw[hr,len1,hl];simp
              rw[<-hr2]at z1 z2
              exact⟨z1,z2⟩
            ·
              have z1:=SeqAt.RcAt.tuples sq sq' hu0 he
              have z2:=SeqAt.RcNeAt.tuples sq sq' hu0 he
              rw[len1,len2,<-hr]at z1 z2
              exact⟨z1,z2⟩
        · rw[if_neg hk]at e
          cases e
          cases k<;>cases k'<;>first
           |exact absurd rfl hk
           |exact⟨SeqAt.RcAt.list_tuple sq sq' hu0,SeqAt.RcNeAt.list_tuple sq sq' hu0⟩
           |exact⟨SeqAt.RcAt.tuple_list sq sq' hu0,SeqAt.RcNeAt.tuple_list sq sq' hu0⟩
       refine⟨main.1,main.2,?_⟩
       by_cases ha:a=a'
       · subst ha
         have:b=true:=cE0 I h (n+1) rx ry rv e0
         rw[this]
         exact YM _
       ·exact SeqAt.EqAt.of_refs ha main.1
end
section
def eqD:D->D->M D:=λx y G=>match eqN 40 G x y with
 |some b=>some (.ok (.bl b),G)
 |none=>none
def neD:D->D->M D:=λx y G=>match eqN 40 G x y with
 |some b=>some (.ok (.bl (!b)),G)
 |none=>none
theorem fC6(hu:X.A.units+64<yC):OpD X Z (zR .Eq) eqD:=⟨by
 intro pins s σ H x y v u Q I rx ry hE0
 refine hE0.elim λdx dy μ G rdx rdy hr p=>?_
 unfold eqD at p
 rcases e:eqN 40 G dx dy with _|b
 ·rw[e]at p;exact p.elim
 ·
   rw[e]at p
   exact(bK8 I hr 40 X.A (by lia) rdx rdy rx ry e).1 X.prog X.w X.xe _ ⟨.bl b,H,I,rfl,d7.ok p hr _ ofB⟩⟩
theorem fC2(hu:X.A.units+64<yC):OpD X Z (zR .NotEq) neD:=⟨by
 intro pins s σ H x y v u Q I rx ry hE0
 refine hE0.elim λdx dy μ G rdx rdy hr p=>?_
 unfold neD at p
 rcases e:eqN 40 G dx dy with _|b
 ·rw[e]at p;exact p.elim
 ·
   rw[e]at p
   exact(bK8 I hr 40 X.A (by lia) rdx rdy rx ry e).2.1 X.prog X.w X.xe _ ⟨.bl (!b),H,I,rfl,d7.ok p hr _ ofB⟩⟩
def gtD:D->D->M D:=λx y=>match x,y with
 | .int i,.int j=>pure (.bl (decide (j<i)))
 | .str i,.str j=>pure (.bl (decide (j.cps.toList<i.cps.toList)))
 |_,_=>M.stuck
def geD:D->D->M D:=λx y=>match x,y with
 | .int i,.int j=>pure (.bl (decide (j<=i)))
 | .str i,.str j=>pure (.bl (!decide (i.cps.toList<j.cps.toList)))
 |_,_=>M.stuck
theorem cU7{op:CmpOp}{fi:Int->Int->Bool}{fs:Str->Str->Bool}(hi:OpR X (zR op) (rI0 λi j=>.bl (fi i j)))
 (hs:∀(i j:Str) (t u:Tok) (s:zm) Q E,Q (.bool (fs i j)) s->zt (zz X.prog X.w) X.A (zR op (.str i t) (.str j u)) Q E s)
 (h1:∀i j,o (.int i) (.int j)=pure (.bl (fi i j))) (h2:∀i j,o (.str i) (.str j)=pure (.bl (fs i j)))
 (h3:∀x y,(∀i j,¬(x= .int i/\y= .int j))->(∀i j,¬(x= .str i/\y= .str j))->o x y=M.stuck):OpD X Z (zR op) o:=⟨by
 intro pins s σ H x y v u Q I rx ry hE0
 refine hE0.elim λdx dy μ G rdx rdy hr p=>?_
 by_cases c1:∃i j,dx= .int i/\dy= .int j
 · obtain⟨i,j,rfl,rfl⟩:=c1
   rw[h1]at p
   exact hi pins s σ H x y v u Q I rx ry ⟨i,j,aG6 rdx,aG6 rdy,d7.ok p hr _ ofB⟩
 · by_cases c2:∃i j,dx= .str i/\dy= .str j
   · obtain⟨i,j,rfl,rfl⟩:=c2
     rw[h2]at p
     have e1:=aQ2 rdx
     have e2:=aQ2 rdy
     subst e1 e2
     obtain⟨t,rfl⟩:=rx
     obtain⟨t',rfl⟩:=ry
     exact hs i j t t' s _ _ ⟨.bl (fs i j),H,I,rfl,d7.ok p hr _ ofB⟩
   · rw[h3 dx dy (λi j z=>c1 ⟨i,j,z⟩) (λi j z=>c2 ⟨i,j,z⟩)]at p
     exact p.elim⟩
theorem fL7:OpD X Z (zR .Gt) gtD:=cU7 fC3 (λ_ _ _ _ _ _ _ q=>PySem.P.gt_str q) (λ_ _=>rfl) (λ_ _=>rfl) λx y n1 n2=>by
 rcases x with _|_|_|_|_|_|_|_<;>rcases y with _|_|_|_|_|_|_|_<;>first
  |rfl
  |exact absurd ⟨rfl,rfl⟩ (n1 _ _)
  |exact absurd ⟨rfl,rfl⟩ (n2 _ _)
theorem fC1:OpD X Z (zR .GtE) geD:=cU7 fC0 (λ_ _ _ _ _ _ _ q=>PySem.P.ge_str q) (λ_ _=>rfl) (λ_ _=>rfl) λx y n1 n2=>by
 rcases x with _|_|_|_|_|_|_|_<;>rcases y with _|_|_|_|_|_|_|_<;>first
  |rfl
  |exact absurd ⟨rfl,rfl⟩ (n1 _ _)
  |exact absurd ⟨rfl,rfl⟩ (n2 _ _)
noncomputable def cQ9:D->Bool
 | .non=>true
 |_=>false
theorem cR4(r:d8 c μ H d v):decide (v= .non)=cQ9 d:=by
 cases d with
 |non=>rw[dM8 r];rfl
 |tup l=>unfold d8 at r;obtain⟨a,_,rfl,_⟩:=r;rfl
 |ref l=>unfold d8 at r;obtain⟨a,_,rfl⟩:=r;rfl
 |fn l=>unfold d8 at r;obtain⟨a,_,rfl⟩:=r;rfl
 |_=>unfold d8 at r;subst r;rfl
def cY2:D->M D:=λx=>match x with
 | .int i=>pure (.int (-i))
 |_=>M.stuck
theorem eO8:UnD X Z (unaryOp .USub) cY2:=⟨by
 intro pins s σ H x v Q I rx hE0
 refine hE0.elim λdx μ G rdx hr p=>?_
 cases dx<;>first
  |exact p.elim
  |exact eZ3 pins s σ H x v Q I rx ⟨_,aG6 rdx,d7.ok p hr _ ofI⟩⟩
noncomputable instance (x:Str) (n:Int):Decidable (Xj x n):=by unfold Xj;infer_instance
def bE6:D->D->M D:=λx y=>match x,y with
 | .int i,.int j=>if bA1 i j then pure (.int (i*j))else M.stuck
 | .str x,.int n=>if Xj x n then pure (.str (Txt.mul x n))else M.stuck
 |_,_=>M.stuck
theorem cO9:OpR X (ya .Mult) (λx y H Q=>∃z n,x= .str z/\y= .int n/\Xj z n/\Q (.str (Txt.mul z n)) H):=by
 intro pins s σ H x y v u Q I rx ry h
 obtain⟨z,n,rfl,rfl,hk,q⟩:=h
 obtain⟨t,rfl⟩:=rx
 obtain⟨t',rfl⟩:=ry
 exact PySem.SB.mul hk λt' k=>⟨.str _,H,I.tok _,⟨_,rfl⟩,q⟩
theorem eX3:OpD X Z (ya .Mult) bE6:=
 OpD.of (OpR.or eW9 cO9) λx y H Q hE0=>hE0.elim λdx dy μ G rdx rdy hr p=>by
  rcases dx with _|_|_|_|_|_|_|_<;>rcases dy with _|_|_|_|_|_|_|_<;>first
   |exact p.elim
   |skip
  · unfold bE6 at p
    dsimp only at p
    split at p
    ·rename_i hc;exact .inl ⟨_,_,aG6 rdx,aG6 rdy,hc,d7.ok p hr _ ofI⟩
    ·exact p.elim
  · unfold bE6 at p
    dsimp only at p
    split at p
    ·rename_i hc;exact .inr ⟨_,_,aQ2 rdx,aG6 rdy,hc,d7.ok p hr _ ofS⟩
    ·exact p.elim
end
noncomputable def cQ7(A:ji)(s:zm)(y x:zg)(b:Bool):Prop:=
 ∀(prog:zT) (w:jg) (E:VSP) (Q:VSP),Q (.bool b) s->zt (zz prog w) A (richCompare .Lt y x) Q E s
inductive LtR(A:ji)(s:zm):List zg->List zg->Bool->Prop
 |nil:LtR A s [] [] false
 |nilc {y ys}:LtR A s [] (y::ys) true
 |cnil {x xs}:LtR A s (x::xs) [] false
 |eq {x y xs ys b}:jP A s x y true->LtR A s xs ys b->LtR A s (x::xs) (y::ys) b
 |ne {x y xs ys b}:jP A s x y false->cQ7 A s x y b->LtR A s (x::xs) (y::ys) b
section
open PySem.SeqAt
open PySem.AutoSeq1 (wpAny_loadPart')
open PySem.MeetsSeq PySem.MeetsSeq2 PySem.MeetsSeq3
theorem cN1(l b:Addr)(items items2:Array zg)(n n2:Nat)(dd dd2:Option Addr)(sl sl2:Array (Option zg))(k:Bool):
 Meets (yi.«tuple.__lt__» ⟨[.ref l,.ref b], []⟩)
  (λA R s=>s.heap.get? l=some {cls:=.type "tuple",dict:=dd,data:=.seq items n,slots:=sl}/\s.heap.get? b=some {cls:=.type "tuple",dict:=dd2,data:=.seq items2 n2,slots:=sl2}/\
    LtR A.in1 s items.toList items2.toList k/\R (.ok (.ret (.bool k))) s):=
 .of_wp λprog w A R s h=>by
  obtain⟨hp,g,d,tk,os⟩:=s;obtain⟨hl,hb,hk,h⟩:=h
  have f2:=Xx
  wp_walk using jo hl,jo hb,Yj _ (λQ9 b s'=>b.1=none/\s'= ⟨hp,g,d,tk,os⟩/\∃(vs ws:List zg),Q9=vs.zip ws/\
   vs.length+items2.size=ws.length+items.size/\LtR A.in1 ⟨hp,g,d,tk,os⟩ vs ws k) _
  case turn=>
   rintro⟨y,x⟩ Q9 b s' ⟨hb',rfl,vs,ws,hz,hlen,hR⟩
   cases hR with
   |nil=>exact cW3 hz
   |nilc=>exact cW3 hz
   |cnil=>exact cW3 hz
   |eq he hR'=>
     rw[yg]at hz
     injection hz with hyx hrest
     injection hyx with hy hx
     subst hy hx
     refine za (he prog w _ _ ?_)
     wp_walk
     simp only[zD]at hlen
     exact⟨rfl,rfl,_,_,hrest,by lia,hR'⟩
   |ne he hc=>
     rw[yg]at hz
     injection hz with hyx hrest
     injection hyx with hy hx
     subst hy hx
     refine za (he prog w _ _ ?_)
     have hri:=hc prog w
     wp_walk using hri
     exact⟨_,rfl,h⟩
  case fin=>
   rintro⟨b1,b2⟩ s' ⟨hb',rfl,vs,ws,hz,hlen,hR⟩
   simp only at hb'
   subst hb'
   have hv:k=decide (items.size<items2.size):=by
    cases hR with
    |nil=>simp only[yn]at hlen;exact(decide_eq_false (by lia)).symm
    |nilc=>simp only[yn,zD]at hlen;exact(decide_eq_true (by lia)).symm
    |cnil=>simp only[yn,zD]at hlen;exact(decide_eq_false (by lia)).symm
    |eq _ _=>rw[yg]at hz;exact bU9 hz
    |ne _ _=>rw[yg]at hz;exact bU9 hz
   rw[hv]at h
   wp_walk
   exact⟨_,rfl,by simpa [Ye]using h⟩
  case h=>
   exact⟨rfl,rfl,items.toList,items2.toList,rfl,by simp;lia,hk⟩
theorem cZ7(l b:Addr)(items items2:Array zg)(n n2:Nat)(dd dd2:Option Addr)(sl sl2:Array (Option zg))(k:Bool):∀vs ws i,items.toList.drop i=vs->items2.toList.drop i=ws->i<=items.size->i<=items2.size->
 Meets (yi.«list.__eq__.loop» ⟨[.ref l,.ref b,xS i,xS 0], []⟩)
  (λA R s=>s.heap.get? l=some {cls:=.type "list",dict:=dd,data:=.seq items n,slots:=sl}/\s.heap.get? b=some {cls:=.type "list",dict:=dd2,data:=.seq items2 n2,slots:=sl2}/\
    LtR A.in1 s vs ws k/\R (.ok (.ret (.bool k))) s):=by
 have dropn:∀(a:Array zg) (i:Nat),a.toList.drop i= []->i<=a.size->i=a.size:=λa i e hi=>by
  have:=List.drop_eq_nil_iff.mp e
  simp at this;lia
 have dropc:∀(a:Array zg) (i:Nat) (v:zg) (r:List zg),a.toList.drop i=v::r->i<a.size/\a[((i:Nat):Int).toNat]? =some v/\a.toList.drop (i+1)=r:=λa i v r e=>by
  have hlt:i<a.toList.length:=by
   rcases xz i a.toList.length with q|q
   ·exact q
   ·rw[ZS q]at e;exact bU9 e
  rw[yB hlt]at e
  injection e with e1 e2
  refine⟨by simpa using hlt,?_,e2⟩
  simp at hlt
  simp[hlt]
  simpa using e1
 intro vs
 induction vs with
 |nil=>
   intro ws i hv hw hi hi2 prog w A R s h
   obtain⟨hp,g,d,tk,os⟩:=s;obtain⟨hl,hb,he,h⟩:=h
   have e1:=dropn items i hv hi
   wp_walk using jo hl,jo hb
   have hi1:items[((i:Nat):Int).toNat]? =none:=by simp;lia
   rw[hi1]
   rcases ws with _|⟨y,ys⟩
   ·
     have e2:=dropn items2 i hw hi2
     cases he
     wp_walk using jo hl,jo hb
     show R (.ok (.ret (.bool (decide (items.size<items2.size))))) _
     rw[decide_eq_false (by lia)]
     exact h
   ·
     obtain⟨hlt,_,_⟩:=dropc items2 i y ys hw
     cases he
     wp_walk using jo hl,jo hb
     show R (.ok (.ret (.bool (decide (items.size<items2.size))))) _
     rw[decide_eq_true (by lia)]
     exact h
 |cons x xs ih=>
   intro ws i hv hw hi hi2 prog w A R s h
   obtain⟨hp,g,d,tk,os⟩:=s;obtain⟨hl,hb,he,h⟩:=h
   obtain⟨hlt,g1,d1⟩:=dropc items i x xs hv
   wp_walk using jo hl,jo hb
   rcases ws with _|⟨y,ys⟩
   ·
     have e2:=dropn items2 i hw hi2
     have hi2':items2[((i:Nat):Int).toNat]? =none:=by simp;lia
     rw[g1,hi2']
     cases he
     wp_walk using jo hl,jo hb
     show R (.ok (.ret (.bool (decide (items.size<items2.size))))) _
     rw[decide_eq_false (by lia)]
     exact h
   ·
     obtain⟨hlt2,g2,d2⟩:=dropc items2 i y ys hw
     have hc:((i:Int)+1)= ((i+1:Nat):Int):=by push_cast;rfl
     rw[g1,g2]
     cases he with
     |eq he he'=>
       refine za (he prog w _ _ ?_)
       wp_walk
       rw[hc]
       exact⟨jC plain_eq_loop _,jO entry_eq_loop (by
        rw[jz plain_eq_loop _]
        exact ih ys (i+1) d1 d2 (by lia) (by lia) prog w A R _ ⟨hl,hb,he',h⟩)⟩
     |ne he hcmp=>
       refine za (he prog w _ _ ?_)
       have hri:=hcmp prog w
       wp_walk using jo hl,jo hb
       rw[g1,g2]
       wp_walk using hri
       exact h
theorem dD9(l b:Addr)(items items2:Array zg)(n n2:Nat)(dd dd2:Option Addr)(sl sl2:Array (Option zg))(k:Bool):
 Meets (yi.«list.__lt__» ⟨[.ref l,.ref b], []⟩)
  (λA R s=>s.heap.get? l=some {cls:=.type "list",dict:=dd,data:=.seq items n,slots:=sl}/\s.heap.get? b=some {cls:=.type "list",dict:=dd2,data:=.seq items2 n2,slots:=sl2}/\
    LtR A.in1 s items.toList items2.toList k/\R (.ok (.ret (.bool k))) s):=by
 intro prog w A R s h
 obtain⟨hp,g,d,tk,os⟩:=s;obtain⟨hl,hb,he,h⟩:=h
 have f3:=AutoSeq1.sub_list_list
 wp_walk using jo hl,jo hb
 exact⟨jC plain_eq_loop _,jO entry_eq_loop (by
  rw[jz plain_eq_loop _]
  exact cZ7 l b items items2 n n2 dd dd2 sl sl2 k items.toList items2.toList 0 rfl rfl (jh _) (jh _) prog w A R _ ⟨hl,hb,he,h⟩)⟩
end
noncomputable def ltS:D->D->Option Bool
 | .int a,.int b=>some (decide (a<b))
 | .str a,.str b=>some (decide (a.cps.toList<b.cps.toList))
 | .bl a,.bl b=>some (decide (b2i a<b2i b))
 |_,_=>none
noncomputable def ltL(eq lt:D->D->Option Bool):List D->List D->Option Bool
 |[], []=>some false
 |[],_::_=>some true
 |_::_, []=>some false
 |x::xs,y::ys=>match eq x y with
   |some true=>ltL eq lt xs ys
   |some false=>lt x y
   |none=>none
def ltN:Nat->DH->D->D->Option Bool
 |0,_,_,_=>none
 |n+1,G,x,y=>match aG8 G x,aG8 G y with
   |some (k1,a),some (k2,b)=>if k1=k2 then ltL (eqN n G) (ltN n G) a b else none
   |none,none=>ltS x y
   |_,_=>none
theorem fJ4:ltN (n+1) G x y=match aG8 G x,aG8 G y with
 |some (k1,a),some (k2,b)=>if k1=k2 then ltL (eqN n G) (ltN n G) a b else none
 |none,none=>ltS x y
 |_,_=>none:=rfl
section
theorem eZ5(rx:d8 c μ H dx x)(ry:d8 c μ H dy y)(rv:J9 x v)(ru:J9 y u)(e:ltS dx dy=some b):cQ7 A s v u b:=by
 intro prog w E Q hq
 rcases dx with _|_|_|_|_|_|_|_<;>rcases dy with _|_|_|_|_|_|_|_<;>first
  |(cases e;done)
  |skip
 · cases e
   unfold d8 at rx ry;subst rx ry;cases rv;cases ru
   exact(lt_bool hq:zt (zz prog w) A (zR .Lt _ _) Q E s)
 · cases e
   unfold d8 at rx ry;subst rx ry;obtain⟨t,rfl⟩:=rv;obtain⟨t',rfl⟩:=ru
   exact(lt_int hq:zt (zz prog w) A (zR .Lt _ _) Q E s)
 · cases e
   unfold d8 at rx ry;subst rx ry;obtain⟨t,rfl⟩:=rv;obtain⟨t',rfl⟩:=ru
   exact(lt_str hq:zt (zz prog w) A (zR .Lt _ _) Q E s)
theorem eJ0(I:Inv X pins σ H s)(h:u9 (wc X) μ G H):∀n A,A.units+n<yC->∀ {dx dy} {x y} {v u} {b},d8 (wc X) μ H dx x->d8 (wc X) μ H dy y->J9 x v->J9 y u->ltN n G dx dy=some b->cQ7 A s v u b
 |0,_,_,_,_,_,_,_,_,_,_,_,_,_,e=>by exact J6 e
 |n+1,A,hu,dx,dy,x,y,v,u,b,rx,ry,rv,ru,e=>by
   have hu0:A.units<yC:=by lia
   have hu1:A.in1.units+n<yC:=by show A.units+1+n<yC;lia
   rw[fJ4]at e
   rcases hx:aG8 G dx with _|p
   ·
     rw[hx]at e
     rcases hy:aG8 G dy with _|p
     ·rw[hy]at e;exact eZ5 rx ry rv ru e
     ·rw[hy]at e;exact J6 e
   ·
     obtain⟨k,l⟩:=p
     rw[hx]at e
     rcases hy:aG8 G dy with _|p'
     ·rw[hy]at e;exact J6 e
     ·
       obtain⟨k',l'⟩:=p'
       rw[hy]at e
       dsimp only at e
       split at e
       case isFalse=>exact J6 e
       rename_i hk
       subst hk
       obtain⟨a,vs,its,rfl,rfl,rl,rr,sq,q⟩:=aG9 I h hx rx rv
       obtain⟨a',vs',its',rfl,rfl,rl',rr',sq',q'⟩:=aG9 I h hy ry ru
       have main:∀(l l':List D) (vs vs':List V) (its its':List zg),t7 (wc X) μ H l vs->t7 (wc X) μ H l' vs'->v6 vs its->v6 vs' its'->ltL (eqN n G) (ltN n G) l l'=some b->LtR A.in1 s its its' b:=by
        intro l
        induction l with
        |nil=>
          intro l' vs vs' its its' r r' q q' e
          cases r;cases q
          rcases l' with _|⟨_,_⟩
          ·cases r';cases q';cases e;exact .nil
          ·
            obtain⟨_,_,rfl,_,_⟩:=r'
            cases q'
            cases e
            exact .nilc
        |cons d ds ih=>
          intro l' vs vs' its its' r r' q q' e
          obtain⟨v0,vr,rfl,r0,rt⟩:=r
          cases q with
          |cons q0 qt=>
            rcases l' with _|⟨d',ds'⟩
            ·cases r';cases q';cases e;exact .cnil
            ·
              obtain⟨v1,vr',rfl,r1,rt'⟩:=r'
              cases q' with
              |cons q1 qt'=>
                unfold ltL at e
                rcases he:eqN n G d d' with _|b0
                ·rw[he]at e;exact J6 e
                ·
                  rw[he]at e
                  have hE:=(bK8 I h n A.in1 hu1 r0 r1 q0 q1 he).2.2
                  rcases b0 with _|_
                  ·exact .ne hE (eJ0 I h n A.in1 hu1 r0 r1 q0 q1 e)
                  ·exact .eq hE (ih ds' vr vr' _ _ rt rt' qt qt' e)
       have hR:=main l l' vs vs' its its' rl rl' rr rr' e
       intro prog w E Q hq
       rcases k with _|_
       ·
         obtain⟨⟨cls,dd,data,sl⟩,ho,hc,m,hd⟩:=id sq
         obtain⟨⟨cls2,dd2,data2,sl2⟩,ho2,hc2,m2,hd2⟩:=id sq'
         simp only at hc hd hc2 hd2
         subst hc hd hc2 hd2
         exact Yv ⟨_,ho,rfl⟩ ⟨_,ho2,rfl⟩ PySem.F.slot_list_lt PySem.F.entry_list_lt (PySem.F.args_list_lt_2 _ _) (dD9 a a' its.toArray its'.toArray m m2 dd dd2 sl sl2 b)
          ⟨ho,ho2,hR,show Value.bool b≠Value.notImplemented/\Q (.bool b) s from⟨(λx=>nomatch x),hq⟩⟩ hu0
       ·
         obtain⟨⟨cls,dd,data,sl⟩,ho,hc,m,hd⟩:=id sq
         obtain⟨⟨cls2,dd2,data2,sl2⟩,ho2,hc2,m2,hd2⟩:=id sq'
         simp only at hc hd hc2 hd2
         subst hc hd hc2 hd2
         exact Yv ⟨_,ho,rfl⟩ ⟨_,ho2,rfl⟩ PySem.F.slot_tuple_lt PySem.F.entry_tuple_lt (PySem.F.args_tuple_lt_2 _ _) (cN1 a a' its.toArray its'.toArray m m2 dd dd2 sl sl2 b)
          ⟨ho,ho2,hR,show Value.bool b≠Value.notImplemented/\Q (.bool b) s from⟨(λx=>nomatch x),hq⟩⟩ hu0
def ltD:D->D->M D:=λx y G=>match ltN 40 G x y with
 |some b=>some (.ok (.bl b),G)
 |none=>none
theorem fH4(hu:X.A.units+64<yC):OpD X Z (zR .Lt) ltD:=⟨by
 intro pins s σ H x y v u Q I rx ry hE0
 refine hE0.elim λdx dy μ G rdx rdy hr p=>?_
 unfold ltD at p
 rcases e:ltN 40 G dx dy with _|b
 ·rw[e]at p;exact p.elim
 ·
   rw[e]at p
   exact eJ0 I hr 40 X.A (by lia) rdx rdy rx ry e X.prog X.w X.xe _ ⟨.bl b,H,I,rfl,d7.ok p hr _ ofB⟩⟩
end
noncomputable def aO7:D->Bool
 | .non=>true
 | .bl _=>true
 | .int _=>true
 | .str _=>true
 |_=>false
noncomputable def toV:D->V
 | .bl b=>.bl b
 | .int i=>.int i
 | .str x=>.str x
 |_=>.non
noncomputable def bP6:D->Option Key
 | .int i=>some (.inl i)
 | .str x=>some (.inr x)
 |_=>none
noncomputable def aC7(l:List (Key×D))(k:Key):Option D:=(l.find? λkv=>decide (kv.1=k)).map (·.2)
def inB(x y:D)(G:DH):Option Bool:=match y with
 | .str j=>match x with
   | .str i=>some (!(xv j i 0 j.length 1).isEmpty)
   |_=>none
 | .ref r=>match G[r]? with
   |some (.dct l)=>(bP6 x).map λk=>(aC7 l k).isSome
   |some (.rod _)=>none
   |some (.lst l)=>if aO7 x&&l.all aO7 then some (inV (toV x) (l.map toV))else none
   |some (.rol l)=>if aO7 x&&l.all aO7 then some (inV (toV x) (l.map toV))else none
   |none=>none
 | .tup l=>if aO7 x&&l.all aO7 then some (inV (toV x) (l.map toV))else none
 |_=>none
def inD:D->D->M D:=λx y G=>match inB x y G with
 |some b=>some (.ok (.bl b),G)
 |none=>none
def aP3:D->D->M D:=λx y G=>match inB x y G with
 |some b=>some (.ok (.bl (!b)),G)
 |none=>none
section
theorem cK1(f:aO7 d=true)(r:d8 c μ H d v):v=toV d/\aX5 v=true:=by
 cases d<;>first
  |exact absurd (show false=true from f) jm
  |(unfold d8 at r;subst r;exact⟨rfl,rfl⟩)
theorem bS8:∀ {l} {vs},l.all aO7=true->t7 c μ H l vs->vs=l.map toV/\vs.all aX5=true
 |[],_,_,r=>by cases r;exact⟨rfl,rfl⟩
 |d::ds,_,f,r=>by
   obtain⟨v,t,rfl,q,rt⟩:=r
   rw[yc,zZ]at f
   obtain⟨e1,e2⟩:=cK1 f.1 q
   obtain⟨e3,e4⟩:=bS8 f.2 rt
   refine⟨by rw[zB,<-e1,<-e3],?_⟩
   rw[yc,e2,e4];rfl
theorem bX8(e:bP6 d=some k)(r:d8 c μ H d v):v=kV k:=by
 cases d<;>first
  |(cases e;unfold d8 at r;exact r)
  |exact J6 e
theorem bF4:∀ {l} {kvs},aA8 c μ H l kvs->match aC7 l k with|some d=>∃v,aW9 kvs k=some v/\d8 c μ H d v|none=>aW9 kvs k=none
 |[],_,r=>by cases r;exact rfl
 |(k',d)::t,_,r=>by
  obtain⟨v,kt,rfl,q,rt⟩:=r
  by_cases e:k'=k
  · have h1:aC7 ((k',d)::t) k=some d:=by unfold aC7;simp[e]
    rw[h1]
    exact⟨v,bA0 e,q⟩
  · have h1:aC7 ((k',d)::t) k=aC7 t k:=by unfold aC7;simp[e]
    rw[h1]
    have ih:=bF4 (k:=k) rt
    rw[bB1 e]
    exact ih
theorem cQ2(r:aA8 c μ H l kvs):(aC7 l k).isSome= (aW9 kvs k).isSome:=by
 have q:=bF4 (k:=k) r
 rcases e:aC7 l k with _|d
 ·rw[e]at q;rw[q];rfl
 ·rw[e]at q;obtain⟨v,q,_⟩:=q;rw[q];rfl
theorem eJ4(hu:X.A.units+64<yC)(I:Inv X pins σ H s)(hr:u9 (wc X) μ G H)(rdx:d8 (wc X) μ H dx x)(rdy:d8 (wc X) μ H dy y)(rx:J9 x v)(ry:J9 y u)
 (e:inB dx dy G=some b):
 (Q (.bl b) H->zt (zz X.prog X.w) X.A (zR .In v u) (EP X pins σ Q) X.xe s)/\(Q (.bl (!b)) H->zt (zz X.prog X.w) X.A (zR .NotIn v u) (EP X pins σ Q) X.xe s):=by
 have seq:∀(p:Addr) (l:List D) (vs:List V),y= .ref p->(SqL X.K H p vs\/SqT X.K H p vs)->t7 (wc X) μ H l vs->(if (aO7 dx&&l.all aO7)=true then some (inV (toV dx) (l.map toV))else none)=some b->
  (Q (.bl b) H->zt (zz X.prog X.w) X.A (zR .In v u) (EP X pins σ Q) X.xe s)/\(Q (.bl (!b)) H->zt (zz X.prog X.w) X.A (zR .NotIn v u) (EP X pins σ Q) X.xe s):=by
  intro p l vs hy hq rl e
  split at e
  · rename_i hf
    rw[zZ]at hf
    cases e
    obtain⟨e1,e2⟩:=cK1 hf.1 rdx
    obtain⟨e3,e4⟩:=bS8 hf.2 rl
    rw[<-e1,<-e3]
    exact⟨λq=>dF3 pins s σ H x y v u Q I rx ry ⟨p,vs,hy,hq,e2,e4,q⟩,λq=>bY8 pins s σ H x y v u Q I rx ry ⟨p,vs,hy,hq,e2,e4,q⟩⟩
  ·exact J6 e
 rcases dy with _|_|_|j|l|i|_|_<;>try (cases e;done)
 ·
   rcases dx with _|_|_|i|_|_|_|_<;>try (cases e;done)
   ·
     cases e
     have e1:=aQ2 rdx
     have e2:=aQ2 rdy
     exact⟨λq=>dE5 pins s σ H x y v u Q I rx ry ⟨i,j,e1,e2,q⟩,λq=>bX4 pins s σ H x y v u Q I rx ry ⟨i,j,e1,e2,q⟩⟩
 ·
   unfold d8 at rdy
   obtain⟨a,vs,hy,q,rl⟩:=rdy
   exact seq a l vs hy (.inr q) rl e
 ·
   unfold d8 at rdy
   obtain⟨a,m,hy⟩:=rdy
   rcases g:G[i]? with _|o
   ·unfold inB at e;simp only[g]at e;exact J6 e
   ·
     have ro:=hr.obj i o a g m
     rcases o with l|l|l|l
     ·
       obtain⟨vs,q,rl⟩:=ro
       unfold inB at e;simp only[g]at e
       exact seq a l vs hy (.inl (SqL.of q)) rl e
     ·
       obtain⟨vs,q,rl⟩:=ro
       unfold inB at e;simp only[g]at e
       exact seq a l vs hy (.inl q.sq) rl e
     ·
       obtain⟨kvs,q,rk⟩:=ro
       unfold inB at e;simp only[g]at e
       rcases hk:bP6 dx with _|k
       ·rw[hk]at e;exact J6 e
       ·
         rw[hk]at e
         cases e
         have ek:=bX8 hk rdx
         have dg:cJ5 H a x (aW9 kvs k):=by rw[ek];exact cJ5.k q
         subst hy
         cases ry
         dsimp only
         rw[cQ2 rk]
         exact⟨λq=>fQ8 (by lia) I dg rx λs' I'=>⟨.bl _,H,I',rfl,q⟩,λq=>dX5 (by lia) I dg rx λs' I'=>⟨.bl _,H,I',rfl,q⟩⟩
     ·unfold inB at e;simp only[g]at e;exact J6 e
theorem fJ1(hu:X.A.units+64<yC):OpD X Z (zR .In) inD:=⟨by
 intro pins s σ H x y v u Q I rx ry hE0
 refine hE0.elim λdx dy μ G rdx rdy hr p=>?_
 unfold inD at p
 rcases e:inB dx dy G with _|b
 ·rw[e]at p;exact p.elim
 ·rw[e]at p;exact(eJ4 hu I hr rdx rdy rx ry e).1 (d7.ok p hr _ ofB)⟩
theorem dP5(hu:X.A.units+64<yC):OpD X Z (zR .NotIn) aP3:=⟨by
 intro pins s σ H x y v u Q I rx ry hE0
 refine hE0.elim λdx dy μ G rdx rdy hr p=>?_
 unfold aP3 at p
 rcases e:inB dx dy G with _|b
 ·rw[e]at p;exact p.elim
 ·rw[e]at p;exact(eJ4 hu I hr rdx rdy rx ry e).2 (d7.ok p hr _ ofB)⟩
inductive Ty where
 |int|bool|str|tuple|list|dict
 deriving DecidableEq
noncomputable def Ty.name:Ty->String
 | .int=> "int"| .bool=> "bool"| .str=> "str"| .tuple=> "tuple"| .list=> "list"| .dict=> "dict"
noncomputable def Ty.of(n:String):Option Ty:=if n= "int" then some .int else if n= "bool" then some .bool else if n= "str" then some .str else if n= "tuple" then some .tuple else if n= "list" then some .list else if n= "dict" then some .dict else none
theorem Ty.of_name{n:String}{T:Ty}(h:Ty.of n=some T):n=T.name:=by
 unfold Ty.of at h
 split at h
 ·rename_i e;cases h;exact e
 split at h
 ·rename_i e;cases h;exact e
 split at h
 ·rename_i e;cases h;exact e
 split at h
 ·rename_i e;cases h;exact e
 split at h
 ·rename_i e;cases h;exact e
 split at h
 ·rename_i e;cases h;exact e
 ·exact J6 h
inductive Kd where
 |non|bool|int|str|tuple|list|dict
noncomputable def Kd.is:Kd->Ty->Bool
 | .bool,.int=>true
 | .bool,.bool=>true
 | .int,.int=>true
 | .str,.str=>true
 | .tuple,.tuple=>true
 | .list,.list=>true
 | .dict,.dict=>true
 |_,_=>false
def Kd.name:Kd->String
 | .non=> "NoneType"| .bool=> "bool"| .int=> "int"| .str=> "str"| .tuple=> "tuple"| .list=> "list"| .dict=> "dict"
noncomputable def dB0(G:DH):D->Option Kd
 | .non=>some .non
 | .bl _=>some .bool
 | .int _=>some .int
 | .str _=>some .str
 | .tup _=>some .tuple
 | .ref i=>match G[i]? with
   |some (.lst _)=>some .list
   |some (.rol _)=>some .list
   |some (.dct _)=>some .dict
   |some (.rod _)=>some .dict
   |none=>none
 |_=>none
def bT0:List D->Option (List Ty)
 |[]=>some []
 | .ty n::r=>match Ty.of n,bT0 r with
   |some T,some Ts=>some (T::Ts)
   |_,_=>none
 |_=>none
def K8:List D->M D:=λds G=>match ds with
 |[d,.ty n]=>match dB0 G d,Ty.of n with
   |some k,some T=>some (.ok (.bl (k.is T)),G)
   |_,_=>none
 |[d,.tup l]=>match dB0 G d,bT0 l with
   |some k,some Ts=>some (.ok (.bl (Ts.any k.is)),G)
   |_,_=>none
 |_=>none
theorem eE0(K:zi)(k:Kd)(T:Ty):PySem.W.kitOne K (.type k.name) (.type T.name)=some (k.is T):=by
 cases k<;>cases T<;>rfl
theorem dL1{A:ji}{E:VSP}{pins:PNS}{σ:St}{s:zm}{d:D}{x:V}{v:zg}{k:Kd}(I:Inv X pins σ H s)(hr:u9 (wc X) μ G H)(r:d8 (wc X) μ H d x)(rv:J9 x v)(e:dB0 G d=some k):
 ∃HH:Heap->Prop,PySem.W.KitX X.K v (.type k.name) HH/\HH s.heap/\v≠ .builtin "__main__.__loader__#opaque":=by
 rcases d with _|b|b|b|l|i|_|_<;>try (cases e;done)
 ·cases e;unfold d8 at r;subst r;cases rv;exact⟨_,PySem.W.kitx_none,True.intro,λz=>nomatch z⟩
 ·cases e;unfold d8 at r;subst r;cases rv;exact⟨_,PySem.W.kitx_bool,True.intro,λz=>nomatch z⟩
 ·cases e;unfold d8 at r;subst r;obtain⟨t,rfl⟩:=rv;exact⟨_,PySem.W.kitx_int,True.intro,λz=>nomatch z⟩
 ·cases e;unfold d8 at r;subst r;obtain⟨t,rfl⟩:=rv;exact⟨_,PySem.W.kitx_str,True.intro,λz=>nomatch z⟩
 ·
   cases e
   unfold d8 at r
   obtain⟨a,vs,rfl,q,_⟩:=r
   cases rv
   obtain⟨its,_,⟨o,h1,h2,_⟩,_⟩:=I.tuple q
   exact⟨_,PySem.W.kitx_tuple,⟨o,h1,h2⟩,λz=>nomatch z⟩
 ·
   unfold d8 at r
   obtain⟨a,m,rfl⟩:=r
   cases rv
   unfold dB0 at e
   rcases g:G[i]? with _|o
   ·simp only[g]at e;exact J6 e
   ·
     have ro:=hr.obj i o a g m
     simp only[g]at e
     rcases o with l|l|l|l
     ·
       cases e
       obtain⟨vs,q,_⟩:=ro
       obtain⟨its,_,⟨o,n,h1,h2,_⟩,_⟩:=I.list (SqL.of q)
       exact⟨_,JQ,⟨o,h1,h2⟩,λz=>nomatch z⟩
     ·
       cases e
       obtain⟨vs,q,_⟩:=ro
       obtain⟨its,_,⟨o,n,h1,h2,_⟩,_⟩:=I.list q.sq
       exact⟨_,JQ,⟨o,h1,h2⟩,λz=>nomatch z⟩
     ·
       cases e
       obtain⟨kvs,q,_⟩:=ro
       obtain⟨_,_,vs,_,o,es,ep,h1,h2,_⟩:=(show W2 X.prog X.w H s.heap a (.dK kvs)from I.hok a _ q)
       exact⟨_,JR,⟨o,h1,h2.1⟩,λz=>nomatch z⟩
     ·
       cases e
       obtain⟨kvs,ob,q,_⟩:=ro
       obtain⟨_,_,_,vs,_,o,es,ep,h1,h2,_⟩:=(show W2 X.prog X.w H s.heap a (.frz ob (.dK kvs))from I.hok a _ q)
       exact⟨_,JR,⟨o,h1,h2.1⟩,λz=>nomatch z⟩
theorem cU8:∀ {l:List D} {vs:List V} {us:List zg} {Ts:List Ty},bT0 l=some Ts->t7 c μ H l vs->v6 vs us->us=Ts.map λT=>.type T.name
 |[],_,_,_,e,r,q=>by cases e;cases r;cases q;rfl
 |d::ds,_,_,Ts,e,r,q=>by
   obtain⟨v,t,rfl,r0,rt⟩:=r
   cases q with
   |cons q0 qt=>
     rcases d with _|_|_|_|_|_|_|n<;>try (cases e;done)
     ·
       replace e:(match Ty.of n,bT0 ds with|some T,some Ts=>some (T::Ts)|_,_=>none)=some Ts:=e
       rcases h1:Ty.of n with _|T
       ·rw[h1]at e;exact J6 e
       ·
         rcases h2:bT0 ds with _|Ts'
         ·rw[h1,h2]at e;exact J6 e
         ·
           rw[h1,h2]at e
           cases e
           unfold d8 at r0
           subst r0
           rw[cU8 h2 rt qt,zB,show _=Value.type n from q0,Ty.of_name h1]
theorem cW5(K:zi)(k:Kd):∀Ts:List Ty,PySem.W.kitAny K (.type k.name) (Ts.map λT=>.type T.name)=some (Ts.any k.is)
 |[]=>rfl
 |T::Ts=>by
   have ih:=cW5 K k Ts
   cases k<;>cases T<;>first
    |rfl
    |exact ih
theorem cY8:aA4 X Z (.builtin "isinstance") K8:=⟨by
 intro pins s σ H xs us Q I r hE0
 obtain⟨ds,μ,G,rl,hr,p⟩:=hE0
 rcases ds with _|⟨d,_|⟨_|_|_|_|l|_|_|n,_|⟨_,_⟩⟩⟩<;>try exact p.elim
 all_goals (delta K8 at p;dsimp only at p)
 · obtain⟨v,t,rfl,r0,v1,t1,rfl,r1,e⟩:=rl
   cases e
   obtain⟨u,u',rfl,ru,ru'⟩:=cD9 r
   unfold d8 at r1
   obtain⟨a,vs,rfl,q,rll⟩:=r1
   cases ru'
   rcases hk:dB0 G d with _|k
   ·rw[hk]at p;exact p.elim
   ·
     rcases hT:bT0 l with _|Ts
     ·rw[hk,hT]at p;exact p.elim
     ·
       rw[hk,hT]at p
       obtain⟨HH,kx,hh,hne⟩:=dL1 (A:=X.A) (E:=X.xe) I hr r0 ru hk
       obtain⟨its,rr,⟨⟨cls,dd,data,sl⟩,h1,h2,n,h3⟩,_⟩:=I.tuple q
       simp only at h2 h3
       subst h2 h3
       exact PySem.W.kia_tup kx I.kIn hh h1 (by rw[cU8 hT rll rr];exact cW5 X.K k Ts) hne λtk=>⟨.bl _,H,I.tok tk,rfl,d7.ok p hr _ ofB⟩
 · obtain⟨v,t,rfl,r0,v1,t1,rfl,r1,e⟩:=rl
   cases e
   obtain⟨u,u',rfl,ru,ru'⟩:=cD9 r
   unfold d8 at r1
   subst r1
   cases ru'
   rcases hk:dB0 G d with _|k
   ·rw[hk]at p;exact p.elim
   ·
     rcases hT:Ty.of n with _|T
     ·rw[hk,hT]at p;exact p.elim
     ·
       rw[hk,hT]at p
       rw[Ty.of_name hT]
       obtain⟨HH,kx,hh,hne⟩:=dL1 (A:=X.A) (E:=X.xe) I hr r0 ru hk
       exact PySem.W.kia_one kx I.kIn hh (eE0 X.K k T) hne λtk=>⟨.bl _,H,I.tok tk,rfl,d7.ok p hr _ ofB⟩⟩
end
theorem cX6{c:Wc}{μ:List Addr}{H:Hp}{l:List D}{vs:List V}{i:Int}{d:D}(r:t7 c μ H l vs)(e:atI l i=some d):∃v,atI vs i=some v/\d8 c μ H d v:=by
 unfold atI at e ⊢
 rw[<-r.length]
 cases h:ixN l.length i with
 |none=>rw[h]at e;cases e
 |some j=>
   rw[h]at e
   obtain⟨v,h1,h2⟩:=r.get e
   exact⟨v,h1,h2⟩
def ixD:D->D->M D:=λx y=>match x,y with
 | .tup l,.int i=>aI5 (atI l i)
 | .str z,.int i=>if z.length<=zl then do
    let c <-aI5 (atI z.cps.toList i)
    pure (.str ⟨#[c]⟩)
   else M.stuck
 | .ref r,.int i=>do
   let l <-R1 r >>= listOf
   aI5 (atI l i)
 |_,_=>M.stuck
section
variable{X:Cx}{Z:XC}{a b e:Expr}{fa fb:Fe}{pos:Pos}
def IxD(X:Cx)(Z:XC)(o:D->D->M D):Prop:=IxR X (aU3 (wc X) Z o)
theorem fA3{o:D->D->M D}(ho:IxD X Z o)(ha:DE X Z a fa)(hb:DE X Z b fb)(hs:cA3 b):DE X Z (.Subscript a b pos) (b8 o fa fb):=DE.of (fD7 ho ha.h hb.h hs) bA8
theorem cF8{c:Wc}{μ:List Addr}{H:Hp}{G:DH}{r:Option D}{K:D->List Addr->DH->Hp->Prop}(h:u9 c μ G H)(p:d7 c Z μ H (aI5 r G) K):∃d,r=some d/\K d μ G H:=by
 cases r with
 |none=>exact p.elim
 |some d=>exact⟨d,rfl,d7.ok p h⟩
theorem fD2:IxD X Z ixD:=IxR.mono (dZ3.or (ix_tup.or eU9)) λx y H Q hE0=>hE0.elim λdx dy μ G rx ry hr p=>by
 rcases dx with _|_|_|_|_|_|_|_<;>rcases dy with _|_|_|_|_|_|_|_<;>first
  |exact p.elim
  |skip
 · rename_i z i
   refine .inr (.inr ?_)
   unfold ixD at p
   dsimp only at p
   split at p
   · rename_i hz
     obtain⟨c,ec,p2⟩:=T9 p
     exact⟨z,i,c,aQ2 rx,aG6 ry,hz,ec,d7.ok p2 hr _ ofS⟩
   ·exact p.elim
 · rename_i l i
   refine .inr (.inl ?_)
   unfold d8 at rx
   obtain⟨a,vs,rfl,q,rl⟩:=rx
   obtain⟨d,ed,k⟩:=cF8 hr p
   obtain⟨v,ev,rv⟩:=cX6 rl ed
   exact⟨a,vs,i,v,rfl,aG6 ry,q,ev,k v rv⟩
 · rename_i r i
   refine .inl ?_
   obtain⟨l,a,vs,rfl,rl,p2,hq⟩:=aW2 hr rx p
   obtain⟨d,ed,k⟩:=cF8 hr p2
   obtain⟨v,ev,rv⟩:=cX6 rl ed
   rcases hq with⟨z,_⟩|⟨_,_,_,⟨_,q⟩|⟨_,q⟩⟩
   ·cases z
   ·exact⟨a,vs,i,v,rfl,aG6 ry,SqL.of q,ev,k v rv⟩
   ·exact⟨a,vs,i,v,rfl,aG6 ry,q.sq,ev,k v rv⟩
theorem fI4(ha:DE X Z a fa)(hb:DE X Z b fb)(hs:cA3 b):DE X Z (.Subscript a b pos) (b8 ixD fa fb):=fA3 fD2 ha hb hs
def cutD(xs:List D)(lo hi:Option Int):List D:=(xs.drop (HT.sIx xs.length 0 lo)).take (HT.sIx xs.length xs.length hi-HT.sIx xs.length 0 lo)
abbrev Fo:=DSt->M (Option Int)
def cR2:Fo:=λ_=>pure none
def aV5(f:Fe):Fo:=λσ=>do
 match <-f σ with
 | .int i=>pure (some i)
 |_=>M.stuck
def cT9(c:Wc)(Z:XC)(f:Fo):TO:=λσ H Q=>∃Z7 μ G,M5 c μ H Z7 σ/\u9 c μ G H/\d7 c Z μ H (f Z7 G) λo _ _ H'=>Q o H'
theorem cT9.elim{c:Wc}{Z:XC}{P:Prop}{f:Fo}{σ:St}{H:Hp}{Q:Option Int->Hp->Prop}(h:cT9 c Z f σ H Q)(k:∀Z7 μ G,M5 c μ H Z7 σ->u9 c μ G H->d7 c Z μ H (f Z7 G) (λo _ _ H'=>Q o H')->P):P:=by
 obtain⟨e0,e1,e2,e3,e4,e5⟩:=h
 exact k e0 e1 e2 e3 e4 e5
structure DOp(X:Cx)(Z:XC)(e:Option Expr)(f:Fo):Prop where
 h:PO X e (cT9 (wc X) Z f)
theorem PO.mono{e:Option Expr}{t t':TO}(h:PO X e t)(k:∀ σ H Q,t' σ H Q->t σ H Q):PO X e t':=λpins s σ H Q I q=>h pins s σ H Q I (k σ H Q q)
theorem DOp.of{e:Option Expr}{f:Fo}{t:TO}(h:PO X e t)(k:∀ σ H Q,cT9 (wc X) Z f σ H Q->t σ H Q):DOp X Z e f:=⟨PO.mono h k⟩
theorem eE9:DOp X Z none cR2:=DOp.of dY2 λσ H Q hE0=>hE0.elim λZ7 μ G s h p=>d7.ok p h
theorem dW2(h:DE X Z e fa):DOp X Z (some e) (aV5 fa):=DOp.of (dV8 h.h) λσ H Q hE0=>hE0.elim λZ7 μ G s h p=>⟨Z7,μ,G,s,h,(d7.bind p).mono λd X1 G1 H1 x1 h1 p1 v rv=>by
 cases d with
 |int i=>exact⟨i,aG6 rv,d7.ok p1 h1⟩
 |_=>exact p1.elim⟩
def slD:D->Option Int->Option Int->M D:=λx lo hi=>match x with
 | .tup l=>pure (.tup (cutD l lo hi))
 | .ref r=>do
   let l <-R1 r >>= listOf
   Q5 (.lst (cutD l lo hi))
 |_=>M.stuck
def SlD(X:Cx)(Z:XC)(o:D->Option Int->Option Int->M D):Prop:=
 SlR X λx lo hi H Q=>∃dx μ G,d8 (wc X) μ H dx x/\u9 (wc X) μ G H/\d7 (wc X) Z μ H (o dx lo hi G) λd X9 _ H'=>∀v,d8 (wc X) X9 H' d v->Q v H'
theorem SlR.mono{r r':V->Option Int->Option Int->Hp->VK->Prop}(h:SlR X r)(k:∀x lo hi H Q,r' x lo hi H Q->r x lo hi H Q):SlR X r':=λpins s σ H x v vl vu lo hi sl Q I rx hs pl pu q=>h pins s σ H x v vl vu lo hi sl Q I rx hs pl pu (k x lo hi H Q q)
theorem aW7{prog:zT}{w:jg}{A:ji}{E:VSP}{s:zm}{t sl:Addr}{items:Array zg}{vl vu:zg}{lo hi:Option Int}{Q:VSP}(ht:YE s.heap t items)(hs:s.heap.IsSliceOf sl vl vu .none)(pl:IsPart vl lo)(pu:IsPart vu hi)
 (hw:HT.sIx items.size 0 lo=0/\HT.sIx items.size items.size hi=items.size) (h:Q (.ref t) s):zt (zz prog w) A (XB (.ref t) (.ref sl)) Q E s:=by
 obtain⟨os,hos,hcs,hds⟩:=id hs
 have hTs:s.TypeIs (.ref sl) "slice":=⟨os,hos,hcs⟩
 unfold XB
 try with_reducible refine jl ?_
 first|refine za (zc ?_)|skip
 refine za (wpAny_sequenceKey ht.typeIs (by decide) ?_)
 refine za (yq ht.typeIs jD
  (jL jD ht.typeIs entry_tuple_getitem ?_ (args_tuple_getitem _ _)))
 show zt _ _ (YH (.ref t) >>= _) _ _ s
 refine za (tupleItemsOf_ ht ?_)
 refine za (xG hTs ?_)
 rw[if_pos (by decide)]
 refine za (HT.sliceApplied_gen hs pl pu ?_)
 have hyes:(((HT.sIx items.size 0 lo:Nat):Int)==0&&(1:Int)==1&&(HT.sIx items.size items.size hi-HT.sIx items.size 0 lo)==items.size)=true:=by
  rw[hw.1,hw.2];simp
 show zt _ _ (if (((HT.sIx items.size 0 lo:Nat):Int)==0&&(1:Int)==1&&(HT.sIx items.size items.size hi-HT.sIx items.size 0 lo)==items.size)=true then _ else _) _ _ s
 rw[if_pos hyes]
 unfold Builtin.Tuple.tupleIsExact
 refine za (za (xG ht.typeIs (zc ?_)))
 rw[if_pos (by decide)]
 exact za (xh (zc ⟨_,rfl,zc h⟩))
def fR4(K:zi):V->Option Int->Option Int->Hp->VK->Prop:=λx lo hi H Q=>∃a xs,x= .ref a/\SqT K H a xs/\(HT.sIx xs.length 0 lo=0/\HT.sIx xs.length xs.length hi=xs.length)/\Q (.ref a) H
theorem eD3:SlR X (fR4 X.K):=by
 intro pins s σ H x v vl vu lo hi sl Q I rx hs pl pu h
 obtain⟨a,xs,rfl,hx,hw,q⟩:=h
 cases rx
 obtain⟨its,r,ht,hz⟩:=I.tuple hx
 have hlen:its.toArray.size=xs.length:=by rw[zj];exact r.length.symm
 exact⟨"tuple",_,jD.lookup,ht.typeIs,aW7 ht hs pl pu (by rw[hlen];exact hw) ⟨.ref a,H,I,rfl,q⟩⟩
theorem cA8{c:Wc}{μ:List Addr}{H:Hp}{l:List D}{vs:List V}(r:t7 c μ H l vs)(lo hi:Option Int):t7 c μ H (cutD l lo hi) (bP7 vs lo hi):=by
 unfold cutD bP7
 rw[r.length]
 exact(r.drop _).take _
theorem fE1:SlD X Z slD:=SlR.mono (sl_tup.or (eD3.or eB9)) λx lo hi H Q ⟨dx,μ,G,rx,hr,p⟩=>by
 rcases dx with _|_|_|_|l|r|_|_<;>try (exact p.elim;done)
 ·
   unfold d8 at rx
   obtain⟨a,vs,rfl,q,rl⟩:=rx
   by_cases hw:HT.sIx vs.length 0 lo=0/\HT.sIx vs.length vs.length hi=vs.length
   · refine .inr (.inl ⟨a,vs,rfl,q,hw,bD4 hr q ?_ p⟩)
     have e:bP7 vs lo hi=vs:=by unfold bP7;rw[hw.1,hw.2];simp
     have:=cA8 rl lo hi
     rw[e]at this
     exact this
   ·exact .inl ⟨a,vs,rfl,q,hw,λp' hp=>bB6 hr (cA8 rl lo hi) p p' hp⟩
 ·
   obtain⟨l,a,vs,rfl,rl,p2,hq⟩:=aW2 hr rx p
   have hs:SqL (wc X).K H a vs:=by
    rcases hq with⟨z,_⟩|⟨_,_,_,⟨_,q⟩|⟨_,q⟩⟩
    ·cases z
    ·exact SqL.of q
    ·exact q.sq
   exact .inr (.inr ⟨a,vs,rfl,hs,λp' hp=>Z1 hr (cA8 rl lo hi) p2 p' hp⟩)
variable{lo hi:Option Expr}{fl fh:Fo}{p2:Pos}
end
noncomputable def bQ7(r:Nat)(o:DO):M Unit:=λG=>some (.ok (),G.set r o)
noncomputable def aX6(l:List (Key×D))(k:Key)(d:D):List (Key×D):=if l.any (λkv=>decide (kv.1=k))then l.map (λkv=>if kv.1=k then (kv.1,d)else kv)else l++[(k,d)]
def dU6:D->D->D->M Unit:=λo i d=>match o with
 | .ref r=>do
   match <-R1 r with
   | .lst l=>match i with
     | .int k=>match ixN l.length k with
       |some j=>bQ7 r (.lst (l.set j d))
       |none=>M.stuck
     |_=>M.stuck
   | .dct l=>match bP6 i with
     |some k=>if l.length<zl then bQ7 r (.dct (aX6 l k d))else M.stuck
     |none=>M.stuck
   | .rol _=>M.stuck
   | .rod _=>M.stuck
 |_=>M.stuck
def aF4(fo fi:Fe):Fg:=λd σ=>do
 let o <-fo σ
 let i <-fi σ
 let _ <-dU6 o i d
 pure σ
section
variable{X:Cx}{Z:XC}{μ:List Addr}{H:Hp}{G:DH}
theorem cJ0(rv:d8 c μ H d v):∀ {l} {kvs},aA8 c μ H l kvs->aA8 c μ H (aX6 l k d) (aT2 kvs k v):=by
 have any_eq:∀ {l:List (Key×D)} {kvs:List (Key×V)},aA8 c μ H l kvs->(l.any λkv=>decide (kv.1=k))= (kvs.any λkv=>decide (kv.1=k)):=by
  intro l
  induction l with
  |nil=>intro kvs r;cases r;rfl
  |cons p t ih=>
    intro kvs r
    obtain⟨v',kt,rfl,_,rt⟩:=r
    rw[yb,yb,ih rt]
 have map_eq:∀ {l:List (Key×D)} {kvs:List (Key×V)},aA8 c μ H l kvs->aA8 c μ H (l.map λkv=>if kv.1=k then (kv.1,d)else kv) (kvs.map λkv=>if kv.1=k then (kv.1,v)else kv):=by
  intro l
  induction l with
  |nil=>intro kvs r;cases r;rfl
  |cons p t ih=>
    intro kvs r
    obtain⟨k',d'⟩:=p
    obtain⟨v',kt,rfl,q,rt⟩:=r
    rw[zB,zB]
    by_cases e:k'=k
    · simp only[e,if_true]
      exact⟨v,_,rfl,rv,ih rt⟩
    · simp only[e,if_false]
      exact⟨v',_,rfl,q,ih rt⟩
 have app_eq:∀ {l:List (Key×D)} {kvs:List (Key×V)},aA8 c μ H l kvs->aA8 c μ H (l++[(k,d)]) (kvs++[(k,v)]):=by
  intro l
  induction l with
  |nil=>intro kvs r;cases r;exact⟨v, [],rfl,rv,rfl⟩
  |cons p t ih=>
    intro kvs r
    obtain⟨v',kt,rfl,q,rt⟩:=r
    exact⟨v',_,rfl,q,ih rt⟩
 intro l kvs r
 unfold aX6 aT2
 rw[any_eq r]
 split
 ·exact map_eq r
 ·exact app_eq r
theorem aA8.length:∀ {l} {kvs},aA8 c μ H l kvs->l.length=kvs.length
 |[],_,r=>by cases r;rfl
 |_::_,_,r=>by obtain⟨_,_,rfl,_,t⟩:=r;simp[aA8.length t]
theorem cB8{Q:List Addr->DH->Hp->Prop}(h:u9 c μ G H)(g:G[r]? =some o)(n:¬aQ4 (some o))(m:μ[r]? =some a)(n':¬aQ4 (some o'))(ho:∀x:Ext μ H μ (upd H a u),aP4 c μ (upd H a u) a o')
 (p:d7 c Z μ H (bQ7 r o' G) λ_ X9 G' H'=>Q X9 G' H'):Q μ (G.set r o') (upd H a u):=by
 obtain⟨u',e,n1,n2⟩:=(h.obj r o a g m).some_of n
 have x:Ext μ H μ (upd H a u):=Ext.mut (jW m) e n1 n2 u
 exact p μ _ x (h.set g n m x n' (ho x))
def eD0(c:Wc)(Z:XC)(f:D->D->D->M Unit):TSet:=λo i v H Q=>∃d1 d2 d3 μ G,d8 c μ H d1 o/\d8 c μ H d2 i/\d8 c μ H d3 v/\u9 c μ G H/\d7 c Z μ H (f d1 d2 d3 G) λ_ _ _ H'=>Q H'
theorem eN9(hu:X.A.units+64<yC):eY8 X (eD0 (wc X) Z dU6):=by
 intro pins s σ H o i v ov iv u Q I ro ri rv hE0
 obtain⟨d1,d2,d3,μ,G,r1,r2,r3,hr,p⟩:=hE0
 rcases d1 with _|_|_|_|_|r|_|_<;>try (exact p.elim;done)
 ·
   unfold d8 at r1
   obtain⟨a,m,rfl⟩:=r1
   obtain⟨ob,g,p1⟩:=O1 p
   have rob:=hr.obj r ob a g m
   rcases ob with l|l|l|l
   ·
     obtain⟨vs,ea,rl⟩:=rob
     rcases d2 with _|_|k|_|_|_|_|_<;>try (exact p1.elim;done)
     ·
       dsimp only at p1
       rcases hk:ixN l.length k with _|j
       ·simp only[hk]at p1;exact p1.elim
       ·
         simp only[hk]at p1
         exact dH2 pins s σ H (.ref a) i v ov iv u Q I ro ri rv ⟨a,vs,k,j,rfl,aG6 r2,ea,by rw[<-rl.length];exact hk,cB8 (o':=.lst (l.set j d3)) hr g (λz=>z) m (λz=>z) (λx=>⟨_,U5,(rl.mono x).set (r3.mono x) j⟩) p1⟩
   ·exact p1.elim
   ·
     obtain⟨kvs,ea,rk⟩:=rob
     dsimp only at p1
     rcases hk:bP6 d2 with _|k
     ·simp only[hk]at p1;exact p1.elim
     ·
       simp only[hk]at p1
       split at p1
       · rename_i hz
         have ei:=bX8 hk r2
         subst ei
         cases ro
         refine dB8 (by lia) I (dZ9.k ea (by rw[<-rk.length];exact hz)) ri rv λs' I'=>⟨_,I',?_⟩
         exact cB8 (o':=.dct (aX6 l k d3)) hr g (λz=>z) m (λz=>z) (λx=>⟨_,U5,cJ0 (r3.mono x) (rk.mono x)⟩) p1
       ·exact p1.elim
   ·exact p1.elim
variable{a b e o i:Expr}{fa fb fo fi:Fe}
theorem eK8(hu:X.A.units+64<yC)(ho:DE X Z o fo)(hi:DE X Z i fi)
 (ha:∀v,Yw (.Subscript o i pos) X.env v= (do
   let ov <-YV [v] (eval o X.env)
   let iv <-YV [v,ov] (eval i X.env)
   Jv pos
   YV [v,ov,iv] (setItem ov iv v)
   release [v,ov,iv] [])):DG X Z (.Subscript o i pos) (aF4 fo fi):=
 DG.of (eY5 ho.h hi.h (eN9 hu) ha) λv σ H Q hE0=>hE0.elim λd Z7 μ G r s h p=>⟨Z7,μ,G,s,h,(d7.bind p).mono λd1 X1 G1 H1 x1 h1 p1 v1 r1=>
  ⟨Z7,X1,G1,s.mono x1,h1,(d7.bind p1).mono λd2 WZ G2 H2 x2 h2 p2 v2 r2=>⟨d1,d2,d,WZ,G2,r1.mono x2,r2,r.mono (x1.trans x2),h2,(d7.bind p2).mono λ_ WS G3 H3 x3 h3 p3=>d7.ok p3 h3 σ (s.mono (x1.trans (x2.trans x3)))⟩⟩⟩
def T4:D->M Unit:=λx=>match x with
 | .ref r=>do
   match <-R1 r with
   | .lst _=>pure ()
   |_=>M.stuck
 |_=>M.stuck
noncomputable def mtE(t:D->M Unit)(m:D->List D->M D)(fo:Fe)(fs:DSt->M (List D)):Fe:=λσ=>do
 let x <-fo σ
 let _ <-t x
 let xs <-fs σ
 m x xs
def lstM(r:Nat):M (List D):=do
 match <-R1 r with
 | .lst l=>pure l
 |_=>M.stuck
def X7:D->List D->M D:=λx xs=>match x,xs with
 | .ref r, [y]=>do
   let l <-lstM r
   if l.length<zl then do
    let _ <-bQ7 r (.lst (l++[y]))
    pure .non
   else M.stuck
 |_,_=>M.stuck
def eC6:D->List D->M D:=λx xs=>match x,xs with
 | .ref r, []=>do
   let l <-lstM r
   match l.getLast? with
   |some y=>do
     let _ <-bQ7 r (.lst l.dropLast)
     pure y
   |none=>M.stuck
 |_,_=>M.stuck
theorem bS6{a:Addr}{f:List D->M α}{K:α->List Addr->DH->Hp->Prop}(h:u9 c μ G H)(m:μ[r]? =some a)(p:d7 c Z μ H ((lstM r >>= f) G) K):
 ∃l vs,G[r]? =some (.lst l)/\H a=some (.lst vs)/\t7 c μ H l vs/\d7 c Z μ H (f l G) K:=by
 have p':d7 c Z μ H ((R1 r >>= λo=>(match o with| .lst l=>pure l|_=>M.stuck:M (List D)) >>= f) G) K:=by rw[<-M.bind_assoc];exact p
 obtain⟨o,g,p2⟩:=O1 p'
 have ro:=h.obj r o a g m
 rcases o with l|_|_|_<;>try (exact p2.elim;done)
 ·obtain⟨vs,e,rl⟩:=ro;exact⟨l,vs,g,e,rl,p2⟩
def MtD(X:Cx)(Z:XC)(id:String)(m:D->List D->M D):Prop:=
 MtR X id λx xs H Q=>∃d ds μ G,d8 (wc X) μ H d x/\t7 (wc X) μ H ds xs/\u9 (wc X) μ G H/\d7 (wc X) Z μ H (m d ds G) λd X9 _ H'=>∀v,d8 (wc X) X9 H' d v->Q v H'
theorem cJ9{r:Nat}{a:Addr}{f:M α}{K:α->List Addr->DH->Hp->Prop}(h:u9 c μ G H)(g:G[r]? =some (.lst l))(m:μ[r]? =some a)(rl:∀x:Ext μ H μ (upd H a (.lst vs')),t7 c μ (upd H a (.lst vs')) l' vs')
 (p:d7 c Z μ H ((bQ7 r (.lst l') >>= λ_=>f) G) K):Ext μ H μ (upd H a (.lst vs'))/\u9 c μ (G.set r (.lst l')) (upd H a (.lst vs'))/\d7 c Z μ (upd H a (.lst vs')) (f (G.set r (.lst l'))) K:=by
 obtain⟨u',e,n1,n2⟩:=(h.obj r _ a g m).some_of (λz=>z)
 have x:Ext μ H μ (upd H a (.lst vs')):=Ext.mut (jW m) e n1 n2 _
 have h':u9 c μ (G.set r (.lst l')) (upd H a (.lst vs')):=h.set g (λz=>z) m x (λz=>z) ⟨vs',U5,rl x⟩
 exact⟨x,h',d7.from p x⟩
theorem dD1:MtD X Z "list.append" X7:=by
 intro pins s σ H x xs v us Q I rx rs hE0
 obtain⟨d,ds,μ,G,rd,rds,hr,p⟩:=hE0
 rcases d with _|_|_|_|_|r|_|_<;>try (exact p.elim;done)
 ·
   unfold d8 at rd
   obtain⟨a,m,rfl⟩:=rd
   rcases ds with _|⟨y,t⟩
   ·exact p.elim
   ·
     rcases t with _|⟨_,_⟩
     ·
       obtain⟨yv,tv,rfl,ry,e⟩:=rds
       cases e
       obtain⟨l,vs,g,ea,rl,p1⟩:=bS6 hr m p
       split at p1
       · rename_i hz
         obtain⟨x1,h1,p2⟩:=cJ9 hr g m (λx=>(rl.mono x).append (t7.cons (ry.mono x) t7.nil)) p1
         exact bT8 pins s σ H (.ref a) [yv] v us Q I rx rs ⟨a,vs,yv,rfl,rfl,ea,by rw[<-rl.length];exact hz,d7.ok p2 h1 _ ofN⟩
       ·exact p1.elim
     ·exact p.elim
theorem eU2:MtD X Z "list.pop" eC6:=by
 intro pins s σ H x xs v us Q I rx rs hE0
 obtain⟨d,ds,μ,G,rd,rds,hr,p⟩:=hE0
 rcases d with _|_|_|_|_|r|_|_<;>try (exact p.elim;done)
 ·
   unfold d8 at rd
   obtain⟨a,m,rfl⟩:=rd
   rcases ds with _|⟨_,_⟩
   ·
     cases rds
     obtain⟨l,vs,g,ea,rl,p1⟩:=bS6 hr m p
     rcases hy:l.getLast? with _|y
     ·simp only[hy]at p1;exact p1.elim
     ·
       simp only[hy]at p1
       obtain⟨x1,h1,p2⟩:=cJ9 hr g m (λx=>(rl.mono x).dropLast) p1
       rw[List.getLast?_eq_getElem?]at hy
       obtain⟨yv,e1,ry⟩:=rl.get hy
       rw[rl.length]at e1
       exact eN5 pins s σ H (.ref a) [] v us Q I rx rs ⟨a,vs,yv,rfl,rfl,ea,e1,d7.ok p2 h1 _ (ry.mono x1)⟩
   ·exact p.elim
variable{es:List Expr}{fs:DSt->M (List D)}{name:Str}{apos cpos:Pos}{id:String}{mm:D->List D->M D}
theorem bG2{f:Unit->M α}{K:α->List Addr->DH->Hp->Prop}(h:u9 c μ G H)(r:d8 c μ H d v)(p:d7 c Z μ H ((T4 d >>= f) G) K):tyV c.K "list" v H/\d7 c Z μ H (f () G) K:=by
 rcases d with _|_|_|_|_|i|_|_<;>try (exact p.elim;done)
 ·
   unfold d8 at r
   obtain⟨a,m,rfl⟩:=r
   have p':d7 c Z μ H ((R1 i >>= λo=>(match o with| .lst _=>pure ()|_=>M.stuck:M Unit) >>= f) G) K:=by rw[<-M.bind_assoc];exact p
   obtain⟨o,g,p2⟩:=O1 p'
   have ro:=h.obj i o a g m
   rcases o with l|_|_|_<;>try (exact p2.elim;done)
   ·obtain⟨vs,e,rl⟩:=ro;exact⟨.inl ⟨rfl,vs,SqL.of e⟩,p2⟩
theorem fF5(slot:Slot "list" name id)(hty:typeOf (.builtin id)=pure (.type "method_descriptor"))(hm:MtD X Z id mm)(ho:DE X Z o fo)(ha:DA X Z (e::es) fs)
 (hbase:xn o name X.env (eval o X.env)=eval o X.env)
 (hfew:((yQ cpos (zK (e::es) X.env)).all (λx=> !x.1)&&(XD cpos (ZM [] X.env)).all (λx=>x.1.isSome)
   && decide ((e::es).length+([]:List Keyword).length+(if ([]:List Keyword).isEmpty then 0 else 1)<30))=true)
 (hline:(apos.endLine==cpos.line)=true) (hs:zK (e::es) X.env= (false,eval e X.env)::zK es X.env) (hplain:(yQ cpos (zK es X.env)).any (·.1)=false):
 DE X Z (.Call (.Attribute o name apos) (e::es) [] cpos) (mtE T4 mm fo fs):=
 DE.of (dN1 XR slot hty hm ho.h ha.h hbase hfew hline hs hplain) λσ H Q hE0=>hE0.elim λZ7 μ G s h p=>⟨Z7,μ,G,s,h,(d7.bind p).mono λd X1 G1 H1 x1 h1 p1 v rv=>by
  obtain⟨ty,p2⟩:=bG2 h1 rv p1
  exact⟨ty,Z7,X1,G1,s.mono x1,h1,(d7.bind p2).mono λds WZ G2 H2 x2 h2 p3 vs rvs=>⟨d,ds,WZ,G2,rv.mono x2,rvs,h2,p3⟩⟩⟩
theorem fA0(slot:Slot "list" name id)(hty:typeOf (.builtin id)=pure (.type "method_descriptor"))(hm:MtD X Z id mm)(ho:DE X Z o fo)
 (hbase:xn o name X.env (eval o X.env)=eval o X.env) (hline:(apos.endLine==cpos.line)=true):DE X Z (.Call (.Attribute o name apos) [] [] cpos) (mtE T4 mm fo q14):=
 DE.of (eQ2 XR slot hty hm ho.h hbase hline) λσ H Q hE0=>hE0.elim λZ7 μ G s h p=>⟨Z7,μ,G,s,h,(d7.bind p).mono λd X1 G1 H1 x1 h1 p1 v rv=>by
  obtain⟨ty,p2⟩:=bG2 h1 rv p1
  exact⟨ty,d, [],X1,G1,rv,rfl,h1,p2⟩⟩
end
noncomputable def SI(k:Bool)(h:Heap)(it a:Addr)(i:Nat):Prop:=if k then h.IsTupleIter it a i else h.IsListIter it a i
noncomputable def SC(k:Bool)(h:Heap)(a:Addr)(items:Array zg):Prop:=if k then h.IsTuple a items else h.IsList a items
section
variable{prog:zT}{w:jg}{A:ji}{E:VSP}{s:zm}
structure ZA(z TI TO i1 i2:Addr):Prop where
 TIz:TI≠z
 TOz:TO≠z
 i1z:i1≠z
 i2z:i2≠z
 TITO:TI≠TO
 TIi1:TI≠i1
 TIi2:TI≠i2
 TOi1:TO≠i1
 TOi2:TO≠i2
 i12:i1≠i2
variable{z TI TO i1 i2 l1 l2:Addr}{xs ys:Array zg}{k1 k2:Bool}{i:Nat}
end
section
theorem bL0{ch:List Addr}(I:Inv X pins σ H s)(hf:∀b∈ch,aN9 X pins H b)(k:∀b o,b∉ch->s.heap.get? b=some o->h'.get? b=some o):Inv X pins σ H {s with heap:=h',toks:=t'}:=by
 have nch:∀b u,H b=some u->b∉ch:=λb u e z=>by rw[(hf b z).1]at e;cases e
 refine I.step (λb hb=>⟨(hf b hb).2.2.2.1,(hf b hb).2.1,(hf b hb).2.2.2.2.1,(hf b hb).2.2.2.2.2⟩) (λb o _ _ hc e _=>k b o hc e) (λb o _ _ hc e _=>⟨o.slots,k b o hc e⟩)
  (λ_ _ _ _ n=>n) (λb o hc e=>⟨o,k b o hc e⟩) (λ_ _ e=>e) (λ_ _ _ e=>e) (λb ps e=>⟨#[],by rw[e];simp⟩) (λm hm=>?_) (λb u e=>?_) I.bare
 · obtain⟨o,es,ep,ho,r⟩:=hm
   exact⟨o,es,ep,k _ o (λz=>(hf _ z).2.1 rfl) ho,r⟩
 · refine(I.hok b u e).stay (λc v hc q=>k c v ?_ q) (λ_ q=>q) λ_ _ q=>q
   rcases hc with z|z
   ·rw[z];exact nch b u e
   ·exact nch c _ z
end
def Sq(K:zi)(k:Bool)(H:Hp)(a:Addr)(vs:List V):Prop:=if k then SqT K H a vs else SqL K H a vs
section
structure ZMk(k1 k2:Bool)(h h5:Heap)(l1 l2:Addr)(n:Nat):Prop where
 keep:∀b o,h.get? b=some o->h5.get? b=some o
 sz:h5.objs.size=n+5
 g5:IsZip h5 (n+4:Nat) (n+2:Nat) (n+3:Nat) .none
 g4:IsPair h5 (n+3:Nat) .none .none
 g3:IsPair h5 (n+2:Nat) (.ref n) (.ref (n+1:Nat))
 s1:SI k1 h5 n l1 0
 s2:SI k2 h5 (n+1:Nat) l2 0
end
section
open Classical in
noncomputable def ckO(r:Nat)(o:DO):DH->Bool:=λG=>decide (G[r]? =some o)
def bP8:D->M Src:=λx=>match x with
 | .tup l=>pure ⟨l,λ_=>true⟩
 | .ref r=>do
   let o <-R1 r
   let l <-listOf o
   pure ⟨l,ckO r o⟩
 |_=>M.stuck
def fI0(c:Wc)(μ:List Addr)(H:Hp)(k:Bool)(a:Addr)(s:Src):Prop:=∀ X9 G' H',Ext μ H X9 H'->u9 c X9 G' H'->s.ck G'=true->∃vs,Sq c.K k H' a vs/\t7 c X9 H' s.items vs
theorem dB3{H:Hp}{G:DH}{d:D}{v:V}{f:Src->M α}{K:α->List Addr->DH->Hp->Prop}(h:u9 c μ G H)(r:d8 c μ H d v)(p:d7 c Z μ H ((bP8 d >>= f) G) K):
 ∃s k a vs,v= .ref a/\Sq c.K k H a vs/\t7 c μ H s.items vs/\fI0 c μ H k a s/\s.ck G=true/\(∀i,d= .ref i->k=false)/\d7 c Z μ H (f s G) K:=by
 rcases d with _|_|_|_|l|i|_|_<;>try (exact p.elim;done)
 ·
   unfold d8 at r
   obtain⟨a,vs,rfl,q,rl⟩:=r
   exact⟨⟨l,λ_=>true⟩,true,a,vs,rfl,q,rl,λX9 G' H' x h' _=>⟨vs,x.sqT q,rl.mono x⟩,rfl,(λi z=>nomatch z),p⟩
 ·
   unfold d8 at r
   obtain⟨a,m,rfl⟩:=r
   have p':d7 c Z μ H ((R1 i >>= λo=>(listOf o >>= λl=>(pure ⟨l,ckO i o⟩:M Src)) >>= f) G) K:=by rw[<-M.bind_assoc];exact p
   obtain⟨o,g,p2⟩:=O1 p'
   have ro:=h.obj i o a g m
   have ck:ckO i o G=true:=by unfold ckO;simp[g]
   cases o with
   |lst l=>
     obtain⟨vs,q,rl⟩:=ro
     refine⟨⟨l,ckO i (.lst l)⟩,false,a,vs,rfl,SqL.of q,rl,λX9 G' H' x h' hck=>?_,ck,(λ_ _=>rfl),p2⟩
     have g':G'[i]? =some (.lst l):=by unfold ckO at hck;simpa using hck
     obtain⟨vs',q',rl'⟩:=h'.obj i _ a g' (cA6 x.pre m)
     exact⟨vs',SqL.of q',rl'⟩
   |rol l=>
     obtain⟨vs,q,rl⟩:=ro
     refine⟨⟨l,ckO i (.rol l)⟩,false,a,vs,rfl,q.sq,rl,λX9 G' H' x h' hck=>?_,ck,(λ_ _=>rfl),p2⟩
     have g':G'[i]? =some (.rol l):=by unfold ckO at hck;simpa using hck
     obtain⟨vs',q',rl'⟩:=h'.obj i _ a g' (cA6 x.pre m)
     exact⟨vs',q'.sq,rl'⟩
   |dct l=>exact p2.elim
   |rod l=>exact p2.elim
theorem cR5{H:Hp}{i:Nat}{d:D}{x:V}(r:t7 c μ H l vs)(h:l[i]? =some d)(hx:vs[i]? =some x):d8 c μ H d x:=by
 obtain⟨v,e,q⟩:=r.get h
 rw[hx]at e
 cases e
 exact q
noncomputable def K6(lo:Int)(n:Nat):List D:=(zX n).map fun(i:Nat)=>D.int (lo+(i:Int))
def aB6(fs:DSt->M (List D)):DSt->M Src:=λσ=>do
 match <-fs σ with
 |[.int j]=>if -(2 ^ 62)<=j/\j<2 ^ 62 then pure ⟨K6 0 j.toNat,λ_=>true⟩else M.stuck
 |_=>M.stuck
def aR2(fs:DSt->M (List D)):DSt->M Src:=λσ=>do
 match <-fs σ with
 |[.int i,.int j]=>if -(2 ^ 62)<=i/\i<2 ^ 62/\ -(2 ^ 62)<=j/\j<2 ^ 62 then pure ⟨K6 i (j-i).toNat,λ_=>true⟩else M.stuck
 |_=>M.stuck
theorem bR9(lo:Int)(n:Nat):ItD c μ H (Itr lo n) ⟨K6 lo n,λ_=>true⟩:=λX9 G' H' x' h' _ i=>by
 refine⟨λd hd=>?_,λhi=>?_⟩
 · have hi:i<n:=by have:=lt_of_get hd;simpa [K6]using this
   have e:d= .int (lo+i):=by
    unfold K6 at hd
    rw[zG,List.getElem?_range hi]at hd
    simp at hd
    exact hd.symm
   subst e
   exact⟨hi,λx H2 ⟨e1,e2⟩=>by subst e1 e2;exact⟨Ext.refl _ _,h',ofI⟩⟩
 · show n<=i
   simpa [K6]using hi
theorem dV9(hg:Gl X "range")(hm:X.mg "range" =none)(ha:DA X Z [a] fs)(hs:zK [a] X.env= [(false,eval a X.env)]):DI X Z tg (.Call (.Name "range" p) [a] [] pos) (aB6 fs):=
 DI.of (dC8 hg hm ha.h hs) λσ H R hE0=>hE0.elim λZ7 μ G s h p=>⟨Z7,μ,G,s,h,(d7.bind p).mono λds X1 G1 H1 x1 h1 p1 vs rv=>by
  rcases ds with _|⟨_|_|j|_|_|_|_|_,_|⟨_,_⟩⟩<;>dsimp only at p1<;>try exact p1.elim
  · split at p1
    · rename_i hj
      obtain⟨v,t,rfl,r0,e⟩:=rv
      cases e
      exact⟨j,by rw[aG6 r0],hj.1,hj.2,d7.ok p1 h1 _ (bR9 0 _)⟩
    ·exact p1.elim⟩
theorem dY7(hg:Gl X "range")(hm:X.mg "range" =none)(ha:DA X Z [a,b] fs)(hs:zK [a,b] X.env= [(false,eval a X.env),(false,eval b X.env)])(hs2:zK [b] X.env= [(false,eval b X.env)]):DI X Z tg (.Call (.Name "range" p) [a,b] [] pos) (aR2 fs):=
 DI.of (dA0 hg hm ha.h hs hs2) λσ H R hE0=>hE0.elim λZ7 μ G s h p=>⟨Z7,μ,G,s,h,(d7.bind p).mono λds X1 G1 H1 x1 h1 p1 vs rv=>by
  rcases ds with _|⟨_|_|i|_|_|_|_|_,t⟩<;>try exact p1.elim
  rcases t with _|⟨_|_|j|_|_|_|_|_,_|⟨_,_⟩⟩<;>dsimp only at p1<;>try exact p1.elim
  · split at p1
    · rename_i hj
      obtain⟨v,t,rfl,r0,v1,t1,rfl,r1,e⟩:=rv
      cases e
      exact⟨i,j,by rw[aG6 r0,aG6 r1],hj,d7.ok p1 h1 _ (bR9 i _)⟩
    ·exact p1.elim⟩
end
def aB0:List D->M D:=λds=>match ds with
 |[.str z]=>if z.length<=zl then pure (.int z.length)else M.stuck
 |[.tup l]=>pure (.int l.length)
 |[.ref r]=>do
   match <-R1 r with
   | .lst l=>pure (.int l.length)
   | .rol l=>pure (.int l.length)
   | .dct l=>pure (.int l.length)
   | .rod _=>M.stuck
 |_=>M.stuck
def M9:List D->M D:=λds=>match ds with
 |[.tup l]=>pure (.tup l)
 |[.ref r]=>do
   let l <-R1 r >>= listOf
   pure (.tup l)
 |_=>M.stuck
def bC6:List D->M D:=λds=>match ds with
 |[.tup l]=>Q5 (.lst l)
 |[.ref r]=>do
   let l <-R1 r >>= listOf
   Q5 (.lst l)
 |_=>M.stuck
def dH3:List D->M D:=λds=>match ds with
 |[.int i,.int j]=>pure (.int (if j>i then j else i))
 |_=>M.stuck
def dB2:List D->M D:=λds=>match ds with
 |[.int i]=>pure (.int (if i<0 then -i else i))
 |_=>M.stuck
def bP3:List D->M D:=λds=>match ds with
 |[.int i]=>pure (.int i)
 |[.bl k]=>pure (.int (if k then 1 else 0))
 |_=>M.stuck
noncomputable def aM5:List D->Option (List Int)
 |[]=>some []
 | .int i::r=>(aM5 r).map (i :: ·)
 |_=>none
noncomputable def aX0:List D->Option (List Bool)
 |[]=>some []
 | .bl b::r=>(aX0 r).map (b :: ·)
 |_=>none
def dD5:List D->M D:=λds=>match ds with
 |[.ref r]=>do
   let l <-R1 r >>= listOf
   let bs <-aI5 (aX0 l)
   pure (.bl (bs.all id))
 |_=>M.stuck
def dO1:List D->M D:=λds=>match ds with
 |[.ref r]=>do
   let l <-R1 r >>= listOf
   let bs <-aI5 (aX0 l)
   pure (.bl (bs.any id))
 |_=>M.stuck
theorem dI7{F:List D->M α}{c:Wc}{Z:XC}{H:Hp}{G:DH}{K:α->List Addr->DH->Hp->Prop}(p:d7 c Z μ H (F ds G) K)(h0:F []=M.stuck)(h2:∀a b t,F (a::b::t)=M.stuck)(hn:F [.non]=M.stuck)(hb:∀b,F [.bl b]=M.stuck)(hi:∀b,F [.int b]=M.stuck)(hs:∀b,F [.str b]=M.stuck)(ht:∀b,F [.tup b]=M.stuck)(hf:∀b,F [.fn b]=M.stuck)(hy:∀b,F [.ty b]=M.stuck):∃r,ds= [.ref r]:=by
 rcases ds with _|⟨d,_|⟨_,_⟩⟩
 ·rw[h0]at p;exact p.elim
 · rcases d with _|b|b|b|b|b|b|b
   ·rw[hn]at p;exact p.elim
   ·rw[hb]at p;exact p.elim
   ·rw[hi]at p;exact p.elim
   ·rw[hs]at p;exact p.elim
   ·rw[ht]at p;exact p.elim
   ·exact⟨b,rfl⟩
   ·rw[hf]at p;exact p.elim
   ·rw[hy]at p;exact p.elim
 ·rw[h2]at p;exact p.elim
section
theorem aQ1(r:t7 c μ H [d] vs):∃v,vs= [v]/\d8 c μ H d v:=by
 obtain⟨v,t,rfl,q,e⟩:=r
 cases e
 exact⟨v,rfl,q⟩
theorem eF0(r:t7 c μ H [d,e] vs):∃v w,vs= [v,w]/\d8 c μ H d v/\d8 c μ H e w:=by
 obtain⟨v,t,rfl,q,v',t',rfl,q',z⟩:=r
 cases z
 exact⟨v,v',rfl,q,q'⟩
theorem eV4:aA4 X Z (.builtin "len") aB0:=aA4.of (aD0.or cB1 (aD0.or bY7 dD2)) λxs H Q hE0=>hE0.elim λds μ G rl hr p=>by
 rcases ds with _|⟨_|_|_|z|l|i|_|_,_|⟨_,_⟩⟩<;>try exact p.elim
 all_goals (delta aB0 at p;dsimp only at p)
 · obtain⟨v,rfl,r⟩:=aQ1 rl
   split at p
   · rename_i hz
     exact .inr (.inl ⟨z,by rw[aQ2 r],hz,d7.ok p hr _ ofI⟩)
   ·exact p.elim
 · obtain⟨v,rfl,r⟩:=aQ1 rl
   unfold d8 at r
   obtain⟨a,vs,rfl,q,rl'⟩:=r
   exact .inl ⟨a,vs,rfl,.inr q,by rw[<-rl'.length];exact d7.ok p hr _ ofI⟩
 · obtain⟨v,rfl,r⟩:=aQ1 rl
   unfold d8 at r
   obtain⟨a,m,rfl⟩:=r
   obtain⟨o,g,p1⟩:=O1 p
   have ro:=hr.obj i o a g m
   rcases o with l|l|l|l
   ·obtain⟨vs,q,rl'⟩:=ro;exact .inl ⟨a,vs,rfl,.inl (SqL.of q),by rw[<-rl'.length];exact d7.ok p1 hr _ ofI⟩
   ·obtain⟨vs,q,rl'⟩:=ro;exact .inl ⟨a,vs,rfl,.inl q.sq,by rw[<-rl'.length];exact d7.ok p1 hr _ ofI⟩
   ·obtain⟨kvs,q,rk⟩:=ro;exact .inr (.inr ⟨a,kvs,rfl,q,by rw[<-rk.length];exact d7.ok p1 hr _ ofI⟩)
   ·exact p1.elim
theorem aE4{f:List D->M α}{K:α->List Addr->DH->Hp->Prop}(h:u9 c μ G H)(rv:d8 c μ H (.ref r) v)(p:d7 c Z μ H (((R1 r >>= listOf) >>= f) G) K):
 ∃l a vs,v= .ref a/\t7 c μ H l vs/\SqL c.K H a vs/\d7 c Z μ H (f l G) K:=by
 obtain⟨l,a,vs,rfl,rl,p2,hq⟩:=aW2 h rv p
 refine⟨l,a,vs,rfl,rl,?_,p2⟩
 rcases hq with⟨z,_⟩|⟨_,_,_,⟨_,q⟩|⟨_,q⟩⟩
 ·cases z
 ·exact SqL.of q
 ·exact q.sq
theorem dR4:aA4 X Z (.type "tuple") M9:=aA4.of bR5 λxs H Q hE0=>hE0.elim λds μ G rl hr p=>by
 rcases ds with _|⟨_|_|_|_|l|i|_|_,_|⟨_,_⟩⟩<;>try exact p.elim
 all_goals (delta M9 at p;dsimp only at p)
 · obtain⟨v,rfl,r⟩:=aQ1 rl
   have r':=r
   unfold d8 at r'
   obtain⟨a,vs,rfl,q,rl'⟩:=r'
   exact⟨a,vs,rfl,.inr ⟨q,d7.ok p hr _ r⟩⟩
 · obtain⟨v,rfl,r⟩:=aQ1 rl
   obtain⟨l,a,vs,rfl,rl',q,p2⟩:=aE4 hr r p
   exact⟨a,vs,rfl,.inl ⟨q,λl' hl=>bB6 hr rl' p2 l' hl⟩⟩
theorem eG2:aA4 X Z (.type "list") bC6:=aA4.of bZ0 λxs H Q hE0=>hE0.elim λds μ G rl hr p=>by
 rcases ds with _|⟨_|_|_|_|l|i|_|_,_|⟨_,_⟩⟩<;>try exact p.elim
 all_goals (delta bC6 at p;dsimp only at p)
 · obtain⟨v,rfl,r⟩:=aQ1 rl
   unfold d8 at r
   obtain⟨a,vs,rfl,q,rl'⟩:=r
   exact⟨a,vs,rfl,.inr q,λl' hl=>Z1 hr rl' p l' hl⟩
 · obtain⟨v,rfl,r⟩:=aQ1 rl
   obtain⟨l,a,vs,rfl,rl',q,p2⟩:=aE4 hr r p
   exact⟨a,vs,rfl,.inl q,λl' hl=>Z1 hr rl' p2 l' hl⟩
theorem eM4(hc:X.calm=true):aA4 X Z (.builtin "max") dH3:=aA4.of (dA7 hc) λxs H Q hE0=>hE0.elim λds μ G rl hr p=>by
 delta dH3 at p
 rcases ds with _|⟨_|_|i|_|_|_|_|_,t⟩<;>try exact p.elim
 rcases t with _|⟨_|_|j|_|_|_|_|_,_|⟨_,_⟩⟩<;>try exact p.elim
 obtain⟨v,w,rfl,r,r'⟩:=eF0 rl
 exact⟨_,_,by rw[aG6 r,aG6 r'],d7.ok p hr _ ofI⟩
theorem eT1:aA4 X Z (.builtin "abs") dB2:=aA4.of dR1 λxs H Q hE0=>hE0.elim λds μ G rl hr p=>by
 rcases ds with _|⟨_|_|_|_|_|_|_|_,_|⟨_,_⟩⟩<;>try exact p.elim
 all_goals (delta dB2 at p;dsimp only at p)
 · obtain⟨v,rfl,r⟩:=aQ1 rl
   exact⟨_,by rw[aG6 r],d7.ok p hr _ ofI⟩
theorem eX1:aA4 X Z (.type "int") bP3:=aA4.of dB9 λxs H Q hE0=>hE0.elim λds μ G rl hr p=>by
 rcases ds with _|⟨_|_|_|_|_|_|_|_,_|⟨_,_⟩⟩<;>try exact p.elim
 all_goals (delta bP3 at p;dsimp only at p)
 · obtain⟨v,rfl,r⟩:=aQ1 rl
   exact .inr ⟨_,by rw[bR3 r],d7.ok p hr _ ofI⟩
 · obtain⟨v,rfl,r⟩:=aQ1 rl
   exact .inl ⟨_,by rw[aG6 r],d7.ok p hr _ ofI⟩
theorem bV1:∀ {l} {ns} {vs} {us},aM5 l=some ns->t7 c μ H l vs->v6 vs us->us.length=ns.length/\∀i u,us[i]? =some u->∃t,u=Value.int (ns.getD i 0) t
 |[],_,_,_,e,r,q=>by cases e;cases r;cases q;exact⟨rfl,λi u h=>by simp at h⟩
 |d::ds,ns,_,_,e,r,q=>by
   obtain⟨v,t,rfl,r0,rt⟩:=r
   cases q with
   |cons q0 qt=>
     rcases d with _|_|n|_|_|_|_|_<;>try (cases e;done)
     ·
       replace e:(aM5 ds).map (n :: ·)=some ns:=e
       rcases h:aM5 ds with _|ms
       ·rw[h]at e;exact J6 e
       ·
         rw[h]at e
         cases e
         obtain⟨h1,h2⟩:=bV1 h rt qt
         refine⟨by simp[h1],λi u hu=>?_⟩
         cases i with
         |zero=>
           simp at hu;subst hu
           rw[aG6 r0]at q0
           exact q0
         |succ i=>simpa using h2 i u (by simpa using hu)
theorem bN6:∀ {l} {bs} {vs} {us},aX0 l=some bs->t7 c μ H l vs->v6 vs us->us.length=bs.length/\∀i u,us[i]? =some u->u=Value.bool (bs.getD i false)
 |[],_,_,_,e,r,q=>by cases e;cases r;cases q;exact⟨rfl,λi u h=>by simp at h⟩
 |d::ds,ns,_,_,e,r,q=>by
   obtain⟨v,t,rfl,r0,rt⟩:=r
   cases q with
   |cons q0 qt=>
     rcases d with _|n|_|_|_|_|_|_<;>try (cases e;done)
     ·
       replace e:(aX0 ds).map (n :: ·)=some ns:=e
       rcases h:aX0 ds with _|ms
       ·rw[h]at e;exact J6 e
       ·
         rw[h]at e
         cases e
         obtain⟨h1,h2⟩:=bN6 h rt qt
         refine⟨by simp[h1],λi u hu=>?_⟩
         cases i with
         |zero=>
           simp at hu;subst hu
           rw[bR3 r0]at q0
           exact q0
         |succ i=>simpa using h2 i u (by simpa using hu)
theorem dB6(bs:List Bool):((zX bs.length).all λi=>bs.getD i false)=bs.all id:=by
 induction bs with
 |nil=>rfl
 |cons b t ih=>rw[zD,yW,yc,ZU,yc];simp[xK];rw[<-ih];simp
theorem dB1(bs:List Bool):((zX bs.length).any λi=>bs.getD i false)=bs.any id:=by
 induction bs with
 |nil=>rfl
 |cons b t ih=>rw[zD,yW,yb,ZT,yb];simp[xK];rw[<-ih];simp
theorem bW1{σ:St}{a:Addr}{its:List zg}(hc:X.calm=true)(I:Inv X pins σ H s)(hl:s.heap.IsList a its.toArray)
 (h:Walks X.prog X.w X.A.in1 s.heap.objs.size [s.heap.objs.size,a] [s.heap.objs.size] its.toArray.size (λi v=>its.toArray[i]? =some v) (λi h=>h.IsListIter s.heap.objs.size a i/\h.IsList a its.toArray)->
   ∀h2:Heap,(h2.IsListIter s.heap.objs.size a 0/\h2.IsList a its.toArray)->(∀b∈ [s.heap.objs.size,a],b<h2.objs.size)->(∀h' tk,(∀b o,b∉ [s.heap.objs.size]->h2.get? b=some o->h'.get? b=some o)->Inv X pins σ H {s with heap:=h',toks:=tk})->Q (.ref s.heap.objs.size) {s with heap:=h2}):
 zt (zz X.prog X.w) X.A.in1 (JA (.ref a)) Q E s:=by
 have hlt:a<s.heap.objs.size:=by obtain⟨_,e,_⟩:=hl;exact zn e
 refine Zb hl ?_
 have hh:X.A.in1.handled=none:=I.ok.hd hc
 refine h (XE hh s.heap.objs.size a (zw hlt) its.toArray) _ ⟨⟨_,zp _ rfl,rfl,rfl⟩,hl.push _⟩ (λb hb=>?_) λh' tk k=>?_
 · rw[Zr]
   simp only[zu,ju,or_false]at hb
   rcases hb with rfl|rfl
   ·exact xy _
   ·exact jG hlt
 ·exact I.kept λb o e=>k b o (by simp only[zr];exact zw (zn e)) (zh _ e)
theorem eL6(hc:X.calm=true):aA4 X Z (.builtin "all") dD5:=⟨by
 intro pins s σ H xs us Q I r hE0
 obtain⟨ds,μ,G,rl,hr,p⟩:=hE0
 obtain⟨i,rfl⟩:=dI7 p rfl (λa _ _=>by cases a<;>rfl) rfl (λ_=>rfl) (λ_=>rfl) (λ_=>rfl) (λ_=>rfl) (λ_=>rfl) λ_=>rfl
 · obtain⟨v,rfl,rv⟩:=aQ1 rl
   obtain⟨u,rfl,ru⟩:=aG1 r
   obtain⟨l,a,vs,rfl,rl',q,p2⟩:=aE4 hr rv p
   cases ru
   obtain⟨bs,en,p3⟩:=T9 p2
   obtain⟨its,rr,pl,hz⟩:=I.list q
   obtain⟨h1,h2⟩:=bN6 en rl' rr
   refine call_all_walk (bW1 hc I pl.isList λW g hg hb hk=>⟨_,_,_,_,_,_,λi=>bs.getD i false,rfl,W,hg,λi v s' Q' E' hv hq=>?_,λh' tk k=>?_⟩)
   · rw[h2 i v (by simpa using hv)]
     exact ye hq
   · refine⟨.bl (bs.all id),H,hk h' tk k,?_,d7.ok p3 hr _ ofB⟩
     have e:its.toArray.size=bs.length:=by rw[zj];exact h1
     rw[e,dB6];rfl⟩
theorem eO5(hc:X.calm=true):aA4 X Z (.builtin "any") dO1:=⟨by
 intro pins s σ H xs us Q I r hE0
 obtain⟨ds,μ,G,rl,hr,p⟩:=hE0
 obtain⟨i,rfl⟩:=dI7 p rfl (λa _ _=>by cases a<;>rfl) rfl (λ_=>rfl) (λ_=>rfl) (λ_=>rfl) (λ_=>rfl) (λ_=>rfl) λ_=>rfl
 · obtain⟨v,rfl,rv⟩:=aQ1 rl
   obtain⟨u,rfl,ru⟩:=aG1 r
   obtain⟨l,a,vs,rfl,rl',q,p2⟩:=aE4 hr rv p
   cases ru
   obtain⟨bs,en,p3⟩:=T9 p2
   obtain⟨its,rr,pl,hz⟩:=I.list q
   obtain⟨h1,h2⟩:=bN6 en rl' rr
   refine call_any_walk (bW1 hc I pl.isList λW g hg hb hk=>⟨_,_,_,_,_,_,λi=>bs.getD i false,rfl,W,hg,λi v s' Q' E' hv hq=>?_,λh' tk k=>?_⟩)
   · rw[h2 i v (by simpa using hv)]
     exact ye hq
   · refine⟨.bl (bs.any id),H,hk h' tk k,?_,d7.ok p3 hr _ ofB⟩
     have e:its.toArray.size=bs.length:=by rw[zj];exact h1
     rw[e,dB1];rfl⟩
theorem fC8(hg:Gl X x)(hm:X.mg x=none)(hv:ja x=some (.type n))(hn:x≠ "__name__")(hd:(x==("__debug__" :Str))=false):DE X Z (.Name x pos) (cE (.ty n)):=
 dV3 (v:=.ty n) (dZ1 hg hm hv rfl hn hd) λ_ _=>by unfold d8;rfl
end
def aJ8:D->M Bool:=λx=>match x with
 | .non=>pure false
 | .bl b=>pure b
 | .int i=>pure (i != 0)
 | .str y=>if y.length<=zl then pure ((y.length:Int) != 0)else M.stuck
 | .tup l=>pure (!l.isEmpty)
 | .ref r=>do
   match <-R1 r with
   | .lst l=>pure (!l.isEmpty)
   | .rol l=>pure (!l.isEmpty)
   | .dct l=>pure (!l.isEmpty)
   | .rod _=>M.stuck
 |_=>M.stuck
def u6(f:Fe):DSt->M Bool:=λσ=>do aJ8 (<-f σ)
section
theorem aI3(r:t7 cc μ H l vs):vs.isEmpty=l.isEmpty:=by
 cases l with
 |nil=>cases r;rfl
 |cons _ _=>obtain⟨_,_,rfl,_⟩:=r;rfl
theorem bO3(r:aA8 cc μ H l vs):vs.isEmpty=l.isEmpty:=by
 cases l with
 |nil=>cases r;rfl
 |cons _ _=>obtain⟨_,_,rfl,_⟩:=r;rfl
theorem dI8(ha:DE X Z a fa)(he:∀whole,isTrue a X.env whole= (do let v <-whole;Jv a.pos;YV [v] (truthy v))):DT X Z a (u6 fa):=
 DT.of (dG1 ha.h he) λσ H Q hE0=>hE0.elim λZ7 μ G s h p=>⟨Z7,μ,G,s,h,(d7.bind p).mono λd X1 G1 H1 x1 h1 p1 v rv=>by
  cases d with
  |non=>rw[dM8 rv];exact⟨false,rfl,d7.ok p1 h1⟩
  |bl b=>rw[bR3 rv];exact⟨b,rfl,d7.ok p1 h1⟩
  |int b=>rw[aG6 rv];exact⟨_,rfl,d7.ok p1 h1⟩
  |str y=>
    rw[aQ2 rv]
    unfold aJ8 at p1
    dsimp only at p1
    split at p1
    ·rename_i hz;exact⟨_,⟨hz,rfl⟩,d7.ok p1 h1⟩
    ·exact p1.elim
  |tup l=>
    unfold d8 at rv
    obtain⟨a,vs,rfl,q,rl⟩:=rv
    exact⟨!vs.isEmpty,.inr (.inl ⟨vs,q,rfl⟩),by rw[aI3 rl];exact d7.ok p1 h1⟩
  |ref r=>
    unfold d8 at rv
    obtain⟨a,m,rfl⟩:=rv
    obtain⟨o,g,p2⟩:=O1 p1
    have ro:=h1.obj r o a g m
    cases o with
    |lst l=>obtain⟨vs,q,rl⟩:=ro;exact⟨!vs.isEmpty,.inl ⟨vs,SqL.of q,rfl⟩,by rw[aI3 rl];exact d7.ok p2 h1⟩
    |rol l=>obtain⟨vs,q,rl⟩:=ro;exact⟨!vs.isEmpty,.inl ⟨vs,q.sq,rfl⟩,by rw[aI3 rl];exact d7.ok p2 h1⟩
    |dct l=>obtain⟨vs,q,rl⟩:=ro;exact⟨!vs.isEmpty,.inr (.inr ⟨vs,q,rfl⟩),by rw[bO3 rl];exact d7.ok p2 h1⟩
    |rod l=>exact p2.elim
  |_=>exact p1.elim⟩
def bE3(o o':D->D->M D)(fa fb fc:Fe):Fe:=λσ=>do
 let x <-fa σ
 let y <-fb σ
 if <-dG7 (<-o x y)then o' y (<-fc σ)else pure (.bl false)
end
noncomputable def bJ1(osc scope:Scope)(N XN:List Str)(caps:List (Option Nat)):Bool:=
 decide (scope.kind= .function)&&scope.names.all (λy=>decide (y.2≠ .cell))&&scope.names.all (λy=>decide (y.2= .local->scope.names.lookup y.1=some .local)) &&
 scope.names.all (λy=>decide (y.2= .free->(osc.names.lookup y.1=some .cell\/osc.names.lookup y.1=some .free)))&&scope.names.all (λy=>decide (y.2= .free->scope.names.lookup y.1=some .free)) &&
 decide (caps.length=N.length)&&(zX caps.length).all λi=>match caps[i]? with
  |some (some j)=>match N[i]?,XN[j]? with
    |some x,some y=>decide (x=y)&&decide ((x,NameKind.free)∈scope.names)
    |_,_=>false
  |_=>true
theorem aI1.of{caps:List (Option Nat)}(h:bJ1 osc scope N XN caps=true)(hs:X.env.scope=osc)(hN:X.N=XN):aI1 X scope N caps:=by
 unfold bJ1 at h
 simp only[zZ,decide_eq_true_eq,yz]at h
 obtain⟨⟨⟨⟨⟨⟨h1,h2⟩,h3⟩,h4⟩,h5⟩,h6⟩,h7⟩:=h
 refine⟨h1,h2,h3,λy hy e=>?_,h5,h6,λi j e=>?_⟩
 · have:=h4 y hy e
   show X.env.scope.names.lookup y.1=_\/X.env.scope.names.lookup y.1=_
   rw[hs];exact this
 · have hi:i∈zX caps.length:=by rw[yO];exact lt_of_get e
   have q:=h7 i hi
   simp only[e]at q
   rw[hN]
   split at q
   · rename_i x y e1 e2
     simp only[zZ,decide_eq_true_eq]at q
     exact⟨x,e1,by rw[e2,q.1],q.2⟩
   ·exact O5 q
def v9(m:Nat)(fb:Fs):List D->M D:=λds=>do
 match <-fb (ds.map some++jk (m-ds.length) none) with
 | .nx _=>pure .non
 | .rt d=>pure d
 |_=>M.stuck
structure FF(K:zi)(mg:Str->Option zg)(x:Str)(st:Stmt)(ps:List Str)(f:Addr)(fd:yM):Prop where
 F:Fun K x x st f fd
 b:aT1 K fd ps []
 m:mg x=some (.ref f)
theorem cZ2(r:t7 c μ H ds vs):M5 c μ H (ds.map some++jk (N.length-ds.length) none) (L2.start N vs):=by
 unfold L2.start
 rw[r.length]
 refine⟨by simp[r.length],λi d e=>?_⟩
 by_cases hi:i<ds.length
 · rw[zJ (by simpa using hi),zG]at e
   have hd:ds[i]? =some d:=by
    cases h:ds[i]? with
    |none=>rw[h]at e;exact J6 e
    |some d'=>rw[h]at e;simpa using e
   obtain⟨v,hv,rv⟩:=r.get hd
   refine⟨v,?_,rv⟩
   rw[zJ (by simp;rw[<-r.length];exact hi),zG,hv]
   rfl
 · rw[xp (by simpa using hi),Jt]at e
   split at e<;>cases e
theorem fA6{w:jg}{K:zi}{base:Heap}{x:Str}{st:Stmt}{f:Addr}{k n m:Nat}{fb:Fs}(F:FF K mg x st ps f fd)(S:aE3 N ps (M6 st))(hn:ps.length=n)(hm:N.length=m)
 (hbody:∀(cdv:zg) (A:ji) (outer:List Env) (s:zm) (H:Hp) (E:XK),V7 k (A.deeper (ZY x (M6 st) s.heap.objs.size f cdv))->DB (bQ6 CX0 P w K mg base N x (M6 st) f cdv A outer s H E).nox ZF (aB9 st) fb):
 aN4 P w K mg base CX0 (k+1) f fd ps (spD ⟨K,mg⟩ n (v9 m fb)):=by
 refine F.F.ok S (λvs H Q E h=>by rw[hn];exact h.1) λcdv A outer s H vs Q E hr h=>⟨_,(hbody cdv A outer s H E hr).h,?_⟩
 obtain⟨hl,ds,μ,G,rl,hG,p⟩:=h
 subst hm
 refine⟨_,μ,G,cZ2 rl,hG,(d7.bind p).mono λfl X1 G1 H1 x1 h1 p1=>?_⟩
 cases fl with
 |nx Z7=>exact λσ _=>d7.ok p1 h1 _ ofN
 |rt d=>exact λv rv=>d7.ok p1 h1 v rv
 |bk _=>exact p1.elim
 |ct _=>exact p1.elim
def cX9(K:zi):Sp:=λvs H Q _=>∃(a:Addr) (ns:List Int),vs= [.ref a]/\SqL K H a (ns.map V.int)/\eG6 H/\ns.length<=63/\∀H',Q (.bl true) H'
theorem cH5:∀ns:List Int,t7 c μ H (ns.map D.int) (ns.map V.int)
 |[]=>rfl
 |n::t=>⟨.int n,_,rfl,ofI,cH5 t⟩
theorem eT9{w:jg}{K:zi}{base:Heap}{f:Addr}{k:Nat}(hF:aN4 P w K mg base CX0 k f fd ["script"] (spD ⟨K,mg⟩ 1 F))
 (pure:∀ns:List Int,ns.length<=63->∃G',F [.ref 0] [.rol (ns.map D.int)]=some (.ok (.bl true),G')):aN4 P w K mg base CX0 k f fd ["script"] (cX9 K):=
 hF.imp λvs H Q E h=>by
  obtain⟨a,ns,rfl,hS,hO,hl,q⟩:=h
  obtain⟨G',e⟩:=pure ns hl
  refine⟨rfl, [.ref 0], [a], [.rol (ns.map D.int)],⟨.ref a, [],rfl,by unfold d8;exact⟨a,rfl,rfl⟩,rfl⟩,⟨rfl,λi j b e1 e2=>?_,λi o b e1 e2=>?_⟩,?_⟩
  · have h1:=lt_of_get e1
    have h2:=lt_of_get e2
    simp at h1 h2
    left;lia
  · have h1:=lt_of_get e2
    simp at h1
    subst h1
    have e1':o= .rol (ns.map D.int):=by simpa using e1.symm
    have e2':b=a:=by simpa using e2.symm
    subst e1' e2'
    refine⟨ns.map V.int,?_,cH5 ns⟩
    rcases hS with(hS|⟨o,hS⟩)|hS
    · rcases hO b with z|⟨o,xs,z⟩
      ·rw[z]at hS;exact J6 hS
      ·rw[z]at hS;cases hS
    ·exact .inl ⟨o,hS⟩
    ·exact .inr (.inr hS)
  · rw[e]
    exact λX9 H' _ _ v rv=>by rw[bR3 rv];exact q H'
theorem eW1:ja "len" =some (.builtin "len"):=by decide +kernel
theorem bR1:ja "isinstance" =some (.builtin "isinstance"):=by decide +kernel
theorem eL7:ja "all" =some (.builtin "all"):=by decide +kernel
theorem eX8:ja "any" =some (.builtin "any"):=by decide +kernel
theorem eP5:ja "min" =some (.builtin "min"):=by decide +kernel
theorem dQ6:ja "max" =some (.builtin "max"):=by decide +kernel
theorem eP2:ja "abs" =some (.builtin "abs"):=by decide +kernel
theorem bF8:ja "sorted" =some (.builtin "sorted"):=by decide +kernel
theorem dS8:ja "tuple" =some (.type "tuple"):=by decide +kernel
theorem eB6:ja "list" =some (.type "list"):=by decide +kernel
theorem eU7:ja "int" =some (.type "int"):=by decide +kernel
theorem dW1:ja "dict" =some (.type "dict"):=by decide +kernel
end DL
namespace DL
open PySem L2
noncomputable def Wp{α:Type}(m:M α)(G:DH)(Q:α->DH->Prop):Prop:=∃a G',m G=some (.ok a,G')/\Q a G'
section
theorem Wp.mono(h:Wp m G Q)(k:∀a G',Q a G'->Q' a G'):Wp m G Q':=let ⟨a,G',e,q⟩:=h;⟨a,G',e,k a G' q⟩
theorem wp_pure:Wp (pure a) G Q↔Q a G:=by
 constructor
 · rintro⟨b,G',e,q⟩
   cases e
   exact q
 ·exact λq=>⟨a,G,rfl,q⟩
theorem aN7:Wp (M.stuck:M α) G Q↔False:=by
 constructor
 · rintro⟨b,G',e,q⟩
   exact J6 e
 ·exact yV
theorem j6:Wp (m >>= f) G Q↔Wp m G λa G1=>Wp (f a) G1 Q:=by
 constructor
 · rintro⟨a,G',e,q⟩
   rw[M.bind_eq]at e
   match h:m G,e with
   |some (.ok b,G1),e=>exact⟨b,G1,h,a,G',e,q⟩
 · rintro⟨b,G1,e,a,G',e',q⟩
   exact⟨a,G',by rw[M.bind_ok e];exact e',q⟩
theorem aI6(h:m G=some (.ok a,G')):Wp m G Q↔Q a G':=⟨fun⟨b,G2,e,q⟩=>by rw[h]at e;cases e;exact q,λq=>⟨a,G',h,q⟩⟩
theorem aF7:Wp (aI5 o) G Q↔∃a,o=some a/\Q a G:=by
 rcases o with _|a
 ·
   constructor
   · rintro⟨_,_,e,_⟩
     exact J6 e
   · rintro⟨_,e,_⟩
     exact J6 e
 ·
   constructor
   · rintro⟨_,_,e,q⟩
     cases e
     exact⟨_,rfl,q⟩
   · rintro⟨_,e,q⟩
     cases e
     exact⟨_,_,rfl,q⟩
theorem S8{Q:DO->DH->Prop}:Wp (R1 r) G Q↔∃o,G[r]? =some o/\Q o G:=by
 constructor
 · rintro⟨a,G',e,q⟩
   delta R1 at e
   rcases h:G[r]? with _|o
   ·rw[h]at e;exact J6 e
   ·rw[h]at e;cases e;exact⟨_,rfl,q⟩
 · rintro⟨o,e,q⟩
   refine⟨o,G,?_,q⟩
   delta R1
   rw[e]
theorem S6{Q:DPP}:Wp (Q5 o) G Q↔Q (.ref G.length) (G++[o]):=aI6 rfl
theorem cP2{Q:Unit->DH->Prop}:Wp (bQ7 r o) G Q↔Q () (G.set r o):=aI6 rfl
end
section
theorem R7:Wp (b7 i σ) G Q↔∃d,σ[i]? =some (some d)/\Q d G:=by
 constructor
 · rintro⟨d,G',e,q⟩
   delta b7 at e
   rcases h:σ[i]? with _|o
   ·rw[h]at e;exact J6 e
   ·
     rw[h]at e
     rcases o with _|d'
     ·exact J6 e
     ·cases e;exact⟨_,rfl,q⟩
 · rintro⟨d,h,q⟩
   exact⟨d,G,by delta b7;rw[h],q⟩
theorem bH7:Wp (cE d σ) G Q↔Q d G:=wp_pure
theorem aI4:Wp (b8 o a b σ) G Q↔Wp (a σ) G λx G1=>Wp (b σ) G1 λy G2=>Wp (o x y) G2 Q:=by unfold b8;simp only[j6]
theorem eJ3:Wp (unE o a σ) G Q↔Wp (a σ) G λx G1=>Wp (o x) G1 Q:=by unfold unE;simp only[j6]
theorem aQ9:Wp (if k=true then m else n) G R↔if k=true then Wp m G R else Wp n G R:=by cases k<;>exact Iff.rfl
theorem cR8:Wp (dG7 d) G B↔∃k,d= .bl k/\B k G:=by
 constructor
 · rintro⟨k,G',e,q⟩
   rcases d with _|b|_|_|_|_|_|_<;>try (cases e;done)
   ·cases e;exact⟨_,rfl,q⟩
 · rintro⟨k,e,q⟩
   subst e
   exact⟨k,G,rfl,q⟩
theorem cN3:Wp (ifE t a b σ) G Q↔Wp (t σ) G λk G1=>if k=true then Wp (a σ) G1 Q else Wp (b σ) G1 Q:=by unfold ifE;simp only[j6,aQ9]
theorem aL6:Wp (f9 a σ) G B↔Wp (a σ) G λx G1=>∃k,x= .bl k/\B k G1:=by unfold f9;simp only[j6,cR8]
theorem aJ4:Wp (u6 a σ) G B↔Wp (a σ) G λx G1=>Wp (aJ8 x) G1 B:=by unfold u6;simp only[j6]
theorem cV7:Wp (aH6 t u σ) G B↔Wp (t σ) G λk G1=>if k=true then Wp (u σ) G1 B else B false G1:=by unfold aH6;simp only[j6,aQ9,wp_pure]
theorem eX4:Wp (orT t u σ) G B↔Wp (t σ) G λk G1=>if k=true then B true G1 else Wp (u σ) G1 B:=by unfold orT;simp only[j6,aQ9,wp_pure]
theorem aA2:Wp (V0 t σ) G B↔Wp (t σ) G λk G1=>B (!k) G1:=by unfold V0;simp only[j6,wp_pure]
theorem m5:Wp (q14 σ) G R↔R [] G:=wp_pure
theorem T5:Wp (q13 a fs σ) G R↔Wp (a σ) G λx G1=>Wp (fs σ) G1 λxs G2=>R (x::xs) G2:=by unfold q13;simp only[j6,wp_pure]
theorem X6:Wp (q15 F fs σ) G Q↔Wp (fs σ) G λds G1=>Wp (F ds) G1 Q:=by unfold q15;simp only[j6]
theorem bD0{α:Type}{m:M α}{R:α->DH->Prop}:Wp (noX m) G R↔Wp m G R:=by
 constructor
 · rintro⟨x,G',e,q⟩
   delta noX at e
   rcases h:m G with _|p
   ·rw[h]at e;exact J6 e
   ·
     rw[h]at e
     obtain⟨_|y,G1⟩:=p
     ·exact J6 e
     ·cases e;exact⟨_,_,h,q⟩
 · rintro⟨x,G',e,q⟩
   exact⟨x,G',by delta noX;rw[e],q⟩
theorem Q8:Wp (fnX n F ds) G Q↔ds.length=n/\Wp (F ds) G Q:=by
 unfold fnX
 by_cases h:ds.length=n
 ·rw[if_pos h,bD0];exact⟨λq=>⟨h,q⟩,λq=>q.2⟩
 ·rw[if_neg h];exact⟨λq=>(aN7.mp q).elim,λq=>(h q.1).elim⟩
theorem V8:Wp (J7 fs σ) G Q↔Wp (fs σ) G λxs G1=>xs.length<=zl/\Q (.tup xs) G1:=by
 unfold J7
 simp only[j6]
 constructor
 · rintro⟨xs,G1,e,q⟩
   refine⟨xs,G1,e,?_⟩
   by_cases h:xs.length<=zl
   ·rw[if_pos h]at q;exact⟨h,wp_pure.mp q⟩
   ·rw[if_neg h]at q;exact(aN7.mp q).elim
 · rintro⟨xs,G1,e,h,q⟩
   exact⟨xs,G1,e,by dsimp only;rw[if_pos h];exact wp_pure.mpr q⟩
theorem aE7:Wp (X3 fs σ) G Q↔Wp (fs σ) G λxs G1=>xs.length<=zl/\Q (.ref G1.length) (G1++[.lst xs]):=by
 unfold X3
 simp only[j6]
 constructor
 · rintro⟨xs,G1,e,q⟩
   refine⟨xs,G1,e,?_⟩
   by_cases h:xs.length<=zl
   ·rw[if_pos h]at q;exact⟨h,S6.mp q⟩
   ·rw[if_neg h]at q;exact(aN7.mp q).elim
 · rintro⟨xs,G1,e,h,q⟩
   exact⟨xs,G1,e,by dsimp only;rw[if_pos h];exact S6.mpr q⟩
theorem j7:Wp (j9 σ) G P↔P (.nx σ) G:=wp_pure
theorem d9:Wp (j5 f g σ) G P↔Wp (f σ) G λfl G1=>match fl with
 | .nx X2=>Wp (g X2) G1 P
 |r=>P r G1:=by
 delta j5
 refine Iff.trans j6 ?_
 constructor
 · rintro⟨fl,G1,e,q⟩
   refine⟨fl,G1,e,?_⟩
   cases fl<;>first
    |exact q
    |exact wp_pure.mp q
 · rintro⟨fl,G1,e,q⟩
   refine⟨fl,G1,e,?_⟩
   cases fl<;>first
    |exact q
    |exact wp_pure.mpr q
theorem aF8:Wp (m8 a σ) G P↔Wp (a σ) G λd G1=>P (.rt d) G1:=by unfold m8;simp only[j6,wp_pure]
theorem aL0:Wp (aM6 a σ) G P↔Wp (a σ) G λ_ G1=>P (.nx σ) G1:=by unfold aM6;simp only[j6,wp_pure]
theorem bC9:Wp (ifS t f g σ) G P↔Wp (t σ) G λk G1=>if k=true then Wp (f σ) G1 P else Wp (g σ) G1 P:=by unfold ifS;simp only[j6,aQ9]
theorem S7:Wp (o9 a gg σ) G P↔Wp (a σ) G λd G1=>Wp (gg d σ) G1 λX2 G2=>P (.nx X2) G2:=by unfold o9;simp only[j6,wp_pure]
theorem O9:Wp (q16 i d σ) G S↔S (σ.set i (some d)) G:=wp_pure
theorem aA3:Wp (v9 m f ds) G Q↔Wp (f (ds.map some++jk (m-ds.length) none)) G λfl G1=>match fl with
 | .nx _=>Q .non G1
 | .rt d=>Q d G1
 |_=>False:=by
 delta v9
 refine Iff.trans j6 ?_
 constructor
 · rintro⟨fl,G1,e,q⟩
   refine⟨fl,G1,e,?_⟩
   cases fl<;>first
    |exact wp_pure.mp q
    |exact aN7.mp q
 · rintro⟨fl,G1,e,q⟩
   refine⟨fl,G1,e,?_⟩
   cases fl<;>first
    |exact wp_pure.mpr q
    |exact aN7.mpr q
noncomputable def eZ4(o:Option Bool)(g:Bool->Bool)(G:DH):Option (Except Str D×DH):=match o with
 |some b=>some (.ok (.bl (g b)),G)
 |none=>none
theorem bA3{g:Bool->Bool}(h:m G=eZ4 o g G):Wp m G Q↔∃k,o=some k/\Q (.bl (g k)) G:=by
 unfold Wp
 rw[h]
 rcases o with _|k
 ·
   constructor
   · rintro⟨_,_,e,_⟩
     exact J6 e
   · rintro⟨_,e,_⟩
     exact J6 e
 ·
   constructor
   · rintro⟨_,_,e,q⟩
     cases e
     exact⟨_,rfl,q⟩
   · rintro⟨_,e,q⟩
     cases e
     exact⟨_,_,rfl,q⟩
theorem cB7:Wp (eqD x y) G Q↔∃k,eqN 40 G x y=some k/\Q (.bl k) G:=bA3 rfl
theorem aO5:Wp (neD x y) G Q↔∃k,eqN 40 G x y=some k/\Q (.bl (!k)) G:=bA3 rfl
theorem fB6:Wp (ltD x y) G Q↔∃k,ltN 40 G x y=some k/\Q (.bl k) G:=bA3 rfl
end
end DL
namespace DL
open PySem PySem.Spec L2
open PyProof.Rows hiding St
section
theorem dO4(hc:X.calm=true)(hi:DI X Z tg iter it)(k:aI1 X scope N caps)
 (hg:∀C s H ex,DG (U9 X scope N C s H ex) ZF tg gg) (ht:∀C s H ex,DTs (U9 X scope N C s H ex) ZF ifs tt) (he:∀C s H ex,DE (U9 X scope N C s H ex) ZF elt fe)
 (hs:∀x,yK iter X.env x=pure x) (hgo:DG X Z (.Name y py) g2) (hsw:swapsWith (.ListComp elt [⟨tg,iter,ifs,0⟩] scope pos) (some (.Name y py)) spos.line X.env=pure true):
 DS X Z (.Assign [.Name y py] (.ListComp elt [⟨tg,iter,ifs,0⟩] scope pos) spos) (o9 (R0 it caps gg tt fe) g2):=by
 refine⟨?_⟩
 intro pins s σ H En I hE0
 refine hE0.elim λZ7 μ G sr hr p0=>?_
 obtain⟨Q,hQ,p⟩:∃Q:VK,(∀v H',Q v H'->bU0 (wc X) Z g2 v σ H' En.nx)/\d7 (wc X) Z μ H (R0 it caps gg tt fe Z7 G) λd X9 _ H'=>∀v,d8 (wc X) X9 H' d v->Q v H':=
  ⟨λv H'=>bU0 (wc X) Z g2 v σ H' En.nx,λ_ _ z=>z,(d7.bind p0).mono λd X1 G1 H1 x' h1 p1 v rv=>⟨d,Z7,X1,G1,rv,sr.mono x',h1,(d7.bind p1).mono λdσ2 WZ G2 H2 x2 h2 p2 σ2 s2=>d7.ok p2 h2 σ2 s2⟩⟩
 rw[exec_Assign_Name_used _ _ _ _ hsw]
 refine za (ZV (za ?_))
 show zt _ X.A (do let _ <-comprehension (.ListComp elt [⟨tg,iter,ifs,0⟩] scope pos) scope X.env _ (newList []) false (eval iter X.env) (some (Yw (.Name y py) X.env))) _ _ s
 refine za (jH (bT7 hc hi k hg ht he hs I sr hr p λDD C s4 H' m o hn fin hCn hf q9=>?_) (λ_ s' hq=>zc (zc hq)) λ_ _ e=>e)
 have fC:∀ {H9:Hp},H9 C=none->∀b∈ [C],aN9 X pins H9 b:=λ{H9} hn9 b hb=>by
  rw[zr]at hb
  subst hb
  exact hf H9 hn9
 obtain⟨oC,zC1,zC2,hoC,zC3⟩:=id hn
 have I5:=(fin s4.heap ⟨rfl,λ_ _=>rfl⟩).pinned (fC hCn) (λb hb=>by
  rw[zr]at hb
  subst hb
  exact⟨oC,hoC,λv z=>by first|(rw[zC3.1]at z;cases z)|(rw[zC3.2.1]at z;cases z)⟩)
 refine thn (hgo.h _ s4 σ H' (.ref DD) (.ref DD) _ I5 rfl (hQ _ _ q9)) λ_ s5 ⟨σ5,H5,I6,q6⟩=>?_
 obtain⟨g5,g5n,_⟩:=I6.pin (C,oC) (zF _ (zF _ (aE6 (by simp) hoC)))
 refine⟨m,hn.at' (λo e=>by rw[hoC]at e;cases e;exact g5),λh'' sb=>⟨σ5,H5,bL0 I6.unpinned (fC g5n) λb o hb e=>(sb.2 b (by simpa using hb)).trans e,q6⟩⟩
end
noncomputable def aG5:List D->Option (List Str)
 |[]=>some []
 | .str x::r=>(aG5 r).map (x :: ·)
 |_=>none
noncomputable def v8:List (Key×D)->Option (List Str)
 |[]=>some []
 |(.inr x,_)::r=>(v8 r).map (x :: ·)
 |_=>none
noncomputable def leS(a b:Str):Bool:= !decide (b.cps.toList<a.cps.toList)
def aC9(l:List Str):List Str:=l.mergeSort leS
theorem bJ3:leS a b=true↔a.cps.toList<=b.cps.toList:=by unfold leS;simp
theorem aV8(a b c:Str)(h1:leS a b=true)(h2:leS b c=true):leS a c=true:=by
 rw[bJ3]at *;exact List.le_trans h1 h2
theorem bF7(a b:Str):(leS a b||leS b a)=true:=by
 rw[Bool.or_eq_true,bJ3,bJ3];exact List.le_total _ _
theorem aQ8(h1:leS a b=true)(h2:leS b a=true):a=b:=by
 rw[bJ3]at *
 have e:a.cps.toList=b.cps.toList:=List.le_antisymm h1 h2
 cases a;cases b
 congr 1
 exact Xg.mp e
theorem bS1:∀l p,risingS p l=true->(p::l).Pairwise λa b=>leS a b=true
 |[],p,_=>by simp
 |x::r,p,h=>by
   unfold risingS at h
   rw[zZ]at h
   have ih:=bS1 r x h.2
   have hpx:leS p x=true:=by unfold leS;rw[<-ltCps_eq];exact h.1
   refine zU.mpr ⟨λy hy=>?_,ih⟩
   rcases zu.mp hy with rfl|hy
   ·exact hpx
   ·exact aV8 _ _ _ hpx ((zU.mp ih).1 y hy)
theorem bN1(hp:l'.Perm l)(hs:sortedS l'=true):l'=aC9 l:=by
 have h1:l'.Pairwise λa b=>leS a b=true:=by
  rcases l' with _|⟨x,r⟩
  ·simp
  ·exact bS1 r x hs
 have h2:(aC9 l).Pairwise λa b=>leS a b=true:=yN aV8 bF7 l
 exact Xt (λa b _ _ h1 h2=>aQ8 h1 h2) h1 h2 (hp.trans (js l leS).symm)
section
theorem cP3(K:PySem.W.KdlSrc prog w T r d n P OK)(hh:A.handled=none)(hok:OK s.heap)(hn:n<64)(hP:∀vs:List zg,vs.length=n->(∀(j:Nat) v,vs[j]? =some v->P j v)->StrsAre vs ss)
 (h:∀(h1 h':Heap) (tk e:Nat) out ss',(∀b o,s.heap.get? b=some o->h1.get? b=some o)->(∀b o,h1.get? b=some o->h'.get? b=some o)->h'.get? h1.objs.size=some (jy "list" out.toArray e)->StrsAre out ss'->ss'.Perm ss->sortedS ss'=true->Q (.ref h1.objs.size) {s with heap:=h',toks:=tk}):
 zt (zz prog w) A (call (.builtin "sorted") [.ref r]) Q E s:=by
 have hz:n<=zl:=zC (yt hn) (by decide)
 refine Zu Jm XG XI (args_sorted1 _) ?_
 unfold yi.«sorted»
 refine za (zc ?_)
 refine za (Jw K hh hok hz λh1 tk acc hk hacc=>?_)
 have hl:acc.toList.length=n:=by rw[zA];exact hacc.1
 refine za (xN ?_ (by rw[hl];exact hz))
 have hS:StrsAre acc.toList ss:=hP acc.toList hl λj v e=>hacc.2 j v (by rw[<-jq];exact e)
 have hoL:(h1.push (jy "list" acc.toList.toArray 0)).get? h1.objs.size=some (jy "list" acc.toList.toArray 0):=zp _ rfl
 refine za (jl (jL YR ⟨_,hoL,rfl⟩ YC (Jr strKind_oneLt hoL hS.keysOf (λv₁ v₂ Q9 e=>XH (by rw[<-e];exact hS)) (by rw[hl];exact hn) λst' a1 a2=>⟨_,rfl,?_⟩) (JL _)))
 obtain⟨ss',b1,b2,b3⟩:=JH hS a1 a2
 obtain⟨e,he⟩:=sortedHeap_at hoL
 refine zc ⟨_,rfl,h h1 _ tk e ((YD st').map (·.2)).toList ss' hk (λb o hb=>?_) (by rw[Ze];exact he) b1 b2 b3⟩
 have hlt:b<h1.objs.size:=zn hb
 rw[JI (zw hlt) (by rw[ZD];exact jG hlt),xk _ _ _ (zw hlt)]
 exact hb
end
def bX6:List D->M D:=λds=>match ds with
 |[.ref r]=>do
   match <-R1 r with
   | .dct l=>do
     let ss <-aI5 (v8 l)
     if ss.length<64 then Q5 (.lst ((aC9 ss).map .str))else M.stuck
   |_=>M.stuck
 |_=>M.stuck
section
theorem aV6:∀ {l} {ss},v8 l=some ss->ss.length=l.length
 |[],_,e=>by cases e;rfl
 |(.inr x,_)::r,ss,e=>by
  replace e:=show (v8 r).map (_ :: ·)=some _ from e
  rcases h:v8 r with _|t
  ·rw[h]at e;cases e
  ·rw[h]at e;cases e;simp[aV6 h]
 |(.inl _,_)::_,_,e=>by cases e
theorem aR7{w:jg}:∀ {l} {ss:List Str} {kvs} {xs} {vs},v8 l=some ss->aA8 c μ H l kvs->KV kvs xs->vs.length=xs.length->
 (∀(j:Nat) (v:zg),vs[j]? =some v->∃k x,xs[j]? =some (k,x)/\(O4 P w).is k v=true)->StrsAre vs ss
 |[],_,_,xs,vs,e,r,kv,hl,hv=>by
   cases e;cases r;cases kv
   rcases vs with _|⟨_,_⟩
   ·exact .nil
   ·simp at hl
 |(.inr x,d)::t,ss,kvs,xs,vs,e,r,kv,hl,hv=>by
  replace e:=show (v8 t).map (_ :: ·)=some _ from e
  rcases h:v8 t with _|q
  ·rw[h]at e;cases e
  ·
    rw[h]at e
    cases e
    obtain⟨v0,tl,rfl,r0,rt⟩:=r
    cases kv with
    |cons hk ht=>
      cases vs with
      |nil=>simp at hl
      |cons u us=>
        obtain⟨k,y,e1,e2⟩:=hv 0 u rfl
        simp only[zy,zE]at e1
        have hk1:(Sum.inr x:Key)=_:=hk.1
        rw[e1]at hk1
        have e3:bH2 (.inr x) u=true:=by rw[hk1];exact e2
        rcases Q0 e3 with⟨_,_,z,_⟩|⟨x',t',z,eu⟩
        ·cases z
        · cases z
          subst eu
          exact .cons _ _ (aR7 h rt ht (by simpa using hl) λj v hj=>by simpa using hv (j+1) v (by simpa using hj))
 |(.inl _,_)::_,_,_,_,_,e,_,_,_,_=>by cases e
theorem aU7:∀ {out} {ss},StrsAre out ss->∃vs,vs=ss.map V.str/\v6 vs out/\t7 c μ H (ss.map D.str) vs
 |_,_,.nil=>⟨[],rfl,.nil,rfl⟩
 |_,_,.cons x t q=>by
   obtain⟨vs,e,h1,h2⟩:=aU7 q
   subst e
   exact⟨_,rfl,.cons ⟨t,rfl⟩ h1,_,_,rfl,by unfold d8;rfl,h2⟩
theorem cY4(hc:X.calm=true):aA4 X Z (.builtin "sorted") bX6:=⟨by
 intro pins s σ H xs us Q I r hE0
 obtain⟨ds,μ,G,rl,hr,p⟩:=hE0
 rcases ds with _|⟨_|_|_|_|_|i|_|_,_|⟨_,_⟩⟩<;>try exact p.elim
 all_goals (delta bX6 at p;dsimp only at p)
 · obtain⟨v,rfl,rv⟩:=aQ1 rl
   obtain⟨u,rfl,ru⟩:=aG1 r
   unfold d8 at rv
   obtain⟨a,m,rfl⟩:=rv
   cases ru
   obtain⟨o,g,p1⟩:=O1 p
   have ro:=hr.obj i o a g m
   cases o with
   |dct l=>
     obtain⟨kvs,q,rk⟩:=ro
     obtain⟨ss,es,p2⟩:=T9 p1
     split at p2
     case isFalse=>exact p2.elim
     rename_i h64
     obtain⟨z,hd,vs,rel,dd⟩:=cE3 I.hok q
     obtain⟨ep,hat⟩:=dd.dictAt
     have hn:vs.length=ss.length:=by rw[aV6 es,<-rel.length,<-rk.length]
     refine cP3 (PySem.W.kdl_dict hd) (I.ok.hd hc) hat (by omega) (λus hl hu=>aR7 es rk rel (by omega) hu) λh1 h' tk e out ss' k1 k2 he hS hp hs=>?_
     have e2:=bN1 hp hs
     subst e2
     obtain⟨ws,ew,rv,rl2⟩:=aU7 (μ:=μ) hS
     have I1:Inv X pins σ H {s with heap:=h1,toks:=tk}:=I.kept k1
     have hf:=I1.hok.fresh (zo _)
     have hlen:ws.length<=zl:=by
      rw[ew,ze]
      have:=(js ss leS).length_eq
      have e3:(aC9 ss).length=ss.length:=this
      have:(64:Nat)<=zl:=by decide
      omega
     refine⟨.ref h1.objs.size,upd H h1.objs.size (.lst ws),I1.laid k2 (zo _) ⟨hlen,out,e,rv,he⟩,rfl,Z1 hr rl2 p2 _ hf⟩
   |lst l=>exact p1.elim
   |rod l=>exact p1.elim
   |rol l=>exact p1.elim⟩
end
noncomputable def Its(z:Str):It:=⟨λi _=>∃c,z.cps[i]? =some c,λi H x H'=>H'=H/\∃c,z.cps[i]? =some c/\x= .str ⟨#[c]⟩,λi _=>z.cps[i]? =none⟩
theorem cL3{K:zi}(z:Str)(t:Tok)(it:Addr):bW3 P w K tg (Its z) [it] it (λi h=>h.IsStrIter it "str_ascii_iterator" z t i) where
 mem:=by simp
 obj:=λi h st b hb=>by
  have e:b=it:=by simpa using hb
  subst e
  obtain⟨o,e,c,d⟩:=st
  exact⟨o,e,λv z=>by rw[d]at z;cases z⟩
 keep:=λi h h' st k=>let ⟨o,ho,r⟩:=st;⟨o,k it (by simp) o ho,r⟩
 item:=by
  intro X hP hw hK hc i pins s σ H E I hf st hg
  subst hP hw hK
  obtain⟨c,hx⟩:=hg
  obtain⟨f0,f1,f2,f3,f4,f5⟩:=hf it (by simp)
  refine wpAny_pyNext_ascii_item st hx λh' st' sb=>?_
  have I1:Inv X pins σ H {s with heap:=h',toks:=s.toks+1}:=I.turned (λb o hb e=>(sb.2 b hb).trans e) f0 f1 f3 f4 f5
  obtain⟨o,e,cc,d⟩:=id st'
  exact⟨_,rfl,bV5 e cc d (by decide) ⟨.str ⟨#[c]⟩,H,I1,⟨_,rfl⟩,⟨rfl,c,hx,rfl⟩,st',λb hb=>(hf b hb).1⟩⟩
 done:=by
  intro X hP hw hK hc i pins s σ H E I hf st hg
  subst hP hw hK
  obtain⟨f0,f1,f2,f3,f4,f5⟩:=hf it (by simp)
  exact wpAny_pyNext_ascii_end (I.ok.hd hc) st hg λh' eb=>⟨rfl,I.turned (λb o hb e=>eb b o hb e) f0 f1 f3 f4 f5⟩
 self:=λ_ _ _ _ _ st h=>wpAny_pyIter_striter_ascii st h
theorem dA3{K:zi}(z:Str)(t:Tok)(it:Addr):bW3 P w K tg (Its z) [it] it (λi h=>h.IsStrIter it "str_iterator" z t i) where
 mem:=by simp
 obj:=λi h st b hb=>by
  have e:b=it:=by simpa using hb
  subst e
  obtain⟨o,e,c,d⟩:=st
  exact⟨o,e,λv z=>by rw[d]at z;cases z⟩
 keep:=λi h h' st k=>let ⟨o,ho,r⟩:=st;⟨o,k it (by simp) o ho,r⟩
 item:=by
  intro X hP hw hK hc i pins s σ H E I hf st hg
  subst hP hw hK
  obtain⟨c,hx⟩:=hg
  obtain⟨f0,f1,f2,f3,f4,f5⟩:=hf it (by simp)
  refine wpAny_pyNext_wide_item st hx λh' st' sb=>?_
  have I1:Inv X pins σ H {s with heap:=h',toks:=s.toks+1}:=I.turned (λb o hb e=>(sb.2 b hb).trans e) f0 f1 f3 f4 f5
  obtain⟨o,e,cc,d⟩:=id st'
  exact⟨_,rfl,bV5 e cc d (by decide) ⟨.str ⟨#[c]⟩,H,I1,⟨_,rfl⟩,⟨rfl,c,hx,rfl⟩,st',λb hb=>(hf b hb).1⟩⟩
 done:=by
  intro X hP hw hK hc i pins s σ H E I hf st hg
  subst hP hw hK
  obtain⟨f0,f1,f2,f3,f4,f5⟩:=hf it (by simp)
  exact wpAny_pyNext_wide_end (I.ok.hd hc) st hg λh' eb=>⟨rfl,I.turned (λb o hb e=>eb b o hb e) f0 f1 f3 f4 f5⟩
 self:=λ_ _ _ _ _ st h=>wpAny_pyIter_striter_wide st h
section
noncomputable def bD3(z:Str):List D:=z.cps.toList.map λc=>.str ⟨#[c]⟩
def dW6:D->M Src:=λx=>match x with
 | .str z=>pure ⟨bD3 z,λ_=>true⟩
 | .tup l=>bP8 (.tup l)
 | .ref r=>bP8 (.ref r)
 |_=>M.stuck
end
section
end
theorem dN8{w:jg}{K:zi}{base:Heap}{CX:CXT}{k n:Nat}{f:Addr}(hn:ps.length=n):aN4 P w K mg base CX k f fd ps (spD ⟨K,mg⟩ n λ_=>M.stuck):=
 ⟨λvs H Q E h=>by rw[hn];exact h.1,λA outer s H args us vs Q E hr=>by
  intros
  rename_i h
  first
   |exact h.2.elim
   |(obtain⟨_,_,_,_,_,_,z⟩:=h;exact z.elim)⟩
end DL
namespace W
open PySem PySem.Spec L2 DL
open PyProof.Rows hiding St
theorem st1:([d].map some++jk n none:DSt)[0]? =some (some d):=by rfl
theorem bN3{P:Bool->Prop}:(∃k,D.bl b= .bl k/\P k)↔P b:=⟨fun⟨k,e,p⟩=>by cases e;exact p,λp=>⟨b,rfl,p⟩⟩
theorem T8{P:α->Prop}:(∃k,some b=some k/\P k)↔P b:=⟨fun⟨k,e,p⟩=>by cases e;exact p,λp=>⟨b,rfl,p⟩⟩
theorem fL6:Wp (gtD (.int i) (.int j)) G Q↔Q (.bl (decide (j<i))) G:=wp_pure
theorem ix_tup:Wp (ixD (.tup l) (.int i)) G Q↔∃d,atI l i=some d/\Q d G:=aF7
theorem V9:Wp (aJ8 (.bl b)) G B↔B b G:=wp_pure
theorem dX2:Wp (aB0 [.tup l]) G Q↔Q (.int l.length) G:=wp_pure
theorem R6:Wp (eqD (.int i) (.int j)) G Q↔Q (.bl (decide (i=j))) G:=by
 have e:eqN 40 G (.int i) (.int j)=some (decide (i=j)):=by rfl
 rw[cB7,e];exact T8
theorem O7(h:Wp m G λa G'=>a=x/\G'=G):m G=some (.ok x,G):=by
 obtain⟨a,G',e,e1,e2⟩:=h
 subst e1 e2
 exact e
theorem aM1{g:Fg}{e:Fe}{G:DH}{I:DSt->Prop}(hck:ck G=true):∀items (σ:DSt),I σ->
 (∀d∈items,∀ σ,I σ->∃ W1,g d σ G=some (.ok W1,G)/\I W1/\t W1 G=some (.ok true,G)/\e W1 G=some (.ok (f d),G))->N6 g t e ck items σ G=some (.ok (items.map f),G)
 |[],σ,_,_=>by unfold N6;simp only[hck,if_true,List.map]
 |d::r,σ,i,h=>by
   obtain⟨W1,h1,i1,h2,h3⟩:=h d (by simp) σ i
   have h4:=aM1 hck r W1 i1 λd hd=>h d (by simp[hd])
   unfold N6
   simp only[hck,if_true]
   rw[M.bind_ok h1,M.bind_ok h2,if_pos rfl,M.bind_ok h3,M.bind_ok h4]
   rfl
theorem cV5{it:DSt->M Src}{g:Fg}{e:Fe}{G:DH}{σ:DSt}{s:Src}(I:DSt->Prop)(hs:it σ G=some (.ok s,G))(hn:s.items.length<=zl)(hck:s.ck G=true)(hi:I (W3 caps σ))
 (h:∀d∈s.items,∀ σ,I σ->∃ W1,g d σ G=some (.ok W1,G)/\I W1/\t W1 G=some (.ok true,G)/\e W1 G=some (.ok (f d),G)):
 Wp (R0 it caps g t e σ) G Q↔Q (.ref G.length) (G++[.lst (s.items.map f)]):=by
 unfold R0
 simp only[j6]
 rw[aI6 hs,if_pos hn]
 simp only[j6,bD0]
 rw[aI6 (aM1 hck s.items _ hi h),S6]
theorem bX3:∀l:List α,aX0 (l.map λx=>D.bl (f x))=some (l.map f)
 |[]=>rfl
 |a::r=>by show (aX0 (r.map λx=>D.bl (f x))).map (f a :: ·)=_;rw[bX3 r];rfl
theorem aU9:Wp (ltD (.int i) (.int j)) G Q↔Q (.bl (decide (i<j))) G:=by
 have e:ltN 40 G (.int i) (.int j)=some (decide (i<j)):=by rfl
 rw[fB6,e];exact T8
theorem aR4:Wp (aP1 (.int i) (.int j)) G Q↔Q (.int (i+j)) G:=wp_pure
theorem at0:atI [a,b] 0=some a:=by rfl
theorem at1:atI [a,b] 1=some b:=by rfl
section
theorem V3:Wp (aB8 g b ck [] σ) G P↔ck G=true/\P (.nx σ) G:=by
 unfold aB8
 constructor
 · rintro⟨a,G',e,q⟩
   by_cases h:ck G=true
   ·simp only[h,if_true]at e;cases e;exact⟨h,q⟩
   ·simp only[h]at e;exact J6 e
 · rintro⟨h,q⟩
   exact⟨_,G,by simp only[h,if_true],q⟩
theorem aA1:Wp (aB8 g b ck (d::r) σ) G P↔ck G=true/\Wp (g d σ) G λW1 G1=>Wp (b W1) G1 λfl G2=>match fl with
 | .nx X2=>Wp (aB8 g b ck r X2) G2 P
 | .ct X2=>Wp (aB8 g b ck r X2) G2 P
 | .bk X2=>P (.nx X2) G2
 | .rt d=>P (.rt d) G2:=by
 have e:Wp (aB8 g b ck (d::r) σ) G P↔ck G=true/\Wp (do
  match <-b (<-g d σ) with
  | .nx X2=>aB8 g b ck r X2
  | .ct X2=>aB8 g b ck r X2
  | .bk X2=>pure (.nx X2)
  | .rt d=>pure (.rt d):M Fl) G P:=by
  rw[aB8]
  constructor
  · rintro⟨a,G',e,q⟩
    by_cases h:ck G=true
    ·simp only[h,if_true]at e;exact⟨h,a,G',e,q⟩
    ·simp only[h]at e;exact J6 e
  · rintro⟨h,a,G',e,q⟩
    exact⟨a,G',by simp only[h,if_true];exact e,q⟩
 rw[e]
 simp only[j6]
 refine and_congr_right λ_=>?_
 constructor
 · rintro⟨W1,G1,e1,fl,G2,e2,q⟩
   refine⟨W1,G1,e1,fl,G2,e2,?_⟩
   cases fl<;>first
    |exact q
    |exact wp_pure.mp q
 · rintro⟨W1,G1,e1,fl,G2,e2,q⟩
   refine⟨W1,G1,e1,fl,G2,e2,?_⟩
   cases fl<;>first
    |exact q
    |exact wp_pure.mpr q
theorem aJ9:Wp (aF5 it g b σ) G P↔Wp (it σ) G λs G1=>Wp (aB8 g b s.ck s.items σ) G1 P:=by unfold aF5;simp only[j6]
end
theorem aW3:Wp (aO1 (.int i) (.int j)) G Q↔Q (.int (i-j)) G:=wp_pure
theorem eL9:Wp (neD (.int i) (.int j)) G Q↔Q (.bl (!decide (i=j))) G:=by
 have e:eqN 40 G (.int i) (.int j)=some (decide (i=j)):=by rfl
 rw[aO5,e];exact T8
theorem atI_nat{k:Nat}(h:l[k]? =some s):atI l (k:Int)=some s:=by
 have hk:k<l.length:=by
  by_cases hk:k<l.length
  ·exact hk
  ·rw[zN (by omega)]at h;exact J6 h
 unfold atI ixN
 rw[if_pos (by omega),if_pos (by omega)]
 simpa using h
section
theorem u5(h:0<j):Wp (K5 (.int i) (.int j)) G Q↔Q (.int (i % j)) G:=by
 have e:K5 (.int i) (.int j)=if 0<j then pure (.int (i % j))else M.stuck:=rfl
 rw[e,if_pos h];exact wp_pure
theorem S5(h:0<j/\j<2 ^ 100):Wp (O6 (.int i) (.int j)) G Q↔Q (.int (i / j)) G:=by
 have e:O6 (.int i) (.int j)=if bR8 i j then pure (.int (i / j))else M.stuck:=rfl
 rw[e,if_pos (show bR8 i j from h)];exact wp_pure
theorem aI9(h:bA1 i j):Wp (bE6 (.int i) (.int j)) G Q↔Q (.int (i*j)) G:=by
 have e:bE6 (.int i) (.int j)=if bA1 i j then pure (.int (i*j))else M.stuck:=rfl
 rw[e,if_pos h];exact wp_pure
theorem Z6{l:List D}(h:G[r]? =some (.lst l)):Wp (ixD (.ref r) (.int i)) G Q↔∃d,atI l i=some d/\Q d G:=by
 have e:ixD (.ref r) (.int i)= (do
  let l <-R1 r >>= DL.listOf
  aI5 (atI l i)):=rfl
 rw[e]
 simp only[j6,S8,h,T8,DL.listOf,wp_pure,aF7]
theorem cR7{d:D}{R:Unit->DH->Prop}(h:G[r]? =some (.lst l))(hj:ixN l.length k=some j):Wp (dU6 (.ref r) (.int k) d) G R↔R () (G.set r (.lst (l.set j d))):=by
 unfold dU6
 simp only[j6,S8,h,T8,hj,cP2]
theorem dK3:Wp (aF4 fo fi d σ) G S↔Wp (fo σ) G λo G1=>Wp (fi σ) G1 λi G2=>Wp (dU6 o i d) G2 λ_ G3=>S σ G3:=by
 unfold aF4;simp only[j6,wp_pure]
end
theorem cW0(h:cC2 i j):Wp (cM8 (.int i) (.int j)) G Q↔Q (.int (i ^ j.toNat)) G:=by
 have e:cM8 (.int i) (.int j)=if cC2 i j then pure (.int (i ^ j.toNat))else M.stuck:=rfl
 rw[e,if_pos h];exact wp_pure
theorem p18:Wp (cM8 (.int 10) (.int 18)) G Q↔Q (.int 1000000000000000000) G:=by
 rw[cW0 (by decide)];exact Iff.rfl
theorem cR9:Wp (cY2 (.int i)) G Q↔Q (.int (-i)) G:=wp_pure
theorem cE9{l:List D}{k:Int}(h0:0<=k)(h1:k<l.length):∃d,d∈l/\atI l k=some d:=by
 obtain⟨n,rfl⟩:=yS h0
 have hn:n<l.length:=by omega
 exact⟨l[n],jY hn,atI_nat (zf hn)⟩
theorem sz{l:List D}(h:Nat.ble l.length 100=true:=by rfl):l.length<=zl:=zC (JV h) (by decide)
theorem eW4{G t:DH}:(G++t)[G.length+k]? =t[k]? :=by
 rw[xp (by omega)];congr 1;omega
theorem dZ5{G t:DH}:(G++t)[G.length]? =t[0]? :=eW4 (k:=0)
section
theorem aS3:Wp (mtE t m fo fs σ) G Q↔Wp (fo σ) G λx G1=>Wp (t x) G1 λ_ G2=>Wp (fs σ) G2 λxs G3=>Wp (m x xs) G3 Q:=by
 unfold mtE;simp only[j6]
theorem S9(h:G[r]? =some (.lst l)):Wp (T4 (.ref r)) G R↔R () G:=by
 delta T4;exact j6.trans ((S8.trans (by rw[h];exact T8)).trans wp_pure)
theorem U7{l:List D}(h:G[r]? =some (.lst l))(hl:l.length<zl):Wp (X7 (.ref r) [y]) G Q↔Q .non (G.set r (.lst (l++[y]))):=by
 have e:X7 (.ref r) [y]= (do
  let l <-lstM r
  if l.length<zl then do
   let _ <-bQ7 r (.lst (l++[y]))
   pure .non
  else M.stuck):=rfl
 rw[e]
 unfold lstM
 simp only[j6,S8,h,T8,wp_pure,hl,if_true,cP2]
theorem K9{l:List D}(h:G[r]? =some (.lst l)):Wp (M9 [.ref r]) G Q↔Q (.tup l) G:=by
 have e:M9 [.ref r]= (do
  let l <-R1 r >>= DL.listOf
  pure (.tup l)):=rfl
 rw[e]
 simp only[j6,S8,h,T8,DL.listOf,wp_pure]
theorem cC1:Wp (bC6 [.tup l]) G Q↔Q (.ref G.length) (G++[.lst l]):=S6
theorem rng1:Wp (aB6 fs σ) G R↔Wp (fs σ) G λxs G1=>Wp (match xs with
 |[.int j]=>if -(2 ^ 62)<=j/\j<2 ^ 62 then pure ⟨K6 0 j.toNat,λ_=>true⟩else M.stuck
 |_=>M.stuck:M Src) G1 R:=by
 delta aB6;exact j6
theorem rng1_int(h: -(2 ^ 62)<=j/\j<2 ^ 62):Wp (match [D.int j] with
 |[.int j]=>if -(2 ^ 62)<=j/\j<2 ^ 62 then pure ⟨K6 0 j.toNat,λ_=>true⟩else M.stuck
 |_=>M.stuck:M Src) G R↔R ⟨K6 0 j.toNat,λ_=>true⟩ G:=by
 show Wp (if -(2 ^ 62)<=j/\j<2 ^ 62 then pure ⟨K6 0 j.toNat,λ_=>true⟩else M.stuck:M Src) G R↔_
 rw[if_pos h];exact wp_pure
theorem cX0(hl:a.length+b.length<=zl):Wp (aP1 (.tup a) (.tup b)) G Q↔Q (.tup (a++b)) G:=by
 have e:aP1 (.tup a) (.tup b)=if a.length+b.length<=zl then pure (.tup (a++b))else M.stuck:=rfl
 rw[e,if_pos hl];exact wp_pure
theorem eD4:Wp (aV5 f σ) G R↔Wp (f σ) G λx G1=>∃i,x= .int i/\R (some i) G1:=by
 delta aV5
 refine Iff.trans j6 ?_
 constructor
 · rintro⟨x,G1,e,q⟩
   refine⟨x,G1,e,?_⟩
   rcases x with _|_|i|_|_|_|_|_<;>try (exact(aN7.mp q).elim;done)
   ·exact⟨i,rfl,wp_pure.mp q⟩
 · rintro⟨x,G1,e,i,rfl,q⟩
   exact⟨_,G1,e,wp_pure.mpr q⟩
theorem sl_tup{lo hi:Option Int}:Wp (slD (.tup l) lo hi) G Q↔Q (.tup (DL.cutD l lo hi)) G:=wp_pure
theorem fN7{P:Int->Prop}:(∃k,D.int i= .int k/\P k)↔P i:=⟨fun⟨k,e,p⟩=>by cases e;exact p,λp=>⟨i,rfl,p⟩⟩
end
theorem m6{G:DH}:(G++[o])[G.length]? =some o:=dZ5
theorem aN1{G t:DH}{p:Nat}(e:G[p]? =some o):(G++t)[p]? =some o:=by
 have hlt:p<G.length:=by
  by_cases hi:p<G.length
  ·exact hi
  ·rw[zN (by omega)]at e;exact J6 e
 rw[zJ hlt];exact e
noncomputable def Gr(G G':DH):Prop:=G.length<=G'.length/\∀i,i<G.length->G'[i]? =G[i]?
theorem Gr.refl:Gr G G:=⟨zo _,λ_ _=>rfl⟩
theorem Gr.trans(h:Gr G G1)(k:Gr G1 G2):Gr G G2:=⟨zC h.1 k.1,λi hi=>by rw[k.2 i (by have:=h.1;omega),h.2 i hi]⟩
theorem Gr.app:Gr G (G++t):=⟨by simp,λi hi=>zJ hi⟩
theorem Gr.at{p:Nat}(h:Gr G G')(e:G[p]? =some o):G'[p]? =some o:=by
 have hl:p<G.length:=by
  by_cases hi:p<G.length
  ·exact hi
  ·rw[zN (by omega)]at e;cases e
 rw[h.2 p hl];exact e
theorem cI4:∀ns:List Int,aM5 (ns.map D.int)=some ns
 |[]=>rfl
 |a::r=>by show (aM5 (r.map D.int)).map (a :: ·)=_;rw[cI4 r];rfl
theorem dY9{σ:DSt}{l:List D}{R:Src->DH->Prop}(e:G[p]? =some (.lst l)):Wp (bP8 (.ref p)) G R↔R ⟨l,ckO p (.lst l)⟩ G:=by
 have h:bP8 (.ref p)= (do
  let o <-R1 p
  let l <-DL.listOf o
  pure ⟨l,ckO p o⟩):=rfl
 rw[h]
 simp only[j6,S8,e,T8,DL.listOf,wp_pure]
section
theorem dF8:Wp (bE3 o o' a b c σ) G Q↔Wp (a σ) G λx G1=>Wp (b σ) G1 λy G2=>Wp (o x y) G2 λz G3=>∃k,z= .bl k/\if k=true then Wp (c σ) G3 λw G4=>Wp (o' y w) G4 Q else Q (.bl false) G3:=by
 unfold bE3;simp only[j6,cR8,aQ9,wp_pure]
theorem bO0:Wp (N6 g t e ck [] σ) G R↔ck G=true/\R [] G:=by
 unfold N6
 constructor
 · rintro⟨a,G',e,q⟩
   by_cases h:ck G=true
   ·simp only[h,if_true]at e;cases e;exact⟨h,q⟩
   ·simp only[h]at e;exact J6 e
 · rintro⟨h,q⟩
   exact⟨_,G,by simp only[h,if_true],q⟩
theorem bL5:Wp (N6 g t e ck (d::r) σ) G R↔ck G=true/\Wp (g d σ) G λW1 G1=>Wp (t W1) G1 λb G2=>if b=true then Wp (e W1) G2 λy G3=>Wp (N6 g t e ck r W1) G3 λys G4=>R (y::ys) G4 else Wp (N6 g t e ck r W1) G2 R:=by
 have h0:Wp (N6 g t e ck (d::r) σ) G R↔ck G=true/\Wp (do
  let W1 <-g d σ
  if <-t W1 then do
   let y <-e W1
   let ys <-N6 g t e ck r W1
   pure (y::ys)
  else N6 g t e ck r W1:M (List D)) G R:=by
  rw[N6]
  constructor
  · rintro⟨a,G',e,q⟩
    by_cases h:ck G=true
    ·simp only[h,if_true]at e;exact⟨h,a,G',e,q⟩
    ·simp only[h]at e;exact J6 e
  · rintro⟨h,a,G',e,q⟩
    exact⟨a,G',by simp only[h,if_true];exact e,q⟩
 rw[h0]
 simp only[j6,aQ9,wp_pure]
theorem wp_comp:Wp (R0 it caps g t e σ) G Q↔Wp (it σ) G λs G1=>s.items.length<=zl/\Wp (N6 g t e s.ck s.items (W3 caps σ)) G1 λys G2=>Q (.ref G2.length) (G2++[.lst ys]):=by
 unfold R0
 simp only[j6]
 constructor
 · rintro⟨s,G1,e1,q⟩
   refine⟨s,G1,e1,?_⟩
   by_cases h:s.items.length<=zl
   · rw[if_pos h]at q
     simp only[j6,bD0,S6]at q
     exact⟨h,q⟩
   ·rw[if_neg h]at q;exact(aN7.mp q).elim
 · rintro⟨s,G1,e1,h,q⟩
   refine⟨s,G1,e1,?_⟩
   dsimp only
   rw[if_pos h]
   simp only[j6,bD0,S6]
   exact q
theorem aB1(hck:ck G=true)(S:DSt->Prop):∀items σ,S σ->
 (∀d∈items,∀ σ,S σ->∃ W1,g d σ G=some (.ok W1,G)/\S W1/\t W1 G=some (.ok (p d),G)/\e W1 G=some (.ok d,G))->N6 g t e ck items σ G=some (.ok (items.filter p),G)
 |[],σ,_,_=>by unfold N6;simp only[hck,if_true,List.filter_nil]
 |d::r,σ,i,h=>by
   obtain⟨W1,h1,i1,h2,h3⟩:=h d (by simp) σ i
   have h4:=aB1 hck S r W1 i1 λd hd=>h d (by simp[hd])
   unfold N6
   simp only[hck,if_true]
   rw[M.bind_ok h1,M.bind_ok h2]
   by_cases hp:p d=true
   · rw[if_pos hp,M.bind_ok h3,M.bind_ok h4,ZH hp]
     rfl
   ·rw[if_neg hp,h4,ZI hp]
end
section
theorem eV1:Wp (eqD (.str a) (.str b)) G Q↔Q (.bl (a==b)) G:=by
 have e:eqN 40 G (.str a) (.str b)=some (a==b):=by rfl
 rw[cB7,e];exact T8
theorem eE2:Wp (geD (.str a) (.str b)) G Q↔Q (.bl (!decide (a.cps.toList<b.cps.toList))) G:=wp_pure
theorem bA6(h:z.length<=zl):Wp (aB0 [.str z]) G Q↔Q (.int z.length) G:=by
 have e:aB0 [.str z]=if z.length<=zl then pure (.int z.length)else M.stuck:=rfl
 rw[e,if_pos h];exact wp_pure
theorem bJ6:Wp (aP3 x y) G Q↔∃k,inB x y G=some k/\Q (.bl (!k)) G:=bA3 (by unfold aP3 eZ4;cases inB x y G<;>rfl)
theorem cF9:Wp (inD x y) G Q↔∃k,inB x y G=some k/\Q (.bl k) G:=bA3 (by unfold inD eZ4;cases inB x y G<;>rfl)
theorem dR6(e:G[p]? =some (.lst l)):Wp (dW6 (.ref p)) G R↔R ⟨l,ckO p (.lst l)⟩ G:=dY9 (σ:= []) e
end
noncomputable def bY3(c:Nat):Bool:=decide (97<=c)&&decide (c<=122)
def fJ7(z:Str):Bool:=z.cps.toList.all bY3
end W
namespace DL
open PySem PySem.Spec L2
open PyProof.Rows hiding St
theorem dB7:Xq (.type "list_reverseiterator") "__len__" =pure none:=by rw[Zs,xq];kernel_rfl
theorem dL9:Xq (.type "list_reverseiterator") "__length_hint__" =pure (some (.builtin "list_reverseiterator.__length_hint__")):=by rw[Zs,xq];kernel_rfl
section
theorem dJ6(hT:s.TypeIs (.ref I) "list_reverseiterator")(h:Q false s):zt (zz prog w) A (yR (.ref I)) Q E s:=by
 unfold yR
 refine za (Jo hT dB7 ?_)
 show zt _ A (specialOf (Value.ref I) (je "__length_hint__") >>= _) _ _ _
 refine za (Jo hT dL9 ?_)
 generalize hid:("list_reverseiterator.__length_hint__" :String)=id0
 wp_delta
 rw[show splitId id0=some ("list_reverseiterator", "__length_hint__")from by subst hid;decide +kernel]
 subst hid
 refine za (Yi (b:=true) hT (by rw[Zc];kernel_rfl) ?_)
 refine zc ?_
 exact h
theorem cL0(hh:A.handled=none)(hI:s.heap.IsRevIter I l ((items.size:Int)-1))(hl:s.heap.IsList l items)(hne:l≠I)(S:Addr)(hSI:S≠I)(hSl:S≠l)(res:zg)(c₀:Nat)(hS:s.heap.get? S=some {cls:=.type "list",data:=.seq #[] c₀})
 (hR:∀h' tk acc' c',(∀b o,b≠S->b≠I->s.heap.get? b=some o->h'.get? b=some o)->h'.get? S=some {cls:=.type "list",dict:=none,data:=.seq acc' c',slots:= #[]}->ItemsOf (λi v=>items[items.size-1-i]? =some v) acc' items.size->R (.ok (.ret res)) {s with heap:=h',toks:=tk}) (hn:items.size<=zl):
 zt (zz prog w) A.in1 (jI (.ref S) (.ref I) res)
  (λfin s'=>match fin with| .done f=>R (.ok f) s'| .again c'=>c'.quiet=true/\xQ (zz prog w) A c' R s') (λe s'=>R (.error e) s') s:=by
 have hSf:S∉ [I,l]:=by simp only[zu,ju,or_false,not_or];exact⟨hSI,hSl⟩
 have W:=Walks.listRev (prog:=prog) (w:=w) (A:=A.in1) hh I l hne items
 have st:(0<=items.size/\s.heap.IsRevIter I l ((items.size:Int)-1-((0:Nat):Int))/\s.heap.IsList l items):=⟨jh _,by simpa using hI,hl⟩
 unfold jI
 refine za (xG hI.typeIs ?_)
 have h1:xm (.ref S) (.ref I)=false:=by simp[xm,hSI]
 rw[if_neg (by rw[h1];decide)]
 refine za (wpAny_pyIter_revIter hI ?_)
 refine za (jl (dJ6 hI.typeIs ?_))
 refine zH (λhab=>absurd hab (by decide)) (λ_=>?_)
 refine zc ⟨jC Zq _,codeAny_extend_loopS W.toS hn S hSf res items.size 0 _ #[] c₀ rfl (jh _) st hS (ItemsOf.nil _) λs' acc' c' hm hS' hacc=>?_⟩
 rw[Moved.eq_with hm]
 refine hR s'.heap s'.toks acc' c' (λb o hb hbI e=>hm.heap b o (λhmem=>?_) e) hS' hacc
 rcases zu.mp hmem with e'|hmem
 ·exact hb e'
 ·exact hbI (zr.mp hmem)
theorem dF5(hh:A.handled=none)(hI:s.heap.IsRevIter I l ((items.size:Int)-1))(hl:s.heap.IsList l items)(hne:l≠I)(S:Addr)(hSI:S≠I)(hSl:S≠l)(hS:s.heap.get? S=some {cls:=.type "list",data:=.seq #[]})
 (hR:∀h' tk acc' c',(∀b o,b≠S->b≠I->s.heap.get? b=some o->h'.get? b=some o)->h'.get? S=some {cls:=.type "list",dict:=none,data:=.seq acc' c',slots:= #[]}->ItemsOf (λi v=>items[items.size-1-i]? =some v) acc' items.size->R (.ok (.ret .none)) {s with heap:=h',toks:=tk}) (hn:items.size<=zl):
 zt (zz prog w) A.in1 (yi.«list.__init__» ⟨[.ref S,.ref I], []⟩)
  (λfin s'=>match fin with| .done f=>R (.ok f) s'| .again c'=>c'.quiet=true/\xQ (zz prog w) A c' R s') (λe s'=>R (.error e) s') s:=by
 show zt _ _ (do let old <-Xk (.ref S);Builtin.List.listUpdate (.ref S) (λ_=> #[]);letGo old.toList.reverse;jI (.ref S) (.ref I) .none) _ _ s
 refine za ?_
 unfold Xk
 refine za (Za hS rfl (zc ?_))
 show zt _ _ (updateSeq S (λ_=> #[]) >>= λ_=>letGo (#[]:Array zg).toList.reverse >>= λ_=>jI (.ref S) (.ref I) .none) _ _ s
 refine za (yr hS rfl ?_)
 have hS₂:=jw (jp (λ_=>(#[]:Array zg))) hS rfl
 have oth:∀b o,b≠S->s.heap.get? b=some o->(s.heap.update S (jp (λ_=>(#[]:Array zg)))).get? b=some o:=
  λb o hb e=>(jt _ _ (Ne.symm hb)).trans e
 refine za (xa ?_)
 refine cL0 hh (hI.at λo e=>oth I o (Ne.symm hSI) e) (hl.at λo e=>oth l o (Ne.symm hSl) e) hne S hSI hSl .none _ hS₂ (λh' tk acc' c' hk hS' hacc=>?_) hn
 exact hR h' tk acc' c' (λb o hb hbI e=>hk b o hb hbI (oth b o hb e)) hS' hacc
theorem dV4(hh:A.handled=none)(hI:s.heap.IsRevIter I l ((items.size:Int)-1))(hl:s.heap.IsList l items)(hne:l≠I)(hn:items.size<=zl)
 (hQ:∀h' tk acc' c',(∀b o,b≠I->s.heap.get? b=some o->h'.get? b=some o)->h'.get? s.heap.objs.size=some {cls:=.type "list",dict:=none,data:=.seq acc' c',slots:= #[]}->ItemsOf (λi v=>items[items.size-1-i]? =some v) acc' items.size->Q (.ref s.heap.objs.size) {s with heap:=h',toks:=tk}):
 zt (zz prog w) A (call (.type "list") [.ref I]) Q E s:=by
 refine callType_codes (Q₁:=λobj X0=>obj= .ref s.heap.objs.size/\X0= {s with heap:=s.heap.push {cls:=.type "list",data:=.seq #[]}}) PySem.F.called_list (PySem.F.typeCall_list_1 _) PySem.F.entry_list_init
  (code_list_new _ ⟨rfl,rfl⟩) λobj X0 h₁=>?_
 obtain⟨rfl,rfl⟩:=h₁
 have hS:(s.heap.push {cls:=.type "list",data:=.seq #[]}).get? s.heap.objs.size=some {cls:=.type "list",data:=.seq #[]}:=zp _ rfl
 have hltI:I<s.heap.objs.size:=by obtain⟨_,e,_⟩:=hI;exact zn e
 have hltl:l<s.heap.objs.size:=by obtain⟨_,e,_⟩:=hl;exact zn e
 refine⟨⟨_,hS,rfl⟩,PySem.F.args_list_init_2 _ _,dF5 (A:=A.in1) hh (hI.at λo e=>zh _ e) (hl.at λo e=>zh _ e) hne _ (yd hltI) (yd hltl) hS (λh' tk acc' c' hk hS' hacc=>?_) hn⟩
 exact⟨rfl,hQ h' tk acc' c' (λb o hbI e=>hk b o (zw (zn e)) hbI (zh _ e)) hS' hacc⟩
end
def bV6:D->M D:=λx=>match x with
 | .ref r=>do
   let l <-R1 r >>= listOf
   Q5 (.lst l.reverse)
 |_=>M.stuck
section
theorem cY6{its:List zg}(h:ItemsOf (λi v=>its.toArray[its.toArray.size-1-i]? =some v) acc its.toArray.size):acc.toList=its.reverse:=by
 have hl:acc.toList.length=its.length:=by rw[zA,h.1];simp
 apply Xd
 intro i
 by_cases hi:i<its.length
 · have hi':i<acc.size:=by rw[h.1];simpa using hi
   have hv:=h.2 i acc[i] (xx hi')
   rw[List.getElem?_reverse hi,jq,xx hi',<-hv]
   simp
 ·rw[zN (by lia),zN (by rw[List.length_reverse];lia)]
theorem cN7(he:DE X Z e fa)(hc:X.calm=true)(hg1:Gl X "list")(hm1:X.mg "list" =none)(hg2:Gl X "reversed")(hm2:X.mg "reversed" =none)
 (hs1:zK [Expr.Call (.Name "reversed" p2) [e] [] pos2] X.env= [(false,eval (.Call (.Name "reversed" p2) [e] [] pos2) X.env)]) (hs2:zK [e] X.env= [(false,eval e X.env)])
 (hb1:ja "list" =some (.type "list"):=by first|rfl|decide +kernel) (hb2:ja "reversed" =some (.type "reversed"):=by first|rfl|decide +kernel):
 DE X Z (.Call (.Name "list" p1) [.Call (.Name "reversed" p2) [e] [] pos2] [] pos1) (unE bV6 fa):=by
 refine⟨?_⟩
 intro pins s σ H Q I hE0
 refine hE0.elim λZ7 μ G sr h p=>?_
 refine Call_ (aK2 I hg1 hm1 hb1 (yj ?_ hs1 rfl))
 rw[hs1]
 refine yU (Call_ (aK2 I hg2 hm2 hb2 (yj ?_ hs2 rfl)))
 rw[hs2]
 refine yU (thn (he.h pins s σ H _ I ⟨Z7,μ,G,sr,h,(d7.bind p).mono λd X1 G1 H1 x1 h1 p1 v rv=>(⟨d,X1,G1,rv,h1,p1⟩:bK7 (wc X) Z bV6 v H1 Q)⟩) λv s1 ⟨x,H1,I1,r1,d,X1,G1,rd,h1,p1⟩=>?_)
 refine xf ?_
 rcases d with _|_|_|_|_|r|_|_<;>try (exact p1.elim;done)
 ·
   obtain⟨l,a,vs,rfl,rl,hq,p2⟩:=aE4 h1 rd p1
   cases r1
   obtain⟨its,rr,ht,hz⟩:=I1.list hq
   refine call_reversed_list ht.isList ?_
   refine xf ?_
   have hlt:a<s1.heap.objs.size:=by obtain⟨_,e,_⟩:=ht.isList;exact zn e
   have hI:(s1.heap.push (revObj a ((its.toArray.size:Int)-1))).IsRevIter s1.heap.objs.size a ((its.toArray.size:Int)-1):=⟨_,zp _ rfl,rfl,rfl⟩
   refine dV4 (I.ok.hd hc) hI (ht.isList.push _) (zw hlt) (by rw[zj,<-rr.length];exact hz) λh' tk acc' c' hk hS' hacc=>?_
   have e2:=cY6 hacc
   have hD:s1.heap.objs.size<=(s1.heap.push (revObj a ((its.toArray.size:Int)-1))).objs.size:=by rw[Zr];exact Nat.le_succ _
   have hf:=I1.hok.fresh hD
   have hS2:h'.get? (s1.heap.push (revObj a ((its.toArray.size:Int)-1))).objs.size=some {cls:=.type "list",data:=.seq its.reverse.toArray c'}:=by
    rw[hS',<-e2,Ze]
   exact⟨.ref _,upd H1 _ (.lst vs.reverse),I1.laid (λb u q=>hk b u (zw (zn q)) (zh _ q)) hD ⟨by rw[List.length_reverse];exact hz,its.reverse,c',rr.reverse,hS2⟩,rfl,Z1 h1 rl.reverse p2 _ hf⟩
end
end DL
namespace DL
open PySem PySem.Spec L2 Builtin Builtin.Str
open PyProof.Rows hiding St
section
variable{X:Cx}{Z:XC}{e:Expr}{fa:Fe}{p2 pos:Pos}{lo hi:Option Expr}{fl fh:Fo}
theorem cS4(p:IsPart v o):∃l:Option (Int×Tok),v=partValue l/\l.map (·.1)=o:=by
 cases p with
 |none=>exact⟨none,rfl,rfl⟩
 |int i t=>exact⟨some (i,t),rfl,rfl⟩
theorem eU0:SlR X (λx lo hi H Q=>∃z,x= .str z/\z.length<=zl/\Q (.str (Jx z lo hi)) H):=by
 intro pins s σ H x v vl vu lo hi sl Q I rx hs pl pu h
 obtain⟨z,rfl,hz,q⟩:=h
 obtain⟨t,rfl⟩:=rx
 obtain⟨l,el,eml⟩:=cS4 pl
 obtain⟨u,eu,emu⟩:=cS4 pu
 subst el eu eml emu
 refine⟨"str",_,PySem.F.slot_str_getitem.lookup,typeIs_str _ z t,?_⟩
 refine wpAny_getItem_str_slice (st:=none) (let ⟨o,h1,h2,h3⟩:=hs;⟨o,h1,h2,h3⟩) rfl ?_
 unfold sliceMade
 unfold Jx at q
 unfold slicePicked
 have e1:((Option.map (λx:Int×Tok=>x.1) none).getD 1)= (1:Int):=rfl
 simp only[e1]
 by_cases hc:((1:Int)==1&&(strSliceIndices (l.map (·.1)) (u.map (·.1)) 1 z.length).length==z.length)=true
 · rw[if_pos hc]at q
   rw[if_pos hc]
   exact⟨.str z,H,I,⟨t,rfl⟩,q⟩
 · rw[if_neg hc]at q
   rw[if_neg hc]
   refine⟨?_,.str _,H,I.tok _,⟨_,rfl⟩,q⟩
   have hle:=Txt.slice_le z (l.map (·.1)) (u.map (·.1))
   unfold Jx at hle
   rw[if_neg hc]at hle
   exact zC hle hz
def slT:D->Option Int->Option Int->M D:=λx lo hi=>match x with
 | .str z=>if z.length<=zl then pure (.str (Jx z lo hi))else M.stuck
 | .tup l=>slD (.tup l) lo hi
 | .ref r=>slD (.ref r) lo hi
 |_=>M.stuck
def bM9(f:Fe)(lo hi:Fo):Fe:=λσ=>do
 let x <-f σ
 let l <-lo σ
 let h <-hi σ
 slT x l h
theorem eM8:SlD X Z slT:=SlR.mono (eU0.or (fE1)) λx lo hi H Q ⟨dx,μ,G,rx,hr,p⟩=>by
 rcases dx with _|_|_|z|l|r|_|_<;>try (exact p.elim;done)
 ·
   unfold slT at p
   dsimp only at p
   split at p
   · rename_i hz
     exact .inl ⟨z,aQ2 rx,hz,d7.ok p hr _ (by unfold d8;rfl)⟩
   ·exact p.elim
 ·exact .inr ⟨.tup l,μ,G,rx,hr,p⟩
 ·exact .inr ⟨.ref r,μ,G,rx,hr,p⟩
theorem dD4(he:DE X Z e fa)(hl:DOp X Z lo fl)(hu:DOp X Z hi fh):DE X Z (.Subscript e (.Slice lo hi none p2) pos) (bM9 fa fl fh):=
 DE.of (dN2 eM8 he.h hl.h hu.h) λσ H Q hE0=>hE0.elim λZ7 μ G s h p=>⟨Z7,μ,G,s,h,(d7.bind p).mono λd X1 G1 H1 x1 h1 p1 v rv=>
  ⟨Z7,X1,G1,s.mono x1,h1,(d7.bind p1).mono λl WZ G2 H2 x2 h2 p2=>⟨Z7,WZ,G2,s.mono (x1.trans x2),h2,(d7.bind p2).mono λu WS G3 H3 x3 h3 p3=>⟨d,WS,G3,rv.mono (x2.trans x3),h3,p3⟩⟩⟩⟩
end
section
end
end DL
namespace W
open PySem PySem.Spec L2 DL Builtin Builtin.Str
open PyProof.Rows hiding St
section
theorem dF2{lo hi:Fo}:Wp (bM9 f lo hi σ) G Q↔Wp (f σ) G λx G1=>Wp (lo σ) G1 λl G2=>Wp (hi σ) G2 λh G3=>Wp (slT x l h) G3 Q:=by
 unfold bM9;simp only[j6]
theorem eE3{lo hi:Option Int}:Wp (slT (.tup l) lo hi) G Q↔Q (.tup (DL.cutD l lo hi)) G:=wp_pure
theorem dQ1(e:G[r]? =some (.lst l)):Wp (bV6 (.ref r)) G Q↔Q (.ref G.length) (G++[.lst l.reverse]):=by
 have h:bV6 (.ref r)= (do
  let l <-R1 r >>= DL.listOf
  Q5 (.lst l.reverse)):=rfl
 rw[h]
 simp only[j6,S8,e,T8,DL.listOf,wp_pure,S6]
end
end W
namespace DL
open PySem PySem.Spec L2
open PyProof.Rows hiding St
def aV3:D->D->M D:=λx y=>match y with
 | .non=>pure (.bl (cQ9 x))
 | .bl c=>match x with
   | .bl d=>pure (.bl (d==c))
   |_=>M.stuck
 |_=>M.stuck
def aX2:D->D->M D:=λx y=>match y with
 | .non=>pure (.bl (!cQ9 x))
 | .bl c=>match x with
   | .bl d=>pure (.bl (d != c))
   |_=>M.stuck
 |_=>M.stuck
def cP8(a b:Fe):Fe:=λσ=>do
 let x <-a σ
 if <-aJ8 x then pure x else b σ
def aQ5(a b:Fe):Fe:=λσ=>do
 let x <-a σ
 if <-aJ8 x then b σ else pure x
section
theorem eM3:OpR X (zR .Is) (λx y H Q=>(y= .non/\Q (.bl (decide (x= .non))) H)\/∃c d,x= .bl c/\y= .bl d/\Q (.bl (c==d)) H):=by
 intro pins s σ H x y v u Q I rx ry h
 rcases h with h|⟨c,d,rfl,rfl,q⟩
 ·exact eK5 pins s σ H x y v u Q I rx ry h
 · cases rx
   cases ry
   exact is_bool ⟨.bl (c==d),H,I,rfl,q⟩
theorem dC4:OpR X (zR .IsNot) (λx y H Q=>(y= .non/\Q (.bl (!decide (x= .non))) H)\/∃c d,x= .bl c/\y= .bl d/\Q (.bl (c != d)) H):=by
 intro pins s σ H x y v u Q I rx ry h
 rcases h with h|⟨c,d,rfl,rfl,q⟩
 ·exact dZ4 pins s σ H x y v u Q I rx ry h
 · cases rx
   cases ry
   exact isnot_bool ⟨.bl (c != d),H,I,rfl,q⟩
theorem eL3:OpD X Z (zR .Is) aV3:=OpD.of eM3 λx y H Q hE0=>hE0.elim λdx dy μ G rdx rdy hr p=>by
 rcases dy with _|d|_|_|_|_|_|_<;>try (exact p.elim;done)
 ·exact .inl ⟨dM8 rdy,by rw[cR4 rdx];exact d7.ok p hr _ ofB⟩
 ·
   rcases dx with _|c|_|_|_|_|_|_<;>try (exact p.elim;done)
   ·exact .inr ⟨c,d,bR3 rdx,bR3 rdy,d7.ok p hr _ ofB⟩
theorem dD3:OpD X Z (zR .IsNot) aX2:=OpD.of dC4 λx y H Q hE0=>hE0.elim λdx dy μ G rdx rdy hr p=>by
 rcases dy with _|d|_|_|_|_|_|_<;>try (exact p.elim;done)
 ·exact .inl ⟨dM8 rdy,by rw[cR4 rdx];exact d7.ok p hr _ ofB⟩
 ·
   rcases dx with _|c|_|_|_|_|_|_<;>try (exact p.elim;done)
   ·exact .inr ⟨c,d,bR3 rdx,bR3 rdy,d7.ok p hr _ ofB⟩
theorem bG6{G:DH}{d:D}{v:V}{f:Bool->M α}{K:α->List Addr->DH->Hp->Prop}(h:u9 (wc X) μ G H)(rv:d8 (wc X) μ H d v)(p:d7 (wc X) Z μ H ((aJ8 d >>= f) G) K):
 ∃k,fA4 X.K v H k/\d7 (wc X) Z μ H (f k G) K:=by
 have p1:=d7.bind p
 rcases d with _|b|b|y|l|r|_|_<;>try (exact p1.elim;done)
 ·rw[dM8 rv];exact⟨false,rfl,d7.ok p1 h⟩
 ·rw[bR3 rv];exact⟨b,rfl,d7.ok p1 h⟩
 ·rw[aG6 rv];exact⟨_,rfl,d7.ok p1 h⟩
 ·
   rw[aQ2 rv]
   unfold aJ8 at p1
   dsimp only at p1
   split at p1
   ·rename_i hz;exact⟨_,⟨hz,rfl⟩,d7.ok p1 h⟩
   ·exact p1.elim
 ·
   unfold d8 at rv
   obtain⟨a,vs,rfl,q,rl⟩:=rv
   exact⟨!vs.isEmpty,.inr (.inl ⟨vs,q,rfl⟩),by rw[aI3 rl];exact d7.ok p1 h⟩
 ·
   unfold d8 at rv
   obtain⟨a,m,rfl⟩:=rv
   obtain⟨o,g,p2⟩:=O1 p1
   have ro:=h.obj r o a g m
   rcases o with l|l|l|l
   ·obtain⟨vs,q,rl⟩:=ro;exact⟨!vs.isEmpty,.inl ⟨vs,SqL.of q,rfl⟩,by rw[aI3 rl];exact d7.ok p2 h⟩
   ·obtain⟨vs,q,rl⟩:=ro;exact⟨!vs.isEmpty,.inl ⟨vs,q.sq,rfl⟩,by rw[aI3 rl];exact d7.ok p2 h⟩
   ·obtain⟨vs,q,rl⟩:=ro;exact⟨!vs.isEmpty,.inr (.inr ⟨vs,q,rfl⟩),by rw[bO3 rl];exact d7.ok p2 h⟩
   ·exact p2.elim
theorem eY6{Q9:List Expr}(ha:DE X Z a fa)(hb:DE X Z (.BoolOp .Or (b::Q9) pos) fb):DE X Z (.BoolOp .Or (a::b::Q9) pos) (cP8 fa fb):=by
 refine⟨?_⟩
 intro pins s σ H Q I hE0
 refine hE0.elim λZ7 μ G sr h p=>?_
 refine BoolOp_or (thn (ha.h pins s σ H _ I ⟨Z7,μ,G,sr,h,(d7.bind p).mono λd X1 G1 H1 x1 h1 p1 v rv=>(⟨d,X1,G1,x1,rv,h1,p1⟩:∃d X1 G1,Ext μ H X1 H1/\d8 (wc X) X1 H1 d v/\u9 (wc X) X1 G1 H1/\d7 (wc X) Z X1 H1 ((aJ8 d >>= λk=>if k=true then pure d else fb Z7) G1) λd X9 _ H'=>∀v,d8 (wc X) X9 H' d v->Q v H')⟩) λv s1 ⟨x,H1,I1,r1,d,X1,G1,x1,rd,h1,p1⟩=>?_)
 obtain⟨k,tk,p2⟩:=bG6 h1 rd p1
 refine thn (cP4 pins s1 σ H1 x v (λc H'=>c=k/\H'=H1) I1 r1 ⟨k,tk,rfl,rfl⟩) λc s2 ⟨H2,I2,e1,e2⟩=>?_
 subst e1 e2
 rcases c with _|_
 ·exact hb.h pins s2 σ H2 Q I2 ⟨Z7,X1,G1,sr.mono x1,h1,p2⟩
 ·exact⟨x,H2,I2,r1,d7.ok p2 h1 _ rd⟩
theorem eF8{Q9:List Expr}(ha:DE X Z a fa)(hb:DE X Z (.BoolOp .And (b::Q9) pos) fb):DE X Z (.BoolOp .And (a::b::Q9) pos) (aQ5 fa fb):=by
 refine⟨?_⟩
 intro pins s σ H Q I hE0
 refine hE0.elim λZ7 μ G sr h p=>?_
 refine BoolOp_and (thn (ha.h pins s σ H _ I ⟨Z7,μ,G,sr,h,(d7.bind p).mono λd X1 G1 H1 x1 h1 p1 v rv=>(⟨d,X1,G1,x1,rv,h1,p1⟩:∃d X1 G1,Ext μ H X1 H1/\d8 (wc X) X1 H1 d v/\u9 (wc X) X1 G1 H1/\d7 (wc X) Z X1 H1 ((aJ8 d >>= λk=>if k=true then fb Z7 else pure d) G1) λd X9 _ H'=>∀v,d8 (wc X) X9 H' d v->Q v H')⟩) λv s1 ⟨x,H1,I1,r1,d,X1,G1,x1,rd,h1,p1⟩=>?_)
 obtain⟨k,tk,p2⟩:=bG6 h1 rd p1
 refine thn (cP4 pins s1 σ H1 x v (λc H'=>c=k/\H'=H1) I1 r1 ⟨k,tk,rfl,rfl⟩) λc s2 ⟨H2,I2,e1,e2⟩=>?_
 subst e1 e2
 rcases c with _|_
 ·exact⟨x,H2,I2,r1,d7.ok p2 h1 _ rd⟩
 ·exact hb.h pins s2 σ H2 Q I2 ⟨Z7,X1,G1,sr.mono x1,h1,p2⟩
end
end DL
namespace W
open PySem PySem.Spec L2 DL
open PyProof.Rows hiding St
section
theorem dJ3:Wp (cP8 a b σ) G Q↔Wp (a σ) G λx G1=>Wp (aJ8 x) G1 λk G2=>if k=true then Q x G2 else Wp (b σ) G2 Q:=by unfold cP8;simp only[j6,aQ9,wp_pure]
theorem cA1:Wp (aQ5 a b σ) G Q↔Wp (a σ) G λx G1=>Wp (aJ8 x) G1 λk G2=>if k=true then Wp (b σ) G2 Q else Q x G2:=by unfold aQ5;simp only[j6,aQ9,wp_pure]
end
end W
namespace DL
open PySem PySem.Spec L2
open PyProof.Rows hiding St
structure aJ2(F:List D->M D)(n:Nat)(x:Str)(P:zT)(w:jg)(K:zi)(mg:Str->Option zg)(base:Heap)(k:Nat):Prop where
 ex:∃f fd ps,aN4 P w K mg base CX0 k f fd ps (spD ⟨K,mg⟩ n F)/\mg x=some (.ref f)/\yh K (.ref f)=true/\aT1 K fd ps []
theorem aJ2.of{P:zT}{w:jg}{K:zi}{base:Heap}{k n:Nat}{x:Str}{st:Stmt}{f:Addr}(c:FF K mg x st ps f fd)(h:aN4 P w K mg base CX0 k f fd ps (spD ⟨K,mg⟩ n F)):aJ2 F n x P w K mg base k:=
 ⟨f,fd,ps,h,c.m,c.F.kp,c.b⟩
noncomputable def bltL:List Str:= ["len", "isinstance", "all", "any", "sum", "min", "max", "abs", "sorted", "tuple", "list", "int", "str", "bool", "dict", "zip", "enumerate", "range", "reversed", "set"]
structure BLs(mg:Str->Option zg):Prop where
 h:∀b∈bltL,mg b=none
theorem aM4:(yQ p l).any (·.1)=l.any (·.1):=by
 unfold yQ
 rw[ZT]
 rfl
theorem aQ6:∀ {es},es.all T7=true->(zK es env).any (·.1)=false
 |[],_=>rfl
 |e::es,h=>by
   rw[yc,zZ]at h
   rw[q17 h.1,yb,aQ6 h.2]
   rfl
section
theorem fH0(hN:∃N ps sc,aE3 N ps sc/\X.N=N)(hi:X.N[i]? =some x)(hx:Loc X.env.scope x)(hf:X.fn x=true\/X.env.scope.names.lookup x=some .local):DG X Z (.Name x pos) (q16 i):=by
 obtain⟨N,ps,sc,S,e⟩:=hN
 exact cT1 (by rw[e];exact S.nd) hi hx hf
theorem fP3(ha:DE X Z e fa)(hr:DA X Z es fs)(hs:T7 e=true):DA X Z (e::es) (q13 fa fs):=q18 ha hr (q17 hs)
theorem dH0(hF:∃k kk,aJ2 F n x X.prog X.w X.K X.mg X.base k/\V7 kk X.A/\k<=kk)(hg:Gl X x)(ha:DA X Z (e::es) fs)(hdb:(x==("__debug__" :Str))=false)(hs:(e::es).all T7=true):
 DE X Z (.Call (.Name x p) (e::es) [] pos) (q15 (fnX n F) fs):=by
 obtain⟨k,kk,hF,hr,hk⟩:=hF
 obtain⟨f,fd,ps,h1,h2,h3,h4⟩:=hF.ex
 rw[yc,zZ]at hs
 exact dW4 h1 (hr.mono hk) hg h2 h3 h4 ha hdb (q17 hs.1) (by rw[aM4];exact aQ6 hs.2)
structure BD(F:List D->M D)(x:Str)(X:Cx)(Z:XC):Prop where
 ex:(∃id,aA4 X Z (.builtin id) F/\ja x=some (.builtin id))\/(∃T,aA4 X Z (.type T) F/\ja x=some (.type T))
theorem eY4(hc:X.calm=true)(hF:X.calm=true->BD F x X Z)(hb:BLs X.mg)(hx:bltL.elem x=true)(hg:Gl X x)(ha:DA X Z (e::es) fs)(hn:x≠ "__name__")(hdb:(x==("__debug__" :Str))=false)(hs:(e::es).all T7=true):
 DE X Z (.Call (.Name x p) (e::es) [] pos) (q15 F fs):=by
 have hm:=hb.h x (List.elem_iff.mp hx)
 rw[yc,zZ]at hs
 rcases (hF hc).ex with⟨id,h1,h2⟩|⟨T,h1,h2⟩
 ·exact dP4 h1 hg hm h2 ha hn hdb (q17 hs.1) (by rw[aM4];exact aQ6 hs.2)
 ·exact dB4 h1 hg hm h2 ha hn hdb (q17 hs.1) (by rw[aM4];exact aQ6 hs.2)
theorem eX2(_:X.calm=true):BD aB0 "len" X Z:=⟨.inl ⟨_,eV4,eW1⟩⟩
theorem bO8(_:X.calm=true):BD K8 "isinstance" X Z:=⟨.inl ⟨_,cY8,bR1⟩⟩
theorem eK2(h:X.calm=true):BD dD5 "all" X Z:=⟨.inl ⟨_,eL6 h,eL7⟩⟩
theorem eQ6(h:X.calm=true):BD dO1 "any" X Z:=⟨.inl ⟨_,eO5 h,eX8⟩⟩
theorem eS3(h:X.calm=true):BD dH3 "max" X Z:=⟨.inl ⟨_,eM4 h,dQ6⟩⟩
theorem eS9(_:X.calm=true):BD dB2 "abs" X Z:=⟨.inl ⟨_,eT1,eP2⟩⟩
theorem dP8(_:X.calm=true):BD M9 "tuple" X Z:=⟨.inr ⟨_,dR4,dS8⟩⟩
theorem dZ0(_:X.calm=true):BD bC6 "list" X Z:=⟨.inr ⟨_,eG2,eB6⟩⟩
theorem eO4(_:X.calm=true):BD bP3 "int" X Z:=⟨.inr ⟨_,eX1,eU7⟩⟩
theorem dW0:∀n∈ ["int", "bool", "str", "tuple", "list", "dict"],ja (je n)=some (.type n):=by decide +kernel
theorem eV7(hb:BLs X.mg)(hn:n∈ ["int", "bool", "str", "tuple", "list", "dict"])(hx:bltL.elem (je n)=true)(hg:Gl X (je n))(hnn:je n≠ "__name__")(hd:(je n==("__debug__" :Str))=false):DE X Z (.Name (je n) pos) (cE (.ty n)):=
 fC8 hg (hb.h _ (List.elem_iff.mp hx)) (dW0 n hn) hnn hd
theorem eF7(he:DE X Z e fa)(hc:X.calm=true)(hb:BLs X.mg)(hg1:Gl X "list")(hg2:Gl X "reversed")(hs:T7 e=true):DE X Z (.Call (.Name "list" p1) [.Call (.Name "reversed" p2) [e] [] pos2] [] pos1) (unE bV6 fa):=
 cN7 he hc hg1 (hb.h _ (by decide +kernel)) hg2 (hb.h _ (by decide +kernel)) (aA9 rfl) (aA9 hs)
theorem fH9(hb:BLs X.mg)(hg:Gl X "range")(ha:DA X Z [a] fs)(hs:T7 a=true):DI X Z tg (.Call (.Name "range" p) [a] [] pos) (aB6 fs):=dV9 hg (hb.h _ (by decide +kernel)) ha (aA9 hs)
theorem fB3(hb:BLs X.mg)(hg:Gl X "range")(ha:DA X Z [a,b] fs)(hs:T7 a=true)(hs2:T7 b=true):DI X Z tg (.Call (.Name "range" p) [a,b] [] pos) (aR2 fs):=dY7 hg (hb.h _ (by decide +kernel)) ha (dQ5 hs hs2) (aA9 hs2)
noncomputable def aJ7(sc:Scope):List Str:=(sc.names.filterMap λy=>if y.2 == .local&&y.1 != (".0" :Str)then some y.1 else none)++(sc.names.filterMap λy=>if y.2 == .free then some y.1 else none)
theorem eA5(hc:X.calm=true)(hi:DI X Z tg iter it)(k:∃XN ps osc,aE3 XN ps osc/\X.env.scope=osc/\X.N=XN/\bJ1 osc scope (aJ7 scope) XN caps=true)(nd:(aJ7 scope).Nodup)
 (hg:(aJ7 scope).Nodup->∀C s H ex,DG (U9 X scope (aJ7 scope) C s H ex) ZF tg gg) (ht:∀C s H ex,DTs (U9 X scope (aJ7 scope) C s H ex) ZF ifs tt) (he:∀C s H ex,DE (U9 X scope (aJ7 scope) C s H ex) ZF elt fe)
 (hf:∀x,yK iter X.env x=pure x):DE X Z (.ListComp elt [⟨tg,iter,ifs,0⟩] scope pos) (R0 it caps gg tt fe):=let ⟨_,_,_,_,hs,hN,k⟩:=k;eD1 hc hi (aI1.of k hs hN) (hg nd) ht he hf
theorem dT4(hc:X.calm=true)(hi:DI X Z tg iter it)(k:∃XN ps osc,aE3 XN ps osc/\X.env.scope=osc/\X.N=XN/\bJ1 osc scope (aJ7 scope) XN caps=true)(nd:(aJ7 scope).Nodup)
 (hg:(aJ7 scope).Nodup->∀C s H ex,DG (U9 X scope (aJ7 scope) C s H ex) ZF tg gg) (ht:∀C s H ex,DTs (U9 X scope (aJ7 scope) C s H ex) ZF ifs tt) (he:∀C s H ex,DE (U9 X scope (aJ7 scope) C s H ex) ZF elt fe)
 (hf:∀x,yK iter X.env x=pure x) (hgo:DG X Z (.Name y py) g2) (hsw:swapsWith (.ListComp elt [⟨tg,iter,ifs,0⟩] scope pos) (some (.Name y py)) spos.line X.env=pure true):
 DS X Z (.Assign [.Name y py] (.ListComp elt [⟨tg,iter,ifs,0⟩] scope pos) spos) (o9 (R0 it caps gg tt fe) g2):=let ⟨_,_,_,_,hs,hN,k⟩:=k;dO4 hc hi (aI1.of k hs hN) (hg nd) ht he hf hgo hsw
end
section
end
end DL
namespace W
open PySem PySem.Spec L2 DL
open PyProof.Rows hiding St
section
end
end W
namespace DL
open PySem PySem.Spec L2
open PyProof.Rows hiding St
def Itd(a:Addr)(o:Obj)(kvs:List (Key×V)):It:=
 ⟨λi H=>H a=some (.frz o (.dK kvs))/\∃kv,kvs[i]? =some kv,λi H x H'=>H'=H/\∃kv,kvs[i]? =some kv/\x=kV kv.1,λi H=>H a=some (.frz o (.dK kvs))/\kvs.length<=i⟩
theorem dK7:∀ {kvs} {vs} {i:Nat} {kv:κ×V},KV kvs vs->kvs[i]? =some kv->∃v,vs[i]? =some (kv.1,v)
 |_,_,_,_,.nil,e=>by simp at e
 |_,_,0,_,.cons h t,e=>by
   simp only[zy,zE]at e
   subst e
   exact⟨_,by rw[zy,h.1]⟩
 |_,_,i+1,_,.cons h t,e=>by
   simp only[zO]at e ⊢
   exact dK7 t e
theorem eY9(h:(O4 P w).is k u=true):J9 (kV k) u:=by
 rcases Q0 h with⟨i,t,rfl,rfl⟩|⟨x,t,rfl,rfl⟩
 ·exact⟨t,rfl⟩
 ·exact⟨t,rfl⟩
theorem dO9(I:Inv X pins σ H s)(ho:o.data= .dict es ep)(e:H a=some (.frz o (.dK kvs))):
 (a==yP)=false/\∃vs,KV kvs vs/\s.heap.DictAt (O4 X.prog X.w) a vs ep:=by
 obtain⟨hget,hz,hS,vs,r,m⟩:=(show W2 X.prog X.w H s.heap a (.frz o (.dK kvs))from I.hok a _ e)
 obtain⟨ep',dat⟩:=m.dictAt
 have hep:ep'=ep:=by
  obtain⟨o',es',h1,_,h3,_⟩:=id dat
  rw[hget]at h1
  cases h1
  rw[ho]at h3
  cases h3
  rfl
 subst hep
 exact⟨hS,vs,r,dat⟩
theorem bT1{P:zT}{w:jg}{K:zi}{tg:Expr}{a:Addr}{o:Obj}{ep:Nat}(ho:o.data= .dict es ep)(it:Addr):bW3 P w K tg (Itd a o kvs) [it] it (λi h=>h.IsKeyIter it a i kvs.length ep) where
 mem:=by simp
 obj:=λi h st b hb=>by
  have e:b=it:=by simpa using hb
  subst e
  obtain⟨o,e,c,d⟩:=st
  exact⟨o,e,λv z=>by rw[d]at z;cases z⟩
 keep:=λi h h' st k=>let ⟨o,ho,r⟩:=st;⟨o,k it (by simp) o ho,r⟩
 item:=by
  intro X hP hw hK hc i pins s σ H E I hf st hg
  subst hP hw hK
  obtain⟨hfr,kv,hx⟩:=hg
  obtain⟨f0,f1,f2,f3,f4,f5⟩:=hf it (by simp)
  obtain⟨hS,vs,rel,dat⟩:=dO9 I ho hfr
  obtain⟨v,hv⟩:=dK7 rel hx
  have hlen:kvs.length=vs.length:=yX rel
  rw[hlen]at st
  refine wpAny_pyNext_dict_item st dat hv λkey h' hk st' sb=>?_
  have I1:Inv X pins σ H {s with heap:=h'}:=I.turned (λb o hb e=>(sb.2 b hb).trans e) f0 f1 f3 f4 f5
  obtain⟨o',e,cc,d⟩:=id st'
  refine⟨_,rfl,bV5 e cc d (by decide) ⟨kV kv.1,H,I1,eY9 hk,⟨rfl,kv,hx,rfl⟩,by rw[hlen];exact st',λb hb=>(hf b hb).1⟩⟩
 done:=by
  intro X hP hw hK hc i pins s σ H E I hf st hg
  subst hP hw hK
  obtain⟨hfr,hi⟩:=hg
  obtain⟨f0,f1,f2,f3,f4,f5⟩:=hf it (by simp)
  obtain⟨hS,vs,rel,dat⟩:=dO9 I ho hfr
  have hlen:kvs.length=vs.length:=yX rel
  rw[hlen]at st hi
  exact wpAny_pyNext_dict_end (I.ok.hd hc) st dat (zN hi) λh' eb=>⟨rfl,I.turned (λb o hb e=>eb b o hb e) f0 f1 f3 f4 f5⟩
 self:=λ_ _ _ _ _ st h=>wpAny_pyIter_keyiter st h
theorem u9.setR(h:u9 c μ G H)(g:G[i]? =some o)(n:¬aQ4 (some o))(m:μ[i]? =some a)(k:Ext μ H μ (upd H a u))(ho:aP4 c μ (upd H a u) a o'):u9 c μ (G.set i o') (upd H a u):=by
 have hi:i<G.length:=lt_of_get g
 have get:∀j,(G.set i o')[j]? =if i=j then some o' else G[j]? :=λj=>by
  rw[Xc]
  by_cases e:i=j
  ·subst e;simp[hi]
  ·simp[e]
 refine⟨by simp[h.len],λj l b ej el=>?_,λj o2 b gj mj=>?_⟩
 · rcases h.inj j l b ej el with e|e|e
   ·exact .inl e
   · by_cases ij:i=j
     ·subst ij;rw[g]at e;exact(n e).elim
     ·right;left;rw[get,if_neg ij];exact e
   · by_cases ij:i=l
     ·subst ij;rw[g]at e;exact(n e).elim
     ·right;right;rw[get,if_neg ij];exact e
 · rw[get]at gj
   by_cases ij:i=j
   · subst ij
     rw[if_pos rfl]at gj
     cases gj
     rw[m]at mj
     cases mj
     exact ho
   · rw[if_neg ij]at gj
     have q:=h.obj j o2 b gj mj
     by_cases hr:aQ4 (some o2)
     ·exact q.mono k (.inr hr)
     · have nb:b≠a:=λe=>by
        subst e
        rcases h.inj i j b m mj with e|e|e
        ·exact ij e
        ·rw[g]at e;exact n e
        ·rw[gj]at e;exact hr e
       exact q.mono k (.inl (K3 nb))
section
theorem Inv.freeze(I:Inv X pins σ H s)(e:H a=some (.dK kvs))(ho:s.heap.get? a=some o):Inv X pins σ (upd H a (.frz o (.dK kvs))) s:=by
 have q:W2 X.prog X.w H s.heap a (.dK kvs):=I.hok a _ e
 exact I.write (by rw[e];exact trivial) (.inl rfl) (λb u _ z=>z) ⟨o,ho⟩ ⟨ho,q⟩
def iW(K:zi)(tl:TE):TI:=λσ H R=>tl σ H λx H1=>((∃z,x= .str z/\R (Its z) H1)\/(∃k a xs,x= .ref a/\Sq K k H1 a xs/\R (if k=true then Itt K a else Itl K a) H1))\/
 (∃a kvs,x= .ref a/\H1 a=some (.dK kvs)/\∀o,R (Itd a o kvs) (upd H1 a (.frz o (.dK kvs))))\/(∃a o kvs,x= .ref a/\H1 a=some (.frz o (.dK kvs))/\R (Itd a o kvs) H1)
theorem fN2(hl:PE X e tl):PI X tg e (iW X.K tl):=by
 intro pins s σ H R I h
 refine thn (hl pins s σ H _ I h) λv s1 hE1=>hE1.elim λx H1 I1 r1 q1=>?_
 have fpo:∀b∈ [s1.heap.objs.size],aN9 X pins H1 b:=λb hb=>by
  have z:b=s1.heap.objs.size:=by simpa using hb
  subst z
  exact I1.fpOk (zo _) (I1.hok.fresh (zo _))
 rcases q1 with(⟨z,rfl,q⟩|⟨k,a,xs,rfl,hq,q⟩)|⟨a,kvs,rfl,hq,q⟩|⟨a,o,kvs,rfl,hq,q⟩
 · obtain⟨t,rfl⟩:=(show ∃t,v=Value.str z t from r1)
   refine wpAny_pyIter_strU ?_
   have I2:Inv X pins σ H1 {s1 with heap:=s1.heap.push {cls:=.type (Zp z),data:=.fields #[.str z t,.int 0 0]}}:=I1.kept λb o z=>zh _ z
   have hg:(s1.heap.push {cls:=.type (Zp z),data:=.fields #[.str z t,.int 0 0]}).get? s1.heap.objs.size=some {cls:=.type (Zp z),data:=.fields #[.str z t,.int 0 0]}:=zp _ rfl
   by_cases ha:z.cps.all (· < 128)=true
   · have e:Zp z= "str_ascii_iterator":=by unfold Zp;rw[if_pos ha]
     refine⟨s1.heap.objs.size, [s1.heap.objs.size],_,_,H1,rfl,I2,cL3 z t _,?_,fpo,q⟩
     rw[e]at hg ⊢
     exact⟨_,hg,rfl,rfl⟩
   · have e:Zp z= "str_iterator":=by unfold Zp;rw[if_neg ha]
     refine⟨s1.heap.objs.size, [s1.heap.objs.size],_,_,H1,rfl,I2,dA3 z t _,?_,fpo,q⟩
     rw[e]at hg ⊢
     exact⟨_,hg,rfl,rfl⟩
 · cases r1
   rcases k with _|_
   ·
     obtain⟨its,rv,p,hz⟩:=I1.list hq
     exact Zb p.isList ⟨s1.heap.objs.size, [s1.heap.objs.size],_,_,H1,rfl,I1.kept λb o z=>zh _ z,cY5 a _,⟨_,zp _ rfl,rfl,rfl⟩,fpo,q⟩
   ·
     obtain⟨its,rv,p,hz⟩:=I1.tuple hq
     exact wpAny_pyIter_tuple (show s1.heap.IsTuple a its.toArray from p) ⟨s1.heap.objs.size, [s1.heap.objs.size],_,_,H1,rfl,I1.kept λb o z=>zh _ z,cL4 a _,⟨_,zp _ rfl,rfl,rfl⟩,fpo,q⟩
 · cases r1
   obtain⟨hz,hS,vs,rel,dd⟩:=cE3 I1.hok hq
   obtain⟨ep,dat⟩:=dd.dictAt
   obtain⟨o,es,h1,h2,h3,h4⟩:=id dat
   have hlen:kvs.length=vs.length:=yX rel
   have I2:=DL.Inv.freeze I1 hq h1
   have fpo2:∀b∈ [s1.heap.objs.size],aN9 X pins (upd H1 a (.frz o (.dK kvs))) b:=λb hb=>by
    have z:b=s1.heap.objs.size:=by simpa using hb
    subst z
    exact I2.fpOk (zo _) (I2.hok.fresh (zo _))
   refine wpAny_pyIter_dict hS dat ⟨s1.heap.objs.size, [s1.heap.objs.size],_,_,upd H1 a (.frz o (.dK kvs)),rfl,I2.kept λb o z=>zh _ z,bT1 h3 _,?_,fpo2,q o⟩
   rw[hlen]
   exact⟨_,zp _ rfl,rfl,rfl⟩
 · cases r1
   obtain⟨hget,hz,hS,vs,rel,dd⟩:=(show W2 X.prog X.w H1 s1.heap a (.frz o (.dK kvs))from I1.hok a _ hq)
   obtain⟨ep,dat⟩:=dd.dictAt
   obtain⟨o',es,h1,h2,h3,h4⟩:=id dat
   rw[hget]at h1
   cases h1
   have hlen:kvs.length=vs.length:=yX rel
   refine wpAny_pyIter_dict hS dat ⟨s1.heap.objs.size, [s1.heap.objs.size],_,_,H1,rfl,I1.kept λb o z=>zh _ z,bT1 h3 _,?_,fpo,q⟩
   rw[hlen]
   exact⟨_,zp _ rfl,rfl,rfl⟩
noncomputable def dQ0:Key->D
 | .inl i=>.int i
 | .inr x=>.str x
def cD2(l:List (Key×D)):List D:=l.map λkv=>dQ0 kv.1
def dE2:D->M Src:=λx=>match x with
 | .ref r=>do
   match <-R1 r with
   | .dct l=>do
     let _ <-bQ7 r (.rod l)
     pure ⟨cD2 l,λ_=>true⟩
   | .rod l=>pure ⟨cD2 l,λ_=>true⟩
   |_=>dW6 (.ref r)
 |d=>dW6 d
def itW(f:Fe):DSt->M Src:=λσ=>do dE2 (<-f σ)
theorem bY6{v:V}{R:It->Hp->Prop}(h1:u9 (wc X) X1 G1 H1)(rv:d8 (wc X) X1 H1 d v)(p1:d7 (wc X) Z X1 H1 (dW6 d G1) λs X9 _ H'=>∀J,ItD (wc X) X9 H' J s->R J H'):
 (∃z,v= .str z/\R (Its z) H1)\/(∃k a xs,v= .ref a/\Sq X.K k H1 a xs/\R (if k=true then Itt X.K a else Itl X.K a) H1):=by
 have main:∀dd:D,(∀z,dd≠ .str z)->d8 (wc X) X1 H1 dd v->d7 (wc X) Z X1 H1 (bP8 dd G1) (λs X9 _ H'=>∀J,ItD (wc X) X9 H' J s->R J H')->(∃z,v= .str z/\R (Its z) H1)\/(∃k a xs,v= .ref a/\Sq X.K k H1 a xs/\R (if k=true then Itt X.K a else Itl X.K a) H1):=by
  intro dd _ rv p1
  have p1':d7 (wc X) Z X1 H1 ((bP8 dd >>= λs=>(pure s:M Src)) G1) λs X9 _ H'=>∀J,ItD (wc X) X9 H' J s->R J H':=by
   have e:(bP8 dd >>= λs=>(pure s:M Src))=bP8 dd:=by
    funext G
    rw[M.bind_eq]
    rcases bP8 dd G with _|q
    ·rfl
    ·obtain⟨r,G'⟩:=q;cases r<;>rfl
   rw[e];exact p1
  obtain⟨sr,k,a,vs,rfl,q,rl,is,ck,_,p2⟩:=dB3 h1 rv p1'
  refine .inr ⟨k,a,vs,rfl,q,d7.ok p2 h1 _ λX9 G' H' x' h' ck' i=>?_⟩
  obtain⟨vs',q',rl'⟩:=is X9 G' H' x' h' ck'
  refine⟨λd hd=>?_,λhi=>?_⟩
  · obtain⟨y,hy,ry⟩:=rl'.get hd
    cases k with
    |true=>
      rw[if_pos rfl]
      exact⟨⟨vs',y,q',hy⟩,λx H2 ⟨e1,e2⟩=>by subst e1;exact⟨Ext.refl _ _,h',cR5 rl' hd (e2 vs' q')⟩⟩
    |false=>
      rw[if_neg jm]
      exact⟨⟨vs',y,q',hy⟩,λx H2 ⟨e1,e2⟩=>by subst e1;exact⟨Ext.refl _ _,h',cR5 rl' hd (e2 vs' q')⟩⟩
  · cases k with
    |true=>rw[if_pos rfl];exact⟨vs',q',by rw[<-rl'.length];exact hi⟩
    |false=>rw[if_neg jm];exact⟨vs',q',by rw[<-rl'.length];exact hi⟩
 cases d with
 |str z=>
   refine .inl ⟨z,aQ2 rv,d7.ok p1 h1 _ λX9 G' H' x' h' ck' i=>⟨λd hd=>?_,λhi=>?_⟩⟩
   · simp only[bD3,zG]at hd
     cases hc:z.cps.toList[i]? with
     |none=>rw[hc]at hd;cases hd
     |some c=>
       rw[hc]at hd
       cases hd
       have hc':z.cps[i]? =some c:=by rw[<-jq];exact hc
       exact⟨⟨c,hc'⟩,λx H2 ⟨e1,c2,e2,e3⟩=>by
        subst e1
        rw[hc']at e2
        cases e2
        exact⟨Ext.refl _ _,h',by rw[e3];unfold d8;rfl⟩⟩
   · simp only[bD3,ze]at hi
     show z.cps[i]? =none
     rw[<-jq]
     exact zN hi
 |tup l=>exact main (.tup l) (λz q=>nomatch q) rv p1
 |ref r=>exact main (.ref r) (λz q=>nomatch q) rv p1
 |_=>exact p1.elim
theorem cG6{H:Hp}:∀ {l} {kvs} {i:Nat} {kd},aA8 c μ H l kvs->l[i]? =some kd->∃v,kvs[i]? =some (kd.1,v)
 |[],_,_,_,_,e=>by simp at e
 |(k,d)::r,_,0,_,h,e=>by
  obtain⟨v,t,rfl,_,_⟩:=h
  simp only[zy,zE]at e
  subst e
  exact⟨v,rfl⟩
 |(k,d)::r,_,i+1,_,h,e=>by
  obtain⟨v,t,rfl,_,ht⟩:=h
  simp only[zO]at e ⊢
  exact cG6 ht e
theorem eA1(k:Key):d8 c μ H (dQ0 k) (kV k):=by
 cases k<;>(unfold dQ0 d8;rfl)
theorem dR5{c:Wc}{H:Hp}(e:H a=some (.frz o (.dK kvs)))(rk:aA8 c μ H l kvs):ItD c μ H (Itd a o kvs) ⟨cD2 l,λ_=>true⟩:=by
 intro X9 G' H' x h' _ i
 have e':=x.frz _ _ _ e
 refine⟨λd hd=>?_,λhi=>⟨e',by rw[<-rk.length];simpa [cD2]using hi⟩⟩
 simp only[cD2,zG]at hd
 cases hl:l[i]? with
 |none=>rw[hl]at hd;cases hd
 |some kd=>
   rw[hl]at hd
   cases hd
   obtain⟨v,hv⟩:=cG6 rk hl
   exact⟨⟨e',_,hv⟩,λy H2 ⟨e1,kv,e2,e3⟩=>by
    subst e1
    rw[hv]at e2
    cases e2
    exact⟨Ext.refl _ _,h',by rw[e3];exact eA1 _⟩⟩
theorem fN9(he:DE X Z e f):DI X Z tg e (itW f):=
 DI.of (fN2 he.h) λσ H R hE0=>hE0.elim λZ7 μ G s h p=>⟨Z7,μ,G,s,h,(d7.bind p).mono λd X1 G1 H1 x1 h1 p1 v rv=>by
  cases d with
  |ref r=>
    have rv':=rv
    unfold d8 at rv'
    obtain⟨a,m,rfl⟩:=rv'
    obtain⟨o,g,p2⟩:=O1 p1
    have ro:=h1.obj r o a g m
    rcases o with l|l|l|l
    ·exact .inl (bY6 h1 rv p2)
    ·exact .inl (bY6 h1 rv p2)
    ·
      obtain⟨kvs,q,rk⟩:=ro
      refine .inr (.inl ⟨a,kvs,rfl,q,λo=>?_⟩)
      have x:Ext X1 H1 X1 (upd H1 a (.frz o (.dK kvs))):=Ext.mut (jW m) q (λ_ z=>nomatch z) (λ_ _ z=>nomatch z) _
      have hk':=rk.mono x
      have h2:u9 (wc X) X1 (G1.set r (.rod l)) (upd H1 a (.frz o (.dK kvs))):=h1.setR g (λz=>z) m x ⟨kvs,o,U5,hk'⟩
      have p3:=d7.from p2 x
      exact d7.ok p3 h2 _ (dR5 U5 hk')
    ·
      obtain⟨kvs,o,q,rk⟩:=ro
      exact .inr (.inr ⟨a,o,kvs,rfl,q,d7.ok p2 h1 _ (dR5 q rk)⟩)
  |_=>exact .inl (bY6 h1 rv p1)⟩
end
end DL
namespace W
open PySem PySem.Spec L2 DL
open PyProof.Rows hiding St
section
theorem wp_itW:Wp (itW f σ) G R↔Wp (f σ) G λx G1=>Wp (dE2 x) G1 R:=by
 unfold itW;simp only[j6]
theorem dT2:Wp (dE2 (.str z)) G R↔R ⟨bD3 z,λ_=>true⟩ G:=wp_pure
theorem srcW_tup:Wp (dE2 (.tup l)) G R↔R ⟨l,λ_=>true⟩ G:=wp_pure
theorem aP8(e:G[p]? =some (.lst l)):Wp (dE2 (.ref p)) G R↔R ⟨l,ckO p (.lst l)⟩ G:=by
 unfold dE2
 simp only[j6,S8,e,T8]
 exact dR6 e
end
end W
namespace DL
open PySem PySem.Spec L2
open PyProof.Rows hiding St
section
theorem cM4{a:Addr}{o:Obj}{n:Nat}(hT:T= "list"\/T= "tuple")(ho:s.heap.get? a=some o)(hc:o.cls= .type T)(hd:o.data= .seq vs.toArray n)(h64:vs.length<64)(hS:StrsAre vs ss)
 (h:∀(h1 h':Heap) (tk e:Nat) out ss',(∀b o,s.heap.get? b=some o->h1.get? b=some o)->(∀b o,h1.get? b=some o->h'.get? b=some o)->h'.get? h1.objs.size=some (jy "list" out.toArray e)->StrsAre out ss'->ss'.Perm ss->sortedS ss'=true->Q (.ref h1.objs.size) {s with heap:=h',toks:=tk}):
 zt (zz prog w) A (call (.builtin "sorted") [.ref a]) Q E s:=by
 have hz:vs.length<=zl:=zC (yt h64) (by decide)
 refine Zu Jm XG XI (args_sorted1 _) ?_
 unfold yi.«sorted»
 refine za (zc ?_)
 refine za (wpAny_collect_seq a hT ho hc hd (λh1 hk=>?_) (by rw[zj];exact hz))
 refine za (xN ?_ hz)
 have hoL:(h1.push (jy "list" vs.toArray 0)).get? h1.objs.size=some (jy "list" vs.toArray 0):=zp _ rfl
 refine za (jl (jL YR ⟨_,hoL,rfl⟩ YC (Jr strKind_oneLt hoL hS.keysOf (λv₁ v₂ Q9 e=>XH (by rw[<-e];exact hS)) h64 λst' a1 a2=>⟨_,rfl,?_⟩) (JL _)))
 obtain⟨ss',b1,b2,b3⟩:=JH hS a1 a2
 obtain⟨e,he⟩:=sortedHeap_at hoL
 refine zc ⟨_,rfl,h h1 _ s.toks e ((YD st').map (·.2)).toList ss' hk (λb o hb=>?_) (by rw[Ze];exact he) b1 b2 b3⟩
 have hlt:b<h1.objs.size:=zn hb
 rw[JI (zw hlt) (by rw[ZD];exact jG hlt),xk _ _ _ (zw hlt)]
 exact hb
end
def cG8(l:List D):M D:=do
 let ss <-aI5 (aG5 l)
 if ss.length<64 then Q5 (.lst ((aC9 ss).map .str))else M.stuck
def aV9:List D->M D:=λds=>match ds with
 |[.tup l]=>cG8 l
 |[.ref r]=>do
   match <-R1 r with
   | .lst l=>cG8 l
   | .dct l=>do
     let ss <-aI5 (v8 l)
     if ss.length<64 then Q5 (.lst ((aC9 ss).map .str))else M.stuck
   |_=>M.stuck
 |_=>M.stuck
section
theorem aZ9:∀ {l} {ss} {vs} {us},aG5 l=some ss->t7 c μ H l vs->v6 vs us->StrsAre us ss
 |[],_,_,_,e,r,v=>by cases e;cases r;cases v;exact .nil
 | .str x::t,ss,_,_,e,r,v=>by
   replace e:=show (aG5 t).map (_ :: ·)=some _ from e
   rcases h:aG5 t with _|q
   ·rw[h]at e;exact J6 e
   ·
     rw[h]at e
     cases e
     obtain⟨v0,tl,rfl,r0,rt⟩:=r
     cases v with
     |cons ru rt2=>
       rw[aQ2 r0]at ru
       obtain⟨tk,rfl⟩:=ru
       exact .cons _ _ (aZ9 h rt rt2)
 | .non::_,_,_,_,e,_,_=>by exact J6 e
 | .bl _::_,_,_,_,e,_,_=>by exact J6 e
 | .int _::_,_,_,_,e,_,_=>by exact J6 e
 | .tup _::_,_,_,_,e,_,_=>by exact J6 e
 | .ref _::_,_,_,_,e,_,_=>by exact J6 e
 | .fn _::_,_,_,_,e,_,_=>by exact J6 e
 | .ty _::_,_,_,_,e,_,_=>by exact J6 e
theorem cG0:∀ {l} {ss},aG5 l=some ss->ss.length=l.length
 |[],_,e=>by cases e;rfl
 | .str x::t,ss,e=>by
   replace e:=show (aG5 t).map (_ :: ·)=some _ from e
   rcases h:aG5 t with _|q
   ·rw[h]at e;exact J6 e
   ·rw[h]at e;cases e;simp[cG0 h]
 | .non::_,_,e=>by exact J6 e
 | .bl _::_,_,e=>by exact J6 e
 | .int _::_,_,e=>by exact J6 e
 | .tup _::_,_,e=>by exact J6 e
 | .ref _::_,_,e=>by exact J6 e
 | .fn _::_,_,e=>by exact J6 e
 | .ty _::_,_,e=>by exact J6 e
theorem cH6(I:Inv X pins σ H s)(hr:u9 (wc X) μ G H)(rl:t7 (wc X) μ H l vs)(rv:v6 vs us)(hT:T= "list"\/T= "tuple")(ho:s.heap.get? a=some o)(hc:o.cls= .type T)(hd:o.data= .seq us.toArray n)
 (p:d7 (wc X) Z μ H (cG8 l G) λd X9 _ H'=>∀v,d8 (wc X) X9 H' d v->Q v H'):zt (zz X.prog X.w) X.A (call (.builtin "sorted") [.ref a]) (EP X pins σ Q) X.xe s:=by
 obtain⟨ss,es,p2⟩:=T9 p
 split at p2
 case isFalse=>exact p2.elim
 rename_i h64
 have hS:=aZ9 es rl rv
 have hlen0:us.length=ss.length:=by rw[cG0 es,rl.length,rv.length]
 refine cM4 hT ho hc hd (by lia) hS λh1 h' tk e out ss' k1 k2 he hS' hp hs=>?_
 have e2:=bN1 hp hs
 subst e2
 obtain⟨ws,ew,rv',rl2⟩:=aU7 (μ:=μ) hS'
 have I1:Inv X pins σ H {s with heap:=h1,toks:=tk}:=I.kept k1
 have hf:=I1.hok.fresh (zo _)
 have hlen:ws.length<=zl:=by
  rw[ew,ze]
  have e3:(aC9 ss).length=ss.length:=(js ss leS).length_eq
  have:(64:Nat)<=zl:=by decide
  lia
 exact⟨.ref h1.objs.size,upd H h1.objs.size (.lst ws),I1.laid k2 (zo _) ⟨hlen,out,e,rv',he⟩,rfl,Z1 hr rl2 p2 _ hf⟩
theorem cO6(hc:X.calm=true):aA4 X Z (.builtin "sorted") aV9:=⟨by
 intro pins s σ H xs us Q I r hE0
 obtain⟨ds,μ,G,rl,hr,p⟩:=hE0
 rcases ds with _|⟨_|_|_|_|l|i|_|_,_|⟨_,_⟩⟩<;>try exact p.elim
 all_goals (delta aV9 at p;dsimp only at p)
 · obtain⟨v,rfl,rv⟩:=aQ1 rl
   obtain⟨u,rfl,ru⟩:=aG1 r
   unfold d8 at rv
   obtain⟨a,vs,rfl,q,rl'⟩:=rv
   cases ru
   obtain⟨its,rv,⟨o,h1,h2,n,h3⟩,hz⟩:=I.tuple q
   exact cH6 I hr rl' rv (.inr rfl) h1 h2 h3 p
 · obtain⟨v,rfl,rv⟩:=aQ1 rl
   obtain⟨u,rfl,ru⟩:=aG1 r
   have rv':=rv
   unfold d8 at rv'
   obtain⟨a,m,rfl⟩:=rv'
   cases ru
   obtain⟨o,g,p1⟩:=O1 p
   have ro:=hr.obj i o a g m
   rcases o with l|l|l|l
   ·
     obtain⟨vs,q,rl'⟩:=ro
     obtain⟨its,rv,pl,hz⟩:=I.list (SqL.of q)
     obtain⟨o,h1,h2,n,h3⟩:=pl.isList
     exact cH6 I hr rl' rv (.inl rfl) h1 h2 h3 p1
   ·exact p1.elim
   ·
     refine(cY4 (Z:=Z) hc).h pins s σ H [.ref a] [.ref a] Q I r ⟨[.ref i],μ,G,rl,hr,?_⟩
     have eo:R1 i G=some (.ok (.dct l),G):=by unfold R1;simp only[g]
     have e:bX6 [.ref i] G= ((do
      let ss <-aI5 (v8 l)
      if ss.length<64 then Q5 (.lst ((aC9 ss).map .str))else M.stuck:M D)) G:=by
      show ((R1 i >>= λo=>match o with
       | .dct l => (do
         let ss <-aI5 (v8 l)
         if ss.length<64 then Q5 (.lst ((aC9 ss).map .str))else M.stuck:M D)
       |_=>M.stuck):M D) G=_
      rw[M.bind_ok eo]
     rw[e]
     exact p1
   ·exact p1.elim⟩
theorem cR1(h:X.calm=true):BD aV9 "sorted" X Z:=⟨.inl ⟨_,cO6 h,bF8⟩⟩
end
end DL
namespace W
open PySem PySem.Spec L2 DL
open PyProof.Rows hiding St
section
theorem dJ9(hs:aG5 l=some ss)(h64:ss.length<64):Wp (cG8 l) G Q↔Q (.ref G.length) (G++[.lst ((aC9 ss).map .str)]):=by
 unfold cG8
 simp only[j6,aF7,hs,T8,if_pos h64,S6]
theorem dA2(e:G[r]? =some (.lst l))(hs:aG5 l=some ss)(h64:ss.length<64):Wp (aV9 [.ref r]) G Q↔Q (.ref G.length) (G++[.lst ((aC9 ss).map .str)]):=by
 unfold aV9
 simp only[j6,S8,e,T8]
 exact dJ9 hs h64
end
end W
namespace DL
open PySem
theorem bZ8:Xq (.type "list") "keys" =pure none:=by rw[Zs,xq];kernel_rfl
section
theorem bK4{h:Heap}{t:Nat}{os:OsState}{a:Addr}{o:Obj}{k:Nat}
 (hx:h.get? a=some o) (hc:o.cls= .type "list") (hdat:o.data= .seq xs k) (hd:o.dict=none) (hA:A.handled=none)
 (hq:∀h' tk,(∀b ob,h.get? b=some ob->h'.get? b=some ob)->Q none ⟨h',g,d,tk,os⟩):
 zt (zz prog w) A (getAttr? (.ref a) "keys") Q E ⟨h,g,d,t,os⟩:=by
 obtain⟨c,dct,dat,sl⟩:=o
 simp only at hc hdat hd
 subst hc hdat hd
 have hT:∀tk',(⟨h,g,d,tk',os⟩:zm).TypeIs (.ref a) "list":=λ_=>⟨_,hx,rfl⟩
 have f1:=sub_AttributeError
 have f3:=ZK.lookup
 have f4:=ZK.bind (.ref a)
 have f5:=am_list_getattr_none
 unfold getAttr? getAttrBy? getAttrBy
 repeat (any_goals (first|assumption|exact hT _|((with_reducible show zt _ _ (call (Value.builtin "list.__getattribute__") _ _) _ _ _);refine call_meets ZK (hT _) am_entry_list_getattribute (F.args_list_getattribute_2 _ _) (meets_getattribute_miss_list a xs k sl "keys" _ bZ8 (by decide +kernel) (by decide +kernel)) ⟨hx,hA,λh' tk' e hx'=>?_⟩)|wp_step))
 obtain⟨t',u',he⟩:=hx'.there
 have hTe:∀tk'',(⟨h',g,d,tk'',os⟩:zm).TypeIs (.ref e) "AttributeError":=λ_=>⟨_,he,rfl⟩
 show zt _ _ (getattributeRaised _ _ _ _ _ _ _) _ _ _
 unfold getattributeRaised
 repeat (any_goals (first|assumption|exact hTe _|wp_step))
 exact hq _ _ hx'.keeps
end
end DL
namespace DL
open PySem
open PyProof.Rows (IsTup)
theorem aS9:JE table "dict.update.loop" =some yi.«dict.update.loop»:=entryFor_of_tree (by kernel_rfl)
theorem aD4:plainId "dict.update.loop" =true:=by decide +kernel
section
variable{prog:zT}{w:jg}{A:ji}{R:Result->zm->Prop}{I:Addr}{fp wr:List Addr}{n:Nat}{P:Nat->zg->Prop}{St:Nat->Heap->Prop}{K:Type}[DecidableEq K]{knd:KeyKind prog w K}
theorem cO0(h:YE s.heap ta #[x,y])(q:Q [x,y] s):zt (zz prog w) A (Xl (.ref ta)) Q E s:=by
 obtain⟨o,ho,hc,m,hd⟩:=h
 have hT:s.TypeIs (.ref ta) "tuple":=⟨_,ho,hc⟩
 unfold Xl
 refine za (xG hT ?_)
 rw[if_pos (by decide)]
 exact za (Za ho hd (zc q))
theorem bC7(W:Walks prog w A.in1 I fp wr n P St)(S:Addr)(hSf:S∉fp)(h0:Heap)(ps:List (K×zg))(hn:ps.length=n)
 (hval:∀i v,P i v->∃ta key kv,v= .ref ta/\ps[i]? =some kv/\YE h0 ta #[key,kv.2]/\knd.is kv.1 key=true/\ta≠S/\ta∉wr) (hsz:n<=zl):
 ∀k i s m tk,n-i=k->i<=n->St i s.heap->s.heap.DictOf knd S (JC [] (ps.take i))->(∀b o,b≠S->b∉wr->h0.get? b=some o->s.heap.get? b=some o)->
  (∀h' tk',h'.DictOf knd S (JC [] ps)->(∀b o,b≠S->b∉wr->h0.get? b=some o->h'.get? b=some o)->R (.ok (.ret .none)) {s with heap:=h',toks:=tk'})->
  xQ (zz prog w) A (.builtin "dict.update.loop" ⟨[.ref S,.ref I,.int m tk,.none], []⟩) R s:=by
 have hSw:S∉wr:=λh=>hSf (W.sub _ h)
 intro k
 induction k with
 |zero=>
   intro i s m tk hk hi hst hS hh hR
   have hin:i=n:=by lia
   subst hin
   refine jO aS9 ?_
   rw[jz aD4 _]
   show zt _ A.in1 (Zi (.ref I) >>= _) _ _ s
   refine za (W.done s _ _ hst λh' tk' hm=>?_)
   show zt _ A.in1 (Builtin.Dict.addKeywords S [] >>= _) _ _ _
   refine za (zc ?_)
   refine zc (hR h' tk' ?_ λb o hb hb' e=>hm b o hb' (hh b o hb hb' e))
   rw[Jz (by lia)]at hS
   obtain⟨o,es,ep,ho,Q9⟩:=hS
   exact⟨o,es,ep,hm S _ hSw ho,Q9⟩
 |succ k ih=>
   intro i s m tk hk hi hst hS hh hR
   have hlt:i<n:=by lia
   refine jO aS9 ?_
   rw[jz aD4 _]
   show zt _ A.in1 (Zi (.ref I) >>= _) _ _ s
   refine za (W.item i s _ _ hlt hst λv h' tk' hP hst' hm=>?_)
   obtain⟨ta,key,kv,rfl,hkv,⟨ot,hot,hct,mt,hdt⟩,hkey,hne,hnw⟩:=hval i v hP
   have hS':h'.DictOf knd S (JC [] (ps.take i)):=by
    obtain⟨o,es,ep,ho,Q9⟩:=hS
    exact⟨o,es,ep,hm S _ hSw ho,Q9⟩
   have ht':YE h' ta #[key,kv.2]:=⟨ot,hm ta _ hnw (hh ta _ hne hnw hot),hct,mt,hdt⟩
   refine za (jl ?_)
   refine za (xC (cO0 ht' ?_))
   refine jl ?_
   have hlen:(JC [] (ps.take i)).length<=zl:=by
    have:=merged_length_le [] (ps.take i)
    rw[xX,yn]at this
    lia
   refine wpAny_dictSet_pairs hkey hS' λh'' hd'' hsb=>?_
   refine zc ⟨jC aD4 _,ih (i+1) _ _ _ (by lia) hlt (W.frame _ _ _ hst' λb hb o e=>?_) ?_ (λb o hb hb' e=>?_) λh3 tk3 hd3 hk3=>hR h3 tk3 hd3 hk3⟩
   ·rw[hsb.2 b (λh:b=S=>hSf (by rw[<-h];exact hb))];exact e
   ·rw[merged_take_succ [] ps i kv hkv];exact hd''
   ·rw[hsb.2 b hb];exact hm b o hb' (hh b o hb hb' e)
end
section
variable{prog:zT}{w:jg}{A:ji}{E:VSP}{s:zm}{K:Type}[DecidableEq K]{knd:KeyKind prog w K}
theorem bM2{m:Nat}(hx:s.heap.get? src=some o)(hc:o.cls= .type "list")(hd:o.data= .seq items m)(hdict:o.dict=none)(hA:A.handled=none)
 (hn:ps.length=items.size) (hsz:items.size<=zl) (hval:∀(i:Nat) (v:zg),items[i]? =some v->∃(ta:Addr) (key:zg) (kv:K×zg),v= .ref ta/\ps[i]? =some kv/\YE s.heap ta #[key,kv.2]/\knd.is kv.1 key=true)
 (h:∀h' tk,h'.DictOf knd s.heap.objs.size (JC [] ps)->(∀b o,s.heap.get? b=some o->h'.get? b=some o)->Q (.ref s.heap.objs.size) {s with heap:=h',toks:=tk}):
 zt (zz prog w) A (call (.type "dict") [.ref src]) Q E s:=by
 refine callType_codes (Q₁:=λobj X0=>obj= .ref s.heap.objs.size/\X0= {s with heap:=s.heap.push {cls:=.type "dict",data:=.dict #[]}}) F.kt_called_dict (F.kt_typeCall_dict_1 _) F.entry_dict_init (kt_code_dict_new _ ⟨rfl,rfl⟩) ?_
 rintro obj X0 ⟨rfl,rfl⟩
 have hnew:(s.heap.push {cls:=.type "dict",data:=.dict #[]}).DictOf knd s.heap.objs.size []:=Heap.DictOf.new s.heap
 have hlt:src<s.heap.objs.size:=zn hx
 have hx1:(s.heap.push {cls:=.type "dict",data:=.dict #[]}).get? src=some o:=zh _ hx
 have hT1:Shared.TypeIs {s with heap:=s.heap.push {cls:=.type "dict",data:=.dict #[]}} (.ref src) "list":=⟨_,hx1,hc⟩
 refine⟨hnew.typeIs,F.args_dict_init_2 _ _,?_⟩
 unfold yi.«dict.__init__»
 refine za ?_
 unfold Builtin.Dict.selfAndRest
 refine za (wpAny_notOrdered_dict hnew.typeIs ?_)
 show zt _ _ (pure (s.heap.objs.size, [Value.ref src])) _ _ _
 refine zc ?_
 show zt _ _ (Xf "dict.__init__" s.heap.objs.size (.ref src) [] .none) _ _ _
 unfold Xf
 refine za (xG hT1 ?_)
 rw[if_pos (by decide)]
 have hA2:A.in1.in1.handled=none:=by simp[hA]
 refine za (bK4 hx1 hc hd hdict hA2 λh2 tk2 k2=>?_)
 simp only[Option.isNone_none,if_true]
 refine za (xh ?_)
 have hx2:h2.get? src=some o:=k2 _ _ hx1
 have hl2:h2.IsList src items:=⟨o,hx2,hc,m,hd⟩
 have hS2:h2.DictOf knd s.heap.objs.size []:=by
  obtain⟨o,es,ep,ho,Q9⟩:=hnew
  exact⟨o,es,ep,k2 _ _ ho,Q9⟩
 have hlt2:s.heap.objs.size<h2.objs.size:=by
  obtain⟨o,es,ep,ho,Q9⟩:=hS2
  exact zn ho
 refine za (Zb hl2 ?_)
 have hA1:A.in1.in1.handled=none:=hA2
 refine zc ⟨jC aD4 _,?_⟩
 have hkeep:∀b ob,s.heap.get? b=some ob->h2.get? b=some ob:=λb ob e=>k2 _ _ (zh _ e)
 refine bC7 (knd:=knd) (XE hA1 h2.objs.size src (zw (xU hlt hlt2)) items) s.heap.objs.size ?_ s.heap ps hn ?_ hsz items.size 0 _ _ _ (by lia) (jh _) ?_ ?_ ?_ ?_
 · simp only[zu,ju,or_false,not_or]
   exact⟨zw hlt2,yd hlt⟩
 · intro i v hv
   obtain⟨ta,key,kv,e1,e2,e3,e4⟩:=hval i v hv
   have hta:ta<s.heap.objs.size:=by obtain⟨_,e,_⟩:=e3;exact zn e
   exact⟨ta,key,kv,e1,e2,e3,e4,zw hta,by simp only[zu,ju,or_false];exact zw (xU hta hlt2)⟩
 ·exact⟨⟨_,zp _ rfl,rfl,rfl⟩,hl2.push _⟩
 · show Heap.DictOf knd (h2.push _) _ _
   exact hS2.push _
 · intro b ob hb hb' e
   exact zh _ (hkeep b ob e)
 · intro h' tk' hd' hk'
   refine⟨rfl,h h' tk' hd' λb ob e=>hk' b ob ?_ ?_ e⟩
   ·exact zw (zn e)
   · simp only[zu,ju,or_false]
     exact zw (xU (zn e) hlt2)
end
end DL
namespace DL
open PySem PySem.Spec L2
open PyProof.Rows hiding St
def bV4:D->Option (Key×D)
 | .tup [k,v]=>match bP6 k with
   |some q=>some (q,v)
   |none=>none
 |_=>none
def aP2:List D->Option (List (Key×D))
 |[]=>some []
 |d::r=>match bV4 d,aP2 r with
   |some p,some ps=>some (p::ps)
   |_,_=>none
def putAll(acc:List (Key×D))(l:List (Key×D)):List (Key×D):=l.foldl (λacc kv=>aX6 acc kv.1 kv.2) acc
def bG9:List D->M D:=λds=>match ds with
 |[.ref r]=>do
   let l <-R1 r >>= listOf
   let ps <-aI5 (aP2 l)
   Q5 (.dct (putAll [] ps))
 |_=>M.stuck
section
variable{X:Cx}{Z:XC}{μ:List Addr}{H:Hp}{G:DH}
theorem dP6(h:bV4 d=some p):∃k,d= .tup [k,p.2]/\bP6 k=some p.1:=by
 rcases d with _|_|_|_|l|_|_|_<;>try (cases h;done)
 rcases l with _|⟨k,_|⟨v,_|⟨_,_⟩⟩⟩<;>try (cases h;done)
 delta bV4 at h
 dsimp only at h
 rcases e:bP6 k with _|q
 ·rw[e]at h;cases h
 ·rw[e]at h;cases h;exact⟨k,rfl,e⟩
theorem bT2{σ:St}(I:Inv X pins σ H s):∀ {l:List D} {ps} {vs:List V} {its},aP2 l=some ps->t7 (wc X) μ H l vs->v6 vs its->
 ∃(kvs:List (Key×V)) (ws:List (Key×zg)),aA8 (wc X) μ H ps kvs/\KV kvs ws/\ws.length=its.length/\∀(i:Nat) v,its[i]? =some v->∃(ta:Addr) (key:zg) (kv:Key×zg),v= .ref ta/\ws[i]? =some kv/\YE s.heap ta #[key,kv.2]/\(O4 X.prog X.w).is kv.1 key=true
 |[],ps,vs,its,e,rl,rv=>by
   cases e;cases rl;cases rv
   exact⟨[], [],rfl,.nil,rfl,λi v h=>by simp at h⟩
 |d::r,ps,vs,its,e,rl,rv=>by
   replace e:(match bV4 d,aP2 r with|some p,some ps=>some (p::ps)|_,_=>none)=some ps:=e
   rcases e1:bV4 d with _|p
   ·rw[e1]at e;cases e
   ·
     rcases e2:aP2 r with _|qs
     ·rw[e1,e2]at e;cases e
     ·
       rw[e1,e2]at e
       cases e
       obtain⟨v,t,rfl,r0,rt⟩:=rl
       cases rv with
       |cons q0 qt=>
         obtain⟨kvs,ws,h1,h2,h3,h4⟩:=bT2 I e2 rt qt
         obtain⟨k,rfl,hk⟩:=dP6 e1
         unfold d8 at r0
         obtain⟨a,us,rfl,hq,ru⟩:=r0
         obtain⟨x,y,rfl,rx,ry⟩:=eF0 ru
         obtain⟨its2,rr,ht,_⟩:=I.tuple hq
         obtain⟨p1,p2⟩:=p
         cases rr with
         |cons rr0 rr1=>
           cases rr1 with
           |cons rr2 rr3=>
             cases rr3
             rename_i w0 w1
             have ex:=bX8 hk rx
             subst ex
             cases (show _=Value.ref a from q0)
             refine⟨(p1,y)::kvs,(p1,w1)::ws,⟨y,kvs,rfl,ry,h1⟩,.cons ⟨rfl,rr2⟩ h2,by simp[h3],λi v hv=>?_⟩
             cases i with
             |zero=>
               simp only[zy,zE]at hv
               subst hv
               exact⟨a,w0,(p1,w1),rfl,rfl,ht,bT9 rr0⟩
             |succ i=>exact h4 i v (by simpa using hv)
theorem cK6:∀ {ps} {kvs} {acc} {acc'},aA8 c μ H ps kvs->aA8 c μ H acc acc'->aA8 c μ H (putAll acc ps) (kvs.foldl (λacc kv=>aT2 acc kv.1 kv.2) acc')
 |[],_,_,_,r,q=>by cases r;exact q
 |(k,d)::t,_,_,_,r,q=>by
  obtain⟨v,kt,rfl,rv,rt⟩:=r
  have z:=cK6 rt (cJ0 (k:=k) rv q)
  exact z
theorem dS3:∀ {kvs} {ws} {acc:List (Key×V)} {acc'},KV kvs ws->KV acc acc'->KV (kvs.foldl (λacc kv=>aT2 acc kv.1 kv.2) acc) (JC acc' ws)
 |_,_,_,_,.nil,q=>q
 |_,_,_,_,.cons (a:=p) (b:=r) ⟨e,rv⟩ t,q=>by
   obtain⟨k,v⟩:=p
   obtain⟨k',u⟩:=r
   cases (show k=k' from e)
   have z:=dS3 t (q.put k rv)
   exact z
theorem dL3{σ:St}{Q:VK}{ps:List (Key×D)}{h':Heap}{tk:Nat}(I:Inv X pins σ H s)(hr:u9 (wc X) μ G H)(h1:aA8 (wc X) μ H ps kvs)(h2:KV kvs ws)(hz:ws.length<=zl)
 (p:d7 (wc X) Z μ H (Q5 (.dct (putAll [] ps)) G) λd X9 _ H'=>∀v,d8 (wc X) X9 H' d v->Q v H')
 (hd:h'.DictOf (O4 X.prog X.w) s.heap.objs.size (JC [] ws)) (hk:∀b o,s.heap.get? b=some o->h'.get? b=some o):EP X pins σ Q (.ref s.heap.objs.size) {s with heap:=h',toks:=tk}:=by
 have k3:=dS3 h2 (.nil:KV [] [])
 have hl:(kvs.foldl (λacc kv=>aT2 acc kv.1 kv.2) []).length<=zl:=by
  rw[k3.length]
  have:=merged_length_le [] ws
  rw[yn]at this
  lia
 have hq:H s.heap.objs.size=none:=I.hok.fresh (zo _)
 refine⟨.ref s.heap.objs.size,_,I.laid hk (zo _) (dJ4 hl (beq_eq_false_iff_ne.mpr (Ne.symm (zw I.big))) k3 hd),rfl,?_⟩
 have k:Ext μ H (μ++[s.heap.objs.size]) (upd H s.heap.objs.size (.dK (kvs.foldl (λacc kv=>aT2 acc kv.1 kv.2) []))):=Ext.add hq _
 have e0:aA8 (wc X) μ H (putAll [] ps) (kvs.foldl (λacc kv=>aT2 acc kv.1 kv.2) []):=cK6 h1 rfl
 refine p (μ++[s.heap.objs.size]) _ k (hr.new hq ⟨_,U5,e0.mono k⟩) _ ?_
 unfold d8
 exact⟨s.heap.objs.size,by rw[<-hr.len];simp,rfl⟩
theorem eD7(hc:X.calm=true):aA4 X Z (.type "dict") bG9:=⟨by
 intro pins s σ H xs us Q I r hE0
 obtain⟨ds,μ,G,rl,hr,p⟩:=hE0
 have hh:X.A.handled=none:=I.ok.hd hc
 rcases ds with _|⟨_|_|_|_|l|i|_|_,_|⟨_,_⟩⟩<;>try exact p.elim
 all_goals (delta bG9 at p;dsimp only at p)
 · obtain⟨v,rfl,rv⟩:=aQ1 rl
   obtain⟨u,rfl,ru⟩:=aG1 r
   obtain⟨l,a,vs,rfl,rl',q,p1⟩:=aE4 hr rv p
   cases ru
   obtain⟨ps,eps,p2⟩:=T9 p1
   obtain⟨its,rr,⟨o,n,g1,g2,g3,g4⟩,hz⟩:=I.list q
   obtain⟨kvs,ws,h1,h2,h3,h4⟩:=bT2 I eps rl' rr
   have hlen:=rr.length
   exact bM2 g1 g2 g4 g3 hh (by simpa using h3) (by simp only[zj];lia) (λi v hv=>h4 i v (by simpa using hv)) λh' tk hd hk=>dL3 I hr h1 h2 (by lia) p2 hd hk⟩
theorem dZ2(h:X.calm=true):BD bG9 "dict" X Z:=⟨.inr ⟨_,eD7 h,dW1⟩⟩
end
section
end
end DL
namespace W
open PySem PySem.Spec L2 DL
open PyProof.Rows hiding St
end W
namespace DL
open PySem PySem.Spec L2
open PyProof.Rows hiding St
section
end
end DL
namespace W
open PySem PySem.Spec L2 DL
open PyProof.Rows hiding St
end W
namespace DL
open PySem PySem.W
open PyProof.Rows hiding St
noncomputable def tOk{α:Type}(lt:Nat->Nat->Bool)(n:Nat):KasT α->(α->Prop)->Prop
 | .ret a,Q=>Q a
 | .ask i j k,Q=>i<n/\j<n/\tOk lt n (k (lt i j)) Q
section
theorem tOk.bind:∀t,tOk lt n t (λa=>tOk lt n (f a) Q)->tOk lt n (t.bind f) Q
 | .ret _,h=>h
 | .ask i j k,h=>⟨h.1,h.2.1,tOk.bind (k (lt i j)) h.2.2⟩
theorem tOk.mono(hq:∀a,Q a->Q' a):∀t,tOk lt n t Q->tOk lt n t Q'
 | .ret a,h=>hq a h
 | .ask i j k,h=>⟨h.1,h.2.1,tOk.mono hq (k (lt i j)) h.2.2⟩
theorem tOk.wp(hc:∀i j C,i<n->j<n->C (lt i j) s->cmp i j C s):∀t,tOk lt n t Q->t.kasWp cmp (λa s'=>s'=s/\Q a) s
 | .ret a,h=>⟨rfl,h⟩
 | .ask i j k,h=>hc i j _ h.1 h.2.1 (tOk.wp hc (k (lt i j)) h.2.2)
end
structure bR4(lt:Nat->Nat->Bool)(n:Nat):Prop where
 tr:∀i j k,lt i j=true->lt j k=true->lt i k=true
 tot:∀i j,i<n->j<n->i≠j->lt i j=false->lt j i=true
structure aF0(p:Array Nat)(n:Nat):Prop where
 pm:p.toList.Perm (zX n)
section
theorem aF0.size(h:aF0 p n):p.size=n:=by have:=h.pm.length_eq;simpa using this
theorem aF0.bd(h:aF0 p n)(hk:k<n):p.getD k 0<n:=by
 have hs:=h.size
 have e:p.getD k 0=p[k]'(by lia):=by simp[YK,hs,hk]
 rw[e]
 have:p[k]'(by lia)∈p.toList:=by simp
 have:=h.pm.mem_iff.mp this
 simpa using this
theorem aF0.ne(h:aF0 p n)(hi:i<n)(hj:j<n)(hij:i≠j):p.getD i 0≠p.getD j 0:=by
 have hs:=h.size
 have nd:p.toList.Nodup:=h.pm.nodup_iff.mpr List.nodup_range
 have e1:p.getD i 0=p.toList[i]'(by simp;lia):=by simp[YK,hs,hi]
 have e2:p.getD j 0=p.toList[j]'(by simp;lia):=by simp[YK,hs,hj]
 rw[e1,e2]
 intro e
 exact hij ((Xo nd).mp e)
noncomputable def bH6(lt:Nat->Nat->Bool)(p:Array Nat)(m:Nat):Prop:=∀i j,i<j->j<m->lt (p.getD i 0) (p.getD j 0)=true
noncomputable def dC5(lt:Nat->Nat->Bool)(p:Array Nat)(m:Nat):Prop:=∀i j,i<j->j<m->lt (p.getD j 0) (p.getD i 0)=true
theorem eA7(O:bR4 lt n)(hk:1<=k)(h:bH6 lt p k)(hl:lt (p.getD (k-1) 0) (p.getD k 0)=true):bH6 lt p (k+1):=by
 intro i j hij hj
 by_cases hj':j<k
 ·exact h i j hij hj'
 · have ej:j=k:=by lia
   subst ej
   by_cases hi:i=j-1
   ·rw[hi];exact hl
   ·exact O.tr _ _ _ (h i (j-1) (by lia) (by lia)) hl
theorem eB7(O:bR4 lt n)(hk:1<=k)(h:dC5 lt p k)(hl:lt (p.getD k 0) (p.getD (k-1) 0)=true):dC5 lt p (k+1):=by
 intro i j hij hj
 by_cases hj':j<k
 ·exact h i j hij hj'
 · have ej:j=k:=by lia
   subst ej
   by_cases hi:i=j-1
   ·rw[hi];exact hl
   ·exact O.tr _ _ _ hl (h i (j-1) (by lia) (by lia))
theorem cL1(O:bR4 lt n)(P:aF0 p n):∀f k,1<=k->k+f<=n->bH6 lt p k->tOk lt n (kas_asc p f k) (λm=>k<=m/\m<=k+f/\bH6 lt p m/\(m<k+f->lt (p.getD m 0) (p.getD (m-1) 0)=true))
 |0,k,h1,h2,u=>⟨zo _,zo _,u,λz=>by lia⟩
 |f+1,k,h1,h2,u=>by
   unfold kas_asc
   refine⟨P.bd (by lia),P.bd (by lia),?_⟩
   rcases e:lt (p.getD k 0) (p.getD (k-1) 0)with _|_
   ·
     have hl:=O.tot _ _ (P.bd (show k<n by lia)) (P.bd (show k-1<n by lia)) (P.ne (by lia) (by lia) (by lia)) e
     simp only[jf,if_false]
     exact(cL1 O P f (k+1) (by lia) (by lia) (eA7 O h1 u hl)).mono λm ⟨a,b,c,d⟩=>⟨by lia,by lia,c,λz=>d (by lia)⟩
   ·exact⟨zo _,by lia,u,λ_=>e⟩
theorem cS9(O:bR4 lt n)(P:aF0 p n):∀f k,1<=k->k+f<=n->dC5 lt p k->tOk lt n (kas_desc f p k 0) (λr=>r.1=p/\r.2.2=0/\k<=r.2.1/\r.2.1<=k+f/\dC5 lt p r.2.1)
 |0,k,h1,h2,u=>⟨rfl,rfl,zo _,zo _,u⟩
 |f+1,k,h1,h2,u=>by
   unfold kas_desc
   refine⟨P.bd (by lia),P.bd (by lia),?_⟩
   rcases e:lt (p.getD k 0) (p.getD (k-1) 0)with _|_
   ·
     have hl:=O.tot _ _ (P.bd (show k<n by lia)) (P.bd (show k-1<n by lia)) (P.ne (by lia) (by lia) (by lia)) e
     simp only[jf,if_false]
     refine⟨P.bd (by lia),P.bd (by lia),?_⟩
     rw[hl]
     exact⟨rfl,rfl,zo _,jb _ _,u⟩
   ·
     simp only[if_true,yx,if_false,gt_iff_lt]
     exact(cS9 O P f (k+1) (by lia) (by lia) (eB7 O h1 u e)).mono λr ⟨a,b,c,d,g⟩=>⟨a,b,by lia,by lia,g⟩
theorem aU5(p:Array Nat)(k:Nat):p.getD k 0= (p[k]?).getD 0:=by
 by_cases h:k<p.size<;>simp[YK,h]
theorem cF5(P:aF0 p n):aF0 (kas_rev p i j) n:=⟨(XJ.mp (mirror_perm p i j _)).trans P.pm⟩
theorem eW7(P:aF0 p n)(hm:m<=n)(d:dC5 lt p m):bH6 lt (kas_rev p 0 m) m:=by
 intro i j hij hj
 have hs:=P.size
 have e:∀k,k<m->(kas_rev p 0 m).getD k 0=p.getD (m-1-k) 0:=λk hk=>by
  rw[aU5,aU5]
  unfold kas_rev
  rw[getElem?_mirror_all (by lia),if_pos ⟨jh _,hk⟩,Nat.zero_add]
 rw[e i (by lia),e j hj]
 exact d (m-1-j) (m-1-i) (by lia) (by lia)
theorem cF3(O:bR4 lt n)(P:aF0 p n)(h2:2<=n)(d:dC5 lt p 2):tOk lt n (kas_descPart 1 n p) (λr=>aF0 r.2 n/\1<=r.1/\r.1<=n/\bH6 lt r.2 r.1):=by
 unfold kas_descPart
 refine tOk.bind _ ((cS9 O P (n-(1+1)) (1+1) (by lia) (by lia) d).mono λr ⟨a,b,c,e,g⟩=>?_)
 obtain⟨r1,r2,r3⟩:=r
 dsimp only at a b c e g ⊢
 subst a b
 rw[if_neg (yx 0)]
 unfold kas_tail3
 refine tOk.bind _ ((cL1 O (cF5 P) (n-r2) r2 (by lia) (by lia) (eW7 P (by lia) g)).mono λm ⟨a1,a2,a3,_⟩=>?_)
 exact⟨cF5 P,by lia,by lia,a3⟩
theorem dI3(O:bR4 lt n)(P:aF0 p n)(h2:2<=n):tOk lt n (kas_count n p) (λr=>aF0 r.2 n/\1<=r.1/\r.1<=n/\bH6 lt r.2 r.1):=by
 unfold kas_count
 refine tOk.bind _ ((cL1 O P (n-1) 1 (zo _) (by lia) (λi j _ _=>by lia)).mono λm ⟨a1,a2,a3,a4⟩=>?_)
 by_cases hm:m=n
 · rw[if_pos (by simpa using hm)]
   exact⟨P,a1,by lia,a3⟩
 · rw[if_neg (by simpa using hm)]
   by_cases h1:m>1
   · rw[if_pos h1]
     refine⟨P.bd (by lia),P.bd (by lia),?_⟩
     rw[a3 0 (m-1) (by lia) (by lia)]
     exact⟨P,a1,by lia,a3⟩
   · rw[if_neg h1]
     have em:m=1:=by lia
     subst em
     refine cF3 O P h2 λi j hij hj=>?_
     have e1:i=0:=by lia
     have e2:j=1:=by lia
     subst e1 e2
     exact a4 (by lia)
theorem bM6(O:bR4 lt n)(P:aF0 p n)(hk:k<n)(u:bH6 lt p k):∀f l r,l<=r->r<=k->r-l<=f->(∀i,i<l->lt (p.getD i 0) (p.getD k 0)=true)->(∀i,r<=i->i<k->lt (p.getD k 0) (p.getD i 0)=true)->
 tOk lt n (kas_place p k f l r) (λL=>L<=k/\(∀i,i<L->lt (p.getD i 0) (p.getD k 0)=true)/\∀i,L<=i->i<k->lt (p.getD k 0) (p.getD i 0)=true)
 |0,l,r,h1,h2,h3,a,b=>⟨by lia,a,λi hi=>b i (by lia)⟩
 |f+1,l,r,h1,h2,h3,a,b=>by
   unfold kas_place
   by_cases h:l>=r
   · rw[if_pos h]
     exact⟨by lia,a,λi hi=>b i (by lia)⟩
   · rw[if_neg h]
     have hm1:l<=(l+r) / 2:=by lia
     have hm2:(l+r) / 2<r:=by lia
     refine⟨P.bd hk,P.bd (by lia),?_⟩
     rcases e:lt (p.getD k 0) (p.getD ((l+r) / 2) 0)with _|_
     ·
       simp only[jf,if_false]
       have hl:=O.tot _ _ (P.bd hk) (P.bd (show (l+r) / 2<n by lia)) (P.ne hk (by lia) (by lia)) e
       refine bM6 O P hk u f _ r (by lia) h2 (by lia) (λi hi=>?_) b
       by_cases ei:i= (l+r) / 2
       ·rw[ei];exact hl
       ·exact O.tr _ _ _ (u i ((l+r) / 2) (by lia) (by lia)) hl
     ·
       simp only[if_true]
       refine bM6 O P hk u f l _ hm1 (by lia) (by lia) a λi hi hik=>?_
       by_cases ei:i= (l+r) / 2
       ·rw[ei];exact e
       ·exact O.tr _ _ _ e (u _ i (by lia) hik)
theorem dM0(O:bR4 lt n):∀f k p,aF0 p n->k+f=n->bH6 lt p k->tOk lt n (kas_bin f p k) (λq=>aF0 q n/\bH6 lt q n)
 |0,k,p,P,h,u=>⟨P,by rw[<-h];exact u⟩
 |f+1,k,p,P,h,u=>by
   unfold kas_bin
   refine tOk.bind _ ((bM6 O P (show k<n by lia) u k 0 k (jh _) (zo _) (by lia) (λi hi=>by lia) (λi h1 h2=>by lia)).mono λL ⟨hL,a,b⟩=>?_)
   have hs:=P.size
   refine dM0 O f (k+1) _ ⟨(XJ.mp (bubble_perm p k (k-L))).trans P.pm⟩ (by lia) ?_
   have e:∀i,(bubble p k (k-L)).getD i 0=if i=L then p.getD k 0 else if L<i/\i<=k then p.getD (i-1) 0 else p.getD i 0:=λi=>by
    rw[aU5,getElem?_bubble (by lia) _ (by lia),show k-(k-L)=L by lia]
    split
    ·rw[<-aU5]
    ·split<;>rw[<-aU5]
   intro i j hij hj
   rw[e i,e j]
   by_cases h1:i=L
   · rw[if_pos h1,if_neg (by lia),if_pos (by lia)]
     exact b (j-1) (by lia) (by lia)
   · rw[if_neg h1]
     by_cases h2:j=L
     · rw[if_pos h2,if_neg (by lia)]
       exact a i (by lia)
     · rw[if_neg h2]
       by_cases h3:L<i
       · rw[if_pos (by lia),if_pos (by lia)]
         exact u _ _ (by lia) (by lia)
       · rw[if_neg (by lia)]
         by_cases h4:L<j
         · rw[if_pos (by lia)]
           by_cases h5:i<j-1
           ·exact u _ _ h5 (by lia)
           ·lia
         · rw[if_neg (by lia)]
           exact u _ _ hij (by lia)
theorem eG5(O:bR4 lt n)(h2:2<=n):tOk lt n (kas_sort n) (λq=>aF0 q n/\bH6 lt q n):=by
 unfold kas_sort
 refine tOk.bind _ ((dI3 O ⟨by simp⟩ h2).mono λr ⟨a,b,c,d⟩=>?_)
 by_cases h:r.1<n
 · rw[if_pos h,show max r.1 1=r.1 by lia]
   exact dM0 O _ _ _ a (by lia) d
 · rw[if_neg h]
   exact⟨a,by rw[show n=r.1 by lia];exact d⟩
end
end DL
namespace DL
open PySem PySem.Spec L2
open PyProof.Rows hiding St
def aI0(F:List D->M D):List D->M (List D)
 |[]=>pure []
 |d::r=>do
   let k <-noX (F [d])
   let ks <-aI0 F r
   pure (k::ks)
noncomputable def cX8:D->Option (Int×Str)
 | .tup [.int a,.str x]=>some (a,x)
 |_=>none
noncomputable def eK0:D->Option (Int×Str)
 | .str x=>some (0,x)
 |_=>none
noncomputable def aN0(f:D->Option (Int×Str)):List D->Option (List (Int×Str))
 |[]=>some []
 |d::r=>match f d,aN0 f r with
   |some a,some b=>some (a::b)
   |_,_=>none
def aZ2(l:List D):Option (List (Int×Str)):=match aN0 cX8 l with
 |some q=>some q
 |none=>aN0 eK0 l
noncomputable def aL9(p q:Int×Str):Bool:=if p.1=q.1 then decide (p.2.cps.toList<q.2.cps.toList)else decide (p.1<q.1)
def bX0(p q:(Int×Str)×D):Bool:= !aL9 q.1 p.1
def aZ6(qs:List (Int×Str))(l:List D):List D:=((qs.zip l).mergeSort bX0).map (·.2)
def aP5(F:List D->M D)(l:List D):M D:=do
 let ks <-aI0 F l
 let qs <-aI5 (aZ2 ks)
 if qs.Nodup then Q5 (.lst (aZ6 qs l))else M.stuck
def aK0(F:List D->M D):D->M D
 | .tup l=>if l.length<64 then aP5 F l else M.stuck
 | .ref r=>do
   match <-R1 r with
   | .lst l=>if l.length<64 then aP5 F l else M.stuck
   | .dct l=>do
     let ss <-aI5 (v8 l)
     if ss.length<64 then aP5 F (ss.map .str)else M.stuck
   |_=>M.stuck
 |_=>M.stuck
def aM9(F:List D->M D)(f:Fe):Fe:=λσ=>do
 let x <-f σ
 aK0 F x
theorem bA7(p:Int×Str):aL9 p p=false:=by
 unfold aL9
 rw[if_pos rfl,decide_eq_false]
 exact Yr _
theorem aW1(h1:aL9 p q=true)(h2:aL9 q r=true):aL9 p r=true:=by
 unfold aL9 at *
 by_cases e1:p.1=q.1
 · rw[if_pos e1]at h1
   by_cases e2:q.1=r.1
   · rw[if_pos e2]at h2
     rw[if_pos (e1.trans e2)]
     simp only[decide_eq_true_eq]at *
     exact List.lt_trans h1 h2
   · rw[if_neg e2]at h2
     rw[if_neg (by rw[e1];exact e2),e1]
     exact h2
 · rw[if_neg e1]at h1
   simp only[decide_eq_true_eq]at h1
   by_cases e2:q.1=r.1
   · rw[if_pos e2]at h2
     rw[if_neg (by rw[<-e2];exact e1),<-e2]
     exact decide_eq_true h1
   · rw[if_neg e2]at h2
     simp only[decide_eq_true_eq]at h2
     rw[if_neg (by lia)]
     exact decide_eq_true (by lia)
theorem aU0(h:p≠q)(h1:aL9 p q=false):aL9 q p=true:=by
 unfold aL9 at *
 by_cases e1:p.1=q.1
 · rw[if_pos e1]at h1
   rw[if_pos e1.symm]
   simp only[decide_eq_false_iff_not,decide_eq_true_eq]at *
   have hle:q.2.cps.toList<=p.2.cps.toList:=h1
   refine zW λn=>h ?_
   have hle2:p.2.cps.toList<=q.2.cps.toList:=n
   have e:=List.le_antisymm hle2 hle
   cases p with|mk a x=>cases q with|mk b y=>
   dsimp only at e1 e
   subst e1
   congr 1
   cases x;cases y
   congr 1
   exact Xg.mp e
 · rw[if_neg e1]at h1
   rw[if_neg (λe=>e1 e.symm)]
   simp only[decide_eq_false_iff_not,decide_eq_true_eq]at *
   lia
theorem cE1{qs:List (Int×Str)}(nd:qs.Nodup):∀a∈qs.zip l,∀b∈qs.zip l,a.1=b.1->a=b:=by
 intro a ha b hb e
 obtain⟨i,hi,rfl⟩:=jX.mp ha
 obtain⟨j,hj,rfl⟩:=jX.mp hb
 simp only[List.getElem_zip]at e ⊢
 have:=(Xo nd).mp e
 subst this
 rfl
theorem bE5(nd:qs.Nodup){z:List ((Int×Str)×D)}(hp:z.Perm (qs.zip l))(hs:z.Pairwise λa b=>bX0 a b=true):z.map (·.2)=aZ6 qs l:=by
 unfold aZ6
 congr 1
 have h2:((qs.zip l).mergeSort bX0).Pairwise λa b=>bX0 a b=true:=yN (λa b c h1 h2=>by
  unfold bX0 at *
  simp only[ym]at *
  refine xR.mpr λh=>?_
  by_cases e:a.1=b.1
  ·rw[e]at h;rw[h]at h2;cases h2
  · have:=aW1 h (aU0 (λz=>e z.symm) h1)
    rw[this]at h2;cases h2) (λa b=>by
  unfold bX0
  by_cases e:a.1=b.1
  ·rw[e,bA7];rfl
  · cases q:aL9 b.1 a.1 with
    |false=>rfl
    |true=>
      have:aL9 a.1 b.1=false:=by
       refine xR.mpr λh=>?_
       have:=aW1 q h
       rw[bA7]at this;cases this
      rw[this];rfl) _
 refine Xt (λa b ha hb h1 h2=>?_) hs h2 (hp.trans (js _ _).symm)
 refine cE1 nd a (hp.mem_iff.mp ha) b ((js _ _).mem_iff.mp hb) (zW λn=>?_)
 unfold bX0 at *
 simp only[ym]at *
 have:=aU0 (λz=>n z.symm) h1
 rw[this]at h2;cases h2
noncomputable def Cx.rm(X:Cx)(A:ji):Cx:={X with A:=A,xe:=λ_ _=>False}
section
theorem eL1(I:Inv X pins σ H s)(h1:A.handled=X.A.handled)(h2:A.frames=X.A.frames/\A.guards=X.A.guards):Inv (Cx.rm X A) pins σ H s:=
 ⟨⟨I.ok.mod,I.ok.kind,I.ok.glob,I.ok.blt,I.ok.above,I.ok.inj,I.ok.has,I.ok.cab,λc=>h1.trans (I.ok.hd c),h2.1.trans I.ok.frames,I.ok.stk,I.ok.exf,I.ok.bs,I.ok.bsz,I.ok.noex,I.ok.exfs,I.ok.funs,I.ok.frf,h2.2.trans I.ok.gd⟩,I.os,I.bare,I.base,I.loc,I.cell,I.free,I.freeC,I.pin,I.hok,I.len⟩
theorem dQ3(I:Inv (Cx.rm X A) pins σ H s)(h1:A.handled=X.A.handled)(h2:A.frames=X.A.frames/\A.guards=X.A.guards):Inv X pins σ H s:=
 ⟨⟨I.ok.mod,I.ok.kind,I.ok.glob,I.ok.blt,I.ok.above,I.ok.inj,I.ok.has,I.ok.cab,λc=>h1.symm.trans (I.ok.hd c),h2.1.symm.trans I.ok.frames,I.ok.stk,I.ok.exf,I.ok.bs,I.ok.bsz,I.ok.noex,I.ok.exfs,I.ok.funs,I.ok.frf,h2.2.symm.trans I.ok.gd⟩,I.os,I.bare,I.base,I.loc,I.cell,I.free,I.freeC,I.pin,I.hok,I.len⟩
end
section
theorem cT4(hF:aN4 X.prog X.w X.K X.mg X.base CX0 k f fd ps (spD (wc X) 1 F))(hb:aT1 X.K fd ps [])(hA:V7 k A)(h1:A.handled=X.A.handled)(h2:A.frames=X.A.frames/\A.guards=X.A.guards){a kS:Addr}{e1:Nat}
 (fa:∀H':Hp,H' a=none->aN9 X pins H' a) (fk:∀H':Hp,H' kS=none->aN9 X pins H' kS) (ne:a≠kS) {R:zm->Prop}
 (hbd:∀x s (R:zm->Prop),zt (zz X.prog X.w) A (call (.ref f) [x]) (λk s'=>∃ks e,xM ks<64/\s'.heap.get? kS=some (jy "list" (jn ks) e)/\R {s' with heap:=s'.heap.update kS (jp (·.push k))}) (λ_ _=>False) s->
   zt (zz X.prog X.w) A (body x ⟨⟩) (λr s'=>r= .yield ⟨⟩/\R s') E s):∀(r:List D) (rv:List V) ru (dn:List D) (dv:List V) (du:List zg) (e:Nat) (μ:List Addr) (G:DH) (H:Hp) (s:zm),
   t7 (wc X) μ H r rv->v6 rv ru->t7 (wc X) μ H dn dv->v6 dv du->u9 (wc X) μ G H->Inv X pins σ H s->s.heap.get? kS=some (jy "list" (jn du) e)->s.heap.get? a=some (jy "list" #[] e1)->H a=none->H kS=none->du.length+ru.length<64->
   d7 (wc X) ZF μ H (aI0 F r G) (λks X9 G' H'=>∀(s':zm) (kv:List V) (ku:List zg) (e':Nat),Ext μ H X9 H'->u9 (wc X) X9 G' H'->t7 (wc X) X9 H' (dn++ks) kv->v6 kv ku->Inv X pins σ H' s'->s'.heap.get? kS=some (jy "list" (jn ku) e')->s'.heap.get? a=some (jy "list" #[] e1)->H' a=none->H' kS=none->R s')->
   zt (zz X.prog X.w) A (forIn ru PUnit.unit body) (λ_ s'=>R s') E s
 |[],_,_,dn,dv,du,e,μ,G,H,s,r1,r2,q1,q2,hr,I,g1,g2,n1,n2,hl,p=>by
   cases r1;cases r2
   rw[List.forIn_nil]
   exact zc (d7.ok p hr s dv du e (Ext.refl _ _) hr (by rw[yZ];exact q1) q2 I g1 g2 n1 n2)
 |d::r,_,_,dn,dv,du,e,μ,G,H,s,r1,r2,q1,q2,hr,I,g1,g2,n1,n2,hl,p=>by
   obtain⟨v,rv,rfl,rd,rr⟩:=r1
   cases r2 with
   |cons ru rur=>
   rename_i u ur
   rw[List.forIn_cons]
   have hfp:∀b∈ [a,kS],aN9 X pins H b:=λb hb=>by
    rcases zu.mp hb with rfl|hb
    ·exact fa H n1
    ·rw[zr]at hb;subst hb;exact fk H n2
   have IX:=eL1 (I.pinned hfp (λb hb=>by
    rcases zu.mp hb with rfl|hb
    ·exact⟨_,g2,λv z=>by cases z⟩
    ·rw[zr]at hb;subst hb;exact⟨_,g1,λv z=>by cases z⟩)) h1 h2
   have pb:=bN5 (d7.bind p)
   have call:=cO4 (X:=Cx.rm X A) (Q:=λv' H'=>∃k X1 G1,Ext μ H X1 H'/\u9 (wc X) X1 G1 H'/\d8 (wc X) X1 H' k v'/\d7 (wc X) ZF X1 H' ((aI0 F r >>= λks=>pure (k::ks)) G1) _) hF hA hb .nil dO2 IX (show v6 [v] [u]from .cons ru .nil)
    (⟨rfl, [d],μ,G,⟨v, [],rfl,rd,rfl⟩,hr,pb.mono λk X1 G1 H1 x1 hr1 p1 v' rv'=>⟨k,X1,G1,x1,hr1,rv',p1⟩⟩)
   refine za (jH (hbd u s (λs'=>zt (zz X.prog X.w) A (forIn ur PUnit.unit body) (λ_ s'=>R s') E s') (jH call (λkv s' hk=>?_) λ_ _ z=>z)) (λq s' hq=>?_) λ_ _ z=>z)
   · obtain⟨v',H',I',rv',k0,X1,G1,x1,hr1,rk,p1⟩:=hk
     have I2:=dQ3 I' h1 h2
     obtain⟨g1',n2',_⟩:=I2.pin (kS,jy "list" (jn du) e) (zF _ (zF _ (aE6 (by simp) g1)))
     obtain⟨g2',n1',_⟩:=I2.pin (a,jy "list" #[] e1) (zF _ (zF _ (aE6 (by simp) g2)))
     rw[zD]at hl
     refine⟨du,e,by lia,g1',?_⟩
     have ea:(jn du).push kv=jn (du++[kv]):=by simp
     obtain⟨c2,hc2⟩:∃c2,(s'.heap.update kS (jp (·.push kv))).get? kS=some (jy "list" (jn (du++[kv])) c2):=⟨_,by rw[<-ea];exact Js g1' (·.push kv)⟩
     have I3:=bL0 (h':=s'.heap.update kS (jp (·.push kv))) (t':=s'.toks) I2.unpinned (λb hb=>by rw[zr]at hb;subst hb;exact fk H' n2') (λb o hb e=>by
      rw[zr]at hb
      rw[yL _ _ _ _ hb];exact e)
     refine cT4 hF hb hA h1 h2 fa fk ne hbd r rv ur (dn++[k0]) (dv++[v']) (du++[kv]) c2 X1 G1 H' _ (rr.mono x1) rur (t7.append (q1.mono x1) ⟨v', [],rfl,rk,rfl⟩) (q2.append (show v6 [v'] [kv]from .cons rv' .nil)) hr1 I3 hc2 (by rw[yL _ _ _ _ ne];exact g2') n1' n2' (by rw[zM,jS];lia) ?_
     refine(d7.bind p1).mono λks WZ G2 H2 x2 hr2 p2 s3 kv2 ku2 e2 x2' hr2' a1 a2 a3 a4 a5 a6 a7=>?_
     exact d7.ok p2 hr2 s3 kv2 ku2 e2 (x1.trans x2) hr2 (by rw[yG]at a1;exact a1) a2 a3 a4 a5 a6 a7
   · obtain⟨rfl,hq⟩:=hq
     exact hq
end
section
theorem dC7{ch:List Addr}(I:Inv X pins σ H s)(hf:∀b∈ch,aN9 X pins H b)(ha:a∈ch)(k:∀b o,b∉ch->s.heap.get? b=some o->h'.get? b=some o)
 (new:W2 X.prog X.w (upd H a (.lst ws)) h' a (.lst ws)):Inv X pins σ (upd H a (.lst ws)) {s with heap:=h',toks:=t'}:=by
 have hq:H a=none:=(hf a ha).1
 have nch:∀b u,H b=some u->b∉ch:=λb u e z=>by rw[(hf b z).1]at e;cases e
 refine I.step (λb hb=>⟨(hf b hb).2.2.2.1,(hf b hb).2.1,(hf b hb).2.2.2.2.1,(hf b hb).2.2.2.2.2⟩) (λb o _ _ hc e _=>k b o hc e) (λb o _ _ hc e _=>⟨o.slots,k b o hc e⟩)
  (λb o hc e n=>by rw[K3 (λz=>hc (by rw[z];exact ha))];exact n) (λb o hc e=>⟨o,k b o hc e⟩) (λb xs e=>by rw[K3 (M4 e hq)];exact e) (λb o u e=>by rw[K3 (M4 e hq)];exact e)
  (λb ps e=>⟨#[],by rw[K3 (M4 e hq),e];simp⟩) (λm hm=>?_) (λb u e=>?_) I.bare
 · obtain⟨o,es,ep,ho,r⟩:=hm
   exact⟨o,es,ep,k _ o (λz=>(hf _ z).2.1 rfl) ho,r⟩
 · by_cases hb:b=a
   · subst hb
     rw[U5]at e
     cases e
     exact new
   · rw[K3 hb]at e
     refine(I.hok b u e).stay (λc v hc q=>k c v ?_ q) (λc q=>by rw[K3 (M4 q hq)];exact q) λc xs q=>by rw[K3 (M4 q hq)];exact q
     rcases hc with z|z
     ·rw[z];exact nch b u e
     ·exact nch c _ z
noncomputable def bM8(h:Heap)(u:zg)(q:Int×Str):Prop:=∃a t t',u= .ref a/\YE h a #[.int q.1 t,.str q.2 t']
noncomputable def aY5(u:zg)(q:Int×Str):Prop:=∃t,q.1=0/\u= .str q.2 t
noncomputable def bC5(P:zg->Int×Str->Prop)(ku:List zg)(qs:List (Int×Str)):Prop:=∀(i:Nat) (q:Int×Str),qs[i]? =some q->∃u,ku[i]? =some u/\P u q
theorem bZ3{g:D->Option (Int×Str)}{P:zg->Int×Str->Prop}(hg:∀d q v u,g d=some q->d8 (wc X) μ H d v->J9 v u->P u q):∀ {ks qs kv ku},aN0 g ks=some qs->t7 (wc X) μ H ks kv->v6 kv ku->qs.length=ku.length/\bC5 P ku qs
 |[],qs,kv,ku,e,r,rv=>by
   cases e;cases r;cases rv
   exact⟨rfl,λi q z=>by simp at z⟩
 |d::r,qs,kv,ku,e,rr,rv=>by
   obtain⟨v,tl,rfl,rd,rt⟩:=rr
   cases rv with
   |cons ru rur=>
   rename_i u ur
   unfold aN0 at e
   rcases h1:g d with _|a
   ·rw[h1]at e;cases e
   rcases h2:aN0 g r with _|b
   ·rw[h1,h2]at e;cases e
   rw[h1,h2]at e
   cases e
   obtain⟨hl,hk⟩:=bZ3 hg h2 rt rur
   refine⟨by simp[hl],λi q z=>?_⟩
   cases i with
   |succ i=>simpa using hk i q (by simpa using z)
   |zero=>
     simp at z
     subst z
     exact⟨u,rfl,hg d a v u h1 rd ru⟩
theorem eA0(I:Inv X pins σ H s){ks qs kv ku}(e:aZ2 ks=some qs)(rr:t7 (wc X) μ H ks kv)(rv:v6 kv ku):qs.length=ku.length/\(bC5 (bM8 s.heap) ku qs\/bC5 aY5 ku qs):=by
 unfold aZ2 at e
 rcases h:aN0 cX8 ks with _|q
 · rw[h]at e
   have:=bZ3 (P:=aY5) (λd q v u h1 rd ru=>by
    rcases d with _|_|_|x|_|_|_|_<;>try (cases h1;done)
    cases h1
    rw[aQ2 rd]at ru
    obtain⟨t,rfl⟩:=ru
    exact⟨t,rfl,rfl⟩) e rr rv
   exact⟨this.1,.inr this.2⟩
 · rw[h]at e
   cases e
   have:=bZ3 (P:=bM8 s.heap) (λd q v u h1 rd ru=>by
    unfold cX8 at h1
    split at h1
    · cases h1
      unfold d8 at rd
      obtain⟨ad,vs,rfl,q,rl⟩:=rd
      obtain⟨v1,t1,rfl,e1,v2,t2,rfl,e2,e3⟩:=rl
      cases e3
      rw[aG6 e1,aQ2 e2]at q
      cases ru
      obtain⟨its,rvs,tp,_⟩:=I.tuple q
      cases rvs with
      |cons r1 rr1=>
        cases rr1 with
        |cons r2 rr2=>
          cases rr2
          obtain⟨t,rfl⟩:=r1
          obtain⟨t',rfl⟩:=r2
          exact⟨ad,t,t',rfl,tp⟩
    ·cases h1) h rr rv
   exact⟨this.1,.inl this.2⟩
end
section
theorem eG1(hx:aY5 u q)(hy:aY5 u' q')(h:C (aL9 q q') s):zt (zz prog w) A (keyLt' JJ u u') C E s:=by
 obtain⟨t,e,rfl⟩:=hx
 obtain⟨t',e',rfl⟩:=hy
 rw[keyLt'_oneType]
 unfold aL9 at h
 rw[if_pos (e.trans e'.symm)]at h
 exact oneLt_str h
theorem eR2(hx:bM8 s.heap u q)(hy:bM8 s.heap u' q')(h:C (aL9 q q') s):zt (zz prog w) A (keyLt' (tuples' true) u u') C E s:=by
 obtain⟨a,t,t',rfl,o,ho,hc,n,hd⟩:=hx
 obtain⟨b,v,v',rfl,o2,ho2,hc2,n2,hd2⟩:=hy
 refine PySem.W.kat_lt ho hd ho2 hd2 ?_
 show PySem.W.KatLex prog w A true _ C [(.int q.1 t,.int q'.1 v),(.str q.2 t',.str q'.2 v')] 0 s
 refine PySem.W.kat_cons (PySem.wpAny_eqBool_int (PySem.W.kat_go (λe=>?_) λe=>?_))
 · have e1:q.1=q'.1:=by simpa using e
   refine PySem.W.kat_yes (PySem.W.kat_cons (eqBool_str (PySem.W.kat_go (λe=>?_) λe=>?_)))
   · have e2:q.2=q'.2:=by simpa using e
     have eq:q=q':=XT e1 e2
     refine PySem.W.kat_yes (PySem.W.kat_nil ?_)
     rw[eq,bA7]at h
     exact h
   · refine PySem.W.kat_no (PySem.W.kat_one _ _ (PySem.P.lt_str ?_))
     unfold aL9 at h
     rw[if_pos e1]at h
     exact h
 · have e1:¬q.1=q'.1:=by simpa using e
   refine PySem.W.kat_no ?_
   show zt (zz prog w) A (oneLt' true _ _) C _ s
   rw[<-keyLt'_oneType]
   refine PySem.W.kat_lt_int ?_
   unfold aL9 at h
   rw[if_neg e1]at h
   exact h
theorem cX3{st:SortSt}(hout:(YD st).map (·.2)=jn out)(hz:out.length<64)(hkz:ku.length<64)(hf:JK st=none)(ho1:s.heap.get? kS=some (jy "list" (jn ku) e))(ho2:s.heap.get? a=some (jy "list" #[] e1))(ne:a≠kS)
 (h:∀(h':Heap) (e':Nat),(∀b o,b∉ [a,kS]->s.heap.get? b=some o->h'.get? b=some o)->h'.get? a=some (jy "list" (jn out) e')->P (.done (.ret .none)) {s with heap:=h'}):zt (zz prog w) A (ksk_tail a false e1 (.ref kS) st) P E s:=by
 have na:(s.heap.update kS (jp λ_=>(#[]:Array zg))).get? a=some (jy "list" #[] e1):=by rw[yL _ _ _ _ ne];exact ho2
 obtain⟨c2,hc2⟩:∃c2,((s.heap.update kS (jp λ_=>(#[]:Array zg))).update a (jp λ_=>jn out)).get? a=some (jy "list" (jn out) c2):=⟨_,Js na λ_=>jn out⟩
 unfold ksk_tail
 try dsimp only
 rw[hout]
 refine za (Xm ho1 rfl ?_ (by rw[zj,yA];lia) (jh _))
 refine za (xa ?_)
 refine za (seqEpoch_at na rfl ?_)
 refine za (Xm na rfl ?_ (jh _) (zC (xA (zj ..)) (by rw[yA];lia)))
 rw[hf]
 simp only[bne_self_eq_false,jf,if_false]
 refine zc (h _ c2 (λb o hb eo=>?_) hc2)
 have hb':b≠a/\b≠kS:=by simpa using hb
 rw[yL _ _ _ _ hb'.1,yL _ _ _ _ hb'.2]
 exact eo
theorem dZ6{qs:List (Int×Str)}{ku:List zg}(hq:qs.length=ku.length)(h2:2<=ku.length)(hk:bC5 (bM8 s.heap) ku qs\/bC5 aY5 ku qs):∃kd,(∀(Q:SortKind->zm->Prop) (E:VSP),Q kd s->zt (zz prog w) A (keyKind' ku.toArray) Q E s)/\∀(i j:Nat) q q' C,qs[i]? =some q->qs[j]? =some q'->C (aL9 q q') s->Xe prog w A kd ku i j C s:=by
 rcases hk with hk|hk
 · obtain⟨fs,T,hfs,hT⟩:∃fs:List zg,PySem.W.KatTups s.heap ku fs/\0<fs.length/\∀v∈fs,∃n t,v= .int n t:=by
    have gen:∀(ku:List zg) (qs:List (Int×Str)),qs.length=ku.length->bC5 (bM8 s.heap) ku qs->∃fs:List zg,PySem.W.KatTups s.heap ku fs/\fs.length=ku.length/\∀v∈fs,∃n t,v= .int n t:=by
     intro ku
     induction ku with
     |nil=>exact λqs _ _=>⟨[],trivial,rfl,λv hv=>by cases hv⟩
     |cons u r ih=>
       intro qs hl hk
       rcases qs with _|⟨q,qr⟩
       ·simp at hl
       obtain⟨u',e1,ad,t,t',rfl,o,ho,hc,n,hd⟩:=hk 0 q rfl
       simp at e1
       subst e1
       obtain⟨fs,f1,f2,f3⟩:=ih qr (by simpa using hl) λi q hq=>by simpa using hk (i+1) q (by simpa using hq)
       refine⟨.int q.1 t::fs,PySem.W.KatTups.cons ho hc hd rfl f1,by simp[f2],λv hv=>?_⟩
       rcases zu.mp hv with rfl|hv
       ·exact⟨_,_,rfl⟩
       ·exact f3 v hv
    obtain⟨fs,f1,f2,f3⟩:=gen ku qs hq hk
    exact⟨fs,f1,by lia,f3⟩
   refine⟨_,λQ E h=>PySem.W.kat_kind (T:=.type "int") T hfs (λv hv=>?_) (by decide) h,λi j q q' C e1 e2 hC=>?_⟩
   · obtain⟨n,t,rfl⟩:=hT v hv
     exact PySem.W.Looks.of_pure rfl
   · obtain⟨u,u1,u2⟩:=hk i _ e1
     obtain⟨v,v1,v2⟩:=hk j _ e2
     unfold Xe
     rw[zP,zP,u1,v1]
     exact eR2 u2 v2 hC
 · have gen:∀(ku:List zg) (qs:List (Int×Str)),qs.length=ku.length->bC5 aY5 ku qs->StrsAre ku (qs.map (·.2)):=by
    intro ku
    induction ku with
    |nil=>
      intro qs hl _
      rcases qs with _|⟨q,r⟩
      ·exact .nil
      ·simp at hl
    |cons u r ih=>
      intro qs hl hk
      rcases qs with _|⟨q,qr⟩
      ·simp at hl
      obtain⟨u',e1,t,_,rfl⟩:=hk 0 q rfl
      simp at e1
      subst e1
      exact .cons q.2 t (ih qr (by simpa using hl) λi q hq=>by simpa using hk (i+1) q (by simpa using hq))
   have hS:=gen ku qs hq hk
   refine⟨JJ,λQ E h=>?_,λi j q q' C e1 e2 hC=>?_⟩
   · rcases ku with _|⟨v1,_|⟨v2,vr⟩⟩
     ·simp at h2
     ·simp at h2
     · rw[XH hS]
       exact zc h
   · obtain⟨u,u1,u2⟩:=hk i _ e1
     obtain⟨v,v1,v2⟩:=hk j _ e2
     unfold Xe
     rw[zP,zP,u1,v1]
     exact eG1 u2 v2 hC
theorem eY2{e e1:Nat}{ku vs:List zg}{qs:List (Int×Str)}(hl:ku.length=vs.length)(h64:vs.length<64)(hq:qs.length=ku.length)(hk:bC5 (bM8 s.heap) ku qs\/bC5 aY5 ku qs)(nd:qs.Nodup)
 (ho1:s.heap.get? kS=some (jy "list" (jn ku) e)) (ho2:s.heap.get? a=some (jy "list" #[] e1)) (ne:a≠kS)
 (h:∀(h':Heap) (e':Nat) (p:List Nat),p.Perm (zX vs.length)->p.Pairwise (λi j=>aL9 (qs.getD i (0, "")) (qs.getD j (0, ""))=true)->(∀b o,b∉ [a,kS]->s.heap.get? b=some o->h'.get? b=some o)->h'.get? a=some (jy "list" (jn (p.map λi=>vs.getD i Value.none)) e')->P (.done (.ret .none)) {s with heap:=h'}):
 zt (zz prog w) A (ksk_end a false vs.toArray e1 (.ref kS) (jn ku)) P E s:=by
 unfold ksk_end
 try dsimp only
 simp only[jf,if_false]
 by_cases h2:vs.toArray.size<2
 · rw[if_pos h2,if_pos h2]
   refine za (zc ?_)
   rw[StateT.run_pure]
   refine za (zc ?_)
   dsimp only
   have hv:(YD (SortSt.mk' general' ((jn ku).zip vs.toArray) #[] 7 none)).map (·.2)=jn ((zX vs.length).map λi=>vs.getD i Value.none):=by
    show ((jn ku).zip vs.toArray).map (·.2)=_
    apply Xg.mp
    rw[Array.toList_map]
    apply xw
    ·simp[hl]
    · intro i hi hj
      simp at hi hj ⊢
      simp[hj]
   refine cX3 hv (by simp;lia) (by lia) rfl ho1 ho2 ne λh' e' k1 k2=>h h' e' _ (List.Perm.refl _) ?_ k1 k2
   have:vs.length<2:=by simpa using h2
   match hn:vs.length,this with
   |0,_=>simp
   |1,_=>simp[List.range_succ]
 · rw[if_neg h2,if_neg h2]
   have hn2:2<=vs.length:=by simpa using h2
   let lt:Nat->Nat->Bool:=λi j=>aL9 (qs.getD i (0, "")) (qs.getD j (0, ""))
   have gq:∀i,i<vs.length->qs[i]? =some (qs.getD i (0, "")):=λi hi=>by
    rw[zP,zf (by lia)];rfl
   have O:bR4 lt vs.length:=⟨λi j k h1 h2=>aW1 h1 h2,λi j hi hj hij h=>aU0 (λee=>hij ?_) h⟩
   case refine_1=>
    have e1:=gq i hi
    have e2:=gq j hj
    rw[ee]at e1
    have li:i<qs.length:=by lia
    exact(List.getElem?_inj li nd).mp (e1.trans e2.symm)
   obtain⟨kd,hkd,hlt⟩:=dZ6 hq (by lia) hk
   refine za (hkd _ _ ?_)
   · have run:=tOk.wp (λi j C hi hj hC=>hlt i j _ _ C (gq i hi) (gq j hj) hC) _ (eG5 O hn2)
     refine za (jH (PySem.W.kat_run (Q:=λst' s'=>∃p:Array Nat,p.size=vs.length/\YD st'=p.map (PySem.W.kas_item ((jn ku).zip vs.toArray))/\JK st'=none/\s'=s/\aF0 p vs.length/\bH6 lt p vs.length) hl hn2 h64 (λp st' s' a1 a2 a3 a4=>⟨p,a1,a2,a3,a4⟩) run) ?_ λ_ _ x=>x)
     rintro⟨⟨⟩,st'⟩ s' ⟨p,hp,har,hf,rfl,P1,U⟩
     try dsimp only
     refine cX3 (PySem.W.kat_snds hl har) (by rw[ze,zA,hp];exact h64) (by lia) hf ho1 ho2 ne λh' e' k1 k2=>h h' e' p.toList P1.pm ?_ k1 k2
     rw[xB]
     intro i j hi hj hij
     have hi':i<p.size:=by simpa using hi
     have hj':j<p.size:=by simpa using hj
     have:=U i j hij (by lia)
     simpa [YK,hi',hj',lt]using this
end
section
theorem cQ1{p:List Nat}{l:List α}(h:p.Perm (zX n))(hn:l.length=n):(p.map λi=>l.getD i d).Perm l:=by
 have e:(zX n).map (λi=>l.getD i d)=l:=by
  apply xw
  ·simp[hn]
  · intro i hi hj
    simp[hj]
 have:=h.map λi=>l.getD i d
 rw[e]at this
 exact this
theorem cM9{qs:List (Int×Str)}{l:List D}(h1:i<qs.length)(h2:i<l.length):(qs.zip l).getD i ((0, ""),.non)= (qs[i],l[i]):=by
 rw[zP,zf (by simp;lia),List.getElem_zip];rfl
theorem cO1{qs:List (Int×Str)}{vs:List zg}{p:List Nat}(hl:qs.length=l.length)(rl:t7 (wc X) μ H l ws)(rv:v6 ws vs)(nd:qs.Nodup)(hp:p.Perm (zX vs.length))(hs:p.Pairwise (λi j=>aL9 (qs.getD i (0, "")) (qs.getD j (0, ""))=true)):
 ∃ws',v6 ws' (p.map λi=>vs.getD i Value.none)/\t7 (wc X) μ H (aZ6 qs l) ws'/\ws'.length=vs.length:=by
 have hlv:l.length=vs.length:=by rw[rl.length,rv.length]
 have hz:(qs.zip l).length=vs.length:=by simp[hl,hlv]
 have e:=bE5 nd (cQ1 hp hz) (by
  rw[jF]
  refine hs.imp_of_mem λ{i j} hi hj h=>?_
  have li:i<vs.length:=by simpa using hp.mem_iff.mp hi
  have lj:j<vs.length:=by simpa using hp.mem_iff.mp hj
  have ei:((qs.zip l).getD i ((0, ""),.non)).1=qs.getD i (0, ""):=by rw[cM9 (by lia) (by lia),zP,zf (by lia)];rfl
  have ej:((qs.zip l).getD j ((0, ""),.non)).1=qs.getD j (0, ""):=by rw[cM9 (by lia) (by lia),zP,zf (by lia)];rfl
  unfold bX0
  rw[ei,ej]
  simp only[ym]
  refine xR.mpr λh2=>?_
  have:=aW1 h h2
  rw[bA7]at this;cases this)
 rw[jK]at e
 have main:∀p:List Nat,(∀i∈p,i<vs.length)->∃ws',v6 ws' (p.map λi=>vs.getD i Value.none)/\t7 (wc X) μ H (p.map λi=>((qs.zip l).getD i ((0, ""),.non)).2) ws'/\ws'.length=p.length:=by
  intro p
  induction p with
  |nil=>exact λ_=>⟨[],.nil,rfl,rfl⟩
  |cons i r ih=>
    intro hi
    obtain⟨ws',a1,a2,a3⟩:=ih λj hj=>hi j (zk _ hj)
    have li:=hi i (by simp)
    obtain⟨v,e1,r1⟩:=rl.get (d:=l[i]'(by lia)) (zf (by lia))
    obtain⟨u,e2,r2⟩:=rv.get e1
    refine⟨v::ws',?_,⟨v,ws',rfl,?_,a2⟩,by simp[a3]⟩
    · have:vs.getD i Value.none=u:=by rw[zP,e2];rfl
      rw[zB,this]
      exact .cons r2 a1
    · have:((qs.zip l).getD i ((0, ""),.non)).2=l[i]'(by lia):=by rw[cM9 (by lia) (by lia)]
      show d8 (wc X) μ H (((qs.zip l).getD i ((0, ""),.non)).2) v
      rw[this]
      exact r1
 obtain⟨ws',a1,a2,a3⟩:=main p λi hi=>by simpa using hp.mem_iff.mp hi
 exact⟨ws',a1,by rw[<-e];exact a2,by rw[a3,hp.length_eq];simp⟩
theorem cS3(hF:aN4 X.prog X.w X.K X.mg X.base CX0 k f fd ps (spD (wc X) 1 F))(hb:aT1 X.K fd ps [])(hrm:V7 (k+2) X.A)(I:Inv X pins σ H s)(hr:u9 (wc X) μ G H)(h64:l.length<64)
 (hcol:∀Q',(∀h1 tk vs ws,(∀b o,s.heap.get? b=some o->h1.get? b=some o)->v6 ws vs->t7 (wc X) μ H l ws->Q' vs {s with heap:=h1,toks:=tk})->zt (zz X.prog X.w) X.A.in1 (collect u) Q' X.xe s)
 (p:d7 (wc X) Z μ H (aP5 F l G) (λd X9 _ H'=>∀v,d8 (wc X) X9 H' d v->Q v H')):zt (zz X.prog X.w) X.A (call (.builtin "sorted") [u] [(je "key",.ref f)]) (EP X pins σ Q) X.xe s:=by
 refine call_function_entry_kw Jm XG XI (ksk_s1 _ _) ?_
 unfold yi.«sorted»
 refine za (zc ?_)
 refine za (hcol _ λh1 tk vs ws k1 rv rl=>?_)
 have hlv:l.length=vs.length:=by rw[rl.length,rv.length]
 refine za (xN ?_ (by rw[yA];lia))
 have I1:Inv X pins σ H {s with heap:=h1,toks:=tk}:=I.kept k1
 have hoL:(h1.push (jy "list" vs.toArray 0)).get? h1.objs.size=some (jy "list" vs.toArray 0):=zp _ rfl
 refine za (jl (wpAny_call_entry_kw YR ⟨_,hoL,rfl⟩ YC ?_ (ksk_l1 _ _)))
 show zt (zz X.prog X.w) X.A.in1.in1 (yi.«list.sort» ⟨[.ref h1.objs.size], [(je "key",.ref f)]⟩) _ _ _
 rw[ksk_t1]
 unfold ksk_tree
 refine za (listItems_at hoL rfl ?_)
 refine za (Xm hoL rfl ?_ (by rw[zj,yA];lia) (jh _))
 obtain⟨e1,ho1⟩:∃e1,((h1.push (jy "list" vs.toArray 0)).update h1.objs.size (jp λ_=>(#[]:Array zg))).get? h1.objs.size=some (jy "list" #[] e1):=⟨_,Js hoL λ_=> #[]⟩
 refine za (seqEpoch_at ho1 rfl ?_)
 refine za (wpAny_newTuple ?_ (by show vs.length<=_;rw[yA];lia))
 refine za (xN ?_ (jh _))
 refine jl ?_
 have hsz:((h1.push (jy "list" vs.toArray 0)).update h1.objs.size (jp λ_=>(#[]:Array zg))).objs.size=h1.objs.size+1:=by rw[Heap.size_update,ZD]
 have hkS:(((h1.push (jy "list" vs.toArray 0)).update h1.objs.size (jp λ_=>(#[]:Array zg))).push (jy "tuple" vs.toArray 0)).objs.size=h1.objs.size+2:=by rw[ZD,hsz]
 have keep:∀b o,h1.get? b=some o->((((h1.push (jy "list" vs.toArray 0)).update h1.objs.size (jp λ_=>(#[]:Array zg))).push (jy "tuple" vs.toArray 0)).push (jy "list" #[] 0)).get? b=some o:=λb o q=>by
  have hlt:b<h1.objs.size:=zn q
  rw[xk _ _ _ (by rw[hkS];exact zw (jG (jG hlt))),xk _ _ _ (by rw[hsz];exact zw (jG hlt)),yL _ _ _ _ (zw hlt),xk _ _ _ (zw hlt)]
  exact q
 have I2:Inv X pins σ H {s with heap:=(((h1.push (jy "list" vs.toArray 0)).update h1.objs.size (jp λ_=>(#[]:Array zg))).push (jy "tuple" vs.toArray 0)).push (jy "list" #[] 0),toks:=tk}:=I1.kept keep
 have na:H h1.objs.size=none:=I1.hok.fresh (zo _)
 have nk:H (h1.objs.size+2)=none:=I1.hok.fresh (jb _ _)
 have ga:((((h1.push (jy "list" vs.toArray 0)).update h1.objs.size (jp λ_=>(#[]:Array zg))).push (jy "tuple" vs.toArray 0)).push (jy "list" #[] 0)).get? h1.objs.size=some (jy "list" #[] e1):=zh _ (zh _ ho1)
 have gk:((((h1.push (jy "list" vs.toArray 0)).update h1.objs.size (jp λ_=>(#[]:Array zg))).push (jy "tuple" vs.toArray 0)).push (jy "list" #[] 0)).get? (h1.objs.size+2)=some (jy "list" (jn []) 0):=by
  rw[<-hkS];exact zp _ rfl
 have fa:∀H':Hp,H' h1.objs.size=none->aN9 X pins H' h1.objs.size:=λH' hn=>I1.fpOk (zo _) hn
 have fk:∀H':Hp,H' (h1.objs.size+2)=none->aN9 X pins H' (h1.objs.size+2):=λH' hn=>I1.fpOk (jb _ _) hn
 have ne:h1.objs.size≠h1.objs.size+2:=by lia
 unfold aP5 at p
 have pk:d7 (wc X) ZF μ H (aI0 F l G) (λks X9 G' H'=>ks.length=l.length/\d7 (wc X) Z X9 H' ((aI5 (aZ2 ks) >>= λqs=>if qs.Nodup then Q5 (.lst (aZ6 qs l))else M.stuck) G') (λd X9 _ H'=>∀v,d8 (wc X) X9 H' d v->Q v H')):=by
  have q:=d7.bind p
  have hkl:∀(l:List D) (G:DH) (ks:List D) (G':DH),aI0 F l G=some (.ok ks,G')->ks.length=l.length:=by
   intro l
   induction l with
   |nil=>intro G ks G' z;cases z;rfl
   |cons d r ih=>
     intro G ks G' z
     unfold aI0 at z
     rw[M.bind_eq]at z
     match h:noX (F [d]) G,z with
     |some (.ok kk,G1),z=>
       dsimp only at z
       rw[M.bind_eq]at z
       match h2:aI0 F r G1,z with
       |some (.ok ks,G2),z=>
         cases z
         simp[ih _ _ _ h2]
  have kne:∀(l:List D) (G:DH) (x:Str) (G':DH),aI0 F l G≠some (.error x,G'):=by
   intro l
   induction l with
   |nil=>intro G x G' z;cases z
   |cons d r ih=>
     intro G x G' z
     unfold aI0 at z
     rw[M.bind_eq]at z
     have nx:∀x G',noX (F [d]) G≠some (.error x,G'):=λx G' z=>by
      unfold noX at z
      try dsimp only at z
      split at z<;>cases z
     match h:noX (F [d]) G,z with
     |some (.error y,G1),z=>exact nx _ _ h
     |some (.ok kk,G1),z=>
       dsimp only at z
       rw[M.bind_eq]at z
       match h2:aI0 F r G1,z with
       |some (.error y,G2),z=>exact ih _ _ _ h2
       |some (.ok ks,G2),z=>cases z
  match hh:aI0 F l G,q with
  |some (.ok ks,G1),q=>exact λX9 H' x h=>⟨hkl _ _ _ _ hh,q X9 H' x h⟩
  |some (.error x,G1),q=>exact(kne _ _ _ _ hh).elim
 rw[hkS]
 show zt (zz X.prog X.w) X.A.in1.in1 (ksk_rest h1.objs.size (.ref f) false vs.toArray e1 (.ref (h1.objs.size+2))) _ _ _
 unfold ksk_rest
 refine za (xh ?_)
 first
  |rw[List.forIn_toArray]
  |(rw[<-Array.forIn_toList];simp only[List.toList_toArray])
  |rw[<-Array.forIn_toList]
 refine za (cT4 (σ:=σ) hF hb hrm.in1.in1 rfl ⟨rfl,rfl⟩ fa fk ne (λx s0 R hx=>?_) l ws vs [] [] [] 0 μ G H _ rl rv rfl .nil hr I2 gk ga na nk (by simp;lia) ?_)
 · refine za (ZW (jH hx (λkv s'' hk=>?_) λ_ _ hF=>hF.elim))
   obtain⟨ks,e,hks,g,hR⟩:=hk
   try dsimp only
   refine za (Xm g rfl ?_ (by rw[zj,yA];lia) (zC (xA (Array.size_push ..)) (by rw[zj,yA];lia)))
   exact zc ⟨rfl,hR⟩
 · refine pk.mono λks X9 G' H' x1 hr1 ⟨hks,p1⟩ s' kv ku e' _ _ q1 q2 I' g1 g2 n1 n2=>?_
   rw[Ya]at q1
   obtain⟨qs,eq,p2⟩:=T9 p1
   split at p2
   case isFalse=>exact p2.elim
   rename_i nd
   obtain⟨hl1,hk1⟩:=eA0 I' eq q1 q2
   try dsimp only
   refine za (listItems_at g1 rfl ?_)
   have hkv:ku.length=vs.length:=by
    rw[<-q2.length,<-q1.length,hks,hlv]
   refine eY2 hkv (by lia) hl1 hk1 nd g1 g2 ne λh' e2 pp hp hs keep2 gg=>?_
   have rl':t7 (wc X) X9 H' l ws:=rl.mono x1
   obtain⟨ws',a1,a2,a3⟩:=cO1 (by rw[hl1,hkv,hlv]) rl' rv nd hp hs
   refine⟨_,rfl,zc ⟨_,rfl,.ref h1.objs.size,upd H' h1.objs.size (.lst ws'),dC7 I' (λb hb=>?_) (by simp) keep2 ⟨by rw[a3,yA];lia,_,e2,a1,gg⟩,rfl,Z1 hr1 a2 p2 _ n1⟩⟩
   rcases zu.mp hb with rfl|hb
   ·exact fa _ n1
   ·rw[zr]at hb;subst hb;exact fk _ n2
theorem eU5(hc:X.calm=true)(hF:aN4 X.prog X.w X.K X.mg X.base CX0 k f fd ps (spD (wc X) 1 F))(hb:aT1 X.K fd ps [])(hrm:V7 (k+2) X.A)(I:Inv X pins σ H s)(hr:u9 (wc X) μ G H)(rd:d8 (wc X) μ H d v)(ru:J9 v u)
 (p:d7 (wc X) Z μ H (aK0 F d G) (λd X9 _ H'=>∀v,d8 (wc X) X9 H' d v->Q v H')):zt (zz X.prog X.w) X.A (call (.builtin "sorted") [u] [(je "key",.ref f)]) (EP X pins σ Q) X.xe s:=by
 have seq:∀ {a:Addr} {T:String} {o:Obj} {its:List zg} {vs:List V} {n:Nat} {l:List D},(T= "list"\/T= "tuple")->s.heap.get? a=some o->o.cls= .type T->o.data= .seq its.toArray n->v6 vs its->t7 (wc X) μ H l vs->vs.length<=zl->
  d7 (wc X) Z μ H ((if l.length<64 then aP5 F l else M.stuck:M D) G) (λd X9 _ H'=>∀v,d8 (wc X) X9 H' d v->Q v H')->zt (zz X.prog X.w) X.A (call (.builtin "sorted") [.ref a] [(je "key",.ref f)]) (EP X pins σ Q) X.xe s:=by
  intro a T o its vs n l hT h1 h2 h3 rv rl hz p
  split at p
  case isFalse=>exact p.elim
  rename_i h64
  refine cS3 hF hb hrm I hr h64 (λQ' hQ=>wpAny_collect_seq a hT h1 h2 h3 (λh' kk=>?_) (by rw[zj,<-rv.length];exact hz)) p
  exact hQ h' s.toks its vs kk rv rl
 unfold aK0 at p
 split at p
 · rename_i l
   unfold d8 at rd
   obtain⟨a,vs,rfl,q,rl⟩:=rd
   cases ru
   obtain⟨its,rv,⟨o,h1,h2,n,h3⟩,hz⟩:=I.tuple q
   exact seq (.inr rfl) h1 h2 h3 rv rl hz p
 · rename_i i
   unfold d8 at rd
   obtain⟨a,m,rfl⟩:=rd
   cases ru
   obtain⟨o,g,p1⟩:=O1 p
   have ro:=hr.obj i o a g m
   rcases o with l|l|l|l
   ·
     obtain⟨vs,q,rl⟩:=ro
     obtain⟨its,rv,pl,hz⟩:=I.list (SqL.of q)
     obtain⟨o,h1,h2,n,h3⟩:=pl.isList
     exact seq (.inl rfl) h1 h2 h3 rv rl hz p1
   ·exact p1.elim
   ·
     obtain⟨kvs,q,rk⟩:=ro
     obtain⟨ss,es,p2⟩:=T9 p1
     split at p2
     case isFalse=>exact p2.elim
     rename_i h64
     obtain⟨z,hd,vs,rel,dd⟩:=cE3 I.hok q
     obtain⟨ep,hat⟩:=dd.dictAt
     have hn:vs.length=ss.length:=by rw[aV6 es,<-rel.length,<-rk.length]
     refine cS3 hF hb hrm I hr (by simpa using h64) (λQ' hQ=>Jw (PySem.W.kdl_dict hd) (I.ok.hd hc) hat (by rw[yA];omega) λh1 tk acc hk hacc=>?_) p2
     have hS:StrsAre acc.toList ss:=aR7 es rk rel (by rw[zA];exact hacc.1) λj v e=>hacc.2 j v (by rw[<-jq];exact e)
     obtain⟨ws,ew,rv,rl2⟩:=aU7 (μ:=μ) hS
     exact hQ h1 tk acc.toList ws hk rv rl2
   ·exact p1.elim
 ·exact p.elim
end
section
theorem dV2(hc:X.calm=true)(hF:∃k kk,aJ2 F 1 x X.prog X.w X.K X.mg X.base k/\V7 kk X.A/\k+2<=kk)(hbl:BLs X.mg)(hgs:Gl X "sorted")(hg:Gl X x)(he:DE X Z e fe)(hs:T7 e=true)(hdb:(x==("__debug__" :Str))=false):
 DE X Z (.Call (.Name "sorted" p) [e] [⟨some "key",.Name x pf,kp⟩] pos) (aM9 F fe):=⟨by
 intro pins s σ H Q I h
 obtain⟨k,kk,hF,hrm,hk⟩:=hF
 obtain⟨f,fd,ps,f1,f2,f3,f4⟩:=hF.ex
 have hbs:ja ("sorted" :Str)=some (.builtin "sorted"):=bF8
 refine jZ (aK2 I hgs (hbl.h _ (by decide +kernel)) hbs ?_ (by decide) (by decide))
 obtain⟨Z7,μ,G,sr,hr,pp⟩:=h
 unfold aM9 at pp
 have pa:=d7.bind pp
 have hst:zK [e] X.env= (false,eval e X.env)::zK [] X.env:=aA9 hs
 refine callWith_builtin_kwB (by rw[aM4];exact aQ6 (by rw[yc,hs];rfl)) rfl (evalArgs_kw2 rfl ?_ hst)
 have ha:DA X Z [e] (q13 fe q14):=q18 he q19 hst
 refine thn (ha.h pos pins s σ H (λvs H1=>∃v d X1 G1,vs= [v]/\d8 (wc X) X1 H1 d v/\u9 (wc X) X1 G1 H1/\d7 (wc X) Z X1 H1 (aK0 F d G1) (λd X9 _ H'=>∀v,d8 (wc X) X9 H' d v->Q v H')) I ?_) λus s1 ⟨vs,H1,I1,r1,v,d,X1,G1,e1,rd,hr1,p1⟩=>?_
 · refine⟨Z7,μ,G,sr,hr,?_⟩
   show d7 (wc X) Z μ H ((fe Z7 >>= λy=>(pure [y]:M (List D))) G) _
   match hm:fe Z7 G,pa with
   |some (.ok y,G1),pa=>
     rw[M.bind_ok hm]
     intro X9 H' x1 h1 vs rv
     obtain⟨v,ev,rv2⟩:=aQ1 rv
     subst ev
     exact⟨v,y,X9,G1,rfl,rv2,h1,pa X9 H' x1 h1⟩
   |some (.error y,G1),pa=>
     rw[M.bind_eq,hm]
     exact pa
 · subst e1
   obtain⟨u,rfl,ru⟩:=aG1 r1
   show zt _ _ (evalAll [(do let v <-eval (.Name x pf) X.env;Jv pos;pure v)]) _ _ s1
   refine wpAny_evalAll_cons (za (bI8 I1 hg f2 (za (ZV (zc (wpAny_evalAll_nil ?_)))) hdb))
   exact eU5 hc f1 f4 (hrm.mono hk) I1 hr1 rd ru p1⟩
end
def CR(K:zi)(mg:Str->Option zg)(d:D)(u:zg):Prop:=∃v,J9 v u/\∀ μ H,d8 ⟨K,mg⟩ μ H d v
def CRL(K:zi)(mg:Str->Option zg)(l:List D)(us:List zg):Prop:=∃vs,v6 vs us/\∀ μ H,t7 ⟨K,mg⟩ μ H l vs
section
variable{K:zi}{mg:Str->Option zg}
theorem cr_str:CR K mg (.str x) (.str x t):=⟨.str x,⟨t,rfl⟩,λμ H=>by unfold d8;rfl⟩
theorem cr_int:CR K mg (.int i) (.int i t):=⟨.int i,⟨t,rfl⟩,λμ H=>by unfold d8;rfl⟩
theorem cr_bl:CR K mg (.bl b) (.bool b):=⟨.bl b,rfl,λμ H=>by unfold d8;rfl⟩
theorem cr_non:CR K mg .non .none:=⟨.non,rfl,λμ H=>by unfold d8;rfl⟩
theorem crl_nil:CRL K mg [] []:=⟨[],.nil,λ_ _=>rfl⟩
theorem crl_cons(h:CR K mg d u)(t:CRL K mg l us):CRL K mg (d::l) (u::us):=by
 obtain⟨v,r,h⟩:=h
 obtain⟨vs,rs,t⟩:=t
 exact⟨v::vs,.cons r rs,λμ H=>⟨v,vs,rfl,h μ H,t μ H⟩⟩
theorem cr_tup(hl:K.lookup a=some ⟨.type "tuple",none,.seq us.toArray n,sl⟩)(hz:Nat.ble us.length 100=true)(h:CRL K mg l us):CR K mg (.tup l) (.ref a):=by
 obtain⟨vs,rs,t⟩:=h
 refine⟨.ref a,rfl,λμ H=>?_⟩
 unfold d8
 refine⟨a,vs,rfl,.inr ⟨_,us.toArray,n,hl,rfl,rfl,?_,rs⟩,t μ H⟩
 rw[zj]
 exact zC (JV hz) (by decide)
end
structure cE5(K:zi)(mg:Str->Option zg)(x:Str)(d:D):Prop where
 ex:∃u,mg x=some u/\CR K mg d u
section
theorem eN6(hc:cE5 X.K X.mg x d)(hg:Gl X x)(hdb:(x==("__debug__" :Str))=false):DE X Z (.Name x pos) (cE d):=⟨by
 intro pins s σ H Q I hE0
 refine hE0.elim λZ7 μ G sr hr p=>?_
 obtain⟨u,hm,v,ru,rv⟩:=hc.ex
 exact bI8 I hg hm ⟨v,H,I,ru,d7.ok p hr v (rv μ H)⟩ hdb⟩
end
def bZ7:D->M Unit:=λx=>match x with
 | .str _=>pure ()
 |_=>M.stuck
section
variable{X:Cx}{Z:XC}{o e:Expr}{es:List Expr}{fo:Fe}{fs:DSt->M (List D)}{name:Str}{id:String}{mm:D->List D->M D}{apos cpos:Pos}
theorem cP0{H:Hp}{G:DH}{d:D}{v:V}{f:Unit->M α}{K:α->List Addr->DH->Hp->Prop}(r:d8 c μ H d v)(p:d7 c Z μ H ((bZ7 d >>= f) G) K):tyV c.K "str" v H/\d7 c Z μ H (f () G) K:=by
 rcases d with _|_|_|x|_|_|_|_<;>try (exact p.elim;done)
 ·rw[aQ2 r];exact⟨rfl,p⟩
theorem eN0(slot:Slot "str" name id)(hty:typeOf (.builtin id)=pure (.type "method_descriptor"))(hm:MtD X Z id mm)(ho:DE X Z o fo)(ha:DA X Z (e::es) fs)
 (hbase:xn o name X.env (eval o X.env)=eval o X.env)
 (hfew:((yQ cpos (zK (e::es) X.env)).all (λx=> !x.1)&&(XD cpos (ZM [] X.env)).all (λx=>x.1.isSome)
   && decide ((e::es).length+([]:List Keyword).length+(if ([]:List Keyword).isEmpty then 0 else 1)<30))=true)
 (hline:(apos.endLine==cpos.line)=true) (hs:zK (e::es) X.env= (false,eval e X.env)::zK es X.env) (hplain:(yQ cpos (zK es X.env)).any (·.1)=false):
 DE X Z (.Call (.Attribute o name apos) (e::es) [] cpos) (mtE bZ7 mm fo fs):=
 DE.of (dN1 PySem.F.plainAttrs_str slot hty hm ho.h ha.h hbase hfew hline hs hplain) λσ H Q hE0=>hE0.elim λZ7 μ G s h p=>⟨Z7,μ,G,s,h,(d7.bind p).mono λd X1 G1 H1 x1 h1 p1 v rv=>by
  obtain⟨ty,p2⟩:=cP0 rv p1
  exact⟨ty,Z7,X1,G1,s.mono x1,h1,(d7.bind p2).mono λds WZ G2 H2 x2 h2 p3 vs rvs=>⟨d,ds,WZ,G2,rv.mono x2,rvs,h2,p3⟩⟩⟩
end
def bV7(sep:Str)(l:List D):M D:=do
 let ss <-aI5 (aG5 l)
 if (ss.map (·.length)).sum+ss.length*sep.length<=16777216 then pure (.str (Yx sep ss))else M.stuck
def cI6:D->List D->M D:=λx ds=>match x,ds with
 | .str sep, [.tup l]=>bV7 sep l
 | .str sep, [.ref r]=>do
   match <-R1 r with
   | .lst l=>bV7 sep l
   |_=>M.stuck
 |_,_=>M.stuck
section
theorem eD2:MtD X Z "str.join" cI6:=by
 intro pins s σ H x xs v us Q I rx rvs hE0
 obtain⟨d,ds,μ,G,rd,rl,hr,p⟩:=hE0
 unfold cI6 at p
 split at p
 · rename_i sep l
   rw[aQ2 rd]at rx
   obtain⟨t,rfl⟩:=rx
   obtain⟨v1,rfl,rv1⟩:=aQ1 rl
   obtain⟨u,rfl,ru⟩:=aG1 rvs
   unfold d8 at rv1
   obtain⟨a,vs,rfl,q,rl'⟩:=rv1
   cases ru
   obtain⟨its,rv,tp,hz⟩:=I.tuple q
   unfold bV7 at p
   obtain⟨ss,es,p2⟩:=T9 p
   split at p2
   case isFalse=>exact p2.elim
   rename_i hok
   exact join_tuple tp (aZ9 es rl' rv) hok λt' k=>⟨.str (Yx sep ss),H,I.tok k,⟨t',rfl⟩,d7.ok p2 hr _ (by unfold d8;rfl)⟩
 · rename_i sep r
   rw[aQ2 rd]at rx
   obtain⟨t,rfl⟩:=rx
   obtain⟨v1,rfl,rv1⟩:=aQ1 rl
   obtain⟨u,rfl,ru⟩:=aG1 rvs
   unfold d8 at rv1
   obtain⟨a,m,rfl⟩:=rv1
   cases ru
   obtain⟨o,g,p1⟩:=O1 p
   have ro:=hr.obj r o a g m
   rcases o with l|l|l|l
   ·
     obtain⟨vs,q,rl'⟩:=ro
     obtain⟨its,rv,pl,hz⟩:=I.list (SqL.of q)
     unfold bV7 at p1
     obtain⟨ss,es,p2⟩:=T9 p1
     split at p2
     case isFalse=>exact p2.elim
     rename_i hok
     exact join_list pl.isList (aZ9 es rl' rv) hok λt' k=>⟨.str (Yx sep ss),H,I.tok k,⟨t',rfl⟩,d7.ok p2 hr _ (by unfold d8;rfl)⟩
   ·exact p1.elim
   ·exact p1.elim
   ·exact p1.elim
 ·exact p.elim
end
end DL
namespace W
open PySem PySem.Spec L2 DL
open PyProof.Rows hiding St
section
theorem dG6:Wp (bZ7 (.str z)) G R↔R () G:=wp_pure
theorem dT3(e:G[r]? =some (.lst l))(hs:aG5 l=some ss)(hok:(ss.map (·.length)).sum+ss.length*sep.length<=16777216):Wp (cI6 (.str sep) [.ref r]) G Q↔Q (.str (Yx sep ss)) G:=by
 have h:cI6 (.str sep) [.ref r]= (do
  match <-R1 r with
  | .lst l=>bV7 sep l
  |_=>M.stuck):=rfl
 rw[h]
 simp only[j6,S8,e,T8,bV7,aF7,hs,if_pos hok,wp_pure]
end
end W
namespace DL
open PySem PySem.Spec L2
open PyProof.Rows hiding St
noncomputable def bG8(n:Nat)(lo hi st:Option Int):List Nat:=sliceRange (xb lo hi st n).1 (xb lo hi st n).2.1 (xb lo hi st n).2.2
def cF2(l:List D)(lo hi st:Option Int):List D:=(bG8 l.length lo hi st).filterMap (l[·]?)
def cD8:D->Option Int->Option Int->Option Int->M D:=λx lo hi st=>match x with
 | .ref r=>do
   let l <-R1 r >>= listOf
   if st=some 0 then M.stuck else Q5 (.lst (cF2 l lo hi st))
 |_=>M.stuck
def bA4(f:Fe)(lo hi st:Fo):Fe:=λσ=>do
 let x <-f σ
 let l <-lo σ
 let h <-hi σ
 let s <-st σ
 cD8 x l h s
section
variable{X:Cx}{Z:XC}{μ:List Addr}{H:Hp}
theorem t7.pick(h:t7 c μ H l vs):∀is:List Nat,t7 c μ H (is.filterMap (l[·]?)) (is.filterMap (vs[·]?))
 |[]=>rfl
 |i::r=>by
   have ih:=t7.pick h r
   rw[jQ,jQ]
   by_cases hi:i<l.length
   · have e:l[i]? =some l[i]:=zf hi
     obtain⟨v,e2,r2⟩:=h.get e
     rw[e,e2]
     exact⟨v,_,rfl,r2,ih⟩
   · have hi2:vs.length<=i:=by rw[<-h.length];lia
     rw[zN (by lia),zN hi2]
     exact ih
theorem bD5(h:v6 vs us):∀is:List Nat,v6 (is.filterMap (vs[·]?)) (is.filterMap (us[·]?))
 |[]=>.nil
 |i::r=>by
   have ih:=bD5 h r
   rw[jQ,jQ]
   by_cases hi:i<vs.length
   · have e:vs[i]? =some vs[i]:=zf hi
     obtain⟨v,e2,r2⟩:=h.get e
     rw[e,e2]
     exact .cons r2 ih
   · have hi2:us.length<=i:=by rw[<-h.length];lia
     rw[zN (by lia),zN hi2]
     exact ih
variable{e t:Expr}{lo hi:Option Expr}{fa:Fe}{fl fh ft:Fo}{p2 pos:Pos}
theorem dC2(he:DE X Z e fa)(hl:DOp X Z lo fl)(hu:DOp X Z hi fh)(ht:DOp X Z (some t) ft):DE X Z (.Subscript e (.Slice lo hi (some t) p2) pos) (bA4 fa fl fh ft):=⟨by
 intro pins s σ H Q I hE0
 refine hE0.elim λZ7 μ G sr h p=>?_
 have p0:=d7.bind p
 refine Subscript_ (thn (he.h pins s σ H (λv H1=>∃d X1 G1,d8 (wc X) X1 H1 d v/\u9 (wc X) X1 G1 H1/\M5 (wc X) X1 H1 Z7 σ/\d7 (wc X) Z X1 H1 ((fl Z7 >>= λl=>fh Z7 >>= λh=>ft Z7 >>= λs=>cD8 d l h s) G1) (λd X9 _ H'=>∀v,d8 (wc X) X9 H' d v->Q v H')) I ⟨Z7,μ,G,sr,h,p0.mono λd X1 G1 H1 x1 h1 p1 v rv=>⟨d,X1,G1,rv,h1,sr.mono x1,p1⟩⟩) λv s1 ⟨x,H1,I1,r1,d,X1,G1,rd,h1,sr1,p1⟩=>?_)
 refine wpAny_Slice ?_
 refine thn (hl.h pins s1 σ H1 (λl H2=>∃ WZ G2,d8 (wc X) WZ H2 d x/\u9 (wc X) WZ G2 H2/\M5 (wc X) WZ H2 Z7 σ/\d7 (wc X) Z WZ H2 ((fh Z7 >>= λh=>ft Z7 >>= λs=>cD8 d l h s) G2) (λd X9 _ H'=>∀v,d8 (wc X) X9 H' d v->Q v H')) I1 ⟨Z7,X1,G1,sr1,h1,(d7.bind p1).mono λl WZ G2 H2 x2 h2 p2=>⟨WZ,G2,rd.mono x2,h2,sr1.mono x2,p2⟩⟩) λvl s2 ⟨l,H2,I2,pl,WZ,G2,rd2,h2,sr2,p2⟩=>?_
 refine thn (hu.h pins s2 σ H2 (λu H3=>∃ WS G3,d8 (wc X) WS H3 d x/\u9 (wc X) WS G3 H3/\M5 (wc X) WS H3 Z7 σ/\d7 (wc X) Z WS H3 ((ft Z7 >>= λs=>cD8 d l u s) G3) (λd X9 _ H'=>∀v,d8 (wc X) X9 H' d v->Q v H')) I2 ⟨Z7,WZ,G2,sr2,h2,(d7.bind p2).mono λu WS G3 H3 x3 h3 p3=>⟨WS,G3,rd2.mono x3,h3,sr2.mono x3,p3⟩⟩) λvu s3 ⟨u,H3,I3,pu,WS,G3,rd3,h3,sr3,p3⟩=>?_
 refine thn (ht.h pins s3 σ H3 (λk H4=>∃ WP G4,d8 (wc X) WP H4 d x/\u9 (wc X) WP G4 H4/\d7 (wc X) Z WP H4 (cD8 d l u k G4) (λd X9 _ H'=>∀v,d8 (wc X) X9 H' d v->Q v H')) I3 ⟨Z7,WS,G3,sr3,h3,(d7.bind p3).mono λk WP G4 H4 x4 h4 p4=>⟨WP,G4,rd3.mono x4,h4,p4⟩⟩) λvk s4 ⟨k,H4,I4,pk,WP,G4,rd4,h4,p4⟩=>?_
 have I5:Inv X pins σ H4 {s4 with heap:=s4.heap.push {cls:=.type "slice",data:=.fields #[vl,vu,vk]}}:=I4.kept λb ob q=>zh _ q
 have hsl:Heap.IsSliceOf (s4.heap.push {cls:=.type "slice",data:=.fields #[vl,vu,vk]}) s4.heap.objs.size vl vu vk:=Xw ..
 cases d with
 |ref r=>
   obtain⟨ls,a,vs,rfl,rl,p5,hq⟩:=aW2 h4 rd4 p4
   cases r1
   split at p5
   case isTrue=>exact p5.elim
   rename_i hk0
   have hs:SqL X.K H4 a vs:=by
    rcases hq with⟨z,_⟩|⟨_,_,_,⟨_,q⟩|⟨_,q⟩⟩
    ·cases z
    ·exact SqL.of q
    ·exact q.sq
   obtain⟨its,rr,ht,hz⟩:=I5.list hs
   refine tail_any ht.isList.typeIs Xz.lookup (JZ ht.isList hsl pl pu pk hk0 ?_ (by rw[zj,<-rr.length];exact hz)) (by with_unfolding_all rfl)
   have hf:=I5.hok.fresh (zo _)
   have en:its.toArray.size=vs.length:=by rw[zj,rr.length]
   have ep:XX its.toArray l u k=jn ((bG8 ls.length l u k).filterMap (its[·]?)):=by
    unfold XX bG8
    rw[rl.length,en]
    congr 1
    congr 1
    funext i
    simp
   have hlen:((bG8 ls.length l u k).filterMap (vs[·]?)).length<=zl:=by
    have h1:=slicePick_size_le its.toArray l u k
    rw[ep,zj,zj]at h1
    have h2:=(bD5 rr (bG8 ls.length l u k)).length
    have h3:=rr.length
    lia
   rw[ep]
   refine⟨.ref _,upd H4 _ (.lst ((bG8 ls.length l u k).filterMap (vs[·]?))),I5.laid (λb u e=>zh _ e) (zo _) ?_,rfl,Z1 h4 (rl.pick _) p5 _ hf⟩
   exact⟨hlen,_,0,bD5 rr _,zp _ rfl⟩
 |_=>exact p4.elim⟩
end
end DL
namespace W
open PySem PySem.Spec L2 DL
open PyProof.Rows hiding St
section
theorem dE7{lo hi st:Fo}:Wp (bA4 f lo hi st σ) G Q↔Wp (f σ) G λx G1=>Wp (lo σ) G1 λl G2=>Wp (hi σ) G2 λh G3=>Wp (st σ) G3 λk G4=>Wp (cD8 x l h k) G4 Q:=by
 unfold bA4;simp only[j6]
theorem dW7{lo hi st:Option Int}(e:G[p]? =some (.rol l))(h:st≠some 0):Wp (cD8 (.ref p) lo hi st) G Q↔Q (.ref G.length) (G++[.lst (cF2 l lo hi st)]):=by
 have h0:cD8 (.ref p) lo hi st= (do
  let l <-R1 p >>= DL.listOf
  if st=some 0 then M.stuck else Q5 (.lst (cF2 l lo hi st))):=rfl
 rw[h0]
 simp only[j6,S8,e,T8,DL.listOf,wp_pure,if_neg h,S6]
end
end W
namespace DL
open PySem PySem.Spec L2
open PyProof.Rows hiding St
section
theorem cL8(σ:St)(H:Hp)(Q:VK)(h:aS2 (wc X) Z (bE3 o o' fa fb fc) σ H Q):dV1 (aU3 (wc X) Z o) (aU3 (wc X) Z o') (aS2 (wc X) Z fa) (aS2 (wc X) Z fb) (aS2 (wc X) Z fc) σ H Q:=by
 obtain⟨Z7,μ,G,s,h,p⟩:=h
 exact⟨Z7,μ,G,s,h,(d7.bind p).mono λx X1 G1 H1 x1 h1 p1 v rv=>
  ⟨Z7,X1,G1,s.mono x1,h1,(d7.bind p1).mono λy WZ G2 H2 x2 h2 p2 u ru=>⟨x,y,WZ,G2,rv.mono x2,ru,h2,(d7.bind p2).mono λz WS G3 H3 x3 h3 p3 w rw'=>by
   obtain⟨k,rfl,p4⟩:=bT4 p3
   refine⟨k,bR3 rw',?_⟩
   cases k with
   |true=>exact⟨Z7,WS,G3,s.mono (x1.trans (x2.trans x3)),h3,(d7.bind p4).mono λt WP G4 H4 x4 h4 p5 q rq=>⟨y,t,WP,G4,ru.mono (x3.trans x4),rq,h4,p5⟩⟩
   |false=>exact d7.ok p4 h3 _ ofB⟩⟩⟩
theorem dP0(ho:OpD X Z (zR op) o)(ho':OpD X Z (zR op') o')(ha:DE X Z a fa)(hb:DE X Z b fb)(hc:DE X Z c fc)
 (hm:lastMarks [op,op'] [b,c]=false):DT X Z (.Compare a [op,op'] [b,c] pos) (f9 (bE3 o o' fa fb fc)):=
 DT.of (dV0 ho.h ho'.h ha.h hb.h hc.h hm) λσ H Q hE0=>hE0.elim λZ7 μ G s h p=>cL8 σ H _ ⟨Z7,μ,G,s,h,(d7.bind p).mono λx X1 G1 H1 x' h1 p1 v rv=>by
  cases x with
  |bl k'=>unfold d8 at rv;exact⟨k',rv,d7.ok p1 h1⟩
  |_=>exact p1.elim⟩
theorem cY0(hF:∃k kk,aJ2 F 0 x X.prog X.w X.K X.mg X.base k/\V7 kk X.A/\k<=kk)(hg:Gl X x)(hdb:(x==("__debug__" :Str))=false):
 DE X Z (.Call (.Name x p) [] [] pos) (q15 (fnX 0 F) q14):=by
 obtain⟨k,kk,hF,hr,hk⟩:=hF
 obtain⟨f,fd,ps,h1,h2,h3,h4⟩:=hF.ex
 exact DE.of (dJ2 h1 (hr.mono hk) hg h2 h3 h4 .nil dO2 hdb) λσ H Q hE0=>hE0.elim λZ7 μ G s h p=>by
  obtain⟨hl,p2⟩:=cJ8 (show d7 (wc X) Z μ H (fnX 0 F [] G) _ from p)
  exact⟨rfl, [],μ,G,rfl,h,p2⟩
end
section
end
end DL
namespace W
open PySem PySem.Spec L2 DL
open PyProof.Rows hiding St
end W
namespace DL
open PySem PySem.Spec L2
open PyProof.Rows hiding St
def bC3:D->M Unit:=λx=>match x with
 | .ref r=>do
   match <-R1 r with
   | .dct _=>pure ()
   |_=>M.stuck
 |_=>M.stuck
def getD:D->List D->M D:=λx ds=>match x,ds with
 | .ref r, [.str z,d]=>do
   match <-R1 r with
   | .dct l=>pure ((aC7 l (.inr z)).getD d)
   |_=>M.stuck
 |_,_=>M.stuck
section
variable{X:Cx}{Z:XC}{o e:Expr}{es:List Expr}{fo:Fe}{fs:DSt->M (List D)}{name:Str}{id:String}{mm:D->List D->M D}{apos cpos:Pos}
theorem cG5{H:Hp}{G:DH}{d:D}{v:V}{f:Unit->M α}{K:α->List Addr->DH->Hp->Prop}(h:u9 c μ G H)(r:d8 c μ H d v)(p:d7 c Z μ H ((bC3 d >>= f) G) K):tyV c.K "dict" v H/\d7 c Z μ H (f () G) K:=by
 rcases d with _|_|_|_|_|i|_|_<;>try (exact p.elim;done)
 ·
   unfold d8 at r
   obtain⟨a,m,rfl⟩:=r
   have p':d7 c Z μ H ((R1 i >>= λo=>(match o with| .dct _=>pure ()|_=>M.stuck:M Unit) >>= f) G) K:=by rw[<-M.bind_assoc];exact p
   obtain⟨o,g,p2⟩:=O1 p'
   have ro:=h.obj i o a g m
   rcases o with _|_|l|_<;>try (exact p2.elim;done)
   ·obtain⟨vs,e,rl⟩:=ro;exact⟨.inr (.inr (.inl ⟨rfl,.inl ⟨vs,e⟩⟩)),p2⟩
theorem eT7(slot:Slot "dict" name id)(hty:typeOf (.builtin id)=pure (.type "method_descriptor"))(hm:MtD X Z id mm)(ho:DE X Z o fo)(ha:DA X Z (e::es) fs)
 (hbase:xn o name X.env (eval o X.env)=eval o X.env)
 (hfew:((yQ cpos (zK (e::es) X.env)).all (λx=> !x.1)&&(XD cpos (ZM [] X.env)).all (λx=>x.1.isSome)
   && decide ((e::es).length+([]:List Keyword).length+(if ([]:List Keyword).isEmpty then 0 else 1)<30))=true)
 (hline:(apos.endLine==cpos.line)=true) (hs:zK (e::es) X.env= (false,eval e X.env)::zK es X.env) (hplain:(yQ cpos (zK es X.env)).any (·.1)=false):
 DE X Z (.Call (.Attribute o name apos) (e::es) [] cpos) (mtE bC3 mm fo fs):=
 DE.of (dN1 PySem.F.plainAttrs_dict slot hty hm ho.h ha.h hbase hfew hline hs hplain) λσ H Q hE0=>hE0.elim λZ7 μ G s h p=>⟨Z7,μ,G,s,h,(d7.bind p).mono λd X1 G1 H1 x1 h1 p1 v rv=>by
  obtain⟨ty,p2⟩:=cG5 h1 rv p1
  exact⟨ty,Z7,X1,G1,s.mono x1,h1,(d7.bind p2).mono λds WZ G2 H2 x2 h2 p3 vs rvs=>⟨d,ds,WZ,G2,rv.mono x2,rvs,h2,p3⟩⟩⟩
theorem eO2(hu:X.A.units+64<yC):MtD X Z "dict.get" getD:=by
 intro pins s σ H x xs v us Q I rx rvs hE0
 obtain⟨d,ds,μ,G,rd,rl,hr,p⟩:=hE0
 delta getD at p
 rcases d with _|_|_|_|_|r|_|_<;>try exact p.elim
 rcases ds with _|⟨_|_|_|z|_|_|_|_,_|⟨y,_|⟨_,_⟩⟩⟩<;>dsimp only at p<;>try exact p.elim
 · unfold d8 at rd
   obtain⟨a,m,rfl⟩:=rd
   obtain⟨zv,t1,rfl,rz,yv,t2,rfl,ry,e⟩:=rl
   cases e
   obtain⟨u1,us1,rfl,ru1,rv1⟩:∃u1 us1,us=u1::us1/\J9 zv u1/\v6 [yv] us1:=by
    cases rvs with|cons h t=>exact⟨_,_,rfl,h,t⟩
   obtain⟨u2,rfl,ru2⟩:=aG1 rv1
   obtain⟨o,g,p1⟩:=O1 p
   have ro:=hr.obj r o a g m
   rcases o with _|_|l|_<;>try (exact p1.elim;done)
   ·
     obtain⟨kvs,q,rk⟩:=ro
     cases rx
     have ez:=aQ2 rz
     subst ez
     have dg:cJ5 H a (V.str z) (aW9 kvs (.inr z)):=.inl ⟨kvs,.inr z,.inl q,rfl,rfl⟩
     refine eL2 (by lia) I dg ru1 ru2 λw' s' I' rw'=>⟨_,H,I',rw',?_⟩
     have lk:=bF4 (k:=.inr z) rk
     rcases el:aC7 l (.inr z)with _|w
     ·
       rw[el]at lk
       dsimp only at lk p1
       rw[el]at p1
       rw[lk]
       exact d7.ok p1 hr _ ry
     ·
       rw[el]at lk
       obtain⟨v',e1,r1⟩:=lk
       dsimp only at p1
       rw[el]at p1
       rw[e1]
       exact d7.ok p1 hr _ r1
end
section
end
def aS6(G:DH)(x:D):List D->Option Bool
 |[]=>some false
 |d::t=>match eqN 40 G d x,aS6 G x t with
   |some a,some b=>some (a||b)
   |_,_=>none
theorem dV6:aS6 G x (d::t)=match eqN 40 G d x,aS6 G x t with
 |some a,some b=>some (a||b)
 |_,_=>none:=rfl
def cG3(x y:D)(G:DH):Option Bool:=match y with
 | .tup l=>aS6 G x l
 | .ref r=>match G[r]? with
   |some (.lst l)=>aS6 G x l
   |some (.rol l)=>aS6 G x l
   |_=>none
 |_=>none
def inX:D->D->M D:=λx y G=>match cG3 x y G with
 |some b=>some (.ok (.bl b),G)
 |none=>none
section
theorem dA1(hu:X.A.units+64<yC)(I:Inv X pins σ H s)(hr:u9 (wc X) μ G H)(rdx:d8 (wc X) μ H dx x)(rx:J9 x v):
 ∀ {l} {vs} {us} {b},t7 (wc X) μ H l vs->v6 vs us->aS6 G dx l=some b->
  (∀u∈us,∃c,jP X.A.in1 s u v c)/\(b=true->∃u∈us,jP X.A.in1 s u v true)/\(b=false->∀u∈us,jP X.A.in1 s u v false):=by
 intro l
 induction l with
 |nil=>
   intro vs us b rl rv e
   cases rl
   cases rv
   cases e
   exact⟨λu hu=>(by cases hu),λz=>absurd z jm,λ_ u hu=>(by cases hu)⟩
 |cons d t ih=>
   intro vs us b rl rv e
   obtain⟨w,tv,rfl,q,rt⟩:=rl
   cases rv with
   |cons r1 rs=>
   rename_i u us1
   rw[dV6]at e
   rcases e1:eqN 40 G d dx with _|a
   ·rw[e1]at e;cases e
   ·
     rcases e2:aS6 G dx t with _|b2
     ·rw[e1,e2]at e;cases e
     ·
       rw[e1,e2]at e
       cases e
       have h1:=(bK8 I hr 40 X.A.in1 (by show X.A.units+1+40<yC;lia) q rdx r1 rx e1).2.2
       obtain⟨k1,k2,k3⟩:=ih rt rs e2
       refine⟨λu' hu'=>?_,λz=>?_,λz u' hu'=>?_⟩
       · rcases zu.mp hu' with rfl|hu'
         ·exact⟨a,h1⟩
         ·exact k1 u' hu'
       · rcases a with _|_
         ·
           obtain⟨u',h3,h4⟩:=k2 z
           exact⟨u',zk _ h3,h4⟩
         ·exact⟨u,zq,h1⟩
       · rcases a with _|_
         ·
           rcases zu.mp hu' with rfl|hu'
           ·exact h1
           ·exact k3 z u' hu'
         ·cases z
open Classical in
theorem cD4(hu:X.A.units+64<yC)(I:Inv X pins σ H s)(hr:u9 (wc X) μ G H)(rdx:d8 (wc X) μ H dx x)(rx:J9 x v)
 (rl:t7 (wc X) μ H l vs) (rv:v6 vs us) (e:aS6 G dx l=some b):
   ∃f:zg->Bool,(∀u∈us,jP X.A.in1 s u v (f u))/\us.any f=b:=by
 obtain⟨k1,k2,k3⟩:=dA1 hu I hr rdx rx rl rv e
 rcases b with _|_
 ·exact⟨λ_=>false,λu hu=>k3 rfl u hu,by simp⟩
 ·
   refine⟨λu=>decide (jP X.A.in1 s u v true),λu hu=>?_,?_⟩
   · dsimp only
     by_cases c:jP X.A.in1 s u v true
     ·rw[decide_eq_true c];exact c
     · rw[decide_eq_false c]
       obtain⟨c',hc⟩:=k1 u hu
       rcases c' with _|_
       ·exact hc
       ·exact absurd hc c
   · obtain⟨u,hu,h⟩:=k2 rfl
     exact xY.mpr ⟨u,hu,decide_eq_true h⟩
theorem eT2(hu:X.A.units+64<yC)(I:Inv X pins σ H s)(hr:u9 (wc X) μ G H)(rdx:d8 (wc X) μ H dx x)(rdy:d8 (wc X) μ H dy y)(rx:J9 x v)(ry:J9 y u)
 (e:cG3 dx dy G=some b):
 (Q (.bl b) H->zt (zz X.prog X.w) X.A (zR .In v u) (EP X pins σ Q) X.xe s)/\(Q (.bl (!b)) H->zt (zz X.prog X.w) X.A (zR .NotIn v u) (EP X pins σ Q) X.xe s):=by
 have seq:∀(p:Addr) (l:List D) (vs:List V),y= .ref p->(SqL X.K H p vs\/SqT X.K H p vs)->t7 (wc X) μ H l vs->aS6 G dx l=some b->
  (Q (.bl b) H->zt (zz X.prog X.w) X.A (zR .In v u) (EP X pins σ Q) X.xe s)/\(Q (.bl (!b)) H->zt (zz X.prog X.w) X.A (zR .NotIn v u) (EP X pins σ Q) X.xe s):=by
  intro p l vs hy hq rl e
  subst hy
  cases ry
  rcases hq with hq|hq
  · obtain⟨its,r,pl,hz⟩:=I.list hq
    obtain⟨f,h1,h2⟩:=cD4 hu I hr rdx rx rl r e
    have h3:its.toArray.any f=b:=by rw[<-h2];simp
    exact⟨λq=>SeqAt.in_listAt f pl.isList (λw hw=>h1 w (by simpa using hw)) ⟨.bl _,H,I,rfl,by rw[h3];exact q⟩,λq=>SeqAt.notIn_listAt f pl.isList (λw hw=>h1 w (by simpa using hw)) ⟨.bl _,H,I,rfl,by rw[h3];exact q⟩⟩
  · obtain⟨its,r,pl,hz⟩:=I.tuple hq
    obtain⟨f,h1,h2⟩:=cD4 hu I hr rdx rx rl r e
    have h3:its.toArray.any f=b:=by rw[<-h2];simp
    exact⟨λq=>SeqAt.in_tupleAt f pl (λw hw=>h1 w (by simpa using hw)) ⟨.bl _,H,I,rfl,by rw[h3];exact q⟩,λq=>JT f pl (λw hw=>h1 w (by simpa using hw)) ⟨.bl _,H,I,rfl,by rw[h3];exact q⟩⟩
 rcases dy with _|_|_|_|l|i|_|_<;>try (cases e;done)
 ·
   unfold d8 at rdy
   obtain⟨a,vs,hy,q,rl⟩:=rdy
   exact seq a l vs hy (.inr q) rl e
 ·
   unfold d8 at rdy
   obtain⟨a,m,hy⟩:=rdy
   rcases g:G[i]? with _|o
   ·unfold cG3 at e;simp only[g]at e;cases e
   ·
     have ro:=hr.obj i o a g m
     rcases o with l|l|_|_<;>try (unfold cG3 at e;simp only[g]at e;cases e;done)
     ·
       obtain⟨vs,q,rl⟩:=ro
       unfold cG3 at e;simp only[g]at e
       exact seq a l vs hy (.inl (SqL.of q)) rl e
     ·
       obtain⟨vs,q,rl⟩:=ro
       unfold cG3 at e;simp only[g]at e
       exact seq a l vs hy (.inl q.sq) rl e
theorem eP7(hu:X.A.units+64<yC):OpD X Z (zR .In) inX:=⟨by
 intro pins s σ H x y v u Q I rx ry hE0
 refine hE0.elim λdx dy μ G rdx rdy hr p=>?_
 unfold inX at p
 rcases e:cG3 dx dy G with _|b
 ·rw[e]at p;exact p.elim
 ·rw[e]at p;exact(eT2 hu I hr rdx rdy rx ry e).1 (d7.ok p hr _ ofB)⟩
end
section
end
end DL
namespace W
open PySem PySem.Spec L2 DL
open PyProof.Rows hiding St
theorem dW5(h:G[r]? =some (.dct l)):Wp (getD (.ref r) [.str z,d]) G Q↔Q ((aC7 l (.inr z)).getD d) G:=by
 have e:getD (.ref r) [.str z,d]= (R1 r >>= λo=>match o with| .dct l=>pure ((aC7 l (.inr z)).getD d)|_=>M.stuck:M D):=rfl
 rw[e]
 simp only[j6,S8,h,T8,wp_pure]
theorem dE4(h:G[r]? =some (.dct l)):Wp (bC3 (.ref r)) G Q↔Q () G:=by
 have e:bC3 (.ref r)= (R1 r >>= λo=>match o with| .dct l=>pure ()|_=>M.stuck:M Unit):=rfl
 rw[e]
 simp only[j6,S8,h,T8,wp_pure]
end W
namespace DL
open PySem PySem.Spec L2
open PyProof.Rows hiding St
section
end
section
end
end DL
namespace W
open PySem PySem.Spec L2 DL
open PyProof.Rows hiding St
end W
namespace DL
open PySem PySem.Spec L2
open PyProof.Rows hiding St
theorem c7(e:m G=some (.ok a,G'))(q:Q a G'):Wp m G Q:=⟨a,G',e,q⟩
noncomputable def PB(Q:DPP):Fl->DH->Prop
 | .nx _,G=>Q .non G
 | .rt d,G=>Q d G
 |_,_=>False
section
variable{m:Nat}{f S g:Fs}{ds as:List D}{d:D}{G G':DH}{Q:DPP}{P A:Fl->DH->Prop}{σ X2:DSt}{e:Fe}
theorem K7(w:Wp (f (ds.map some++jk (m-ds.length) none)) G (PB Q)):Wp (v9 m f ds) G Q:=
 aA3.mpr (w.mono λfl G1 h=>match fl,h with
  | .nx _,h=>h
  | .rt _,h=>h
  | .bk _,h=>h.elim
  | .ct _,h=>h.elim)
theorem J8(q:Q d G):PB Q (.rt d) G:=q
theorem aL5(e:f (ds.map some++jk (m-ds.length) none) G=some (.ok (.rt d),G'))(q:Q d G'):Wp (v9 m f ds) G Q:=K7 (c7 e q)
theorem Z9(e:S σ G=some (.ok (.nx X2),G'))(w:Wp (g X2) G' P):Wp (j5 S g σ) G P:=d9.mpr (c7 e w)
theorem fM3(w:Wp (S σ) G A) (k:∀fl G1,A fl G1->match fl with
 | .nx X2=>Wp (g X2) G1 P
 |r=>P r G1):Wp (j5 S g σ) G P:=d9.mpr (w.mono k)
end
section
variable{a b c:Fe}{d x y z:D}{G G1 G2:DH}{R:List D->DH->Prop}{σ:DSt}
theorem cQ5(e:t σ G=some (.ok true,G1))(w:Wp (f σ) G1 P):Wp (ifS t f g σ) G P:=bC9.mpr (c7 e w)
theorem bO6(e:t σ G=some (.ok false,G1))(w:Wp (g σ) G1 P):Wp (ifS t f g σ) G P:=bC9.mpr (c7 e w)
theorem Q4(w:Wp (t σ) G λk G1=>(k=true->Wp (f σ) G1 P)/\(k=false->Wp (g σ) G1 P)):Wp (ifS t f g σ) G P:=
 bC9.mpr (w.mono λk G1 h=>by cases k with|true=>exact h.1 rfl|false=>exact h.2 rfl)
theorem aH7(w:Wp (t σ) G λk G1=>(k=true->Wp (u σ) G1 B)/\(k=false->B false G1)):Wp (aH6 t u σ) G B:=
 cV7.mpr (w.mono λk G1 h=>by cases k with|true=>exact h.1 rfl|false=>exact h.2 rfl)
theorem aD1(w:Wp (t σ) G λk G1=>(k=true->B true G1)/\(k=false->Wp (u σ) G1 B)):Wp (orT t u σ) G B:=
 eX4.mpr (w.mono λk G1 h=>by cases k with|true=>exact h.1 rfl|false=>exact h.2 rfl)
theorem cC4{g:Fg}(e:fs σ G=some (.ok [.int j],G1))(h0:0<=j)(h1:j<=10000)(w:Wp (N6 g t a (λ_=>true) (K6 0 j.toNat) (W3 caps σ)) G1 λys G2=>Q (.ref G2.length) (G2++[.lst ys])):Wp (R0 (aB6 fs) caps g t a σ) G Q:=by
 refine W.wp_comp.mpr (W.rng1.mpr (c7 e ((W.rng1_int ⟨by lia,by lia⟩).mpr ⟨?_,w⟩)))
 show (K6 0 j.toNat).length<=zl
 unfold K6;rw[ze,yk]
 exact zC (by lia) (show 10000<=zl by decide)
theorem aJ0{g:Fg}(e:b σ G=some (.ok (.tup l),G1))(h:l.length<=10000)(w:Wp (N6 g t a (λ_=>true) l (W3 caps σ)) G1 λys G2=>Q (.ref G2.length) (G2++[.lst ys])):Wp (R0 (itW b) caps g t a σ) G Q:=
 W.wp_comp.mpr (W.wp_itW.mpr (c7 e (W.srcW_tup.mpr ⟨zC h (show 10000<=zl by decide),w⟩)))
theorem cM1(w:Wp (t σ) G λk G1=>(k=true->Wp (f σ) G1 A)/\(k=false->Wp (g σ) G1 A))(k:∀fl G1,A fl G1->P fl G1):Wp (ifS t f g σ) G P:=(Q4 w).mono k
theorem N7(w:Wp (a σ) G λd G1=>P (.nx (σ.set i (some d))) G1):Wp (o9 a (q16 i) σ) G P:=S7.mpr (w.mono λ_ _ h=>O9.mpr h)
theorem K1(w:Wp (a σ) G λd G1=>P (.rt d) G1):Wp (m8 a σ) G P:=aF8.mpr w
theorem j8(e:fs σ G=some (.ok as,G1))(h:as.length=n)(w:Wp (F as) G1 Q):Wp (q15 (fnX n F) fs σ) G Q:=X6.mpr (c7 e (Q8.mpr ⟨h,w⟩))
theorem aJ6(e:fs σ G=some (.ok as,G1))(w:Wp (F as) G1 Q):Wp (q15 F fs σ) G Q:=X6.mpr (c7 e w)
theorem M7(w:Wp (fs σ) G λas G1=>Wp (F as) G1 Q):Wp (q15 F fs σ) G Q:=X6.mpr w
theorem t8(ea:a σ G=some (.ok x,G1))(eb:b σ G1=some (.ok y,G2))(w:Wp (o x y) G2 Q):Wp (b8 o a b σ) G Q:=aI4.mpr (c7 ea (c7 eb w))
theorem t6(w:Wp (a σ) G λx G1=>Wp (b σ) G1 λy G2=>Wp (o x y) G2 Q):Wp (b8 o a b σ) G Q:=aI4.mpr w
theorem O2(e:a σ G=some (.ok x,G1))(w:Wp (fs σ) G1 λxs G2=>R (x::xs) G2):Wp (q13 a fs σ) G R:=T5.mpr (c7 e w)
theorem m7(w:Wp (a σ) G λx G1=>Wp (fs σ) G1 λxs G2=>R (x::xs) G2):Wp (q13 a fs σ) G R:=T5.mpr w
theorem m9(w:Wp (a σ) G λx G1=>∃k,x= .bl k/\B k G1):Wp (f9 a σ) G B:=aL6.mpr w
end
def FH(K:zi)(x:Str)(st:Stmt):Prop:=∃(f:Addr) (od an:Option Addr) (sl:Array (Option zg)) (oc kV dc pm cd ct:zg),Zg K jv x=some (some (.ref f))/\
 K.lookup f=some ⟨oc,od,.func (yo x x (aL8 st) (aB9 st) (M6 st) .none kV dc pm an cd ct),sl⟩/\Zk K cd x=true/\yh K (.ref f)=true
section
variable{K:zi}{h:Heap}{mg:Str->Option zg}{x:Str}{st:Stmt}
theorem FH.of{oc kV dc pm cd ct:zg}(a:Zg K jv x=some (some (.ref f)))
 (l:K.lookup f=some ⟨oc,od,.func (yo x x (aL8 st) (aB9 st) (M6 st) .none kV dc pm an cd ct),sl⟩) (e:Zk K cd x=true) (k:yh K (.ref f)=true):FH K x st:=
 ⟨f,od,an,sl,oc,kV,dc,pm,cd,ct,a,l,e,k⟩
variable{ps:List Str}
theorem FH.ff(H:FH K x st)(X:K.In h)(G:h.Ns jv mg)(b:∀kV doc pm an cdv ct us,us.length=ps.length->bindArgs (yo x x (aL8 st) (aB9 st) (M6 st) .none kV doc pm an cdv ct) ⟨us, []⟩=pure (ps.zip us)):∃f fd,FF K mg x st ps f fd:=by
 obtain⟨f,od,an,sl,oc,kV,dc,pm,cd,ct,a,l,e,k⟩:=H
 exact⟨_,_,bZ1 l e k,(bZ1 l e k).binds b,Yp X G a⟩
theorem fJ9(h:us.length=n+1):∃a t,us=a::t/\t.length=n:=by
 rcases us with _|⟨a,t⟩
 ·cases h
 ·exact⟨a,t,rfl,Nat.succ.inj h⟩
theorem BLs.of(X:K.In h)(G:h.Ns jv mg)(z:∀b∈bltL,Zg K jv b=some none):BLs mg:=⟨λb hb=>PySem.W.mg_none_of X G (z b hb)⟩
end
noncomputable abbrev eR3(h:Heap)(z TI TO:Addr)(f0:zg)(b:Bool):Prop:=
 h.get? z=some {cls:=.type "zip",dict:=none,data:=.fields #[f0,.bool b,.bool false,.ref TI,.ref TO],slots:= #[]}
section
variable{prog:zT}{w:jg}{A:ji}{E:VSP}{s:zm}{k1 k2:Bool}{i:Nat}{z TI TO i1 i2 l1 l2 T:Addr}{xs ys:Array zg}{b:Bool}
structure ZSt(k1 k2:Bool)(z TI TO i1 i2 l1 l2:Addr)(xs ys:Array zg)(n0 i:Nat)(h:Heap):Prop where
 hz:(IsZip h z TI TO .none/\∃a b,IsPair h TO a b)\/∃T b,eR3 h z TI TO (xS ((n0+T:Nat):Int)) b/\T<i
 hTI:IsPair h TI (.ref i1) (.ref i2)
 h1:SI k1 h i1 l1 i
 h2:SI k2 h i2 l2 i
 c1:SC k1 h l1 xs
 c2:SC k2 h l2 ys
end
section
variable{H:Hp}{n0:Nat}{ws:List (V×V)}
end
section
variable{X:Cx}{Z:XC}{a b:Expr}{fs:DSt->M (List D)}{p1 p2 pos1 pos2:Pos}
end
end DL
namespace TS
open PySem PyProof.Rows
section
variable{prog:zT}{w:jg}{A:ji}{E:VSP}{s:zm}
noncomputable def kz(p:ZR):Int:=numOf p.1
end
def leK(x y:ZR):Prop:=kz x<=kz y
def Srt(l:List ZR):Prop:=l.Pairwise leK
structure MI(L out A B:List ZR):Prop where
 perm:(out++(A++B)).Perm L
 so:Srt out
 oa:∀x∈out,∀y∈A,leK x y
 ob:∀x∈out,∀y∈B,leK x y
 sa:Srt A
 sb:Srt B
structure MJ(L A B S:List ZR):Prop where
 perm:(A++(B++S)).Perm L
 ss:Srt S
 as:∀x∈A,∀y∈S,leK x y
 bs:∀x∈B,∀y∈S,leK x y
 sa:Srt A
 sb:Srt B
structure LI(a b:Array ZR)(out:Array ZR)(ia ib:Nat):Prop where
 mi:MI (a.toList++b.toList) out.toList (a.toList.drop ia) (b.toList.drop ib)
 ha:ia+1<a.size
 hb:ib<b.size
 sz:out.size=ia+ib
section
variable{a b out:Array ZR}{ia ib:Nat}
end
section
variable{prog:zT}{w:jg}{A:ji}{E:VSP}{s:zm}
end
section
variable{prog:zT}{w:jg}{A:ji}{E:VSP}{s:zm}
end
structure HI(a b:Array ZR)(out:Array ZR)(na nb:Nat):Prop where
 mj:MJ (a.toList++b.toList) (a.toList.take na) (b.toList.take nb) out.toList.reverse
 ha:0<na
 hb:1<nb
 la:na<=a.size
 lb:nb<=b.size
 sz:out.size+na+nb=a.size+b.size
section
variable{a b out:Array ZR}{na nb:Nat}
end
section
variable{prog:zT}{w:jg}{A:ji}{E:VSP}{s:zm}
end
section
variable{prog:zT}{w:jg}{A:ji}{E:VSP}{s:zm}
structure Aft(st st':SortSt)(l:List ZR)(p:Array (Nat×Nat×Nat)):Prop where
 kind:xT st'=JJ
 arr:(YD st').toList=l
 pend:pendingOf st'=p
 fail:JK st'=none
end
structure Run(lo:Nat)(st st':SortSt):Prop where
 kind:xT st'=JJ
 pend:pendingOf st'=pendingOf st
 fail:JK st'=none
 perm:(YD st').Perm (YD st)
 low:∀i,i<lo->(YD st')[i]? = (YD st)[i]?
section
variable{prog:zT}{w:jg}{A:ji}{E:VSP}{s:zm}
end
section
variable{prog:zT}{w:jg}{A:ji}{E:VSP}{s:zm}
end
noncomputable def lay:Nat->List (List ZR)->List Nat->List (Nat×Nat×Nat)
 |o,r::rs,p::ps=>(o,r.length,p)::lay (o+r.length) rs ps
 |_,_,_=> []
structure GI(a0:List ZR)(st:SortSt)(rs:List (List ZR))(ps:List Nat)(T:List ZR):Prop where
 kind:xT st=JJ
 fail:JK st=none
 arr:(YD st).toList=rs.flatten++T
 perm:(YD st).toList.Perm a0
 len:rs.length=ps.length
 pend:pendingOf st= (lay 0 rs ps).toArray
 ok:∀r∈rs,0<r.length/\Srt r
section
variable{prog:zT}{w:jg}{A:ji}{E:VSP}{s:zm}
end
section
variable{prog:zT}{w:jg}{A:ji}{E:VSP}{s:zm}
end
section
variable{prog:zT}{w:jg}{A:ji}{E:VSP}{s:zm}
end
end TS
namespace DL
open PySem PySem.Spec L2
open PyProof.Rows hiding St
section
variable{prog:zT}{w:jg}{A:ji}{E:VSP}{s:zm}{T:String}{r d:Addr}{n:Nat}{P:Nat->zg->Prop}{OK:Heap->Prop}{Q:VSP}
end
section
variable{X:Cx}{Z:XC}{c:Wc}{μ:List Addr}{H:Hp}{G:DH}
end
noncomputable def fJ8(acc:Option Int)(old:Array zg):Prop:=match acc with
 |none=>old= #[]
 |some b=>∃t t',old= #[.int b t,.int b t']
noncomputable def dE3(r:Option Int)(v:zg):Prop:=match r with
 |none=>v= .none
 |some b=>∃t,v= .int b t
theorem cZ4(a d:zg):XZ "max" ⟨[a], [(je "default",d)]⟩:=by unfold XZ;kernel_rfl
noncomputable def dI1(a:Option Int)(n:Int):Option Int:=match a with
 |none=>some n
 |some b=>some (if n>b then n else b)
def eC0(l:List Int):Option Int:=l.foldl dI1 none
section
theorem dJ5(hh:A.in1.handled=none)(hlI:l≠I)(hSI:S≠I)(hSl:S≠l)(hi:IntsAre vs ns):
 ∀k j s c acc old,vs.length-j=k->j<=vs.length->(s.heap.IsListIter I l j/\s.heap.IsList l vs.toArray)->s.heap.get? S=some (jy "list" old c)->fJ8 acc old->
 (∀v h' tk,dE3 ((ns.drop j).foldl dI1 acc) v->(∀b o,b≠I->b≠S->s.heap.get? b=some o->h'.get? b=some o)->R (.ok (.ret v)) {s with heap:=h',toks:=tk})->
 xQ (zz prog w) A (.builtin "max.loop" ⟨[.ref I,.none,.ref S], [(je "default",.none)]⟩) R s:=by
 have hlen:=hi.length
 have W:=XE (prog:=prog) (w:=w) hh I l hlI vs.toArray
 have hname:(Zo "max" ++ Zo ".loop" :String)= "max.loop":=by decide
 intro k
 induction k with
 |zero=>
   intro j s c acc old hk hj hst hS ho hR
   have hd:ns.drop j= []:=ZS (by lia)
   rw[hd]at hR
   refine jO F.entry_max_loop ?_
   rw[jz xE _]
   refine za (Za hS rfl ?_)
   refine za (xC (W.done s _ _ (by rw[zj,show vs.length=j by lia];exact hst) λh' tk hk'=>?_))
   have hS':=hk' S _ (by simpa using hSI) hS
   rcases acc with _|b
   · cases ho
     refine za (xh (zc (hR .none h' tk rfl λb o b1 _ e=>hk' b o (by simpa using b1) e)))
   · obtain⟨t,t',rfl⟩:=ho
     refine za (yr hS' rfl (za (xa (zc ?_))))
     exact hR _ _ tk ⟨t,rfl⟩ λb o b1 b2 e=>(jt _ _ (Ne.symm b2)).trans (hk' b o (by simpa using b1) e)
 |succ k ih=>
   intro j s c acc old hk hj hst hS ho hR
   have hlt:j<ns.length:=by lia
   have hd:ns.drop j=ns[j]::ns.drop (j+1):=yB hlt
   rw[hd]at hR
   refine jO F.entry_max_loop ?_
   rw[jz xE _]
   refine za (Za hS rfl ?_)
   refine za (xC (W.item j s _ _ (by rw[zj];lia) hst λv h' tk hP hst' hk'=>?_))
   have hS':=hk' S _ (by simpa using hSI) hS
   obtain⟨t0,e0⟩:=hi.get j _ (zf hlt)
   have ev:v= .int ns[j] t0:=by
    have hP':vs[j]? =some v:=by simpa using hP
    rw[e0]at hP'
    exact(zQ hP').symm
   subst ev
   have keep:∀ {f:Array zg->Array zg} (b:Addr) (o:Obj),b≠S->h'.get? b=some o->(h'.update S (jp f)).get? b=some o:=λb o hb e=>(jt _ _ (Ne.symm hb)).trans e
   have stay:∀ {f:Array zg->Array zg},(h'.update S (jp f)).IsListIter I l (j+1)/\(h'.update S (jp f)).IsList l vs.toArray:=⟨hst'.1.at λo e=>keep _ o hSI.symm e,hst'.2.at λo e=>keep _ o hSl.symm e⟩
   rcases acc with _|b
   · cases ho
     refine za (zc (za (yr hS' rfl ?_)))
     rw[hname]
     refine zc ⟨jC xE _,ih (j+1) _ _ (some ns[j]) _ (by lia) (by lia) stay (jw _ hS' rfl) ⟨t0,t0,rfl⟩ λv h2 tk2 o2 k2=>?_⟩
     exact hR v h2 tk2 o2 λb o b1 b2 e=>k2 b o b1 b2 (keep b o b2 (hk' b o (by simpa using b1) e))
   · obtain⟨t,t',rfl⟩:=ho
     refine za (zc (za (xC (jl (za (richCompare_gives (Xr _ _ t0) (Xr _ _ t') F.slot_int_gt F.entry_int_gt (F.args_int_gt_2 _ _) (gives_int_gt _ _ t0 t') (λx=>nomatch x) ?_))))))
     refine za (jl (ye (za (xa (zc ?_)))))
     have ef:dI1 (some b) ns[j]=some (if ns[j]>b then ns[j]else b):=rfl
     by_cases hb:ns[j]>b
     · rw[jT,ef,if_pos hb]at hR
       rw[decide_eq_true hb,if_pos rfl]
       refine za (yr hS' rfl (za (xa ?_)))
       rw[hname]
       refine zc ⟨jC xE _,ih (j+1) _ _ (some ns[j]) _ (by lia) (by lia) stay (jw _ hS' rfl) ⟨t0,t0,rfl⟩ λv h2 tk2 o2 k2=>?_⟩
       exact hR v h2 tk2 o2 λb o b1 b2 e=>k2 b o b1 b2 (keep b o b2 (hk' b o (by simpa using b1) e))
     · rw[jT,ef,if_neg hb]at hR
       rw[decide_eq_false hb,if_neg jm]
       refine za (xa ?_)
       rw[hname]
       refine zc ⟨jC xE _,ih (j+1) _ _ (some b) _ (by lia) (by lia) hst' hS' ⟨t,t',rfl⟩ λv h2 tk2 o2 k2=>?_⟩
       exact hR v h2 tk2 o2 λb o b1 b2 e=>k2 b o b1 b2 (hk' b o (by simpa using b1) e)
theorem dF1(hh:A.in1.handled=none)(hl:s.heap.IsList l vs.toArray)(hi:IntsAre vs ns)
 (hQ:∀v h' tk,dE3 (eC0 ns) v->(∀b o,s.heap.get? b=some o->h'.get? b=some o)->Q v {s with heap:=h',toks:=tk}):zt (zz prog w) A (call (.builtin "max") [.ref l] [(je "default",.none)]) Q E s:=by
 have hlt:l<s.heap.objs.size:=by obtain⟨_,e,_⟩:=hl;exact zn e
 have hname:(Zo "max" ++ Zo ".loop" :String)= "max.loop":=by decide
 refine kmb_tree F.kind_max F.plain_max F.entry_max (cZ4 _ _) ?_
 refine za (wpAny_of_eq (show Yo "max" ["key", "default"] 0 ⟨[], [(je "default",.none)]⟩=pure [none,some .none]from rfl) (za (zc (za (Zb hl (za (xN ?_ (jh _))))))))
 rw[hname]
 have hS:∀o,(s.heap.push o).objs.size=s.heap.objs.size+1:=λo=>ZD ..
 refine zc ⟨jC xE _,dJ5 hh (zw hlt) (by rw[hS];exact yd (xy _)) (by rw[hS];exact yd (jG hlt)) hi _ 0 _ 0 none #[] rfl (jh _) ⟨⟨_,zh _ (zp _ rfl),rfl,rfl⟩,(hl.push _).push _⟩ (zp _ rfl) rfl λv h' tk o k=>?_⟩
 exact hQ v h' tk o λb o e=>k b o (zw (zn e)) (by rw[hS];exact zw (jG (zn e))) (zh _ (zh _ e))
end
theorem dC6(a d:zg):XZ "min" ⟨[a], [(je "default",d)]⟩:=by unfold XZ;kernel_rfl
noncomputable def dM7(a:Option Int)(n:Int):Option Int:=match a with
 |none=>some n
 |some b=>some (if n<b then n else b)
def eH0(l:List Int):Option Int:=l.foldl dM7 none
section
theorem dK8(hh:A.in1.handled=none)(hlI:l≠I)(hSI:S≠I)(hSl:S≠l)(hi:IntsAre vs ns):
 ∀k j s c acc old,vs.length-j=k->j<=vs.length->(s.heap.IsListIter I l j/\s.heap.IsList l vs.toArray)->s.heap.get? S=some (jy "list" old c)->fJ8 acc old->
 (∀v h' tk,dE3 ((ns.drop j).foldl dM7 acc) v->(∀b o,b≠I->b≠S->s.heap.get? b=some o->h'.get? b=some o)->R (.ok (.ret v)) {s with heap:=h',toks:=tk})->
 xQ (zz prog w) A (.builtin "min.loop" ⟨[.ref I,.none,.ref S], [(je "default",.none)]⟩) R s:=by
 have hlen:=hi.length
 have W:=XE (prog:=prog) (w:=w) hh I l hlI vs.toArray
 have hname:(Zo "min" ++ Zo ".loop" :String)= "min.loop":=by decide
 intro k
 induction k with
 |zero=>
   intro j s c acc old hk hj hst hS ho hR
   have hd:ns.drop j= []:=ZS (by lia)
   rw[hd]at hR
   refine jO F.entry_min_loop ?_
   rw[jz xD _]
   refine za (Za hS rfl ?_)
   refine za (xC (W.done s _ _ (by rw[zj,show vs.length=j by lia];exact hst) λh' tk hk'=>?_))
   have hS':=hk' S _ (by simpa using hSI) hS
   rcases acc with _|b
   · cases ho
     refine za (xh (zc (hR .none h' tk rfl λb o b1 _ e=>hk' b o (by simpa using b1) e)))
   · obtain⟨t,t',rfl⟩:=ho
     refine za (yr hS' rfl (za (xa (zc ?_))))
     exact hR _ _ tk ⟨t,rfl⟩ λb o b1 b2 e=>(jt _ _ (Ne.symm b2)).trans (hk' b o (by simpa using b1) e)
 |succ k ih=>
   intro j s c acc old hk hj hst hS ho hR
   have hlt:j<ns.length:=by lia
   have hd:ns.drop j=ns[j]::ns.drop (j+1):=yB hlt
   rw[hd]at hR
   refine jO F.entry_min_loop ?_
   rw[jz xD _]
   refine za (Za hS rfl ?_)
   refine za (xC (W.item j s _ _ (by rw[zj];lia) hst λv h' tk hP hst' hk'=>?_))
   have hS':=hk' S _ (by simpa using hSI) hS
   obtain⟨t0,e0⟩:=hi.get j _ (zf hlt)
   have ev:v= .int ns[j] t0:=by
    have hP':vs[j]? =some v:=by simpa using hP
    rw[e0]at hP'
    exact(zQ hP').symm
   subst ev
   have keep:∀ {f:Array zg->Array zg} (b:Addr) (o:Obj),b≠S->h'.get? b=some o->(h'.update S (jp f)).get? b=some o:=λb o hb e=>(jt _ _ (Ne.symm hb)).trans e
   have stay:∀ {f:Array zg->Array zg},(h'.update S (jp f)).IsListIter I l (j+1)/\(h'.update S (jp f)).IsList l vs.toArray:=⟨hst'.1.at λo e=>keep _ o hSI.symm e,hst'.2.at λo e=>keep _ o hSl.symm e⟩
   rcases acc with _|b
   · cases ho
     refine za (zc (za (yr hS' rfl ?_)))
     rw[hname]
     refine zc ⟨jC xD _,ih (j+1) _ _ (some ns[j]) _ (by lia) (by lia) stay (jw _ hS' rfl) ⟨t0,t0,rfl⟩ λv h2 tk2 o2 k2=>?_⟩
     exact hR v h2 tk2 o2 λb o b1 b2 e=>k2 b o b1 b2 (keep b o b2 (hk' b o (by simpa using b1) e))
   · obtain⟨t,t',rfl⟩:=ho
     refine za (zc (za (xC (jl (za (richCompare_gives (Xr _ _ t0) (Xr _ _ t') F.slot_int_lt F.entry_int_lt (F.args_int_lt_2 _ _) (gives_int_lt _ _ t0 t') (λx=>nomatch x) ?_))))))
     refine za (jl (ye (za (xa (zc ?_)))))
     have ef:dM7 (some b) ns[j]=some (if ns[j]<b then ns[j]else b):=rfl
     by_cases hb:ns[j]<b
     · rw[jT,ef,if_pos hb]at hR
       rw[decide_eq_true hb,if_pos rfl]
       refine za (yr hS' rfl (za (xa ?_)))
       rw[hname]
       refine zc ⟨jC xD _,ih (j+1) _ _ (some ns[j]) _ (by lia) (by lia) stay (jw _ hS' rfl) ⟨t0,t0,rfl⟩ λv h2 tk2 o2 k2=>?_⟩
       exact hR v h2 tk2 o2 λb o b1 b2 e=>k2 b o b1 b2 (keep b o b2 (hk' b o (by simpa using b1) e))
     · rw[jT,ef,if_neg hb]at hR
       rw[decide_eq_false hb,if_neg jm]
       refine za (xa ?_)
       rw[hname]
       refine zc ⟨jC xD _,ih (j+1) _ _ (some b) _ (by lia) (by lia) hst' hS' ⟨t,t',rfl⟩ λv h2 tk2 o2 k2=>?_⟩
       exact hR v h2 tk2 o2 λb o b1 b2 e=>k2 b o b1 b2 (hk' b o (by simpa using b1) e)
theorem cZ1(hh:A.in1.handled=none)(hl:s.heap.IsList l vs.toArray)(hi:IntsAre vs ns)
 (hQ:∀v h' tk,dE3 (eH0 ns) v->(∀b o,s.heap.get? b=some o->h'.get? b=some o)->Q v {s with heap:=h',toks:=tk}):zt (zz prog w) A (call (.builtin "min") [.ref l] [(je "default",.none)]) Q E s:=by
 have hlt:l<s.heap.objs.size:=by obtain⟨_,e,_⟩:=hl;exact zn e
 have hname:(Zo "min" ++ Zo ".loop" :String)= "min.loop":=by decide
 refine kmb_tree F.kind_min F.plain_min F.entry_min (dC6 _ _) ?_
 refine za (wpAny_of_eq (show Yo "min" ["key", "default"] 0 ⟨[], [(je "default",.none)]⟩=pure [none,some .none]from rfl) (za (zc (za (Zb hl (za (xN ?_ (jh _))))))))
 rw[hname]
 have hS:∀o,(s.heap.push o).objs.size=s.heap.objs.size+1:=λo=>ZD ..
 refine zc ⟨jC xD _,dK8 hh (zw hlt) (by rw[hS];exact yd (xy _)) (by rw[hS];exact yd (jG hlt)) hi _ 0 _ 0 none #[] rfl (jh _) ⟨⟨_,zh _ (zp _ rfl),rfl,rfl⟩,(hl.push _).push _⟩ (zp _ rfl) rfl λv h' tk o k=>?_⟩
 exact hQ v h' tk o λb o e=>k b o (zw (zn e)) (by rw[hS];exact zw (jG (zn e))) (zh _ (zh _ e))
end
noncomputable def Q6(r:Option Int):D:=match r with
 |none=>.non
 |some b=>.int b
def cC5(d:D):M (List Int):=match d with
 | .ref r=>(R1 r >>= listOf) >>= λl=>aI5 (aM5 l)
 |_=>M.stuck
def mmE(f:List Int->Option Int)(fe:Fe):Fe:=λσ=>fe σ >>= λd=>cC5 d >>= λns=>pure (Q6 (f ns))
section
theorem fQ7(h:dE3 r v):∃x:V,J9 x v/\∀c μ H,d8 c μ H (Q6 r) x:=by
 rcases r with _|b
 ·cases h;exact⟨.non,rfl,λ_ _ _=>by unfold Q6 d8;rfl⟩
 ·obtain⟨t,rfl⟩:=h;exact⟨.int b,⟨t,rfl⟩,λ_ _ _=>by unfold Q6 d8;rfl⟩
theorem cD3:∀ {vs} {ns},vs.length=ns.length->(∀i u,vs[i]? =some u->∃t,u=Value.int (ns.getD i 0) t)->IntsAre vs ns
 |[], [],_,_=>.nil
 |v::vs,n::ns,e,h=>by
   obtain⟨t,rfl⟩:=h 0 v rfl
   exact .cons _ t (cD3 (Nat.succ.inj e) λi u hu=>by simpa using h (i+1) u (by simpa using hu))
theorem dS9{f:List Int->M α}{K:α->List Addr->DH->Hp->Prop}(h:u9 c μ G H)(rv:d8 c μ H d v)(p:d7 c Z μ H ((cC5 d >>= f) G) K):
 ∃l ns a vs,v= .ref a/\t7 c μ H l vs/\SqL c.K H a vs/\aM5 l=some ns/\d7 c Z μ H (f ns G) K:=by
 obtain⟨r,rfl⟩:∃r,d= .ref r:=match d,p with
  | .ref r,_=>⟨r,rfl⟩
 obtain⟨ns,⟨l,a,vs,e1,e2,e3,e4⟩,q⟩:∃ns,(∃l a vs,v= .ref a/\t7 c μ H l vs/\SqL c.K H a vs/\aM5 l=some ns)/\d7 c Z μ H (f ns G) K:=by
  have p':d7 c Z μ H (((R1 r >>= listOf) >>= λl=>aI5 (aM5 l) >>= f) G) K:=by
   rw[<-M.bind_assoc];exact p
  obtain⟨l,a,vs,e1,e2,e3,p2⟩:=aE4 h rv p'
  obtain⟨ns,e4,p3⟩:=T9 p2
  exact⟨ns,⟨l,a,vs,e1,e2,e3,e4⟩,p3⟩
 exact⟨l,ns,a,vs,e1,e2,e3,e4,q⟩
theorem dO8{K:List D->List Addr->DH->Hp->Prop}(p:d7 c Z μ H (fe Z7 G) λd X9 G' H'=>K [d] X9 G' H'):d7 c Z μ H (q13 fe q14 Z7 G) K:=by
 show d7 c Z μ H ((fe Z7 >>= λy=>(pure [y]:M (List D))) G) K
 match hm:fe Z7 G,p with
 |some (.ok y,G1),p=>rw[M.bind_ok hm];exact p
 |some (.error y,G1),p=>rw[M.bind_eq,hm];exact p
end
section
theorem dG5{nm:Str}{bn:String}{O:List Int->Option Int}(hb:nm∈bltL)(ht:ja nm=some (.builtin bn))(hd:nm≠ "__name__")(hd2:(nm==("__debug__" :Str))=false)
 (hm:∀ {A:ji} {s:zm} {l vs ns Q E},A.in1.handled=none->s.heap.IsList l vs.toArray->IntsAre vs ns->(∀v h' tk,dE3 (O ns) v->(∀b o,s.heap.get? b=some o->h'.get? b=some o)->Q v {s with heap:=h',toks:=tk})->zt (zz X.prog X.w) A (call (.builtin bn) [.ref l] [(je "default",.none)]) Q E s)
 (hc:X.calm=true) (hbl:BLs X.mg) (hg:Gl X nm) (he:DE X Z e fe) (hs:T7 e=true):DE X Z (.Call (.Name nm p) [e] [⟨some "default",.Constant .none j pn,kp⟩] pos) (mmE O fe):=⟨by
 intro pins s σ H Q I h
 refine jZ (aK2 I hg (hbl.h _ hb) ht ?_ hd hd2)
 refine h.elim λZ7 μ G sr hr pp=>?_
 have hst:zK [e] X.env= (false,eval e X.env)::zK [] X.env:=aA9 hs
 refine callWith_builtin_kwB (by rw[aM4];exact aQ6 (by rw[yc,hs];rfl)) rfl (evalArgs_kw2 rfl ?_ hst)
 have ha:DA X Z [e] (q13 fe q14):=q18 he q19 hst
 have pa:=d7.bind pp
 refine thn (ha.h pos pins s σ H (λvs H1=>∃v,vs= [v]/\bK7 (wc X) Z (λd=>cC5 d >>= λns=>pure (Q6 (O ns))) v H1 Q) I ⟨Z7,μ,G,sr,hr,dO8 (pa.mono λd X1 G1 H1 x1 h1 p1 vs rv=>?_)⟩) λus s1 hu=>hu.elim λvs H1 I1 r1 q1=>?_
 · obtain⟨v,rfl,r⟩:=aQ1 rv
   exact⟨v,rfl,d,X1,G1,r,h1,p1⟩
 · obtain⟨v,rfl,d,X1,G1,r,h1,p1⟩:=q1
   obtain⟨u,rfl,ru⟩:=aG1 r1
   obtain⟨l,ns,a,ws,rfl,rl,sq,en,p2⟩:=dS9 h1 r p1
   cases ru
   show zt _ _ (evalAll [(do let v <-eval (.Constant .none j pn) X.env;Jv pos;pure v)]) _ _ s1
   refine wpAny_evalAll_cons (za (thn (dH5 pins s1 σ H1 (λv H'=>v= .non/\H'=H1) I1 ⟨rfl,rfl⟩) λu2 s2 hz=>hz.elim λv2 H2 I2 r2 e2=>?_))
   obtain⟨rfl,rfl⟩:=e2
   cases r2
   refine za (ZV (zc (wpAny_evalAll_nil ?_)))
   obtain⟨its,rr,pl,hz⟩:=I2.list sq
   obtain⟨n1,n2⟩:=bV1 en rl rr
   refine hm (I2.ok.hd hc) pl.isList (cD3 n1 n2) λv h' tk ho hk=>?_
   obtain⟨x,rx,rp⟩:=fQ7 ho
   exact⟨x,H2,I2.kept hk,rx,d7.ok p2 h1 _ (rp _ _ _)⟩⟩
theorem dZ8(hc:X.calm=true)(hbl:BLs X.mg)(hg:Gl X "max")(he:DE X Z e fe)(hs:T7 e=true):DE X Z (.Call (.Name "max" p) [e] [⟨some "default",.Constant .none j pn,kp⟩] pos) (mmE eC0 fe):=dG5 (by decide +kernel) dQ6 (by decide) (by decide) dF1 hc hbl hg he hs
theorem eD9(hc:X.calm=true)(hbl:BLs X.mg)(hg:Gl X "min")(he:DE X Z e fe)(hs:T7 e=true):DE X Z (.Call (.Name "min" p) [e] [⟨some "default",.Constant .none j pn,kp⟩] pos) (mmE eH0 fe):=dG5 (by decide +kernel) eP5 (by decide) (by decide) cZ1 hc hbl hg he hs
end
structure cQ0(X:Cx)(e:Expr)(k:Int):Prop where
 h:PE X e (tC (.int k))
section
variable{X:Cx}{Z:XC}{pos:Pos}{e f:Expr}{i j k:Int}
theorem eL8{m pos}:cQ0 X (.Constant (.int i) m pos) i:=⟨dM5⟩
theorem eS0(he:cQ0 X e i)(hf:cQ0 X f j)(hc:cC2 i j)(hk:i ^ j.toNat=k):cQ0 X (.BinOp e .Pow f pos) k:=⟨by
 subst hk
 exact PE.mono (dL6 dI4 he.h hf.h) λσ H Q q=>⟨i,j,rfl,rfl,hc,q⟩⟩
theorem eM7(he:cQ0 X e i)(hf:cQ0 X f j)(hk:i-j=k):cQ0 X (.BinOp e .Sub f pos) k:=⟨by
 subst hk
 exact PE.mono (dL6 dL4 he.h hf.h) λσ H Q q=>⟨i,j,rfl,rfl,q⟩⟩
end
end DL
namespace DL
open PySem PySem.W
open PyProof.Rows hiding St
structure WO(lt:Nat->Nat->Bool):Prop where
 tr:∀i j k,lt j i=false->lt k j=false->lt k i=false
 as:∀i j,lt i j=true->lt j i=false
section
end
end DL
namespace DL
open PySem PySem.Spec L2
open PyProof.Rows hiding St
section
variable{X:Cx}{pins:PNS}{σ:St}{H:Hp}{s:zm}
end
section
variable{prog:zT}{w:jg}{A:ji}{E:VSP}{s:zm}{C:Bool->zm->Prop}
end
section
variable{X:Cx}{Z:XC}{pins:PNS}{σ:St}{H:Hp}{s:zm}{F:List D->M D}{k:Nat}{f:Addr}{fd:yM}{ps:List Str}{μ:List Addr}{G:DH}
end
section
variable{X:Cx}{Z:XC}{e:Expr}{fe:Fe}{p pf kp pos:Pos}{x:Str}{F:List D->M D}
end
section
variable{prog:zT}{w:jg}{A:ji}{E:VSP}{s:zm}
end
section
variable{X:Cx}{Z:XC}{es:List Expr}{pos:Pos}
end
section
variable{X:Cx}{Z:XC}
end
section
variable{X:Cx}{Z:XC}
end
theorem sb1:isSubtype (.type "dict") (.type "set")=pure false:=by rw[Zc];kernel_rfl
theorem sb2:isSubtype (.type "dict") (.type "frozenset")=pure false:=by rw[Zc];kernel_rfl
section
variable{prog:zT}{w:jg}{A:ji}{E:VSP}{s:zm}
end
theorem fM2:JE table "set.__or__" =some yi.«frozenset.__or__»:=JD (id':= "frozenset.__or__") (by kernel_rfl) rfl (by decide +kernel) (by kernel_rfl)
section
variable{prog:zT}{w:jg}{A:ji}{E:VSP}{s:zm}
end
theorem aI8:Slot "set_iterator" "__next__" "set_iterator.__next__":=.of (owner:= "set_iterator") (n:= "__next__") (by rw[Zs,xq];kernel_rfl) (by decide +kernel) (by decide +kernel) (by decide +kernel) (by first|exact .inl (by decide +kernel)|exact .inr (by decide +kernel)) (by rw[Zc];kernel_rfl)
theorem cT7:Slot "set_iterator" "__iter__" "set_iterator.__iter__":=.of (owner:= "set_iterator") (n:= "__iter__") (by rw[Zs,xq];kernel_rfl) (by decide +kernel) (by decide +kernel) (by decide +kernel) (by first|exact .inl (by decide +kernel)|exact .inr (by decide +kernel)) (by rw[Zc];kernel_rfl)
theorem bI7:JE table "set_iterator.__next__" =some yi.«set_iterator.__next__»:=entryFor_of_tree (by kernel_rfl)
theorem eV3:JE table "set.__iter__" =some yi.«frozenset.__iter__»:=JD (id':= "frozenset.__iter__") (by kernel_rfl) rfl (by decide +kernel) (by kernel_rfl)
theorem bJ0(a:zg):XZ "set_iterator.__next__" ⟨[a], []⟩:=by unfold XZ;kernel_rfl
theorem eD6(a:zg):XZ "set_iterator.__iter__" ⟨[a], []⟩:=by unfold XZ;kernel_rfl
theorem eC3:JE table "set_iterator.__iter__" =some yi.«dict_keyiterator.__iter__»:=JD (id':= "dict_keyiterator.__iter__") (by kernel_rfl) rfl (by decide +kernel) (by kernel_rfl)
section
variable{prog:zT}{w:jg}{A:ji}{E:VSP}{s:zm}
theorem dA9(hT:s.TypeIs (.ref r) "set")(h:Q false s):zt (zz prog w) A (yR (.ref r)) Q E s:=by
 unfold yR
 refine za (Jo hT PySem.F.slot_set_len.lookup ?_)
 generalize hq:("set.__len__" :String)=id1
 wp_delta
 rw[show splitId id1=some ("set", "__len__")from by subst hq;decide +kernel]
 subst hq
 refine za (Yi (T:= "set") (b:=true) hT (by rw[Zc];kernel_rfl) ?_)
 refine zH (λz=>absurd z (by decide)) (λ_=>?_)
 refine zH (λ_=>?_) (λz=>absurd (by decide +kernel) z)
 exact za (xG hT (zc h))
end
theorem dU5:ja "set" =some (.type "set"):=by decide +kernel
section
variable{X:Cx}{Z:XC}{c:Wc}{μ:List Addr}{H:Hp}{G:DH}
end
section
variable{X:Cx}{Z:XC}{ea eb:Expr}{fa fb:Fe}{p p1 p2 q1 q2 q3 pos:Pos}
end
noncomputable def eM2(A:ji)(s:zm)(y x:zg)(b:Bool):Prop:=
 ∀(prog:zT) (w:jg) (E:VSP) (Q:VSP),Q (.bool b) s->zt (zz prog w) A (richCompare .GtE y x) Q E s
inductive GeR(A:ji)(s:zm):List zg->List zg->Bool->Prop
 |nil:GeR A s [] [] true
 |eq {x y xs ys b}:jP A s x y true->GeR A s xs ys b->GeR A s (x::xs) (y::ys) b
 |ne {x y xs ys b}:jP A s x y false->eM2 A s x y b->GeR A s (x::xs) (y::ys) b
section
open PySem.SeqAt
open PySem.AutoSeq1 (wpAny_loadPart')
open PySem.MeetsSeq PySem.MeetsSeq2 PySem.MeetsSeq3
theorem cP6(l b:Addr)(its its2:Array zg)(n n2:Nat)(dd dd2:Option Addr)(sl sl2:Array (Option zg))(k:Bool):
 Meets (yi.«tuple.__ge__» ⟨[.ref l,.ref b], []⟩)
  (λA R s=>s.heap.get? l=some {cls:=.type "tuple",dict:=dd,data:=.seq its n,slots:=sl}/\s.heap.get? b=some {cls:=.type "tuple",dict:=dd2,data:=.seq its2 n2,slots:=sl2}/\
    GeR A.in1 s its.toList its2.toList k/\R (.ok (.ret (.bool k))) s):=
 .of_wp λprog w A R s h=>by
  obtain⟨hp,g,d,tk,os⟩:=s;obtain⟨hl,hb,hk,h⟩:=h
  have f2:=Xx
  wp_walk using jo hl,jo hb,Yj _ (λQ9 b s'=>b.1=none/\s'= ⟨hp,g,d,tk,os⟩/\∃(vs ws:List zg),Q9=vs.zip ws/\
   vs.length+its2.size=ws.length+its.size/\GeR A.in1 ⟨hp,g,d,tk,os⟩ vs ws k) _
  case turn=>
   rintro⟨y,x⟩ Q9 b s' ⟨hb',rfl,vs,ws,hz,hlen,hR⟩
   cases hR with
   |nil=>exact cW3 hz
   |eq he hR'=>
     rw[yg]at hz
     injection hz with hyx hrest
     injection hyx with hy hx
     subst hy hx
     refine za (he prog w _ _ ?_)
     wp_walk
     simp only[zD]at hlen
     exact⟨rfl,rfl,_,_,hrest,by lia,hR'⟩
   |ne he hc=>
     rw[yg]at hz
     injection hz with hyx hrest
     injection hyx with hy hx
     subst hy hx
     refine za (he prog w _ _ ?_)
     have hri:=hc prog w
     wp_walk using hri
     exact⟨_,rfl,h⟩
  case fin=>
   rintro⟨b1,b2⟩ s' ⟨hb',rfl,vs,ws,hz,hlen,hR⟩
   simp only at hb'
   subst hb'
   have hv:k=decide (its.size>=its2.size):=by
    cases hR with
    |nil=>simp only[yn]at hlen;exact(decide_eq_true (by lia)).symm
    |eq _ _=>rw[yg]at hz;exact bU9 hz
    |ne _ _=>rw[yg]at hz;exact bU9 hz
   rw[hv]at h
   wp_walk
   exact⟨_,rfl,by simpa [Ye]using h⟩
  case h=>
   exact⟨rfl,rfl,its.toList,its2.toList,rfl,by simp;lia,hk⟩
end
noncomputable def dH8(a:Int)(p:Str)(b:Int)(q:Str):Bool:=if a=b then (if p=q then true else !decide (p.cps.toList<q.cps.toList))else decide (b<=a)
def geT:D->D->M D:=λx y=>match x,y with
 | .tup [.int a,.str p],.tup [.int b,.str q]=>pure (.bl (dH8 a p b q))
 |_,_=>M.stuck
section
variable{X:Cx}{Z:XC}
theorem eT4{G:DH}{K:D->List Addr->DH->Hp->Prop}(p:d7 c Z μ H (geT dx dy G) K):∃a p b q,dx= .tup [.int a,.str p]/\dy= .tup [.int b,.str q]:=by
 unfold geT at p
 split at p
 ·exact⟨_,_,_,_,rfl,rfl⟩
 ·exact p.elim
theorem eK7(hu:X.A.units+64<yC):OpD X Z (zR .GtE) geT:=⟨by
 intro pins s σ H x y v u Q I rx ry hE0
 refine hE0.elim λdx dy μ G rdx rdy hr p=>?_
 obtain⟨a,p1,b,q1,rfl,rfl⟩:=eT4 p
 obtain⟨l,vs,its,rfl,rfl,rl,rr,sq,q⟩:=aG9 I hr (show aG8 G (.tup [.int a,.str p1])=some (true,_)from rfl) rdx rx
 obtain⟨l',vs',its',rfl,rfl,rl',rr',sq',q'⟩:=aG9 I hr (show aG8 G (.tup [.int b,.str q1])=some (true,_)from rfl) rdy ry
 have hu0:X.A.units<yC:=by lia
 have hu1:X.A.in1.units+39<yC:=by show X.A.units+1+39<yC;lia
 obtain⟨v1,v2,rfl,r1,r2⟩:=eF0 rl
 obtain⟨w1,w2,rfl,t1,t2⟩:=eF0 rl'
 obtain⟨u1,u2,rfl,s1,s2⟩:=cD9 rr
 obtain⟨x1,x2,rfl,y1,y2⟩:=cD9 rr'
 have e1:=(bK8 I hr 39 X.A.in1 hu1 r1 t1 s1 y1 (b:=decide (a=b)) rfl).2.2
 have e2:=(bK8 I hr 39 X.A.in1 hu1 r2 t2 s2 y2 (b:=(p1==q1)) rfl).2.2
 unfold d8 at r1 t1 r2 t2
 subst r1 t1 r2 t2
 obtain⟨k1,rfl⟩:=s1
 obtain⟨k2,rfl⟩:=s2
 obtain⟨k3,rfl⟩:=y1
 obtain⟨k4,rfl⟩:=y2
 have hR:GeR X.A.in1 s [.int a k1,.str p1 k2] [.int b k3,.str q1 k4] (dH8 a p1 b q1):=by
  unfold dH8
  by_cases h1:a=b
  · rw[if_pos h1]
    rw[decide_eq_true h1]at e1
    refine .eq e1 ?_
    by_cases h2:p1=q1
    · rw[if_pos h2]
      rw[show (p1==q1)=true from by rw[h2];exact beq_self_eq_true _]at e2
      exact .eq e2 .nil
    · rw[if_neg h2]
      rw[show (p1==q1)=false from by simpa using h2]at e2
      exact .ne e2 λprog w E Q hq=>(PySem.P.ge_str hq:zt (zz prog w) X.A.in1 (zR .GtE _ _) Q E s)
  · rw[if_neg h1]
    rw[decide_eq_false h1]at e1
    exact .ne e1 λprog w E Q hq=>(ge_int hq:zt (zz prog w) X.A.in1 (zR .GtE _ _) Q E s)
 obtain⟨⟨cls,dd,data,sl⟩,ho,hc,m,hd⟩:=id sq
 obtain⟨⟨cls2,dd2,data2,sl2⟩,ho2,hc2,m2,hd2⟩:=id sq'
 simp only at hc hd hc2 hd2
 subst hc hd hc2 hd2
 exact Yv (op:=.GtE) ⟨_,ho,rfl⟩ ⟨_,ho2,rfl⟩ PySem.F.slot_tuple_ge PySem.F.entry_tuple_ge (PySem.F.args_tuple_ge_2 _ _) (cP6 l l' _ _ m m2 dd dd2 sl sl2 _) ⟨ho,ho2,hR,show Value.bool _≠Value.notImplemented/\_ from⟨(λx=>nomatch x),⟨.bl _,H,I,rfl,d7.ok p hr _ ofB⟩⟩⟩ hu0⟩
end
section
end
section
variable{X:Cx}{Z:XC}{pins:PNS}{σ:St}{k:Nat}{f:Addr}{fd:yM}{ps:List Str}{F:List D->M D}{A:ji}
end
section
variable{X:Cx}{Z:XC}{F:List D->M D}{x:Str}{e:Expr}{fe:Fe}{p pf kp pos:Pos}
end
section
variable{prog:zT}{w:jg}{A:ji}{E:VSP}{s:zm}{K:Type}[DecidableEq K]{knd:KeyKind prog w K}
end
section
variable{X:Cx}{Z:XC}{ea:Expr}{fa:Fe}{p q1 ap pos:Pos}
end
inductive CdE(w:jg)(K:zi)(mg:Str->Option zg):List DictEntry->List (Str×D)->Prop
 |nil:CdE w K mg [] []
 |cons {z:Str} {t:Tok} {u:zg} {d:D} {es:List DictEntry} {tb:List (Str×D)} (h:CR K mg d u) (r:CdE w K mg es tb):CdE w K mg ({hash:=PyData.keyHash w.params z,key:=.str z t,val:=u}::es) ((z,d)::tb)
structure CdOk(w:jg)(K:zi)(mg:Str->Option zg)(x:Str)(tb:List (Str×D)):Prop where
 ex:∃a es n,mg x=some (.ref a)/\K.lookup a=some ⟨.type "dict",none,.dict (jn es) n, #[]⟩/\CdE w K mg es tb
 nd:(tb.map (·.1)).Nodup
section
variable{X:Cx}{Z:XC}{b:Expr}{fb:Fe}{x:Str}{tb:List (Str×D)}{p pos:Pos}
end
mutual
noncomputable def pyD:D->PyData
 | .non=>.none
 | .bl b=>.bool b
 | .int i=>.int i
 | .str x=>.str x
 | .tup l=>.tuple (pyL l)
 | .ref _=>.none
 | .fn _=>.none
 | .ty _=>.none
noncomputable def pyL:List D->List PyData
 |[]=> []
 |d::r=>pyD d::pyL r
end
mutual
noncomputable def dA8:D->Bool
 | .non=>true
 | .bl _=>true
 | .int _=>true
 | .str _=>true
 | .tup l=>eF9 l
 | .ref _=>false
 | .fn _=>false
 | .ty _=>false
noncomputable def eF9:List D->Bool
 |[]=>true
 |d::r=>dA8 d&&eF9 r
end
mutual
theorem fJ0:∀d:D,(pyD d).hasDict=false
 | .non=>rfl
 | .bl _=>rfl
 | .int _=>rfl
 | .str _=>rfl
 | .tup l=>by unfold pyD;exact eH7 l
 | .ref _=>rfl
 | .fn _=>rfl
 | .ty _=>rfl
theorem eH7:∀l:List D,PyData.hasDictAll (pyL l)=false
 |[]=>rfl
 |d::r=>by unfold pyL;show ((pyD d).hasDict||PyData.hasDictAll (pyL r))=false;rw[fJ0 d,eH7 r];rfl
end
section
variable{X:Cx}{Z:XC}{pins:PNS}{σ:St}{H:Hp}{s:zm}
theorem cY3(I:Inv X pins σ H s)(q:SqT X.K H a vs):∃o its n,s.heap.get? a=some o/\o.cls= .type "tuple"/\o.data= .seq its n/\v6 vs its.toList:=by
 rcases q with q|⟨o,its,n,hl,hc,hd,_,hv⟩
 · obtain⟨_,its,hv,o,e,c,n,d⟩:=(show W2 X.prog X.w H s.heap a (.tup vs)from dL5 I.hok q)
   exact⟨o,its.toArray,n,e,c,(yp d).1,by simpa using hv⟩
 ·exact⟨o,its,n,I.kIn _ _ hl,hc,(yp hd).1,hv⟩
mutual
theorem fP5(I:Inv X pins σ H s):∀d {v} {u},dA8 d=true->d8 (wc X) μ H d v->J9 v u->∃as,Reads s.heap u (pyD d) as
 | .non,v,u,_,r,q=>by unfold d8 at r;subst r;cases q;exact⟨_,.none⟩
 | .bl b,v,u,_,r,q=>by unfold d8 at r;subst r;cases q;exact⟨_,.bool b⟩
 | .int i,v,u,_,r,q=>by unfold d8 at r;subst r;obtain⟨t,rfl⟩:=q;exact⟨_,.int i t⟩
 | .str x,v,u,_,r,q=>by unfold d8 at r;subst r;obtain⟨t,rfl⟩:=q;exact⟨_,.str x t⟩
 | .tup l,v,u,hd,r,q=>by
   unfold d8 at r
   obtain⟨a,vs,rfl,sq,rl⟩:=r
   cases q
   obtain⟨o,its,n,e,c,d,hv⟩:=cY3 I sq
   obtain⟨as,ra⟩:=fE7 I l (by unfold dA8 at hd;exact hd) rl hv
   unfold pyD
   exact⟨as,.tuple e c d ra⟩
 | .ref _,v,u,hd,_,_=>by unfold dA8 at hd;cases hd
 | .fn _,v,u,hd,_,_=>by unfold dA8 at hd;cases hd
 | .ty _,v,u,hd,_,_=>by unfold dA8 at hd;cases hd
theorem fE7(I:Inv X pins σ H s):∀l {vs} {us},eF9 l=true->t7 (wc X) μ H l vs->v6 vs us->∃as,ReadsAll s.heap us (pyL l) as
 |[],vs,us,_,r,q=>by unfold t7 at r;subst r;cases q;exact⟨_,.nil⟩
 |d::l,vs,us,hd,r,q=>by
   unfold t7 at r
   obtain⟨v,r',rfl,r1,r2⟩:=r
   unfold eF9 at hd
   rw[zZ]at hd
   cases q with
   |cons q1 q2=>
     obtain⟨as,h1⟩:=fP5 I d hd.1 r1 q1
     obtain⟨bs,h2⟩:=fE7 I l hd.2 r2 q2
     unfold pyL
     exact⟨_,.cons h1 h2⟩
end
end
section
variable{X:Cx}{Z:XC}
end
end DL
namespace W
open PySem PySem.Spec L2 DL
open PyProof.Rows hiding St
end W
namespace DL
open PySem PySem.Spec L2
open PyProof.Rows hiding St
section
variable{X:Cx}{Z:XC}{o:Expr}{fo:Fe}{name:Str}{id:String}{mm:D->List D->M D}{apos cpos:Pos}
end
noncomputable def sV:zg->Str
 | .str x _=>x
 |_=> ""
noncomputable def byT(w:jg):Bool:=w.params.followText "set-order"
def TSet(prog:zT)(w:jg)(h:Heap)(a:Addr)(ss:List Str):Prop:=∃o es ep t,h.get? a=some o/\o.ExactSet/\o.data= .set es ep t/\YZ (strKind prog w) es.toList/\(es.toList.map λe=>sV e.2).Perm ss/\es.size<Yk/\t.fits es.size=true/\t.led= (!byT w)/\(0<es.size->t.plain=false)
theorem eS1(t:SetTable)(n:Nat):(t.orStandIn n).led=t.led:=by
 unfold SetTable.orStandIn
 split<;>rfl
theorem eA3(t:SetTable)(es:Array (Int×zg))(h:Int)(x:zg):(layNew t es h x).2.1.led=t.led:=by
 unfold layNew
 split
 ·exact eS1 _ _
 ·rfl
theorem eG9{led JB:Bool}(h:Ym m f v led JB hs=some (t,o)):t.led=led/\t.plain=JB:=by
 unfold Ym at h
 simp only[Option.bind_eq_bind,Option.bind_eq_some_iff]at h
 obtain⟨ow,_,h⟩:=h
 have h:=zQ h
 injection h with h1 _
 rw[<-h1]
 exact⟨rfl,rfl⟩
theorem dC3(t:SetTable)(es:Array (Int×zg))(n:Nat):(YQ t es n).2.1.led=t.led/\(t.plain=false->(YQ t es n).2.1.plain=false):=by
 unfold YQ
 split
 · rename_i t' o e
   have:=eG9 e
   dsimp only
   split
   ·exact⟨this.1,λz=>this.2.trans z⟩
   ·exact⟨rfl,λ_=>rfl⟩
 ·exact⟨rfl,λ_=>rfl⟩
section
variable{prog:zT}{w:jg}{A:ji}{E:VSP}{s:zm}
theorem cG1(h:(strKind prog w).is k v=true):∃t,v= .str k t:=JS h
theorem eP4(h:YZ (strKind prog w) es):k∈es.map (λe=>sV e.2)↔∃e∈es,(strKind prog w).is k e.2=true:=by
 rw[zY]
 constructor
 · rintro⟨e,he,rfl⟩
   obtain⟨⟨k,hk,_⟩,_⟩:=h e he
   obtain⟨t,et⟩:=cG1 hk
   refine⟨e,he,?_⟩
   rw[et]at hk ⊢
   exact hk
 · rintro⟨e,he,hk⟩
   obtain⟨t,et⟩:=cG1 hk
   exact⟨e,he,by rw[et];rfl⟩
theorem dK6(ho:s.heap.get? a=some o)(hex:o.ExactSet)(hd:o.data= .set es ep t)(hel:YZ (strKind prog w) es'.toList)(hp:(es'.toList.map λe=>sV e.2).Perm ss)(hb:es'.size<Yk)(hf:t'.fits es'.size=true)(hl:t'.led= (!byT w))(hpl:t'.plain=false):
 (s.heap.update a (xr es' t')).get? a=some {o with data:=.set es' (ep+1) t'}/\TSet prog w (s.heap.update a (xr es' t')) a ss:=by
 have hg:(s.heap.update a (xr es' t')).get? a=some {o with data:=.set es' (ep+1) t'}:=by
  have:=jw (xr es' t') ho (by rw[putSet_of es' t' hd];rfl)
  rw[putSet_of es' t' hd]at this;exact this
 exact⟨hg,_,es',ep+1,t',hg,hex,rfl,hel,hp,hb,hf,hl,λ_=>hpl⟩
theorem cS1{g:Bool->Sem Unit}(hg:∀(b:Bool) (X0:zm) Q',Q' () X0->zt (zz prog w) A (g b) Q' E X0)
 {a:Addr} {o:Obj} {ep:Nat} {t:SetTable} (ho:s.heap.get? a=some o) (hex:o.ExactSet) (hd:o.data= .set es ep t)
 {t2:SetTable} {ss:List Str} (hel1:YZ (strKind prog w) es1.toList) (hp1:(es1.toList.map λe=>sV e.2).Perm ss)
 (hb1:es1.size<Yk) (hf2:t2.fits es1.size=true) (hl:t2.led= (!byT w)) (hpl:t2.plain=false) {wasDummy:Bool}
 (h:∀h',jx a s.heap h'->TSet prog w h' a ss->R (some true) {s with heap:=h'}):
 zt (zz prog w) A (do
  storeSet a es1 t2
  if (!wasDummy&&t2.tooFull)=true then do
   g (YQ t2 es1 (xc es1.size)).2.2
   storeSet a (YQ t2 es1 (xc es1.size)).1 (YQ t2 es1 (xc es1.size)).2.1
   pure (some true)
   else pure (some true)) R E s:=by
 refine za (xZ ho hd ?_ (ZN hb1))
 obtain⟨ho1,hS1⟩:=dK6 ho hex hd hel1 hp1 hb1 hf2 hl hpl
 have hsb1:=jV s.heap a (xr es1 t2)
 split
 · have hp:=relayAll_perm t2 es1 (xc es1.size)
   have hfr:=relayAll_fits t2 es1 (xc es1.size)
   have hlr:=dC3 t2 es1 (xc es1.size)
   generalize hRl:YQ t2 es1 (xc es1.size)=Rl at hp hfr hlr ⊢
   obtain⟨es2,t3,gave2⟩:=Rl
   dsimp only at hp hfr hlr ⊢
   have hsz:es2.size=es1.size:=by rw[<-zA,hp.length_eq,zA]
   have hb2:es2.size<Yk:=by rw[hsz];exact hb1
   refine za (hg _ _ _ ?_)
   refine za (xZ ho1 rfl ?_ (ZN hb2))
   obtain⟨_,hS2⟩:=dK6 (s:={s with heap:=s.heap.update a (xr es1 t2)}) ho1 hex rfl (hel1.perm hp) ((hp.map _).trans hp1) hb2 hfr (hlr.1.trans hl) (hlr.2 hpl)
   exact zc (h _ (hsb1.trans (jV _ a _)) hS2)
 ·exact zc (h _ hsb1 hS1)
theorem dN9(hS:TSet prog w s.heap a ss)(hroom:ss.length+1<Yk)
 (h:∀b h',jx a s.heap h'->TSet prog w h' a (if k∈ss then ss else ss++[k])->Q b {s with heap:=h'}):
 zt (zz prog w) A (setAddHashed a (.str k tk) ((strKind prog w).hash k)) Q E s:=by
 obtain⟨o,es,ep,t,ho,hex,hd,hel,hpm,hb,hf,hl,hpl⟩:=hS
 have hkey:(strKind prog w).is k (.str k tk)=true:=strKind_is prog w k tk
 have hsc:(Value.str k tk).scannable=true:=rfl
 have hn:es.size=ss.length:=by have:=hpm.length_eq;rw[ze,zA]at this;exact this
 unfold setAddHashed setAddHashedIn
 refine jl (za (zI ho hd hf ?_))
 dsimp only
 rw[byScan_of hsc hb hel]
 simp only[↓reduceIte]
 unfold setAddByScan
 refine za ?_
 refine za (xh ?_)
 refine za (wpAny_setScan_of hkey ho hd hf hel ?_)
 have mem:k∈ss↔∃e∈es.toList,(strKind prog w).is k e.2=true:=by rw[<-hpm.mem_iff];exact eP4 hel
 cases hr:List.findIdx? (λe=>(strKind prog w).is k e.2) es.toList with
 |some j=>
   dsimp only
   obtain⟨hj,hpj,_⟩:=List.findIdx?_eq_some_iff_getElem.mp hr
   have hk:k∈ss:=mem.mpr ⟨es.toList[j],jY hj,hpj⟩
   refine zc (zc ?_)
   have e:s= {s with heap:=s.heap}:=by cases s;rfl
   have:=h false s.heap (yf a s.heap) (by rw[if_pos hk];exact⟨o,es,ep,t,ho,hex,hd,hel,hpm,hb,hf,hl,hpl⟩)
   rw[e];exact this
 |none=>
   dsimp only
   have hk:k∉ss:=λhk=>by
    obtain⟨e,he,hp⟩:=mem.mp hk
    have:=List.findIdx?_eq_none_iff.mp hr e he
    rw[hp]at this;exact Bool.noConfusion this
   have hgw:∀(b:Bool) {X0:zm} {Q':Unit->zm->Prop},Q' () X0->zt (zz prog w) A (match b with|true=>rule "set.scan.the-table-gave-way"|false=>pure ()) Q' E X0:=
    λb X0 Q' hq=>by cases b<;>first|exact zc hq|exact xh hq
   have hperm:=layNew_perm t es ((strKind prog w).hash k) (.str k tk)
   have hfits:=layNew_fits t es ((strKind prog w).hash k) (.str k tk)
   have hled:=eA3 t es ((strKind prog w).hash k) (.str k tk)
   generalize hL:layNew t es ((strKind prog w).hash k) (.str k tk)=L at hperm hfits hled ⊢
   obtain⟨es1,t1,wasDummy,gave⟩:=L
   dsimp only at hperm hfits hled ⊢
   rw[Array.toList_push]at hperm
   have hel1:YZ (strKind prog w) es1.toList:=(hel.push hkey hsc).perm hperm
   have hp1:(es1.toList.map λe=>sV e.2).Perm (ss++[k]):=by
    refine(hperm.map _).trans ?_
    rw[jr]
    exact hpm.append_right _
   have hb1':es1.size<Yk:=by rw[<-zA,hperm.length_eq,zM,zA,hn];exact hroom
   refine za (hgw _ ?_)
   have hend:∀h',jx a s.heap h'->TSet prog w h' a (ss++[k])->Q true {s with heap:=h'}:=by
    intro h' hsb hS';exact h true h' hsb (by rw[if_neg hk];exact hS')
   split
   · refine za ?_
     rw[hashByValue_scannable 8 hsc]
     refine zc ?_
     refine cS1 ?_ ho hex hd hel1 hp1 hb1' ?_ ?_ ?_ ?_
     ·intro b X0 Q' hq;cases b<;>first|exact zc hq|exact xh hq
     ·exact SetTable.fits_plain_off hfits
     ·exact hled.trans hl
     ·rfl
     ·intro h' hsb hS';dsimp only;exact zc (hend h' hsb hS')
   · rename_i hpn
     refine za (zc ?_)
     simp only[↓reduceIte]
     refine cS1 ?_ ho hex hd hel1 hp1 hb1' hfits (hled.trans hl) (by simpa using hpn) ?_
     ·intro b X0 Q' hq;cases b<;>first|exact zc hq|exact xh hq
     ·intro h' hsb hS';dsimp only;exact zc (hend h' hsb hS')
end
noncomputable def ddT(ss:List Str)(k:Str):List Str:=if k∈ss then ss else ss++[k]
theorem bE2:∀(l ss:List Str),(l.foldl ddT ss).length<=ss.length+l.length
 |[],ss=>by simp
 |k::l,ss=>by
   rw[jT]
   refine zC (bE2 l _) ?_
   unfold ddT
   split<;>simp<;>omega
theorem TSet.congr(hS:TSet prog w h a ss)(e:∀o,h.get? a=some o->h'.get? a=some o):TSet prog w h' a ss:=by
 obtain⟨o,es,ep,t,ho,r⟩:=hS
 exact⟨o,es,ep,t,e o ho,r⟩
section
variable{prog:zT}{w:jg}{A:ji}{R:Result->zm->Prop}{I:Addr}{fp wr:List Addr}{G:Array GenState->Array GenState->Prop}{n:Nat}{P:Nat->zg->Prop}{St:Nat->zm->Prop}
end
theorem dH9(e:h.get? a=some {cls:=.type "set",dict:=none,data:=.set #[] 0 (.fresh 0 0 (!byT w))}):TSet prog w h a []:=
 ⟨_, #[],0,_,e,⟨rfl,rfl,rfl⟩,rfl,(λ_ h=>by simp at h),.nil,by decide,by rfl,rfl,λh=>by simp at h⟩
section
theorem dC0(a:zg)
 (h:Q₁ (.ref s.heap.objs.size) {s with heap:=s.heap.push {cls:=.type "set",dict:=none,data:=.set #[] 0 (.fresh 0 0 (!byT w))}}):
 xQ (zz prog w) A (.call (.builtin "set.__new__") ⟨[.type "set",a], []⟩) (wants Q₁ E) s:=by
 refine codeAny_of_tree ?_
 show zt _ A.in1 (do checkBuiltinCall "set.__new__" ⟨[.type "set",a], []⟩;again (.builtin "set.__new__" ⟨[.type "set",a], []⟩)) _ _ s
 refine za (wpAny_of_eq (F.newCall_set_1 a) (zc ⟨jC F.plain_set_new _,jO F.entry_set_new ?_⟩))
 rw[jz F.plain_set_new _]
 unfold yi.«set.__new__» Builtin.Frozenset.newClass
 have hsub:=sub_set_self
 obtain⟨hp,g,d,tk,os⟩:=s
 dsimp only
 wp_walk
 refine xH (zc ?_)
 dsimp only
 simp only[newObj]
 refine za (wpAny_alloc (zc ?_))
 exact zc h
end
theorem bL9:∀(l:List α) i h,((l[i]'h)::l.eraseIdx i).Perm l
 |x::r,0,_=>.refl _
 |x::r,i+1,h=>by
   have ih:=bL9 r i (by simpa using h)
   show ((r[i]'(by simpa using h))::x::r.eraseIdx i).Perm (x::r)
   exact(List.Perm.swap ..).trans (.cons _ ih)
noncomputable abbrev sO(es:Array (Int×zg))(ep:Nat)(t:SetTable):Obj:={cls:=.type "set",dict:=none,data:=.set es ep t,slots:= #[]}
noncomputable abbrev sI(f:zg)(i:Nat)(a:Addr)(n ep:Nat):Obj:={cls:=.type "set_iterator",data:=.fields #[f,.int i 0,.ref a,.int n 0,.int ep 0]}
section
theorem eK9(hn:n≠0)(h:∀i d',i<n->Q i {s with drawn:=d'}):zt (zz prog w) A (choose src n) Q E s:=by
 intro Γ p _
 unfold choose
 rw[Sem.wp_choose]
 refine⟨hn,?_⟩
 rw[Sem.wp_pure]
 exact h _ _ (ZZ _ (Nat.pos_of_ne_zero hn))
theorem dG2:∀(xs:List α) s Q,(∀ys d',ys.Perm xs->Q ys {s with drawn:=d'})->zt (zz prog w) A (drawOrder xs.length xs) Q E s
 |[],s,Q,h=>zc (h [] s.drawn .nil)
 |x::r,s,Q,h=>by
   show zt _ _ (choose .order (x::r).length >>= λi=>match (x::r)[i]? with
    |some y=>(do return y::(<-drawOrder r.length ((x::r).eraseIdx i)))
    |none=>unsupported "internal:drawOrder") _ _ _
   refine za (eK9 (by simp) λi d' hi=>?_)
   rw[zf hi]
   dsimp only
   have hl:((x::r).eraseIdx i).length=r.length:=by rw[JW,if_pos hi];simp
   rw[<-hl]
   refine za (dG2 _ _ _ λys d2 hp=>zc ?_)
   refine h _ d2 ?_
   exact(List.Perm.cons _ hp).trans (bL9 _ i hi)
termination_by xs=>xs.length
decreasing_by simp only[hl];simp
theorem cW4(nx:Nat->Nat):∀f k (l:List α) out,f=l.length->(XA nx f k l out).toList.Perm (out.toList++l)
 |0,k, [],out,_=>by unfold XA;simp
 |f+1,k,x::r,out,hf=>by
   unfold XA
   have hi:nx k % (x::r).length<(x::r).length:=ZZ _ (by simp)
   rw[zf hi]
   dsimp only
   have hl:f= ((x::r).eraseIdx (nx k % (x::r).length)).length:=by rw[JW,if_pos hi];simpa using hf
   refine(cW4 nx f (k+1) _ _ hl).trans ?_
   rw[Array.toList_push,yG]
   exact(bL9 _ _ hi).append_left _
theorem bD7(nx:Nat->Nat)(xs:Array α):(Zy nx xs).toList.Perm xs.toList:=by
 have:=cW4 nx xs.size 0 xs.toList #[] (by simp)
 simpa [Zy]using this
theorem bJ2(hi:s.heap.get? I=some (sI f i a n ep))(h:Q (.ref I) s):zt (zz prog w) A (JA (.ref I)) Q E s:=by
 have hT:s.TypeIs (.ref I) "set_iterator":=⟨_,hi,rfl⟩
 refine wpAny_pyIter_slot hT cT7 (jL cT7 hT eC3 (show zt _ _ (ret (.ref I)) _ _ s from ?_) (eD6 _))
 exact zc ⟨_,rfl, "set_iterator",_,hT,aI8.lookup,h⟩
end
section
theorem bL7(h:Q (byT w) s):zt (zz prog w) A setsByText Q E s:=za (xH (zc h))
theorem eH6(hb:byT w=true)(ha:s.heap.get? a=some (sO es ep t))(hf:t.fits es.size=true)(h:Q (((Zy (w.params.setOrder a ep) es)[i]?).map λe=>(e.2,slot)) s):zt (zz prog w) A (YU a slot i ep) Q E s:=by
 unfold YU
 refine za (zI ha rfl hf ?_)
 refine za (bL7 ?_)
 refine zH (λ_=>?_) (λz=>absurd hb z)
 refine zH (λz=>absurd z (by simp)) (λ_=>?_)
 unfold setWalk
 refine za (za (zI ha rfl hf ?_))
 refine za (bL7 ?_)
 refine zH (λ_=>?_) (λz=>absurd hb z)
 refine za (xH (zc ?_))
 exact zc h
theorem dO5(hb:byT w=false)(hl:t.led=true)(h1:¬((!t.plain&&decide (es.size>1))=true))(ha:s.heap.get? a=some (sO es ep t))(hf:t.fits es.size=true) (h:Q (match es[ZQ t.place slot]?,t.place[ZQ t.place slot]? with
 |some (_,x),some j=>some (x,j+1)
 |_,_=>none) s):zt (zz prog w) A (YU a slot i ep) Q E s:=by
 unfold YU
 refine za (zI ha rfl hf ?_)
 refine za (bL7 ?_)
 refine zH (λz=>absurd (hb.symm.trans z) (by decide)) (λ_=>?_)
 refine zH (λz=>absurd z h1) (λ_=>?_)
 refine za (show zt _ _ (if (!t.led&&!es.isEmpty)=true then unsupported "set:maker-not-led" else pure ()) _ _ _ from ?_)
 rw[hl]
 exact zc (zc h)
set_option maxHeartbeats 3200000 in
theorem cJ2{I:Addr}{slot i n nx:Nat}{x:zg}(hi:s.heap.get? I=some (sI (.int slot 0) i a es.size ep))(ha:s.heap.get? a=some (sO es ep t))(hf:t.fits es.size=true)
 (hN:∀(A:ji) E Q,Q (some (x,nx)) s->zt (zz prog w) A (YU a slot i ep) Q E s)
 (h:∀h',h'.get? I=some (sI (.int nx 0) (i+1) a es.size ep)->jx I s.heap h'->Q (some x) {s with heap:=h'}):zt (zz prog w) A (Zi (.ref I)) Q E s:=by
 have hT:s.TypeIs (.ref I) "set_iterator":=⟨_,hi,rfl⟩
 unfold Zi
 refine za (ZW (yq (name:=je "__next__") hT aI8 (jL aI8 hT bI7 ?_ (bJ0 _))))
 unfold yi.«set_iterator.__next__» Yu
 generalize hNx:YU=N at hN ⊢
 wp_walk using zI ha rfl hf
 simp only[jR]
 refine hN _ _ _ ?_
 dsimp only
 refine za (Xp hi (show 0<5 by decide) λh1 e1 k1=>?_)
 refine za (Xp e1 (show 1<5 by decide) λh2 e2 k2=>?_)
 refine zc ⟨_,rfl,?_⟩
 exact zc (h h2 e2 (k1.trans k2))
set_option maxHeartbeats 3200000 in
theorem bZ5{I:Addr}{slot i n nx:Nat}(hh:A.handled=none)(hi:s.heap.get? I=some (sI (.int slot 0) i a es.size ep))(ha:s.heap.get? a=some (sO es ep t))(hf:t.fits es.size=true)
 (hN:∀(A:ji) E Q,Q none s->zt (zz prog w) A (YU a slot i ep) Q E s)
 (h:∀h',Heap.ExtBut I s.heap h'->Q none {s with heap:=h'}):zt (zz prog w) A (Zi (.ref I)) Q E s:=by
 have hT:s.TypeIs (.ref I) "set_iterator":=⟨_,hi,rfl⟩
 unfold Zi
 refine za (ZW (yq (name:=je "__next__") hT aI8 (jL aI8 hT bI7 ?_ (bJ0 _))))
 unfold yi.«set_iterator.__next__» Yu
 generalize hNx:YU=N at hN ⊢
 wp_walk using zI ha rfl hf
 simp only[jR]
 refine hN _ _ _ ?_
 dsimp only
 wp_walk
 simp only[raiseNew]
 refine za (wpAny_handled ?_)
 rw[show A.in1.handled=none from hh]
 refine za (zc (wpAny_throw ?_))
 refine za (Yi (T:= "StopIteration") (b:=true) ⟨_,zp _ rfl,rfl⟩ isSubtype_stop (zc ?_))
 exact h _ (((jV ..).extBut.push _).push _)
set_option maxHeartbeats 3200000 in
theorem dU9{I J:Addr}{ps:List Nat}(hi:s.heap.get? I=some (sI (.ref J) i a es.size ep))(ha:s.heap.get? a=some (sO es ep t))(hf:t.fits es.size=true)(hJ:s.heap.get? J=some {cls:=.type "tuple",data:=.seq (ps.map fun(i:Nat)=>xS i).toArray m})
 (hp:ps[i]? =some p) (he:es[p]? =some e)
 (h:∀h',h'.get? I=some (sI (.ref J) (i+1) a es.size ep)->jx I s.heap h'->Q (some e.2) {s with heap:=h'}):zt (zz prog w) A (Zi (.ref I)) Q E s:=by
 have hT:s.TypeIs (.ref I) "set_iterator":=⟨_,hi,rfl⟩
 unfold Zi
 refine za (ZW (yq (name:=je "__next__") hT aI8 (jL aI8 hT bI7 ?_ (bJ0 _))))
 unfold yi.«set_iterator.__next__» Yu
 wp_walk using zI ha rfl hf
 have eg:(ps.map fun(i:Nat)=>xS i).toArray[(i:Int).toNat]? =some (xS p):=by
  rw[jR,JM,zG,hp];rfl
 rw[eg]
 show zt _ _ (setNextDrawn a (p:Int).toNat (ep:Int).toNat >>= λx=>setField (.ref I) 1 (xS (i+1)) >>= λ_=>ret x) _ _ _
 simp only[jR]
 unfold setNextDrawn
 refine za (za (zI ha rfl hf ?_))
 refine zH (λz=>absurd z (by simp)) (λ_=>?_)
 rw[he]
 refine zc ?_
 refine za (Xp hi (show 1<5 by decide) λh2 e2 k2=>?_)
 refine zc ⟨_,rfl,?_⟩
 exact zc (h h2 e2 k2)
set_option maxHeartbeats 3200000 in
theorem eE1{ps:List Nat}(hh:A.handled=none)(hi:s.heap.get? I=some (sI (.ref J) ps.length a es.size ep))(ha:s.heap.get? a=some (sO es ep t))(hf:t.fits es.size=true)(hJ:s.heap.get? J=some {cls:=.type "tuple",data:=.seq (ps.map fun(i:Nat)=>xS i).toArray m})
 (h:∀h',Heap.ExtBut I s.heap h'->Q none {s with heap:=h'}):zt (zz prog w) A (Zi (.ref I)) Q E s:=by
 have hT:s.TypeIs (.ref I) "set_iterator":=⟨_,hi,rfl⟩
 unfold Zi
 refine za (ZW (yq (name:=je "__next__") hT aI8 (jL aI8 hT bI7 ?_ (bJ0 _))))
 unfold yi.«set_iterator.__next__» Yu
 wp_walk using zI ha rfl hf
 have eg:(ps.map fun(i:Nat)=>xS i).toArray[(ps.length:Int).toNat]? =none:=by
  rw[jR,JM,zG,zN (zo _)];rfl
 rw[eg]
 wp_walk
 simp only[raiseNew]
 refine za (wpAny_handled ?_)
 rw[show A.in1.handled=none from hh]
 refine za (zc (wpAny_throw ?_))
 refine za (Yi (T:= "StopIteration") (b:=true) ⟨_,zp _ rfl,rfl⟩ isSubtype_stop (zc ?_))
 exact h _ ((((jV ..).trans (jV ..)).extBut.push _).push _)
end
structure fC7(prog:zT)(w:jg)(A:ji)(s:zm)(a:Addr)(ss:List Str)(I:Addr)(h':Heap):Prop where
 keep:∀b o,s.heap.get? b=some o->h'.get? b=some o
 new:s.heap.objs.size<=I
 walk:∃(J:Addr) (vs:List zg) (ss':List Str) (St:Nat->Heap->Prop),s.heap.objs.size<=J/\StrsAre vs ss'/\ss'.Perm ss/\Walks prog w A I [I,J,a] [I] vs.length (λi v=>vs[i]? =some v) St/\St 0 h'
theorem bI5:∀ {es},YZ (strKind prog w) es->StrsAre (es.map (·.2)) (es.map λe=>sV e.2)
 |[],_=>.nil
 |e::r,h=>by
   obtain⟨⟨k,hk,_⟩,_⟩:=h e (zq ..)
   obtain⟨t,et⟩:=cG1 hk
   rw[zB,zB,et]
   exact .cons _ _ (bI5 λx hx=>h x (zk _ hx))
section
theorem wkT(hh:A.handled=none)(hb:byT w=true)(hf:t.fits es.size=true)(hne:a≠I)(J:Addr)(hJ:J≠I):
 Walks prog w A I [I,J,a] [I] ((Zy (w.params.setOrder a ep) es).toList.map (·.2)).length (λi v=>((Zy (w.params.setOrder a ep) es).toList.map (·.2))[i]? =some v) (λi h=>h.get? I=some (sI (.int 0 0) i a es.size ep)/\h.get? a=some (sO es ep t)) where
 sub:=λb hb=>by simp at hb;simp[hb]
 frame:=λi h h' st hk=>⟨hk I (by simp) _ st.1,hk a (by simp) _ st.2⟩
 item:=λi s Q E hi st hQ=>by
  rw[ze]at hi
  have e:(Zy (w.params.setOrder a ep) es)[i]? =some (Zy (w.params.setOrder a ep) es).toList[i]:=by rw[<-jq,zf hi]
  refine cJ2 (n:=0) (nx:=0) (x:=(Zy (w.params.setOrder a ep) es).toList[i].2) st.1 st.2 hf (λA E Q hq=>eH6 hb st.2 hf (by rw[e];exact hq)) λh' hI hs=>?_
  refine hQ _ h' s.toks (by rw[zG,zf hi];rfl) ⟨hI,?_⟩ λb o hb e=>?_
  ·rw[hs.2 a hne];exact st.2
  ·rw[hs.2 b (by simpa using hb)];exact e
 done:=λs Q E st hQ=>by
  rw[ze]at st
  refine bZ5 (n:=0) (nx:=0) hh st.1 st.2 hf (λA E Q hq=>eH6 hb st.2 hf (by rw[<-jq,zN (zo _)];exact hq)) λh' he=>hQ h' s.toks λb o hb e=>he b o (λz=>hb (by simp[z])) e
 self:=λi s Q E st hQ=>bJ2 st.1 hQ
theorem wkD(hh:A.handled=none)(hf:t.fits es.size=true)(hne:a≠I)(J:Addr)(hJ:J≠I){ps:List Nat}{vs:List zg}(hv:ps.map (λp=>es[p]?.map (·.2))=vs.map some):
 Walks prog w A I [I,J,a] [I] vs.length (λi v=>vs[i]? =some v) (λi h=>h.get? I=some (sI (.ref J) i a es.size ep)/\h.get? a=some (sO es ep t)/\∃m,h.get? J=some {cls:=.type "tuple",data:=.seq (ps.map fun(i:Nat)=>xS i).toArray m}) where
 sub:=λb hb=>by simp at hb;simp[hb]
 frame:=λi h h' st hk=>⟨hk I (by simp) _ st.1,hk a (by simp) _ st.2.1,let ⟨m,e⟩:=st.2.2;⟨m,hk J (by simp) _ e⟩⟩
 item:=λi s Q E hi st hQ=>by
  obtain⟨m,e⟩:=st.2.2
  have hl:ps.length=vs.length:=by have:=congrArg xM hv;simpa using this
  have g:=congrArg (·[i]?) hv
  simp only[zG,zf hi,zf (show i<ps.length by omega),xF,zE]at g
  obtain⟨q,eq,ev⟩:=Option.map_eq_some_iff.mp g
  refine dU9 st.1 st.2.1 hf e (zf (show i<ps.length by omega)) eq λh' hI hs=>?_
  refine hQ _ h' s.toks (by rw[zf hi,ev]) ⟨hI,?_,m,?_⟩ λb o hb e=>?_
  ·rw[hs.2 a hne];exact st.2.1
  ·rw[hs.2 J hJ];exact e
  ·rw[hs.2 b (by simpa using hb)];exact e
 done:=λs Q E st hQ=>by
  obtain⟨m,e⟩:=st.2.2
  have hl:ps.length=vs.length:=by have:=congrArg xM hv;simpa using this
  rw[<-hl]at st
  exact eE1 hh st.1 st.2.1 hf e λh' he=>hQ h' s.toks λb o hb e=>he b o (λz=>hb (by simp[z])) e
 self:=λi s Q E st hQ=>bJ2 st.1 hQ
end
section
variable{prog:zT}{w:jg}{A:ji}{E:VSP}{s:zm}{a I:Addr}{es:Array (Int×zg)}{ep:Nat}{t:SetTable}
theorem fM9(hh:A.handled=none)(hb:byT w=false)(hl:t.led=true)(he:es= #[])(hf:t.fits es.size=true)(hne:a≠I)(J:Addr):
 Walks prog w A I [I,J,a] [I] 0 (λi v=>([]:List zg)[i]? =some v) (λi h=>h.get? I=some (sI (.int 0 0) i a es.size ep)/\h.get? a=some (sO es ep t)) where
 sub:=λb hb=>by simp at hb;simp[hb]
 frame:=λi h h' st hk=>⟨hk I (by simp) _ st.1,hk a (by simp) _ st.2⟩
 item:=λi s Q E hi st hQ=>absurd hi (Nat.not_lt_zero _)
 done:=λs Q E st hQ=>bZ5 (n:=0) (nx:=0) hh st.1 st.2 hf (λA E Q hq=>dO5 hb hl (by subst he;simp) st.2 hf (by subst he;simpa using hq)) λh' he=>hQ h' s.toks λb o hb e=>he b o (λz=>hb (by simp[z])) e
 self:=λi s Q E st hQ=>bJ2 st.1 hQ
theorem fF6(p j:Nat):ZQ #[p] j=if p<j then 1 else 0:=by
 unfold ZQ
 simp[SetTable.below.go]
theorem fR3(hh:A.handled=none)(hb:byT w=false)(hl:t.led=true)(he:es= #[e])(hp:t.place= #[p])(hf:t.fits es.size=true)(hne:a≠I)(J:Addr):
 Walks prog w A I [I,J,a] [I] 1 (λi v=> [e.2][i]? =some v) (λi h=>h.get? I=some (sI (.int (if i=0 then (0:Nat)else p+1:Nat) 0) i a es.size ep)/\h.get? a=some (sO es ep t)) where
 sub:=λb hb=>by simp at hb;simp[hb]
 frame:=λi h h' st hk=>⟨hk I (by simp) _ st.1,hk a (by simp) _ st.2⟩
 item:=λi s Q E hi st hQ=>by
  obtain rfl:i=0:=by omega
  refine cJ2 (n:=0) (nx:=p+1) (x:=e.2) st.1 st.2 hf (λA E Q hq=>dO5 hb hl (by subst he;simp) st.2 hf ?_) λh' hI hs=>?_
  · rw[hp,fF6,he]
    simpa using hq
  refine hQ _ h' s.toks rfl ⟨hI,?_⟩ λb o hb e=>?_
  ·rw[hs.2 a hne];exact st.2
  ·rw[hs.2 b (by simpa using hb)];exact e
 done:=λs Q E st hQ=>bZ5 (n:=0) (nx:=0) hh st.1 st.2 hf (λA E Q hq=>dO5 hb hl (by subst he;simp) st.2 hf (by rw[hp,fF6,he];simpa using hq)) λh' he=>hQ h' s.toks λb o hb e=>he b o (λz=>hb (by simp[z])) e
 self:=λi s Q E st hQ=>bJ2 st.1 hQ
set_option maxHeartbeats 3200000 in
theorem eC1(ha:s.heap.get? a=some (sO es ep t))(hf:t.fits es.size=true)
 (h1:(!byT w&&(!t.plain&&decide (es.size>1)))=true->∀(ps:List Nat) d',ps.Perm (zX es.size)->Q (.ref (s.heap.objs.size+1)) {s with heap:=(s.heap.push {cls:=.type "tuple",data:=.seq (ps.map fun(i:Nat)=>xS i).toArray}).push (sI (.ref s.heap.objs.size) 0 a es.size ep),drawn:=d'})
 (h2:¬((!byT w&&(!t.plain&&decide (es.size>1)))=true)->Q (.ref s.heap.objs.size) {s with heap:=s.heap.push (sI (.int 0 0) 0 a es.size ep)}) (hz:es.size<=zl):zt (zz prog w) A (JA (.ref a)) Q E s:=by
 have hA:s.TypeIs (.ref a) "set":=⟨_,ha,rfl⟩
 refine wpAny_pyIter_slot hA F.slot_set_iter (jL F.slot_set_iter hA eV3 ?_ (F.args_set_iter_1 _))
 unfold yi.«frozenset.__iter__» Builtin.Frozenset.slot0 Builtin.Frozenset.sizeOf Yu setDrawn setEpoch
 wp_walk using zI ha rfl hf
 refine xH (zc (zc ?_))
 have fin:∀(f:zg) (s1:zm),s1.heap.get? a=some (sO es ep t)->Q (.ref s1.heap.objs.size) {s1 with heap:=s1.heap.push (sI f 0 a es.size ep)}->zt (zz prog w) A.in1 (do
  let e <-(do
   let r <-setState a
   pure r.2.1)
  let v <-newFields "set_iterator" [f,xS 0,.ref a,xS (es.size:Nat),xS e]
  ret v) (λfin s'=>∃v,fin=Fin.done (Flow.ret v)/\∃T' r,s'.TypeIs v T'/\Xq (.type T') (je "__next__")=pure (some r)/\Q v s') E s1:=by
  intro f s1 h1 hq
  refine za (za (zI h1 rfl hf (zc ?_)))
  wp_walk
  exact⟨_,rfl, "set_iterator",_,⟨_,zp _ rfl,rfl⟩,aI8.lookup,hq⟩
 refine zH (λz=>?_) (λz=>?_)
 · have hr:(zX es.size).length=es.size:=yk
   have wo:=dG2 (prog:=prog) (w:=w) (A:=A.in1) (E:=E) (zX es.size) s
   rw[hr]at wo
   refine za (wo _ λps d' hp=>?_)
   refine za (wpAny_newTuple ?_ (by rw[ze,hp.length_eq,hr];exact hz))
   have q:=h1 z ps d' hp
   refine fin _ _ (zh _ ha) ?_
   have e:(s.heap.push {cls:=.type "tuple",data:=.seq (ps.map fun(i:Nat)=>xS i).toArray}).objs.size=s.heap.objs.size+1:=Zr ..
   dsimp only
   rw[e]
   exact q
 ·exact za (zc (fin _ _ ha (h2 z)))
theorem dQ8{ps:List Nat}(h:ps.Perm (zX es.size)):∃l:List (Int×zg),l.Perm es.toList/\ps.map (λp=>es[p]?.map (·.2))= (l.map (·.2)).map some:=by
 refine⟨ps.map λp=>es.toList.getD p (0,.none),?_,?_⟩
 · refine(h.map _).trans ?_
   have:(zX es.size).map (λp=>es.toList.getD p (0,.none))=es.toList:=by
    apply xw
    ·simp
    · intro i h1 h2
      have h3:i<es.size:=by simpa using h2
      simp[zP,h3]
   rw[this]
 · rw[jK,jK]
   refine List.map_congr_left λp hp=>?_
   have h3:p<es.size:=yO.mp (h.mem_iff.mp hp)
   simp[zP,h3]
theorem dD0{ss:List Str}{Q:VSP}(hh:A.handled=none)(hS:TSet prog w s.heap a ss)(h:∀I h' d',fC7 prog w A s a ss I h'->Q (.ref I) {s with heap:=h',drawn:=d'}):zt (zz prog w) A (JA (.ref a)) Q E s:=by
 obtain⟨o,es,ep,t,ho,⟨x1,x2,x3⟩,hd,hel,hpm,hb,hf,hl,hpl⟩:=hS
 obtain⟨oc,od,odt,os⟩:=o
 obtain rfl:oc= .type "set":=x1
 obtain rfl:od=none:=x2
 obtain rfl:os= #[]:=x3
 obtain rfl:odt= .set es ep t:=hd
 have hlt:=zn ho
 have hne:a≠s.heap.objs.size:=zw hlt
 have hne2:a≠s.heap.objs.size+1:=zw (jG hlt)
 have hne3:(s.heap.objs.size:Addr)≠s.heap.objs.size+1:=zw (xy _)
 have hz:es.size<=zl:=zC (yt hb) (by decide)
 refine eC1 ho hf (λz ps d' hp=>?_) (λz=>?_) hz
 · refine h _ _ d' ⟨λb o e=>zh _ (zh _ e),Nat.le_succ _,?_⟩
   obtain⟨l,hl1,hl2⟩:=dQ8 hp
   refine⟨s.heap.objs.size,l.map (·.2),l.map λe=>sV e.2,_,zo _,bI5 (hel.perm hl1),(hl1.map _).trans hpm,wkD (ep:=ep) hh hf hne2 _ hne3 hl2,?_⟩
   have e1:(s.heap.push {cls:=.type "tuple",data:=.seq (ps.map fun(i:Nat)=>xS i).toArray}).objs.size=s.heap.objs.size+1:=Zr ..
   refine⟨?_,zh _ (zh _ ho),0,zh _ (zp _ rfl)⟩
   rw[<-e1]
   exact zp _ rfl
 · refine h _ _ s.drawn ⟨λb o e=>zh _ e,zo _,?_⟩
   rcases hbt:byT w with _|_
   · have led:t.led=true:=by rw[hl,hbt];rfl
     have h1:¬(!t.plain&&decide (es.size>1))=true:=λq=>z (by rw[hbt,q];rfl)
     have hs:es.size<=1:=by
      rcases xz 1 es.size with q|q
      ·exact absurd (by rw[hpl (by omega),decide_eq_true q];rfl) h1
      ·exact q
     obtain⟨l⟩:=es
     rcases l with _|⟨e,_|⟨_,_⟩⟩
     ·exact⟨s.heap.objs.size+1, [], [],_,by omega,.nil,hpm,fM9 (t:=t) (ep:=ep) hh hbt led rfl hf hne _,zp _ rfl,zh _ ho⟩
     · have hp1:t.place.size=1:=by
        have:=hf
        unfold xu at this
        rw[zZ]at this
        simpa using this.1
       obtain⟨p,ep1⟩:∃p,t.place= #[p]:=by
        rcases hq:t.place with⟨pl⟩
        rcases pl with _|⟨p,_|⟨_,_⟩⟩
        ·rw[hq]at hp1;simp at hp1
        ·exact⟨p,rfl⟩
        ·rw[hq]at hp1;simp at hp1
       exact⟨s.heap.objs.size+1, [e.2], [sV e.2],_,by omega,bI5 (es:= [e]) hel,hpm,fR3 (t:=t) (ep:=ep) hh hbt led rfl ep1 hf hne _,zp _ rfl,zh _ ho⟩
     ·simp at hs
   ·refine⟨s.heap.objs.size+1,_,_,_,by omega,bI5 (hel.perm (bD7 (w.params.setOrder a ep) es)),((bD7 (w.params.setOrder a ep) es).map _).trans hpm,wkT (t:=t) hh hbt hf hne _ hne3.symm,zp _ rfl,zh _ ho⟩
end
section
variable{prog:zT}{w:jg}{s:zm}{a I:Addr}{es:Array (Int×zg)}{ep:Nat}{t:SetTable}
theorem TSet.type(hS:TSet prog w s.heap a ss):s.TypeIs (.ref a) "set":=by
 obtain⟨o,es,ep,t,ho,⟨x1,_⟩,_⟩:=hS
 exact⟨o,ho,x1⟩
end
section
theorem dQ2(hh:A.handled=none)(hS0:TSet prog w s.heap a ss)(S:Addr)(hSr:S≠a)(res:zg)(c₀:Nat)(hS:s.heap.get? S=some {cls:=.type "list",data:=.seq #[] c₀})(hn:ss.length<=zl)
 (hR:∀h' d' tk acc' c' ss',(∀b o,b≠S->s.heap.get? b=some o->h'.get? b=some o)->h'.get? S=some {cls:=.type "list",dict:=none,data:=.seq acc' c',slots:= #[]}->StrsAre acc'.toList ss'->ss'.Perm ss->R (.ok (.ret res)) {s with heap:=h',drawn:=d',toks:=tk}):
 zt (zz prog w) A.in1 (jI (.ref S) (.ref a) res)
  (λfin s'=>match fin with| .done f=>R (.ok f) s'| .again c'=>c'.quiet=true/\xQ (zz prog w) A c' R s') (λe s'=>R (.error e) s') s:=by
 unfold jI
 refine za (xG (T:= "set") hS0.type ?_)
 have h1:xm (.ref S) (.ref a)=false:=by simp[xm,hSr]
 have h2:(Value.type "set" == Value.type "list")=false:=by decide
 have h3:(Value.type "set" == Value.type "tuple")=false:=by decide
 simp only[h1,h2,h3,Zz,jf,if_false]
 refine za (dD0 (A:=A.in1) hh hS0 λI h0 d0 ⟨keep,new,J,vs,ss',St,hJ,hv,hp,W,st⟩=>?_)
 have hSlt:=zn hS
 have halt:a<s.heap.objs.size:=by obtain⟨o,_,_,_,ho,_⟩:=hS0;exact zn ho
 have hSf:S∉ [I,J,a]:=by
  simp only[zu,ju,or_false,not_or]
  exact⟨zw (zV hSlt new),zw (zV hSlt hJ),hSr⟩
 have hvl:vs.length<=zl:=by rw[StrsAre.length hv,hp.length_eq];exact hn
 have key:∀(h:Heap) (c₁ tk:Nat),St 0 h->(∀b o,b≠S->s.heap.get? b=some o->h.get? b=some o)->
  h.get? S=some {cls:=.type "list",data:=.seq #[] c₁}->xQ (zz prog w) A (.builtin "list.extend.loop" ⟨[.ref S,.ref I,res], []⟩) R {s with heap:=h,drawn:=d0,toks:=tk}:=by
  intro h c₁ tk hst hk hS₁
  refine codeAny_extend_loopS W.toS hvl S hSf res vs.length 0 _ #[] c₁ rfl (jh _) hst hS₁ (ItemsOf.nil _) λs' acc' c' hm hS' hacc=>?_
  rw[Moved.eq_with hm]
  refine hR s'.heap d0 s'.toks acc' c' ss' (λb o hb e=>hm.heap b o (λhmem=>?_) (hk b o hb e)) hS' ?_ hp
  · rcases zu.mp hmem with e'|hmem
    ·exact hb e'
    · have:=zn e
      rw[zr.mp hmem]at this
      exact absurd new (Nat.not_le.mpr this)
  · have:acc'.toList=vs:=by
     apply Xd
     intro i
     rcases xz i acc'.size with q|q
     · have:=hacc.2 i acc'[i] (by simp[q])
       rw[this,jq];simp[q]
     ·rw[zN (by simpa using q),zN (by rw[<-hacc.1];exact q)]
    rw[this];exact hv
 have hS₁:=keep _ _ hS
 refine za (jl (dA9 (s:={s with heap:=h0,drawn:=d0}) (TSet.type (s:={s with heap:=h0,drawn:=d0}) (hS0.congr λo e=>keep _ _ e)) ?_))
 refine zH (λ_=>?_) (λ_=>zc ⟨jC Zq _,key _ c₀ _ st (λb o _ e=>keep _ _ e) hS₁⟩)
 refine za (xh ?_)
 refine za ?_
 show zt _ _ (updateSeq S (·.push .none) >>= λ_=>updateSeq S (·.pop)) _ _ _
 refine za (yr hS₁ rfl ?_)
 have hS₂:=jw (jp (·.push Value.none)) hS₁ rfl
 refine yr (hz:=by seq_fits) hS₂ rfl ?_
 have hS₃:=jw (jp (·.pop)) hS₂ rfl
 refine zc ⟨jC Zq _,key _ _ _ ?_ (λb o hb e=>?_) hS₃⟩
 · refine W.frame 0 _ _ st λb hb o e=>?_
   have hbS:b≠S:=λh=>hSf (h▸hb)
   exact(jt _ _ (Ne.symm hbS)).trans ((jt _ _ (Ne.symm hbS)).trans e)
 ·exact(jt _ _ (Ne.symm hb)).trans ((jt _ _ (Ne.symm hb)).trans (keep _ _ e))
end
section
theorem dQ9(hh:A.handled=none)(hS0:TSet prog w s.heap a ss)(hn:ss.length<=zl)
 (h:∀h' d' tk vs ss',(∀b o,s.heap.get? b=some o->h'.get? b=some o)->StrsAre vs ss'->ss'.Perm ss->R vs {s with heap:=h',drawn:=d',toks:=tk}):
 zt (zz prog w) A (collect (.ref a)) R E s:=by
 have halt:a<s.heap.objs.size:=by obtain⟨o,_,_,_,ho,_⟩:=hS0;exact zn ho
 unfold collect
 refine za (wpAny_runValue (jO entry_proto_collect' ?_))
 rw[jz PySem.F.plain_proto_collect _]
 show zt _ A.in1 (newList [] >>= λl=>again (.builtin "list.__iadd__" ⟨[l,.ref a], []⟩)) _ _ s
 refine za (xt ?_)
 refine zc ⟨jC XQ _,jO entry_list_iadd' ?_⟩
 rw[jz XQ _]
 have hS₁:(s.heap.push {cls:=.type "list",data:=.seq ([]:List zg).toArray}).get? s.heap.objs.size=some {cls:=.type "list",data:=.seq #[]}:=zp _ rfl
 show zt _ A.in1 (jI (.ref s.heap.objs.size) (.ref a) (.ref s.heap.objs.size)) _ _ _
 have key:=dQ2 (A:=A) (s:={s with heap:=s.heap.push {cls:=.type "list",data:=.seq ([]:List zg).toArray}})
  (R:=fun(q:Result) (s':zm)=>∃(h':Heap) (d':_) (tk:Nat) (acc':Array zg) (c':Nat) (ss':List Str),q= .ok (.ret (.ref s.heap.objs.size))/\s'= {s with heap:=h',drawn:=d',toks:=tk}/\
    (∀b o,s.heap.get? b=some o->h'.get? b=some o)/\h'.get? s.heap.objs.size=some {cls:=.type "list",dict:=none,data:=.seq acc' c',slots:= #[]}/\StrsAre acc'.toList ss'/\ss'.Perm ss)
  hh (hS0.congr λo e=>zh _ e) s.heap.objs.size (yd halt) (.ref s.heap.objs.size) 0 hS₁ hn
  (λh' d' tk acc' c' ss' hk hS' hv hp=>⟨h',d',tk,acc',c',ss',rfl,rfl,λb o e=>hk b o (zw (zn e)) (zh _ e),hS',hv,hp⟩)
 refine jH key (λfin s' x=>?_) λe s' x=>?_
 · cases fin with
   |done f=>
     obtain⟨h',d',tk,acc',c',ss',e,rfl,hk,hS',hv,hp⟩:=x
     cases e
     show zt _ A (load s.heap.objs.size >>= _) _ _ _
     refine za (wpAny_load hS' ?_)
     exact zc (h h' d' tk acc'.toList ss' hk hv hp)
   |again c₁=>
     refine⟨x.1,Zw x.2 λq s₂ y=>?_⟩
     obtain⟨h',d',tk,acc',c',ss',rfl,rfl,hk,hS',hv,hp⟩:=y
     show zt _ A (load s.heap.objs.size >>= _) _ _ _
     refine za (wpAny_load hS' ?_)
     exact zc (h h' d' tk acc'.toList ss' hk hv hp)
 · obtain⟨_,_,_,_,_,_,e',_⟩:=x
   cases e'
theorem cI0(hh:A.handled=none)(hS0:TSet prog w s.heap a ss)(hn:ss.length<64)
 (h:∀(h1 h':Heap) d' (tk e:Nat) out ss',(∀b o,s.heap.get? b=some o->h1.get? b=some o)->(∀b o,h1.get? b=some o->h'.get? b=some o)->h'.get? h1.objs.size=some (jy "list" out.toArray e)->StrsAre out ss'->ss'.Perm ss->sortedS ss'=true->Q (.ref h1.objs.size) {s with heap:=h',drawn:=d',toks:=tk}):
 zt (zz prog w) A (call (.builtin "sorted") [.ref a]) Q E s:=by
 have hz:ss.length<=zl:=zC (yt hn) (by decide)
 refine Zu Jm XG XI (args_sorted1 _) ?_
 unfold yi.«sorted»
 refine za (m:=checkCount "sorted" 1 1 _) (zc ?_)
 refine za (dQ9 (A:=A.in1) hh hS0 hz λh1 d' tk vs ss1 hk hS hp1=>?_)
 have hl:vs.length=ss.length:=by rw[StrsAre.length hS,hp1.length_eq]
 refine za (xN ?_ (by rw[hl];exact hz))
 have hoL:(h1.push (jy "list" vs.toArray 0)).get? h1.objs.size=some (jy "list" vs.toArray 0):=zp _ rfl
 refine za (jl (jL YR ⟨_,hoL,rfl⟩ YC (Jr strKind_oneLt hoL hS.keysOf (λv₁ v₂ Q9 e=>XH (by rw[<-e];exact hS)) (by rw[hl];exact hn) λst' a1 a2=>⟨_,rfl,?_⟩) (JL _)))
 obtain⟨ss',b1,b2,b3⟩:=JH hS a1 a2
 obtain⟨e,he⟩:=sortedHeap_at (vs:=vs) (out:=(YD st').map (·.2)) hoL
 refine zc ⟨_,rfl,h h1 _ d' tk e ((YD st').map (·.2)).toList ss' hk (λb o hb=>?_) (by rw[Ze];exact he) b1 (b2.trans hp1) b3⟩
 have hlt:b<h1.objs.size:=zn hb
 rw[JI (zw hlt) (by rw[ZD];exact jG hlt),xk _ _ _ (zw hlt)]
 exact hb
end
section
theorem eT6(I:Inv X pins σ H s):Inv X pins σ H {s with drawn:=d'}:=⟨I.ok,I.os,I.bare,I.base,I.loc,I.cell,I.free,I.freeC,I.pin,I.hok,I.len⟩
end
end DL
namespace W
open PySem PySem.Spec L2 DL
open PyProof.Rows hiding St
end W
namespace DL
open PySem PySem.Spec L2
open PyProof.Rows hiding St
noncomputable def lcg(m i:Nat):Nat:=(i*5+1) % (m+1)
def itr(m:Nat):Nat->Nat->Nat
 |0,i=>i
 |k+1,i=>itr m k (lcg m i)
def bF3(m:Nat):Prop:=∀i≤m,∀j≤m,∃k≤m,itr m k i=j
def eI9(m:Nat):Bool:=(zX (m+1)).all λi=>(zX (m+1)).all λj=>(zX (m+1)).any λk=>itr m k i==j
theorem bI2(h:eI9 m=true):bF3 m:=by
 intro i hi j hj
 unfold eI9 at h
 have h1:=yz.mp h i (yO.mpr (by omega))
 have h2:=yz.mp h1 j (yO.mpr (by omega))
 obtain⟨k,hk,e⟩:=xY.mp h2
 exact⟨k,by have:=yO.mp hk;omega,by simpa using e⟩
theorem eI8:bF3 7:=bI2 (by decide +kernel)
theorem eY3:bF3 15:=bI2 (by decide +kernel)
theorem eU6:bF3 31:=bI2 (by decide +kernel)
theorem eZ6:bF3 63:=bI2 (by decide +kernel)
theorem bI3(m:Nat):∀a b i,itr m (a+b) i=itr m a (itr m b i)
 |a,0,i=>rfl
 |a,b+1,i=>bI3 m a b (lcg m i)
theorem dU0(hp:itr m (m+1) 0=0)(h:((zX (m+1)).all λj=>(zX (m+1)).any λk=>itr m k 0==j)=true):bF3 m:=by
 have one:∀j≤m,∃k≤m,itr m k 0=j:=λj hj=>by
  obtain⟨k,hk,e⟩:=xY.mp (yz.mp h j (yO.mpr (by omega)))
  exact⟨k,by have:=yO.mp hk;omega,by simpa using e⟩
 intro i hi j hj
 obtain⟨a,ha,ea⟩:=one i hi
 obtain⟨b,hb,eb⟩:=one j hj
 by_cases c:a<=b
 ·exact⟨b-a,by omega,by rw[<-ea,<-bI3,Nat.sub_add_cancel c];exact eb⟩
 · refine⟨b+(m+1)-a,by omega,?_⟩
   rw[<-ea,<-bI3,Nat.sub_add_cancel (by omega),bI3,hp]
   exact eb
theorem eC5:bF3 127:=dU0 (by decide +kernel) (by decide +kernel)
noncomputable def bL1(owner:Array (Option Nat))(r:Option Nat):Prop:=∃j,r=some j/\owner[j]? =some none
theorem cZ6{owner:Array (Option Nat)}(h:(zX n).find? (λk=>(owner.getD (i+k) (some 0)).isNone)=some k):owner[i+k]? =some none:=by
 have:=List.find?_some h
 have e:owner.getD (i+k) (some 0)=none:=by simpa using this
 rw[Zm]at e
 rcases h2:owner[i+k]? with _|o
 ·rw[h2]at e;cases e
 · rw[h2]at e
   have:o=none:=e
   rw[this]
theorem dF0(h:owner[i]? =some none):bL1 owner (jB mask owner (f+1) i p):=by
 unfold jB
 have hr:∃m,YX mask i+1-i=m+1:=by
  unfold YX
  split
  ·exact⟨9,by omega⟩
  ·exact⟨0,by omega⟩
 obtain⟨m,hm⟩:=hr
 have:((zX (YX mask i+1-i)).find? λk=>(owner.getD (i+k) (some 0)).isNone)=some 0:=by
  rw[hm,yW,List.find?_cons_of_pos]
  rw[Zm,Nat.add_zero,h];rfl
 rw[this]
 exact⟨i,by simp,h⟩
theorem bU4{owner:Array (Option Nat)}(h:bL1 owner (jB mask owner f (Yl mask i p).1 (Yl mask i p).2)):bL1 owner (jB mask owner (f+1) i p):=by
 unfold jB
 split
 · rename_i k hk
   exact⟨i+k,rfl,cZ6 hk⟩
 ·exact h
theorem cF0(hj:owner[j]? =some none):∀k f i,k<f->itr mask k i=j->bL1 owner (jB mask owner f i 0)
 |0,f+1,i,_,e=>by
   have e:i=j:=e
   rw[<-e]at hj
   exact dF0 hj
 |k+1,f+1,i,hf,e=>by
   refine bU4 ?_
   have e1:(Yl mask i 0).1=lcg mask i:=by show (i*5+1+0 / 32) % (mask+1)=_;simp[lcg]
   have e2:(Yl mask i 0).2=0:=by show 0 / 32=0;rfl
   rw[e1,e2]
   exact cF0 hj k f _ (by omega) e
theorem cV3(hF:bF3 mask)(hj:owner[j]? =some none)(hm:j<=mask):∀n f i p,p<32 ^ n->n+mask<f->i<=mask->bL1 owner (jB mask owner f i p)
 |0,f,i,p,hp,hf,hi=>by
   obtain rfl:p=0:=by simpa using hp
   obtain⟨k,hk,e⟩:=hF i hi j hm
   exact cF0 hj k f i (by omega) e
 |n+1,f+1,i,p,hp,hf,hi=>by
   refine bU4 (cV3 hF hj hm n f _ _ ?_ (by omega) ?_)
   · show p / 32<32 ^ n
     rw[Nat.pow_succ]at hp
     omega
   · show (i*5+1+p / 32) % (mask+1)<=mask
     have:=ZZ (i*5+1+p / 32) (show 0<mask+1 by omega)
     omega
structure cY7(mask:Nat)(k:Nat)(owner:Array (Option Nat)):Prop where
 sz:owner.size=mask+1
 pm:(owner.toList.filterMap id).Perm (zX k)
theorem cK9:∀ {l:List (Option α)} {j:Nat},l[j]? =some none->((l.set j (some x)).filterMap id).Perm (x::l.filterMap id)
 |[],_,h=>by simp at h
 |a::l,0,h=>by
   have:a=none:=by simpa using h
   subst this
   simp
 |a::l,j+1,h=>by
   have ih:=cK9 (x:=x) (l:=l) (j:=j) (by simpa using h)
   rw[jM]
   rcases a with _|a
   ·simpa using ih
   · show (a::Ys id (l.set j (some x))).Perm (x::a::Ys id l)
     exact(List.Perm.cons a ih).trans (List.Perm.swap ..)
theorem cK4:∀ {l:List (Option Nat)},(l.filterMap id).length<l.length->∃j,j<l.length/\l[j]? =some none
 |[],h=>by simp at h
 |none::l,h=>⟨0,by simp,rfl⟩
 |some a::l,h=>by
   obtain⟨j,h1,h2⟩:=cK4 (l:=l) (by simpa using h)
   exact⟨j+1,by simpa using h1,by simpa using h2⟩
theorem dY3(h:Int):yT h<32 ^ 13:=by
 unfold yT
 have h1:=jN h (show (0:Int)<2 ^ 64 by decide)
 have h2:=jJ h (show (2 ^ 64:Int)≠0 by decide)
 have:(32:Nat) ^ 13=36893488147419103232:=by decide
 omega
theorem cY7.step{owner:Array (Option Nat)}(hF:bF3 mask)(I:cY7 mask k owner)(hk:k<=mask)(h:Int):∃j,jB mask owner (ZO mask) (yT h % (mask+1)) (yT h)=some j/\cY7 mask (k+1) (owner.setIfInBounds j (some k)):=by
 have hl:(owner.toList.filterMap id).length=k:=by rw[I.pm.length_eq,yk]
 obtain⟨j0,hj0,e0⟩:=cK4 (l:=owner.toList) (by rw[hl,zA,I.sz];omega)
 rw[jq]at e0
 have hm:j0<=mask:=by rw[zA,I.sz]at hj0;omega
 have hi:yT h % (mask+1)<=mask:=by have:=ZZ (yT h) (show 0<mask+1 by omega);omega
 obtain⟨j,e,ho⟩:=cV3 hF e0 hm 13 (ZO mask) _ _ (dY3 h) (by unfold ZO;omega) hi
 refine⟨j,e,by simp[I.sz],?_⟩
 rw[Array.toList_setIfInBounds]
 refine(cK9 (by rw[jq];exact ho)).trans ?_
 rw[List.range_succ]
 exact(List.Perm.cons k I.pm).trans (List.perm_append_singleton ..).symm
theorem dS4(hF:bF3 mask):∀(hs:List Int) (k:Nat) owner,cY7 mask k owner->k+hs.length<=mask+1->
 ∃owner',(hs.foldl (fun(acc:Option (Array (Option Nat)×Nat)) h=>do
  let (owner,k) <-acc
  let j <-jB mask owner (ZO mask) (yT h % (mask+1)) (yT h)
  pure (owner.setIfInBounds j (some k),k+1)) (some (owner,k)))=some (owner',k+hs.length)/\cY7 mask (k+hs.length) owner'
 |[],k,owner,I,_=>⟨owner,rfl,I⟩
 |h::hs,k,owner,I,hl=>by
   simp only[zD]at hl
   obtain⟨j,e,I2⟩:=I.step hF (by omega) h
   obtain⟨o',e2,I3⟩:=dS4 hF hs (k+1) _ I2 (by omega)
   refine⟨o',?_,by rw[zD,show k+(hs.length+1)=k+1+hs.length by omega];exact I3⟩
   rw[jT,zD,show k+(hs.length+1)=k+1+hs.length by omega,<-e2]
   simp[e]
theorem bN8{owner:Array (Option Nat)}(hs:owner.size=mask+1):(((zX (mask+1)).filterMap λj=>(owner.getD j none).map (j, ·)).map (·.2))=owner.toList.filterMap id:=by
 rw[List.map_filterMap]
 have:owner.toList= (zX (mask+1)).map λj=>owner.getD j none:=by
  apply xw
  ·simp[hs]
  · intro i h1 h2
    have h3:i<owner.size:=by simpa using h1
    simp[Zm,h3]
 rw[this,YN]
 congr 1
 funext j
 simp[Option.map_map,xK]
theorem bX7{mask finger moves:Nat}{led JB:Bool}(hF:bF3 mask)(hs:Array Int)(hl:hs.size<=mask):∃t order,Ym mask finger moves led JB hs=some (t,order)/\order.toList.Perm (zX hs.size)/\t.fits hs.size=true/\t.led=led/\t.plain=JB/\t.mask=mask/\t.dummies= #[]:=by
 have I0:cY7 mask 0 (Array.replicate (mask+1) none):=⟨by simp,by simp⟩
 obtain⟨o,e,I⟩:=dS4 hF hs.toList 0 _ I0 (by rw[zA];omega)
 rw[Nat.zero_add,zA]at I
 have el:JF mask hs=some o:=by
  unfold JF
  rw[<-Array.foldl_toList,e];rfl
 refine⟨_,_,by unfold Ym;rw[el];rfl,?_,?_,rfl,rfl,rfl,rfl⟩
 · show ((Ys _ _).map _).Perm _
   rw[bN8 I.sz];exact I.pm
 · unfold xu Xv
   have hz:((zX (mask+1)).filterMap λj=>(o.getD j none).map (j, ·)).length=hs.size:=by
    have h1:=congrArg xM (bN8 I.sz)
    rw[ze,I.pm.length_eq,yk]at h1
    exact h1
   rw[zZ]
   constructor
   ·simp only[zj,ze,hz,beq_self_eq_true]
   · simp only[zj,ze,hz]
     exact decide_eq_true hl
theorem aY0(h:n<=94):bF3 (jA n-1)/\n<jA n/\jA n<=128:=by
 have key:∀m≤94,(jA m=8\/jA m=16\/jA m=32\/jA m=64\/jA m=128)/\m<jA m:=by decide
 obtain⟨h1,h2⟩:=key n h
 rcases h1 with e|e|e|e|e<;>rw[e]at h2 ⊢
 ·exact⟨eI8,h2,by decide⟩
 ·exact⟨eY3,h2,by decide⟩
 ·exact⟨eU6,h2,by decide⟩
 ·exact⟨eZ6,h2,by decide⟩
 ·exact⟨eC5,h2,by decide⟩
theorem aZ5{es:Array (Int×zg)}{order:Array Nat}(h:order.toList.Perm (zX es.size)):(order.filterMap (es[·]?)).toList.Perm es.toList:=by
 rw[Array.toList_filterMap]
 refine(h.filterMap _).trans ?_
 have:(zX es.size).filterMap (es[·]?)=es.toList:=by
  have e:∀l:List (Int×zg),(zX l.length).filterMap (l[·]?)=l:=by
   intro l
   induction l with
   |nil=>rfl
   |cons a r ih=>
     rw[zD,yW]
     show a::Ys _ (List.map _ _)=_
     rw[YN]
     congr 1
  have:=e es.toList
  simpa using this
 rw[this]
section
variable{prog:zT}{w:jg}{A:ji}{E:VSP}{s:zm}{a:Addr}
theorem cV6(ho:s.heap.get? a=some o)(hex:o.ExactSet)(hd:o.data= .set es ep t)(hel:YZ (strKind prog w) es'.toList)(hp:(es'.toList.map λe=>sV e.2).Perm ss)(hb:es'.size<Yk)(hf:t'.fits es'.size=true)(hl:t'.led= (!byT w))(hpl:0<es'.size->t'.plain=false):TSet prog w (s.heap.update a (xr es' t')) a ss:=by
 have hg:(s.heap.update a (xr es' t')).get? a=some {o with data:=.set es' (ep+1) t'}:=by
  have:=jw (xr es' t') ho (by rw[putSet_of es' t' hd];rfl)
  rw[putSet_of es' t' hd]at this;exact this
 exact⟨_,es',ep+1,t',hg,hex,rfl,hel,hp,hb,hf,hl,hpl⟩
theorem dM1{ss:List Str}{Q:Unit->zm->Prop}(hS:TSet prog w s.heap a ss)(hn:n<=94)(hl:ss.length<jA n)(h:∀h',jx a s.heap h'->TSet prog w h' a ss->Q () {s with heap:=h'}):zt (zz prog w) A (setRelay a n) Q E s:=by
 obtain⟨o,es,ep,t,ho,hex,hd,hel,hpm,hb,hf,hle,hpl⟩:=hS
 obtain⟨hF,_,h64⟩:=aY0 hn
 have hsz:es.size=ss.length:=by have:=hpm.length_eq;rw[ze,zA]at this;exact this
 obtain⟨t',order,el,hpo,hfit,h1,h2,h3,h4⟩:=bX7 (finger:=t.finger) (moves:=t.movedTo (jA n-1)) (led:=t.led) (JB:=t.plain) hF (es.map (·.1)) (by rw[xO];omega)
 rw[xO]at hpo hfit
 have hop:=aZ5 hpo
 have hos:(order.filterMap (es[·]?)).size=es.size:=by rw[<-zA,hop.length_eq,zA]
 unfold setRelay
 refine za (zI ho hd hf ?_)
 refine zH (λz=>absurd z (YS.mpr (zC h64 (by decide)))) (λ_=>?_)
 refine za ?_
 have er:t.relaid (es.map (·.1)) n=some (t',order):=el
 rw[er]
 refine zH (λz=>absurd z (by rw[hos];simp)) (λ_=>zc ?_)
 refine xZ ho hd ?_ (ZN (by rw[hos];exact hb))
 exact h _ (jV ..) (cV6 ho hex hd (hel.perm hop) ((hop.map _).trans hpm) (by rw[hos];exact hb) (by rw[hos];exact hfit) (h1.trans hle) (by rw[hos];exact λz=>h2.trans (hpl z)))
theorem eB0(hS:TSet prog w s.heap a ss)(hn:ss.length+n<=47)(h:∀h',jx a s.heap h'->TSet prog w h' a ss->Q () {s with heap:=h'}):zt (zz prog w) A (Xs a n) Q E s:=by
 have hS':=hS
 obtain⟨o,es,ep,t,ho,hex,hd,hel,hpm,hb,hf,hle,hpl⟩:=hS
 have hsz:es.size=ss.length:=by have:=hpm.length_eq;rw[ze,zA]at this;exact this
 have hps:t.place.size=es.size:=by
  unfold xu at hf
  rw[zZ]at hf
  simpa using hf.1
 unfold Xs
 refine za (zI ho hd hf ?_)
 dsimp only
 unfold YL
 split
 · rename_i x hx
   split at hx
   · have hx:=zQ hx
     subst hx
     have:=aY0 (n:=(t.place.size+n)*2) (by omega)
     exact dM1 hS' (by omega) (by omega) h
   ·cases hx
 · have e:s= {s with heap:=s.heap}:=by cases s;rfl
   rw[e]
   exact zc (h s.heap (yf a s.heap) hS')
def dS0(w:jg)(h:Heap)(a:Addr)(n:Nat):Prop:=∃ep t,h.get? a=some (sO #[] ep t)/\bF3 t.mask/\n<=t.mask/\t.fill=0/\t.place= #[]/\t.led= (!byT w)
theorem dS0.ts(h:dS0 w s.heap a n):TSet prog w s.heap a []:=by
 obtain⟨ep,t,ho,_,_,hf,hp,hl⟩:=h
 exact⟨_, #[],ep,t,ho,⟨rfl,rfl,rfl⟩,rfl,(λ_ h=>by simp at h),.nil,by decide,by unfold xu;rw[hf,hp];rfl,hl,λh=>by simp at h⟩
noncomputable abbrev fO(led:Bool):Obj:=sO #[] 0 (.fresh 0 0 led)
theorem eV2(h:s.heap.get? a=some (fO (!byT w)))(hn:n<=7):dS0 w s.heap a n:=⟨0,_,h,eI8,hn,rfl,rfl,rfl⟩
theorem eJ7{n:Nat}{Q:Unit->zm->Prop}(ho:s.heap.get? a=some (fO (!byT w)))(hn:n<=47)(h:∀h',jx a s.heap h'->dS0 w h' a n->Q () {s with heap:=h'}):zt (zz prog w) A (Xs a n) Q E s:=by
 unfold Xs
 refine za (zI ho rfl rfl ?_)
 dsimp only
 by_cases c:(0+n)*5>=7*3
 · have er:(ZP 0 0 (!byT w)).roomFor n=some ((0+n)*2):=by unfold YL;exact if_pos c
   rw[er]
   dsimp only
   obtain⟨hF,h2,h64⟩:=aY0 (n:=(0+n)*2) (by omega)
   obtain⟨t',order,el,hpo,hfit,h1,_,h3,h4⟩:=bX7 (finger:=0) (moves:=(ZP 0 0 (!byT w)).movedTo (jA ((0+n)*2)-1)) (led:= !byT w) (JB:=true) hF ((#[]:Array (Int×zg)).map (·.1)) (by rw[xO];exact jh _)
   rw[xO]at hpo hfit
   have hop:=aZ5 (es:= #[]) hpo
   have he0:order.filterMap (fun(x:Nat)=>(#[]:Array (Int×zg))[x]?)= #[]:=by
    have:=hop.length_eq
    apply Xh
    rw[<-zA,this];rfl
   have hp0:t'.place= #[]:=by
    unfold xu at hfit
    rw[zZ]at hfit
    simpa using hfit.1
   unfold setRelay
   refine za (zI ho rfl rfl ?_)
   refine zH (λz=>absurd z (YS.mpr (zC h64 (by decide)))) (λ_=>?_)
   refine za ?_
   have er2:(ZP 0 0 (!byT w)).relaid ((#[]:Array (Int×zg)).map (·.1)) ((0+n)*2)=some (t',order):=el
   rw[er2]
   refine zH (λz=>absurd z (by rw[he0];decide)) (λ_=>zc ?_)
   rw[he0]
   refine xZ ho rfl ?_ (jh _)
   refine h _ (jV ..) ⟨1,t',?_,by rw[h3];exact hF,by rw[h3];omega,by unfold Xv;rw[hp0,h4];rfl,hp0,h1⟩
   exact jw (xr #[] t') ho (by rfl)
 · have er:(ZP 0 0 (!byT w)).roomFor n=none:=by unfold YL;exact if_neg c
   rw[er]
   have e:s= {s with heap:=s.heap}:=by cases s;rfl
   rw[e]
   exact zc (h s.heap (yf a s.heap) (eV2 ho (by omega)))
theorem bS4{o:Addr}{each:Sem Unit}{Q:Unit->zm->Prop}(hne:a≠o)(ha:s.heap.get? a=some (fO (!byT w)))(hS:TSet prog w s.heap o ss)(hn:ss.length<=47)(h:∀h',jx a s.heap h'->(ss= []/\h'=s.heap\/ss≠ []/\TSet prog w h' a ss)->Q () {s with heap:=h'}):zt (zz prog w) A (setMerge a o each) Q E s:=by
 have hS':=hS
 obtain⟨ob,es,ep,t,ho,hex,hd,hel,hpm,hb,hf,hle,hpl⟩:=hS
 have hsz:es.size=ss.length:=by have:=hpm.length_eq;rw[ze,zA]at this;exact this
 unfold setMerge
 refine zH (λz=>absurd z (by simp[hne])) (λ_=>?_)
 refine za (zI ho hd hf ?_)
 dsimp only
 refine zH (λz=>?_) (λz=>?_)
 · have hz:es= #[]:=by simpa using z
   have:ss= []:=ZG.mp (by rw[<-hsz,hz];rfl)
   have e:s= {s with heap:=s.heap}:=by cases s;rfl
   rw[e]
   exact zc (h s.heap (yf a s.heap) (.inl ⟨this,rfl⟩))
 have h0:0<es.size:=by
  rcases xL es.size with q|q
  ·exact absurd (by simp[Xh q]) z
  ·exact q
 have hss:ss≠ []:=λq=>by rw[q]at hsz;simp at hsz;rw[hsz]at h0;simp at h0
 refine za (eJ7 ha (by omega) λh1 sb1 hz1=>?_)
 obtain⟨ep1,t1,g1,hF,hm,hfl,hp1,hl1⟩:=hz1
 refine za (zI g1 rfl (by unfold xu;rw[hfl,hp1];rfl) ?_)
 dsimp only
 have fin:∀(es':Array (Int×zg)) (t':SetTable),es'.toList.Perm es.toList->t'.fits es.size=true->t'.led= (!byT w)->t'.plain=false->zt (zz prog w) A (storeSet a es' t') Q E {s with heap:=h1}:=by
  intro es' t' hp' hf' hl' hpl'
  have hz':es'.size=es.size:=by rw[<-zA,hp'.length_eq,zA]
  refine xZ g1 rfl ?_ (ZN (by rw[hz'];exact hb))
  exact h _ (sb1.trans (jV ..)) (.inr ⟨hss,cV6 (s:={s with heap:=h1}) g1 ⟨rfl,rfl,rfl⟩ rfl (hel.perm hp') ((hp'.map _).trans hpm) (by rw[hz'];exact hb) (by rw[hz'];exact hf') hl' λ_=>hpl'⟩)
 have hnz:¬((t1.fill != 0)=true):=by rw[hfl];decide
 have hled:(t1.led&&t.led)= (!byT w):=by rw[hl1,hle];cases byT w<;>rfl
 have hpn:∀b:Bool,(b&&t.plain)=false:=λb=>by rw[hpl h0];cases b<;>rfl
 by_cases c:(t1.mask==t.mask&&t.dummies.isEmpty)=true
 · have er:t1.road t= .slotForSlot:=by unfold Xu;rw[if_neg hnz,if_pos c]
   rw[er]
   exact fin es _ (.refl _) hf hled (hpn _)
 · have er:t1.road t= .clean:=by unfold Xu;rw[if_neg hnz,if_neg c]
   rw[er]
   dsimp only
   obtain⟨t',order,el,hpo,hfit,k1,k2,_,_⟩:=bX7 (finger:=t1.finger) (moves:=t1.moves) (led:=t1.led&&t.led) (JB:=t1.plain&&t.plain) hF (es.map (·.1)) (by rw[xO];exact hm)
   rw[xO]at hpo hfit
   have hop:=aZ5 hpo
   have hos:(order.filterMap (es[·]?)).size=es.size:=by rw[<-zA,hop.length_eq,zA]
   refine za ?_
   rw[el]
   refine zH (λz=>absurd z (by rw[hos];simp)) (λ_=>zc ?_)
   exact fin _ t' hop hfit (k1.trans hled) (k2.trans (hpn _))
end
section
theorem dR8(h:∀a∈sets,∃ss,TSet prog w s.heap a ss)(q:Q true s):zt (zz prog w) A (setsQuiet sets) Q E s:=by
 unfold setsQuiet
 refine za (Yj _ (λQ9 b s'=>b= (none,())/\s'=s/\∀a∈Q9,∃ss,TSet prog w s.heap a ss) _ ?_ ?_ sets _ ⟨rfl,rfl,h⟩)
 · rintro a Q9 b s' ⟨rfl,rfl,h⟩
   obtain⟨ss,o,es,ep,t,ho,hex,hd,hel,hpm,hb,hf,hl,hpl⟩:=h a (zq ..)
   unfold Yu
   refine za (za (zI ho hd hf (zc ?_)))
   refine za (YY _ (λQ9 b s2=>b= (none,())/\s2=s'/\∀e∈Q9,∃k t,e.2= .str k t) _ ?_ ?_ es _ ⟨rfl,rfl,?_⟩)
   · rintro⟨hh,x⟩ r2 b2 s2 ⟨rfl,rfl,h2⟩
     obtain⟨k,tk,e⟩:=h2 (hh,x) (zq ..)
     have e:x= .str k tk:=e
     subst e
     exact zc ⟨rfl,rfl,λy hy=>h2 y (zk _ hy)⟩
   · rintro b2 s2 ⟨rfl,rfl,_⟩
     exact zc ⟨rfl,rfl,λy hy=>h y (zk _ hy)⟩
   · intro e he
     obtain⟨⟨k,hk,_⟩,_⟩:=hel e he
     obtain⟨tk,et⟩:=cG1 hk
     exact⟨k,tk,et⟩
 · rintro b s' ⟨rfl,rfl,_⟩
   exact zc q
theorem dE1(hS:TSet prog w s.heap o ss)(hA:TSet prog w s.heap a su)(h0:su≠ [])
 (h:∀es,YZ (strKind prog w) es.toList->(es.toList.map λe=>sV e.2).Perm ss->Q es s):zt (zz prog w) A (setWalkUnseen o [a] (some a)) Q E s:=by
 have hS':=hS
 have hA':=hA
 obtain⟨ob,es,ep,t,ho,hex,hd,hel,hpm,hb,hf,hle,hpl⟩:=hS
 obtain⟨oa,ea,epa,ta,hoa,hexa,hda,hela,hpma,hba,hfa,hla,hpla⟩:=hA
 have hza:0<ea.size:=by
  have:=hpma.length_eq
  rw[ze,zA]at this
  rw[this];exact List.length_pos_iff.mpr h0
 unfold setWalkUnseen
 refine za (zI ho hd hf ?_)
 refine za (bL7 ?_)
 refine zH (λz=>?_) (λz=>?_)
 · unfold setWalk
   refine za (zI ho hd hf ?_)
   refine za (bL7 ?_)
   refine zH (λzb=>?_) (λzb=>?_)
   · refine za (xH (zc ?_))
     have hp:=bD7 (w.params.setOrder o ep) es
     exact h _ (hel.perm hp) ((hp.map _).trans hpm)
   · have hbt:byT w=false:=by simpa using zb
     have hs:es.size<=1:=by
      rw[hbt]at z
      rcases xz 1 es.size with q|q
      · rw[hpl (by omega),XW,Zz,Jn]at z
        exact absurd (of_decide_eq_true z) (by omega)
      ·exact q
     refine zH (λzd=>absurd (show (!t.plain&&decide (es.size>1))=true from zd) (by rw[decide_eq_false (by omega),XW];decide)) (λ_=>?_)
     refine za (show zt _ _ (if (!t.led&&decide (es.size>1))=true then unsupported "set:maker-not-led" else pure ()) _ _ _ from ?_)
     refine zH (λzd=>absurd zd (by rw[decide_eq_false (by omega),XW];decide)) (λ_=>zc (zc ?_))
     exact h es hel hpm
 · refine za (dR8 (λx hx=>?_) ?_)
   · rcases zu.mp hx with rfl|hx
     ·exact⟨_,hS'⟩
     ·rw[zr.mp hx];exact⟨_,hA'⟩
   · refine zH (λzd=>absurd zd (by decide)) (λ_=>?_)
     refine za (xh ?_)
     refine za (zI hoa hda hfa ?_)
     refine zH (λzd=>?_) (λ_=>zc (h es hel hpm))
     exfalso
     rw[hpla hza,hla,hle]at zd
     cases byT w<;>simp at zd
end
section
theorem cP1{o:Addr}{each:Sem Unit}(hne:a≠o)(hA:TSet prog w s.heap a su)(h0:su≠ [])(hS:TSet prog w s.heap o ss)(hn:su.length+ss.length<=47)
 (he:∀h' Q',h'.get? o=s.heap.get? o->Q' () {s with heap:=h'}->zt (zz prog w) A each Q' E {s with heap:=h'})
 (h:∀h' (ss':List Str),jx a s.heap h'->ss'.Perm ss->TSet prog w h' a (ss'.foldl ddT su)->Q () {s with heap:=h'}):zt (zz prog w) A (setMerge a o each) Q E s:=by
 have hS':=hS
 obtain⟨ob,es,ep,t,ho,hex,hd,hel,hpm,hb,hf,hle,hpl⟩:=hS
 have hsz:es.size=ss.length:=by have:=hpm.length_eq;rw[ze,zA]at this;exact this
 unfold setMerge
 refine zH (λz=>absurd z (by simp[hne])) (λ_=>?_)
 refine za (zI ho hd hf ?_)
 dsimp only
 refine zH (λz=>?_) (λz=>?_)
 · have hz:es= #[]:=by simpa using z
   have:ss= []:=ZG.mp (by rw[<-hsz,hz];rfl)
   have e:s= {s with heap:=s.heap}:=by cases s;rfl
   rw[e]
   exact zc (h s.heap [] (yf a s.heap) (by rw[this]) hA)
 refine za (eB0 hA (by omega) λh1 sb1 hA1=>?_)
 have ho1:h1.get? o=s.heap.get? o:=sb1.2 o (Ne.symm hne)
 have hS1:TSet prog w h1 o ss:=hS'.congr λo' e=>by rw[ho1];exact e
 have hA1':=hA1
 obtain⟨oa,ea,epa,ta,hoa,hexa,hda,hela,hpma,hba,hfa,hla,hpla⟩:=hA1
 have hza:0<ea.size:=by
  have:=hpma.length_eq
  rw[ze,zA]at this
  rw[this];exact List.length_pos_iff.mpr h0
 refine za (zI (s:={s with heap:=h1}) hoa hda hfa ?_)
 dsimp only
 have hfl:(ta.fill != 0)=true:=by
  unfold xu at hfa
  rw[zZ]at hfa
  have:ta.place.size=ea.size:=by simpa using hfa.1
  have hz:ta.fill≠0:=by unfold Xv;omega
  simp[hz]
 have er:ta.road t= .oneByOne:=by unfold Xu;rw[if_pos hfl]
 rw[er]
 dsimp only
 refine za (dE1 (s:={s with heap:=h1}) hS1 hA1' h0 λes' hel' hp'=>?_)
 refine za (jH (YY _ (λQ9 _ s'=>∃h' done,s'= {s with heap:=h'}/\jx a h1 h'/\es'.toList=done++Q9/\TSet prog w h' a ((done.map λe=>sV e.2).foldl ddT su)) (λ_ s'=>∃h',s'= {s with heap:=h'}/\jx a h1 h'/\TSet prog w h' a ((es'.toList.map λe=>sV e.2).foldl ddT su)) ?_ ?_ es' _ ⟨h1, [],rfl,yf a h1,rfl,hA1'⟩) ?_ (λ_ _ q=>q))
 · rintro⟨hh,x⟩ Q9 u s' ⟨h',done,rfl,sb',ed,hA2⟩
   have hm:(hh,x)∈es'.toList:=by rw[ed];simp
   obtain⟨⟨k,hk,hkh⟩,_⟩:=hel' (hh,x) hm
   obtain⟨tk,et⟩:=cG1 hk
   have et:x= .str k tk:=et
   subst et
   have hkh:hh= (strKind prog w).hash k:=hkh
   subst hkh
   have hdl:(((done.map λe=>sV e.2)).foldl ddT su).length<=su.length+done.length:=by
    have:=bE2 (done.map λe=>sV e.2) su
    rw[ze]at this;exact this
   have hdn:done.length<=ss.length:=by
    have h1:=hp'.length_eq
    rw[ze,ed,zM]at h1;omega
   refine za (jl (dN9 hA2 (Nat.lt_of_le_of_lt (show _<=49 by omega) (by decide)) λb h2 sb2 hA3=>?_))
   have ho2:h2.get? o=s.heap.get? o:=by rw[sb2.2 o (Ne.symm hne),sb'.2 o (Ne.symm hne)];exact ho1
   refine za (he h2 _ ho2 ?_)
   refine za (zI (s:={s with heap:=h2}) (by show h2.get? o=_;rw[ho2];exact ho) hd hf ?_)
   refine zH (λz=>absurd z (by simp)) (λ_=>zc ?_)
   refine⟨h2,done++[((strKind prog w).hash k,.str k tk)],rfl,sb'.trans sb2,by rw[ed,yG];rfl,?_⟩
   rw[jr,List.foldl_append]
   exact hA3
 · rintro u s' ⟨h',done,rfl,sb',ed,hA2⟩
   rw[yZ]at ed
   exact⟨h',rfl,sb',by rw[ed];exact hA2⟩
 · rintro u s' ⟨h',rfl,sb',hA2⟩
   exact zc (h h' _ (sb1.trans sb') hp' hA2)
end
theorem bB7:∀(l acc:List Str),(acc++l).Nodup->l.foldl ddT acc=acc++l
 |[],acc,_=>by simp
 |k::l,acc,h=>by
   have hk:k∉acc:=λq=>by
    rw[yE]at h
    exact h.2.2 k q k (zq ..) rfl
   rw[jT,show ddT acc k=acc++[k]from if_neg hk,bB7 l (acc++[k]) (by simpa using h)]
   simp
section
theorem eE8(h:TSet prog w s.heap a ss)(q:Q true s):zt (zz prog w) A (Yn (.ref a)) Q E s:=by
 unfold Yn
 have k1:=yI.sub
 have hT:=h.type
 wp_walk
 exact q
theorem TSet.obj(hS:TSet prog w h a ss):∃es ep t,h.get? a=some (sO es ep t)/\t.fits es.size=true:=by
 obtain⟨o,es,ep,t,ho,⟨x1,x2,x3⟩,hd,_,_,_,hf,_⟩:=hS
 obtain⟨oc,od,odt,os⟩:=o
 obtain rfl:oc= .type "set":=x1
 obtain rfl:od=none:=x2
 obtain rfl:os= #[]:=x3
 obtain rfl:odt= .set es ep t:=hd
 exact⟨es,ep,t,ho,hf⟩
set_option maxHeartbeats 3200000 in
theorem dX6{Q:VSP}(hne:a≠c)(ha:TSet prog w s.heap a ss)(hc:TSet prog w s.heap c su)(hnd:su.Nodup)(hn:ss.length+su.length<=47)
 (h:∀h' (su':List Str),su'.Perm su->(∀b o,s.heap.get? b=some o->h'.get? b=some o)->TSet prog w h' s.heap.objs.size (su'.foldl ddT ss)->Q (.ref s.heap.objs.size) {s with heap:=h'}):zt (zz prog w) A (ya .BitOr (.ref a) (.ref c)) Q E s:=by
 have hA:=ha.type
 have hC:=hc.type
 refine wpAny_binaryOp_same hA hC F.fills_set_or F.slot_set_or (jL F.slot_set_or hA fM2 ?_ (F.args_set_or_2 _ _))
 unfold yi.«frozenset.__or__»
 refine za (m:=YB "__or__" ⟨[.ref a,.ref c], []⟩) ?_
 unfold YB
 obtain⟨es1,ep1,t1,ho1,hf1⟩:=ha.obj
 obtain⟨es2,ep2,t2,ho2,hf2⟩:=hc.obj
 have k1:=yI.sub
 have hne2:(a==c)=false:=by simp[hne]
 have hne3:(Value.ref c != Value.ref a)=true:=by simp[bne];exact λz=>hne z.symm
 wp_walk
 refine xH (zc ?_)
 simp only[if_true,newObj]
 refine za (wpAny_alloc (zc ?_))
 have lt1:a<s.heap.objs.size:=zn ho1
 have lt2:c<s.heap.objs.size:=zn ho2
 have keep:∀b o,s.heap.get? b=some o->(s.heap.push (fO (!byT w))).get? b=some o:=λb o e=>zh _ e
 have gN:(s.heap.push (fO (!byT w))).get? s.heap.objs.size=some (fO (!byT w)):=zp _ rfl
 have nA:s.heap.objs.size≠a:=yd lt1
 have nC:s.heap.objs.size≠c:=yd lt2
 refine za (m:=xV (.ref s.heap.objs.size)) (zc ?_)
 refine za (bS4 (s:={s with heap:=s.heap.push (fO (!byT w))}) nA gN (ha.congr λo e=>keep _ _ e) (by omega) λh1 sb1 q1=>?_)
 refine zc ?_
 refine zH (λ_=>?_) (λz=>absurd hne3 z)
 refine za (m:=xV (.ref s.heap.objs.size)) (zc ?_)
 have keep1:∀b o,s.heap.get? b=some o->h1.get? b=some o:=λb o e=>by
  rw[sb1.2 b (zw (zn e))];exact keep b o e
 have hc1:TSet prog w h1 c su:=hc.congr λo e=>keep1 _ _ e
 have fin:∀(h':Heap) (su':List Str),jx s.heap.objs.size h1 h'->su'.Perm su->TSet prog w h' s.heap.objs.size (su'.foldl ddT ss)->zt (zz prog w) A.in1 (pure (Value.ref s.heap.objs.size)) (λa s'=>zt (zz prog w) A.in1 (ret a) (λfin s'=>∃v,fin=Fin.done (Flow.ret v)/\v≠Value.notImplemented/\Q v s') E s') E {s with heap:=h'}:=by
  intro h' su' sb hp hT
  refine zc (zc ⟨_,rfl,(λz=>nomatch z),h h' su' hp (λb o e=>?_) hT⟩)
  rw[sb.2 b (zw (zn e))];exact keep1 b o e
 refine za (jl ?_)
 unfold ZX
 refine za (eE8 (s:={s with heap:=h1}) (ss:=su) hc1 ?_)
 refine zH (λ_=>?_) (λz=>absurd rfl z)
 refine za (m:=xV (.ref c)) (zc ?_)
 unfold Builtin.Frozenset.merge
 obtain⟨es3,ep3,t3,ho3,hf3⟩:=hc1.obj
 unfold setEpoch
 refine za (za (zI (s:={s with heap:=h1}) ho3 rfl hf3 (zc ?_)))
 have hev:∀h' (Q':Unit->zm->Prop),h'.get? c=h1.get? c->Q' () {s with heap:=h'}->zt (zz prog w) A.in1 (Yf (Zo "frozenset." ++ Zo "__or__") c ep3) Q' E {s with heap:=h'}:=by
  intro h' Q' e q
  unfold Yf setEpoch
  refine za (za (zI (s:={s with heap:=h'}) (by show h'.get? c=_;rw[e];exact ho3) rfl hf3 (zc ?_)))
  exact zH (λz=>absurd z (by simp)) (λ_=>zc q)
 rcases q1 with⟨e0,eh⟩|⟨ne,hT⟩
 · subst eh
   subst e0
   refine bS4 (s:={s with heap:=s.heap.push (fO (!byT w))}) nC gN hc1 (by omega) λh2 sb2 q2=>?_
   rcases q2 with⟨e0,eh⟩|⟨ne,hT⟩
   · subst eh
     refine fin _ [] (yf ..) (by rw[e0]) ?_
     exact dH9 gN
   · refine fin h2 su sb2 (.refl _) ?_
     rw[bB7 su [] (by simpa using hnd)]
     exact hT
 ·exact cP1 (s:={s with heap:=h1}) nC hT ne hc1 (by omega) hev λh2 su' sb2 hp hT2=>fin h2 su' sb2 hp hT2
end
inductive bO7(w:jg):List DictEntry->List Str->Prop
 |nil:bO7 w [] []
 |cons {e:DictEntry} {x:Str} {tk:Tok} {es:List DictEntry} {xs:List Str}:e.key= .str x tk->e.hash=hashStr w x->bO7 w es xs->bO7 w (e::es) (x::xs)
theorem bO7.len(h:bO7 w es xs):es.length=xs.length:=by
 induction h with
 |nil=>rfl
 |cons _ _ _ ih=>simp[ih]
theorem bO7.at(h:bO7 w es xs):∀ {i:Nat} {e:DictEntry},es[i]? =some e->∃x tk,xs[i]? =some x/\e.key= .str x tk/\e.hash=hashStr w x:=by
 induction h with
 |nil=>intro i e h;simp at h
 |cons h1 h2 _ ih=>
   intro i e h
   rcases i with _|i
   ·simp at h;subst h;exact⟨_,_,rfl,h1,h2⟩
   ·simpa using ih (by simpa using h)
section
theorem cU0(ho:s.heap.get? d=some o)(hd:o.data= .dict es ep)(h:Q es s):zt (zz prog w) A (dictEntries d) Q E s:=by
 unfold dictEntries
 refine za (Yg ho ?_)
 rw[hd]
 exact zc h
theorem eA8(ho:s.heap.get? d=some o)(hd:o.data= .dict es ep)(h:Q ep s):zt (zz prog w) A (dictEpoch d) Q E s:=by
 unfold dictEpoch
 refine za (Yg ho ?_)
 rw[hd]
 exact zc h
set_option maxHeartbeats 3200000 in
theorem bR7{d:Addr}{di sl:_}{ep:Nat}(ho:s.heap.get? d=some {cls:=.type "dict",dict:=di,data:=.dict es ep,slots:=sl})(hs:(d==yP)=false)(hK:bO7 w es.toList xs)(hn:xs.length<=47)
 (h:∀h',TSet prog w h' s.heap.objs.size (xs.foldl ddT [])->(∀b o,s.heap.get? b=some o->h'.get? b=some o)->Q (.ref s.heap.objs.size) {s with heap:=h'}):zt (zz prog w) A (call (.type "set") [.ref d]) Q E s:=by
 obtain⟨c0,t0,hm0⟩:=yI.mro
 have e1:=yI.made
 have e2:=yI.sub
 refine wpAny_call (codeAny_of_tree (show zt _ _ (callAny (.type "set") _) _ _ _ from ?_))
 refine zc ⟨Code.quiet_builtin _ (by decide +kernel),jO F.entry_type_call ?_⟩
 rw[Around.under_plain (weight_type_call_type "set" [.ref d] []) rfl]
 have e3:=yI.notType
 have e4:=yI.canCreate
 have e5:=F.typeCall_set_1 (.ref d)
 repeat (any_goals (first|assumption|wp_step))
 refine Zw (dC0 (.ref d) (E:=E) (Q₁:=λob s1=>ob= .ref s.heap.objs.size/\s1= {s with heap:=s.heap.push (fO (!byT w))}) ⟨rfl,rfl⟩) λr s1 hr=>?_
 rcases r with e|fl
 ·exact hr
 rcases fl with _|ob|_|_<;>try exact hr.elim
 obtain⟨rfl,rfl⟩:=hr
 have hS:(s.heap.push (fO (!byT w))).get? s.heap.objs.size=some (fO (!byT w)):=zp _ rfl
 have hT:Shared.TypeIs {s with heap:=s.heap.push (fO (!byT w))} (.ref s.heap.objs.size) "set":=⟨_,hS,rfl⟩
 have e6:=yI.init.lookup
 have e7:=yI.init.bind (.ref s.heap.objs.size)
 repeat (any_goals (first|assumption|wp_step))
 refine Zw (codeAny_call_builtin (R:=wants (λr s2=>r= .none/\∃h',s2= {s with heap:=h'}/\TSet prog w h' s.heap.objs.size (xs.foldl ddT [])/\(∀b o,s.heap.get? b=some o->h'.get? b=some o)) E) yI.init.plain F.entry_set_init (check_set_init_1 hT ?_)) λr2 s2 hr2=>?_
 · have ho2:(s.heap.push (fO (!byT w))).get? d=some {cls:=.type "dict",dict:=di,data:=.dict es ep,slots:=sl}:=zh _ ho
   have e8:=sb1
   have e9:=sb2
   unfold yi.«set.__init__» noKeywords ZX
   simp only[Std.Legacy.Range.forIn_eq_forIn_range']
   generalize hR:Xs=RF
   generalize hAH:setAddHashed=AH
   wp_walk
   subst hR hAH
   have hlen:es.size=xs.length:=by rw[<-zA];exact hK.len
   have hdn:d≠s.heap.objs.size:=zw (zn ho)
   refine eJ7 (s:={s with heap:=s.heap.push (fO (!byT w))}) hS (by omega) λh1 sbn hz=>?_
   have ho3:h1.get? d=some {cls:=.type "dict",dict:=di,data:=.dict es ep,slots:=sl}:=by rw[sbn.2 d hdn];exact ho2
   refine za (cU0 (s:={s with heap:=h1}) ho3 rfl ?_)
   have er:yw 0 [:es.size].size=yw 0 es.size:=by simp[Std.Legacy.Range.size]
   rw[er]
   refine za (jH (Yj _ (λQ9 _ s'=>∃h' i,s'= {s with heap:=h'}/\jx s.heap.objs.size h1 h'/\i+Q9.length=es.size/\Q9=yw i Q9.length/\TSet prog w h' s.heap.objs.size ((xs.take i).foldl ddT [])) (λ_ s'=>∃h',s'= {s with heap:=h'}/\jx s.heap.objs.size h1 h'/\TSet prog w h' s.heap.objs.size (xs.foldl ddT [])) ?_ ?_ (yw 0 es.size) _ ⟨h1,0,rfl,yf ..,by simp,by simp,dS0.ts (s:={s with heap:=h1}) hz⟩) ?_ (λ_ _ q=>q))
   · rintro j Q9 u s' ⟨h',i,rfl,sb',hi,hr,hA⟩
     rw[zD,xW]at hr
     have hj:j=i:=(Yh hr).1
     have hr:=(Yh hr).2
     subst hj
     simp only[zD]at hi
     have ho4:h'.get? d=some {cls:=.type "dict",dict:=di,data:=.dict es ep,slots:=sl}:=by rw[sb'.2 d hdn];exact ho3
     have hlt:j<es.size:=by omega
     have ee:es[j]? =some es[j]:=by simp[hlt]
     obtain⟨x,tk,ex,ek,eh⟩:=hK.at (i:=j) (e:=es[j]) (by rw[jq];exact ee)
     refine za (cU0 (s:={s with heap:=h'}) ho4 rfl ?_)
     rw[ee]
     dsimp only
     rw[ek,eh]
     have hdl:=bE2 (xs.take j) []
     rw[xX]at hdl
     refine za (jl (dN9 (s:={s with heap:=h'}) hA (Nat.lt_of_le_of_lt (show _<=49 by simp at hdl;omega) (by decide)) λb h2 sb2 hA3=>?_))
     have ho5:h2.get? d=some {cls:=.type "dict",dict:=di,data:=.dict es ep,slots:=sl}:=by rw[sb2.2 d hdn];exact ho4
     refine za (eA8 (s:={s with heap:=h2}) ho5 rfl ?_)
     refine zH (λz=>absurd z (by simp)) (λ_=>zc ?_)
     refine⟨h2,j+1,rfl,sb'.trans sb2,by omega,hr,?_⟩
     rw[List.take_succ,ex,List.foldl_append]
     exact hA3
   · rintro u s' ⟨h',i,rfl,sb',hi,hr,hA⟩
     refine⟨h',rfl,sb',?_⟩
     rw[Jz (by simp at hi;omega)]at hA
     exact hA
   · rintro u s' ⟨h',rfl,sb',hA⟩
     refine zc (zc ⟨rfl,h',rfl,hA,λb o e=>?_⟩)
     have hb:b≠s.heap.objs.size:=zw (zn e)
     rw[sb'.2 b hb,sbn.2 b hb]
     exact zh _ e
 · rcases r2 with e|fl
   ·exact hr2
   rcases fl with _|ob|_|_<;>try exact hr2.elim
   obtain⟨rfl,h',rfl,hT',hk'⟩:=hr2
   repeat (any_goals (first|assumption|wp_step))
   exact h _ hT' hk'
end
theorem aW4:∀(l acc:List Str),l.Nodup->l.foldl ddT acc=acc++l.filter λx=>decide (x∉acc)
 |[],acc,_=>by simp
 |k::l,acc,h=>by
   have hk:=(xI.mp h).1
   have hl:=(xI.mp h).2
   rw[jT]
   by_cases c:k∈acc
   ·rw[show ddT acc k=acc from if_pos c,aW4 l acc hl,ZI (by simpa using c)]
   · rw[show ddT acc k=acc++[k]from if_neg c,aW4 l _ hl,ZH (by simpa using c),yG]
     congr 1
     show k::_=k::_
     congr 1
     refine List.filter_congr λx hx=>?_
     have:x≠k:=λe=>hk (e▸hx)
     simp[this]
theorem eF6{l l' acc:List Str}(hp:l'.Perm l)(hn:l.Nodup):(l'.foldl ddT acc).Perm (l.foldl ddT acc):=by
 rw[aW4 l acc hn,aW4 l' acc (hp.nodup_iff.mpr hn)]
 exact(hp.filter _).append_left _
def bG3(d:D):M (List Str):=match d with
 | .ref i=>R1 i >>= λo=>match o with
   | .dct l=>aI5 (v8 l)
   |_=>M.stuck
 |_=>M.stuck
def cP7(fa fb:Fe):Fe:=λσ=>fa σ >>= λx=>bG3 x >>= λks=>if ks.length<=47 then fb σ >>= λy=>bG3 y >>= λls=>if ks.length+ls.length<=47 then Q5 (.lst ((aC9 (ls.foldl ddT ks)).map .str))else M.stuck else M.stuck
section
theorem dG3:∀ {l} {ss} {kvs} {xs} {es},v8 l=some ss->aA8 c μ H l kvs->KV kvs xs->Pairs (O4 P w) es xs->(∀e∈es,∃k,(O4 P w).is k e.key=true/\e.hash= (O4 P w).hash k)->bO7 w es ss/\xs.map (·.1)=ss.map Sum.inr
 |[],_,_,_,es,e,r,kv,p,_=>by
   cases e;cases r;cases kv;cases p
   exact⟨.nil,rfl⟩
 |(.inr x,d)::t,ss,kvs,xs,es,e,r,kv,p,hh=>by
  replace e:=show (v8 t).map (_ :: ·)=some _ from e
  rcases h:v8 t with _|q
  ·rw[h]at e;cases e
  · rw[h]at e
    cases e
    obtain⟨v0,tl,rfl,r0,rt⟩:=r
    cases kv with
    |cons hk ht=>
      cases p with
      |cons hi hv hp=>
        have ih:=dG3 (P:=P) (w:=w) h rt ht hp λy hy=>hh y (zk _ hy)
        obtain⟨k,hk2,hh2⟩:=hh _ (zq ..)
        have hk1:(Sum.inr x:Key)=_:=hk.1
        rw[<-hk1]at hi
        have e1:k= .inr x:=(O4 P w).inj _ _ _ hk2 hi
        subst e1
        rcases Q0 (show bH2 (.inr x) _=true from hi) with⟨_,_,z,_⟩|⟨x',t',z,eu⟩
        ·cases z
        · cases z
          exact⟨.cons eu hh2 ih.1,by rw[zB,zB,ih.2,<-hk1]⟩
 |(.inl _,_)::_,_,_,_,_,e,_,_,_,_=>by cases e
theorem cC3{d:D}{f:List Str->M α}{K:α->List Addr->DH->Hp->Prop}{v:V}(hr:u9 c μ G H)(rv:d8 c μ H d v)(p:d7 c Z μ H ((bG3 d >>= f) G) K):∃a l ss kvs,v= .ref a/\H a=some (.dK kvs)/\v8 l=some ss/\aA8 c μ H l kvs/\d7 c Z μ H (f ss G) K:=by
 obtain⟨i,rfl⟩:∃i,d= .ref i:=match d,p with
  | .ref i,_=>⟨i,rfl⟩
 have p':d7 c Z μ H ((R1 i >>= λo=>(match o with| .dct l=>aI5 (v8 l)|_=>M.stuck:M (List Str)) >>= f) G) K:=by rw[<-M.bind_assoc];exact p
 obtain⟨o,g,p1⟩:=O1 p'
 unfold d8 at rv
 obtain⟨a,m,rfl⟩:=rv
 have ro:=hr.obj i o a g m
 rcases o with l|l|l|l<;>try exact p1.elim
 obtain⟨kvs,q,rk⟩:=ro
 obtain⟨ss,es,p2⟩:=T9 p1
 exact⟨a,l,ss,kvs,rfl,q,es,rk,p2⟩
theorem cS5(ok:HOk P w H h)(e:H a=some (.dK kvs))(hs:v8 l=some ss)(rk:aA8 c μ H l kvs):∃di sl es ep,h.get? a=some {cls:=.type "dict",dict:=di,data:=.dict es ep,slots:=sl}/\(a==yP)=false/\bO7 w es.toList ss/\ss.Nodup:=by
 obtain⟨z,hd,vs,rel,dd⟩:=cE3 ok e
 obtain⟨o,es,ep,h1,h2,h3,h4,h5,h6⟩:=dd
 obtain⟨oc,od,odt,os⟩:=o
 have hc:oc= .type "dict":=h2.1
 obtain⟨k1,k2⟩:=dG3 hs rk rel h5 λe he=>h4 e (Array.mem_toList_iff.mp he)
 refine⟨od,os,es,ep,by rw[h1,hc,show odt=_ from h3],hd,k1,?_⟩
 rw[k2]at h6
 exact(jF.mp h6).imp λh e=>h (congrArg _ e)
end
section
theorem dD7(hc:X.calm=true)(hbl:BLs X.mg)(hg1:Gl X "sorted")(hg2:Gl X "set")(ha:DE X Z ea fa)(hb:DE X Z eb fb)(sa:T7 ea=true)(sb:T7 eb=true):DE X Z (.Call (.Name "sorted" p) [.BinOp (.Call (.Name "set" p1) [ea] [] q1) .BitOr (.Call (.Name "set" p2) [eb] [] q2) q3] [] pos) (cP7 fa fb):=⟨by
 intro pins s σ H Q I h
 refine jZ (aK2 I hg1 (hbl.h _ (by decide +kernel)) bF8 ?_ (by decide) (by decide))
 refine h.elim λZ7 μ G sr hr pp=>?_
 refine callWith_builtin1 (yU (wpAny_BinOp ?_)) rfl rfl
 refine jZ (aK2 I hg2 (hbl.h _ (by decide +kernel)) dU5 ?_ (by decide) (by decide))
 refine callWith_type1 ?_ (aA9 sa) rfl
 rw[aA9 sa]
 have pa:=d7.bind pp
 refine yU (thn (ha.h pins s σ H (λv H1=>∃x X1 G1,M5 (wc X) X1 H1 Z7 σ/\u9 (wc X) X1 G1 H1/\d8 (wc X) X1 H1 x v/\d7 (wc X) Z X1 H1 ((bG3 x >>= λks=>if ks.length<=47 then fb Z7 >>= λy=>bG3 y >>= λls=>if ks.length+ls.length<=47 then Q5 (.lst ((aC9 (ls.foldl ddT ks)).map .str))else M.stuck else M.stuck) G1) λd X9 _ H'=>∀v,d8 (wc X) X9 H' d v->Q v H') I ⟨Z7,μ,G,sr,hr,pa.mono λd X1 G1 H1 x1 h1 p1 v rv=>⟨d,X1,G1,sr.mono x1,h1,rv,p1⟩⟩) λu s1 hE=>hE.elim λv H1 I1 r1 q=>?_)
 obtain⟨x,X1,G1,sr1,hr1,rv1,pp1⟩:=q
 obtain⟨a,l1,ks,kvs1,rfl,ea1,es1,rk1,pp2⟩:=cC3 hr1 rv1 pp1
 cases r1
 refine xf ?_
 obtain⟨di,sl,dl,ep,g1,n1,hK1,nd1⟩:=cS5 I1.hok ea1 es1 rk1
 split at pp2
 case isFalse=>exact pp2.elim
 rename_i hk15
 have pb:=d7.bind pp2
 refine bR7 (w:=X.w) g1 n1 hK1 (by omega) λh1 hT1 k1=>?_
 rw[bB7 ks [] (by simpa using nd1),Ya]at hT1
 obtain⟨es,ep1,t1,ho1,hf1⟩:=hT1.obj
 have I2:Inv X ((s1.heap.objs.size,sO es ep1 t1)::pins) σ H1 {s1 with heap:=h1}:=by
  have I2':Inv X pins σ H1 {s1 with heap:=h1}:=I1.kept (t':=s1.toks) k1
  refine I2'.pins_of λpr hp=>?_
  rcases zu.mp hp with rfl|hp
  ·exact⟨ho1,I1.fresh,yd I1.lt,I1.nofs (zo _),λv z=>nomatch z⟩
  ·exact I2'.pin pr (zF _ hp)
 refine jZ (aK2 I2 hg2 (hbl.h _ (by decide +kernel)) dU5 ?_ (by decide) (by decide))
 refine callWith_type1 ?_ (aA9 sb) rfl
 rw[aA9 sb]
 refine yU (thn (hb.h _ _ σ H1 (λv H1=>∃x X1 G1,u9 (wc X) X1 G1 H1/\d8 (wc X) X1 H1 x v/\d7 (wc X) Z X1 H1 ((bG3 x >>= λls=>if ks.length+ls.length<=47 then Q5 (.lst ((aC9 (ls.foldl ddT ks)).map .str))else M.stuck) G1) λd X9 _ H'=>∀v,d8 (wc X) X9 H' d v->Q v H') I2 ⟨Z7,X1,G1,sr1,hr1,pb.mono λd X1 G1 H1 x1 h1 p1 v rv=>⟨d,X1,G1,h1,rv,p1⟩⟩) λu s2 hE=>hE.elim λv H2 I3 r2 q=>?_)
 obtain⟨y,WZ,G2,hr2,rv2,pp3⟩:=q
 obtain⟨a2,l2,ls,kvs2,rfl,ea2,es2,rk2,pp4⟩:=cC3 hr2 rv2 pp3
 cases r2
 refine xf ?_
 split at pp4
 case isFalse=>exact pp4.elim
 rename_i h31
 obtain⟨di2,sl2,dl2,ep2,g2,n2,hK2,nd2⟩:=cS5 I3.hok ea2 es2 rk2
 refine bR7 (w:=X.w) g2 n2 hK2 (by omega) λh2 hT2 k2=>?_
 rw[bB7 ls [] (by simpa using nd2),Ya]at hT2
 have gp:s2.heap.get? s1.heap.objs.size=some (sO es ep1 t1):=(I3.pin (s1.heap.objs.size,sO es ep1 t1) (zF _ (zq ..))).1
 have hA:TSet X.prog X.w h2 s1.heap.objs.size ks:=hT1.congr λo e=>by
  rw[ho1]at e
  have:=k2 _ _ gp
  rw[this];exact e
 have I4:Inv X pins σ H2 {s2 with heap:=h2}:=(I3.pins_of λpr hp=>I3.pin pr (zF _ (zk _ hp))).kept (t':=s2.toks) k2
 refine dX6 (s:={s2 with heap:=h2}) (zw (zn gp)) hA hT2 nd2 (by omega) λh3 su' hp3 k3 hT3=>?_
 have I5:=I4.kept (t':=s2.toks) k3
 refine xf ?_
 have hdl:=bE2 su' ks
 have hsl:=hp3.length_eq
 refine cI0 (s:={s2 with heap:=h3}) (I5.ok.hd hc) hT3 (by omega) λh4 h' d' tk e out ss' k4 k5 he hS' hp hs=>?_
 have e2:=bN1 (hp.trans (eF6 hp3 nd2)) hs
 subst e2
 have I6:Inv X pins σ H2 {s2 with heap:=h4,drawn:=d',toks:=tk}:=eT6 (I5.kept (t':=tk) k4)
 obtain⟨ws,ew,rv',rl2⟩:=aU7 (c:=wc X) (μ:=WZ) (H:=H2) hS'
 have hf:=I6.hok.fresh (zo _)
 have hlen:ws.length<=zl:=by
  rw[ew,ze]
  have e3:(aC9 (ls.foldl ddT ks)).length= (ls.foldl ddT ks).length:=(js _ leS).length_eq
  have:=bE2 ls ks
  have:(64:Nat)<=zl:=by decide
  omega
 exact⟨.ref h4.objs.size,upd H2 h4.objs.size (.lst ws),I6.laid (t':=tk) k5 (zo _) ⟨hlen,out,e,rv',he⟩,rfl,Z1 hr2 rl2 pp4 _ hf⟩⟩
end
end DL
namespace W
open PySem PySem.Spec L2 DL
open PyProof.Rows hiding St
theorem cF4(e:G[p]? =some (.dct l))(hs:v8 l=some ks)(r:R ks G):Wp (bG3 (.ref p)) G R:=by
 unfold bG3
 simp only[j6,S8,e,T8,aF7,hs]
 exact r
theorem dE8(ea:fa σ G=some (.ok (.ref p),G))(eb:fb σ G=some (.ok (.ref q),G))(e1:G[p]? =some (.dct l))(e2:G[q]? =some (.dct m))(h1:v8 l=some ks)(h2:v8 m=some ls)(n2:ks.length+ls.length<=47)(r:Q (.ref G.length) (G++[.lst ((aC9 (ls.foldl ddT ks)).map .str)])):Wp (cP7 fa fb σ) G Q:=by
 refine j6.mpr (c7 ea (j6.mpr (cF4 e1 h1 ?_)))
 rw[if_pos (zC (jb ..) n2)]
 refine j6.mpr (c7 eb (j6.mpr (cF4 e2 h2 ?_)))
 rw[if_pos n2]
 exact S6.mpr r
end W
namespace DL
open PySem PySem.Spec L2
open PyProof.Rows hiding St
structure Ev where
 P:zT
 w:jg
 K:zi
 mg:Str->Option zg
 base:Heap
structure EvX(E:Ev):Prop where
 ex:∃h:Heap,E.K.In h/\h.Ns jv E.mg
noncomputable abbrev Ck(E:Ev)(F:List D->M D)(n:Nat)(x:Str)(k:Nat):Prop:=aJ2 F n x E.P E.w E.K E.mg E.base k
def BA(x:Str)(st:Stmt)(ps:List Str):Prop:=∀(kV doc pm:zg) (an:Option Addr) (cdv ct:zg) (us:List zg),us.length=ps.length->bindArgs (yo x x (aL8 st) (aB9 st) (M6 st) .none kV doc pm an cdv ct) ⟨us, []⟩=pure (ps.zip us)
section
variable{E:Ev}{x:Str}{st:Stmt}{k n m:Nat}{fb:Fs}
theorem R3(N ps:List Str)(X:EvX E)(Y:FH E.K x st)(S:aE3 N ps (M6 st))(b:BA x st ps)(hn:ps.length=n)(hm:N.length=m)
 (hb:aE3 N ps (M6 st)->∀f cdv A outer s H Z,V7 k (A.deeper (ZY x (M6 st) s.heap.objs.size f cdv))->DB (bQ6 CX0 E.P E.w E.K E.mg E.base N x (M6 st) f cdv A outer s H Z).nox ZF (aB9 st) fb):Ck E (v9 m fb) n x (k+1):=by
 obtain⟨h,X,G⟩:=X.ex
 obtain⟨f,fd,c⟩:=Y.ff X G b
 exact aJ2.of c (fA6 c S hn hm (hb S f))
theorem bB2(ps:List Str)(X:EvX E)(Y:FH E.K x st)(b:BA x st ps)(hn:ps.length=n):Ck E (λ_=>M.stuck) n x k:=by
 obtain⟨h,X,G⟩:=X.ex
 obtain⟨f,fd,c⟩:=Y.ff X G b
 exact aJ2.of c (dN8 hn)
end
def FHs(K:zi)(top:Nat->Stmt):List Str->List Nat->Prop
 |x::r,i::s=>FH K x (top i)/\FHs K top r s
 |_,_=>True
section
variable{K:zi}{top:Nat->Stmt}{x:Str}{i:Nat}{r:List Str}{s:List Nat}{mg:Str->Option zg}{d:D}{u:zg}{h:Heap}
theorem FHs.c(h:FH K x (top i))(t:FHs K top r s):FHs K top (x::r) (i::s):=⟨h,t⟩
structure CC(K:zi)(mg:Str->Option zg)(x:Str)(d:D):Prop where
 ex:∃u,Zg K jv x=some (some u)/\CR K mg d u
theorem CC.of(g:Zg K jv x=some (some u))(r:CR K mg d u):CC K mg x d:=⟨u,g,r⟩
theorem CC.ok(c:CC K mg x d)(X:K.In h)(G:h.Ns jv mg):cE5 K mg x d:=by
 obtain⟨u,g,r⟩:=c.ex
 exact⟨u,Yp X G g,r⟩
theorem fH3{fa:Addr}{P:zT}{w:jg}{N:List Str}{k m:Nat}{fb:Fs}(X:K.In h)(G:h.Ns jv mg)(hfa:mg "law" =some (.ref fa))(Y:FH K "law" (top i))(b:BA "law" (top i) ["script"])(S:aE3 N ["script"] (M6 (top i)))(hm:N.length=m)
 (hs:∀kV dc pm an cd ct (s:zm) (v:zg),Yy s (yo "law" "law" (aL8 (top i)) (aB9 (top i)) (M6 (top i)) .none kV dc pm an cd ct) ⟨[v], []⟩ [("script",v)])
 (hb:∀base,aE3 N ["script"] (M6 (top i))->∀cdv A outer s H Z,V7 k (A.deeper (ZY "law" (M6 (top i)) s.heap.objs.size fa cdv))->DB (bQ6 CX0 P w K mg base N "law" (M6 (top i)) fa cdv A outer s H Z).nox ZF (aB9 (top i)) fb)
 (pure:∀ns:List Int,ns.length<=63->∃G',v9 m fb [.ref 0] [.rol (ns.map D.int)]=some (.ok (.bl true),G')):
 ∃fd:yM,(∀(s:zm) (v:zg),Yy s fd ⟨[v], []⟩ [("script",v)])/\∀base:Heap,K.In base->base.Ns jv mg->aN4 P w K mg base CX0 (k+1) fa fd ["script"] (cX9 K):=by
 obtain⟨f,od,an,sl,oc,kV,dc,pm,cd,ct,a,l,e,kp⟩:=Y
 have q:=hfa.symm.trans (Yp X G a)
 cases q
 exact⟨_,hs kV dc pm an cd ct,λbase _ _=>eT9 (fA6 ⟨bZ1 l e kp,(bZ1 l e kp).binds b,Yp X G a⟩ S rfl hm (hb base S)) pure⟩
theorem walk63{l:PySem.W.OpenLaw}{q:zT}{loose:List Str}{XP:(Str->Option zg)->Heap->Prop}{YP:jg->Heap->Prop}{d:DefRec}{K:Params->zi}(k:Nat)(hn:l.most=some 63)(hdf:d.params.defaults= [])(hr:V7 k YW)
 (hY:∀(w:jg) (h:Heap),YP w h->(K w.params).In h)
 (F:∀(w:jg) (mg:Str->Option zg) (fa:Addr) (h:Heap),(K w.params).In h->h.Ns jv mg->mg d.name=some (.ref fa)->
   ∃fd:yM,(∀(s:zm) (u:zg),Yy s fd ⟨[u], []⟩ [("script",u)])/\∀base:Heap,(K w.params).In base->base.Ns jv mg->aN4 l.prog w (K w.params) mg base CX0 k fa fd ["script"] (cX9 (K w.params))):
 PySem.W.WalkO q loose XP YP l.row.toRowW d [] (λf vs=>PySem.call f vs):=
 L2.walk_of hn (by decide) hdf hr hY F (λ_ _ a ns hl hO hS=>⟨a,ns,rfl,hS,hO,hl,λ_=>rfl⟩) λ_ _ _ _ _ z=>z
end
end DL
namespace W
open PySem PySem.Spec L2 DL
open PyProof.Rows hiding St
def aT6:Fs:=j5 (ifS (f9 (b8 eqD (b7 0) (X3 q14))) (m8 (cE (.int 0))) j9) (m8 (mtE T4 eC6 (b7 0) q14))
def o4:List D->M D:=v9 1 aT6
def aK1:Fs:=m8 (ifE (orT (f9 (b8 aV3 (b7 0) (cE .non))) (f9 (b8 inX (cE (.tup [.tup [],.tup [.str ("of" :Str),.tup []],.tup [],.non,.non])) (b8 ixD (b7 0) (cE (.int 0)))))) (cE .non) (b7 0))
def aE1:List D->M D:=v9 1 aK1
def aG3:Fs:=j5 (ifS (orT (f9 (b8 aV3 (b7 0) (cE .non))) (u6 (q15 dO1 (q13 (R0 (itW (b8 ixD (b7 0) (cE (.int 0)))) [none,none,none] (aZ7 3 (Q3 (q16 0) (Q3 (q16 1) (Q3 (q16 2) (aZ1))))) (aC8) (aQ5 (b7 1) (b8 eqD (b7 2) (cE (.tup [.tup [],.tup [.str ("of" :Str),.tup []],.tup [],.non,.non]))))) q14)))) (m8 (cE .non)) j9) (m8 (J7 (q13 (q15 M9 (q13 (R0 (itW (b8 ixD (b7 0) (cE (.int 0)))) [none,some 0] (q16 0) (orT (u6 (b8 ixD (b7 0) (cE (.int 1)))) (f9 (b8 neD (b8 ixD (b7 0) (cE (.int 2))) (b8 ixD (b7 1) (cE (.int 1)))))) (b7 0)) q14)) (q13 (b8 ixD (b7 0) (cE (.int 1))) q14))))
def aA6:List D->M D:=v9 1 aG3
def cN9:Fs:=j5 (o9 (J7 (q13 (b7 0) (q13 (b7 1) (q13 (b7 2) (q13 (q15 (fnX 1 aE1) (q13 (b7 3) q14)) (q13 (q15 (fnX 1 aA6) (q13 (b7 4) q14)) q14)))))) (q16 5)) (m8 (ifE (f9 (b8 eqD (b7 5) (cE (.tup [.tup [.tup [.non,.non]],.tup [.str ("but" :Str),.tup []],.tup [.bl false,.bl true],.tup [.tup [],.str ("any" :Str)],.tup [.tup [],.str ("any" :Str)]])))) (cE (.str ("any" :Str))) (b7 5)))
def cB4:List D->M D:=v9 6 cN9
def bA2:Fs:=m8 (mmE eC0 (R0 (itW (J7 (q13 (b8 ixD (b7 0) (cE (.int 0))) (q13 (b8 ixD (b7 1) (cE (.int 0))) q14)))) [none] (q16 0) (f9 (b8 aX2 (b7 0) (cE .non))) (b7 0)))
def aK7:List D->M D:=v9 2 bA2
def aX1:Fs:=m8 (mmE eH0 (R0 (itW (J7 (q13 (b8 ixD (b7 0) (cE (.int 1))) (q13 (b8 ixD (b7 1) (cE (.int 1))) q14)))) [none] (q16 0) (f9 (b8 aX2 (b7 0) (cE .non))) (b7 0)))
def aI7:List D->M D:=v9 2 aX1
def bC0:Fs:=m8 (aQ5 (b8 aX2 (b8 ixD (b7 0) (cE (.int 1))) (cE .non)) (cP8 (b8 aV3 (b8 ixD (b7 1) (cE (.int 1))) (cE .non)) (b8 ltD (b8 ixD (b7 0) (cE (.int 1))) (b8 ixD (b7 1) (cE (.int 1))))))
def aL4:List D->M D:=v9 2 bC0
def bN4:Fs:=m8 (aQ5 (b8 aX2 (b7 0) (cE .non)) (aQ5 (b8 aX2 (b7 1) (cE .non)) (b8 gtD (b7 0) (b7 1))))
def aR0:List D->M D:=v9 2 bN4
def MT:DSt->M Bool:=(aH6 (f9 (b8 ltD (b7 3) (q15 aB0 (q13 (b7 0) q14)))) (f9 (b8 ltD (b7 4) (q15 aB0 (q13 (b7 1) q14)))))
def MB:Fs:=(j5 (o9 (q15 (fnX 2 aK7) (q13 (b8 ixD (b7 0) (b7 3)) (q13 (b8 ixD (b7 1) (b7 4)) q14))) (q16 5)) (j5 (o9 (q15 (fnX 2 aI7) (q13 (b8 ixD (b7 0) (b7 3)) (q13 (b8 ixD (b7 1) (b7 4)) q14))) (q16 6)) (j5 (ifS (V0 (u6 (q15 (fnX 2 aR0) (q13 (b7 5) (q13 (b7 6) q14))))) (aM6 (mtE T4 X7 (b7 2) (q13 (J7 (q13 (b7 5) (q13 (b7 6) q14))) q14))) j9) (ifS (u6 (q15 (fnX 2 aL4) (q13 (b8 ixD (b7 0) (b7 3)) (q13 (b8 ixD (b7 1) (b7 4)) q14)))) (o9 (b8 aP1 (b7 3) (cE (.int 1))) (q16 3)) (o9 (b8 aP1 (b7 4) (cE (.int 1))) (q16 4))))))
def aH0:Fs:=j5 (o9 (X3 q14) (q16 2)) (j5 (o9 (cE (.int 0)) (q16 3)) (j5 (o9 (cE (.int 0)) (q16 4)) (j5 (bD9 MT MB) (m8 (q15 M9 (q13 (b7 2) q14))))))
def aH5:List D->M D:=v9 7 aH0
def bO5:Fs:=m8 (q15 bG9 (q13 (R0 (itW (b7 0)) [none] (q16 0) (aC8) (J7 (q13 (b7 0) (q13 (cE (.bl true)) q14)))) q14))
def aO0:List D->M D:=v9 1 bO5
def aS0:Fs:=m8 (J7 (q13 (q15 aB0 (q13 (b7 0) q14)) (q13 (b7 0) q14)))
def R4:List D->M D:=v9 1 aS0
def aN6:Fs:=m8 (q15 M9 (q13 (aM9 R4 (q15 (fnX 1 aO0) (q13 (b7 0) q14))) q14))
def aB7:List D->M D:=v9 1 aN6
def aV0:Fs:=m8 (q15 (fnX 1 aB7) (q13 (b8 aP1 (b7 0) (b7 1)) q14))
def aJ5:List D->M D:=v9 2 aV0
def bF2:Fs:=j5 (o9 (q15 (fnX 1 aO0) (q13 (b7 1) q14)) (q16 2)) (m8 (q15 M9 (q13 (R0 (itW (b7 0)) [none,some 2] (q16 0) (f9 (b8 inD (b7 0) (b7 1))) (b7 0)) q14)))
def aP9:List D->M D:=v9 3 bF2
def bF5:Fs:=j5 (o9 (q15 (fnX 1 aO0) (q13 (b7 1) q14)) (q16 2)) (m8 (q15 M9 (q13 (R0 (itW (b7 0)) [none,some 2] (q16 0) (f9 (b8 aP3 (b7 0) (b7 1))) (b7 0)) q14)))
def aM0:List D->M D:=v9 3 bF5
def aR1:Fs:=j5 (ifS (aH6 (f9 (b8 eqD (b8 ixD (b7 0) (cE (.int 0))) (cE (.str ("of" :Str))))) (f9 (b8 eqD (b8 ixD (b7 1) (cE (.int 0))) (cE (.str ("of" :Str)))))) (m8 (J7 (q13 (cE (.str ("of" :Str))) (q13 (q15 (fnX 2 aP9) (q13 (b8 ixD (b7 0) (cE (.int 1))) (q13 (b8 ixD (b7 1) (cE (.int 1))) q14))) q14)))) j9) (j5 (ifS (f9 (b8 eqD (b8 ixD (b7 0) (cE (.int 0))) (cE (.str ("of" :Str))))) (m8 (J7 (q13 (cE (.str ("of" :Str))) (q13 (q15 (fnX 2 aM0) (q13 (b8 ixD (b7 0) (cE (.int 1))) (q13 (b8 ixD (b7 1) (cE (.int 1))) q14))) q14)))) j9) (j5 (ifS (f9 (b8 eqD (b8 ixD (b7 1) (cE (.int 0))) (cE (.str ("of" :Str))))) (m8 (J7 (q13 (cE (.str ("of" :Str))) (q13 (q15 (fnX 2 aM0) (q13 (b8 ixD (b7 1) (cE (.int 1))) (q13 (b8 ixD (b7 0) (cE (.int 1))) q14))) q14)))) j9) (m8 (J7 (q13 (cE (.str ("but" :Str))) (q13 (q15 (fnX 2 aJ5) (q13 (b8 ixD (b7 0) (cE (.int 1))) (q13 (b8 ixD (b7 1) (cE (.int 1))) q14))) q14))))))
def aH4:List D->M D:=v9 2 aR1
def aY2:Fs:=m8 (ifE (f9 (b8 ltD (b7 1) (q15 aB0 (q13 (b8 ixD (b7 0) (cE (.int 0))) q14)))) (b8 ixD (b8 ixD (b7 0) (cE (.int 0))) (b7 1)) (b8 ixD (b7 0) (cE (.int 1))))
def aN2:List D->M D:=v9 2 aY2
def aC4:Fs:=m8 (q15 bG9 (q13 (R0 (itW (b8 ixD (b7 0) (cE (.int 0)))) [none,none,none] (aZ7 3 (Q3 (q16 0) (Q3 (q16 1) (Q3 (q16 2) (aZ1))))) (aC8) (J7 (q13 (b7 0) (q13 (J7 (q13 (b7 1) (q13 (b7 2) q14))) q14)))) q14))
def W0:List D->M D:=v9 1 aC4
def aY8:Fs:=m8 (mtE bC3 getD (b7 0) (q13 (b7 2) (q13 (J7 (q13 (cE (.bl false)) (q13 (b7 1) q14))) q14)))
def aE5:List D->M D:=v9 3 aY8
def aD9:Fs:=j5 (o9 (q15 (fnX 1 W0) (q13 (b7 0) q14)) (q16 2)) (j5 (o9 (q15 (fnX 1 W0) (q13 (b7 1) q14)) (q16 3)) (m8 (R0 (itW (cP7 (b7 2) (b7 3))) [none,some 2,some 0,some 1,some 3] (q16 0) (aC8) (J7 (q13 (b7 0) (q13 (q15 (fnX 3 aE5) (q13 (b7 1) (q13 (b8 ixD (b7 2) (cE (.int 1))) (q13 (b7 0) q14)))) (q13 (q15 (fnX 3 aE5) (q13 (b7 4) (q13 (b8 ixD (b7 3) (cE (.int 1))) (q13 (b7 0) q14)))) q14)))))))
def aE0:List D->M D:=v9 4 aD9
def aL1(R:List D->M D):Fs:=j5 (ifS (orT (f9 (b8 aV3 (b7 0) (cE .non))) (f9 (b8 aV3 (b7 1) (cE .non)))) (m8 (cE .non)) j9) (j5 (o9 (q15 dH3 (q13 (q15 aB0 (q13 (b8 ixD (b7 0) (cE (.int 0))) q14)) (q13 (q15 aB0 (q13 (b8 ixD (b7 1) (cE (.int 0))) q14)) q14))) (q16 2)) (j5 (o9 (R0 (aB6 (q13 (b7 2) q14)) [none,some 0,some 1] (q16 0) (aC8) (q15 (fnX 2 R) (q13 (q15 (fnX 2 aN2) (q13 (b7 1) (q13 (b7 0) q14))) (q13 (q15 (fnX 2 aN2) (q13 (b7 2) (q13 (b7 0) q14))) q14)))) (q16 3)) (m8 (J7 (q13 (q15 M9 (q13 (b7 3) q14)) (q13 (q15 (fnX 2 R) (q13 (b8 ixD (b7 0) (cE (.int 1))) (q13 (b8 ixD (b7 1) (cE (.int 1))) q14))) q14))))))
def aH1(R:List D->M D):List D->M D:=v9 4 (aL1 R)
def aG4(R:List D->M D):Fs:=j5 (ifS (orT (f9 (b8 aV3 (b7 0) (cE .non))) (f9 (b8 aV3 (b7 1) (cE .non)))) (m8 (cE .non)) j9) (j5 (o9 (R0 (itW (q15 (fnX 2 aE0) (q13 (b7 0) (q13 (b7 1) q14)))) [none,none,none] (aZ7 3 (Q3 (q16 0) (Q3 (q16 1) (Q3 (q16 2) (aZ1))))) (aC8) (J7 (q13 (b7 0) (q13 (cP8 (b8 ixD (b7 1) (cE (.int 0))) (b8 ixD (b7 2) (cE (.int 0)))) (q13 (q15 (fnX 2 R) (q13 (b8 ixD (b7 1) (cE (.int 1))) (q13 (b8 ixD (b7 2) (cE (.int 1))) q14))) q14))))) (q16 2)) (m8 (J7 (q13 (q15 M9 (q13 (b7 2) q14)) (q13 (q15 (fnX 2 R) (q13 (b8 ixD (b7 0) (cE (.int 1))) (q13 (b8 ixD (b7 1) (cE (.int 1))) q14))) q14)))))
def aB4(R:List D->M D):List D->M D:=v9 3 (aG4 R)
def bN7(R:List D->M D):Fs:=j5 (ifS (f9 (b8 eqD (b7 0) (cE (.str ("any" :Str))))) (m8 (b7 1)) j9) (j5 (ifS (f9 (b8 eqD (b7 1) (cE (.str ("any" :Str))))) (m8 (b7 0)) j9) (m8 (q15 (fnX 5 cB4) (q13 (q15 (fnX 2 aH5) (q13 (b8 ixD (b7 0) (cE (.int 0))) (q13 (b8 ixD (b7 1) (cE (.int 0))) q14))) (q13 (q15 (fnX 2 aH4) (q13 (b8 ixD (b7 0) (cE (.int 1))) (q13 (b8 ixD (b7 1) (cE (.int 1))) q14))) (q13 (q15 M9 (q13 (R0 (itW (b8 ixD (b7 0) (cE (.int 2)))) [none,some 1] (q16 0) (f9 (b8 inD (b7 0) (b8 ixD (b7 1) (cE (.int 2))))) (b7 0)) q14)) (q13 (q15 (fnX 2 (aH1 R)) (q13 (b8 ixD (b7 0) (cE (.int 3))) (q13 (b8 ixD (b7 1) (cE (.int 3))) q14))) (q13 (q15 (fnX 2 (aB4 R)) (q13 (b8 ixD (b7 0) (cE (.int 4))) (q13 (b8 ixD (b7 1) (cE (.int 4))) q14))) q14))))))))
def bL4:Nat->List D->M D
 |0=>λ_=>M.stuck
 |n+1=>v9 2 (bN7 (bL4 n))
def W4:List D->M D:=bL4 60
def bB9:List D->M D:=aH1 W4
def aU4:List D->M D:=aB4 W4
def bH0:Fs:=m8 (J7 (q13 (J7 q14) (q13 (J7 (q13 (cE (.str ("of" :Str))) (q13 (J7 q14) q14))) (q13 (J7 q14) (q13 (cE .non) (q13 (cE .non) q14))))))
def v7:List D->M D:=v9 0 bH0
def aY9:Fs:=j5 (o9 (q15 (fnX 1 o4) (q13 (b7 0) q14)) (q16 1)) (j5 (ifS (f9 (b8 eqD (b8 K5 (b7 1) (cE (.int 8))) (cE (.int 7)))) (m8 (b8 K5 (b8 O6 (b7 1) (cE (.int 8))) (cE (.int 7)))) j9) (m8 (b8 K5 (b8 O6 (b7 1) (cE (.int 8))) (cE (.int 4)))))
def X5:List D->M D:=v9 2 aY9
def aT4:Fs:=j5 (o9 (q15 (fnX 1 o4) (q13 (b7 0) q14)) (q16 1)) (j5 (ifS (f9 (b8 eqD (b8 K5 (b7 1) (cE (.int 9))) (cE (.int 8)))) (m8 (mtE bZ7 cI6 (cE (.str ("" :Str))) (q13 (R0 (aB6 (q13 (b8 K5 (b8 O6 (b7 1) (cE (.int 9))) (cE (.int 21))) q14)) [none,some 0] (q16 0) (aC8) (b8 ixD (cE (.str ("abcdefghijklmnopqrstuvwxyz" :Str))) (b8 K5 (q15 (fnX 1 o4) (q13 (b7 1) q14)) (cE (.int 26))))) q14))) j9) (m8 (b8 ixD (X3 (q13 (cE (.str ("" :Str))) (q13 (cE (.str ("a" :Str))) (q13 (cE (.str ("b" :Str))) (q13 (cE (.str ("aa" :Str))) (q13 (cE (.str ("ab" :Str))) (q13 (cE (.str ("ca" :Str))) q14))))))) (b8 K5 (b8 O6 (b7 1) (cE (.int 9))) (cE (.int 6))))))
def aJ1:List D->M D:=v9 2 aT4
def aT8:Fs:=m8 (J7 (q13 (q15 aB0 (q13 (b7 0) q14)) (q13 (b7 0) q14)))
def M8:List D->M D:=v9 1 aT8
def WB:Fs:=(j5 (o9 (q15 (fnX 1 aJ1) (q13 (b7 0) q14)) (q16 3)) (ifS (f9 (b8 aP3 (b7 3) (b7 1))) (aM6 (mtE T4 X7 (b7 1) (q13 (b7 3) q14))) j9))
def aL3:Fs:=j5 (o9 (X3 q14) (q16 1)) (j5 (aF5 (aB6 (q13 (q15 (fnX 1 X5) (q13 (b7 0) q14)) q14)) (q16 2) WB) (m8 (q15 M9 (q13 (aM9 M8 (b7 1)) q14))))
def aC2:List D->M D:=v9 4 aL3
def aL7:Fs:=m8 (q15 aV9 (q13 (R0 (itW (q15 (fnX 1 aC2) (q13 (b7 0) q14))) [none] (q16 0) (f9 (bE3 ltD ltD (cE (.int 0)) (q15 aB0 (q13 (b7 0) q14)) (cE (.int 9)))) (b7 0)) q14))
def aF9:List D->M D:=v9 1 aL7
def aU6:Fs:=j5 (o9 (q15 (fnX 1 o4) (q13 (b7 0) q14)) (q16 1)) (j5 (ifS (f9 (b8 eqD (b8 K5 (b7 1) (cE (.int 9))) (cE (.int 8)))) (m8 (b8 K5 (b8 aP1 (b8 bE6 (b8 O6 (b7 1) (cE (.int 9))) (cE (.int 1000003))) (q15 (fnX 1 o4) (q13 (b7 0) q14))) (b8 bE6 (cE (.int 6)) (b8 cM8 (cE (.int 10)) (cE (.int 10)))))) j9) (m8 (b8 K5 (b8 O6 (b7 1) (cE (.int 9))) (cE (.int 5)))))
def W6:List D->M D:=v9 2 aU6
def SB:Fs:=(j5 (o9 (b8 aP1 (b8 aP1 (b7 2) (cE (.int 2))) (q15 (fnX 1 W6) (q13 (b7 0) q14))) (q16 4)) (j5 (o9 (b8 aP1 (b7 4) (q15 (fnX 1 W6) (q13 (b7 0) q14))) (q16 2)) (aM6 (mtE T4 X7 (b7 1) (q13 (J7 (q13 (b7 4) (q13 (b7 2) q14))) q14)))))
def SC1:Fs:=(ifS (aH6 (f9 (b8 neD (b7 1) (X3 q14))) (f9 (b8 eqD (b8 K5 (b7 5) (cE (.int 4))) (cE (.int 1))))) (o9 (J7 (q13 (cE .non) (q13 (b8 ixD (b8 ixD (b7 1) (cE (.int 0))) (cE (.int 1))) q14))) (aF4 (b7 1) (cE (.int 0)))) j9)
def SC2:Fs:=(ifS (aH6 (f9 (b8 neD (b7 1) (X3 q14))) (f9 (b8 eqD (b8 K5 (b8 O6 (b7 5) (cE (.int 4))) (cE (.int 4))) (cE (.int 1))))) (o9 (J7 (q13 (b8 ixD (b8 ixD (b7 1) (unE cY2 (cE (.int 1)))) (cE (.int 0))) (q13 (cE .non) q14))) (aF4 (b7 1) (unE cY2 (cE (.int 1))))) j9)
def aC1:Fs:=j5 (o9 (X3 q14) (q16 1)) (j5 (o9 (b8 aO1 (unE cY2 (q15 (fnX 1 W6) (q13 (b7 0) q14))) (cE (.int 2))) (q16 2)) (j5 (aF5 (aB6 (q13 (q15 (fnX 1 X5) (q13 (b7 0) q14)) q14)) (q16 3) SB) (j5 (o9 (q15 (fnX 1 o4) (q13 (b7 0) q14)) (q16 5)) (j5 SC1 (j5 SC2 (m8 (q15 M9 (q13 (b7 1) q14))))))))
def V5:List D->M D:=v9 6 aC1
def bC2:Fs:=m8 (J7 (q13 (J7 (q13 (J7 (q13 (cE .non) (q13 (cE .non) q14))) q14)) (q13 (J7 (q13 (cE (.str ("but" :Str))) (q13 (J7 q14) q14))) (q13 (J7 (q13 (cE (.bl false)) (q13 (cE (.bl true)) q14))) (q13 (J7 (q13 (J7 q14) (q13 (cE (.str ("any" :Str))) q14))) (q13 (J7 (q13 (J7 q14) (q13 (cE (.str ("any" :Str))) q14))) q14))))))
def R5:List D->M D:=v9 0 bC2
def aP0(R:List D->M D):Fs:=j5 (ifS (f9 (b8 gtD (b8 K5 (b7 1) (cE (.int 8))) (cE (.int 3)))) (m8 (q15 (fnX 2 R) (q13 (b7 0) (q13 (b7 2) q14)))) j9) (m8 (q15 (fnX 0 v7) q14))
def W5(R:List D->M D):List D->M D:=v9 3 (aP0 R)
def aK9(R:List D->M D):Fs:=j5 (o9 (q15 (fnX 1 o4) (q13 (b7 0) q14)) (q16 2)) (j5 (ifS (orT (f9 (b8 eqD (b7 1) (cE (.int 0)))) (f9 (b8 eqD (b8 K5 (b7 2) (cE (.int 8))) (cE (.int 0))))) (m8 (b8 ixD (X3 (q13 (cE .non) (q13 (J7 (q13 (J7 q14) (q13 (cE (.str ("any" :Str))) q14))) q14))) (b8 K5 (b8 O6 (b7 2) (cE (.int 8))) (cE (.int 2))))) j9) (j5 (o9 (q15 (fnX 3 (W5 R)) (q13 (b7 0) (q13 (b7 2) (q13 (b8 aO1 (b7 1) (cE (.int 1))) q14)))) (q16 3)) (j5 (o9 (R0 (aB6 (q13 (q15 (fnX 1 X5) (q13 (b7 0) q14)) q14)) [none,some 1,some 0] (q16 0) (aC8) (q15 (fnX 2 R) (q13 (b7 2) (q13 (b8 aO1 (b7 1) (cE (.int 1))) q14)))) (q16 4)) (m8 (J7 (q13 (q15 M9 (q13 (R0 (itW (b7 4)) [none] (q16 0) (f9 (b8 neD (b7 0) (q15 (fnX 0 v7) q14))) (b7 0)) q14)) (q13 (b7 3) q14)))))))
def aC3(R:List D->M D):List D->M D:=v9 5 (aK9 R)
def RB(R:List D->M D):Fs:=(j5 (o9 (q15 (fnX 2 R) (q13 (b7 0) (q13 (b8 aO1 (b7 1) (cE (.int 1))) q14))) (q16 6)) (j5 (o9 (aQ5 (b8 eqD (b8 K5 (q15 (fnX 1 o4) (q13 (b7 0) q14)) (cE (.int 2))) (cE (.int 0))) (b8 neD (b7 6) (q15 (fnX 0 v7) q14))) (q16 7)) (ifS (orT (u6 (b7 7)) (f9 (b8 neD (b7 6) (b7 3)))) (aM6 (mtE T4 X7 (b7 4) (q13 (J7 (q13 (b7 5) (q13 (b7 7) (q13 (b7 6) q14)))) q14))) j9)))
def aG2(R:List D->M D):Fs:=j5 (o9 (q15 (fnX 1 o4) (q13 (b7 0) q14)) (q16 2)) (j5 (ifS (orT (f9 (b8 eqD (b7 1) (cE (.int 0)))) (f9 (b8 eqD (b8 K5 (b7 2) (cE (.int 8))) (cE (.int 0))))) (m8 (b8 ixD (X3 (q13 (cE .non) (q13 (J7 (q13 (J7 q14) (q13 (cE (.str ("any" :Str))) q14))) q14))) (b8 K5 (b8 O6 (b7 2) (cE (.int 8))) (cE (.int 2))))) j9) (j5 (o9 (q15 (fnX 3 (W5 R)) (q13 (b7 0) (q13 (b7 2) (q13 (b8 aO1 (b7 1) (cE (.int 1))) q14)))) (q16 3)) (j5 (o9 (X3 q14) (q16 4)) (j5 (aF5 (itW (q15 (fnX 1 aF9) (q13 (b7 0) q14))) (q16 5) (RB R)) (m8 (J7 (q13 (q15 M9 (q13 (b7 4) q14)) (q13 (b7 3) q14))))))))
def V6(R:List D->M D):List D->M D:=v9 8 (aG2 R)
def I5:Fs:=(j5 (ifS (f9 (b8 eqD (q15 M9 (q13 (b7 3) q14)) (q15 (fnX 0 R5) q14))) (m8 (cE (.str ("any" :Str)))) j9) (m8 (q15 M9 (q13 (b7 3) q14))))
def aM7(R:List D->M D):Fs:=j5 (o9 (q15 (fnX 1 o4) (q13 (b7 0) q14)) (q16 2)) (j5 (ifS (f9 (b8 ltD (b8 K5 (b7 2) (cE (.int 8))) (cE (.int 2)))) (m8 (b8 ixD (X3 (q13 (cE (.str ("any" :Str))) (q13 (q15 (fnX 0 v7) q14) q14))) (b8 K5 (b7 2) (cE (.int 8))))) j9) (j5 (o9 (q15 bC6 (q13 (b8 ixD (X3 (q13 (q15 (fnX 0 v7) q14) (q13 (q15 (fnX 0 R5) q14) q14))) (q15 bP3 (q13 (b8 eqD (b8 K5 (b7 2) (cE (.int 8))) (cE (.int 2))) q14))) q14)) (q16 3)) (j5 (o9 (b8 K5 (b8 O6 (b7 2) (cE (.int 8))) (cE (.int 5))) (q16 4)) (j5 (o9 (b8 O6 (b7 2) (cE (.int 40))) (q16 5)) (j5 (o9 (b8 gtD (b8 K5 (b7 2) (cE (.int 8))) (cE (.int 2))) (q16 6)) (j5 (ifS (orT (f9 (b8 eqD (b7 4) (cE (.int 0)))) (aH6 (u6 (b7 6)) (f9 (b8 eqD (b8 K5 (b7 5) (cE (.int 2))) (cE (.int 0)))))) (o9 (q15 (fnX 1 V5) (q13 (b7 0) q14)) (aF4 (b7 3) (cE (.int 0)))) j9) (j5 (ifS (orT (f9 (b8 eqD (b7 4) (cE (.int 1)))) (aH6 (u6 (b7 6)) (f9 (b8 eqD (b8 K5 (b8 O6 (b7 5) (cE (.int 2))) (cE (.int 3))) (cE (.int 0)))))) (o9 (J7 (q13 (b8 ixD (X3 (q13 (cE (.str ("of" :Str))) (q13 (cE (.str ("but" :Str))) q14))) (b8 K5 (b8 O6 (b7 5) (cE (.int 6))) (cE (.int 2)))) (q13 (q15 (fnX 1 aC2) (q13 (b7 0) q14)) q14))) (aF4 (b7 3) (cE (.int 1)))) j9) (j5 (ifS (orT (f9 (b8 eqD (b7 4) (cE (.int 2)))) (aH6 (u6 (b7 6)) (f9 (b8 eqD (b8 K5 (b8 O6 (b7 5) (cE (.int 12))) (cE (.int 3))) (cE (.int 0)))))) (o9 (b8 ixD (X3 (q13 (J7 q14) (q13 (J7 (q13 (cE (.bl false)) q14)) (q13 (J7 (q13 (cE (.bl true)) q14)) (q13 (J7 (q13 (cE (.bl false)) (q13 (cE (.bl true)) q14))) q14))))) (b8 K5 (b8 O6 (b7 5) (cE (.int 36))) (cE (.int 4)))) (aF4 (b7 3) (cE (.int 2)))) j9) (j5 (ifS (orT (f9 (b8 eqD (b7 4) (cE (.int 3)))) (aH6 (u6 (b7 6)) (f9 (b8 eqD (b8 K5 (b8 O6 (b7 5) (cE (.int 144))) (cE (.int 2))) (cE (.int 0)))))) (o9 (q15 (fnX 2 (aC3 R)) (q13 (b7 0) (q13 (b7 1) q14))) (aF4 (b7 3) (cE (.int 3)))) j9) (j5 (ifS (orT (f9 (b8 eqD (b7 4) (cE (.int 4)))) (aH6 (u6 (b7 6)) (f9 (b8 eqD (b8 K5 (b8 O6 (b7 5) (cE (.int 288))) (cE (.int 2))) (cE (.int 0)))))) (o9 (q15 (fnX 2 (V6 R)) (q13 (b7 0) (q13 (b7 1) q14))) (aF4 (b7 3) (cE (.int 4)))) j9) I5))))))))))
def aE8:Nat->List D->M D
 |0=>λ_=>M.stuck
 |n+1=>v9 7 (aM7 (aE8 n))
def aI2:List D->M D:=aE8 60
def bG1:List D->M D:=W5 aI2
def bB3:List D->M D:=aC3 aI2
def aT5:List D->M D:=V6 aI2
def aS1:Fs:=j5 (o9 (b8 K5 (b8 aP1 (b8 K5 (b7 0) (cE (.int 2147483647))) (b8 bE6 (cE (.int 40692)) (b8 aP1 (b7 1) (cE (.int 1))))) (cE (.int 2147483647))) (q16 2)) (j5 (o9 (b8 K5 (b8 aP1 (b8 aP1 (b8 bE6 (b7 2) (b7 2)) (b8 bE6 (cE (.int 48271)) (b7 2))) (b7 1)) (cE (.int 2147483647))) (q16 2)) (j5 (o9 (b8 K5 (b8 bE6 (b7 2) (b7 2)) (cE (.int 2147483629))) (q16 2)) (m8 (b8 O6 (b8 K5 (b8 bE6 (b7 2) (cE (.int 69621))) (cE (.int 2147483629))) (cE (.int 8))))))
def aG0:List D->M D:=v9 3 aS1
def PB:Fs:=(j5 (o9 (b8 K5 (b7 7) (q15 aB0 (q13 (b7 4) q14))) (q16 8)) (ifS (f9 (b8 gtD (b8 ixD (b7 5) (b7 8)) (cE (.int 0)))) (j5 (aM6 (mtE T4 X7 (b7 6) (q13 (b8 K5 (b8 ixD (b7 5) (b7 8)) (cE (.int 1000003))) q14))) (o9 (b8 O6 (b8 ixD (b7 5) (b7 8)) (cE (.int 1000003))) (aF4 (b7 5) (b7 8)))) (aM6 (mtE T4 X7 (b7 6) (q13 (q15 (fnX 2 aG0) (q13 (b8 ixD (b7 4) (b7 8)) (q13 (b8 O6 (b7 7) (q15 aB0 (q13 (b7 4) q14))) q14))) q14)))))
def PR:Fe:=(R0 (itW (b7 4)) [none] (q16 0) (aC8) (b8 bE6 (q15 dB2 (q13 (b7 0) q14)) (q15 bP3 (q13 (b8 geD (q15 dB2 (q13 (b7 0) q14)) (b8 cM8 (cE (.int 10)) (cE (.int 18)))) q14))))
def PT:Fs:=(j5 (o9 PR (q16 5)) (j5 (o9 (X3 q14) (q16 6)) (j5 (aF5 (aB6 (q13 (b7 3) q14)) (q16 7) PB) (m8 (unE bV6 (b7 6))))))
def aR3:Fs:=j5 (o9 (bA4 (b7 0) (aV5 (b7 1)) (aV5 (cE (.int 126))) (aV5 (b7 2))) (q16 4)) (j5 (ifS (f9 (b8 eqD (b7 4) (X3 q14))) (o9 (X3 (q13 (b7 1) q14)) (q16 4)) j9) PT)
def U4:List D->M D:=v9 9 aR3
def bB4:Fs:=m8 (b8 ixD (b7 0) (cE (.int 0)))
def W9:List D->M D:=v9 1 bB4
def N1:Fs:=(ifS (aH6 (f9 (b8 eqD (b7 5) (cE (.int 1)))) (aH6 (f9 (b8 aX2 (b7 3) (cE .non))) (f9 (b8 neD (b7 3) (b7 4))))) (o9 (b8 aP1 (b7 3) (cE (.int 1))) (q16 3)) j9)
def N2:Fs:=(ifS (aH6 (f9 (b8 eqD (b7 5) (cE (.int 2)))) (aH6 (f9 (b8 aX2 (b7 4) (cE .non))) (f9 (b8 neD (b7 3) (b7 4))))) (o9 (b8 aO1 (b7 4) (cE (.int 1))) (q16 4)) j9)
def NB:Fs:=(j5 (o9 (b8 K5 (q15 (fnX 1 o4) (q13 (b7 0) q14)) (cE (.int 4))) (q16 5)) (j5 N1 (j5 N2 (ifS (f9 (b8 ltD (b7 5) (cE (.int 3)))) (aM6 (mtE T4 X7 (b7 2) (q13 (J7 (q13 (b7 3) (q13 (b7 4) q14))) q14))) j9))))
def T3:Fs:=j5 (o9 (X3 q14) (q16 2)) (j5 (aF5 (itW (b7 1)) (aZ7 2 (Q3 (q16 3) (Q3 (q16 4) (aZ1)))) NB) (m8 (q15 M9 (q13 (b7 2) q14))))
def Q7:List D->M D:=v9 6 T3
def V2:Fs:=j5 (ifS (f9 (b8 eqD (b8 ixD (b7 1) (cE (.int 0))) (cE (.str ("of" :Str))))) (m8 (J7 (q13 (cE (.str ("of" :Str))) (q13 (q15 M9 (q13 (R0 (itW (b8 ixD (b7 1) (cE (.int 1)))) [none,some 0] (q16 0) (f9 (b8 gtD (b8 K5 (q15 (fnX 1 o4) (q13 (b7 1) q14)) (cE (.int 3))) (cE (.int 0)))) (b7 0)) q14)) q14)))) j9) (j5 (o9 (q15 (fnX 1 aJ1) (q13 (b7 0) q14)) (q16 2)) (j5 (ifS (f9 (b8 inD (b7 2) (b8 ixD (b7 1) (cE (.int 1))))) (m8 (b7 1)) j9) (m8 (J7 (q13 (cE (.str ("but" :Str))) (q13 (q15 M9 (q13 (aM9 M8 (b8 aP1 (b8 ixD (b7 1) (cE (.int 1))) (J7 (q13 (b7 2) q14)))) q14)) q14))))))
def R9:List D->M D:=v9 3 V2
def W7(R:List D->M D):Fs:=j5 (o9 (q15 (fnX 3 R) (q13 (b7 0) (q13 (b7 1) (q13 (b7 2) q14)))) (q16 3)) (m8 (b8 ixD (X3 (q13 (b7 3) (q13 (b7 1) q14))) (q15 bP3 (q13 (b8 eqD (b7 3) (q15 (fnX 0 v7) q14)) q14))))
def K4(R:List D->M D):List D->M D:=v9 4 (W7 R)
def V1(R:List D->M D):Fs:=j5 (o9 (q15 (fnX 1 o4) (q13 (b7 0) q14)) (q16 3)) (j5 (ifS (orT (f9 (b8 aV3 (b7 1) (cE .non))) (f9 (b8 eqD (b8 K5 (b7 3) (cE (.int 5))) (cE (.int 0))))) (m8 (cE .non)) j9) (j5 (o9 (R0 (itW (b8 ixD (b7 1) (cE (.int 0)))) [none,some 2,some 0] (q16 0) (aC8) (q15 (fnX 3 (K4 R)) (q13 (b7 2) (q13 (b7 0) (q13 (b7 1) q14))))) (q16 4)) (j5 (ifS (aH6 (f9 (b8 eqD (b8 K5 (b7 3) (cE (.int 5))) (cE (.int 1)))) (f9 (b8 neD (b8 ixD (b7 1) (cE (.int 1))) (q15 (fnX 0 v7) q14)))) (aM6 (mtE T4 X7 (b7 4) (q13 (q15 (fnX 3 (K4 R)) (q13 (b7 0) (q13 (b8 ixD (b7 1) (cE (.int 1))) (q13 (b7 2) q14)))) q14))) j9) (m8 (J7 (q13 (q15 M9 (q13 (b7 4) q14)) (q13 (q15 (fnX 3 R) (q13 (b7 0) (q13 (b8 ixD (b7 1) (cE (.int 1))) (q13 (b7 2) q14)))) q14)))))))
def P0(R:List D->M D):List D->M D:=v9 5 (V1 R)
def QB1(R:List D->M D):Fs:=(ifS (f9 (b8 neD (b7 8) (q15 (fnX 0 v7) q14))) (j5 (o9 (q15 (fnX 3 (K4 R)) (q13 (b7 0) (q13 (b7 8) (q13 (b7 2) q14)))) (q16 8)) (o9 (cP8 (b7 7) (b8 eqD (b8 K5 (q15 (fnX 1 o4) (q13 (b7 0) q14)) (cE (.int 3))) (cE (.int 1)))) (q16 7))) j9)
def QB2:Fs:=(ifS (orT (u6 (b7 7)) (f9 (b8 neD (b7 8) (b7 4)))) (aM6 (mtE T4 X7 (b7 5) (q13 (J7 (q13 (b7 6) (q13 (b7 7) (q13 (b7 8) q14)))) q14))) j9)
def QC:Fe:=(R0 (itW (b8 ixD (b7 1) (cE (.int 0)))) [none] (q16 0) (aC8) (b8 ixD (b7 0) (cE (.int 0))))
def QE(R:List D->M D):Fs:=(ifS (aH6 (f9 (b8 eqD (b8 K5 (b7 3) (cE (.int 5))) (cE (.int 1)))) (aH6 (f9 (b8 neD (b8 ixD (b7 1) (cE (.int 1))) (q15 (fnX 0 v7) q14))) (f9 (b8 aP3 (cE (.str ("ca" :Str))) QC)))) (aM6 (mtE T4 X7 (b7 5) (q13 (J7 (q13 (cE (.str ("ca" :Str))) (q13 (cE (.bl true)) (q13 (q15 (fnX 3 (K4 R)) (q13 (b7 0) (q13 (b8 ixD (b7 1) (cE (.int 1))) (q13 (b7 2) q14)))) q14)))) q14))) j9)
def QF:Fs:=(m8 (J7 (q13 (q15 M9 (q13 (aM9 W9 (b7 5)) q14)) (q13 (b7 4) q14))))
def T6(R:List D->M D):Fs:=j5 (o9 (q15 (fnX 1 o4) (q13 (b7 0) q14)) (q16 3)) (j5 (ifS (orT (f9 (b8 aV3 (b7 1) (cE .non))) (f9 (b8 eqD (b8 K5 (b7 3) (cE (.int 5))) (cE (.int 0))))) (m8 (cE .non)) j9) (j5 (o9 (q15 (fnX 3 R) (q13 (b7 0) (q13 (b8 ixD (b7 1) (cE (.int 1))) (q13 (b7 2) q14)))) (q16 4)) (j5 (o9 (X3 q14) (q16 5)) (j5 (aF5 (itW (b8 ixD (b7 1) (cE (.int 0)))) (aZ7 3 (Q3 (q16 6) (Q3 (q16 7) (Q3 (q16 8) (aZ1))))) (j5 (QB1 R) QB2)) (j5 (QE R) QF)))))
def N8(R:List D->M D):List D->M D:=v9 9 (T6 R)
def J5:Fs:=(j5 (ifS (f9 (b8 eqD (q15 M9 (q13 (b7 4) q14)) (q15 (fnX 0 R5) q14))) (m8 (cE (.str ("any" :Str)))) j9) (m8 (q15 M9 (q13 (b7 4) q14))))
def Z5(R:List D->M D):Fs:=j5 (o9 (q15 (fnX 1 o4) (q13 (b7 0) q14)) (q16 3)) (j5 (ifS (orT (f9 (b8 eqD (b8 K5 (b7 3) (cE (.int 3))) (cE (.int 0)))) (f9 (b8 eqD (b7 2) (cE (.int 0))))) (m8 (b7 1)) j9) (j5 (o9 (b7 1) (q16 4)) (j5 (ifS (f9 (b8 eqD (b7 1) (cE (.str ("any" :Str))))) (o9 (q15 (fnX 0 R5) q14) (q16 4)) j9) (j5 (o9 (q15 bC6 (q13 (b7 4) q14)) (q16 4)) (j5 (o9 (b8 K5 (b8 O6 (b7 3) (cE (.int 3))) (cE (.int 6))) (q16 5)) (j5 (ifS (f9 (b8 inD (b7 5) (J7 (q13 (cE (.int 0)) (q13 (cE (.int 5)) q14))))) (o9 (q15 (fnX 2 Q7) (q13 (b7 0) (q13 (b8 ixD (b7 4) (cE (.int 0))) q14))) (aF4 (b7 4) (cE (.int 0)))) j9) (j5 (ifS (f9 (b8 inD (b7 5) (J7 (q13 (cE (.int 1)) (q13 (cE (.int 5)) q14))))) (o9 (q15 (fnX 2 R9) (q13 (b7 0) (q13 (b8 ixD (b7 4) (cE (.int 1))) q14))) (aF4 (b7 4) (cE (.int 1)))) j9) (j5 (ifS (f9 (b8 inD (b7 5) (J7 (q13 (cE (.int 2)) (q13 (cE (.int 5)) q14))))) (o9 (bM9 (b8 ixD (b7 4) (cE (.int 2))) (aV5 (cE (.int 1))) (cR2)) (aF4 (b7 4) (cE (.int 2)))) j9) (j5 (ifS (f9 (b8 inD (b7 5) (J7 (q13 (cE (.int 3)) (q13 (cE (.int 5)) q14))))) (o9 (q15 (fnX 3 (P0 R)) (q13 (b7 0) (q13 (b8 ixD (b7 4) (cE (.int 3))) (q13 (b8 aO1 (b7 2) (cE (.int 1))) q14)))) (aF4 (b7 4) (cE (.int 3)))) j9) (j5 (ifS (f9 (b8 inD (b7 5) (J7 (q13 (cE (.int 4)) (q13 (cE (.int 5)) q14))))) (o9 (q15 (fnX 3 (N8 R)) (q13 (b7 0) (q13 (b8 ixD (b7 4) (cE (.int 4))) (q13 (b8 aO1 (b7 2) (cE (.int 1))) q14)))) (aF4 (b7 4) (cE (.int 4)))) j9) J5))))))))))
def O3:Nat->List D->M D
 |0=>λ_=>M.stuck
 |n+1=>v9 6 (Z5 (O3 n))
def Z4:List D->M D:=O3 60
def aM8:List D->M D:=K4 Z4
def aK6:List D->M D:=P0 Z4
def aH8:List D->M D:=N8 Z4
def aH3:Fs:=j5 (ifS (orT (V0 (u6 (q15 K8 (q13 (b7 0) (q13 (cE (.ty "str")) q14))))) (f9 (b8 ltD (q15 aB0 (q13 (b7 0) q14)) (b7 1)))) (m8 (cE (.bl false))) j9) (m8 (q15 dD5 (q13 (R0 (itW (b7 0)) [none] (q16 0) (aC8) (b8 inD (b7 0) (cE (.str ("abcdefghijklmnopqrstuvwxyz" :Str))))) q14)))
def V4:List D->M D:=v9 2 aH3
def bB0:Fs:=m8 (aQ5 (q15 K8 (q13 (b7 0) (q13 (cE (.ty "int")) q14))) (fI1 (q15 K8 (q13 (b7 0) (q13 (cE (.ty "bool")) q14)))))
def aK8:List D->M D:=v9 1 bB0
def NX:Fe:=b8 ixD (b7 0) (b7 1)
def N19:Fs:=(ifS (orT (V0 (u6 (q15 K8 (q13 NX (q13 (cE (.ty "tuple")) q14))))) (f9 (b8 neD (q15 aB0 (q13 NX q14)) (cE (.int 2))))) (m8 (cE (.bl false))) j9)
def N29:Fs:=(ifS (V0 (orT (aH6 (f9 (b8 aV3 (b7 2) (cE .non))) (f9 (b8 eqD (b7 1) (cE (.int 0))))) (u6 (q15 (fnX 1 aK8) (q13 (b7 2) q14))))) (m8 (cE (.bl false))) j9)
def N3:Fs:=(ifS (V0 (orT (aH6 (f9 (b8 aV3 (b7 3) (cE .non))) (f9 (b8 eqD (b7 1) (b8 aO1 (q15 aB0 (q13 (b7 0) q14)) (cE (.int 1)))))) (u6 (q15 (fnX 1 aK8) (q13 (b7 3) q14))))) (m8 (cE (.bl false))) j9)
def N4:Fs:=(ifS (aH6 (f9 (b8 aX2 (b7 2) (cE .non))) (aH6 (f9 (b8 aX2 (b7 3) (cE .non))) (f9 (b8 gtD (b7 2) (b7 3))))) (m8 (cE (.bl false))) j9)
def N5:Fs:=(ifS (aH6 (f9 (b8 gtD (b7 1) (cE (.int 0)))) (f9 (b8 geD (b8 aP1 (b8 ixD (b8 ixD (b7 0) (b8 aO1 (b7 1) (cE (.int 1)))) (cE (.int 1))) (cE (.int 1))) (b7 2)))) (m8 (cE (.bl false))) j9)
def NB9:Fs:=j5 N19 (j5 (o9 NX (aZ7 2 (Q3 (q16 2) (Q3 (q16 3) (aZ1))))) (j5 N29 (j5 N3 (j5 N4 N5))))
def aA7:Fs:=j5 (ifS (V0 (u6 (q15 K8 (q13 (b7 0) (q13 (cE (.ty "tuple")) q14))))) (m8 (cE (.bl false))) j9) (j5 (aF5 (aB6 (q13 (q15 aB0 (q13 (b7 0) q14)) q14)) (q16 1) NB9) (m8 (cE (.bl true))))
def aA0:List D->M D:=v9 4 aA7
def TW:Fs:=(ifS (V0 (u6 (q15 (fnX 2 V4) (q13 (b7 1) (q13 (cE (.int 0)) q14))))) (m8 (cE (.bl false))) j9)
def TK:Fs:=(ifS (f9 (b8 geT (q15 (fnX 1 M8) (q13 (b8 ixD (b8 ixD (b7 0) (cE (.int 1))) (b8 aO1 (b7 2) (cE (.int 1)))) q14)) (q15 (fnX 1 M8) (q13 (b8 ixD (b8 ixD (b7 0) (cE (.int 1))) (b7 2)) q14)))) (m8 (cE (.bl false))) j9)
def T2:Fs:=(j5 (aF5 (aR2 (q13 (cE (.int 1)) (q13 (q15 aB0 (q13 (b8 ixD (b7 0) (cE (.int 1))) q14)) q14))) (q16 2) TK) (m8 (cE (.bl true))))
def T1:Fs:=(j5 (aF5 (itW (b8 ixD (b7 0) (cE (.int 1)))) (q16 1) TW) T2)
def aE2:Fs:=j5 (ifS (orT (V0 (u6 (q15 K8 (q13 (b7 0) (q13 (cE (.ty "tuple")) q14))))) (orT (f9 (b8 neD (q15 aB0 (q13 (b7 0) q14)) (cE (.int 2)))) (V0 (u6 (q15 K8 (q13 (b8 ixD (b7 0) (cE (.int 0))) (q13 (cE (.ty "str")) q14))))))) (m8 (cE (.bl false))) j9) (j5 (ifS (orT (f9 (b8 aP3 (b8 ixD (b7 0) (cE (.int 0))) (J7 (q13 (cE (.str ("of" :Str))) (q13 (cE (.str ("but" :Str))) q14))))) (V0 (u6 (q15 K8 (q13 (b8 ixD (b7 0) (cE (.int 1))) (q13 (cE (.ty "tuple")) q14)))))) (m8 (cE (.bl false))) j9) T1)
def aD6:List D->M D:=v9 3 aE2
def aC6:Fs:=j5 (ifS (orT (V0 (u6 (q15 K8 (q13 (b7 0) (q13 (cE (.ty "tuple")) q14))))) (V0 (u6 (q15 dD5 (q13 (R0 (itW (b7 0)) [none] (q16 0) (aC8) (q15 K8 (q13 (b7 0) (q13 (cE (.ty "bool")) q14)))) q14))))) (m8 (cE (.bl false))) j9) (m8 (b8 inX (b7 0) (J7 (q13 (J7 q14) (q13 (J7 (q13 (cE (.bl false)) q14)) (q13 (J7 (q13 (cE (.bl true)) q14)) (q13 (J7 (q13 (cE (.bl false)) (q13 (cE (.bl true)) q14))) q14)))))))
def aC5:List D->M D:=v9 1 aC6
def LB(R:List D->M D):Fs:=(ifS (orT (V0 (u6 (q15 (fnX 1 R) (q13 (b7 1) q14)))) (f9 (b8 eqD (b7 1) (q15 (fnX 0 v7) q14)))) (m8 (cE (.bl false))) j9)
def aD7(R:List D->M D):Fs:=j5 (ifS (f9 (b8 aV3 (b7 0) (cE .non))) (m8 (cE (.bl true))) j9) (j5 (ifS (orT (V0 (u6 (q15 K8 (q13 (b7 0) (q13 (cE (.ty "tuple")) q14))))) (orT (f9 (b8 neD (q15 aB0 (q13 (b7 0) q14)) (cE (.int 2)))) (V0 (u6 (q15 K8 (q13 (b8 ixD (b7 0) (cE (.int 0))) (q13 (cE (.ty "tuple")) q14))))))) (m8 (cE (.bl false))) j9) (j5 (aF5 (itW (b8 ixD (b7 0) (cE (.int 0)))) (q16 1) (LB R)) (m8 (q15 (fnX 1 R) (q13 (b8 ixD (b7 0) (cE (.int 1))) q14)))))
def Z2(R:List D->M D):List D->M D:=v9 2 (aD7 R)
def aD5(R:List D->M D):Fs:=j5 (ifS (orT (V0 (u6 (q15 K8 (q13 (b7 0) (q13 (cE (.ty "tuple")) q14))))) (orT (f9 (b8 neD (q15 aB0 (q13 (b7 0) q14)) (cE (.int 3)))) (V0 (u6 (q15 (fnX 2 V4) (q13 (b8 ixD (b7 0) (cE (.int 0))) (q13 (cE (.int 1)) q14))))))) (m8 (cE (.bl false))) j9) (j5 (ifS (orT (V0 (u6 (q15 K8 (q13 (b8 ixD (b7 0) (cE (.int 1))) (q13 (cE (.ty "bool")) q14))))) (V0 (u6 (q15 (fnX 1 R) (q13 (b8 ixD (b7 0) (cE (.int 2))) q14))))) (m8 (cE (.bl false))) j9) (m8 (b8 neD (b8 ixD (b7 0) (cE (.int 2))) (b8 ixD (X3 (q13 (b7 1) (q13 (q15 (fnX 0 v7) q14) q14))) (q15 bP3 (q13 (b8 ixD (b7 0) (cE (.int 1))) q14))))))
def X8(R:List D->M D):List D->M D:=v9 2 (aD5 R)
def FB1(R:List D->M D):Fs:=(ifS (V0 (u6 (q15 (fnX 2 (X8 R)) (q13 (b7 1) (q13 (b8 ixD (b7 0) (cE (.int 1))) q14))))) (m8 (cE (.bl false))) j9)
def FB2:Fs:=(ifS (f9 (b8 geD (b8 ixD (b8 ixD (b8 ixD (b7 0) (cE (.int 0))) (b8 aO1 (b7 2) (cE (.int 1)))) (cE (.int 0))) (b8 ixD (b8 ixD (b8 ixD (b7 0) (cE (.int 0))) (b7 2)) (cE (.int 0))))) (m8 (cE (.bl false))) j9)
def aA5(R:List D->M D):Fs:=j5 (ifS (f9 (b8 aV3 (b7 0) (cE .non))) (m8 (cE (.bl true))) j9) (j5 (ifS (orT (V0 (u6 (q15 K8 (q13 (b7 0) (q13 (cE (.ty "tuple")) q14))))) (orT (f9 (b8 neD (q15 aB0 (q13 (b7 0) q14)) (cE (.int 2)))) (orT (V0 (u6 (q15 K8 (q13 (b8 ixD (b7 0) (cE (.int 0))) (q13 (cE (.ty "tuple")) q14))))) (V0 (u6 (q15 (fnX 1 R) (q13 (b8 ixD (b7 0) (cE (.int 1))) q14))))))) (m8 (cE (.bl false))) j9) (j5 (aF5 (itW (b8 ixD (b7 0) (cE (.int 0)))) (q16 1) (FB1 R)) (j5 (aF5 (aR2 (q13 (cE (.int 1)) (q13 (q15 aB0 (q13 (b8 ixD (b7 0) (cE (.int 0))) q14)) q14))) (q16 2) FB2) (m8 (cE (.bl true))))))
def U6(R:List D->M D):List D->M D:=v9 3 (aA5 R)
def aD3(R:List D->M D):Fs:=j5 (ifS (u6 (q15 K8 (q13 (b7 0) (q13 (cE (.ty "str")) q14)))) (m8 (b8 eqD (b7 0) (cE (.str ("any" :Str))))) j9) (j5 (ifS (orT (V0 (u6 (q15 K8 (q13 (b7 0) (q13 (cE (.ty "tuple")) q14))))) (orT (f9 (b8 neD (q15 aB0 (q13 (b7 0) q14)) (cE (.int 5)))) (f9 (b8 eqD (b7 0) (q15 (fnX 0 R5) q14))))) (m8 (cE (.bl false))) j9) (j5 (ifS (orT (V0 (u6 (q15 (fnX 1 aA0) (q13 (b8 ixD (b7 0) (cE (.int 0))) q14)))) (orT (V0 (u6 (q15 (fnX 1 aD6) (q13 (b8 ixD (b7 0) (cE (.int 1))) q14)))) (V0 (u6 (q15 (fnX 1 aC5) (q13 (b8 ixD (b7 0) (cE (.int 2))) q14)))))) (m8 (cE (.bl false))) j9) (m8 (aQ5 (q15 (fnX 1 (Z2 R)) (q13 (b8 ixD (b7 0) (cE (.int 3))) q14)) (q15 (fnX 1 (U6 R)) (q13 (b8 ixD (b7 0) (cE (.int 4))) q14))))))
def Z3:Nat->List D->M D
 |0=>λ_=>M.stuck
 |n+1=>v9 1 (aD3 (Z3 n))
def U8:List D->M D:=Z3 60
def aT0:List D->M D:=Z2 U8
def aS7:List D->M D:=X8 U8
def aO6:List D->M D:=U6 U8
def OB:Fs:=(j5 (ifS (orT (f9 (b8 neD (q15 (fnX 2 W4) (q13 (b7 5) (q13 (b7 5) q14))) (b7 5))) (orT (f9 (b8 neD (q15 (fnX 2 W4) (q13 (b7 5) (q13 (cE (.str ("any" :Str))) q14))) (b7 5))) (f9 (b8 neD (q15 (fnX 2 W4) (q13 (cE (.str ("any" :Str))) (q13 (b7 5) q14))) (b7 5))))) (m8 (cE (.bl false))) j9) (ifS (orT (f9 (b8 neD (q15 (fnX 2 W4) (q13 (b7 5) (q13 (q15 (fnX 0 v7) q14) q14))) (q15 (fnX 0 v7) q14))) (f9 (b8 neD (q15 (fnX 2 W4) (q13 (q15 (fnX 0 v7) q14) (q13 (b7 5) q14))) (q15 (fnX 0 v7) q14)))) (m8 (cE (.bl false))) j9))
def L4:Fe:=(R0 (aB6 (q13 (cE (.int 4)) q14)) [none,some 0] (q16 0) (aC8) (q15 (fnX 2 aI2) (q13 (q15 (fnX 4 U4) (q13 (b7 1) (q13 (b7 0) (q13 (cE (.int 4)) (q13 (cE (.int 60)) q14))))) (q13 (cE (.int 3)) q14))))
def NRB:Fs:=(ifS (aH6 (f9 (b8 eqD (b8 K5 (b7 2) (cE (.int 2))) (cE (.int 0)))) (orT (f9 (b8 ltD (b7 3) (cE (.int 3)))) (f9 (b8 eqD (b8 K5 (b8 O6 (b7 2) (cE (.int 2))) (cE (.int 2))) (cE (.int 0)))))) (o9 (q15 (fnX 3 Z4) (q13 (q15 (fnX 4 U4) (q13 (b7 0) (q13 (b7 3) (q13 (cE (.int 4)) (q13 (cE (.int 60)) q14))))) (q13 (b8 ixD (b7 1) (cE (.int 0))) (q13 (cE (.int 4)) q14)))) (aF4 (b7 1) (b7 3))) j9)
def M3:Fe:=(q15 (fnX 2 W4) (q13 (q15 (fnX 2 W4) (q13 (q15 (fnX 2 W4) (q13 (b8 ixD (b7 1) (cE (.int 0))) (q13 (b8 ixD (b7 1) (cE (.int 1))) q14))) (q13 (b8 ixD (b7 1) (cE (.int 2))) q14))) (q13 (b8 ixD (b7 1) (cE (.int 3))) q14)))
def M3':Fe:=(q15 (fnX 2 W4) (q13 (b8 ixD (b7 1) (cE (.int 3))) (q13 (q15 (fnX 2 W4) (q13 (b8 ixD (b7 1) (cE (.int 2))) (q13 (q15 (fnX 2 W4) (q13 (b8 ixD (b7 1) (cE (.int 1))) (q13 (b8 ixD (b7 1) (cE (.int 0))) q14))) q14))) q14)))
def M22:Fe:=(q15 (fnX 2 W4) (q13 (q15 (fnX 2 W4) (q13 (b8 ixD (b7 1) (cE (.int 2))) (q13 (b8 ixD (b7 1) (cE (.int 0))) q14))) (q13 (q15 (fnX 2 W4) (q13 (b8 ixD (b7 1) (cE (.int 3))) (q13 (b8 ixD (b7 1) (cE (.int 1))) q14))) q14)))
def M1:Fe:=(q15 (fnX 2 W4) (q13 (b7 4) (q13 (b8 ixD (b7 1) (b8 K5 (b8 O6 (b7 2) (cE (.int 4))) (cE (.int 4)))) q14)))
def cV4:Fs:=j5 (o9 L4 (q16 1)) (j5 (o9 (q15 (fnX 1 o4) (q13 (q15 (fnX 4 U4) (q13 (b7 0) (q13 (cE (.int 0)) (q13 (cE (.int 1)) (q13 (cE (.int 60)) q14))))) q14)) (q16 2)) (j5 (aF5 (aR2 (q13 (cE (.int 1)) (q13 (cE (.int 4)) q14))) (q16 3) NRB) (j5 (o9 M3 (q16 4)) (j5 (ifS (orT (V0 (u6 (q15 (fnX 1 U8) (q13 (b7 4) q14)))) (f9 (b8 neD M3' (b7 4)))) (m8 (cE (.bl false))) j9) (j5 (ifS (orT (f9 (b8 neD M22 (b7 4))) (f9 (b8 neD M1 (b7 4)))) (m8 (cE (.bl false))) j9) (j5 (aF5 (itW (b7 1)) (q16 5) OB) (m8 (cE (.bl true)))))))))
def dJ8:List D->M D:=v9 6 cV4
local macro_rules | `(tactic| walk_at "cl") => `(tactic| (refine ⟨?k, ?kk, ?a, ?b, ?c⟩; (case a => first | (dsimp only [Cx.nox, bQ6]; with_reducible assumption) | assumption); (case b => assumption); (case c => first | decide | omega)))
local macro_rules | `(tactic| walk_at "ck") => `(tactic| (refine ⟨?k, ?kk, ?kkk, ?a, ?b, ?c, ?d⟩; (case a => assumption); (case b => rfl); (case c => rfl); (case d => decide +kernel)))
local macro_rules | `(tactic| walk_at "od") => `(tactic| first
 |with_reducible exact eX5
 |with_reducible exact eX0
 |with_reducible exact eX3
 |with_reducible exact eA2
 |with_reducible exact eU4
 |with_reducible exact eX6
 |with_reducible exact fL7
 |with_reducible exact fC1
 |with_reducible exact eL3
 |with_reducible exact dD3
 |((with_reducible refine fC6 ?_);exact V7.units (by assumption))
 |((with_reducible refine fC2 ?_);exact V7.units (by assumption))
 |((with_reducible refine fH4 ?_);exact V7.units (by assumption))
 |((with_reducible refine fJ1 ?_);exact V7.units (by assumption))
 |((with_reducible refine eP7 ?_);exact V7.units (by assumption))
 |((with_reducible refine eK7 ?_);exact V7.units (by assumption))
 |((with_reducible refine dP5 ?_);exact V7.units (by assumption)))
local macro_rules | `(tactic| walk_at "bd") => `(tactic| first
 |with_reducible exact eX2
 |with_reducible exact bO8
 |with_reducible exact eK2
 |with_reducible exact eQ6
 |with_reducible exact dP8
 |with_reducible exact dZ0
 |with_reducible exact eO4
 |with_reducible exact eS3
 |with_reducible exact eS9
 |with_reducible exact cR1
 |with_reducible exact dZ2)
local macro_rules | `(tactic| walk_at "da") => `(tactic| first
 |with_reducible exact q19
 |((with_reducible refine fP3 ?_ ?_ ?_);walk_at "de";walk_at "da";rfl))
local macro_rules | `(tactic| walk_at "do") => `(tactic| first
 |with_reducible exact eE9
 |((with_reducible refine dW2 ?_);walk_at "de"))
local macro_rules | `(tactic| walk_at "pk") => `(tactic| first | exact eL8 | ((apply eS0); walk_at "pk"; walk_at "pk"; (unfold cC2; decide); rfl) | ((apply eM7); walk_at "pk"; walk_at "pk"; rfl))
local macro_rules | `(tactic| walk_at "de") => `(tactic| first
 |with_reducible exact q20
 |with_reducible exact fB9
 |with_reducible exact eT0
 |with_reducible exact eY7
 |((with_reducible refine fP2 _ ?_ ?_ ?_ ?_);rfl;(first|exact Or.inl rfl|exact Or.inr (Or.inl rfl)|exact Or.inr (Or.inr rfl));decide;decide)
 |((with_reducible refine eV7 ?_ ?_ ?_ ?_ ?_ ?_);assumption;decide;decide +kernel;rfl;decide;decide)
 |((with_reducible refine eN6 ?_ ?_ ?_);assumption;rfl;decide)
 |((with_reducible refine fJ3 ?_ ?_ ?_);walk_at "od";walk_at "de";walk_at "de")
 |((with_reducible refine fD8 eO8 ?_);walk_at "de")
 |((with_reducible refine eK4 ?_);walk_at "de")
 |((with_reducible refine eM6 ?_ ?_ ?_ ?_);walk_at "od";walk_at "de";walk_at "de";with_unfolding_all rfl)
 |((with_reducible refine eP9 ?_);walk_at "de")
 |((with_reducible refine eF8 ?_ ?_);walk_at "de";walk_at "de")
 |((with_reducible refine eY6 ?_ ?_);walk_at "de";walk_at "de")
 |((with_reducible refine fF0 ?_ ?_ ?_);walk_at "dt";walk_at "de";walk_at "de")
 |((with_reducible refine eT3 ?_);walk_at "da")
 |((with_reducible refine eQ1 ?_);walk_at "da")
 |((with_reducible refine dD4 ?_ ?_ ?_);walk_at "de";walk_at "do";walk_at "do")
 |((with_reducible refine dC2 ?_ ?_ ?_ ?_);walk_at "de";walk_at "do";walk_at "do";walk_at "do")
 |((with_reducible refine fI4 ?_ ?_ ?_);walk_at "de";walk_at "de";exact λ_ _=>rfl)
 |((with_reducible refine eF7 ?_ ?_ ?_ ?_ ?_ ?_);walk_at "de";rfl;assumption;rfl;rfl;rfl)
 |((with_reducible refine dH0 ?_ ?_ ?_ ?_ ?_);walk_at "cl";rfl;walk_at "da";decide;rfl)
 |((with_reducible refine cY0 ?_ ?_ ?_);walk_at "cl";rfl;decide)
 |((with_reducible refine dZ8 ?_ ?_ ?_ ?_ ?_);rfl;assumption;rfl;walk_at "de";rfl)
 |((with_reducible refine dD7 ?_ ?_ ?_ ?_ ?_ ?_ ?_ ?_);rfl;assumption;rfl;rfl;walk_at "de";walk_at "de";rfl;rfl)
 |((with_reducible refine eD9 ?_ ?_ ?_ ?_ ?_);rfl;assumption;rfl;walk_at "de";rfl)
 |((with_reducible refine dV2 ?_ ?_ ?_ ?_ ?_ ?_ ?_ ?_);rfl;walk_at "cl";assumption;rfl;rfl;walk_at "de";rfl;decide)
 |((with_reducible refine eY4 ?_ ?_ ?_ ?_ ?_ ?_ ?_ ?_ ?_);rfl;walk_at "bd";assumption;decide +kernel;rfl;walk_at "da";decide;decide;rfl)
 |((with_reducible refine fF5 JG PySem.F.type_list_append dD1 ?_ ?_ ?_ ?_ ?_ ?_ ?_);walk_at "de";walk_at "da";rfl;rfl;rfl;exact q17 rfl;rfl)
 |((with_reducible refine eN0 PySem.F.slot_str_join PySem.F.type_str_join eD2 ?_ ?_ ?_ ?_ ?_ ?_ ?_);walk_at "de";walk_at "da";rfl;rfl;rfl;exact q17 rfl;rfl)
 |((with_reducible refine eT7 ZL PySem.F.type_dict_get (eO2 ?_) ?_ ?_ ?_ ?_ ?_ ?_ ?_);exact V7.units (by assumption);walk_at "de";walk_at "da";rfl;rfl;rfl;exact q17 rfl;rfl)
 |((with_reducible refine fA0 PySem.F.slot_list_pop PySem.F.type_list_pop eU2 ?_ ?_ ?_);walk_at "de";rfl;rfl)
 |((with_reducible refine eA5 ?_ ?_ ?_ ?_ ?_ ?_ ?_ ?_);rfl;walk_at "di";walk_at "ck";decide +kernel;(intro _ _ _ _ _;walk_at "dg");(intro _ _ _ _;walk_at "dts");(intro _ _ _ _;walk_at "de");exact λ_=>rfl))
local macro_rules | `(tactic| walk_at "dt") => `(tactic| first
 |((with_reducible refine DW.dt ?_);walk_at "dw")
 |((with_reducible refine eR1 ?_);walk_at "dt")
 |((with_reducible refine eW6 ?_ ?_ ?_ ?_);walk_at "od";walk_at "de";walk_at "de";with_unfolding_all rfl)
 |((with_reducible refine dP0 ?_ ?_ ?_ ?_ ?_ ?_);walk_at "od";walk_at "od";walk_at "de";walk_at "de";walk_at "de";with_unfolding_all rfl)
 |((with_reducible refine dI8 ?_ ?_);walk_at "de";exact λ_=>rfl))
local macro_rules | `(tactic| walk_at "dw") => `(tactic| first
 |((with_reducible refine eA9 ?_);walk_at "dt")
 |((with_reducible refine eK3 ?_);walk_at "dt")
 |((with_reducible refine eN1 ?_ ?_);walk_at "dt";walk_at "dw")
 |((with_reducible refine fB5 ?_ ?_);walk_at "dt";walk_at "dw"))
local macro_rules | `(tactic| walk_at "dts") => `(tactic| first
 |with_reducible exact eB3
 |((with_reducible refine dV7 ?_);walk_at "dt"))
local macro_rules | `(tactic| walk_at "di") => `(tactic| first
 |((with_reducible refine fH9 ?_ ?_ ?_ ?_);assumption;rfl;walk_at "da";rfl)
 |((with_reducible refine fB3 ?_ ?_ ?_ ?_ ?_);assumption;rfl;walk_at "da";rfl;rfl)
 |((with_reducible refine fN9 ?_);walk_at "de"))
local macro_rules | `(tactic| walk_at "dg") => `(tactic| first
 |((with_reducible refine fH0 ?_ ?_ ?_ ?_);exact⟨_,_,_, ‹aE3 _ _ _›,rfl⟩;rfl;(first|exact Or.inl rfl|exact Or.inr rfl);(first|exact .inl rfl|exact .inr rfl))
 |((with_reducible refine cT1 ?_ ?_ ?_ ?_);assumption;rfl;(first|exact Or.inl rfl|exact Or.inr rfl);(first|exact .inl rfl|exact .inr rfl))
 |((with_reducible refine eM9 ?_ ?_ ?_ ?_);rfl;walk_at "dgs";rfl;rfl)
 |((with_reducible refine eK8 ?_ ?_ ?_ ?_);exact V7.units (by assumption);walk_at "de";walk_at "de";exact λ_=>rfl))
local macro_rules | `(tactic| walk_at "dgs") => `(tactic| first
 |with_reducible exact eH1
 |((with_reducible refine dK0 ?_ ?_ ?_);walk_at "dg";walk_at "dgs";rfl))
local macro_rules | `(tactic| walk_at "ds") => `(tactic| first
 |((with_reducible refine eQ5 ?_);walk_at "de")
 |((with_reducible refine fM0 ?_ ?_ ?_);walk_at "dt";walk_at "db";walk_at "db")
 |((with_reducible refine dT4 ?_ ?_ ?_ ?_ ?_ ?_ ?_ ?_ ?_ ?_);rfl;walk_at "di";walk_at "ck";decide +kernel;(intro _ _ _ _ _;walk_at "dg");(intro _ _ _ _;walk_at "dts");(intro _ _ _ _;walk_at "de");(exact λ_=>rfl);walk_at "dg";rfl)
 |((with_reducible refine eV9 ?_ ?_ ?_ ?_ ?_);walk_at "de";walk_at "dg";rfl;rfl;rfl)
 |((with_reducible refine eA6 ?_ ?_);walk_at "de";rfl)
 |((with_reducible refine eO1 ?_ ?_ ?_ ?_ ?_ ?_);exact JU;rfl;walk_at "di";walk_at "dg";walk_at "db";exact λ_=>rfl)
 |((with_reducible refine dT6 ?_ ?_ ?_);exact JU;walk_at "dt";walk_at "db"))
local macro_rules | `(tactic| walk_at "db") => `(tactic| first
 |with_reducible exact eO9
 |((with_reducible refine dG4 ?_);walk_at "ds")
 |((with_reducible refine cT3 ?_ ?_);walk_at "ds";walk_at "db"))
local macro_rules | `(tactic| walk_at "db0") => `(tactic| first
 |(refine dG4 ?_;walk_at "ds")
 |(refine cT3 ?_ ?_;walk_at "ds";walk_at "db"))
set_option maxHeartbeats 2000000
local macro_rules | `(tactic| walk_at "sc") => `(tactic| exact ⟨rfl, rfl, rfl, by decide +kernel, rfl, by decide +kernel, by decide +kernel⟩)
local macro_rules | `(tactic| walk_at "ba") => `(tactic| (intro _ _ _ _ _ _ us h; (repeat (have q := fJ9 h; clear h; obtain ⟨_, _, e, h⟩ := q; subst e)); cases List.eq_nil_of_length_eq_zero h; rfl))
abbrev bU1:D:=.tup [.tup [],.tup [.str ("of" :Str),.tup []],.tup [],.non,.non]
noncomputable abbrev bG5:D:=.tup [.tup [.tup [.non,.non]],.tup [.str ("but" :Str),.tup []],.tup [.bl false,.bl true],.tup [.tup [],.str ("any" :Str)],.tup [.tup [],.str ("any" :Str)]]
noncomputable abbrev eI2:D:=.str ("any" :Str)
structure BC(K:zi)(mg:Str->Option zg):Prop where
 b:BLs mg
 c_NOTHING:cE5 K mg "NOTHING" bU1
 c_ALL_PARTS:cE5 K mg "ALL_PARTS" bG5
 c_ANY:cE5 K mg "ANY" eI2
local macro_rules | `(tactic| walk_at "s1") => `(tactic| (walk_at "sc"; walk_at "ba"; (intro _ _ _ _ _ _ _ _ _; obtain ⟨_, _, _, _⟩ := (‹_› : BC _ _); skip)))
def top(i:Nat):Stmt:=PySem.Challenge.pw_allmeet_k24_whole_meets_in_any_order.main.body.getD i (.Pass ⟨0,0,0,0⟩)
section
variable{E:Ev}(zx:EvX E)(zb:BC E.K E.mg)
include zx zb
theorem cA4(Y:FH E.K "_law_next" (top 32)):Ck E o4 1 "_law_next" 1:=by
 refine R3 ["purse"] ["purse"] zx Y ?_ ?_ rfl rfl ?_;walk_at "s1";unfold aT6;walk_at "db0"
variable(k0:Ck E o4 1 "_law_next" 1)
theorem bE4(Y:FH E.K "lists_in_form" (top 22)):Ck E aE1 1 "lists_in_form" 1:=by
 refine R3 ["lists"] ["lists"] zx Y ?_ ?_ rfl rfl ?_;walk_at "s1";unfold aK1;walk_at "db0"
variable(k1:Ck E aE1 1 "lists_in_form" 1)
theorem aX7(Y:FH E.K "records_in_form" (top 23)):Ck E aA6 1 "records_in_form" 1:=by
 refine R3 ["records"] ["records"] zx Y ?_ ?_ rfl rfl ?_;walk_at "s1";unfold aG3;walk_at "db0"
variable(k2:Ck E aA6 1 "records_in_form" 1)
include k1 k2 in
theorem dY5(Y:FH E.K "made" (top 21)):Ck E cB4 5 "made" 2:=by
 refine R3 ["numbers", "texts", "truths", "lists", "records", "parts"] ["numbers", "texts", "truths", "lists", "records"] zx Y ?_ ?_ rfl rfl ?_;walk_at "s1";unfold cN9;walk_at "db0"
variable(k3:Ck E cB4 5 "made" 2)
theorem bQ4(Y:FH E.K "nearer_low" (top 5)):Ck E aK7 2 "nearer_low" 1:=by
 refine R3 ["one", "other"] ["one", "other"] zx Y ?_ ?_ rfl rfl ?_;walk_at "s1";unfold bA2;walk_at "db0"
variable(k4:Ck E aK7 2 "nearer_low" 1)
theorem bJ5(Y:FH E.K "nearer_high" (top 6)):Ck E aI7 2 "nearer_high" 1:=by
 refine R3 ["one", "other"] ["one", "other"] zx Y ?_ ?_ rfl rfl ?_;walk_at "s1";unfold aX1;walk_at "db0"
variable(k5:Ck E aI7 2 "nearer_high" 1)
theorem bQ0(Y:FH E.K "ends_first" (top 7)):Ck E aL4 2 "ends_first" 1:=by
 refine R3 ["one", "other"] ["one", "other"] zx Y ?_ ?_ rfl rfl ?_;walk_at "s1";unfold bC0;walk_at "db0"
variable(k6:Ck E aL4 2 "ends_first" 1)
theorem cD6(Y:FH E.K "is_empty" (top 3)):Ck E aR0 2 "is_empty" 1:=by
 refine R3 ["low", "high"] ["low", "high"] zx Y ?_ ?_ rfl rfl ?_;walk_at "s1";unfold bN4;walk_at "db0"
variable(k7:Ck E aR0 2 "is_empty" 1)
include k4 k5 k6 k7 in
theorem bI0(Y:FH E.K "meet_numbers" (top 4)):Ck E aH5 2 "meet_numbers" 2:=by
 refine R3 ["one", "other", "met", "here", "there", "low", "high"] ["one", "other"] zx Y ?_ ?_ rfl rfl ?_;walk_at "s1";unfold aH0;unfold MB MT;walk_at "db0"
variable(k8:Ck E aH5 2 "meet_numbers" 2)
theorem cY9(Y:FH E.K "marked" (top 9)):Ck E aO0 1 "marked" 1:=by
 refine R3 ["texts"] ["texts"] zx Y ?_ ?_ rfl rfl ?_;walk_at "s1";unfold bO5;walk_at "db0"
variable(k9:Ck E aO0 1 "marked" 1)
theorem bP1(Y:FH E.K "text_order" (top 1)):Ck E R4 1 "text_order" 1:=by
 refine R3 ["text"] ["text"] zx Y ?_ ?_ rfl rfl ?_;walk_at "s1";unfold aS0;walk_at "db0"
variable(k10:Ck E R4 1 "text_order" 1)
include k9 k10 in
theorem bH3(Y:FH E.K "rising_texts" (top 10)):Ck E aB7 1 "rising_texts" 4:=by
 refine R3 ["texts"] ["texts"] zx Y ?_ ?_ rfl rfl ?_;walk_at "s1";unfold aN6;walk_at "db0"
variable(k11:Ck E aB7 1 "rising_texts" 4)
include k11 in
theorem bY5(Y:FH E.K "in_either" (top 13)):Ck E aJ5 2 "in_either" 5:=by
 refine R3 ["one", "other"] ["one", "other"] zx Y ?_ ?_ rfl rfl ?_;walk_at "s1";unfold aV0;walk_at "db0"
variable(k12:Ck E aJ5 2 "in_either" 5)
include k9 in
theorem cM3(Y:FH E.K "in_both" (top 11)):Ck E aP9 2 "in_both" 2:=by
 refine R3 ["one", "other", "there"] ["one", "other"] zx Y ?_ ?_ rfl rfl ?_;walk_at "s1";unfold bF2;walk_at "db0"
variable(k13:Ck E aP9 2 "in_both" 2)
include k9 in
theorem cO3(Y:FH E.K "without" (top 12)):Ck E aM0 2 "without" 2:=by
 refine R3 ["one", "other", "there"] ["one", "other"] zx Y ?_ ?_ rfl rfl ?_;walk_at "s1";unfold bF5;walk_at "db0"
variable(k14:Ck E aM0 2 "without" 2)
include k12 k13 k14 in
theorem bP2(Y:FH E.K "meet_texts" (top 8)):Ck E aH4 2 "meet_texts" 6:=by
 refine R3 ["one", "other"] ["one", "other"] zx Y ?_ ?_ rfl rfl ?_;walk_at "s1";unfold aR1;walk_at "db0"
variable(k15:Ck E aH4 2 "meet_texts" 6)
theorem cH0(Y:FH E.K "front_at" (top 18)):Ck E aN2 2 "front_at" 1:=by
 refine R3 ["lists", "place"] ["lists", "place"] zx Y ?_ ?_ rfl rfl ?_;walk_at "s1";unfold aY2;walk_at "db0"
variable(k16:Ck E aN2 2 "front_at" 1)
theorem bB8(Y:FH E.K "fields_by_name" (top 19)):Ck E W0 1 "fields_by_name" 1:=by
 refine R3 ["records"] ["records"] zx Y ?_ ?_ rfl rfl ?_;walk_at "s1";unfold aC4;walk_at "db0"
variable(k17:Ck E W0 1 "fields_by_name" 1)
theorem cE6(Y:FH E.K "field_of" (top 20)):Ck E aE5 3 "field_of" 1:=by
 refine R3 ["told", "more", "name"] ["told", "more", "name"] zx Y ?_ ?_ rfl rfl ?_;walk_at "s1";unfold aY8;walk_at "db0"
variable(k18:Ck E aE5 3 "field_of" 1)
include k17 k18 in
theorem bE8(Y:FH E.K "fields_beside" (top 28)):Ck E aE0 2 "fields_beside" 2:=by
 refine R3 ["one", "other", "here", "there"] ["one", "other"] zx Y ?_ ?_ rfl rfl ?_;walk_at "s1";unfold aD9;walk_at "db0"
variable(k19:Ck E aE0 2 "fields_beside" 2)
include k16 in
theorem aT3{R:List D->M D}{lv:Nat}(kR:Ck E R 2 "meet" lv)(h2:6<=lv)(Y:FH E.K "meet_lists" (top 26)):Ck E (aH1 R) 2 "meet_lists" (lv+1):=by
 refine R3 ["one", "other", "longer", "fronts"] ["one", "other"] zx Y ?_ ?_ rfl rfl ?_;walk_at "s1";unfold aL1;walk_at "db0"
include k19 in
theorem aQ3{R:List D->M D}{lv:Nat}(kR:Ck E R 2 "meet" lv)(h2:6<=lv)(Y:FH E.K "meet_records" (top 27)):Ck E (aB4 R) 2 "meet_records" (lv+1):=by
 refine R3 ["one", "other", "fields"] ["one", "other"] zx Y ?_ ?_ rfl rfl ?_;walk_at "s1";unfold aG4;walk_at "db0"
include k3 k8 k15 in
theorem cZ9{R:List D->M D}{lv:Nat}(kR:Ck E R 2 "meet" lv)(h21:Ck E (aH1 R) 2 "meet_lists" (lv+1))(h22:Ck E (aB4 R) 2 "meet_records" (lv+1))(h2:6<=lv)(Y:FH E.K "meet" (top 25)):Ck E (v9 2 (bN7 R)) 2 "meet" (lv+2):=by
 refine R3 ["one", "other"] ["one", "other"] zx Y ?_ ?_ rfl rfl ?_;walk_at "s1";unfold bN7;walk_at "db0"
section
variable(Y:FH E.K "meet" (top 25))(Y21:FH E.K "meet_lists" (top 26))(Y22:FH E.K "meet_records" (top 27))
include Y Y21 Y22 k3 k8 k15 k16 k19
theorem cC6:∀n,Ck E (bL4 n) 2 "meet" (6+2*n)
 |0=>bB2 ["one", "other"] zx Y (by walk_at "ba") rfl
 |n+1=>by
   have kR:=cC6 n
   have h21:=aT3 zx zb k16 kR (jb _ _) Y21
   have h22:=aQ3 zx zb k19 kR (jb _ _) Y22
   exact cZ9 zx zb k3 k8 k15 kR h21 h22 (jb _ _) Y
end
include k3 k8 k15 k16 k19 in
theorem dY0(Y:FH E.K "meet" (top 25))(Y21:FH E.K "meet_lists" (top 26))(Y22:FH E.K "meet_records" (top 27)):Ck E W4 2 "meet" 126:=cC6 zx zb k3 k8 k15 k16 k19 Y Y21 Y22 60
variable(k20:Ck E W4 2 "meet" 126)
include k16 k20 in
theorem bR2(Y:FH E.K "meet_lists" (top 26)):Ck E bB9 2 "meet_lists" 127:=aT3 zx zb k16 k20 (by decide) Y
variable(k21:Ck E bB9 2 "meet_lists" 127)
include k19 k20 in
theorem bH5(Y:FH E.K "meet_records" (top 27)):Ck E aU4 2 "meet_records" 127:=aQ3 zx zb k19 k20 (by decide) Y
variable(k22:Ck E aU4 2 "meet_records" 127)
theorem bW5(Y:FH E.K "_law_none" (top 40)):Ck E v7 0 "_law_none" 1:=by
 refine R3 [] [] zx Y ?_ ?_ rfl rfl ?_;walk_at "s1";unfold bH0;walk_at "db0"
variable(k23:Ck E v7 0 "_law_none" 1)
include k0 in
theorem cK8(Y:FH E.K "_law_few" (top 33)):Ck E X5 1 "_law_few" 2:=by
 refine R3 ["purse", "number"] ["purse"] zx Y ?_ ?_ rfl rfl ?_;walk_at "s1";unfold aY9;walk_at "db0"
variable(k24:Ck E X5 1 "_law_few" 2)
include k0 in
theorem bZ6(Y:FH E.K "_law_word" (top 36)):Ck E aJ1 1 "_law_word" 2:=by
 refine R3 ["purse", "number"] ["purse"] zx Y ?_ ?_ rfl rfl ?_;walk_at "s1";unfold aT4;walk_at "db0"
variable(k25:Ck E aJ1 1 "_law_word" 2)
theorem cA0(Y:FH E.K "_law_rank" (top 37)):Ck E M8 1 "_law_rank" 1:=by
 refine R3 ["word"] ["word"] zx Y ?_ ?_ rfl rfl ?_;walk_at "s1";unfold aT8;walk_at "db0"
variable(k26:Ck E M8 1 "_law_rank" 1)
include k24 k25 k26 in
theorem bP0(Y:FH E.K "_law_words" (top 38)):Ck E aC2 1 "_law_words" 4:=by
 refine R3 ["purse", "words", "k", "word"] ["purse"] zx Y ?_ ?_ rfl rfl ?_;walk_at "s1";unfold aL3;unfold WB;walk_at "db0"
variable(k27:Ck E aC2 1 "_law_words" 4)
include k27 in
theorem bQ1(Y:FH E.K "_law_names" (top 39)):Ck E aF9 1 "_law_names" 5:=by
 refine R3 ["purse"] ["purse"] zx Y ?_ ?_ rfl rfl ?_;walk_at "s1";unfold aL7;walk_at "db0"
variable(k28:Ck E aF9 1 "_law_names" 5)
include k0 in
theorem bY0(Y:FH E.K "_law_size" (top 34)):Ck E W6 1 "_law_size" 2:=by
 refine R3 ["purse", "number"] ["purse"] zx Y ?_ ?_ rfl rfl ?_;walk_at "s1";unfold aU6;walk_at "db0"
variable(k29:Ck E W6 1 "_law_size" 2)
include k0 k24 k29 in
theorem bC8(Y:FH E.K "_law_stretches" (top 35)):Ck E V5 1 "_law_stretches" 3:=by
 refine R3 ["purse", "found", "at", "k", "low", "ends"] ["purse"] zx Y ?_ ?_ rfl rfl ?_;walk_at "s1";unfold aC1;unfold SB SC2 SC1;walk_at "db0"
variable(k30:Ck E V5 1 "_law_stretches" 3)
theorem bQ9(Y:FH E.K "_law_every" (top 41)):Ck E R5 0 "_law_every" 1:=by
 refine R3 [] [] zx Y ?_ ?_ rfl rfl ?_;walk_at "s1";unfold bC2;walk_at "db0"
variable(k31:Ck E R5 0 "_law_every" 1)
include k23 in
theorem aX3{R:List D->M D}{lv:Nat}(kR:Ck E R 2 "_law_set" lv)(h2:5<=lv)(Y:FH E.K "_law_more" (top 42)):Ck E (W5 R) 3 "_law_more" (lv+1):=by
 refine R3 ["purse", "pick", "deep"] ["purse", "pick", "deep"] zx Y ?_ ?_ rfl rfl ?_;walk_at "s1";unfold aP0;walk_at "db0"
include k0 k23 k24 in
theorem aU8{R:List D->M D}{lv:Nat}(kR:Ck E R 2 "_law_set" lv)(h33:Ck E (W5 R) 3 "_law_more" (lv+1))(h2:5<=lv)(Y:FH E.K "_law_lists" (top 43)):Ck E (aC3 R) 2 "_law_lists" (lv+2):=by
 refine R3 ["purse", "deep", "pick", "more", "fronts"] ["purse", "deep"] zx Y ?_ ?_ rfl rfl ?_;walk_at "s1";unfold aK9;walk_at "db0"
include k0 k23 k28 in
theorem aQ7{R:List D->M D}{lv:Nat}(kR:Ck E R 2 "_law_set" lv)(h33:Ck E (W5 R) 3 "_law_more" (lv+1))(h2:5<=lv)(Y:FH E.K "_law_records" (top 44)):Ck E (V6 R) 2 "_law_records" (lv+2):=by
 refine R3 ["purse", "deep", "pick", "more", "fields", "name", "inner", "must"] ["purse", "deep"] zx Y ?_ ?_ rfl rfl ?_;walk_at "s1";unfold aG2;unfold RB;walk_at "db0"
include k0 k23 k27 k30 k31 in
theorem bQ5{R:List D->M D}{lv:Nat}(kR:Ck E R 2 "_law_set" lv)(h34:Ck E (aC3 R) 2 "_law_lists" (lv+2))(h35:Ck E (V6 R) 2 "_law_records" (lv+2))(h2:5<=lv)(Y:FH E.K "_law_set" (top 45)):Ck E (v9 7 (aM7 R)) 2 "_law_set" (lv+3):=by
 refine R3 ["purse", "deep", "pick", "parts", "at", "share", "other"] ["purse", "deep"] zx Y ?_ ?_ rfl rfl ?_;walk_at "s1";unfold aM7;unfold I5;walk_at "db0"
section
variable(Y:FH E.K "_law_set" (top 45))(Y33:FH E.K "_law_more" (top 42))(Y34:FH E.K "_law_lists" (top 43))(Y35:FH E.K "_law_records" (top 44))
include Y Y33 Y34 Y35 k0 k23 k24 k27 k28 k30 k31
theorem bC4:∀n,Ck E (aE8 n) 2 "_law_set" (5+3*n)
 |0=>bB2 ["purse", "deep"] zx Y (by walk_at "ba") rfl
 |n+1=>by
   have kR:=bC4 n
   have h33:=aX3 zx zb k23 kR (jb _ _) Y33
   have h34:=aU8 zx zb k0 k23 k24 kR h33 (jb _ _) Y34
   have h35:=aQ7 zx zb k0 k23 k28 kR h33 (jb _ _) Y35
   exact bQ5 zx zb k0 k23 k27 k30 k31 kR h34 h35 (jb _ _) Y
end
include k0 k23 k24 k27 k28 k30 k31 in
theorem cJ7(Y:FH E.K "_law_set" (top 45))(Y33:FH E.K "_law_more" (top 42))(Y34:FH E.K "_law_lists" (top 43))(Y35:FH E.K "_law_records" (top 44)):Ck E aI2 2 "_law_set" 185:=bC4 zx zb k0 k23 k24 k27 k28 k30 k31 Y Y33 Y34 Y35 60
variable(k32:Ck E aI2 2 "_law_set" 185)
include k23 k32 in
theorem bW4(Y:FH E.K "_law_more" (top 42)):Ck E bG1 3 "_law_more" 186:=aX3 zx zb k23 k32 (by decide) Y
variable(k33:Ck E bG1 3 "_law_more" 186)
include k0 k23 k24 k32 k33 in
theorem bO9(Y:FH E.K "_law_lists" (top 43)):Ck E bB3 2 "_law_lists" 187:=aU8 zx zb k0 k23 k24 k32 k33 (by decide) Y
variable(k34:Ck E bB3 2 "_law_lists" 187)
include k0 k23 k28 k32 k33 in
theorem bH8(Y:FH E.K "_law_records" (top 44)):Ck E aT5 2 "_law_records" 187:=aQ7 zx zb k0 k23 k28 k32 k33 (by decide) Y
variable(k35:Ck E aT5 2 "_law_records" 187)
theorem bP4(Y:FH E.K "_law_mixed" (top 30)):Ck E aG0 2 "_law_mixed" 1:=by
 refine R3 ["cell", "k", "number"] ["cell", "k"] zx Y ?_ ?_ rfl rfl ?_;walk_at "s1";unfold aS1;walk_at "db0"
variable(k36:Ck E aG0 2 "_law_mixed" 1)
include k36 in
theorem bQ8(Y:FH E.K "_law_purse" (top 31)):Ck E U4 4 "_law_purse" 2:=by
 refine R3 ["script", "at", "step", "many", "cells", "rests", "purse", "k", "place"] ["script", "at", "step", "many"] zx Y ?_ ?_ rfl rfl ?_;walk_at "s1";unfold aR3;unfold PT PR PB;walk_at "db0"
variable(k37:Ck E U4 4 "_law_purse" 2)
theorem bR6(Y:FH E.K "_law_first" (top 59)):Ck E W9 1 "_law_first" 1:=by
 refine R3 ["pair"] ["pair"] zx Y ?_ ?_ rfl rfl ?_;walk_at "s1";unfold bB4;walk_at "db0"
variable(k38:Ck E W9 1 "_law_first" 1)
include k0 in
theorem aR5(Y:FH E.K "_law_narrow_numbers" (top 55)):Ck E Q7 2 "_law_narrow_numbers" 2:=by
 refine R3 ["purse", "part", "found", "low", "high", "pick"] ["purse", "part"] zx Y ?_ ?_ rfl rfl ?_;walk_at "s1";unfold T3;unfold NB N1 N2;walk_at "db0"
variable(k39:Ck E Q7 2 "_law_narrow_numbers" 2)
include k0 k25 k26 in
theorem aV1(Y:FH E.K "_law_narrow_texts" (top 56)):Ck E R9 2 "_law_narrow_texts" 4:=by
 refine R3 ["purse", "part", "word"] ["purse", "part"] zx Y ?_ ?_ rfl rfl ?_;walk_at "s1";unfold V2;walk_at "db0"
variable(k40:Ck E R9 2 "_law_narrow_texts" 4)
include k23 in
theorem aJ3{R:List D->M D}{lv:Nat}(kR:Ck E R 3 "_law_narrow" lv)(h2:4<=lv)(Y:FH E.K "_law_narrow_kept" (top 60)):Ck E (K4 R) 3 "_law_narrow_kept" (lv+1):=by
 refine R3 ["purse", "some", "deep", "found"] ["purse", "some", "deep"] zx Y ?_ ?_ rfl rfl ?_;walk_at "s1";unfold W7;walk_at "db0"
include k0 k23 in
theorem aH9{R:List D->M D}{lv:Nat}(kR:Ck E R 3 "_law_narrow" lv)(h42:Ck E (K4 R) 3 "_law_narrow_kept" (lv+1))(h2:4<=lv)(Y:FH E.K "_law_narrow_lists" (top 57)):Ck E (P0 R) 3 "_law_narrow_lists" (lv+2):=by
 refine R3 ["purse", "part", "deep", "pick", "fronts"] ["purse", "part", "deep"] zx Y ?_ ?_ rfl rfl ?_;walk_at "s1";unfold V1;walk_at "db0"
include k0 k23 k38 in
theorem aF2{R:List D->M D}{lv:Nat}(kR:Ck E R 3 "_law_narrow" lv)(h42:Ck E (K4 R) 3 "_law_narrow_kept" (lv+1))(h2:4<=lv)(Y:FH E.K "_law_narrow_records" (top 58)):Ck E (N8 R) 3 "_law_narrow_records" (lv+2):=by
 refine R3 ["purse", "part", "deep", "pick", "more", "fields", "name", "must", "inner"] ["purse", "part", "deep"] zx Y ?_ ?_ rfl rfl ?_;walk_at "s1";unfold T6;unfold QE QC QB1 QB2 QF;walk_at "db0"
include k0 k31 k39 k40 in
theorem bD6{R:List D->M D}{lv:Nat}(kR:Ck E R 3 "_law_narrow" lv)(h43:Ck E (P0 R) 3 "_law_narrow_lists" (lv+2))(h44:Ck E (N8 R) 3 "_law_narrow_records" (lv+2))(h2:4<=lv)(Y:FH E.K "_law_narrow" (top 61)):Ck E (v9 6 (Z5 R)) 3 "_law_narrow" (lv+3):=by
 refine R3 ["purse", "some", "deep", "pick", "parts", "at"] ["purse", "some", "deep"] zx Y ?_ ?_ rfl rfl ?_;walk_at "s1";unfold Z5;unfold J5;walk_at "db0"
section
variable(Y:FH E.K "_law_narrow" (top 61))(Y42:FH E.K "_law_narrow_kept" (top 60))(Y43:FH E.K "_law_narrow_lists" (top 57))(Y44:FH E.K "_law_narrow_records" (top 58))
include Y Y42 Y43 Y44 k0 k23 k31 k38 k39 k40
theorem aS8:∀n,Ck E (O3 n) 3 "_law_narrow" (4+3*n)
 |0=>bB2 ["purse", "some", "deep"] zx Y (by walk_at "ba") rfl
 |n+1=>by
   have kR:=aS8 n
   have h42:=aJ3 zx zb k23 kR (jb _ _) Y42
   have h43:=aH9 zx zb k0 k23 kR h42 (jb _ _) Y43
   have h44:=aF2 zx zb k0 k23 k38 kR h42 (jb _ _) Y44
   exact bD6 zx zb k0 k31 k39 k40 kR h43 h44 (jb _ _) Y
end
include k0 k23 k31 k38 k39 k40 in
theorem bN9(Y:FH E.K "_law_narrow" (top 61))(Y42:FH E.K "_law_narrow_kept" (top 60))(Y43:FH E.K "_law_narrow_lists" (top 57))(Y44:FH E.K "_law_narrow_records" (top 58)):Ck E Z4 3 "_law_narrow" 184:=aS8 zx zb k0 k23 k31 k38 k39 k40 Y Y42 Y43 Y44 60
variable(k41:Ck E Z4 3 "_law_narrow" 184)
include k23 k41 in
theorem aW8(Y:FH E.K "_law_narrow_kept" (top 60)):Ck E aM8 3 "_law_narrow_kept" 185:=aJ3 zx zb k23 k41 (by decide) Y
variable(k42:Ck E aM8 3 "_law_narrow_kept" 185)
include k0 k23 k41 k42 in
theorem aV2(Y:FH E.K "_law_narrow_lists" (top 57)):Ck E aK6 3 "_law_narrow_lists" 186:=aH9 zx zb k0 k23 k41 k42 (by decide) Y
variable(k43:Ck E aK6 3 "_law_narrow_lists" 186)
include k0 k23 k38 k41 k42 in
theorem aR9(Y:FH E.K "_law_narrow_records" (top 58)):Ck E aH8 3 "_law_narrow_records" 186:=aF2 zx zb k0 k23 k38 k41 k42 (by decide) Y
variable(k44:Ck E aH8 3 "_law_narrow_records" 186)
theorem bH9(Y:FH E.K "_law_is_word" (top 47)):Ck E V4 2 "_law_is_word" 1:=by
 refine R3 ["found", "least"] ["found", "least"] zx Y ?_ ?_ rfl rfl ?_;walk_at "s1";unfold aH3;walk_at "db0"
variable(k45:Ck E V4 2 "_law_is_word" 1)
theorem bQ3(Y:FH E.K "_law_whole" (top 46)):Ck E aK8 1 "_law_whole" 1:=by
 refine R3 ["found"] ["found"] zx Y ?_ ?_ rfl rfl ?_;walk_at "s1";unfold bB0;walk_at "db0"
variable(k46:Ck E aK8 1 "_law_whole" 1)
include k46 in
theorem aY6(Y:FH E.K "_law_is_numbers" (top 48)):Ck E aA0 1 "_law_is_numbers" 2:=by
 refine R3 ["part", "k", "low", "high"] ["part"] zx Y ?_ ?_ rfl rfl ?_;walk_at "s1";unfold aA7;unfold NB9 N19 NX N29 N3 N4 N5;walk_at "db0"
variable(k47:Ck E aA0 1 "_law_is_numbers" 2)
include k26 k45 in
theorem bD2(Y:FH E.K "_law_is_texts" (top 49)):Ck E aD6 1 "_law_is_texts" 2:=by
 refine R3 ["part", "word", "k"] ["part"] zx Y ?_ ?_ rfl rfl ?_;walk_at "s1";unfold aE2;unfold T1 TW T2 TK;walk_at "db0"
variable(k48:Ck E aD6 1 "_law_is_texts" 2)
theorem bC1(Y:FH E.K "_law_is_truths" (top 50)):Ck E aC5 1 "_law_is_truths" 1:=by
 refine R3 ["part"] ["part"] zx Y ?_ ?_ rfl rfl ?_;walk_at "s1";unfold aC6;walk_at "db0"
variable(k49:Ck E aC5 1 "_law_is_truths" 1)
include k23 in
theorem aO3{R:List D->M D}{lv:Nat}(kR:Ck E R 1 "_law_is_set" lv)(h2:2<=lv)(Y:FH E.K "_law_is_lists" (top 51)):Ck E (Z2 R) 1 "_law_is_lists" (lv+1):=by
 refine R3 ["part", "front"] ["part"] zx Y ?_ ?_ rfl rfl ?_;walk_at "s1";unfold aD7;unfold LB;walk_at "db0"
include k23 k45 in
theorem aO4{R:List D->M D}{lv:Nat}(kR:Ck E R 1 "_law_is_set" lv)(h2:2<=lv)(Y:FH E.K "_law_is_field" (top 52)):Ck E (X8 R) 2 "_law_is_field" (lv+1):=by
 refine R3 ["field", "more"] ["field", "more"] zx Y ?_ ?_ rfl rfl ?_;walk_at "s1";unfold aD5;walk_at "db0"
theorem aK5{R:List D->M D}{lv:Nat}(kR:Ck E R 1 "_law_is_set" lv)(h52:Ck E (X8 R) 2 "_law_is_field" (lv+1))(h2:2<=lv)(Y:FH E.K "_law_is_records" (top 53)):Ck E (U6 R) 1 "_law_is_records" (lv+2):=by
 refine R3 ["part", "field", "k"] ["part"] zx Y ?_ ?_ rfl rfl ?_;walk_at "s1";unfold aA5;unfold FB2 FB1;walk_at "db0"
include k31 k47 k48 k49 in
theorem bE9{R:List D->M D}{lv:Nat}(kR:Ck E R 1 "_law_is_set" lv)(h51:Ck E (Z2 R) 1 "_law_is_lists" (lv+1))(h53:Ck E (U6 R) 1 "_law_is_records" (lv+2))(h2:2<=lv)(Y:FH E.K "_law_is_set" (top 54)):Ck E (v9 1 (aD3 R)) 1 "_law_is_set" (lv+3):=by
 refine R3 ["found"] ["found"] zx Y ?_ ?_ rfl rfl ?_;walk_at "s1";unfold aD3;walk_at "db0"
section
variable(Y:FH E.K "_law_is_set" (top 54))(Y51:FH E.K "_law_is_lists" (top 51))(Y52:FH E.K "_law_is_field" (top 52))(Y53:FH E.K "_law_is_records" (top 53))
include Y Y51 Y52 Y53 k23 k31 k45 k47 k48 k49
theorem aS5:∀n,Ck E (Z3 n) 1 "_law_is_set" (2+3*n)
 |0=>bB2 ["found"] zx Y (by walk_at "ba") rfl
 |n+1=>by
   have kR:=aS5 n
   have h51:=aO3 zx zb k23 kR (jb _ _) Y51
   have h52:=aO4 zx zb k23 k45 kR (jb _ _) Y52
   have h53:=aK5 zx zb kR h52 (jb _ _) Y53
   exact bE9 zx zb k31 k47 k48 k49 kR h51 h53 (jb _ _) Y
end
include k23 k31 k45 k47 k48 k49 in
theorem bM0(Y:FH E.K "_law_is_set" (top 54))(Y51:FH E.K "_law_is_lists" (top 51))(Y52:FH E.K "_law_is_field" (top 52))(Y53:FH E.K "_law_is_records" (top 53)):Ck E U8 1 "_law_is_set" 182:=aS5 zx zb k23 k31 k45 k47 k48 k49 Y Y51 Y52 Y53 60
variable(k50:Ck E U8 1 "_law_is_set" 182)
include k23 k50 in
theorem bF0(Y:FH E.K "_law_is_lists" (top 51)):Ck E aT0 1 "_law_is_lists" 183:=aO3 zx zb k23 k50 (by decide) Y
variable(k51:Ck E aT0 1 "_law_is_lists" 183)
include k23 k45 k50 in
theorem bD1(Y:FH E.K "_law_is_field" (top 52)):Ck E aS7 2 "_law_is_field" 183:=aO4 zx zb k23 k45 k50 (by decide) Y
variable(k52:Ck E aS7 2 "_law_is_field" 183)
include k50 k52 in
theorem aZ3(Y:FH E.K "_law_is_records" (top 53)):Ck E aO6 1 "_law_is_records" 184:=aK5 zx zb k50 k52 (by decide) Y
variable(k53:Ck E aO6 1 "_law_is_records" 184)
end
set_option maxHeartbeats 4000000 in
theorem all_mk{l:PySem.W.OpenLaw}{w:jg}{K:zi}{h:Heap}{mg:Str->Option zg}{fa:Addr}(X:K.In h)(G:h.Ns jv mg)(hfa:mg "law" =some (.ref fa))(Z0:FHs K top ["_law_next", "lists_in_form", "records_in_form", "made", "nearer_low", "nearer_high", "ends_first", "is_empty", "meet_numbers", "marked", "text_order", "rising_texts", "in_either", "in_both", "without", "meet_texts", "front_at", "fields_by_name", "field_of", "fields_beside", "meet", "meet_lists", "meet_records", "_law_none", "_law_few"] [32,22,23,21,5,6,7,3,4,9,1,10,13,11,12,8,18,19,20,28,25,26,27,40,33])(Z25:FHs K top ["_law_word", "_law_rank", "_law_words", "_law_names", "_law_size", "_law_stretches", "_law_every", "_law_set", "_law_more", "_law_lists", "_law_records", "_law_mixed", "_law_purse", "_law_first", "_law_narrow_numbers", "_law_narrow_texts", "_law_narrow", "_law_narrow_kept", "_law_narrow_lists", "_law_narrow_records", "_law_is_word", "_law_whole", "_law_is_numbers", "_law_is_texts", "_law_is_truths"] [36,37,38,39,34,35,41,45,42,43,44,30,31,59,55,56,61,60,57,58,47,46,48,49,50])(Z50:FHs K top ["_law_is_set", "_law_is_lists", "_law_is_field", "_law_is_records", "law"] [54,51,52,53,62])
 (g_NOTHING:CC K mg "NOTHING" bU1)
 (g_ALL_PARTS:CC K mg "ALL_PARTS" bG5)
 (g_ANY:CC K mg "ANY" eI2)
 (z:∀b∈bltL,Zg K jv b=some none) (pure:∀ns:List Int,ns.length<=63->∃G',dJ8 [.ref 0] [.rol (ns.map D.int)]=some (.ok (.bl true),G')):
 ∃fd:yM,(∀(s:zm) (v:zg),Yy s fd ⟨[v], []⟩ [("script",v)])/\∀base:Heap,K.In base->base.Ns jv mg->aN4 l.prog w K mg base CX0 186 fa fd ["script"] (cX9 K):=by
 obtain⟨Y0,Y1,Y2,Y3,Y4,Y5,Y6,Y7,Y8,Y9,Y10,Y11,Y12,Y13,Y14,Y15,Y16,Y17,Y18,Y19,Y20,Y21,Y22,Y23,Y24,_⟩:=Z0
 obtain⟨Y25,Y26,Y27,Y28,Y29,Y30,Y31,Y32,Y33,Y34,Y35,Y36,Y37,Y38,Y39,Y40,Y41,Y42,Y43,Y44,Y45,Y46,Y47,Y48,Y49,_⟩:=Z25
 obtain⟨Y50,Y51,Y52,Y53,Y54,_⟩:=Z50
 have zb:BC K mg:=⟨BLs.of X G z,g_NOTHING.ok X G,g_ALL_PARTS.ok X G,g_ANY.ok X G⟩
 refine fH3 (N:= ["script", "some", "pick", "k", "found", "one"]) X G hfa Y54 (by walk_at "ba") (by walk_at "sc") rfl (λ_ _ _ _ _ _ s v=>.of_eq rfl) (λbase=>?_) pure
 have zx:EvX ⟨l.prog,w,K,mg,base⟩:=⟨h,X,G⟩
 have k0:=cA4 zx zb Y0
 have k1:=bE4 zx zb Y1
 have k2:=aX7 zx zb Y2
 have k3:=dY5 zx zb k1 k2 Y3
 have k4:=bQ4 zx zb Y4
 have k5:=bJ5 zx zb Y5
 have k6:=bQ0 zx zb Y6
 have k7:=cD6 zx zb Y7
 have k8:=bI0 zx zb k4 k5 k6 k7 Y8
 have k9:=cY9 zx zb Y9
 have k10:=bP1 zx zb Y10
 have k11:=bH3 zx zb k9 k10 Y11
 have k12:=bY5 zx zb k11 Y12
 have k13:=cM3 zx zb k9 Y13
 have k14:=cO3 zx zb k9 Y14
 have k15:=bP2 zx zb k12 k13 k14 Y15
 have k16:=cH0 zx zb Y16
 have k17:=bB8 zx zb Y17
 have k18:=cE6 zx zb Y18
 have k19:=bE8 zx zb k17 k18 Y19
 have k20:=dY0 zx zb k3 k8 k15 k16 k19 Y20 Y21 Y22
 have k21:=bR2 zx zb k16 k20 Y21
 have k22:=bH5 zx zb k19 k20 Y22
 have k23:=bW5 zx zb Y23
 have k24:=cK8 zx zb k0 Y24
 have k25:=bZ6 zx zb k0 Y25
 have k26:=cA0 zx zb Y26
 have k27:=bP0 zx zb k24 k25 k26 Y27
 have k28:=bQ1 zx zb k27 Y28
 have k29:=bY0 zx zb k0 Y29
 have k30:=bC8 zx zb k0 k24 k29 Y30
 have k31:=bQ9 zx zb Y31
 have k32:=cJ7 zx zb k0 k23 k24 k27 k28 k30 k31 Y32 Y33 Y34 Y35
 have k33:=bW4 zx zb k23 k32 Y33
 have k34:=bO9 zx zb k0 k23 k24 k32 k33 Y34
 have k35:=bH8 zx zb k0 k23 k28 k32 k33 Y35
 have k36:=bP4 zx zb Y36
 have k37:=bQ8 zx zb k36 Y37
 have k38:=bR6 zx zb Y38
 have k39:=aR5 zx zb k0 Y39
 have k40:=aV1 zx zb k0 k25 k26 Y40
 have k41:=bN9 zx zb k0 k23 k31 k38 k39 k40 Y41 Y42 Y43 Y44
 have k42:=aW8 zx zb k23 k41 Y42
 have k43:=aV2 zx zb k0 k23 k41 k42 Y43
 have k44:=aR9 zx zb k0 k23 k38 k41 k42 Y44
 have k45:=bH9 zx zb Y45
 have k46:=bQ3 zx zb Y46
 have k47:=aY6 zx zb k46 Y47
 have k48:=bD2 zx zb k26 k45 Y48
 have k49:=bC1 zx zb Y49
 have k50:=bM0 zx zb k23 k31 k45 k47 k48 k49 Y50 Y51 Y52 Y53
 have k51:=bF0 zx zb k23 k50 Y51
 have k52:=bD1 zx zb k23 k45 k50 Y52
 have k53:=aZ3 zx zb k50 k52 Y53
 intro _ _ _ _ _ _ _ _
 obtain⟨_,_,_,_⟩:=zb;unfold cV4;unfold OB NRB M3 M3' M22 L4 M1;walk_at "db0"
mutual
noncomputable def szD:D->Nat
 | .tup l=>1+szL l
 | .str _=>1
 | .ref _=>1
 | .fn _=>1
 | .ty _=>1
 | .non=>1
 | .bl _=>1
 | .int _=>1
noncomputable def szL:List D->Nat
 |[]=>0
 |d::r=>szD d+szL r
end
noncomputable def Ap(G G':DH):Prop:=∃t,G'=G++t
theorem Ap.refl:Ap G G:=⟨[],by simp⟩
theorem Ap.trans(h:Ap G G1)(k:Ap G1 G2):Ap G G2:=by
 obtain⟨t,rfl⟩:=h
 obtain⟨u,rfl⟩:=k
 exact⟨t++u,by simp⟩
theorem Ap.one:Ap G (G++[o]):=⟨_,rfl⟩
theorem Ap.at{p:Nat}(h:Ap G G')(e:G[p]? =some o):G'[p]? =some o:=by
 obtain⟨t,rfl⟩:=h
 exact aN1 e
theorem Ap.gr(h:Ap G G'):Gr G G':=by
 obtain⟨t,rfl⟩:=h
 exact Gr.app
section
end
theorem cW1(e:G[p]? =some (.lst xs))(eq:G[q]? =some (.lst [])):Wp (eqD (.ref p) (.ref q)) G Q↔Q (.bl xs.isEmpty) G:=by
 have h:eqN 40 G (.ref p) (.ref q)=some xs.isEmpty:=by
  have h1:aG8 G (.ref p)=some (false,xs):=by simp only[aG8,e]
  have h2:aG8 G (.ref q)=some (false, []):=by simp only[aG8,eq]
  rw[cB6,h1,h2]
  cases xs<;>rfl
 rw[cB7,h];exact T8
theorem big:1000000<zl:=by decide
section
theorem bT6:Wp (W8 (n+1) t b σ) G P↔Wp (t σ) G λk G1=>if k=true then Wp (b σ) G1 λfl G2=>match fl with
 | .nx X2=>Wp (W8 n t b X2) G2 P
 | .ct X2=>Wp (W8 n t b X2) G2 P
 | .bk X2=>P (.nx X2) G2
 | .rt d=>P (.rt d) G2
 else P (.nx σ) G1:=by
 rw[W8]
 simp only[j6,aQ9,wp_pure]
 constructor
 · rintro⟨k,G1,e,q⟩
   refine⟨k,G1,e,?_⟩
   rcases k with _|_
   ·exact q
   ·
     simp only[if_true]at q ⊢
     obtain⟨fl,G2,e2,q⟩:=q
     refine⟨fl,G2,e2,?_⟩
     cases fl<;>first
      |exact q
      |exact wp_pure.mp q
 · rintro⟨k,G1,e,q⟩
   refine⟨k,G1,e,?_⟩
   rcases k with _|_
   ·exact q
   ·
     simp only[if_true]at q ⊢
     obtain⟨fl,G2,e2,q⟩:=q
     refine⟨fl,G2,e2,?_⟩
     cases fl<;>first
      |exact q
      |exact wp_pure.mpr q
theorem dH4(h:Wp (W8 n t b σ) G P):Wp (bD9 t b σ) G P:=by
 obtain⟨a,G',e,q⟩:=h
 refine⟨a,G',?_,q⟩
 have hx:∃n,(W8 n t b σ G).isSome=true:=⟨n,by rw[e];rfl⟩
 unfold bD9
 rw[dif_pos hx]
 have hs:=Classical.choose_spec hx
 obtain⟨r,hr⟩:=XU.mp hs
 rw[hr]
 have e1:=bV9 (Nat.le_max_left n (YJ hx)) e
 have e2:=bV9 (Nat.le_max_right n (YJ hx)) hr
 rw[e1]at e2
 exact e2.symm
end
theorem eC9(h:G[r]? =some (.lst (l++[y]))):Wp (eC6 (.ref r) []) G Q↔Q y (G.set r (.lst l)):=by
 have e:eC6 (.ref r) []= (do
  let l <-lstM r
  match l.getLast? with
  |some y=>do
    let _ <-bQ7 r (.lst l.dropLast)
    pure y
  |none=>M.stuck):=rfl
 rw[e]
 unfold lstM
 simp only[j6,S8,h,T8,wp_pure,List.getLast?_append,List.getLast?_singleton,Option.some_or,List.dropLast_concat,cP2]
theorem Gr.set(h:Gr G0 G)(hp:G0.length<=p):Gr G0 (G.set p o):=⟨by rw[xJ];exact h.1,λi hi=>by rw[zS (by lia)];exact h.2 i hi⟩
theorem lt_of_get{G:DH}(e:G[p]? =some o):p<G.length:=by
 by_cases hi:p<G.length
 ·exact hi
 ·rw[zN (by lia)]at e;exact J6 e
section
variable{bd n:Nat}
end
section
variable{G:DH}{Q:DPP}
theorem eX9:Wp (bP3 [.bl k]) G Q↔Q (.int (if k then 1 else 0)) G:=wp_pure
theorem eE6:Wp (dB2 [.int i]) G Q↔Q (.int (if i<0 then -i else i)) G:=wp_pure
end
section
variable{α β:Type}{R S:α->β->Prop}
end
noncomputable abbrev Rg:=Option Int×Option Int
noncomputable def inR(p:Rg)(x:Int):Prop:=(∀a,p.1=some a->a<=x)/\∀b,p.2=some b->x<=b
def inS(l:List Rg)(x:Int):Prop:=∃p∈l,inR p x
noncomputable def okR(p:Rg):Prop:=∀a b,p.1=some a->p.2=some b->a<=b
noncomputable def cB9(p q:Rg):Prop:=∃a b,p.2=some a/\q.1=some b/\a+1<b
def Can(l:List Rg):Prop:=(∀p∈l,okR p)/\l.Pairwise cB9
theorem O8:inS (p::l) x↔inR p x\/inS l x:=by
 unfold inS
 constructor
 · rintro⟨q,hq,h⟩
   rcases zu.mp hq with rfl|hq
   ·exact .inl h
   ·exact .inr ⟨q,hq,h⟩
 · rintro(h|⟨q,hq,h⟩)
   ·exact⟨p,zq ..,h⟩
   ·exact⟨q,zk _ hq,h⟩
theorem aO9:¬inS [] x:=fun⟨_,h,_⟩=>nomatch h
theorem Can.tail(h:Can (p::l)):Can l:=⟨λq hq=>h.1 q (zk _ hq),(zU.mp h.2).2⟩
theorem Can.head(h:Can (p::l)):okR p:=h.1 p (zq ..)
theorem Can.beyond(h:Can (p::l))(hx:inS l x):∃a,p.2=some a/\a+1<x:=by
 obtain⟨q,hq,h1,h2⟩:=hx
 obtain⟨a,b,e1,e2,k⟩:=(zU.mp h.2).1 q hq
 exact⟨a,e1,by have:=h1 b e2;lia⟩
theorem Can.low(h:Can (p::l))(e:p.1=some a)(hx:inS (p::l) x):a<=x:=by
 rcases O8.mp hx with k|k
 ·exact k.1 a e
 · obtain⟨b,e2,k⟩:=h.beyond k
   have:=h.head a b e e2
   lia
theorem Can.deep(e:p.1=none)(a:Int):∃x,x<a/\inS (p::l) x:=by
 rcases e2:p.2 with _|b
 ·exact⟨a-1,by lia,O8.mpr (.inl ⟨λc hc=>(by rw[e]at hc;cases hc),λc hc=>(by rw[e2]at hc;cases hc)⟩)⟩
 ·exact⟨min (a-1) b,by lia,O8.mpr (.inl ⟨λc hc=>(by rw[e]at hc;cases hc),λc hc=>(by rw[e2]at hc;cases hc;lia)⟩)⟩
theorem okR.some(h:okR p):∃x,inR p x:=by
 obtain⟨a,b⟩:=p
 rcases a with _|a<;>rcases b with _|b
 ·exact⟨0,λc hc=>(nomatch hc),λc hc=>(nomatch hc)⟩
 ·exact⟨b,λc hc=>(nomatch hc),λc hc=>by cases hc;exact yH _⟩
 ·exact⟨a,λc hc=>(by cases hc;exact yH _),λc hc=>nomatch hc⟩
 ·exact⟨a,λc hc=>(by cases hc;exact yH _),λc hc=>by cases hc;exact h a b rfl rfl⟩
theorem dK9(hp:Can (p::l))(hq:Can (q::m))(h:∀x,inS (p::l) x↔inS (q::m) x):p.1=q.1:=by
 have one:∀ {p q:Rg} {l m:List Rg} {a:Int},Can (p::l)->Can (q::m)->(∀x,inS (p::l) x↔inS (q::m) x)->p.1=some a->∃b,q.1=some b/\b<=a:=by
  intro p q l m a hp hq h e
  have ha:inS (p::l) a:=O8.mpr (.inl ⟨λc hc=>(by rw[e]at hc;cases hc;exact yH _),λb hb=>hp.head a b e hb⟩)
  rcases e2:q.1 with _|b
  · obtain⟨x,hx,k⟩:=Can.deep e2 a
    have:=hp.low e ((h x).mpr k)
    lia
  ·exact⟨b,rfl,hq.low e2 ((h a).mp ha)⟩
 rcases e1:p.1 with _|a
 · rcases e2:q.1 with _|b
   ·rfl
   · obtain⟨a,e3,_⟩:=one hq hp (λx=>(h x).symm) e2
     rw[e1]at e3;cases e3
 · obtain⟨b,e2,k1⟩:=one hp hq h e1
   obtain⟨a',e3,k2⟩:=one hq hp (λx=>(h x).symm) e2
   rw[e1]at e3;cases e3
   rw[e2,Int.le_antisymm k1 k2]
theorem dY8(hp:Can (p::l))(hq:Can (q::m))(h:∀x,inS (p::l) x↔inS (q::m) x):p.2=q.2:=by
 have lo:=dK9 hp hq h
 have one:∀ {p q:Rg} {l m:List Rg} {a:Int},Can (p::l)->Can (q::m)->(∀x,inS (p::l) x↔inS (q::m) x)->p.1=q.1->p.2=some a->∃b,q.2=some b/\b<=a:=by
  intro p q l m a hp hq h lo e
  have hn:¬inS (q::m) (a+1):=λk=>by
   rcases O8.mp ((h (a+1)).mpr k)with k|k
   ·have:=k.2 a e;lia
   · obtain⟨b,e2,k⟩:=hp.beyond k
     rw[e]at e2;cases e2;lia
  have hlo:∀c,q.1=some c->c<=a:=λc hc=>hp.head c a (lo.trans hc) e
  rcases e2:q.2 with _|b
  ·exact absurd (O8.mpr (.inl ⟨λc hc=>(by have:=hlo c hc;lia),λc hc=>by rw[e2]at hc;cases hc⟩)) hn
  · refine⟨b,rfl,?_⟩
    rcases Int.lt_or_le a b with k|k
    ·exact absurd (O8.mpr (.inl ⟨λc hc=>(by have:=hlo c hc;lia),λc hc=>by rw[e2]at hc;cases hc;lia⟩)) hn
    ·exact k
 rcases e1:p.2 with _|a
 · rcases e2:q.2 with _|b
   ·rfl
   · obtain⟨a,e3,_⟩:=one hq hp (λx=>(h x).symm) lo.symm e2
     rw[e1]at e3;cases e3
 · obtain⟨b,e2,k1⟩:=one hp hq h lo e1
   obtain⟨a',e3,k2⟩:=one hq hp (λx=>(h x).symm) lo.symm e2
   rw[e1]at e3;cases e3
   rw[e2,Int.le_antisymm k1 k2]
theorem cR3:∀ {l m},Can l->Can m->(∀x,inS l x↔inS m x)->l=m
 |[], [],_,_,_=>rfl
 |[],q::m,_,hm,h=>by
   obtain⟨x,hx⟩:=hm.head.some
   exact absurd ((h x).mpr (O8.mpr (.inl hx))) aO9
 |p::l, [],hl,_,h=>by
   obtain⟨x,hx⟩:=hl.head.some
   exact absurd ((h x).mp (O8.mpr (.inl hx))) aO9
 |p::l,q::m,hl,hm,h=>by
   have e:p=q:=XT (dK9 hl hm h) (dY8 hl hm h)
   subst e
   rw[cR3 hl.tail hm.tail λx=>?_]
   have out:∀ {l:List Rg},Can (p::l)->inS l x->¬inR p x:=λhl k r=>by
    obtain⟨a,e,k⟩:=hl.beyond k
    have:=r.2 a e
    lia
   constructor
   · intro k
     rcases O8.mp ((h x).mp (O8.mpr (.inr k)))with r|r
     ·exact absurd r (out hl k)
     ·exact r
   · intro k
     rcases O8.mp ((h x).mpr (O8.mpr (.inr k)))with r|r
     ·exact absurd r (out hm k)
     ·exact r
noncomputable def loR:Option Int->Option Int->Option Int
 |none,b=>b
 |some a,none=>some a
 |some a,some b=>some (max a b)
noncomputable def hiR:Option Int->Option Int->Option Int
 |none,b=>b
 |some a,none=>some a
 |some a,some b=>some (min a b)
noncomputable def efR(p q:Rg):Prop:=∃a,p.2=some a/\∀b,q.2=some b->a<b
theorem eI1:(∀c,loR a b=some c->c<=x)↔(∀c,a=some c->c<=x)/\∀c,b=some c->c<=x:=by
 rcases a with _|a
 ·exact⟨λh=>⟨λ_ e=>J6 e,h⟩,λh=>h.2⟩
 · rcases b with _|b
   ·exact⟨λh=>⟨h,λ_ e=>J6 e⟩,λh=>h.1⟩
   ·exact⟨λh=>(have:=h _ rfl;⟨λ_ e=>zQ e▸Yb (Int.le_max_left ..) this,λ_ e=>zQ e▸Yb (Int.le_max_right ..) this⟩),λh _ e=>zQ e▸Int.max_le.mpr ⟨h.1 _ rfl,h.2 _ rfl⟩⟩
theorem eI6:(∀c,hiR a b=some c->x<=c)↔(∀c,a=some c->x<=c)/\∀c,b=some c->x<=c:=by
 rcases a with _|a
 ·exact⟨λh=>⟨λ_ e=>J6 e,h⟩,λh=>h.2⟩
 · rcases b with _|b
   ·exact⟨λh=>⟨h,λ_ e=>J6 e⟩,λh=>h.1⟩
   ·exact⟨λh=>(have:=h _ rfl;⟨λ_ e=>zQ e▸Yb this (Int.min_le_left ..),λ_ e=>zQ e▸Yb this (Int.min_le_right ..)⟩),λh _ e=>zQ e▸Int.le_min.mpr ⟨h.1 _ rfl,h.2 _ rfl⟩⟩
theorem cD0:inR (loR p.1 q.1,hiR p.2 q.2) x↔inR p x/\inR q x:=
 ⟨λh=>(have a:=eI1.mp h.1;have b:=eI6.mp h.2;⟨⟨a.1,b.1⟩,a.2,b.2⟩),λh=>⟨eI1.mpr ⟨h.1.1,h.2.1⟩,eI6.mpr ⟨h.1.2,h.2.2⟩⟩⟩
structure Mv(one other acc l m:List Rg):Prop where
 can:Can acc
 cl:Can l
 cm:Can m
 same:∀x,(inS one x/\inS other x)↔inS acc x\/(inS l x/\inS m x)
 room:∀r∈acc,∀p∈l,∀q∈m,cB9 r (loR p.1 q.1,none)
 small:acc.length+l.length+m.length<=one.length+other.length
theorem Mv.start(h1:Can one)(h2:Can other):Mv one other [] one other:=
 ⟨⟨λ_ h=>(nomatch h),.nil⟩,h1,h2,λx=>⟨.inr,λh=>h.elim (λk=>absurd k aO9) id⟩,λ_ h=>(nomatch h),by simp⟩
theorem Mv.done(h:Mv one other acc l m)(e:l= []\/m= [])(x:Int):inS acc x↔inS one x/\inS other x:=by
 rw[h.same x]
 rcases e with rfl|rfl
 ·exact⟨.inl,λk=>k.elim id λk=>absurd k.1 aO9⟩
 ·exact⟨.inl,λk=>k.elim id λk=>absurd k.2 aO9⟩
theorem dY6:inS (l++m) x↔inS l x\/inS m x:=by
 unfold inS
 constructor
 · rintro⟨p,hp,h⟩
   exact(jc.mp hp).elim (λk=>.inl ⟨p,k,h⟩) λk=>.inr ⟨p,k,h⟩
 · rintro(⟨p,hp,h⟩|⟨p,hp,h⟩)
   ·exact⟨p,yF _ hp,h⟩
   ·exact⟨p,zF _ hp,h⟩
theorem Can.snoc(h:Can l)(ok:okR r)(c:∀p∈l,cB9 p r):Can (l++[r]):=
 ⟨λp hp=>(jc.mp hp).elim (h.1 p) λk=>by rw[zr.mp k];exact ok,
  Yq.mpr ⟨h.2,ZE ..,λp hp q hq=>by rw[zr.mp hq];exact c p hp⟩⟩
theorem eP3(h:inR r x):okR r:=λa b e1 e2=>Yb (h.1 a e1) (h.2 b e2)
theorem fQ4(e:a=some c):∃d,loR a b=some d/\c<=d:=by
 subst e;rcases b with _|b
 ·exact⟨c,rfl,yH _⟩
 ·exact⟨max c b,rfl,by lia⟩
theorem fR1(e:b=some c):∃d,loR a b=some d/\c<=d:=by
 subst e;rcases a with _|b
 ·exact⟨c,rfl,yH _⟩
 ·exact⟨max b c,rfl,by lia⟩
theorem eJ1{p q:Rg}(e:p.2=some a)(h:∀b,q.2=some b->a<=b):hiR p.2 q.2=some a:=by
 rw[e];rcases k:q.2 with _|b
 ·rfl
 · have:=h b k
   show some (min a b)=some a
   congr 1;lia
theorem dW3:hiR a b=hiR b a:=by
 rcases a with _|a<;>rcases b with _|b<;>simp[hiR,Int.min_comm]
theorem dF7(cm:Can (q::m))(e:p.2=some a)(h:∀b,q.2=some b->a<=b):
 (inS (p::l) x/\inS (q::m) x)↔(inR p x/\inR q x)\/(inS l x/\inS (q::m) x):=by
 rw[O8]
 constructor
 · rintro⟨k1|k1,k2⟩
   · rcases O8.mp k2 with k|k
     ·exact .inl ⟨k1,k⟩
     · obtain⟨b,e2,k⟩:=cm.beyond k
       have:=h b e2;have:=k1.2 a e;lia
   ·exact .inr ⟨k1,k2⟩
 · rintro(⟨k1,k2⟩|⟨k1,k2⟩)
   ·exact⟨.inl k1,O8.mpr (.inl k2)⟩
   ·exact⟨.inr k1,k2⟩
theorem Mv.put(h:Mv one other acc (p::l) (q::m))
 (ha:acc'=acc/\¬okR (loR p.1 q.1,hiR p.2 q.2)\/acc'=acc++[(loR p.1 q.1,hiR p.2 q.2)]/\okR (loR p.1 q.1,hiR p.2 q.2)):
 Can acc'/\(∀x,inS acc' x↔inS acc x\/(inR p x/\inR q x))/\(∀r∈acc',r∈acc\/r= (loR p.1 q.1,hiR p.2 q.2))/\acc'.length<=acc.length+1:=by
 rcases ha with⟨rfl,k⟩|⟨rfl,k⟩
 ·exact⟨h.can,λx=>⟨.inl,λz=>z.elim id λz=>absurd (eP3 (cD0.mpr z)) k⟩,λr hr=>.inl hr,by lia⟩
 · refine⟨h.can.snoc k λr hr=>?_,λx=>?_,λr hr=>(jc.mp hr).imp id zr.mp,by simp⟩
   · obtain⟨a,b,e1,e2,k⟩:=h.room r hr p (zq ..) q (zq ..)
     exact⟨a,b,e1,e2,k⟩
   · rw[dY6,O8,cD0]
     exact or_congr Iff.rfl ⟨λz=>z.elim id λz=>absurd z aO9,.inl⟩
theorem Mv.left(h:Mv one other acc (p::l) (q::m))(e:efR p q)
 (ha:acc'=acc/\¬okR (loR p.1 q.1,hiR p.2 q.2)\/acc'=acc++[(loR p.1 q.1,hiR p.2 q.2)]/\okR (loR p.1 q.1,hiR p.2 q.2)):Mv one other acc' l (q::m):=by
 obtain⟨c,s,i,n⟩:=h.put ha
 obtain⟨a,e,he⟩:=e
 have he:=λb k=>Int.le_of_lt (he b k)
 refine⟨c,h.cl.tail,h.cm,λx=>?_,λr hr p' hp q' hq=>?_,?_⟩
 ·rw[h.same x,dF7 h.cm e he,s x,or_assoc]
 · rcases i r hr with k|rfl
   ·exact h.room r k p' (zk _ hp) q' hq
   · obtain⟨a',b,e1,e2,k⟩:=(zU.mp h.cl.2).1 p' hp
     rw[e]at e1;cases e1
     obtain⟨d,e3,k2⟩:=fQ4 e2
     exact⟨a,d,eJ1 e he,e3,by lia⟩
 · have:=h.small
   simp only[zD]at this ⊢
   lia
theorem Mv.right(h:Mv one other acc (p::l) (q::m))(e:¬efR p q)
 (ha:acc'=acc/\¬okR (loR p.1 q.1,hiR p.2 q.2)\/acc'=acc++[(loR p.1 q.1,hiR p.2 q.2)]/\okR (loR p.1 q.1,hiR p.2 q.2)):Mv one other acc' (p::l) m:=by
 obtain⟨c,s,i,n⟩:=h.put ha
 have small:acc'.length+(p::l).length+m.length<=one.length+other.length:=by
  have:=h.small
  simp only[zD]at this ⊢
  lia
 rcases e2:q.2 with _|b
 · have hm:m= []:=by
    rcases m with _|⟨q',m⟩
    ·rfl
    · obtain⟨a,b,e1,_⟩:=(zU.mp h.cm.2).1 q' (zq ..)
      rw[e2]at e1;cases e1
   subst hm
   rcases e1:p.2 with _|a
   · have hl:l= []:=by
      rcases l with _|⟨p',l⟩
      ·rfl
      · obtain⟨a,b,e3,_⟩:=(zU.mp h.cl.2).1 p' (zq ..)
        rw[e1]at e3;cases e3
     subst hl
     refine⟨c,h.cl,h.cm.tail,λx=>?_,λ_ _ _ _ _ h=>(nomatch h),small⟩
     rw[h.same x,s x,O8,O8]
     have n0:¬inS [] x:=aO9
     exact⟨λz=>.inl (z.imp id fun⟨z1,z2⟩=>⟨z1.elim id λz=>absurd z n0,z2.elim id λz=>absurd z n0⟩),λz=>z.elim (λz=>z.imp id fun⟨z1,z2⟩=>⟨.inl z1,.inl z2⟩) λz=>absurd z.2 n0⟩
   ·exact absurd ⟨a,e1,λb hb=>by rw[e2]at hb;cases hb⟩ e
 · have he:∀a,p.2=some a->b<=a:=λa ha=>by
    rcases Int.lt_or_le a b with k|k
    ·exact absurd ⟨a,ha,λb' hb=>by rw[e2]at hb;cases hb;exact k⟩ e
    ·exact k
   refine⟨c,h.cl,h.cm.tail,λx=>?_,λr hr p' hp q' hq=>?_,small⟩
   ·rw[h.same x,and_comm,dF7 h.cl e2 he,s x,or_assoc,and_comm,and_comm (a:=inS m x)]
   · rcases i r hr with k|rfl
     ·exact h.room r k p' hp q' (zk _ hq)
     · obtain⟨a',b',e3,e4,k⟩:=(zU.mp h.cm.2).1 q' hq
       rw[e2]at e3;cases e3
       obtain⟨d,e5,k2⟩:=fR1 e4
       exact⟨b,d,by show hiR p.2 q.2=_;rw[dW3];exact eJ1 e2 he,e5,by lia⟩
theorem Gr.ap(h:Gr G G'):Ap G G':=by
 refine⟨G'.drop G.length,?_⟩
 refine Xd λi=>?_
 rcases xz i G.length with c|c
 ·rw[zJ c];exact h.2 i c
 · rw[xp c,List.getElem?_drop]
   congr 1;lia
theorem bD8:Wp (gtD (.int i) (.int j)) G Q↔Q (.bl (decide (i>j))) G:=wp_pure
theorem eB5(e:G[p]? =some (.lst xs))(eq:G[q]? =some (.lst [])):Wp (neD (.ref p) (.ref q)) G Q↔Q (.bl (!xs.isEmpty)) G:=by
 have h:eqN 40 G (.ref p) (.ref q)=some xs.isEmpty:=by
  have h1:aG8 G (.ref p)=some (false,xs):=by simp only[aG8,e]
  have h2:aG8 G (.ref q)=some (false, []):=by simp only[aG8,eq]
  rw[cB6]
  rw[h1,h2]
  rcases xs with _|⟨_,_⟩
  ·rfl
  ·rfl
 exact aI6 (show neD (.ref p) (.ref q) G=_ from by unfold neD;rw[h])
theorem ixv(ha:a σ G=some (.ok (.ref r),G))(hb:b σ G=some (.ok (.int j),G))(e:G[r]? =some (.lst l))(hd:atI l j=some d)(q:Q d G):Wp (b8 ixD a b σ) G Q:=t8 ha hb ((Z6 e).mpr ⟨d,hd,q⟩)
theorem dU7(ha:a σ G=some (.ok (.ref r),G))(hb:b σ G=some (.ok (.int k),G))(e:G[r]? =some (.lst l))(hj:ixN l.length k=some j)(q:S σ (G.set r (.lst (l.set j d)))):Wp (aF4 a b d σ) G S:=dK3.mpr (c7 ha (c7 hb ((cR7 e hj).mpr q)))
section
theorem eP0(w:Wp (a σ) G λx G1=>x= .bl true/\Wp (b σ) G1 Q):Wp (aQ5 a b σ) G Q:=cA1.mpr (w.mono λx G1 q=>by
 obtain⟨rfl,q⟩:=q
 exact V9.mpr (by rw[if_pos rfl];exact q))
theorem fG6(w:Wp (t σ) G λk G1=>k=true/\Wp (g σ) G1 P):Wp (ifS (V0 t) f g σ) G P:=Q4 (aA2.mpr (w.mono λk G1 q=>by
 obtain⟨rfl,q⟩:=q
 exact⟨λz=>(by exact O5 z),λ_=>q⟩))
theorem aG7(w:Wp (a σ) G λx G1=>x= .bl true/\B true G1):Wp (u6 a σ) G B:=aJ4.mpr (w.mono λx G1 q=>by
 obtain⟨rfl,q⟩:=q
 exact V9.mpr q)
end
def rD(p:Rg):D:=.tup [Q6 p.1,Q6 p.2]
def rsD(l:List Rg):List D:=l.map rD
section
noncomputable def fE8:Option Int->Option Int->Bool
 |some x,some y=>decide (x>y)
 |_,_=>false
theorem cD1(h:Q (.bl (fE8 a b)) G):Wp (aR0 [Q6 a,Q6 b]) G Q:=aL5 (by
 rcases a with _|a
 ·rfl
 ·rcases b with _|b<;>rfl) h
theorem fL8(ns:List Int)(e:fe σ G=some (.ok (.ref G.length),G++[.lst (ns.map D.int)]))(q:∀G',Ap G G'->Q (Q6 (f ns)) G'):Wp (mmE f fe σ) G Q:=by
 have h0:mmE f fe σ= (fe σ >>= λd=>cC5 d >>= λns=>pure (Q6 (f ns))):=rfl
 rw[h0]
 refine j6.mpr<| c7 e<| j6.mpr ?_
 have h1:cC5 (.ref G.length)= ((R1 G.length >>= DL.listOf) >>= λl=>aI5 (aM5 l)):=rfl
 rw[h1]
 refine j6.mpr<| j6.mpr<| S8.mpr ⟨_,m6,wp_pure.mpr<| aF7.mpr ⟨ns,cI4 ns,wp_pure.mpr (q _ Ap.one)⟩⟩
noncomputable def toI(a b:Option Int):List Int:=a.toList++b.toList
theorem eW3:eC0 (toI a b)=loR a b:=by
 rcases a with _|a<;>rcases b with _|b<;>try rfl
 show some (if b>a then b else a)=some (max a b)
 congr 1
 split<;>lia
theorem eL4:eH0 (toI a b)=hiR a b:=by
 rcases a with _|a<;>rcases b with _|b<;>try rfl
 show some (if b<a then b else a)=some (min a b)
 congr 1
 split<;>lia
theorem eV0(h:∀G',Ap G G'->Q (Q6 (loR p.1 q.1)) G'):Wp (aK7 [rD p,rD q]) G Q:=by
 refine K7<| K1<| fL8 (toI p.1 q.1) ?_ λG' j=>by rw[eW3];exact J8 (h G' j)
 obtain⟨a,_⟩:=p
 obtain⟨b,_⟩:=q
 rcases a with _|a<;>rcases b with _|b<;>rfl
theorem eD8(h:∀G',Ap G G'->Q (Q6 (hiR p.2 q.2)) G'):Wp (aI7 [rD p,rD q]) G Q:=by
 refine K7<| K1<| fL8 (toI p.2 q.2) ?_ λG' j=>by rw[eL4];exact J8 (h G' j)
 obtain⟨_,a⟩:=p
 obtain⟨_,b⟩:=q
 rcases a with _|a<;>rcases b with _|b<;>rfl
noncomputable def efO:Option Int->Option Int->Bool
 |none,_=>false
 |some _,none=>true
 |some a,some b=>decide (a<b)
theorem fK3(h:Q (.bl (efO p.2 q.2)) G):Wp (aL4 [rD p,rD q]) G Q:=aL5 (by
 obtain⟨_,a⟩:=p
 obtain⟨_,b⟩:=q
 rcases a with _|a
 ·rfl
 ·rcases b with _|b<;>rfl) h
theorem dF6:efO p.2 q.2=true↔efR p q:=by
 unfold efR
 rcases p.2 with _|a
 ·exact⟨λh=>(nomatch h),fun⟨_,h,_⟩=>(nomatch h)⟩
 · rcases q.2 with _|b
   ·exact⟨λ_=>⟨a,rfl,λ_ h=>J6 h⟩,λ_=>rfl⟩
   ·exact⟨λh=>⟨a,rfl,λ_ k=>zQ k▸of_decide_eq_true h⟩,fun⟨_,h,k⟩=>decide_eq_true (zQ h▸k b rfl)⟩
theorem cW6:fE8 r.1 r.2=false↔okR r:=by
 obtain⟨a,b⟩:=r
 unfold okR
 rcases a with _|a
 ·exact⟨λ_ _ _ h=>J6 h,λ_=>rfl⟩
 · rcases b with _|b
   ·exact⟨λ_ _ _ _ h=>J6 h,λ_=>rfl⟩
   ·exact⟨λh x y e1 e2=>by cases e1;cases e2;have:=of_decide_eq_false h;lia,λh=>decide_eq_false (by have:=h a b rfl rfl;lia)⟩
end
theorem fO1:aH0=j5 (o9 (X3 q14) (q16 2)) (j5 (o9 (cE (.int 0)) (q16 3)) (j5 (o9 (cE (.int 0)) (q16 4)) (j5 (bD9 MT MB) (m8 (q15 M9 (q13 (b7 2) q14)))))):=rfl
theorem aV4(l:List Rg):(rsD l).length=l.length:=ze ..
theorem dM6:atI (rsD (l0++p::l)) (l0.length:Int)=some (rD p):=atI_nat (by unfold rsD;simp)
theorem bY1(h0:σ[0]? =some (some (.tup a)))(h1:σ[1]? =some (some (.tup b)))(h3:σ[3]? =some (some (.int i)))(h4:σ[4]? =some (some (.int j)))(ha:atI a i=some x)(hb:atI b j=some y):
 q13 (b8 ixD (b7 0) (b7 3)) (q13 (b8 ixD (b7 1) (b7 4)) q14) σ G=some (.ok [x,y],G):=
 O7<| m7<| t6<| R7.mpr ⟨_,h0,R7.mpr ⟨_,h3,ix_tup.mpr ⟨x,ha,m7<| t6<| R7.mpr ⟨_,h1,R7.mpr ⟨_,h4,ix_tup.mpr ⟨y,hb,m5.mpr ⟨rfl,rfl⟩⟩⟩⟩⟩⟩⟩
theorem bK2(l:List Rg)(p:Rg):rsD (l++[p])=rsD l++[rD p]:=jr ..
section
structure MI(one other:List Rg)(c:Nat)(G0:DH)(acc l0 l m0 m:List Rg)(G:DH):Prop where
 e1:one=l0++l
 e2:other=m0++m
 mv:Mv one other acc l m
 at':G[c]? =some (.lst (rsD acc))
 gr:Gr G0 G
 le:G0.length<=c
def mS(one other:List Rg)(c:Nat)(l0 m0:List Rg)(u v:Option D):DSt:= [some (.tup (rsD one)),some (.tup (rsD other)),some (.ref c),some (.int l0.length),some (.int m0.length),u,v]
theorem fO0:mS one other c (l0++[p]) m0 u v= [some (.tup (rsD one)),some (.tup (rsD other)),some (.ref c),some (.int (l0.length+1)),some (.int m0.length),u,v]:=by unfold mS;rw[zM];rfl
theorem fN8:mS one other c l0 (m0++[p]) u v= [some (.tup (rsD one)),some (.tup (rsD other)),some (.ref c),some (.int l0.length),some (.int (m0.length+1)),u,v]:=by unfold mS;rw[zM];rfl
theorem fL5(I:MI one other c G0 acc l0 (p::l) m0 (q::m) G)(hz:one.length+other.length<10000):
 Wp (MB (mS one other c l0 m0 u v)) G λfl G'=>∃acc' l0' l' m0' m' u' v',fl= .nx (mS one other c l0' m0' u' v')/\MI one other c G0 acc' l0' l' m0' m' G'/\l'.length+m'.length<(p::l).length+(q::m).length:=by
 have bg:=big
 have ea:atI (rsD one) (l0.length:Int)=some (rD p):=by rw[I.e1];exact dM6
 have eb:atI (rsD other) (m0.length:Int)=some (rD q):=by rw[I.e2];exact dM6
 refine d9.mpr<| N7<| j8 (bY1 rfl rfl rfl rfl ea eb) rfl<| eV0 λG1 j1=>?_
 refine d9.mpr<| N7<| j8 (bY1 rfl rfl rfl rfl ea eb) rfl<| eD8 λG2 j2=>?_
 have j:=j1.trans j2
 refine d9.mpr<| cM1 (A:=λfl G'=>fl= .nx (mS one other c l0 m0 (some (Q6 (loR p.1 q.1))) (some (Q6 (hiR p.2 q.2))))/\Gr G0 G'/\∃acc',G'[c]? =some (.lst (rsD acc'))/\(acc'=acc/\¬okR (loR p.1 q.1,hiR p.2 q.2)\/acc'=acc++[(loR p.1 q.1,hiR p.2 q.2)]/\okR (loR p.1 q.1,hiR p.2 q.2)))
  (aA2.mpr<| aJ4.mpr<| j8 rfl rfl<| cD1<| V9.mpr ⟨λh=>?_,λh=>?_⟩) ?_
 · have hl:(rsD acc).length<zl:=by have:=I.mv.small;rw[aV4];lia
   refine aL0.mpr<| aS3.mpr<| c7 rfl<| (S9 (j.at I.at')).mpr<| c7 (a:= [rD (loR p.1 q.1,hiR p.2 q.2)]) rfl<| (U7 (j.at I.at') hl).mpr ⟨rfl,(I.gr.trans j.gr).set I.le,_,(zL (lt_of_get (j.at I.at'))).trans (by rw[<-bK2]),.inr ⟨rfl,cW6.mp (ym _▸h)⟩⟩
 ·exact j7.mpr ⟨rfl,I.gr.trans j.gr,acc,j.at I.at',.inl ⟨rfl,λk=>by rw[cW6.mpr k]at h;cases h⟩⟩
 · rintro _ G3 ⟨rfl,g3,acc',e3,ha⟩
   refine Q4<| aJ4.mpr<| j8 (bY1 rfl rfl rfl rfl ea eb) rfl<| fK3<| V9.mpr ⟨λh=>?_,λh=>?_⟩
   ·exact c7 (by rw[fO0];rfl) ⟨acc',l0++[p],l,m0,q::m,_,_,rfl,⟨by rw[I.e1];simp,I.e2,I.mv.left (dF6.mp h) ha,e3,g3,I.le⟩,by simp⟩
   ·exact c7 (by rw[fN8];rfl) ⟨acc',l0,p::l,m0++[q],m,_,_,rfl,⟨I.e1,by rw[I.e2];simp,I.mv.right (λk=>by rw[dF6.mpr k]at h;cases h) ha,e3,g3,I.le⟩,by simp⟩
theorem eH5(I:MI one other c G0 acc l0 l m0 m G):MT (mS one other c l0 m0 u v) G=some (.ok (!l.isEmpty&&!m.isEmpty),G):=by
 have h1:one.length=l0.length+l.length:=by rw[I.e1,zM]
 have h2:other.length=m0.length+m.length:=by rw[I.e2,zM]
 refine O7<| aH7<| c7 rfl ⟨λk=>c7 rfl ⟨?_,rfl⟩,λk=>⟨?_,rfl⟩⟩
 · rw[aV4]at k ⊢
   have:=of_decide_eq_true k
   rcases l with _|⟨_,_⟩
   ·simp at h1;lia
   · rcases m with _|⟨_,_⟩
     ·exact decide_eq_false (by simp at h2;lia)
     ·exact decide_eq_true (by simp at h2;lia)
 · rw[aV4]at k
   have:=of_decide_eq_false k
   rcases l with _|⟨_,_⟩
   ·rfl
   ·simp at h1;lia
theorem MW:∀n acc l0 l m0 m u v G,l.length+m.length<=n->MI one other c G0 acc l0 l m0 m G->one.length+other.length<10000->
 Wp (W8 (n+1) MT MB (mS one other c l0 m0 u v)) G λfl G'=>∃acc' l0' m0' u' v',fl= .nx (mS one other c l0' m0' u' v')/\Can acc'/\(∀x,inS acc' x↔inS one x/\inS other x)/\acc'.length<=one.length+other.length/\G'[c]? =some (.lst (rsD acc'))/\Gr G0 G':=by
 have stop:∀ {n:Nat} {acc l0 l m0 m:List Rg} {u v:Option D} {G:DH},MI one other c G0 acc l0 l m0 m G->(l= []\/m= [])->
  Wp (W8 (n+1) MT MB (mS one other c l0 m0 u v)) G λfl G'=>∃acc' l0' m0' u' v',fl= .nx (mS one other c l0' m0' u' v')/\Can acc'/\(∀x,inS acc' x↔inS one x/\inS other x)/\acc'.length<=one.length+other.length/\G'[c]? =some (.lst (rsD acc'))/\Gr G0 G':=λ{n acc l0 l m0 m u v G} I h=>by
  refine bT6.mpr<| c7 (eH5 I) ?_
  have:(!l.isEmpty&&!m.isEmpty)=false:=by
   rcases h with rfl|rfl
   ·rfl
   ·cases l<;>rfl
  rw[this]
  exact⟨acc,l0,m0,u,v,rfl,I.mv.can,λx=>I.mv.done h x,by have:=I.mv.small;lia,I.at',I.gr⟩
 intro n
 induction n with
 |zero=>
   intro acc l0 l m0 m u v G hn I hz
   exact stop I (.inl (List.eq_nil_of_length_eq_zero (by lia)))
 |succ n ih=>
   intro acc l0 l m0 m u v G hn I hz
   rcases l with _|⟨p,l⟩
   ·exact stop I (.inl rfl)
   · rcases m with _|⟨q,m⟩
     ·exact stop I (.inr rfl)
     · refine bT6.mpr<| c7 (eH5 I) ?_
       refine(fL5 I hz).mono ?_
       rintro _ G1 ⟨acc',l0',l',m0',m',u',v',rfl,I',hl⟩
       exact ih acc' l0' l' m0' m' u' v' G1 (by lia) I' hz
theorem dW8(h1:Can one)(h2:Can other)(hz:one.length+other.length<10000)
 (q:∀met G',Can met->(∀x,inS met x↔inS one x/\inS other x)->met.length<=one.length+other.length->Ap G G'->Q (.tup (rsD met)) G'):Wp (aH5 [.tup (rsD one),.tup (rsD other)]) G Q:=by
 refine K7 (show Wp (aH0 [some (.tup (rsD one)),some (.tup (rsD other)),none,none,none,none,none]) G _ from ?_)
 rw[fO1]
 refine Z9 rfl<| Z9 rfl<| Z9 (X2:=mS one other G.length [] [] none none) rfl<| d9.mpr<| dH4<| (MW _ [] [] one [] other none none _ (zo _) ⟨rfl,rfl,Mv.start h1 h2,m6,Gr.app,zo _⟩ hz).mono ?_
 rintro _ G1 ⟨acc,l0,m0,u,v,rfl,c,i,n,e,g⟩
 exact K1<| aJ6 rfl<| (K9 e).mpr<| J8 (q acc G1 c i n g.ap)
end
noncomputable def cI3:D->D
 | .str z=>.tup [.int z.length,.str z]
 |_=>.non
noncomputable def txB(a b:Str):Bool:=if a.length=b.length then decide (a.cps.toList<b.cps.toList)else decide (a.length<b.length)
theorem bQ2(h:z.length<=zl):Wp (R4 [.str z]) G Q↔Q (cI3 (.str z)) G:=by
 unfold R4 aS0
 have s0:([D.str z].map some++jk (1 - [D.str z].length) none:DSt)= [some (.str z)]:=rfl
 simp only[aA3,s0,aF8,V8,X6,T5,m5,R7,zE,exists_eq_left',zy,bA6 h]
 exact⟨λq=>q.2,λq=>⟨sz,q⟩⟩
abbrev wOf:Str:= "of"
noncomputable abbrev eM5:Str:= "but"
theorem cI1(z:Str)(d:D):∀l:List (Key×D),v8 (l.map λkv=>if kv.1= .inr z then (kv.1,d)else kv)=v8 l
 |[]=>rfl
 |(k,v)::r=>by
  have ih:=cI1 z d r
  rw[zB]
  have e:(if ((k,v):Key×D).1= .inr z then (((k,v):Key×D).1,d)else (k,v)).1=k:=by split<;>rfl
  generalize (if ((k,v):Key×D).1= .inr z then (((k,v):Key×D).1,d)else (k,v))=p at e
  obtain⟨k',v'⟩:=p
  cases e
  cases k' with
  |inl i=>rfl
  |inr y=>simp only[v8,ih]
theorem cI9(z:Str)(d:D):∀l ss,v8 l=some ss->v8 (l++[(.inr z,d)])=some (ss++[z])
 |[],ss,h=>by cases h;rfl
 |(.inl i,v)::r,ss,h=>by cases h
 |(.inr y,v)::r,ss,h=>by
  unfold v8 at h
  cases hr:v8 r with
  |none=>rw[hr]at h;cases h
  |some t=>
    rw[hr]at h
    cases h
    rw[List.cons_append]
    unfold v8
    rw[cI9 z d r t hr]
    rfl
theorem bK9:∀ss:List Str,aG5 (ss.map D.str)=some ss
 |[]=>rfl
 |z::r=>by simp only[zB,aG5,bK9 r,xF]
def Tx(z:Str):Prop:=fJ7 z=true/\z.length<=1000
def Ris(s:List Str):Prop:=s.Pairwise λa b=>txB a b=true
theorem dM2(h1:txB a b=true)(h2:txB b c=true):txB a c=true:=by
 have:= @aW1 ((a.length:Int),a) ((b.length:Int),b) ((c.length:Int),c)
 unfold aL9 at this
 unfold txB at *
 simp only[Int.ofNat_inj,Int.ofNat_lt]at this
 exact this h1 h2
theorem aW6(a:Str):txB a a=false:=by
 unfold txB
 rw[if_pos rfl,decide_eq_false (Yr _)]
theorem cM5(a b:Str):txB a b=aL9 ((a.length:Int),a) ((b.length:Int),b):=by
 unfold txB aL9
 simp only[Int.ofNat_inj,Int.ofNat_lt]
theorem cM0:∀ {s t},Ris s->Ris t->(∀z,z∈s↔z∈t)->s=t
 |[], [],_,_,_=>rfl
 |[],b::t,_,_,h=>by have:=(h b).mpr (by simp);cases this
 |a::s, [],_,_,h=>by have:=(h a).mp (by simp);cases this
 |a::s,b::t,h1,h2,h=>by
   obtain⟨p1,p2⟩:=zU.mp h1
   obtain⟨q1,q2⟩:=zU.mp h2
   have e:a=b:=by
    rcases zu.mp ((h a).mp (by simp))with e|m
    ·exact e
    · rcases zu.mp ((h b).mpr (by simp))with e|m'
      ·exact e.symm
      · have:=dM2 (q1 a m) (p1 b m')
        rw[aW6]at this;cases this
   subst e
   congr 1
   refine cM0 p2 q2 λz=>⟨λm=>?_,λm=>?_⟩
   · rcases zu.mp ((h z).mp (zk _ m))with e|m'
     · subst e
       have:=p1 z m
       rw[aW6]at this;cases this
     ·exact m'
   · rcases zu.mp ((h z).mpr (zk _ m))with e|m'
     · subst e
       have:=q1 z m
       rw[aW6]at this;cases this
     ·exact m'
noncomputable abbrev wrd(b:Bool):Str:=if b then wOf else eM5
noncomputable def aK3(b:Bool)(s:List Str):D:=.tup [.str (wrd b),.tup (s.map D.str)]
def Mk(l:List (Key×D))(ks:List Str):Prop:=v8 l=some ks/\ks.Nodup
theorem cA2:∀ {l} {ks} {z},v8 l=some ks->(aC7 l (.inr z)).isSome=decide (z∈ks)
 |[],ks,z,h=>by cases h;rfl
 |(.inl i,v)::r,ks,z,h=>by cases h
 |(.inr x,v)::r,ks,z,h=>by
  unfold v8 at h
  cases hr:v8 r with
  |none=>rw[hr]at h;cases h
  |some t=>
    rw[hr]at h
    cases h
    have ih:=cA2 (z:=z) hr
    unfold aC7 at ih ⊢
    rw[yD]
    by_cases hx:x=z
    ·subst hx;simp
    · have h1:decide ((Sum.inr x:Key)= .inr z)=false:=by simpa using hx
      have h2:¬z=x:=λe=>hx e.symm
      simp only[h1]
      rw[ih]
      simp[h2]
theorem fA5(h:v8 l=some ks):l.any (λkv=>decide (kv.1= .inr z))=decide (z∈ks):=by
 rw[<-cA2 h]
 unfold aC7
 rw[Zv]
 induction l generalizing ks with
 |nil=>rfl
 |cons kv r ih=>
   rw[yb,yD]
   cases hk:decide (kv.1= .inr z) with
   |true=>rfl
   |false=>
     obtain⟨k,v⟩:=kv
     cases k with
     |inl i=>cases h
     |inr x=>
       unfold v8 at h
       cases hr:v8 r with
       |none=>rw[hr]at h;cases h
       |some t=>rw[ih hr];rfl
theorem eQ0(h:Mk l ks):Mk (aX6 l (.inr z) d) (if z∈ks then ks else ks++[z]):=by
 unfold aX6
 rw[fA5 h.1]
 by_cases hz:z∈ks
 · simp only[hz,decide_true,if_true]
   exact⟨by rw[cI1];exact h.1,h.2⟩
 · simp only[hz,decide_false,jf,if_false]
   refine⟨cI9 z d l ks h.1,?_⟩
   rw[yE]
   exact⟨h.2,by simp,λa ha b hb=>by rw[zr]at hb;subst hb;exact λe=>hz (by rw[<-e];exact ha)⟩
theorem cK3:∀s:List Str,aP2 (s.map λz=>.tup [.str z,.bl true])=some (s.map λz=>(.inr z,.bl true))
 |[]=>rfl
 |a::r=>by simp only[zB,aP2,bV4,bP6,cK3 r]
theorem bW0:∀(s:List Str) l ks,Mk l ks->∃ks',Mk (putAll l (s.map λz=>(.inr z,.bl true))) ks'/\(∀z,z∈ks'↔z∈ks\/z∈s)/\ks'.length<=ks.length+s.length
 |[],l,ks,h=>⟨ks,h,by simp,by simp⟩
 |a::r,l,ks,h=>by
   obtain⟨ks',h1,h2,h3⟩:=bW0 r _ _ (eQ0 h)
   refine⟨ks',h1,λz=>?_,?_⟩
   · rw[h2 z]
     by_cases ha:a∈ks
     · simp only[ha,if_true,zu]
       constructor
       · rintro(h|h)
         ·exact .inl h
         ·exact .inr (.inr h)
       · rintro(h|rfl|h)
         ·exact .inl h
         ·exact .inl ha
         ·exact .inr h
     ·simp only[ha,if_false,jc,zu,or_assoc,ju,false_or]
   · by_cases ha:a∈ks
     · simp only[ha,if_true]at h3
       simp only[zD];omega
     · simp only[ha,if_false,zM,jS]at h3
       simp only[zD];omega
theorem cJ4(e:G[r]? =some (.lst l))(h:aP2 l=some ps):Wp (bG9 [.ref r]) G Q↔Q (.ref G.length) (G++[.dct (putAll [] ps)]):=by
 unfold bG9
 simp only[j6,S8,e,T8,DL.listOf,wp_pure,aF7,h,S6]
theorem bE7{s:List Str}{G:DH}(hl:s.length<=1000):Wp (aO0 [.tup (s.map D.str)]) G λx G'=>∃q l ks,x= .ref q/\G'[q]? =some (.dct l)/\Mk l ks/\(∀z,z∈ks↔z∈s)/\ks.length<=s.length/\Ap G G'/\G.length<=q:=by
 have bg:=big
 unfold aO0 bO5
 have s0:([D.tup (s.map D.str)].map some++jk (1 - [D.tup (s.map D.str)].length) none:DSt)= [some (.tup (s.map D.str))]:=rfl
 simp only[aA3,s0,aF8,X6,T5,m5]
 rw[cV5 (λσ=>σ.length=1) rfl (by show (s.map D.str).length<=_;rw[ze];omega) rfl rfl (λx hx σ WY=>?_)]
 · have e:(s.map D.str).map (λx=>D.tup [x,.bl true])=s.map λz=>.tup [.str z,.bl true]:=by rw[jK];rfl
   show Wp (bG9 [.ref G.length]) (G++[.lst ((s.map D.str).map λx=>D.tup [x,.bl true])]) _
   rw[e,cJ4 m6 (cK3 s)]
   obtain⟨ks',h1,h2,h3⟩:=bW0 s [] [] ⟨rfl,by simp⟩
   exact⟨_,_,ks',rfl,m6,h1,by simpa using h2,by simpa using h3,Ap.one.trans Ap.one,by simp⟩
 · match σ,WY with
   |[u],_=>
     refine⟨[some x],rfl,rfl,rfl,O7 ?_⟩
     simp only[V8,T5,m5,bH7,R7,zy,zE,exists_eq_left']
     exact⟨sz,by first|rfl|trivial,trivial⟩
theorem dM9(e:G[q]? =some (.dct l))(h:v8 l=some ks):inB (.str z) (.ref q) G=some (decide (z∈ks)):=by
 unfold inB
 simp only[e,bP6,xF,cA2 h]
theorem bU5{s:List Str}:((s.map D.str).filter λx=>match x with| .str z=>p z|_=>false)= (s.filter p).map D.str:=by
 rw[Zh];rfl
theorem cR0{s t:List Str}{G:DH}(hs:s.length<=1000)(ht:t.length<=1000):Wp (aP9 [.tup (s.map D.str),.tup (t.map D.str)]) G λx G'=>x= .tup ((s.filter λz=>decide (z∈t)).map D.str)/\Ap G G':=by
 have bg:=big
 unfold aP9 bF2
 have s0:([D.tup (s.map D.str),.tup (t.map D.str)].map some++jk (3 - [D.tup (s.map D.str),.tup (t.map D.str)].length) none:DSt)= [some (.tup (s.map D.str)),some (.tup (t.map D.str)),none]:=rfl
 simp only[aA3,s0,d9,S7,O9,aF8,X6,T5,m5,R7,Q8,wp_comp,wp_itW,srcW_tup,jU,jM,zy,zO,zE,exists_eq_left']
 refine⟨rfl,Wp.mono (bE7 ht) λx G1 ⟨q,l,ks,ex,e1,mk,mm,_,a1,_⟩=>?_⟩
 subst ex
 refine⟨by rw[ze];omega,?_⟩
 have hc:N6 (q16 0) (f9 (b8 inD (b7 0) (b7 1))) (b7 0) (λ_=>true) (s.map D.str) (W3 [none,some 2] [some (.tup (s.map D.str)),some (.tup (t.map D.str)),some (.ref q)]) G1=some (.ok ((s.map D.str).filter λx=>match x with| .str z=>decide (z∈t)|_=>false),G1):=by
  refine aB1 rfl (λσ=>∃u,σ= [u,some (.ref q)]) _ _ ⟨none,rfl⟩ λx hx σ WY=>?_
  obtain⟨z,hz,rfl⟩:=zY.mp hx
  obtain⟨u,rfl⟩:=WY
  refine⟨[some (.str z),some (.ref q)],rfl,⟨_,rfl⟩,O7 ?_,rfl⟩
  simp only[aL6,aI4,R7,zy,zO,zE,exists_eq_left',cF9,dM9 e1 mk.1,bN3]
  refine⟨?_,trivial⟩
  simp only[mm]
 refine(aI6 hc).mpr ?_
 rw[K9 m6,bU5]
 exact⟨rfl,a1.trans Ap.one⟩
theorem bK3{s t:List Str}{G:DH}(hs:s.length<=1000)(ht:t.length<=1000):Wp (aM0 [.tup (s.map D.str),.tup (t.map D.str)]) G λx G'=>x= .tup ((s.filter λz=> !decide (z∈t)).map D.str)/\Ap G G':=by
 have bg:=big
 unfold aM0 bF5
 have s0:([D.tup (s.map D.str),.tup (t.map D.str)].map some++jk (3 - [D.tup (s.map D.str),.tup (t.map D.str)].length) none:DSt)= [some (.tup (s.map D.str)),some (.tup (t.map D.str)),none]:=rfl
 simp only[aA3,s0,d9,S7,O9,aF8,X6,T5,m5,R7,Q8,wp_comp,wp_itW,srcW_tup,jU,jM,zy,zO,zE,exists_eq_left']
 refine⟨rfl,Wp.mono (bE7 ht) λx G1 ⟨q,l,ks,ex,e1,mk,mm,_,a1,_⟩=>?_⟩
 subst ex
 refine⟨by rw[ze];omega,?_⟩
 have hc:N6 (q16 0) (f9 (b8 aP3 (b7 0) (b7 1))) (b7 0) (λ_=>true) (s.map D.str) (W3 [none,some 2] [some (.tup (s.map D.str)),some (.tup (t.map D.str)),some (.ref q)]) G1=some (.ok ((s.map D.str).filter λx=>match x with| .str z=> !decide (z∈t)|_=>false),G1):=by
  refine aB1 rfl (λσ=>∃u,σ= [u,some (.ref q)]) _ _ ⟨none,rfl⟩ λx hx σ WY=>?_
  obtain⟨z,hz,rfl⟩:=zY.mp hx
  obtain⟨u,rfl⟩:=WY
  refine⟨[some (.str z),some (.ref q)],rfl,⟨_,rfl⟩,O7 ?_,rfl⟩
  simp only[aL6,aI4,R7,zy,zO,zE,exists_eq_left',bJ6,dM9 e1 mk.1,bN3]
  refine⟨?_,trivial⟩
  simp only[mm]
 refine(aI6 hc).mpr ?_
 rw[K9 m6,bU5]
 exact⟨rfl,a1.trans Ap.one⟩
theorem bU8:∀(s:List Str) G,(∀z∈s,z.length<=zl)->aI0 R4 (s.map D.str) G=some (.ok (s.map λz=>cI3 (.str z)),G)
 |[],G,_=>rfl
 |a::r,G,h=>by
   have h1:noX (R4 [.str a]) G=some (.ok (cI3 (.str a)),G):=O7 (bD0.mpr ((bQ2 (h a (by simp))).mpr ⟨rfl,rfl⟩))
   have h2:=bU8 r G λz hz=>h z (by simp[hz])
   show (noX (R4 [.str a]) >>= λk=>aI0 R4 (r.map D.str) >>= λks=>pure (k::ks)) G=_
   rw[M.bind_ok h1,M.bind_ok h2]
   rfl
theorem bJ9:∀s:List Str,aN0 cX8 (s.map λz=>cI3 (.str z))=some (s.map λz=>((z.length:Int),z))
 |[]=>rfl
 |a::r=>by simp only[zB,aN0,bJ9 r];rfl
theorem aX8(s:List Str):aZ2 (s.map λz=>cI3 (.str z))=some (s.map λz=>((z.length:Int),z)):=by unfold aZ2;rw[bJ9]
theorem aZ0(nd:s.Nodup):∃m,aZ6 (s.map λz=>((z.length:Int),z)) (s.map D.str)=m.map D.str/\Ris m/\m.Perm s:=by
 have hz:(s.map λz=>(((z.length:Int),z):Int×Str)).zip (s.map D.str)=s.map λz=>(((z.length:Int),z),D.str z):=by
  rw[List.zip_map']
 have nd2:(s.map λz=>(((z.length:Int),z):Int×Str)).Nodup:=by
  rw[YO,jF]
  exact nd.imp λ{a b} h e=>h (yp e).2
 let m:=s.mergeSort λa b=> !txB b a
 have hp:m.Perm s:=js _ _
 have hs:m.Pairwise λa b=>(!txB b a)=true:=yN (λa b c h1 h2=>by
  simp only[ym]at *
  refine xR.mpr λh=>?_
  by_cases e:a=b
  ·subst e;rw[h]at h2;cases h2
  · rw[cM5]at h h1 h2
    have:=aW1 h (aU0 (λz=>e (yp z).2.symm) h1)
    rw[this]at h2;cases h2) (λa b=>by
  by_cases e:a=b
  ·subst e;rw[aW6];rfl
  · cases q:txB b a with
    |false=>rfl
    |true=>
      have:txB a b=false:=by
       refine xR.mpr λh=>?_
       have:=dM2 q h
       rw[aW6]at this;cases this
      rw[this];rfl) _
 refine⟨m,?_,?_,hp⟩
 · have e:=bE5 nd2 (z:=m.map λz=>(((z.length:Int),z),D.str z)) (by rw[hz];exact hp.map _) (by
    rw[jF]
    refine hs.imp λ{a b} h=>?_
    unfold bX0
    rw[<-cM5];exact h)
   rw[<-e,jK]
   rfl
 · have ndm:m.Nodup:=hp.nodup_iff.mpr nd
   have:m.Pairwise λa b=>(!txB b a)=true/\a≠b:=List.Pairwise.and hs ndm
   refine this.imp λ{a b} h=>?_
   have h1:=h.1
   simp only[ym]at h1
   rw[cM5]at h1 ⊢
   exact aU0 (λz=>h.2 (yp z).2.symm) h1
theorem cN4{l:List (Key×D)}(e:G[q]? =some (.dct l))(h:Mk l ks)(h64:ks.length<64)(hz:∀z∈ks,z.length<=zl)(hq:∀m,Ris m->m.Perm ks->Q (.ref G.length) (G++[.lst (m.map D.str)])):Wp (aK0 R4 (.ref q)) G Q:=by
 obtain⟨m,e1,e2,e3⟩:=aZ0 h.2
 have nd2:(ks.map λz=>(((z.length:Int),z):Int×Str)).Nodup:=by
  rw[YO,jF]
  exact h.2.imp λ{a b} h e=>h (yp e).2
 unfold aK0
 simp only[j6,S8,e,T8,aF7,h.1,if_pos h64,aP5]
 refine(aI6 (bU8 ks G hz)).mpr ?_
 rw[aX8]
 refine⟨_,rfl,?_⟩
 rw[if_pos nd2,S6,e1]
 exact hq m e2 e3
theorem bM5:Wp (aM9 F fe σ) G Q↔Wp (fe σ) G λx G1=>Wp (aK0 F x) G1 Q:=by unfold aM9;simp only[j6]
theorem bI1{s:List Str}(hs:s.length<64)(hz:∀z∈s,Tx z):Wp (aB7 [.tup (s.map D.str)]) G λx G'=>∃m,x= .tup (m.map D.str)/\Ris m/\(∀z,z∈m↔z∈s)/\m.length<=s.length/\Ap G G':=by
 have bg:=big
 unfold aB7 aN6
 have s0:([D.tup (s.map D.str)].map some++jk (1 - [D.tup (s.map D.str)].length) none:DSt)= [some (.tup (s.map D.str))]:=rfl
 simp only[aA3,s0,aF8,X6,T5,m5,R7,Q8,bM5,zy,zE,exists_eq_left']
 refine⟨rfl,Wp.mono (bE7 (by omega)) λx G1 ⟨q,l,ks,ex,e1,mk,mm,hl,a1,_⟩=>?_⟩
 subst ex
 refine cN4 e1 mk (by omega) (λz hz'=>zC (hz z ((mm z).mp hz')).2 (by omega)) λm r p=>?_
 rw[K9 m6]
 exact⟨m,rfl,r,λz=>by rw[p.mem_iff,mm],by rw[p.length_eq];exact hl,a1.trans Ap.one⟩
theorem bX9{s t:List Str}(hs:s.length+t.length<64)(hz:∀z∈s,Tx z)(hz2:∀z∈t,Tx z):Wp (aJ5 [.tup (s.map D.str),.tup (t.map D.str)]) G λx G'=>∃m,x= .tup (m.map D.str)/\Ris m/\(∀z,z∈m↔z∈s\/z∈t)/\m.length<=s.length+t.length/\Ap G G':=by
 have bg:=big
 unfold aJ5 aV0
 have s0:([D.tup (s.map D.str),.tup (t.map D.str)].map some++jk (2 - [D.tup (s.map D.str),.tup (t.map D.str)].length) none:DSt)= [some (.tup (s.map D.str)),some (.tup (t.map D.str))]:=rfl
 simp only[aA3,s0,aF8,X6,T5,m5,R7,aI4,Q8,zy,zO,zE,exists_eq_left']
 rw[cX0 (by rw[ze,ze];omega),<-jr]
 refine⟨rfl,Wp.mono (bI1 (by rw[zM];exact hs) (λz hz'=>?_)) λx G1 ⟨m,e,r,mm,hl,a⟩=>⟨m,e,r,λz=>by rw[mm,jc],by rw[zM]at hl;exact hl,a⟩⟩
 rcases jc.mp hz' with h|h
 ·exact hz z h
 ·exact hz2 z h
noncomputable def inT(b:Bool)(s:List Str)(z:Str):Prop:=if b then z∈s else z∉s
structure Rw(s:List Str):Prop where
 ris:Ris s
 tx:∀z∈s,Tx z
 len:s.length<30
def fG8(b c:Bool)(s t:List Str)(G:DH)(x:D)(G':DH):Prop:=∃m,x=aK3 (b||c) m/\Ris m/\(∀z,inT (b||c) m z↔inT b s z/\inT c t z)/\(∀z∈m,z∈s\/z∈t)/\m.length<=s.length+t.length/\Ap G G'
theorem bM4(h:Ris s):Ris (s.filter p):=h.sublist Zl
theorem eN8(b:Bool):(wrd b==wOf)=b:=by cases b<;>decide
theorem dP9{s t:List Str}(hs:Rw s)(ht:Rw t):Wp (aH4 [aK3 b s,aK3 c t]) G (fG8 b c s t G):=by
 have l1:=hs.len
 have l2:=ht.len
 unfold aH4 aR1
 have s0:([aK3 b s,aK3 c t].map some++jk (2 - [aK3 b s,aK3 c t].length) none:DSt)= [some (.tup [.str (wrd b),.tup (s.map D.str)]),some (.tup [.str (wrd c),.tup (t.map D.str)])]:=rfl
 simp only[aA3,s0,d9,bC9,cV7,aL6,aF8,V8,X6,T5,m5,R7,aI4,bH7,Q8,j7,zy,zO,zE,exists_eq_left',ix_tup,at0,at1,eV1,bN3,eN8]
 cases b<;>cases c<;>simp only[jf,if_false,if_true]
 · refine⟨rfl,Wp.mono (bX9 (by omega) hs.tx ht.tx) λx G1 ⟨m,e,r,mm,hl,a⟩=>?_⟩
   subst e
   refine⟨sz,m,rfl,r,λz=>?_,λz hz=>(mm z).mp hz,hl,a⟩
   simp only[inT,Zz,jf,if_false,mm]
   exact not_or
 · refine⟨rfl,Wp.mono (bK3 (by omega) (by omega)) λx G1 ⟨e,a⟩=>?_⟩
   subst e
   refine⟨sz,_,rfl,bM4 ht.ris,λz=>?_,λz hz=>.inr (jE.mp hz).1,zC (xg _ _) (by omega),a⟩
   simp only[inT,Bool.or_true,jf,if_false,if_true,jE,ym,decide_eq_false_iff_not]
   exact And.comm
 · refine⟨rfl,Wp.mono (bK3 (by omega) (by omega)) λx G1 ⟨e,a⟩=>?_⟩
   subst e
   refine⟨sz,_,rfl,bM4 hs.ris,λz=>?_,λz hz=>.inl (jE.mp hz).1,zC (xg _ _) (by omega),a⟩
   simp only[inT,Zz,jf,if_false,if_true,jE,ym,decide_eq_false_iff_not]
 · refine⟨rfl,Wp.mono (cR0 (by omega) (by omega)) λx G1 ⟨e,a⟩=>?_⟩
   subst e
   refine⟨sz,_,rfl,bM4 hs.ris,λz=>?_,λz hz=>.inl (jE.mp hz).1,zC (xg _ _) (by omega),a⟩
   simp only[inT,Bool.or_self,if_true,jE,decide_eq_true_eq]
inductive NV where
 |num (i:Int)
 |txt (z:Str)
 |tru (b:Bool)
 |lst (n:Nat) (f:Nat->NV)
 |rcd (p:Str->Bool) (f:Str->NV)
structure Pt(α:Type) where
 ns:List Rg
 b:Bool
 ss:List Str
 bs:List Bool
 ls:Option (List α×α)
 rs:Option (List (Str×Bool×α)×α)
section
noncomputable def fld:List (Str×Bool×α)->α->Str->Bool×α
 |[],m,_=>(false,m)
 |e::fs,m,z=>if e.1=z then e.2 else fld fs m z
def frt(fs:List α)(m:α)(i:Nat):α:=(fs[i]?).getD m
variable(mem:α->NV->Prop)(gd:α->Prop)
def aO2(r:Option (List α×α))(n:Nat)(f:Nat->NV):Prop:=∃fs m,r=some (fs,m)/\fs.length<=n/\∀i,i<n->mem (frt fs m i) (f i)
def aL2(r:Option (List (Str×Bool×α)×α))(p:Str->Bool)(f:Str->NV):Prop:=∃fs m,r=some (fs,m)/\∀z,(p z=true->mem (fld fs m z).2 (f z))/\(p z=false->(fld fs m z).1=false)
def cB2(s:Pt α):NV->Prop
 | .num i=>inS s.ns i
 | .txt z=>inT s.b s.ss z
 | .tru b=>b∈s.bs
 | .lst n f=>aO2 mem s.ls n f
 | .rcd p f=>aL2 mem s.rs p f
def fJ2:Option (Pt α)->NV->Prop
 |none,_=>True
 |some s,v=>cB2 mem s v
noncomputable def aK4(r:Option (List α×α)):Prop:=∀fs m,r=some (fs,m)->gd m/\∀a∈fs,gd a/\∃v,mem a v
noncomputable def Nms(fs:List (Str×Bool×α)):Prop:=fs.Pairwise λe e'=>e.1.cps.toList<e'.1.cps.toList
def aE9(r:Option (List (Str×Bool×α)×α)):Prop:=∀fs m,r=some (fs,m)->gd m/\Nms fs/\∀e∈fs,gd e.2.2/\(e.2.1=true->∃v,mem e.2.2 v)/\(e.2.1=false->e.2.2≠m)
noncomputable def B4:List (List Bool):= [[], [false], [true], [false,true]]
structure GdP(s:Pt α):Prop where
 ns:Can s.ns
 ss:Ris s.ss
 bs:s.bs∈B4
 ls:aK4 mem gd s.ls
 rs:aE9 mem gd s.rs
def GdS:Option (Pt α)->Prop
 |none=>True
 |some s=>GdP mem gd s/\¬∀v,cB2 mem s v
noncomputable def Ext:Prop:=∀a b,gd a->gd b->(∀v,mem a v↔mem b v)->a=b
end
theorem cG7:∀l:List Str,∃N,∀z∈l,z.cps.size<N
 |[]=>⟨0,λ_ h=>nomatch h⟩
 |x::l=>by
   obtain⟨N,h⟩:=cG7 l
   refine⟨N+x.cps.size+1,λz hz=>?_⟩
   rcases zu.mp hz with rfl|hz
   ·lia
   ·have:=h z hz;lia
theorem fresh(l:List Str):∃z,z∉l:=by
 obtain⟨N,h⟩:=cG7 l
 refine⟨⟨Array.replicate N 0⟩,λhz=>?_⟩
 have:=h _ hz
 rw[Array.size_replicate]at this
 lia
theorem dT5(hs:Ris s)(ht:Ris t)(h:∀z,inT b s z↔inT c t z):b=c/\s=t:=by
 obtain⟨z,hz⟩:=fresh (s++t)
 have z1:z∉s:=λk=>hz (yF _ k)
 have z2:z∉t:=λk=>hz (zF _ k)
 rcases b with _|_<;>rcases c with _|_
 ·exact⟨rfl,cM0 hs ht λx=>Decidable.not_iff_not.mp (h x)⟩
 ·exact absurd ((h z).mp z1) z2
 ·exact absurd ((h z).mpr z2) z1
 ·exact⟨rfl,cM0 hs ht h⟩
theorem eH9:∀a∈B4,∀b∈B4,(∀k,k∈a↔k∈b)->a=b:=by
 unfold B4
 decide
section
variable{α:Type}{mem:α->NV->Prop}{gd:α->Prop}
theorem aN3(h:i<fs.length):frt fs m i=fs[i]:=by
 unfold frt;rw[zf h];rfl
theorem aP6(h:fs.length<=i):frt fs m i=m:=by
 unfold frt;rw[zN h];rfl
theorem cW8(fs:List α)(h:∀a∈fs,∃v,mem a v):∃f:Nat->NV,∀i hi,mem fs[i] (f i):=by
 refine⟨λi=>if hi:i<fs.length then (h fs[i] (jY hi)).choose else .num 0,λi hi=>?_⟩
 simp only[dif_pos hi]
 exact(h fs[i] (jY hi)).choose_spec
theorem bF9(h:∀i hi,mem fs[i] (f i)):aO2 mem (some (fs,m)) fs.length f:=
 ⟨fs,m,rfl,zo _,λi hi=>by rw[aN3 hi];exact h i hi⟩
theorem aC0:aO2 mem (some (fs,m)) n f↔fs.length<=n/\∀i,i<n->mem (frt fs m i) (f i):=
 ⟨fun⟨gs,k,e,h⟩=>by cases e;exact h,λh=>⟨fs,m,rfl,h⟩⟩
theorem aF3:¬aO2 mem none n f:=fun⟨_,_,e,_⟩=>nomatch e
theorem bS0(h1:aK4 mem gd (some (fs,m)))(h:∀n f,aO2 mem (some (fs,m)) n f↔aO2 mem (some (gs,k)) n f):gs.length<=fs.length:=by
 obtain⟨f,hf⟩:=cW8 fs λa ha=>((h1 fs m rfl).2 a ha).2
 exact(aC0.mp ((h _ _).mp (bF9 hf))).1
theorem cF6(h1:aK4 mem gd (some (fs,m)))(h:∀n f,aO2 mem (some (fs,m)) n f↔aO2 mem (some (gs,k)) n f)(i:Nat)(v:NV)(hv:mem (frt fs m i) v)(hi:i<=fs.length):mem (frt gs k i) v:=by
 obtain⟨f,hf⟩:=cW8 fs λa ha=>((h1 fs m rfl).2 a ha).2
 have w:aO2 mem (some (fs,m)) (max fs.length (i+1)) (λj=>if j=i then v else f j):=aC0.mpr ⟨by lia,λj hj=>by
  by_cases e:j=i
  ·rw[e];simp only[if_pos];exact hv
  · simp only[if_neg e]
    have hl:j<fs.length:=by lia
    rw[aN3 hl];exact hf j hl⟩
 have:=(aC0.mp ((h _ _).mp w)).2 i (by lia)
 simpa using this
theorem cZ0(he:Ext mem gd)(h1:aK4 mem gd r)(h2:aK4 mem gd t)(h:∀n f,aO2 mem r n f↔aO2 mem t n f):r=t:=by
 rcases r with _|⟨fs,m⟩<;>rcases t with _|⟨gs,k⟩
 ·rfl
 · obtain⟨f,hf⟩:=cW8 gs λa ha=>((h2 gs k rfl).2 a ha).2
   exact absurd ((h _ _).mpr (bF9 hf)) aF3
 · obtain⟨f,hf⟩:=cW8 fs λa ha=>((h1 fs m rfl).2 a ha).2
   exact absurd ((h _ _).mp (bF9 hf)) aF3
 · have hl:fs.length=gs.length:=Nat.le_antisymm (bS0 h2 λn f=>(h n f).symm) (bS0 h1 h)
   have e:∀i,i<=fs.length->gd (frt fs m i)->gd (frt gs k i)->frt fs m i=frt gs k i:=λi hi a b=>he _ _ a b λv=>⟨λhv=>cF6 h1 h i v hv hi,λhv=>cF6 h2 (λn f=>(h n f).symm) i v hv (hl▸hi)⟩
   have em:m=k:=by
    have:=e fs.length (zo _) (by rw[aP6 (zo _)];exact(h1 fs m rfl).1) (by rw[aP6 (xA hl.symm)];exact(h2 gs k rfl).1)
    rwa [aP6 (zo _),aP6 (xA hl.symm)]at this
   have ef:fs=gs:=xw hl λi ha hb=>by
    have:=e i (yt ha) (by rw[aN3 ha];exact((h1 fs m rfl).2 _ (jY ha)).1) (by rw[aN3 hb];exact((h2 gs k rfl).2 _ (jY hb)).1)
    rwa [aN3 ha,aN3 hb]at this
   rw[em,ef]
end
noncomputable abbrev nlt(a b:Str):Prop:=a.cps.toList<b.cps.toList
theorem aW5(a:Str):¬nlt a a:=Yr _
theorem eX7(h:nlt a b)(k:nlt b c):nlt a c:=List.lt_trans h k
section
variable{mem:α->NV->Prop}{gd:α->Prop}
theorem bG0{m:α}:z∈fs.map (·.1)->(z,fld fs m z)∈fs:=by
 induction fs with
 |nil=>intro h;cases h
 |cons e fs ih=>
   intro h
   unfold fld
   by_cases k:e.1=z
   ·rw[if_pos k,<-k];exact zq ..
   · rw[if_neg k]
     rcases zu.mp h with h|h
     ·exact absurd h.symm k
     ·exact zk _ (ih h)
theorem aD8{m:α}:z∉fs.map (·.1)->fld fs m z= (false,m):=by
 induction fs with
 |nil=>intro h;rfl
 |cons e fs ih=>
   intro h
   unfold fld
   rw[if_neg λk=>h (zu.mpr (.inl k.symm)),ih λk=>h (zk _ k)]
theorem cP9(hn:Nms fs)(he:e∈fs):fld fs m e.1=e.2:=by
 induction fs with
 |nil=>cases he
 |cons x fs ih=>
   unfold fld
   obtain⟨h1,h2⟩:=zU.mp hn
   rcases zu.mp he with rfl|he
   ·rw[if_pos rfl]
   ·rw[if_neg λk=>aW5 e.1 (by have:=h1 e he;rw[k]at this;exact this),ih h2 he]
theorem U0:aL2 mem (some (fs,m)) p f↔∀z,(p z=true->mem (fld fs m z).2 (f z))/\(p z=false->(fld fs m z).1=false):=
 ⟨fun⟨gs,k,e,h⟩=>by cases e;exact h,λh=>⟨fs,m,rfl,h⟩⟩
theorem aF1:¬aL2 mem none p f:=fun⟨_,_,e,_⟩=>nomatch e
theorem cB5{m:α}(h:aE9 mem gd (some (fs,m)))(k:(fld fs m z).1=true):∃v,mem (fld fs m z).2 v:=by
 by_cases hz:z∈fs.map (·.1)
 ·exact((h fs m rfl).2.2 _ (bG0 hz)).2.1 k
 ·rw[aD8 hz]at k;cases k
theorem dU1(h:aE9 mem gd (some (fs,m)))(z:Str):gd (fld fs m z).2:=by
 by_cases hz:z∈fs.map (·.1)
 ·exact((h fs m rfl).2.2 _ (bG0 hz)).1
 ·rw[aD8 hz];exact(h fs m rfl).1
theorem least(h:aE9 mem gd (some (fs,m))):∃f:Str->NV,∀z,(fld fs m z).1=true->mem (fld fs m z).2 (f z):=by
 refine⟨λz=>if k:(fld fs m z).1=true then (cB5 h k).choose else .num 0,λz k=>?_⟩
 simp only[dif_pos k]
 exact(cB5 h k).choose_spec
theorem aY4(h:∀z,(fld fs m z).1=true->mem (fld fs m z).2 (f z)):aL2 mem (some (fs,m)) (λz=>(fld fs m z).1) f:=U0.mpr λz=>⟨h z,id⟩
theorem bU7(h1:aE9 mem gd (some (fs,m)))(h:∀p f,aL2 mem (some (fs,m)) p f↔aL2 mem (some (gs,k)) p f)(z:Str)(e:(fld fs m z).1=false):(fld gs k z).1=false:=by
 obtain⟨f,hf⟩:=least h1
 exact(U0.mp ((h _ _).mp (aY4 hf)) z).2 e
theorem cU6(h1:aE9 mem gd (some (fs,m)))(h:∀p f,aL2 mem (some (fs,m)) p f↔aL2 mem (some (gs,k)) p f)(z:Str)(v:NV)(hv:mem (fld fs m z).2 v):mem (fld gs k z).2 v:=by
 obtain⟨f,hf⟩:=least h1
 have w:aL2 mem (some (fs,m)) (λy=>decide (y=z)||(fld fs m y).1) (λy=>if y=z then v else f y):=U0.mpr λy=>by
  by_cases e:y=z
  ·subst e;simp[hv]
  ·simp only[e,decide_false,Jn,if_false];exact⟨hf y,id⟩
 have:=(U0.mp ((h _ _).mp w) z).1 (by simp)
 simpa using this
theorem dI5:∀ {fs gs:List (Str×Bool×α)},Nms fs->Nms gs->(∀e,e∈fs↔e∈gs)->fs=gs
 |[], [],_,_,_=>rfl
 |[],g::gs,_,_,h=>nomatch (h g).mpr (zq ..)
 |f::fs, [],_,_,h=>nomatch (h f).mp (zq ..)
 |f::fs,g::gs,hf,hg,h=>by
   obtain⟨f1,f2⟩:=zU.mp hf
   obtain⟨g1,g2⟩:=zU.mp hg
   have e:f=g:=by
    rcases zu.mp ((h f).mp (zq ..))with e|a
    ·exact e
    · rcases zu.mp ((h g).mpr (zq ..))with e|b
      ·exact e.symm
      ·exact absurd (eX7 (f1 g b) (g1 f a)) (aW5 _)
   subst e
   rw[dI5 f2 g2 λe=>⟨λa=>?_,λa=>?_⟩]
   · rcases zu.mp ((h e).mp (zk _ a))with k|k
     ·exact absurd (f1 e a) (by rw[k];exact aW5 _)
     ·exact k
   · rcases zu.mp ((h e).mpr (zk _ a))with k|k
     ·exact absurd (g1 e a) (by rw[k];exact aW5 _)
     ·exact k
theorem dS2{fs gs:List (Str×Bool×α)}(h1:aE9 mem gd (some (fs,m)))(h2:aE9 mem gd (some (gs,m)))(e:∀z,fld fs m z=fld gs m z):fs=gs:=by
 have one:∀ {fs gs:List (Str×Bool×α)},aE9 mem gd (some (fs,m))->(∀z,fld fs m z=fld gs m z)->∀x∈fs,x∈gs:=λ{fs gs} h1 e x hx=>by
  have ex:=cP9 (m:=m) (h1 _ _ rfl).2.1 hx
  by_cases hz:x.1∈gs.map (·.1)
  · have:=bG0 (m:=m) hz
    rw[<-e,ex]at this
    exact this
  · have h3:x.2= (false,m):=by rw[<-ex,e,aD8 hz]
    exact absurd (congrArg (·.2) h3) (((h1 _ _ rfl).2.2 x hx).2.2 (congrArg (·.1) h3))
 exact dI5 (h1 _ _ rfl).2.1 (h2 _ _ rfl).2.1 λx=>⟨one h1 e x,one h2 (λz=>(e z).symm) x⟩
theorem dP2(he:Ext mem gd)(h1:aE9 mem gd r)(h2:aE9 mem gd t)(h:∀p f,aL2 mem r p f↔aL2 mem t p f):r=t:=by
 rcases r with _|⟨fs,m⟩<;>rcases t with _|⟨gs,k⟩
 ·rfl
 · obtain⟨f,hf⟩:=least h2
   exact absurd ((h _ _).mpr (aY4 hf)) aF1
 · obtain⟨f,hf⟩:=least h1
   exact absurd ((h _ _).mp (aY4 hf)) aF1
 · have h':=λp f=>(h p f).symm
   have e:∀z,fld fs m z=fld gs k z:=λz=>XT (by
    rcases a:(fld fs m z).1 with _|_
    ·exact(bU7 h1 h z a).symm
    · rcases b:(fld gs k z).1 with _|_
      ·exact absurd (bU7 h2 h' z b) (by rw[a];decide)
      ·rfl) (he _ _ (dU1 h1 z) (dU1 h2 z) λv=>⟨cU6 h1 h z v,cU6 h2 h' z v⟩)
   obtain⟨z,hz⟩:=fresh (fs.map (·.1)++gs.map (·.1))
   have em:m=k:=by
    have:=e z
    rw[aD8 λa=>hz (yF _ a),aD8 λa=>hz (zF _ a)]at this
    exact congrArg (·.2) this
   subst em
   rw[dS2 h1 h2 e]
theorem fI8(he:Ext mem gd):Ext (fJ2 mem) (GdS mem gd):=by
 intro a b ha hb h
 rcases a with _|a<;>rcases b with _|b
 ·rfl
 ·exact absurd (λv=>(h v).mp trivial) hb.2
 ·exact absurd (λv=>(h v).mpr trivial) ha.2
 · have e1:=cR3 ha.1.ns hb.1.ns λx=>h (.num x)
   have e2:=dT5 ha.1.ss hb.1.ss λx=>h (.txt x)
   have e3:=eH9 _ ha.1.bs _ hb.1.bs λx=>h (.tru x)
   have e4:=cZ0 he ha.1.ls hb.1.ls λn f=>h (.lst n f)
   have e5:=dP2 he ha.1.rs hb.1.rs λn f=>h (.rcd n f)
   rcases a with⟨a1,a2,a3,a4,a5,a6⟩
   rcases b with⟨b1,b2,b3,b4,b5,b6⟩
   obtain⟨e2,e2'⟩:=e2
   dsimp only at e1 e2 e2' e3 e4 e5
   rw[e1,e2,e2',e3,e4,e5]
end
noncomputable def CS:Nat->Type
 |0=>Unit
 |n+1=>Option (Pt (CS n))
def inC:(n:Nat)->CS n->NV->Prop
 |0=>λ_ _=>True
 |n+1=>fJ2 (inC n)
def Gd:(n:Nat)->CS n->Prop
 |0=>λ_=>True
 |n+1=>GdS (inC n) (Gd n)
theorem aS4:∀n,Ext (inC n) (Gd n)
 |0=>λ_ _ _ _ _=>rfl
 |n+1=>fI8 (aS4 n)
structure IsMt(n:Nat)(s t m:CS n):Prop where
 g:Gd n m
 i:∀v,inC n m v↔inC n s v/\inC n t v
section
variable{α:Type}{mem:α->NV->Prop}{gd:α->Prop}
structure IsM(mem:α->NV->Prop)(gd:α->Prop)(s t r:α):Prop where
 g:gd r
 i:∀v,mem r v↔mem s v/\mem t v
structure LsM(mem:α->NV->Prop)(gd:α->Prop)(fs:List α)(m:α)(gs:List α)(k:α)(hs:List α)(h:α):Prop where
 len:hs.length=max fs.length gs.length
 at_:∀i (hi:i<hs.length),IsM mem gd (frt fs m i) (frt gs k i) hs[i]
 more:IsM mem gd m k h
theorem LsM.frt(w:LsM mem gd fs m gs k hs h)(i:Nat):IsM mem gd (W.frt fs m i) (W.frt gs k i) (W.frt hs h i):=by
 have:=w.len
 by_cases hi:i<hs.length
 ·rw[aN3 hi];exact w.at_ i hi
 ·rw[aP6 (by lia),aP6 (by lia),aP6 (by lia)];exact w.more
theorem LsM.me(w:LsM mem gd fs m gs k hs h)(n:Nat)(f:Nat->NV):aO2 mem (some (hs,h)) n f↔aO2 mem (some (fs,m)) n f/\aO2 mem (some (gs,k)) n f:=by
 rw[aC0,aC0,aC0,w.len]
 constructor
 · rintro⟨a,b⟩
   exact⟨⟨by lia,λi hi=>((w.frt i).i _).mp (b i hi) |>.1⟩,by lia,λi hi=>((w.frt i).i _).mp (b i hi) |>.2⟩
 · rintro⟨⟨a,b⟩,c,d⟩
   exact⟨by lia,λi hi=>((w.frt i).i _).mpr ⟨b i hi,d i hi⟩⟩
structure RsM(mem:α->NV->Prop)(gd:α->Prop)(fs:List (Str×Bool×α))(m:α)(gs:List (Str×Bool×α))(k:α)(es:List (Str×Bool×α))(h:α):Prop where
 nms:Nms es
 all:∀z,z∈es.map (·.1)↔z∈fs.map (·.1)\/z∈gs.map (·.1)
 at_:∀e∈es,e.2.1= ((fld fs m e.1).1||(fld gs k e.1).1)/\IsM mem gd (fld fs m e.1).2 (fld gs k e.1).2 e.2.2
 more:IsM mem gd m k h
theorem RsM.fld(w:RsM mem gd fs m gs k es h)(z:Str):(W.fld es h z).1= ((W.fld fs m z).1||(W.fld gs k z).1)/\IsM mem gd (W.fld fs m z).2 (W.fld gs k z).2 (W.fld es h z).2:=by
 by_cases hz:z∈es.map (·.1)
 ·exact w.at_ _ (bG0 hz)
 · have:=(not_congr (w.all z)).mp hz
   rw[aD8 hz,aD8 λa=>this (.inl a),aD8 λa=>this (.inr a)]
   exact⟨rfl,w.more⟩
theorem dJ7(w:∀z,(fld es h z).1= ((fld fs m z).1||(fld gs k z).1)/\IsM mem gd (fld fs m z).2 (fld gs k z).2 (fld es h z).2)(p:Str->Bool)(f:Str->NV):aL2 mem (some (es,h)) p f↔aL2 mem (some (fs,m)) p f/\aL2 mem (some (gs,k)) p f:=by
 rw[U0,U0,U0]
 constructor
 · intro a
   refine⟨λz=>⟨λhp=>(((w z).2.i _).mp ((a z).1 hp)).1,λhp=>?_⟩,λz=>⟨λhp=>(((w z).2.i _).mp ((a z).1 hp)).2,λhp=>?_⟩⟩
   · have:=(a z).2 hp
     rw[(w z).1,Yt]at this
     exact this.1
   · have:=(a z).2 hp
     rw[(w z).1,Yt]at this
     exact this.2
 · rintro⟨a,b⟩ z
   refine⟨λhp=>((w z).2.i _).mpr ⟨(a z).1 hp,(b z).1 hp⟩,λhp=>?_⟩
   rw[(w z).1,(a z).2 hp,(b z).2 hp]
   rfl
theorem dF9(hn:Nms es)(hq:∀e∈es,q e=false->e.2= (false,h))(z:Str):fld (es.filter q) h z=fld es h z:=by
 induction es with
 |nil=>rfl
 |cons e es ih=>
   obtain⟨n1,n2⟩:=zU.mp hn
   have ih:=ih n2 λx hx=>hq x (zk _ hx)
   rcases k:q e with _|_
   · rw[ZI (by rw[k];decide),ih]
     conv=>rhs;unfold fld
     split
     · rename_i ez
       rw[hq e (zq ..) k]
       refine aD8 λhz=>?_
       obtain⟨x,hx,ex⟩:=zY.mp hz
       have:=n1 x hx
       rw[ex,ez]at this
       exact aW5 _ this
     ·rfl
   · rw[ZH k]
     unfold fld
     rw[ih]
open Classical in
noncomputable def bK1(h:α)(es:List (Str×Bool×α)):List (Str×Bool×α):=es.filter λe=>e.2.1||!decide (e.2.2=h)
structure fK5(mem:α->NV->Prop)(s:Pt α):Prop where
 ns:s.ns= [(none,none)]
 b:s.b=false
 ss:s.ss= []
 bs:s.bs= [false,true]
 ls:∃m,s.ls=some ([],m)/\∀v,mem m v
 rs:∃m,s.rs=some ([],m)/\∀v,mem m v
theorem cU2:Can [(none,none)]:=⟨λp hp _ _ e=>by rw[zr.mp hp]at e;exact J6 e,ZE ..⟩
theorem eG7(he:Ext mem gd)(h:GdP mem gd s):(∀v,cB2 mem s v)↔fK5 mem s:=by
 constructor
 · intro a
   have e2:=dT5 (c:=false) h.ss .nil λz=>⟨λ_ k=>(nomatch k),λ_=>a (.txt z)⟩
   refine⟨cR3 h.ns cU2 λx=>⟨λ_=>⟨(none,none),zr.mpr rfl,λa e=>J6 e,λa e=>J6 e⟩,λ_=>a (.num x)⟩,e2.1,e2.2,eH9 _ h.bs _ (by decide) λk=>⟨λ_=>by cases k<;>decide,λ_=>a (.tru k)⟩,?_,?_⟩
   · obtain⟨fs,m,e,hl,_⟩:=a (.lst 0 λ_=>.num 0)
     have:fs= []:=ZG.mp (Nat.le_zero.mp hl)
     subst this
     refine⟨m,e,λv=>?_⟩
     have:=a (.lst 1 λ_=>v)
     have:aO2 mem s.ls 1 λ_=>v:=this
     rw[e]at this
     exact(aC0.mp this).2 0 (by decide)
   · obtain⟨fs,m,e,hf⟩:=a (.rcd (λ_=>false) λ_=>.num 0)
     have al:∀z v,mem (fld fs m z).2 v:=λz v=>by
      have:aL2 mem s.rs (λ_=>true) λ_=>v:=a (.rcd (λ_=>true) λ_=>v)
      rw[e]at this
      exact(U0.mp this z).1 rfl
     obtain⟨z,hz⟩:=fresh (fs.map (·.1))
     have hm:∀v,mem m v:=λv=>by have:=al z v;rwa [aD8 hz]at this
     have g:=h.rs fs m e
     have:fs= []:=List.eq_nil_iff_forall_not_mem.mpr λx hx=>by
      have k:=cP9 (m:=m) g.2.1 hx
      have g2:=g.2.2 x hx
      refine g2.2.2 (by rw[<-k];exact(hf x.1).2 rfl) (he _ _ g2.1 g.1 λv=>⟨λ_=>hm v,λ_=>by have:=al x.1 v;rwa [k]at this⟩)
     subst this
     exact⟨m,e,hm⟩
 · rintro⟨h1,h2,h3,h4,⟨m,e,hm⟩,k,e',hk⟩ v
   rcases v with i|z|b|⟨n,f⟩|⟨p,f⟩
   · show inS s.ns i
     rw[h1]
     exact⟨(none,none),zr.mpr rfl,λa e=>J6 e,λa e=>J6 e⟩
   · show inT s.b s.ss z
     rw[h2,h3]
     exact λk=>nomatch k
   · show b∈s.bs
     rw[h4]
     cases b<;>decide
   · show aO2 mem s.ls n f
     rw[e]
     exact aC0.mpr ⟨jh _,λi _=>hm _⟩
   · show aL2 mem s.rs p f
     rw[e']
     exact U0.mpr λz=>⟨λ_=>hk _,λ_=>rfl⟩
end
noncomputable abbrev aZ4:Str:= "any"
def aD2(n:Nat)(G:DH)(x y:D)(P:Prop):Prop:=∃k,eqN n G x y=some k/\(k=true↔P)
def aB2(n:Nat)(G:DH)(x y:List D)(P:Prop):Prop:=∃k,eqL (eqN n G) x y=some k/\(k=true↔P)
section
theorem aD2.tup(h:aB2 n G a b P):aD2 (n+1) G (.tup a) (.tup b) P:=by
 obtain⟨k,e,i⟩:=h
 refine⟨k,?_,i⟩
 rw[cB6]
 show (if true=true then (if true=false/\_ then some false else eqL (eqN n G) a b)else some false)=_
 rw[if_pos rfl,if_neg (λh=>Bool.noConfusion h.1),e]
theorem aB2.nil:aB2 n G [] [] True:=⟨true,rfl,by simp⟩
theorem aD2.cons(h:aD2 n G x y P)(t:aB2 n G xs ys P'):aB2 n G (x::xs) (y::ys) (P/\P'):=by
 obtain⟨k,e,i⟩:=h
 obtain⟨k',e',i'⟩:=t
 refine⟨k&&k',by rw[cX4,e,e'],?_⟩
 rw[Bool.and_eq_true_iff,i,i']
theorem aD2.iff(h:aD2 n G x y P)(i:P↔P'):aD2 n G x y P':=h.elim λk z=>⟨k,z.1,z.2.trans i⟩
theorem aB2.iff(h:aB2 n G x y P)(i:P↔P'):aB2 n G x y P':=h.elim λk z=>⟨k,z.1,z.2.trans i⟩
theorem aB2.map{f:α->D}(h:∀a b,aD2 n G (f a) (f b) (a=b)):∀l m:List α,aB2 n G (l.map f) (m.map f) (l=m)
 |[], []=>aB2.nil.iff (by simp)
 |[],_::_=>⟨false,rfl,by simp⟩
 |_::_, []=>⟨false,rfl,by simp⟩
 |a::l,b::m=>((h a b).cons (aB2.map h l m)).iff (by rw[List.cons.injEq])
theorem bA9(a b:Str):aD2 (n+1) G (.str a) (.str b) (a=b):=⟨a==b,rfl,by simp⟩
theorem cU9(a b:Bool):aD2 (n+1) G (.bl a) (.bl b) (a=b):=⟨a==b,rfl,by simp⟩
theorem bB5(a b:Option Int):aD2 (n+1) G (Q6 a) (Q6 b) (a=b):=by
 rcases a with _|a<;>rcases b with _|b
 ·exact⟨true,rfl,by simp⟩
 ·exact⟨false,rfl,by simp⟩
 ·exact⟨false,rfl,by simp⟩
 ·exact⟨a==b,rfl,by simp⟩
theorem eQ4(p q:Rg):aD2 (n+2) G (rD p) (rD q) (p=q):=(aD2.tup ((bB5 p.1 q.1).cons ((bB5 p.2 q.2).cons aB2.nil))).iff (by rw[Jy];simp)
theorem dU4(b c:Bool)(s t:List Str):aD2 (n+3) G (aK3 b s) (aK3 c t) (b=c/\s=t):=(aD2.tup ((bA9 (wrd b) (wrd c)).cons ((aD2.tup (aB2.map bA9 s t)).cons aB2.nil))).iff (by
 have:wrd b=wrd c↔b=c:=by cases b<;>cases c<;>decide
 rw[this];simp)
end
theorem aV7(h:aD2 40 G x y P)(t:P->Q (.bl true) G)(f:¬P->Q (.bl false) G):Wp (eqD x y) G Q:=by
 obtain⟨k,e,i⟩:=h
 refine cB7.mpr ⟨k,e,?_⟩
 rcases k with _|_
 ·exact f λp=>nomatch (i.mpr p)
 ·exact t (i.mp rfl)
section
variable(en:α->D)
noncomputable def lsD:Option (List α×α)->D
 |none=>.non
 |some p=>.tup [.tup (p.1.map en),en p.2]
noncomputable def fdE(e:Str×Bool×α):D:=.tup [.str e.1,.bl e.2.1,en e.2.2]
def rcD:Option (List (Str×Bool×α)×α)->D
 |none=>.non
 |some p=>.tup [.tup (p.1.map (fdE en)),en p.2]
def fiv(s:Pt α):List D:= [.tup (rsD s.ns),aK3 s.b s.ss,.tup (s.bs.map D.bl),lsD en s.ls,rcD en s.rs]
def enS:Option (Pt α)->D
 |none=>.str aZ4
 |some s=>.tup (fiv en s)
def bT3(N:Nat):Prop:=∀k G a b,aD2 (k+(N+3)) G (en a) (en b) (a=b)
end
def enC:(n:Nat)->CS n->D
 |0=>λ_=>.str aZ4
 |n+1=>enS (enC n)
section
variable{α:Type}{en:α->D}{N:Nat}
theorem eC8(h:bT3 en N)(k:Nat)(G:DH)(a b:Option (List α×α)):aD2 (k+(N+5)) G (lsD en a) (lsD en b) (a=b):=by
 rcases a with _|⟨fs,m⟩<;>rcases b with _|⟨gs,l⟩
 ·exact⟨true,rfl,by simp⟩
 ·exact⟨false,rfl,by simp⟩
 ·exact⟨false,rfl,by simp⟩
 · have h2:=h (k+1) G m l
   rw[show k+1+(N+3)=k+(N+3)+1 by lia]at h2
   exact(aD2.tup ((aD2.tup (aB2.map (h k G) fs gs)).cons (h2.cons aB2.nil))).iff (by simp)
theorem dY1(h:bT3 en N)(k:Nat)(G:DH)(a b:Str×Bool×α):aD2 (k+(N+4)) G (fdE en a) (fdE en b) (a=b):=
 (aD2.tup ((bA9 a.1 b.1).cons ((cU9 a.2.1 b.2.1).cons ((h k G a.2.2 b.2.2).cons aB2.nil)))).iff (by rw[Jy,Jy];simp)
theorem eF3(h:bT3 en N)(k:Nat)(G:DH)(a b:Option (List (Str×Bool×α)×α)):aD2 (k+(N+6)) G (rcD en a) (rcD en b) (a=b):=by
 rcases a with _|⟨fs,m⟩<;>rcases b with _|⟨gs,l⟩
 ·exact⟨true,rfl,by simp⟩
 ·exact⟨false,rfl,by simp⟩
 ·exact⟨false,rfl,by simp⟩
 · have h2:=h (k+2) G m l
   rw[show k+2+(N+3)=k+(N+4)+1 by lia]at h2
   exact(aD2.tup ((aD2.tup (aB2.map (dY1 h k G) fs gs)).cons (h2.cons aB2.nil))).iff (by simp)
theorem dA6(h:bT3 en N):bT3 (enS en) (N+4):=by
 intro k G a b
 rcases a with _|a<;>rcases b with _|b
 ·exact⟨true,rfl,by simp⟩
 ·exact⟨false,rfl,by simp⟩
 ·exact⟨false,rfl,by simp⟩
 · have h2:=eC8 h (k+1) G a.ls b.ls
   rw[show k+1+(N+5)=k+(N+6) by lia]at h2
   exact(aD2.tup ((aD2.tup (aB2.map (eQ4) a.ns b.ns)).cons ((dU4 a.b b.b a.ss b.ss).cons ((aD2.tup (aB2.map (cU9) a.bs b.bs)).cons (h2.cons ((eF3 h k G a.rs b.rs).cons aB2.nil)))))).iff (by
    obtain⟨a1,a2,a3,a4,a5,a6⟩:=a
    obtain⟨b1,b2,b3,b4,b5,b6⟩:=b
    simp only[zE,Pt.mk.injEq,and_assoc,and_true])
end
theorem cA5:∀n,bT3 (enC n) (4*n)
 |0=>λk G a b=>(bA9 aZ4 aZ4).iff ⟨λ_=>rfl,λ_=>rfl⟩
 |n+1=>dA6 (cA5 n)
theorem aR6(hn:n<=8)(G:DH)(a b:CS n):aD2 40 G (enC n a) (enC n b) (a=b):=by
 have:=cA5 n (37-4*n) G a b
 rwa [show 37-4*n+(4*n+3)=40 by lia]at this
theorem dL2(h:enC n a=enC n b):a=b:=by
 obtain⟨k,e,i⟩:=cA5 n 0 [] a b
 obtain⟨k',e',i'⟩:=cA5 n 0 [] a a
 rw[<-h,e']at e
 cases e
 exact i.mp (i'.mpr rfl)
noncomputable def bW9(α:Type):Pt α:=⟨[],true, [], [],none,none⟩
def aF6:D:=.tup [.tup [],aK3 true [],.tup [],.non,.non]
section
variable{α:Type}{mem:α->NV->Prop}{gd:α->Prop}
theorem bM3(v:NV):¬cB2 mem (bW9 α) v:=by
 rcases v with i|z|b|⟨n,f⟩|⟨p,f⟩
 ·exact aO9
 ·exact λh=>(nomatch h)
 ·exact λh=>(nomatch h)
 ·exact aF3
 ·exact aF1
theorem dT1:GdS mem gd (some (bW9 α)):=⟨⟨⟨λ_ h=>(nomatch h),.nil⟩,.nil,show []∈B4 by decide,λ_ _ e=>(nomatch e),λ_ _ e=>(nomatch e)⟩,λh=>bM3 (.num 0) (h _)⟩
end
theorem eW0:∀ {n} {a},Gd n a->(enC n a=aF6↔∀v,¬inC n a v)
 |0,a,_=>⟨λe=>D.noConfusion e,λe=>absurd trivial (e (.num 0))⟩
 |n+1,a,h=>⟨λe v k=>by
   have:a=some (bW9 _):=dL2 e
   rw[this]at k
   exact bM3 v k,λe=>by
   have:a=some (bW9 _):=aS4 (n+1) _ _ h dT1 λv=>⟨λk=>absurd k (e v),λk=>absurd k (bM3 v)⟩
   rw[this];rfl⟩
theorem aB5:∀ {n} (hn:n<=8) G a,Gd n a->aD2 40 G (enC n a) aF6 (∀v,¬inC n a v)
 |0,_,_,a,_=>⟨false,rfl,λe=>(nomatch e),λe=>absurd trivial (e (.num 0))⟩
 |n+1,hn,G,a,h=>(aR6 hn G a (some (bW9 _))).iff ((show a=some (bW9 _)↔enC (n+1) a=aF6 from⟨λe=>by rw[e];rfl,λe=>dL2 e⟩).trans (eW0 h))
structure SzP{α:Type}(sz:α->Prop)(k:Nat)(s:Pt α):Prop where
 ns:s.ns.length<=k
 ss:s.ss.length<=k
 tx:∀z∈s.ss,Tx z
 ls:∀fs m,s.ls=some (fs,m)->fs.length<=k/\sz m/\∀a∈fs,sz a
 rs:∀fs m,s.rs=some (fs,m)->fs.length<=k/\sz m/\∀e∈fs,sz e.2.2/\Tx e.1/\0<e.1.length
def SzC:(n:Nat)->Nat->CS n->Prop
 |0,_=>λ_=>True
 |n+1,k=>λa=>∀s,a=some s->SzP (SzC n k) k s
section
variable{α:Type}{mem:α->NV->Prop}{gd:α->Prop}
theorem dP3(hn:Nms es)(z:Str):fld (bK1 h es) h z=fld es h z:=dF9 hn (λe he k=>by
 rcases e with⟨x,b,a⟩
 simp only[Yt,Bool.not_eq_false',decide_eq_true_eq]at k
 exact XT k.1 k.2) z
theorem dO6(hn:Nms es)(p:Str->Bool)(f:Str->NV):aL2 mem (some (bK1 h es,h)) p f↔aL2 mem (some (es,h)) p f:=by
 rw[U0,U0]
 exact forall_congr' λz=>by rw[dP3 hn]
theorem eB2(hn:Nms es)(he:e∈es)(hm:e.2.1=true)(no:∀v,¬mem e.2.2 v)(p:Str->Bool)(f:Str->NV):¬aL2 mem (some (es,h)) p f:=λz=>by
 have a:=U0.mp z e.1
 rw[cP9 hn he]at a
 rcases hp:p e.1 with _|_
 · have:=a.2 hp
   rw[hm]at this
   cases this
 ·exact no _ (a.1 hp)
theorem dK1(ha:a∈fs)(e:∀v,¬mem a v)(n:Nat)(f:Nat->NV):¬aO2 mem (some (fs,m)) n f:=λz=>by
 obtain⟨i,hi,rfl⟩:=jX.mp ha
 have:=aC0.mp z
 have h2:=this.2 i (by lia)
 rw[aN3 hi]at h2
 exact e _ h2
noncomputable def cL9(gd:α->Prop)(r:Option (List α×α)):Prop:=∀fs m,r=some (fs,m)->gd m/\∀a∈fs,gd a
def cL2(gd:α->Prop)(r:Option (List (Str×Bool×α)×α)):Prop:=∀fs m,r=some (fs,m)->gd m/\Nms fs/\∀e∈fs,gd e.2.2
end
section
variable{n:Nat}{G:DH}
theorem cV8(hn:n<=8):∀fs:List (CS n),(∀a∈fs,Gd n a)->∃b,aS6 G aF6 (fs.map (enC n))=some b/\(b=true↔∃a∈fs,∀v,¬inC n a v)
 |[],_=>⟨false,rfl,by simp⟩
 |f::r,h=>by
   obtain⟨b,e,hb⟩:=aB5 hn G f (h f (zq ..))
   obtain⟨c,e',hc⟩:=cV8 hn r λx hx=>h x (zk _ hx)
   refine⟨b||c,by rw[zB];unfold aS6;rw[e,e'],?_⟩
   rw[Bool.or_eq_true,hb,hc]
   simp
structure LiQ(n:Nat)(r0 r:Option (List (CS n)×CS n)):Prop where
 good:aK4 (inC n) (Gd n) r
 mem:∀k f,aO2 (inC n) r k f↔aO2 (inC n) r0 k f
 one:r=none\/r=r0
theorem eQ8(hn:n<=8)(h:cL9 (Gd n) r):Wp (aE1 [lsD (enC n) r]) G λx G'=>G'=G/\∃r',x=lsD (enC n) r'/\LiQ n r r':=by
 rcases r with _|⟨fs,m⟩
 ·exact aL5 rfl ⟨rfl,none,rfl,λ_ _ e=>(nomatch e),λ_ _=>Iff.rfl,.inl rfl⟩
 · obtain⟨hm,hf⟩:=h fs m rfl
   obtain⟨b,e,hb⟩:=cV8 (G:=G) hn fs hf
   have ei:inX aF6 (.tup (fs.map (enC n))) G=some (.ok (.bl b),G):=by unfold inX cG3;simp only[e]
   refine K7 (show Wp (aK1 [some (.tup [.tup (fs.map (enC n)),enC n m])]) G _ from ?_)
   refine K1<| cN3.mpr<| aD1<| c7 rfl ⟨λz=>(nomatch z),λ_=>m9<| t8 rfl rfl<| c7 ei ⟨_,rfl,?_⟩⟩
   rcases b with _|_
   · refine c7 rfl (J8 ⟨rfl,some (fs,m),rfl,?_,λ_ _=>Iff.rfl,.inr rfl⟩)
     rintro _ _ ⟨⟩
     refine⟨hm,λa ha=>⟨hf a ha,zW λz=>?_⟩⟩
     exact nomatch hb.mpr ⟨a,ha,λv k=>z ⟨v,k⟩⟩
   · obtain⟨a,ha,ea⟩:=hb.mp rfl
     exact c7 rfl (J8 ⟨rfl,none,rfl,λ_ _ e=>(nomatch e),λk f=>⟨λz=>absurd z aF3,λz=>absurd z (dK1 ha ea k f)⟩,.inl rfl⟩)
structure ReQ(n:Nat)(r0 r:Option (List (Str×Bool×CS n)×CS n)):Prop where
 good:aE9 (inC n) (Gd n) r
 mem:∀k f,aL2 (inC n) r k f↔aL2 (inC n) r0 k f
 one:r=none\/∃es h,r0=some (es,h)/\r=some (bK1 h es,h)
def noB(G:DH):D->Bool
 | .tup [_,.bl t,s]=>t&&(eqN 40 G s aF6).getD false
 |_=>false
def stB(G:DH)(m:D):D->Bool
 | .tup [_,.bl t,s]=>t||!(eqN 40 G s m).getD false
 |_=>false
theorem eV5{l:List D}(h:G[r]? =some (.lst (l.map λx=>.bl (f x)))):Wp (dO1 [.ref r]) G Q↔Q (.bl (l.any f)) G:=by
 have h0:dO1 [.ref r]= (do
  let l <-R1 r >>= DL.listOf
  let bs <-aI5 (aX0 l)
  pure (.bl (bs.any id))):=rfl
 rw[h0]
 simp only[j6,S8,h,T8,DL.listOf,wp_pure,aF7,bX3,ZT]
 rfl
theorem fA2(hn:n<=8)(h:cL2 (Gd n) r)(hl:∀es m,r=some (es,m)->es.length<=10000):Wp (aA6 [rcD (enC n) r]) G λx G'=>Ap G G'/\∃r',x=rcD (enC n) r'/\ReQ n r r':=by
 rcases r with _|⟨es,m⟩
 ·exact aL5 rfl ⟨Ap.refl,none,rfl,λ_ _ e=>(nomatch e),λ_ _=>Iff.rfl,.inl rfl⟩
 · obtain⟨hm,hnm,hf⟩:=h es m rfl
   have hl:=hl es m rfl
   have hc1:N6 (aZ7 3 (Q3 (q16 0) (Q3 (q16 1) (Q3 (q16 2) (aZ1))))) aC8 (aQ5 (b7 1) (b8 eqD (b7 2) (cE (.tup [.tup [],.tup [.str ("of" :Str),.tup []],.tup [],.non,.non])))) (λ_=>true) (es.map (fdE (enC n))) (W3 [none,none,none] [some (.tup [.tup (es.map (fdE (enC n))),enC n m])]) G=some (.ok ((es.map (fdE (enC n))).map λd=>.bl (noB G d)),G):=by
    refine aM1 (I:=λσ=>∃a b c,σ= [a,b,c]) rfl _ _ ⟨_,_,_,rfl⟩ λd hd σ WY=>?_
    obtain⟨f,hf',rfl⟩:=zY.mp hd
    obtain⟨a,b,c,rfl⟩:=WY
    obtain⟨q,e,_⟩:=aB5 hn G f.2.2 (hf f hf')
    refine⟨[some (.str f.1),some (.bl f.2.1),some (enC n f.2.2)],rfl,⟨_,_,_,rfl⟩,rfl,O7 ?_⟩
    have en:noB G (fdE (enC n) f)= (f.2.1&&(eqN 40 G (enC n f.2.2) aF6).getD false):=rfl
    rw[en,e]
    refine cA1.mpr<| c7 rfl<| V9.mpr ?_
    rcases f.2.1 with _|_
    ·exact⟨rfl,rfl⟩
    ·exact t8 rfl rfl<| cB7.mpr ⟨q,e,rfl,rfl⟩
   have hb:(es.map (fdE (enC n))).any (noB G)=true↔∃f∈es,f.2.1=true/\∀v,¬inC n f.2.2 v:=by
    rw[ZT,xY]
    refine exists_congr λf=>and_congr_right λhf'=>?_
    obtain⟨q,e,hq⟩:=aB5 hn G f.2.2 (hf f hf')
    show (f.2.1&&(eqN 40 G (enC n f.2.2) aF6).getD false)=true↔_
    rw[e,zZ]
    exact and_congr_right λ_=>hq
   refine K7 (show Wp (aG3 [some (.tup [.tup (es.map (fdE (enC n))),enC n m])]) G _ from ?_)
   refine d9.mpr<| Q4<| aD1<| c7 rfl ⟨λz=>(nomatch z),λ_=>aJ4.mpr<| M7<| m7<| aJ0 rfl (by rw[ze];exact hl)<| c7 hc1<| m5.mpr<| (eV5 m6).mpr<| V9.mpr ⟨λg=>?_,λg=>j7.mpr ?_⟩⟩
   · obtain⟨e,he,h1,h2⟩:=hb.mp g
     exact c7 rfl (J8 ⟨Ap.one,none,rfl,λ_ _ e=>(nomatch e),λp f=>⟨λz=>absurd z aF1,λz=>absurd z (eB2 hnm he h1 h2 p f)⟩,.inl rfl⟩)
   · have hne:∀f∈es,f.2.1=true->∃v,inC n f.2.2 v:=λf hf' a=>zW λb=>by
      have:=hb.mpr ⟨f,hf',a,λv k=>b ⟨v,k⟩⟩
      rw[this]at g
      cases g
     have j1:Ap G (G++[.lst ((es.map (fdE (enC n))).map λd=>.bl (noB G d))]):=Ap.one
     generalize G++[DO.lst ((es.map (fdE (enC n))).map λd=>.bl (noB G d))]=G1 at j1
     have hc:N6 (q16 0) (orT (u6 (b8 ixD (b7 0) (cE (.int 1)))) (f9 (b8 neD (b8 ixD (b7 0) (cE (.int 2))) (b8 ixD (b7 1) (cE (.int 1)))))) (b7 0) (λ_=>true) (es.map (fdE (enC n))) (W3 [none,some 0] [some (.tup [.tup (es.map (fdE (enC n))),enC n m])]) G1=some (.ok ((es.map (fdE (enC n))).filter (stB G1 (enC n m))),G1):=by
      refine aB1 rfl (λσ=>∃u,σ= [u,some (.tup [.tup (es.map (fdE (enC n))),enC n m])]) _ _ ⟨none,rfl⟩ λd hd σ WY=>?_
      obtain⟨f,hf',rfl⟩:=zY.mp hd
      obtain⟨u,rfl⟩:=WY
      refine⟨[some (fdE (enC n) f),some (.tup [.tup (es.map (fdE (enC n))),enC n m])],rfl,⟨_,rfl⟩,O7 ?_,rfl⟩
      obtain⟨q,e,_⟩:=aR6 hn G1 f.2.2 m
      refine aD1<| c7 rfl ⟨λg=>⟨?_,rfl⟩,λg=>m9<| t8 rfl rfl<| aO5.mpr ⟨q,e,_,rfl,?_,rfl⟩⟩
      ·show true= (f.2.1||!(eqN 40 G1 (enC n f.2.2) (enC n m)).getD false);rw[g];rfl
      ·show (!q)= (f.2.1||!(eqN 40 G1 (enC n f.2.2) (enC n m)).getD false);rw[g,e];rfl
     have ef:(es.map (fdE (enC n))).filter (stB G1 (enC n m))= (bK1 m es).map (fdE (enC n)):=by
      rw[Zh]
      unfold bK1
      congr 1
      refine List.filter_congr λf _=>?_
      obtain⟨q,e,hq⟩:=aR6 hn G1 f.2.2 m
      show (f.2.1||!(eqN 40 G1 (enC n f.2.2) (enC n m)).getD false)=_
      rw[e]
      congr 2
      rw[Bool.eq_iff_iff]
      exact hq.trans (@decide_eq_true_iff _ (Classical.propDecidable _)).symm
     rw[ef]at hc
     refine K1<| V8.mpr<| m7<| M7<| m7<| aJ0 rfl (by rw[ze];exact hl)<| c7 hc<| m5.mpr<| (K9 m6).mpr<| c7 rfl ⟨sz,J8 ⟨j1.trans Ap.one,some (bK1 m es,m),rfl,?_,dO6 hnm,.inr ⟨es,m,rfl,rfl⟩⟩⟩
     rintro _ _ ⟨⟩
     refine⟨hm,hnm.sublist Zl,λe he=>?_⟩
     obtain⟨h1,h2⟩:=jE.mp he
     refine⟨hf e h1,hne e h1,λhb hm=>?_⟩
     simp only[hb,hm,decide_true]at h2
     cases h2
end
theorem bN0(J:DH->Prop)(S:DSt->Prop)(rel:D->D->Prop)(hck:∀G,J G->ck G=true):∀items σ G,S σ->J G->
 (∀d∈items,∀ σ G,S σ->J G->Wp (g d σ) G λW1 G1=>G1=G/\S W1/\Wp (e W1) G λy G3=>J G3/\rel d y)->
 Wp (N6 g aC8 e ck items σ) G λys G'=>J G'/\∃zs:List (D×D),zs.map (·.1)=items/\ys=zs.map (·.2)/\∀z∈zs,rel z.1 z.2
 |[],σ,G,s,j,_=>bO0.mpr ⟨hck G j,j, [],rfl,rfl,λ_ h=>nomatch h⟩
 |d::r,σ,G,s,j,step=>by
   refine bL5.mpr ⟨hck G j,(step d (zq ..) σ G s j).mono λW1 G1 ⟨e1,s1,w1⟩=>?_⟩
   subst e1
   refine c7 rfl ?_
   rw[if_pos rfl]
   refine w1.mono λy G3 ⟨j3,py⟩=>?_
   refine(bN0 J S rel hck r W1 G3 s1 j3 λd hd=>step d (zk _ hd)).mono λys G4 ⟨j4,zs,h1,h2,h3⟩=>⟨j4,(d,y)::zs,by rw[zB,h1],by rw[zB,h2],λz hz=>?_⟩
   rcases zu.mp hz with rfl|hz
   ·exact py
   ·exact h3 z hz
theorem dE0{e:β->D}{P:D->β->Prop}:∀zs:List (D×D),(∀z∈zs,∃m,z.2=e m/\P z.1 m)->∃hs:List β,zs.map (·.2)=hs.map e/\hs.length=zs.length/\∀(i:Nat) a d,hs[i]? =some a->(zs.map (·.1))[i]? =some d->P d a
 |[],_=>⟨[],rfl,rfl,λi a d h=>by simp at h⟩
 |z::zs,h=>by
   obtain⟨m,e1,p1⟩:=h z (zq ..)
   obtain⟨hs,e2,l2,p2⟩:=dE0 zs λx hx=>h x (zk _ hx)
   refine⟨m::hs,by rw[zB,zB,e1,e2],by rw[zD,zD,l2],λi a d ha hd=>?_⟩
   rcases i with _|i
   · simp only[zB,zy,zE]at ha hd
     rw[<-ha,<-hd];exact p1
   · simp only[zB,zO]at ha hd
     exact p2 i a d ha hd
section
theorem cJ6{i:Nat}:aN2 [lsD (enC n) (some (fs,m)),.int (i:Int)] G=some (.ok (enC n (frt fs m i)),G):=O7<| by
 refine K7 (show Wp (aY2 [some (.tup [.tup (fs.map (enC n)),enC n m]),some (.int (i:Int))]) G _ from ?_)
 refine K1<| cN3.mpr<| m9<| t8 rfl rfl<| aU9.mpr ⟨_,rfl,?_⟩
 by_cases h:i<fs.length
 · have e:decide ((i:Int)<((fs.map (enC n)).length:Int))=true:=by rw[ze];exact decide_eq_true (by lia)
   rw[e,if_pos rfl]
   refine t8 rfl rfl ?_
   refine ix_tup.mpr ⟨_,atI_nat ?_,J8 ⟨rfl,rfl⟩⟩
   rw[aN3 h,zG,zf h]
   rfl
 · have e:decide ((i:Int)<((fs.map (enC n)).length:Int))=false:=by rw[ze];exact decide_eq_false (by lia)
   rw[e,aP6 (YS.mp h)]
   exact c7 rfl (J8 ⟨rfl,rfl⟩)
def MAt(n:Nat)(R:List D->M D)(j k:Nat):Prop:=∀(s t:CS n) (G:DH),Gd n s->Gd n t->SzC n j s->SzC n k t->Wp (R [enC n s,enC n t]) G λx G'=>Ap G G'/\∃m,x=enC n m/\IsM (inC n) (Gd n) s t m/\SzC n (j+k) m
def lsZ(n k:Nat)(r:Option (List (CS n)×CS n)):Prop:=∀fs m,r=some (fs,m)->fs.length<=k/\SzC n k m/\∀a∈fs,SzC n k a
theorem dI6(h:cL9 (Gd n) (some (fs,m)))(i:Nat):Gd n (frt fs m i):=by
 by_cases hi:i<fs.length
 ·rw[aN3 hi];exact(h _ _ rfl).2 _ (jY hi)
 ·rw[aP6 (YS.mp hi)];exact(h _ _ rfl).1
theorem dJ1(h:lsZ n k (some (fs,m)))(i:Nat):SzC n k (frt fs m i):=by
 by_cases hi:i<fs.length
 ·rw[aN3 hi];exact(h _ _ rfl).2.2 _ (jY hi)
 ·rw[aP6 (YS.mp hi)];exact(h _ _ rfl).2.1
structure MlQ(n k:Nat)(a b r:Option (List (CS n)×CS n)):Prop where
 raw:cL9 (Gd n) r
 mem:∀q f,aO2 (inC n) r q f↔aO2 (inC n) a q f/\aO2 (inC n) b q f
 sz:lsZ n k r
theorem fD9{R:List D->M D}{a b:Option (List (CS n)×CS n)}(hjk:j+k<=47)(ih:MAt n R j k)(ga:cL9 (Gd n) a)(gb:cL9 (Gd n) b)(sa:lsZ n j a)(sb:lsZ n k b):Wp (aH1 R [lsD (enC n) a,lsD (enC n) b]) G λx G'=>Ap G G'/\∃r,x=lsD (enC n) r/\MlQ n (j+k) a b r:=by
 rcases a with _|⟨fs,m⟩
 ·exact aL5 rfl ⟨Ap.refl,none,rfl,λ_ _ e=>(nomatch e),λ_ _=>⟨λz=>absurd z aF3,λz=>absurd z.1 aF3⟩,λ_ _ e=>(nomatch e)⟩
 rcases b with _|⟨gs,l⟩
 ·exact aL5 rfl ⟨Ap.refl,none,rfl,λ_ _ e=>(nomatch e),λ_ _=>⟨λz=>absurd z aF3,λz=>absurd z.2 aF3⟩,λ_ _ e=>(nomatch e)⟩
 have l1:=(sa fs m rfl).1
 have l2:=(sb gs l rfl).1
 generalize hA:lsD (enC n) (some (fs,m))=A
 generalize hB:lsD (enC n) (some (gs,l))=B
 have A0:A= .tup [.tup (fs.map (enC n)),enC n m]:=hA.symm
 have B0:B= .tup [.tup (gs.map (enC n)),enC n l]:=hB.symm
 refine K7 (show Wp (aL1 R [some A,some B,none,none]) G _ from ?_)
 unfold aL1
 refine Z9 (X2:= [some A,some B,none,none]) (by rw[A0,B0];rfl) ?_
 have em:dH3 [.int ((fs.map (enC n)).length:Int),.int ((gs.map (enC n)).length:Int)] G=some (.ok (.int ((max fs.length gs.length:Nat):Int)),G):=by
  rw[ze,ze]
  show some (Except.ok (D.int (if (gs.length:Int)>(fs.length:Int)then (gs.length:Int)else (fs.length:Int))),G)=_
  congr 4
  split<;>lia
 refine d9.mpr<| N7<| aJ6 (by rw[A0,B0];rfl)<| c7 em ?_
 refine d9.mpr<| N7<| cC4 rfl (by lia) (by lia) ?_
 refine(bN0 (λG'=>Ap G G') (λσ=>∃u,σ= [u,some A,some B]) (λd y=>∀i:Nat,d= .int (i:Int)->∃c,y=enC n c/\IsM (inC n) (Gd n) (frt fs m i) (frt gs l i) c/\SzC n (j+k) c) (λ_ _=>rfl) _ _ _ ⟨none,rfl⟩ Ap.refl ?_).mono ?_
 · intro d hd σ G1 WY a1
   obtain⟨u,rfl⟩:=WY
   obtain⟨i,hi,rfl⟩:=zY.mp hd
   refine c7 rfl ⟨rfl,⟨_,rfl⟩,?_⟩
   rw[JO]
   refine j8 (G1:=G1) (as:= [enC n (frt fs m i),enC n (frt gs l i)]) ?_ rfl ?_
   · refine O7<| m7<| j8 rfl rfl<| c7 (by rw[<-hA];exact cJ6) ?_
     exact m7<| j8 rfl rfl<| c7 (by rw[<-hB];exact cJ6)<| m5.mpr ⟨rfl,rfl⟩
   · refine(ih _ _ G1 (dI6 ga i) (dI6 gb i) (dJ1 sa i) (dJ1 sb i)).mono ?_
     rintro x G2 ⟨a2,c,rfl,hc,sc⟩
     exact⟨a1.trans a2,λi' e=>by cases Int.ofNat.inj (D.int.inj e);exact⟨c,rfl,hc,sc⟩⟩
 · rintro ys G1 ⟨a1,zs,e1,rfl,hz⟩
   obtain⟨hs,e2,e3,e4⟩:=dE0 (P:=λd c=>∀i:Nat,d= .int (i:Int)->IsM (inC n) (Gd n) (frt fs m i) (frt gs l i) c/\SzC n (j+k) c) zs λz hz'=>by
    have hm:z.1∈zs.map (·.1):=zY.mpr ⟨z,hz',rfl⟩
    rw[e1]at hm
    obtain⟨i,_,ei⟩:=zY.mp hm
    rw[JO]at ei
    obtain⟨c,e5,h5⟩:=hz z hz' i ei.symm
    refine⟨c,e5,λi' e'=>?_⟩
    rw[<-ei]at e'
    cases Int.ofNat.inj (D.int.inj e')
    exact h5
   rw[e2]
   have hl:hs.length=max fs.length gs.length:=by
    rw[e3,<-ze,e1];unfold K6;simp
   have at_:∀i (hi:i<hs.length),IsM (inC n) (Gd n) (frt fs m i) (frt gs l i) hs[i]/\SzC n (j+k) hs[i]:=λi hi=>by
    refine e4 i hs[i] (.int (i:Int)) (zf hi) ?_ i rfl
    rw[e1]
    unfold K6
    simp only[jR,zG]
    rw[List.getElem?_range (by rw[<-hl];exact hi)]
    simp
   refine K1<| V8.mpr<| m7<| aJ6 rfl<| (K9 m6).mpr<| m7 ?_
   refine j8 (by rw[A0,B0];rfl) rfl ?_
   refine(ih m l _ (ga _ _ rfl).1 (gb _ _ rfl).1 (sa _ _ rfl).2.1 (sb _ _ rfl).2.1).mono ?_
   rintro x G2 ⟨a2,h,rfl,hh,sh⟩
   have w:LsM (inC n) (Gd n) fs m gs l hs h:=⟨hl,λi hi=>(at_ i hi).1,hh⟩
   refine m5.mpr ⟨sz,J8 ⟨a1.trans (Ap.one.trans a2),some (hs,h),rfl,?_,w.me,?_⟩⟩
   · rintro _ _ ⟨⟩
     refine⟨hh.g,λa ha=>?_⟩
     obtain⟨i,hi,rfl⟩:=jX.mp ha
     exact(at_ i hi).1.g
   · rintro _ _ ⟨⟩
     refine⟨by lia,sh,λa ha=>?_⟩
     obtain⟨i,hi,rfl⟩:=jX.mp ha
     exact(at_ i hi).2
end
theorem cQ8(e:G[p]? =some (.lst l)):ckO p (.lst l) G=true:=by simp only[ckO,e];simp
theorem cR6:∀(r acc:List (Str×D)),((acc++r).map (·.1)).Nodup->DL.putAll (acc.map λp=>((.inr p.1:Key),p.2)) (r.map λp=>((.inr p.1:Key),p.2))= (acc++r).map λp=>((.inr p.1:Key),p.2)
 |[],acc,h=>by simp[DL.putAll]
 |p::r,acc,h=>by
   have hn:¬((acc.map λp=>((.inr p.1:Key),p.2)).any λkv=>decide (kv.1= .inr p.1))=true:=by
    intro q
    obtain⟨kv,hk,e⟩:=xY.mp q
    obtain⟨x,hx,rfl⟩:=zY.mp hk
    have ex:x.1=p.1:=Sum.inr.inj (of_decide_eq_true e)
    rw[jr,yE]at h
    exact h.2.2 x.1 (zY.mpr ⟨x,hx,rfl⟩) p.1 (by simp) ex
   have e1:aX6 (acc.map λp=>((.inr p.1:Key),p.2)) (.inr p.1) p.2= (acc++[p]).map λp=>((.inr p.1:Key),p.2):=by
    unfold aX6
    rw[if_neg hn,jr];rfl
   have ih:=cR6 r (acc++[p]) (by simpa using h)
   show DL.putAll (aX6 (acc.map λp=>((.inr p.1:Key),p.2)) (.inr p.1) p.2) (r.map λp=>((.inr p.1:Key),p.2))=_
   rw[e1,ih]
   simp
section
def pD(n:Nat)(x:Bool×CS n):D:=.tup [.bl x.1,enC n x.2]
def tvE(n:Nat)(e:Str×Bool×CS n):Key×D:=(.inr e.1,pD n e.2)
theorem cE4:∀es:List (Str×Bool×CS n),aP2 (es.map λf=>.tup [.str f.1,pD n f.2])=some (es.map (tvE n))
 |[]=>rfl
 |f::r=>by
   have:=cE4 r
   rw[zB,zB]
   unfold aP2
   simp only[this]
   rfl
theorem eY0(es:List (Str×Bool×CS n))(h:(es.map (·.1)).Nodup):putAll [] (es.map (tvE n))=es.map (tvE n):=by
 have e:es.map (tvE n)= (es.map λf=>((f.1,pD n f.2):Str×D)).map λp=>((.inr p.1:Key),p.2):=by rw[jK];rfl
 have:=cR6 (es.map λf=>((f.1,pD n f.2):Str×D)) [] (by simpa [jK,xK]using h)
 simp only[Zn,Ya]at this
 rw[e,this]
theorem bX2:∀es:List (Str×Bool×CS n),v8 (es.map (tvE n))=some (es.map (·.1))
 |[]=>rfl
 |f::r=>by
   have:=bX2 r
   rw[zB,zB]
   show (v8 (r.map (tvE n))).map (f.1 :: ·)=_
   rw[this];rfl
theorem cT6(m:CS n)(z:Str):∀es:List (Str×Bool×CS n),(aC7 (es.map (tvE n)) (.inr z)).getD (pD n (false,m))=pD n (fld es m z)
 |[]=>rfl
 |f::r=>by
   rw[zB]
   unfold fld
   by_cases e:f.1=z
   · have h1:aC7 (tvE n f::r.map (tvE n)) (.inr z)=some (pD n f.2):=by unfold aC7 tvE;simp[e]
     rw[h1,if_pos e];rfl
   · have h1:aC7 (tvE n f::r.map (tvE n)) (.inr z)=aC7 (r.map (tvE n)) (.inr z):=by unfold aC7 tvE;simp[e]
     rw[h1,if_neg e]
     exact cT6 m z r
theorem cO2{es:List (Str×Bool×CS n)}(h:Nms es):(es.map (·.1)).Nodup:=by
 rw[xo,jF]
 refine XV ?_ h
 intro a b k e
 rw[e]at k
 exact aW5 _ k
theorem dQ4{es:List (Str×Bool×CS n)}(h:Nms es)(hl:es.length<=10000):Wp (W0 [rcD (enC n) (some (es,m))]) G λx G'=>∃p,x= .ref p/\G'[p]? =some (.dct (es.map (tvE n)))/\Ap G G':=by
 refine K7 (show Wp (aC4 [some (.tup [.tup (es.map (fdE (enC n))),enC n m])]) G _ from ?_)
 unfold aC4
 have e2:((es.map (fdE (enC n))).map λd:D=>(match d with| .tup [a,b,c]=>.tup [a,.tup [b,c]]|_=>.non:D))=es.map λf=>.tup [.str f.1,pD n f.2]:=by rw[jK];rfl
 have hc:N6 (aZ7 3 (Q3 (q16 0) (Q3 (q16 1) (Q3 (q16 2) (aZ1))))) aC8 (J7 (q13 (b7 0) (q13 (J7 (q13 (b7 1) (q13 (b7 2) q14))) q14))) (λ_=>true) (es.map (fdE (enC n))) (W3 [none,none,none] [some (.tup [.tup (es.map (fdE (enC n))),enC n m])]) G=some (.ok ((es.map (fdE (enC n))).map λd:D=>(match d with| .tup [a,b,c]=>.tup [a,.tup [b,c]]|_=>.non:D)),G):=by
  refine aM1 (I:=λσ=>∃a b c,σ= [a,b,c]) rfl _ _ ⟨_,_,_,rfl⟩ λd hd σ WY=>?_
  obtain⟨f,hf,rfl⟩:=zY.mp hd
  obtain⟨a,b,c,rfl⟩:=WY
  exact⟨[some (.str f.1),some (.bl f.2.1),some (enC n f.2.2)],rfl,⟨_,_,_,rfl⟩,rfl,rfl⟩
 rw[e2]at hc
 refine K1<| M7<| m7<| aJ0 rfl (by rw[ze];exact hl)<| c7 hc<| m5.mpr<| (cJ4 m6 (cE4 es)).mpr<| J8 ⟨_,rfl,?_,Ap.one.trans Ap.one⟩
 rw[eY0 es (cO2 h)]
 exact m6
theorem eJ6(e:G[q]? =some (.dct (es.map (tvE n)))):aE5 [.ref q,enC n m,.str z] G=some (.ok (pD n (fld es m z)),G):=O7<| by
 refine K7 (show Wp (aY8 [some (.ref q),some (enC n m),some (.str z)]) G _ from ?_)
 refine K1<| aS3.mpr<| c7 rfl<| (dE4 e).mpr<| c7 rfl<| (dW5 e).mpr<| J8 ⟨?_,rfl⟩
 exact cT6 m z es
def itD(n:Nat)(fs:List (Str×Bool×CS n))(m:CS n)(gs:List (Str×Bool×CS n))(k:CS n)(z:Str):D:=.tup [.str z,pD n (fld fs m z),pD n (fld gs k z)]
theorem dO7:∀(l ss:List Str) z,z∈l.foldl ddT ss↔z∈ss\/z∈l
 |[],ss,z=>by simp
 |k::l,ss,z=>by
   rw[jT,dO7 l,zu]
   unfold ddT
   split
   · rename_i h
     exact⟨λa=>a.imp id .inr,λa=>a.elim .inl λb=>b.elim (λc=>.inl (by rw[c];exact h)) .inr⟩
   ·rw[jc,zr,or_assoc]
theorem eJ5:∀(l ss:List Str),ss.Nodup->(l.foldl ddT ss).Nodup
 |[],ss,h=>h
 |k::l,ss,h=>by
   rw[jT]
   refine eJ5 l _ ?_
   unfold ddT
   split
   ·exact h
   · rename_i hk
     exact yE.mpr ⟨h,by simp,λa ha b hb e=>hk (by rw[<-zr.mp hb,<-e];exact ha)⟩
theorem cG4(h:l.Nodup):(aC9 l).Pairwise nlt:=by
 have h2:(aC9 l).Pairwise λa b=>leS a b=true:=yN aV8 bF7 l
 have h3:(aC9 l).Nodup:=(js l leS).nodup_iff.mpr h
 refine(h2.and (xo.mp h3)).imp λ{a b} k=>?_
 rcases Classical.em (nlt a b)with x|x
 ·exact x
 ·exact absurd (aQ8 k.1 (by unfold leS;simpa using x)) k.2
theorem fD0{fs gs:List (Str×Bool×CS n)}(h1:Nms fs)(h2:Nms gs)(hl:fs.length+gs.length<=47):Wp (aE0 [rcD (enC n) (some (fs,m)),rcD (enC n) (some (gs,k))]) G λx G'=>∃(p:Nat) (ws:List Str),x= .ref p/\G'[p]? =some (.lst (ws.map (itD n fs m gs k)))/\ws.Pairwise nlt/\(∀z,z∈ws↔z∈fs.map (·.1)\/z∈gs.map (·.1))/\ws.length<=fs.length+gs.length/\Ap G G':=by
 generalize hA:rcD (enC n) (some (fs,m))=A
 generalize hB:rcD (enC n) (some (gs,k))=B
 have A0:A= .tup [.tup (fs.map (fdE (enC n))),enC n m]:=hA.symm
 have B0:B= .tup [.tup (gs.map (fdE (enC n))),enC n k]:=hB.symm
 refine K7 (show Wp (aD9 [some A,some B,none,none]) G _ from ?_)
 unfold aD9
 refine d9.mpr<| N7<| j8 rfl rfl ?_
 rw[<-hA]
 refine(dQ4 h1 (by lia)).mono ?_
 rintro _ G1 ⟨p,rfl,e1,a1⟩
 rw[hA]
 refine d9.mpr<| N7<| j8 rfl rfl ?_
 rw[<-hB]
 refine(dQ4 h2 (by lia)).mono ?_
 rintro _ G2 ⟨q,rfl,e2,a2⟩
 rw[hB]
 have e1:=a2.at e1
 have hlen:((gs.map (·.1)).foldl ddT (fs.map (·.1))).length<=fs.length+gs.length:=by
  have:=bE2 (gs.map (·.1)) (fs.map (·.1))
  rw[ze,ze]at this
  exact this
 have hS:=cG4 (eJ5 (gs.map (·.1)) (fs.map (·.1)) (cO2 h1))
 have hM:∀z,z∈aC9 ((gs.map (·.1)).foldl ddT (fs.map (·.1)))↔z∈fs.map (·.1)\/z∈gs.map (·.1):=λz=>((js _ leS).mem_iff).trans (dO7 _ _ z)
 have hN:(aC9 ((gs.map (·.1)).foldl ddT (fs.map (·.1)))).length<=fs.length+gs.length:=zC (xA (js _ leS).length_eq) hlen
 refine K1<| wp_comp.mpr<| wp_itW.mpr<| dE8 rfl rfl e1 e2 (bX2 fs) (bX2 gs) (by rw[ze,ze];exact hl) ?_
 generalize aC9 ((gs.map (·.1)).foldl ddT (fs.map (·.1)))=ws at hS hM hN
 have e1:=(Ap.one (o:=.lst (ws.map D.str))).at e1
 have e2:=(Ap.one (o:=.lst (ws.map D.str))).at e2
 refine(aP8 m6).mpr ⟨?_,?_⟩
 · have:=big
   rw[ze];lia
 have hc:∀G3 (ck:DH->Bool),ck G3=true->G3[p]? =some (.dct (fs.map (tvE n)))->G3[q]? =some (.dct (gs.map (tvE n)))->N6 (q16 0) aC8 (J7 (q13 (b7 0) (q13 (q15 (fnX 3 aE5) (q13 (b7 1) (q13 (b8 ixD (b7 2) (cE (.int 1))) (q13 (b7 0) q14)))) (q13 (q15 (fnX 3 aE5) (q13 (b7 4) (q13 (b8 ixD (b7 3) (cE (.int 1))) (q13 (b7 0) q14)))) q14)))) ck (ws.map D.str) (W3 [none,some 2,some 0,some 1,some 3] [some A,some B,some (.ref p),some (.ref q)]) G3=some (.ok ((ws.map D.str).map λd=>match d with| .str z=>itD n fs m gs k z|_=>.non),G3):=λG3 ck hk e1 e2=>by
  refine aM1 (I:=λσ=>∃u,σ= [u,some (.ref p),some A,some B,some (.ref q)]) hk _ _ ⟨_,rfl⟩ λd hd σ WY=>?_
  obtain⟨z,hz,rfl⟩:=zY.mp hd
  obtain⟨u,rfl⟩:=WY
  refine⟨[some (.str z),some (.ref p),some A,some B,some (.ref q)],rfl,⟨_,rfl⟩,rfl,O7 ?_⟩
  refine V8.mpr<| O2 rfl<| m7<| j8 (by rw[A0];rfl) rfl<| c7 (eJ6 e1) ?_
  exact m7<| j8 (by rw[B0];rfl) rfl<| c7 (eJ6 e2)<| m5.mpr ⟨sz,rfl,rfl⟩
 refine c7 (hc _ _ (cQ8 m6) e1 e2) (J8 ⟨_,ws,rfl,?_,hS,hM,hN,a1.trans (a2.trans (Ap.one.trans Ap.one))⟩)
 rw[m6,jK]
 rfl
end
section
def rsZ(n k:Nat)(r:Option (List (Str×Bool×CS n)×CS n)):Prop:=∀fs m,r=some (fs,m)->fs.length<=k/\SzC n k m/\∀e∈fs,SzC n k e.2.2/\Tx e.1/\0<e.1.length
theorem eI5(h:cL2 (Gd n) (some (fs,m)))(z:Str):Gd n (fld fs m z).2:=by
 by_cases hz:z∈fs.map (·.1)
 ·exact(h fs m rfl).2.2 _ (bG0 hz)
 ·rw[aD8 hz];exact(h fs m rfl).1
theorem eK1(h:rsZ n k (some (fs,m)))(z:Str):SzC n k (fld fs m z).2:=by
 by_cases hz:z∈fs.map (·.1)
 ·exact((h fs m rfl).2.2 _ (bG0 hz)).1
 ·rw[aD8 hz];exact(h fs m rfl).2.1
structure MrQ(n k:Nat)(a b r:Option (List (Str×Bool×CS n)×CS n)):Prop where
 raw:cL2 (Gd n) r
 mem:∀p f,aL2 (inC n) r p f↔aL2 (inC n) a p f/\aL2 (inC n) b p f
 sz:rsZ n k r
def FdQ(n k:Nat)(fs:List (Str×Bool×CS n))(m:CS n)(gs:List (Str×Bool×CS n))(l:CS n)(z:Str)(c:Str×Bool×CS n):Prop:=c.1=z/\c.2.1= ((fld fs m z).1||(fld gs l z).1)/\IsM (inC n) (Gd n) (fld fs m z).2 (fld gs l z).2 c.2.2/\SzC n k c.2.2
theorem fH7(hjk:j+k<=47)(ih:MAt n R j k)(ga:cL2 (Gd n) a)(gb:cL2 (Gd n) b)(sa:rsZ n j a)(sb:rsZ n k b):Wp (aB4 R [rcD (enC n) a,rcD (enC n) b]) G λx G'=>Ap G G'/\∃r,x=rcD (enC n) r/\MrQ n (j+k) a b r:=by
 rcases a with _|⟨fs,m⟩
 ·exact aL5 rfl ⟨Ap.refl,none,rfl,λ_ _ e=>(nomatch e),λ_ _=>⟨λz=>absurd z aF1,λz=>absurd z.1 aF1⟩,λ_ _ e=>(nomatch e)⟩
 rcases b with _|⟨gs,l⟩
 ·exact aL5 rfl ⟨Ap.refl,none,rfl,λ_ _ e=>(nomatch e),λ_ _=>⟨λz=>absurd z aF1,λz=>absurd z.2 aF1⟩,λ_ _ e=>(nomatch e)⟩
 have l1:=(sa fs m rfl).1
 have l2:=(sb gs l rfl).1
 generalize hA:rcD (enC n) (some (fs,m))=A
 generalize hB:rcD (enC n) (some (gs,l))=B
 have A0:A= .tup [.tup (fs.map (fdE (enC n))),enC n m]:=hA.symm
 have B0:B= .tup [.tup (gs.map (fdE (enC n))),enC n l]:=hB.symm
 refine K7 (show Wp (aG4 R [some A,some B,none]) G _ from ?_)
 unfold aG4
 refine Z9 (X2:= [some A,some B,none]) (by rw[A0,B0];rfl) ?_
 refine d9.mpr<| N7<| wp_comp.mpr<| wp_itW.mpr<| j8 rfl rfl ?_
 rw[<-hA,<-hB]
 refine(fD0 (ga _ _ rfl).2.1 (gb _ _ rfl).2.1 (by lia)).mono ?_
 rintro _ G1 ⟨p,ws,rfl,e1,hS,hM,hN,a1⟩
 rw[hA,hB]
 refine(aP8 e1).mpr ⟨?_,?_⟩
 · have:=big
   rw[ze];lia
 refine(bN0 (λG'=>Ap G1 G') (λσ=>∃u v w,σ= [u,v,w]) (λd y=>∀z,d=itD n fs m gs l z->∃c,y=fdE (enC n) c/\FdQ n (j+k) fs m gs l z c) (λG' a=>cQ8 (a.at e1)) _ _ _ ⟨none,none,none,rfl⟩ Ap.refl ?_).mono ?_
 · intro d hd σ G2 WY a2
   obtain⟨u,v,w,rfl⟩:=WY
   obtain⟨z,hz,rfl⟩:=zY.mp hd
   refine c7 rfl ⟨rfl,⟨_,_,_,rfl⟩,?_⟩
   refine V8.mpr<| O2 rfl<| m7 ?_
   have eo:cP8 (b8 ixD (b7 1) (cE (.int 0))) (b8 ixD (b7 2) (cE (.int 0))) [some (.str z),some (pD n (fld fs m z)),some (pD n (fld gs l z))] G2=some (.ok (.bl ((fld fs m z).1||(fld gs l z).1)),G2):=O7<| dJ3.mpr<| c7 rfl<| V9.mpr<| by
    rcases (fld fs m z).1 with _|_
    ·exact c7 rfl ⟨rfl,rfl⟩
    ·exact⟨rfl,rfl⟩
   refine c7 eo<| m7<| j8 rfl rfl ?_
   refine(ih _ _ G2 (eI5 ga z) (eI5 gb z) (eK1 sa z) (eK1 sb z)).mono ?_
   rintro x G3 ⟨a3,c,rfl,hc,sc⟩
   refine m5.mpr ⟨sz,a2.trans a3,λz' e=>?_⟩
   have ez:z=z':=D.str.inj (Yh (D.tup.inj e)).1
   subst ez
   exact⟨(z,_,c),rfl,rfl,rfl,hc,sc⟩
 · rintro ys G2 ⟨a2,zs,e2,rfl,hz⟩
   obtain⟨es,e3,e4,e5⟩:=dE0 (P:=λd c=>∀z,d=itD n fs m gs l z->FdQ n (j+k) fs m gs l z c) zs λx hx=>by
    have hm:x.1∈zs.map (·.1):=zY.mpr ⟨x,hx,rfl⟩
    rw[e2]at hm
    obtain⟨z,_,ez⟩:=zY.mp hm
    obtain⟨c,e6,h6⟩:=hz x hx z ez.symm
    refine⟨c,e6,λz' e'=>?_⟩
    rw[<-ez]at e'
    have:z=z':=D.str.inj (Yh (D.tup.inj e')).1
    subst this
    exact h6
   rw[e3]
   have hl:es.length=ws.length:=by rw[e4,<-ze,e2,ze]
   have at_:∀i (hi:i<es.length),FdQ n (j+k) fs m gs l (ws[i]'(hl▸hi)) es[i]:=λi hi=>by
    refine e5 i es[i] _ (zf hi) ?_ _ rfl
    rw[e2,zG,zf (hl▸hi)]
    rfl
   have en:es.map (·.1)=ws:=xw (by rw[ze,hl]) λi h1 h2=>by
    rw[List.getElem_map]
    exact(at_ i (by rw[ze]at h1;exact h1)).1
   have ate:∀e∈es,FdQ n (j+k) fs m gs l e.1 e:=λe he=>by
    obtain⟨i,hi,rfl⟩:=jX.mp he
    have:=at_ i hi
    rw[this.1];exact this
   refine K1<| V8.mpr<| m7<| aJ6 rfl<| (K9 m6).mpr<| m7 ?_
   refine j8 (by rw[A0,B0];rfl) rfl ?_
   refine(ih m l _ (ga _ _ rfl).1 (gb _ _ rfl).1 (sa _ _ rfl).2.1 (sb _ _ rfl).2.1).mono ?_
   rintro x G3 ⟨a3,h,rfl,hh,sh⟩
   have hn:Nms es:=by
    have:=hS
    rw[<-en,jF]at this
    exact this
   have w:RsM (inC n) (Gd n) fs m gs l es h:=⟨hn,λz=>by rw[en];exact hM z,λe he=>⟨(ate e he).2.1,(ate e he).2.2.1⟩,hh⟩
   refine m5.mpr ⟨sz,J8 ⟨a1.trans (a2.trans (Ap.one.trans a3)),some (es,h),rfl,?_,dJ7 w.fld,?_⟩⟩
   · rintro _ _ ⟨⟩
     exact⟨hh.g,hn,λe he=>(ate e he).2.2.1.g⟩
   · rintro _ _ ⟨⟩
     refine⟨by lia,sh,λe he=>⟨(ate e he).2.2.2,?_⟩⟩
     have:e.1∈ws:=by rw[<-en];exact zY.mpr ⟨e,he,rfl⟩
     rcases (hM _).mp this with q|q
     · obtain⟨f,hf,ef⟩:=zY.mp q
       rw[<-ef];exact((sa _ _ rfl).2.2 f hf).2
     · obtain⟨f,hf,ef⟩:=zY.mp q
       rw[<-ef];exact((sb _ _ rfl).2.2 f hf).2
end
section
def aR8:(n:Nat)->CS n
 |0=>()
 |_+1=>none
theorem cN2:∀n,enC n (aR8 n)= .str aZ4
 |0=>rfl
 |_+1=>rfl
theorem bF6:∀n v,inC n (aR8 n) v
 |0,_=>trivial
 |_+1,_=>trivial
theorem bX1:∀n,Gd n (aR8 n)
 |0=>trivial
 |_+1=>trivial
theorem dL0(g:Gd n a):a=aR8 n↔∀v,inC n a v:=⟨λe v=>by rw[e];exact bF6 n v,λh=>aS4 n _ _ g (bX1 n) λv=>⟨λ_=>bF6 n v,λ_=>h v⟩⟩
def evP(n:Nat):Pt (CS n):=⟨[(none,none)],false, [], [false,true],some ([],aR8 n),some ([],aR8 n)⟩
def evD:D:=.tup [.tup [.tup [.non,.non]],aK3 false [],.tup [.bl false,.bl true],.tup [.tup [],.str aZ4],.tup [.tup [],.str aZ4]]
theorem dI0:enC (n+1) (some (evP n))=evD:=by
 show D.tup [_,_,_,.tup [_,enC n (aR8 n)],.tup [_,enC n (aR8 n)]]=_
 rw[cN2]
 rfl
theorem dR7(g:GdP (inC n) (Gd n) q):q=evP n↔∀v,cB2 (inC n) q v:=by
 rw[eG7 (aS4 n) g]
 constructor
 · rintro rfl
   exact⟨rfl,rfl,rfl,rfl,⟨_,rfl,bF6 n⟩,_,rfl,bF6 n⟩
 · rintro⟨h1,h2,h3,h4,⟨m,e,hm⟩,k,e',hk⟩
   have em:=(dL0 (g.ls _ _ e).1).mpr hm
   have ek:=(dL0 (g.rs _ _ e').1).mpr hk
   rcases q with⟨a1,a2,a3,a4,a5,a6⟩
   dsimp only at h1 h2 h3 h4 e e'
   rw[h1,h2,h3,h4,e,e',em,ek]
   rfl
theorem bI9(hn:n<=7)(G:DH)(g:GdP (inC n) (Gd n) q):aD2 40 G (.tup (fiv (enC n) q)) evD (∀v,cB2 (inC n) q v):=by
 have:=(aR6 (n:=n+1) (by lia) G (some q) (some (evP n))).iff ⟨λe=>(dR7 g).mp (zQ e),λh=>congrArg some ((dR7 g).mpr h)⟩
 rw[dI0]at this
 exact this
structure MdQ(n:Nat)(p:Pt (CS n))(c:CS (n+1)):Prop where
 g:Gd (n+1) c
 i:∀v,inC (n+1) c v↔cB2 (inC n) p v
 one:c=none\/∃l r,c=some ⟨p.ns,p.b,p.ss,p.bs,l,r⟩/\(l=none\/l=p.ls)/\(r=none\/∃es h,p.rs=some (es,h)/\r=some (bK1 h es,h))
theorem dX7(hn:n<=7)(h1:Can p.ns)(h2:Ris p.ss)(h3:p.bs∈B4)(h4:cL9 (Gd n) p.ls)(h5:cL2 (Gd n) p.rs)(hl:∀es m,p.rs=some (es,m)->es.length<=10000):Wp (cB4 (fiv (enC n) p)) G λx G'=>Ap G G'/\∃c,x=enC (n+1) c/\MdQ n p c:=by
 refine K7 (show Wp (cN9 [some (.tup (rsD p.ns)),some (aK3 p.b p.ss),some (.tup (p.bs.map D.bl)),some (lsD (enC n) p.ls),some (rcD (enC n) p.rs),none]) G _ from ?_)
 refine d9.mpr<| N7<| V8.mpr<| O2 rfl<| O2 rfl<| O2 rfl<| m7<| j8 rfl rfl<| (eQ8 (by lia) h4).mono ?_
 rintro _ _ ⟨rfl,l,rfl,f1⟩
 refine m7<| j8 rfl rfl<| (fA2 (by lia) h5 hl).mono ?_
 rintro _ G1 ⟨j1,r,rfl,f2⟩
 have g:GdP (inC n) (Gd n) ⟨p.ns,p.b,p.ss,p.bs,l,r⟩:=⟨h1,h2,h3,f1.good,f2.good⟩
 have me:∀v,cB2 (inC n) ⟨p.ns,p.b,p.ss,p.bs,l,r⟩ v↔cB2 (inC n) p v:=λv=>by
  rcases v with i|z|b|⟨k,f⟩|⟨k,f⟩
  ·exact Iff.rfl
  ·exact Iff.rfl
  ·exact Iff.rfl
  ·exact f1.mem k f
  ·exact f2.mem k f
 refine m5.mpr ⟨sz,K1<| cN3.mpr<| m9<| t8 rfl rfl<| aV7 (bI9 hn G1 g) (λa=>⟨_,rfl,?_⟩) (λa=>⟨_,rfl,?_⟩)⟩
 ·exact c7 rfl (J8 ⟨j1,none,rfl,trivial,λv=>⟨λ_=>(me v).mp (a v),λ_=>trivial⟩,.inl rfl⟩)
 ·exact c7 rfl (J8 ⟨j1,some ⟨p.ns,p.b,p.ss,p.bs,l,r⟩,rfl,⟨g,a⟩,me,.inr ⟨l,r,rfl,f1.one,f2.one⟩⟩)
theorem MdQ.sz(h:MdQ n p c)(s:SzP (SzC n k) k p):SzC (n+1) k c:=by
 rcases h.one with rfl|⟨l,r,rfl,hl,hr⟩
 ·exact λ_ e=>nomatch e
 · rintro _ ⟨⟩
   refine⟨s.ns,s.ss,s.tx,λfs m e=>?_,λfs m e=>?_⟩
   · rcases hl with rfl|rfl
     ·cases e
     ·exact s.ls fs m e
   · rcases hr with rfl|⟨es,h,e2,rfl⟩
     ·cases e
     · cases e
       have:=s.rs es m e2
       exact⟨zC Zl.length_le this.1,this.2.1,λx hx=>this.2.2 x (jE.mp hx).1⟩
end
section
theorem eV8(h:bs∈B4):inB (.bl k) (.tup (bs.map D.bl)) G=some (decide (k∈bs)):=by
 simp only[B4,zu,ju,or_false]at h
 rcases h with rfl|rfl|rfl|rfl<;>cases k<;>rfl
theorem dU2{s:List Bool}:((s.map D.bl).filter λx=>match x with| .bl z=>p z|_=>false)= (s.filter p).map D.bl:=by
 rw[Zh];rfl
theorem fF3{G:DH}(ht:t.bs∈B4):N6 (q16 0) (f9 (b8 inD (b7 0) (b8 ixD (b7 1) (cE (.int 2))))) (b7 0) (λ_=>true) (s.bs.map D.bl) (W3 [none,some 1] [some (.tup (fiv (enC n) s)),some (.tup (fiv (enC n) t))]) G=some (.ok ((s.bs.filter λk=>decide (k∈t.bs)).map D.bl),G):=by
 rw[<-dU2]
 refine aB1 rfl (λσ=>∃u,σ= [u,some (.tup (fiv (enC n) t))]) _ _ ⟨none,rfl⟩ λx hx σ WY=>?_
 obtain⟨z,hz,rfl⟩:=zY.mp hx
 obtain⟨u,rfl⟩:=WY
 exact⟨[some (.bl z),some (.tup (fiv (enC n) t))],rfl,⟨_,rfl⟩,O7 (m9<| t8 rfl rfl<| cF9.mpr ⟨_,eV8 ht,_,rfl,rfl,rfl⟩),rfl⟩
theorem eH3:∀a∈B4,∀b∈B4,(a.filter λk=>decide (k∈b))∈B4:=by decide
theorem SzC.mono:∀ {n} {k l} {a},k<=l->SzC n k a->SzC n l a
 |0,_,_,_,_,_=>trivial
 |n+1,k,l,a,h,s=>λp e=>by
   have s:=s p e
   exact⟨zC s.ns h,zC s.ss h,s.tx,λfs m e=>⟨zC (s.ls fs m e).1 h,SzC.mono h (s.ls fs m e).2.1,λa ha=>SzC.mono h ((s.ls fs m e).2.2 a ha)⟩,λfs m e=>⟨zC (s.rs fs m e).1 h,SzC.mono h (s.rs fs m e).2.1,λx hx=>⟨SzC.mono h ((s.rs fs m e).2.2 x hx).1,((s.rs fs m e).2.2 x hx).2⟩⟩⟩
theorem aK4.raw(h:aK4 (inC n) (Gd n) r):cL9 (Gd n) r:=λfs m e=>⟨(h fs m e).1,λa ha=>((h fs m e).2 a ha).1⟩
theorem aE9.raw(h:aE9 (inC n) (Gd n) r):cL2 (Gd n) r:=λfs m e=>⟨(h fs m e).1,(h fs m e).2.1,λa ha=>((h fs m e).2.2 a ha).1⟩
theorem cS2:∀n N j k,n<=7->n<N->j<=29->k<=29->j+k<=47->MAt n (bL4 N) j k
 |0,N+1,j,k,_,_,_,_,_=>λs t G _ _ _ _=>aL5 rfl ⟨Ap.refl,(),rfl,⟨trivial,λv=>⟨λ_=>⟨trivial,trivial⟩,λ_=>trivial⟩⟩,trivial⟩
 |n+1,N+1,j,k,hn,hN,hj,hk,hjk=>λs t G gs gt ss st=>by
   have ih:=cS2 n N j k (by lia) (by lia) hj hk hjk
   refine K7 (show Wp (bN7 (bL4 N) [some (enC (n+1) s),some (enC (n+1) t)]) G _ from ?_)
   unfold bN7
   rcases s with _|s
   ·exact d9.mpr<| cQ5 rfl<| K1<| c7 rfl<| J8 ⟨Ap.refl,t,rfl,⟨gt,λv=>⟨λh=>⟨trivial,h⟩,λh=>h.2⟩⟩,SzC.mono (Nat.le_add_left ..) st⟩
   refine d9.mpr<| bO6 rfl<| j7.mpr ?_
   rcases t with _|t
   ·exact d9.mpr<| cQ5 rfl<| K1<| c7 rfl<| J8 ⟨Ap.refl,some s,rfl,⟨gs,λv=>⟨λh=>⟨h,trivial⟩,λh=>h.1⟩⟩,SzC.mono (jb ..) ss⟩
   have ss:=ss s rfl
   have st:=st t rfl
   have l1:=ss.ns
   have l2:=st.ns
   have l3:=ss.ss
   have l4:=st.ss
   refine d9.mpr<| bO6 rfl<| j7.mpr<| K1<| M7<| m7<| j8 rfl rfl<| dW8 gs.1.ns gt.1.ns (by lia) λns G1 c1 i1 l5 a1=>?_
   refine m7<| j8 rfl rfl<| (dP9 ⟨gs.1.ss,ss.tx,by lia⟩ ⟨gt.1.ss,st.tx,by lia⟩).mono ?_
   rintro _ G2 ⟨xs,rfl,ris,sm,sub,sl,a2⟩
   have hb:(s.bs.map D.bl).length<=10000:=by
    rw[ze]
    have:=(show ∀a∈B4,a.length<=2 by decide) _ gs.1.bs
    lia
   refine m7<| M7<| m7<| aJ0 rfl hb<| c7 (fF3 gt.1.bs)<| m5.mpr<| (K9 m6).mpr ?_
   refine m7<| j8 rfl rfl<| (fD9 hjk ih (aK4.raw gs.1.ls) (aK4.raw gt.1.ls) ss.ls st.ls).mono ?_
   rintro _ G4 ⟨a4,l,rfl,ql⟩
   refine m7<| j8 rfl rfl<| (fH7 hjk ih (aE9.raw gs.1.rs) (aE9.raw gt.1.rs) ss.rs st.rs).mono ?_
   rintro _ G5 ⟨a5,r,rfl,qr⟩
   refine m5.mpr<| Q8.mpr ⟨rfl,(dX7 (p:=⟨ns,s.b||t.b,xs,s.bs.filter λk=>decide (k∈t.bs),l,r⟩) (by lia) c1 ris (eH3 _ gs.1.bs _ gt.1.bs) ql.raw qr.raw λes m e=>zC (qr.sz es m e).1 (by lia)).mono ?_⟩
   rintro _ G6 ⟨a6,c,rfl,hc⟩
   refine J8 ⟨a1.trans (a2.trans (Ap.one.trans (a4.trans (a5.trans a6)))),c,rfl,⟨hc.g,λv=>(hc.i v).trans ?_⟩,hc.sz ⟨by dsimp only;lia,by dsimp only;lia,λz hz=>(sub z hz).elim (ss.tx z) (st.tx z),ql.sz,qr.sz⟩⟩
   rcases v with i|z|b|⟨q,f⟩|⟨q,f⟩
   ·exact i1 i
   ·exact sm z
   · show b∈s.bs.filter _↔b∈s.bs/\b∈t.bs
     rw[jE,decide_eq_true_iff]
   ·exact ql.mem q f
   ·exact qr.mem q f
end
noncomputable def Dr(G:DH)(r:Nat):Prop:=∃ns:List Nat,G[r]? =some (.lst (ns.map λn:Nat=>D.int (n:Int)))
def Fd(r:Nat)(G G':DH):Prop:=G.length<=G'.length/\(∀i,i≠r->i<G.length->G'[i]? =G[i]?)/\Dr G' r
theorem Dr.lt(h:Dr G r):r<G.length:=by
 obtain⟨ns,hr⟩:=h
 exact lt_of_get hr
theorem Dr.app(h:Dr G r):Dr (G++t) r:=by
 obtain⟨ns,hr⟩:=h
 exact⟨ns,aN1 hr⟩
theorem Fd.refl(h:Dr G r):Fd r G G:=⟨zo _,λ_ _ _=>rfl,h⟩
theorem Fd.trans(h:Fd r G G1)(k:Fd r G1 G2):Fd r G G2:=
 ⟨zC h.1 k.1,λi hi hl=>by rw[k.2.1 i hi (by have:=h.1;lia),h.2.1 i hi hl],k.2.2⟩
theorem Fd.app(h:Dr G r):Fd r G (G++t):=⟨by simp,λi _ hl=>zJ hl,h.app⟩
theorem Fd.at(h:Fd r G G')(hp:p≠r)(e:G[p]? =some o):G'[p]? =some o:=by
 rw[h.2.1 p hp (lt_of_get e)];exact e
theorem Dr.set(h:Dr G r)(hp:p≠r):Dr (G.set p o) r:=by
 obtain⟨ns,hr⟩:=h
 exact⟨ns,by rw[zS hp];exact hr⟩
theorem Fd.put(h:Fd r G G')(hp:G.length<=p)(hr:p≠r):Fd r G (G'.set p o):=
 ⟨by rw[xJ];exact h.1,λi hi hl=>by rw[zS (by lia)];exact h.2.1 i hi hl,h.2.2.set hr⟩
section
theorem eC4(hz:z.length<=zl)(h0:0<=k)(h1:k<z.length)(q:∀c∈z.cps.toList,Q (.str ⟨#[c]⟩) G):Wp (ixD (.str z) (.int k)) G Q:=by
 have e:ixD (.str z) (.int k)=if z.length<=zl then (do
  let c <-aI5 (atI z.cps.toList k)
  pure (.str ⟨#[c]⟩):M D)else M.stuck:=rfl
 rw[e,if_pos hz]
 simp only[j6,aF7,wp_pure]
 have hl:z.length=z.cps.toList.length:=rfl
 obtain⟨n,rfl⟩:=yS h0
 have hn:n<z.cps.toList.length:=by lia
 refine⟨z.cps.toList[n],?_,q _ (jY hn)⟩
 unfold atI ixN
 rw[if_pos (by lia),if_pos (by lia)]
 simp only[jR,Option.bind_some,zf hn]
end
theorem Z8(h:Dr G r)(q:∀k:Nat,∀G',Fd r G G'->Q (.int (k:Int)) G'):Wp (o4 [.ref r]) G Q:=by
 have h':=h
 obtain⟨ns,hr⟩:=h'
 have s0:([D.ref r].map some++jk (1 - [D.ref r].length) none:DSt)= [some (.ref r)]:=rfl
 unfold o4 aT6
 simp only[aA3,s0,d9,bC9,aL6,aF8,aI4,aE7,aS3,T5,m5,bH7,R7,j7,zE,exists_eq_left',zy]
 refine⟨sz,?_⟩
 have e1:=aN1 (t:= [DO.lst []]) hr
 rw[cW1 e1 m6]
 refine⟨_,rfl,?_⟩
 rcases List.eq_nil_or_concat ns with rfl|⟨t,n,rfl⟩
 · simp only[Zn,List.isEmpty_nil,if_true]
   exact q 0 _ (Fd.app h)
 · have hne:((t.concat n).map λn:Nat=>D.int (n:Int)).isEmpty=false:=by simp
   simp only[hne,jf,if_false]
   rw[List.concat_eq_append,jr]at e1
   rw[S9 e1,eC9 e1]
   refine q n _ ⟨by simp,λi hi hl=>?_,t,?_⟩
   ·rw[zS (Ne.symm hi),zJ hl]
   ·rw[zL (lt_of_get e1)]
theorem dJ0(h:Dr G r)(q:∀k:Nat,k<7->∀G',Fd r G G'->Q (.int (k:Int)) G'):Wp (X5 [.ref r]) G Q:=by
 have s0:([D.ref r].map some++jk (2 - [D.ref r].length) none:DSt)= [some (.ref r),none]:=rfl
 unfold X5 aY9
 simp only[aA3,s0,d9,S7,O9,bC9,aL6,aF8,aI4,X6,T5,m5,bH7,R7,Q8,j7,zE,exists_eq_left',zy,zO,jU,jM]
 refine⟨rfl,Z8 h λk G1 f1=>?_⟩
 simp only[u5 (show (0:Int)<8 by decide),u5 (show (0:Int)<7 by decide),u5 (show (0:Int)<4 by decide),S5 (show (0:Int)<8/\(8:Int)<2 ^ 100 by decide),R6,bN3]
 have n1:∀m:Int,0<m->m<=7->∃j:Nat,j<7/\(k:Int) / 8 % m= (j:Int):=λm hm h7=>by
  have a1:0<=(k:Int) / 8 % m:=jJ _ (by lia)
  have a2:(k:Int) / 8 % m<m:=jN _ hm
  exact⟨((k:Int) / 8 % m).toNat,by lia,by lia⟩
 by_cases hk:(k:Int) % 8=7
 · simp only[hk,decide_true,if_true]
   obtain⟨j,hj,e⟩:=n1 7 (by decide) (by decide)
   rw[e];exact q j hj G1 f1
 · simp only[hk,decide_false,jf,if_false]
   obtain⟨j,hj,e⟩:=n1 4 (by decide) (by decide)
   rw[e];exact q j hj G1 f1
theorem p10:Wp (cM8 (.int 10) (.int 10)) G Q↔Q (.int 10000000000) G:=by
 rw[cW0 (by decide)];rfl
theorem cO8(h:Dr G r)(q:∀k:Nat,∀G',Fd r G G'->Q (.int (k:Int)) G'):Wp (W6 [.ref r]) G Q:=by
 have s0:([D.ref r].map some++jk (2 - [D.ref r].length) none:DSt)= [some (.ref r),none]:=rfl
 unfold W6 aU6
 simp only[aA3,s0,d9,S7,O9,bC9,aL6,aF8,aI4,X6,T5,m5,bH7,R7,Q8,j7,zE,exists_eq_left',zy,zO,jU,jM]
 refine⟨rfl,Z8 h λk G1 f1=>?_⟩
 simp only[u5 (show (0:Int)<9 by decide),u5 (show (0:Int)<5 by decide),S5 (show (0:Int)<9/\(9:Int)<2 ^ 100 by decide),R6,bN3,aI9 (show bA1 ((k:Int) / 9) 1000003 from Or.inr ⟨by decide,by decide⟩)]
 by_cases hk:(k:Int) % 9=8
 · simp only[hk,decide_true,if_true]
   refine⟨rfl,Z8 f1.2.2 λj G2 f2=>?_⟩
   rw[aR4,p10,aI9 (show bA1 6 10000000000 from Or.inl ⟨by decide,by decide⟩),u5 (by decide)]
   have a1:0<=((k:Int) / 9*1000003+(j:Int)) % (6*10000000000):=jJ _ (by decide)
   obtain⟨m,hm⟩:=yS a1
   rw[hm]
   exact q m G2 (f1.trans f2)
 · simp only[hk,decide_false,jf,if_false]
   have a1:0<=(k:Int) / 9 % 5:=jJ _ (by decide)
   obtain⟨m,hm⟩:=yS a1
   rw[hm]
   exact q m G1 f1
def Fd2(r p:Nat)(G G':DH):Prop:=G.length<=G'.length/\(∀i,i≠r->i≠p->i<G.length->G'[i]? =G[i]?)/\Dr G' r
theorem Fd2.trans(h:Fd2 r p G G1)(k:Fd2 r p G1 G2):Fd2 r p G G2:=
 ⟨zC h.1 k.1,λi hi hp hl=>by rw[k.2.1 i hi hp (by have:=h.1;lia),h.2.1 i hi hp hl],k.2.2⟩
theorem Fd.two(h:Fd r G G1):Fd2 r p G G1:=⟨h.1,λi hi _ hl=>h.2.1 i hi hl,h.2.2⟩
theorem Fd2.set(hp:p≠r)(h:Dr G r):Fd2 r p G (G.set p o):=
 ⟨by rw[xJ];exact zo _,λi _ hi hl=>by rw[zS (Ne.symm hi)],h.set hp⟩
theorem Fd.thru(h:Fd r G G1)(k:Fd2 r p G1 G2)(hp:G.length<=p):Fd r G G2:=
 ⟨zC h.1 k.1,λi hi hl=>by rw[k.2.1 i hi (by lia) (by have:=h.1;lia),h.2.1 i hi hl],k.2.2⟩
theorem fO9:aC1=j5 (o9 (X3 q14) (q16 1)) (j5 (o9 (b8 aO1 (unE cY2 (q15 (fnX 1 W6) (q13 (b7 0) q14))) (cE (.int 2))) (q16 2)) (j5 (aF5 (aB6 (q13 (q15 (fnX 1 X5) (q13 (b7 0) q14)) q14)) (q16 3) SB) (j5 (o9 (q15 (fnX 1 o4) (q13 (b7 0) q14)) (q16 5)) (j5 SC1 (j5 SC2 (m8 (q15 M9 (q13 (b7 1) q14)))))))):=rfl
noncomputable def Up(lo:Int)(ns:List Rg):Prop:=∀p∈ns,∃a:Int,p.2=some a/\a<=lo
section
theorem fE0(hp:p≠r)(h:Dr G r)(e:G[p]? =some (.lst (rsD ns)))(hn:Can ns)(hu:Up a ns)(hl:ns.length<=50):
 Wp (SB [some (.ref r),some (.ref p),some (.int a),u,v,w]) G λfl G'=>Fd2 r p G G'/\∃a' v' ns',fl= .nx [some (.ref r),some (.ref p),some (.int a'),u,v',w]/\G'[p]? =some (.lst (rsD ns'))/\Can ns'/\Up a' ns'/\ns'.length<=ns.length+1:=by
 have bg:=big
 refine d9.mpr<| N7<| t6<| c7 rfl<| j8 rfl rfl<| cO8 h λk G1 f1=>aR4.mpr<| d9.mpr<| N7<| t6<| c7 rfl<| j8 rfl rfl<| cO8 f1.2.2 λj G2 f2=>aR4.mpr ?_
 have f12:=f1.trans f2
 have e2:=f12.at hp e
 refine aL0.mpr<| aS3.mpr<| c7 rfl<| (S9 e2).mpr<| c7 (a:= [rD (some (a+2+k),some (a+2+k+j))]) rfl<| (U7 e2 (by rw[aV4];lia)).mpr ?_
 refine⟨f12.two.trans (Fd2.set hp f2.2.2),_,_,ns++[(some (a+2+k),some (a+2+k+j))],rfl,?_,hn.snoc (λx y ea eb=>?_) λx hx=>?_,λq hq=>?_,by simp⟩
 ·rw[zL (lt_of_get e2),bK2]
 ·cases ea;cases eb;lia
 · obtain⟨b,eb,hb⟩:=hu x hx
   exact⟨b,_,eb,rfl,by lia⟩
 · rcases jc.mp hq with hq|hq
   · obtain⟨b,eb,hb⟩:=hu q hq
     exact⟨b,eb,by lia⟩
   · rw[zr.mp hq]
     exact⟨_,rfl,yH _⟩
end
theorem cV2(hp:p≠r):∀items a u v ns G,Dr G r->G[p]? =some (.lst (rsD ns))->Can ns->Up a ns->ns.length+items.length<=50->
 Wp (aB8 (q16 3) SB (λ_=>true) items [some (.ref r),some (.ref p),some (.int a),u,v,w]) G λfl G'=>Fd2 r p G G'/\∃a' u' v' ns',fl= .nx [some (.ref r),some (.ref p),some (.int a'),u',v',w]/\G'[p]? =some (.lst (rsD ns'))/\Can ns'/\ns'.length<=ns.length+items.length
 |[],a,u,v,ns,G,h,e,hn,hu,hl=>V3.mpr ⟨rfl,(Fd.refl h).two,a,u,v,ns,rfl,e,hn,by simp⟩
 |d::t,a,u,v,ns,G,h,e,hn,hu,hl=>by
   simp only[zD]at hl
   refine aA1.mpr ⟨rfl,O9.mpr<| (fE0 hp h e hn hu (by lia)).mono ?_⟩
   rintro _ G1 ⟨f1,a1,v1,ns1,rfl,q2,q3,q3',q4⟩
   refine(cV2 hp t a1 _ v1 ns1 G1 f1.2.2 q2 q3 q3' (by lia)).mono ?_
   rintro _ G2 ⟨f2,b1,b2,b3,b4,p1,p2,p3,p4⟩
   exact⟨f1.trans f2,b1,b2,b3,b4,p1,p2,p3,by simp only[zD];lia⟩
theorem eI3(e:G[p]? =some (.lst (rsD ns))):Wp (neD (.ref p) (.ref G.length)) (G++[.lst []]) Q↔Q (.bl (!ns.isEmpty)) (G++[.lst []]):=by
 rw[eB5 (aN1 e) m6]
 unfold rsD
 rw[List.isEmpty_map]
theorem Can.noLow(h:Can (q::t)):Can ((none,q.2)::t):=by
 refine⟨λx hx=>?_,zU.mpr ⟨(zU.mp h.2).1,(zU.mp h.2).2⟩⟩
 rcases zu.mp hx with rfl|hx
 ·exact λ_ _ ea=>J6 ea
 ·exact h.1 x (zk _ hx)
theorem Can.noHigh(h:Can (t++[q])):Can (t++[(q.1,none)]):=by
 have hp:=Yq.mp h.2
 exact Can.snoc ⟨λx hx=>h.1 x (yF _ hx),hp.1⟩ (λ_ _ _ eb=>J6 eb) λx hx=>hp.2.2 x hx q (zr.mpr rfl)
theorem dG0:ixN (l++[x]).length (-1)=some l.length:=by
 unfold ixN
 rw[if_neg (by lia),if_pos (by simp;lia)]
 congr 1
 simp;lia
section
variable{r p:Nat}{G:DH}{ns:List Rg}{a u v:Option D}{k:Nat}
def CQ(r p:Nat)(a u v:Option D)(k:Nat)(ns:List Rg)(G:DH)(fl:Fl)(G':DH):Prop:=Fd2 r p G G'/\∃ns',fl= .nx [some (.ref r),some (.ref p),a,u,v,some (.int (k:Int))]/\G'[p]? =some (.lst (rsD ns'))/\Can ns'/\ns'.length=ns.length
theorem eP1(hp:p≠r)(h:Dr G r)(e:G[p]? =some (.lst (rsD ns)))(hn:Can ns):Wp (SC1 [some (.ref r),some (.ref p),a,u,v,some (.int (k:Int))]) G (CQ r p a u v k ns G):=by
 have f1:Fd r G (G++[.lst []]):=Fd.app h
 refine Q4<| aH7<| m9<| t6<| c7 rfl<| aE7.mpr<| m5.mpr ⟨sz,(eI3 e).mpr ⟨_,rfl,λg=>?_,λg=>⟨λz=>(nomatch z),λ_=>j7.mpr ⟨f1.two,ns,rfl,aN1 e,hn,rfl⟩⟩⟩⟩
 rcases ns with _|⟨q,t⟩
 ·cases g
 · have e2:=f1.at hp e
   refine m9<| t6<| t8 rfl rfl<| (u5 (by decide)).mpr<| c7 rfl<| R6.mpr ⟨_,rfl,λ_=>?_,λ_=>j7.mpr ⟨f1.two,q::t,rfl,e2,hn,rfl⟩⟩
   refine S7.mpr<| V8.mpr<| O2 rfl<| m7<| t6<| ixv rfl rfl e2 (dM6 (l0:= []))<| c7 rfl<| (ix_tup).mpr ⟨Q6 q.2,rfl,m5.mpr ⟨sz,dU7 (j:=0) rfl rfl e2 ?_ ?_⟩⟩
   ·unfold ixN;rw[if_pos (by lia),if_pos (by simp[rsD])];rfl
   ·exact⟨f1.two.trans (Fd2.set hp f1.2.2),(none,q.2)::t,rfl,zL (lt_of_get e2),hn.noLow,rfl⟩
theorem eR4(hp:p≠r)(h:Dr G r)(e:G[p]? =some (.lst (rsD ns)))(hn:Can ns):Wp (SC2 [some (.ref r),some (.ref p),a,u,v,some (.int (k:Int))]) G (CQ r p a u v k ns G):=by
 have f1:Fd r G (G++[.lst []]):=Fd.app h
 refine Q4<| aH7<| m9<| t6<| c7 rfl<| aE7.mpr<| m5.mpr ⟨sz,(eI3 e).mpr ⟨_,rfl,λg=>?_,λg=>⟨λz=>(nomatch z),λ_=>j7.mpr ⟨f1.two,ns,rfl,aN1 e,hn,rfl⟩⟩⟩⟩
 have hne:ns≠ []:=by rintro rfl;cases g
 clear g
 obtain⟨t,q,rfl⟩:∃(t:List Rg) (q:Rg),ns=t++[q]:=⟨_,_,(List.dropLast_concat_getLast hne).symm⟩
 have e2:=f1.at hp e
 refine m9<| t6<| t6<| t8 rfl rfl<| (S5 ⟨by decide,by decide⟩).mpr<| c7 rfl<| (u5 (by decide)).mpr<| c7 rfl<| R6.mpr ⟨_,rfl,λ_=>?_,λ_=>j7.mpr ⟨f1.two,t++[q],rfl,e2,hn,rfl⟩⟩
 rw[bK2]at e2
 refine S7.mpr<| V8.mpr<| m7<| t6<| ixv rfl rfl e2 (dG9 _ _)<| c7 rfl<| (ix_tup).mpr ⟨Q6 q.1,rfl,c7 rfl ⟨sz,dU7 rfl rfl e2 dG0 ?_⟩⟩
 refine⟨f1.two.trans (Fd2.set hp f1.2.2),t++[(q.1,none)],rfl,?_,hn.noHigh,by simp⟩
 rw[zL (lt_of_get e2),bK2,List.set_append_right _ _ (zo _),Nat.sub_self];rfl
theorem cD5(h:Dr G r):Wp (V5 [.ref r]) G λx G'=>∃ns,x= .tup (rsD ns)/\Can ns/\ns.length<=6/\Fd r G G':=by
 refine K7 (show Wp (aC1 [some (.ref r),none,none,none,none,none]) G _ from ?_)
 rw[fO9]
 have f1:Fd r G (G++[.lst []]):=Fd.app h
 have hp:G.length≠r:=by have:=h.lt;lia
 refine Z9 (X2:= [some (.ref r),some (.ref G.length),none,none,none,none]) rfl<| d9.mpr<| N7<| t6<| eJ3.mpr<| j8 rfl rfl<| cO8 f1.2.2 λk G1 f2=>cR9.mpr<| c7 rfl<| aW3.mpr ?_
 refine d9.mpr<| aJ9.mpr<| rng1.mpr<| m7<| j8 rfl rfl<| dJ0 f2.2.2 λm hm G2 f3=>m5.mpr<| (rng1_int ⟨by lia,by lia⟩).mpr ?_
 have f23:=f2.trans f3
 have e2:G2[G.length]? =some (.lst (rsD [])):=f23.at hp m6
 have hlen:(K6 0 (m:Int).toNat).length=m:=by unfold K6;rw[ze,yk,jR]
 refine(cV2 hp (K6 0 (m:Int).toNat) _ none none [] G2 f3.2.2 e2 ⟨(λp hp=>by cases hp),.nil⟩ (λp hp=>by cases hp) (by rw[hlen];simp;lia)).mono ?_
 rintro _ G3 ⟨f4,lo',v4,v5,ns1,rfl,q2,q3,q4⟩
 refine d9.mpr<| N7<| j8 rfl rfl<| Z8 f4.2.2 λn G4 f5=>?_
 refine d9.mpr<| (eP1 hp f5.2.2 (f5.at hp q2) q3).mono ?_
 rintro _ G5 ⟨f6,ns2,rfl,q6,q7,q8⟩
 refine d9.mpr<| (eR4 hp f6.2.2 q6 q7).mono ?_
 rintro _ G6 ⟨f7,ns3,rfl,q10,q11,q12⟩
 have fb:=Fd.thru (f1.trans f23) (((f4.trans f5.two).trans f6).trans f7) (zo _)
 exact K1<| aJ6 rfl<| (K9 q10).mpr<| J8 ⟨ns3,rfl,q11,by rw[hlen]at q4;simp only[yn]at q4;lia,fb⟩
end
theorem eE4(a b:Str):L2.eqV (.str a) (.str b)= (a==b):=by rfl
theorem cX2{s:List Str}:inB (.str z) (.tup (s.map D.str)) G=some (decide (z∈s)):=by
 have hf:(aO7 (.str z)&&(s.map D.str).all aO7)=true:=by simp[aO7,ZU]
 unfold inB
 simp only[hf,if_true]
 congr 1
 unfold L2.inV
 rw[jK,ZT]
 induction s with
 |nil=>rfl
 |cons a r ih=>
   rw[yb,ih (by simp[aO7,ZU])]
   have e:((λy=>L2.eqV y (toV (.str z)))∘(toV∘D.str)) a= (a==z):=eE4 a z
   rw[e]
   by_cases h:a=z
   ·simp[h]
   · have:¬z=a:=λe=>h e.symm
     simp[h,this]
theorem bZ9(h:z.length<=zl):Wp (M8 [.str z]) G Q↔Q (cI3 (.str z)) G:=by
 unfold M8 aT8
 have s0:([D.str z].map some++jk (1 - [D.str z].length) none:DSt)= [some (.str z)]:=rfl
 simp only[aA3,s0,aF8,V8,X6,T5,m5,R7,zE,exists_eq_left',zy,bA6 h]
 exact⟨λq=>q.2,λq=>⟨sz,q⟩⟩
theorem aY3:∀(s:List Str) G,(∀z∈s,z.length<=zl)->aI0 M8 (s.map D.str) G=some (.ok (s.map λz=>cI3 (.str z)),G)
 |[],G,_=>rfl
 |a::r,G,h=>by
   have h1:noX (M8 [.str a]) G=some (.ok (cI3 (.str a)),G):=O7 (bD0.mpr ((bZ9 (h a (by simp))).mpr ⟨rfl,rfl⟩))
   have h2:=aY3 r G λz hz=>h z (by simp[hz])
   show (noX (M8 [.str a]) >>= λk=>aI0 M8 (r.map D.str) >>= λks=>pure (k::ks)) G=_
   rw[M.bind_ok h1,M.bind_ok h2]
   rfl
theorem cN8{Q:DPP}(e:G[q]? =some (.lst (ks.map D.str)))(nd:ks.Nodup)(h64:ks.length<64)(hz:∀z∈ks,z.length<=zl)(hq:∀m,Ris m->m.Perm ks->Q (.ref G.length) (G++[.lst (m.map D.str)])):Wp (aK0 M8 (.ref q)) G Q:=by
 obtain⟨m,e1,e2,e3⟩:=aZ0 nd
 have nd2:(ks.map λz=>(((z.length:Int),z):Int×Str)).Nodup:=by
  rw[YO,jF]
  exact nd.imp λ{a b} h e=>h (yp e).2
 have hl:(ks.map D.str).length<64:=by rw[ze];exact h64
 unfold aK0
 simp only[j6,S8,e,T8,if_pos hl,aP5]
 refine(aI6 (aY3 ks G hz)).mpr ?_
 rw[aF7,aX8]
 refine⟨_,rfl,?_⟩
 rw[if_pos nd2,S6,e1]
 exact hq m e2 e3
theorem cS8{s:List Str}(e:G[q]? =some (.lst (s.map D.str))):inB (.str z) (.ref q) G=some (decide (z∈s)):=by
 have h:=cX2 (z:=z) (s:=s) (G:=G)
 have e2:inB (.str z) (.ref q) G=inB (.str z) (.tup (s.map D.str)) G:=by
  simp only[inB,e]
 rw[e2,h]
theorem eJ9:∀ss:List Str,(Yx ("" :Str) ss).cps.toList= (ss.map λz=>z.cps.toList).flatten:=λss=>by
 have go:∀(r:List Str) (acc:Array Nat),(r.foldl (λacc p=>acc++("" :Str).cps++p.cps) acc).toList=acc.toList++(r.map λz=>z.cps.toList).flatten:=λr=>by
  induction r with
  |nil=>intro acc;simp
  |cons p r ih=>
    intro acc
    rw[jT,ih,JY,JY,zB,List.flatten_cons,show ("" :Str).cps.toList= []from rfl,yZ,yG]
 rcases ss with _|⟨a,r⟩
 ·rfl
 ·exact go r a.cps
theorem eF5:∀c∈("abcdefghijklmnopqrstuvwxyz" :Str).cps.toList,bY3 c=true:=by decide +kernel
def fG1(y:D):Prop:=∃c:Nat,bY3 c=true/\y= .str ⟨#[c]⟩
theorem cT0:∀ {zs},(∀y∈zs,fG1 y)->∃ss:List Str,zs=ss.map D.str/\ss.length=zs.length/\(ss.map λz=>z.length).sum=zs.length/\∀c∈(ss.map λz=>z.cps.toList).flatten,bY3 c=true
 |[],_=>⟨[],rfl,rfl,rfl,λ_ h=>nomatch h⟩
 |y::t,h=>by
   obtain⟨c,hc,rfl⟩:=h _ (zq ..)
   obtain⟨ss,h1,h2,h3,h4⟩:=cT0 λy hy=>h y (zk _ hy)
   refine⟨⟨#[c]⟩::ss,by rw[zB,h1],by simp[h2],?_,λx hx=>?_⟩
   · rw[zB,List.sum_cons,h3,zD]
     show 1+_=_
     lia
   · rw[zB,List.flatten_cons]at hx
     rcases jc.mp hx with hx|hx
     ·rw[show x=c from zr.mp hx];exact hc
     ·exact h4 x hx
theorem dN6:∀z∈(["", "a", "b", "aa", "ab", "ca"]:List Str),Tx z:=by
 intro z hz
 simp only[zu,ju,or_false]at hz
 rcases hz with rfl|rfl|rfl|rfl|rfl|rfl<;>exact⟨by decide +kernel,by decide +kernel⟩
section
theorem cS6(h:Dr G r):Wp (aJ1 [.ref r]) G λx G'=>(∃z,x= .str z/\Tx z)/\Fd r G G':=by
 have bg:=big
 refine K7 (show Wp (aT4 [some (.ref r),none]) G _ from ?_)
 refine d9.mpr<| N7<| j8 rfl rfl<| Z8 h λk G1 f1=>d9.mpr<| Q4<| m9<| t6<| t8 rfl rfl<| (u5 (by decide)).mpr<| c7 rfl<| R6.mpr ⟨_,rfl,λ_=>?_,λ_=>j7.mpr ?_⟩
 · have a1:0<=(k:Int) / 9 % 21:=jJ _ (by decide)
   have a2:(k:Int) / 9 % 21<21:=jN _ (by decide)
   refine K1<| aS3.mpr<| c7 rfl ?_
   refine dG6.mpr<| m7<| wp_comp.mpr<| rng1.mpr<| m7<| t6<| t8 rfl rfl<| (S5 ⟨by decide,by decide⟩).mpr<| c7 rfl<| (u5 (by decide)).mpr<| m5.mpr<| (rng1_int ⟨by lia,by lia⟩).mpr ?_
   have ln:(K6 0 ((k:Int) / 9 % 21).toNat).length= ((k:Int) / 9 % 21).toNat:=by unfold K6;rw[ze,yk]
   refine⟨by show (K6 0 ((k:Int) / 9 % 21).toNat).length<=_;rw[ln];lia,(bN0 (Fd r G1) (λσ=>∃u,σ= [u,some (.ref r)]) (λ_ y=>fG1 y) (λ_ _=>rfl) _ _ G1 ⟨_,rfl⟩ (Fd.refl f1.2.2) ?_).mono ?_⟩
   · rintro d hd _ G3 ⟨v,rfl⟩ j
     refine O9.mpr ⟨rfl,⟨_,rfl⟩,t6<| c7 rfl<| t6<| j8 rfl rfl<| Z8 j.2.2 λi G4 f4=>c7 rfl<| (u5 (by decide)).mpr ?_⟩
     have b1:0<=(i:Int) % 26:=jJ _ (by decide)
     have b2:(i:Int) % 26<26:=jN _ (by decide)
     have hA:("abcdefghijklmnopqrstuvwxyz" :Str).length=26:=by rfl
     exact eC4 (by lia) b1 (by lia) λc hc=>⟨j.trans f4,c,eF5 c hc,rfl⟩
   · rintro _ G3 ⟨f3,zs,e1,rfl,hz⟩
     obtain⟨ss,h1,h2,h3,h4⟩:=cT0 λy hy=>by
      obtain⟨z,hzm,rfl⟩:=zY.mp hy
      exact hz z hzm
     have lz:(zs.map (·.2)).length= ((k:Int) / 9 % 21).toNat:=by
      have:=congrArg xM e1
      rw[ze]at this
      rw[ze,this]
      exact ln
     have hs:("" :Str).length=0:=rfl
     refine m5.mpr<| (dT3 m6 (by rw[h1];exact bK9 ss) ?_).mpr ?_
     · rw[h3,hs,Nat.mul_zero,Nat.add_zero,lz]
       lia
     · refine J8 ⟨⟨_,rfl,?_,?_⟩,f1.trans (f3.trans (Fd.app f3.2.2))⟩
       · show (Yx ("" :Str) ss).cps.toList.all bY3=true
         rw[eJ9]
         exact yz.mpr h4
       · show (Yx ("" :Str) ss).cps.toList.length<=1000
         rw[eJ9,List.length_flatten,jK]
         have:(ss.map (xM∘λz=>z.cps.toList)).sum= (zs.map (·.2)).length:=h3
         rw[this,lz]
         lia
 · have a1:0<=(k:Int) / 9 % 6:=jJ _ (by decide)
   have a2:(k:Int) / 9 % 6<6:=jN _ (by decide)
   refine K1<| t6<| aE7.mpr<| c7 rfl ⟨sz,t6<| t8 rfl rfl<| (S5 ⟨by decide,by decide⟩).mpr<| c7 rfl<| (u5 (by decide)).mpr<| (Z6 m6).mpr ?_⟩
   obtain⟨d,hd,e⟩:=cE9 (l:=([("" :Str), "a", "b", "aa", "ab", "ca"]).map D.str) a1 (by exact a2)
   obtain⟨z,hz,rfl⟩:=zY.mp hd
   exact⟨_,e,J8 ⟨⟨z,rfl,dN6 z hz⟩,f1.trans (Fd.app f1.2.2)⟩⟩
end
theorem fD1:aL3=j5 (o9 (X3 q14) (q16 1)) (j5 (aF5 (aB6 (q13 (q15 (fnX 1 X5) (q13 (b7 0) q14)) q14)) (q16 2) WB) (m8 (q15 M9 (q13 (aM9 M8 (b7 1)) q14)))):=rfl
def Wd(ss:List Str):Prop:=ss.Nodup/\∀z∈ss,Tx z
theorem fB4{u v:Option D}(hp:p≠r)(h:Dr G r)(e:G[p]? =some (.lst (ss.map D.str)))(hs:Wd ss)(hl:ss.length<=1000):
 Wp (WB [some (.ref r),some (.ref p),u,v]) G λfl G'=>Fd2 r p G G'/\∃v' ss',fl= .nx [some (.ref r),some (.ref p),u,v']/\G'[p]? =some (.lst (ss'.map D.str))/\Wd ss'/\ss'.length<=ss.length+1:=by
 have bg:=big
 refine d9.mpr<| N7<| j8 rfl rfl<| (cS6 h).mono ?_
 rintro _ G1 ⟨⟨z,rfl,hz⟩,f1⟩
 have e1:=f1.at hp e
 refine Q4<| m9<| t6<| c7 rfl<| c7 rfl<| bJ6.mpr ⟨_,cS8 e1,_,rfl,λhm=>?_,λ_=>j7.mpr ⟨f1.two,_,ss,rfl,e1,hs,by lia⟩⟩
 have hm:z∉ss:=by simpa using hm
 refine aL0.mpr<| aS3.mpr<| c7 rfl<| (S9 e1).mpr<| c7 rfl<| (U7 e1 (by rw[ze];lia)).mpr ?_
 refine⟨f1.two.trans (Fd2.set hp f1.2.2),_,ss++[z],rfl,by rw[zL (lt_of_get e1),jr];rfl,⟨?_,λy hy=>?_⟩,by simp⟩
 · rw[yE]
   exact⟨hs.1,by simp,λa ha b hb=>by rw[zr]at hb;subst hb;exact λe=>hm (by rw[<-e];exact ha)⟩
 · rcases jc.mp hy with hy|hy
   ·exact hs.2 y hy
   ·rw[zr]at hy;subst hy;exact hz
theorem cV9(hp:p≠r):∀items u v ss G,Dr G r->G[p]? =some (.lst (ss.map D.str))->Wd ss->ss.length+items.length<=50->
 Wp (aB8 (q16 2) WB (λ_=>true) items [some (.ref r),some (.ref p),u,v]) G λfl G'=>Fd2 r p G G'/\∃u' v' ss',fl= .nx [some (.ref r),some (.ref p),u',v']/\G'[p]? =some (.lst (ss'.map D.str))/\Wd ss'/\ss'.length<=ss.length+items.length
 |[],u,v,ss,G,h,e,hs,hl=>V3.mpr ⟨rfl,(Fd.refl h).two,u,v,ss,rfl,e,hs,by simp⟩
 |d::t,u,v,ss,G,h,e,hs,hl=>by
   simp only[zD]at hl
   refine aA1.mpr ⟨rfl,O9.mpr<| (fB4 hp h e hs (by lia)).mono ?_⟩
   rintro _ G1 ⟨f1,v1,ss1,rfl,q2,q3,q4⟩
   refine(cV9 hp t _ v1 ss1 G1 f1.2.2 q2 q3 (by lia)).mono ?_
   rintro _ G2 ⟨f2,b1,b2,b3,p1,p2,p3,p4⟩
   exact⟨f1.trans f2,b1,b2,b3,p1,p2,p3,by simp only[zD];lia⟩
theorem cH9(h:Dr G r):Wp (aC2 [.ref r]) G λx G'=>∃ss,x= .tup (ss.map D.str)/\Rw ss/\ss.length<=6/\Fd r G G':=by
 have bg:=big
 refine K7 (show Wp (aL3 [some (.ref r),none,none,none]) G _ from ?_)
 rw[fD1]
 have fd:Fd r G (G++[DO.lst []]):=Fd.app h
 have hp:G.length≠r:=by have:=h.lt;lia
 refine Z9 (X2:= [some (.ref r),some (.ref G.length),none,none]) rfl<| d9.mpr<| aJ9.mpr<| rng1.mpr<| m7<| j8 rfl rfl<| dJ0 fd.2.2 λm hm G2 f2=>m5.mpr<| (rng1_int ⟨by lia,by lia⟩).mpr ?_
 have e2:G2[G.length]? =some (.lst (([]:List Str).map D.str)):=f2.at hp m6
 have hlen:(K6 0 (m:Int).toNat).length=m:=by unfold K6;rw[ze,yk,jR]
 refine(cV9 hp (K6 0 (m:Int).toNat) none none [] G2 f2.2.2 e2 ⟨List.nodup_nil,λz hz=>nomatch hz⟩ (by rw[hlen];simp;lia)).mono ?_
 rintro _ G3 ⟨f3,u',v',ss,rfl,q2,q3,q4⟩
 rw[hlen,yn]at q4
 refine K1<| M7<| m7<| bM5.mpr<| c7 rfl<| cN8 q2 q3.1 (by lia) (λz hz=>zC (q3.2 z hz).2 (by lia)) λm' rm pm=>m5.mpr<| (K9 m6).mpr ?_
 have fr:=(fd.trans f2).thru f3 (zo _)
 have hl:=pm.length_eq
 exact J8 ⟨m',rfl,⟨rm,λz hz=>q3.2 z (pm.mem_iff.mp hz),by lia⟩,by lia,fr.trans (Fd.app fr.2.2)⟩
theorem eC7{c:Int}{k:Nat}{G:DH}{Q:DPP}(hk:k<=1000)(q:∀m:Nat,Q (.int (m:Int)) G):Wp (aG0 [.int c,.int (k:Int)]) G Q:=by
 have s0:([D.int c,D.int (k:Int)].map some++jk (3 - [D.int c,D.int (k:Int)].length) none:DSt)= [some (.int c),some (.int (k:Int)),none]:=rfl
 have b:∀x:Int,0<=x % 2147483647/\x % 2147483647<2147483647:=λx=>⟨jJ _ (by decide),jN _ (by decide)⟩
 have b':∀x:Int,0<=x % 2147483629/\x % 2147483629<2147483629:=λx=>⟨jJ _ (by decide),jN _ (by decide)⟩
 have m1:bA1 40692 ((k:Int)+1):=Or.inl ⟨by decide,by decide⟩
 have mm:∀x:Int,0<=x->x<2147483647->bA1 x x:=λx h1 h2=>Or.inl ⟨by lia,by lia⟩
 have m3:∀x:Int,bA1 48271 x:=λx=>Or.inl ⟨by decide,by decide⟩
 have m4:∀x:Int,bA1 x 69621:=λx=>Or.inr ⟨by decide,by decide⟩
 unfold aG0 aS1
 simp only[aA3,s0,d9,S7,O9,aF8,aI4,bH7,R7,zE,exists_eq_left',zy,zO,jU,jM,u5 (show (0:Int)<2147483647 by decide),u5 (show (0:Int)<2147483629 by decide),aR4,aI9 m1]
 generalize hx:(c % 2147483647+40692*((k:Int)+1)) % 2147483647=x
 have hb:=b (c % 2147483647+40692*((k:Int)+1))
 rw[hx]at hb
 simp only[aI9 (mm x hb.1 hb.2),aI9 (m3 x),aR4]
 generalize hy:(x*x+48271*x+(k:Int)) % 2147483647=y
 have hb2:=b (x*x+48271*x+(k:Int))
 rw[hy]at hb2
 simp only[u5 (show (0:Int)<2147483647 by decide),hy,aI9 (mm y hb2.1 hb2.2),u5 (show (0:Int)<2147483629 by decide),aI9 (m4 _),S5 (show (0:Int)<8/\(8:Int)<2 ^ 100 by decide)]
 obtain⟨n,hn⟩:=yS (b' (y*y % 2147483629*69621)).1
 rw[hn]
 have:=q (n / 8)
 simpa using this
theorem dT0{a b:Nat}(h:0<b):Wp (K5 (.int (a:Int)) (.int (b:Int))) G Q↔Q (.int ((a % b:Nat):Int)) G:=by rw[u5 (by lia)];simp
theorem dF4{a b:Nat}(h:0<b)(h2:b<1000):Wp (O6 (.int (a:Int)) (.int (b:Int))) G Q↔Q (.int ((a / b:Nat):Int)) G:=by rw[S5 ⟨by lia,by lia⟩];simp
theorem aY7{p k:Nat}(e:G[p]? =some (.lst l))(h:l[k]? =some d):Wp (ixD (.ref p) (.int (k:Int))) G Q↔Q d G:=by
 rw[Z6 e,atI_nat h];exact T8
theorem cX7{p:Nat}{l:List D}{G:DH}{Q:DPP}(e:G[p]? =some (.lst l)):Wp (aB0 [.ref p]) G Q↔Q (.int (l.length:Int)) G:=by
 unfold aB0
 simp only[j6,S8,e,T8,wp_pure]
noncomputable def aU1(ns:List Nat):List D:=ns.map λn:Nat=>D.int (n:Int)
structure PuI(pc pr pp:Nat)(cs:List Int)(rs ns:List Nat)(G:DH):Prop where
 c:G[pc]? =some (.lst (cs.map D.int))
 r:G[pr]? =some (.lst (aU1 rs))
 p:G[pp]? =some (.lst (aU1 ns))
 n0:0<cs.length
 nl:cs.length<=100
 eq:rs.length=cs.length
 ne:pc≠pr/\pc≠pp/\pr≠pp
theorem PuI.at{pc pr pp:Nat}{cs:List Int}{rs ns:List Nat}{G:DH}(I:PuI pc pr pp cs rs ns G){k:Nat}(hk:k<cs.length):(∃n:Nat,rs[k]? =some n)/\∃c:Int,cs[k]? =some c:=by
 refine⟨⟨rs[k]'(by rw[I.eq];exact hk),zf _⟩,⟨cs[k],zf _⟩⟩
noncomputable def Gr3(pr pp:Nat)(G G':DH):Prop:=G'.length=G.length/\∀i,i≠pr->i≠pp->G'[i]? =G[i]?
theorem fE2{pc pr pp k:Nat}{rs ns:List Nat}(I:PuI pc pr pp cs rs ns G)(hn:ns.length<=1000)(hk:k<=1000):
 Wp (PB [o0,o1,o2,o3,some (.ref pc),some (.ref pr),some (.ref pp),some (.int (k:Int)),u]) G λfl G'=>Gr3 pr pp G G'/\∃u' rs' ns',fl= .nx [o0,o1,o2,o3,some (.ref pc),some (.ref pr),some (.ref pp),some (.int (k:Int)),u']/\PuI pc pr pp cs rs' ns' G'/\ns'.length=ns.length+1:=by
 have bg:=big
 unfold PB
 have hlc:(cs.map D.int).length=cs.length:=ze _
 simp only[d9,S7,O9,bC9,aL6,aL0,aS3,dK3,aI4,X6,T5,m5,bH7,R7,Q8,zE,exists_eq_left',zy,zO,jU,jM,cX7 I.c,hlc,dT0 I.n0]
 have hm:k % cs.length<cs.length:=ZZ _ I.n0
 generalize hj:k % cs.length=j at hm ⊢
 obtain⟨⟨n,en⟩,c,ec⟩:=I.at hm
 have en':(aU1 rs)[j]? =some (.int (n:Int)):=by unfold aU1;rw[zG,en];rfl
 have ec':(cs.map D.int)[j]? =some (.int c):=by rw[zG,ec];rfl
 have hjr:j<rs.length:=by rw[I.eq];exact hm
 have hnl:(aU1 ns).length=ns.length:=ze _
 rw[aY7 I.r en',fL6]
 simp only[bN3]
 by_cases h0:(0:Int)<(n:Int)
 · simp only[h0,decide_true,if_true]
   rw[S9 I.p,aY7 I.r en',u5 (by decide),U7 I.p (by lia)]
   have lp:=lt_of_get I.p
   have lr:=lt_of_get I.r
   have r1:(G.set pp (.lst (aU1 ns++[.int ((n:Int) % 1000003)])))[pr]? =some (.lst (aU1 rs)):=by rw[zS (Ne.symm I.ne.2.2)];exact I.r
   rw[aY7 r1 en',S5 (by decide),cR7 r1 (j:=j) (by unfold ixN aU1;simp;lia)]
   refine⟨⟨by simp,λi h1 h2=>by rw[zS (Ne.symm h1),zS (Ne.symm h2)]⟩,_,rs.set j (n / 1000003),ns++[n % 1000003],rfl,⟨?_,?_,?_,I.n0,I.nl,by rw[xJ];exact I.eq,I.ne⟩,by simp⟩
   ·rw[zS (Ne.symm I.ne.1),zS (Ne.symm I.ne.2.1)];exact I.c
   · rw[zL (lt_of_get r1)]
     unfold aU1
     rw[List.map_set]
     simp
   · rw[zS I.ne.2.2,zL lp]
     unfold aU1
     rw[jr]
     simp
 · simp only[h0,decide_false,jf,if_false]
   rw[S9 I.p,aY7 I.c ec',cX7 I.c,hlc,dF4 I.n0 (by have:=I.nl;lia)]
   refine⟨rfl,eC7 (zC (Nat.div_le_self _ _) hk) λm=>?_⟩
   rw[U7 I.p (by lia)]
   refine⟨⟨by simp,λi h1 h2=>by rw[zS (Ne.symm h2)]⟩,_,rs,ns++[m],rfl,⟨?_,?_,?_,I.n0,I.nl,I.eq,I.ne⟩,by simp⟩
   ·rw[zS (Ne.symm I.ne.2.1)];exact I.c
   ·rw[zS (Ne.symm I.ne.2.2)];exact I.r
   · rw[zL (lt_of_get I.p)]
     unfold aU1
     rw[jr]
     simp
theorem cW2:∀m j v u rs ns G,PuI pc pr pp cs rs ns G->ns.length+m<=1000->j+m<=1000->
 Wp (aB8 (q16 7) PB (λ_=>true) ((yw j m).map fun(i:Nat)=>D.int (0+(i:Int))) [o0,o1,o2,o3,some (.ref pc),some (.ref pr),some (.ref pp),v,u]) G λfl G'=>Gr3 pr pp G G'/\∃v' u' rs' ns',fl= .nx [o0,o1,o2,o3,some (.ref pc),some (.ref pr),some (.ref pp),v',u']/\PuI pc pr pp cs rs' ns' G'
 |0,j,v,u,rs,ns,G,I,hn,hj=>by
   simp only[List.range'_zero,Zn,V3]
   exact⟨trivial,⟨rfl,λ_ _ _=>rfl⟩,_,_,rs,ns,rfl,I⟩
 |m+1,j,v,u,rs,ns,G,I,hn,hj=>by
   simp only[xW,zB,aA1,O9,jM,jU]
   refine⟨trivial,?_⟩
   rw[show (0+(j:Int))= (j:Int) by lia]
   refine Wp.mono (fE2 I (by lia) (by lia)) λfl G1 ⟨g1,u1,rs1,ns1,e1,I1,hl1⟩=>?_
   subst e1
   exact Wp.mono (cW2 m (j+1) _ _ rs1 ns1 G1 I1 (by lia) (by lia)) λfl G2 ⟨g2,h2⟩=>⟨⟨g2.1.trans g1.1,λi a b=>(g2.2 i a b).trans (g1.2 i a b)⟩,h2⟩
theorem fP4:aR3=j5 (o9 (bA4 (b7 0) (aV5 (b7 1)) (aV5 (cE (.int 126))) (aV5 (b7 2))) (q16 4)) (j5 (ifS (f9 (b8 eqD (b7 4) (X3 q14))) (o9 (X3 (q13 (b7 1) q14)) (q16 4)) j9) PT):=rfl
theorem bY9:Wp (geD (.int i) (.int j)) G Q↔Q (.bl (decide (j<=i))) G:=wp_pure
noncomputable def bA5(c:Int):Nat:=if 1000000000000000000<=c.natAbs then c.natAbs else 0
theorem fI9{cs:List Int}(e:G[p]? =some (.lst (cs.map D.int)))(hl:cs.length<=100)(q:Q (.ref G.length) (G++[.lst (aU1 (cs.map bA5))])):Wp (PR [o0,o1,o2,o3,some (.ref p),o5,o6,o7,o8]) G Q:=by
 have bg:=big
 unfold PR
 have hs:itW (b7 4) [o0,o1,o2,o3,some (.ref p),o5,o6,o7,o8] G=some (.ok ⟨cs.map D.int,ckO p (.lst (cs.map D.int))⟩,G):=by
  obtain⟨a,G',e1,e2⟩:=(show Wp (itW (b7 4) [o0,o1,o2,o3,some (.ref p),o5,o6,o7,o8]) G λa G'=>a= ⟨cs.map D.int,ckO p (.lst (cs.map D.int))⟩/\G'=G by
   simp only[wp_itW,R7,zy,zO,zE,exists_eq_left']
   rw[aP8 e]
   exact⟨rfl,rfl⟩)
  rw[e2.1,e2.2]at e1
  exact e1
 rw[cV5 (λσ=>σ.length=1) hs (by show (cs.map D.int).length<=_;rw[ze];lia) (by simp only[ckO,e];simp) rfl (λx hx σ WY=>?_)]
 · have em:(cs.map D.int).map (λx=>match x with| .int c=>D.int (bA5 c:Int)|_=>.non)=aU1 (cs.map bA5):=by
    unfold aU1
    rw[jK,jK]
    rfl
   show Q (.ref G.length) (G++[.lst ((cs.map D.int).map λx=>match x with| .int c=>D.int (bA5 c:Int)|_=>.non)])
   rw[em]
   exact q
 · obtain⟨c,hc,rfl⟩:=zY.mp hx
   match σ,WY with
   |[u],_=>
     refine⟨[some (.int c)],rfl,rfl,rfl,O7 ?_⟩
     simp only[aI4,X6,T5,m5,bH7,R7,zy,zE,exists_eq_left',eE6,p18,bY9,eX9]
     have ea:(if c<0 then -c else c)= (c.natAbs:Int):=by split<;>lia
     rw[ea]
     by_cases h1:1000000000000000000<=c.natAbs
     · have h1':decide ((1000000000000000000:Int)<=(c.natAbs:Int))=true:=decide_eq_true (by lia)
       rw[h1',if_pos rfl,aI9 (Or.inr ⟨by decide,by decide⟩)]
       unfold bA5
       rw[if_pos h1]
       exact⟨by simp,rfl⟩
     · have h1':decide ((1000000000000000000:Int)<=(c.natAbs:Int))=false:=decide_eq_false (by lia)
       rw[h1',if_neg (by decide),aI9 (Or.inr ⟨by decide,by decide⟩)]
       unfold bA5
       rw[if_neg h1]
       exact⟨by simp,rfl⟩
theorem cY1{ns:List Int}{lo hi st:Option Int}:∃cs:List Int,cF2 (ns.map D.int) lo hi st=cs.map D.int/\cs.length<=ns.length:=by
 refine⟨(bG8 ns.length lo hi st).filterMap (ns[·]?),?_,?_⟩
 · unfold cF2
   rw[ze,List.map_filterMap]
   congr 1
   funext i
   rw[zG]
 · have h:=slicePick_size_le (ns.map λi=>Value.none).toArray lo hi st
   unfold XX at h
   rw[zj,zj,ze]at h
   refine zC (xA ?_) h
   unfold bG8
   generalize sliceRange _ _ _=is
   induction is with
   |nil=>rfl
   |cons i r ih=>
     rw[jQ,jQ]
     by_cases hi:i<ns.length
     ·simp[hi,ih]
     ·simp[hi,ih]
theorem eJ2{st:Int}{cs:List Int}{G G1:DH}(g1:Gr G G1)(e1:G1[pc]? =some (.lst (cs.map D.int)))(h0:0<cs.length)(hl:cs.length<=63)(hpc:G.length<=pc):
 Wp (PT [some (.ref p0),some (.int a),some (.int st),some (.int 60),some (.ref pc),none,none,none,none]) G1 λfl G'=>∃r,fl= .rt (.ref r)/\Dr G' r/\Gr G G'/\G.length<=r:=by
 unfold PT
 simp only[d9,S7,O9,aE7,m5,jU,jM]
 refine fI9 e1 (by lia) ⟨sz,?_⟩
 have l1:=lt_of_get e1
 rw[aJ9]
 simp only[rng1,T5,m5,R7,zE,exists_eq_left',zy,zO]
 rw[rng1_int ⟨by decide,by decide⟩]
 have er:K6 0 (60:Int).toNat= (yw 0 60).map fun(i:Nat)=>D.int (0+(i:Int)):=by
  unfold K6
  rw[Zf]
  rfl
 show Wp (aB8 (q16 7) PB (λ_=>true) (K6 0 (60:Int).toNat) _) _ _
 rw[er]
 have I:PuI pc G1.length (G1++[DO.lst (aU1 (cs.map bA5))]).length cs (cs.map bA5) [] (G1++[DO.lst (aU1 (cs.map bA5))]++[DO.lst []]):=⟨aN1 (aN1 e1),aN1 m6,m6,h0,by lia,by simp,by simp;lia⟩
 refine Wp.mono (cW2 60 0 none none _ _ _ I (by simp) (by lia)) λfl G3 ⟨g3,v',u',rs',ns',e3,I3⟩=>?_
 subst e3
 simp only[aF8,eJ3,R7,zE,exists_eq_left',zy,zO]
 rw[dQ1 I3.p]
 have hlen:=g3.1
 simp only[zM,jS]at hlen
 refine⟨_,rfl,⟨ns'.reverse,by rw[m6];unfold aU1;rw[List.map_reverse]⟩,?_,?_⟩
 · refine⟨?_,λi hi=>?_⟩
   · have:=g1.1
     simp only[zM,jS];lia
   · have:=g1.1
     rw[zJ (by lia),g3.2 i (by lia) (by simp;lia),zJ (by simp;lia),zJ (by lia),g1.2 i hi]
 · have:=g1.1
   lia
theorem bK6{p0:Nat}{a:Nat}{st:Int}(h0:st≠0){ns:List Int}(e:G[p0]? =some (.rol (ns.map D.int)))(hn:ns.length<=63):Wp (U4 [.ref p0,.int (a:Int),.int st,.int 60]) G λx G'=>∃r,x= .ref r/\Dr G' r/\Gr G G'/\G.length<=r:=by
 have bg:=big
 unfold U4
 rw[fP4]
 have s0:([D.ref p0,.int (a:Int),.int st,.int 60].map some++jk (9 - [D.ref p0,.int (a:Int),.int st,.int 60].length) none:DSt)= [some (.ref p0),some (.int (a:Int)),some (.int st),some (.int 60),none,none,none,none,none]:=rfl
 simp only[aA3,s0,d9,S7,O9,bC9,aL6,aI4,aE7,T5,m5,bH7,R7,j7,dE7,eD4,fN7,zE,exists_eq_left',zy,zO,jU,jM]
 rw[dW7 e (by simpa using h0)]
 obtain⟨cs,ec,hc⟩:=cY1
 rw[ec]
 refine⟨sz,?_⟩
 rw[cW1 (aN1 m6) m6]
 simp only[bN3]
 cases cs with
 |nil=>
   simp only[Zn,List.isEmpty_nil,if_true]
   refine⟨sz,?_⟩
   refine Wp.mono (eJ2 (cs:= [(a:Int)]) (Gr.app.trans (Gr.app.trans Gr.app)) m6 (by simp) (by simp) (by simp)) λfl G' ⟨r,e1,h1⟩=>?_
   subst e1
   exact⟨r,rfl,h1⟩
 |cons c0 cr=>
   simp only[zB,List.isEmpty_cons,jf,if_false]
   refine Wp.mono (eJ2 (cs:=c0::cr) (Gr.app.trans Gr.app) (aN1 m6) (by simp) (by lia) (zo _)) λfl G' ⟨r,e1,h1⟩=>?_
   subst e1
   exact⟨r,rfl,h1⟩
def DC(n:Nat)(c:CS n):Prop:=Gd n c/\SzC n 6 c
def LOk(n:Nat)(r:Option (List (CS n)×CS n)):Prop:=aK4 (inC n) (Gd n) r/\lsZ n 6 r
def ROk(n:Nat)(r:Option (List (Str×Bool×CS n)×CS n)):Prop:=aE9 (inC n) (Gd n) r/\rsZ n 6 r
def cB3(n:Nat):CS (n+1):=some (bW9 _)
theorem cM2:∀n k,SzC n k (aR8 n)
 |0,_=>trivial
 |_+1,_=>λ_ e=>nomatch e
theorem bW7(n:Nat):DC n (aR8 n):=⟨bX1 n,cM2 n 6⟩
theorem aX9(n:Nat):DC (n+1) (cB3 n):=⟨dT1,by
 rintro _ ⟨⟩
 exact⟨jh _,jh _,λ_ h=>(nomatch h),λ_ _ e=>(nomatch e),λ_ _ e=>(nomatch e)⟩⟩
theorem eZ8:LOk n none:=⟨λ_ _ e=>(nomatch e),λ_ _ e=>(nomatch e)⟩
theorem eZ9:ROk n none:=⟨λ_ _ e=>(nomatch e),λ_ _ e=>(nomatch e)⟩
theorem dR0:LOk n (some ([],aR8 n)):=⟨by rintro _ _ ⟨⟩;exact⟨bX1 n,λ_ h=>(nomatch h)⟩,by rintro _ _ ⟨⟩;exact⟨jh _,cM2 n 6,λ_ h=>(nomatch h)⟩⟩
theorem dP7:ROk n (some ([],aR8 n)):=⟨by rintro _ _ ⟨⟩;exact⟨bX1 n,.nil,λ_ h=>(nomatch h)⟩,by rintro _ _ ⟨⟩;exact⟨jh _,cM2 n 6,λ_ h=>(nomatch h)⟩⟩
theorem bX5:v7 [] G=some (.ok aF6,G):=rfl
theorem bL6:R5 [] G=some (.ok evD,G):=rfl
theorem dR3:(k:Int) / 8 % 2=0\/(k:Int) / 8 % 2=1:=by
 have a1:0<=(k:Int) / 8 % 2:=jJ _ (by decide)
 have a2:(k:Int) / 8 % 2<2:=jN _ (by decide)
 lia
theorem dX8:∃b,atI [D.non,.tup [.tup [],.str aZ4]] ((k:Int) / 8 % 2)=some (lsD (enC n) b)/\LOk n b:=by
 rcases dR3 with z|z
 ·exact⟨none,by rw[z];rfl,eZ8⟩
 ·exact⟨some ([],aR8 n),by rw[z];show _=some (D.tup [.tup [],enC n (aR8 n)]);rw[cN2];rfl,dR0⟩
theorem eG3:∃b,atI [D.non,.tup [.tup [],.str aZ4]] ((k:Int) / 8 % 2)=some (rcD (enC n) b)/\ROk n b:=by
 rcases dR3 with z|z
 ·exact⟨none,by rw[z];rfl,eZ9⟩
 ·exact⟨some ([],aR8 n),by rw[z];show _=some (D.tup [.tup [],enC n (aR8 n)]);rw[cN2];rfl,dP7⟩
def DAt(d:Nat)(R:List D->M D):Prop:=∀(G:DH) (r:Nat),Dr G r->Wp (R [.ref r,.int (d:Int)]) G λx G'=>Fd r G G'/\∃c,x=enC (d+1) c/\DC (d+1) c
section
variable{r d:Nat}{G:DH}{R:List D->M D}
theorem cV1(ih:DAt d R)(h:Dr G r):Wp (W5 R [.ref r,.int (k:Int),.int (d:Int)]) G λx G'=>Fd r G G'/\∃c,x=enC (d+1) c/\DC (d+1) c:=by
 refine K7 (show Wp (aP0 R [some (.ref r),some (.int (k:Int)),some (.int (d:Int))]) G _ from ?_)
 unfold aP0
 refine d9.mpr<| Q4<| m9<| t6<| t8 rfl rfl<| (u5 (by decide)).mpr<| c7 rfl<| bD8.mpr ⟨_,rfl,λ_=>?_,λ_=>j7.mpr ?_⟩
 ·exact K1<| j8 rfl rfl<| ih G r h
 ·exact K1<| j8 rfl rfl<| c7 bX5<| J8 ⟨Fd.refl h,cB3 d,rfl,aX9 d⟩
theorem bE1:((d+1:Nat):Int)-1= (d:Int):=by lia
theorem dO0(h6:d<=6)(ih:∀d',d=d'+1->DAt d' R)(h:Dr G r):Wp (aC3 R [.ref r,.int (d:Int)]) G λx G'=>Fd r G G'/\∃b,x=lsD (enC d) b/\LOk d b:=by
 refine K7 (show Wp (aK9 R [some (.ref r),some (.int (d:Int)),none,none,none]) G _ from ?_)
 unfold aK9
 refine d9.mpr<| N7<| j8 rfl rfl<| Z8 h λk G1 f1=>d9.mpr ?_
 have pick:∀ {σ:DSt} {P:Fl->DH->Prop},σ[2]? =some (some (.int (k:Int)))->(∀x G',(Fd r G G'/\∃b,x=lsD (enC d) b/\LOk d b)->P (.rt x) G')->Wp (m8 (b8 ixD (X3 (q13 (cE .non) (q13 (J7 (q13 (J7 q14) (q13 (cE (.str ("any" :Str))) q14))) q14))) (b8 K5 (b8 O6 (b7 2) (cE (.int 8))) (cE (.int 2)))) σ) G1 P:=λ{σ P} WY hP=>by
  refine K1<| t6<| aE7.mpr<| c7 rfl ⟨sz,t6<| t8 (O7 (R7.mpr ⟨_,WY,rfl,rfl⟩)) rfl<| (S5 ⟨by decide,by decide⟩).mpr<| c7 rfl<| (u5 (by decide)).mpr<| (Z6 m6).mpr ?_⟩
  obtain⟨b,hb,ob⟩:=dX8
  exact⟨_,hb,hP _ _ ⟨f1.trans (Fd.app f1.2.2),b,rfl,ob⟩⟩
 refine Q4<| aD1<| m9<| t8 rfl rfl<| R6.mpr ⟨_,rfl,λ_=>⟨λ_=>pick rfl λ_ _ q=>q,λz=>nomatch z⟩,λhd=>?_⟩
 have hd:¬((d:Int)=0):=of_decide_eq_false hd
 refine m9<| t6<| t8 rfl rfl<| (u5 (by decide)).mpr<| c7 rfl<| R6.mpr ⟨_,rfl,λ_=>pick rfl λ_ _ q=>q,λ_=>j7.mpr ?_⟩
 rcases d with _|d
 ·exact absurd rfl hd
 have ih:=ih d rfl
 refine d9.mpr<| N7<| j8 (by show some (Except.ok [D.ref r,.int (k:Int),.int (((d+1:Nat):Int)-1)],G1)=_;rw[bE1]) rfl<| (cV1 ih f1.2.2).mono ?_
 rintro _ G2 ⟨f2,m,rfl,hm⟩
 refine d9.mpr<| N7<| wp_comp.mpr<| rng1.mpr<| m7<| j8 rfl rfl<| dJ0 f2.2.2 λq hq G3 f3=>m5.mpr<| (rng1_int ⟨by lia,by lia⟩).mpr ?_
 have hlen:(K6 0 (q:Int).toNat).length=q:=by unfold K6;rw[ze,yk,jR]
 refine⟨by have:=big;dsimp only;rw[hlen];lia,?_⟩
 refine(bN0 (λG'=>Fd r G3 G') (λσ=>∃u,σ= [u,some (.int ((d+1:Nat):Int)),some (.ref r)]) (λ_ y=>∃c,y=enC (d+1) c/\DC (d+1) c) (λ_ _=>rfl) _ _ _ ⟨none,rfl⟩ (Fd.refl f3.2.2) ?_).mono ?_
 · intro x hx σ G4 WY f4
   obtain⟨u,rfl⟩:=WY
   refine c7 rfl ⟨rfl,⟨_,rfl⟩,?_⟩
   refine j8 (by show some (Except.ok [D.ref r,.int (((d+1:Nat):Int)-1)],G4)=_;rw[bE1]) rfl<| (ih G4 r f4.2.2).mono ?_
   rintro y G5 ⟨f5,c,e,hc⟩
   exact⟨f4.trans f5,c,e,hc⟩
 · rintro ys G4 ⟨f4,zs,e1,rfl,hz⟩
   obtain⟨fs,e2,e3,e4⟩:=dE0 (P:=λ_ c=>DC (d+1) c) zs hz
   rw[e2]
   have hl:fs.length=q:=by rw[e3,<-ze,e1,hlen]
   have hf:∀a∈fs,DC (d+1) a:=λa ha=>by
    obtain⟨i,hi,rfl⟩:=jX.mp ha
    have hi':i<(zs.map (·.1)).length:=by rw[ze,<-e3];exact hi
    exact e4 i fs[i] _ (zf hi) (zf hi')
   have f5:Fd r G4 (G4++[.lst (fs.map (enC (d+1)))]):=Fd.app f4.2.2
   generalize hG:G4++[DO.lst (fs.map (enC (d+1)))]=G5 at *
   have e5:G5[G4.length]? =some (.lst (fs.map (enC (d+1)))):=by rw[<-hG];exact m6
   have hc:N6 (q16 0) (f9 (b8 neD (b7 0) (q15 (fnX 0 v7) q14))) (b7 0) (ckO G4.length (.lst (fs.map (enC (d+1))))) (fs.map (enC (d+1))) (W3 [none] [some (.ref r),some (.int ((d+1:Nat):Int)),some (.int (k:Int)),some (enC (d+1) m),some (.ref G4.length)]) G5=some (.ok ((fs.map (enC (d+1))).filter λx=> !(eqN 40 G5 x aF6).getD false),G5):=by
    refine aB1 (cQ8 e5) (λσ=>∃u,σ= [u]) _ _ ⟨_,rfl⟩ λx hx σ WY=>?_
    obtain⟨a,ha,rfl⟩:=zY.mp hx
    obtain⟨u,rfl⟩:=WY
    obtain⟨b,e,_⟩:=aR6 (by lia) G5 a (cB3 d)
    refine⟨[some (enC (d+1) a)],rfl,⟨_,rfl⟩,O7 (m9<| t8 rfl rfl<| aO5.mpr ⟨b,e,_,rfl,?_,rfl⟩),rfl⟩
    rw[show eqN 40 G5 (enC (d+1) a) aF6=some b from e]
    rfl
   refine K1<| V8.mpr<| m7<| M7<| m7<| wp_comp.mpr<| wp_itW.mpr<| c7 rfl<| (aP8 e5).mpr ⟨by have:=big;rw[ze,hl];lia,c7 hc<| m5.mpr<| (K9 m6).mpr<| c7 rfl ⟨sz,?_⟩⟩
   have ef:((fs.map (enC (d+1))).filter λx=> !(eqN 40 G5 x aF6).getD false)= (fs.filter λa=> !(eqN 40 G5 (enC (d+1) a) aF6).getD false).map (enC (d+1)):=by rw[Zh];rfl
   rw[ef]
   refine J8 ⟨(f1.trans (f2.trans (f3.trans (f4.trans f5)))).trans (Fd.app f5.2.2),some (_,m),rfl,?_,?_⟩
   · rintro _ _ ⟨⟩
     refine⟨hm.1,λa ha=>?_⟩
     obtain⟨h1,h2⟩:=jE.mp ha
     refine⟨(hf a h1).1,zW λz=>?_⟩
     obtain⟨b,e,hb⟩:=aB5 (by lia) G5 a (hf a h1).1
     rw[e]at h2
     have:b=true:=hb.mpr λv k=>z ⟨v,k⟩
     rw[this]at h2
     cases h2
   · rintro _ _ ⟨⟩
     exact⟨by have:=xg (λa=> !(eqN 40 G5 (enC (d+1) a) aF6).getD false) fs;lia,hm.2,λa ha=>(hf a (jE.mp ha).1).2⟩
end
theorem dU3(h:Ris s):s.Nodup:=by
 rw[xo]
 refine XV ?_ h
 intro a b k e
 rw[e,aW6]at k
 cases k
noncomputable def nmB:D->Bool
 | .str z=>decide ((0:Int)<(z.length:Int))&&decide ((z.length:Int)<9)
 |_=>false
section
theorem dR9(h:Dr G r):Wp (aF9 [.ref r]) G λx G'=>Fd r G G'/\∃(p:Nat) (ws:List Str),x= .ref p/\G.length<=p/\G'[p]? =some (.lst (ws.map D.str))/\ws.Pairwise nlt/\(∀z∈ws,Tx z/\0<z.length)/\ws.length<=6:=by
 have bg:=big
 refine K7 (show Wp (aL7 [some (.ref r)]) G _ from ?_)
 unfold aL7
 refine K1<| M7<| m7<| wp_comp.mpr<| wp_itW.mpr<| j8 rfl rfl<| (cH9 h).mono ?_
 rintro _ G1 ⟨ss,rfl,rw_,ls,f1⟩
 refine srcW_tup.mpr ⟨by rw[ze];lia,?_⟩
 have hc:N6 (q16 0) (f9 (bE3 ltD ltD (cE (.int 0)) (q15 aB0 (q13 (b7 0) q14)) (cE (.int 9)))) (b7 0) (λ_=>true) (ss.map D.str) (W3 [none] [some (.ref r)]) G1=some (.ok ((ss.map D.str).filter nmB),G1):=by
  refine aB1 rfl (λσ=>∃u,σ= [u]) _ _ ⟨_,rfl⟩ λx hx σ WY=>?_
  obtain⟨z,hz,rfl⟩:=zY.mp hx
  obtain⟨u,rfl⟩:=WY
  refine⟨[some (.str z)],rfl,⟨_,rfl⟩,O7 (m9<| dF8.mpr<| c7 rfl<| c7 (O7<| aJ6 rfl<| (bA6 (zC (rw_.tx z hz).2 (by lia))).mpr ⟨rfl,rfl⟩)<| aU9.mpr ⟨_,rfl,?_⟩),rfl⟩
  show if decide ((0:Int)<(z.length:Int))=true then _ else _
  by_cases hz:(0:Int)<(z.length:Int)
  · rw[decide_eq_true hz,if_pos rfl]
    refine c7 rfl<| aU9.mpr ⟨_,rfl,?_,rfl⟩
    show _= (decide ((0:Int)<(z.length:Int))&&decide ((z.length:Int)<9))
    rw[decide_eq_true hz];rfl
  · rw[decide_eq_false hz,if_neg (by decide)]
    refine⟨_,rfl,?_,rfl⟩
    show _= (decide ((0:Int)<(z.length:Int))&&decide ((z.length:Int)<9))
    rw[decide_eq_false hz];rfl
 have ef:(ss.map D.str).filter nmB= (ss.filter (nmB∘D.str)).map D.str:=by rw[Zh]
 rw[ef]at hc
 have hl:=xg (nmB∘D.str) ss
 refine c7 hc<| m5.mpr<| (dA2 m6 (bK9 _) (by lia)).mpr<| J8 ⟨(f1.trans (Fd.app f1.2.2)).trans (Fd.app (Fd.app f1.2.2).2.2),_,_,rfl,?_,m6,cG4 ((dU3 rw_.ris).sublist Zl),λz hz=>?_,?_⟩
 · have:=f1.1
   rw[zM];lia
 · have hz:=(js _ leS).mem_iff.mp hz
   obtain⟨h1,h2⟩:=jE.mp hz
   refine⟨rw_.tx z h1,?_⟩
   have h2:(decide ((0:Int)<(z.length:Int))&&decide ((z.length:Int)<9))=true:=h2
   rw[zZ,decide_eq_true_iff]at h2
   lia
 ·exact zC (xA (js _ leS).length_eq) (by lia)
structure RE(n:Nat)(m:CS n)(es:List (Str×Bool×CS n)):Prop where
 nms:Nms es
 at_:∀e∈es,Gd n e.2.2/\(e.2.1=true->∃v,inC n e.2.2 v)/\(e.2.1=false->e.2.2≠m)
 sz:∀e∈es,SzC n 6 e.2.2/\Tx e.1/\0<e.1.length
theorem RE.snoc(h:RE n m es)(hn:∀x∈es,nlt x.1 e.1)(h1:Gd n e.2.2/\(e.2.1=true->∃v,inC n e.2.2 v)/\(e.2.1=false->e.2.2≠m))(h2:SzC n 6 e.2.2/\Tx e.1/\0<e.1.length):RE n m (es++[e]):=
 ⟨Yq.mpr ⟨h.nms,ZE ..,λa ha b hb=>by rw[zr.mp hb];exact hn a ha⟩,λx hx=>(jc.mp hx).elim (h.at_ x) λk=>by rw[zr.mp k];exact h1,λx hx=>(jc.mp hx).elim (h.sz x) λk=>by rw[zr.mp k];exact h2⟩
theorem fH2(h6:d<=6)(ih:DAt d R)(hp:p≠r)(h:Dr G r)(e:G[p]? =some (.lst (es.map (fdE (enC (d+1))))))(hm:DC (d+1) m)(he:RE (d+1) m es)(hn:∀x∈es,nlt x.1 z)(hz:Tx z/\0<z.length)(hl:es.length<=100):
 Wp (RB R [some (.ref r),some (.int ((d+1:Nat):Int)),some (.int (k:Int)),some (enC (d+1) m),some (.ref p),some (.str z),u,v]) G λfl G'=>Fd2 r p G G'/\∃u' v' es',fl= .nx [some (.ref r),some (.int ((d+1:Nat):Int)),some (.int (k:Int)),some (enC (d+1) m),some (.ref p),some (.str z),u',v']/\G'[p]? =some (.lst (es'.map (fdE (enC (d+1)))))/\RE (d+1) m es'/\es'.length<=es.length+1/\∀x∈es',x∈es\/x.1=z:=by
 have bg:=big
 refine d9.mpr<| N7<| j8 (by show some (Except.ok [D.ref r,.int (((d+1:Nat):Int)-1)],G)=_;rw[bE1]) rfl<| (ih G r h).mono ?_
 rintro _ G1 ⟨f1,c,rfl,hc⟩
 have must:∀ {S:DPP},(∀b G2,Fd r G1 G2->(b=true->∃v,inC (d+1) c v)->S (.bl b) G2)->Wp ((aQ5 (b8 eqD (b8 K5 (q15 (fnX 1 o4) (q13 (b7 0) q14)) (cE (.int 2))) (cE (.int 0))) (b8 neD (b7 6) (q15 (fnX 0 v7) q14))) [some (.ref r),some (.int ((d+1:Nat):Int)),some (.int (k:Int)),some (enC (d+1) m),some (.ref p),some (.str z),some (enC (d+1) c),v]) G1 S:=λ{S} hS=>by
  refine cA1.mpr<| t6<| t6<| j8 rfl rfl<| Z8 f1.2.2 λj G2 f2=>c7 rfl<| (u5 (by decide)).mpr<| c7 rfl<| R6.mpr<| V9.mpr ?_
  by_cases hj:(j:Int) % 2=0
  · rw[decide_eq_true hj,if_pos rfl]
    obtain⟨b,eb,hb⟩:=aB5 (by lia) G2 c hc.1
    refine t8 rfl rfl<| aO5.mpr ⟨b,eb,hS _ G2 f2 λe=>zW λz=>?_⟩
    have:b=true:=hb.mpr λv k=>z ⟨v,k⟩
    rw[this]at e
    cases e
  · rw[decide_eq_false hj,if_neg (by decide)]
    exact hS false G2 f2 λe=>nomatch e
 refine d9.mpr<| N7<| must λb G2 f2 hb=>?_
 have f12:=f1.trans f2
 have e2:=f12.at hp e
 have add:(b=false->c≠m)->Wp ((aM6 (mtE T4 X7 (b7 4) (q13 (J7 (q13 (b7 5) (q13 (b7 7) (q13 (b7 6) q14)))) q14))) [some (.ref r),some (.int ((d+1:Nat):Int)),some (.int (k:Int)),some (enC (d+1) m),some (.ref p),some (.str z),some (enC (d+1) c),some (.bl b)]) G2 λfl G'=>Fd2 r p G G'/\∃u' v' es',fl= .nx [some (.ref r),some (.int ((d+1:Nat):Int)),some (.int (k:Int)),some (enC (d+1) m),some (.ref p),some (.str z),u',v']/\G'[p]? =some (.lst (es'.map (fdE (enC (d+1)))))/\RE (d+1) m es'/\es'.length<=es.length+1/\∀x∈es',x∈es\/x.1=z:=λhne=>by
  refine aL0.mpr<| aS3.mpr<| c7 rfl<| (S9 e2).mpr<| c7 rfl<| (U7 e2 (by rw[ze];lia)).mpr ?_
  refine⟨f12.two.trans (Fd2.set hp f12.2.2),_,_,es++[(z,b,c)],rfl,by rw[zL (lt_of_get e2),jr];rfl,he.snoc hn ⟨hc.1,hb,hne⟩ ⟨hc.2,hz⟩,by simp,λx hx=>(jc.mp hx).imp id λk=>by rw[zr.mp k]⟩
 refine Q4<| aD1<| aJ4.mpr<| c7 rfl<| V9.mpr ⟨λhb=>⟨λ_=>add λz=>(by rw[z]at hb;cases hb),λz=>nomatch z⟩,λhb=>?_⟩
 obtain⟨q,eq,hq⟩:=aR6 (by lia) G2 c m
 refine m9<| t8 rfl rfl<| aO5.mpr ⟨q,eq,_,rfl,λhn'=>add λ_ hcm=>?_,λ_=>j7.mpr ⟨f12.two,_,_,es,rfl,e2,he,by lia,λx hx=>.inl hx⟩⟩
 rw[hq.mpr hcm]at hn'
 cases hn'
end
section
variable{r d:Nat}{G:DH}{R:List D->M D}
theorem cV0{p q k:Nat}(h6:d<=6)(ih:DAt d R)(hp:p≠r)(hq:q≠r)(hpq:q≠p)(hm:DC (d+1) m):∀(ws:List Str) (o u v:Option D) es (G:DH),Dr G r->G[p]? =some (.lst (es.map (fdE (enC (d+1)))))->G[q]? =some (.lst L)->RE (d+1) m es->(∀x∈es,∀z∈ws,nlt x.1 z)->ws.Pairwise nlt->(∀z∈ws,Tx z/\0<z.length)->es.length+ws.length<=7->
 Wp (aB8 (q16 5) (RB R) (ckO q (.lst L)) (ws.map D.str) [some (.ref r),some (.int ((d+1:Nat):Int)),some (.int (k:Int)),some (enC (d+1) m),some (.ref p),o,u,v]) G λfl G'=>Fd2 r p G G'/\∃o' u' v' es',fl= .nx [some (.ref r),some (.int ((d+1:Nat):Int)),some (.int (k:Int)),some (enC (d+1) m),some (.ref p),o',u',v']/\G'[p]? =some (.lst (es'.map (fdE (enC (d+1)))))/\RE (d+1) m es'/\es'.length<=es.length+ws.length
 |[],o,u,v,es,G,h,e,eq,he,_,_,_,_=>V3.mpr ⟨cQ8 eq,(Fd.refl h).two,o,u,v,es,rfl,e,he,by simp⟩
 |z::t,o,u,v,es,G,h,e,eq,he,hn,hs,hz,hl=>by
   simp only[zD]at hl
   obtain⟨s1,s2⟩:=zU.mp hs
   refine aA1.mpr ⟨cQ8 eq,O9.mpr<| (fH2 h6 ih hp h e hm he (λx hx=>hn x hx z (zq ..)) (hz z (zq ..)) (by lia)).mono ?_⟩
   rintro _ G1 ⟨f1,u1,v1,es1,rfl,q2,q3,q4,q5⟩
   have eq1:G1[q]? =some (.lst L):=(f1.2.1 q hq hpq (lt_of_get eq)).trans eq
   refine(cV0 h6 ih hp hq hpq hm t _ u1 v1 es1 G1 f1.2.2 q2 eq1 q3 (λx hx y hy=>(q5 x hx).elim (λk=>hn x k y (zk _ hy)) λk=>by rw[k];exact s1 y hy) s2 (λy hy=>hz y (zk _ hy)) (by lia)).mono ?_
   rintro _ G2 ⟨f2,b1,b2,b3,b4,p1,p2,p3,p4⟩
   exact⟨f1.trans f2,b1,b2,b3,b4,p1,p2,p3,by simp only[zD];lia⟩
theorem cQ3(h6:d<=6)(ih:∀d',d=d'+1->DAt d' R)(h:Dr G r):Wp (V6 R [.ref r,.int (d:Int)]) G λx G'=>Fd r G G'/\∃b,x=rcD (enC d) b/\ROk d b:=by
 refine K7 (show Wp (aG2 R [some (.ref r),some (.int (d:Int)),none,none,none,none,none,none]) G _ from ?_)
 have is_:aG2 R=j5 (o9 (q15 (fnX 1 o4) (q13 (b7 0) q14)) (q16 2)) (j5 (ifS (orT (f9 (b8 eqD (b7 1) (cE (.int 0)))) (f9 (b8 eqD (b8 K5 (b7 2) (cE (.int 8))) (cE (.int 0))))) (m8 (b8 ixD (X3 (q13 (cE .non) (q13 (J7 (q13 (J7 q14) (q13 (cE (.str ("any" :Str))) q14))) q14))) (b8 K5 (b8 O6 (b7 2) (cE (.int 8))) (cE (.int 2))))) j9) (j5 (o9 (q15 (fnX 3 (W5 R)) (q13 (b7 0) (q13 (b7 2) (q13 (b8 aO1 (b7 1) (cE (.int 1))) q14)))) (q16 3)) (j5 (o9 (X3 q14) (q16 4)) (j5 (aF5 (itW (q15 (fnX 1 aF9) (q13 (b7 0) q14))) (q16 5) (RB R)) (m8 (J7 (q13 (q15 M9 (q13 (b7 4) q14)) (q13 (b7 3) q14)))))))):=rfl
 rw[is_]
 refine d9.mpr<| N7<| j8 rfl rfl<| Z8 h λk G1 f1=>d9.mpr ?_
 have pick:∀ {σ:DSt} {P:Fl->DH->Prop},σ[2]? =some (some (.int (k:Int)))->(∀x G',(Fd r G G'/\∃b,x=rcD (enC d) b/\ROk d b)->P (.rt x) G')->Wp (m8 (b8 ixD (X3 (q13 (cE .non) (q13 (J7 (q13 (J7 q14) (q13 (cE (.str ("any" :Str))) q14))) q14))) (b8 K5 (b8 O6 (b7 2) (cE (.int 8))) (cE (.int 2)))) σ) G1 P:=λ{σ P} WY hP=>by
  refine K1<| t6<| aE7.mpr<| c7 rfl ⟨sz,t6<| t8 (O7 (R7.mpr ⟨_,WY,rfl,rfl⟩)) rfl<| (S5 ⟨by decide,by decide⟩).mpr<| c7 rfl<| (u5 (by decide)).mpr<| (Z6 m6).mpr ?_⟩
  obtain⟨b,hb,ob⟩:=eG3
  exact⟨_,hb,hP _ _ ⟨f1.trans (Fd.app f1.2.2),b,rfl,ob⟩⟩
 refine Q4<| aD1<| m9<| t8 rfl rfl<| R6.mpr ⟨_,rfl,λ_=>⟨λ_=>pick rfl λ_ _ q=>q,λz=>nomatch z⟩,λhd=>?_⟩
 have hd:¬((d:Int)=0):=of_decide_eq_false hd
 refine m9<| t6<| t8 rfl rfl<| (u5 (by decide)).mpr<| c7 rfl<| R6.mpr ⟨_,rfl,λ_=>pick rfl λ_ _ q=>q,λ_=>j7.mpr ?_⟩
 rcases d with _|d
 ·exact absurd rfl hd
 have ih:=ih d rfl
 refine d9.mpr<| N7<| j8 (by show some (Except.ok [D.ref r,.int (k:Int),.int (((d+1:Nat):Int)-1)],G1)=_;rw[bE1]) rfl<| (cV1 ih f1.2.2).mono ?_
 rintro _ G2 ⟨f2,m,rfl,hm⟩
 have f3:Fd r G2 (G2++[DO.lst []]):=Fd.app f2.2.2
 refine Z9 (X2:= [some (.ref r),some (.int ((d+1:Nat):Int)),some (.int (k:Int)),some (enC (d+1) m),some (.ref G2.length),none,none,none]) rfl ?_
 refine d9.mpr<| aJ9.mpr<| wp_itW.mpr<| j8 rfl rfl<| (dR9 f3.2.2).mono ?_
 rintro _ G4 ⟨f4,q,ws,rfl,hq,eq,hs,hz,hl⟩
 have hp:G2.length≠r:=by have:=f2.2.2.lt;lia
 have hqr:q≠r:=by have:=f2.2.2.lt;rw[zM]at hq;lia
 have hqp:q≠G2.length:=by rw[zM,jS]at hq;lia
 refine(aP8 eq).mpr<| (cV0 (by lia) ih hp hqr hqp hm ws none none none [] G4 f4.2.2 (f4.at hp m6) eq ⟨.nil,λ_ h=>(nomatch h),λ_ h=>(nomatch h)⟩ (λ_ h=>nomatch h) hs hz (by simp;lia)).mono ?_
 rintro _ G5 ⟨f5,o',u',v',es,rfl,e5,he,hle⟩
 have fin:=(f1.trans (f2.trans (f3.trans f4))).thru f5 (show G.length<=G2.length from(f1.trans f2).1)
 refine K1<| V8.mpr<| m7<| aJ6 rfl<| (K9 e5).mpr<| c7 rfl ⟨sz,J8 ⟨fin,some (es,m),rfl,?_,?_⟩⟩
 · rintro _ _ ⟨⟩
   exact⟨hm.1,he.nms,he.at_⟩
 · rintro _ _ ⟨⟩
   exact⟨by simp at hle;lia,hm.2,he.sz⟩
end
def OkP(n:Nat)(w:Pt (CS n)):Prop:=GdP (inC n) (Gd n) w/\SzP (SzC n 6) 6 w
theorem eK6(n:Nat):OkP n (bW9 _):=⟨(aX9 n).1.1,(aX9 n).2 _ rfl⟩
theorem eJ8(n:Nat):OkP n (evP n):=⟨⟨cU2,.nil,(show [false,true]∈B4 by decide),dR0.1,dP7.1⟩,⟨(by decide: [((none:Option Int),(none:Option Int))].length<=6),jh _,λ_ h=>(nomatch h),dR0.2,dP7.2⟩⟩
def cnd(i:Int)(f:Fe):DSt->M Bool:=(orT (f9 (b8 eqD (b7 4) (cE (.int i)))) (aH6 (u6 (b7 6)) (f9 (b8 eqD f (cE (.int 0))))))
noncomputable def SS(d r p:Nat)(u:Option D)(a:Int)(s:Nat)(o:Bool):DSt:= [some (.ref r),some (.int (d:Int)),u,some (.ref p),some (.int a),some (.int (s:Int)),some (.bl o)]
section
theorem cF7(hf:∀ {Q},(∀j:Int,Q (.int j) G)->Wp (f (SS d r p u a s o)) G Q)(h:∀k,B k G):Wp (cnd i f (SS d r p u a s o)) G B:=
 aD1<| m9<| t6<| c7 rfl<| c7 rfl<| R6.mpr ⟨_,rfl,λ_=>h true,λ_=>aH7<| aJ4.mpr<| c7 rfl<| V9.mpr ⟨λ_=>m9<| t6<| hf λj=>c7 rfl<| R6.mpr ⟨_,rfl,h _⟩,λ_=>h false⟩⟩
theorem fQ6(hc:0<c)(q:∀j:Int,Q (.int j) G):Wp ((b8 K5 (b7 5) (cE (.int c))) (SS d r p u a s o)) G Q:=t8 rfl rfl<| (u5 hc).mpr (q _)
theorem mds(hb:0<b/\b<2 ^ 100)(hc:0<c)(q:Q (.int ((s:Int) / b % c)) G):Wp ((b8 K5 (b8 O6 (b7 5) (cE (.int b))) (cE (.int c))) (SS d r p u a s o)) G Q:=t6<| t8 rfl rfl<| (S5 hb).mpr<| c7 rfl<| (u5 hc).mpr q
def PI(d r p:Nat)(u:Option D)(a:Int)(s:Nat)(o:Bool)(G:DH)(fl:Fl)(G':DH):Prop:=Fd2 r p G G'/\fl= .nx (SS d r p u a s o)/\∃w,G'[p]? =some (.lst (fiv (enC d) w))/\OkP d w
theorem stay(h:Dr G r)(e:G[p]? =some (.lst (fiv (enC d) w)))(ok:OkP d w):PI d r p u a s o G (.nx (SS d r p u a s o)) G:=⟨(Fd.refl h).two,rfl,w,e,ok⟩
theorem cH4(hp:p≠r)(f1:Fd r G G1)(e:G[p]? =some (.lst (fiv (enC d) w)))(hj:ixN 5 i=some j)(hd:(fiv (enC d) w).set j x=fiv (enC d) w')(ok:OkP d w'):Wp (aF4 (b7 3) (cE (.int i)) x (SS d r p u a s o)) G1 λσ G2=>PI d r p u a s o G (.nx σ) G2:=by
 have e1:=f1.at hp e
 refine dU7 rfl rfl e1 hj ?_
 rw[hd]
 exact⟨f1.two.trans (Fd2.set hp f1.2.2),rfl,w',zL (lt_of_get e1),ok⟩
def I0:Fs:=(ifS (cnd 0 (b8 K5 (b7 5) (cE (.int 2)))) (o9 (q15 (fnX 1 V5) (q13 (b7 0) q14)) (aF4 (b7 3) (cE (.int 0)))) j9)
def I1:Fs:=(ifS (cnd 1 (b8 K5 (b8 O6 (b7 5) (cE (.int 2))) (cE (.int 3)))) (o9 (J7 (q13 (b8 ixD (X3 (q13 (cE (.str ("of" :Str))) (q13 (cE (.str ("but" :Str))) q14))) (b8 K5 (b8 O6 (b7 5) (cE (.int 6))) (cE (.int 2)))) (q13 (q15 (fnX 1 aC2) (q13 (b7 0) q14)) q14))) (aF4 (b7 3) (cE (.int 1)))) j9)
def I2:Fs:=(ifS (cnd 2 (b8 K5 (b8 O6 (b7 5) (cE (.int 12))) (cE (.int 3)))) (o9 (b8 ixD (X3 (q13 (J7 q14) (q13 (J7 (q13 (cE (.bl false)) q14)) (q13 (J7 (q13 (cE (.bl true)) q14)) (q13 (J7 (q13 (cE (.bl false)) (q13 (cE (.bl true)) q14))) q14))))) (b8 K5 (b8 O6 (b7 5) (cE (.int 36))) (cE (.int 4)))) (aF4 (b7 3) (cE (.int 2)))) j9)
def I3(R:List D->M D):Fs:=(ifS (cnd 3 (b8 K5 (b8 O6 (b7 5) (cE (.int 144))) (cE (.int 2)))) (o9 (q15 (fnX 2 (aC3 R)) (q13 (b7 0) (q13 (b7 1) q14))) (aF4 (b7 3) (cE (.int 3)))) j9)
def I4(R:List D->M D):Fs:=(ifS (cnd 4 (b8 K5 (b8 O6 (b7 5) (cE (.int 288))) (cE (.int 2)))) (o9 (q15 (fnX 2 (V6 R)) (q13 (b7 0) (q13 (b7 1) q14))) (aF4 (b7 3) (cE (.int 4)))) j9)
theorem fG3(hp:p≠r)(h:Dr G r)(e:G[p]? =some (.lst (fiv (enC d) w)))(ok:OkP d w):Wp (I0 (SS d r p u a s o)) G (PI d r p u a s o G):=by
 refine Q4<| cF7 (λq=>fQ6 (by decide) q) λk=>⟨λ_=>S7.mpr<| j8 rfl rfl<| (cD5 h).mono ?_,λ_=>j7.mpr (stay h e ok)⟩
 rintro _ G1 ⟨ns,rfl,cn,ln,f1⟩
 exact cH4 (w':={w with ns:=ns}) hp f1 e rfl rfl ⟨⟨cn,ok.1.ss,ok.1.bs,ok.1.ls,ok.1.rs⟩,⟨by dsimp only;lia,ok.2.ss,ok.2.tx,ok.2.ls,ok.2.rs⟩⟩
theorem fL4(hp:p≠r)(h:Dr G r)(e:G[p]? =some (.lst (fiv (enC d) w)))(ok:OkP d w):Wp (I1 (SS d r p u a s o)) G (PI d r p u a s o G):=by
 refine Q4<| cF7 (λq=>mds ⟨by decide,by decide⟩ (by decide) (q _)) λk=>⟨λ_=>?_,λ_=>j7.mpr (stay h e ok)⟩
 have f0:Fd r G (G++[.lst [.str wOf,.str eM5]]):=Fd.app h
 refine S7.mpr<| V8.mpr<| m7<| t6<| aE7.mpr<| c7 rfl ⟨sz,mds ⟨by decide,by decide⟩ (by decide)<| (Z6 m6).mpr ?_⟩
 have hd:∃b:Bool,atI [D.str wOf,.str eM5] ((s:Int) / 6 % 2)=some (.str (wrd b)):=by
  have a1:0<=(s:Int) / 6 % 2:=jJ _ (by decide)
  have a2:(s:Int) / 6 % 2<2:=jN _ (by decide)
  rcases (show (s:Int) / 6 % 2=0\/(s:Int) / 6 % 2=1 by lia)with z|z
  ·exact⟨true,by rw[z];rfl⟩
  ·exact⟨false,by rw[z];rfl⟩
 obtain⟨b,hb⟩:=hd
 refine⟨_,hb,m7<| j8 rfl rfl<| (cH9 f0.2.2).mono ?_⟩
 rintro _ G1 ⟨ss,rfl,rs,ls,f1⟩
 exact m5.mpr ⟨sz,cH4 (w':={w with b:=b,ss:=ss}) hp (f0.trans f1) e rfl rfl ⟨⟨ok.1.ns,rs.ris,ok.1.bs,ok.1.ls,ok.1.rs⟩,⟨ok.2.ns,by dsimp only;lia,rs.tx,ok.2.ls,ok.2.rs⟩⟩⟩
theorem fG9(hp:p≠r)(h:Dr G r)(e:G[p]? =some (.lst (fiv (enC d) w)))(ok:OkP d w):Wp (I2 (SS d r p u a s o)) G (PI d r p u a s o G):=by
 refine Q4<| cF7 (λq=>mds ⟨by decide,by decide⟩ (by decide) (q _)) λk=>⟨λ_=>?_,λ_=>j7.mpr (stay h e ok)⟩
 have f0:Fd r G (G++[.lst (B4.map λl=>.tup (l.map D.bl))]):=Fd.app h
 refine S7.mpr<| t6<| aE7.mpr<| c7 rfl ⟨sz,mds ⟨by decide,by decide⟩ (by decide)<| (Z6 m6).mpr ?_⟩
 obtain⟨d,hd,ed⟩:=cE9 (l:=B4.map λl=>.tup (l.map D.bl)) (jJ _ (by decide)) (jN _ (by decide))
 obtain⟨l,hl,rfl⟩:=zY.mp hd
 exact⟨_,ed,cH4 (w':={w with bs:=l}) hp f0 e rfl rfl ⟨⟨ok.1.ns,ok.1.ss,hl,ok.1.ls,ok.1.rs⟩,⟨ok.2.ns,ok.2.ss,ok.2.tx,ok.2.ls,ok.2.rs⟩⟩⟩
theorem fK6(h6:d<=6)(ih:∀d',d=d'+1->DAt d' R)(hp:p≠r)(h:Dr G r)(e:G[p]? =some (.lst (fiv (enC d) w)))(ok:OkP d w):Wp (I3 R (SS d r p u a s o)) G (PI d r p u a s o G):=by
 refine Q4<| cF7 (λq=>mds ⟨by decide,by decide⟩ (by decide) (q _)) λk=>⟨λ_=>S7.mpr<| j8 rfl rfl<| (dO0 h6 ih h).mono ?_,λ_=>j7.mpr (stay h e ok)⟩
 rintro _ G1 ⟨f1,b,rfl,ob⟩
 exact cH4 (w':={w with ls:=b}) hp f1 e rfl rfl ⟨⟨ok.1.ns,ok.1.ss,ok.1.bs,ob.1,ok.1.rs⟩,⟨ok.2.ns,ok.2.ss,ok.2.tx,ob.2,ok.2.rs⟩⟩
theorem fB2(h6:d<=6)(ih:∀d',d=d'+1->DAt d' R)(hp:p≠r)(h:Dr G r)(e:G[p]? =some (.lst (fiv (enC d) w)))(ok:OkP d w):Wp (I4 R (SS d r p u a s o)) G (PI d r p u a s o G):=by
 refine Q4<| cF7 (λq=>mds ⟨by decide,by decide⟩ (by decide) (q _)) λk=>⟨λ_=>S7.mpr<| j8 rfl rfl<| (cQ3 h6 ih h).mono ?_,λ_=>j7.mpr (stay h e ok)⟩
 rintro _ G1 ⟨f1,b,rfl,ob⟩
 exact cH4 (w':={w with rs:=b}) hp f1 e rfl rfl ⟨⟨ok.1.ns,ok.1.ss,ok.1.bs,ok.1.ls,ob.1⟩,⟨ok.2.ns,ok.2.ss,ok.2.tx,ok.2.ls,ob.2⟩⟩
theorem fI6(h6:d<=6)(e:G[p]? =some (.lst (fiv (enC d) w)))(ok:OkP d w):Wp (I5 (SS d r p u a s o)) G λfl G'=>∃c,fl= .rt (enC (d+1) c)/\DC (d+1) c/\G'=G:=by
 refine d9.mpr<| Q4<| m9<| t6<| aJ6 rfl<| (K9 e).mpr<| j8 rfl rfl<| c7 bL6<| aV7 (bI9 (by lia) G ok.1) (λ_=>⟨_,rfl,λ_=>?_,λz=>nomatch z⟩) (λhn=>⟨_,rfl,λz=>(nomatch z),λ_=>j7.mpr ?_⟩)
 ·exact K1<| c7 rfl ⟨none,rfl,bW7 (d+1),rfl⟩
 ·exact K1<| aJ6 rfl<| (K9 e).mpr ⟨some w,rfl,⟨⟨ok.1,hn⟩,by rintro _ ⟨⟩;exact ok.2⟩,rfl⟩
end
theorem fQ0:aM7 R=j5 (o9 (q15 (fnX 1 o4) (q13 (b7 0) q14)) (q16 2)) (j5 (ifS (f9 (b8 ltD (b8 K5 (b7 2) (cE (.int 8))) (cE (.int 2)))) (m8 (b8 ixD (X3 (q13 (cE (.str ("any" :Str))) (q13 (q15 (fnX 0 v7) q14) q14))) (b8 K5 (b7 2) (cE (.int 8))))) j9) (j5 (o9 (q15 bC6 (q13 (b8 ixD (X3 (q13 (q15 (fnX 0 v7) q14) (q13 (q15 (fnX 0 R5) q14) q14))) (q15 bP3 (q13 (b8 eqD (b8 K5 (b7 2) (cE (.int 8))) (cE (.int 2))) q14))) q14)) (q16 3)) (j5 (o9 (b8 K5 (b8 O6 (b7 2) (cE (.int 8))) (cE (.int 5))) (q16 4)) (j5 (o9 (b8 O6 (b7 2) (cE (.int 40))) (q16 5)) (j5 (o9 (b8 gtD (b8 K5 (b7 2) (cE (.int 8))) (cE (.int 2))) (q16 6)) (j5 I0 (j5 I1 (j5 I2 (j5 (I3 R) (j5 (I4 R) I5)))))))))):=rfl
theorem cE7(h6:d<=6)(ih:∀d',d=d'+1->DAt d' (aE8 n)):DAt d (aE8 (n+1)):=λG r h=>by
 refine K7 (show Wp (aM7 (aE8 n) [some (.ref r),some (.int (d:Int)),none,none,none,none,none]) G _ from ?_)
 rw[fQ0]
 refine d9.mpr<| N7<| j8 rfl rfl<| Z8 h λk G1 f1=>?_
 have a1:0<=(k:Int) % 8:=jJ _ (by decide)
 refine d9.mpr<| Q4<| m9<| t6<| t8 rfl rfl<| (u5 (by decide)).mpr<| c7 rfl<| aU9.mpr ⟨_,rfl,λhk=>?_,λ_=>j7.mpr ?_⟩
 · have hk:(k:Int) % 8<2:=of_decide_eq_true hk
   refine K1<| t6<| aE7.mpr<| O2 rfl<| m7<| j8 rfl rfl<| c7 bX5<| m5.mpr ⟨sz,t8 rfl rfl<| (u5 (by decide)).mpr<| (Z6 m6).mpr ?_⟩
   rcases (show (k:Int) % 8=0\/(k:Int) % 8=1 by lia)with z|z
   ·rw[z];exact⟨.str aZ4,rfl,J8 ⟨f1.trans (Fd.app f1.2.2),none,rfl,bW7 (d+1)⟩⟩
   ·rw[z];exact⟨aF6,rfl,J8 ⟨f1.trans (Fd.app f1.2.2),cB3 d,rfl,aX9 d⟩⟩
 · refine d9.mpr<| N7<| M7<| m7<| t6<| aE7.mpr<| m7<| j8 rfl rfl<| c7 bX5<| m7<| j8 rfl rfl<| c7 bL6<| m5.mpr ⟨sz,M7<| m7<| t6<| t8 rfl rfl<| (u5 (by decide)).mpr<| c7 rfl<| R6.mpr<| m5.mpr ?_⟩
   have f2:Fd r G1 (G1++[.lst [aF6,evD]]):=Fd.app f1.2.2
   have hd:∃(i:Int) (w:Pt (CS d)),OkP d w/\bP3 [.bl (decide ((k:Int) % 8=2))]=pure (.int i)/\atI [aF6,evD] i=some (.tup (fiv (enC d) w)):=by
    by_cases z:(k:Int) % 8=2
    ·rw[decide_eq_true z];exact⟨1,evP d,eJ8 d,rfl,by rw[show D.tup (fiv (enC d) (evP d))=evD from dI0];rfl⟩
    ·rw[decide_eq_false z];exact⟨0,bW9 _,eK6 d,rfl,rfl⟩
   obtain⟨i,w,ok,ei,ew⟩:=hd
   rw[ei]
   refine wp_pure.mpr<| (Z6 m6).mpr ⟨_,ew,m5.mpr<| cC1.mpr ?_⟩
   have f3:Fd r (G1++[.lst [aF6,evD]]) (G1++[.lst [aF6,evD]]++[.lst (fiv (enC d) w)]):=Fd.app f2.2.2
   have hp:(G1++[DO.lst [aF6,evD]]).length≠r:=by have:=f2.2.2.lt;lia
   have fq:Fd r G _:=f1.trans (f2.trans f3)
   have hq:G.length<=(G1++[DO.lst [aF6,evD]]).length:=(f1.trans f2).1
   generalize hpp:(G1++[DO.lst [aF6,evD]]).length=p at *
   have e3:(G1++[.lst [aF6,evD]]++[.lst (fiv (enC d) w)])[p]? =some (.lst (fiv (enC d) w)):=by rw[<-hpp];exact m6
   generalize G1++[.lst [aF6,evD]]++[.lst (fiv (enC d) w)]=G3 at *
   refine d9.mpr<| N7<| t6<| t8 rfl rfl<| (S5 ⟨by decide,by decide⟩).mpr<| c7 rfl<| (u5 (by decide)).mpr ?_
   refine d9.mpr<| N7<| t8 rfl rfl<| (S5 ⟨by decide,by decide⟩).mpr ?_
   refine d9.mpr<| N7<| t6<| t8 rfl rfl<| (u5 (by decide)).mpr<| c7 rfl<| bD8.mpr ?_
   rw[show (k:Int) / 40= ((k / 40:Nat):Int) by lia]
   refine d9.mpr<| (fG3 hp fq.2.2 e3 ok).mono ?_
   rintro _ G4 ⟨g4,rfl,w4,e4,ok4⟩
   refine d9.mpr<| (fL4 hp g4.2.2 e4 ok4).mono ?_
   rintro _ G5 ⟨g5,rfl,w5,e5,ok5⟩
   refine d9.mpr<| (fG9 hp g5.2.2 e5 ok5).mono ?_
   rintro _ G6 ⟨g6,rfl,w6,e6,ok6⟩
   refine d9.mpr<| (fK6 h6 ih hp g6.2.2 e6 ok6).mono ?_
   rintro _ G7 ⟨g7,rfl,w7,e7,ok7⟩
   refine d9.mpr<| (fB2 h6 ih hp g7.2.2 e7 ok7).mono ?_
   rintro _ G8 ⟨g8,rfl,w8,e8,ok8⟩
   refine(fI6 h6 e8 ok8).mono ?_
   rintro _ G9 ⟨c,rfl,hc,rfl⟩
   exact J8 ⟨fq.thru ((((g4.trans g5).trans g6).trans g7).trans g8) hq,c,rfl,hc⟩
theorem dS6:∀d N,d<=6->d<N->DAt d (aE8 N)
 |0,N+1,h6,_=>cE7 h6 λ_ e=>nomatch e
 |d+1,N+1,h6,h=>cE7 h6 λd' e=>by cases e;exact dS6 d N (by lia) (by lia)
structure Nr(p q:Rg):Prop where
 ok:okR q
 lo:∀a,p.1=some a->∃b,q.1=some b/\a<=b
 hi:∀a,p.2=some a->∃b,q.2=some b/\b<=a
theorem Nr.refl(h:okR p):Nr p p:=⟨h,λa e=>⟨a,e,yH _⟩,λa e=>⟨a,e,yH _⟩⟩
theorem Nr.trans(h:Nr p q)(k:Nr q t):Nr p t:=⟨k.ok,λa e=>by
 obtain⟨b,e1,l1⟩:=h.lo a e
 obtain⟨c,e2,l2⟩:=k.lo b e1
 exact⟨c,e2,by lia⟩,λa e=>by
 obtain⟨b,e1,l1⟩:=h.hi a e
 obtain⟨c,e2,l2⟩:=k.hi b e1
 exact⟨c,e2,by lia⟩⟩
theorem Nr.clr(h:Nr p p')(k:Nr q q')(c:cB9 p q):cB9 p' q':=by
 obtain⟨a,b,e1,e2,l⟩:=c
 obtain⟨a',e3,l3⟩:=h.hi a e1
 obtain⟨b',e4,l4⟩:=k.lo b e2
 exact⟨a',b',e3,e4,by lia⟩
section
theorem fK4(h:okR (a,b)):Wp (N1 [some x,some y,some (.ref p),some (Q6 a),some (Q6 b),some (.int j)]) G λfl G'=>G'=G/\∃a',fl= .nx [some x,some y,some (.ref p),some (Q6 a'),some (Q6 b),some (.int j)]/\Nr (a,b) (a',b):=by
 have skip:Wp (j9 [some x,some y,some (.ref p),some (Q6 a),some (Q6 b),some (.int j)]) G λfl G'=>G'=G/\∃a',fl= .nx [some x,some y,some (.ref p),some (Q6 a'),some (Q6 b),some (.int j)]/\Nr (a,b) (a',b):=j7.mpr ⟨rfl,a,rfl,Nr.refl h⟩
 refine Q4<| aH7<| m9<| t8 rfl rfl<| R6.mpr ⟨_,rfl,λ_=>?_,λ_=>⟨λz=>(nomatch z),λ_=>skip⟩⟩
 rcases a with _|a
 ·exact aH7<| c7 rfl ⟨λz=>(nomatch z),λ_=>⟨λz=>(nomatch z),λ_=>skip⟩⟩
 · refine aH7<| c7 rfl ⟨λ_=>?_,λz=>nomatch z⟩
   obtain⟨k,ek,hk⟩:=bB5 (some a) b
   refine m9<| t8 rfl rfl<| aO5.mpr ⟨k,ek,_,rfl,λhne=>?_,λ_=>skip⟩
   refine N7<| t8 rfl rfl<| c7 rfl ⟨rfl,some (a+1),rfl,?_,λc e=>⟨a+1,rfl,?_⟩,λc e=>⟨c,e,yH _⟩⟩
   · rintro c e ⟨⟩ hb
     have:=h a e rfl hb
     have hne:¬some a=b:=λq=>by rw[hk.mpr q]at hne;cases hne
     have hb:b=some e:=hb
     rcases Int.lt_or_eq_of_le this with q|q
     ·exact q
     ·exact absurd (by rw[hb,q]) hne
   ·cases e;lia
theorem fI2(h:okR (a,b)):Wp (N2 [some x,some y,some (.ref p),some (Q6 a),some (Q6 b),some (.int j)]) G λfl G'=>G'=G/\∃b',fl= .nx [some x,some y,some (.ref p),some (Q6 a),some (Q6 b'),some (.int j)]/\Nr (a,b) (a,b'):=by
 have skip:Wp (j9 [some x,some y,some (.ref p),some (Q6 a),some (Q6 b),some (.int j)]) G λfl G'=>G'=G/\∃b',fl= .nx [some x,some y,some (.ref p),some (Q6 a),some (Q6 b'),some (.int j)]/\Nr (a,b) (a,b'):=j7.mpr ⟨rfl,b,rfl,Nr.refl h⟩
 refine Q4<| aH7<| m9<| t8 rfl rfl<| R6.mpr ⟨_,rfl,λ_=>?_,λ_=>⟨λz=>(nomatch z),λ_=>skip⟩⟩
 rcases b with _|b
 ·exact aH7<| c7 rfl ⟨λz=>(nomatch z),λ_=>⟨λz=>(nomatch z),λ_=>skip⟩⟩
 · refine aH7<| c7 rfl ⟨λ_=>?_,λz=>nomatch z⟩
   obtain⟨k,ek,hk⟩:=bB5 a (some b)
   refine m9<| t8 rfl rfl<| aO5.mpr ⟨k,ek,_,rfl,λhne=>?_,λ_=>skip⟩
   refine N7<| t8 rfl rfl<| c7 rfl ⟨rfl,some (b-1),rfl,?_,λc e=>⟨c,e,yH _⟩,λc e=>⟨b-1,rfl,?_⟩⟩
   · rintro c e ha ⟨⟩
     have:=h c b ha rfl
     have hne:¬a=some b:=λq=>by rw[hk.mpr q]at hne;cases hne
     have ha:a=some c:=ha
     rcases Int.lt_or_eq_of_le this with q|q
     ·lia
     ·exact absurd (by rw[ha,q]) hne
   ·cases e;lia
theorem fK0(hp:p≠r)(h:Dr G r)(hq:okR q)(e:G[p]? =some (.lst (rsD ns)))(hl:ns.length<=100):Wp (NB [some (.ref r),some y,some (.ref p),some (Q6 q.1),some (Q6 q.2),o]) G λfl G'=>Fd2 r p G G'/\∃u v w ns',fl= .nx [some (.ref r),some y,some (.ref p),u,v,w]/\G'[p]? =some (.lst (rsD ns'))/\(ns'=ns\/∃q',ns'=ns++[q']/\Nr q q'):=by
 have bg:=big
 refine d9.mpr<| N7<| t6<| j8 rfl rfl<| Z8 h λj G1 f1=>c7 rfl<| (u5 (by decide)).mpr ?_
 refine d9.mpr<| (fK4 hq).mono ?_
 rintro _ G3 ⟨rfl,a,rfl,n1⟩
 refine d9.mpr<| (fI2 n1.ok).mono ?_
 rintro _ G1 ⟨rfl,b,rfl,n2⟩
 have e1:=f1.at hp e
 refine Q4<| m9<| t8 rfl rfl<| aU9.mpr ⟨_,rfl,λ_=>?_,λ_=>j7.mpr ⟨f1.two,_,_,_,ns,rfl,e1,.inl rfl⟩⟩
 refine aL0.mpr<| aS3.mpr<| c7 rfl<| (S9 e1).mpr<| c7 (a:= [rD (a,b)]) rfl<| (U7 e1 (by rw[aV4];lia)).mpr ?_
 exact⟨f1.two.trans (Fd2.set hp f1.2.2),_,_,_,ns++[(a,b)],rfl,by rw[zL (lt_of_get e1),bK2],.inr ⟨(a,b),rfl,n1.trans n2⟩⟩
theorem cT5(hp:p≠r):∀l u v w ns G,Dr G r->Can l->Can ns->(∀a∈ns,∀b∈l,cB9 a b)->G[p]? =some (.lst (rsD ns))->ns.length+l.length<=50->
 Wp (aB8 (aZ7 2 (Q3 (q16 3) (Q3 (q16 4) (aZ1)))) NB (λ_=>true) (rsD l) [some (.ref r),some y,some (.ref p),u,v,w]) G λfl G'=>Fd2 r p G G'/\∃u v w ns',fl= .nx [some (.ref r),some y,some (.ref p),u,v,w]/\G'[p]? =some (.lst (rsD ns'))/\Can ns'/\ns'.length<=ns.length+l.length
 |[],u,v,w,ns,G,h,_,cn,_,e,_=>V3.mpr ⟨rfl,(Fd.refl h).two,u,v,w,ns,rfl,e,cn,by simp⟩
 |q::l,u,v,w,ns,G,h,cl,cn,cc,e,hl=>by
   simp only[zD]at hl
   have eg:aZ7 2 (Q3 (q16 3) (Q3 (q16 4) (aZ1))) (rD q) [some (.ref r),some y,some (.ref p),u,v,w] G=some (.ok [some (.ref r),some y,some (.ref p),some (Q6 q.1),some (Q6 q.2),w],G):=rfl
   rw[show rsD (q::l)=rD q::rsD l from rfl]
   refine aA1.mpr ⟨rfl,c7 eg ?_⟩
   refine(fK0 hp h cl.head e (by lia)).mono ?_
   rintro _ G1 ⟨f1,u1,v1,w1,ns1,rfl,e1,h1⟩
   have hc:Can ns1/\(∀a∈ns1,∀b∈l,cB9 a b)/\ns1.length<=ns.length+1:=by
    rcases h1 with rfl|⟨q',rfl,hn⟩
    ·exact⟨cn,λa ha b hb=>cc a ha b (zk _ hb),by lia⟩
    · refine⟨cn.snoc hn.ok λa ha=>?_,λa ha b hb=>?_,by simp⟩
      ·exact Nr.clr (Nr.refl (cn.1 a ha)) hn (cc a ha q (zq ..))
      · rcases jc.mp ha with k|k
        ·exact cc a k b (zk _ hb)
        · rw[zr.mp k]
          exact Nr.clr hn (Nr.refl (cl.1 b (zk _ hb))) ((zU.mp cl.2).1 b hb)
   refine(cT5 hp l u1 v1 w1 ns1 G1 f1.2.2 cl.tail hc.1 hc.2.1 e1 (by lia)).mono ?_
   rintro _ G2 ⟨f2,u2,v2,w2,ns2,e2,e3,c3,l3⟩
   exact⟨f1.trans f2,u2,v2,w2,ns2,e2,e3,c3,by simp only[zD];lia⟩
theorem fG7(h:Dr G r)(cl:Can l)(hl:l.length<=7):Wp (Q7 [.ref r,.tup (rsD l)]) G λx G'=>Fd r G G'/\∃ns,x= .tup (rsD ns)/\Can ns/\ns.length<=l.length:=by
 have bg:=big
 refine K7 (show Wp (T3 [some (.ref r),some (.tup (rsD l)),none,none,none,none]) G _ from ?_)
 have is_:T3=j5 (o9 (X3 q14) (q16 2)) (j5 (aF5 (itW (b7 1)) (aZ7 2 (Q3 (q16 3) (Q3 (q16 4) (aZ1)))) NB) (m8 (q15 M9 (q13 (b7 2) q14)))):=rfl
 rw[is_]
 have hp:G.length≠r:=by have:=h.lt;lia
 refine Z9 (X2:= [some (.ref r),some (.tup (rsD l)),some (.ref G.length),none,none,none]) rfl ?_
 refine d9.mpr<| aJ9.mpr<| wp_itW.mpr<| c7 rfl<| srcW_tup.mpr ?_
 refine(cT5 hp l none none none [] _ (Fd.app h).2.2 cl ⟨λ_ h=>(nomatch h),.nil⟩ (λ_ h=>nomatch h) m6 (by simp;lia)).mono ?_
 rintro _ G2 ⟨f2,u,v,w,ns,rfl,e2,c2,l2⟩
 refine K1<| aJ6 rfl<| (K9 e2).mpr<| J8 ⟨(Fd.app h).thru f2 (zo _),ns,rfl,c2,by simpa using l2⟩
end
theorem eI7(J:DH->Prop)(S:DSt->Prop)(hck:∀G,J G->ck G=true):∀items σ G,S σ->J G->
 (∀d∈items,∀ σ G,S σ->J G->Wp (g d σ) G λW1 G1=>G1=G/\S W1/\Wp (t W1) G λk G2=>J G2/\(k=true->e W1 G2=some (.ok d,G2)))->
 Wp (N6 g t e ck items σ) G λys G'=>J G'/\ys.Sublist items
 |[],σ,G,s,j,_=>bO0.mpr ⟨hck G j,j,.slnil⟩
 |d::r,σ,G,s,j,step=>by
   refine bL5.mpr ⟨hck G j,(step d (zq ..) σ G s j).mono λW1 G1 ⟨e1,s1,w1⟩=>?_⟩
   subst e1
   refine w1.mono λk G2 ⟨j2,h2⟩=>?_
   have ih:=eI7 J S hck r W1 G2 s1 j2 λd hd=>step d (zk _ hd)
   rcases k with _|_
   · rw[if_neg (by decide)]
     exact ih.mono λys G4 ⟨j4,h4⟩=>⟨j4,h4.cons _⟩
   · rw[if_pos rfl]
     exact c7 (h2 rfl) (ih.mono λys G4 ⟨j4,h4⟩=>⟨j4,h4.cons₂ _⟩)
theorem cO7(nd:ks.Nodup)(h64:ks.length<64)(hz:∀z∈ks,z.length<=zl)(hq:∀m,Ris m->m.Perm ks->Q (.ref G.length) (G++[.lst (m.map D.str)])):Wp (aK0 M8 (.tup (ks.map D.str))) G Q:=by
 obtain⟨m,e1,e2,e3⟩:=aZ0 nd
 have nd2:(ks.map λz=>(((z.length:Int),z):Int×Str)).Nodup:=by
  rw[YO,jF]
  exact nd.imp λ{a b} h e=>h (yp e).2
 have hl:(ks.map D.str).length<64:=by rw[ze];exact h64
 unfold aK0
 simp only[j6,if_pos hl,aP5]
 refine(aI6 (aY3 ks G hz)).mpr ?_
 rw[aF7,aX8]
 refine⟨_,rfl,?_⟩
 rw[if_pos nd2,S6,e1]
 exact hq m e2 e3
section
theorem fB7(h:Dr G r)(ris:Ris ss)(tx:∀z∈ss,Tx z)(hl:ss.length<=6):Wp (R9 [.ref r,aK3 b ss]) G λx G'=>Fd r G G'/\∃ss',x=aK3 b ss'/\Ris ss'/\(∀z∈ss',Tx z)/\ss'.length<=7:=by
 have bg:=big
 refine K7 (show Wp (V2 [some (.ref r),some (aK3 b ss),none]) G _ from ?_)
 unfold V2
 rcases b with _|_
 · refine d9.mpr<| bO6 rfl<| j7.mpr ?_
   refine d9.mpr<| N7<| j8 rfl rfl<| (cS6 h).mono ?_
   rintro _ G1 ⟨⟨z,rfl,hz⟩,f1⟩
   refine d9.mpr<| Q4<| m9<| t8 rfl rfl<| cF9.mpr ⟨_,cX2,_,rfl,λ_=>?_,λhn=>j7.mpr ?_⟩
   ·exact K1<| c7 rfl<| J8 ⟨f1,ss,rfl,ris,tx,by lia⟩
   · have hn:z∉ss:=of_decide_eq_false hn
     have nd:(ss++[z]).Nodup:=yE.mpr ⟨dU3 ris,by simp,λa ha b hb e=>hn (by rw[<-zr.mp hb,<-e];exact ha)⟩
     have tx':∀y∈ss++[z],Tx y:=λy hy=>(jc.mp hy).elim (tx y) λk=>by rw[zr.mp k];exact hz
     have ea:(b8 aP1 (b8 ixD (b7 1) (cE (.int 1))) (J7 (q13 (b7 2) q14))) [some (.ref r),some (aK3 false ss),some (.str z)] G1=some (.ok (.tup ((ss++[z]).map D.str)),G1):=by
      refine O7<| t8 rfl rfl ?_
      rw[jr]
      exact(cX0 (by simp;lia)).mpr ⟨rfl,rfl⟩
     refine K1<| V8.mpr<| O2 rfl<| m7<| M7<| m7<| bM5.mpr<| c7 ea<| cO7 nd (by simp;lia) (λy hy=>zC (tx' y hy).2 (by lia)) λm rm pm=>m5.mpr<| (K9 m6).mpr<| m5.mpr ⟨sz,J8 ⟨f1.trans (Fd.app f1.2.2),m,rfl,rm,λy hy=>tx' y (pm.mem_iff.mp hy),by rw[pm.length_eq];simp;lia⟩⟩
 · refine d9.mpr<| cQ5 rfl ?_
   refine K1<| V8.mpr<| O2 rfl<| m7<| M7<| m7<| aJ0 rfl (by rw[ze];lia) ?_
   refine(eI7 (λG'=>Fd r G G') (λσ=>∃u,σ= [u,some (.ref r)]) (λ_ _=>rfl) _ _ _ ⟨none,rfl⟩ (Fd.refl h) ?_).mono ?_
   · intro x hx σ G1 WY f1
     obtain⟨u,rfl⟩:=WY
     refine c7 rfl ⟨rfl,⟨_,rfl⟩,?_⟩
     exact m9<| t6<| t6<| j8 rfl rfl<| Z8 f1.2.2 λj G2 f2=>c7 rfl<| (u5 (by decide)).mpr<| c7 rfl<| bD8.mpr ⟨_,rfl,f1.trans f2,λ_=>rfl⟩
   · rintro ys G1 ⟨f1,hs⟩
     obtain⟨ss',hs',rfl⟩:=List.sublist_map_iff.mp hs
     exact m5.mpr<| (K9 m6).mpr<| m5.mpr ⟨sz,J8 ⟨f1.trans (Fd.app f1.2.2),ss',rfl,ris.sublist hs',λz hz=>tx z (hs'.subset hz),by have:=hs'.length_le;lia⟩⟩
end
def NC(n:Nat)(c:CS n):Prop:=Gd n c/\SzC n 7 c
theorem DC.nc(h:DC n c):NC n c:=⟨h.1,SzC.mono (by decide) h.2⟩
def NAt(d:Nat)(R:List D->M D):Prop:=∀(G:DH) (r:Nat) (c:CS d),Dr G r->DC d c->Wp (R [.ref r,enC d c,.int (d:Int)]) G λx G'=>Fd r G G'/\∃c',x=enC d c'/\NC d c'
section
theorem bI6(h8:d<=8)(ih:NAt d R)(h:Dr G r)(hc:DC d c):Wp (K4 R [.ref r,enC d c,.int (d:Int)]) G λx G'=>Fd r G G'/\∃c',x=enC d c'/\NC d c'/\((∃v,inC d c v)->∃v,inC d c' v):=by
 refine K7 (show Wp (W7 R [some (.ref r),some (enC d c),some (.int (d:Int)),none]) G _ from ?_)
 unfold W7
 refine d9.mpr<| N7<| j8 rfl rfl<| (ih G r c h hc).mono ?_
 rintro _ G1 ⟨f1,c1,rfl,h1⟩
 have f2:Fd r G1 (G1++[.lst [enC d c1,enC d c]]):=Fd.app f1.2.2
 refine K1<| t6<| aE7.mpr<| c7 rfl ⟨sz,?_⟩
 refine M7<| m7<| t8 rfl rfl<| aV7 (aB5 h8 _ c1 h1.1) (λa=>?_) (λa=>?_)
 ·refine m5.mpr<| c7 rfl<| (Z6 m6).mpr ⟨_,rfl,J8 ⟨f1.trans f2,c,rfl,hc.nc,id⟩⟩
 ·refine m5.mpr<| c7 rfl<| (Z6 m6).mpr ⟨_,rfl,J8 ⟨f1.trans f2,c1,rfl,h1,λ_=>zW λz=>a λv k=>z ⟨v,k⟩⟩⟩
theorem fB0(h8:d<=8)(ih:NAt d R)(h:Dr G r)(ha:LOk d a):Wp (P0 R [.ref r,lsD (enC d) a,.int (d:Int)]) G λx G'=>Fd r G G'/\∃b,x=lsD (enC d) b/\aK4 (inC d) (Gd d) b/\lsZ d 7 b:=by
 have bg:=big
 refine K7 (show Wp (V1 R [some (.ref r),some (lsD (enC d) a),some (.int (d:Int)),none,none]) G _ from ?_)
 unfold V1
 refine d9.mpr<| N7<| j8 rfl rfl<| Z8 h λk G1 f1=>d9.mpr ?_
 rcases a with _|⟨fs,m⟩
 ·exact cQ5 rfl<| K1<| c7 rfl<| J8 ⟨f1,none,rfl,λ_ _ e=>(nomatch e),λ_ _ e=>(nomatch e)⟩
 refine Q4<| aD1<| c7 rfl ⟨λz=>(nomatch z),λ_=>?_⟩
 refine m9<| t6<| t8 rfl rfl<| (u5 (by decide)).mpr<| c7 rfl<| R6.mpr ⟨_,rfl,λ_=>?_,λ_=>j7.mpr ?_⟩
 ·exact K1<| c7 rfl<| J8 ⟨f1,none,rfl,λ_ _ e=>(nomatch e),λ_ _ e=>(nomatch e)⟩
 obtain⟨gm,gf⟩:=ha.1 fs m rfl
 obtain⟨lf,sm,sf⟩:=ha.2 fs m rfl
 refine d9.mpr<| N7<| aJ0 rfl (by rw[ze];lia) ?_
 refine(bN0 (λG'=>Fd r G1 G') (λσ=>∃u,σ= [u,some (.int (d:Int)),some (.ref r)]) (λ_ y=>∃c,y=enC d c/\NC d c/\∃v,inC d c v) (λ_ _=>rfl) _ _ _ ⟨none,rfl⟩ (Fd.refl f1.2.2) ?_).mono ?_
 · intro x hx σ G2 WY f2
   obtain⟨u,rfl⟩:=WY
   obtain⟨c,hc,rfl⟩:=zY.mp hx
   refine c7 rfl ⟨rfl,⟨_,rfl⟩,?_⟩
   refine j8 rfl rfl<| (bI6 h8 ih f2.2.2 ⟨(gf c hc).1,sf c hc⟩).mono ?_
   rintro _ G3 ⟨f3,c',rfl,h1,h2⟩
   exact⟨f2.trans f3,c',rfl,h1,h2 (gf c hc).2⟩
 rintro ys G2 ⟨f2,zs,e1,rfl,hz⟩
 obtain⟨hs,e2,e3,e4⟩:=dE0 (P:=λ_ c=>NC d c/\∃v,inC d c v) zs hz
 rw[e2]
 have hl:hs.length=fs.length:=by rw[e3,<-ze,e1,ze]
 have hh:∀a∈hs,NC d a/\∃v,inC d a v:=λa ha=>by
  obtain⟨i,hi,rfl⟩:=jX.mp ha
  have hi':i<(zs.map (·.1)).length:=by rw[ze,<-e3];exact hi
  exact e4 i hs[i] _ (zf hi) (zf hi')
 have f3:Fd r G2 (G2++[.lst (hs.map (enC d))]):=Fd.app f2.2.2
 have e5:(G2++[.lst (hs.map (enC d))])[G2.length]? =some (.lst (hs.map (enC d))):=m6
 have hp:G2.length≠r:=by have:=f2.2.2.lt;lia
 generalize G2++[DO.lst (hs.map (enC d))]=G3 at *
 have fin:∀(gs:List (CS d)) (G4:DH),gs.length<=7->(∀a∈gs,NC d a/\∃v,inC d a v)->Fd r G G4->G4[G2.length]? =some (.lst (gs.map (enC d)))->Wp ((m8 (J7 (q13 (q15 M9 (q13 (b7 4) q14)) (q13 (q15 (fnX 3 R) (q13 (b7 0) (q13 (b8 ixD (b7 1) (cE (.int 1))) (q13 (b7 2) q14)))) q14)))) [some (.ref r),some (lsD (enC d) (some (fs,m))),some (.int (d:Int)),some (.int (k:Int)),some (.ref G2.length)]) G4 (DL.PB λx G'=>Fd r G G'/\∃b,x=lsD (enC d) b/\aK4 (inC d) (Gd d) b/\lsZ d 7 b):=λgs G4 lg hg f4 e4=>by
  refine K1<| V8.mpr<| m7<| aJ6 rfl<| (K9 e4).mpr<| m7<| j8 rfl rfl<| (ih G4 r m f4.2.2 ⟨gm,sm⟩).mono ?_
  rintro _ G5 ⟨f5,m',rfl,hm'⟩
  refine m5.mpr ⟨sz,J8 ⟨f4.trans f5,some (gs,m'),rfl,?_,?_⟩⟩
  · rintro _ _ ⟨⟩
    exact⟨hm'.1,λa ha=>⟨(hg a ha).1.1,(hg a ha).2⟩⟩
  · rintro _ _ ⟨⟩
    exact⟨lg,hm'.2,λa ha=>(hg a ha).1.2⟩
 have f03:=f1.trans (f2.trans f3)
 have skip:Wp ((m8 (J7 (q13 (q15 M9 (q13 (b7 4) q14)) (q13 (q15 (fnX 3 R) (q13 (b7 0) (q13 (b8 ixD (b7 1) (cE (.int 1))) (q13 (b7 2) q14)))) q14)))) [some (.ref r),some (lsD (enC d) (some (fs,m))),some (.int (d:Int)),some (.int (k:Int)),some (.ref G2.length)]) G3 (DL.PB λx G'=>Fd r G G'/\∃b,x=lsD (enC d) b/\aK4 (inC d) (Gd d) b/\lsZ d 7 b):=fin hs G3 (by lia) hh f03 e5
 refine d9.mpr<| Q4<| aH7<| m9<| t6<| t8 rfl rfl<| (u5 (by decide)).mpr<| c7 rfl<| R6.mpr ⟨_,rfl,λ_=>?_,λ_=>⟨λz=>(nomatch z),λ_=>j7.mpr skip⟩⟩
 obtain⟨b,eb,hb⟩:=aB5 h8 G3 m gm
 refine m9<| t8 rfl rfl<| aO5.mpr ⟨b,eb,_,rfl,λhn=>?_,λ_=>j7.mpr skip⟩
 have hne:∃v,inC d m v:=zW λz=>by
  rw[hb.mpr λv k=>z ⟨v,k⟩]at hn
  cases hn
 refine aL0.mpr<| aS3.mpr<| c7 rfl<| (S9 e5).mpr<| m7<| j8 rfl rfl<| (bI6 h8 ih f3.2.2 ⟨gm,sm⟩).mono ?_
 rintro _ G4 ⟨f4,c,rfl,h1,h2⟩
 have e6:=f4.at hp e5
 refine m5.mpr<| (U7 e6 (by rw[ze];lia)).mpr ?_
 refine fin (hs++[c]) _ (by simp;lia) (λa ha=>(jc.mp ha).elim (hh a) λk=>by rw[zr.mp k];exact⟨h1,h2 hne⟩) ((f03.trans f4).put (by have:=(f1.trans f2).1;lia) hp) (by rw[zL (lt_of_get e6),jr];rfl)
end
section
variable{n:Nat}
theorem cK5:∀fs:List (Str×Bool×CS n),aI0 W9 (fs.map (fdE (enC n))) G=some (.ok (fs.map λf=>.str f.1),G)
 |[]=>rfl
 |f::r=>by
   refine O7 ?_
   show Wp (do
    let k <-noX (W9 [fdE (enC n) f])
    let ks <-aI0 W9 (r.map (fdE (enC n)))
    pure (k::ks)) G _
   exact j6.mpr<| c7 rfl<| j6.mpr<| c7 (cK5 r)<| wp_pure.mpr ⟨rfl,rfl⟩
theorem cK7:∀fs:List (Str×Bool×CS n),aN0 eK0 (fs.map λf=>D.str f.1)=some (fs.map λf=>(0,f.1))
 |[]=>rfl
 |f::r=>by simp only[zB,aN0,cK7 r];rfl
theorem dS5:∀fs:List (Str×Bool×CS n),aZ2 (fs.map λf=>D.str f.1)=some (fs.map λf=>(0,f.1))
 |[]=>rfl
 |f::r=>cK7 (f::r)
theorem cU4{es:List (Str×Bool×CS n)}(nd:(es.map (·.1)).Nodup):(es.map λe=>((0:Int),e.1)).Nodup:=by
 rw[YO,jF]at *
 exact nd.imp λ{a b} h e=>h (yp e).2
theorem dT7(nd:(es.map (·.1)).Nodup):∃es',aZ6 (es.map λe=>(0,e.1)) (es.map (fdE (enC n)))=es'.map (fdE (enC n))/\es'.Perm es/\Nms es':=by
 have hp:=js es λa b=>leS a.1 b.1
 have hs:(es.mergeSort λa b=>leS a.1 b.1).Pairwise λa b=>leS a.1 b.1=true:=yN (λa b c=>aV8 a.1 b.1 c.1) (λa b=>bF7 a.1 b.1) es
 refine⟨es.mergeSort λa b=>leS a.1 b.1,?_,hp,?_⟩
 · rw[<-bE5 (cU4 nd) (z:=(es.mergeSort λa b=>leS a.1 b.1).map λe=>((0,e.1),fdE (enC n) e)) ?_ ?_]
   ·rw[jK];rfl
   · rw[List.zip_map']
     exact hp.map _
   · rw[jF]
     exact hs
 · have h3:((es.mergeSort λa b=>leS a.1 b.1).map (·.1)).Nodup:=(hp.map _).nodup_iff.mpr nd
   rw[xo,jF]at h3
   refine(hs.and h3).imp λ{a b} k=>?_
   rcases Classical.em (nlt a.1 b.1)with x|x
   ·exact x
   ·exact absurd (aQ8 k.1 (by unfold leS;simpa using x)) k.2
theorem dN7(e:fe σ G=some (.ok (.ref p),G))(ep:G[p]? =some (.lst (es.map (fdE (enC n)))))(nd:(es.map (·.1)).Nodup)(h64:es.length<64)(q:∀es',es'.Perm es->Nms es'->Q (.ref G.length) (G++[.lst (es'.map (fdE (enC n)))])):Wp (aM9 W9 fe σ) G Q:=by
 obtain⟨es',e1,hp,hn⟩:=dT7 nd
 unfold aM9
 refine j6.mpr<| c7 e ?_
 unfold aK0
 simp only[j6,S8,ep,T8]
 rw[if_pos (by rw[ze];exact h64)]
 unfold aP5
 refine j6.mpr<| c7 (cK5 es) ?_
 simp only[j6,aF7,dS5,T8]
 rw[if_pos (cU4 nd),S6,e1]
 exact q es' hp hn
def RF(n:Nat)(m:CS n)(e:Str×Bool×CS n):Prop:=(Gd n e.2.2/\(e.2.1=true->∃v,inC n e.2.2 v)/\(e.2.1=false->e.2.2≠m))/\SzC n 7 e.2.2/\Tx e.1/\0<e.1.length
end
section
def qS(r p d k:Nat)(A:D)(m:CS d)(u v w:Option D):DSt:= [some (.ref r),some A,some (.int (d:Int)),some (.int (k:Int)),some (enC d m),some (.ref p),u,v,w]
theorem eS2(h8:d<=8)(ih:NAt d R)(h:Dr G r)(hc:DC d c)(hb:b=true->∃v,inC d c v):Wp (QB1 R (qS r p d k A m (some (.str z)) (some (.bl b)) (some (enC d c)))) G λfl G'=>Fd r G G'/\∃b' c',fl= .nx (qS r p d k A m (some (.str z)) (some (.bl b')) (some (enC d c')))/\NC d c'/\(b'=true->∃v,inC d c' v):=by
 obtain⟨q,eq,hq⟩:=aB5 h8 G c hc.1
 refine Q4<| m9<| t8 rfl rfl<| aO5.mpr ⟨q,eq,_,rfl,λhn=>?_,λ_=>j7.mpr ⟨Fd.refl h,b,c,rfl,hc.nc,hb⟩⟩
 have hne:∃v,inC d c v:=zW λz=>by
  rw[hq.mpr λv k=>z ⟨v,k⟩]at hn
  cases hn
 refine d9.mpr<| N7<| j8 rfl rfl<| (bI6 h8 ih h hc).mono ?_
 rintro _ G1 ⟨f1,c1,rfl,h1,h2⟩
 refine N7<| dJ3.mpr<| c7 rfl<| V9.mpr ?_
 rcases b with _|_
 · rw[if_neg (by decide)]
   exact t6<| t6<| j8 rfl rfl<| Z8 f1.2.2 λj G2 f2=>c7 rfl<| (u5 (by decide)).mpr<| c7 rfl<| R6.mpr ⟨f1.trans f2,_,c1,rfl,h1,λ_=>h2 hne⟩
 · rw[if_pos rfl]
   exact⟨f1,true,c1,rfl,h1,λ_=>h2 hne⟩
theorem eM0(h8:d<=8)(hp:p≠r)(h:Dr G r)(hc:NC d c)(hb:b=true->∃v,inC d c v)(hz:Tx z/\0<z.length)(e:G[p]? =some (.lst (es.map (fdE (enC d)))))(he:∀x∈es,RF d m x)(hl:es.length<=100):Wp (QB2 (qS r p d k A m (some (.str z)) (some (.bl b)) (some (enC d c)))) G λfl G'=>Fd2 r p G G'/\∃u v w es',fl= .nx (qS r p d k A m u v w)/\G'[p]? =some (.lst (es'.map (fdE (enC d))))/\(∀x∈es',RF d m x)/\(es'=es\/∃x,es'=es++[x]/\x.1=z):=by
 have bg:=big
 have add:(b=false->c≠m)->Wp ((aM6 (mtE T4 X7 (b7 5) (q13 (J7 (q13 (b7 6) (q13 (b7 7) (q13 (b7 8) q14)))) q14))) (qS r p d k A m (some (.str z)) (some (.bl b)) (some (enC d c)))) G λfl G'=>Fd2 r p G G'/\∃u v w es',fl= .nx (qS r p d k A m u v w)/\G'[p]? =some (.lst (es'.map (fdE (enC d))))/\(∀x∈es',RF d m x)/\(es'=es\/∃x,es'=es++[x]/\x.1=z):=λhne=>by
  refine aL0.mpr<| aS3.mpr<| c7 rfl<| (S9 e).mpr<| c7 rfl<| (U7 e (by rw[ze];lia)).mpr ?_
  exact⟨Fd2.set hp h,_,_,_,es++[(z,b,c)],rfl,by rw[zL (lt_of_get e),jr];rfl,λx hx=>(jc.mp hx).elim (he x) λk=>by rw[zr.mp k];exact⟨⟨hc.1,hb,hne⟩,hc.2,hz⟩,.inr ⟨_,rfl,rfl⟩⟩
 refine Q4<| aD1<| aJ4.mpr<| c7 rfl<| V9.mpr ⟨λhb=>⟨λ_=>add λz=>(by rw[z]at hb;cases hb),λz=>nomatch z⟩,λhb=>?_⟩
 obtain⟨q,eq,hq⟩:=aR6 h8 G c m
 refine m9<| t8 rfl rfl<| aO5.mpr ⟨q,eq,_,rfl,λhn'=>add λ_ hcm=>?_,λ_=>j7.mpr ⟨(Fd.refl h).two,_,_,_,es,rfl,e,he,.inl rfl⟩⟩
 rw[hq.mpr hcm]at hn'
 cases hn'
theorem cU5(h8:d<=8)(ih:NAt d R)(hp:p≠r):∀(l:List (Str×Bool×CS d)) u v w (es:List (Str×Bool×CS d)) G,Dr G r->(∀e∈l,DC d e.2.2/\(e.2.1=true->∃v,inC d e.2.2 v)/\Tx e.1/\0<e.1.length)->G[p]? =some (.lst (es.map (fdE (enC d))))->(∀x∈es,RF d m x)->es.length+l.length<=50->
 Wp (aB8 (aZ7 3 (Q3 (q16 6) (Q3 (q16 7) (Q3 (q16 8) (aZ1))))) (j5 (QB1 R) QB2) (λ_=>true) (l.map (fdE (enC d))) (qS r p d k A m u v w)) G λfl G'=>Fd2 r p G G'/\∃u v w,∃(es':List (Str×Bool×CS d)) (t:List Str),fl= .nx (qS r p d k A m u v w)/\G'[p]? =some (.lst (es'.map (fdE (enC d))))/\(∀x∈es',RF d m x)/\es'.map (·.1)=es.map (·.1)++t/\t.Sublist (l.map (·.1))
 |[],u,v,w,es,G,h,_,e,he,_=>V3.mpr ⟨rfl,(Fd.refl h).two,u,v,w,es, [],rfl,e,he,by simp,.slnil⟩
 |x::l,u,v,w,es,G,h,hx,e,he,hl=>by
   simp only[zD]at hl
   obtain⟨z,b,c⟩:=x
   obtain⟨hc,hb,hz⟩:=hx _ (zq ..)
   have eg:aZ7 3 (Q3 (q16 6) (Q3 (q16 7) (Q3 (q16 8) (aZ1)))) (fdE (enC d) (z,b,c)) (qS r p d k A m u v w) G=some (.ok (qS r p d k A m (some (.str z)) (some (.bl b)) (some (enC d c))),G):=rfl
   rw[zB]
   refine aA1.mpr ⟨rfl,c7 eg ?_⟩
   refine d9.mpr<| (eS2 h8 ih h hc hb).mono ?_
   rintro _ G1 ⟨f1,b1,c1,rfl,h1,h2⟩
   refine(eM0 h8 hp f1.2.2 h1 h2 hz (f1.at hp e) he (by lia)).mono ?_
   rintro _ G2 ⟨f2,u2,v2,w2,es2,rfl,e2,he2,o2⟩
   have l2:es2.length<=es.length+1:=by
    rcases o2 with rfl|⟨y,rfl,_⟩
    ·lia
    ·simp
   refine(cU5 h8 ih hp l u2 v2 w2 es2 G2 f2.2.2 (λy hy=>hx y (zk _ hy)) e2 he2 (by lia)).mono ?_
   rintro _ G3 ⟨f3,u3,v3,w3,es3,t,e3,e4,he3,e5,ht⟩
   refine⟨(f1.two.trans f2).trans f3,u3,v3,w3,es3,?_⟩
   rcases o2 with rfl|⟨y,rfl,ey⟩
   ·exact⟨t,e3,e4,he3,e5,ht.cons _⟩
   · refine⟨z::t,e3,e4,he3,?_,ht.cons₂ _⟩
     rw[e5,jr,yG]
     simp[ey]
end
section
theorem fI5{fs es:List (Str×Bool×CS d)}(h8:d<=8)(ih:NAt d R)(hp:p≠r)(h:Dr G r)(hm:DC d m0)(hl:fs.length<=6)(e:G[p]? =some (.lst (es.map (fdE (enC d)))))(he:∀x∈es,RF d m x)(hs:(es.map (·.1)).Sublist (fs.map (·.1)))(nd:(fs.map (·.1)).Nodup):Wp (QE R (qS r p d k (rcD (enC d) (some (fs,m0))) m u v w)) G λfl G'=>Fd2 r p G G'/\∃es':List (Str×Bool×CS d),fl= .nx (qS r p d k (rcD (enC d) (some (fs,m0))) m u v w)/\G'[p]? =some (.lst (es'.map (fdE (enC d))))/\(∀x∈es',RF d m x)/\(es'.map (·.1)).Nodup/\es'.length<=7:=by
 have bg:=big
 have hle:es.length<=6:=by have:=hs.length_le;rw[ze,ze]at this;lia
 have skip:∀G1,Fd r G G1->Wp (j9 (qS r p d k (rcD (enC d) (some (fs,m0))) m u v w)) G1 λfl G'=>Fd2 r p G G'/\∃es':List (Str×Bool×CS d),fl= .nx (qS r p d k (rcD (enC d) (some (fs,m0))) m u v w)/\G'[p]? =some (.lst (es'.map (fdE (enC d))))/\(∀x∈es',RF d m x)/\(es'.map (·.1)).Nodup/\es'.length<=7:=λG1 f1=>j7.mpr ⟨f1.two,es,rfl,f1.at hp e,he,hs.nodup nd,by lia⟩
 refine Q4<| aH7<| m9<| t6<| t8 rfl rfl<| (u5 (by decide)).mpr<| c7 rfl<| R6.mpr ⟨_,rfl,λ_=>?_,λ_=>⟨λz=>(nomatch z),λ_=>skip G (Fd.refl h)⟩⟩
 obtain⟨b,eb,hb⟩:=aB5 h8 G m0 hm.1
 refine aH7<| m9<| t8 rfl rfl<| aO5.mpr ⟨b,eb,_,rfl,λhn=>?_,λ_=>⟨λz=>(nomatch z),λ_=>skip G (Fd.refl h)⟩⟩
 have hne:∃v,inC d m0 v:=zW λz=>by
  rw[hb.mpr λv k=>z ⟨v,k⟩]at hn
  cases hn
 have hc:N6 (q16 0) aC8 (b8 ixD (b7 0) (cE (.int 0))) (λ_=>true) (fs.map (fdE (enC d))) (W3 [none] (qS r p d k (rcD (enC d) (some (fs,m0))) m u v w)) G=some (.ok ((fs.map (fdE (enC d))).map λx:D=>(match x with| .tup (a::_)=>a|_=>.non:D)),G):=by
  refine aM1 (I:=λσ=>∃a,σ= [a]) rfl _ _ ⟨_,rfl⟩ λx hx σ WY=>?_
  obtain⟨f,hf,rfl⟩:=zY.mp hx
  obtain⟨a,rfl⟩:=WY
  exact⟨[some (fdE (enC d) f)],rfl,⟨_,rfl⟩,rfl,rfl⟩
 have ec:((fs.map (fdE (enC d))).map λx:D=>(match x with| .tup (a::_)=>a|_=>.non:D))= (fs.map (·.1)).map D.str:=by rw[jK,jK];rfl
 rw[ec]at hc
 have f1:Fd r G (G++[.lst ((fs.map (·.1)).map D.str)]):=Fd.app h
 refine m9<| t6<| c7 rfl<| aJ0 rfl (by rw[ze];lia)<| c7 hc<| bJ6.mpr ⟨_,cS8 m6,_,rfl,λhni=>?_,λ_=>skip _ f1⟩
 have hni:("ca" :Str)∉fs.map (·.1):=by simpa using hni
 have e1:=f1.at hp e
 generalize G++[DO.lst ((fs.map (·.1)).map D.str)]=G1 at *
 refine aL0.mpr<| aS3.mpr<| c7 rfl<| (S9 e1).mpr<| m7<| V8.mpr<| O2 rfl<| O2 rfl<| m7<| j8 rfl rfl<| (bI6 h8 ih f1.2.2 hm).mono ?_
 rintro _ G2 ⟨f2,c,rfl,h1,h2⟩
 have f12:=f1.trans f2
 have e2:=f2.at hp e1
 refine m5.mpr ⟨sz,m5.mpr<| (U7 e2 (by rw[ze];lia)).mpr ?_⟩
 refine⟨f12.two.trans (Fd2.set hp f12.2.2),es++[(("ca" :Str),true,c)],rfl,by rw[zL (lt_of_get e2),jr];rfl,λx hx=>(jc.mp hx).elim (he x) λk=>?_,?_,by simp;lia⟩
 · rw[zr.mp k]
   exact⟨⟨h1.1,λ_=>h2 hne,λz=>(nomatch z)⟩,h1.2,dN6 ("ca" :Str) (by decide),(show 0<("ca" :Str).length by decide)⟩
 · rw[jr,yE]
   refine⟨hs.nodup nd,by simp,λa ha b hb e=>hni ?_⟩
   rw[show b= "ca" from zr.mp hb]at e
   rw[<-e]
   exact hs.subset ha
theorem fH8{a:Option (List (Str×Bool×CS d)×CS d)}(h8:d<=8)(ih:NAt d R)(h:Dr G r)(ha:ROk d a):Wp (N8 R [.ref r,rcD (enC d) a,.int (d:Int)]) G λx G'=>Fd r G G'/\∃b,x=rcD (enC d) b/\aE9 (inC d) (Gd d) b/\rsZ d 7 b:=by
 have bg:=big
 refine K7 (show Wp (T6 R [some (.ref r),some (rcD (enC d) a),some (.int (d:Int)),none,none,none,none,none,none]) G _ from ?_)
 have is_:T6 R=j5 (o9 (q15 (fnX 1 o4) (q13 (b7 0) q14)) (q16 3)) (j5 (ifS (orT (f9 (b8 aV3 (b7 1) (cE .non))) (f9 (b8 eqD (b8 K5 (b7 3) (cE (.int 5))) (cE (.int 0))))) (m8 (cE .non)) j9) (j5 (o9 (q15 (fnX 3 R) (q13 (b7 0) (q13 (b8 ixD (b7 1) (cE (.int 1))) (q13 (b7 2) q14)))) (q16 4)) (j5 (o9 (X3 q14) (q16 5)) (j5 (aF5 (itW (b8 ixD (b7 1) (cE (.int 0)))) (aZ7 3 (Q3 (q16 6) (Q3 (q16 7) (Q3 (q16 8) (aZ1))))) (j5 (QB1 R) QB2)) (j5 (QE R) QF))))):=rfl
 rw[is_]
 refine d9.mpr<| N7<| j8 rfl rfl<| Z8 h λk G1 f1=>d9.mpr ?_
 rcases a with _|⟨fs,m0⟩
 ·exact cQ5 rfl<| K1<| c7 rfl<| J8 ⟨f1,none,rfl,λ_ _ e=>(nomatch e),λ_ _ e=>(nomatch e)⟩
 refine Q4<| aD1<| c7 rfl ⟨λz=>(nomatch z),λ_=>?_⟩
 refine m9<| t6<| t8 rfl rfl<| (u5 (by decide)).mpr<| c7 rfl<| R6.mpr ⟨_,rfl,λ_=>?_,λ_=>j7.mpr ?_⟩
 ·exact K1<| c7 rfl<| J8 ⟨f1,none,rfl,λ_ _ e=>(nomatch e),λ_ _ e=>(nomatch e)⟩
 obtain⟨gm,gn,gf⟩:=ha.1 fs m0 rfl
 obtain⟨lf,sm,sf⟩:=ha.2 fs m0 rfl
 refine d9.mpr<| N7<| j8 rfl rfl<| (ih G1 r m0 f1.2.2 ⟨gm,sm⟩).mono ?_
 rintro _ G2 ⟨f2,m,rfl,hm⟩
 have f3:Fd r G2 (G2++[DO.lst []]):=Fd.app f2.2.2
 have hp:G2.length≠r:=by have:=f2.2.2.lt;lia
 refine Z9 (X2:=qS r G2.length d k (rcD (enC d) (some (fs,m0))) m none none none) rfl ?_
 refine d9.mpr<| aJ9.mpr<| wp_itW.mpr<| t8 rfl rfl<| ix_tup.mpr ⟨.tup (fs.map (fdE (enC d))),rfl,srcW_tup.mpr ?_⟩
 refine(cU5 h8 ih hp fs none none none [] _ f3.2.2 (λe he=>⟨⟨(gf e he).1,(sf e he).1⟩,(gf e he).2.1,(sf e he).2⟩) m6 (λ_ h=>nomatch h) (by simp;lia)).mono ?_
 rintro _ G4 ⟨f4,u,v,w,es,t,rfl,e4,he,e5,ht⟩
 refine d9.mpr<| (fI5 h8 ih hp f4.2.2 ⟨gm,sm⟩ lf e4 he (by rw[e5];exact ht) (cO2 gn)).mono ?_
 rintro _ G5 ⟨f5,es',rfl,e6,he',nd,l7⟩
 have fin:=(f1.trans (f2.trans f3)).thru (f4.trans f5) (show G.length<=G2.length from(f1.trans f2).1)
 refine K1<| V8.mpr<| m7<| M7<| m7<| dN7 rfl e6 nd (by lia) λes2 hp2 hn2=>m5.mpr<| (K9 m6).mpr<| c7 rfl ⟨sz,J8 ⟨fin.trans (Fd.app fin.2.2),some (es2,m),rfl,?_,?_⟩⟩
 · rintro _ _ ⟨⟩
   exact⟨hm.1,hn2,λe he=>(he' e (hp2.mem_iff.mp he)).1⟩
 · rintro _ _ ⟨⟩
   exact⟨by rw[hp2.length_eq];exact l7,hm.2,λe he=>(he' e (hp2.mem_iff.mp he)).2⟩
end
noncomputable def TS(r p d k:Nat)(X:D)(a:Int):DSt:= [some (.ref r),some X,some (.int ((d+1:Nat):Int)),some (.int (k:Int)),some (.ref p),some (.int a)]
def cj(i:Int):DSt->M Bool:=(f9 (b8 inD (b7 5) (J7 (q13 (cE (.int i)) (q13 (cE (.int 5)) q14)))))
def J0:Fs:=(ifS (cj 0) (o9 (q15 (fnX 2 Q7) (q13 (b7 0) (q13 (b8 ixD (b7 4) (cE (.int 0))) q14))) (aF4 (b7 4) (cE (.int 0)))) j9)
def J1:Fs:=(ifS (cj 1) (o9 (q15 (fnX 2 R9) (q13 (b7 0) (q13 (b8 ixD (b7 4) (cE (.int 1))) q14))) (aF4 (b7 4) (cE (.int 1)))) j9)
def J2:Fs:=(ifS (cj 2) (o9 (bM9 (b8 ixD (b7 4) (cE (.int 2))) (aV5 (cE (.int 1))) (cR2)) (aF4 (b7 4) (cE (.int 2)))) j9)
def J3(R:List D->M D):Fs:=(ifS (cj 3) (o9 (q15 (fnX 3 (P0 R)) (q13 (b7 0) (q13 (b8 ixD (b7 4) (cE (.int 3))) (q13 (b8 aO1 (b7 2) (cE (.int 1))) q14)))) (aF4 (b7 4) (cE (.int 3)))) j9)
def J4(R:List D->M D):Fs:=(ifS (cj 4) (o9 (q15 (fnX 3 (N8 R)) (q13 (b7 0) (q13 (b8 ixD (b7 4) (cE (.int 4))) (q13 (b8 aO1 (b7 2) (cE (.int 1))) q14)))) (aF4 (b7 4) (cE (.int 4)))) j9)
section
theorem dU8(h:∀k,B k G):Wp (cj i (TS r p d k X a)) G B:=m9<| t8 rfl rfl<| cF9.mpr ⟨_,rfl,_,rfl,h _⟩
def PJ(r p d k:Nat)(X:D)(a:Int)(G:DH)(Z:Pt (CS d)->Prop)(fl:Fl)(G':DH):Prop:=Fd2 r p G G'/\fl= .nx (TS r p d k X a)/\∃w',G'[p]? =some (.lst (fiv (enC d) w'))/\Z w'
theorem cC0(hp:p≠r)(f1:Fd r G G1)(e:G[p]? =some (.lst (fiv (enC d) w)))(hj:ixN 5 i=some j)(hd:(fiv (enC d) w).set j x=fiv (enC d) w')(z:Z w'):Wp (aF4 (b7 4) (cE (.int i)) x (TS r p d k X a)) G1 λσ G2=>PJ r p d k X a G Z (.nx σ) G2:=by
 have e1:=f1.at hp e
 refine dU7 rfl rfl e1 hj ?_
 rw[hd]
 exact⟨f1.two.trans (Fd2.set hp f1.2.2),rfl,w',zL (lt_of_get e1),z⟩
theorem fK1(hp:p≠r)(h:Dr G r)(e:G[p]? =some (.lst (fiv (enC d) w)))(cn:Can w.ns)(ln:w.ns.length<=6):Wp (J0 (TS r p d k X a)) G (PJ r p d k X a G λw'=>∃ns,w'= {w with ns:=ns}/\Can ns/\ns.length<=7):=by
 refine Q4<| dU8 λb=>⟨λ_=>?_,λ_=>j7.mpr ⟨(Fd.refl h).two,rfl,w,e,w.ns,rfl,cn,by lia⟩⟩
 refine S7.mpr<| M7<| O2 rfl<| m7<| t8 rfl rfl<| (Z6 e).mpr ⟨.tup (rsD w.ns),rfl,m5.mpr<| Q8.mpr ⟨rfl,(fG7 h cn (by lia)).mono ?_⟩⟩
 rintro _ G1 ⟨f1,ns,rfl,c1,l1⟩
 exact cC0 hp f1 e rfl rfl ⟨ns,rfl,c1,by lia⟩
theorem fK2(hp:p≠r)(h:Dr G r)(e:G[p]? =some (.lst (fiv (enC d) w)))(cn:Ris w.ss)(tx:∀z∈w.ss,Tx z)(ln:w.ss.length<=6):Wp (J1 (TS r p d k X a)) G (PJ r p d k X a G λw'=>∃ss,w'= {w with ss:=ss}/\Ris ss/\(∀z∈ss,Tx z)/\ss.length<=7):=by
 refine Q4<| dU8 λb=>⟨λ_=>?_,λ_=>j7.mpr ⟨(Fd.refl h).two,rfl,w,e,w.ss,rfl,cn,tx,by lia⟩⟩
 refine S7.mpr<| M7<| O2 rfl<| m7<| t8 rfl rfl<| (Z6 e).mpr ⟨aK3 w.b w.ss,rfl,m5.mpr<| Q8.mpr ⟨rfl,(fB7 h cn tx ln).mono ?_⟩⟩
 rintro _ G1 ⟨f1,ss,rfl,c1,t1,l1⟩
 exact cC0 hp f1 e rfl rfl ⟨ss,rfl,c1,t1,l1⟩
theorem dZ7:∀a∈B4,a.drop 1∈B4:=by decide
theorem fK8(h8:d<=8)(ih:NAt d R)(hp:p≠r)(h:Dr G r)(e:G[p]? =some (.lst (fiv (enC d) w)))(ok:LOk d w.ls):Wp (J3 R (TS r p d k X a)) G (PJ r p d k X a G λw'=>∃b,w'= {w with ls:=b}/\aK4 (inC d) (Gd d) b/\lsZ d 7 b):=by
 refine Q4<| dU8 λb=>⟨λ_=>?_,λ_=>j7.mpr ⟨(Fd.refl h).two,rfl,w,e,w.ls,rfl,ok.1,λfs m e=>?_⟩⟩
 · have ea:(q13 (b7 0) (q13 (b8 ixD (b7 4) (cE (.int 3))) (q13 (b8 aO1 (b7 2) (cE (.int 1))) q14))) (TS r p d k X a) G=some (.ok [.ref r,lsD (enC d) w.ls,.int (d:Int)],G):=by
    have e3:(q13 (b8 aO1 (b7 2) (cE (.int 1))) q14) (TS r p d k X a) G=some (.ok [.int (d:Int)],G):=by
     show some (Except.ok [D.int (((d+1:Nat):Int)-1)],G)=_
     rw[bE1]
    have e2:(b8 ixD (b7 4) (cE (.int 3))) (TS r p d k X a) G=some (.ok (lsD (enC d) w.ls),G):=O7<| t8 rfl rfl<| (Z6 e).mpr ⟨_,rfl,rfl,rfl⟩
    exact O7<| O2 rfl<| O2 e2<| c7 e3 ⟨rfl,rfl⟩
   refine S7.mpr<| j8 ea rfl<| (fB0 h8 ih h ok).mono ?_
   rintro _ G1 ⟨f1,b,rfl,c1,l1⟩
   exact cC0 hp f1 e rfl rfl ⟨b,rfl,c1,l1⟩
 · have:=ok.2 fs m e
   exact⟨by lia,SzC.mono (by decide) this.2.1,λa ha=>SzC.mono (by decide) (this.2.2 a ha)⟩
theorem fJ5(h8:d<=8)(ih:NAt d R)(hp:p≠r)(h:Dr G r)(e:G[p]? =some (.lst (fiv (enC d) w)))(ok:ROk d w.rs):Wp (J4 R (TS r p d k X a)) G (PJ r p d k X a G λw'=>∃b,w'= {w with rs:=b}/\aE9 (inC d) (Gd d) b/\rsZ d 7 b):=by
 refine Q4<| dU8 λb=>⟨λ_=>?_,λ_=>j7.mpr ⟨(Fd.refl h).two,rfl,w,e,w.rs,rfl,ok.1,λfs m e=>?_⟩⟩
 · have ea:(q13 (b7 0) (q13 (b8 ixD (b7 4) (cE (.int 4))) (q13 (b8 aO1 (b7 2) (cE (.int 1))) q14))) (TS r p d k X a) G=some (.ok [.ref r,rcD (enC d) w.rs,.int (d:Int)],G):=by
    have e3:(q13 (b8 aO1 (b7 2) (cE (.int 1))) q14) (TS r p d k X a) G=some (.ok [.int (d:Int)],G):=by
     show some (Except.ok [D.int (((d+1:Nat):Int)-1)],G)=_
     rw[bE1]
    have e2:(b8 ixD (b7 4) (cE (.int 4))) (TS r p d k X a) G=some (.ok (rcD (enC d) w.rs),G):=O7<| t8 rfl rfl<| (Z6 e).mpr ⟨_,rfl,rfl,rfl⟩
    exact O7<| O2 rfl<| O2 e2<| c7 e3 ⟨rfl,rfl⟩
   refine S7.mpr<| j8 ea rfl<| (fH8 h8 ih h ok).mono ?_
   rintro _ G1 ⟨f1,b,rfl,c1,l1⟩
   exact cC0 hp f1 e rfl rfl ⟨b,rfl,c1,l1⟩
 · have:=ok.2 fs m e
   exact⟨by lia,SzC.mono (by decide) this.2.1,λa ha=>⟨SzC.mono (by decide) (this.2.2 a ha).1,(this.2.2 a ha).2⟩⟩
theorem fL3(h7:d<=7)(e:G[p]? =some (.lst (fiv (enC d) w)))(g:GdP (inC d) (Gd d) w)(s:SzP (SzC d 7) 7 w):Wp (J5 (TS r p d k X a)) G λfl G'=>∃c,fl= .rt (enC (d+1) c)/\NC (d+1) c/\G'=G:=by
 refine d9.mpr<| Q4<| m9<| t6<| aJ6 rfl<| (K9 e).mpr<| j8 rfl rfl<| c7 bL6<| aV7 (bI9 h7 G g) (λ_=>⟨_,rfl,λ_=>?_,λz=>nomatch z⟩) (λhn=>⟨_,rfl,λz=>(nomatch z),λ_=>j7.mpr ?_⟩)
 ·exact K1<| c7 rfl ⟨none,rfl,(bW7 (d+1)).nc,rfl⟩
 ·exact K1<| aJ6 rfl<| (K9 e).mpr ⟨some w,rfl,⟨⟨g,hn⟩,by rintro _ ⟨⟩;exact s⟩,rfl⟩
end
section
theorem eV6(h:bs∈B4):DL.cutD (bs.map D.bl) (some 1) none= (bs.drop 1).map D.bl:=by
 simp only[B4,zu,ju,or_false]at h
 rcases h with rfl|rfl|rfl|rfl<;>rfl
theorem fF8(hp:p≠r)(h:Dr G r)(e:G[p]? =some (.lst (fiv (enC d) w)))(hb:w.bs∈B4):Wp (J2 (TS r p d k X a)) G (PJ r p d k X a G λw'=>∃bs,w'= {w with bs:=bs}/\bs∈B4):=by
 refine Q4<| dU8 λb=>⟨λ_=>?_,λ_=>j7.mpr ⟨(Fd.refl h).two,rfl,w,e,w.bs,rfl,hb⟩⟩
 have e2:(b8 ixD (b7 4) (cE (.int 2))) (TS r p d k X a) G=some (.ok (.tup (w.bs.map D.bl)),G):=O7<| t8 rfl rfl<| (Z6 e).mpr ⟨_,rfl,rfl,rfl⟩
 refine S7.mpr<| dF2.mpr<| c7 e2<| c7 rfl<| c7 rfl<| eE3.mpr ?_
 rw[eV6 hb]
 exact cC0 hp (Fd.refl h) e rfl rfl ⟨_,rfl,dZ7 _ hb⟩
theorem dI9(h7:d<=7)(ih:NAt d R)(hp:p≠r)(h:Dr G r)(e:G[p]? =some (.lst (fiv (enC d) w)))(ok:OkP d w):Wp (j5 J0 (j5 J1 (j5 J2 (j5 (J3 R) (j5 (J4 R) J5)))) (TS r p d k X a)) G λfl G'=>∃c,fl= .rt (enC (d+1) c)/\NC (d+1) c/\Fd2 r p G G':=by
 refine d9.mpr<| (fK1 hp h e ok.1.ns ok.2.ns).mono ?_
 rintro _ G1 ⟨f1,rfl,_,e1,ns,rfl,c1,l1⟩
 refine d9.mpr<| (fK2 hp f1.2.2 e1 ok.1.ss ok.2.tx ok.2.ss).mono ?_
 rintro _ G2 ⟨f2,rfl,_,e2,ss,rfl,c2,t2,l2⟩
 refine d9.mpr<| (fF8 hp f2.2.2 e2 ok.1.bs).mono ?_
 rintro _ G3 ⟨f3,rfl,_,e3,bs,rfl,c3⟩
 refine d9.mpr<| (fK8 (by lia) ih hp f3.2.2 e3 ⟨ok.1.ls,ok.2.ls⟩).mono ?_
 rintro _ G4 ⟨f4,rfl,_,e4,ls,rfl,c4,l4⟩
 refine d9.mpr<| (fJ5 (by lia) ih hp f4.2.2 e4 ⟨ok.1.rs,ok.2.rs⟩).mono ?_
 rintro _ G5 ⟨f5,rfl,_,e5,rs,rfl,c5,l5⟩
 refine(fL3 h7 e5 ⟨c1,c2,c3,c4,c5⟩ ⟨l1,l2,t2,l4,l5⟩).mono ?_
 rintro _ _ ⟨c,rfl,hc,rfl⟩
 exact⟨c,rfl,hc,(((f1.trans f2).trans f3).trans f4).trans f5⟩
theorem fJ6:Z5 R=j5 (o9 (q15 (fnX 1 o4) (q13 (b7 0) q14)) (q16 3)) (j5 (ifS (orT (f9 (b8 eqD (b8 K5 (b7 3) (cE (.int 3))) (cE (.int 0)))) (f9 (b8 eqD (b7 2) (cE (.int 0))))) (m8 (b7 1)) j9) (j5 (o9 (b7 1) (q16 4)) (j5 (ifS (f9 (b8 eqD (b7 1) (cE (.str ("any" :Str))))) (o9 (q15 (fnX 0 R5) q14) (q16 4)) j9) (j5 (o9 (q15 bC6 (q13 (b7 4) q14)) (q16 4)) (j5 (o9 (b8 K5 (b8 O6 (b7 3) (cE (.int 3))) (cE (.int 6))) (q16 5)) (j5 J0 (j5 J1 (j5 J2 (j5 (J3 R) (j5 (J4 R) J5)))))))))):=rfl
theorem dW9:NAt 0 (O3 (n+1)):=λG r c h hc=>by
 refine K7 (show Wp (Z5 (O3 n) [some (.ref r),some (.str aZ4),some (.int 0),none,none,none]) G _ from ?_)
 rw[fJ6]
 refine d9.mpr<| N7<| j8 rfl rfl<| Z8 h λk G1 f1=>d9.mpr ?_
 refine Q4<| aD1<| m9<| t6<| t8 rfl rfl<| (u5 (by decide)).mpr<| c7 rfl<| R6.mpr ⟨_,rfl,λ_=>⟨λ_=>?_,λz=>nomatch z⟩,λ_=>c7 rfl ⟨λ_=>?_,λz=>nomatch z⟩⟩
 all_goals exact K1<| c7 rfl<| J8 ⟨f1,c,rfl,hc.nc⟩
theorem cJ1(h7:d<=7)(ih:NAt d (O3 n)):NAt (d+1) (O3 (n+1)):=λG r c h hc=>by
 refine K7 (show Wp (Z5 (O3 n) [some (.ref r),some (enC (d+1) c),some (.int ((d+1:Nat):Int)),none,none,none]) G _ from ?_)
 rw[fJ6]
 refine d9.mpr<| N7<| j8 rfl rfl<| Z8 h λk G1 f1=>d9.mpr ?_
 refine Q4<| aD1<| m9<| t6<| t8 rfl rfl<| (u5 (by decide)).mpr<| c7 rfl<| R6.mpr ⟨_,rfl,λ_=>⟨λ_=>?_,λz=>nomatch z⟩,λ_=>m9<| t8 rfl rfl<| R6.mpr ⟨_,rfl,λ_=>?_,λ_=>j7.mpr ?_⟩⟩
 ·exact K1<| c7 rfl<| J8 ⟨f1,c,rfl,hc.nc⟩
 ·exact K1<| c7 rfl<| J8 ⟨f1,c,rfl,hc.nc⟩
 have go:∀w:Pt (CS d),OkP d w->Wp (j5 (o9 (q15 bC6 (q13 (b7 4) q14)) (q16 4)) (j5 (o9 (b8 K5 (b8 O6 (b7 3) (cE (.int 3))) (cE (.int 6))) (q16 5)) (j5 J0 (j5 J1 (j5 J2 (j5 (J3 (O3 n)) (j5 (J4 (O3 n)) J5)))))) [some (.ref r),some (enC (d+1) c),some (.int ((d+1:Nat):Int)),some (.int (k:Int)),some (.tup (fiv (enC d) w)),none]) G1 (DL.PB λx G'=>Fd r G G'/\∃c',x=enC (d+1) c'/\NC (d+1) c'):=λw ok=>by
  have f2:Fd r G1 (G1++[.lst (fiv (enC d) w)]):=Fd.app f1.2.2
  have hp:G1.length≠r:=by have:=f1.2.2.lt;lia
  refine d9.mpr<| N7<| aJ6 rfl<| cC1.mpr ?_
  refine d9.mpr<| N7<| t6<| t8 rfl rfl<| (S5 ⟨by decide,by decide⟩).mpr<| c7 rfl<| (u5 (by decide)).mpr ?_
  refine(dI9 h7 ih hp f2.2.2 m6 ok).mono ?_
  rintro _ G3 ⟨c',rfl,hc',f3⟩
  exact J8 ⟨(f1.trans f2).thru f3 f1.1,c',rfl,hc'⟩
 rcases c with _|w
 · refine Z9 (X2:= [some (.ref r),some (.str aZ4),some (.int ((d+1:Nat):Int)),some (.int (k:Int)),some (.str aZ4),none]) rfl ?_
   refine Z9 (X2:= [some (.ref r),some (.str aZ4),some (.int ((d+1:Nat):Int)),some (.int (k:Int)),some (.tup (fiv (enC d) (evP d))),none]) (by rw[show D.tup (fiv (enC d) (evP d))=evD from dI0];rfl) ?_
   exact go (evP d) (eJ8 d)
 · refine Z9 (X2:= [some (.ref r),some (enC (d+1) (some w)),some (.int ((d+1:Nat):Int)),some (.int (k:Int)),some (.tup (fiv (enC d) w)),none]) rfl ?_
   refine Z9 (X2:= [some (.ref r),some (enC (d+1) (some w)),some (.int ((d+1:Nat):Int)),some (.int (k:Int)),some (.tup (fiv (enC d) w)),none]) rfl ?_
   exact go w ⟨hc.1.1,hc.2 w rfl⟩
end
theorem bT5:∀d N,d<=8->d<N->NAt d (O3 N)
 |0,N+1,_,_=>dW9
 |d+1,N+1,h8,h=>cJ1 (by lia) (bT5 d N (by lia) (by lia))
theorem dS1{α:Type}{G:DH}{l:List α}{f:α->Bool}(h:G[r]? =some (.lst (l.map λx=>.bl (f x)))):Wp (dD5 [.ref r]) G Q↔Q (.bl (l.all f)) G:=by
 have h0:dD5 [.ref r]= (do
  let l <-R1 r >>= DL.listOf
  let bs <-aI5 (aX0 l)
  pure (.bl (bs.all id))):=rfl
 rw[h0]
 simp only[j6,S8,h,T8,DL.listOf,wp_pure,aF7,bX3,ZU]
 rfl
section
end
noncomputable abbrev abc:Str:= "abcdefghijklmnopqrstuvwxyz"
theorem eZ1:∀k,k<26->(!(xv abc ⟨#[97+k]⟩ 0 abc.length 1).isEmpty)=true:=by decide +kernel
theorem eL5(h:bY3 c=true):inB (.str ⟨#[c]⟩) (.str abc) G=some true:=by
 unfold bY3 at h
 rw[zZ,decide_eq_true_iff,decide_eq_true_iff]at h
 have:=eZ1 (c-97) (by lia)
 rw[show 97+(c-97)=c by lia]at this
 exact congrArg some this
theorem bJ4:∀(cs:List Nat) u,(∀c∈cs,bY3 c=true)->N6 (q16 0) aC8 (b8 inD (b7 0) (cE (.str abc))) (λ_=>true) (cs.map λc=>.str ⟨#[c]⟩) [u] G=some (.ok (cs.map λ_=>.bl true),G)
 |[],u,_=>O7 (bO0.mpr ⟨rfl,rfl,rfl⟩)
 | c :: r, u, h => O7 (bL5.mpr ⟨rfl, c7 rfl <| c7 rfl <| by
    rw[if_pos rfl];exact t8 rfl rfl<| cF9.mpr ⟨true,eL5 (h c (zq ..)),c7 (bJ4 r _ λy hy=>h y (zk _ hy)) ⟨rfl,rfl⟩⟩⟩)
theorem bU2{l:Int}{Q:DPP}(h:Tx z)(h9:l<=(z.length:Int))(q:∀G',Ap G G'->Q (.bl true) G'):Wp (V4 [.str z,.int l]) G Q:=by
 have bg:1000<=zl:=by decide
 have hl:=h.2
 refine K7 (show Wp (aH3 [some (.str z),some (.int l)]) G _ from ?_)
 unfold aH3
 have h0:¬(z.length:Int)<l:=by lia
 refine d9.mpr<| Q4<| aD1<| c7 rfl ⟨λz=>O5 z,λ_=>m9<| t6<| aJ6 rfl<| (bA6 (by lia)).mpr<| c7 rfl<| aU9.mpr ⟨false,by rw[decide_eq_false h0],λz=>O5 z,λ_=>j7.mpr ?_⟩⟩
 have ht:∀c∈z.cps.toList,bY3 c=true:=yz.mp h.1
 have hz:(bD3 z).length<=zl:=by
  unfold bD3;rw[ze]
  have:z.cps.toList.length=z.length:=by rw[zA];rfl
  lia
 exact K1<| M7<| m7<| wp_comp.mpr<| wp_itW.mpr<| c7 rfl<| dT2.mpr ⟨hz,c7 (bJ4 z.cps.toList none ht)<| m5.mpr<| (dS1 m6).mpr<| J8<| by rw[yz.mpr λ_ _=>rfl];exact q _ Ap.one⟩
theorem cN5(h:Tx z)(q:∀G',Ap G G'->Q (.bl true) G'):Wp (V4 [.str z,.int 0]) G Q:=bU2 h (by lia) q
theorem bZ4(h:Can ns){i j:Nat}(hi:ns[i]? =some p)(hj:ns[j]? =some q)(k:i<j):cB9 p q:=by
 obtain⟨h1,e1⟩:=jd.mp hi
 obtain⟨h2,e2⟩:=jd.mp hj
 have:=xB.mp h.2 i j h1 h2 k
 rwa [e1,e2]at this
theorem eE7(h:Can ns){k:Nat}(hk:ns[k]? =some p)(e:p.1=none):k=0:=by
 rcases xL k with z|z
 ·exact z
 · obtain⟨h1,_⟩:=jd.mp hk
   obtain⟨a,b,_,e2,_⟩:=bZ4 h (zf (show 0<ns.length by lia)) hk z
   rw[e]at e2;exact J6 e2
theorem dS7(h:Can ns){k:Nat}(hk:ns[k]? =some p)(e:p.2=none):k+1=ns.length:=by
 obtain⟨h1,_⟩:=jd.mp hk
 rcases xz (k+1) ns.length with z|z
 · obtain⟨a,b,e2,_,_⟩:=bZ4 h hk (zf z) (by lia)
   rw[e]at e2;exact J6 e2
 ·lia
theorem fA9:aA7=j5 (ifS (V0 (u6 (q15 K8 (q13 (b7 0) (q13 (cE (.ty "tuple")) q14))))) (m8 (cE (.bl false))) j9) (j5 (aF5 (aB6 (q13 (q15 aB0 (q13 (b7 0) q14)) q14)) (q16 1) NB9) (m8 (cE (.bl true)))):=rfl
section
def nS(ns:List Rg)(k:Nat)(u v:Option D):DSt:= [some (.tup (rsD ns)),some (.int (k:Int)),u,v]
theorem dO3(h:ns[k]? =some p):NX (nS ns k u v) G=some (.ok (rD p),G):=O7<| t8 rfl rfl<| ix_tup.mpr ⟨_,atI_nat (by unfold rsD;rw[zG,h];rfl),rfl,rfl⟩
theorem fL1(h:ns[k]? =some p):N19 (nS ns k u v) G=some (.ok (.nx (nS ns k u v)),G):=O7<| by
 unfold N19
 refine Q4<| aD1<| aA2.mpr<| aJ4.mpr<| M7<| O2 (dO3 h)<| c7 rfl<| c7 rfl<| V9.mpr ⟨λz=>O5 z,λ_=>?_⟩
 exact m9<| t6<| M7<| O2 (dO3 h)<| m5.mpr<| dX2.mpr<| c7 rfl<| eL9.mpr ⟨false,rfl,λz=>O5 z,λ_=>j7.mpr ⟨rfl,rfl⟩⟩
theorem fE6(hc:Can ns)(h:ns[k]? =some p):N29 (nS ns k (some (Q6 p.1)) v) G=some (.ok (.nx (nS ns k (some (Q6 p.1)) v)),G):=by
 rcases e:p.1 with _|a
 · have:=eE7 hc h e
   subst this
   rfl
 ·rfl
theorem fA8(hc:Can ns)(h:ns[k]? =some p):N3 (nS ns k u (some (Q6 p.2))) G=some (.ok (.nx (nS ns k u (some (Q6 p.2)))),G):=by
 rcases e:p.2 with _|a
 · have hk:=dS7 hc h e
   refine O7<| Q4<| aA2.mpr<| aD1<| aH7<| c7 rfl ⟨λ_=>m9<| t6<| c7 rfl<| t8 rfl rfl<| aW3.mpr<| R6.mpr ⟨true,?_,λ_=>⟨λz=>O5 z,λ_=>j7.mpr ⟨rfl,rfl⟩⟩,λz=>absurd z (by decide)⟩,λz=>absurd z (by decide)⟩
   rw[aV4,decide_eq_true (by lia)]
 ·rfl
theorem fG0(hc:Can ns)(h:ns[k]? =some p):N4 (nS ns k (some (Q6 p.1)) (some (Q6 p.2))) G=some (.ok (.nx (nS ns k (some (Q6 p.1)) (some (Q6 p.2)))),G):=by
 have ok:=hc.1 p (jW h)
 rcases e:p.1 with _|a
 ·rfl
 rcases e2:p.2 with _|b
 ·rfl
 have:=ok a b e e2
 have n:¬a>b:=by lia
 exact O7<| Q4<| aH7<| c7 (a:=true) rfl ⟨λ_=>aH7<| c7 (a:=true) rfl ⟨λ_=>m9<| t8 rfl rfl<| bD8.mpr ⟨false,by rw[decide_eq_false n],λz=>O5 z,λ_=>j7.mpr ⟨rfl,rfl⟩⟩,λz=>absurd z (by decide)⟩,λz=>absurd z (by decide)⟩
theorem fC5(hc:Can ns)(h:ns[k]? =some p):N5 (nS ns k (some (Q6 p.1)) v) G=some (.ok (.nx (nS ns k (some (Q6 p.1)) v)),G):=by
 rcases xL k with z|z
 ·subst z;rfl
 · obtain⟨h1,_⟩:=jd.mp h
   have hq:ns[k-1]? =some ns[k-1]:=zf (by lia)
   obtain⟨a,b,e1,e2,lt⟩:=bZ4 hc hq h (by lia)
   rw[e2]
   have hk:(k:Int)>0:=by lia
   have n:¬b<=a+1:=by lia
   refine O7<| Q4<| aH7<| m9<| t8 rfl rfl<| bD8.mpr ⟨true,by rw[decide_eq_true hk],λ_=>m9<| t6<| t6<| t6<| t6<| c7 rfl<| t8 rfl rfl<| aW3.mpr ?_,λz=>absurd z (by decide)⟩
   rw[show (k:Int)-1= ((k-1:Nat):Int) by lia]
   refine ix_tup.mpr ⟨rD ns[k-1],atI_nat (by unfold rsD;rw[zG,hq];rfl),?_⟩
   have e3:atI [Q6 ns[k-1].1,Q6 ns[k-1].2] 1=some (.int a):=by rw[e1];rfl
   refine c7 rfl ?_
   show Wp (ixD (.tup [Q6 ns[k-1].1,Q6 ns[k-1].2]) (.int 1)) G _
   exact ix_tup.mpr ⟨_,e3,c7 rfl<| aR4.mpr<| c7 rfl<| bY9.mpr ⟨false,by rw[decide_eq_false n],λz=>O5 z,λ_=>j7.mpr ⟨rfl,rfl⟩⟩⟩
theorem fG4(hc:Can ns)(h:ns[k]? =some p):NB9 (nS ns k u v) G=some (.ok (.nx (nS ns k (some (Q6 p.1)) (some (Q6 p.2)))),G):=O7<|
 Z9 (fL1 h)<| fM3 (A:=λfl G1=>fl= .nx (nS ns k (some (Q6 p.1)) (some (Q6 p.2)))/\G1=G) (S7.mpr<| c7 (dO3 h)<| ⟨_,_,rfl,rfl,rfl⟩) λfl G1 ⟨e1,e2⟩=>by
  subst e1;subst e2
  exact Z9 (fE6 hc h)<| Z9 (fA8 hc h)<| Z9 (fG0 hc h)<| c7 (fC5 hc h) ⟨rfl,rfl⟩
theorem cK0(hc:Can ns):∀m j x u v,j+m=ns.length->Wp (aB8 (q16 1) NB9 (λ_=>true) ((yw j m).map fun(i:Nat)=>D.int (0+(i:Int))) [some (.tup (rsD ns)),x,u,v]) G λfl G'=>(∃x u v,fl= .nx [some (.tup (rsD ns)),x,u,v])/\G'=G
 |0,j,x,u,v,_=>V3.mpr ⟨rfl,⟨_,_,_,rfl⟩,rfl⟩
 |m+1,j,x,u,v,hj=>by
   have hp:ns[j]? =some ns[j]:=zf (by lia)
   rw[xW,zB]
   refine aA1.mpr ⟨rfl,O9.mpr ?_⟩
   rw[show (0+(j:Int))= (j:Int) by lia]
   exact c7 (fG4 hc hp) (cK0 hc m (j+1) _ _ _ (by lia))
end
theorem eG4(e:fs σ G=some (.ok [.int j],G1))(h: -(2 ^ 62)<=j/\j<2 ^ 62)(w:Wp (aB8 g b (λ_=>true) (K6 0 j.toNat) σ) G1 P):Wp (aF5 (aB6 fs) g b σ) G P:=aJ9.mpr (rng1.mpr (c7 e ((rng1_int h).mpr w)))
theorem bR0(hc:Can ns)(hl:ns.length<=1000)(q:Q (.bl true) G):Wp (aA0 [.tup (rsD ns)]) G Q:=by
 refine K7 (show Wp (aA7 [some (.tup (rsD ns)),none,none,none]) G _ from ?_)
 rw[fA9]
 refine d9.mpr<| bO6 rfl<| j7.mpr<| d9.mpr<| eG4 rfl (by rw[aV4];exact⟨by lia,by lia⟩) ?_
 have er:K6 0 ((rsD ns).length:Int).toNat= (yw 0 ns.length).map fun(i:Nat)=>D.int (0+(i:Int)):=by
  unfold K6
  rw[Zf,aV4]
  rfl
 rw[er]
 refine(cK0 hc ns.length 0 none none none (by lia)).mono ?_
 rintro _ _ ⟨⟨x,u,v,rfl⟩,rfl⟩
 exact K1<| bH7.mpr<| J8 q
theorem fO2:aE2=j5 (ifS (orT (V0 (u6 (q15 K8 (q13 (b7 0) (q13 (cE (.ty "tuple")) q14))))) (orT (f9 (b8 neD (q15 aB0 (q13 (b7 0) q14)) (cE (.int 2)))) (V0 (u6 (q15 K8 (q13 (b8 ixD (b7 0) (cE (.int 0))) (q13 (cE (.ty "str")) q14))))))) (m8 (cE (.bl false))) j9) (j5 (ifS (orT (f9 (b8 aP3 (b8 ixD (b7 0) (cE (.int 0))) (J7 (q13 (cE (.str ("of" :Str))) (q13 (cE (.str ("but" :Str))) q14))))) (V0 (u6 (q15 K8 (q13 (b8 ixD (b7 0) (cE (.int 1))) (q13 (cE (.ty "tuple")) q14)))))) (m8 (cE (.bl false))) j9) T1):=rfl
theorem cW9:∀(ss:List Str) u G,(∀z∈ss,Tx z)->Wp (aB8 (q16 1) TW (λ_=>true) (ss.map D.str) [some d,u,w]) G λfl G'=>(∃u,fl= .nx [some d,u,w])/\Ap G G'
 |[],u,G,_=>V3.mpr ⟨rfl,⟨_,rfl⟩,Ap.refl⟩
 |z::r,u,G,h=>aA1.mpr ⟨rfl,O9.mpr<| fG6<| aG7<| j8 rfl rfl<| cN5 (h z (zq ..)) λG1 a1=>⟨rfl,rfl,j7.mpr<| (cW9 r _ G1 λy hy=>h y (zk _ hy)).mono λfl G2 ⟨e,a2⟩=>⟨e,a1.trans a2⟩⟩⟩
theorem fH1(h:txB a b=true):dH8 a.length a b.length b=false:=by
 unfold txB at h
 unfold dH8
 by_cases e:a.length=b.length
 · rw[if_pos e]at h
   rw[if_pos (by rw[e])]
   by_cases f:a=b
   · subst f
     exact absurd (of_decide_eq_true h) (Yr _)
   ·rw[if_neg f,h];rfl
 · rw[if_neg e]at h
   have h:=of_decide_eq_true h
   rw[if_neg (by lia)]
   exact decide_eq_false (by lia)
theorem fM1(h:txB x y=true)(hx:ss[k]? =some x)(hy:ss[k+1]? =some y)(tx:∀z∈ss,Tx z):TK [some (aK3 b ss),u,some (.int ((k+1:Nat):Int))] G=some (.ok (.nx [some (aK3 b ss),u,some (.int ((k+1:Nat):Int))]),G):=by
 have bg:1000<=zl:=by decide
 have lx:=(tx x (jW hx)).2
 have ly:=(tx y (jW hy)).2
 have mx:(ss.map D.str)[k]? =some (.str x):=by rw[zG,hx];rfl
 have my:(ss.map D.str)[k+1]? =some (.str y):=by rw[zG,hy];rfl
 refine O7<| Q4<| m9<| t6<| M7<| m7<| t6<| c7 rfl<| t8 rfl rfl<| aW3.mpr ?_
 rw[show ((k+1:Nat):Int)-1= (k:Int) by lia]
 refine ix_tup.mpr ⟨_,atI_nat mx,m5.mpr<| Q8.mpr ⟨rfl,(bZ9 (by lia)).mpr ?_⟩⟩
 refine M7<| m7<| t8 rfl rfl<| ix_tup.mpr ⟨_,atI_nat my,m5.mpr<| Q8.mpr ⟨rfl,(bZ9 (by lia)).mpr ?_⟩⟩
 exact c7 rfl ⟨_,rfl,λz=>(by rw[fH1 h]at z;exact O5 z),λ_=>j7.mpr ⟨rfl,rfl⟩⟩
theorem cT8(hr:Ris ss)(tx:∀z∈ss,Tx z):∀m j x,j+1+m=ss.length->Wp (aB8 (q16 2) TK (λ_=>true) ((yw j m).map fun(i:Nat)=>D.int (1+(i:Int))) [some (aK3 b ss),u,x]) G λfl G'=>(∃x,fl= .nx [some (aK3 b ss),u,x])/\G'=G
 |0,j,x,_=>V3.mpr ⟨rfl,⟨_,rfl⟩,rfl⟩
 |m+1,j,x,hj=>by
   have hx:ss[j]? =some ss[j]:=zf (by lia)
   have hy:ss[j+1]? =some ss[j+1]:=zf (by lia)
   have h:=xB.mp hr j (j+1) (by lia) (by lia) (by lia)
   rw[xW,zB]
   refine aA1.mpr ⟨rfl,O9.mpr ?_⟩
   rw[show (1+(j:Int))= ((j+1:Nat):Int) by lia]
   exact c7 (fM1 h hx hy tx) (cT8 hr tx m (j+1) _ (by lia))
theorem bM7(e:fs σ G=some (.ok [.int i,.int j],G1))(h: -(2 ^ 62)<=i/\i<2 ^ 62/\ -(2 ^ 62)<=j/\j<2 ^ 62)(w:Wp (aB8 g b (λ_=>true) (K6 i (j-i).toNat) σ) G1 P):Wp (aF5 (aR2 fs) g b σ) G P:=by
 refine aJ9.mpr ?_
 unfold aR2
 refine j6.mpr (c7 e ?_)
 show Wp (if -(2 ^ 62)<=i/\i<2 ^ 62/\ -(2 ^ 62)<=j/\j<2 ^ 62 then pure ⟨K6 i (j-i).toNat,λ_=>true⟩else M.stuck:M Src) G1 _
 rw[if_pos h]
 exact wp_pure.mpr w
theorem cG9{ss:List Str}(hr:Ris ss)(tx:∀z∈ss,Tx z)(hl:ss.length<=1000)(q:∀G',Ap G G'->Q (.bl true) G'):Wp (aD6 [aK3 b ss]) G Q:=by
 refine K7 (show Wp (aE2 [some (aK3 b ss),none,none]) G _ from ?_)
 rw[fO2]
 refine d9.mpr<| bO6 rfl<| j7.mpr<| d9.mpr<| bO6 (by cases b<;>rfl)<| j7.mpr<| d9.mpr<| aJ9.mpr<| wp_itW.mpr<| c7 rfl<| srcW_tup.mpr<| (cW9 ss none G tx).mono ?_
 rintro _ G1 ⟨⟨u,rfl⟩,a1⟩
 refine d9.mpr<| bM7 rfl (by rw[ze];exact⟨by decide,by decide,by lia,by lia⟩) ?_
 have er:K6 1 (((ss.map D.str).length:Int)-1).toNat= (yw 0 (ss.length-1)).map fun(i:Nat)=>D.int (1+(i:Int)):=by
  unfold K6
  rw[Zf,ze,show ((ss.length:Int)-1).toNat=ss.length-1 by lia]
 rw[er]
 have fin:∀x,Wp (m8 (cE (.bl true)) [some (aK3 b ss),u,x]) G1 (DL.PB Q):=λx=>K1<| bH7.mpr<| J8 (q _ a1)
 rcases xL ss.length with z|z
 ·rw[z];exact V3.mpr ⟨rfl,fin _⟩
 · refine(cT8 hr tx (ss.length-1) 0 none (by lia)).mono ?_
   rintro _ _ ⟨⟨x,rfl⟩,rfl⟩
   exact fin x
theorem bW6{bs:List Bool}{G:DH}(hb:bs∈B4)(q:∀G',Ap G G'->Q (.bl true) G'):Wp (aC5 [.tup (bs.map D.bl)]) G Q:=by
 refine K7 (show Wp (aC6 [some (.tup (bs.map D.bl))]) G _ from ?_)
 unfold aC6
 have hc:N6 (q16 0) aC8 (q15 K8 (q13 (b7 0) (q13 (cE (.ty "bool")) q14))) (λ_=>true) (bs.map D.bl) [none] G=some (.ok (bs.map λ_=>.bl true),G):=by
  simp only[B4,zu,ju,or_false]at hb
  rcases hb with rfl|rfl|rfl|rfl<;>rfl
 have hl:(bs.map D.bl).length<=10000:=by
  rw[ze]
  have:=(show ∀a∈B4,a.length<=2 by decide) _ hb
  lia
 refine d9.mpr<| Q4<| aD1<| c7 rfl ⟨λz=>O5 z,λ_=>aA2.mpr<| aG7<| M7<| m7<| aJ0 rfl hl<| c7 hc<| m5.mpr<| (dS1 m6).mpr ⟨by rw[yz.mpr λ_ _=>rfl],λz=>O5 z,λ_=>j7.mpr ?_⟩⟩
 refine K1<| c7 (G':=G++[.lst (bs.map λ_=>.bl true)]) ?_ (J8 (q _ Ap.one))
 simp only[B4,zu,ju,or_false]at hb
 rcases hb with rfl|rfl|rfl|rfl<;>rfl
theorem dI2:Z3 (n+1) [.str aZ4] G=some (.ok (.bl true),G):=rfl
def SAt(n:Nat)(R:List D->M D):Prop:=∀(c:CS n) (G:DH),Gd n c->SzC n 47 c->Wp (R [enC n c]) G λx G'=>x= .bl true/\Ap G G'
section
theorem cS0(h8:n<=8)(ih:SAt n R):∀(l:List (CS n)) u G,(∀a∈l,(Gd n a/\∃v,inC n a v)/\SzC n 47 a)->Wp (aB8 (q16 1) (LB R) (λ_=>true) (l.map (enC n)) [some A,u]) G λfl G'=>Ap G G'/\∃u',fl= .nx [some A,u']
 |[],u,G,_=>V3.mpr ⟨rfl,Ap.refl,u,rfl⟩
 |c::l,u,G,h=>by
   obtain⟨⟨g,v,hv⟩,s⟩:=h c (zq ..)
   rw[zB]
   refine aA1.mpr ⟨rfl,O9.mpr ?_⟩
   refine Q4<| aD1<| aA2.mpr<| aG7<| j8 rfl rfl<| (ih c G g s).mono ?_
   rintro _ G1 ⟨rfl,a1⟩
   refine⟨rfl,λz=>O5 z,λ_=>m9<| t8 rfl rfl<| aV7 (aB5 h8 G1 c g) (λz=>absurd hv (z v)) λ_=>⟨false,rfl,λz=>O5 z,λ_=>j7.mpr ?_⟩⟩
   refine(cS0 h8 ih l _ G1 λa ha=>h a (zk _ ha)).mono ?_
   rintro _ G2 ⟨a2,u',rfl⟩
   exact⟨a1.trans a2,u',rfl⟩
theorem cI2{a:Option (List (CS n)×CS n)}(h8:n<=8)(ih:SAt n R)(g:aK4 (inC n) (Gd n) a)(s:lsZ n 47 a):Wp (Z2 R [lsD (enC n) a]) G λx G'=>x= .bl true/\Ap G G':=by
 refine K7 (show Wp (aD7 R [some (lsD (enC n) a),none]) G _ from ?_)
 have is_:aD7 R=j5 (ifS (f9 (b8 aV3 (b7 0) (cE .non))) (m8 (cE (.bl true))) j9) (j5 (ifS (orT (V0 (u6 (q15 K8 (q13 (b7 0) (q13 (cE (.ty "tuple")) q14))))) (orT (f9 (b8 neD (q15 aB0 (q13 (b7 0) q14)) (cE (.int 2)))) (V0 (u6 (q15 K8 (q13 (b8 ixD (b7 0) (cE (.int 0))) (q13 (cE (.ty "tuple")) q14))))))) (m8 (cE (.bl false))) j9) (j5 (aF5 (itW (b8 ixD (b7 0) (cE (.int 0)))) (q16 1) (LB R)) (m8 (q15 (fnX 1 R) (q13 (b8 ixD (b7 0) (cE (.int 1))) q14))))):=rfl
 rw[is_]
 rcases a with _|⟨fs,m⟩
 ·exact d9.mpr<| cQ5 rfl<| K1<| c7 rfl<| J8 ⟨rfl,Ap.refl⟩
 obtain⟨gm,gf⟩:=g fs m rfl
 obtain⟨lf,sm,sf⟩:=s fs m rfl
 refine d9.mpr<| bO6 rfl<| j7.mpr<| d9.mpr<| bO6 rfl<| j7.mpr ?_
 refine d9.mpr<| aJ9.mpr<| wp_itW.mpr<| t8 rfl rfl<| ix_tup.mpr ⟨.tup (fs.map (enC n)),rfl,srcW_tup.mpr ?_⟩
 refine(cS0 h8 ih fs none G λa ha=>⟨gf a ha,sf a ha⟩).mono ?_
 rintro _ G1 ⟨a1,u,rfl⟩
 refine K1<| j8 rfl rfl<| (ih m G1 gm sm).mono ?_
 rintro _ G2 ⟨rfl,a2⟩
 exact J8 ⟨rfl,a1.trans a2⟩
theorem cD7(h8:n<=8)(ih:SAt n R)(g:Gd n e.2.2/\(e.2.1=true->∃v,inC n e.2.2 v)/\(e.2.1=false->e.2.2≠m))(s:SzC n 47 e.2.2/\Tx e.1/\0<e.1.length):Wp (X8 R [fdE (enC n) e,enC n m]) G λx G'=>x= .bl true/\Ap G G':=by
 refine K7 (show Wp (aD5 R [some (fdE (enC n) e),some (enC n m)]) G _ from ?_)
 unfold aD5
 refine d9.mpr<| Q4<| aD1<| c7 rfl ⟨λz=>O5 z,λ_=>aD1<| c7 rfl ⟨λz=>O5 z,λ_=>aA2.mpr<| aG7<| j8 rfl rfl<| bU2 s.2.1 (by have:=s.2.2;lia) λG1 a1=>⟨rfl,λz=>O5 z,λ_=>j7.mpr ?_⟩⟩⟩
 refine d9.mpr<| Q4<| aD1<| c7 rfl ⟨λz=>O5 z,λ_=>aA2.mpr<| aG7<| j8 rfl rfl<| (ih e.2.2 G1 g.1 s.1).mono ?_⟩
 rintro _ G2 ⟨rfl,a2⟩
 refine⟨rfl,λz=>O5 z,λ_=>j7.mpr ?_⟩
 have ap:=a1.trans (a2.trans (Ap.one (o:=.lst [enC n m,aF6])))
 rcases hb:e.2.1 with _|_
 · refine K1<| t6<| c7 rfl<| t6<| aE7.mpr<| c7 rfl ⟨sz,c7 (a:=.int 0) (G':=G2++[.lst [enC n m,aF6]]) ?_<| (Z6 m6).mpr ⟨enC n m,rfl,?_⟩⟩
   ·exact O7<| aJ6 (by show some (Except.ok [D.bl e.2.1],_)=_;rw[hb])<| c7 rfl ⟨rfl,rfl⟩
   · obtain⟨q,eq,hq⟩:=aR6 h8 (G2++[.lst [enC n m,aF6]]) e.2.2 m
     refine aO5.mpr ⟨q,eq,J8 ⟨?_,ap⟩⟩
     rcases q with _|_
     ·rfl
     ·exact absurd (hq.mp rfl) (g.2.2 hb)
 · refine K1<| t6<| c7 rfl<| t6<| aE7.mpr<| c7 rfl ⟨sz,c7 (a:=.int 1) (G':=G2++[.lst [enC n m,aF6]]) ?_<| (Z6 m6).mpr ⟨aF6,rfl,?_⟩⟩
   ·exact O7<| aJ6 (by show some (Except.ok [D.bl e.2.1],_)=_;rw[hb])<| c7 rfl ⟨rfl,rfl⟩
   · obtain⟨q,eq,hq⟩:=aB5 h8 (G2++[.lst [enC n m,aF6]]) e.2.2 g.1
     refine aO5.mpr ⟨q,eq,J8 ⟨?_,ap⟩⟩
     rcases q with _|_
     ·rfl
     · obtain⟨v,hv⟩:=g.2.1 hb
       exact absurd hv (hq.mp rfl v)
end
section
variable{n:Nat}{G:DH}{R:List D->M D}{fs:List (Str×Bool×CS n)}{m:CS n}
theorem cH7(h8:n<=8)(ih:SAt n R):∀(l:List (Str×Bool×CS n)) u G,(∀e∈l,(Gd n e.2.2/\(e.2.1=true->∃v,inC n e.2.2 v)/\(e.2.1=false->e.2.2≠m))/\SzC n 47 e.2.2/\Tx e.1/\0<e.1.length)->Wp (aB8 (q16 1) (FB1 R) (λ_=>true) (l.map (fdE (enC n))) [some (rcD (enC n) (some (fs,m))),u,none]) G λfl G'=>Ap G G'/\∃u',fl= .nx [some (rcD (enC n) (some (fs,m))),u',none]
 |[],u,G,_=>V3.mpr ⟨rfl,Ap.refl,u,rfl⟩
 |e::l,u,G,h=>by
   obtain⟨g,s⟩:=h e (zq ..)
   rw[zB]
   refine aA1.mpr ⟨rfl,O9.mpr ?_⟩
   refine Q4<| aA2.mpr<| aG7<| j8 rfl rfl<| (cD7 h8 ih g s).mono ?_
   rintro _ G1 ⟨rfl,a1⟩
   refine⟨rfl,λz=>O5 z,λ_=>j7.mpr ?_⟩
   refine(cH7 h8 ih l _ G1 λa ha=>h a (zk _ ha)).mono ?_
   rintro _ G2 ⟨a2,u',rfl⟩
   exact⟨a1.trans a2,u',rfl⟩
theorem eR8(h:nlt x.1 y.1)(hx:fs[k]? =some x)(hy:fs[k+1]? =some y):FB2 [some (rcD (enC n) (some (fs,m))),u,some (.int ((k+1:Nat):Int))] G=some (.ok (.nx [some (rcD (enC n) (some (fs,m))),u,some (.int ((k+1:Nat):Int))]),G):=by
 have mx:(fs.map (fdE (enC n)))[k]? =some (fdE (enC n) x):=by rw[zG,hx];rfl
 have my:(fs.map (fdE (enC n)))[k+1]? =some (fdE (enC n) y):=by rw[zG,hy];rfl
 refine O7<| Q4<| m9<| t6<| t6<| t6<| c7 rfl<| t8 rfl rfl<| aW3.mpr ?_
 rw[show ((k+1:Nat):Int)-1= (k:Int) by lia]
 refine ix_tup.mpr ⟨_,atI_nat mx,c7 rfl<| c7 rfl ?_⟩
 refine t6<| t8 rfl rfl<| ix_tup.mpr ⟨_,atI_nat my,c7 rfl<| c7 rfl<| eE2.mpr ⟨_,rfl,λz=>?_,λ_=>j7.mpr ⟨rfl,rfl⟩⟩⟩
 rw[decide_eq_true h]at z
 exact O5 z
theorem cC9(hr:Nms fs):∀q j x,j+1+q=fs.length->Wp (aB8 (q16 2) FB2 (λ_=>true) ((yw j q).map fun(i:Nat)=>D.int (1+(i:Int))) [some (rcD (enC n) (some (fs,m))),u,x]) G λfl G'=>(∃x,fl= .nx [some (rcD (enC n) (some (fs,m))),u,x])/\G'=G
 |0,j,x,_=>V3.mpr ⟨rfl,⟨_,rfl⟩,rfl⟩
 |q+1,j,x,hj=>by
   have hx:fs[j]? =some fs[j]:=zf (by lia)
   have hy:fs[j+1]? =some fs[j+1]:=zf (by lia)
   have h:=xB.mp hr j (j+1) (by lia) (by lia) (by lia)
   rw[xW,zB]
   refine aA1.mpr ⟨rfl,O9.mpr ?_⟩
   rw[show (1+(j:Int))= ((j+1:Nat):Int) by lia]
   exact c7 (eR8 h hx hy) (cC9 hr q (j+1) _ (by lia))
theorem bP5{a:Option (List (Str×Bool×CS n)×CS n)}(h8:n<=8)(ih:SAt n R)(g:aE9 (inC n) (Gd n) a)(s:rsZ n 47 a):Wp (U6 R [rcD (enC n) a]) G λx G'=>x= .bl true/\Ap G G':=by
 refine K7 (show Wp (aA5 R [some (rcD (enC n) a),none,none]) G _ from ?_)
 have is_:aA5 R=j5 (ifS (f9 (b8 aV3 (b7 0) (cE .non))) (m8 (cE (.bl true))) j9) (j5 (ifS (orT (V0 (u6 (q15 K8 (q13 (b7 0) (q13 (cE (.ty "tuple")) q14))))) (orT (f9 (b8 neD (q15 aB0 (q13 (b7 0) q14)) (cE (.int 2)))) (orT (V0 (u6 (q15 K8 (q13 (b8 ixD (b7 0) (cE (.int 0))) (q13 (cE (.ty "tuple")) q14))))) (V0 (u6 (q15 (fnX 1 R) (q13 (b8 ixD (b7 0) (cE (.int 1))) q14))))))) (m8 (cE (.bl false))) j9) (j5 (aF5 (itW (b8 ixD (b7 0) (cE (.int 0)))) (q16 1) (FB1 R)) (j5 (aF5 (aR2 (q13 (cE (.int 1)) (q13 (q15 aB0 (q13 (b8 ixD (b7 0) (cE (.int 0))) q14)) q14))) (q16 2) FB2) (m8 (cE (.bl true)))))):=rfl
 rw[is_]
 rcases a with _|⟨fs,m⟩
 ·exact d9.mpr<| cQ5 rfl<| K1<| c7 rfl<| J8 ⟨rfl,Ap.refl⟩
 obtain⟨gm,gn,gf⟩:=g fs m rfl
 obtain⟨lf,sm,sf⟩:=s fs m rfl
 refine d9.mpr<| bO6 rfl<| j7.mpr<| d9.mpr<| Q4<| aD1<| c7 rfl ⟨λz=>O5 z,λ_=>aD1<| c7 rfl ⟨λz=>O5 z,λ_=>aD1<| c7 rfl ⟨λz=>O5 z,λ_=>aA2.mpr<| aG7<| j8 rfl rfl<| (ih m G gm sm).mono ?_⟩⟩⟩
 rintro _ G1 ⟨rfl,a1⟩
 refine⟨rfl,λz=>O5 z,λ_=>j7.mpr ?_⟩
 refine d9.mpr<| aJ9.mpr<| wp_itW.mpr<| t8 rfl rfl<| ix_tup.mpr ⟨.tup (fs.map (fdE (enC n))),rfl,srcW_tup.mpr ?_⟩
 refine(cH7 h8 ih fs none G1 λe he=>⟨gf e he,sf e he⟩).mono ?_
 rintro _ G2 ⟨a2,u,rfl⟩
 refine d9.mpr<| bM7 rfl (by rw[ze];exact⟨by decide,by decide,by lia,by lia⟩) ?_
 have er:K6 1 (((fs.map (fdE (enC n))).length:Int)-1).toNat= (yw 0 (fs.length-1)).map fun(i:Nat)=>D.int (1+(i:Int)):=by
  unfold K6
  rw[Zf,ze,show ((fs.length:Int)-1).toNat=fs.length-1 by lia]
 rw[er]
 have fin:∀x,Wp (m8 (cE (.bl true)) [some (rcD (enC n) (some (fs,m))),u,x]) G2 (DL.PB λx G'=>x= .bl true/\Ap G G'):=λx=>K1<| bH7.mpr<| J8 ⟨rfl,a1.trans a2⟩
 rcases xL fs.length with z|z
 ·rw[z];exact V3.mpr ⟨rfl,fin _⟩
 · refine(cC9 gn (fs.length-1) 0 none (by lia)).mono ?_
   rintro _ _ ⟨⟨x,rfl⟩,rfl⟩
   exact fin x
end
theorem bU6:∀n N,n<=8->n<N->SAt n (Z3 N)
 |0,N+1,_,_=>λc G _ _=>c7 dI2 ⟨rfl,Ap.refl⟩
 |n+1,N+1,h8,h=>λc G g s=>by
   have ih:=bU6 n N (by lia) (by lia)
   rcases c with _|w
   ·exact c7 dI2 ⟨rfl,Ap.refl⟩
   have s:=s w rfl
   have l1:=s.ns
   have l2:=s.ss
   refine K7 (show Wp (aD3 (Z3 N) [some (.tup (fiv (enC n) w))]) G _ from ?_)
   unfold aD3
   refine d9.mpr<| bO6 rfl<| j7.mpr<| d9.mpr<| Q4<| aD1<| c7 rfl ⟨λz=>O5 z,λ_=>aD1<| c7 rfl ⟨λz=>O5 z,λ_=>m9<| t8 rfl rfl<| aV7 (bI9 (by lia) G g.1) (λz=>absurd z g.2) λ_=>⟨false,rfl,λz=>O5 z,λ_=>j7.mpr ?_⟩⟩⟩
   refine d9.mpr<| Q4<| aD1<| aA2.mpr<| aG7<| j8 rfl rfl<| bR0 g.1.ns (by lia) ⟨rfl,λz=>O5 z,λ_=>aD1<| aA2.mpr<| aG7<| j8 rfl rfl<| cG9 g.1.ss s.tx (by lia) λG1 a1=>⟨rfl,λz=>O5 z,λ_=>aA2.mpr<| aG7<| j8 rfl rfl<| bW6 g.1.bs λG2 a2=>⟨rfl,λz=>O5 z,λ_=>j7.mpr ?_⟩⟩⟩
   refine K1<| eP0<| j8 rfl rfl<| (cI2 (by lia) ih g.1.ls s.ls).mono ?_
   rintro _ G3 ⟨rfl,a3⟩
   refine⟨rfl,j8 rfl rfl<| (bP5 (by lia) ih g.1.rs s.rs).mono ?_⟩
   rintro _ G4 ⟨rfl,a4⟩
   exact J8 ⟨rfl,a1.trans (a2.trans (a3.trans a4))⟩
abbrev Me(s t m:CS 4):Prop:=IsM (inC 4) (Gd 4) s t m
theorem eP8(g:Gd 4 s)(h:Me s s m):m=s:=aS4 4 _ _ h.g g λv=>(h.i v).trans ⟨λk=>k.1,λk=>⟨k,k⟩⟩
theorem fI7(g:Gd 4 s)(h:Me s (aR8 4) m):m=s:=aS4 4 _ _ h.g g λv=>(h.i v).trans ⟨λk=>k.1,λk=>⟨k,bF6 4 v⟩⟩
theorem fF7(g:Gd 4 s)(h:Me (aR8 4) s m):m=s:=aS4 4 _ _ h.g g λv=>(h.i v).trans ⟨λk=>k.2,λk=>⟨bF6 4 v,k⟩⟩
theorem fD5(h:Me s (cB3 3) m):m=cB3 3:=aS4 4 _ _ h.g (aX9 3).1 λv=>(h.i v).trans ⟨λk=>k.2,λk=>absurd k (bM3 v)⟩
theorem fI3(h:Me (cB3 3) s m):m=cB3 3:=aS4 4 _ _ h.g (aX9 3).1 λv=>(h.i v).trans ⟨λk=>k.1,λk=>absurd k (bM3 v)⟩
theorem aN5(hj:j<=29)(hk:k<=29)(hjk:j+k<=47)(gs:Gd 4 s)(gt:Gd 4 t)(ss:SzC 4 j s)(st:SzC 4 k t):Wp (W4 [enC 4 s,enC 4 t]) G λx G'=>Ap G G'/\∃m,x=enC 4 m/\Me s t m/\SzC 4 (j+k) m:=cS2 4 60 j k (by decide) (by decide) hj hk hjk s t G gs gt ss st
theorem aO8(q:Q (.bl false) G):Wp (neD (enC 4 s) (enC 4 s)) G Q:=by
 obtain⟨b,e,h⟩:=aR6 (by decide) G s s
 refine aO5.mpr ⟨b,e,?_⟩
 rw[h.mpr rfl]
 exact q
theorem fL2(h:NC 4 c):Wp (OB [a0,a1,a2,a3,a4,some (enC 4 c)]) G λfl G'=>fl= .nx [a0,a1,a2,a3,a4,some (enC 4 c)]/\Ap G G':=by
 have an:NC 4 (aR8 4):=(bW7 4).nc
 have nn:NC 4 (cB3 3):=(aX9 3).nc
 refine d9.mpr<| Q4<| aD1<| m9<| t6<| j8 rfl rfl<| (aN5 (by decide) (by decide) (by decide) h.1 h.1 h.2 h.2).mono ?_
 rintro _ G1 ⟨p1,m,rfl,hm,_⟩
 rw[eP8 h.1 hm]
 refine c7 rfl<| aO8 ⟨false,rfl,λz=>O5 z,λ_=>?_⟩
 refine aD1<| m9<| t6<| j8 rfl rfl<| (aN5 (by decide) (by decide) (by decide) h.1 an.1 h.2 an.2).mono ?_
 rintro _ G2 ⟨p2,m,rfl,hm,_⟩
 rw[fI7 h.1 hm]
 refine c7 rfl<| aO8 ⟨false,rfl,λz=>O5 z,λ_=>?_⟩
 refine m9<| t6<| j8 rfl rfl<| (aN5 (by decide) (by decide) (by decide) an.1 h.1 an.2 h.2).mono ?_
 rintro _ G3 ⟨p3,m,rfl,hm,_⟩
 rw[fF7 h.1 hm]
 refine c7 rfl<| aO8 ⟨false,rfl,λz=>O5 z,λ_=>j7.mpr ?_⟩
 refine Q4<| aD1<| m9<| t6<| j8 rfl rfl<| (aN5 (by decide) (by decide) (by decide) h.1 nn.1 h.2 nn.2).mono ?_
 rintro _ G4 ⟨p4,m,rfl,hm,_⟩
 rw[fD5 hm]
 refine c7 rfl<| aO8 ⟨false,rfl,λz=>O5 z,λ_=>?_⟩
 refine m9<| t6<| j8 rfl rfl<| (aN5 (by decide) (by decide) (by decide) nn.1 h.1 nn.2 h.2).mono ?_
 rintro _ G5 ⟨p5,m,rfl,hm,_⟩
 rw[fI3 hm]
 exact c7 rfl<| aO8 ⟨false,rfl,λz=>O5 z,λ_=>j7.mpr ⟨rfl,p1.trans (p2.trans (p3.trans (p4.trans p5)))⟩⟩
theorem Gr.fd(h:Gr G G1)(f:Fd r G1 G2)(hr:G.length<=r):Gr G G2:=⟨zC h.1 f.1,λi hi=>by rw[f.2.1 i (by lia) (by have:=h.1;lia),h.2 i hi]⟩
structure cF1(ns:List Int)(q:Nat)(cs:List (CS 4))(G:DH):Prop where
 e0:G[0]? =some (.rol (ns.map D.int))
 hq:q≠0
 e:G[q]? =some (.lst (cs.map (enC 4)))
 l:cs.length=4
 nc:∀c∈cs,NC 4 c
 dc:∃c0,cs[0]? =some c0/\DC 4 c0
theorem cF1.gr(h:cF1 ns q cs G)(g:Gr G G'):cF1 ns q cs G':=⟨g.at h.e0,h.hq,g.at h.e,h.l,h.nc,h.dc⟩
theorem fD6(e0:G[0]? =some (.rol (ns.map D.int)))(hn:ns.length<=63):Wp (L4 [some (.ref 0),a1,a2,a3,a4,a5]) G λx G'=>∃q cs,x= .ref q/\cF1 ns q cs G':=by
 have l0:0<G.length:=by
  rcases G with _|_
  ·exact nomatch e0
  ·exact Nat.succ_pos _
 refine cC4 rfl (by decide) (by decide)<| (bN0 (Gr G) (λσ=>∃u,σ= [u,some (.ref 0)]) (λ_ y=>∃c,y=enC 4 c/\DC 4 c) (λ_ _=>rfl) _ _ G ⟨_,rfl⟩ Gr.refl ?_).mono ?_
 · rintro d hd _ G3 ⟨v,rfl⟩ jj
   obtain⟨k,_,rfl⟩:=zY.mp hd
   rw[JO]
   refine O9.mpr ⟨rfl,⟨_,rfl⟩,M7<| m7<| j8 rfl rfl<| (bK6 (by decide) (jj.at e0) hn).mono ?_⟩
   rintro _ G4 ⟨r,rfl,d4,g4,l4⟩
   refine c7 rfl<| Q8.mpr ⟨rfl,(dS6 3 60 (by decide) (by decide) G4 r d4).mono ?_⟩
   rintro _ G5 ⟨f5,c,rfl,hc⟩
   exact⟨jj.trans (Gr.fd g4 f5 l4),c,rfl,hc⟩
 · rintro _ G3 ⟨g3,zs,e1,rfl,hz⟩
   have hl:zs.length=4:=by
    have:=congrArg xM e1
    rw[ze]at this
    exact this
   obtain⟨cs,e2,l2,p2⟩:=dE0 (β:=CS 4) (P:=λ_ c=>DC 4 c) zs hz
   rw[hl]at l2
   have all:∀(i:Nat) c,cs[i]? =some c->DC 4 c:=λi c hc=>by
    have hi:i<(zs.map (·.1)).length:=by
     have:=(jd.mp hc).1
     rw[ze,hl];lia
    exact p2 i c _ hc (zf hi)
   refine⟨_,cs,rfl,(g3.trans Gr.app).at e0,?_,by rw[e2];exact m6,l2,λc hc=>?_,?_⟩
   ·have:=g3.1;lia
   · obtain⟨i,hi⟩:=List.mem_iff_getElem?.mp hc
     exact(all i c hi).nc
   · rcases cs with _|⟨c,cs⟩
     ·exact nomatch l2
     ·exact⟨c,rfl,all 0 c rfl⟩
theorem eP6{q k:Nat}{G:DH}(hn:ns.length<=63)(h:cF1 ns q cs G)(hk:0<k)(h4:k<4):Wp (NRB [some (.ref 0),some (.ref q),some (.int i),some (.int (k:Int)),a4,a5]) G λfl G'=>fl= .nx [some (.ref 0),some (.ref q),some (.int i),some (.int (k:Int)),a4,a5]/\∃cs,cF1 ns q cs G':=by
 have tt:Wp ((aH6 (f9 (b8 eqD (b8 K5 (b7 2) (cE (.int 2))) (cE (.int 0)))) (orT (f9 (b8 ltD (b7 3) (cE (.int 3)))) (f9 (b8 eqD (b8 K5 (b8 O6 (b7 2) (cE (.int 2))) (cE (.int 2))) (cE (.int 0)))))) [some (.ref 0),some (.ref q),some (.int i),some (.int (k:Int)),a4,a5]) G λ_ G'=>G'=G:=by
  refine aH7<| m9<| t6<| t8 rfl rfl<| (u5 (by decide)).mpr<| c7 rfl<| R6.mpr ⟨_,rfl,λ_=>?_,λ_=>rfl⟩
  refine aD1<| m9<| t8 rfl rfl<| aU9.mpr ⟨_,rfl,λ_=>rfl,λ_=>?_⟩
  exact m9<| t6<| t6<| t8 rfl rfl<| (S5 ⟨by decide,by decide⟩).mpr<| c7 rfl<| (u5 (by decide)).mpr<| c7 rfl<| R6.mpr ⟨_,rfl,rfl⟩
 refine Q4<| tt.mono λb G1 e=>?_
 subst e
 refine⟨λ_=>?_,λ_=>j7.mpr ⟨rfl,cs,h⟩⟩
 obtain⟨c0,z0,d0⟩:=h.dc
 refine S7.mpr<| M7<| m7<| j8 rfl rfl<| (bK6 (by decide) h.e0 hn).mono ?_
 rintro _ G2 ⟨r,rfl,d2,g2,l2⟩
 have lq:q<G1.length:=(jd.mp h.e).1
 have l0:0<G1.length:=(jd.mp h.e0).1
 refine m7<| t8 rfl rfl<| (aY7 (g2.at h.e) (by rw[zG,z0];rfl)).mpr ?_
 refine c7 rfl<| Q8.mpr ⟨rfl,(bT5 4 60 (by decide) (by decide) G2 r c0 d2 d0).mono ?_⟩
 rintro _ G3 ⟨f3,c',rfl,hc'⟩
 have g3:Gr G1 G3:=Gr.fd g2 f3 l2
 have h3:=h.gr g3
 refine dU7 (j:=k) rfl rfl h3.e (by rw[ze,h.l];unfold ixN;rw[if_pos (by lia),if_pos (by lia)];rfl) ⟨rfl,cs.set k c',?_,h.hq,?_,by rw[xJ];exact h.l,λc hc=>?_,c0,?_,d0⟩
 ·rw[zS h.hq];exact h3.e0
 ·rw[zL (zV lq g3.1),List.map_set]
 · rcases List.mem_or_eq_of_mem_set hc with hc|rfl
   ·exact h.nc c hc
   ·exact hc'
 ·rw[zS (by lia)];exact z0
theorem cC7{q:Nat}{i:Int}(hn:ns.length<=63):∀(l:List Nat) u cs (G:DH),(∀k∈l,0<k/\k<4)->cF1 ns q cs G->Wp (aB8 (q16 3) NRB (λ_=>true) (l.map λk:Nat=>D.int (k:Int)) [some (.ref 0),some (.ref q),some (.int i),u,a4,a5]) G λfl G'=>(∃u,fl= .nx [some (.ref 0),some (.ref q),some (.int i),u,a4,a5])/\∃cs,cF1 ns q cs G'
 |[],u,cs,G,_,h=>V3.mpr ⟨rfl,⟨_,rfl⟩,cs,h⟩
 |k::r,u,cs,G,hk,h=>by
   have:=hk k (zq ..)
   refine aA1.mpr ⟨rfl,O9.mpr<| (eP6 hn h this.1 this.2).mono ?_⟩
   rintro _ G1 ⟨rfl,cs',h1⟩
   exact cC7 hn r _ cs' G1 (λy hy=>hk y (zk _ hy)) h1
theorem cT2:∀(l:List (CS 4)) u (G:DH),(∀c∈l,NC 4 c)->G[p]? =some (.lst l0)->Wp (aB8 (q16 5) OB (ckO p (.lst l0)) (l.map (enC 4)) [a0,a1,a2,a3,a4,u]) G λfl G'=>∃u,fl= .nx [a0,a1,a2,a3,a4,u]
 |[],u,G,_,e=>V3.mpr ⟨cQ8 e,_,rfl⟩
 |c::r,u,G,h,e=>by
   refine aA1.mpr ⟨cQ8 e,O9.mpr<| (fL2 (h c (zq ..))).mono ?_⟩
   rintro _ G1 ⟨rfl,p1⟩
   exact cT2 r _ G1 (λy hy=>h y (zk _ hy)) (p1.at e)
theorem eG8:∀cs:List α,cs.length=4->∃a b c d,cs= [a,b,c,d]
 |[a,b,c,d],_=>⟨a,b,c,d,rfl⟩
theorem xi{q k:Nat}{cs:List (CS 4)}(e:G[q]? =some (.lst (cs.map (enC 4))))(h:cs[k]? =some c):(b8 ixD (b7 1) (cE (.int (k:Int)))) [a0,some (.ref q),a2,a3,a4,a5] G=some (.ok (enC 4 c),G):=
 O7<| t8 rfl rfl<| (aY7 e (by rw[zG,h];rfl)).mpr ⟨rfl,rfl⟩
section
variable(h1:Me a b m1)(h2:Me m1 c m2)(h3:Me m2 d m3)
include h1 h2 h3
theorem eR5(v:NV):inC 4 m3 v↔inC 4 a v/\inC 4 b v/\inC 4 c v/\inC 4 d v:=by
 rw[h3.i,h2.i,h1.i]
 exact⟨fun⟨⟨⟨x,y⟩,z⟩,w⟩=>⟨x,y,z,w⟩,fun⟨x,y,z,w⟩=>⟨⟨⟨x,y⟩,z⟩,w⟩⟩
theorem eF2(k1:Me b a n1)(k2:Me c n1 n2)(k3:Me d n2 n3):n3=m3:=aS4 4 _ _ k3.g h3.g λv=>by
 rw[eR5 h1 h2 h3,k3.i,k2.i,k1.i]
 exact⟨fun⟨w,z,y,x⟩=>⟨x,y,z,w⟩,fun⟨x,y,z,w⟩=>⟨w,z,y,x⟩⟩
theorem eM1(k1:Me c a n1)(k2:Me d b n2)(k3:Me n1 n2 n3):n3=m3:=aS4 4 _ _ k3.g h3.g λv=>by
 rw[eR5 h1 h2 h3,k3.i,k2.i,k1.i]
 exact⟨fun⟨⟨z,x⟩,w,y⟩=>⟨x,y,z,w⟩,fun⟨x,y,z,w⟩=>⟨⟨z,x⟩,w,y⟩⟩
theorem fL0(hs:s∈ [a,b,c,d])(k1:Me m3 s n1):n1=m3:=aS4 4 _ _ k1.g h3.g λv=>by
 rw[k1.i]
 refine⟨λh=>h.1,λh=>⟨h,?_⟩⟩
 obtain⟨x,y,z,w⟩:=(eR5 h1 h2 h3 v).mp h
 simp only[zu,ju,or_false]at hs
 rcases hs with rfl|rfl|rfl|rfl
 ·exact x
 ·exact y
 ·exact z
 ·exact w
end
section
variable{a b c d:CS 4}(ha:NC 4 a)(hb:NC 4 b)(hc:NC 4 c)(hd:NC 4 d){q:Nat}{G:DH}(e:G[q]? =some (.lst ([a,b,c,d].map (enC 4)))){a0 a2 a3 a4 a5:Option D}
include ha hb hc hd e
theorem fK7:Wp (M3 [a0,some (.ref q),a2,a3,a4,a5]) G λx G'=>Ap G G'/\∃m1 m2 m3,x=enC 4 m3/\Me a b m1/\Me m1 c m2/\Me m2 d m3/\SzC 4 28 m3:=by
 refine M7<| m7<| M7<| m7<| M7<| O2 (xi e rfl)<| O2 (xi e rfl)<| m5.mpr<| Q8.mpr ⟨rfl,(aN5 (by decide) (by decide) (by decide) ha.1 hb.1 ha.2 hb.2).mono ?_⟩
 rintro _ G1 ⟨p1,m1,rfl,h1,s1⟩
 refine O2 (xi (p1.at e) rfl)<| m5.mpr<| Q8.mpr ⟨rfl,(aN5 (by decide) (by decide) (by decide) h1.g hc.1 s1 hc.2).mono ?_⟩
 rintro _ G2 ⟨p2,m2,rfl,h2,s2⟩
 refine O2 (xi ((p1.trans p2).at e) rfl)<| m5.mpr<| Q8.mpr ⟨rfl,(aN5 (by decide) (by decide) (by decide) h2.g hd.1 s2 hd.2).mono ?_⟩
 rintro _ G3 ⟨p3,m3,rfl,h3,s3⟩
 exact⟨p1.trans (p2.trans p3),m1,m2,m3,rfl,h1,h2,h3,s3⟩
theorem eN4:Wp (M3' [a0,some (.ref q),a2,a3,a4,a5]) G λx G'=>Ap G G'/\∃m1 m2 m3,x=enC 4 m3/\Me b a m1/\Me c m1 m2/\Me d m2 m3:=by
 refine M7<| O2 (xi e rfl)<| m7<| M7<| O2 (xi e rfl)<| m7<| M7<| O2 (xi e rfl)<| O2 (xi e rfl)<| m5.mpr<| Q8.mpr ⟨rfl,(aN5 (by decide) (by decide) (by decide) hb.1 ha.1 hb.2 ha.2).mono ?_⟩
 rintro _ G1 ⟨p1,m1,rfl,h1,s1⟩
 refine m5.mpr<| Q8.mpr ⟨rfl,(aN5 (by decide) (by decide) (by decide) hc.1 h1.g hc.2 s1).mono ?_⟩
 rintro _ G2 ⟨p2,m2,rfl,h2,s2⟩
 refine m5.mpr<| Q8.mpr ⟨rfl,(aN5 (by decide) (by decide) (by decide) hd.1 h2.g hd.2 s2).mono ?_⟩
 rintro _ G3 ⟨p3,m3,rfl,h3,s3⟩
 exact⟨p1.trans (p2.trans p3),m1,m2,m3,rfl,h1,h2,h3⟩
theorem eN3:Wp (M22 [a0,some (.ref q),a2,a3,a4,a5]) G λx G'=>Ap G G'/\∃m1 m2 m3,x=enC 4 m3/\Me c a m1/\Me d b m2/\Me m1 m2 m3:=by
 refine M7<| m7<| M7<| O2 (xi e rfl)<| O2 (xi e rfl)<| m5.mpr<| Q8.mpr ⟨rfl,(aN5 (by decide) (by decide) (by decide) hc.1 ha.1 hc.2 ha.2).mono ?_⟩
 rintro _ G1 ⟨p1,m1,rfl,h1,s1⟩
 refine m7<| M7<| O2 (xi (p1.at e) rfl)<| O2 (xi (p1.at e) rfl)<| m5.mpr<| Q8.mpr ⟨rfl,(aN5 (by decide) (by decide) (by decide) hd.1 hb.1 hd.2 hb.2).mono ?_⟩
 rintro _ G2 ⟨p2,m2,rfl,h2,s2⟩
 refine m5.mpr<| Q8.mpr ⟨rfl,(aN5 (by decide) (by decide) (by decide) h1.g h2.g s1 s2).mono ?_⟩
 rintro _ G3 ⟨p3,m3,rfl,h3,s3⟩
 exact⟨p1.trans (p2.trans p3),m1,m2,m3,rfl,h1,h2,h3⟩
theorem fH6(gm:Gd 4 m)(sm:SzC 4 28 m){i:Nat}:Wp (M1 [a0,some (.ref q),some (.int (i:Int)),a3,some (enC 4 m),a5]) G λx G'=>Ap G G'/\∃s m',s∈ [a,b,c,d]/\x=enC 4 m'/\Me m s m':=by
 have ei:(i:Int) / 4 % 4= ((i / 4 % 4:Nat):Int):=by lia
 have hi:i / 4 % 4 < [a,b,c,d].length:=ZZ _ (by decide)
 have hs: [a,b,c,d][i / 4 % 4]? =some ([a,b,c,d][i / 4 % 4]'hi):=zf hi
 have ms:=jY hi
 generalize [a,b,c,d][i / 4 % 4]'hi=s at *
 have hn:NC 4 s:=by
  simp only[zu,ju,or_false]at ms
  rcases ms with rfl|rfl|rfl|rfl<;>assumption
 refine M7<| O2 rfl<| m7<| t6<| c7 rfl<| t6<| t8 rfl rfl<| (S5 ⟨by decide,by decide⟩).mpr<| c7 rfl<| (u5 (by decide)).mpr ?_
 rw[ei]
 refine(aY7 e (by rw[zG,hs];rfl)).mpr<| m5.mpr<| Q8.mpr ⟨rfl,(aN5 (by decide) (by decide) (by decide) gm hn.1 sm hn.2).mono ?_⟩
 rintro _ G1 ⟨p1,m',rfl,h1,_⟩
 exact⟨p1,s,m',ms,rfl,h1⟩
end
theorem fP1:cV4=j5 (o9 L4 (q16 1)) (j5 (o9 (q15 (fnX 1 o4) (q13 (q15 (fnX 4 U4) (q13 (b7 0) (q13 (cE (.int 0)) (q13 (cE (.int 1)) (q13 (cE (.int 60)) q14))))) q14)) (q16 2)) (j5 (aF5 (aR2 (q13 (cE (.int 1)) (q13 (cE (.int 4)) q14))) (q16 3) NRB) (j5 (o9 M3 (q16 4)) (j5 (ifS (orT (V0 (u6 (q15 (fnX 1 U8) (q13 (b7 4) q14)))) (f9 (b8 neD M3' (b7 4)))) (m8 (cE (.bl false))) j9) (j5 (ifS (orT (f9 (b8 neD M22 (b7 4))) (f9 (b8 neD M1 (b7 4)))) (m8 (cE (.bl false))) j9) (j5 (aF5 (itW (b7 1)) (q16 5) OB) (m8 (cE (.bl true))))))))):=rfl
theorem dY4(ns:List Int)(hn:ns.length<=63):Wp (dJ8 [.ref 0]) [.rol (ns.map D.int)] λd _=>d= .bl true:=by
 have e0:([DO.rol (ns.map D.int)]:DH)[0]? =some (.rol (ns.map D.int)):=rfl
 generalize ([DO.rol (ns.map D.int)]:DH)=G at *
 refine K7 (show Wp (cV4 [some (.ref 0),none,none,none,none,none]) G _ from ?_)
 rw[fP1]
 refine d9.mpr<| N7<| (fD6 e0 hn).mono ?_
 rintro _ G1 ⟨q,cs,rfl,h1⟩
 refine d9.mpr<| N7<| M7<| m7<| j8 rfl rfl<| (bK6 (by decide) h1.e0 hn).mono ?_
 rintro _ G2 ⟨r,rfl,d2,g2,l2⟩
 refine m5.mpr<| Q8.mpr ⟨rfl,Z8 d2 λi G3 f3=>?_⟩
 have h3:=h1.gr (Gr.fd g2 f3 l2)
 refine d9.mpr<| bM7 rfl ⟨by decide,by decide,by decide,by decide⟩ (show Wp (aB8 (q16 3) NRB (λ_=>true) ([1,2,3].map λk:Nat=>D.int (k:Int)) [some (.ref 0),some (.ref q),some (.int (i:Int)),none,none,none]) G3 _ from(cC7 hn [1,2,3] none cs G3 (by decide) h3).mono ?_)
 rintro _ G4 ⟨⟨u,rfl⟩,cs',h4⟩
 obtain⟨a,b,c,d,rfl⟩:=eG8 cs' h4.l
 have ha:=h4.nc a (by simp)
 have hb:=h4.nc b (by simp)
 have hc:=h4.nc c (by simp)
 have hd:=h4.nc d (by simp)
 refine d9.mpr<| N7<| (fK7 ha hb hc hd h4.e).mono ?_
 rintro _ G5 ⟨p5,m1,m2,m3,rfl,k1,k2,k3,s3⟩
 have s47:SzC 4 47 m3:=SzC.mono (by decide) s3
 refine d9.mpr<| Q4<| aD1<| aA2.mpr<| aG7<| j8 rfl rfl<| (bU6 4 60 (by decide) (by decide) m3 G5 k3.g s47).mono ?_
 rintro _ G6 ⟨rfl,p6⟩
 refine⟨rfl,λz=>(O5 z),λ_=>m9<| t6<| (eN4 ha hb hc hd ((p5.trans p6).at h4.e)).mono ?_⟩
 rintro _ G7 ⟨p7,n1,n2,n3,rfl,j1,j2,j3⟩
 rw[eF2 k1 k2 k3 j1 j2 j3]
 refine c7 rfl<| aO8 ⟨false,rfl,λz=>O5 z,λ_=>j7.mpr ?_⟩
 have e7:=(p5.trans (p6.trans p7)).at h4.e
 refine d9.mpr<| Q4<| aD1<| m9<| t6<| (eN3 ha hb hc hd e7).mono ?_
 rintro _ G8 ⟨p8,n1,n2,n3,rfl,j1,j2,j3⟩
 rw[eM1 k1 k2 k3 j1 j2 j3]
 refine c7 rfl<| aO8 ⟨false,rfl,λz=>O5 z,λ_=>?_⟩
 refine m9<| t6<| (fH6 ha hb hc hd (p8.at e7) k3.g s3).mono ?_
 rintro _ G9 ⟨p9,s,n1,ms,rfl,j1⟩
 rw[fL0 k1 k2 k3 ms j1]
 refine c7 rfl<| aO8 ⟨false,rfl,λz=>O5 z,λ_=>j7.mpr ?_⟩
 have e9:=p9.at (p8.at e7)
 refine d9.mpr<| aJ9.mpr<| wp_itW.mpr<| c7 rfl<| (aP8 e9).mpr<| (cT2 [a,b,c,d] none G9 h4.nc e9).mono ?_
 rintro _ G10 ⟨u,rfl⟩
 exact K1<| c7 rfl<| J8 rfl
theorem pure_law:∀ns:List Int,ns.length<=63->∃G',dJ8 [.ref 0] [.rol (ns.map D.int)]=some (.ok (.bl true),G'):=λns hn=>by
 obtain⟨d,G',e,rfl⟩:=dY4 ns hn
 exact⟨G',e⟩
end W
namespace PySem.W.Fast
def tw14758341702713124533:=()
def tw18212529491701569081:=()
def tw11975422388206917328:=()
def tw5512273790675882013:=()
def tw9414344112862115411:=()
def tw3835816578460854484:=()
def tw9403793238715909249:=()
def tw15538680983102906324:=()
def tw8113376640899834613:=()
def tw10716103739976037186:=()
def tw17271012680502487885:=()
def tw6798927622250112347:=()
def tw5973539473889817401:=()
def tw1780922212799720310:=()
def tw14769917878573708404:=()
def tw3918222336050789100:=()
def tw1720218770012633057:=()
def tw2276289026046082272:=()
def tw2721608232641417539:=()
def tw7375846067552134680:=()
def tw4273824181161926318:=()
def tw14072495241341125534:=()
def tw6912534286765130048:=()
def tw2493228897009562035:=()
def tw1268287642001010912:=()
def tw5976427886126487573:=()
def tw940167356495271385:=()
def tw2519935912739919422:=()
def tw15037710039633311007:=()
def tw13708281286394939436:=()
def tw3194923799825765494:=()
def tw12003268361735332857:=()
def tw7382309796226455325:=()
def tw1203000462871100897:=()
def tw1979692520185423392:=()
def tw10629772302969522217:=()
def tw13217554983085071061:=()
def tw7125830839150724203:=()
def tw16364790124113473930:=()
def tw6727638263098675054:=()
def tw16151065581274454686:=()
def tw17547272795782268864:=()
def tw16964718054937040089:=()
def tw1429023922618587407:=()
end PySem.W.Fast
local macro_rules | `(tactic| walk_at "fh") => `(tactic| first | exact trivial | (refine DL.FHs.c ?q ?b; (case q => refine' DL.FH.of ?a ?l ?e ?k; (case a => k_is); (case l => k_is); (case e => k_is); (case k => k_is)); (case b => walk_at "fh")))
local macro_rules | `(tactic| walk_at "cr") => `(tactic| first | exact DL.cr_str | exact DL.cr_int | exact DL.cr_bl | exact DL.cr_non | (refine' DL.cr_tup ?l ?z ?h; (case l => k_is); (case z => rfl); (case h => walk_at "cs")))
local macro_rules | `(tactic| walk_at "cs") => `(tactic| first | exact DL.crl_nil | (refine' DL.crl_cons ?a ?b; (case a => walk_at "cr"); (case b => walk_at "cs")))
set_option maxRecDepth 100000 in
set_option maxHeartbeats 0 in
theorem PySem.Challenge.cw_allmeet_k24_whole_meets_in_any_order_holds : PySem.Challenge.rw_allmeet_k24_whole_meets_in_any_order.Holds := by
 w_on;o_law;k_head;(case hw=>w_witness2)
 k_fill
 refine DL.walk63 (l := PySem.Challenge.rw_allmeet_k24_whole_meets_in_any_order) 186 rfl rfl ⟨rfl, by decide, by decide, rfl⟩ (fun w h Y => PySem.W.kIn_of Y) ?F
 case F=>
  intro w mg fa h KX G hmg
  refine' W.all_mk KX G hmg ?Y0 ?Y25 ?Y50 ?_ ?_ ?_ ?z W.pure_law
  (case z=>intro b hb;simp only[DL.bltL,zu,ju,or_false]at hb;rcases hb with rfl|rfl|rfl|rfl|rfl|rfl|rfl|rfl|rfl|rfl|rfl|rfl|rfl|rfl|rfl|rfl|rfl|rfl|rfl|rfl<;>k_is)
  (case Y0=>walk_at "fh")
  (case Y25=>walk_at "fh")
  (case Y50=>walk_at "fh")
  all_goals (refine' DL.CC.of ?g ?r;(case g=>k_is);(case r=>walk_at "cr"))
