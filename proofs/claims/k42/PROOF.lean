import PyProof.Rows.All
import Wide.All
import OpenK.AllK
import Wide.FinOn
import Lean
import PyProof.EqAt
import PyProof.EqKinds
import PyProof.TupleCall
import PyProof.NeKinds
import PyProof.ZipIter
import PyProof.EnumFor
import PyProof.EnumMake
import PyProof.EnumStmt
import PyProof.Draws
import KE.KDictSum
import PyProof.Rows.SortStr
import PyProof.StrWalks
import KE.KRevIter
import KE.KDictList
import PyProof.CollectIter
import PyProof.SliceStr2
import PyProof.StrBlockI
import KE.KListMore
import PyProof.DictWalks
import PyProof.TupleOfSeq
import PyProof.AttrMissHeap
import PyProof.AttrMissSeq
import KE.KDictOf
import PyProof.WalksMore
import KE.KSortTup
import KE.KSortKey
import PyProof.Rows.StrJoin2
import PyProof.ListMulRoad
import PyProof.FactsAll.tuple_2
import PyProof.Rows.SortShell
import PyProof.WalkInts
import KE.KMinBuiltin
import KE.KIntText
import PyProof.CallStr
import PyProof.PureStr
import PyProof.Rows.SetFrom
import KE.KMinKey
import PyProof.DictItems
import PyProof.DictItemsLoops
import PyProof.ReprRoads
import PyProof.WalksS
import PyProof.MeetsSeq2
import KE.KItemsList
import PyProof.TupleKey
import PyProof.IsRules
import PySem.Challenge.RW_allmeet_k42_lists_and_records_in_words
set_option Elab.async false
set_option linter.all false
set_option maxRecDepth 100000
open PySem renaming wpAny_bind→za,Value→zi,wpAny_pure→zj,sizeLine→zk,Shared→zm,wpAny→zw,model→zF,Program→zM,World→zT,starEach→zW,compareOp→jc,Around→jd,bootBuiltins→jj,wpAny_setState_of→jm,mainGlobals→jr,wpAny_loadPart'→jt,wpAny_holding→jw,tupleKeyHash→jB,wpAny_call_entry→jC,wpAny_mono→jG,IsTupleKey→jJ,wpAny_ite_split→jK,binaryOp→jX,wpAny_callSpecial?_slot→yh,Builtin→yz,mem_of_lookup→yC,codeAny_builtin→yD,foldedSetIterable→yE,sizeLine_eq→yT,cLine→yU,wpAny_Call_Name_kw→yX,sysModules→yY,backTo→yZ,assignEach→xa,FuncData→xc,wpAny_newObj_type→xg,rawInt→xp,wpAny_newList→xr,plainId_quiet→xt,letOwnedTupleGo→xu,wpAny_eqBool_int→xH,pyNext→xP,strIterType→xV,sliceBounds→xW,hashByValue→xX,wpAny_typeOf→Zi,codeAny_mono→Zj,pickOrder→Zn,ofAClassStatement→ZB,keywordEach→ZC,holding→ZD,codeAny→ZE,attributeBase→ZJ,wpAny_askSetting→ZT,assign→Ya,BindsTo→Yb,wpAny_execs_nil→Yh,setNext→Yz,callerA→YA,wpAny_attempt→YQ,setSearchFrom→YR,behindInMarks→YS,MulOk→YV,wpAny_setField_rec→YZ,tupleKind_room_in1→Xa,setEntries→Xb,wpAny_collect_seq→Xk,getItem→Xm,backToKw→Xn,wpAny_isInstance→Xz,wpAny_forIn_list→XA,tupleKind→XB,noFill_tuple_add→XD,unsupported→XQ,valueAt→Jc,wpAny_newTuple→Je,pyIter→Jf,isSubtype_type→Jg,carriedByValue→Jh,wpAny_standAt→JA,seq_tuple_add→JB,call→JC,swapsWith→JL,seqIndex?→JM,bindL→JN,bindC→JO,atKey→JP,PassesOwn→JT,seqIndex_neg→JZ
open List renaming length_map→zc,length_append→zd,getElem?_append_left→zh,mem_cons_of_mem→zl,getElem?_eq_getElem→zn,size_toArray→zo,length_cons→zq,mem_singleton→zr,mem_cons_self→zt,getD_eq_getElem?_getD→zA,mem_map→zE,getElem?_set_ne→zG,map_cons→zH,mem_cons→zI,range→zK,mem_append→zO,mem_append_right→zP,getElem?_eq_none→zS,map_map→zV,map_append→zX,getElem?_set_self→zY,getElem?_cons_zero→jb,getElem?_cons_succ→jf,getElem?_map→jg,append_assoc→jh,mem_of_getElem?→ji,mem_range→js,length_range→jv,map_id→jE,toArray→jF,pairwise_append→jH,length_take→jI,map_congr_left→jM,pairwise_map→jN,length_nil→jO,append_nil→jP,not_mem_nil→jR,mergeSort_perm→jU,set_cons_succ→jZ,mem_append_left→yd,nodup_cons→ye,length_set→yf,lookup_cons→ym,set_cons_zero→yq,replicate→yr,getElem?_append_right→yt,getElem?_eq_some_iff→yy,map_eq_nil_iff→yG,nodup_nil→yH,pairwise_cons→yK,foldl_cons→yP,find?_cons→yQ,any_cons→yR,all_cons→yS,length_singleton→yW,mem_iff_getElem→xf,ext_getElem→xi,pairwise_iff_getElem→xk,zip_cons_cons→xo,pairwise_mergeSort→xq,take_of_length_le→xv,map_nil→xw,append_eq_nil_iff→xx,take_append_drop→xD,length_drop→xF,all_eq_true→xG,dropLast_concat_getLast→xN,filterMap_cons→xT,mem_filterMap→Zb,filterMap_map→Zc,drop_eq_getElem_cons→Zh,length→Zm,getElem_inj→Zw,range_succ_eq_map→ZI,mem_iff_getElem?→ZR,getElem?_toArray→ZS,map→ZZ,getElem?_drop→Yv,reverse_cons→YE,nodup_append→YF,getElem?_set→YG,eraseIdx_eq_take_drop_succ→YO,prefix_refl→YW,getElem_mem→YX,any_eq_true→YY,range_succ→Xg,of_mem_zip→Xh,mem_filter→Xi,perm_append_singleton→Xw,filterMap→Xx,zip_map'→XU,getElem?_take_of_lt→XV,pairwise_singleton→XZ,getElem?_replicate→Ja,mem_of_mem_take→Jw,length_eraseIdx→Jx,getElem?_of_mem→Jy
open PySem.Heap renaming get?_push_of_some→ze,get?_push_size→zu,lt_size→zv,get?_update_other→yi,SameBut→yj,size_push→yp,get?_update_self→xC,get?_update_ne→xS,get?_push_ne→YB
open Nat renaming le_refl→zf,le_trans→zp,zero_le→zD,ne_of_lt→zL,lt_of_lt_of_le→zN,le_add_right→jq,le_of_lt→jT,lt_irrefl→yk,mod_lt→yw,lt_succ_of_lt→yB,lt_succ_self→xK,lt_or_ge→xZ,lt_or_eq_of_le→Zg,le_of_ble_eq_true→ZW,sub_succ_lt_self→Yg,toDigits→YJ,ne_of_gt→YK,mul_succ→YL,lt_trans→YM,le_of_eq→YN,le_succ→Xf,zero_add→Jo,pow_succ→Jp
open PySem.W renaming Frag→zg,keepIn→ya,emptyDict→yc,fnOf→yg,instObj→xl,kas_sort→xA,kas_ask→xI,nsIn→xL,findIn→xQ,codeIn→xR,kat_cons→Zk,kat_yes→Zt,KatTups→Zu,kat_no→ZK,kat_go→ZL,mg_of→ZY,methodObj→Yj,cellsFrom_some→XE,kat_lt_int→Ji,specialIn→Jr,kitx_list→Js,kitx_dict→Jt,plainGet→JD,kat_snds→JE,kat_kind→JF,kas_item→JG,kat_run→JQ,kat_one→JR,kat_nil→JS
open Bool renaming false_eq_true→zy,false_ne_true→zR,and_eq_true→jl,not_eq_true'→xy,eq_false_iff→xz,not_true→Yr,not_false→Xy
open Array renaming getElem?_toList→zB,length_toList→zC,getElem?_eq_getElem→zJ,getD_eq_getD_getElem?→jp,getElem?_eq_some_iff→jS,perm_iff_toList_perm→yo,toList_inj→xE,toList_append→xO,getD→Zz,toArray_toList→ZX,getElem?_setIfInBounds→Xc,toList_filterMap→Jb,forIn_toList→JJ,append_assoc→JK
open PySem.SetTable renaming bits→zQ,below→zU,leap→zZ,runEnd→jk,insertAt→jx,turns→jL,sizeAbove→xM,grown→ZG,fits→ZU,fresh→YU,fill→Xd,has→Xp,layClean→Jj
open PySem.SetTable.layClean renaming free→ja
open Option.some renaming injEq→je,inj→jo
open PySem.Obj renaming mapSeq→ju,putSet→Yw
open PyProof.Rows renaming slot_tuple_getitem→jy,seqObj→jz,Keyed→jW,arrOf→jY,kindOf→yM,listUpdate_at→xU,entry_list_sort→Ze,SortSt→Zf,pendingOf→Zo,slot_list_sort→Zq,failedOf→Zr,args_list_sort→Zs,seqEpoch_at→ZH,envOfC→ZM,oneType'→ZV,subscriptTail_builtinR→Yc,plain_sorted→Yd,entry_sorted→Ye,args_sorted1→Yf,get?_update_seq→Yi,callWith_type1→Yp,kind_sorted→Yy,AllBare→YD,IsTup→XT,getElem?_bubble→XY,wpS_pure→Jl,sortedHeap_old→Jm,keyLt'_oneType→Jn,sortedHeap_at→JI
open Classical renaming byContradiction→jA,choose→Yq
open PySem.Str renaming ofString→jD
open Int renaming emod_nonneg→jQ,toNat_natCast→jV,eq_ofNat_of_zero_le→yI,emod_lt_of_pos→yN,le_trans→ZO,le_refl→Xj
open PySem.Around renaming under_plainId→yb,in1_units→JV
open False renaming elim→yn
open PySem.Calls renaming call_function_entry→yx,spliced_cons→Yl,spliced_nil→Yx,Name_function_global→Xo
open PySem.SeqAt renaming EqAt→yA,RcNeAt→Zx,RcAt→Yk,ne_of_list_tuple→XX
open PySem.SetTable.below renaming go→yF
open List.cons renaming inj→yJ,injEq→Jz
open PySem.Paired renaming length→yL
open PySem.Builtin.Slice renaming slicePlaces→yO,sliceAdjust→xJ,sliceApplied→Yn
open PySem.Heap.SameBut renaming update→yV
open PySem.Builtin.Tuple renaming tupleExact→xb,tupleItemsOf→Ym
open PySem.SetTable.probe renaming go→xh
open PySem.Txt renaming slice→xj,join→YI
open PySem.F renaming called_set→xm,args_tuple_add_2→Zd,entry_tuple_add→Zl,slot_tuple_add→Zp,plain_extend_loop→Xe,plain_list_iadd→Xt,slot_list_append→Jk,slot_list_pop→JU
open Prod.mk renaming inj→xn
open PySem.Builtin.List renaming listExtendWith→xB,listLengthHint→Yo,listSameRef→YC
open PySem.Builtin.Str renaming occurrences→xY,strSliceIndices→Yt
open List.Perm renaming eq_of_pairwise→Za
open Option renaming map_eq_some_iff→Zv,map_some→Zy,isSome_map→Yu,isSome_iff_exists→Xu,getD_none→JW,bind_some→JX
open PyProof.Rows.F renaming plain_set_update_loop→ZN,entry_set_update_loop→Jv
open PySem.SeqAt.EqAt renaming str_int→ZP,int_str→ZQ,same→Ys,none_bool→Xq,bool_none→Xr,bool_bool→Xs,str_none→XF,str_bool→XG,none_str→XH,none_int→XI,int_none→XJ,int_bool→XL,bool_str→XM,bool_int→XO,str_str→XR,int_int→XS
open PySem.W.KatTups renaming cons→YH
open PySem.W.Looks renaming of_pure→YT
open PySem.pickOrder renaming go→Xl
open Nat.succ renaming inj→Xv
open Sum.inr renaming inj→XW
open ToString renaming toString→Jd
open Function renaming comp_def→Jq
open PySem.PassesOwn renaming never→Ju
open PySem.PyData renaming hasDictAll→JH
open StateT renaming run_pure→JY
noncomputable section
abbrev VSP:=zi->zm->Prop
abbrev PNS:=List (PySem.Addr×PySem.Obj)
namespace L2
open PySem PySem.Spec PyProof.Rows
theorem t6{a:α}{P:Prop}(h:none=some a):P:=nomatch h
theorem MF{a:α}{P:Prop}(h:some a=none):P:=nomatch h
theorem FE{P:Prop}(h:false=true):P:=nomatch h
theorem UD{a:α}{l:List α}{P:Prop}(h: []=a::l):P:=nomatch h
theorem SF{a:α}{l:List α}{P:Prop}(h:a::l= []):P:=nomatch h
abbrev Key:=Sum Int Str
def D8:Key->zi->Bool
 | .inl k,v=>Value.isInt k v
 | .inr x,v=>Value.isStrOf x v
def sY(w:zT):Key->Int
 | .inl k=>hashInt k
 | .inr x=>hashStr w x
theorem J0:∀ {k} {v},D8 k v=true->(∃i t,k=Sum.inl i/\v=Value.int i t)\/(∃x t,k=Sum.inr x/\v=Value.str x t)
 | .inl i,v,h=>by obtain⟨t,e⟩:=Value.isInt_shape (k:=i) (v:=v) h;exact .inl ⟨i,t,rfl,e⟩
 | .inr x,v,h=>by obtain⟨t,e⟩:=Value.isStrOf_shape (x:=x) (v:=v) h;exact .inr ⟨x,t,rfl,e⟩
theorem IV(i:Int)(t:Tok):D8 (.inl i) (.int i t)=true:=by simp[D8,Value.isInt]
theorem Fv(x:Str)(t:Tok):D8 (.inr x) (.str x t)=true:=by simp[D8,Value.isStrOf]
theorem Bk(a b:Int):decide ((Sum.inl a:Key)=Sum.inl b)= (a==b):=by
 by_cases e:a=b
 ·subst e;simp
 ·have h:¬(Sum.inl a:Key)=Sum.inl b:=λq=>e (Sum.inl.inj q);rw[decide_eq_false h];exact(beq_eq_false_iff_ne.mpr e).symm
theorem qh(a b:Str):decide ((Sum.inr a:Key)=Sum.inr b)=decide (a=b):=by
 by_cases e:a=b
 ·subst e;simp
 ·have h:¬(Sum.inr a:Key)=Sum.inr b:=λq=>e (XW q);rw[decide_eq_false h,decide_eq_false e]
theorem gX(a:Int)(b:Str):decide ((Sum.inl a:Key)=Sum.inr b)=false:=decide_eq_false (λq=>nomatch q)
theorem vX(a:Str)(b:Int):decide ((Sum.inr a:Key)=Sum.inl b)=false:=decide_eq_false (λq=>nomatch q)
def J3(prog:zM)(w:zT):PySem.KeyKind prog w Key where
 is:=D8
 hash:=sY w
 inj:=λv a b ha hb=>by
  rcases J0 ha with⟨i,t,rfl,rfl⟩|⟨x,t,rfl,rfl⟩
  · rcases J0 hb with⟨j,u,rfl,e⟩|⟨y,u,rfl,e⟩
    ·injection e with e1 _;rw[e1]
    ·exact nomatch e
  · rcases J0 hb with⟨j,u,rfl,e⟩|⟨y,u,rfl,e⟩
    ·exact nomatch e
    ·injection e with e1 _;rw[e1]
 byValue:=λk v h=>by rcases J0 h with⟨i,t,rfl,rfl⟩|⟨x,t,rfl,rfl⟩<;>rfl
 pyHash:=λhv h=>by
  rcases J0 hv with⟨i,t,rfl,rfl⟩|⟨x,t,rfl,rfl⟩
  ·exact wpAny_pyHash_int h
  ·exact wpAny_pyHash_str h
 eqBool:=λhu hv h=>by
  rcases J0 hu with⟨i,t,rfl,rfl⟩|⟨x,t,rfl,rfl⟩
  · rcases J0 hv with⟨j,u,rfl,rfl⟩|⟨y,u,rfl,rfl⟩
    ·rw[Bk]at h;exact xH h
    ·rw[gX]at h;exact ZQ i t y u _ _ _ _ h
  · rcases J0 hv with⟨j,u,rfl,rfl⟩|⟨y,u,rfl,rfl⟩
    ·rw[vX]at h;exact ZP x t j u _ _ _ _ h
    ·rw[qh]at h;exact wpAny_eqBool_str h
 «strs»:=λk x t v h=>by
  rcases J0 h with⟨i,u,rfl,e⟩|⟨y,u,rfl,e⟩
  ·exact nomatch e
  · injection e with e1 _;subst e1
    cases v<;>rfl
theorem UO(prog:zM)(w:zT)(i:Int)(t:Tok):(J3 prog w).is (.inl i) (.int i t)=true:=IV i t
theorem AN(prog:zM)(w:zT)(x:Str)(t:Tok):(J3 prog w).is (.inr x) (.str x t)=true:=Fv x t
inductive V where
 |non|bl (b:Bool)|int (i:Int)|str (x:Str)|byt (b:Array UInt8)|flt (b:UInt64)|ref (a:Addr)|ty (n:String)
 deriving DecidableEq
def o7:V->zi->Prop
 | .non,u=>u=Value.none
 | .bl b,u=>u=Value.bool b
 | .int i,u=>∃t,u=Value.int i t
 | .str x,u=>∃t,u=Value.str x t
 | .byt b,u=>∃t,u=Value.bytes b t
 | .flt b,u=>∃t,u=Value.float b t
 | .ref a,u=>u=Value.ref a
 | .ty n,u=>u=Value.type n
abbrev o5:List V->List zi->Prop:=Paired o7
theorem o5.length(r:o5 xs us):xs.length=us.length:=yL r
theorem o5.get:∀ {xs} {us} {i:Nat} {x:V},o5 xs us->xs[i]? =some x->∃u,us[i]? =some u/\o7 x u
 |_,_,_,_,.nil,e=>by simp at e
 |_,_,0,_,.cons r _,e=>by simp at e;subst e;exact⟨_,rfl,r⟩
 |_,_,i+1,x,.cons _ t,e=>by obtain⟨u,h1,h2⟩:=o5.get (i:=i) (x:=x) t (by simpa using e);exact⟨u,by simpa using h1,h2⟩
theorem o5.set(r:o7 x u):∀ {xs} {us} i,o5 xs us->o5 (xs.set i x) (us.set i u)
 |_,_,_,.nil=>.nil
 |_,_,0,.cons _ t=>.cons r t
 |_,_,i+1,.cons q t=>.cons q (o5.set r i t)
theorem o5.append(h:o5 xs us)(k:o5 ys ws):o5 (xs++ys) (us++ws):=by
 induction h with
 |nil=>exact k
 |cons r t ih=>exact .cons r ih
theorem o5.take:∀ {xs} {us} n,o5 xs us->o5 (xs.take n) (us.take n)
 |_,_,0,_=>.nil
 |_,_,_+1,.nil=>.nil
 |_,_,n+1,.cons r t=>.cons r (o5.take n t)
theorem o5.drop:∀ {xs} {us} n,o5 xs us->o5 (xs.drop n) (us.drop n)
 |_,_,0,r=>r
 |_,_,_+1,.nil=>.nil
 |_,_,n+1,.cons _ t=>o5.drop n t
def a6:Option V->Option zi->Prop
 |some v,some u=>o7 v u
 |none,none=>True
 |_,_=>False
def KV{κ:Type}:List (κ×V)->List (κ×zi)->Prop:=Paired fun(p:κ×V) (q:κ×zi)=>p.1=q.1/\o7 p.2 q.2
def kV:Key->V
 | .inl i=>.int i
 | .inr x=>.str x
inductive HO where
 /-- a list -/
 |lst (xs:List V)
 /-- a tuple (never changes) -/
 |tup (xs:List V)
 /-- a dict whose keys are ints and texts;one whose keys are tuples of ints and texts (the empty one is both) -/
 |dK (Nd:List (Key×V))|dT (Nd:List (List Key×V))
 /-- a set of ints:Nf members,Nf size -/
 |set (S:Int->Bool) (n:Nat)
 /-- an instance of the class at C,Nf dict at dx,Nf attributes -/
 |ins (C dx:Addr) (fs:List (Str×V))
 /-- the dict of the instance at x -/
 |own (x:Addr)
 /-- the dict of an exception -/
 |xd (fs:List (Str×V))
 /-- a bound method,f of x -/
 |met (f x:Addr)
 /-- a range object lo,lo+1,.. below hi -/
 |rng (lo hi:Int)
 /-- a thing that is known to the object (the script;a dict while a loop walks it):read,never written while it is so -/
 |frz (o:Obj) (u:HO)
 /-- a code object's table -/
 |tbl (ps:Array zi)
 /-- any other thing,by what is true of Nf one object (a def of one's own:SetO a S n:=HO.ext λh=>..) -/
 |ext (φ:Heap->Prop)
abbrev Hp:=Addr->Option HO
def upd(H:Hp)(a:Addr)(o:HO):Hp:=λb=>if b=a then some o else H b
theorem N6:upd H a o a=some o:=by unfold upd;rw[if_pos rfl]
theorem v9(h:b≠a):upd H a o b=H b:=by unfold upd;rw[if_neg h]
theorem iR{H:Hp}(h:H a=some o)(h':H b=some u)(d:o≠u):a≠b:=by intro e;subst e;rw[h]at h';exact d (jo h')
theorem J7{H:Hp}{o:HO}(h:H a=some o)(h':H b=none):a≠b:=by intro e;subst e;rw[h]at h';cases h'
section
variable(P:zM)(w:zT)
def L6(h:Heap)(a:Addr)(items:Array zi):Prop:=∃o,h.get? a=some o/\o.cls= .type "tuple"/\∃n,(o.data,o.dict)= (Data.seq items n,none)
theorem L6.tup(x:L6 h a items):XT h a items:=by obtain⟨o,e,c,n,d⟩:=x;exact⟨o,e,c,n,(xn d).1⟩
theorem L6.new(h:Heap)(items:Array zi):L6 (h.push {cls:=.type "tuple",data:=.seq items}) h.objs.size items:=⟨_,zu _ rfl,rfl,_,rfl⟩
def O6(H:Hp)(h:Heap)(a:Addr):HO->Prop
 | .lst xs=>xs.length<=zk/\∃(Nf:List zi) (n:Nat),o5 xs Nf/\h.get? a=some {cls:=.type "list",data:=.seq Nf.toArray n}
 | .tup xs=>xs.length<=zk/\∃Nf:List zi,o5 xs Nf/\L6 h a Nf.toArray
 | .dK Nd=>Nd.length<=zk/\(a==yY)=false/\∃vs,KV Nd vs/\h.DictOf (J3 P w) a vs
 | .dT Nd=>Nd.length<=zk/\(a==yY)=false/\∃xs:List (List Key×Addr×zi),
    Paired (fun(p:List Key×V) (q:List Key×Addr×zi)=>p.1=q.1/\H q.2.1=some (.tup (p.1.map kV))/\o7 p.2 q.2.2) Nd xs/\
    ∃o es ep,h.get? a=some o/\o.ExactDict/\o.data= .dict es ep/\es.toList=xs.map (entryOfKey (XB (J3 P w)))/\(xs.map (·.1)).Nodup
 | .set S n=>h.SetOf (intKind P w) a S n
 | .ins C dx fs=>H dx=some (.own a)/\fs.length<=1000/\dx≠a/\h.get? a=some (xl C dx)/\
    ∃mA,h.Ns1 dx mA/\(∀f,a6 (fs.lookup f) (mA f))/\PySem.Within mA (fs.map (·.1))
 | .own _=>∃o,h.get? a=some o
 | .xd fs=>∃mA,h.Ns1 a mA/\∀f,a6 (fs.lookup f) (mA f)
 | .rng lo hi=>∃t u v,h.get? a=some {cls:=.type "range",data:=.fields #[.int lo t,.int hi u,.int 1 v]}
 | .frz o u=>h.get? a=some o/\O6 H h a u
 | .tbl ps=>h.get? a=some {cls:=.none,data:=.fields ps}
 | .met f x=>h.get? a=some (Yj (.ref f) (.ref x))
 | .ext φ=>φ h/\(∃o,h.get? a=some o)/\∀h1 h2:Heap,φ h1->(∀o,h1.get? a=some o->h2.get? a=some o)->φ h2
def HOk(H:Hp)(h:Heap):Prop:=∀a o,H a=some o->O6 P w H h a o
end
section
theorem O6.lt(x:O6 P w H h a o):a<h.objs.size:=by
 cases o with
 |lst xs=>obtain⟨_,_,_,_,e⟩:=x;exact zv e
 |tup xs=>obtain⟨_,_,_,p⟩:=x;exact(L6.tup p).lt
 |dK Nd=>obtain⟨_,_,_,_,o,_,_,e,_⟩:=x;exact zv e
 |dT Nd=>obtain⟨_,_,_,_,o,_,_,e,_⟩:=x;exact zv e
 |set S n=>obtain⟨o,_,_,_,e,_⟩:=x;exact zv e
 |ins C dx fs=>obtain⟨_,_,_,e,_⟩:=x;exact zv e
 |own y=>obtain⟨_,e⟩:=x;exact zv e
 |xd fs=>obtain⟨_,⟨_,_,_,e,_⟩,_⟩:=x;exact zv e
 |rng lo hi=>obtain⟨_,_,_,e⟩:=x;exact zv e
 |frz ob u=>obtain⟨e,_⟩:=x;exact zv e
 |tbl ps=>exact zv (show h.get? a=some _ from x)
 |met f y=>exact zv (show h.get? a=some _ from x)
 |ext φ=>obtain⟨_,⟨_,e⟩,_⟩:=x;exact zv e
theorem Paired.mapP(h:Paired F l₁ l₂)(f:∀a b,F a b->G a b):Paired G l₁ l₂:=by
 induction h with
 |nil=>exact .nil
 |cons r t ih=>exact .cons (f _ _ r) ih
theorem O6.stay(x:O6 P w H h a o)(k:∀b u,(b=a\/H b=some (.own a))->h.get? b=some u->h'.get? b=some u)
 (ho:∀b,H b=some (.own a)->H' b=some (.own a)) (ht:∀b xs,H b=some (.tup xs)->H' b=some (.tup xs)):O6 P w H' h' a o:=by
 induction o with
 |lst xs=>obtain⟨z,Nf,n,r,e⟩:=x;exact⟨z,Nf,n,r,k _ _ (.inl rfl) e⟩
 |tup xs=>obtain⟨z,Nf,r,ob,e,c⟩:=x;exact⟨z,Nf,r,ob,k _ _ (.inl rfl) e,c⟩
 |dK Nd=>obtain⟨z,y,vs,r,ob,es,ep,e,c⟩:=x;exact⟨z,y,vs,r,ob,es,ep,k _ _ (.inl rfl) e,c⟩
 |dT Nd=>
   obtain⟨z,y,xs,r,ob,es,ep,e,c⟩:=x;exact⟨z,y,xs,Paired.mapP r λp q z=>⟨z.1,ht _ _ z.2.1,z.2.2⟩,ob,es,ep,k _ _ (.inl rfl) e,c⟩
 |set S n=>obtain⟨ob,es,ep,t,e,c⟩:=x;exact⟨ob,es,ep,t,k _ _ (.inl rfl) e,c⟩
 |ins C dx fs=>
   obtain⟨d,z,ne,e,mA,⟨od,es,ep,e2,c⟩,r⟩:=x;exact⟨ho _ d,z,ne,k _ _ (.inl rfl) e,mA,⟨od,es,ep,k _ _ (.inr d) e2,c⟩,r⟩
 |own y=>obtain⟨ob,e⟩:=x;exact⟨ob,k _ _ (.inl rfl) e⟩
 |xd fs=>obtain⟨mA,⟨od,es,ep,e,c⟩,r⟩:=x;exact⟨mA,⟨od,es,ep,k _ _ (.inl rfl) e,c⟩,r⟩
 |rng lo hi=>obtain⟨t,u,v,e⟩:=x;exact⟨t,u,v,k _ _ (.inl rfl) e⟩
 |frz ob u ih=>obtain⟨e,q⟩:=x;exact⟨k _ _ (.inl rfl) e,ih q⟩
 |tbl ps=>
   have e:h.get? a=some {cls:=.none,data:=.fields ps}:=x;show h'.get? a=some {cls:=.none,data:=.fields ps};exact k a _ (.inl rfl) e
 |met f y=>
   have e:h.get? a=some (Yj (.ref f) (.ref y)):=x;show h'.get? a=some (Yj (.ref f) (.ref y));exact k a _ (.inl rfl) e
 |ext φ=>obtain⟨p,⟨o,e⟩,st⟩:=x;exact⟨st _ _ p λo q=>k _ _ (.inl rfl) q,⟨o,k _ _ (.inl rfl) e⟩,st⟩
theorem HOk.lt(x:HOk P w H h)(e:H a=some o):a<h.objs.size:=(x a o e).lt
theorem HOk.fresh(x:HOk P w H h)(e:h.objs.size<=a):H a=none:=by
 cases q:H a with
 |none=>rfl
 |some u=>exact absurd (zN (x.lt q) e) (yk _)
theorem HOk.kept(x:HOk P w H h)(k:∀b u,h.get? b=some u->h'.get? b=some u):HOk P w H h':=λa o e=>
 (x a o e).stay (λb u _ q=>k b u q) (λ_ q=>q) λ_ _ q=>q
theorem HOk.laid(x:HOk P w H h)(k:∀b u,h.get? b=some u->h'.get? b=some u)(hp:h.objs.size<=a)(new:O6 P w (upd H a o) h' a o):HOk P w (upd H a o) h':=λb u e=>by
 have hn:=x.fresh hp;by_cases hb:b=a
 ·subst hb;rw[N6]at e;cases e;exact new
 ·rw[v9 hb]at e;exact(x b u e).stay (λc v _ q=>k c v q) (λc q=>by rw[v9 (J7 q hn)];exact q) λc xs q=>by rw[v9 (J7 q hn)];exact q
end
def Rd(H:Hp)(a:Addr)(u:HO):Prop:=H a=some u\/∃o,H a=some (.frz o u)
theorem Rd.of(h:H a=some u):Rd H a u:=.inl h
theorem Rd.ok(r:Rd H a u)(x:HOk P w H h):O6 P w H h a u:=by
 rcases r with r|⟨o,r⟩
 ·exact x a u r
 ·obtain⟨_,q⟩:=x a _ r;exact q
def Mut:Option HO->Prop
 |some (.lst _)=>True
 |some (.dK _)=>True
 |some (.dT _)=>True
 |some (.set _ _)=>True
 |some (.ins _ _ _)=>True
 |some (.ext _)=>True
 |_=>False
section
theorem HOk.write(ok:HOk P w H h)(mu:Mut (H x))(he:e=x\/H e=some (.own x))(k:∀b u,b≠e->h.get? b=some u->h'.get? b=some u)(heo:∃u,h'.get? e=some u)
 (new:O6 P w (upd H x o') h' x o'):HOk P w (upd H x o') h':=λb u q=>by
 have nown:∀c y,H c=some (.own y)->c≠x:=λc y r z=>by subst z;rw[r]at mu;exact mu
 have ntup:∀c xs,H c=some (.tup xs)->c≠x:=λc xs r z=>by subst z;rw[r]at mu;exact mu
 by_cases hb:b=x
 ·subst hb;rw[N6]at q;cases q;exact new
 · rw[v9 hb]at q;by_cases hbe:b=e
   · have q':H b=some (.own x):=by
      rcases he with z|z
      ·exact absurd (hbe.trans z) hb
      ·rw[hbe];exact z
     rw[q]at q';cases q';obtain⟨v,hv⟩:=heo;exact⟨v,by rw[hbe];exact hv⟩
   · refine(ok b u q).stay (λc v hc r=>k c v ?_ r) (λc r=>by rw[v9 (nown c b r)];exact r) λc xs r=>by rw[v9 (ntup c xs r)];exact r
     rcases hc with rfl|hc
     ·exact hbe
     · rintro rfl;rcases he with z|z
       ·exact nown c b hc z
       ·rw[hc]at z;cases z;exact hb rfl
end
structure Un(fs ex:List Addr)(H H':Hp)(h h':Heap):Prop where
 keep:∀b o,h.get? b=some o->H b=none->b∉fs->b∉ex->h'.get? b=some o
 slot:∀b o,h.get? b=some o->H b=none->b∈fs->b∉ex->∃sl,h'.get? b=some {o with slots:=sl}
 free:∀b o,h.get? b=some o->H b=none->b∉ex->H' b=none
 there:∀b o,h.get? b=some o->b∉ex->∃o',h'.get? b=some o'
 tups:∀b xs,H b=some (.tup xs)->H' b=some (.tup xs)
 frzs:∀b o u,H b=some (.frz o u)->H' b=some (.frz o u)
 tbls:∀b ps,H b=some (.tbl ps)->∃more,H' b=some (.tbl (ps++more))
section
theorem Un.any(u:Un fs ex H H1 h h1)(q:h.get? b=some ob)(n:H b=none)(hx:b∉ex):∃sl,h1.get? b=some {ob with slots:=sl}:=by
 by_cases hb:b∈fs
 ·exact u.slot b ob q n hb hx
 ·exact⟨ob.slots,u.keep b ob q n hb hx⟩
theorem Un.trans(a:Un fs ex H H1 h h1)(b:Un fs ex H1 H2 h1 h2):Un fs ex H H2 h h2 where
 keep:=λc ob q n hc hx=>b.keep c ob (a.keep c ob q n hc hx) (a.free c ob q n hx) hc hx
 slot:=λc ob q n hc hx=>by obtain⟨sl,e1⟩:=a.slot c ob q n hc hx;obtain⟨sl',e2⟩:=b.slot c _ e1 (a.free c ob q n hx) hc hx;exact⟨sl',e2⟩
 free:=λc ob q n hx=>by obtain⟨o',e1⟩:=a.there c ob q hx;exact b.free c o' e1 (a.free c ob q n hx) hx
 there:=λc ob q hx=>by obtain⟨o',e1⟩:=a.there c ob q hx;exact b.there c o' e1 hx
 tups:=λc xs q=>b.tups c xs (a.tups c xs q)
 frzs:=λc ob xs q=>b.frzs c ob xs (a.frzs c ob xs q)
 tbls:=λc ps q=>by obtain⟨m1,e1⟩:=a.tbls c ps q;obtain⟨m2,e2⟩:=b.tbls c _ e1;exact⟨m1++m2,by rw[e2,JK]⟩
theorem Un.kept(k:∀b u,h.get? b=some u->h'.get? b=some u):Un fs ex H H h h':=
 ⟨λb ob q _ _ _=>k b ob q,λb ob q _ _ _=>⟨ob.slots,k b ob q⟩,λ_ _ _ n _=>n,λb ob q _=>⟨ob,k b ob q⟩,λ_ _ q=>q,λ_ _ _ q=>q,λ_ ps q=>⟨#[],by rw[q];simp⟩⟩
theorem Un.refl:Un fs ex H H h h:=Un.kept λ_ _ q=>q
theorem Un.laid(k:∀b u,h.get? b=some u->h'.get? b=some u)(hp:h.objs.size<=a)(hn:H a=none):Un fs ex H (upd H a o) h h' where
 keep:=λb u q _ _ _=>k b u q
 slot:=λb u q _ _ _=>⟨u.slots,k b u q⟩
 free:=λb u q n _=>by rw[v9 (zL (zN (zv q) hp))];exact n
 there:=λb u q _=>⟨u,k b u q⟩
 tups:=λb xs q=>by rw[v9 (J7 q hn)];exact q
 frzs:=λb u xs q=>by rw[v9 (J7 q hn)];exact q
 tbls:=λb ps q=>⟨#[],by rw[v9 (J7 q hn),q];simp⟩
theorem Un.write(mu:Mut (H x))(he:e=x\/H e=some (.own x))(k:∀b u,b≠e->h.get? b=some u->h'.get? b=some u)(heo:∃u,h'.get? e=some u):Un fs ex H (upd H x o) h h':=by
 have hx:∀b,H b=none->b≠x:=λb n z=>by subst z;rw[n]at mu;exact mu
 have hb:∀b,H b=none->b≠e:=λb n z=>by
  subst z;rcases he with r|r
  ·exact hx b n r
  ·rw[n]at r;cases r
 have hm:∀b u,H b=some u->¬Mut (some u)->b≠x:=λb u q nm z=>by subst z;rw[q]at mu;exact nm mu
 refine⟨λb u q n _ _=>k b u (hb b n) q,λb u q n _ _=>⟨u.slots,k b u (hb b n) q⟩,λb u q n _=>by rw[v9 (hx b n)];exact n,λb u q _=>?_,
  λb xs q=>by rw[v9 (hm b _ q λz=>z)];exact q,λb u xs q=>by rw[v9 (hm b _ q λz=>z)];exact q,λb ps q=>⟨#[],by rw[v9 (hm b _ q λz=>z),q];simp⟩⟩
 by_cases hbe:b=e
 ·subst hbe;exact heo
 ·exact⟨u,k b u hbe q⟩
theorem Un.mono(u:Un fs ex H H1 h h1)(hs:∀b∈fs,b∈fs')(hx:∀b∈ex,b∈ex'):Un fs' ex' H H1 h h1:=
 ⟨λb ob q n hb he=>u.keep b ob q n (λz=>hb (hs b z)) λz=>he (hx b z),λ_ _ q n _ he=>u.any q n λz=>he (hx _ z),λb ob q n he=>u.free b ob q n λz=>he (hx b z),λb ob q he=>u.there b ob q λz=>he (hx b z),u.tups,u.frzs,u.tbls⟩
end
def trk(h:Heap)(H:Hp):List Addr:=(zK h.objs.size).filter λa=>(H a).isSome
def L8(h:Heap)(H:Hp):Heap:=PySem.W.hideAll h (trk h H)
theorem aS(h:Heap)(H:Hp):(L8 h H).objs.size=h.objs.size:=PySem.W.hideAll_size _ _
theorem rP(e:h.get? b=some o)(n:H b=none):(L8 h H).get? b=some o:=
 PySem.W.hideAll_get _ e λhm=>by have q:(H b).isSome=true:=(Xi.mp hm).2;rw[n]at q;simp at q
theorem rT(e:(L8 h H).get? b=some o):h.get? b=some o/\H b=none:=by
 have e':h.get? b=some o:=PySem.W.of_hideAll (trk h H) e;refine⟨e',?_⟩
 cases q:H b with
 |none=>rfl
 |some x=>
   have hm:b∈trk h H:=Xi.mpr ⟨js.mpr (zv e'),by simp[q]⟩;have z:(L8 h H).get? b=none:=PySem.W.hideAll_none (trk h H) hm;rw[z]at e;cases e
def NZ(g h:Heap)(L:Addr):PNS:=(zK h.objs.size).filterMap λa=>if a=L\/(g.get? a).isSome=true then none else (h.get? a).map λo=>(a,o)
def rest(g h:Heap)(L d:Addr):PNS:=(NZ g h L).filter λp=>decide (p.1≠d)
structure Mod(K:zg)(mg:Str->Option zi)(base:Heap):Prop where
 kin:K.In base
 glob:base.Ns jr mg
 blt:∃mb,base.Ns builtinsNs mb/\∀x:Str,x≠ "__name__"->mb x=jj x
 nolimit:base.NoLimit
structure Cx where
 prog:zM
 w:zT
 K:zg
 mg:Str->Option zi
 base:Heap
 A:jd
 N:List Str
 WZ:zm
 H₀:Hp
 env:Env
 outer:List Env
 stack:List Env
 ex:List Addr
 fn:Str->Bool
 calm:Bool
 pn:PNS
 xe:VSP
def frs(l:List Env):List Addr:=l.filterMap (·.frame)
abbrev Cx.fs(X:Cx):List Addr:=frs X.outer
def Vis(sc:Scope)(x:Str):Prop:=sc.names.lookup x=some .local\/sc.names.lookup x=some .cell\/sc.names.lookup x=some .free
def Loc(sc:Scope)(x:Str):Prop:=sc.names.lookup x=some .local\/sc.names.lookup x=some .cell
def VP(env:Env)(h:Heap)(m:Str->Option zi)(x:Str)(u:zi):Prop:=
 (env.kindOf x=some .local/\m x=some u)\/((env.kindOf x=some .cell\/env.kindOf x=some .free)/\∃c,env.cells.lookup x=some c/\h.IsCell c (some u))
structure Cx.Ok(X:Cx):Prop where
 mod:Mod X.K X.mg X.base
 kind:X.env.scope.kind= .function
 glob:X.env.globals=jr
 blt:X.env.builtins=builtinsNs
 above:X.WZ.heap.objs.size<=X.env.locals
 inj:∀x y c,X.env.cells.lookup x=some c->X.env.cells.lookup y=some c->x=y
 has:∀x,(X.env.kindOf x=some .cell\/X.env.kindOf x=some .free)->∃c,X.env.cells.lookup x=some c
 cab:∀x c,X.fn x=true->X.env.cells.lookup x=some c->X.WZ.heap.objs.size<=c
 hd:X.calm=true->X.A.handled=none
 frames:X.A.frames=some X.stack
 stk:X.stack=X.outer\/(X.stack=X.env::X.outer/\X.env.frame=some X.env.locals)
 exf:∀b∈X.ex,b≠X.env.locals/\∀x c,X.env.cells.lookup x=some c->c≠b
 bs:∀b o,X.base.get? b=some o->X.WZ.heap.get? b=some o/\X.H₀ b=none
 bsz:X.base.objs.size<=X.WZ.heap.objs.size
 noex:∀b o,X.base.get? b=some o->b∉X.ex
 exfs:∀b∈X.ex,b∉X.fs
 funs:X.WZ.heap.FunFrames X.base X.outer
 frf:∀b∈X.fs,X.H₀ b=none
 gd:X.A.guards=some []
structure Inv(X:Cx)(Nc:PNS)(σ:List (Option V))(H:Hp)(s:zm):Prop where
 ok:X.Ok
 os:s.os=X.WZ.os
 bare:YD s.gens
 base:Un X.fs X.ex X.H₀ H X.WZ.heap s.heap
 loc:∃m,s.heap.Ns X.env.locals m/\∀(i:Nat) (x:Str) (v:V),X.N[i]? =some x->σ[i]? =some (some v)->Vis X.env.scope x->∃u,o7 v u/\VP X.env s.heap m x u
 cell:∀x c,X.env.cells.lookup x=some c->∃v,s.heap.IsCell c v
 free:H X.env.locals=none
 freeC:∀x c,X.env.cells.lookup x=some c->H c=none
 pin:∀p∈X.pn++Nc,s.heap.get? p.1=some p.2/\H p.1=none/\p.1≠X.env.locals/\p.1∉X.fs/\∀v,p.2.data≠ .cell v
 hok:HOk X.prog X.w H s.heap
 len:σ.length=X.N.length
section
variable{X:Cx}{Nc:PNS}{σ:List (Option V)}{H H':Hp}{s:zm}
theorem Cx.Ok.nofr(ok:X.Ok)(e:X.base.get? b=some o):b∉X.fs:=λhb=>by have:=(ok.funs.mem hb).1;rw[e]at this;cases this
theorem Inv.bs(I:Inv X Nc σ H s):∀b o,X.base.get? b=some o->s.heap.get? b=some o/\H b=none:=λb o e=>
 ⟨I.base.keep b o (I.ok.bs b o e).1 (I.ok.bs b o e).2 (I.ok.nofr e) (I.ok.noex b o e),I.base.free b o (I.ok.bs b o e).1 (I.ok.bs b o e).2 (I.ok.noex b o e)⟩
theorem Inv.bk(I:Inv X Nc σ H s):∀b o,X.base.get? b=some o->s.heap.get? b=some o:=λb o e=>(I.bs b o e).1
theorem Inv.mod(I:Inv X Nc σ H s):Mod X.K X.mg X.base:=I.ok.mod
theorem Inv.kIn(I:Inv X Nc σ H s):X.K.In s.heap:=I.ok.mod.kin.keeps I.bk
theorem Inv.nolimit(I:Inv X Nc σ H s):s.heap.NoLimit:=I.ok.mod.nolimit.keeps I.bk
theorem Inv.fr(I:Inv X Nc σ H s):∃m,Fr X.base X.env.locals s.heap m:=
 let ⟨m,hn,_⟩:=I.loc
 ⟨m,hn,I.bk,zp I.ok.bsz I.ok.above⟩
theorem Inv.lt(I:Inv X Nc σ H s):X.env.locals<s.heap.objs.size:=let ⟨_,hn,_⟩:=I.loc;hn.lt
theorem Inv.sz(I:Inv X Nc σ H s):X.WZ.heap.objs.size<=s.heap.objs.size:=zp I.ok.above (jT I.lt)
theorem Inv.nofs(I:Inv X Nc σ H s)(h:s.heap.objs.size<=a):a∉X.fs:=λhb=>by obtain⟨_,o,ho,_⟩:=I.ok.funs.mem hb;exact absurd (zN (zv ho) (zp I.sz h)) (yk _)
theorem Inv.cne(I:Inv X Nc σ H s):∀x c,X.env.cells.lookup x=some c->c≠X.env.locals:=λx c e z=>by obtain⟨v,o,ho,hd⟩:=I.cell x c e;obtain⟨m,⟨o',es,ep,ho',Qd,_⟩,_⟩:=I.loc;rw[z,ho']at ho;cases ho;rw[Qd]at hd;cases hd
theorem Inv.funs(I:Inv X Nc σ H s):s.heap.FunFrames X.base X.outer:=by
 have all:∀(l:List Env),(∀b∈frs l,b∈X.fs)->X.WZ.heap.FunFrames X.base l->s.heap.FunFrames X.base l:=by
  intro l
  induction l with
  |nil=>intro _ _;trivial
  |cons env r ih=>
    intro hs hl;obtain⟨hk,⟨L,o,hf,hn,ho,hd⟩,hr⟩:=hl;have hL:L∈X.fs:=hs L (by unfold frs;rw[xT,hf];exact zt);obtain⟨sl,e⟩:=I.base.slot L o ho (I.ok.frf L hL) hL λz=>I.ok.exfs L z hL;exact⟨hk,⟨L,_,hf,hn,e,hd⟩,ih (λb hb=>hs b (by unfold frs;rw[xT,hf];exact zl _ hb)) hr⟩
 exact all X.outer (λ_ hb=>hb) I.ok.funs
theorem Inv.stack(I:Inv X Nc σ H s):s.heap.FunFrames X.base X.stack:=by
 rcases I.ok.stk with e|⟨e,hf⟩
 ·rw[e];exact I.funs
 ·rw[e];obtain⟨m,hn,_⟩:=I.loc;refine .cons (by rw[I.ok.kind];decide) hf hn ?_ I.funs;exact Heap.get?_none_of_le (zp I.ok.bsz I.ok.above)
theorem Inv.stkSub(I:Inv X Nc σ H s):∀b∈frs X.stack,b∈X.env.locals::X.fs:=λb hb=>by
 rcases I.ok.stk with e|⟨e,hf⟩
 ·rw[e]at hb;exact zl _ hb
 ·rw[e]at hb;unfold frs at hb;rw[xT,hf]at hb;exact hb
theorem Inv.stkFree(I:Inv X Nc σ H s):∀b∈frs X.stack,H b=none:=λb hb=>by
 rcases zI.mp (I.stkSub b hb)with e|hb
 ·rw[e];exact I.free
 ·obtain⟨_,o,ho,_⟩:=I.ok.funs.mem hb;exact I.base.free b o ho (I.ok.frf b hb) λz=>I.ok.exfs b z hb
theorem Inv.step{t':Nat}{d':Drawn}{ch:List Addr}(I:Inv X Nc σ H s)
 (hch:∀b∈ch,(b∈X.ex\/X.WZ.heap.objs.size<=b)/\b≠X.env.locals/\(∀x c,X.env.cells.lookup x=some c->c≠b)/\∀p∈X.pn++Nc,p.1≠b)
 (keep:∀b o,b≠X.env.locals->b∉X.fs->b∉ch->s.heap.get? b=some o->H b=none->h'.get? b=some o)
 (slot:∀b o,b≠X.env.locals->b∈X.fs->b∉ch->s.heap.get? b=some o->H b=none->∃sl,h'.get? b=some {o with slots:=sl}) (free:∀b o,b∉ch->s.heap.get? b=some o->H b=none->H' b=none)
 (there:∀b o,b∉ch->s.heap.get? b=some o->∃o',h'.get? b=some o')
 (tups:∀b xs,H b=some (.tup xs)->H' b=some (.tup xs)) (frzs:∀b o u,H b=some (.frz o u)->H' b=some (.frz o u)) (tbls:∀b ps,H b=some (.tbl ps)->∃more,H' b=some (.tbl (ps++more)))
 (ns:∀m,s.heap.Ns X.env.locals m->h'.Ns X.env.locals m) (hok:HOk X.prog X.w H' h') (hg:YD g'):
 Inv X Nc σ H' {s with heap:=h',gens:=g',drawn:=d',toks:=t'}:=by
 have neL:∀b o,X.WZ.heap.get? b=some o->b≠X.env.locals:=λb o e=>zL (zN (zv e) I.ok.above);have neC:∀b o,X.WZ.heap.get? b=some o->b∉X.ex->b∉ch:=λb o e hx hb=>by
  rcases (hch b hb).1 with z|z
  ·exact hx z
  ·exact absurd (zN (zv e) z) (yk _)
 have cellK:∀x c,X.env.cells.lookup x=some c->∀v,s.heap.IsCell c v->h'.IsCell c v:=λx c e v ⟨o,ho,hd⟩=>by
  have nch:c∉ch:=λz=>(hch c z).2.2.1 x c e rfl;by_cases hc:c∈X.fs
  ·obtain⟨sl,q⟩:=slot c o (I.cne x c e) hc nch ho (I.freeC x c e);exact⟨_,q,hd⟩
  ·exact⟨o,keep c o (I.cne x c e) hc nch ho (I.freeC x c e),hd⟩
 refine⟨I.ok,I.os,hg,⟨λb o e n hb hx=>?_,λb o e n hb hx=>?_,λb o e n hx=>?_,λb o e hx=>?_,λb xs e=>tups b xs (I.base.tups b xs e),λb o xs e=>frzs b o xs (I.base.frzs b o xs e),λb ps e=>?_⟩,?_,λx c e=>?_,?_,λx c e=>?_,λp hp=>?_,hok,I.len⟩
 ·exact keep b o (neL b o e) hb (neC b o e hx) (I.base.keep b o e n hb hx) (I.base.free b o e n hx)
 ·obtain⟨sl,e1⟩:=I.base.slot b o e n hb hx;obtain⟨sl',e2⟩:=slot b _ (neL b o e) hb (neC b o e hx) e1 (I.base.free b o e n hx);exact⟨sl',e2⟩
 ·obtain⟨o',e1⟩:=I.base.there b o e hx;exact free b o' (neC b o e hx) e1 (I.base.free b o e n hx)
 ·obtain⟨o',e1⟩:=I.base.there b o e hx;exact there b o' (neC b o e hx) e1
 ·obtain⟨m1,e1⟩:=I.base.tbls b ps e;obtain⟨m2,e2⟩:=tbls b _ e1;exact⟨m1++m2,by rw[e2,JK]⟩
 · obtain⟨m,hn,hl⟩:=I.loc;refine⟨m,ns m hn,λi x v e1 e2 e3=>?_⟩;obtain⟨u,r,l⟩:=hl i x v e1 e2 e3;refine⟨u,r,?_⟩;rcases l with l|⟨k,c,e,z⟩
   ·exact .inl l
   ·exact .inr ⟨k,c,e,cellK x c e _ z⟩
 ·obtain⟨v,z⟩:=I.cell x c e;exact⟨v,cellK x c e v z⟩
 ·obtain⟨m,⟨o,_,_,ho,_⟩,_⟩:=I.loc;exact free _ o (λz=>(hch _ z).2.1 rfl) ho I.free
 ·obtain⟨v,o,ho,hd⟩:=I.cell x c e;exact free c o (λz=>(hch c z).2.2.1 x c e rfl) ho (I.freeC x c e)
 ·obtain⟨e,n,ne,nf,d⟩:=I.pin p hp;have nch:p.1∉ch:=λz=>(hch p.1 z).2.2.2 p hp rfl;exact⟨keep p.1 p.2 ne nf nch e n,free p.1 p.2 nch e n,ne,nf,d⟩
theorem Inv.un(I:Inv X Nc σ H s)(u:Un X.fs [] H H' s.heap h')(hok:HOk X.prog X.w H' h'):Inv X Nc σ H' {s with heap:=h',toks:=t'}:=by
 obtain⟨m,⟨o,es,ep,ho,r⟩,_⟩:=id I.loc;obtain⟨sl,hL⟩:=u.any ho I.free (by simp);exact I.step (g':=s.gens) (d':=s.drawn) (ch:= []) (λ_ z=>nomatch z) (λb o _ hb _ e n=>u.keep b o e n hb (by simp)) (λb o _ hb _ e n=>u.slot b o e n hb (by simp)) (λb o _ e n=>u.free b o e n (by simp)) (λb o _ e=>u.there b o e (by simp)) u.tups u.frzs u.tbls (λm' hm=>by obtain⟨o',Qb,ep',ho',r'⟩:=hm;rw[ho]at ho';cases ho';exact⟨_,Qb,ep',hL,r'⟩) hok I.bare
theorem Inv.call{t':Nat}{d':Drawn}{ch:List Addr}(I:Inv X Nc σ H s)(u:Un (frs X.stack) ch H H' s.heap h')(hok:HOk X.prog X.w H' h')(hg:YD g')
 (hch:∀b∈ch,(b∈X.ex\/X.WZ.heap.objs.size<=b)/\b≠X.env.locals/\(∀x c,X.env.cells.lookup x=some c->c≠b)/\∀p∈X.pn++Nc,p.1≠b):
 Inv X Nc σ H' {s with heap:=h',gens:=g',drawn:=d',toks:=t'}:=by
 obtain⟨m,⟨o,es,ep,ho,r⟩,_⟩:=id I.loc;obtain⟨sl,hL⟩:=u.any ho I.free λz=>(hch _ z).2.1 rfl;exact I.step (ch:=ch) hch (λb o hL hb hc e n=>u.keep b o e n (λz=>(zI.mp (I.stkSub b z)).elim hL hb) hc) (λb o _ _ hc e n=>u.any e n hc) (λb o hc e n=>u.free b o e n hc) (λb o hc e=>u.there b o e hc) u.tups u.frzs u.tbls (λm' hm=>by obtain⟨o',Qb,ep',ho',r'⟩:=hm;rw[ho]at ho';cases ho';exact⟨_,Qb,ep',hL,r'⟩) hok hg
theorem Inv.turned{t':Nat}(I:Inv X Nc σ H s)(k:∀b o,b≠it->s.heap.get? b=some o->h'.get? b=some o)(hn:H it=none)(hL:it≠X.env.locals)
 (h1:it∈X.ex\/X.WZ.heap.objs.size<=it) (h2:∀x c,X.env.cells.lookup x=some c->c≠it) (h3:∀p∈X.pn++Nc,p.1≠it):Inv X Nc σ H {s with heap:=h',toks:=t'}:=by
 have nit:∀b u,H b=some u->b≠it:=λb u e z=>by rw[z,hn]at e;cases e
 refine I.step (g':=s.gens) (d':=s.drawn) (ch:= [it]) (λb hb=>?_) (λb o _ _ hc e _=>k b o (λz=>hc (by simp[z])) e) (λb o _ _ hc e _=>⟨o.slots,k b o (λz=>hc (by simp[z])) e⟩) (λ_ _ _ _ n=>n)
  (λb o hc e=>⟨o,k b o (λz=>hc (by simp[z])) e⟩) (λ_ _ e=>e) (λ_ _ _ e=>e) (λb ps e=>⟨#[],by rw[e];simp⟩) (λm hm=>?_) (λb u e=>?_) I.bare
 · have e:b=it:=by simpa using hb
   subst e;exact⟨h1,hL,h2,h3⟩
 ·obtain⟨o,es,ep,ho,r⟩:=hm;exact⟨o,es,ep,k _ o (Ne.symm hL) ho,r⟩
 · refine(I.hok b u e).stay (λc v hc q=>k c v ?_ q) (λ_ q=>q) λ_ _ q=>q;rcases hc with z|z
   ·rw[z];exact nit b u e
   ·exact nit c _ z
theorem Inv.tok(I:Inv X Nc σ H s)(t:Nat):Inv X Nc σ H {s with toks:=t}:=I.un (h':=s.heap) (t':=t) Un.refl I.hok
theorem Inv.kept(I:Inv X Nc σ H s)(k:∀b u,s.heap.get? b=some u->h'.get? b=some u):Inv X Nc σ H {s with heap:=h',toks:=t'}:=I.un (Un.kept k) (I.hok.kept k)
theorem Inv.laid(I:Inv X Nc σ H s)(k:∀b u,s.heap.get? b=some u->h'.get? b=some u)(hp:s.heap.objs.size<=a)(new:O6 X.prog X.w (upd H a o) h' a o):
 Inv X Nc σ (upd H a o) {s with heap:=h',toks:=t'}:=I.un (Un.laid k hp (I.hok.fresh hp)) (I.hok.laid k hp new)
theorem Inv.write(I:Inv X Nc σ H s)(mu:Mut (H x))(he:e=x\/H e=some (.own x))(k:∀b u,b≠e->s.heap.get? b=some u->h'.get? b=some u)(heo:∃u,h'.get? e=some u)
 (new:O6 X.prog X.w (upd H x o) h' x o):Inv X Nc σ (upd H x o) {s with heap:=h',toks:=t'}:=I.un (Un.write mu he k heo) (I.hok.write mu he k heo new)
theorem Inv.pins_of(I:Inv X Nc σ H s)(h:∀p∈pins',s.heap.get? p.1=some p.2/\H p.1=none/\p.1≠X.env.locals/\p.1∉X.fs/\∀v,p.2.data≠ .cell v):Inv X pins' σ H s:=
 ⟨I.ok,I.os,I.bare,I.base,I.loc,I.cell,I.free,I.freeC,λp hp=>(zO.mp hp).elim (λz=>I.pin p (yd _ z)) (h p),I.hok,I.len⟩
theorem DK{N:List Str}(hN:N.Nodup){i j:Nat}{x:Str}(a:N[i]? =some x)(b:N[j]? =some x):i=j:=by obtain⟨h1,e1⟩:=yy.mp a;obtain⟨h2,e2⟩:=yy.mp b;exact(Zw hN).mp (e1.trans e2.symm)
theorem Hz{M:Model}{A:jd}{E:VSP}{i:Nat}{x:Str}{v:V}{u:zi}{Q:Unit->zm->Prop}(I:Inv X Nc σ H s)(hN:X.N.Nodup)(hi:X.N[i]? =some x)(hx:Loc X.env.scope x)(r:o7 v u)
 (h:∀s',Inv X Nc (σ.set i (some v)) H s'->(∃a,yj a s.heap s'.heap/\(a=X.env.locals\/X.env.cells.lookup x=some a))->Q () s') (hf:X.fn x=true\/X.env.scope.names.lookup x=some .local):zw M A (storeName X.env x u) Q E s:=by
 obtain⟨m,hn,hl⟩:=id I.loc;have hcls:(X.env.scope.kind == .class||(X.env.scope.kind == .module&&X.env.locals != X.env.globals))=false:=by rw[I.ok.kind];rfl
 have hiσ:i<σ.length:=by rw[I.len];exact(yy.mp hi).1
 have cne:=I.cne;have tracked:∀ {a:Addr} {h':Heap},(∃o,s.heap.get? a=some o/\H a=none)->yj a s.heap h'->HOk X.prog X.w H h':=λ{a h'} ha hs b ob e=>by
  obtain⟨_,_,hfree⟩:=ha;refine(I.hok b ob e).stay (λc w' hc q=>(hs.2 c ?_).trans q) (λ_ q=>q) λ_ _ q=>q;rintro rfl;rcases hc with rfl|hc
  ·rw[hfree]at e;cases e
  ·rw[hfree]at hc;cases hc
 rcases hx with hk|hk
 · refine wpAny_storeName_local hk hn (λh' hn' hs=>?_) hcls;obtain⟨oL,_,_,hoL,_⟩:=id hn;refine h _ ⟨I.ok,I.os,I.bare,⟨λb o e n hb hx=>?_,λb o e n hb hx=>?_,I.base.free,λb o e hx=>?_,I.base.tups,I.base.frzs,I.base.tbls⟩,⟨_,hn',λj y v' e1 e2 e3=>?_⟩,λy c e=>?_,I.free,I.freeC,λp hp=>?_,tracked ⟨oL,hoL,I.free⟩ hs,by simpa using I.len⟩ ⟨_,hs,.inl rfl⟩
   ·exact(hs.2 b (zL (zN (zv e) I.ok.above))).trans (I.base.keep b o e n hb hx)
   ·obtain⟨sl,e1⟩:=I.base.slot b o e n hb hx;exact⟨sl,(hs.2 b (zL (zN (zv e) I.ok.above))).trans e1⟩
   ·obtain⟨o',e1⟩:=I.base.there b o e hx;exact⟨o',(hs.2 b (zL (zN (zv e) I.ok.above))).trans e1⟩
   · by_cases hj:j=i
     · subst hj;rw[hi]at e1;cases e1;rw[zY hiσ]at e2
       cases e2
       exact⟨u,r,.inl ⟨hk,by simp⟩⟩
     · rw[zG (Ne.symm hj)]at e2;obtain⟨u',r',q⟩:=hl j y v' e1 e2 e3;refine⟨u',r',?_⟩;rcases q with⟨k,e⟩|⟨k,c,e,z⟩
       ·refine .inl ⟨k,?_⟩;have:y≠x:=λe=>hj (DK hN e1 (e▸hi));simp[this,e]
       ·exact .inr ⟨k,c,e,z.sameBut hs (cne y c e)⟩
   ·obtain⟨w',z⟩:=I.cell y c e;exact⟨w',z.sameBut hs (cne y c e)⟩
   ·obtain⟨e,n,ne,nf,d⟩:=I.pin p hp;exact⟨(hs.2 p.1 ne).trans e,n,ne,nf,d⟩
 · have hfn:X.fn x=true:=by
    rcases hf with z|z
    ·exact z
    ·rw[z]at hk;cases hk
   obtain⟨c,hc⟩:=I.ok.has x (.inl hk);obtain⟨w',z⟩:=I.cell x c hc;refine wpAny_storeName_cell I.ok.kind hk hc z (λh' hc' hs=>?_);obtain⟨oc,hoc,hocd⟩:=id z;refine h {s with heap:=h'} ⟨I.ok,I.os,I.bare,⟨λb o e n hb hx=>?_,λb o e n hb hx=>?_,I.base.free,λb o e hx=>?_,I.base.tups,I.base.frzs,I.base.tbls⟩,⟨m,hn.sameBut hs (Ne.symm (cne x c hc)),λj y v' e1 e2 e3=>?_⟩,λy c' e=>?_,I.free,I.freeC,λp hp=>?_,tracked ⟨oc,hoc,I.freeC x c hc⟩ hs,by simpa using I.len⟩ ⟨c,hs,.inr hc⟩
   ·exact(hs.2 b (zL (zN (zv e) (I.ok.cab x c hfn hc)))).trans (I.base.keep b o e n hb hx)
   ·obtain⟨sl,e1⟩:=I.base.slot b o e n hb hx;exact⟨sl,(hs.2 b (zL (zN (zv e) (I.ok.cab x c hfn hc)))).trans e1⟩
   ·obtain⟨o',e1⟩:=I.base.there b o e hx;exact⟨o',(hs.2 b (zL (zN (zv e) (I.ok.cab x c hfn hc)))).trans e1⟩
   · by_cases hj:j=i
     · subst hj;rw[hi]at e1;cases e1;rw[zY hiσ]at e2
       cases e2
       exact⟨u,r,.inr ⟨.inl hk,c,hc,hc'⟩⟩
     · rw[zG (Ne.symm hj)]at e2;obtain⟨u',r',q⟩:=hl j y v' e1 e2 e3;refine⟨u',r',?_⟩;rcases q with q|⟨k,c',e,z'⟩
       ·exact .inl q
       ·refine .inr ⟨k,c',e,z'.sameBut hs ?_⟩;rintro rfl;exact hj (DK hN e1 (I.ok.inj _ _ _ e hc▸hi))
   · by_cases hcc:c'=c
     ·subst hcc;exact⟨_,hc'⟩
     ·obtain⟨w2,z2⟩:=I.cell y c' e;exact⟨w2,z2.sameBut hs hcc⟩
   ·obtain⟨e,n,ne,nf,d⟩:=I.pin p hp;refine⟨(hs.2 p.1 ?_).trans e,n,ne,nf,d⟩;intro q;rw[q,hoc]at e;have q':oc=p.2:=jo e;exact d w' (by rw[<-q'];exact hocd)
theorem vb(I:Inv X Nc σ H s)(hN:X.N.Nodup)(hi:X.N[i]? =some x)(hx:Loc X.env.scope x)(r:o7 v u)
 (h:∀s',Inv X Nc (σ.set i (some v)) H s'->Q () s') (hf:X.fn x=true\/X.env.scope.names.lookup x=some .local):zw M A (storeName X.env x u) Q E s:=
 Hz I hN hi hx r (λs' I' _=>h s' I') hf
end
abbrev XK:=zi->Option Addr->Hp->Prop
abbrev St:=List (Option V)
abbrev VK:=V->Hp->Prop
abbrev TE:=St->Hp->VK->Prop
abbrev TT:=St->Hp->(Bool->Hp->Prop)->Prop
abbrev TA:=St->Hp->(List V->Hp->Prop)->Prop
structure cA where
 nx:St->Hp->Prop
 rt:VK
 bk:St->Hp->Prop:=λ_ _=>False
 ct:St->Hp->Prop:=λ_ _=>False
abbrev TS:=cA->St->Hp->Prop
def EP(X:Cx)(Nc:PNS)(σ:St)(Q:VK)(u:zi)(s':zm):Prop:=∃v H',Inv X Nc σ H' s'/\o7 v u/\Q v H'
def TP(X:Cx)(Nc:PNS)(σ:St)(Q:Bool->Hp->Prop)(b:Bool)(s':zm):Prop:=∃H',Inv X Nc σ H' s'/\Q b H'
def AP(X:Cx)(Nc:PNS)(σ:St)(Q:List V->Hp->Prop)(us:List zi)(s':zm):Prop:=∃vs H',Inv X Nc σ H' s'/\o5 vs us/\Q vs H'
theorem EP.elim{X:Cx}{σ:St}{Q:VK}{u:zi}{P:Prop}(h:EP X Nc σ Q u s)(k:∀v H,Inv X Nc σ H s->o7 v u->Q v H->P):P:=by obtain⟨a,b,c,d,e⟩:=h;exact k a b c d e
theorem TP.elim{X:Cx}{σ:St}{u:Bool}{s:zm}{P:Prop}(h:TP X Nc σ Q u s)(k:∀H,Inv X Nc σ H s->Q u H->P):P:=by obtain⟨b,c,e⟩:=h;exact k b c e
theorem AP.elim{X:Cx}{σ:St}{u:List zi}{s:zm}{P:Prop}(h:AP X Nc σ Q u s)(k:∀v H,Inv X Nc σ H s->o5 v u->Q v H->P):P:=by obtain⟨a,b,c,d,e⟩:=h;exact k a b c d e
def SP(X:Cx)(Nc:PNS)(D:cA)(f:Flow)(s':zm):Prop:=
 match f with
 | .next=>∃ X1 H',Inv X Nc X1 H' s'/\D.nx X1 H'
 | .brk=>∃ X1 H',Inv X Nc X1 H' s'/\D.bk X1 H'
 | .cont=>∃ X1 H',Inv X Nc X1 H' s'/\D.ct X1 H'
 | .ret u=>∃v X1 H',Inv X Nc X1 H' s'/\o7 v u/\D.rt v H'
def PE(X:Cx)(e:Expr)(t:TE):Prop:=
 ∀(Nc:PNS) (s:zm) (σ:St) (H:Hp) (Q:VK),Inv X Nc σ H s->t σ H Q->zw (zF X.prog X.w) X.A (eval e X.env) (EP X Nc σ Q) X.xe s
def PT(X:Cx)(e:Expr)(t:TT):Prop:=
 ∀(Nc:PNS) (s:zm) (σ:St) (H:Hp) (Q:Bool->Hp->Prop),Inv X Nc σ H s->t σ H Q->zw (zF X.prog X.w) X.A (isTrue e X.env (eval e X.env)) (TP X Nc σ Q) X.xe s
def PW(X:Cx)(e:Expr)(t:TT):Prop:=
 ∀(whole:Sem zi) (Nc:PNS) (s:zm) (σ:St) (H:Hp) (Q:Bool->Hp->Prop),Inv X Nc σ H s->t σ H Q->zw (zF X.prog X.w) X.A (isTrue e X.env whole) (TP X Nc σ Q) X.xe s
def PA(X:Cx)(es:List Expr)(t:TA):Prop:=
 ∀(pos:Pos) (Nc:PNS) (s:zm) (σ:St) (H:Hp) (Q:List V->Hp->Prop),Inv X Nc σ H s->t σ H Q->zw (zF X.prog X.w) X.A (spliced (yZ pos (zW es X.env))) (AP X Nc σ Q) X.xe s
def PS(X:Cx)(st:Stmt)(t:TS):Prop:=
 ∀(Nc:PNS) (s:zm) (σ:St) (H:Hp) (D:cA),Inv X Nc σ H s->t D σ H->zw (zF X.prog X.w) X.A (exec st X.env) (SP X Nc D) X.xe s
def PSs(X:Cx)(st:List Stmt)(t:TS):Prop:=
 ∀(Nc:PNS) (s:zm) (σ:St) (H:Hp) (D:cA),Inv X Nc σ H s->t D σ H->zw (zF X.prog X.w) X.A (execs st X.env) (SP X Nc D) X.xe s
theorem thn(h:zw M A t Q E s)(hQ:∀a s,Q a s->Q' a s):zw M A t Q' E s:=jG h hQ λ_ _ x=>x
section
variable{X:Cx}
def EJ(i:Nat):TE:=λσ H Q=>∃v,σ[i]? =some (some v)/\Q v H
def tC(v:V):TE:=λ_ H Q=>Q v H
theorem BP(hN:X.N[i]? =some x)(hv:Vis X.env.scope x)(hd:(x==("__debug__" :Str))=false)(hcd:(x==("__classdict__" :Str))=false):PE X (.Name x pos) (EJ i):=by
 intro Nc s σ H Q I h;obtain⟨v,e,h⟩:=h;obtain⟨m,hn,hl⟩:=I.loc;obtain⟨u,r,l⟩:=hl i x v hN e hv;have fin:EP X Nc σ Q u s:=⟨v,H,I,r,h⟩;rcases l with⟨hk,hm⟩|⟨hk,c,hc,hcell⟩
 ·exact wpAny_Name (wpAny_loadName_local I.ok.kind hk hn hm fin) hd
 · rcases hk with hk|hk
   ·exact wpAny_Name (wpAny_loadName_cell I.ok.kind hk hc hcell fin) hd
   ·exact wpAny_Name (wpAny_loadName_free I.ok.kind hk hc hcell fin hcd) hd
theorem aN{i j pos}:PE X (.Constant (.int i) j pos) (tC (.int i)):=λ_ _ _ H _ I h=>wpAny_Constant_int ⟨.int i,H,I.tok _,⟨_,rfl⟩,h⟩
theorem oR{b j pos}:PE X (.Constant (.bool b) j pos) (tC (.bl b)):=λ_ _ _ H _ I h=>Constant_bool ⟨.bl b,H,I,rfl,h⟩
theorem Gh{j pos}:PE X (.Constant .none j pos) (tC .non):=λ_ _ _ H _ I h=>Constant_none ⟨.non,H,I,rfl,h⟩
theorem Dw{x j pos}:PE X (.Constant (.str x) j pos) (tC (.str x)):=λ_ _ _ H _ I h=>Calls.Constant_str ⟨.str x,H,I.tok _,⟨_,rfl⟩,h⟩
def Gl(X:Cx)(x:Str):Prop:=X.env.kindOf x=some .globalImplicit
theorem gI(I:Inv X Nc σ H s)(hg:Gl X x)(hm:X.mg x=some u)(h:Q u s)
 (hd:(x==("__debug__" :Str))=false):zw (zF X.prog X.w) X.A (eval (.Name x pos) X.env) Q E s:=
 Xo I.ok.kind hg (Calls.loadGlobal_global (by rw[I.ok.glob];exact I.mod.glob.keeps I.bk) hm h) hd
theorem oB(I:Inv X Nc σ H s)(hg:Gl X x)(hm:X.mg x=none)(hv:jj x=some u)(h:Q u s)
 (hn:x≠ "__name__":=by decide) (hd:(x==("__debug__" :Str))=false:=by decide):zw (zF X.prog X.w) X.A (eval (.Name x pos) X.env) Q E s:=by
 obtain⟨mb,h1,h2⟩:=I.mod.blt;exact Xo I.ok.kind hg (Calls.loadGlobal_builtin (by rw[I.ok.glob];exact I.mod.glob.keeps I.bk) hm (by rw[I.ok.blt];exact h1.keeps I.bk) ((h2 x hn).trans hv) h) hd
theorem QV(hg:Gl X x)(hm:X.mg x=none)(hv:jj x=some u)(r:o7 v u)(hn:x≠ "__name__")(hd:(x==("__debug__" :Str))=false):PE X (.Name x pos) (tC v):=
 λ_ _ _ H _ I h=>oB I hg hm hv ⟨v,H,I,r,h⟩ hn hd
variable{a b:Expr}{ta tb:TE}{pos:Pos}
variable{tA tB':TT}{rest:List Expr}
def qQ(t u:TT):TT:=λσ H Q=>t σ H λc H1=>if c=true then u σ H1 Q else Q false H1
def tOr(t u:TT):TT:=λσ H Q=>t σ H λc H1=>if c=true then Q true H1 else u σ H1 Q
theorem rY(ha:PT X a tA):PW X (.BoolOp .And [a] pos) tA:=by
 intro wh Nc s σ H Q I h;refine isTrue_and (thn (ha Nc s σ H Q I h) λc s1 e=>?_)
 cases c with
 |true=>exact isTrue_and_nil e
 |false=>exact e
theorem Dz(ha:PT X a tA):PW X (.BoolOp .Or [a] pos) tA:=by
 intro wh Nc s σ H Q I h;refine isTrue_or (thn (ha Nc s σ H Q I h) λc s1 e=>?_)
 cases c with
 |false=>exact isTrue_or_nil e
 |true=>exact e
theorem mZ(ha:PT X a tA)(hb:PW X (.BoolOp .And (b::rest) pos) tB'):PW X (.BoolOp .And (a::b::rest) pos) (qQ tA tB'):=by
 intro wh Nc s σ H Q I h;refine isTrue_and (thn (ha Nc s σ H _ I h) λc s1 Nw=>Nw.elim λH1 I1 q1=>?_)
 cases c with
 |true=>exact hb wh Nc s1 σ H1 Q I1 q1
 |false=>exact⟨H1,I1,q1⟩
theorem LX(ha:PT X a tA)(hb:PW X (.BoolOp .Or (b::rest) pos) tB'):PW X (.BoolOp .Or (a::b::rest) pos) (tOr tA tB'):=by
 intro wh Nc s σ H Q I h;refine isTrue_or (thn (ha Nc s σ H _ I h) λc s1 Nw=>Nw.elim λH1 I1 q1=>?_)
 cases c with
 |true=>exact⟨H1,I1,q1⟩
 |false=>exact hb wh Nc s1 σ H1 Q I1 q1
theorem hZ{op}(h:PE X a t):PE X (.BoolOp op [a] pos) t:=λNc s σ H Q I hw=>BoolOp_one (h Nc s σ H Q I hw)
def tIf(t:TT)(ta tb:TE):TE:=λσ H Q=>t σ H λc H1=>if c=true then ta σ H1 Q else tb σ H1 Q
theorem Bp(hc:PT X c tA)(ha:PE X a ta)(hb:PE X b tb):PE X (.IfExp c a b pos) (tIf tA ta tb):=by
 intro Nc s σ H Q I h;refine wpAny_IfExp (thn (hc Nc s σ H _ I h) λd s1 Nw=>Nw.elim λH1 I1 q1=>?_)
 cases d with
 |true=>exact ha Nc s1 σ H1 Q I1 q1
 |false=>exact hb Nc s1 σ H1 Q I1 q1
end
def SqL(K:zg)(H:Hp)(a:Addr)(xs:List V):Prop:=
 Rd H a (.lst xs)\/
  ∃(o:Obj) (Nf:Array zi) (n:Nat),K.lookup a=some o/\o.cls= .type "list"/\o.dict=none/\o.data= .seq Nf n/\Nf.size<=zk/\o5 xs Nf.toList
def SqT(K:zg)(H:Hp)(a:Addr)(xs:List V):Prop:=
 Rd H a (.tup xs)\/
  ∃(o:Obj) (Nf:Array zi) (n:Nat),K.lookup a=some o/\o.cls= .type "tuple"/\(o.data,o.dict)= (Data.seq Nf n,none)/\Nf.size<=zk/\o5 xs Nf.toList
def oU:zi->Option V
 | .none=>some .non
 | .bool b=>some (.bl b)
 | .int i _=>some (.int i)
 | .str x _=>some (.str x)
 | .bytes b _=>some (.byt b)
 | .float b _=>some (.flt b)
 | .ref a=>some (.ref a)
 | .type n=>some (.ty n)
 |_=>none
theorem o7.abs(r:o7 x u):oU u=some x:=by
 cases x with
 |non=>cases r;rfl
 |bl _=>cases r;rfl
 |int _=>obtain⟨t,rfl⟩:=r;rfl
 |str _=>obtain⟨t,rfl⟩:=r;rfl
 |byt _=>obtain⟨t,rfl⟩:=r;rfl
 |flt _=>obtain⟨t,rfl⟩:=r;rfl
 |ref _=>cases r;rfl
 |ty _=>cases r;rfl
theorem o7.inj(r:o7 x u)(q:o7 y u):x=y:=jo (r.abs.symm.trans q.abs)
theorem o5.inj(h:o5 xs us)(k:o5 ys us):xs=ys:=by
 induction h generalizing ys with
 |nil=>cases k;rfl
 |cons r t ih=>cases k with
   |cons r' t'=>rw[r.inj r',ih t']
section
theorem SqL.of{K:zg}(h:H a=some (.lst xs)):SqL K H a xs:=.inl (.inl h)
theorem SqT.of{K:zg}(h:H a=some (.tup xs)):SqT K H a xs:=.inl (.inl h)
theorem Inv.list(I:Inv X Nc σ H s)(h:SqL X.K H a xs):∃Nf:List zi,o5 xs Nf/\PlainL s.heap a Nf.toArray/\xs.length<=zk:=by
 rcases h with h|⟨o,Nf,n,hk,hc,hd,hs,hz,r⟩
 ·obtain⟨z,Nf,n,r,e⟩:=h.ok I.hok;exact⟨Nf,r,⟨_,n,e,rfl,rfl,rfl⟩,z⟩
 ·refine⟨Nf.toList,r,⟨o,n,I.kIn a o hk,hc,hd,by simpa using hs⟩,?_⟩;have e:=r.length;simp only[zC]at e;lia
theorem Inv.tuple(I:Inv X Nc σ H s)(h:SqT X.K H a xs):∃Nf:List zi,o5 xs Nf/\XT s.heap a Nf.toArray/\xs.length<=zk:=by
 rcases h with h|⟨o,Nf,n,hk,hc,hs,hz,r⟩
 ·obtain⟨z,Nf,r,p⟩:=h.ok I.hok;exact⟨Nf,r,L6.tup p,z⟩
 ·refine⟨Nf.toList,r,⟨o,I.kIn a o hk,hc,n,by simpa using (xn hs).1⟩,?_⟩;have e:=r.length;simp only[zC]at e;lia
theorem Inv.list_inj(I:Inv X Nc σ H s)(h:SqL X.K H a xs)(h':SqL X.K H a ys):xs=ys:=by
 obtain⟨Nf,r,⟨o,n,e,_,_,d⟩,_⟩:=I.list h;obtain⟨its',r',⟨o',n',e',_,_,d'⟩,_⟩:=I.list h';rw[e]at e';cases e';rw[d]at d';injection d' with d1 _;have:Nf=its':=by simpa using congrArg Array.toList d1
 subst this;exact r.inj r'
theorem Inv.tuple_inj(I:Inv X Nc σ H s)(h:SqT X.K H a xs)(h':SqT X.K H a ys):xs=ys:=by
 obtain⟨Nf,r,⟨o,e,_,n,d⟩,_⟩:=I.tuple h;obtain⟨its',r',⟨o',e',_,n',d'⟩,_⟩:=I.tuple h';rw[e]at e';cases e';rw[d]at d';injection d' with d1 _;have:Nf=its':=by simpa using congrArg Array.toList d1
 subst this;exact r.inj r'
end
abbrev Cx.wish(X:Cx)(E:VSP):Cx:={X with xe:=E}
abbrev Cx.nox(X:Cx):Cx:=X.wish λ_ _=>False
theorem Cx.Ok.wish{X:Cx}(ok:X.Ok)(E:VSP):(X.wish E).Ok:=
 ⟨ok.mod,ok.kind,ok.glob,ok.blt,ok.above,ok.inj,ok.has,ok.cab,ok.hd,ok.frames,ok.stk,ok.exf,ok.bs,ok.bsz,ok.noex,ok.exfs,ok.funs,ok.frf,ok.gd⟩
theorem Cx.Ok.unwish{X:Cx}(ok:(X.wish E).Ok):X.Ok:=
 ⟨ok.mod,ok.kind,ok.glob,ok.blt,ok.above,ok.inj,ok.has,ok.cab,ok.hd,ok.frames,ok.stk,ok.exf,ok.bs,ok.bsz,ok.noex,ok.exfs,ok.funs,ok.frf,ok.gd⟩
section
theorem Inv.wish(I:Inv X Nc σ H s)(E:VSP):Inv (X.wish E) Nc σ H s:=⟨I.ok.wish E,I.os,I.bare,I.base,I.loc,I.cell,I.free,I.freeC,I.pin,I.hok,I.len⟩
theorem Inv.unwish(I:Inv (X.wish E) Nc σ H s):Inv X Nc σ H s:=⟨I.ok.unwish,I.os,I.bare,I.base,I.loc,I.cell,I.free,I.freeC,I.pin,I.hok,I.len⟩
theorem SP.unwish(h:SP (X.wish E) Nc D f s'):SP X Nc D f s':=by
 cases f with
 |next=>obtain⟨X1,H',I,q⟩:=h;exact⟨X1,H',I.unwish,q⟩
 |brk=>obtain⟨X1,H',I,q⟩:=h;exact⟨X1,H',I.unwish,q⟩
 |cont=>obtain⟨X1,H',I,q⟩:=h;exact⟨X1,H',I.unwish,q⟩
 |ret u=>obtain⟨v,X1,H',I,r,q⟩:=h;exact⟨v,X1,H',I.unwish,r,q⟩
theorem PE.nox(h:PE X.nox e t):PE X e t:=λNc s σ H Q I hw=>
 jG (h Nc s σ H Q (I.wish _) hw) (λ_ _ ⟨v,H',I',r,q⟩=>⟨v,H',I'.unwish,r,q⟩) λ_ _ z=>yn z
theorem PT.nox(h:PT X.nox e t):PT X e t:=λNc s σ H Q I hw=>
 jG (h Nc s σ H Q (I.wish _) hw) (λ_ _ ⟨H',I',q⟩=>⟨H',I'.unwish,q⟩) λ_ _ z=>yn z
theorem PSs.nox{st:List Stmt}(h:PSs X.nox st t):PSs X st t:=λNc s σ H D I hw=>
 jG (h Nc s σ H D (I.wish _) hw) (λ_ _ q=>q.unwish) λ_ _ z=>yn z
end
section
variable{X:Cx}{st:Stmt}{rest:List Stmt}{t u:TS}
def Mq:TS:=λD σ H=>D.nx σ H
def eW(t u:TS):TS:=λD σ H=>t {D with nx:=u D} σ H
theorem eY:PSs X [] Mq:=λ_ _ σ H _ I h=>Yh ⟨σ,H,I,h⟩
theorem Fw(h1:PS X st t)(h2:PSs X rest u):PSs X (st::rest) (eW t u):=by
 intro Nc s σ H D I h;refine wpAny_execs_cons (thn (h1 Nc s σ H {D with nx:=u D} I h) λf s1 q=>?_)
 cases f with
 |next=>
   obtain⟨X1,H',I',q⟩:=q;exact h2 Nc s1 X1 H' D I' q
 |ret v=>exact q
 |brk=>exact q
 |cont=>exact q
theorem Mm(h1:PS X st t):PSs X [st] t:=by
 intro Nc s σ H D I h;refine wpAny_execs_cons (thn (h1 Nc s σ H D I h) λf s1 q=>?_)
 cases f with
 |next=>exact Yh q
 |ret v=>exact q
 |brk=>exact q
 |cont=>exact q
theorem Inv.quiet(I:Inv X Nc σ H s):interactive X.env=false:=by simp[interactive,I.ok.kind]
def Gw(te:TE):TS:=λD σ H=>te σ H λ_ H1=>D.nx σ H1
theorem dR(he:PE X e te)(hs:JL e none pos.line X.env=pure false):PS X (.Expr e pos) (Gw te):=by intro Nc s σ H D I h;exact wpAny_Expr_any (thn (he Nc s σ H _ I h) λv s1 Nw=>Nw.elim λx H1 I1 r1 q1=>⟨σ,H1,I1,q1⟩) I.quiet hs
def rZ(te:TE):TS:=λD σ H=>te σ H D.rt
theorem kh(he:PE X e te):PS X (.Return (some e) pos) (rZ te):=by intro Nc s σ H D I h;exact wpAny_Return_some (thn (he Nc s σ H _ I h) λv s1 Nw=>Nw.elim λx H1 I1 r1 q1=>⟨x,σ,H1,I1,r1,q1⟩)
def uS(c:TT)(t u:TS):TS:=λD σ H=>c σ H λb H1=>if b=true then t D σ H1 else u D σ H1
theorem Gm{tc:TT}(hc:PT X c tc)(ha:PSs X a t)(hb:PSs X b u):PS X (.If c a b pos) (uS tc t u):=by
 intro Nc s σ H D I h;refine wpAny_If (thn (hc Nc s σ H _ I h) λd s1 Nw=>Nw.elim λH1 I1 q1=>?_)
 cases d with
 |true=>exact ha Nc s1 σ H1 D I1 q1
 |false=>exact hb Nc s1 σ H1 D I1 q1
end
abbrev TG:=V->St->Hp->(St->Hp->Prop)->Prop
abbrev TGs:=List V->St->Hp->(St->Hp->Prop)->Prop
def PG(X:Cx)(target:Expr)(t:TG):Prop:=
 ∀(Nc:PNS) (s:zm) (σ:St) (H:Hp) (v:V) (u:zi) (Q:St->Hp->Prop),Inv X Nc σ H s->o7 v u->t v σ H Q->
  zw (zF X.prog X.w) X.A (Ya target X.env u) (λ_ s'=>∃ X1 H',Inv X Nc X1 H' s'/\Q X1 H') X.xe s
def PGs(X:Cx)(ts:List Expr)(t:TGs):Prop:=
 ∀(Nc:PNS) (s:zm) (σ:St) (H:Hp) (vs:List V) (us:List zi) (Q:St->Hp->Prop),Inv X Nc σ H s->o5 vs us->t vs σ H Q->
  zw (zF X.prog X.w) X.A (assignInOrder ((xa ts X.env).map (·.2)) us) (λ_ s'=>∃ X1 H',Inv X Nc X1 H' s'/\Q X1 H') X.xe s
abbrev TSet:=V->V->V->Hp->(Hp->Prop)->Prop
def FG(X:Cx)(t:TSet):Prop:=
 ∀(Nc:PNS) (s:zm) (σ:St) (H:Hp) (o i v:V) (ov iv u:zi) (Q:Hp->Prop),Inv X Nc σ H s->o7 o ov->o7 i iv->o7 v u->t o i v H Q->
  zw (zF X.prog X.w) X.A (setItem ov iv u) (λ_ s'=>∃H',Inv X Nc σ H' s'/\Q H') X.xe s
section
def bQ(i:Nat):TG:=λv σ H Q=>Q (σ.set i (some v)) H
theorem lR(hN:X.N.Nodup)(hi:X.N[i]? =some x)(hx:Loc X.env.scope x)(hf:X.fn x=true\/X.env.scope.names.lookup x=some .local):PG X (.Name x pos) (bQ i):=by intro Nc s σ H v u Q I r h;exact wpAny_assign_Name (vb I hN hi hx r (λs' I'=>⟨_,H,I',h⟩) hf)
def WP:TGs:=λvs σ H Q=>vs= []/\Q σ H
def Bv(t:TG)(u:TGs):TGs:=λvs σ H Q=>∃v r,vs=v::r/\t v σ H λX1 H'=>u r X1 H' Q
theorem MT:PGs X [] WP:=by
 intro Nc s σ H vs us Q I r h;obtain⟨e,h⟩:=h;subst e
 cases r
 exact assignInOrder_nil ⟨σ,H,I,h⟩
theorem Bq(h1:PG X e t)(h2:PGs X es u)
 (hs:(xa (e::es) X.env).map (·.2)=Ya e X.env::(xa es X.env).map (·.2)):PGs X (e::es) (Bv t u):=by
 intro Nc s σ H vs us Q I r h;obtain⟨v,vr,e1,h⟩:=h;subst e1
 cases r with
 |cons r rr=>
   rw[hs];refine assignInOrder_cons (thn (h1 Nc s σ H _ _ _ I r h) λ_ s1 ⟨WW,H1,I1,q1⟩=>?_);exact h2 Nc s1 WW H1 _ _ Q I1 rr q1
def RX(K:zg)(n:Nat)(t:TGs):TG:=λv σ H Q=>∃a xs,v= .ref a/\SqT K H a xs/\xs.length=n/\t xs σ H Q
theorem Cj(hc:X.calm=true)(h:PGs X es t)
 (hn:(xa es X.env).length=n) (hst:(xa es X.env).findIdx? (·.1)=none):PG X (.Tuple es k pos) (RX X.K n t):=by
 intro Nc s σ H v u Q I r hw;obtain⟨a,xs,e1,hq,hl,hw⟩:=hw;subst e1
 cases r
 obtain⟨Nf,rv,ht,hz⟩:=I.tuple hq;refine assign_Tuple_tuple (I.ok.hd hc) ht (by simp[hn,<-hl,rv.length]) hst λh' hx=>?_;have I1:Inv X Nc σ H {s with heap:=h'}:=I.kept (t':=s.toks) λb o e=>hx b o (zL (zv e)) e;exact h Nc _ σ H xs _ Q I1 (by simpa using rv) hw
def eQ(to ti:TE)(t:TSet):TG:=λv σ H Q=>to σ H λo H1=>ti σ H1 λi H2=>t o i v H2 λH3=>Q σ H3
theorem OQ(ho:PE X o to)(hi:PE X i ti)(hs:FG X t)
 (ha:∀v,Ya (.Subscript o i pos) X.env v= (do
   let ov <-ZD [v] (eval o X.env)
   let iv <-ZD [v,ov] (eval i X.env)
   standAt pos
   ZD [v,ov,iv] (setItem ov iv v)
   release [v,ov,iv] [])):PG X (.Subscript o i pos) (eQ to ti t):=by
 intro Nc s σ H v u Q I r h;rw[ha];refine za (jw (thn (ho Nc s σ H _ I h) λov s1 ⟨x,H1,I1,r1,q1⟩=>?_));refine za (jw (thn (hi Nc s1 σ H1 _ I1 q1) λiv s2 ⟨y,H2,I2,r2,q2⟩=>?_));refine za (JA (za (jw (thn (hs Nc s2 σ H2 x y v ov iv u _ I2 r1 r2 r q2) λ_ s3 ⟨H3,I3,q3⟩=>?_))));exact wpAny_release ⟨σ,H3,I3,q3⟩
def vT(te:TE)(g:TG):TS:=λD σ H=>te σ H λx H1=>g x σ H1 D.nx
theorem Fj{g:TG}(he:PE X e te)(hg:PG X tg g)(hs:swapsWithSole [tg] e pos.line X.env=pure false)(hw:swappedStores [tg] e X.env=pure none)
 (h1:(xa [tg] X.env).map (·.2)= [Ya tg X.env]):PS X (.Assign [tg] e pos) (vT te g):=by
 intro Nc s σ H D I h;refine wpAny_Assign_stores (thn (he Nc s σ H _ I h) λv s1 Nw=>Nw.elim λx H1 I1 r1 q1=>?_) hs hw;rw[h1];exact thn (hg Nc s1 σ H1 x v _ I1 r1 q1) λ_ s2 q=>q
end
section
def wS(c:TT)(tb:TS):TS:=λD σ H=>∃W:Nat->St->Hp->Prop,(∃m,W m σ H)/\∀m σ H,W m σ H->
 c σ H λb H1=>if b=true then ∃N:St->Hp->Prop,(∀ X1 H',N X1 H'->∃m',m'<m/\W m' X1 H')/\tb {D with nx:=N,ct:=N,bk:=D.nx} σ H1 else D.nx σ H1
theorem Nb{tc:TT}{tb:TS}(hp:JT (zF X.prog X.w) X.A X.env X.xe)(hc:PT X c tc)(hb:PSs X body tb):PS X (.While c body [] pos) (wS tc tb):=by
 intro Nc s σ H D I h;obtain⟨W,⟨m0,w0⟩,turn⟩:=h;refine wpAny_While (codeAny_whileLoop (λn s'=>∃ X1 H',Inv X Nc X1 H' s'/\W n X1 H') ?_ m0 ⟨σ,H,I,w0⟩);rintro n s1 ⟨WW,H1,I1,w1⟩;refine wpAny_passesOwn hp (thn (hc Nc s1 WW H1 _ I1 (turn n WW H1 w1)) λb s2 Nw=>Nw.elim λH2 I2 q2=>?_)
 cases b with
 |true=>
   obtain⟨N,hN,q2⟩:=q2;rw[if_pos rfl];refine wpAny_passesOwn hp (thn (hb Nc s2 WW H2 _ I2 q2) λf s3 q3=>?_)
   cases f with
   |next=>
     obtain⟨WR,H3,I3,n3⟩:=q3;obtain⟨m',hm,w3⟩:=hN WR H3 n3;exact⟨m',hm,WR,H3,I3,w3⟩
   |cont=>
     obtain⟨WR,H3,I3,n3⟩:=q3;obtain⟨m',hm,w3⟩:=hN WR H3 n3;exact⟨m',hm,WR,H3,I3,w3⟩
   |brk=>exact q3
   |ret v=>exact q3
 |false=>
   rw[if_neg zR];exact Yh ⟨WW,H2,I2,q2⟩
end
structure It where
 go:Nat->Hp->Prop
 yld:Nat->Hp->V->Hp->Prop
 stop:Nat->Hp->Prop
def D3(X:Cx)(Nc:PNS)(H:Hp)(b:Addr):Prop:=
 H b=none/\b≠X.env.locals/\b∉X.fs/\(b∈X.ex\/X.WZ.heap.objs.size<=b)/\(∀x c,X.env.cells.lookup x=some c->c≠b)/\∀p∈X.pn++Nc,p.1≠b
theorem Inv.fpOk(I:Inv X Nc σ H s)(hb:s.heap.objs.size<=b)(hn:H' b=none):D3 X Nc H' b:=by
 refine⟨hn,YK (zN I.lt hb),I.nofs hb,.inr (zp I.sz hb),λx c e z=>?_,λp hp z=>?_⟩
 ·obtain⟨v,q⟩:=I.cell x c e;exact absurd (zN q.lt (by rw[z];exact hb)) (yk _)
 ·exact absurd (zN (zv (I.pin p hp).1) (by rw[z];exact hb)) (yk _)
inductive TIt(X:Cx)(Nc:PNS)(σ:St)(J:It)(fp:List Addr)(tn:Nat->Heap->Prop)(i:Nat)(H:Hp)(u:zi)(s2:zm):Prop
 |mk (x:V) (H':Hp) (I:Inv X Nc σ H' s2) (r:o7 x u) (y:J.yld i H x H') (st:tn (i+1) s2.heap) (fr:∀b∈fp,H' b=none)
structure F8(P:zM)(w:zT)(K:zg)(tg:Expr)(J:It)(fp:List Addr)(it:Addr)(tn:Nat->Heap->Prop):Prop where
 mem:it∈fp
 obj:∀i h,tn i h->∀b∈fp,∃o,h.get? b=some o/\∀v,o.data≠ .cell v
 keep:∀i h h',tn i h->(∀b∈fp,∀o,h.get? b=some o->h'.get? b=some o)->tn i h'
 item:∀(X:Cx),X.prog=P->X.w=w->X.K=K->X.calm=true->∀(i:Nat) (Nc:PNS) (s:zm) (σ:St) (H:Hp) (E:VSP),Inv X Nc σ H s->(∀b∈fp,D3 X Nc H b)->tn i s.heap->J.go i H->
  zw (zF P w) X.A (xP (.ref it)) (λr s1=>∃u,r=some u/\
   zw (zF P w) X.A (xu tg (.ref it) u) (λ_ s2=>TIt X Nc σ J fp tn i H u s2) E s1) E s
 done:∀(X:Cx),X.prog=P->X.w=w->X.K=K->X.calm=true->∀(i:Nat) (Nc:PNS) (s:zm) (σ:St) (H:Hp) (E:VSP),Inv X Nc σ H s->(∀b∈fp,D3 X Nc H b)->tn i s.heap->J.stop i H->
  zw (zF P w) X.A (xP (.ref it)) (λr s1=>r=none/\Inv X Nc σ H s1) E s
 self:∀(A:jd) (i:Nat) (s:zm) (Q:VSP) (E:VSP),tn i s.heap->Q (.ref it) s->zw (zF P w) A (Jf (.ref it)) Q E s
abbrev TI:=St->Hp->(It->Hp->Prop)->Prop
inductive PIE(X:Cx)(Nc:PNS)(σ:St)(tg:Expr)(R:It->Hp->Prop)(itv:zi)(s2:zm):Prop
 |mk (it:Addr) (fp:List Addr) (tn:Nat->Heap->Prop) (J:It) (H':Hp) (e:itv= .ref it) (I:Inv X Nc σ H' s2) (T:F8 X.prog X.w X.K tg J fp it tn) (st:tn 0 s2.heap) (f:∀b∈fp,D3 X Nc H' b) (r:R J H')
def PI(X:Cx)(tg iter:Expr)(wi:TI):Prop:=
 ∀(Nc:PNS) (s:zm) (σ:St) (H:Hp) (R:It->Hp->Prop),Inv X Nc σ H s->wi σ H R->
  zw (zF X.prog X.w) X.A (eval iter X.env) (λv s1=>zw (zF X.prog X.w) X.A (Jf v) (PIE X Nc σ tg R) X.xe s1) X.xe s
theorem kB(ho:s.heap.get? it=some o)(hc:o.cls= .type n)(hd:o.data= .fields vs)
 (hn: ["enumerate", "zip", "dict_itemiterator", "dict_reverseitemiterator", "odict_iterator", "itertools.zip_longest", "itertools.pairwise"].contains n=false) (hQ:Q () s):zw M A (xu tg (.ref it) u) Q E s:=by
 unfold xu
 cases tg<;>first
  |exact zj hQ
  | (cases u <;> first
      |exact zj hQ
      | (refine za (wpAny_load ho ?_)
         rw[hc,hd];show zw M A (if (["enumerate", "zip", "dict_itemiterator", "dict_reverseitemiterator", "odict_iterator", "itertools.zip_longest", "itertools.pairwise"].contains n&&vs[0]? == some (xp _))=true then _ else _) Q E s;rw[if_neg (by intro h;rw[hn,Bool.false_and]at h;cases h)];exact zj hQ))
def Itl(K:zg)(a:Addr):It:=
 ⟨λi H=>∃xs x,SqL K H a xs/\xs[i]? =some x,λi H x H'=>H'=H/\∀xs,SqL K H a xs->xs[i]? =some x,λi H=>∃xs,SqL K H a xs/\xs.length<=i⟩
def Itt(K:zg)(a:Addr):It:=
 ⟨λi H=>∃xs x,SqT K H a xs/\xs[i]? =some x,λi H x H'=>H'=H/\∀xs,SqT K H a xs->xs[i]? =some x,λi H=>∃xs,SqT K H a xs/\xs.length<=i⟩
def Itr(lo:Int)(n:Nat):It:=⟨λi _=>i<n,λi H x H'=>H'=H/\x= .int (lo+i),λi _=>n<=i⟩
theorem Hb{w:zT}{K:zg}{tg:Expr}(a it:Addr):F8 P w K tg (Itl K a) [it] it (λi h=>h.IsListIter it a i) where
 mem:=by simp
 obj:=λi h st b hb=>by
  have e:b=it:=by simpa using hb
  subst e;obtain⟨o,e,c,d⟩:=st;exact⟨o,e,λv z=>by rw[d]at z;cases z⟩
 keep:=λi h h' st k=>st.at λo e=>k it (by simp) o e
 item:=by intro X hP hw hK hc i Nc s σ H E I hf st hg;subst hP hw hK;obtain⟨xs,x,hq,hx⟩:=hg;obtain⟨Nf,rv,p,hz⟩:=I.list hq;obtain⟨u,hu,ru⟩:=rv.get hx;obtain⟨f0,f1,f2,f3,f4,f5⟩:=hf it (by simp);refine wpAny_pyNext_list_item st p.isList (x:=u) (by simpa using hu) λh' Nm sb=>?_;have I1:Inv X Nc σ H {s with heap:=h'}:=I.turned (t':=s.toks) (λb o hb e=>(sb.2 b hb).trans e) f0 f1 f3 f4 f5;obtain⟨o,e,c,d⟩:=id Nm;exact⟨u,rfl,kB (s:={s with heap:=h'}) e c d (by decide) ⟨x,H,I1,ru,⟨rfl,λys hy=>by rw[I.list_inj hy hq];exact hx⟩,Nm,λb hb=>(hf b hb).1⟩⟩
 done:=by intro X hP hw hK hc i Nc s σ H E I hf st hg;subst hP hw hK;obtain⟨xs,hq,hx⟩:=hg;obtain⟨Nf,rv,p,hz⟩:=I.list hq;obtain⟨f0,f1,f2,f3,f4,f5⟩:=hf it (by simp);have hl:=rv.length;exact wpAny_pyNext_list_end (I.ok.hd hc) st p.isList (by simp;lia) λh' eb=>⟨rfl,I.turned (t':=s.toks) (λb o hb e=>eb b o hb e) f0 f1 f3 f4 f5⟩
 self:=λ_ _ _ _ _ st h=>wpAny_pyIter_listiter st h
theorem qY{w:zT}{K:zg}{tg:Expr}(a it:Addr):F8 P w K tg (Itt K a) [it] it (λi h=>h.IsTupleIter it a i) where
 mem:=by simp
 obj:=λi h st b hb=>by
  have e:b=it:=by simpa using hb
  subst e;obtain⟨o,e,c,d⟩:=st;exact⟨o,e,λv z=>by rw[d]at z;cases z⟩
 keep:=λi h h' st k=>st.at λo e=>k it (by simp) o e
 item:=by intro X hP hw hK hc i Nc s σ H E I hf st hg;subst hP hw hK;obtain⟨xs,x,hq,hx⟩:=hg;obtain⟨Nf,rv,p,hz⟩:=I.tuple hq;obtain⟨u,hu,ru⟩:=rv.get hx;obtain⟨f0,f1,f2,f3,f4,f5⟩:=hf it (by simp);refine wpAny_pyNext_tuple_item st (show s.heap.IsTuple a Nf.toArray from p) (x:=u) (by simpa using hu) λh' Nm sb=>?_;have I1:Inv X Nc σ H {s with heap:=h'}:=I.turned (t':=s.toks) (λb o hb e=>(sb.2 b hb).trans e) f0 f1 f3 f4 f5;obtain⟨o,e,c,d⟩:=id Nm;exact⟨u,rfl,kB (s:={s with heap:=h'}) e c d (by decide) ⟨x,H,I1,ru,⟨rfl,λys hy=>by rw[I.tuple_inj hy hq];exact hx⟩,Nm,λb hb=>(hf b hb).1⟩⟩
 done:=by intro X hP hw hK hc i Nc s σ H E I hf st hg;subst hP hw hK;obtain⟨xs,hq,hx⟩:=hg;obtain⟨Nf,rv,p,hz⟩:=I.tuple hq;obtain⟨f0,f1,f2,f3,f4,f5⟩:=hf it (by simp);have hl:=rv.length;exact wpAny_pyNext_tuple_end (I.ok.hd hc) st (show s.heap.IsTuple a Nf.toArray from p) (by simp;lia) λh' eb=>⟨rfl,I.turned (t':=s.toks) (λb o hb e=>eb b o hb e) f0 f1 f3 f4 f5⟩
 self:=λ_ _ _ _ _ st h=>wpAny_pyIter_tupleiter st h
theorem nW{w:zT}{K:zg}{tg:Expr}(it:Addr)(lo:Int)(n:Nat):F8 P w K tg (Itr lo n) [it] it (λi h=>IsRangeIter h it (lo+(i:Nat)*1) ((n:Int)-(i:Nat)) 1) where
 mem:=by simp
 obj:=λi h st b hb=>by
  have e:b=it:=by simpa using hb
  subst e;exact⟨_,st,λv z=>by
   have z':Data.fields _=Data.cell v:=z
   cases z'⟩
 keep:=λi h h' st k=>k it (by simp) _ st
 item:=by intro X hP hw hK hc i Nc s σ H E I hf st hg;subst hP hw hK;obtain⟨f0,f1,f2,f3,f4,f5⟩:=hf it (by simp);have W:=Walks.range (prog:=X.prog) (w:=X.w) (I.ok.hd hc) it lo 1 n;refine W.item i s _ _ hg st λv h' tk hv Nm kk=>?_;obtain⟨t,rfl⟩:=hv;have I1:Inv X Nc σ H {s with heap:=h',toks:=tk}:=I.turned (λb o hb e=>kk b o (by simpa using hb) e) f0 f1 f3 f4 f5;refine⟨_,rfl,kB (s:={s with heap:=h',toks:=tk}) (n:= "range_iterator") Nm rfl rfl (by decide) ⟨.int (lo+i),H,I1,⟨t,?_⟩,⟨rfl,rfl⟩,Nm,λb hb=>(hf b hb).1⟩⟩;rw[Int.mul_one]
 done:=by intro X hP hw hK hc i Nc s σ H E I hf st hg;subst hP hw hK;obtain⟨f0,f1,f2,f3,f4,f5⟩:=hf it (by simp);exact wpAny_pyNext_range_end (I.ok.hd hc) st (by have:n<=i:=hg;lia) λh' eb=>⟨rfl,I.turned (t':=s.toks) (λb o hb e=>eb b o hb e) f0 f1 f3 f4 f5⟩
 self:=λ_ _ _ _ _ st h=>wpAny_pyIter_rangeiter st h
section
theorem UY{σ:St}{H:Hp}{s:zm}{R:It->Hp->Prop}{lo hi:Int}{t u v:Tok}{tk:Nat}(I:Inv X Nc σ H s)(h1: -(2 ^ 62)<=lo)(h2:lo<2 ^ 62)(h3: -(2 ^ 62)<=hi)(h4:hi<2 ^ 62)
 (q:R (Itr lo (hi-lo).toNat) H):zw (zF X.prog X.w) X.A (Jf (.ref s.heap.objs.size)) (PIE X Nc σ tg R) E {s with heap:=s.heap.push {cls:=.type "range",data:=.fields #[.int lo t,.int hi u,.int 1 v]},toks:=tk}:=by
 refine wpAny_pyIter_range (IsRange.new ..) (small_one h1 h2 h3 h4) ?_;have I1:Inv X Nc σ H {s with heap:=s.heap.push {cls:=.type "range",data:=.fields #[.int lo t,.int hi u,.int 1 v]},toks:=tk}:=I.kept λb o e=>ze _ e;refine⟨(s.heap.push {cls:=.type "range",data:=.fields #[.int lo t,.int hi u,.int 1 v]}).objs.size, [(s.heap.push {cls:=.type "range",data:=.fields #[.int lo t,.int hi u,.int 1 v]}).objs.size],_,_,H,rfl,
  I1.kept (t':=tk) λb o e=>ze _ e,nW _ lo (hi-lo).toNat,?_,λb hb=>?_,q⟩
 · have e1:lo+((0:Nat):Int)*1=lo:=by simp
   have e2:(((hi-lo).toNat:Nat):Int)-((0:Nat):Int)=Builtin.Range.rangeSize lo hi 1:=by rw[rangeSize_one];split<;>lia
   show IsRangeIter _ _ (lo+((0:Nat):Int)*1) ((((hi-lo).toNat:Nat):Int)-((0:Nat):Int)) 1;rw[e1,e2];exact zu _ rfl
 · have e:b= (s.heap.push {cls:=.type "range",data:=.fields #[.int lo t,.int hi u,.int 1 v]}).objs.size:=by simpa using hb
   subst e;exact I1.fpOk (zf _) (I1.hok.fresh (zf _))
def Mh(ta:TA):TI:=λσ H R=>ta σ H λvs H1=>∃j:Int,vs= [.int j]/\ -(2 ^ 62)<=j/\j<2 ^ 62/\R (Itr 0 j.toNat) H1
theorem Gz{ta:TA}(hg:Gl X "range")(hm:X.mg "range" =none)(ha:PA X [a] ta)(hs:zW [a] X.env= [(false,eval a X.env)]):PI X tg (.Call (.Name "range" p) [a] [] pos) (Mh ta):=by
 intro Nc s σ H R I h;refine Call_ (oB I hg hm boot_range (Yp (thn (ha pos Nc s σ H _ I h) λus s1 Nw=>Nw.elim λvs H1 I1 r1 q1=>?_) hs rfl));obtain⟨j,e,q1,q2,q⟩:=q1;subst e
 cases r1 with
 |cons r rr=>
   cases rr
   obtain⟨t,rfl⟩:=r;exact call_range_1 (UY I1 (by lia) (by lia) q1 q2 (by simpa using q))
def KP(wi:TI)(g:TG)(tb:TS):TS:=λD σ H=>wi σ H λJ H1=>∃W:Nat->Nat->St->Hp->Prop,(∃m,W 0 m σ H1)/\∀i m σ H,W i m σ H->
 (J.stop i H/\D.nx σ H)\/(J.go i H/\∃N:St->Hp->Prop,(∀ X1 H',N X1 H'->∃m',m'<m/\W (i+1) m' X1 H')/\∀x H',J.yld i H x H'->g x σ H' λσ2 H2=>tb {D with nx:=N,ct:=N,bk:=D.nx} σ2 H2)
def WB(fp:List Addr)(h:Heap):PNS:=fp.filterMap λb=>(h.get? b).map λo=>(b,o)
theorem AC(hb:b∈fp)(e:h.get? b=some o):(b,o)∈WB fp h:=Zb.mpr ⟨b,hb,by rw[e];rfl⟩
theorem Hf(hp:p∈WB fp h):p.1∈fp/\h.get? p.1=some p.2:=by
 obtain⟨b,hb,e⟩:=Zb.mp hp
 cases q:h.get? b with
 |none=>rw[q]at e;cases e
 |some o=>
   rw[q]at e;have e':(b,o)=p:=jo e;subst e';exact⟨hb,q⟩
theorem Inv.pinned(I:Inv X Nc σ H s)(hf:∀b∈fp,D3 X Nc H b)(ho:∀b∈fp,∃o,s.heap.get? b=some o/\∀v,o.data≠ .cell v):Inv X (Nc++WB fp s.heap) σ H s:=
 I.pins_of λp hp=>(zO.mp hp).elim (λz=>I.pin p (zP _ z)) λz=>by obtain⟨hb,e⟩:=Hf z;obtain⟨f0,f1,f2,_⟩:=hf p.1 hb;obtain⟨o,e',d⟩:=ho p.1 hb;rw[e]at e';cases e';exact⟨e,f0,f1,f2,d⟩
theorem Inv.unpinned(I:Inv X (Nc++pl) σ H s):Inv X Nc σ H s:=I.pins_of λp hp=>I.pin p (zP _ (yd _ hp))
inductive QF(X:Cx)(Nc:PNS)(fp:List Addr)(tn:Nat->Heap->Prop)(W:Nat->Nat->St->Hp->Prop)(n:Nat)(s':zm):Prop
 |mk (i:Nat) (X1:St) (H':Hp) (I:Inv X Nc X1 H' s') (st:tn i s'.heap) (fr:∀b∈fp,H' b=none) (w:W i n X1 H')
theorem SQ{body:List Stmt}{g:TG}{tb:TS}{Nc:PNS}{D:cA}{it:Addr}{fp:List Addr}{tn:Nat->Heap->Prop}{J:It}(hp:∀e s,X.xe e s->EE e s)(hc:X.calm=true)(hg:PG X tg g)(hb:PSs X body tb)
 (T:F8 X.prog X.w X.K tg J fp it tn) (stat:∀ {H':Hp},(∀b∈fp,H' b=none)->∀b∈fp,D3 X Nc H' b)
 (turn:∀i m σ H,W i m σ H->
 (J.stop i H/\D.nx σ H)\/(J.go i H/\∃N:St->Hp->Prop,(∀ X1 H',N X1 H'->∃m',m'<m/\W (i+1) m' X1 H')/\∀x H',J.yld i H x H'->g x σ H' λσ2 H2=>tb {D with nx:=N,ct:=N,bk:=D.nx} σ2 H2))
   {n:Nat} {s3:zm} (h3:QF X Nc fp tn W n s3) {NX:zm->Prop} (nx:∀m s,m<n->QF X Nc fp tn W m s->NX s):
   zw (zF X.prog X.w) X.A (xP (.ref it)) (λr s1=>match r with
    |none=>zw (zF X.prog X.w) X.A (execs [] X.env) (λf s2=>SP X Nc D f s2) EE s1
    | some v => zw (zF X.prog X.w) X.A (xu tg (.ref it) v) (λ_ s2 => zw (zF X.prog X.w) X.A (Ya tg X.env v) (λ_ s4 => zw (zF X.prog X.w) X.A (execs body X.env) (λf s5 => match f with
       | .next| .cont=>NX s5
       | .brk=>SP X Nc D .next s5
       | .ret v=>SP X Nc D (.ret v) s5) EE s4) EE s2) EE s1) EE s3:=by
 obtain⟨i,WR,H3,I3,st3,fr3,w3⟩:=h3;rcases turn i n WR H3 w3 with⟨stop,qn⟩|⟨go,N,hN,step⟩
 ·refine jG (T.done X rfl rfl rfl hc i Nc s3 WR H3 X.xe I3 (stat fr3) st3 stop) (λr s4 z1=>?_) hp;obtain⟨hr,I4⟩:=z1;subst hr;exact Yh ⟨WR,H3,I4,qn⟩
 · refine jG (T.item X rfl rfl rfl hc i Nc s3 WR H3 X.xe I3 (stat fr3) st3 go) (λr s4 z2=>?_) hp;obtain⟨u,hr,h4⟩:=z2;subst hr;refine jG h4 (λ_ s5 z3=>?_) hp;obtain⟨x,H5,I5,r5,y5,st5,fr5⟩:=z3;have I5':=I5.pinned (stat fr5) (T.obj _ _ st5);refine jG (hg _ s5 WR H5 x u _ I5' r5 (step x H5 y5)) (λ_ s6 z4=>?_) hp;obtain⟨WU,H6,I6,q6⟩:=z4;refine jG (hb _ s6 WU H6 _ I6 q6) (λf s7 q7=>?_) hp;have again:∀ {WT:St} {H7:Hp},Inv X (Nc++WB fp s5.heap) WT H7 s7->N WT H7->NX s7:=λ{WT H7} I7 n7=>by
    obtain⟨m',hm,w7⟩:=hN WT H7 n7;refine nx m' _ hm ⟨i+1,WT,H7,I7.unpinned,T.keep _ _ _ st5 λb hb o e=>(I7.pin (b,o) (zP _ (zP _ (AC hb e)))).1,λb hb=>?_,w7⟩;obtain⟨o,e,d⟩:=T.obj _ _ st5 b hb;exact(I7.pin (b,o) (zP _ (zP _ (AC hb e)))).2.1
   cases f with
   |next=>obtain⟨WT,H7,I7,n7⟩:=q7;exact again I7 n7
   |cont=>obtain⟨WT,H7,I7,n7⟩:=q7;exact again I7 n7
   |brk=>obtain⟨WT,H7,I7,q7⟩:=q7;exact⟨WT,H7,I7.unpinned,q7⟩
   |ret v=>obtain⟨x7,WT,H7,I7,r7,q7⟩:=q7;exact⟨x7,WT,H7,I7.unpinned,r7,q7⟩
theorem pX(hp:JT (zF X.prog X.w) X.A X.env X.xe)(hc:X.calm=true)(hi:PI X tg iter wi)(hg:PG X tg g)(hb:PSs X body tb)
 (hs:∀x,yE iter X.env x=pure x):PS X (.For tg iter body [] pos) (KP wi g tb):=by
 intro Nc s σ H D I h;refine wpAny_For (thn (hi Nc s σ H _ I h) λv s1 h1=>thn h1 λitv s2 h2=>?_) hs;obtain⟨it,fp,tn,J,H2,e,I2,T,st2,f2,W,⟨m0,w0⟩,turn⟩:=h2;subst e
 -- what stays true of the iterator's objects through the loop
 have stat:∀ {H':Hp},(∀b∈fp,H' b=none)->∀b∈fp,D3 X Nc H' b:=λhn b hb=>⟨hn b hb,(f2 b hb).2⟩;exact codeAny_forLoop_any (QF X Nc fp tn W) (λn s3 h3=>SQ hp hc hg hb T stat turn h3 λm s h1 h2=>⟨m,h1,h2⟩) m0 ⟨0,σ,H2,I2,st2,λb hb=>(f2 b hb).1,w0⟩
end
abbrev R2:=V->V->Hp->VK->Prop
def OpR(X:Cx)(f:zi->zi->Sem zi)(r:R2):Prop:=
 ∀(Nc:PNS) (s:zm) (σ:St) (H:Hp) (x y:V) (v u:zi) (Q:VK),Inv X Nc σ H s->o7 x v->o7 y u->r x y H Q->
  zw (zF X.prog X.w) X.A (f v u) (EP X Nc σ Q) X.xe s
def UnR(X:Cx)(f:zi->Sem zi)(r:V->Hp->VK->Prop):Prop:=
 ∀(Nc:PNS) (s:zm) (σ:St) (H:Hp) (x:V) (v:zi) (Q:VK),Inv X Nc σ H s->o7 x v->r x H Q->
  zw (zF X.prog X.w) X.A (f v) (EP X Nc σ Q) X.xe s
def R4(X:Cx)(f:zi)(r:List V->Hp->VK->Prop):Prop:=
 ∀(Nc:PNS) (s:zm) (σ:St) (H:Hp) (xs:List V) (us:List zi) (Q:VK),Inv X Nc σ H s->o5 xs us->r xs H Q->
  zw (zF X.prog X.w) X.A (call f us) (EP X Nc σ Q) X.xe s
def OY(X:Cx)(r:V->Hp->(Bool->Hp->Prop)->Prop):Prop:=
 ∀(Nc:PNS) (s:zm) (σ:St) (H:Hp) (x:V) (v:zi) (Q:Bool->Hp->Prop),Inv X Nc σ H s->o7 x v->r x H Q->
  zw (zF X.prog X.w) X.A (truthy v) (TP X Nc σ Q) X.xe s
def tOp(r:R2)(ta tb:TE):TE:=λσ H Q=>ta σ H λx H1=>tb σ H1 λy H2=>r x y H2 Q
def tUn(r:V->Hp->VK->Prop)(ta:TE):TE:=λσ H Q=>ta σ H λx H1=>r x H1 Q
def rI(C:Int->Int->Prop)(g:Int->Int->V):R2:=λx y H Q=>∃i j,x= .int i/\y= .int j/\C i j/\Q (g i j) H
def j8(g:Int->Int->V):R2:=λx y H Q=>∃i j,x= .int i/\y= .int j/\Q (g i j) H
def rU(g:Int->V):V->Hp->VK->Prop:=λx H Q=>∃i,x= .int i/\Q (g i) H
section
theorem KH(ha:PE X a ta)(hb:PE X b tb){Nc:PNS}{s:zm}{σ:St}{H:Hp}{R:V->V->Hp->Prop}(I:Inv X Nc σ H s)
 (h:ta σ H λx H1=>tb σ H1 λy H2=>R x y H2) {f:zi->zi->Sem zi}
 (hf:∀v u s2 x y H2,Inv X Nc σ H2 s2->o7 x v->o7 y u->R x y H2->zw (zF X.prog X.w) X.A (f v u) Q X.xe s2):
 zw (zF X.prog X.w) X.A (eval a X.env) (λv W1=>zw (zF X.prog X.w) X.A (eval b X.env) (λu s₂=>zw (zF X.prog X.w) X.A (f v u) Q X.xe s₂) X.xe W1) X.xe s:=by
 refine thn (ha Nc s σ H _ I h) λv s1 Nw=>Nw.elim λx H1 I1 r1 q1=>?_;refine thn (hb Nc s1 σ H1 _ I1 q1) λu s2 Nw=>Nw.elim λy H2 I2 r2 q2=>?_;exact hf v u s2 x y H2 I2 r1 r2 q2
theorem uH(ho:OpR X (jX op) r)(ha:PE X a ta)(hb:PE X b tb):PE X (.BinOp a op b pos) (tOp r ta tb):=by intro Nc s σ H Q I h;exact wpAny_BinOp (KH ha hb I h λv u s2 x y H2 I2 rx ry q=>ho Nc s2 σ H2 x y v u Q I2 rx ry q)
theorem AS(ho:UnR X (unaryOp op) r)(ha:PE X a ta):PE X (.UnaryOp op a pos) (tUn r ta):=by intro Nc s σ H Q I h;exact UnaryOp_ (thn (ha Nc s σ H _ I h) λv s1 Nw=>Nw.elim λx H1 I1 r1 q1=>ho Nc s1 σ H1 x v Q I1 r1 q1)
theorem opI{C:Int->Int->Prop}{g:Int->Int->Int}
 (rule:∀(i j:Int) (t u:Tok) (s:zm) Q (E:VSP),C i j->Q (.int (g i j) s.toks) {s with toks:=s.toks+1}->zw (zF X.prog X.w) X.A (f (.int i t) (.int j u)) Q E s):
 OpR X f (rI C λi j=>.int (g i j)):=by
 intro Nc s σ H x y v u Q I rx ry h;obtain⟨i,j,rfl,rfl,hc,q⟩:=h;obtain⟨t,rfl⟩:=rx;obtain⟨t',rfl⟩:=ry;exact rule i j t t' s _ _ hc ⟨.int (g i j),H,I.tok _,⟨_,rfl⟩,q⟩
theorem KJ{g:Int->Int->Int}
 (rule:∀(i j:Int) (t u:Tok) (s:zm) Q (E:VSP),Q (.int (g i j) s.toks) {s with toks:=s.toks+1}->zw (zF X.prog X.w) X.A (f (.int i t) (.int j u)) Q E s):
 OpR X f (j8 λi j=>.int (g i j)):=by
 intro Nc s σ H x y v u Q I rx ry h;obtain⟨i,j,rfl,rfl,q⟩:=h;obtain⟨t,rfl⟩:=rx;obtain⟨t',rfl⟩:=ry;exact rule i j t t' s _ _ ⟨.int (g i j),H,I.tok _,⟨_,rfl⟩,q⟩
theorem IH{g:Int->Int->Bool}
 (rule:∀(i j:Int) (t u:Tok) (s:zm) Q (E:VSP),Q (.bool (g i j)) s->zw (zF X.prog X.w) X.A (f (.int i t) (.int j u)) Q E s):
 OpR X f (j8 λi j=>.bl (g i j)):=by
 intro Nc s σ H x y v u Q I rx ry h;obtain⟨i,j,rfl,rfl,q⟩:=h;obtain⟨t,rfl⟩:=rx;obtain⟨t',rfl⟩:=ry;exact rule i j t t' s _ _ ⟨.bl (g i j),H,I,rfl,q⟩
def u7(i j:Int):Prop:=0<=j/\j<=1000000/\i.natAbs<2 ^ 64
def C7(i j:Int):Prop:=(-(2 ^ 64)<i/\i<2 ^ 64)\/(-(2 ^ 64)<j/\j<2 ^ 64)
theorem C7.ok(h:C7 i j):IntMulOk i j:=by
 rcases h with⟨h1,h2⟩|⟨h1,h2⟩
 ·exact .of_left (intBits_le_64 h1 h2)
 ·exact .of_right (intBits_le_64 h1 h2)
theorem IP:OpR X (jX .Add) (j8 λi j=>.int (i+j)):=KJ λ_ _ _ _ _ _ _ q=>add_int q
theorem mO:OpR X (jX .Sub) (j8 λi j=>.int (i-j)):=KJ λ_ _ _ _ _ _ _ q=>sub_int q
theorem nY:OpR X (jX .Mult) (rI C7 λi j=>.int (i*j)):=opI λ_ _ _ _ _ _ _ hc q=>mul_int q hc.ok
theorem kQ:OpR X (jX .Mod) (rI (λ_ j=>0<j) λi j=>.int (i % j)):=opI λi j _ _ _ _ _ hc q=>by have h1:(0:Int)<j:=hc;exact mod_int' (by lia) (by rw[Int.fmod_eq_emod_of_nonneg i (by lia)];exact q)
theorem cJ:OpR X (jX .Pow) (rI u7 λi j=>.int (i ^ j.toNat)):=opI λ_ _ _ _ _ _ _ hc q=>pow_int_small hc.1 hc.2.1 hc.2.2 q
theorem unI{f:zi->Sem zi}{g:Int->Int}
 (rule:∀(i:Int) (t:Tok) (s:zm) Q E,Q (.int (g i) s.toks) {s with toks:=s.toks+1}->zw (zF X.prog X.w) X.A (f (.int i t)) Q E s):
 UnR X f (rU λi=>.int (g i)):=by
 intro Nc s σ H x v Q I rx h;obtain⟨i,rfl,q⟩:=h;obtain⟨t,rfl⟩:=rx;exact rule i t s _ _ ⟨.int (g i),H,I.tok _,⟨_,rfl⟩,q⟩
theorem qf:UnR X (unaryOp .USub) (rU λi=>.int (-i)):=unI λ_ _ _ _ _ q=>neg_int q
end
section
theorem cI(I:Inv X Nc σ H s)(q:Q (.bl k) H)(e:k=k'):EP X Nc σ Q (.bool k') s:=by subst e;exact⟨.bl k,H,I,rfl,q⟩
theorem DZ:OpR X (jc .LtE) (j8 λi j=>.bl (decide (i<=j))):=IH λ_ _ _ _ _ _ _ q=>le_int q
theorem Lh:OpR X (jc .Gt) (j8 λi j=>.bl (decide (j<i))):=IH λ_ _ _ _ _ _ _ q=>gt_int q
theorem fT:OpR X (jc .GtE) (j8 λi j=>.bl (decide (j<=i))):=IH λ_ _ _ _ _ _ _ q=>ge_int q
theorem QU:OpR X (jc .In) (λx y H Q=>∃i j,x= .str i/\y= .str j/\Q (.bl (!(xY j i 0 j.length 1).isEmpty)) H):=by intro Nc s σ H x y v u Q I rx ry h;obtain⟨i,j,rfl,rfl,q⟩:=h;obtain⟨t,rfl⟩:=rx;obtain⟨t',rfl⟩:=ry;exact in_str (cI I q rfl)
theorem fY:OpR X (jc .Is) (λx y H Q=>y= .non/\Q (.bl (decide (x= .non))) H):=by
 intro Nc s σ H x y v u Q I rx ry h;obtain⟨rfl,q⟩:=h
 cases ry
 refine is_none_gen (cI I q ?_)
 cases x<;>first
  |(cases rx;rfl)
  |(obtain⟨t,rfl⟩:=rx;rfl)
theorem qj:OpR X (jc .IsNot) (λx y H Q=>y= .non/\Q (.bl (!decide (x= .non))) H):=by
 intro Nc s σ H x y v u Q I rx ry h;obtain⟨rfl,q⟩:=h
 cases ry
 refine isnot_none_gen (cI I q ?_)
 cases x<;>first
  |(cases rx;rfl)
  |(obtain⟨t,rfl⟩:=rx;rfl)
theorem OpR.or(h:OpR X f r)(h':OpR X f r'):OpR X f (λx y H Q=>r x y H Q\/r' x y H Q):=by
 intro Nc s σ H x y v u Q I rx ry q;rcases q with q|q
 ·exact h Nc s σ H x y v u Q I rx ry q
 ·exact h' Nc s σ H x y v u Q I rx ry q
theorem mW(ho:OpR X (jc op) r)(ha:PE X a ta)(hb:PE X b tb)(hm:YS op b=false):PE X (.Compare a [op] [b] pos) (tOp r ta tb):=by intro Nc s σ H Q I h;exact wpAny_Compare1 (KH ha hb I h λv u s2 x y H2 I2 rx ry q=>ho Nc s2 σ H2 x y v u Q I2 rx ry q) hm
def MR(t:TE):TT:=λσ H Q=>t σ H λx H'=>∃k,x= .bl k/\Q k H'
theorem ES(ho:OpR X (jc op) r)(ha:PE X a ta)(hb:PE X b tb)(hm:YS op b=false):PT X (.Compare a [op] [b] pos) (MR (tOp r ta tb)):=by
 intro Nc s σ H Q I h;refine wpAny_isTrue_Compare1 (thn (ha Nc s σ H _ I h) λv s1 Nw=>Nw.elim λx H1 I1 r1 q1=>thn (hb Nc s1 σ H1 _ I1 q1) λu s2 Nw=>Nw.elim λy H2 I2 r2 q2=>
  thn (ho Nc s2 σ H2 x y v u _ I2 r1 r2 q2) λc s3 ⟨z,H3,I3,r3,k,e,q3⟩=>?_) hm
 subst e
 cases r3
 exact wpAny_truthy_bool ⟨H3,I3,q3⟩
def GG(K:zg)(x:V)(H:Hp)(k:Bool):Prop:=
 match x with
 | .non=>k=false
 | .bl b=>k=b
 | .int i=>k= (i != 0)
 | .str y=>y.length<=zk/\k= ((y.length:Int) != 0)
 | .byt y=>y.size<=zk/\k= ((y.size:Int) != 0)
 | .ref p=>(∃xs,SqL K H p xs/\k= !xs.isEmpty)\/(∃xs,SqT K H p xs/\k= !xs.isEmpty)\/∃Nd,H p=some (.dK Nd)/\k= !Nd.isEmpty
 |_=>False
theorem PZ(r:KV Nd vs):(!vs.isEmpty)= !Nd.isEmpty:=by
 cases r<;>rfl
theorem iO(r:o5 xs Nf):(!Nf.toArray.isEmpty)= !xs.isEmpty:=by
 cases r<;>simp
theorem wA:(zk:Nat)<2 ^ 63:=by rw[yT];decide
theorem PN:OY X (λx H Q=>∃k,GG X.K x H k/\Q k H):=by
 intro Nc s σ H x v Q I rx h;obtain⟨k,e,q⟩:=h;have hl:=wA;have hs:zk=16777216:=yT
 cases x with
 |non=>
   cases rx
   have e':k=false:=e;subst e';exact truthy_none ⟨H,I,q⟩
 |bl b=>
   cases rx
   have e':k=b:=e;subst e';exact wpAny_truthy_bool ⟨H,I,q⟩
 |int i=>
   obtain⟨t,rfl⟩:=rx;have e':k= (i != 0):=e;subst e';exact PySem.P.truthy_int ⟨H,I,q⟩
 |str y=>
   obtain⟨t,rfl⟩:=rx;obtain⟨hy,e'⟩:y.length<=zk/\k= ((y.length:Int) != 0):=e;subst e';exact PySem.P.truthy_str (by lia) ⟨H,I.tok _,q⟩
 |byt y=>
   obtain⟨t,rfl⟩:=rx;obtain⟨hy,e'⟩:y.size<=zk/\k= ((y.size:Int) != 0):=e;subst e';exact PySem.W.truthy_bytes (by lia) ⟨H,I.tok _,q⟩
 |ref p=>
   cases rx
   have e':(∃xs,SqL X.K H p xs/\k= !xs.isEmpty)\/(∃xs,SqT X.K H p xs/\k= !xs.isEmpty)\/∃Nd,H p=some (.dK Nd)/\k= !Nd.isEmpty:=e;rcases e' with⟨xs,hx,e'⟩|⟨xs,hx,e'⟩|⟨Nd,hx,e'⟩
   ·subst e';obtain⟨Nf,r,pl,hz⟩:=I.list hx;have Nh:=r.length;exact wpAny_truthy_list pl.isList (by simp only[zo];lia) ⟨H,I.tok _,by rw[iO r];exact q⟩
   ·subst e';obtain⟨Nf,r,pl,hz⟩:=I.tuple hx;have Nh:=r.length;exact truthy_tuple pl (by simp only[zo];lia) ⟨H,I.tok _,by rw[iO r];exact q⟩
   ·subst e';obtain⟨hz,hS,vs,r,m⟩:Nd.length<=zk/\(p==yY)=false/\∃vs,KV Nd vs/\s.heap.DictOf (J3 X.prog X.w) p vs:=I.hok p _ hx;have Nh:Nd.length=vs.length:=yL r;exact wpAny_truthy_dict hS m (by lia) ⟨H,I.tok _,by rw[PZ r];exact q⟩
 |_=>exact(show False from e).elim
theorem NS(ha:PE X a ta)(he:∀whole,isTrue a X.env whole= (do let v <-whole;standAt a.pos;ZD [v] (truthy v))):
 PT X a (λσ H Q=>ta σ H λx H'=>∃k,GG X.K x H' k/\Q k H'):=by
 intro Nc s σ H Q I h;exact isTrue_plain (thn (ha Nc s σ H _ I h) λv s1 Nw=>Nw.elim λx H1 I1 r1 q1=>PN Nc s1 σ H1 x v Q I1 r1 q1) (he _)
theorem pV:OpR X (jX .Add) (λx y H Q=>∃i j,x= .str i/\y= .str j/\i.length+j.length<=zk/\Q (.str (i++j)) H):=by intro Nc s σ H x y v u Q I rx ry h;obtain⟨i,j,rfl,rfl,hz,q⟩:=h;obtain⟨t,rfl⟩:=rx;obtain⟨t',rfl⟩:=ry;exact add_str (λt' tk=>⟨.str (i++j),H,I.tok _,⟨_,rfl⟩,q⟩) hz
theorem C3(r:o5 [x] us):∃u,us= [u]/\o7 x u:=by
 cases r with
 |cons r1 r2=>cases r2;exact⟨_,rfl,r1⟩
theorem KD(r:o5 [x,y] us):∃u w',us= [u,w']/\o7 x u/\o7 y w':=by
 cases r with
 |cons r1 r2=>
   cases r2 with
   |cons r3 r4=>cases r4;exact⟨_,_,rfl,r1,r3⟩
theorem Hv:R4 X (.builtin "abs") (λxs H Q=>∃i,xs= [.int i]/\Q (.int (if i<0 then -i else i)) H):=by intro Nc s σ H xs us Q I r h;obtain⟨i,rfl,q⟩:=h;obtain⟨u,rfl,t,rfl⟩:=C3 r;exact call_abs_int λu tk=>⟨.int (if i<0 then -i else i),H,I.tok _,⟨_,rfl⟩,q⟩
theorem RZ(hc:X.calm=true):R4 X (.builtin "max") (λxs H Q=>∃i j,xs= [.int i,.int j]/\Q (.int (if j>i then j else i)) H):=by
 intro Nc s σ H xs us Q I r h;obtain⟨i,j,rfl,q⟩:=h;obtain⟨u,w',rfl,⟨t,rfl⟩,⟨t',rfl⟩⟩:=KD r;refine max_two_ints (I.ok.hd hc) λh' tk k=>⟨_,H,I.kept k,?_,q⟩;by_cases hj:j>i
 ·rw[if_pos hj,if_pos hj];exact⟨_,rfl⟩
 ·rw[if_neg hj,if_neg hj];exact⟨_,rfl⟩
theorem UU(hc:X.calm=true):R4 X (.builtin "min") (λxs H Q=>∃i j,xs= [.int i,.int j]/\Q (.int (if j<i then j else i)) H):=by
 intro Nc s σ H xs us Q I r h;obtain⟨i,j,rfl,q⟩:=h;obtain⟨u,w',rfl,⟨t,rfl⟩,⟨t',rfl⟩⟩:=KD r;refine min_two_ints (I.ok.hd hc) λh' tk k=>⟨_,H,I.kept k,?_,q⟩;by_cases hj:j<i
 ·rw[if_pos hj,if_pos hj];exact⟨_,rfl⟩
 ·rw[if_neg hj,if_neg hj];exact⟨_,rfl⟩
theorem gT:R4 X (.type "int") (λxs H Q=>(∃i,xs= [.int i]/\Q (.int i) H)\/∃k,xs= [.bl k]/\Q (.int (if k then 1 else 0)) H):=by
 intro Nc s σ H xs us Q I r h;rcases h with⟨i,rfl,q⟩|⟨k,rfl,q⟩
 ·obtain⟨u,rfl,t,rfl⟩:=C3 r;exact call_int_int ⟨.int i,H,I,⟨_,rfl⟩,q⟩
 · obtain⟨u,rfl,r1⟩:=C3 r
   cases r1
   exact call_int_bool ⟨.int (if k then 1 else 0),H,I.tok _,⟨_,rfl⟩,q⟩
end
structure ObjM(h:Heap)(x dx C:Addr)(mA:Str->Option zi):Prop where
 obj:h.get? x=some (xl C dx)
 ns:h.Ns1 dx mA
 ne:dx≠x
section
variable{prog:zM}{w:zT}{A:jd}{E:VSP}{s:zm}{K:zg}{x dx C f:Addr}{mA:Str->Option zi}{name:Str}{v:zi}
end
def putF(f:Str)(v:V):List (Str×V)->List (Str×V)
 |[]=> [(f,v)]
 |(g,x)::r=>if g=f then (g,v)::r else (g,x)::putF f v r
theorem a6.some_of(r:a6 (some v) o):∃u,o=some u/\o7 v u:=by
 cases o with
 |none=>exact(show False from r).elim
 |some u=>exact⟨u,rfl,r⟩
section
end
structure Cls(K:zg)(C:Addr):Prop where
 pg:JD K C Str.empty=true
 hd:PySem.W.hasDictIn K C=true
 po:PySem.W.plainOver K C=true
 sa:xQ K (.ref C) "__setattr__" =some (some (.builtin "object.__setattr__"))
theorem Cls.get{K:zg}(c:Cls K C)(f:Str):JD K C f=true:=c.pg
structure Con(K:zg)(C:Addr)(f:Str)(v:V)(u:zi):Prop where
 at_:xQ K (.ref C) f=some (some u)
 rel:o7 v u
 get:Jr K u "__get__" =some none
 cp:PySem.W.copiedNames.contains f=false
structure Meth(K:zg)(C:Addr)(m:Str)(f:Addr):Prop where
 at_:xQ K (.ref C) m=some (some (.ref f))
 fn:PySem.W.isFn K (.ref f)=true
 kp:ya K (.ref f)=true
section
theorem Inv.made(I:Inv X Nc σ H s):Inv X Nc σ (upd (upd H s.heap.objs.size (.own (s.heap.objs.size+1))) (s.heap.objs.size+1) (.ins C s.heap.objs.size []))
 {s with heap:=(s.heap.push yc).push (xl C s.heap.objs.size)}:=by
 have e1:(s.heap.push yc).get? s.heap.objs.size=some yc:=zu s.heap rfl;have e2:((s.heap.push yc).push (xl C s.heap.objs.size)).get? (s.heap.objs.size+1)=some (xl C s.heap.objs.size):=by have:=zu (s.heap.push yc) (o:=xl C s.heap.objs.size) rfl;rwa [yp]at this
 have e3:(s.heap.push yc).Ns s.heap.objs.size (λ_=>none):=⟨yc, #[],_,e1,rfl,(λe he=>absurd he (by simp)),λ_=>rfl⟩;have I1:=I.laid (a:=s.heap.objs.size) (o:=.own (s.heap.objs.size+1)) (h':=s.heap.push yc) (t':=s.toks) (λb u q=>ze _ q) (zf _) ⟨_,e1⟩;refine I1.laid (a:=s.heap.objs.size+1) (o:=.ins C s.heap.objs.size []) (t':=s.toks) (λb u q=>ze _ q) (YN (yp _ _)) ?_;have ne:s.heap.objs.size≠s.heap.objs.size+1:=zL (xK _);refine⟨by rw[v9 ne,N6],zD _,ne,e2,λ_=>none,(Heap.Ns1.of_empty e3).at λo q=>ze _ q,λ_=>True.intro,λy hy=>absurd rfl hy⟩
end
section
end
section
inductive C6(K:zg)(H:Hp):V->zi->Prop where
 |non:C6 K H .non (.type "NoneType")
 |bl (x:Bool):C6 K H (.bl x) (.type "bool")
 |int (i:Int):C6 K H (.int i) (.type "int")
 |str (x:Str):C6 K H (.str x) (.type "str")
 |flt (x:UInt64):C6 K H (.flt x) (.type "float")
 |lst {a:Addr} {xs:List V} (e:H a=some (.lst xs)):C6 K H (.ref a) (.type "list")
 |frz {a:Addr} {o:Obj} {xs:List V} (e:H a=some (.frz o (.lst xs))):C6 K H (.ref a) (.type "list")
 |tup {a:Addr} {xs:List V} (e:H a=some (.tup xs)):C6 K H (.ref a) (.type "tuple")
 |dK {a:Addr} {Nd:List (Key×V)} (e:H a=some (.dK Nd)):C6 K H (.ref a) (.type "dict")
 |dT {a:Addr} {Nd:List (List Key×V)} (e:H a=some (.dT Nd)):C6 K H (.ref a) (.type "dict")
 |ins {a C dx:Addr} {fs:List (Str×V)} (e:H a=some (.ins C dx fs)) (cl:Cls K C) (ha:xQ K (.ref C) "__class__" =some (some (.builtin "object.__class__")))
    (hn:Jr K (.builtin "object.__class__") "__get__" =some (some (.builtin "getset_descriptor.__get__"))) (htk:PySem.W.takesIn K (.builtin "object.__class__")=some true)
    (hm:PySem.W.mroIn K C (.type "object")=some true):C6 K H (.ref a) (.ref C)
end
structure Q7(k:Nat)(A:jd):Prop where
 hd:A.handled=none
 dp:A.depth+3*k+5<recursionLimit
 un:A.units+16*k+200<yU
 gd:A.guards=some []
theorem Q7.mono(r:Q7 k A)(h:j<=k):Q7 j A:=⟨r.hd,by have:=r.dp;lia,by have:=r.un;lia,r.gd⟩
theorem Q7.deeper(r:Q7 (k+1) A)(env:Env):Q7 k (A.deeper env):=
 ⟨r.hd,by have:=r.dp;show A.depth+1+3*k+5<_;lia,by have:=r.un;show A.units+3+16*k+200<_;lia,r.gd⟩
theorem Q7.in1(r:Q7 (k+1) A):Q7 k A.in1:=
 ⟨r.hd,by have:=r.dp;show A.depth+3*k+5<_;lia,by have:=r.un;show A.units+1+16*k+200<_;lia,r.gd⟩
theorem Q7.depth(r:Q7 k A):A.depth<recursionLimit:=by have:=r.dp;lia
theorem Q7.units(r:Q7 k A):A.units+64<yU:=by have:=r.un;lia
def bP:TA:=λ_ H Q=>Q [] H
def Hd(ta:TE)(tr:TA):TA:=λσ H Q=>ta σ H λx H1=>tr σ H1 λxs H2=>Q (x::xs) H2
section
theorem qw:PA X [] bP:=λ_ _ _ _ H Q I h=>Yx ⟨[],H,I,.nil,h⟩
theorem RY(ha:PE X e te)(hr:PA X es t)(hs:zW (e::es) X.env= (false,eval e X.env)::zW es X.env):PA X (e::es) (Hd te t):=by intro pos Nc s σ H Q I h;rw[hs];show zw _ _ (spliced ((false,eval e X.env)::yZ pos (zW es X.env))) _ _ s;refine Yl (thn (ha Nc s σ H _ I h) λu s1 Nw=>Nw.elim λx H1 I1 r1 q1=>?_);exact thn (hr pos Nc s1 σ H1 _ I1 q1) λus s2 Nw=>Nw.elim λxs H2 I2 r2 q2=>⟨x::xs,H2,I2,.cons r1 r2,q2⟩
def Kg(t:TA):TE:=λσ H Q=>t σ H λxs H1=>xs.length<=zk/\∀p,H1 p=none->Q (.ref p) (upd H1 p (.tup xs))
def vR(t:TA):TE:=λσ H Q=>t σ H λxs H1=>xs.length<=zk/\∀p,H1 p=none->Q (.ref p) (upd H1 p (.lst xs))
theorem UQ{x1}(h:PA X es t):PE X (.Tuple es x1 pos) (Kg t):=by intro Nc s σ H Q I hq;refine wpAny_Tuple_spliced (thn (h pos Nc s σ H _ I hq) λus s1 ⟨xs,H1,I1,r,z,q⟩=>⟨by rw[<-r.length];exact z,?_⟩);have hf:H1 s1.heap.objs.size=none:=I1.hok.fresh (zf _);refine⟨.ref s1.heap.objs.size,upd H1 s1.heap.objs.size (.tup xs),I1.laid (t':=s1.toks) (λb u e=>ze _ e) (zf _) ?_,rfl,q _ hf⟩;exact⟨z,us,r,⟨_,zu _ rfl,rfl,_,rfl⟩⟩
theorem pR(h:PA X es t):PE X (.List es pos) (vR t):=by intro Nc s σ H Q I hq;refine wpAny_List_spliced (thn (h pos Nc s σ H _ I hq) λus s1 ⟨xs,H1,I1,r,z,q⟩=>⟨by rw[<-r.length];exact z,?_⟩);have hf:H1 s1.heap.objs.size=none:=I1.hok.fresh (zf _);refine⟨.ref s1.heap.objs.size,upd H1 s1.heap.objs.size (.lst xs),I1.laid (t':=s1.toks) (λb u e=>ze _ e) (zf _) ?_,rfl,q _ hf⟩;exact⟨z,us,0,r,zu _ rfl⟩
end
abbrev Sp:=List V->Hp->VK->XK->Prop
abbrev CXT:=List Env->Hp->zm->XK->VSP
structure iA(P:zM)(w:zT)(K:zg)(mg:Str->Option zi)(base:Heap)(A:jd)(outer:List Env)(s:zm)(H:Hp):Prop where
 frames:A.frames=some outer
 mod:Mod K mg base
 bs:∀b o,base.get? b=some o->s.heap.get? b=some o/\H b=none
 bsz:base.objs.size<=s.heap.objs.size
 funs:s.heap.FunFrames base outer
 frf:∀b∈frs outer,H b=none
 hok:HOk P w H s.heap
 bare:YD s.gens
def CE(outer:List Env)(P:zM)(w:zT)(H:Hp)(s:zm)(Q:VK)(u:zi)(s':zm):Prop:=
 ∃v H',s'.os=s.os/\YD s'.gens/\Un (frs outer) [] H H' s.heap s'.heap/\HOk P w H' s'.heap/\o7 v u/\Q v H'
def CR(CX:CXT)(outer:List Env)(P:zM)(w:zT)(H:Hp)(s:zm)(Q:VK)(E:XK)(r:Result)(s':zm):Prop:=
 match r with
 | .ok (.ret u)=>CE outer P w H s Q u s'
 | .ok _=>False
 | .error e=>CX outer H s E e s'
structure U1(P:zM)(w:zT)(K:zg)(mg:Str->Option zi)(base:Heap)(CX:CXT)(k:Nat)(f:Addr)(fd:xc)(ps:List Str)(sp:Sp):Prop where
 len:∀vs H Q E,sp vs H Q E->vs.length=ps.length
 run:∀(A:jd) (outer:List Env) (s:zm) (H:Hp) (args:Args) (us:List zi) (vs:List V) (Q:VK) (E:XK),Q7 k A->iA P w K mg base A outer s H->Yb s fd args (ps.zip us)->o5 vs us->sp vs H Q E->
  ZE (zF P w) A (.call (.ref f) args) (CR CX outer P w H s Q E) s
theorem U1.mono{P:zM}{w:zT}{K:zg}{base:Heap}{CX:CXT}{j k:Nat}{f:Addr}{fd:xc}{ps:List Str}{sp:Sp}(F:U1 P w K mg base CX j f fd ps sp)(h:j<=k):
 U1 P w K mg base CX k f fd ps sp:=⟨F.len,λA outer s H args us vs Q E hr=>F.run A outer s H args us vs Q E (hr.mono h)⟩
theorem U1.imp{P:zM}{w:zT}{K:zg}{base:Heap}{CX:CXT}{k:Nat}{f:Addr}{fd:xc}{ps:List Str}{sp sp':Sp}(F:U1 P w K mg base CX k f fd ps sp)
 (h:∀vs H Q E,sp' vs H Q E->sp vs H Q E):U1 P w K mg base CX k f fd ps sp':=
 ⟨λvs H Q E q=>F.len vs H Q E (h _ _ _ _ q),λA outer s H args us vs Q E hr he hb hv hs=>F.run A outer s H args us vs Q E hr he hb hv (h _ _ _ _ hs)⟩
theorem iA.in1{P:zM}{w:zT}{K:zg}{base:Heap}{A:jd}{outer:List Env}{s:zm}{H:Hp}(e:iA P w K mg base A outer s H):
 iA P w K mg base A.in1 outer s H:=⟨e.frames,e.mod,e.bs,e.bsz,e.funs,e.frf,e.hok,e.bare⟩
section
theorem Inv.env0(I:Inv X Nc σ H s):iA X.prog X.w X.K X.mg X.base X.A X.stack s H:=
 ⟨I.ok.frames,I.ok.mod,I.bs,zp I.ok.bsz I.sz,I.stack,I.stkFree,I.hok,I.bare⟩
theorem Inv.after(I:Inv X Nc σ H s)(h:CE X.stack X.prog X.w H s Q u s'):EP X Nc σ Q u s':=by obtain⟨v,H',os,bare,un,hok,r,q⟩:=h;obtain⟨hh,g,d,t,os'⟩:=s';obtain rfl:os'=s.os:=os;exact⟨v,H',I.call (h':=hh) (g':=g) (d':=d) (t':=t) (ch:= []) un hok bare (λb z=>absurd z (by simp)),r,q⟩
end
def WN(sp:Sp)(dvs:List V)(E:XK)(t:TA):TE:=λσ H Q=>t σ H λvs H1=>sp (vs++dvs) H1 Q E
def T8(K:zg)(fd:xc)(ps:List Str)(ds:List zi):Prop:=
 ∀(s:zm) (us:List zi),K.In s.heap->(us++ds).length=ps.length->Yb s fd ⟨us, []⟩ (ps.zip (us++ds))
theorem T8.all{K:zg}{ps:List Str}(h:∀us:List zi,us.length=ps.length->bindArgs fd ⟨us, []⟩=pure (ps.zip us)):T8 K fd ps []:=λs us _ hl=>by rw[jP]at hl ⊢;exact .of_eq (h us hl)
def mD(CX:CXT)(X:Cx)(E:XK):Prop:=∀(Nc:PNS) (σ:St) (H:Hp) (s:zm) (e:zi) (s':zm),Inv X Nc σ H s->CX X.stack H s E e s'->X.xe e s'
section
theorem fO(F:U1 X.prog X.w X.K X.mg X.base CX k f fd ps sp)(hr:Q7 k X.A)(hb:T8 X.K fd ps ds)(hd:o5 dvs ds)(hx:mD CX X E)
 (I:Inv X Nc σ H s) (r:o5 vs us) (h:sp (vs++dvs) H Q E):zw (zF X.prog X.w) X.A (call (.ref f) us) (EP X Nc σ Q) X.xe s:=by
 have r2:o5 (vs++dvs) (us++ds):=r.append hd;have hl:(us++ds).length=ps.length:=by rw[<-r2.length];exact F.len _ _ _ _ h
 refine wpAny_call (Zj (F.run X.A X.stack s H ⟨us, []⟩ (us++ds) (vs++dvs) Q E hr I.env0 (hb s us I.kIn hl) r2 h) λr s' hq=>?_)
 cases r with
 |error e=>exact hx Nc σ H s e s' I hq
 |ok fl=>
   cases fl with
   |ret u=>exact I.after hq
   |next=>exact yn hq
   |brk=>exact yn hq
   |cont=>exact yn hq
theorem wW(F:U1 X.prog X.w X.K X.mg X.base CX k f fd ps sp)(hr:Q7 k X.A)(hg:Gl X x)(hm:X.mg x=some (.ref f))(hk:ya X.K (.ref f)=true)(hb:T8 X.K fd ps ds)(hd:o5 dvs ds)(hx:mD CX X E)
 (ha:PA X (e::es) t) (hdb:(x==("__debug__" :Str))=false) (he:zW (e::es) X.env= (false,eval e X.env)::zW es X.env) (Pz:(yZ pos (zW es X.env)).any (·.1)=false):
 PE X (.Call (.Name x p) (e::es) [] pos) (WN sp dvs E t):=by
 intro Nc s σ H Q I h;refine yX (gI I hg hm ?_ hdb);refine PySem.W.callWith_K (h₀:=X.base) I.ok.mod.kin hk (thn (ha pos Nc s σ H _ I h) λus s1 Nw=>Nw.elim λvs H1 I1 r q=>⟨I1.kIn,?_⟩) he Pz;exact fO F hr hb hd hx I1 r q
theorem GY(F:U1 X.prog X.w X.K X.mg X.base CX k f fd ps sp)(hr:Q7 k X.A)(hg:Gl X x)(hm:X.mg x=some (.ref f))(hk:ya X.K (.ref f)=true)(hb:T8 X.K fd ps ds)(hd:o5 dvs ds)(hx:mD CX X E)
 (hdb:(x==("__debug__" :Str))=false):PE X (.Call (.Name x p) [] [] pos) (WN sp dvs E bP):=by
 intro Nc s σ H Q I h;refine yX (gI I hg hm ?_ hdb);exact PySem.W.callWith_K0 I.kIn hk (fO (us:= []) F hr hb hd hx I .nil h)
structure Mk(K:zg)(C f:Addr):Prop where
 makes:PySem.W.makesIn K C=true
 init:xQ K (.ref C) "__init__" =some (some (.ref f))
 fn:PySem.W.isFn K (.ref f)=true
 kp:ya K (.ref C)=true
end
def PK(X:Cx)(kws:List Keyword)(t:TA):Prop:=
 ∀(pos:Pos) (Nc:PNS) (s:zm) (σ:St) (H:Hp) (Q:List V->Hp->Prop),Inv X Nc σ H s->t σ H Q->zw (zF X.prog X.w) X.A (evalAll ((Xn pos (ZC kws X.env)).map (·.2))) (AP X Nc σ Q) X.xe s
section
structure KBinds(K:zg)(fd:xc)(ps ks:List Str)(g:List zi->List zi->List zi)(gV:List V->List V->List V):Prop where
 to:∀(s:zm) (us ws:List zi),K.In s.heap->(g us ws).length=ps.length->Yb s fd ⟨us,ks.zip ws⟩ (ps.zip (g us ws))
 rel:∀ {vs:List V} {us:List zi} {zs:List V} {ws:List zi},o5 vs us->o5 zs ws->o5 (gV vs zs) (g us ws)
end
structure U3(N P:List Str)(sc:Scope):Prop where
 kind:sc.kind= .function
 co:sc.isCoroutine=false
 gen:sc.isGenerator=false
 nd:N.Nodup
 pre:N.take P.length=P
 par:∀x∈P,sc.names.lookup x=some .local\/sc.names.lookup x=some .cell
 nofree:∀y∈sc.names,y.2≠ .free
theorem LN{yM:Str->Option NameKind}{x:Str}:∀ {binds} {m:Str->Option zi},(∀v,(x,v)∉binds)->JN yM binds m x=m x
 |[],_,_=>rfl
 |(n,v)::r,m,h=>by
  unfold JN;rw[LN λw hw=>h w (zl _ hw)];split
  · have:x≠n:=by rintro rfl;exact h v zt
    simp[this]
  ·rfl
theorem aK{yM:Str->Option NameKind}{x:Str}:∀ {binds} {m:Str->Option zi},(∀v,(x,v)∉binds)->JO yM binds m x=m x
 |[],_,_=>rfl
 |(n,v)::r,m,h=>by
  unfold JO;rw[aK λw hw=>h w (zl _ hw)];split
  ·rfl
  · have:x≠n:=by rintro rfl;exact h v zt
    simp[this]
theorem EK{yM:Str->Option NameKind}{x:Str}{v:zi}:∀ {P:List Str} {vs:List zi} {i:Nat} {m},P.Nodup->P[i]? =some x->vs[i]? =some v->yM x=some .local->
 JN yM (P.zip vs) m x=some v
 |[],_,_,_,_,h,_,_=>by simp at h
 |_::_, [],_,_,_,_,h,_=>by simp at h
 |p::P,w::vs,0,m,nd,h1,h2,hk=>by simp at h1 h2;subst h1;subst h2;show JN yM ((p,w)::P.zip vs) m p=_;unfold JN;rw[LN λv hv=>(ye.mp nd).1 (Xh hv).1,if_pos hk];simp
 |p::P,w::vs,i+1,m,nd,h1,h2,hk=>by show JN yM ((p,w)::P.zip vs) m x=_;unfold JN;exact EK (i:=i) (ye.mp nd).2 (by simpa using h1) (by simpa using h2) hk
theorem SO{yM:Str->Option NameKind}{x:Str}{v:zi}:∀ {P:List Str} {vs:List zi} {i:Nat} {m},P.Nodup->P[i]? =some x->vs[i]? =some v->yM x≠some .local->
 JO yM (P.zip vs) m x=some v
 |[],_,_,_,_,h,_,_=>by simp at h
 |_::_, [],_,_,_,_,h,_=>by simp at h
 |p::P,w::vs,0,m,nd,h1,h2,hk=>by simp at h1 h2;subst h1;subst h2;show JO yM ((p,w)::P.zip vs) m p=_;unfold JO;rw[aK λv hv=>(ye.mp nd).1 (Xh hv).1,if_neg hk];simp
 |p::P,w::vs,i+1,m,nd,h1,h2,hk=>by show JO yM ((p,w)::P.zip vs) m x=_;unfold JO;exact SO (i:=i) (ye.mp nd).2 (by simpa using h1) (by simpa using h2) hk
def start(N:List Str)(vs:List V):St:=vs.map some++yr (N.length-vs.length) none
def g7(CX:CXT)(P:zM)(w:zT)(K:zg)(mg:Str->Option zi)(base:Heap)(N:List Str)(qual:Str)(scope:Scope)(f:Addr)(cd:zi)(A:jd)(outer:List Env)(s:zm)(H:Hp)(E:XK):Cx where
 prog:=P
 w:=w
 K:=K
 mg:=mg
 base:=base
 A:=A.deeper (ZM qual scope s.heap.objs.size f cd)
 N:=N
 WZ:=s
 H₀:=H
 env:=ZM qual scope s.heap.objs.size f cd
 outer:=outer
 stack:=ZM qual scope s.heap.objs.size f cd::outer
 ex:= []
 calm:=true
 fn:=λ_=>true
 pn:= []
 xe:=λe s'=>zw (zF P w) (A.deeper (ZM qual scope s.heap.objs.size f cd)) (leaving (ZM qual scope s.heap.objs.size f cd) e) (λ_ s''=>CX outer H s E e s'') (λe' s''=>CX outer H s E e' s'') s'
theorem BM{sc:Scope}{x:Str}(h:sc.names.lookup x=some .cell):∃c,(cellsFrom n sc.names []).lookup x=some c:=by have q:=XE sc.names n [] (.inl h);exact Xu.mp q
theorem sW{CX:CXT}{P:zM}{w:zT}{K:zg}{mg:Str->Option zi}{base:Heap}{N ps:List Str}{qual:Str}{scope:Scope}{f:Addr}{cd:zi}{A:jd}{outer:List Env}{s s1:zm}{H:Hp}{E:XK}{us:List zi}{vs:List V}
 (S:U3 N ps scope) (hd:A.handled=none) (gd:A.guards=some []) (e0:iA P w K mg base A outer s H) (hl:vs.length=ps.length) (r:o5 vs us)
 (x:InCallC s s.heap.objs.size (JN (ZM qual scope s.heap.objs.size f cd).kindOf (ps.zip us) λ_=>none) (cellsFrom (s.heap.objs.size+1) scope.names []) (JO (ZM qual scope s.heap.objs.size f cd).kindOf (ps.zip us) λ_=>none) s1):
 Inv (g7 CX P w K mg base N qual scope f cd A outer s H E) [] (start N vs) H s1:=by
 have Pz:ps.length<=N.length:=by have:=congrArg Zm S.pre;rw[jI]at this;lia
 obtain⟨h1,tk,rfl,hk⟩:=x.done;have noA:∀b:Addr,b∉(g7 CX P w K mg base N qual scope f cd A outer s H E).ex:=λb z=>absurd (show b∈([]:List Addr)from z) (by simp);refine⟨⟨e0.mod,S.kind,rfl,rfl,zf _,λy z c h1 h2=>?_,λy hy=>?_,λy c _ h=>?_,λ_=>hd,Around.frames_deeper e0.frames,.inr ⟨rfl,rfl⟩,λb z=>absurd z (noA b),e0.bs,e0.bsz,λb _ _=>noA b,λb z=>absurd z (noA b),e0.funs,e0.frf,gd⟩,
  rfl,e0.bare,Un.kept hk,⟨_,x.toInCall.ns,λi y v h1 h2 h3=>?_⟩,λy c h=>⟨_,x.cell y c h⟩,e0.hok.fresh (zf _),λy c h=>?_,λp hp=>absurd (show p∈([]:PNS)from hp) (by simp),e0.hok.kept hk,?_⟩
 ·exact name_of_addr x.apart (yC h1) (yC h2)
 · have hy:scope.names.lookup y=some .cell\/scope.names.lookup y=some .free:=hy;rcases hy with hy|hy
   ·exact BM hy
   ·exact absurd rfl (S.nofree _ (yC hy))
 ·exact jT (x.above y c (yC h))
 · have hi:i<vs.length:=by
    unfold start at h2;by_cases hi:i<vs.length
    ·exact hi
    ·rw[yt (by simpa using hi)]at h2;rw[Ja]at h2;split at h2<;>cases h2
   have ha:vs[i]? =some v:=by
    unfold start at h2;rw[zh (by simpa using hi),jg]at h2
    cases e:vs[i]? with
    |none=>rw[e]at h2;cases h2
    |some a=>rw[e]at h2;cases h2;rfl
   obtain⟨u,hu,rv⟩:=r.get ha;have hp:ps[i]? =some y:=by rw[<-S.pre,XV (by lia)];exact h1
   have ndP:ps.Nodup:=by rw[<-S.pre];exact S.nd.sublist (List.take_sublist _ _)
   refine⟨u,rv,?_⟩;rcases S.par y (ji hp)with k|k
   ·exact .inl ⟨k,EK ndP hp hu k⟩
   ·obtain⟨c,e⟩:=BM (n:=s.heap.objs.size+1) k;refine .inr ⟨.inl k,c,e,?_⟩;have q:=x.cell y c e;rw[SO ndP hp hu (by show scope.names.lookup y≠_;rw[k];decide)]at q;exact q
 ·exact e0.hok.fresh (jT (x.above y c (yC h)))
 ·unfold start;show _=N.length;rw[zd,zc,List.length_replicate];lia
theorem Kp{CX:CXT}{P:zM}{w:zT}{K:zg}{mg:Str->Option zi}{base:Heap}{k:Nat}{f:Addr}{name qual:Str}{params:Arguments}{body:List Stmt}{scope:Scope}{dV kV doc pm Nz ct oc:zi}{an od:Option Addr}
 {N ps:List Str} {sp:Sp} (lk:K.lookup f=some ⟨oc,od,.func (yg name qual params body scope dV kV doc pm an Nz ct),osl⟩) (hcd:xR K Nz qual=true) (S:U3 N ps scope)
 (len:∀vs H Q E,sp vs H Q E->vs.length=ps.length)
 (hbody:∀(A:jd) (outer:List Env) (s:zm) (H:Hp) (vs:List V) (Q:VK) (E:XK),Q7 k (A.deeper (ZM qual scope s.heap.objs.size f Nz))->sp vs H Q E->
   ∃t,PSs (g7 CX P w K mg base N qual scope f Nz A outer s H E) body t/\t {nx:=λ_ H'=>Q .non H',rt:=Q} (start N vs) H):
 U1 P w K mg base CX (k+1) f (yg name qual params body scope dV kV doc pm an Nz ct) ps sp:=by
 refine⟨len,λA outer s H args us vs Q E hr e0 hb r hsp=>?_⟩;have hl:=len _ _ _ _ hsp;have KX:K.In s.heap:=e0.mod.kin.keeps λb o e=>(e0.bs b o e).1;have lim:s.heap.NoLimit:=e0.mod.nolimit.keeps λb o e=>(e0.bs b o e).1;have hkind:∀y∈ps.zip us,scope.names.lookup y.1=some .local\/(scope.names.lookup y.1=some .cell/\((cellsFrom (s.heap.objs.size+1) scope.names []).lookup y.1).isSome=true):=fun⟨n,v⟩ hy=>by
  rcases S.par n (Xh hy).1 with q|q
  ·exact .inl q
  ·exact .inr ⟨q,XE _ _ _ (.inl q)⟩
 refine codeAny_call_function hr.depth (KX _ _ lk) rfl S.co S.gen rfl (PySem.W.codeRec_of KX hcd) (hb _ _ _ _ ?_);refine wpAny_newFunctionEnv_cells S.kind hkind λenv he s1 x=>?_;subst he;refine⟨lim.keeps x.toInCall.keep,codeAny_func ?_⟩;obtain⟨t,ht,hq⟩:=hbody A outer s H vs Q E (hr.deeper _) hsp;have I:Inv (g7 CX P w K mg base N qual scope f Nz A outer s H E) [] (start N vs) H s1:=sW S hr.hd hr.gd e0 hl r x;refine jG (ht [] s1 (start N vs) H _ I hq) (λfl s' hs=>?_) λe s' hs=>hs;have fin:∀ {X1:St} {H':Hp} {v:V} {u:zi},Inv (g7 CX P w K mg base N qual scope f Nz A outer s H E) [] X1 H' s'->o7 v u->Q v H'->CE outer P w H s Q u s':=
  λ{X1 H' v u} J rv q=>⟨v,H',J.os,J.bare,J.base,J.hok,rv,q⟩
 cases fl with
 |ret u=>
   obtain⟨v,X1,H',J,rv,q⟩:=hs;exact fin J rv q
 |next=>
   obtain⟨X1,H',J,q⟩:=hs;exact fin (v:=V.non) (u:=Value.none) J rfl q
 |brk=>
   obtain⟨_,_,_,q⟩:=hs;exact yn q
 |cont=>
   obtain⟨_,_,_,q⟩:=hs;exact yn q
section
variable{X:Cx}{x:Str}{p pos:Pos}{e:Expr}{es:List Expr}{t:TA}{id T:String}{r:List V->Hp->VK->Prop}
def tCB(r:List V->Hp->VK->Prop)(t:TA):TE:=λσ H Q=>t σ H λvs H1=>r vs H1 Q
theorem Gk(hc:R4 X (.builtin id) r)(hg:Gl X x)(hm:X.mg x=none)(hv:jj x=some (.builtin id))(ha:PA X (e::es) t)(hn:x≠ "__name__")(hdb:(x==("__debug__" :Str))=false)
 (he:zW (e::es) X.env= (false,eval e X.env)::zW es X.env) (Pz:(yZ pos (zW es X.env)).any (·.1)=false):PE X (.Call (.Name x p) (e::es) [] pos) (tCB r t):=by
 intro Nc s σ H Q I h;refine yX (oB I hg hm hv ?_ hn hdb);exact PyProof.Rows.callWith_builtin1 (thn (ha pos Nc s σ H _ I h) λus s1 Nw=>Nw.elim λvs H1 I1 r1 q1=>hc Nc s1 σ H1 vs us Q I1 r1 q1) he Pz
theorem CP(hc:R4 X (.type T) r)(hg:Gl X x)(hm:X.mg x=none)(hv:jj x=some (.type T))(ha:PA X (e::es) t)(hn:x≠ "__name__")(hdb:(x==("__debug__" :Str))=false)
 (he:zW (e::es) X.env= (false,eval e X.env)::zW es X.env) (Pz:(yZ pos (zW es X.env)).any (·.1)=false):PE X (.Call (.Name x p) (e::es) [] pos) (tCB r t):=by
 intro Nc s σ H Q I h;refine yX (oB I hg hm hv ?_ hn hdb);exact Yp (thn (ha pos Nc s σ H _ I h) λus s1 Nw=>Nw.elim λvs H1 I1 r1 q1=>hc Nc s1 σ H1 vs us Q I1 r1 q1) he Pz
end
end L2
namespace HT
open PySem PyProof.Rows
section
open PySem.SeqAt
open PySem.AutoSeq1 (wpAny_loadPart')
open PySem.MeetsSeq PySem.MeetsSeq2 PySem.MeetsSeq3
end
section
theorem cat_tup(ht:XT s.heap t vs.toArray)(hb:XT s.heap b ws.toArray)(hv:vs≠ [])
 (h1:ws= []->Q (.ref t) s) (h2:ws≠ []->Q (.ref s.heap.objs.size) {s with heap:=s.heap.push {cls:=.type "tuple",data:=.seq (vs++ws).toArray}})
 (hsz:vs.length+ws.length<=zk):zw (zF prog w) A (jX .Add (.ref t) (.ref b)) Q E s:=by
 obtain⟨⟨cls,dd,data,sl⟩,ho,hc,n,hd⟩:=id ht;obtain⟨⟨cls2,dd2,data2,sl2⟩,Pg,hc2,n2,hd2⟩:=id hb;simp only at hc hd hc2 hd2;subst hc hd hc2 hd2;have e:vs.toArray++ws.toArray= (vs++ws).toArray:=by simp
 by_cases hw:ws= []
 · exact concat_meets ⟨_,ho,rfl⟩ ⟨_,Pg,rfl⟩ XD JB Zp Zl (Zd _ _)
    (tuple_addW1 t b vs.toArray ws.toArray n n2 dd dd2 sl sl2 (by simpa using hv) (by simp[hw])) ⟨ho,Pg,h1 hw⟩
 · refine concat_meets ⟨_,ho,rfl⟩ ⟨_,Pg,rfl⟩ XD JB Zp Zl (Zd _ _)
    (tuple_addW2 t b vs.toArray ws.toArray n n2 dd dd2 sl sl2 (by simpa using hv) (by simpa using hw) (by rw[zo,zo];exact hsz)) ⟨ho,Pg,?_⟩
   rw[e];exact h2 hw
def sIx(n d:Nat):Option Int->Nat
 |none=>d
 |some v=>if v<0 then (v+(n:Int)).toNat else min v.toNat n
theorem sIx_none(n d:Nat):sIx n d none=d:=rfl
theorem sIx_nat(n d k:Nat):sIx n d (some (k:Int))=min k n:=by show (if (k:Int)<0 then ((k:Int)+(n:Int)).toNat else min (k:Int).toNat n)=min k n;rw[if_neg (by lia),jV]
theorem vv(n d:Nat)(hd:d<=n)(o:Option Int):sIx n d o<=n:=by
 cases o with
 |none=>exact hd
 |some v=>
   show (if v<0 then (v+(n:Int)).toNat else min v.toNat n)<=n;by_cases hv:v<0
   ·rw[if_pos hv];lia
   ·rw[if_neg hv];exact Nat.min_le_right _ _
theorem AK(v:Int)(n d:Nat):(if v<0 then max (v+(n:Int)) 0 else min v (n:Int))= ((sIx n d (some v):Nat):Int):=by
 show (if v<0 then max (v+(n:Int)) 0 else min v (n:Int))= (((if v<0 then (v+(n:Int)).toNat else min v.toNat n):Nat):Int);by_cases hv:v<0
 ·simp only[if_pos hv];lia
 ·simp only[if_neg hv];lia
theorem US(lo hi:Option Int)(n:Nat):xJ lo hi 1 (n:Int)= (((sIx n 0 lo:Nat):Int),((sIx n n hi:Nat):Int)):=by
 have h1:¬((1:Int)<0):=by lia
 unfold xJ;simp only[h1,if_false];refine Prod.ext ?_ ?_
 · cases lo with
   |none=>rfl
   |some v=>exact AK v n 0
 · cases hi with
   |none=>rfl
   |some v=>exact AK v n n
theorem Kc(i j:Nat):yO (i:Int) (j:Int) 1=j-i:=by
 unfold yO;have h1:(1:Int)>0:=by lia
 simp only[h1,if_true,Int.ediv_one];split<;>lia
theorem ON(p:IsPart v o)(h:Q o s):zw (zF prog w) A (Builtin.Slice.slicePartIndex v) Q E s:=by
 cases p with
 |none=>exact slicePart_none h
 |int i t=>exact slicePart_int h
theorem sliceApplied_gen{sl:Addr}{vl vu:zi}{lo hi:Option Int}{n:Nat}(hs:s.heap.IsSliceOf sl vl vu .none)(pl:IsPart vl lo)(pu:IsPart vu hi)
 (h:Q (((sIx n 0 lo:Nat):Int),1,sIx n n hi-sIx n 0 lo) s):zw (zF prog w) A (Yn (.ref sl) (pure (n:Int))) Q E s:=by
 obtain⟨os,hos,hcs,hds⟩:=id hs;unfold Yn Builtin.Slice.sliceFields;refine za (za (wpAny_field hos hds (x:=vl) rfl (za (wpAny_field hos hds (x:=vu) rfl (za (wpAny_field hos hds (x:=.none) rfl (zj ?_)))))));refine za (slicePart_none ?_);show zw _ _ (if ((1:Int)==0)=true then _ else _) _ _ s;rw[if_neg (by decide)];refine za (ON pl (za (ON pu (za (zj ?_)))));show zw _ _ (match xJ lo hi 1 (n:Int) with|(lo,hi)=>pure (lo,(1:Int),yO lo hi 1)) _ _ s;rw[US lo hi n];show zw _ _ (pure (((sIx n 0 lo:Nat):Int),(1:Int),yO ((sIx n 0 lo:Nat):Int) ((sIx n n hi:Nat):Int) 1)) _ _ s;rw[Kc];exact zj h
theorem mP(xs:Array zi)(i k:Nat):((zK k).filterMap fun(m:Nat)=>xs[((i:Int)+(m:Int)*1).toNat]?).toArray= ((xs.toList.drop i).take k).toArray:=by
 have e:(fun(m:Nat)=>xs[((i:Int)+(m:Int)*1).toNat]?)=λm=>xs[i+m]? :=by
  funext m;have:((i:Int)+(m:Int)*1).toNat=i+m:=by lia
  rw[this]
 rw[e];have:=pick_run xs i k;rw[Zc]at this;have e2:((λx=>xs[x]?)∘λx=>i+x)=λm=>xs[i+m]? :=rfl;rw[e2]at this;rw[this]
theorem getItem_tuple_cut{t sl:Addr}{vl vu:zi}{lo hi:Option Int}(ht:XT s.heap t items)(hs:s.heap.IsSliceOf sl vl vu .none)(pl:IsPart vl lo)(pu:IsPart vu hi)
 (hw:¬(sIx items.size 0 lo=0/\sIx items.size items.size hi=items.size))
 (h:Q (.ref s.heap.objs.size) {s with heap:=s.heap.push {cls:=.type "tuple",data:=.seq ((items.toList.drop (sIx items.size 0 lo)).take (sIx items.size items.size hi-sIx items.size 0 lo)).toArray}})
 (hsz:items.size<=zk):zw (zF prog w) A (Xm (.ref t) (.ref sl)) Q E s:=by
 have htake:sizeOk (.seq ((items.toList.drop (sIx items.size 0 lo)).take (sIx items.size items.size hi-sIx items.size 0 lo)).toArray):=by show ((items.toList.drop (sIx items.size 0 lo)).take (sIx items.size items.size hi-sIx items.size 0 lo)).toArray.size<=zk;rw[zo,jI,xF,zC];lia
 have hj:sIx items.size items.size hi<=items.size:=vv _ _ (zf _) hi;obtain⟨os,hos,hcs,hds⟩:=id hs;have hTs:s.TypeIs (.ref sl) "slice":=⟨os,hos,hcs⟩;unfold Xm
 try with_reducible refine jw ?_
 first|refine za (zj ?_)|skip
 refine za (wpAny_sequenceKey ht.typeIs (by decide) ?_);refine za (yh (name:=jD "__getitem__") ht.typeIs jy
  (jC jy ht.typeIs entry_tuple_getitem ?_ (args_tuple_getitem _ _)))
 show zw _ _ (Ym (.ref t) >>= _) _ _ s;refine za (tupleItemsOf_ ht ?_);refine za (Zi hTs ?_);rw[if_pos (by decide)];refine za (sliceApplied_gen hs pl pu ?_);have hno:¬((((sIx items.size 0 lo:Nat):Int)==0&&(1:Int)==1&&(sIx items.size items.size hi-sIx items.size 0 lo)==items.size)=true):=by intro q;rw[jl,jl]at q;have q1:((sIx items.size 0 lo:Nat):Int)=0:=eq_of_beq q.1.1;have q2:sIx items.size items.size hi-sIx items.size 0 lo=items.size:=eq_of_beq q.2;exact hw ⟨by lia,by lia⟩
 show zw _ _ (if (((sIx items.size 0 lo:Nat):Int)==0&&(1:Int)==1&&(sIx items.size items.size hi-sIx items.size 0 lo)==items.size)=true then _ else _) _ _ s;rw[if_neg hno,mP]
 first
  |exact za (m:=xb _) (xg (zj ⟨_,rfl,zj h⟩) htake)
  |exact za (m:=xb _) (xg (za (zj (zj ⟨_,rfl,zj h⟩))) htake)
  |exact za (za (m:=xb _) (xg (zj (zj ⟨_,rfl,zj h⟩)) htake))
  |exact za (za (m:=xb _) (xg (zj ⟨_,rfl,zj h⟩) htake))
end
end HT
namespace L2
open PySem PySem.Spec PyProof.Rows
abbrev TO:=St->Hp->(Option Int->Hp->Prop)->Prop
def PO(X:Cx)(e:Option Expr)(t:TO):Prop:=
 ∀(Nc:PNS) (s:zm) (σ:St) (H:Hp) (Q:Option Int->Hp->Prop),Inv X Nc σ H s->t σ H Q->
  zw (zF X.prog X.w) X.A (evalPart e X.env) (λu s'=>∃o H',Inv X Nc σ H' s'/\IsPart u o/\Q o H') X.xe s
def BU:TO:=λ_ H Q=>Q none H
def uV(t:TE):TO:=λσ H Q=>t σ H λx H1=>∃i,x= .int i/\Q (some i) H1
section
variable{X:Cx}{e:Expr}{te:TE}{lo hi:Option Expr}{tl th:TO}{pos p2:Pos}
theorem OU:PO X none BU:=by intro Nc s σ H Q I h;rw[evalPart_none];exact zj ⟨none,H,I,.none,h⟩
theorem eT(h:PE X e te):PO X (some e) (uV te):=by intro Nc s σ H Q I hw;rw[evalPart_some];refine thn (h Nc s σ H _ I hw) λu s1 Nw=>Nw.elim λx H1 I1 r1 q1=>?_;obtain⟨i,rfl,q⟩:=q1;obtain⟨t,rfl⟩:=r1;exact⟨some i,H1,I1,.int i t,q⟩
def SlR(X:Cx)(r:V->Option Int->Option Int->Hp->VK->Prop):Prop:=
 ∀(Nc:PNS) (s:zm) (σ:St) (H:Hp) (x:V) (v vl vu:zi) (lo hi:Option Int) (sl:Addr) (Q:VK),Inv X Nc σ H s->o7 x v->s.heap.IsSliceOf sl vl vu .none->IsPart vl lo->IsPart vu hi->r x lo hi H Q->
  ∃T id,typeLookup (.type T) "__getitem__" =pure (some (.builtin id))/\s.TypeIs v T/\zw (zF X.prog X.w) X.A (Xm v (.ref sl)) (EP X Nc σ Q) X.xe s
theorem SlR.or(h:SlR X r)(h':SlR X r'):SlR X (λx lo hi H Q=>r x lo hi H Q\/r' x lo hi H Q):=by
 intro Nc s σ H x v vl vu lo hi sl Q I rx hs pl pu q;rcases q with q|q
 ·exact h Nc s σ H x v vl vu lo hi sl Q I rx hs pl pu q
 ·exact h' Nc s σ H x v vl vu lo hi sl Q I rx hs pl pu q
def tSl(r:V->Option Int->Option Int->Hp->VK->Prop)(te:TE)(tl th:TO):TE:=λσ H Q=>te σ H λx H1=>tl σ H1 λl H2=>th σ H2 λu H3=>r x l u H3 Q
theorem wV(hr:SlR X r)(he:PE X e te)(hl:PO X lo tl)(hu:PO X hi th):PE X (.Subscript e (.Slice lo hi none p2) pos) (tSl r te tl th):=by intro Nc s σ H Q I h;refine Subscript_ (thn (he Nc s σ H _ I h) λv s1 Nw=>Nw.elim λx H1 I1 r1 q1=>?_);refine wpAny_Slice (thn (hl Nc s1 σ H1 _ I1 q1) λvl s2 ⟨l,H2,I2,pl,q2⟩=>thn (hu Nc s2 σ H2 _ I2 q2) λvu s3 ⟨u,H3,I3,pu,q3⟩=>?_);rw[evalPart_none];refine zj ?_;have I4:Inv X Nc σ H3 {s3 with heap:=s3.heap.push {cls:=.type "slice",data:=.fields #[vl,vu,.none]}}:=I3.kept (t':=s3.toks) λb ob q=>ze _ q;obtain⟨T,id,hT,ht,hg⟩:=hr Nc {s3 with heap:=s3.heap.push {cls:=.type "slice",data:=.fields #[vl,vu,.none]}} σ H3 x v vl vu l u s3.heap.objs.size Q I4 r1 (Heap.IsSliceOf.new ..) pl pu q3;show zw (zF X.prog X.w) X.A (subscriptTail e (.Slice lo hi none p2) v (.ref s3.heap.objs.size)) (EP X Nc σ Q) X.xe {s3 with heap:=s3.heap.push {cls:=.type "slice",data:=.fields #[vl,vu,.none]}};exact tail_any (ops:= [.ref s3.heap.objs.size,v]) ht hT hg (by with_unfolding_all rfl)
def a8(xs:List V)(lo hi:Option Int):List V:=(xs.drop (HT.sIx xs.length 0 lo)).take (HT.sIx xs.length xs.length hi-HT.sIx xs.length 0 lo)
theorem gK(xs:List V)(lo hi:Option Int):(a8 xs lo hi).length<=xs.length:=by unfold a8;rw[jI,xF];lia
def VU(K:zg):V->Option Int->Option Int->Hp->VK->Prop:=λx lo hi H Q=>∃a xs,x= .ref a/\SqT K H a xs/\
 ¬(HT.sIx xs.length 0 lo=0/\HT.sIx xs.length xs.length hi=xs.length)/\∀p,H p=none->Q (.ref p) (upd H p (.tup (a8 xs lo hi)))
theorem sl_tup:SlR X (VU X.K):=by
 intro Nc s σ H x v vl vu lo hi sl Q I rx hs pl pu h;obtain⟨a,xs,rfl,hx,hw,q⟩:=h
 cases rx
 obtain⟨Nf,r,ht,hz⟩:=I.tuple hx;have Nh:Nf.toArray.size=xs.length:=by rw[zo];exact r.length.symm
 refine⟨"tuple",_,jy.lookup,ht.typeIs,?_⟩;refine HT.getItem_tuple_cut ht hs pl pu (by rw[Nh];exact hw) ?_ (by rw[Nh];exact hz);rw[Nh];refine⟨.ref s.heap.objs.size,_,I.laid (t':=s.toks) (o:=.tup (a8 xs lo hi)) (λb ob q=>ze _ q) (zf _) ?_,rfl,q _ (I.hok.fresh (zf _))⟩;exact⟨zp (gK xs lo hi) hz,_,(r.drop (HT.sIx xs.length 0 lo)).take (HT.sIx xs.length xs.length hi-HT.sIx xs.length 0 lo),L6.new _ _⟩
def tU(K:zg):R2:=λx y H Q=>∃a b xs ys,x= .ref a/\y= .ref b/\SqT K H a xs/\SqT K H b ys/\xs≠ []/\xs.length+ys.length<=zk/\
 (ys= []->Q (.ref a) H)/\(ys≠ []->∀p,H p=none->Q (.ref p) (upd H p (.tup (xs++ys))))
theorem o5.nil_iff(r:o5 xs us):us= []↔xs= []:=by
 cases r with
 |nil=>simp
 |cons _ _=>simp
theorem qv:OpR X (jX .Add) (tU X.K):=by
 intro Nc s σ H x y v u Q I rx ry h;obtain⟨a,b,xs,ys,rfl,rfl,ha,hb,hx,hz,q1,q2⟩:=h
 cases rx
 cases ry
 obtain⟨Nf,r1,p1,_⟩:=I.tuple ha;obtain⟨its2,r2,p2,_⟩:=I.tuple hb;refine HT.cat_tup p1 p2 (λz=>hx (r1.nil_iff.mp z)) (λz=>⟨.ref a,H,I,rfl,q1 (r2.nil_iff.mp z)⟩) (λz=>?_) (by rw[<-r1.length,<-r2.length];exact hz);refine⟨.ref s.heap.objs.size,_,I.laid (t':=s.toks) (o:=.tup (xs++ys)) (λb ob q=>ze _ q) (zf _) ?_,rfl,q2 (λw=>z (r2.nil_iff.mpr w)) _ (I.hok.fresh (zf _))⟩;exact⟨by rw[zd];exact hz,_,r1.append r2,L6.new _ _⟩
end
def ixN(n:Nat)(i:Int):Option Nat:=if 0<=i then (if i<n then some i.toNat else none)else if -(n:Int)<=i then some (i+n).toNat else none
def atI{α:Type}(xs:List α)(i:Int):Option α:=(ixN xs.length i).bind λj=>xs[j]?
theorem UK(h:ixN n i=some j):JM i n=some j/\j<n/\ -(n:Int)<=i/\i<n:=by
 unfold ixN at h;by_cases h0:0<=i
 · rw[if_pos h0]at h;by_cases h1:i<n
   ·rw[if_pos h1]at h;have e:i.toNat=j:=jo h;exact⟨by rw[seqIndex_of h0 h1,e],by lia,by lia,h1⟩
   ·rw[if_neg h1]at h;cases h
 · rw[if_neg h0]at h;by_cases h1: -(n:Int)<=i
   ·rw[if_pos h1]at h;have e:(i+n).toNat=j:=jo h;exact⟨by rw[JZ (by lia) h1,e],by lia,h1,by lia⟩
   ·rw[if_neg h1]at h;cases h
theorem GH(h:atI xs i=some v):∃j,JM i xs.length=some j/\xs[j]? =some v/\j<xs.length/\ -(xs.length:Int)<=i/\i<xs.length:=by
 unfold atI at h
 cases e:ixN xs.length i with
 |none=>rw[e]at h;cases h
 |some j=>
   rw[e]at h;obtain⟨h1,h2,h3,h4⟩:=UK e;exact⟨j,h1,h,h2,h3,h4⟩
theorem atI_nat{xs:List α}{j:Nat}{v:α}(h:xs[j]? =some v):atI xs (j:Int)=some v:=by
 have hj:j<xs.length:=(yy.mp h).1;have e:ixN xs.length (j:Int)=some j:=by unfold ixN;rw[if_pos (by lia),if_pos (by lia)];simp
 unfold atI;rw[e];exact h
theorem KR(xs:List α)(v:α):atI (xs++[v]) (-1)=some v:=by
 have hl:(xs++[v]).length=xs.length+1:=by simp
 have e:ixN (xs++[v]).length (-1)=some xs.length:=by unfold ixN;rw[hl,if_neg (by decide),if_pos (by lia)];congr 1;lia
 unfold atI;rw[e];show (xs++[v])[xs.length]? =some v;simp
def UE(b:Expr):Prop:=∀o i,subscripted b false o i=operate [o,i] (Xm o i)
def IxR(X:Cx)(r:R2):Prop:=
 ∀(value slice:Expr) (Nc:PNS) (s:zm) (σ:St) (H:Hp) (x y:V) (v u:zi) (Q:VK),Inv X Nc σ H s->o7 x v->o7 y u->r x y H Q->
  subscripted slice false v u=operate [v,u] (Xm v u)->zw (zF X.prog X.w) X.A (subscriptTail value slice v u) (EP X Nc σ Q) X.xe s
def MtR(X:Cx)(id:String)(r:V->List V->Hp->VK->Prop):Prop:=
 ∀(Nc:PNS) (s:zm) (σ:St) (H:Hp) (x:V) (xs:List V) (v:zi) (us:List zi) (Q:VK),Inv X Nc σ H s->o7 x v->o5 xs us->r x xs H Q->
  zw (zF X.prog X.w) X.A (call (.builtin id) (v::us)) (EP X Nc σ Q) X.xe s
section
variable{X:Cx}
theorem IxR.or(h:IxR X r)(h':IxR X r'):IxR X (λx y H Q=>r x y H Q\/r' x y H Q):=by
 intro value slice Nc s σ H x y v u Q I rx ry q hs;rcases q with q|q
 ·exact h value slice Nc s σ H x y v u Q I rx ry q hs
 ·exact h' value slice Nc s σ H x y v u Q I rx ry q hs
theorem MtR.or{id:String}(h:MtR X id r)(h':MtR X id r'):MtR X id (λx xs H Q=>r x xs H Q\/r' x xs H Q):=by
 intro Nc s σ H x xs v us Q I rx rs q;rcases q with q|q
 ·exact h Nc s σ H x xs v us Q I rx rs q
 ·exact h' Nc s σ H x xs v us Q I rx rs q
theorem Dj(hr:IxR X r)(ha:PE X a ta)(hb:PE X b tb)(hs:UE b):PE X (.Subscript a b pos) (tOp r ta tb):=by intro Nc s σ H Q I h;exact Subscript_ (KH ha hb I h λv u s2 x y H2 I2 rx ry q=>hr a b Nc s2 σ H2 x y v u Q I2 rx ry q (hs _ _))
def gU(K:zg):R2:=λx y H Q=>∃p xs i v,x= .ref p/\y= .int i/\SqL K H p xs/\atI xs i=some v/\Q v H
def nU(K:zg):R2:=λx y H Q=>∃p xs i v,x= .ref p/\y= .int i/\SqT K H p xs/\atI xs i=some v/\Q v H
def VT:R2:=λx y H Q=>∃z i c,x= .str z/\y= .int i/\z.length<=zk/\atI z.cps.toList i=some c/\Q (.str ⟨#[c]⟩) H
theorem hV:IxR X (gU X.K):=by
 intro value slice Nc s σ H x y v u Q I rx ry h hs;obtain⟨p,xs,i,z,rfl,rfl,hq,he,q⟩:=h
 cases rx
 obtain⟨t,rfl⟩:=ry;obtain⟨Nf,r,pl,hz⟩:=I.list hq;obtain⟨j,h1,h2,h3,h4,h5⟩:=GH he;obtain⟨w,ew,rw'⟩:=r.get h2;have hl:=r.length;have hn:=wA;have fin:EP X Nc σ Q w s:=⟨z,H,I,rw',q⟩;by_cases h0:0<=i
 · have hj:i.toNat=j:=by
    rw[seqIndex_of h0 h5]at h1;exact jo h1
   exact item_listR pl.isList h0 (by lia) (by rw[hj];simpa using ew) fin hs
 · have hj:(i+(Nf.toArray.size:Int)).toNat=j:=by
    rw[JZ (by lia) h4]at h1;rw[zo,<-hl];exact jo h1
   exact Yc (x:=w) pl.isList.typeIs slot_list_getitem.lookup
    (wpAny_getItem_list_neg (Q:=λr s'=>r=w/\EP X Nc σ Q r s') pl.isList (by lia) (by rw[zo]<;>lia) (by lia) (by rw[hj];simpa using ew) ⟨rfl,fin⟩) hs
theorem ix_tup:IxR X (nU X.K):=by
 intro value slice Nc s σ H x y v u Q I rx ry h hs;obtain⟨p,xs,i,z,rfl,rfl,hq,he,q⟩:=h
 cases rx
 obtain⟨t,rfl⟩:=ry;obtain⟨Nf,r,pl,hz⟩:=I.tuple hq;obtain⟨j,h1,h2,h3,h4,h5⟩:=GH he;obtain⟨w,ew,rw'⟩:=r.get h2;have hl:=r.length;have hn:=wA;have fin:EP X Nc σ Q w s:=⟨z,H,I,rw',q⟩;exact Yc (x:=w) pl.typeIs jy.lookup
  (getItem_tuple (j:=j) (Q:=λr s'=>r=w/\EP X Nc σ Q r s') pl (by lia) (by lia) (by rw[zo,<-hl];exact h1) (by simpa using ew) ⟨rfl,fin⟩) hs
theorem RU:IxR X VT:=by
 intro value slice Nc s σ H x y v u Q I rx ry h hs;obtain⟨z,i,c,rfl,rfl,hz,he,q⟩:=h;obtain⟨t,rfl⟩:=rx;obtain⟨t',rfl⟩:=ry;obtain⟨j,h1,h2,h3,h4,h5⟩:=GH he;have hl:z.cps.toList.length=z.length:=by simp[Str.length]
 rw[hl]at h1 h4 h5;have hn:=wA;exact tail_any (typeIs_str s z t) slot_str_getitem.lookup (getItem_str (c:=c) (by have e1:decide (i < -(2 ^ 63:Int))=false:=decide_eq_false (by lia);have e2:decide (i>=2 ^ 63)=false:=decide_eq_false (by lia);rw[e1,e2,Bool.or_false]) (by rw[h1];simpa using h2) ⟨.str ⟨#[c]⟩,H,I.tok _,⟨_,rfl⟩,q⟩) hs
theorem Bm(Nf:List zi)(n j:Nat)(u:zi):ju (·.setIfInBounds j u) {cls:=.type "list",data:=.seq Nf.toArray n}= {cls:=.type "list",data:=.seq (Nf.set j u).toArray n}:=by simp[ju]
theorem Inv.lst(I:Inv X Nc σ H s)(h:H p=some (.lst xs)):
 ∃(Nf:List zi) (n:Nat),o5 xs Nf/\s.heap.get? p=some {cls:=.type "list",data:=.seq Nf.toArray n}/\xs.length<=zk:=by
 obtain⟨z,Nf,n,r,e⟩:=I.hok p _ h;exact⟨Nf,n,r,e,z⟩
theorem Inv.lstUpd{σ:St}{H:Hp}{s:zm}{p:Addr}{xs ys:List V}{Nf its':List zi}{n n':Nat}{f:Obj->Obj}(I:Inv X Nc σ H s)(h:H p=some (.lst xs))
 (ho:s.heap.get? p=some {cls:=.type "list",data:=.seq Nf.toArray n}) (hf:f {cls:=.type "list",data:=.seq Nf.toArray n}= {cls:=.type "list",data:=.seq its'.toArray n'}) (r:o5 ys its') (hz:ys.length<=zk) (t:Nat):
 Inv X Nc σ (upd H p (.lst ys)) {s with heap:=s.heap.update p f,toks:=t}:=by
 have e:(s.heap.update p f).get? p=some {cls:=.type "list",data:=.seq its'.toArray n'}:=by rw[xC f ho (by rw[hf]<;>rfl),hf]
 refine I.write (x:=p) (e:=p) (by rw[h];trivial) (.inl rfl) (λb u hb q=>(yi _ _ (Ne.symm hb)).trans q) ⟨_,e⟩ ?_;exact⟨hz,its',n',r,e⟩
def uU:V->V->V->Hp->(Hp->Prop)->Prop:=λo i v H Q=>∃p xs k j,o= .ref p/\i= .int k/\H p=some (.lst xs)/\ixN xs.length k=some j/\Q (upd H p (.lst (xs.set j v)))
theorem CZ:FG X uU:=by
 intro Nc s σ H o i v ov iv u Q I ro ri rv h;obtain⟨p,xs,k,j,rfl,rfl,hp,hj,q⟩:=h
 cases ro
 obtain⟨t,rfl⟩:=ri;obtain⟨Nf,n,r,ho,hz⟩:=I.lst hp;obtain⟨h1,h2,h3,h4⟩:=UK hj;have hl:=r.length;have hn:=wA;have I':Inv X Nc σ (upd H p (.lst (xs.set j v))) {s with heap:=s.heap.update p (ju (·.setIfInBounds j u))}:=
  I.lstUpd hp ho (Bm Nf n j u) (r.set rv j) (by rw[yf];exact hz) s.toks
 by_cases h0:0<=k
 · have hk:k.toNat=j:=by
    rw[seqIndex_of h0 h4]at h1;exact jo h1
   exact PySem.W.ki_setAt ho h0 (by lia) (by rw[zo,<-hl];exact h4) (by rw[hk];exact⟨_,I',q⟩)
 · have hk:(k+(Nf.toArray.size:Int)).toNat=j:=by
    rw[JZ (by lia) h3]at h1;rw[zo,<-hl];exact jo h1
   exact PySem.W.ki_setBack ho (by lia) (by rw[zo,<-hl];exact h3) (by lia) (by rw[hk];exact⟨_,I',q⟩)
theorem Cc(lo hi:Option Int)(n:Nat):(xW lo hi none n).1= ((HT.sIx n 0 lo:Nat):Int)/\(xW lo hi none n).2.1= ((HT.sIx n n hi:Nat):Int)/\(xW lo hi none n).2.2=1:=by
 refine⟨?_,?_,rfl⟩
 · cases lo with
   |none=>simp[xW,HT.sIx]
   |some i=>
     simp only[xW,HT.sIx,JW,show (1:Int)>0 by decide,if_true];by_cases h:i<0
     ·simp only[h,if_true]<;>lia
     ·simp only[h,if_false]<;>lia
 · cases hi with
   |none=>simp[xW,HT.sIx]
   |some i=>
     simp only[xW,HT.sIx,JW,show (1:Int)>0 by decide,if_true];by_cases h:i<0
     ·simp only[h,if_true]<;>lia
     ·simp only[h,if_false]<;>lia
theorem Lp(Nf:List zi)(lo hi:Option Int):slicePick Nf.toArray lo hi none= ((Nf.drop (HT.sIx Nf.length 0 lo)).take (HT.sIx Nf.length Nf.length hi-HT.sIx Nf.length 0 lo)).toArray:=by obtain⟨h1,h2,h3⟩:=Cc lo hi Nf.toArray.size;unfold slicePick;rw[h1,h2,h3];simp only[sliceRange_one,pick_run,zo]<;>rfl
def HZ(K:zg):V->Option Int->Option Int->Hp->VK->Prop:=λx lo hi H Q=>∃a xs,x= .ref a/\SqL K H a xs/\∀p,H p=none->Q (.ref p) (upd H p (.lst (a8 xs lo hi)))
theorem Bx:SlR X (HZ X.K):=by
 intro Nc s σ H x v vl vu lo hi sl Q I rx hs pl pu h;obtain⟨a,xs,rfl,hx,q⟩:=h
 cases rx
 obtain⟨Nf,r,ht,hz⟩:=I.list hx;have Nh:=r.length;refine⟨"list",_,slot_list_getitem.lookup,ht.isList.typeIs,?_⟩;refine wpAny_getItem_list_slice ht.isList hs pl pu .none (by simp) ?_ (by rw[zo]<;>lia);rw[Lp,<-Nh];refine⟨.ref s.heap.objs.size,_,I.laid (t':=s.toks) (o:=.lst (a8 xs lo hi)) (λb ob q=>ze _ q) (zf _) ?_,rfl,q _ (I.hok.fresh (zf _))⟩;exact⟨zp (gK xs lo hi) hz,_,0,(r.drop (HT.sIx xs.length 0 lo)).take (HT.sIx xs.length xs.length hi-HT.sIx xs.length 0 lo),zu _ rfl⟩
def B7:V->Bool
 | .non=>true
 | .bl _=>true
 | .int _=>true
 | .str _=>true
 |_=>false
def eqV:V->V->Bool
 | .non,.non=>true
 | .bl a,.bl b=>a==b
 | .bl a,.int b=>(if a then 1 else 0)==b
 | .int a,.bl b=>a==(if b then 1 else 0)
 | .int a,.int b=>a==b
 | .str a,.str b=>a==b
 |_,_=>false
theorem Fx(ry:o7 y u)(rx:o7 x v)(fy:B7 y=true)(fx:B7 x=true):yA A s u v (eqV y x):=by
 cases y with
 |non=>
   cases ry
   cases x with
   |non=>cases rx;exact Ys _
   |bl b=>cases rx;exact Xq b
   |int b=>obtain⟨t,rfl⟩:=rx;exact XI b t
   |str b=>obtain⟨t,rfl⟩:=rx;exact XH b t
   |_=>exact absurd (show false=true from fx) zR
 |bl a=>
   cases ry
   cases x with
   |non=>cases rx;exact Xr a
   |bl b=>cases rx;exact Xs a b
   |int b=>obtain⟨t,rfl⟩:=rx;exact XO a b t
   |str b=>obtain⟨t,rfl⟩:=rx;exact XM a b t
   |_=>exact absurd (show false=true from fx) zR
 |int a=>
   obtain⟨t',rfl⟩:=ry
   cases x with
   |non=>cases rx;exact XJ a t'
   |bl b=>cases rx;exact XL a t' b
   |int b=>obtain⟨t,rfl⟩:=rx;exact XS a t' b t
   |str b=>obtain⟨t,rfl⟩:=rx;exact ZQ a t' b t
   |_=>exact absurd (show false=true from fx) zR
 |str a=>
   obtain⟨t',rfl⟩:=ry
   cases x with
   |non=>cases rx;exact XF a t'
   |bl b=>cases rx;exact XG a t' b
   |int b=>obtain⟨t,rfl⟩:=rx;exact ZP a t' b t
   |str b=>obtain⟨t,rfl⟩:=rx;exact XR a t' b t
   |_=>exact absurd (show false=true from fx) zR
 |_=>exact absurd (show false=true from fy) zR
def eqU(x:V)(u:zi):Bool:=match u with
 | .none=>eqV .non x
 | .bool b=>eqV (.bl b) x
 | .int i _=>eqV (.int i) x
 | .str z _=>eqV (.str z) x
 |_=>false
theorem VO(r:o7 y u)(f:B7 y=true):eqU x u=eqV y x:=by
 cases y with
 |non=>cases r;rfl
 |bl b=>cases r;rfl
 |int i=>obtain⟨t,rfl⟩:=r;rfl
 |str z=>obtain⟨t,rfl⟩:=r;rfl
 |_=>exact absurd (show false=true from f) zR
theorem fF(h:o5 xs us)(f:xs.all B7=true):us.any (eqU x)=xs.any λy=>eqV y x:=by
 induction h with
 |nil=>rfl
 |cons r t ih=>
   rw[yS,jl]at f;rw[yR,yR,VO r f.1,ih f.2]
theorem KC(rx:o7 x v)(fx:B7 x=true):∀ {xs} {us},o5 xs us->xs.all B7=true->∀u∈us,yA A s u v (eqU x u)
 |_,_,.nil,_=>λu hu=>by cases hu
 |y::xs,u::us,.cons r t,f=>λu' hu=>by
   rw[yS,jl]at f;rcases zI.mp hu with rfl|hu
   ·rw[VO r f.1];exact Fx r rx f.1 fx
   ·exact KC rx fx t f.2 u' hu
def inV(x:V)(xs:List V):Bool:=xs.any λy=>eqV y x
def rIn(K:zg)(neg:Bool):R2:=λx y H Q=>∃p xs,y= .ref p/\(SqL K H p xs\/SqT K H p xs)/\B7 x=true/\xs.all B7=true/\Q (.bl (if neg then !inV x xs else inV x xs)) H
theorem FQ:OpR X (jc .In) (rIn X.K false):=by
 intro Nc s σ H x y v u Q I rx ry h;obtain⟨p,xs,rfl,hq,fx,fs,q⟩:=h
 cases ry
 rcases hq with hq|hq
 ·obtain⟨Nf,r,pl,hz⟩:=I.list hq;refine SeqAt.in_listAt (eqU x) pl.isList (λw hw=>KC rx fx r fs w (by simpa using hw)) ⟨.bl _,H,I,rfl,?_⟩;rw[show Nf.toArray.any (eqU x)=Nf.any (eqU x) by simp,fF r fs];exact q
 ·obtain⟨Nf,r,pl,hz⟩:=I.tuple hq;refine SeqAt.in_tupleAt (eqU x) pl (λw hw=>KC rx fx r fs w (by simpa using hw)) ⟨.bl _,H,I,rfl,?_⟩;rw[show Nf.toArray.any (eqU x)=Nf.any (eqU x) by simp,fF r fs];exact q
theorem cR:OpR X (jc .NotIn) (rIn X.K true):=by
 intro Nc s σ H x y v u Q I rx ry h;obtain⟨p,xs,rfl,hq,fx,fs,q⟩:=h
 cases ry
 rcases hq with hq|hq
 ·obtain⟨Nf,r,pl,hz⟩:=I.list hq;refine SeqAt.notIn_listAt (eqU x) pl.isList (λw hw=>KC rx fx r fs w (by simpa using hw)) ⟨.bl _,H,I,rfl,?_⟩;rw[show Nf.toArray.any (eqU x)=Nf.any (eqU x) by simp,fF r fs];exact q
 ·obtain⟨Nf,r,pl,hz⟩:=I.tuple hq;refine SeqAt.notIn_tupleAt (eqU x) pl (λw hw=>KC rx fx r fs w (by simpa using hw)) ⟨.bl _,H,I,rfl,?_⟩;rw[show Nf.toArray.any (eqU x)=Nf.any (eqU x) by simp,fF r fs];exact q
theorem fU:OpR X (jc .NotIn) (λx y H Q=>∃i j,x= .str i/\y= .str j/\Q (.bl (!(!(xY j i 0 j.length 1).isEmpty))) H):=by intro Nc s σ H x y v u Q I rx ry h;obtain⟨i,j,rfl,rfl,q⟩:=h;obtain⟨t,rfl⟩:=rx;obtain⟨t',rfl⟩:=ry;exact notIn_str ⟨.bl _,H,I,rfl,q⟩
theorem iZ:R4 X (.builtin "len") (λxs H Q=>∃p ys,xs= [.ref p]/\(SqL X.K H p ys\/SqT X.K H p ys)/\Q (.int ys.length) H):=by
 intro Nc s σ H xs us Q I r h;obtain⟨p,ys,rfl,hq,q⟩:=h;obtain⟨u,rfl,rx⟩:=C3 r
 cases rx
 have hn:=wA;rcases hq with hq|hq
 ·obtain⟨Nf,r',pl,hz⟩:=I.list hq;have Nh:=r'.length;exact Calls.call_len_list pl.isList (by simp only[zo]<;>lia) ⟨.int ys.length,H,I.tok _,⟨s.toks+1,by rw[zo,Nh]⟩,q⟩
 ·obtain⟨Nf,r',pl,hz⟩:=I.tuple hq;have Nh:=r'.length;exact len_tuple pl (by simp only[zo]<;>lia) ⟨.int ys.length,H,I.tok _,⟨s.toks+1,by rw[zo,Nh]⟩,q⟩
theorem Hk:R4 X (.builtin "len") (λxs H Q=>∃z,xs= [.str z]/\z.length<=zk/\Q (.int z.length) H):=by intro Nc s σ H xs us Q I r h;obtain⟨z,rfl,hz,q⟩:=h;obtain⟨u,rfl,t,rfl⟩:=C3 r;have hn:=wA;exact len_str (by lia) ⟨.int z.length,H,I.tok _,⟨_,rfl⟩,q⟩
theorem R4.or(h:R4 X f r)(h':R4 X f r'):R4 X f (λxs H Q=>r xs H Q\/r' xs H Q):=by
 intro Nc s σ H xs us Q I rs q;rcases q with q|q
 ·exact h Nc s σ H xs us Q I rs q
 ·exact h' Nc s σ H xs us Q I rs q
theorem eU:R4 X (.type "list") (λxs H Q=>∃p ys,xs= [.ref p]/\(SqL X.K H p ys\/SqT X.K H p ys)/\∀l,H l=none->Q (.ref l) (upd H l (.lst ys))):=by
 intro Nc s σ H xs us Q I r h;obtain⟨p,ys,rfl,hq,q⟩:=h;obtain⟨u,rfl,rx⟩:=C3 r
 cases rx
 have fin:∀(Nf:List zi),o5 ys Nf->ys.length<=zk->∀(h':Heap) (c':Nat),(∀b o',s.heap.get? b=some o'->h'.get? b=some o')->
  h'.get? s.heap.objs.size=some {cls:=.type "list",dict:=none,data:=.seq Nf.toArray c',slots:= #[]}->EP X Nc σ Q (.ref s.heap.objs.size) {s with heap:=h'}:=λNf r' hz h' c' kp e=>
  ⟨.ref s.heap.objs.size,_,I.laid (t':=s.toks) kp (zf _) (show O6 X.prog X.w _ h' _ (.lst ys) from⟨hz,Nf,c',r',e⟩),rfl,q _ (I.hok.fresh (zf _))⟩
 rcases hq with hq|hq
 ·obtain⟨Nf,r',pl,hz⟩:=I.list hq;have Nh:=r'.length;obtain⟨o,ho,hc,n,hd⟩:=pl.isList;exact call_list_seq p (.inl rfl) ho hc hd (λh' c' kp e=>fin Nf r' hz h' c' kp e) (by simp only[zo]<;>lia)
 ·obtain⟨Nf,r',pl,hz⟩:=I.tuple hq;have Nh:=r'.length;obtain⟨o,ho,hc,n,hd⟩:=pl;exact call_list_seq p (.inr rfl) ho hc hd (λh' c' kp e=>fin Nf r' hz h' c' kp e) (by simp only[zo]<;>lia)
theorem uY:R4 X (.type "tuple") (λxs H Q=>∃p ys,xs= [.ref p]/\((SqL X.K H p ys/\∀l,H l=none->Q (.ref l) (upd H l (.tup ys)))\/(SqT X.K H p ys/\Q (.ref p) H))):=by
 intro Nc s σ H xs us Q I r h;obtain⟨p,ys,rfl,h⟩:=h;obtain⟨u,rfl,rx⟩:=C3 r
 cases rx
 rcases h with⟨hq,q⟩|⟨hq,q⟩
 · obtain⟨Nf,r',pl,hz⟩:=I.list hq;have Nh:=r'.length;refine call_tuple_list pl.isList (λh' kp=>?_) (by simp only[zo]<;>lia);have I1:Inv X Nc σ H {s with heap:=h'}:=I.kept (t':=s.toks) kp;have I2:Inv X Nc σ (upd H h'.objs.size (.tup ys)) {s with heap:=h'.push {cls:=.type "tuple",data:=.seq Nf.toArray}}:=
    I1.laid (t':=s.toks) (λb o e=>ze _ e) (zf _) (show O6 X.prog X.w _ _ _ (.tup ys) from⟨hz,Nf,r',L6.new _ _⟩)
   exact⟨.ref h'.objs.size,_,I2,rfl,q _ (I1.hok.fresh (zf _))⟩
 ·obtain⟨Nf,r',pl,hz⟩:=I.tuple hq;exact call_tuple_same pl ⟨.ref p,H,I,rfl,q⟩
def tyV(K:zg)(T:String)(x:V)(H:Hp):Prop:=match x with
 | .str _=>T= "str"
 | .int _=>T= "int"
 | .ref p=>(T= "list"/\∃xs,SqL K H p xs)\/(T= "tuple"/\∃o,K.lookup p=some o/\o.cls= .type "tuple"/\o.dict=none)\/
    (T= "dict"/\((∃Nd,H p=some (.dK Nd))\/∃Nd,H p=some (.dT Nd)))\/(T= "set"/\∃S n,H p=some (.set S n))
 |_=>False
theorem eZ(I:Inv X Nc σ H s)(r:o7 x v)(ty:tyV X.K T x H):
 s.TypeIs v T/\∀a,v= .ref a->∃ob,s.heap.get? a=some ob/\ob.dict=none:=by
 cases x with
 |str z=>
   obtain⟨t,rfl⟩:=r
   cases (show T= "str" from ty)
   exact⟨typeIs_str s z t,λ_ e=>nomatch e⟩
 |int i=>
   obtain⟨t,rfl⟩:=r
   cases (show T= "int" from ty)
   exact⟨typeIs_int s i t,λ_ e=>nomatch e⟩
 |ref p=>
   cases r
   rcases ty with⟨rfl,xs,hq⟩|⟨rfl,o,hk,hc,hd⟩|⟨rfl,hk⟩|⟨rfl,S,n,hk⟩
   · obtain⟨Nf,_,pl,_⟩:=I.list hq;refine⟨pl.isList.typeIs,λa e=>?_⟩
     cases e
     obtain⟨o,n,e,c,hd,_⟩:=pl;exact⟨o,e,hd⟩
   · refine⟨⟨o,I.kIn p o hk,hc⟩,λa e=>?_⟩
     cases e
     exact⟨o,I.kIn _ o hk,hd⟩
   · have z:∃o,s.heap.get? p=some o/\o.ExactDict:=by
      rcases hk with⟨Nd,hk⟩|⟨Nd,hk⟩
      ·obtain⟨_,_,_,_,o,_,_,e,ex,_⟩:=I.hok p _ hk;exact⟨o,e,ex⟩
      ·obtain⟨_,_,_,_,o,_,_,e,ex,_⟩:=I.hok p _ hk;exact⟨o,e,ex⟩
     obtain⟨o,e,ex⟩:=z;refine⟨⟨o,e,ex.1⟩,λa e2=>?_⟩
     cases e2
     exact⟨o,e,ex.2.1⟩
   · obtain⟨o,_,_,_,e,ex,_⟩:=I.hok p _ hk;refine⟨⟨o,e,ex.1⟩,λa e2=>?_⟩
     cases e2
     exact⟨o,e,ex.2.1⟩
 |_=>exact yn ty
def tBM(K:zg)(T:String)(r:V->List V->Hp->VK->Prop)(to:TE)(t:TA):TE:=λσ H Q=>to σ H λx H1=>tyV K T x H1/\t σ H1 λxs H2=>r x xs H2 Q
variable{o e:Expr}{es:List Expr}{to:TE}{t:TA}{name:Str}{Ph Np:Pos}{T id:String}{r:V->List V->Hp->VK->Prop}
theorem bM(pa:PlainAttrs T)(slot:Slot T name id)(hty:typeOf (.builtin id)=pure (.type "method_descriptor"))(hm:MtR X id r)(ho:PE X o to)(ha:PA X (e::es) t)
 (hbase:ZJ o name X.env (eval o X.env)=eval o X.env)
 (hfew:((yZ Np (zW (e::es) X.env)).all (λx=> !x.1)&&(Xn Np (ZC [] X.env)).all (λx=>x.1.isSome)
   && decide ((e::es).length+([]:List Keyword).length+(if ([]:List Keyword).isEmpty then 0 else 1)<30))=true)
 (hline:(Ph.endLine==Np.line)=true) (hs:zW (e::es) X.env= (false,eval e X.env)::zW es X.env) (Pm:(yZ Np (zW es X.env)).any (·.1)=false):
 PE X (.Call (.Attribute o name Ph) (e::es) [] Np) (tBM X.K T r to t):=by
 intro Nc s σ H Q I h;refine wpAny_Call_method_late hbase hfew hline rfl (thn (ho Nc s σ H _ I h) λv s1 ⟨x,H1,I1,r1,ty,q1⟩=>?_);obtain⟨h1,h2⟩:=eZ I1 r1 ty;refine⟨T,id,pa,slot,hty,h1,h2,?_⟩;have hA:=ha Np Nc s1 σ H1 _ I1 q1;rw[hs]at hA ⊢;refine Calls.callWith_builtin (by show (false||(yZ Np (zW es X.env)).any (·.1))=false;rw[Pm]<;>rfl) (Calls.evalArgs_plain ?_);exact thn hA λus s2 Nw=>Nw.elim λvs H2 I2 r2 q2=>hm Nc s2 σ H2 x vs v us Q I2 r1 r2 q2
end
def MtM(X:Cx)(id:String)(r:V->List V->Hp->VK->Prop):Prop:=
 ∀(Nc:PNS) (s:zm) (σ:St) (H:Hp) (x:V) (xs:List V) (v:zi) (us:List zi) (Q:VK),Inv X Nc σ H s->o7 x v->o5 xs us->r x xs H Q->
  zw (zF X.prog X.w) X.A (call (.builtin id) (v::us)) (EP X Nc σ Q) X.xe s
theorem o5.one(h:o5 [x] us):∃u,us= [u]/\o7 x u:=by
 cases h with
 |cons r t=>cases t;exact⟨_,rfl,r⟩
theorem o5.eraseIdx:∀ {xs} {us} i,o5 xs us->o5 (xs.eraseIdx i) (us.eraseIdx i)
 |_,_,_,.nil=>.nil
 |_,_,0,.cons _ t=>t
 |_,_,i+1,.cons r t=>.cons r (o5.eraseIdx i t)
theorem o5.reverse(h:o5 xs us):o5 xs.reverse us.reverse:=by
 induction h with
 |nil=>exact .nil
 |cons r t ih=>rw[YE,YE];exact o5.append ih (.cons r .nil)
theorem DJ:∀(l:List α) (i:Nat),(l.eraseIdx i).length<=l.length
 |[],_=>zf _
 |_::_,0=>Xf _
 |_::r,i+1=>Nat.succ_le_succ (DJ r i)
section
theorem Inv.lset{Nf its':List zi}{n:Nat}{t':Nat}(I:Inv X Nc σ H s)(hH:H l=some (.lst xs))
 (e:s.heap.get? l=some {cls:=.type "list",data:=.seq Nf.toArray n}) (hf:f Nf.toArray=its'.toArray) (hv:o5 ys its') (hz:ys.length<=zk):
 Inv X Nc σ (upd H l (.lst ys)) {s with heap:=s.heap.update l (ju f),toks:=t'}:=by
 have q:=PySem.IsL.update e f;rw[hf]at q;refine I.write (x:=l) (e:=l) (by rw[hH];exact trivial) (.inl rfl) (λb' u hb hu=>(yi s.heap (ju f) (Ne.symm hb)).trans hu) ⟨_,q⟩ ?_;exact⟨hz,its',_,hv,q⟩
theorem Inv.lnew(I:Inv X Nc σ H s)(hv:o5 ys Nf)(hz:ys.length<=zk):
 Inv X Nc σ (upd H s.heap.objs.size (.lst ys)) {s with heap:=s.heap.push {cls:=.type "list",data:=.seq Nf.toArray},toks:=t'}:=
 I.laid (λ_ _ q=>ze _ q) (zf _) ⟨hz,Nf,0,hv,zu _ rfl⟩
theorem Inv.fresh(I:Inv X Nc σ H s):H s.heap.objs.size=none:=I.hok.fresh (zf _)
theorem Inv.lstM(I:Inv X Nc σ H s)(hH:H l=some (.lst xs)):xs.length<=zk/\∃(Nf:List zi) (n:Nat),o5 xs Nf/\xs.length=Nf.length/\s.heap.get? l=some {cls:=.type "list",data:=.seq Nf.toArray n}:=by obtain⟨z,Nf,n,r,e⟩:=I.hok l _ hH;exact⟨z,Nf,n,r,r.length,e⟩
end
section
def Lc:V->List V->Hp->VK->Prop:=λx vs H Q=>∃l xs y,x= .ref l/\vs= [y]/\H l=some (.lst xs)/\xs.length<zk/\Q .non (upd H l (.lst (xs++[y])))
theorem nO:MtM X "list.append" Lc:=by
 intro Nc s σ H x vs v us Q I rx rv h;obtain⟨l,xs,y,rfl,rfl,hH,hz,q⟩:=h
 cases rx
 obtain⟨u,rfl,ru⟩:=rv.one;obtain⟨z,Nf,n,r,hl,e⟩:=I.lstM hH;refine call_meets Jk ⟨_,e,rfl⟩ F.entry_list_append (F.args_list_append_2 _ _) (PySem.list_append l Nf.toArray n u (by rw[zo];lia)) ⟨e,?_⟩;refine⟨.non,_,I.lset (its':=Nf++[u]) hH e (by simp) (r.append (.cons ru .nil)) ?_,rfl,q⟩;rw[zd,yW];lia
def dU:V->List V->Hp->VK->Prop:=λx vs H Q=>∃l xs i k y,x= .ref l/\vs= [.int i]/\H l=some (.lst xs)/\ -(2 ^ 63)<=i/\i<2 ^ 63/\JM i xs.length=some k/\xs[k]? =some y/\Q y (upd H l (.lst (xs.eraseIdx k)))
theorem Cm:MtM X "list.pop" dU:=by
 intro Nc s σ H x vs v us Q I rx rv h;obtain⟨l,xs,i,k,y,rfl,rfl,hH,h1,h2,hk,hy,q⟩:=h
 cases rx
 obtain⟨u,rfl,ru⟩:=rv.one;obtain⟨t,rfl⟩:=ru;obtain⟨z,Nf,n,r,hl,e⟩:=I.lstM hH;obtain⟨w,hw,rw'⟩:=r.get hy;refine call_meets JU ⟨_,e,rfl⟩ F.entry_list_pop (F.args_list_pop_2 _ _)
  (MeetsSeq.list_pop_at l Nf.toArray n i t k w (fitsIndex_both h1 h2) (by rw[zo,<-hl];exact hk) (by rw[<-zB];exact hw) (by rw[zo];lia)) ⟨e,?_⟩
 refine⟨y,_,I.lset (its':=Nf.eraseIdx k) hH e ?_ (r.eraseIdx k) ?_,rw',q⟩
 ·show Nf.toArray.eraseIdxIfInBounds k= (Nf.eraseIdx k).toArray;rw[List.eraseIdxIfInBounds_toArray]
 ·have:=DJ xs k;lia
def qp:R2:=λx y H Q=>∃l b xs zs,x= .ref l/\y= .ref b/\H l=some (.lst xs)/\H b=some (.lst zs)/\xs.length+zs.length<=zk/\∀p,H p=none->Q (.ref p) (upd H p (.lst (xs++zs)))
theorem PX:OpR X (jX .Add) qp:=by
 intro Nc s σ H x y v u Q I rx ry h;obtain⟨l,b,xs,zs,rfl,rfl,hH,hB,hz,q⟩:=h
 cases rx
 cases ry
 obtain⟨z,Nf,n,r,hl,e⟩:=I.lstM hH;obtain⟨z2,its2,n2,r2,hl2,e2⟩:=I.lstM hB;refine PySem.P.add_list e e2 ?_ (by rw[zo,zo];lia);have ea:Nf.toArray++its2.toArray= (Nf++its2).toArray:=by simp
 rw[ea];exact⟨.ref _,_,I.lnew (t':=s.toks) (r.append r2) (by rw[zd];lia),rfl,q _ I.fresh⟩
end
section
end
section
end
end L2
namespace Att
open PySem PySem.W PySem.Calls PyProof.Rows
theorem AU:∀ns vs,WellAll P h vs (ns.map WData.int)->IntsAre vs ns:=by
 intro ns
 induction ns with
 |nil=>
   intro vs w;rw[xw]at w
   cases w
   exact .nil
 |cons n ns ih=>
   intro vs w;rw[zH]at w
   cases w with
   |cons a b=>
     cases a
     exact .cons _ _ (ih _ b)
theorem sS{l:OpenLaw}{n:Nat}(hn:l.most=some n){P:Params}{h:Heap}
 (hpre:l.row.toRowW.claim.pre args=true) (hwl:WellAll P h vals args):
 ∃a vs ns,vals= [Value.ref a]/\args= [WData.list (ns.map WData.int)]/\h.get? a=some {cls:=.type "list",data:=.seq vs.toArray}/\IntsAre vs ns/\ns.length<=n:=by
 have hsh:WShape.hasAll [] args [.list .int]=true:=(pre_splitW hpre).1;have hc:l.pre.holds [] {args:=args}=true:=(pre_splitW hpre).2;obtain⟨d,r,rfl,h1,h2⟩:=hasAllW_cons hsh;obtain rfl:=hasAllW_nil h2;obtain⟨xs,rfl,h3⟩:=hasW_list h1;obtain⟨ns,rfl⟩:=items_int h3;have Nh:ns.length<=n:=by
  unfold OpenLaw.pre at hc;have h4:(WTm.not (.lt (.lit (.int (n:Int))) (.len (.arg 0)))).holds [] {args:= [.list (ns.map .int)]}=true:=by have h4:=(holds_andW hc).1;rw[hn]at h4;exact h4
  have h5:=condW_of h4 (w_not (w_lt w_lit (w_len_list (w_arg rfl))));rw[zc]at h5;refine Nat.le_of_not_lt λq=>?_;have q':(n:Int)<((ns.length:Nat):Int):=by lia
  first
   |(rw[decide_eq_true q']at h5;exact absurd h5 (by decide))
   |(simp at h5;lia)
 cases hwl with
 |cons w1 w2=>
   cases w2
   cases w1 with
   |list ho hall=>exact⟨_,_,ns,rfl,rfl,ho,AU ns _ hall,Nh⟩
theorem Bj(l:OpenLaw)(args:List WData):l.row.toRowW.claim.post args (.bool true) args=true:=
 postW_of (r:=l.row.toRowW) (X:=(true==true))
  (show WShape.has [] (.bool true) .bool=true by first|rfl|decide|simp[WShape.has,WShape.arms,WShape.armsAll])
  (show (WTm.eq .res (.lit (.bool true))).value [] {args:=args,res:=some (.bool true),after:=args}=some (.bool (true==true))from w_eq_bool (w_res rfl) w_lit) rfl
theorem attach_call{l:OpenLaw}{n:Nat}{q:zM}{loose:List Str}{d:DefRec}
 (hn:l.most=some n) (hdf:d.params.defaults= [])
 (call:∀(w:zT) (WZ W1:zm) (mg mb:Str->Option zi) (fa:Addr) (o:Obj) (pm cd doc:zi) (a:Addr) (vs:List zi) (ns:List Int),
   Ground q loose [] XP w WZ mg mb W1.heap->YP w W1.heap->
   W1.heap.get? fa=some o->o.data= .func (docDef d.name d.params d.body d.scope pm cd doc)->W1.heap.CodeRec cd d.name->mg d.name=some (.ref fa)->
   W1.heap.get? a=some {cls:=.type "list",data:=.seq vs.toArray}->IntsAre vs ns->ns.length<=n->W1.gens= #[]->
   ZE (zF l.prog w) YA (.call (.ref fa) ⟨[.ref a], []⟩) (λr s'=>r= .ok (.ret (.bool true))/\OldK W1.heap s'.heap/\s'.os=W1.os/\YD s'.gens) W1):
 WalkO q loose XP YP l.row.toRowW d [] (λf vs=>JC f vs):=by
 intro w WZ W1 mg mb G Y fa o pm cd doc dV kV ho hd hcd hD hmg hg args vals as hpre hlay hrd hwl hlo;obtain rfl:dV= .none:=Dflts.none hD hdf;obtain rfl:kV= .none:=Dflts.noKw hD;obtain⟨a,vs,ns,rfl,rfl,hobj,hints,Nh⟩:=sS hn hpre hwl;refine enter_call (Zj (call w WZ W1 mg mb fa o pm cd doc a vs ns G Y ho (fd_plain hd) hcd hmg hobj hints Nh hg) λr s' hq=>?_);obtain⟨rfl,h2,h3,h4⟩:=hq;exact⟨.inl ⟨.bool true,.bool true, [],rfl,λ_=>rfl,.bool true,Bj l _,λ_=>⟨List.Pairwise.nil,λ_ hm=>(nomatch hm)⟩⟩,h2,h3,h4⟩
section
variable{prog:zM}{w:zT}{A:jd}{s:zm}{K:Frag}
end
end Att
namespace L2
open PySem PySem.Spec PyProof.Rows
theorem aO:∀ {vs} {ns},IntsAre vs ns->o5 (ns.map V.int) vs
 |_,_,.nil=>.nil
 |_,_,.cons n t h=>.cons ⟨t,rfl⟩ (aO h)
def sE(H:Hp):Prop:=∀b,H b=none\/∃o xs,H b=some (.frz o (.lst xs))
theorem Dv{P:zM}{w:zT}{K:zg}{CX:CXT}{k:Nat}{fa a:Addr}{fd:xc}{x:Str}{sp:Sp}{W1:zm}{vs:List zi}{ns:List Int}
 (KX:K.In W1.heap) (hns:W1.heap.Ns jr mg) (hb:W1.heap.Ns builtinsNs mb) (hbb:∀x:Str,x≠ "__name__"->mb x=jj x) (hlim:W1.heap.NoLimit) (hg:W1.gens= #[])
 (ha:W1.heap.get? a=some {cls:=.type "list",data:=.seq vs.toArray}) (hi:IntsAre vs ns) (hl:ns.length<=zk) (hr:Q7 k YA)
 (F:∀base:Heap,K.In base->base.Ns jr mg->U1 P w K mg base CX k fa fd [x] sp) (hbind:∀(s:zm) (u:zi),Yb s fd ⟨[u], []⟩ [(x,u)])
 (hsp:∀H:Hp,sE H->SqL K H a (ns.map V.int)->sp [.ref a] H (λv _=>v= .bl true) λ_ _ _=>False)
 (hCX:∀H e s',CX [] H W1 (λ_ _ _=>False) e s'->False):
 ZE (zF P w) YA (.call (.ref fa) ⟨[.ref a], []⟩) (λr s'=>r= .ok (.ret (.bool true))/\OldK W1.heap s'.heap/\s'.os=W1.os/\YD s'.gens) W1:=by
 have rv:=aO hi;have lenV:=hi.length
 -- from an abstract heap in which nothing but the script may be tracked
 have core:∀H:Hp,sE H->SqL K H a (ns.map V.int)->HOk P w H W1.heap->(∀b,H b≠none->b=a)->(H a≠none->K.lookup a=none)->
  ZE (zF P w) YA (.call (.ref fa) ⟨[.ref a], []⟩) (λr s'=>r= .ok (.ret (.bool true))/\OldK W1.heap s'.heap/\s'.os=W1.os/\YD s'.gens) W1:=by
  intro H hO hS hok hA hK;have base_of:∀ {b:Addr} {o:Obj},W1.heap.get? b=some o->H b=none->(L8 W1.heap H).get? b=some o:=λe n=>rP e n;have noA:∀ {b:Addr} {o:Obj} {es:Array DictEntry} {ep:Nat},W1.heap.get? b=some o->o.data= .dict es ep->H b=none:=λ{b o es ep} e d=>by
   cases q:H b with
   |none=>rfl
   |some u=>
     have e':b=a:=hA b (by rw[q];simp);subst e';rw[ha]at e;cases e;have d':Data.seq vs.toArray _=Data.dict es ep:=d
     cases d'
  have nsK:∀ {b:Addr} {m:Str->Option zi},W1.heap.Ns b m->(L8 W1.heap H).Ns b m:=λ{b m} ⟨o,es,ep,e,d,r⟩=>⟨o,es,ep,base_of e (noA e d),d,r⟩;have hKb:K.In (L8 W1.heap H):=λb o e=>base_of (KX b o e) (by
   cases q:H b with
   |none=>rfl
   |some u=>
     have e':b=a:=hA b (by rw[q];simp);subst e';rw[hK (by rw[q];simp)]at e;cases e)
  have hM:Mod K mg (L8 W1.heap H):=⟨hKb,nsK hns,⟨mb,nsK hb,hbb⟩,let ⟨mc,h1,h2⟩:=hlim;⟨mc,nsK h1,h2⟩⟩;have e0:iA P w K mg (L8 W1.heap H) YA [] W1 H:=⟨rfl,hM,λb o e=>rT e,YN (aS _ _),trivial,λb hb=>absurd (show b∈([]:List Addr)from hb) (by simp),hok,.of_eq hg⟩;refine Zj ((F _ hKb (nsK hns)).run YA [] W1 H ⟨[.ref a], []⟩ [.ref a] [.ref a] _ _ hr e0 (hbind W1 (.ref a)) (.cons rfl .nil) (hsp H hO hS)) λr s' h=>?_
  cases r with
  |error e=>exact(hCX H e s' h).elim
  |ok fl=>
    cases fl with
    |next=>exact yn h
    |brk=>exact yn h
    |cont=>exact yn h
    |ret u=>
      obtain⟨v,H',os,bare,un,hok',r',q⟩:=h;have q':v= .bl true:=q;subst q';obtain rfl:u=Value.bool true:=r';refine⟨rfl,OldK.of_keep λb o e=>?_,os,bare⟩
      cases q:H b with
      |none=>exact un.keep b o e q (by intro z;exact absurd (show b∈([]:List Addr)from z) (by simp)) (by simp)
      |some u=>
        rcases hO b with z|⟨ob,xs,z⟩
        ·rw[q]at z;cases z
        ·have z2:=un.frzs b ob _ z;obtain⟨e1,_⟩:=hok b _ z;obtain⟨e2,_⟩:=hok' b _ z2;rw[e]at e1;cases e1;exact e2
 cases hk:K.lookup a with
 |some o=>
   -- the script is one of the module's own objects
   have e:=KX a o hk;rw[ha]at e
   cases e
   refine core (λ_=>none) (λ_=>.inl rfl) (.inr ⟨_,vs.toArray,_,hk,rfl,rfl,rfl,by rw[zo,lenV];exact hl,by simpa using rv⟩) (λb u z=>by have z':(none:Option HO)=some u:=z;cases z') (λb z=>absurd rfl z) λz=>absurd rfl z
 |none=>
   refine core (λb=>if b=a then some (.frz {cls:=.type "list",data:=.seq vs.toArray} (.lst (ns.map V.int)))else none) (λb=>?_) (.inl (.inr ⟨{cls:=.type "list",data:=.seq vs.toArray},if_pos rfl⟩)) (λb u z=>?_) (λb z=>?_) λ_=>hk
   · by_cases hb:b=a
     ·exact .inr ⟨_,_,if_pos hb⟩
     ·exact .inl (if_neg hb)
   · by_cases hb:b=a
     · have z':=(if_pos hb).symm.trans z
       cases z'
       subst hb;exact⟨ha,by rw[zc];exact hl,vs,_,rv,ha⟩
     · have z':=(if_neg hb).symm.trans z
       cases z'
   · by_cases hb:b=a
     ·exact hb
     ·exact absurd (if_neg hb) z
theorem walk_of{l:PySem.W.OpenLaw}{n k:Nat}{q:zM}{loose:List Str}{YP:zT->Heap->Prop}{d:DefRec}{K:Params->zg}{CX:zT->CXT}{sp:zT->Sp}{x:Str}
 (hn:l.most=some n) (hn2:n<=zk) (hdf:d.params.defaults= []) (hr:Q7 k YA)
 (hY:∀(w:zT) (h:Heap),YP w h->(K w.params).In h)
 (F:∀(w:zT) (mg:Str->Option zi) (fa:Addr) (h:Heap),(K w.params).In h->h.Ns jr mg->mg d.name=some (.ref fa)->
   ∃fd:xc,(∀(s:zm) (u:zi),Yb s fd ⟨[u], []⟩ [(x,u)])/\
    ∀base:Heap,(K w.params).In base->base.Ns jr mg->U1 l.prog w (K w.params) mg base (CX w) k fa fd [x] (sp w))
 (hsp:∀(w:zT) (H:Hp) (a:Addr) (ns:List Int),ns.length<=n->sE H->SqL (K w.params) H a (ns.map V.int)->sp w [.ref a] H (λv _=>v= .bl true) λ_ _ _=>False)
 (hCX:∀(w:zT) (H:Hp) (s:zm) (e:zi) (s':zm),CX w [] H s (λ_ _ _=>False) e s'->False):
 PySem.W.WalkO q loose XP YP l.row.toRowW d [] (λf vs=>JC f vs):=by
 refine Att.attach_call hn hdf λw WZ W1 mg mb fa o pm cd doc a vs ns G Y ho hd hcd hmg hobj hints Nh hg=>?_;have KX:=hY w _ Y;obtain⟨fd,hb,hF⟩:=F w mg fa _ KX G.T.g hmg;exact Dv KX G.T.g G.T.b G.T.builtins G.T.nolimit hg hobj hints (zp Nh hn2) hr hF hb (λH hO hS=>hsp w H a ns Nh hO hS) λH e s'=>hCX w H W1 e s'
def P8(s:Stmt):Arguments:=match s with
 | .FunctionDef _ a _ _ _ _ _ _ _ _=>a
 |_=>{posonlyargs:= [],args:= [],vararg:=none,kwonlyargs:= [],kw_defaults:= [],kwarg:=none,defaults:= []}
def S8(s:Stmt):List Stmt:=match s with
 | .FunctionDef _ _ b _ _ _ _ _ _ _=>b
 |_=> []
def v5(s:Stmt):Scope:=match s with
 | .FunctionDef _ _ _ _ _ _ sc _ _ _=>sc
 |_=>{kind:=.function,names:= [],isGenerator:=false,isCoroutine:=false}
abbrev CX0:CXT:=λ_ _ _ _ _ _=>False
abbrev E0:XK:=λ_ _ _=>False
theorem CO:mD CX0 X E0:=λ_ _ _ _ _ _ _ h=>h.elim
structure Fun(K:zg)(x qual:Str)(st:Stmt)(f:Addr)(fd:xc):Prop where
 ex:∃(oc:zi) (od:Option Addr) (kV doc pm:zi) (an:Option Addr) (Nz ct:zi) (osl:Array (Option zi)),
  fd=yg x qual (P8 st) (S8 st) (v5 st) .none kV doc pm an Nz ct/\K.lookup f=some ⟨oc,od,.func fd,osl⟩/\xR K Nz qual=true
 kp:ya K (.ref f)=true
section
variable{P:zM}{w:zT}{K:zg}{mg:Str->Option zi}{base:Heap}
theorem Fun.ok{x qual:Str}{st:Stmt}{f:Addr}{k:Nat}{sp:Sp}(F:Fun K x qual st f fd)(S:U3 N ps (v5 st))(len:∀vs H Q E,sp vs H Q E->vs.length=ps.length)
 (hbody:∀(Nz:zi) (A:jd) (outer:List Env) (s:zm) (H:Hp) (vs:List V) (Q:VK) (E:XK),Q7 k (A.deeper (ZM qual (v5 st) s.heap.objs.size f Nz))->sp vs H Q E->
   ∃t,PSs (g7 CX0 P w K mg base N qual (v5 st) f Nz A outer s H E).nox (S8 st) t/\t {nx:=λ_ H'=>Q .non H',rt:=Q} (start N vs) H):U1 P w K mg base CX0 (k+1) f fd ps sp:=by
 obtain⟨oc,od,kV,doc,pm,an,Nz,ct,osl,rfl,lk,hcd⟩:=F.ex;refine Kp lk hcd S len λA outer s H vs Q E hr hsp=>?_;obtain⟨t,h,q⟩:=hbody Nz A outer s H vs Q E hr hsp;exact⟨t,h.nox,q⟩
theorem Fun.binds{x qual:Str}{st:Stmt}{f:Addr}(F:Fun K x qual st f fd)
 (h:∀(kV doc pm:zi) (an:Option Addr) (Nz ct:zi) (us:List zi),us.length=ps.length->bindArgs (yg x qual (P8 st) (S8 st) (v5 st) .none kV doc pm an Nz ct) ⟨us, []⟩=pure (ps.zip us)):T8 K fd ps []:=by
 obtain⟨oc,od,kV,doc,pm,an,Nz,ct,osl,rfl,lk,hcd⟩:=F.ex;exact .all (h kV doc pm an Nz ct)
theorem NE{x qual:Str}{st:Stmt}{f:Addr}{oc:zi}{od an:Option Addr}{kV doc pm Nz ct:zi}(l:K.lookup f=some ⟨oc,od,.func (yg x qual (P8 st) (S8 st) (v5 st) .none kV doc pm an Nz ct),osl⟩)
 (c:xR K Nz qual=true) (k:ya K (.ref f)=true):Fun K x qual st f (yg x qual (P8 st) (S8 st) (v5 st) .none kV doc pm an Nz ct):=⟨⟨oc,od,kV,doc,pm,an,Nz,ct,osl,rfl,l,c⟩,k⟩
end
section
end
def Same(H H':Hp):Prop:=∀b o,H b=some o->H' b=some o
theorem Same.refl(H:Hp):Same H H:=λ_ _ h=>h
theorem Same.trans(a:Same H H1)(b:Same H1 H2):Same H H2:=λc o h=>b c o (a c o h)
theorem Same.free(e:Same H H')(h:H' l=Option.none):H l=Option.none:=by
 cases q:H l with
 |none=>rfl
 |some o=>
   rw[e l o q]at h
   cases h
theorem Same.seq{K:zg}{H H':Hp}{a:Addr}(e:Same H H')(h:SqL K H a xs):SqL K H' a xs:=by
 rcases h with(h|⟨o,h⟩)|h
 ·exact .inl (.inl (e _ _ h))
 ·exact .inl (.inr ⟨o,e _ _ h⟩)
 ·exact .inr h
section
variable[DecidableEq κ]
def A3(Nd:List (κ×V))(k:κ):Option V:=(Nd.find? λkv=>decide (kv.1=k)).map (·.2)
def C4(Nd:List (κ×V))(k:κ)(v:V):List (κ×V):=
 if (Nd.any λkv=>decide (kv.1=k))=true then Nd.map (λkv=>if kv.1=k then (kv.1,v)else kv)else Nd++[(k,v)]
def bN(Nd:List (κ×V))(k:κ):List (κ×V):=Nd.filter λkv=>decide (kv.1≠k)
theorem pF{k:κ}(e:p.1=k):A3 (p::r) k=some p.2:=by simp[A3,yQ,e]
theorem RD{k:κ}(e:¬p.1=k):A3 (p::r) k=A3 r k:=by simp[A3,yQ,e]
theorem gJ(k:κ):∀Nd:List (κ×V),(Nd.any λkv=>decide (kv.1=k))= (A3 Nd k).isSome
 |[]=>rfl
 |p::r=>by
   rw[yR];by_cases e:p.1=k
   ·simp only[pF e,decide_eq_true e,Bool.true_or,Option.isSome_some]
   ·rw[RD e,decide_eq_false e,Bool.false_or];exact gJ k r
theorem LM(Nd:List (κ×V))(k:κ)(v:V):(C4 Nd k v).length<=Nd.length+1:=by
 unfold C4;split
 ·rw[zc];lia
 ·rw[zd,zq,jO];lia
theorem a6.isSome_eq(r:a6 o u):o.isSome=u.isSome:=by
 cases o with
 |none=>cases u with
   |none=>rfl
   |some _=>exact(show False from r).elim
 |some _=>cases u with
   |none=>exact(show False from r).elim
   |some _=>rfl
theorem a6.getD(r:a6 o u)(rd:o7 d d'):o7 (o.getD d) (u.getD d'):=by
 cases o with
 |none=>cases u with
   |none=>exact rd
   |some _=>exact(show False from r).elim
 |some _=>cases u with
   |none=>exact(show False from r).elim
   |some _=>exact r
theorem KV.val(r:KV Nd vs)(k:κ):a6 (A3 Nd k) (Jc vs k):=by
 unfold KV at r
 induction r with
 |nil=>exact True.intro
 |@cons p q ps qs h t ih=>
   obtain⟨h1,h2⟩:=h;by_cases e:p.1=k
   · have e':q.1=k:=h1.symm.trans e;have b:Jc (q::qs) k=some q.2:=by simp[Jc,yQ,e']
     rw[pF e,b];exact h2
   · have e':¬q.1=k:=λz=>e (h1.trans z);have b:Jc (q::qs) k=Jc qs k:=by simp[Jc,yQ,e']
     rw[RD e,b];exact ih
theorem KV.any(r:KV Nd vs)(k:κ):(Nd.any λkv=>decide (kv.1=k))=vs.any λkv=>decide (kv.1=k):=by
 unfold KV at r
 induction r with
 |nil=>rfl
 |cons h t ih=>rw[yR,yR,ih,h.1]
theorem KV.repl(r:KV Nd vs)(k:κ)(ry:o7 y u):
 KV (Nd.map λkv=>if kv.1=k then (kv.1,y)else kv) (vs.map λkv=>if kv.1=k then (kv.1,u)else kv):=by
 unfold KV at r ⊢
 induction r with
 |nil=>exact .nil
 |@cons p q ps qs h t ih=>
   rw[zH,zH];refine .cons ?_ ih;obtain⟨h1,h2⟩:=h;by_cases e:p.1=k
   ·rw[if_pos e,if_pos (h1.symm.trans e)];exact⟨h1,ry⟩
   ·rw[if_neg e,if_neg (λz=>e (h1.trans z))];exact⟨h1,h2⟩
theorem KV.put(r:KV Nd vs)(k:κ)(ry:o7 y u):KV (C4 Nd k y) (stored vs k u):=by
 unfold C4 stored;rw[r.any k];by_cases e:(vs.any λkv=>decide (kv.1=k))=true
 ·rw[if_pos e,if_pos e];exact r.repl k ry
 ·rw[if_neg e,if_neg e];exact Paired.snoc r ⟨rfl,ry⟩
theorem KV.drop(r:KV Nd vs)(k:κ):KV (bN Nd k) (without vs k):=by
 unfold KV at r ⊢;unfold bN without
 induction r with
 |nil=>exact .nil
 |@cons p q ps qs h t ih=>
   obtain⟨h1,h2⟩:=h;rw[List.filter_cons,List.filter_cons];by_cases e:p.1=k
   · have a:¬decide (p.1≠k)=true:=by simp[e]
     have b:¬decide (q.1≠k)=true:=by simp[h1.symm.trans e]
     rw[if_neg a,if_neg b];exact ih
   · have e':¬q.1=k:=λz=>e (h1.trans z);have a:decide (p.1≠k)=true:=by simp[e]
     have b:decide (q.1≠k)=true:=by simp[e']
     rw[if_pos a,if_pos b];exact .cons ⟨h1,h2⟩ ih
theorem KV.length(r:KV Nd vs):Nd.length=vs.length:=yL r
end
theorem nC(r:o7 (kV k) u):(J3 P w).is k u=true:=by
 cases k with
 |inl i=>obtain⟨t,e⟩:=(show ∃t,u=Value.int i t from r);subst e;exact UO P w i t
 |inr x=>obtain⟨t,e⟩:=(show ∃t,u=Value.str x t from r);subst e;exact AN P w x t
theorem RJ:∀ {ks} {us},o5 (ks.map kV) us->ItemsAre (J3 P w) ks us
 |[],_,r=>by rw[xw]at r;cases r;exact .nil
 |k::ks,_,r=>by
   rw[zH]at r
   cases r with
   |cons h t=>exact .cons (nC h) (RJ t)
abbrev KT(H:Hp):List (List Key×V)->List (List Key×Addr×zi)->Prop:=Paired λp q=>p.1=q.1/\H q.2.1=some (.tup (p.1.map kV))/\o7 p.2 q.2.2
theorem KT.val{H:Hp}(r:KT H Nd xs)(k:List Key):a6 (A3 Nd k) ((JP xs k).map (·.2)):=by
 induction r with
 |nil=>exact True.intro
 |@cons p q ps qs h t ih=>
   obtain⟨h1,_,h2⟩:=h;by_cases e:p.1=k
   · have e':q.1=k:=h1.symm.trans e;have b:JP (q::qs) k=some q.2:=by simp[JP,yQ,e']
     rw[pF e,b];exact h2
   · have e':¬q.1=k:=λz=>e (h1.trans z);have b:JP (q::qs) k=JP qs k:=by simp[JP,yQ,e']
     rw[RD e,b];exact ih
theorem KT.repl(r:KT H Nd xs)(k:List Key)(ry:o7 y u):
 KT H (Nd.map λkv=>if kv.1=k then (kv.1,y)else kv) (xs.map (putAt k u)):=by
 induction r with
 |nil=>exact .nil
 |@cons p q ps qs h t ih=>
   rw[zH,zH];refine .cons ?_ ih;obtain⟨h1,h2,h3⟩:=h;unfold putAt;by_cases e:p.1=k
   ·rw[if_pos e,if_pos (h1.symm.trans e)];exact⟨h1,h2,ry⟩
   ·rw[if_neg e,if_neg (λz=>e (h1.trans z))];exact⟨h1,h2,h3⟩
theorem KT.put(r:KT H Nd xs)(k:List Key)(hb:H b=some (.tup (k.map kV)))(ry:o7 y u):
 KT H (C4 Nd k y) (storedH xs k b u):=by
 have e:(Nd.any λkv=>decide (kv.1=k))= (JP xs k).isSome:=by rw[gJ,(r.val k).isSome_eq,Yu]
 unfold C4 storedH;rw[e];by_cases q:(JP xs k).isSome=true
 ·rw[if_pos q,if_pos q];exact r.repl k ry
 ·rw[if_neg q,if_neg q];exact Paired.snoc r ⟨rfl,hb,ry⟩
theorem KT.keeps(r:KT H Nd xs)(ht:∀b ys,H b=some (.tup ys)->H' b=some (.tup ys)):KT H' Nd xs:=
 Paired.mapP r λ_ _ z=>⟨z.1,ht _ _ z.2.1,z.2.2⟩
section
theorem MH(ok:HOk P w H h)(e:Rd H a u):O6 P w H h a u:=e.ok ok
theorem kE(ok:HOk P w H h)(e:Rd H a (.dK Nd)):Nd.length<=zk/\(a==yY)=false/\∃vs,KV Nd vs/\h.DictOf (J3 P w) a vs:=
 show O6 P w H h a (.dK Nd)from MH ok e
theorem wD(ok:HOk P w H h)(e:H a=some (.dK Nd)):Nd.length<=zk/\(a==yY)=false/\∃vs,KV Nd vs/\h.DictOf (J3 P w) a vs:=kE ok (.inl e)
theorem aE(ok:HOk P w H h)(e:H a=some (.tup (ks.map kV))):(XB (J3 P w)).is h ks a:=by obtain⟨_,Nf,r,o,h1,h2,n,h3⟩:=(show O6 P w H h a (.tup (ks.map kV))from ok a _ e);exact⟨o,Nf.toArray,n,h1,h2,(xn h3).1,by simpa using RJ r⟩
theorem eI(ok:HOk P w H h)(e:Rd H a (.dT Nd)):Nd.length<=zk/\(a==yY)=false/\
 ∃xs,KT H Nd xs/\h.DictOfH (XB (J3 P w)) a xs:=by
 obtain⟨z,y,xs,r,o,es,ep,h1,h2,h3,h4,h5⟩:=(show O6 P w H h a (.dT Nd)from MH ok e);refine⟨z,y,xs,r,o,es,ep,h1,h2,h3,h4,λx hx=>?_,h5⟩;have all:∀ {l:List (List Key×V)} {m:List (List Key×Addr×zi)},KT H l m->∀x∈m,(XB (J3 P w)).is h x.1 x.2.1:=by
  intro l m q
  induction q with
  |nil=>intro x hx;exact nomatch hx
  |@cons p q ps qs hq t ih=>
    intro x hx;rcases zI.mp hx with e|hx
    ·subst e;exact aE ok (by rw[<-hq.1];exact hq.2.1)
    ·exact ih x hx
 exact all r x hx
theorem SZ(ok:HOk P w H h)(e:H a=some (.dT Nd)):Nd.length<=zk/\(a==yY)=false/\
 ∃xs,KT H Nd xs/\h.DictOfH (XB (J3 P w)) a xs:=eI ok (.inl e)
end
def E9(H:Hp)(a:Addr)(y:V)(r:Option V):Prop:=
 (∃Nd k,Rd H a (.dK Nd)/\y=kV k/\r=A3 Nd k)\/∃Nd k b,Rd H a (.dT Nd)/\y= .ref b/\H b=some (.tup (k.map kV))/\r=A3 Nd k
def CB(H:Hp)(a:Addr)(y v:V)(H':Hp):Prop:=
 (∃Nd k,H a=some (.dK Nd)/\y=kV k/\Nd.length<zk/\H'=upd H a (.dK (C4 Nd k v)))\/
 ∃Nd k b,H a=some (.dT Nd)/\y= .ref b/\H b=some (.tup (k.map kV))/\Nd.length<zk/\H'=upd H a (.dT (C4 Nd k v))
theorem E9.k{k:Key}(e:H a=some (.dK Nd)):E9 H a (kV k) (A3 Nd k):=.inl ⟨Nd,k,.inl e,rfl,rfl⟩
theorem E9.t{k:List Key}(e:H a=some (.dT Nd))(eb:H b=some (.tup (k.map kV))):E9 H a (.ref b) (A3 Nd k):=.inr ⟨Nd,k,b,.inl e,rfl,eb,rfl⟩
theorem CB.k{k:Key}(e:H a=some (.dK Nd))(hl:Nd.length<zk):CB H a (kV k) v (upd H a (.dK (C4 Nd k v))):=.inl ⟨Nd,k,e,rfl,hl,rfl⟩
theorem CB.t{k:List Key}(e:H a=some (.dT Nd))(eb:H b=some (.tup (k.map kV)))(hl:Nd.length<zk):
 CB H a (.ref b) v (upd H a (.dT (C4 Nd k v))):=.inr ⟨Nd,k,b,e,rfl,eb,hl,rfl⟩
section
theorem Inv.big(I:Inv X Nc σ H s):yY<s.heap.objs.size:=by have h:jr<s.heap.objs.size:=(I.mod.glob.keeps I.bk).lt;exact YM (by decide) h
theorem Cp(hu:A.units+1<yU)(I:Inv X Nc σ H s)(g:E9 H a y o)(ry:o7 y u)(h:∀s',Inv X Nc σ H s'->Q (.bool o.isSome) s'):
 zw (zF X.prog X.w) A (jc .In u (.ref a)) Q E s:=by
 rcases g with⟨Nd,k,e,ey,l⟩|⟨Nd,k,b,e,ey,eb,l⟩
 ·subst ey;obtain⟨z,hd,vs,rel,dd⟩:=kE I.hok e;refine wpAny_in_of (nC ry) hd dd.mapOf ?_;rw[<-(rel.val k).isSome_eq,<-l];exact h _ (I.tok _)
 · subst ey
   cases (show u=Value.ref b from ry)
   obtain⟨z,hd,xs,rel,dd⟩:=eI I.hok e;refine wpAny_in_heap (Xa hu) (aE I.hok eb) hd dd ?_;have q:=(rel.val k).isSome_eq;rw[Yu]at q;rw[<-q,<-l];exact h _ (I.tok _)
theorem DY(hu:A.units+1<yU)(I:Inv X Nc σ H s)(g:E9 H a y o)(ry:o7 y u)(h:∀s',Inv X Nc σ H s'->Q (.bool (!o.isSome)) s'):
 zw (zF X.prog X.w) A (jc .NotIn u (.ref a)) Q E s:=by
 rcases g with⟨Nd,k,e,ey,l⟩|⟨Nd,k,b,e,ey,eb,l⟩
 ·subst ey;obtain⟨z,hd,vs,rel,dd⟩:=kE I.hok e;refine wpAny_notIn_of (nC ry) hd dd.mapOf ?_;rw[<-(rel.val k).isSome_eq,<-l];exact h _ (I.tok _)
 · subst ey
   cases (show u=Value.ref b from ry)
   obtain⟨z,hd,xs,rel,dd⟩:=eI I.hok e;refine wpAny_notIn_heap (Xa hu) (aE I.hok eb) hd dd ?_;have q:=(rel.val k).isSome_eq;rw[Yu]at q;rw[<-q,<-l];exact h _ (I.tok _)
theorem GL(I:Inv X Nc σ H s)(mu:Mut (H a))(hs:yj a s.heap h')(he:∃q,h'.get? a=some q)(new:O6 X.prog X.w (upd H a ob) h' a ob):
 Inv X Nc σ (upd H a ob) {s with heap:=h',toks:=t'}:=
 I.write mu (.inl rfl) (λb q hb z=>(hs.2 b hb).trans z) he new
theorem IQ(z:Nd.length<=zk)(hd:(a==yY)=false)(rel:KV Nd vs)(dd:h'.DictOf (J3 P w) a vs):
 O6 P w H' h' a (.dK Nd):=⟨z,hd,vs,rel,dd⟩
theorem lP(hu:A.units+1<yU)(I:Inv X Nc σ H s)(g:CB H a y v H')(ry:o7 y u)(rv:o7 v r)(h:∀s',Inv X Nc σ H' s'->Q () s'):
 zw (zF X.prog X.w) A (setItem (.ref a) u r) Q E s:=by
 rcases g with⟨Nd,k,e,ey,l,eH⟩|⟨Nd,k,b,e,ey,eb,l,eH⟩
 · subst ey eH;obtain⟨z,hd,vs,rel,dd⟩:=wD I.hok e;have hz:vs.length<=zk:=by rw[<-rel.length];exact z
   have hl:(C4 Nd k v).length<=zk:=by have:=LM Nd k v;lia
   refine wpAny_setItem_pairs (nC ry) dd λh' dd' hs=>h _ ?_;have he:∃q,h'.get? a=some q:=let ⟨q,_,_,hq,_⟩:=dd';⟨q,hq⟩;exact GL I (by rw[e];exact True.intro) hs he (IQ hl hd (rel.put k rv) dd')
 · subst ey eH
   cases (show u=Value.ref b from ry)
   obtain⟨z,hd,xs,rel,dd⟩:=SZ I.hok e;have hz:xs.length<=zk:=by rw[<-yL rel];exact z
   have hl:(C4 Nd k v).length<=zk:=by have:=LM Nd k v;lia
   refine wpAny_setItem_heap (Xa hu) (aE I.hok eb) dd λh' dd' hs=>h _ ?_;obtain⟨q,es,ep,hq,h2,h3,h4,_,h5⟩:=dd';refine GL I (by rw[e];exact True.intro) hs ⟨q,hq⟩ ⟨hl,hd,_,(rel.put k eb rv).keeps λc ys ec=>?_,q,es,ep,hq,h2,h3,h4,h5⟩;rw[v9 (iR ec e (λz=>nomatch z))];exact ec
end
section
theorem tW(I:Inv X Nc σ H s)(e:Rd H a (.dK Nd))(h:∀t s',Inv X Nc σ H s'->Q (.int Nd.length t) s'):zw (zF X.prog X.w) A (call (.builtin "len") [.ref a]) Q E s:=by obtain⟨z,hd,vs,rel,dd⟩:=kE I.hok e;refine call_len_dict hd dd (by rw[<-rel.length];rw[yT]at z;lia) ?_;rw[<-rel.length];exact h _ _ (I.tok _)
end
section
end
theorem Hw(h:Heap)(hb:yY<h.objs.size):O6 P w H (h.push {cls:=.type "dict",data:=.dict #[]}) h.objs.size (.dK []):=
 ⟨zD _,beq_eq_false_iff_ne.mpr (Ne.symm (zL hb)), [],.nil,Heap.DictOf.new h⟩
def Gj:TE:=λ_ H Q=>∀p,H p=none->Q (.ref p) (upd H p (.dK []))
section
theorem LU:PE X (.Dict [] [] pos) Gj:=λNc s σ H Q I h=>
 wpAny_Dict_empty ⟨.ref s.heap.objs.size,_,I.laid (λ_ _ q=>ze _ q) (zf _) (Hw s.heap I.big),rfl,h _ (I.hok.fresh (zf _))⟩
end
def fI:List (TE×TE)->St->Hp->(List (V×V)->Hp->Prop)->Prop
 |[],_,H,Q=>Q [] H
 |(tk,tv)::r,σ,H,Q=>tk σ H λx H1=>tv σ H1 λy H2=>fI r σ H2 λps H3=>Q ((x,y)::ps) H3
abbrev VV:List (V×V)->List (zi×zi)->Prop:=Paired λp q=>o7 p.1 q.1/\o7 p.2 q.2
def PPs(X:Cx)(pos:Pos)(keys:List (Option Expr))(values:List Expr)(trs:List (TE×TE)):Prop:=
 ∀(Nc:PNS) (s:zm) (σ:St) (H:Hp) (Q:List (V×V)->Hp->Prop),Inv X Nc σ H s->fI trs σ H Q->
  zw (zF X.prog X.w) X.A (evalPairs (pairTrees keys values X.env pos)) (λvs s'=>∃ps H',Inv X Nc σ H' s'/\VV ps vs/\Q ps H') X.xe s
structure M1(X:Cx)(o:Expr)(m:Str)(Ph:Pos)(e:Expr)(Np:Pos):Prop where
 base:ZJ o m X.env (eval o X.env)=eval o X.env
 few:((yZ Np (zW [e] X.env)).all (λx=> !x.1)&&(Xn Np (ZC [] X.env)).all (λx=>x.1.isSome)
  && decide (([e]:List Expr).length+([]:List Keyword).length+(if ([]:List Keyword).isEmpty then 0 else 1)<30))=true
 line:(Ph.endLine==Np.line)=true
 trees:yZ Np (zW [e] X.env)= [(false,eval e X.env)]
structure M2(X:Cx)(o:Expr)(m:Str)(Ph:Pos)(e f:Expr)(Np:Pos):Prop where
 base:ZJ o m X.env (eval o X.env)=eval o X.env
 few:((yZ Np (zW [e,f] X.env)).all (λx=> !x.1)&&(Xn Np (ZC [] X.env)).all (λx=>x.1.isSome)
  && decide (([e,f]:List Expr).length+([]:List Keyword).length+(if ([]:List Keyword).isEmpty then 0 else 1)<30))=true
 line:(Ph.endLine==Np.line)=true
 trees:yZ Np (zW [e,f] X.env)= [(false,eval e X.env),(false,eval f X.env)]
section
end
section
end
section
end
section
end
section
theorem Lf:R4 X (.builtin "len") (λxs H Q=>∃a Nd,xs= [V.ref a]/\H a=some (.dK Nd)/\Q (.int Nd.length) H):=by
 intro Nc s σ H xs us Q I r h;obtain⟨a,Nd,rfl,ha,q⟩:=h;obtain⟨u,rfl,ru⟩:=C3 r
 cases ru
 exact tW I (.inl ha) λt s' I'=>⟨.int Nd.length,H,I',⟨t,rfl⟩,q⟩
end
section
variable[DecidableEq κ]
end
end L2
namespace DL
open PySem PySem.Spec L2
open PyProof.Rows hiding St
inductive D where
 |non|bl (b:Bool)|int (i:Int)|str (x:Str)|tup (l:List D)|ref (i:Nat)|fn (x:Str)|ty (n:String)
inductive DO where
 |lst (l:List D)|rol (l:List D)|dct (l:List (Key×D))|rod (l:List (Key×D))
abbrev DH:=List DO
abbrev DPP:=D->DH->Prop
abbrev DSt:=List (Option D)
structure Wc where
 K:zg
 mg:Str->Option zi
abbrev wc(X:Cx):Wc:=⟨X.K,X.mg⟩
mutual
def d8(c:Wc)(μ:List Addr)(H:Hp):D->V->Prop
 | .non,v=>v= .non
 | .bl b,v=>v= .bl b
 | .int i,v=>v= .int i
 | .str x,v=>v= .str x
 | .ty n,v=>v= .ty n
 | .fn x,v=>∃a,c.mg x=some (.ref a)/\v= .ref a
 | .ref i,v=>∃a,μ[i]? =some a/\v= .ref a
 | .tup l,v=>∃a vs,v= .ref a/\SqT c.K H a vs/\m5 c μ H l vs
def m5(c:Wc)(μ:List Addr)(H:Hp):List D->List V->Prop
 |[],vs=>vs= []
 |d::ds,vs=>∃v r,vs=v::r/\d8 c μ H d v/\m5 c μ H ds r
end
def Z2(c:Wc)(μ:List Addr)(H:Hp):List (Key×D)->List (Key×V)->Prop
 |[],Nd=>Nd= []
 |(k,d)::r,Nd=>∃v t,Nd= (k,v)::t/\d8 c μ H d v/\Z2 c μ H r t
structure Ext(μ:List Addr)(H:Hp)(X2:List Addr)(H':Hp):Prop where
 pre:μ <+:X2
 new:∀a∈X2,a∉μ->H a=none
 oth:∀b o,H b=some o->b∉μ->H' b=some o
 tup:∀b xs,H b=some (.tup xs)->H' b=some (.tup xs)
 frz:∀b o u,H b=some (.frz o u)->H' b=some (.frz o u)
theorem Ext.refl(μ:List Addr)(H:Hp):Ext μ H μ H:=⟨YW _,λa h n=>absurd h n,λ_ _ h _=>h,λ_ _ h=>h,λ_ _ _ h=>h⟩
theorem Ext.trans(a:Ext μ H X0 H1)(b:Ext X0 H1 WX H2):Ext μ H WX H2 where
 pre:=a.pre.trans b.pre
 new:=λx h n=>by
  by_cases h1:x∈X0
  ·exact a.new x h1 n
  · have e1:=b.new x h h1;rcases e:H x with _|o
    ·rfl
    ·rw[a.oth x o e n]at e1;exact MF e1
 oth:=λx o e n=>by refine b.oth x o (a.oth x o e n) λh1=>?_;have:=a.new x h1 n;rw[e]at this;exact MF this
 tup:=λx xs e=>b.tup x xs (a.tup x xs e)
 frz:=λx o u e=>b.frz x o u (a.frz x o u e)
theorem Ext.lay(h:H p=none)(o:HO):Ext μ H μ (upd H p o):=
 ⟨YW _,λa h n=>absurd h n,λb o' q _=>by rw[v9 (J7 q h)];exact q,λb xs q=>by rw[v9 (J7 q h)];exact q,λb o' u q=>by rw[v9 (J7 q h)];exact q⟩
theorem Ext.add(h:H p=none)(o:HO):Ext μ H (μ++[p]) (upd H p o):=
 ⟨List.prefix_append _ _,λa ha n=>by
  rcases zO.mp ha with z|z
  ·exact absurd z n
  ·rw[zr.mp z];exact h,λb o' q _=>by rw[v9 (J7 q h)];exact q,λb xs q=>by rw[v9 (J7 q h)];exact q,λb o' u q=>by rw[v9 (J7 q h)];exact q⟩
theorem Ext.mut(hp:p∈μ)(h:H p=some o')(n1:∀xs,o'≠ .tup xs)(n2:∀o u,o'≠ .frz o u)(o:HO):Ext μ H μ (upd H p o):=
 ⟨YW _,λa h n=>absurd h n,λb o2 q n=>by rw[v9 (λe=>n (by rw[e];exact hp))];exact q,λb xs q=>by
  rw[v9 (λe=>by subst e;rw[h]at q;cases q;exact n1 _ rfl)];exact q,
  λb oo u q=>by rw[v9 (λe=>by subst e;rw[h]at q;cases q;exact n2 _ _ rfl)];exact q⟩
theorem Ext.sqT{K:zg}(k:Ext μ H X2 H')(h:SqT K H a xs):SqT K H' a xs:=by
 rcases h with(h|⟨o,h⟩)|h
 ·exact .inl (.inl (k.tup _ _ h))
 ·exact .inl (.inr ⟨o,k.frz _ _ _ h⟩)
 ·exact .inr h
def RoL(K:zg)(H:Hp)(a:Addr)(xs:List V):Prop:=(∃o,H a=some (.frz o (.lst xs)))\/(SqL K (λ_=>none) a xs)
theorem cQ{K:zg}(h:SqL K (λ_=>none) a xs):SqL K H a xs:=by
 rcases h with(h|⟨o,h⟩)|h
 ·exact t6 h
 ·exact t6 h
 ·exact .inr h
theorem RoL.sq{K:zg}(h:RoL K H a xs):SqL K H a xs:=by
 rcases h with⟨o,h⟩|h
 ·exact .inl (.inr ⟨o,h⟩)
 ·exact cQ h
theorem Ext.roL{K:zg}(k:Ext μ H X2 H')(h:RoL K H a xs):RoL K H' a xs:=by
 rcases h with⟨o,h⟩|h
 ·exact .inl ⟨o,k.frz _ _ _ h⟩
 ·exact .inr h
section
variable{μ X2:List Addr}
theorem NH(h:μ <+:X2){i:Nat}(e:μ[i]? =some a):X2[i]? =some a:=by
 obtain⟨t,rfl⟩:=h;have:i<μ.length:=by
  rcases xZ i μ.length with q|q
  ·exact q
  ·rw[zS q]at e;exact t6 e
 rw[zh this];exact e
mutual
theorem d8.mono(x:Ext μ H X2 H'):∀ {d} {v},d8 c μ H d v->d8 c X2 H' d v
 | .non,_,h=>h
 | .bl _,_,h=>h
 | .int _,_,h=>h
 | .str _,_,h=>h
 | .ty _,_,h=>h
 | .fn _,_,h=>h
 | .ref i,v,h=>by unfold d8 at h ⊢;obtain⟨a,e,r⟩:=h;exact⟨a,NH x.pre e,r⟩
 | .tup l,v,h=>by unfold d8 at h ⊢;obtain⟨a,vs,e,q,r⟩:=h;exact⟨a,vs,e,x.sqT q,m5.mono x r⟩
theorem m5.mono(x:Ext μ H X2 H'):∀ {l} {vs},m5 c μ H l vs->m5 c X2 H' l vs
 |[],_,h=>h
 |d::ds,vs,h=>by unfold m5 at h ⊢;obtain⟨v,r,e,q,t⟩:=h;exact⟨v,r,e,d8.mono x q,m5.mono x t⟩
end
theorem Z2.mono(x:Ext μ H X2 H'):∀ {l} {vs},Z2 c μ H l vs->Z2 c X2 H' l vs
 |[],_,h=>h
 |(_,d)::ds,vs,h=>by obtain⟨v,r,e,q,t⟩:=h;exact⟨v,r,e,d8.mono x q,Z2.mono x t⟩
theorem m5.nil:m5 c μ H [] []:=rfl
theorem m5.cons(h:d8 c μ H d v)(t:m5 c μ H ds vs):m5 c μ H (d::ds) (v::vs):=⟨v,vs,rfl,h,t⟩
theorem m5.length:∀ {l} {vs},m5 c μ H l vs->l.length=vs.length
 |[],_,h=>by cases h;rfl
 |_::_,_,h=>by obtain⟨v,r,rfl,_,t⟩:=h;simp[m5.length t]
theorem m5.get:∀ {l} {vs} {i:Nat} {d},m5 c μ H l vs->l[i]? =some d->∃v,vs[i]? =some v/\d8 c μ H d v
 |[],_,_,_,_,e=>by simp at e
 |_::_,_,0,_,h,e=>by obtain⟨v,r,rfl,q,t⟩:=h;simp at e;subst e;exact⟨v,rfl,q⟩
 |_::_,_,i+1,_,h,e=>by obtain⟨v,r,rfl,q,t⟩:=h;simp at e;obtain⟨w,h1,h2⟩:=m5.get t e;exact⟨w,by simpa using h1,h2⟩
theorem m5.append:∀ {l l'} {vs Pc},m5 c μ H l vs->m5 c μ H l' Pc->m5 c μ H (l++l') (vs++Pc)
 |[],_,_,_,h,t=>by cases h;exact t
 |_::_,_,_,_,h,t=>by obtain⟨v,r,rfl,q,u⟩:=h;exact⟨v,r++_,rfl,q,m5.append u t⟩
theorem m5.take:∀n {l} {vs},m5 c μ H l vs->m5 c μ H (l.take n) (vs.take n)
 |0,_,_,_=>rfl
 |_+1, [],_,h=>by cases h;rfl
 |n+1,_::_,_,h=>by obtain⟨v,r,rfl,q,u⟩:=h;exact⟨v,r.take n,rfl,q,m5.take n u⟩
theorem m5.drop:∀n {l} {vs},m5 c μ H l vs->m5 c μ H (l.drop n) (vs.drop n)
 |0,_,_,h=>h
 |_+1, [],_,h=>by cases h;rfl
 |n+1,_::_,_,h=>by obtain⟨v,r,rfl,q,u⟩:=h;exact m5.drop n u
theorem m5.set(hv:d8 c μ H d v):∀n {l} {vs},m5 c μ H l vs->m5 c μ H (l.set n d) (vs.set n v)
 |_, [],_,h=>by cases h;rfl
 |0,_::_,_,h=>by obtain⟨w,r,rfl,q,u⟩:=h;exact⟨v,r,rfl,hv,u⟩
 |n+1,_::_,_,h=>by obtain⟨w,r,rfl,q,u⟩:=h;exact⟨w,r.set n v,rfl,q,m5.set hv n u⟩
theorem m5.reverse:∀ {l} {vs},m5 c μ H l vs->m5 c μ H l.reverse vs.reverse
 |[],_,h=>by cases h;rfl
 |_::_,_,h=>by obtain⟨w,r,rfl,q,u⟩:=h;simp only[YE];exact m5.append (m5.reverse u) ⟨w, [],rfl,q,rfl⟩
def N4:Option DO->Prop
 |some (.rol _)=>True
 |some (.rod _)=>True
 |_=>False
def d6(c:Wc)(μ:List Addr)(H:Hp)(a:Addr):DO->Prop
 | .lst l=>∃vs,H a=some (.lst vs)/\m5 c μ H l vs
 | .rol l=>∃vs,RoL c.K H a vs/\m5 c μ H l vs
 | .dct l=>∃Nd,H a=some (.dK Nd)/\Z2 c μ H l Nd
 | .rod l=>∃Nd o,H a=some (.frz o (.dK Nd))/\Z2 c μ H l Nd
structure m9(c:Wc)(μ:List Addr)(G:DH)(H:Hp):Prop where
 len:μ.length=G.length
 inj:∀(i j:Nat) (a:Addr),μ[i]? =some a->μ[j]? =some a->i=j\/N4 G[i]? \/N4 G[j]?
 obj:∀(i:Nat) (o:DO) (a:Addr),G[i]? =some o->μ[i]? =some a->d6 c μ H a o
theorem lt_of_get{α:Type}{l:List α}{x:α}(e:l[i]? =some x):i<l.length:=by
 rcases xZ i l.length with q|q
 ·exact q
 ·rw[zS q]at e;exact t6 e
theorem m9.at(h:m9 c μ G H){i:Nat}(e:G[i]? =some o):∃a,μ[i]? =some a/\d6 c μ H a o:=by
 have q:i<μ.length:=by rw[h.len];exact lt_of_get e
 exact⟨μ[i],zn q,h.obj i o _ e (zn q)⟩
theorem d6.mono(x:Ext μ H X2 H')(h:d6 c μ H a o)(e:H' a=H a\/N4 (some o)):d6 c X2 H' a o:=by
 rcases o with l|l|l|l
 ·
   obtain⟨vs,q,r⟩:=h;rcases e with e|e
   ·exact⟨vs,e.trans q,r.mono x⟩
   ·exact e.elim
 ·obtain⟨vs,q,r⟩:=h;exact⟨vs,x.roL q,r.mono x⟩
 ·
   obtain⟨vs,q,r⟩:=h;rcases e with e|e
   ·exact⟨vs,e.trans q,r.mono x⟩
   ·exact e.elim
 ·obtain⟨vs,o,q,r⟩:=h;exact⟨vs,o,x.frz _ _ _ q,r.mono x⟩
theorem d6.some_of(h:d6 c μ H a o)(n:¬N4 (some o)):∃u,H a=some u/\(∀xs,u≠ .tup xs)/\∀o' u',u≠ .frz o' u':=by
 rcases o with l|l|l|l
 ·obtain⟨vs,q,_⟩:=h;exact⟨_,q,(λ_ z=>nomatch z),(λ_ _ z=>nomatch z)⟩
 ·exact(n trivial).elim
 ·obtain⟨vs,q,_⟩:=h;exact⟨_,q,(λ_ z=>nomatch z),(λ_ _ z=>nomatch z)⟩
 ·exact(n trivial).elim
theorem m9.same(h:m9 c μ G H)(k:Ext μ H μ H')(e:∀a o,H a=some o->(∀xs,o≠ .tup xs)->H' a=some o):m9 c μ G H':=
 ⟨h.len,h.inj,λi o a g m=>by
  have q:=h.obj i o a g m;by_cases hr:N4 (some o)
  ·exact q.mono k (.inr hr)
  ·obtain⟨u,e1,n1,n2⟩:=q.some_of hr;exact q.mono k (.inl ((e a u e1 n1).trans e1.symm))⟩
theorem m9.new{p:Addr}(h:m9 c μ G H)(hp:H p=none)(ho:d6 c (μ++[p]) (upd H p u) p o):m9 c (μ++[p]) (G++[o]) (upd H p u):=by
 have k:Ext μ H (μ++[p]) (upd H p u):=Ext.add hp u;have old:∀(i:Nat) (a:Addr),i<μ.length->(μ++[p])[i]? =some a->μ[i]? =some a:=λi a hi e=>by rw[zh hi]at e;exact e
 refine⟨by simp[h.len],λi j a ei ej=>?_,λi o' a g m=>?_⟩
 · have li:=lt_of_get ei;have lj:=lt_of_get ej;simp only[zd,yW]at li lj;by_cases hi:i<μ.length
   · have mi:=old i a hi ei;have gi:(G++[o])[i]? =G[i]? :=zh (by rw[<-h.len];exact hi);by_cases hj:j<μ.length
     ·have mj:=old j a hj ej;have gj:(G++[o])[j]? =G[j]? :=zh (by rw[<-h.len];exact hj);rw[gi,gj];exact h.inj i j a mi mj
     · -- j is the new one:a=p
       have ej':j=μ.length:=by lia
       subst ej';have ea:a=p:=by simpa using ej.symm
       subst ea;right;left;rw[gi];have hg:i<G.length:=by rw[<-h.len];exact hi
       have q:=h.obj i G[i] a (zn hg) mi;rw[zn hg];refine jA λn=>?_;obtain⟨u',e1,_⟩:=q.some_of n;rw[hp]at e1;exact t6 e1
   · have ei':i=μ.length:=by lia
     by_cases hj:j<μ.length
     · have mj:=old j a hj ej;have gj:(G++[o])[j]? =G[j]? :=zh (by rw[<-h.len];exact hj);subst ei';have ea:a=p:=by simpa using ei.symm
       subst ea;right;right;rw[gj];have hg:j<G.length:=by rw[<-h.len];exact hj
       have q:=h.obj j G[j] a (zn hg) mj;rw[zn hg];refine jA λn=>?_;obtain⟨u',e1,_⟩:=q.some_of n;rw[hp]at e1;exact t6 e1
     ·left;lia
 · have li:=lt_of_get m;simp only[zd,yW]at li;by_cases hi:i<μ.length
   · have mi:=old i a hi m;rw[zh (by rw[<-h.len];exact hi)]at g;have q:=h.obj i o' a g mi;by_cases hr:N4 (some o')
     ·exact q.mono k (.inr hr)
     ·obtain⟨u',e1,_⟩:=q.some_of hr;exact q.mono k (.inl (v9 (J7 e1 hp)))
   · have ei':i=μ.length:=by lia
     subst ei';have ea:a=p:=by simpa using m.symm
     subst ea;rw[h.len]at g;have eo:o'=o:=by simpa using g.symm
     subst eo;exact ho
theorem m9.set{o o':DO}{u:HO}(h:m9 c μ G H)(g:G[i]? =some o)(n:¬N4 (some o))(m:μ[i]? =some a)(k:Ext μ H μ (upd H a u))(n':¬N4 (some o'))(ho:d6 c μ (upd H a u) a o'):m9 c μ (G.set i o') (upd H a u):=by
 have hi:i<G.length:=lt_of_get g;have get:∀j,(G.set i o')[j]? =if i=j then some o' else G[j]? :=λj=>by
  rw[YG];by_cases e:i=j
  ·subst e;simp[hi]
  ·simp[e]
 refine⟨by simp[h.len],λj l b ej el=>?_,λj o2 b gj mj=>?_⟩
 · rcases h.inj j l b ej el with e|e|e
   ·exact .inl e
   · by_cases ij:i=j
     ·subst ij;rw[g]at e;exact(n e).elim
     ·right;left;rw[get,if_neg ij];exact e
   · by_cases ij:i=l
     ·subst ij;rw[g]at e;exact(n e).elim
     ·right;right;rw[get,if_neg ij];exact e
 · rw[get]at gj;by_cases ij:i=j
   · subst ij;rw[if_pos rfl]at gj
     cases gj
     rw[m]at mj
     cases mj
     exact ho
   · rw[if_neg ij]at gj;have q:=h.obj j o2 b gj mj;by_cases hr:N4 (some o2)
     ·exact q.mono k (.inr hr)
     · have nb:b≠a:=λe=>by
        subst e;rcases h.inj i j b m mj with e|e|e
        ·exact ij e
        ·rw[g]at e;exact n e
        ·rw[gj]at e;exact hr e
       exact q.mono k (.inl (v9 nb))
def w5(c:Wc)(μ:List Addr)(H:Hp)(X9:DSt)(σ:St):Prop:=X9.length=σ.length/\∀(i:Nat) (d:D),X9[i]? =some (some d)->∃v,σ[i]? =some (some v)/\d8 c μ H d v
theorem w5.mono(x:Ext μ H X2 H')(h:w5 c μ H X9 σ):w5 c X2 H' X9 σ:=
 ⟨h.1,λi d e=>let ⟨v,a,b⟩:=h.2 i d e;⟨v,a,b.mono x⟩⟩
theorem w5.put(h:w5 c μ H X9 σ)(r:d8 c μ H d v)(i:Nat):w5 c μ H (X9.set i (some d)) (σ.set i (some v)):=by
 refine⟨by simp[h.1],λj d' e=>?_⟩;rw[YG]at e ⊢;by_cases ij:i=j
 · subst ij;rw[if_pos rfl]at e ⊢;rw[<-h.1];split at e
   · rename_i hl;rw[if_pos hl]
     cases e
     exact⟨v,rfl,r⟩
   ·exact t6 e
 ·rw[if_neg ij]at e ⊢;exact h.2 j d' e
end
def M(α:Type):=DH->Option (Except Str α×DH)
namespace M
def pure{α:Type}(a:α):M α:=λG=>some (.ok a,G)
def bind{α β:Type}(m:M α)(f:α->M β):M β:=λG=>match m G with
 |none=>none
 |some (.ok a,G1)=>f a G1
 |some (.error x,G1)=>some (.error x,G1)
def stuck{α:Type}:M α:=λ_=>none
end M
instance:Monad M:={pure:=M.pure,bind:=M.bind}
theorem M.bind_eq(m:M α)(f:α->M β)(G:DH):(m >>= f) G=match m G with
 |none=>none
 |some (.ok a,G1)=>f a G1
 |some (.error x,G1)=>some (.error x,G1):=rfl
theorem M.bind_ok{f:α->M β}(h:m G=some (.ok a,G1)):(m >>= f) G=f a G1:=by rw[M.bind_eq,h]
theorem M.bind_assoc(m:M α)(f:α->M β)(g:β->M γ):((m >>= f) >>= g)= (m >>= λa=>f a >>= g):=by
 funext G;simp only[M.bind_eq];rcases m G with _|p
 ·rfl
 ·obtain⟨r,G1⟩:=p;cases r<;>rfl
abbrev XC:=Str->List Addr->DH->Hp->Prop
def ZF:XC:=λ_ _ _ _=>False
def d7{α:Type}(c:Wc)(Z:XC)(μ:List Addr)(H:Hp)(r:Option (Except Str α×DH))(K:α->List Addr->DH->Hp->Prop):Prop:=
 match r with
 |none=>False
 |some (.ok a,G')=>∀ X2 H',Ext μ H X2 H'->m9 c X2 G' H'->K a X2 G' H'
 |some (.error x,G')=>∀ X2 H',Ext μ H X2 H'->m9 c X2 G' H'->Z x X2 G' H'
section
theorem d7.mono{K K':α->List Addr->DH->Hp->Prop}(h:d7 c Z μ H r K)
 (k:∀a X2 G' H',Ext μ H X2 H'->m9 c X2 G' H'->K a X2 G' H'->K' a X2 G' H'):d7 c Z μ H r K':=by
 match r,h with
 |some (.ok a,G'),h=>exact λX2 H' p e=>k a X2 G' H' p e (h X2 H' p e)
 |some (.error x,G'),h=>exact h
theorem d7.from{K:α->List Addr->DH->Hp->Prop}(h:d7 c Z μ H r K)(p:Ext μ H X2 H'):d7 c Z X2 H' r K:=by
 match r,h with
 |some (.ok a,G'),h=>exact λWX H2 p2 e=>h WX H2 (p.trans p2) e
 |some (.error x,G'),h=>exact λWX H2 p2 e=>h WX H2 (p.trans p2) e
theorem d7.bind{m:M α}{K:β->List Addr->DH->Hp->Prop}(h:d7 c Z μ H ((m >>= f) G) K):
 d7 c Z μ H (m G) (λa X2 G' H'=>d7 c Z X2 H' (f a G') K):=by
 rw[M.bind_eq]at h
 match m G,h with
 |some (.ok a,G'),h=>exact λX2 H' p e=>d7.from h p
 |some (.error x,G'),h=>exact h
theorem d7.ok{K:α->List Addr->DH->Hp->Prop}(h:d7 c Z μ H (some (.ok a,G)) K)(e:m9 c μ G H):K a μ G H:=h μ H (Ext.refl _ _) e
end
inductive Fl where
 |nx (σ:DSt)|rt (d:D)|bk (σ:DSt)|ct (σ:DSt)
section
variable(c:Wc)(Z:XC)
def h9(f:DSt->M D):TE:=λσ H Q=>∃X9 μ G,w5 c μ H X9 σ/\m9 c μ G H/\d7 c Z μ H (f X9 G) λd X2 _ H'=>∀v,d8 c X2 H' d v->Q v H'
def MA(f:DSt->M Bool):TT:=λσ H Q=>∃X9 μ G,w5 c μ H X9 σ/\m9 c μ G H/\d7 c Z μ H (f X9 G) λb X2 _ H'=>Q b H'
def UC(f:DSt->M (List D)):TA:=λσ H Q=>∃X9 μ G,w5 c μ H X9 σ/\m9 c μ G H/\d7 c Z μ H (f X9 G) λds X2 _ H'=>∀vs,m5 c X2 H' ds vs->Q vs H'
def NA(E:cA)(fl:Fl)(μ:List Addr)(H:Hp):Prop:=match fl with
 | .nx X9=>∀ σ,w5 c μ H X9 σ->E.nx σ H
 | .rt d=>∀v,d8 c μ H d v->E.rt v H
 | .bk X9=>∀ σ,w5 c μ H X9 σ->E.bk σ H
 | .ct X9=>∀ σ,w5 c μ H X9 σ->E.ct σ H
def SA(f:DSt->M Fl):TS:=λE σ H=>∃X9 μ G,w5 c μ H X9 σ/\m9 c μ G H/\d7 c Z μ H (f X9 G) λfl X2 _ H'=>NA c E fl X2 H'
end
theorem h9.elim{P:Prop}{H:Hp}{Q:VK}(h:h9 c Z f σ H Q)(k:∀X9 μ G,w5 c μ H X9 σ->m9 c μ G H->d7 c Z μ H (f X9 G) (λd X2 _ H'=>∀v,d8 c X2 H' d v->Q v H')->P):P:=by obtain⟨e0,e1,e2,e3,e4,e5⟩:=h;exact k e0 e1 e2 e3 e4 e5
theorem MA.elim{P:Prop}{σ:St}{H:Hp}(h:MA c Z f σ H Q)(k:∀X9 μ G,w5 c μ H X9 σ->m9 c μ G H->d7 c Z μ H (f X9 G) (λb X2 _ H'=>Q b H')->P):P:=by obtain⟨e0,e1,e2,e3,e4,e5⟩:=h;exact k e0 e1 e2 e3 e4 e5
theorem UC.elim{P:Prop}{σ:St}{H:Hp}(h:UC c Z f σ H Q)(k:∀X9 μ G,w5 c μ H X9 σ->m9 c μ G H->d7 c Z μ H (f X9 G) (λds X2 _ H'=>∀vs,m5 c X2 H' ds vs->Q vs H')->P):P:=by obtain⟨e0,e1,e2,e3,e4,e5⟩:=h;exact k e0 e1 e2 e3 e4 e5
theorem SA.elim{P:Prop}{σ:St}{H:Hp}(h:SA c Z f E σ H)(k:∀X9 μ G,w5 c μ H X9 σ->m9 c μ G H->d7 c Z μ H (f X9 G) (λfl X2 _ H'=>NA c E fl X2 H')->P):P:=by obtain⟨e0,e1,e2,e3,e4,e5⟩:=h;exact k e0 e1 e2 e3 e4 e5
structure DE(X:Cx)(Z:XC)(e:Expr)(f:DSt->M D):Prop where
 h:PE X e (h9 (wc X) Z f)
structure DT(X:Cx)(Z:XC)(e:Expr)(f:DSt->M Bool):Prop where
 h:PT X e (MA (wc X) Z f)
structure DA(X:Cx)(Z:XC)(e:List Expr)(f:DSt->M (List D)):Prop where
 h:PA X e (UC (wc X) Z f)
structure DS(X:Cx)(Z:XC)(e:Stmt)(f:DSt->M Fl):Prop where
 h:PS X e (SA (wc X) Z f)
structure DB(X:Cx)(Z:XC)(e:List Stmt)(f:DSt->M Fl):Prop where
 h:PSs X e (SA (wc X) Z f)
theorem PE.mono(h:PE X e t)(k:∀ σ H Q,t' σ H Q->t σ H Q):PE X e t':=λNc s σ H Q I q=>h Nc s σ H Q I (k σ H Q q)
theorem PT.mono(h:PT X e t)(k:∀ σ H Q,t' σ H Q->t σ H Q):PT X e t':=λNc s σ H Q I q=>h Nc s σ H Q I (k σ H Q q)
theorem PW.mono(h:PW X e t)(k:∀ σ H Q,t' σ H Q->t σ H Q):PW X e t':=λwh Nc s σ H Q I q=>h wh Nc s σ H Q I (k σ H Q q)
theorem PA.mono(h:PA X e t)(k:∀ σ H Q,t' σ H Q->t σ H Q):PA X e t':=λpos Nc s σ H Q I q=>h pos Nc s σ H Q I (k σ H Q q)
theorem PS.mono(h:PS X e t)(k:∀E σ H,t' E σ H->t E σ H):PS X e t':=λNc s σ H E I q=>h Nc s σ H E I (k E σ H q)
theorem PSs.mono(h:PSs X e t)(k:∀E σ H,t' E σ H->t E σ H):PSs X e t':=λNc s σ H E I q=>h Nc s σ H E I (k E σ H q)
theorem DE.of(h:PE X e t)(k:∀ σ H Q,h9 (wc X) Z f σ H Q->t σ H Q):DE X Z e f:=⟨PE.mono h k⟩
theorem DT.of(h:PT X e t)(k:∀ σ H Q,MA (wc X) Z f σ H Q->t σ H Q):DT X Z e f:=⟨PT.mono h k⟩
theorem DA.of(h:PA X e t)(k:∀ σ H Q,UC (wc X) Z f σ H Q->t σ H Q):DA X Z e f:=⟨PA.mono h k⟩
theorem DS.of(h:PS X e t)(k:∀E σ H,SA (wc X) Z f E σ H->t E σ H):DS X Z e f:=⟨PS.mono h k⟩
theorem DB.of(h:PSs X e t)(k:∀E σ H,SA (wc X) Z f E σ H->t E σ H):DB X Z e f:=⟨PSs.mono h k⟩
end DL
namespace DL
open PySem PySem.Spec L2
open PyProof.Rows hiding St
def L9:Expr->Bool
 | .Starred ..=>false
 |_=>true
theorem y8(h:L9 e=true):zW (e::es) env= (false,eval e env)::zW es env:=by
 cases e<;>first
  |rfl
  |exact FE h
theorem lH(h:L9 e=true):zW [e] env= [(false,eval e env)]:=y8 h
abbrev Fe:=DSt->M D
def U2(i:Nat):Fe:=λσ G=>match σ[i]? with
 |some (some d)=>some (.ok d,G)
 |_=>none
def cE(d:D):Fe:=λ_=>pure d
def j5(o:D->D->M D)(a b:Fe):Fe:=λσ=>do o (<-a σ) (<-b σ)
def unE(o:D->M D)(a:Fe):Fe:=λσ=>do o (<-a σ)
def B0:DSt->M (List D):=λ_=>pure []
def o0(a:Fe)(r:DSt->M (List D)):DSt->M (List D):=λσ=>do
 let x <-a σ
 let xs <-r σ
 pure (x::xs)
def C2(F:List D->M D)(a:DSt->M (List D)):Fe:=λσ=>do F (<-a σ)
def eP:D->M Bool
 | .bl b=>pure b
 |_=>M.stuck
def ifE(t:DSt->M Bool)(a b:Fe):Fe:=λσ=>do if <-t σ then a σ else b σ
section
variable(c:Wc)(Z:XC)
def qB(o:D->D->M D):R2:=λx y H Q=>∃dx dy μ G,d8 c μ H dx x/\d8 c μ H dy y/\m9 c μ G H/\d7 c Z μ H (o dx dy G) λd X2 _ H'=>∀v,d8 c X2 H' d v->Q v H'
def cH(o:D->M D):V->Hp->VK->Prop:=λx H Q=>∃dx μ G,d8 c μ H dx x/\m9 c μ G H/\d7 c Z μ H (o dx G) λd X2 _ H'=>∀v,d8 c X2 H' d v->Q v H'
def OC(F:List D->M D):List V->Hp->VK->Prop:=λxs H Q=>∃ds μ G,m5 c μ H ds xs/\m9 c μ G H/\d7 c Z μ H (F ds G) λd X2 _ H'=>∀v,d8 c X2 H' d v->Q v H'
end
theorem qB.elim{P:Prop}{x:V}{y:V}{Q:VK}(h:qB c Z o x y H Q)(k:∀dx dy μ G,d8 c μ H dx x->d8 c μ H dy y->m9 c μ G H->d7 c Z μ H (o dx dy G) (λd X2 _ H'=>∀v,d8 c X2 H' d v->Q v H')->P):P:=by obtain⟨e0,e1,e2,e3,e4,e5,e6,e7⟩:=h;exact k e0 e1 e2 e3 e4 e5 e6 e7
theorem cH.elim{P:Prop}{x:V}{Q:VK}(h:cH c Z o x H Q)(k:∀dx μ G,d8 c μ H dx x->m9 c μ G H->d7 c Z μ H (o dx G) (λd X2 _ H'=>∀v,d8 c X2 H' d v->Q v H')->P):P:=by obtain⟨e0,e1,e2,e3,e4,e5⟩:=h;exact k e0 e1 e2 e3 e4 e5
theorem OC.elim{P:Prop}{H:Hp}{Q:VK}(h:OC c Z F xs H Q)(k:∀ds μ G,m5 c μ H ds xs->m9 c μ G H->d7 c Z μ H (F ds G) (λd X2 _ H'=>∀v,d8 c X2 H' d v->Q v H')->P):P:=by obtain⟨e0,e1,e2,e3,e4,e5⟩:=h;exact k e0 e1 e2 e3 e4 e5
structure OpD(X:Cx)(Z:XC)(f:zi->zi->Sem zi)(o:D->D->M D):Prop where
 h:OpR X f (qB (wc X) Z o)
structure UnD(X:Cx)(Z:XC)(f:zi->Sem zi)(o:D->M D):Prop where
 h:UnR X f (cH (wc X) Z o)
structure O3(X:Cx)(Z:XC)(f:zi)(F:List D->M D):Prop where
 h:R4 X f (OC (wc X) Z F)
theorem OpR.mono(h:OpR X f r)(k:∀x y H Q,r' x y H Q->r x y H Q):OpR X f r':=λNc s σ H x y v u Q I rx ry q=>h Nc s σ H x y v u Q I rx ry (k x y H Q q)
theorem R4.mono(h:R4 X f r)(k:∀xs H Q,r' xs H Q->r xs H Q):R4 X f r':=λNc s σ H xs us Q I rx q=>h Nc s σ H xs us Q I rx (k xs H Q q)
theorem OpD.of(h:OpR X f r)(k:∀x y H Q,qB (wc X) Z o x y H Q->r x y H Q):OpD X Z f o:=⟨OpR.mono h k⟩
theorem O3.of(h:R4 X f r)(k:∀xs H Q,OC (wc X) Z F xs H Q->r xs H Q):O3 X Z f F:=⟨R4.mono h k⟩
section
variable{X:Cx}{Z:XC}{a b c e:Expr}{pos:Pos}
theorem QD(σ:St)(H:Hp)(Q:VK)(h:h9 cc Z (j5 o fa fb) σ H Q):tOp (qB cc Z o) (h9 cc Z fa) (h9 cc Z fb) σ H Q:=by obtain⟨X9,μ,G,s,h,p⟩:=h;exact⟨X9,μ,G,s,h,(d7.bind p).mono λx X0 G1 H1 x' h1 p1 v rv=>⟨X9,X0,G1,s.mono x',h1,(d7.bind p1).mono λy WX G2 H2 x2 h2 p2 u ru=>⟨x,y,WX,G2,rv.mono x2,ru,h2,p2⟩⟩⟩
theorem BV(h:PE X e (EJ i)):DE X Z e (U2 i):=DE.of h λσ H Q Ng=>Ng.elim λX9 μ G s h p=>by
 delta U2 at p;rcases he:X9[i]? with _|_|d
 ·rw[he]at p;exact p.elim
 ·rw[he]at p;exact p.elim
 ·rw[he]at p;obtain⟨v,e1,r⟩:=s.2 i d he;exact⟨v,e1,d7.ok p h v r⟩
theorem mC(h:PE X e (tC v))(r:∀ μ H,d8 (wc X) μ H d v):DE X Z e (cE d):=DE.of h λσ H Q Ng=>Ng.elim λX9 μ G s h p=>d7.ok p h v (r _ _)
theorem bW{i j pos}:DE X Z (.Constant (.int i) j pos) (cE (.int i)):=mC aN λ_ _=>by unfold d8;rfl
theorem GT{i j pos}:DE X Z (.Constant (.bool i) j pos) (cE (.bl i)):=mC oR λ_ _=>by unfold d8;rfl
theorem VS{j pos}:DE X Z (.Constant .none j pos) (cE .non):=mC Gh λ_ _=>by unfold d8;rfl
theorem Hx{i j pos}:DE X Z (.Constant (.str i) j pos) (cE (.str i)):=mC Dw λ_ _=>by unfold d8;rfl
theorem NT(i:Nat)(hN:X.N[i]? =some x)(hv:Vis X.env.scope x)(hd:(x==("__debug__" :Str))=false)
 (hcd:(x==("__classdict__" :Str))=false):DE X Z (.Name x pos) (U2 i):=BV (BP hN hv hd hcd)
theorem Bd(ho:OpD X Z (jX op) o)(ha:DE X Z a fa)(hb:DE X Z b fb):DE X Z (.BinOp a op b pos) (j5 o fa fb):=
 DE.of (uH ho.h ha.h hb.h) QD
theorem mX(ho:OpD X Z (jc op) o)(ha:DE X Z a fa)(hb:DE X Z b fb)(hm:YS op b=false):DE X Z (.Compare a [op] [b] pos) (j5 o fa fb):=
 DE.of (mW ho.h ha.h hb.h hm) QD
theorem wj(ho:UnD X Z (unaryOp op) o)(ha:DE X Z a fa):DE X Z (.UnaryOp op a pos) (unE o fa):=
 DE.of (AS ho.h ha.h) λσ H Q Ng=>Ng.elim λX9 μ G s h p=>⟨X9,μ,G,s,h,(d7.bind p).mono λx X0 G1 H1 x' h1 p1 v rv=>⟨x,X0,G1,rv,h1,p1⟩⟩
theorem ER{op}(h:DE X Z a f):DE X Z (.BoolOp op [a] pos) f:=⟨hZ h.h⟩
def HB(f:Fe):DSt->M Bool:=λσ=>do eP (<-f σ)
def B6(a b:DSt->M Bool):DSt->M Bool:=λσ=>do if <-a σ then b σ else pure false
def orT(a b:DSt->M Bool):DSt->M Bool:=λσ=>do if <-a σ then pure true else b σ
structure DW(X:Cx)(Z:XC)(e:Expr)(f:DSt->M Bool):Prop where
 h:PW X e (MA (wc X) Z f)
theorem DW.of(h:PW X e t)(k:∀ σ H Q,MA (wc X) Z f σ H Q->t σ H Q):DW X Z e f:=⟨PW.mono h k⟩
variable{ta tb:DSt->M Bool}{rest:List Expr}
theorem DW.dt(h:DW X Z a ta):DT X Z a ta:=⟨λNc s σ H Q I q=>h.h _ Nc s σ H Q I q⟩
theorem qP(ho:OpD X Z (jc op) o)(ha:DE X Z a fa)(hb:DE X Z b fb)(hm:YS op b=false):DT X Z (.Compare a [op] [b] pos) (HB (j5 o fa fb)):=
 DT.of (ES ho.h ha.h hb.h hm) λσ H Q Ng=>Ng.elim λX9 μ G s h p=>QD σ H _ ⟨X9,μ,G,s,h,(d7.bind p).mono λx X0 G1 H1 x' h1 p1 v rv=>by
  cases x with
  |bl k'=>unfold d8 at rv;exact⟨k',rv,d7.ok p1 h1⟩
  |_=>exact p1.elim⟩
theorem pP(ha:DT X Z a ta):DW X Z (.BoolOp .And [a] pos) ta:=⟨rY ha.h⟩
theorem kZ(ha:DT X Z a ta):DW X Z (.BoolOp .Or [a] pos) ta:=⟨Dz ha.h⟩
theorem lT(ha:DT X Z a ta)(hb:DW X Z (.BoolOp .And (b::rest) pos) tb):DW X Z (.BoolOp .And (a::b::rest) pos) (B6 ta tb):=
 DW.of (mZ ha.h hb.h) λσ H Q Ng=>Ng.elim λX9 μ G s h p=>⟨X9,μ,G,s,h,(d7.bind p).mono λx X0 G1 H1 x' h1 p1=>by
  cases x with
  |true=>exact⟨X9,X0,G1,s.mono x',h1,p1⟩
  |false=>exact d7.ok p1 h1⟩
theorem wZ(ha:DT X Z a ta)(hb:DW X Z (.BoolOp .Or (b::rest) pos) tb):DW X Z (.BoolOp .Or (a::b::rest) pos) (orT ta tb):=
 DW.of (LX ha.h hb.h) λσ H Q Ng=>Ng.elim λX9 μ G s h p=>⟨X9,μ,G,s,h,(d7.bind p).mono λx X0 G1 H1 x' h1 p1=>by
  cases x with
  |false=>exact⟨X9,X0,G1,s.mono x',h1,p1⟩
  |true=>exact d7.ok p1 h1⟩
theorem NR(hc:DT X Z c ta)(ha:DE X Z a fa)(hb:DE X Z b fb):DE X Z (.IfExp c a b pos) (ifE ta fa fb):=
 DE.of (Bp hc.h ha.h hb.h) λσ H Q Ng=>Ng.elim λX9 μ G s h p=>⟨X9,μ,G,s,h,(d7.bind p).mono λx X0 G1 H1 x' h1 p1=>by
  cases x with
  |true=>exact⟨X9,X0,G1,s.mono x',h1,p1⟩
  |false=>exact⟨X9,X0,G1,s.mono x',h1,p1⟩⟩
theorem EV:DA X Z [] B0:=DA.of qw λσ H Q Ng=>Ng.elim λX9 μ G s h p=>d7.ok p h [] rfl
theorem wb(ha:DE X Z e fa)(hr:DA X Z es fs)(hs:zW (e::es) X.env= (false,eval e X.env)::zW es X.env):DA X Z (e::es) (o0 fa fs):=
 DA.of (RY ha.h hr.h hs) λσ H Q Ng=>Ng.elim λX9 μ G s h p=>⟨X9,μ,G,s,h,(d7.bind p).mono λx X0 G1 H1 x' h1 p1 v rv=>
  ⟨X9,X0,G1,s.mono x',h1,(d7.bind p1).mono λxs WX G2 H2 x2 h2 p2 vs rvs=>d7.ok p2 h2 (v::vs) ⟨v,vs,rfl,rv.mono x2,rvs⟩⟩⟩
def y2(fs:DSt->M (List D)):Fe:=λσ=>do
 let xs <-fs σ
 if xs.length<=zk then pure (.tup xs)else M.stuck
def K8(o:DO):M D:=λG=>some (.ok (.ref G.length),G++[o])
def M5(fs:DSt->M (List D)):Fe:=λσ=>do
 let xs <-fs σ
 if xs.length<=zk then K8 (.lst xs)else M.stuck
theorem iE{G:DH}{Q:VK}(h:m9 cc μ G H)(r:m5 cc μ H xs vs)
 (p:d7 cc Z μ H (some (Except.ok (.tup xs),G)) λd X2 _ H'=>∀v,d8 cc X2 H' d v->Q v H') (q:Addr) (hq:H q=none):Q (.ref q) (upd H q (.tup vs)):=by
 have k:Ext μ H μ (upd H q (.tup vs)):=Ext.lay hq _;refine p μ _ k (h.same k λa o e n=>?_) _ ?_
 ·rw[v9 (J7 e hq)];exact e
 ·unfold d8;exact⟨q,vs,rfl,SqT.of N6,r.mono k⟩
theorem Q8{G:DH}{Q:VK}(h:m9 cc μ G H)(r:m5 cc μ H xs vs)
 (p:d7 cc Z μ H (K8 (.lst xs) G) λd X2 _ H'=>∀v,d8 cc X2 H' d v->Q v H') (q:Addr) (hq:H q=none):Q (.ref q) (upd H q (.lst vs)):=by
 have k:Ext μ H (μ++[q]) (upd H q (.lst vs)):=Ext.add hq _;refine p (μ++[q]) _ k (h.new hq ⟨vs,N6,r.mono k⟩) _ ?_;unfold d8;exact⟨q,by rw[<-h.len];simp,rfl⟩
theorem wP{x1}(h:DA X Z es fs):DE X Z (.Tuple es x1 pos) (y2 fs):=
 DE.of (UQ h.h) λσ H Q Ng=>Ng.elim λX9 μ G s h p=>⟨X9,μ,G,s,h,(d7.bind p).mono λxs X0 G1 H1 x' h1 p1 vs rv=>by
  split at p1
  ·rename_i hz;exact⟨by rw[<-rv.length];exact hz,λq hq=>iE h1 rv p1 q hq⟩
  ·exact p1.elim⟩
theorem pS(h:DA X Z es fs):DE X Z (.List es pos) (M5 fs):=
 DE.of (pR h.h) λσ H Q Ng=>Ng.elim λX9 μ G s h p=>⟨X9,μ,G,s,h,(d7.bind p).mono λxs X0 G1 H1 x' h1 p1 vs rv=>by
  split at p1
  ·rename_i hz;exact⟨by rw[<-rv.length];exact hz,λq hq=>Q8 h1 rv p1 q hq⟩
  ·exact p1.elim⟩
theorem AI(σ:St)(H:Hp)(Q:VK)(h:h9 cc Z (C2 F fs) σ H Q):tCB (OC cc Z F) (UC cc Z fs) σ H Q:=by obtain⟨X9,μ,G,s,h,p⟩:=h;exact⟨X9,μ,G,s,h,(d7.bind p).mono λx X0 G1 H1 x' h1 p1 vs rv=>⟨x,X0,G1,rv,h1,p1⟩⟩
theorem HQ{id:String}(hc:O3 X Z (.builtin id) F)(hg:Gl X x)(hm:X.mg x=none)(hv:jj x=some (.builtin id))(ha:DA X Z (e::es) fs)(hn:x≠ "__name__")(hdb:(x==("__debug__" :Str))=false)
 (he:zW (e::es) X.env= (false,eval e X.env)::zW es X.env) (Pz:(yZ pos (zW es X.env)).any (·.1)=false):DE X Z (.Call (.Name x p) (e::es) [] pos) (C2 F fs):=
 DE.of (Gk hc.h hg hm hv ha.h hn hdb he Pz) AI
theorem Lk(hc:O3 X Z (.type T) F)(hg:Gl X x)(hm:X.mg x=none)(hv:jj x=some (.type T))(ha:DA X Z (e::es) fs)(hn:x≠ "__name__")(hdb:(x==("__debug__" :Str))=false)
 (he:zW (e::es) X.env= (false,eval e X.env)::zW es X.env) (Pz:(yZ pos (zW es X.env)).any (·.1)=false):DE X Z (.Call (.Name x p) (e::es) [] pos) (C2 F fs):=
 DE.of (CP hc.h hg hm hv ha.h hn hdb he Pz) AI
def spD(c:Wc)(n:Nat)(F:List D->M D):Sp:=λvs H Q _=>vs.length=n/\∃ds μ G,m5 c μ H ds vs/\m9 c μ G H/\d7 c ZF μ H (F ds G) λd X2 _ H'=>∀v,d8 c X2 H' d v->Q v H'
def noX{α:Type}(m:M α):M α:=λG=>match m G with
 |some (.ok a,G1)=>some (.ok a,G1)
 |_=>none
theorem rL{H:Hp}{G:DH}{K:α->List Addr->DH->Hp->Prop}(p:d7 cc Z μ H (noX m G) K):d7 cc ZF μ H (m G) K:=by
 unfold noX at p
 match m G,p with
 |some (.ok a,G1),p=>exact p
 |some (.error x,G1),p=>exact p.elim
 |none,p=>exact p.elim
def fnX(n:Nat)(F:List D->M D):List D->M D:=λds=>if ds.length=n then noX (F ds)else M.stuck
theorem RO{H:Hp}{n:Nat}{G:DH}{K:D->List Addr->DH->Hp->Prop}(p:d7 cc Z μ H (fnX n F ds G) K):ds.length=n/\d7 cc ZF μ H (F ds G) K:=by
 unfold fnX at p;split at p
 ·rename_i h;exact⟨h,rL p⟩
 ·exact p.elim
theorem Kh(hF:U1 X.prog X.w X.K X.mg X.base CX0 k f fd ps (spD (wc X) n F))(hr:Q7 k X.A)(hg:Gl X x)(hm:X.mg x=some (.ref f))(hk:ya X.K (.ref f)=true)(hb:T8 X.K fd ps [])
 (ha:DA X Z (e::es) fs)
 (hdb:(x==("__debug__" :Str))=false) (he:zW (e::es) X.env= (false,eval e X.env)::zW es X.env) (Pz:(yZ pos (zW es X.env)).any (·.1)=false):
 DE X Z (.Call (.Name x p) (e::es) [] pos) (C2 (fnX n F) fs):=
 DE.of (wW hF hr hg hm hk hb .nil CO ha.h hdb he Pz) λσ H Q Ng=>Ng.elim λX9 μ G s h p=>by refine⟨X9,μ,G,s,h,(d7.bind p).mono λds' X0 G1 H1 x' h1 p1 vs rv=>?_⟩;obtain⟨hl,p2⟩:=RO p1;show spD (wc X) n F (vs++[]) H1 Q E0;rw[jP];exact⟨by rw[<-rv.length];exact hl,ds',X0,G1,rv,h1,p2⟩
end
abbrev Fs:=DSt->M Fl
def J9:Fs:=λσ=>pure (.nx σ)
def j9(a b:Fs):Fs:=λσ=>do
 match <-a σ with
 | .nx X1=>b X1
 |r=>pure r
def G9(f:Fe):Fs:=λσ=>do pure (.rt (<-f σ))
def O5(f:Fe):Fs:=λσ=>do
 let _ <-f σ
 pure (.nx σ)
def ifS(t:DSt->M Bool)(a b:Fs):Fs:=λσ=>do if <-t σ then a σ else b σ
abbrev Fg:=D->DSt->M DSt
abbrev Fgs:=List D->DSt->M DSt
def D4(i:Nat):Fg:=λd σ=>pure (σ.set i (some d))
def m4:Fgs:=λds σ=>match ds with
 |[]=>pure σ
 |_=>M.stuck
def J4(g:Fg)(r:Fgs):Fgs:=λds σ=>match ds with
 |d::t=>do r t (<-g d σ)
 |[]=>M.stuck
def t4(n:Nat)(g:Fgs):Fg:=λd σ=>match d with
 | .tup l=>if l.length=n then g l σ else M.stuck
 |_=>M.stuck
def J6(f:Fe)(g:Fg):Fs:=λσ=>do
 let d <-f σ
 let X1 <-g d σ
 pure (.nx X1)
section
variable(c:Wc)(Z:XC)
def pB(g:Fg):TG:=λv σ H Q=>∃d X9 μ G,d8 c μ H d v/\w5 c μ H X9 σ/\m9 c μ G H/\d7 c Z μ H (g d X9 G) λWY X2 _ H'=>∀ X1,w5 c X2 H' WY X1->Q X1 H'
def wF(g:Fgs):TGs:=λvs σ H Q=>∃ds X9 μ G,m5 c μ H ds vs/\w5 c μ H X9 σ/\m9 c μ G H/\d7 c Z μ H (g ds X9 G) λWY X2 _ H'=>∀ X1,w5 c X2 H' WY X1->Q X1 H'
end
theorem pB.elim{P:Prop}{v:V}{σ:St}{H:Hp}(h:pB c Z g v σ H Q)(k:∀d X9 μ G,d8 c μ H d v->w5 c μ H X9 σ->m9 c μ G H->d7 c Z μ H (g d X9 G) (λWY X2 _ H'=>∀ X1,w5 c X2 H' WY X1->Q X1 H')->P):P:=by obtain⟨e0,e1,e2,e3,e4,e5,e6,e7⟩:=h;exact k e0 e1 e2 e3 e4 e5 e6 e7
theorem wF.elim{Z:XC}{P:Prop}{σ:St}{H:Hp}(h:wF c Z g vs σ H Q)(k:∀ds X9 μ G,m5 c μ H ds vs->w5 c μ H X9 σ->m9 c μ G H->d7 c Z μ H (g ds X9 G) (λWY X2 _ H'=>∀ X1,w5 c X2 H' WY X1->Q X1 H')->P):P:=by obtain⟨e0,e1,e2,e3,e4,e5,e6,e7⟩:=h;exact k e0 e1 e2 e3 e4 e5 e6 e7
structure DG(X:Cx)(Z:XC)(tg:Expr)(g:Fg):Prop where
 h:PG X tg (pB (wc X) Z g)
structure DGs(X:Cx)(Z:XC)(tgs:List Expr)(g:Fgs):Prop where
 h:PGs X tgs (wF (wc X) Z g)
theorem PG.mono(h:PG X e t)(k:∀v σ H Q,t' v σ H Q->t v σ H Q):PG X e t':=λNc s σ H v u Q I r q=>h Nc s σ H v u Q I r (k v σ H Q q)
theorem PGs.mono(h:PGs X e t)(k:∀v σ H Q,t' v σ H Q->t v σ H Q):PGs X e t':=λNc s σ H v u Q I r q=>h Nc s σ H v u Q I r (k v σ H Q q)
theorem DG.of(h:PG X e t)(k:∀v σ H Q,pB (wc X) Z g v σ H Q->t v σ H Q):DG X Z e g:=⟨PG.mono h k⟩
theorem DGs.of(h:PGs X e t)(k:∀v σ H Q,wF (wc X) Z g v σ H Q->t v σ H Q):DGs X Z e g:=⟨PGs.mono h k⟩
section
variable{X:Cx}{Z:XC}{st:Stmt}{rest sa sb:List Stmt}{f g:Fs}
theorem Kx:DB X Z [] J9:=DB.of eY λE σ H Ng=>Ng.elim λX9 μ G s h p=>d7.ok p h σ s
theorem Kq(h:m9 cc μ G H)
 (p:d7 cc Z μ H ((match fl with| .nx X1=>g X1|r=>pure r:M Fl) G) λfl X2 _ H'=>NA cc E fl X2 H'):NA cc {E with nx:=SA cc Z g E} fl μ H:=by
 cases fl with
 |nx X9=>exact λσ s=>⟨X9,μ,G,s,h,p⟩
 |rt d=>exact d7.ok p h
 |bk X9=>exact d7.ok p h
 |ct X9=>exact d7.ok p h
theorem vN(h1:DS X Z st f)(h2:DB X Z rest g):DB X Z (st::rest) (j9 f g):=
 DB.of (Fw h1.h h2.h) λE σ H Ng=>Ng.elim λX9 μ G s h p=>⟨X9,μ,G,s,h,(d7.bind p).mono λfl X0 G1 H1 x' h1 p1=>Kq h1 p1⟩
theorem SJ(h1:DS X Z st f):DB X Z [st] f:=⟨Mm h1.h⟩
theorem hW(he:DE X Z e fa)(hs:JL e none pos.line X.env=pure false):DS X Z (.Expr e pos) (O5 fa):=
 DS.of (dR he.h hs) λE σ H Ng=>Ng.elim λX9 μ G s h p=>⟨X9,μ,G,s,h,(d7.bind p).mono λd X0 G1 H1 x' h1 p1 v rv=>d7.ok p1 h1 σ (s.mono x')⟩
theorem vw(he:DE X Z e fa):DS X Z (.Return (some e) pos) (G9 fa):=
 DS.of (kh he.h) λE σ H Ng=>Ng.elim λX9 μ G s h p=>⟨X9,μ,G,s,h,(d7.bind p).mono λd X0 G1 H1 x' h1 p1 v rv=>d7.ok p1 h1 v rv⟩
theorem AZ(hc:DT X Z c t)(ha:DB X Z sa f)(hb:DB X Z sb g):DS X Z (.If c sa sb pos) (ifS t f g):=
 DS.of (Gm hc.h ha.h hb.h) λE σ H Ng=>Ng.elim λX9 μ G s h p=>⟨X9,μ,G,s,h,(d7.bind p).mono λx X0 G1 H1 x' h1 p1=>by
  cases x with
  |true=>exact⟨X9,X0,G1,s.mono x',h1,p1⟩
  |false=>exact⟨X9,X0,G1,s.mono x',h1,p1⟩⟩
theorem lL{x:Str}(hN:X.N.Nodup)(hi:X.N[i]? =some x)(hx:Loc X.env.scope x)(hf:X.fn x=true\/X.env.scope.names.lookup x=some .local):DG X Z (.Name x pos) (D4 i):=
 DG.of (lR hN hi hx hf) λv σ H Q Ng=>Ng.elim λd X9 μ G r s h p=>d7.ok p h _ (s.put r i)
theorem CQ:DGs X Z [] m4:=DGs.of MT λvs σ H Q Ng=>Ng.elim λds X9 μ G r s h p=>by
 cases ds with
 |nil=>cases r;exact⟨rfl,d7.ok p h _ s⟩
 |cons _ _=>exact p.elim
theorem cW(h1:DG X Z e gg)(h2:DGs X Z es gr)(hs:(xa (e::es) X.env).map (·.2)=Ya e X.env::(xa es X.env).map (·.2)):DGs X Z (e::es) (J4 gg gr):=
 DGs.of (Bq h1.h h2.h hs) λvs σ H Q Ng=>Ng.elim λds X9 μ G r s h p=>by
  cases ds with
  |nil=>exact p.elim
  |cons d t=>
    obtain⟨v,vr,rfl,rv,rt⟩:=r;exact⟨v,vr,rfl,d,X9,μ,G,rv,s,h,(d7.bind p).mono λdσ1 X0 G1 H1 x' h1 p1 WW s1=>⟨t,dσ1,X0,G1,rt.mono x',s1,h1,p1⟩⟩
theorem LZ{gs:Fgs}(hc:X.calm=true)(h:DGs X Z es gs)(hn:(xa es X.env).length=n)(hst:(xa es X.env).findIdx? (·.1)=none):DG X Z (.Tuple es k pos) (t4 n gs):=
 DG.of (Cj hc h.h hn hst) λv σ H Q Ng=>Ng.elim λd X9 μ G r s h p=>by
  cases d with
  |tup l=>
    unfold d8 at r;obtain⟨a,vs,rfl,q,rl⟩:=r;have p':d7 (wc X) Z μ H ((if l.length=n then gs l X9 else M.stuck:M DSt) G) λWY X2 _ H'=>∀ X1,w5 (wc X) X2 H' WY X1->Q X1 H':=p;split at p'
    ·rename_i hl;exact⟨a,vs,rfl,q,by rw[<-rl.length];exact hl,l,X9,μ,G,rl,s,h,p'⟩
    ·exact p'.elim
  |_=>exact p.elim
theorem vq(he:DE X Z e fa)(hg:DG X Z tg gg)(hs:swapsWithSole [tg] e pos.line X.env=pure false)(hw:swappedStores [tg] e X.env=pure none)
 (h1:(xa [tg] X.env).map (·.2)= [Ya tg X.env]):DS X Z (.Assign [tg] e pos) (J6 fa gg):=
 DS.of (Fj he.h hg.h hs hw h1) λE σ H Ng=>Ng.elim λX9 μ G s h p=>⟨X9,μ,G,s,h,(d7.bind p).mono λd X0 G1 H1 x' h1 p1 v rv=>
  ⟨d,X9,X0,G1,rv,s.mono x',h1,(d7.bind p1).mono λdσ2 WX G2 H2 x2 h2 p2 σ2 s2=>d7.ok p2 h2 σ2 s2⟩⟩
end
def O8:Nat->(DSt->M Bool)->Fs->Fs
 |0,_,_=>λ_=>M.stuck
 |n+1,t,b=>λσ=>do
   if <-t σ then
    match <-b σ with
    | .nx X1=>O8 n t b X1
    | .ct X1=>O8 n t b X1
    | .bk X1=>pure (.nx X1)
    | .rt d=>pure (.rt d)
   else pure (.nx σ)
open Classical in
def KA(t:DSt->M Bool)(b:Fs):Fs:=λσ G=>if h:∃n,(O8 n t b σ G).isSome=true then O8 (Yq h) t b σ G else none
theorem M.bind_mono{f g:α->M β}{r:Except Str β×DH}(h:(m >>= f) G=some r)(k:∀a G',f a G'=some r->g a G'=some r):(m >>= g) G=some r:=by
 rw[M.bind_eq]at h ⊢
 match m G,h with
 |some (.ok a,G'),h=>exact k a G' h
 |some (.error x,G'),h=>exact h
theorem AG{t:DSt->M Bool}:∀ {n} {σ} {G:DH} {r:Except Str Fl×DH},O8 n t b σ G=some r->O8 (n+1) t b σ G=some r
 |0,_,_,_,h=>by exact t6 h
 |n+1,σ,G,r,h=>by
   unfold O8 at h ⊢;refine M.bind_mono h λc G1 h1=>?_
   cases c with
   |true=>
     refine M.bind_mono h1 λfl G2 h2=>?_
     cases fl with
     |nx X1=>exact AG h2
     |ct X1=>exact AG h2
     |bk X1=>exact h2
     |rt d=>exact h2
   |false=>exact h1
theorem VL(hm:n<=m)(h:O8 n t b σ G=some r):O8 m t b σ G=some r:=by
 induction hm with
 |refl=>exact h
 |step _ ih=>exact AG ih
section
theorem vc(hp:JT (zF X.prog X.w) X.A X.env X.xe)(hc:DT X Z c t)(hb:DB X Z body f):DS X Z (.While c body [] pos) (KA t f):=
 DS.of (Nb hp hc.h hb.h) λE σ H Ng=>Ng.elim λX9 μ G s h p=>by
  unfold KA at p;split at p
  · rename_i ex;refine⟨λm σ H=>∃X9 μ G,w5 (wc X) μ H X9 σ/\m9 (wc X) μ G H/\d7 (wc X) Z μ H (O8 m t f X9 G) λfl X2 _ H'=>NA (wc X) E fl X2 H',⟨_,X9,μ,G,s,h,p⟩,?_⟩;rintro m σ H ⟨X9,μ,G,s,h,p⟩
    cases m with
    |zero=>exact p.elim
    |succ m=>
      refine⟨X9,μ,G,s,h,(d7.bind p).mono λx X0 G1 H1 x' h1 p1=>?_⟩
      cases x with
      |false=>exact d7.ok p1 h1 σ (s.mono x')
      |true=>
        refine⟨λX1 H'=>∃X9 μ G,w5 (wc X) μ H' X9 X1/\m9 (wc X) μ G H'/\d7 (wc X) Z μ H' (O8 m t f X9 G) λfl X2 _ H'=>NA (wc X) E fl X2 H',λX1 H' w=>⟨m,xK _,w⟩,X9,X0,G1,s.mono x',h1,(d7.bind p1).mono λfl WX G2 H2 x2 h2 p2=>?_⟩
        cases fl with
        |nx WY=>exact λX1 s'=>⟨WY,WX,G2,s',h2,p2⟩
        |ct WY=>exact λX1 s'=>⟨WY,WX,G2,s',h2,p2⟩
        |bk WY=>exact λX1 s'=>d7.ok p2 h2 X1 s'
        |rt d=>exact λv r=>d7.ok p2 h2 v r
  ·exact p.elim
end
def B1(g:Fg)(b:Fs)(ck:DH->Bool):List D->Fs
 |[]=>λσ G=>if ck G then some (.ok (.nx σ),G)else none
 | d :: r => λσ G => if ck G then (do
    match <-b (<-g d σ) with
    | .nx X1=>B1 g b ck r X1
    | .ct X1=>B1 g b ck r X1
    | .bk X1=>pure (.nx X1)
    | .rt d=>pure (.rt d):M Fl) G else none
structure Src where
 items:List D
 ck:DH->Bool
def L3(it:DSt->M Src)(g:Fg)(b:Fs):Fs:=λσ=>do
 let s <-it σ
 B1 g b s.ck s.items σ
def ItD(c:Wc)(μ:List Addr)(H:Hp)(J:It)(s:Src):Prop:=∀ X2 G' H',Ext μ H X2 H'->m9 c X2 G' H'->s.ck G'=true->∀i:Nat,
 (∀d,s.items[i]? =some d->J.go i H'/\∀x H2,J.yld i H' x H2->Ext X2 H' X2 H2/\m9 c X2 G' H2/\d8 c X2 H2 d x)/\(s.items.length<=i->J.stop i H')
def QE(c:Wc)(Z:XC)(it:DSt->M Src):TI:=λσ H R=>∃X9 μ G,w5 c μ H X9 σ/\m9 c μ G H/\d7 c Z μ H (it X9 G) λs X2 _ H'=>∀J,ItD c X2 H' J s->R J H'
theorem QE.elim{P:Prop}{σ:St}{H:Hp}(h:QE c Z it σ H R)(k:∀X9 μ G,w5 c μ H X9 σ->m9 c μ G H->d7 c Z μ H (it X9 G) (λs X2 _ H'=>∀J,ItD c X2 H' J s->R J H')->P):P:=by obtain⟨e0,e1,e2,e3,e4,e5⟩:=h;exact k e0 e1 e2 e3 e4 e5
structure DI(X:Cx)(Z:XC)(tg e:Expr)(it:DSt->M Src):Prop where
 h:PI X tg e (QE (wc X) Z it)
theorem PI.mono(h:PI X tg e t)(k:∀ σ H R,t' σ H R->t σ H R):PI X tg e t':=λNc s σ H R I q=>h Nc s σ H R I (k σ H R q)
theorem DI.of(h:PI X tg e t)(k:∀ σ H R,QE (wc X) Z it σ H R->t σ H R):DI X Z tg e it:=⟨PI.mono h k⟩
section
def nV(c:Wc)(E:cA)(fl:Fl)(μ:List Addr)(_:DH)(H:Hp):Prop:=NA c E fl μ H
inductive uJ(c:Wc)(Z:XC)(gg:Fg)(f:Fs)(sr:Src)(E:cA)(X0:List Addr)(H1:Hp)(i:Nat)(σ:St)(H:Hp):Prop
 |mk (X9:DSt) (μ:List Addr) (G:DH) (k:Ext X0 H1 μ H) (s:w5 c μ H X9 σ) (h:m9 c μ G H) (p:d7 c Z μ H (B1 gg f sr.ck (sr.items.drop i) X9 G) (nV c E))
theorem OT(hp:JT (zF X.prog X.w) X.A X.env X.xe)(hc:X.calm=true)(hi:DI X Z tg iter it)(hg:DG X Z tg gg)(hb:DB X Z body f)(hs:∀x,yE iter X.env x=pure x):
 DS X Z (.For tg iter body [] pos) (L3 it gg f):=
 DS.of (pX hp hc hi.h hg.h hb.h hs) λE σ H Ng=>Ng.elim λX9 μ G s h p=>⟨X9,μ,G,s,h,(d7.bind p).mono λsr X0 G1 H1 x' h1 p1 J hJ=>by
  refine⟨λi m X1 H'=>m=sr.items.length-i/\i<=sr.items.length/\uJ (wc X) Z gg f sr E X0 H1 i X1 H',
   ⟨sr.items.length,rfl,zD _,X9,X0,G1,Ext.refl _ _,s.mono x',h1,p1⟩,?_⟩
  rintro i m X1 H' ⟨rfl,hi',WY,X2,G',k',s',h',p'⟩;by_cases Nk:i<sr.items.length
  · rw[Zh Nk]at p';unfold B1 at p';split at p'
    · rename_i ck;obtain⟨q1,_⟩:=hJ X2 G' H' k' h' ck i;obtain⟨go,yl⟩:=q1 _ (zn Nk);refine .inr ⟨go,λσ2 H2=>uJ (wc X) Z gg f sr E X0 H1 (i+1) σ2 H2,λσ2 H2 w=>⟨sr.items.length-(i+1),Yg _ _ Nk,rfl,Nk,w⟩,λx H2 y=>?_⟩;obtain⟨k2,h2,rx⟩:=yl x H2 y;have p2:=d7.bind (p'.from k2);refine⟨_,WY,X2,G',rx,s'.mono k2,h2,p2.mono λdσ3 μ3 G3 H3 x3 h3 p3 WR s3=>?_⟩;refine⟨dσ3,μ3,G3,s3,h3,(d7.bind p3).mono λfl μ4 G4 H4 x4 h4 p4=>?_⟩
      cases fl with
      |nx dσ4=>exact λσ4 s4=>⟨dσ4,μ4,G4,k'.trans (k2.trans (x3.trans x4)),s4,h4,p4⟩
      |ct dσ4=>exact λσ4 s4=>⟨dσ4,μ4,G4,k'.trans (k2.trans (x3.trans x4)),s4,h4,p4⟩
      |bk dσ4=>exact λσ4 s4=>d7.ok p4 h4 σ4 s4
      |rt d=>exact λv r=>d7.ok p4 h4 v r
    ·exact p'.elim
  · have e:i=sr.items.length:=Nat.le_antisymm hi' (Nat.le_of_not_lt Nk);subst e;rw[List.drop_length]at p';unfold B1 at p';split at p'
    ·rename_i ck;obtain⟨_,q2⟩:=hJ X2 G' H' k' h' ck sr.items.length;exact .inl ⟨q2 (zf _),d7.ok p' h' X1 s'⟩
    ·exact p'.elim⟩
end
def P4(env:Env):List (Str×NameKind)->List (Str×Addr)->List (Str×Addr)
 |[],cs=>cs
 |(n,k)::r,cs=>P4 env r (if k == .free then (match env.cells.lookup n with|some c=>(n,c)::cs|none=>cs)else cs)
theorem PJ:∀l cs,(∀p∈l,p.2= .free->∃c,env.cells.lookup p.1=some c)->
 (forIn l cs (fun(x:Str×NameKind) (cs:List (Str×Addr))=>(match x with|(name,kind)=>if (kind==NameKind.free)=true then do let c <-cellOf env name;pure (ForInStep.yield ((name,c)::cs))else pure (ForInStep.yield cs):Sem (ForInStep (List (Str×Addr))))):Sem (List (Str×Addr)))=pure (P4 env l cs)
 |[],cs,_=>rfl
 |(n,k)::r,cs,h=>by
  have ih:=λcs'=>PJ r cs' λp hp=>h p (zl _ hp);rw[List.forIn_cons];unfold P4;rcases hk:(k==NameKind.free)with _|_
  ·
    have e:(match ((n,k):Str×NameKind) with|(name,kind)=>if (kind==NameKind.free)=true then do let c <-cellOf env name;pure (ForInStep.yield ((name,c)::cs))else pure (ForInStep.yield cs):Sem (ForInStep (List (Str×Addr))))=pure (ForInStep.yield cs):=by show (if (k==NameKind.free)=true then _ else _)=_;rw[hk];rfl
    rw[e];exact ih cs
  ·
    obtain⟨c,hc⟩:=h (n,k) zt (by simpa using hk);have hcell:cellOf env n=pure c:=by unfold cellOf;rw[hc]
    have e:(match ((n,k):Str×NameKind) with|(name,kind)=>if (kind==NameKind.free)=true then do let c <-cellOf env name;pure (ForInStep.yield ((name,c)::cs))else pure (ForInStep.yield cs):Sem (ForInStep (List (Str×Addr))))=pure (ForInStep.yield ((n,c)::cs)):=by show (if (k==NameKind.free)=true then (do let c <-cellOf env n;pure (ForInStep.yield ((n,c)::cs)))else _)=_;rw[hk,hcell];rfl
    rw[e,hc];exact ih ((n,c)::cs)
theorem Lx(h:∀p∈scope.names,p.2= .free->∃c,env.cells.lookup p.1=some c):closureFor scope env=pure (P4 env scope.names []):=by have q:=PJ scope.names [] h;unfold closureFor;dsimp only;rw[q];rfl
theorem QN:∀l cs,(cs.lookup x=some c->env.cells.lookup x=some c)->(P4 env l cs).lookup x=some c->env.cells.lookup x=some c
 |[],cs,h,e=>h e
 |(n,k)::r,cs,h,e=>by
  unfold P4 at e;refine QN r _ (λe1=>?_) e;split at e1
  · split at e1
    · rename_i c' hc;rw[ym]at e1;split at e1
      · rename_i hx;have hx':x=n:=by simpa using hx
        subst hx'
        cases e1
        exact hc
      ·exact h e1
    ·exact h e1
  ·exact h e1
theorem S5(h:(P4 env l []).lookup x=some c):env.cells.lookup x=some c:=QN l [] (λz=>by exact t6 z) h
theorem CN:∀l cs,(∃c,cs.lookup x=some c)->∃c,(P4 env l cs).lookup x=some c
 |[],cs,h=>h
 |(n,k)::r,cs,h=>by
  unfold P4;refine CN r _ ?_;split
  · split
    · rename_i c' hc;rw[ym];split
      ·exact⟨_,rfl⟩
      ·exact h
    ·exact h
  ·exact h
theorem KF(hc:env.cells.lookup x=some c):∀l cs,(x,NameKind.free)∈l->∃c,(P4 env l cs).lookup x=some c
 |[],cs,h=>by simp at h
 |(n,k)::r,cs,h=>by
  unfold P4;rcases zI.mp h with e|h
  · cases e
    refine CN r _ ?_;rw[hc];simp
  ·exact KF hc r _ h
section
theorem mS(I:Nat->zm->Prop)
 (turn:∀n s,I n s->zw (zF prog w) A (xP it) (λr W1=>match r with
   |none=>R (.ok .next) W1
   | some v => zw (zF prog w) A (xu target it v) (λ_ s₁' => zw (zF prog w) A (Ya target env v) (λ_ s₂ =>
      zw (zF prog w) A (forIn ifs true λc r=>if r=true then do let ok <-isTrue c env (eval c env);pure (ForInStep.yield ok)else pure (ForInStep.yield r)) (λok s₃=>
       if ok=true then zw (zF prog w) A (eval elt env) (λx s₄=>
        zw (zF prog w) A (call (.builtin "list.append") [Nq,x]) (λ_ s₅=>∃m,m<n/\I m s₅) (λ_ _=>False) s₄) (λ_ _=>False) s₃
       else ∃m,m<n/\I m s₃) (λ_ _=>False) s₂) (λ_ _=>False) s₁') (λ_ _=>False) W1) (λ_ _=>False) s)
 (n:Nat) (h:I n s):
 ZE (zF prog w) A (.compLoop (.ListComp elt [⟨target,iter,ifs,0⟩] scope pos) 0 it Nq env) R s:=by
 refine codeAny_loop rfl I (λn s hI=>?_) n h;show zw _ A ((compTurn (.ListComp elt [⟨target,iter,ifs,0⟩] scope pos) 0 it Nq env).onRaise (λx=>do noteFrame x env;theTreesLotGoes x)) _ _ s;refine wpAny_noted ?_;rw[compTurn_list];refine za (JA (za (jG (turn n s hI) (λr W1 h₁=>?_) λ_ _ h'=>h'.elim)));rcases r with _|v
 ·exact zj h₁
 ·
   refine za (jG h₁ (λ_ s₁' h₁'=>?_) λ_ _ h'=>h'.elim);refine za (jG h₁' (λ_ s₂ h₂=>za (jG h₂ (λok s₃ h₃=>?_) λ_ _ h'=>h'.elim)) λ_ _ h'=>h'.elim);rcases ok with _|_
   ·
     exact zj ⟨rfl,h₃⟩
   ·
     exact za (za (jG h₃ (λx s₄ h₄=>za (jG h₄ (λ_ s₅ h₅=>zj (zj ⟨rfl,h₅⟩)) λ_ _ h'=>h'.elim)) λ_ _ h'=>h'.elim))
end
def O1(X:Cx)(scope:Scope)(N:List Str)(C:Addr)(s:zm)(H:Hp)(ex:List Addr):Cx where
 prog:=X.prog
 w:=X.w
 K:=X.K
 mg:=X.mg
 base:=X.base
 A:=X.A
 N:=N
 WZ:=s
 H₀:=H
 env:=compEnvC scope (P4 X.env scope.names []) C X.env
 outer:=X.stack
 stack:=X.stack
 ex:=ex
 fn:=λ_=>false
 calm:=X.calm
 pn:= []
 xe:=λ_ _=>False
structure X8(X:Cx)(scope:Scope)(N:List Str)(caps:List (Option Nat)):Prop where
 kind:scope.kind= .function
 cell:∀y∈scope.names,y.2≠ .cell
 names:∀y∈scope.names,y.2= .local->scope.names.lookup y.1=some .local
 free:∀y∈scope.names,y.2= .free->X.env.kindOf y.1=some .cell\/X.env.kindOf y.1=some .free
 frees:∀y∈scope.names,y.2= .free->scope.names.lookup y.1=some .free
 len:caps.length=N.length
 caps:∀(i j:Nat),caps[i]? =some (some j)->∃x,N[i]? =some x/\X.N[j]? =some x/\(x,NameKind.free)∈scope.names
def y3{α:Type}(caps:List (Option Nat))(σ:List (Option α)):List (Option α):=caps.map λo=>o.bind λj=>(σ[j]?).join
theorem rH{env:Env}:∀names:List (Str×NameKind),(names.map fun(n,k)=>if (k==NameKind.free&&env.scope.kind == .function&&env.kindOf n==some .cell)then (n,NameKind.cell)else (n,k)).lookup x=
 (names.lookup x).map λk=>if (k==NameKind.free&&env.scope.kind == .function&&env.kindOf x==some .cell)then NameKind.cell else k
 |[]=>rfl
 |(n,k)::r=>by
  have ih:=rH (env:=env) (x:=x) r;rw[zH];by_cases hx:x=n
  · subst hx;dsimp only;split
    ·rename_i h;simp[ym];simp at h;simp[h]
    ·rename_i h;simp[ym];simp at h;intro a b c;exact absurd c (h a b)
  · have hb:(x==n)=false:=by simpa using hx
    dsimp only;split
    ·rw[ym,ym,hb];exact ih
    ·rw[ym,ym,hb];exact ih
section
variable{X:Cx}{scope:Scope}{N:List Str}{caps:List (Option Nat)}
theorem X8.isFree(k:X8 X scope N caps){x:Str}(h:(relabel scope X.env).names.lookup x=some .cell\/(relabel scope X.env).names.lookup x=some .free):(x,NameKind.free)∈scope.names:=by
 have e:(relabel scope X.env).names.lookup x= (scope.names.lookup x).map λk=>if (k==NameKind.free&&X.env.scope.kind == .function&&X.env.kindOf x==some .cell)then NameKind.cell else k:=rH scope.names;rw[e]at h;rcases hl:scope.names.lookup x with _|kd
 ·rw[hl]at h;rcases h with h|h<;>exact t6 h
 ·
   rw[hl]at h;have hm:=yC hl;have hn:=k.cell _ hm;simp only[Zy]at h
   cases kd with
   |free=>exact hm
   |cell=>exact absurd rfl hn
   |_=>rcases h with h|h<;>simp at h
theorem X8.cells(k:X8 X scope N caps)(ok:X.Ok):∀p∈scope.names,p.2= .free->∃c,X.env.cells.lookup p.1=some c:=λp hp e=>ok.has p.1 (k.free p hp e)
theorem Hg(I:Inv X Nc σ H s)(k:X8 X scope N caps)(hC:s.heap.objs.size<=C)(Pw:∀b∈ex,D3 X Nc H b)(Nk:∀b∈ex,b<s.heap.objs.size):(O1 X scope N C s H ex).Ok where
 mod:=I.ok.mod
 kind:=k.kind
 glob:=I.ok.glob
 blt:=I.ok.blt
 above:=hC
 inj:=λx y c h1 h2=>I.ok.inj x y c (S5 h1) (S5 h2)
 has:=λx hx=>by have hm:=k.isFree hx;obtain⟨c,hc⟩:=k.cells I.ok _ hm rfl;exact KF hc _ _ hm
 cab:=λx c h=>by exact FE h
 hd:=I.ok.hd
 frames:=I.ok.frames
 stk:=.inl rfl
 exf:=λb hb=>⟨zL (zN (Nk b hb) hC),λx c e=>(Pw b hb).2.2.2.2.1 x c (S5 e)⟩
 bs:=I.bs
 bsz:=zp I.ok.bsz I.sz
 noex:=λb o e hb=>by
  rcases (Pw b hb).2.2.2.1 with z|z
  ·exact I.ok.noex b o e z
  ·exact absurd (zN (zv (I.ok.bs b o e).1) z) (yk _)
 exfs:=λb hb z=>by
  rcases zI.mp (I.stkSub b z)with e|e
  ·exact(Pw b hb).2.1 e
  ·exact(Pw b hb).2.2.1 e
 funs:=I.stack
 frf:=I.stkFree
 gd:=I.ok.gd
theorem BI{σ:List (Option α)}{i:Nat}(h:(y3 caps σ)[i]? =some (some v)):∃j,caps[i]? =some (some j)/\σ[j]? =some (some v):=by
 unfold y3 at h;rw[jg]at h;rcases e:caps[i]? with _|o
 ·rw[e]at h;exact t6 h
 ·
   rw[e]at h;rcases o with _|j
   ·cases h
   ·
     refine⟨j,rfl,?_⟩;simp only[Zy,JX,je]at h;rcases e2:σ[j]? with _|w
     ·rw[e2]at h;exact t6 h
     ·rw[e2]at h;simp at h;rw[h]
theorem GW{h₁:Heap}{tk:Nat}(I:Inv X Nc σ H s)(k:X8 X scope N caps)(hC:s.heap.objs.size<C)(Pw:∀b∈ex,D3 X Nc H b)(Nk:∀b∈ex,b<s.heap.objs.size)
 (old:∀b o,s.heap.get? b=some o->h₁.get? b=some o) (hns:h₁.Ns C λ_=>none) (Pv:h₁.get? s.heap.objs.size=some {cls:=.type "list",data:=.seq ([]:List zi).toArray 0}):
 Inv (O1 X scope N C s H ex) [] (y3 caps σ) (upd H s.heap.objs.size (.lst [])) {s with heap:=h₁,toks:=tk}:=by
 have hD:H s.heap.objs.size=none:=I.hok.fresh (zf _);refine⟨Hg I k (jT hC) Pw Nk,rfl,I.bare,Un.laid old (zf _) hD,⟨_,hns,λi x v h1 h2 h3=>?_⟩,λx c e=>?_,?_,λx c e=>?_,λp hp=>absurd (show p∈([]:PNS)from hp) (by simp),?_,?_⟩
 · obtain⟨j,e1,e2⟩:=BI h2;obtain⟨y,e3,e4,e5⟩:=k.caps i j e1;have exy:y=x:=by
    have:some y=some x:=e3.symm.trans h1;exact jo this
   subst exy;have hk:=k.free _ e5 rfl;obtain⟨m,hn,hl⟩:=I.loc;obtain⟨u,r,l⟩:=hl j y v e4 e2 (by rcases hk with z|z;exact .inr (.inl z);exact .inr (.inr z));refine⟨u,r,.inr ?_⟩;rcases l with⟨z,_⟩|⟨_,c,ec,hc⟩
   ·rcases hk with z'|z'<;>(rw[z]at z';cases z')
   · refine⟨?_,c,?_,?_⟩
     · rcases h3 with h3|h3|h3
       ·exfalso;have e:(relabel scope X.env).names.lookup y= (scope.names.lookup y).map λk=>if (k==NameKind.free&&X.env.scope.kind == .function&&X.env.kindOf y==some .cell)then NameKind.cell else k:=rH scope.names;have h3':(relabel scope X.env).names.lookup y=some .local:=h3;rw[e]at h3';rw[k.frees _ e5 rfl]at h3';simp only[Zy]at h3';split at h3'<;>cases h3'
       ·exact .inl h3
       ·exact .inr h3
     · obtain⟨c',ec'⟩:=KF ec scope.names [] e5;have:=S5 ec';rw[ec]at this
       cases this
       exact ec'
     ·obtain⟨o,ho,hd⟩:=hc;exact⟨o,old _ _ ho,hd⟩
 ·obtain⟨v,o,ho,hd⟩:=I.cell x c (S5 e);exact⟨v,o,old _ _ ho,hd⟩
 ·show upd H s.heap.objs.size (.lst []) C=none;rw[v9 (YK hC)];exact I.hok.fresh (jT hC)
 ·obtain⟨v,o,ho,hd⟩:=I.cell x c (S5 e);rw[v9 (zL (zv ho))];exact I.freeC x c (S5 e)
 ·exact I.hok.laid old (zf _) ⟨zD _, [],0,.nil,Pv⟩
 ·show (y3 caps σ).length=N.length;unfold y3;rw[zc];exact k.len
theorem QW(I:Inv X Nc σ H s)(Pw:∀b∈ex,D3 X Nc H b)(hC:s.heap.objs.size<C)
 (I':Inv (O1 X scope N C s H ex) pins' X1 H' s') (sb:yj C s'.heap h'):Inv X Nc σ H' {s' with heap:=h'}:=by
 have hos:s'.os=s.os:=I'.os;have hfree:H' C=none:=I'.free;have neC:∀b o,s.heap.get? b=some o->b≠C:=λb o e z=>by have:=zv e;rw[z]at this;exact absurd (YM hC this) (yk _)
 have hun:Un (frs X.stack) ex H H' s.heap s'.heap:=I'.base;have hun2:Un (frs X.stack) ex H H' s.heap h':=by
  refine⟨λb o e n hb hx=>(sb.2 b (neC b o e)).trans (hun.keep b o e n hb hx),λb o e n hb hx=>?_,hun.free,λb o e hx=>?_,hun.tups,hun.frzs,hun.tbls⟩
  ·obtain⟨sl,q⟩:=hun.slot b o e n hb hx;exact⟨sl,(sb.2 b (neC b o e)).trans q⟩
  ·obtain⟨o',q⟩:=hun.there b o e hx;exact⟨o',(sb.2 b (neC b o e)).trans q⟩
 have hok2:HOk X.prog X.w H' h':=λa o e=>by
  have nc:∀c u,H' c=some u->c≠C:=λc u q z=>by rw[z,hfree]at q;exact t6 q
  refine(I'.hok a o e).stay (λb u hb q=>?_) (λ_ q=>q) λ_ _ q=>q;rcases hb with rfl|hb
  ·exact(sb.2 b (nc b o e)).trans q
  ·exact(sb.2 b (nc b _ hb)).trans q
 obtain⟨hh,g,d,t,os'⟩:=s';obtain rfl:os'=s.os:=hos;have fin:=I.call (d':=d) (t':=t) hun2 hok2 I'.bare λb hb=>⟨(Pw b hb).2.2.2.1,(Pw b hb).2.1,(Pw b hb).2.2.2.2.1,(Pw b hb).2.2.2.2.2⟩;exact fin
end
def hide(q:Addr)(H:Hp):Hp:=λb=>if b=q then none else H b
theorem OB:hide q H q=none:=by unfold hide;rw[if_pos rfl]
theorem O9(h:b≠q):hide q H b=H b:=by unfold hide;rw[if_neg h]
theorem M7(h:hide q H b=some o):b≠q/\H b=some o:=by
 by_cases e:b=q
 ·rw[e,OB]at h;exact t6 h
 ·rw[O9 e]at h;exact⟨e,h⟩
theorem MU(h:H q=some o):upd (hide q H) q o=H:=by
 funext b;by_cases e:b=q
 ·rw[e,N6,h]
 ·rw[v9 e,O9 e]
theorem gC:hide q (upd H q o)=hide q H:=by
 funext b;by_cases e:b=q
 ·rw[e,OB,OB]
 ·rw[O9 e,O9 e,v9 e]
theorem tD(h:H q=none):hide q H=H:=by
 funext b;by_cases e:b=q
 ·rw[e,OB,h]
 ·rw[O9 e]
section
mutual
theorem d8.sq(k:∀a xs,SqT c.K H a xs->SqT c.K H' a xs):∀ {d} {v},d8 c μ H d v->d8 c μ H' d v
 | .non,_,h=>h
 | .bl _,_,h=>h
 | .int _,_,h=>h
 | .str _,_,h=>h
 | .ty _,_,h=>h
 | .fn _,_,h=>h
 | .ref i,v,h=>by unfold d8 at h ⊢;exact h
 | .tup l,v,h=>by unfold d8 at h ⊢;obtain⟨a,vs,e,q,r⟩:=h;exact⟨a,vs,e,k _ _ q,m5.sq k r⟩
theorem m5.sq(k:∀a xs,SqT c.K H a xs->SqT c.K H' a xs):∀ {l} {vs},m5 c μ H l vs->m5 c μ H' l vs
 |[],_,h=>h
 |d::ds,vs,h=>by unfold m5 at h ⊢;obtain⟨v,r,e,q,t⟩:=h;exact⟨v,r,e,d8.sq k q,m5.sq k t⟩
end
theorem Z2.sq(k:∀a xs,SqT c.K H a xs->SqT c.K H' a xs):∀ {l} {vs},Z2 c μ H l vs->Z2 c μ H' l vs
 |[],_,h=>h
 |(_,d)::ds,vs,h=>by obtain⟨v,r,e,q,t⟩:=h;exact⟨v,r,e,d8.sq k q,Z2.sq k t⟩
theorem vA(hq:H q=some (.lst vs)){K:zg}(a:Addr)(xs:List V)(h:SqT K H a xs):SqT K (hide q H) a xs:=by
 rcases h with(h|⟨o,h⟩)|h
 ·exact .inl (.inl (by rw[O9 (λe=>by rw[e,hq]at h;cases h)];exact h))
 ·exact .inl (.inr ⟨o,by rw[O9 (λe=>by rw[e,hq]at h;cases h)];exact h⟩)
 ·exact .inr h
theorem lC{K:zg}(a:Addr)(xs:List V)(h:SqT K (hide q H) a xs):SqT K H a xs:=by
 rcases h with(h|⟨o,h⟩)|h
 ·exact .inl (.inl (M7 h).2)
 ·exact .inl (.inr ⟨o,(M7 h).2⟩)
 ·exact .inr h
theorem w5.sq(k:∀a xs,SqT c.K H a xs->SqT c.K H' a xs)(h:w5 c μ H X9 σ):w5 c μ H' X9 σ:=⟨h.1,λi d e=>let ⟨v,a,b⟩:=h.2 i d e;⟨v,a,b.sq k⟩⟩
theorem Ext.hide(x:Ext μ H X2 H')(n:q∉μ)(hq:H q=some (.lst vs)):H' q=some (.lst vs)/\q∉X2/\Ext μ (DL.hide q H) X2 (DL.hide q H'):=by
 refine⟨x.oth q _ hq n,λh=>?_,x.pre,λa h1 h2=>?_,λb o e nb=>?_,λb xs e=>?_,λb o u e=>?_⟩
 ·have:=x.new q h n;rw[hq]at this;exact MF this
 · by_cases e:a=q
   ·rw[e,OB]
   ·rw[O9 e];exact x.new a h1 h2
 ·obtain⟨e1,e2⟩:=M7 e;rw[O9 e1];exact x.oth b o e2 nb
 ·obtain⟨e1,e2⟩:=M7 e;rw[O9 e1];exact x.tup b xs e2
 ·obtain⟨e1,e2⟩:=M7 e;rw[O9 e1];exact x.frz b o u e2
theorem Ext.unhide(x:Ext μ H X2 (DL.hide q H')):Ext μ H X2 H':=
 ⟨x.pre,x.new,λb o e n=>(M7 (x.oth b o e n)).2,λb xs e=>(M7 (x.tup b xs e)).2,λb o u e=>(M7 (x.frz b o u e)).2⟩
theorem m9.hide(h:m9 c μ G H)(n:q∉μ)(hq:H q=some (.lst vs)):m9 c μ G (DL.hide q H):=
 ⟨h.len,h.inj,λi o a g m=>by
  have na:a≠q:=λe=>n (by rw[<-e];exact ji m);have r:=h.obj i o a g m
  cases o with
  |lst l=>obtain⟨ws,e,r⟩:=r;exact⟨ws,by rw[O9 na];exact e,r.sq (vA hq)⟩
  |dct l=>obtain⟨ws,e,r⟩:=r;exact⟨ws,by rw[O9 na];exact e,r.sq (vA hq)⟩
  |rod l=>obtain⟨ws,o,e,r⟩:=r;exact⟨ws,o,by rw[O9 na];exact e,r.sq (vA hq)⟩
  |rol l=>
    obtain⟨ws,e,r⟩:=r;refine⟨ws,?_,r.sq (vA hq)⟩;rcases e with⟨o,e⟩|e
    ·exact .inl ⟨o,by rw[O9 na];exact e⟩
    ·exact .inr e⟩
theorem m9.unhide(h:m9 c μ G (DL.hide q H)):m9 c μ G H:=
 ⟨h.len,h.inj,λi o a g m=>by
  have r:=h.obj i o a g m
  cases o with
  |lst l=>obtain⟨ws,e,r⟩:=r;exact⟨ws,(M7 e).2,r.sq lC⟩
  |dct l=>obtain⟨ws,e,r⟩:=r;exact⟨ws,(M7 e).2,r.sq lC⟩
  |rod l=>obtain⟨ws,o,e,r⟩:=r;exact⟨ws,o,(M7 e).2,r.sq lC⟩
  |rol l=>
    obtain⟨ws,e,r⟩:=r;refine⟨ws,?_,r.sq lC⟩;rcases e with⟨o,e⟩|e
    ·exact .inl ⟨o,(M7 e).2⟩
    ·exact .inr e⟩
inductive UH{α:Type}(c:Wc)(q:Addr)(vs:List V)(μ:List Addr)(H:Hp)(K:α->List Addr->DH->Hp->Prop)(a:α)(X2:List Addr)(G':DH)(H':Hp):Prop
 |mk (e:H' q=some (.lst vs)) (n:q∉X2) (h:m9 c X2 G' (DL.hide q H')) (x:Ext μ (DL.hide q H) X2 (DL.hide q H')) (k:K a X2 G' (DL.hide q H'))
theorem d7.unhide{r:Option (Except Str α×DH)}{K:α->List Addr->DH->Hp->Prop}(n:q∉μ)(hq:H q=some (.lst vs))(p:d7 c ZF μ (DL.hide q H) r K):
 d7 c Z μ H r (UH c q vs μ H K):=by
 match r,p with
 |some (.ok a,G'),p=>
   intro X2 H' x h;obtain⟨e1,e2,e3⟩:=x.hide n hq;have h2:=h.hide e2 e1;exact⟨e1,e2,h2,e3,p X2 _ e3 h2⟩
 |some (.error z,G'),p=>
   intro X2 H' x h;obtain⟨e1,e2,e3⟩:=x.hide n hq;exact(p X2 _ e3 (h.hide e2 e1)).elim
theorem m9.mem_lt(I:Inv X Nc σ H s)(h:m9 (wc X) μ G H)(ha:a∈μ):a<s.heap.objs.size:=by
 obtain⟨i,hi⟩:=Jy ha;have hl:i<G.length:=by rw[<-h.len];exact lt_of_get hi
 have r:=h.obj i G[i] a (zn hl) hi;rcases e:G[i]with l|l|l|l
 ·rw[e]at r;obtain⟨_,e,_⟩:=r;exact I.hok.lt e
 ·
   rw[e]at r;obtain⟨ws,e,_⟩:=r;rcases e with⟨o,e⟩|e
   ·exact I.hok.lt e
   · rcases e with(e|⟨o,e⟩)|⟨o,Nf,n,e,_⟩
     ·exact t6 e
     ·exact t6 e
     ·exact zv (I.kIn a o e)
 ·rw[e]at r;obtain⟨_,e,_⟩:=r;exact I.hok.lt e
 ·rw[e]at r;obtain⟨_,_,e,_⟩:=r;exact I.hok.lt e
end
def PTs(X:Cx)(ifs:List Expr)(t:TT):Prop:=
 ∀(Nc:PNS) (s:zm) (σ:St) (H:Hp) (Q:Bool->Hp->Prop),Inv X Nc σ H s->t σ H Q->
  zw (zF X.prog X.w) X.A (forIn ifs true λc r=>if r=true then do let ok <-isTrue c X.env (eval c X.env);pure (ForInStep.yield ok)else pure (ForInStep.yield r)) (TP X Nc σ Q) X.xe s
structure DTs(X:Cx)(Z:XC)(ifs:List Expr)(f:DSt->M Bool):Prop where
 h:PTs X ifs (MA (wc X) Z f)
def K7:DSt->M Bool:=λ_=>pure true
theorem IY:DTs X Z [] K7:=⟨λNc s σ H Q I Ng=>Ng.elim λX9 μ G sr h p=>wpAny_tests_nil ⟨H,I,d7.ok p h⟩⟩
theorem BR(h:DT X Z c t):DTs X Z [c] t:=⟨λNc s σ H Q I q=>wpAny_tests_one (h.h Nc s σ H Q I q)⟩
def K6(g:Fg)(t:DSt->M Bool)(e:Fe)(ck:DH->Bool):List D->DSt->M (List D)
 |[]=>λ_ G=>if ck G then some (.ok [],G)else none
 | d :: r => λσ G => if ck G then (do
    let WW <-g d σ
    if <-t WW then do
     let y <-e WW
     let ys <-K6 g t e ck r WW
     pure (y::ys)
    else K6 g t e ck r WW:M (List D)) G else none
def J8(it:DSt->M Src)(caps:List (Option Nat))(g:Fg)(t:DSt->M Bool)(e:Fe):Fe:=λσ=>do
 let s <-it σ
 if s.items.length<=zk then do
  let ys <-noX (K6 g t e s.ck s.items (y3 caps σ))
  K8 (.lst ys)
 else M.stuck
theorem GP(h:w5 c μ H X9 σ):w5 c μ H (y3 caps X9) (y3 caps σ):=by refine⟨by simp[y3],λi d e=>?_⟩;obtain⟨j,e1,e2⟩:=BI e;obtain⟨v,e3,r⟩:=h.2 j d e2;refine⟨v,?_,r⟩;unfold y3;rw[jg,e1];simp[e3]
section
set_option maxHeartbeats 1000000 in
def CKV(c:Wc)(Q:VK)(d:D)(X2:List Addr)(_:DH)(H':Hp):Prop:=∀v,d8 c X2 H' d v->Q v H'
def CKR(c:Wc)(Z:XC)(Q:VK)(ys rest:List D)(μ:List Addr)(G:DH)(H:Hp):Prop:=d7 c Z μ H (K8 (.lst (ys++rest)) G) (CKV c Q)
def uL(gg:Fg)(tt:DSt->M Bool)(fe:Fe)(ck:DH->Bool)(items:List D)(σ:DSt)(y:D):M (List D):=do let ys <-K6 gg tt fe ck items σ;pure (y::ys)
def FL(gg:Fg)(tt:DSt->M Bool)(fe:Fe)(ck:DH->Bool)(items:List D)(σ:DSt)(b:Bool):M (List D):=if b=true then (do let y <-fe σ;let ys <-K6 gg tt fe ck items σ;pure (y::ys))else K6 gg tt fe ck items σ
def DU(gg:Fg)(tt:DSt->M Bool)(fe:Fe)(ck:DH->Bool)(items:List D)(σ:DSt):M (List D):=do if <-tt σ then do {let y <-fe σ;let ys <-K6 gg tt fe ck items σ;pure (y::ys)}else K6 gg tt fe ck items σ
inductive CG(X:Cx)(Z:XC)(Q:VK)(vs:List V)(DD:Addr)(ys:List D)(X2:List Addr)(H5:Hp)(m:DSt->M (List D))(WU:St)(H6:Hp):Prop
 |mk (WV:DSt) (μ6:List Addr) (G6:DH) (s:w5 (wc X) μ6 H6 WV WU) (h:m9 (wc X) μ6 G6 H6) (u:UH (wc X) DD vs X2 H5 (λX9 μ G H=>d7 (wc X) ZF μ H (m X9 G) (CKR (wc X) Z Q ys)) WV μ6 G6 H6)
inductive CT(X:Cx)(Z:XC)(Q:VK)(vs:List V)(DD:Addr)(ys:List D)(WV:DSt)(WU:St)(μ6:List Addr)(H6:Hp)(m:Bool->M (List D))(b:Bool)(H7:Hp):Prop
 |mk (WS:List Addr) (G7:DH) (s:w5 (wc X) WS H7 WV WU) (h:m9 (wc X) WS G7 H7) (u:UH (wc X) DD vs μ6 H6 (λb μ G H=>d7 (wc X) ZF μ H (m b G) (CKR (wc X) Z Q ys)) b WS G7 H7)
inductive CE(X:Cx)(Z:XC)(Q:VK)(vs:List V)(DD:Addr)(ys:List D)(WV:DSt)(WU:St)(WS:List Addr)(H7:Hp)(m:D->M (List D))(v:V)(H8:Hp):Prop
 |mk (y:D) (μ8:List Addr) (G8:DH) (r:d8 (wc X) μ8 H8 y v) (s:w5 (wc X) μ8 H8 WV WU) (h:m9 (wc X) μ8 G8 H8) (u:UH (wc X) DD vs WS H7 (λy μ G H=>d7 (wc X) ZF μ H (m y G) (CKR (wc X) Z Q ys)) y μ8 G8 H8)
inductive TH(Y:Cx)(Z:XC)(Q:VK)(gg:Fg)(tt:DSt->M Bool)(fe:Fe)(src:Src)(fp:List Addr)(tn:Nat->Heap->Prop)(DD:Addr)(WX:List Addr)(H2:Hp)(n:Nat)(s':zm):Prop
 |mk (i:Nat) (ys:List D) (vs:List V) (X1:St) (H':Hp) (WY:DSt) (X2:List Addr) (G':DH) (e:n=src.items.length-i) (hi:i<=src.items.length) (hv:vs.length<=i)
    (I:Inv Y [] X1 H' s') (st:tn i s'.heap) (fr:∀b∈fp,H' b=none) (hs:H' DD=some (.lst vs)) (nD:DD∉X2)
    (x:Ext WX H2 X2 (hide DD H')) (h:m9 (wc Y) X2 G' (hide DD H')) (sr:w5 (wc Y) X2 (hide DD H') WY X1) (rl:m5 (wc Y) X2 (hide DD H') ys vs)
    (p:d7 (wc Y) ZF X2 (hide DD H') (K6 gg tt fe src.ck (src.items.drop i) WY G') (CKR (wc Y) Z Q ys))
theorem sP{Y:Cx}{Q:VK}{src:Src}{tn:Nat->Heap->Prop}{DD it:Addr}{H2:Hp}{J:It}{R:Result->zm->Prop}(hcX:Y.calm=true)(hg:DG Y ZF tg gg)(ht:DTs Y ZF ifs tt)(he:DE Y ZF elt fe)(T:F8 Y.prog Y.w Y.K tg J fp it tn)
 (fpX:∀(H':Hp) (b:Addr),b∈fp->H' b=none->D3 Y [] H' b) (hJ:ItD (wc Y) WX H2 J src) (Nh:src.items.length<=zk) (fin:∀(H':Hp) (X1:St) (s4:zm),Inv Y [] X1 H' s4->Q (.ref DD) H'->R (.ok .next) s4) (n:Nat) (s':zm) (h:TH Y Z Q gg tt fe src fp tn DD WX H2 n s') {NX:zm->Prop} (nx:∀m s,m<n->TH Y Z Q gg tt fe src fp tn DD WX H2 m s->NX s):
 zw (zF Y.prog Y.w) Y.A (xP (.ref it)) (λr W1=>match r with
  |none=>R (.ok .next) W1
  | some v => zw (zF Y.prog Y.w) Y.A (xu tg (.ref it) v) (λ_ s₁' => zw (zF Y.prog Y.w) Y.A (Ya tg Y.env v) (λ_ s₂ =>
     zw (zF Y.prog Y.w) Y.A (forIn ifs true λc r=>if r=true then do let ok <-isTrue c Y.env (eval c Y.env);pure (ForInStep.yield ok)else pure (ForInStep.yield r)) (λok s₃=>
      if ok=true then zw (zF Y.prog Y.w) Y.A (eval elt Y.env) (λx s₄=>
       zw (zF Y.prog Y.w) Y.A (call (.builtin "list.append") [.ref DD,x]) (λ_ s₅=>NX s₅) Y.xe s₄) Y.xe s₃
      else NX s₃) Y.xe s₂) Y.xe s₁') Y.xe W1) Y.xe s':=by
 obtain⟨i,ys,vs,X1,H',WY,X2,G',rfl,hi',hvl,I',Nm,fr',hvs,nD',x',h',sr',rl,p'⟩:=h;by_cases Nk:i<src.items.length
 · rw[Zh Nk]at p';unfold K6 at p';split at p'
   case isFalse=>exact p'.elim
   rename_i ck;obtain⟨q1,_⟩:=hJ X2 G' H' x'.unhide h'.unhide ck i;obtain⟨go,yl⟩:=q1 _ (zn Nk);refine thn (T.item (Y) rfl rfl rfl hcX i [] s' X1 H' Y.xe I' (λb hb=>fpX H' b hb (fr' b hb)) Nm go) λr s4 z4=>?_;obtain⟨u,rfl,h4⟩:=z4;refine thn h4 λ_ s5 z5=>?_;obtain⟨x,H5,I5,r5,y5,st5,fr5⟩:=z5;obtain⟨k5,h5,rx5⟩:=yl x H5 y5;obtain⟨e5,n5,k5'⟩:=k5.hide nD' hvs;have I5':=I5.pinned (λb hb=>fpX H5 b hb (fr5 b hb)) (T.obj _ _ st5);have keepIt:∀ {WT:St} {H7:Hp} {s7:zm},Inv (Y) ([]++WB fp s5.heap) WT H7 s7->Inv (Y) [] WT H7 s7/\tn (i+1) s7.heap/\∀b∈fp,H7 b=none:=λ{WT H7 s7} I7=>by refine⟨I7.unpinned,T.keep _ _ _ st5 λb hb o e=>(I7.pin (b,o) (zP _ (zP _ (AC hb e)))).1,λb hb=>?_⟩;obtain⟨o,e,d⟩:=T.obj _ _ st5 b hb;exact(I7.pin (b,o) (zP _ (zP _ (AC hb e)))).2.1
   have p5:=d7.unhide (Z:=ZF) n5 e5 (d7.bind (p'.from k5'));refine thn (hg.h _ s5 X1 H5 x u _ I5' r5 ⟨_,WY,X2,G',rx5,(sr'.mono k5').sq lC,h5,p5.mono λWV μ6 G6 H6 x6 h6 q6 WU sr6=>(⟨WV,μ6,G6,sr6,h6,q6⟩:CG Y Z Q vs DD ys X2 H5 (DU gg tt fe src.ck (src.items.drop (i+1))) WU H6)⟩) λ_ s6 z6=>?_;obtain⟨WU,H6,I6,WV,μ6,G6,sr6,h6,e6,n6,hh6,x6,p6⟩:=z6;have p6':=d7.unhide (Z:=ZF) n6 e6 (d7.bind p6);refine thn (ht.h _ s6 WU H6 (CT Y Z Q vs DD ys WV WU μ6 H6 (FL gg tt fe src.ck (src.items.drop (i+1)) WV)) I6 ⟨WV,μ6,G6,sr6,h6,p6'.mono λb WS G7 H7 x7 h7 q7=>⟨WS,G7,sr6.mono x7,h7,q7⟩⟩) λb s7 z7=>?_;obtain⟨H7,I7,WS,G7,sr7,h7,e7,n7,hh7,x7,p7⟩:=z7;unfold FL at p7;have x27:Ext WX H2 WS (hide DD H7):=x'.trans (k5'.trans (x6.trans x7));have rl7:m5 (wc Y) WS (hide DD H7) ys vs:=rl.mono (k5'.trans (x6.trans x7));rcases b with _|_
   ·
     rw[if_neg zR]at p7 ⊢;obtain⟨I8,st8,fr8⟩:=keepIt I7;exact nx _ _ (Yg _ _ Nk) ⟨i+1,ys,vs,WU,H7,WV,WS,G7,rfl,Nk,Nat.le_succ_of_le hvl,I8,st8,fr8,e7,n7,x27,hh7,sr7.sq (vA e7),rl7,p7⟩
   ·
     rw[if_pos rfl]at p7 ⊢;have p7':=d7.unhide (Z:=ZF) n7 e7 (d7.bind p7);refine thn (he.h _ s7 WU H7 (CE Y Z Q vs DD ys WV WU WS H7 (uL gg tt fe src.ck (src.items.drop (i+1)) WV)) I7 ⟨WV,WS,G7,sr7,h7,p7'.mono λy μ8 G8 H8 x8 h8 q8 v rv=>⟨y,μ8,G8,rv,sr7.mono x8,h8,q8⟩⟩) λyu s8 z8=>?_;obtain⟨yv,H8,I8,ry,y,μ8,G8,ryd,sr8,h8,e8,n8,hh8,x8,p8⟩:=z8;unfold uL at p8;refine thn (nO _ s8 WU H8 (.ref DD) [yv] (.ref DD) [yu] (λ_ H9=>H9=upd H8 DD (.lst (vs++[yv]))) I8 rfl (.cons ry .nil) ⟨DD,vs,yv,rfl,rfl,e8,by lia,rfl⟩) λ_ s9 z9=>?_;obtain⟨_,H9,I9,_,rfl⟩:=z9;obtain⟨I10,st10,fr10⟩:=keepIt I9;have hd9:hide DD (upd H8 DD (.lst (vs++[yv])))=hide DD H8:=gC;refine nx _ _ (Yg _ _ Nk) ⟨i+1,ys++[y],vs++[yv],WU,_,WV,μ8,G8,rfl,Nk,by rw[zd];exact Nat.succ_le_succ hvl,I10,st10,fr10,N6,n8,?_,?_,?_,?_,?_⟩
     ·rw[hd9];exact x27.trans x8
     ·rw[hd9];exact hh8
     ·rw[hd9];exact sr8.sq (vA e8)
     ·rw[hd9];exact(rl7.mono x8).append ⟨yv, [],rfl,ryd.sq (vA e8),rfl⟩
     ·rw[hd9];refine(d7.bind p8).mono λrest μ'' G'' H'' x'' h'' q''=>?_;have q3:=d7.ok q'' h'';show d7 (wc Y) Z μ'' H'' (K8 (.lst (ys++[y]++rest)) G'') (CKV (wc Y) Q);rw[jh];exact q3
 · have e:i=src.items.length:=by lia
   subst e;rw[List.drop_length]at p';unfold K6 at p';split at p'
   case isFalse=>exact p'.elim
   rename_i ck;obtain⟨_,q2⟩:=hJ X2 G' H' x'.unhide h'.unhide ck src.items.length;refine thn (T.done (Y) rfl rfl rfl hcX src.items.length [] s' X1 H' Y.xe I' (λb hb=>fpX H' b hb (fr' b hb)) Nm (q2 (zf _))) λr s4 ⟨hr,I4⟩=>?_;subst hr;have p9:d7 (wc Y) Z X2 (hide DD H') (K8 (.lst (ys++[])) G') (CKV (wc Y) Q):=d7.ok p' h';rw[jP]at p9;have q9:=Q8 (q:=DD) h' rl p9 OB;rw[MU hvs]at q9;exact fin H' X1 s4 I4 q9
theorem nN{use:Option (zi->Sem Unit)}{Q:VK}{ps:Pos}{Nc:PNS}{s:zm}{σ:St}{H:Hp}{X9:DSt}{G:DH}(hc:X.calm=true)(hi:DI X Z tg iter it)(k:X8 X scope N caps)
 (hg:∀C s H ex,DG (O1 X scope N C s H ex) ZF tg gg) (ht:∀C s H ex,DTs (O1 X scope N C s H ex) ZF ifs tt) (he:∀C s H ex,DE (O1 X scope N C s H ex) ZF elt fe)
 (hs:∀x,yE iter X.env x=pure x) (I:Inv X Nc σ H s) (sr:w5 (wc X) μ H X9 σ) (hr:m9 (wc X) μ G H) (p:d7 (wc X) Z μ H (J8 it caps gg tt fe X9 G) λd X2 _ H'=>∀v,d8 (wc X) X2 H' d v->Q v H')
 (fin:∀(DD C:Addr) (s4:zm) (H':Hp) m (o:Flow),s4.heap.Ns C m->(∀h'',yj C s4.heap h''->Inv X Nc σ H' {s4 with heap:=h''})->H' C=none->(∀H9:Hp,H9 C=none->D3 X Nc H9 C)->Q (.ref DD) H'->compPost (zF X.prog X.w) X.A X.xe use PQ (.ref DD) C (.ok o) s4):
 zw (zF X.prog X.w) X.A (comprehension (.ListComp elt [⟨tg,iter,ifs,0⟩] scope pos) scope X.env ps (newList []) false (eval iter X.env) use) PQ X.xe s:=by
 replace p:d7 (wc X) Z μ H (J8 it caps gg tt fe X9 G) (CKV (wc X) Q):=p;have p1:=d7.bind p;refine wpAny_comprehension_free rfl hs (Lx (k.cells I.ok)) k.kind k.names ?_;refine thn (hi.h Nc s σ H (λJ H1=>∃src X0 G1,Ext μ H X0 H1/\m9 (wc X) X0 G1 H1/\ItD (wc X) X0 H1 J src/\
  d7 (wc X) Z X0 H1 ((if src.items.length<=zk then (do let ys <-noX (K6 gg tt fe src.ck src.items (y3 caps X9));K8 (.lst ys))else M.stuck:M D) G1) (CKV (wc X) Q))
  I ⟨X9,μ,G,sr,hr,p1.mono λsrc X0 G1 H1 x1 h1 p1 J hJ=>⟨src,X0,G1,x1,h1,hJ,p1⟩⟩) λv s1 q1=>thn q1 λitv s2 q2=>?_
 obtain⟨itA,fp,tn,J,H2,rfl,I2,T,st2,f2,src,WX,G2,x2,h2,hJ,p2⟩:=q2;split at p2
 case isFalse=>exact p2.elim
 rename_i Nh;have hfp:∀b∈fp,b<s2.heap.objs.size:=λb hb=>by obtain⟨o,e,_⟩:=T.obj _ _ st2 b hb;exact zv e
 refine xg (wpAny_newFunctionEnv k.cell (by intro y hy;simp at hy) (λh₁ hns₁ hsb₁=>?_) k.kind);dsimp only at hns₁ hsb₁ ⊢;generalize hHP:s2.heap.push {cls:=.type "list",dict:=none,data:=.seq ([]:List zi).toArray}=HP at hns₁ hsb₁ ⊢;have hC:HP.objs.size=s2.heap.objs.size+1:=by rw[<-hHP,yp]
 have hCl:s2.heap.objs.size<HP.objs.size:=by rw[hC];exact xK _
 have hDC:s2.heap.objs.size≠HP.objs.size:=zL hCl;have old:∀b o,s2.heap.get? b=some o->h₁.get? b=some o:=λb o e=>hsb₁.extBut b o (by have:=zv e;exact zL (YM this hCl)) (ze _ (hHP▸ze _ e));have Pv:h₁.get? s2.heap.objs.size=some {cls:=.type "list",data:=.seq ([]:List zi).toArray 0}:=hsb₁.extBut _ _ hDC (ze _ (hHP▸zu _ rfl));have hD:H2 s2.heap.objs.size=none:=I2.hok.fresh (zf _);have nD:s2.heap.objs.size∉WX:=λz=>yk _ (h2.mem_lt I2 z);have st1:tn 0 h₁:=T.keep _ _ _ st2 λb _ o e=>old b o e;have fpX:∀(H':Hp) (b:Addr),b∈fp->H' b=none->D3 (O1 X scope N HP.objs.size s2 H2 fp) [] H' b:=λH' b hb hn=>
  ⟨hn,zL (YM (hfp b hb) hCl),λz=>by
   rcases zI.mp (I2.stkSub b z)with e|e
   ·exact(f2 b hb).2.1 e
   ·exact(f2 b hb).2.2.1 e,.inl hb,λx c e=>(f2 b hb).2.2.2.2.1 x c (S5 e),λp hp=>absurd (show p∈([]:PNS)from hp) (by simp)⟩
 have hcX:(O1 X scope N HP.objs.size s2 H2 fp).calm=true:=hc;have p3:=rL (d7.bind p2);generalize hDD:s2.heap.objs.size=DD at *;have loop:∀s₃:zm,s₃= {s2 with heap:=h₁,toks:=s2.toks+([]:List (Str×zi)).length}->
  ZE (zF X.prog X.w) X.A (.compLoop (.ListComp elt [⟨tg,iter,ifs,0⟩] scope pos) 0 (.ref itA) (.ref DD) (compEnvC scope (P4 X.env scope.names []) HP.objs.size X.env))
   (compPost (zF X.prog X.w) X.A X.xe use PQ (.ref DD) HP.objs.size) s₃:=by
  rintro s₃ rfl;refine mS (TH (O1 X scope N HP.objs.size s2 H2 fp) Z Q gg tt fe src fp tn DD WX H2) (λn s' h=>sP hcX (hg _ _ _ _) (ht _ _ _ _) (he _ _ _ _) T fpX hJ Nh (λH' X1 s4 I4 q9=>?_) n s' h λm s h1 h2=>⟨m,h1,h2⟩) src.items.length
   ⟨0, [], [],y3 caps σ,upd H2 DD (.lst []),y3 caps X9,WX,G2,rfl,zD _,zf _,?_,st1,λb hb=>?_,N6,nD,?_,?_,?_,rfl,?_⟩
  ·obtain⟨m,hn,_⟩:=I4.loc;exact fin DD HP.objs.size s4 H' m _ hn (λh'' sb=>QW I2 (λb hb=>f2 b hb) (by rw[hDD];exact hCl) I4 sb) I4.free (λH9 hn9=>I2.fpOk (by rw[hDD];exact jT hCl) hn9) q9
  ·have:=GW (tk:=s2.toks+([]:List (Str×zi)).length) I2 k (by rw[hDD];exact hCl) f2 (λb hb=>by rw[hDD];exact hfp b hb) old hns₁ (by rw[hDD];exact Pv);rw[hDD]at this;exact this
  ·rw[v9 (zL (hfp b hb))];exact(f2 b hb).1
  ·rw[gC,tD hD];exact Ext.refl _ _
  ·rw[gC,tD hD];exact h2
  ·rw[gC,tD hD];exact GP (sr.mono x2)
  ·rw[gC,tD hD,List.drop_zero];exact p3
 exact codeAny_compStart_list (loop _ rfl) (T.self _ 0 _ _ _ st1 (loop _ rfl))
theorem KS(hc:X.calm=true)(hi:DI X Z tg iter it)(k:X8 X scope N caps)
 (hg:∀C s H ex,DG (O1 X scope N C s H ex) ZF tg gg) (ht:∀C s H ex,DTs (O1 X scope N C s H ex) ZF ifs tt) (he:∀C s H ex,DE (O1 X scope N C s H ex) ZF elt fe)
 (hs:∀x,yE iter X.env x=pure x):DE X Z (.ListComp elt [⟨tg,iter,ifs,0⟩] scope pos) (J8 it caps gg tt fe):=⟨by
 intro Nc s σ H Q I Ng;refine Ng.elim λX9 μ G sr hr p=>?_;rw[eval_ListComp];exact nN hc hi k hg ht he hs I sr hr p λDD C s4 H' m o hn fin _ _ q9=>⟨m,hn,λh'' sb=>⟨.ref DD,H',fin h'' sb,rfl,q9⟩⟩⟩
end
def M4(r:Nat):M DO:=λG=>match G[r]? with
 |some o=>some (.ok o,G)
 |none=>none
def listOf:DO->M (List D)
 | .lst l=>pure l
 | .rol l=>pure l
 | .dct _=>M.stuck
 | .rod _=>M.stuck
def iQ:D->M (List D)
 | .tup l=>pure l
 | .ref r=>M4 r >>= listOf
 |_=>M.stuck
def E1{α:Type}:Option α->M α
 |some a=>pure a
 |none=>M.stuck
section
theorem IxR.mono(h:IxR X r)(k:∀x y H Q,r' x y H Q->r x y H Q):IxR X r':=λva sl Nc s σ H x y v u Q I rx ry q hs=>h va sl Nc s σ H x y v u Q I rx ry (k x y H Q q) hs
theorem w6{f:DO->M α}{K:α->List Addr->DH->Hp->Prop}(p:d7 c Z μ H ((M4 r >>= f) G) K):∃o,G[r]? =some o/\d7 c Z μ H (f o G) K:=by
 rw[M.bind_eq]at p;unfold M4 at p;rcases e:G[r]? with _|o
 ·rw[e]at p;exact p.elim
 ·rw[e]at p;exact⟨o,rfl,p⟩
theorem U5{r:Option β}{f:β->M α}{K:α->List Addr->DH->Hp->Prop}(p:d7 c Z μ H ((E1 r >>= f) G) K):∃o,r=some o/\d7 c Z μ H (f o G) K:=by
 rcases r with _|o
 ·exact p.elim
 ·exact⟨o,rfl,p⟩
theorem IF{f:List D->M α}{K:α->List Addr->DH->Hp->Prop}(h:m9 c μ G H)(r:d8 c μ H d v)(p:d7 c Z μ H ((iQ d >>= f) G) K):
 ∃l a vs,v= .ref a/\m5 c μ H l vs/\d7 c Z μ H (f l G) K/\((d= .tup l/\SqT c.K H a vs)\/(∃i,d= .ref i/\μ[i]? =some a/\((G[i]? =some (.lst l)/\H a=some (.lst vs))\/(G[i]? =some (.rol l)/\RoL c.K H a vs)))):=by
 rcases d with _|_|_|_|l|i|_|_<;>try (exact p.elim;done)
 ·
   unfold d8 at r;obtain⟨a,vs,e,q,rl⟩:=r;exact⟨l,a,vs,e,rl,p,.inl ⟨rfl,q⟩⟩
 ·
   unfold d8 at r;obtain⟨a,m,e⟩:=r;have p':d7 c Z μ H ((M4 i >>= λo=>listOf o >>= f) G) K:=by rw[<-M.bind_assoc];exact p
   obtain⟨o,g,p2⟩:=w6 p';have ro:=h.obj i o a g m;rcases o with l|l|l|l
   ·obtain⟨vs,q,rl⟩:=ro;exact⟨l,a,vs,e,rl,p2,.inr ⟨i,rfl,m,.inl ⟨g,q⟩⟩⟩
   ·obtain⟨vs,q,rl⟩:=ro;exact⟨l,a,vs,e,rl,p2,.inr ⟨i,rfl,m,.inr ⟨g,q⟩⟩⟩
   ·exact p2.elim
   ·exact p2.elim
theorem T5(r:d8 c μ H (.int i) v):v= .int i:=by unfold d8 at r;exact r
theorem S2(r:d8 c μ H (.str i) v):v= .str i:=by unfold d8 at r;exact r
theorem B9(r:d8 c μ H (.bl i) v):v= .bl i:=by unfold d8 at r;exact r
theorem eC(r:d8 c μ H .non v):v= .non:=by unfold d8 at r;exact r
theorem ofI:d8 c μ H (.int i) (.int i):=by unfold d8;rfl
theorem ofS:d8 c μ H (.str i) (.str i):=by unfold d8;rfl
theorem ofB:d8 c μ H (.bl i) (.bl i):=by unfold d8;rfl
theorem ofN:d8 c μ H .non .non:=by unfold d8;rfl
def lA(g:Int->Int->M D):D->D->M D:=λx y=>match x,y with
 | .int i,.int j=>g i j
 |_,_=>M.stuck
theorem sH[∀i j,Decidable (C i j)]{g:Int->Int->Int}(h:OpR X f (rI C λi j=>.int (g i j))):OpD X Z f (lA λi j=>if C i j then pure (.int (g i j))else M.stuck):=
 OpD.of h λx y H Q Ng=>Ng.elim λdx dy μ G rx ry hr p=>by
  rcases dx with _|_|_|_|_|_|_|_<;>rcases dy with _|_|_|_|_|_|_|_<;>first
   |exact p.elim
   |skip
  rename_i i j;unfold lA at p;dsimp only at p;split at p
  ·rename_i hc;exact⟨i,j,T5 rx,T5 ry,hc,d7.ok p hr _ ofI⟩
  ·exact p.elim
theorem wg{g:Int->Int->Int}(h:OpR X f (j8 λi j=>.int (g i j))):OpD X Z f (lA λi j=>pure (.int (g i j))):=
 OpD.of h λx y H Q Ng=>Ng.elim λdx dy μ G rx ry hr p=>by
  rcases dx with _|_|_|_|_|_|_|_<;>rcases dy with _|_|_|_|_|_|_|_<;>first
   |exact p.elim
   |exact⟨_,_,T5 rx,T5 ry,d7.ok p hr _ ofI⟩
def L4:D->D->M D:=lA λi j=>pure (.int (i-j))
theorem Lz:OpD X Z (jX .Sub) L4:=wg mO
instance (i j:Int):Decidable (C7 i j):=by unfold C7;infer_instance
def BB(_ j:Int):Prop:=0<j/\j<2 ^ 100
instance (i j:Int):Decidable (BB i j):=by unfold BB;infer_instance
theorem vz:OpR X (jX .FloorDiv) (rI BB λi j=>.int (i / j)):=opI λi j _ _ _ _ _ hc q=>by
 have h1:(0:Int)<j:=hc.1;have h2:j<2 ^ 100:=hc.2;refine floordiv_int (by lia) (by rw[Int.fdiv_eq_ediv_of_nonneg i (by lia)];exact q) (.inl (PyProof.noPylong_of_log2 ?_));have h3:j.natAbs<2 ^ 100:=by lia
 have h4:j.natAbs≠0:=by lia
 have:=(Nat.log2_lt h4).mpr h3;lia
def d5:D->D->M D:=lA λi j=>if BB i j then pure (.int (i / j))else M.stuck
theorem RQ:OpD X Z (jX .FloorDiv) d5:=sH vz
def j3:D->D->M D:=lA λi j=>if 0<j then pure (.int (i % j))else M.stuck
theorem pU:OpD X Z (jX .Mod) j3:=sH kQ
instance (i j:Int):Decidable (u7 i j):=by unfold u7;infer_instance
def E3:D->D->M D:=lA λi j=>if u7 i j then pure (.int (i ^ j.toNat))else M.stuck
theorem vh:OpD X Z (jX .Pow) E3:=sH cJ
theorem DV{w:zT}{s:zm}{t b:Addr}{ws:List zi}(ht:XT s.heap t #[])(hb:XT s.heap b ws.toArray)
 (h1:Q (.ref b) s):zw (zF prog w) A (jX .Add (.ref t) (.ref b)) Q E s:=by
 obtain⟨⟨cls,dd,data,sl⟩,ho,hc,n,hd⟩:=id ht;obtain⟨⟨cls2,dd2,data2,sl2⟩,Pg,hc2,n2,hd2⟩:=id hb;simp only at hc hd hc2 hd2;subst hc hd hc2 hd2;exact concat_meets ⟨_,ho,rfl⟩ ⟨_,Pg,rfl⟩ XD JB Zp Zl (Zd _ _)
  (tuple_addW0 t b #[] ws.toArray n n2 dd dd2 sl sl2 (by simp)) ⟨ho,Pg,h1⟩
def TZ(K:zg):R2:=λx y H Q=>∃a b ys,x= .ref a/\y= .ref b/\SqT K H a []/\SqT K H b ys/\Q (.ref b) H
theorem vY:OpR X (jX .Add) (TZ X.K):=by
 intro Nc s σ H x y v u Q I rx ry h;obtain⟨a,b,ys,rfl,rfl,ha,hb,q⟩:=h
 cases rx
 cases ry
 obtain⟨Nf,r,p,_⟩:=I.tuple ha;obtain⟨its2,r2,p2,_⟩:=I.tuple hb
 cases r
 exact DV p p2 ⟨.ref b,H,I,rfl,q⟩
def u0:D->D->M D:=λx y=>match x,y with
 | .int i,.int j=>pure (.int (i+j))
 | .str a,.str b=>if a.length+b.length<=zk then pure (.str (a++b))else M.stuck
 | .tup a,.tup b=>if a.length+b.length<=zk then pure (.tup (a++b))else M.stuck
 | .ref i,.ref j=>do
   match <-M4 i,<-M4 j with
   | .lst a,.lst b=>if a.length+b.length<=zk then K8 (.lst (a++b))else M.stuck
   |_,_=>M.stuck
 |_,_=>M.stuck
theorem aG{Q:VK}(h:m9 c μ G H)(q:SqT c.K H a vs)(r:m5 c μ H xs vs)
 (p:d7 c Z μ H (some (Except.ok (.tup xs),G)) λd X2 _ H'=>∀v,d8 c X2 H' d v->Q v H'):Q (.ref a) H:=d7.ok p h _ (by unfold d8;exact⟨a,vs,rfl,q,r⟩)
theorem GQ:OpD X Z (jX .Add) u0:=
 OpD.of (OpR.or IP (OpR.or pV (OpR.or qv (OpR.or vY PX)))) λx y H Q Ng=>Ng.elim λdx dy μ G rx ry hr p=>by
  rcases dx with _|_|_|_|_|_|_|_<;>rcases dy with _|_|_|_|_|_|_|_<;>first
   |exact p.elim
   |skip
  ·exact .inl ⟨_,_,T5 rx,T5 ry,d7.ok p hr _ ofI⟩
  · rename_i a b;refine .inr (.inl ?_);unfold u0 at p;dsimp only at p;split at p
    ·rename_i hz;exact⟨a,b,S2 rx,S2 ry,hz,d7.ok p hr _ ofS⟩
    ·exact p.elim
  · rename_i a b;unfold d8 at rx ry;obtain⟨ax,vx,rfl,qx,lx⟩:=rx;obtain⟨ay,vy,rfl,qy,ly⟩:=ry;unfold u0 at p;dsimp only at p;split at p
    · rename_i hz;by_cases hv:vx= []
      · subst hv;rcases a with _|⟨_,_⟩
        ·exact .inr (.inr (.inr (.inl ⟨ax,ay,vy,rfl,rfl,qx,qy,aG hr qy ly p⟩)))
        ·obtain⟨_,_,z,_⟩:=lx;cases z
      · refine .inr (.inr (.inl ⟨ax,ay,vx,vy,rfl,rfl,qx,qy,hv,by rw[<-lx.length,<-ly.length];exact hz,?_⟩));refine⟨λhy=>?_,λhy q hq=>iE hr (lx.append ly) p q hq⟩;subst hy;refine aG hr qx ?_ p;rcases b with _|⟨_,_⟩
        ·rw[jP];exact lx
        ·obtain⟨_,_,z,_⟩:=ly;cases z
    ·exact p.elim
  · rename_i i j;unfold d8 at rx ry;obtain⟨ax,mx,rfl⟩:=rx;obtain⟨ay,my,rfl⟩:=ry;obtain⟨ox,gx,p⟩:=w6 p;obtain⟨oy,gy,p⟩:=w6 p;have hx:=hr.obj i ox ax gx mx;have hy:=hr.obj j oy ay gy my;rcases ox with _|_|_|_<;>rcases oy with _|_|_|_<;>first
     |exact p.elim
     |skip
    obtain⟨vx,ex,lx⟩:=hx;obtain⟨vy,ey,ly⟩:=hy;dsimp only at p;split at p
    ·rename_i hz;exact .inr (.inr (.inr (.inr ⟨ax,ay,vx,vy,rfl,rfl,ex,ey,by rw[<-lx.length,<-ly.length];exact hz,λq hq=>Q8 hr (lx.append ly) p q hq⟩)))
    ·exact p.elim
end
def W9(G:DH):D->Option (Bool×List D)
 | .tup l=>some (true,l)
 | .ref i=>match G[i]? with
   |some (.lst l)=>some (false,l)
   |some (.rol l)=>some (false,l)
   |_=>none
 |_=>none
def d4:D->Bool
 | .non=>true
 | .bl _=>true
 | .int _=>true
 | .str _=>true
 |_=>false
def eqS:D->D->Option Bool
 | .non,.non=>some true
 | .bl a,.bl b=>some (a==b)
 | .int a,.int b=>some (a==b)
 | .str a,.str b=>some (a==b)
 | .bl a,.int b=>some ((if a then (1:Int)else 0)==b)
 | .int a,.bl b=>some (a==(if b then (1:Int)else 0))
 |x,y=>if d4 x&&d4 y then some false else none
def eqL(f:D->D->Option Bool):List D->List D->Option Bool
 |[], []=>some true
 |[],_::_=>some false
 |_::_, []=>some false
 |x::xs,y::ys=>match f x y,eqL f xs ys with
   |some e,some r=>some (e&&r)
   |_,_=>none
def eqN:Nat->DH->D->D->Option Bool
 |0,_,_,_=>none
 |n+1,G,x,y=>match W9 G x,W9 G y with
   |some (k1,a),some (k2,b)=>if k1=k2 then (if k1=false/\a.length≠b.length then some false else eqL (eqN n G) a b)else some false
   |some _,none=>if d4 y then some false else none
   |none,some _=>if d4 x then some false else none
   |none,none=>eqS x y
theorem FA:eqN (n+1) G x y=match W9 G x,W9 G y with
 |some (k1,a),some (k2,b)=>if k1=k2 then (if k1=false/\a.length≠b.length then some false else eqL (eqN n G) a b)else some false
 |some _,none=>if d4 y then some false else none
 |none,some _=>if d4 x then some false else none
 |none,none=>eqS x y:=rfl
theorem LD:eqL f (x::xs) (y::ys)=match f x y,eqL f xs ys with
 |some e,some r=>some (e&&r)
 |_,_=>none:=rfl
theorem bK:∀a b r,eqL f a b=some r->(∀j x y,a[j]? =some x->b[j]? =some y->f x y=some (e j))->r= ((zK (min a.length b.length)).all e&&a.length==b.length)
 |[], [],r,h,_=>by cases h;rfl
 |[],_::_,r,h,_=>by cases h;simp
 |_::_, [],r,h,_=>by cases h;simp
 |x::xs,y::ys,r,h,he=>by
   rw[LD]at h;have h0:=he 0 x y rfl rfl;rw[h0]at h;rcases hr:eqL f xs ys with _|r'
   ·rw[hr]at h;exact t6 h
   ·
     rw[hr]at h;have ih:=bK xs ys r' hr λj x' y' h1 h2=>he (j+1) x' y' (by simpa using h1) (by simpa using h2)
     cases h
     rw[ih];have:min (x::xs).length (y::ys).length=min xs.length ys.length+1:=by simp only[zq];lia
     rw[this,ZI,yS,List.all_map];simp[Bool.and_assoc,Jq]
theorem HF:∀a b r,eqL f a b=some r->∀(j:Nat) x y,a[j]? =some x->b[j]? =some y->∃e,f x y=some e
 |[],_,_,_,_,_,_,h,_=>by simp at h
 |_::_, [],_,_,_,_,_,_,h=>by simp at h
 |x::xs,y::ys,r,h,j,x',y',h1,h2=>by
   rw[LD]at h;rcases hf:f x y with _|e
   ·rw[hf]at h;exact t6 h
   ·
     rcases hr:eqL f xs ys with _|r'
     ·rw[hf,hr]at h;exact t6 h
     ·
       cases j with
       |zero=>simp at h1 h2;subst h1 h2;exact⟨e,hf⟩
       |succ j=>exact HF xs ys r' hr j x' y' (by simpa using h1) (by simpa using h2)
section
def IC(s:zm)(k:Bool)(a:Addr)(Nf:List zi):Prop:=if k then s.heap.IsTuple a Nf.toArray else s.heap.IsList a Nf.toArray
theorem u8(I:Inv X Nc σ H s)(h:m9 (wc X) μ G H)(e:W9 G d=some (k,l))(r:d8 (wc X) μ H d x)(rv:o7 x v):
 ∃a vs Nf,x= .ref a/\v= .ref a/\m5 (wc X) μ H l vs/\o5 vs Nf/\IC s k a Nf/\(if k then SqT X.K H a vs else SqL X.K H a vs):=by
 rcases d with _|_|_|_|l'|i|_|_<;>try (cases e;done)
 ·
   unfold W9 at e
   cases e
   unfold d8 at r;obtain⟨a,vs,rfl,q,rl⟩:=r;obtain⟨Nf,rr,p,_⟩:=I.tuple q;exact⟨a,vs,Nf,rfl,rv,rl,rr,p,q⟩
 ·
   have e':(match G[i]? with|some (.lst l)=>some (false,l)|some (.rol l)=>some (false,l)|_=>none)=some (k,l):=e;unfold d8 at r;obtain⟨a,m,rfl⟩:=r;have key:∀vs,SqL X.K H a vs->m5 (wc X) μ H l vs->k=false->∃a' vs Nf,V.ref a= .ref a'/\v= .ref a'/\m5 (wc X) μ H l vs/\o5 vs Nf/\IC s k a' Nf/\(if k then SqT X.K H a' vs else SqL X.K H a' vs):=λvs q rl hk=>by subst hk;obtain⟨Nf,rr,p,_⟩:=I.list q;exact⟨a,vs,Nf,rfl,rv,rl,rr,p.isList,q⟩
   generalize g:G[i]? =o at e';rcases o with _|l'|l'|_|_<;>cases e'
   ·obtain⟨vs,q,rl⟩:=h.obj i _ a g m;exact key vs (SqL.of q) rl rfl
   ·obtain⟨vs,q,rl⟩:=h.obj i _ a g m;exact key vs q.sq rl rfl
theorem lK(hs:d4 d=true)(r:d8 c μ H d (.ref a)):False:=by
 cases d<;>first
  |exact absurd (show false=true from hs) zR
  |(unfold d8 at r;cases r)
theorem qM(h:eqS x y=some b):d4 x=true/\d4 y=true:=by
 rcases x with _|_|_|_|_|_|_|_<;>rcases y with _|_|_|_|_|_|_|_<;>first
  |exact⟨rfl,rfl⟩
  |(cases h;done)
theorem kP(h:eqS x y=some b)(rx:d8 c μ H x v)(ry:d8 c μ H y v):b=true:=by
 obtain⟨s1,s2⟩:=qM h;rcases x with _|_|_|_|_|_|_|_<;>rcases y with _|_|_|_|_|_|_|_<;>first
  |(cases s1;done)
  |(cases s2;done)
  |(unfold d8 at rx ry;rw[rx]at ry;cases ry;done)
  |(unfold d8 at rx ry;rw[rx]at ry;cases ry;cases h;first|rfl|simp)
theorem OZ(I:Inv X Nc σ H s)(h1:IC s k a Nf)(h2:IC s k' a its'):k=k':=by
 cases k<;>cases k'<;>first
  |rfl
  |exact absurd rfl (XX h1 h2)
  |exact absurd rfl (XX h2 h1)
theorem CK:∀l l' vs b,m5 c μ H l vs->m5 c μ H l' vs->(∀d d' v b,v∈vs->d8 c μ H d v->d8 c μ H d' v->f d d'=some b->b=true)->eqL f l l'=some b->b=true
 |[], [],_,b,_,_,_,e=>by cases e;rfl
 |[],_::_,vs,b,r1,r2,_,_=>by cases r1;obtain⟨_,_,z,_⟩:=r2;exact UD z
 |_::_, [],vs,b,r1,r2,_,_=>by cases r2;obtain⟨_,_,z,_⟩:=r1;cases z
 |d::ds,d'::ds',vs,b,r1,r2,k,e=>by
   obtain⟨v0,vr,rfl,q0,t0⟩:=r1;obtain⟨v1,vr',e1,q1,t1⟩:=r2
   cases e1
   rw[LD]at e;rcases hf:f d d' with _|e0
   ·rw[hf]at e;exact t6 e
   ·
     rcases hr:eqL f ds ds' with _|r'
     ·rw[hf,hr]at e;exact t6 e
     ·
       rw[hf,hr]at e
       cases e
       have z1:=k d d' v0 e0 zt q0 q1 hf;have z2:=CK ds ds' vr r' t0 t1 (λa a' v b hm=>k a a' v b (zl _ hm)) hr;rw[z1,z2];rfl
theorem tO(I:Inv X Nc σ H s)(h:m9 (wc X) μ G H):∀n {dx dy} {x} {v} {b},d8 (wc X) μ H dx x->d8 (wc X) μ H dy x->o7 x v->eqN n G dx dy=some b->b=true
 |0,_,_,_,_,_,_,_,_,e=>by exact t6 e
 |n+1,dx,dy,x,v,b,rx,ry,rv,e=>by
   rw[FA]at e;rcases hx:W9 G dx with _|p
   ·
     rw[hx]at e;rcases hy:W9 G dy with _|p
     ·rw[hy]at e;exact kP e rx ry
     ·
       obtain⟨k,l⟩:=p;rw[hy]at e;dsimp only at e;split at e
       ·rename_i hs;obtain⟨a,_,_,rfl,_⟩:=u8 I h hy ry rv;exact(lK hs rx).elim
       ·exact t6 e
   ·
     obtain⟨k,l⟩:=p;rw[hx]at e;rcases hy:W9 G dy with _|p'
     ·
       rw[hy]at e;dsimp only at e;split at e
       ·rename_i hs;obtain⟨a,_,_,rfl,_⟩:=u8 I h hx rx rv;exact(lK hs ry).elim
       ·exact t6 e
     ·
       obtain⟨k',l'⟩:=p';rw[hy]at e;dsimp only at e;obtain⟨a,vs,Nf,rfl,rfl,rl,rr,sq,q⟩:=u8 I h hx rx rv;obtain⟨a',Pc,its',ea,_,Nx,rr',sq',q'⟩:=u8 I h hy ry rv
       cases ea
       have hk:k=k':=OZ I sq sq';subst hk;have hvs:vs=Pc:=by
        rcases k with _|_
        ·exact I.list_inj q q'
        ·exact I.tuple_inj q q'
       subst hvs;rw[if_pos rfl,if_neg (by rw[rl.length,Nx.length];simp)]at e;have hv:∀v∈vs,∃u,o7 v u:=λv hv=>by obtain⟨i,hi⟩:=Jy hv;obtain⟨u,_,ru⟩:=rr.get hi;exact⟨u,ru⟩
       exact CK l l' vs b rl Nx (λd d' v b hm r1 r2 ef=>by obtain⟨u,ru⟩:=hv v hm;exact tO I h n r1 r2 ru ef) e
theorem bX(rx:d8 c μ H dx x)(ry:d8 c μ H dy y)(rv:o7 x v)(ru:o7 y u)(e:eqS dx dy=some b):
 Yk A s v u b/\Zx A s v u (!b)/\yA A s v u b:=by
 obtain⟨s1,s2⟩:=qM e;rcases dx with _|i|i|i|_|_|_|_<;>try (cases s1;done)
 ·
   unfold d8 at rx;subst rx;cases rv;rcases dy with _|j|j|j|_|_|_|_<;>try (cases s2;done)
   ·unfold d8 at ry;subst ry;cases ru;cases e;exact⟨SeqAt.RcAt.none_none,SeqAt.RcNeAt.none_none,Ys _⟩
   ·unfold d8 at ry;subst ry;cases ru;cases e;exact⟨SeqAt.RcAt.none_bool _,SeqAt.RcNeAt.none_bool _,Xq _⟩
   ·unfold d8 at ry;subst ry;obtain⟨t,rfl⟩:=ru;cases e;exact⟨SeqAt.RcAt.none_int _ _,SeqAt.RcNeAt.none_int _ _,XI _ _⟩
   ·unfold d8 at ry;subst ry;obtain⟨t,rfl⟩:=ru;cases e;exact⟨SeqAt.RcAt.none_str _ _,SeqAt.RcNeAt.none_str _ _,XH _ _⟩
 ·
   unfold d8 at rx;subst rx;cases rv;rcases dy with _|j|j|j|_|_|_|_<;>try (cases s2;done)
   ·unfold d8 at ry;subst ry;cases ru;cases e;exact⟨SeqAt.RcAt.bool_none _,SeqAt.RcNeAt.bool_none _,Xr _⟩
   ·unfold d8 at ry;subst ry;cases ru;cases e;exact⟨SeqAt.RcAt.bool_bool _ _,SeqAt.RcNeAt.bool_bool _ _,Xs _ _⟩
   ·unfold d8 at ry;subst ry;obtain⟨t,rfl⟩:=ru;cases e;exact⟨SeqAt.RcAt.bool_int _ _ _,SeqAt.RcNeAt.bool_int _ _ _,XO _ _ _⟩
   ·unfold d8 at ry;subst ry;obtain⟨t,rfl⟩:=ru;cases e;exact⟨SeqAt.RcAt.bool_str _ _ _,SeqAt.RcNeAt.bool_str _ _ _,XM _ _ _⟩
 ·
   unfold d8 at rx;subst rx;obtain⟨t,rfl⟩:=rv;rcases dy with _|j|j|j|_|_|_|_<;>try (cases s2;done)
   ·unfold d8 at ry;subst ry;cases ru;cases e;exact⟨SeqAt.RcAt.int_none _ _,SeqAt.RcNeAt.int_none _ _,XJ _ _⟩
   ·unfold d8 at ry;subst ry;cases ru;cases e;exact⟨SeqAt.RcAt.int_bool _ _ _,SeqAt.RcNeAt.int_bool _ _ _,XL _ _ _⟩
   ·unfold d8 at ry;subst ry;obtain⟨t,rfl⟩:=ru;cases e;exact⟨SeqAt.RcAt.int_int _ _ _ _,SeqAt.RcNeAt.int_int _ _ _ _,XS _ _ _ _⟩
   ·unfold d8 at ry;subst ry;obtain⟨t,rfl⟩:=ru;cases e;exact⟨SeqAt.RcAt.int_str _ _ _ _,SeqAt.RcNeAt.int_str _ _ _ _,ZQ _ _ _ _⟩
 ·
   unfold d8 at rx;subst rx;obtain⟨t,rfl⟩:=rv;rcases dy with _|j|j|j|_|_|_|_<;>try (cases s2;done)
   ·unfold d8 at ry;subst ry;cases ru;cases e;exact⟨SeqAt.RcAt.str_none _ _,SeqAt.RcNeAt.str_none _ _,XF _ _⟩
   ·unfold d8 at ry;subst ry;cases ru;cases e;exact⟨SeqAt.RcAt.str_bool _ _ _,SeqAt.RcNeAt.str_bool _ _ _,XG _ _ _⟩
   ·unfold d8 at ry;subst ry;obtain⟨t,rfl⟩:=ru;cases e;exact⟨SeqAt.RcAt.str_int _ _ _ _,SeqAt.RcNeAt.str_int _ _ _ _,ZP _ _ _ _⟩
   ·unfold d8 at ry;subst ry;obtain⟨t,rfl⟩:=ru;cases e;exact⟨SeqAt.RcAt.str_str _ _ _ _,SeqAt.RcNeAt.str_str _ _ _ _,XR _ _ _ _⟩
theorem dP(hu:A.units<yU)(sq:IC s k a Nf)(ry:d8 c μ H dy y)(ru:o7 y u)(hs:d4 dy=true):
 (Yk A s (.ref a) u false/\Zx A s (.ref a) u true/\yA A s (.ref a) u false)/\(Yk A s u (.ref a) false/\Zx A s u (.ref a) true/\yA A s u (.ref a) false):=by
 rcases k with _|_
 ·
   rcases dy with _|j|j|j|_|_|_|_<;>try (cases hs;done)
   ·unfold d8 at ry;subst ry;cases ru;exact⟨⟨.list_none sq hu,.list_none sq hu,.list_none sq hu⟩,.none_list sq hu,.none_list sq hu,.none_list sq hu⟩
   ·unfold d8 at ry;subst ry;cases ru;exact⟨⟨.list_bool _ sq hu,.list_bool _ sq hu,.list_bool _ sq hu⟩,.bool_list _ sq hu,.bool_list _ sq hu,.bool_list _ sq hu⟩
   ·unfold d8 at ry;subst ry;obtain⟨t,rfl⟩:=ru;exact⟨⟨.list_int _ _ sq hu,.list_int _ _ sq hu,.list_int _ _ sq hu⟩,.int_list _ _ sq hu,.int_list _ _ sq hu,.int_list _ _ sq hu⟩
   ·unfold d8 at ry;subst ry;obtain⟨t,rfl⟩:=ru;exact⟨⟨.list_str _ _ sq hu,.list_str _ _ sq hu,.list_str _ _ sq hu⟩,.str_list _ _ sq hu,.str_list _ _ sq hu,.str_list _ _ sq hu⟩
 ·
   rcases dy with _|j|j|j|_|_|_|_<;>try (cases hs;done)
   ·unfold d8 at ry;subst ry;cases ru;exact⟨⟨.tuple_none sq hu,.tuple_none sq hu,.tuple_none sq hu⟩,.none_tuple sq hu,.none_tuple sq hu,.none_tuple sq hu⟩
   ·unfold d8 at ry;subst ry;cases ru;exact⟨⟨.tuple_bool _ sq hu,.tuple_bool _ sq hu,.tuple_bool _ sq hu⟩,.bool_tuple _ sq hu,.bool_tuple _ sq hu,.bool_tuple _ sq hu⟩
   ·unfold d8 at ry;subst ry;obtain⟨t,rfl⟩:=ru;exact⟨⟨.tuple_int _ _ sq hu,.tuple_int _ _ sq hu,.tuple_int _ _ sq hu⟩,.int_tuple _ _ sq hu,.int_tuple _ _ sq hu,.int_tuple _ _ sq hu⟩
   ·unfold d8 at ry;subst ry;obtain⟨t,rfl⟩:=ru;exact⟨⟨.tuple_str _ _ sq hu,.tuple_str _ _ sq hu,.tuple_str _ _ sq hu⟩,.str_tuple _ _ sq hu,.str_tuple _ _ sq hu,.str_tuple _ _ sq hu⟩
theorem cC(I:Inv X Nc σ H s)(h:m9 (wc X) μ G H):∀n A,A.units+n<yU->∀ {dx dy} {x y:V} {v u} {b:Bool},d8 (wc X) μ H dx x->d8 (wc X) μ H dy y->o7 x v->o7 y u->eqN n G dx dy=some b->
 Yk A s v u b/\Zx A s v u (!b)/\yA A s v u b
 |0,_,_,_,_,_,_,_,_,_,_,_,_,_,e=>by exact t6 e
 |n+1,A,hu,dx,dy,x,y,v,u,b,rx,ry,rv,ru,e=>by
   have hu0:A.units<yU:=by lia
   have hu1:A.in1.units+n<yU:=by show A.units+1+n<yU;lia
   have e0:=e;rw[FA]at e;rcases hx:W9 G dx with _|p
   ·
     rw[hx]at e;rcases hy:W9 G dy with _|p
     ·rw[hy]at e;exact bX rx ry rv ru e
     ·
       obtain⟨k,l⟩:=p;rw[hy]at e;dsimp only at e;split at e
       · rename_i hs
         cases e
         obtain⟨a,vs,Nf,rfl,rfl,_,_,sq,_⟩:=u8 I h hy ry ru;exact(dP hu0 sq rx rv hs).2
       ·exact t6 e
   ·
     obtain⟨k,l⟩:=p;rw[hx]at e;obtain⟨a,vs,Nf,rfl,rfl,rl,rr,sq,q⟩:=u8 I h hx rx rv;rcases hy:W9 G dy with _|p'
     ·
       rw[hy]at e;dsimp only at e;split at e
       · rename_i hs
         cases e
         exact(dP hu0 sq ry ru hs).1
       ·exact t6 e
     ·
       obtain⟨k',l'⟩:=p';rw[hy]at e;dsimp only at e;obtain⟨a',Pc,its',rfl,rfl,Nx,rr',sq',q'⟩:=u8 I h hy ry ru
       -- the two at one place
       have main:Yk A s (.ref a) (.ref a') b/\Zx A s (.ref a) (.ref a') (!b):=by
        have len1:Nf.toArray.size=l.length:=by rw[zo,<-rr.length,rl.length]
        have len2:its'.toArray.size=l'.length:=by rw[zo,<-rr'.length,Nx.length]
        by_cases hk:k=k'
        · subst hk;rw[if_pos rfl]at e;by_cases Nh:k=false/\l.length≠l'.length
          · rw[if_pos Nh]at e
            cases e
            obtain⟨rfl,Pd⟩:=Nh;have hz:(Nf.toArray.size != its'.toArray.size)=true:=by rw[len1,len2];simpa using Pd
            exact⟨SeqAt.RcAt.lists_lengths sq sq' hz hu0,SeqAt.RcNeAt.lists_lengths sq sq' hz hu0⟩
          · rw[if_neg Nh]at e;have items:∀j (h1:j<Nf.toArray.size) (h2:j<its'.toArray.size),∃e,eqN n G (l.getD j .non) (l'.getD j .non)=some e/\yA A.in1 s Nf.toArray[j] its'.toArray[j] e:=λj h1 h2=>by
             have j1:j<l.length:=by rw[<-len1];exact h1
             have j2:j<l'.length:=by rw[<-len2];exact h2
             have g1:l[j]? =some l[j]:=zn j1;have g2:l'[j]? =some l'[j]:=zn j2;obtain⟨e1,he1⟩:=HF l l' b e j _ _ g1 g2;obtain⟨v1,hv1,r1⟩:=rl.get g1;obtain⟨v2,hv2,r2⟩:=Nx.get g2;obtain⟨u1,hu1',ru1⟩:=rr.get hv1;obtain⟨u2,hu2',ru2⟩:=rr'.get hv2;have w1:Nf.toArray[j]=u1:=by
              have:Nf.toArray[j]? =some u1:=by simpa using hu1'
              rw[zJ h1]at this;exact jo this
             have w2:its'.toArray[j]=u2:=by
              have:its'.toArray[j]? =some u2:=by simpa using hu2'
              rw[zJ h2]at this;exact jo this
             rw[w1,w2];refine⟨e1,?_,(cC I h n A.in1 hu1 r1 r2 ru1 ru2 he1).2.2⟩;rw[zA,zA,g1,g2];exact he1
            have hr:=bK (e:=λj=>(eqN n G (l.getD j .non) (l'.getD j .non)).getD false) l l' b e λj x y g1 g2=>by obtain⟨e1,he1⟩:=HF l l' b e j x y g1 g2;rw[zA,zA,g1,g2];simp only[Option.getD_some];rw[he1];rfl
            have he:∀j (h1:j<Nf.toArray.size) (h2:j<its'.toArray.size),yA A.in1 s Nf.toArray[j] its'.toArray[j] ((eqN n G (l.getD j .non) (l'.getD j .non)).getD false):=λj h1 h2=>by obtain⟨e1,he1,hh⟩:=items j h1 h2;rw[he1];exact hh
            rcases k with _|_
            ·
              have hl:l.length=l'.length:=jA λz=>Nh ⟨rfl,z⟩;have hsz:Nf.toArray.size=its'.toArray.size:=by rw[len1,len2,hl]
              have z1:=SeqAt.RcAt.lists sq sq' hsz hu0 he;have z2:=SeqAt.RcNeAt.lists sq sq' hsz hu0 he;have hr2:b= (zK Nf.toArray.size).all λj=>(eqN n G (l.getD j .non) (l'.getD j .non)).getD false:=by rw[hr,len1,hl];simp
              rw[<-hr2]at z1 z2;exact⟨z1,z2⟩
            ·
              have z1:=SeqAt.RcAt.tuples sq sq' hu0 he;have z2:=SeqAt.RcNeAt.tuples sq sq' hu0 he;rw[len1,len2,<-hr]at z1 z2;exact⟨z1,z2⟩
        · rw[if_neg hk]at e
          cases e
          cases k<;>cases k'<;>first
           |exact absurd rfl hk
           |exact⟨SeqAt.RcAt.list_tuple sq sq' hu0,SeqAt.RcNeAt.list_tuple sq sq' hu0⟩
           |exact⟨SeqAt.RcAt.tuple_list sq sq' hu0,SeqAt.RcNeAt.tuple_list sq sq' hu0⟩
       refine⟨main.1,main.2,?_⟩;by_cases ha:a=a'
       ·subst ha;have:b=true:=tO I h (n+1) rx ry rv e0;rw[this];exact Ys _
       ·exact SeqAt.EqAt.of_refs ha main.1
end
section
def eqD:D->D->M D:=λx y G=>match eqN 40 G x y with
 |some b=>some (.ok (.bl b),G)
 |none=>none
def neD:D->D->M D:=λx y G=>match eqN 40 G x y with
 |some b=>some (.ok (.bl (!b)),G)
 |none=>none
theorem Gc(hu:X.A.units+64<yU):OpD X Z (jc .Eq) eqD:=⟨by
 intro Nc s σ H x y v u Q I rx ry Ng;refine Ng.elim λdx dy μ G Pj Pk hr p=>?_;unfold eqD at p;rcases e:eqN 40 G dx dy with _|b
 ·rw[e]at p;exact p.elim
 ·
   rw[e]at p;exact(cC I hr 40 X.A (by lia) Pj Pk rx ry e).1 X.prog X.w X.xe _ ⟨.bl b,H,I,rfl,d7.ok p hr _ ofB⟩⟩
theorem qZ(hu:X.A.units+64<yU):OpD X Z (jc .NotEq) neD:=⟨by
 intro Nc s σ H x y v u Q I rx ry Ng;refine Ng.elim λdx dy μ G Pj Pk hr p=>?_;unfold neD at p;rcases e:eqN 40 G dx dy with _|b
 ·rw[e]at p;exact p.elim
 ·
   rw[e]at p;exact(cC I hr 40 X.A (by lia) Pj Pk rx ry e).2.1 X.prog X.w X.xe _ ⟨.bl (!b),H,I,rfl,d7.ok p hr _ ofB⟩⟩
def leD:D->D->M D:=λx y=>match x,y with
 | .int i,.int j=>pure (.bl (decide (i<=j)))
 | .str i,.str j=>pure (.bl (!decide (j.cps.toList<i.cps.toList)))
 |_,_=>M.stuck
def gtD:D->D->M D:=λx y=>match x,y with
 | .int i,.int j=>pure (.bl (decide (j<i)))
 | .str i,.str j=>pure (.bl (decide (j.cps.toList<i.cps.toList)))
 |_,_=>M.stuck
def geD:D->D->M D:=λx y=>match x,y with
 | .int i,.int j=>pure (.bl (decide (j<=i)))
 | .str i,.str j=>pure (.bl (!decide (i.cps.toList<j.cps.toList)))
 |_,_=>M.stuck
theorem oG{op:CmpOp}{fi:Int->Int->Bool}{fs:Str->Str->Bool}(hi:OpR X (jc op) (j8 λi j=>.bl (fi i j)))
 (hs:∀(i j:Str) (t u:Tok) (s:zm) Q E,Q (.bool (fs i j)) s->zw (zF X.prog X.w) X.A (jc op (.str i t) (.str j u)) Q E s)
 (h1:∀i j,o (.int i) (.int j)=pure (.bl (fi i j))) (h2:∀i j,o (.str i) (.str j)=pure (.bl (fs i j)))
 (h3:∀x y,(∀i j,¬(x= .int i/\y= .int j))->(∀i j,¬(x= .str i/\y= .str j))->o x y=M.stuck):OpD X Z (jc op) o:=⟨by
 intro Nc s σ H x y v u Q I rx ry Ng;refine Ng.elim λdx dy μ G Pj Pk hr p=>?_;by_cases c1:∃i j,dx= .int i/\dy= .int j
 ·obtain⟨i,j,rfl,rfl⟩:=c1;rw[h1]at p;exact hi Nc s σ H x y v u Q I rx ry ⟨i,j,T5 Pj,T5 Pk,d7.ok p hr _ ofB⟩
 · by_cases c2:∃i j,dx= .str i/\dy= .str j
   ·obtain⟨i,j,rfl,rfl⟩:=c2;rw[h2]at p;have e1:=S2 Pj;have e2:=S2 Pk;subst e1 e2;obtain⟨t,rfl⟩:=rx;obtain⟨t',rfl⟩:=ry;exact hs i j t t' s _ _ ⟨.bl (fs i j),H,I,rfl,d7.ok p hr _ ofB⟩
   ·rw[h3 dx dy (λi j z=>c1 ⟨i,j,z⟩) (λi j z=>c2 ⟨i,j,z⟩)]at p;exact p.elim⟩
theorem Cw:OpD X Z (jc .LtE) leD:=oG DZ (λ_ _ _ _ _ _ _ q=>PySem.P.le_str q) (λ_ _=>rfl) (λ_ _=>rfl) λx y n1 n2=>by
 rcases x with _|_|_|_|_|_|_|_<;>rcases y with _|_|_|_|_|_|_|_<;>first
  |rfl
  |exact absurd ⟨rfl,rfl⟩ (n1 _ _)
  |exact absurd ⟨rfl,rfl⟩ (n2 _ _)
theorem GV:OpD X Z (jc .Gt) gtD:=oG Lh (λ_ _ _ _ _ _ _ q=>PySem.P.gt_str q) (λ_ _=>rfl) (λ_ _=>rfl) λx y n1 n2=>by
 rcases x with _|_|_|_|_|_|_|_<;>rcases y with _|_|_|_|_|_|_|_<;>first
  |rfl
  |exact absurd ⟨rfl,rfl⟩ (n1 _ _)
  |exact absurd ⟨rfl,rfl⟩ (n2 _ _)
theorem dX:OpD X Z (jc .GtE) geD:=oG fT (λ_ _ _ _ _ _ _ q=>PySem.P.ge_str q) (λ_ _=>rfl) (λ_ _=>rfl) λx y n1 n2=>by
 rcases x with _|_|_|_|_|_|_|_<;>rcases y with _|_|_|_|_|_|_|_<;>first
  |rfl
  |exact absurd ⟨rfl,rfl⟩ (n1 _ _)
  |exact absurd ⟨rfl,rfl⟩ (n2 _ _)
def SG:D->Bool
 | .non=>true
 |_=>false
theorem dN(r:d8 c μ H d v):decide (v= .non)=SG d:=by
 cases d with
 |non=>rw[eC r];rfl
 |tup l=>unfold d8 at r;obtain⟨a,_,rfl,_⟩:=r;rfl
 |ref l=>unfold d8 at r;obtain⟨a,_,rfl⟩:=r;rfl
 |fn l=>unfold d8 at r;obtain⟨a,_,rfl⟩:=r;rfl
 |_=>unfold d8 at r;subst r;rfl
def D6:D->M D:=λx=>match x with
 | .int i=>pure (.int (-i))
 |_=>M.stuck
theorem CU:UnD X Z (unaryOp .USub) D6:=⟨by
 intro Nc s σ H x v Q I rx Ng;refine Ng.elim λdx μ G Pj hr p=>?_
 cases dx<;>first
  |exact p.elim
  |exact qf Nc s σ H x v Q I rx ⟨_,T5 Pj,d7.ok p hr _ ofI⟩⟩
instance (x:Str) (n:Int):Decidable (YV x n):=by unfold YV;infer_instance
def i3:D->D->M D:=λx y=>match x,y with
 | .int i,.int j=>if C7 i j then pure (.int (i*j))else M.stuck
 | .str x,.int n=>if YV x n then pure (.str (Txt.mul x n))else M.stuck
 |_,_=>M.stuck
theorem bZ:OpR X (jX .Mult) (λx y H Q=>∃z n,x= .str z/\y= .int n/\YV z n/\Q (.str (Txt.mul z n)) H):=by intro Nc s σ H x y v u Q I rx ry h;obtain⟨z,n,rfl,rfl,hk,q⟩:=h;obtain⟨t,rfl⟩:=rx;obtain⟨t',rfl⟩:=ry;exact PySem.SB.mul hk λt' k=>⟨.str _,H,I.tok _,⟨_,rfl⟩,q⟩
theorem aR:OpD X Z (jX .Mult) i3:=
 OpD.of (OpR.or nY bZ) λx y H Q Ng=>Ng.elim λdx dy μ G Pj Pk hr p=>by
  rcases dx with _|_|_|_|_|_|_|_<;>rcases dy with _|_|_|_|_|_|_|_<;>first
   |exact p.elim
   |skip
  · unfold i3 at p;dsimp only at p;split at p
    ·rename_i hc;exact .inl ⟨_,_,T5 Pj,T5 Pk,hc,d7.ok p hr _ ofI⟩
    ·exact p.elim
  · unfold i3 at p;dsimp only at p;split at p
    ·rename_i hc;exact .inr ⟨_,_,S2 Pj,T5 Pk,hc,d7.ok p hr _ ofS⟩
    ·exact p.elim
end
def OH(A:jd)(s:zm)(y x:zi)(b:Bool):Prop:=
 ∀(prog:zM) (w:zT) (E:VSP) (Q:VSP),Q (.bool b) s->zw (zF prog w) A (richCompare .Lt y x) Q E s
inductive LtR(A:jd)(s:zm):List zi->List zi->Bool->Prop
 |nil:LtR A s [] [] false
 |nilc {y ys}:LtR A s [] (y::ys) true
 |cnil {x xs}:LtR A s (x::xs) [] false
 |eq {x y xs ys b}:yA A s x y true->LtR A s xs ys b->LtR A s (x::xs) (y::ys) b
 |ne {x y xs ys b}:yA A s x y false->OH A s x y b->LtR A s (x::xs) (y::ys) b
section
open PySem.SeqAt
open PySem.AutoSeq1 (wpAny_loadPart')
open PySem.MeetsSeq PySem.MeetsSeq2 PySem.MeetsSeq3
theorem BX(l b:Addr)(items Nj:Array zi)(n n2:Nat)(dd dd2:Option Addr)(sl sl2:Array (Option zi))(k:Bool):
 Meets (yz.«tuple.__lt__» ⟨[.ref l,.ref b], []⟩)
  (λA R s=>s.heap.get? l=some {cls:=.type "tuple",dict:=dd,data:=.seq items n,slots:=sl}/\s.heap.get? b=some {cls:=.type "tuple",dict:=dd2,data:=.seq Nj n2,slots:=sl2}/\
    LtR A.in1 s items.toList Nj.toList k/\R (.ok (.ret (.bool k))) s):=
 .of_wp λprog w A R s h=>by
  obtain⟨hp,g,d,tk,os⟩:=s;obtain⟨hl,hb,hk,h⟩:=h;have f2:=AutoSeq1.sub_tuple_tuple
  wp_walk using jt hl,jt hb,XA _ (λrest b s'=>b.1=none/\s'= ⟨hp,g,d,tk,os⟩/\∃(vs ws:List zi),rest=vs.zip ws/\
   vs.length+Nj.size=ws.length+items.size/\LtR A.in1 ⟨hp,g,d,tk,os⟩ vs ws k) _
  case turn=>
   rintro⟨y,x⟩ rest b s' ⟨hb',rfl,vs,ws,hz,Nh,hR⟩
   cases hR with
   |nil=>exact SF hz
   |nilc=>exact SF hz
   |cnil=>exact SF hz
   |eq he hR'=>
     rw[xo]at hz;injection hz with hyx hrest;injection hyx with hy hx;subst hy hx;refine za (he prog w _ _ ?_)
     wp_walk
     simp only[zq]at Nh;exact⟨rfl,rfl,_,_,hrest,by lia,hR'⟩
   |ne he hc=>
     rw[xo]at hz;injection hz with hyx hrest;injection hyx with hy hx;subst hy hx;refine za (he prog w _ _ ?_);have hri:=hc prog w
     wp_walk using hri
     exact⟨_,rfl,h⟩
  case fin=>
   rintro⟨b1,b2⟩ s' ⟨hb',rfl,vs,ws,hz,Nh,hR⟩;simp only at hb';subst hb';have hv:k=decide (items.size<Nj.size):=by
    cases hR with
    |nil=>simp only[jO]at Nh;exact(decide_eq_false (by lia)).symm
    |nilc=>simp only[jO,zq]at Nh;exact(decide_eq_true (by lia)).symm
    |cnil=>simp only[jO,zq]at Nh;exact(decide_eq_false (by lia)).symm
    |eq _ _=>rw[xo]at hz;exact UD hz
    |ne _ _=>rw[xo]at hz;exact UD hz
   rw[hv]at h
   wp_walk
   exact⟨_,rfl,by simpa [Builtin.Tuple.tupleCompareSizes]using h⟩
  case h=>
   exact⟨rfl,rfl,items.toList,Nj.toList,rfl,by simp;lia,hk⟩
theorem gY(l b:Addr)(items Nj:Array zi)(n n2:Nat)(dd dd2:Option Addr)(sl sl2:Array (Option zi))(k:Bool):∀vs ws i,items.toList.drop i=vs->Nj.toList.drop i=ws->i<=items.size->i<=Nj.size->
 Meets (yz.«list.__eq__.loop» ⟨[.ref l,.ref b,xp i,xp 0], []⟩)
  (λA R s=>s.heap.get? l=some {cls:=.type "list",dict:=dd,data:=.seq items n,slots:=sl}/\s.heap.get? b=some {cls:=.type "list",dict:=dd2,data:=.seq Nj n2,slots:=sl2}/\
    LtR A.in1 s vs ws k/\R (.ok (.ret (.bool k))) s):=by
 have dropn:∀(a:Array zi) (i:Nat),a.toList.drop i= []->i<=a.size->i=a.size:=λa i e hi=>by have:=List.drop_eq_nil_iff.mp e;simp at this;lia
 have dropc:∀(a:Array zi) (i:Nat) (v:zi) (r:List zi),a.toList.drop i=v::r->i<a.size/\a[((i:Nat):Int).toNat]? =some v/\a.toList.drop (i+1)=r:=λa i v r e=>by
  have Nk:i<a.toList.length:=by
   rcases xZ i a.toList.length with q|q
   ·exact q
   ·rw[List.drop_eq_nil_of_le q]at e;exact UD e
  rw[Zh Nk]at e;injection e with e1 e2;refine⟨by simpa using Nk,?_,e2⟩;simp at Nk;simp[Nk];simpa using e1
 intro vs
 induction vs with
 |nil=>
   intro ws i hv hw hi hi2 prog w A R s h;obtain⟨hp,g,d,tk,os⟩:=s;obtain⟨hl,hb,he,h⟩:=h;have e1:=dropn items i hv hi
   wp_walk using jt hl,jt hb
   have hi1:items[((i:Nat):Int).toNat]? =none:=by simp;lia
   rw[hi1];rcases ws with _|⟨y,ys⟩
   ·
     have e2:=dropn Nj i hw hi2
     cases he
     wp_walk using jt hl,jt hb
     show R (.ok (.ret (.bool (decide (items.size<Nj.size))))) _;rw[decide_eq_false (by lia)];exact h
   ·
     obtain⟨Nk,_,_⟩:=dropc Nj i y ys hw
     cases he
     wp_walk using jt hl,jt hb
     show R (.ok (.ret (.bool (decide (items.size<Nj.size))))) _;rw[decide_eq_true (by lia)];exact h
 |cons x xs ih=>
   intro ws i hv hw hi hi2 prog w A R s h;obtain⟨hp,g,d,tk,os⟩:=s;obtain⟨hl,hb,he,h⟩:=h;obtain⟨Nk,g1,d1⟩:=dropc items i x xs hv
   wp_walk using jt hl,jt hb
   rcases ws with _|⟨y,ys⟩
   ·
     have e2:=dropn Nj i hw hi2;have hi2':Nj[((i:Nat):Int).toNat]? =none:=by simp;lia
     rw[g1,hi2']
     cases he
     wp_walk using jt hl,jt hb
     show R (.ok (.ret (.bool (decide (items.size<Nj.size))))) _;rw[decide_eq_false (by lia)];exact h
   ·
     obtain⟨hlt2,g2,d2⟩:=dropc Nj i y ys hw;have hc:((i:Int)+1)= ((i+1:Nat):Int):=by push_cast;rfl
     rw[g1,g2]
     cases he with
     |eq he he'=>
       refine za (he prog w _ _ ?_)
       wp_walk
       rw[hc];exact⟨xt plain_eq_loop _,yD entry_eq_loop (by rw[yb plain_eq_loop _];exact ih ys (i+1) d1 d2 (by lia) (by lia) prog w A R _ ⟨hl,hb,he',h⟩)⟩
     |ne he hcmp=>
       refine za (he prog w _ _ ?_);have hri:=hcmp prog w
       wp_walk using jt hl,jt hb
       rw[g1,g2]
       wp_walk using hri
       exact h
theorem vS(l b:Addr)(items Nj:Array zi)(n n2:Nat)(dd dd2:Option Addr)(sl sl2:Array (Option zi))(k:Bool):
 Meets (yz.«list.__lt__» ⟨[.ref l,.ref b], []⟩)
  (λA R s=>s.heap.get? l=some {cls:=.type "list",dict:=dd,data:=.seq items n,slots:=sl}/\s.heap.get? b=some {cls:=.type "list",dict:=dd2,data:=.seq Nj n2,slots:=sl2}/\
    LtR A.in1 s items.toList Nj.toList k/\R (.ok (.ret (.bool k))) s):=by
 intro prog w A R s h;obtain⟨hp,g,d,tk,os⟩:=s;obtain⟨hl,hb,he,h⟩:=h;have f3:=AutoSeq1.sub_list_list
 wp_walk using jt hl,jt hb
 exact⟨xt plain_eq_loop _,yD entry_eq_loop (by rw[yb plain_eq_loop _];exact gY l b items Nj n n2 dd dd2 sl sl2 k items.toList Nj.toList 0 rfl rfl (zD _) (zD _) prog w A R _ ⟨hl,hb,he,h⟩)⟩
end
def ltS:D->D->Option Bool
 | .int a,.int b=>some (decide (a<b))
 | .str a,.str b=>some (decide (a.cps.toList<b.cps.toList))
 | .bl a,.bl b=>some (decide (b2i a<b2i b))
 |_,_=>none
def ltL(eq lt:D->D->Option Bool):List D->List D->Option Bool
 |[], []=>some false
 |[],_::_=>some true
 |_::_, []=>some false
 |x::xs,y::ys=>match eq x y with
   |some true=>ltL eq lt xs ys
   |some false=>lt x y
   |none=>none
def ltN:Nat->DH->D->D->Option Bool
 |0,_,_,_=>none
 |n+1,G,x,y=>match W9 G x,W9 G y with
   |some (k1,a),some (k2,b)=>if k1=k2 then ltL (eqN n G) (ltN n G) a b else none
   |none,none=>ltS x y
   |_,_=>none
theorem dW:ltN (n+1) G x y=match W9 G x,W9 G y with
 |some (k1,a),some (k2,b)=>if k1=k2 then ltL (eqN n G) (ltN n G) a b else none
 |none,none=>ltS x y
 |_,_=>none:=rfl
section
theorem vV(rx:d8 c μ H dx x)(ry:d8 c μ H dy y)(rv:o7 x v)(ru:o7 y u)(e:ltS dx dy=some b):OH A s v u b:=by
 intro prog w E Q hq;rcases dx with _|_|_|_|_|_|_|_<;>rcases dy with _|_|_|_|_|_|_|_<;>first
  |(cases e;done)
  |skip
 · cases e
   unfold d8 at rx ry;subst rx ry;cases rv;cases ru;exact(lt_bool hq:zw (zF prog w) A (jc .Lt _ _) Q E s)
 · cases e
   unfold d8 at rx ry;subst rx ry;obtain⟨t,rfl⟩:=rv;obtain⟨t',rfl⟩:=ru;exact(lt_int hq:zw (zF prog w) A (jc .Lt _ _) Q E s)
 · cases e
   unfold d8 at rx ry;subst rx ry;obtain⟨t,rfl⟩:=rv;obtain⟨t',rfl⟩:=ru;exact(lt_str hq:zw (zF prog w) A (jc .Lt _ _) Q E s)
theorem lt_at(I:Inv X Nc σ H s)(h:m9 (wc X) μ G H):∀n A,A.units+n<yU->∀ {dx dy} {x y} {v u} {b},d8 (wc X) μ H dx x->d8 (wc X) μ H dy y->o7 x v->o7 y u->ltN n G dx dy=some b->OH A s v u b
 |0,_,_,_,_,_,_,_,_,_,_,_,_,_,e=>by exact t6 e
 |n+1,A,hu,dx,dy,x,y,v,u,b,rx,ry,rv,ru,e=>by
   have hu0:A.units<yU:=by lia
   have hu1:A.in1.units+n<yU:=by show A.units+1+n<yU;lia
   rw[dW]at e;rcases hx:W9 G dx with _|p
   ·
     rw[hx]at e;rcases hy:W9 G dy with _|p
     ·rw[hy]at e;exact vV rx ry rv ru e
     ·rw[hy]at e;exact t6 e
   ·
     obtain⟨k,l⟩:=p;rw[hx]at e;rcases hy:W9 G dy with _|p'
     ·rw[hy]at e;exact t6 e
     ·
       obtain⟨k',l'⟩:=p';rw[hy]at e;dsimp only at e;split at e
       case isFalse=>exact t6 e
       rename_i hk;subst hk;obtain⟨a,vs,Nf,rfl,rfl,rl,rr,sq,q⟩:=u8 I h hx rx rv;obtain⟨a',Pc,its',rfl,rfl,Nx,rr',sq',q'⟩:=u8 I h hy ry ru;have main:∀(l l':List D) (vs Pc:List V) (Nf its':List zi),m5 (wc X) μ H l vs->m5 (wc X) μ H l' Pc->o5 vs Nf->o5 Pc its'->ltL (eqN n G) (ltN n G) l l'=some b->LtR A.in1 s Nf its' b:=by
        intro l
        induction l with
        |nil=>
          intro l' vs Pc Nf its' r r' q q' e
          cases r;cases q
          rcases l' with _|⟨_,_⟩
          ·cases r';cases q';cases e;exact .nil
          ·
            obtain⟨_,_,rfl,_,_⟩:=r'
            cases q'
            cases e
            exact .nilc
        |cons d ds ih=>
          intro l' vs Pc Nf its' r r' q q' e;obtain⟨v0,vr,rfl,r0,rt⟩:=r
          cases q with
          |cons q0 qt=>
            rcases l' with _|⟨d',ds'⟩
            ·cases r';cases q';cases e;exact .cnil
            ·
              obtain⟨v1,vr',rfl,r1,rt'⟩:=r'
              cases q' with
              |cons q1 qt'=>
                unfold ltL at e;rcases he:eqN n G d d' with _|b0
                ·rw[he]at e;exact t6 e
                ·
                  rw[he]at e;have hE:=(cC I h n A.in1 hu1 r0 r1 q0 q1 he).2.2;rcases b0 with _|_
                  ·exact .ne hE (lt_at I h n A.in1 hu1 r0 r1 q0 q1 e)
                  ·exact .eq hE (ih ds' vr vr' _ _ rt rt' qt qt' e)
       have hR:=main l l' vs Pc Nf its' rl Nx rr rr' e;intro prog w E Q hq;rcases k with _|_
       ·
         obtain⟨⟨cls,dd,data,sl⟩,ho,hc,m,hd⟩:=id sq;obtain⟨⟨cls2,dd2,data2,sl2⟩,Pg,hc2,m2,hd2⟩:=id sq';simp only at hc hd hc2 hd2;subst hc hd hc2 hd2;exact richCompare_meets_room ⟨_,ho,rfl⟩ ⟨_,Pg,rfl⟩ PySem.F.slot_list_lt PySem.F.entry_list_lt (PySem.F.args_list_lt_2 _ _) (vS a a' Nf.toArray its'.toArray m m2 dd dd2 sl sl2 b)
          ⟨ho,Pg,hR,show Value.bool b≠Value.notImplemented/\Q (.bool b) s from⟨(λx=>nomatch x),hq⟩⟩ hu0
       ·
         obtain⟨⟨cls,dd,data,sl⟩,ho,hc,m,hd⟩:=id sq;obtain⟨⟨cls2,dd2,data2,sl2⟩,Pg,hc2,m2,hd2⟩:=id sq';simp only at hc hd hc2 hd2;subst hc hd hc2 hd2;exact richCompare_meets_room ⟨_,ho,rfl⟩ ⟨_,Pg,rfl⟩ PySem.F.slot_tuple_lt PySem.F.entry_tuple_lt (PySem.F.args_tuple_lt_2 _ _) (BX a a' Nf.toArray its'.toArray m m2 dd dd2 sl sl2 b)
          ⟨ho,Pg,hR,show Value.bool b≠Value.notImplemented/\Q (.bool b) s from⟨(λx=>nomatch x),hq⟩⟩ hu0
def ltD:D->D->M D:=λx y G=>match ltN 40 G x y with
 |some b=>some (.ok (.bl b),G)
 |none=>none
theorem cZ(hu:X.A.units+64<yU):OpD X Z (jc .Lt) ltD:=⟨by
 intro Nc s σ H x y v u Q I rx ry Ng;refine Ng.elim λdx dy μ G Pj Pk hr p=>?_;unfold ltD at p;rcases e:ltN 40 G dx dy with _|b
 ·rw[e]at p;exact p.elim
 ·
   rw[e]at p;exact lt_at I hr 40 X.A (by lia) Pj Pk rx ry e X.prog X.w X.xe _ ⟨.bl b,H,I,rfl,d7.ok p hr _ ofB⟩⟩
end
def F7:D->Bool
 | .non=>true
 | .bl _=>true
 | .int _=>true
 | .str _=>true
 |_=>false
def toV:D->V
 | .bl b=>.bl b
 | .int i=>.int i
 | .str x=>.str x
 |_=>.non
def gB:D->Option Key
 | .int i=>some (.inl i)
 | .str x=>some (.inr x)
 |_=>none
def i4(l:List (Key×D))(k:Key):Option D:=(l.find? λkv=>decide (kv.1=k)).map (·.2)
def inB(x y:D)(G:DH):Option Bool:=match y with
 | .str j=>match x with
   | .str i=>some (!(xY j i 0 j.length 1).isEmpty)
   |_=>none
 | .ref r=>match G[r]? with
   |some (.dct l)=>(gB x).map λk=>(i4 l k).isSome
   |some (.rod _)=>none
   |some (.lst l)=>if F7 x&&l.all F7 then some (inV (toV x) (l.map toV))else none
   |some (.rol l)=>if F7 x&&l.all F7 then some (inV (toV x) (l.map toV))else none
   |none=>none
 | .tup l=>if F7 x&&l.all F7 then some (inV (toV x) (l.map toV))else none
 |_=>none
def inD:D->D->M D:=λx y G=>match inB x y G with
 |some b=>some (.ok (.bl b),G)
 |none=>none
section
theorem bL(f:F7 d=true)(r:d8 c μ H d v):v=toV d/\B7 v=true:=by
 cases d<;>first
  |exact absurd (show false=true from f) zR
  |(unfold d8 at r;subst r;exact⟨rfl,rfl⟩)
theorem vL:∀ {l} {vs},l.all F7=true->m5 c μ H l vs->vs=l.map toV/\vs.all B7=true
 |[],_,_,r=>by cases r;exact⟨rfl,rfl⟩
 |d::ds,_,f,r=>by obtain⟨v,t,rfl,q,rt⟩:=r;rw[yS,jl]at f;obtain⟨e1,e2⟩:=bL f.1 q;obtain⟨e3,e4⟩:=vL f.2 rt;refine⟨by rw[zH,<-e1,<-e3],?_⟩;rw[yS,e2,e4];rfl
theorem bJ(e:gB d=some k)(r:d8 c μ H d v):v=kV k:=by
 cases d<;>first
  |(cases e;unfold d8 at r;exact r)
  |exact t6 e
theorem bH:∀ {l} {Nd},Z2 c μ H l Nd->match i4 l k with|some d=>∃v,A3 Nd k=some v/\d8 c μ H d v|none=>A3 Nd k=none
 |[],_,r=>by cases r;exact rfl
 |(k',d)::t,_,r=>by
  obtain⟨v,kt,rfl,q,rt⟩:=r;by_cases e:k'=k
  · have h1:i4 ((k',d)::t) k=some d:=by unfold i4;simp[e]
    rw[h1];exact⟨v,pF e,q⟩
  · have h1:i4 ((k',d)::t) k=i4 t k:=by unfold i4;simp[e]
    rw[h1];have ih:=bH (k:=k) rt;rw[RD e];exact ih
theorem tT(r:Z2 c μ H l Nd):(i4 l k).isSome= (A3 Nd k).isSome:=by
 have q:=bH (k:=k) r;rcases e:i4 l k with _|d
 ·rw[e]at q;rw[q];rfl
 ·rw[e]at q;obtain⟨v,q,_⟩:=q;rw[q];rfl
theorem EX(hu:X.A.units+64<yU)(I:Inv X Nc σ H s)(hr:m9 (wc X) μ G H)(Pj:d8 (wc X) μ H dx x)(Pk:d8 (wc X) μ H dy y)(rx:o7 x v)(ry:o7 y u)
 (e:inB dx dy G=some b):
 (Q (.bl b) H->zw (zF X.prog X.w) X.A (jc .In v u) (EP X Nc σ Q) X.xe s)/\(Q (.bl (!b)) H->zw (zF X.prog X.w) X.A (jc .NotIn v u) (EP X Nc σ Q) X.xe s):=by
 have seq:∀(p:Addr) (l:List D) (vs:List V),y= .ref p->(SqL X.K H p vs\/SqT X.K H p vs)->m5 (wc X) μ H l vs->(if (F7 dx&&l.all F7)=true then some (inV (toV dx) (l.map toV))else none)=some b->
  (Q (.bl b) H->zw (zF X.prog X.w) X.A (jc .In v u) (EP X Nc σ Q) X.xe s)/\(Q (.bl (!b)) H->zw (zF X.prog X.w) X.A (jc .NotIn v u) (EP X Nc σ Q) X.xe s):=by
  intro p l vs hy hq rl e;split at e
  · rename_i hf;rw[jl]at hf
    cases e
    obtain⟨e1,e2⟩:=bL hf.1 Pj;obtain⟨e3,e4⟩:=vL hf.2 rl;rw[<-e1,<-e3];exact⟨λq=>FQ Nc s σ H x y v u Q I rx ry ⟨p,vs,hy,hq,e2,e4,q⟩,λq=>cR Nc s σ H x y v u Q I rx ry ⟨p,vs,hy,hq,e2,e4,q⟩⟩
  ·exact t6 e
 rcases dy with _|_|_|j|l|i|_|_<;>try (cases e;done)
 ·
   rcases dx with _|_|_|i|_|_|_|_<;>try (cases e;done)
   ·
     cases e
     have e1:=S2 Pj;have e2:=S2 Pk;exact⟨λq=>QU Nc s σ H x y v u Q I rx ry ⟨i,j,e1,e2,q⟩,λq=>fU Nc s σ H x y v u Q I rx ry ⟨i,j,e1,e2,q⟩⟩
 ·
   unfold d8 at Pk;obtain⟨a,vs,hy,q,rl⟩:=Pk;exact seq a l vs hy (.inr q) rl e
 ·
   unfold d8 at Pk;obtain⟨a,m,hy⟩:=Pk;rcases g:G[i]? with _|o
   ·unfold inB at e;simp only[g]at e;exact t6 e
   ·
     have ro:=hr.obj i o a g m;rcases o with l|l|l|l
     ·
       obtain⟨vs,q,rl⟩:=ro;unfold inB at e;simp only[g]at e;exact seq a l vs hy (.inl (SqL.of q)) rl e
     ·
       obtain⟨vs,q,rl⟩:=ro;unfold inB at e;simp only[g]at e;exact seq a l vs hy (.inl q.sq) rl e
     ·
       obtain⟨Nd,q,rk⟩:=ro;unfold inB at e;simp only[g]at e;rcases hk:gB dx with _|k
       ·rw[hk]at e;exact t6 e
       ·
         rw[hk]at e
         cases e
         have ek:=bJ hk Pj;have dg:E9 H a x (A3 Nd k):=by rw[ek];exact E9.k q
         subst hy
         cases ry
         dsimp only;rw[tT rk];exact⟨λq=>Cp (by lia) I dg rx λs' I'=>⟨.bl _,H,I',rfl,q⟩,λq=>DY (by lia) I dg rx λs' I'=>⟨.bl _,H,I',rfl,q⟩⟩
     ·unfold inB at e;simp only[g]at e;exact t6 e
theorem IR(hu:X.A.units+64<yU):OpD X Z (jc .In) inD:=⟨by
 intro Nc s σ H x y v u Q I rx ry Ng;refine Ng.elim λdx dy μ G Pj Pk hr p=>?_;unfold inD at p;rcases e:inB dx dy G with _|b
 ·rw[e]at p;exact p.elim
 ·rw[e]at p;exact(EX hu I hr Pj Pk rx ry e).1 (d7.ok p hr _ ofB)⟩
inductive Ty where
 |int|bool|str|tuple|list|dict
 deriving DecidableEq
def Ty.name:Ty->String
 | .int=> "int"| .bool=> "bool"| .str=> "str"| .tuple=> "tuple"| .list=> "list"| .dict=> "dict"
def Ty.of(n:String):Option Ty:=if n= "int" then some .int else if n= "bool" then some .bool else if n= "str" then some .str else if n= "tuple" then some .tuple else if n= "list" then some .list else if n= "dict" then some .dict else none
theorem Ty.of_name{n:String}{T:Ty}(h:Ty.of n=some T):n=T.name:=by
 unfold Ty.of at h;split at h
 ·rename_i e;cases h;exact e
 split at h
 ·rename_i e;cases h;exact e
 split at h
 ·rename_i e;cases h;exact e
 split at h
 ·rename_i e;cases h;exact e
 split at h
 ·rename_i e;cases h;exact e
 split at h
 ·rename_i e;cases h;exact e
 ·exact t6 h
inductive Kd where
 |non|bool|int|str|tuple|list|dict
def Kd.is:Kd->Ty->Bool
 | .bool,.int=>true
 | .bool,.bool=>true
 | .int,.int=>true
 | .str,.str=>true
 | .tuple,.tuple=>true
 | .list,.list=>true
 | .dict,.dict=>true
 |_,_=>false
def Kd.name:Kd->String
 | .non=> "NoneType"| .bool=> "bool"| .int=> "int"| .str=> "str"| .tuple=> "tuple"| .list=> "list"| .dict=> "dict"
def P7(G:DH):D->Option Kd
 | .non=>some .non
 | .bl _=>some .bool
 | .int _=>some .int
 | .str _=>some .str
 | .tup _=>some .tuple
 | .ref i=>match G[i]? with
   |some (.lst _)=>some .list
   |some (.rol _)=>some .list
   |some (.dct _)=>some .dict
   |some (.rod _)=>some .dict
   |none=>none
 |_=>none
def GB:List D->Option (List Ty)
 |[]=>some []
 | .ty n::r=>match Ty.of n,GB r with
   |some T,some Ts=>some (T::Ts)
   |_,_=>none
 |_=>none
def CA:List D->M D:=λds G=>match ds with
 |[d,.ty n]=>match P7 G d,Ty.of n with
   |some k,some T=>some (.ok (.bl (k.is T)),G)
   |_,_=>none
 |[d,.tup l]=>match P7 G d,GB l with
   |some k,some Ts=>some (.ok (.bl (Ts.any k.is)),G)
   |_,_=>none
 |_=>none
theorem rX(K:zg)(k:Kd)(T:Ty):PySem.W.kitOne K (.type k.name) (.type T.name)=some (k.is T):=by
 cases k<;>cases T<;>rfl
theorem WM{A:jd}{E:VSP}{Nc:PNS}{σ:St}{s:zm}{d:D}{x:V}{v:zi}{k:Kd}(I:Inv X Nc σ H s)(hr:m9 (wc X) μ G H)(r:d8 (wc X) μ H d x)(rv:o7 x v)(e:P7 G d=some k):
 ∃HH:Heap->Prop,PySem.W.KitX X.K v (.type k.name) HH/\HH s.heap/\v≠ .builtin "__main__.__loader__#opaque":=by
 rcases d with _|b|b|b|l|i|_|_<;>try (cases e;done)
 ·cases e;unfold d8 at r;subst r;cases rv;exact⟨_,PySem.W.kitx_none,True.intro,λz=>nomatch z⟩
 ·cases e;unfold d8 at r;subst r;cases rv;exact⟨_,PySem.W.kitx_bool,True.intro,λz=>nomatch z⟩
 ·cases e;unfold d8 at r;subst r;obtain⟨t,rfl⟩:=rv;exact⟨_,PySem.W.kitx_int,True.intro,λz=>nomatch z⟩
 ·cases e;unfold d8 at r;subst r;obtain⟨t,rfl⟩:=rv;exact⟨_,PySem.W.kitx_str,True.intro,λz=>nomatch z⟩
 ·
   cases e
   unfold d8 at r;obtain⟨a,vs,rfl,q,_⟩:=r
   cases rv
   obtain⟨Nf,_,⟨o,h1,h2,_⟩,_⟩:=I.tuple q;exact⟨_,PySem.W.kitx_tuple,⟨o,h1,h2⟩,λz=>nomatch z⟩
 ·
   unfold d8 at r;obtain⟨a,m,rfl⟩:=r
   cases rv
   unfold P7 at e;rcases g:G[i]? with _|o
   ·simp only[g]at e;exact t6 e
   ·
     have ro:=hr.obj i o a g m;simp only[g]at e;rcases o with l|l|l|l
     ·
       cases e
       obtain⟨vs,q,_⟩:=ro;obtain⟨Nf,_,⟨o,n,h1,h2,_⟩,_⟩:=I.list (SqL.of q);exact⟨_,Js,⟨o,h1,h2⟩,λz=>nomatch z⟩
     ·
       cases e
       obtain⟨vs,q,_⟩:=ro;obtain⟨Nf,_,⟨o,n,h1,h2,_⟩,_⟩:=I.list q.sq;exact⟨_,Js,⟨o,h1,h2⟩,λz=>nomatch z⟩
     ·
       cases e
       obtain⟨Nd,q,_⟩:=ro;obtain⟨_,_,vs,_,o,es,ep,h1,h2,_⟩:=(show O6 X.prog X.w H s.heap a (.dK Nd)from I.hok a _ q);exact⟨_,Jt,⟨o,h1,h2.1⟩,λz=>nomatch z⟩
     ·
       cases e
       obtain⟨Nd,ob,q,_⟩:=ro;obtain⟨_,_,_,vs,_,o,es,ep,h1,h2,_⟩:=(show O6 X.prog X.w H s.heap a (.frz ob (.dK Nd))from I.hok a _ q);exact⟨_,Jt,⟨o,h1,h2.1⟩,λz=>nomatch z⟩
theorem sL:∀ {l:List D} {vs:List V} {us:List zi} {Ts:List Ty},GB l=some Ts->m5 c μ H l vs->o5 vs us->us=Ts.map λT=>.type T.name
 |[],_,_,_,e,r,q=>by cases e;cases r;cases q;rfl
 |d::ds,_,_,Ts,e,r,q=>by
   obtain⟨v,t,rfl,r0,rt⟩:=r
   cases q with
   |cons q0 qt=>
     rcases d with _|_|_|_|_|_|_|n<;>try (cases e;done)
     ·
       replace e:(match Ty.of n,GB ds with|some T,some Ts=>some (T::Ts)|_,_=>none)=some Ts:=e;rcases h1:Ty.of n with _|T
       ·rw[h1]at e;exact t6 e
       ·
         rcases h2:GB ds with _|Ts'
         ·rw[h1,h2]at e;exact t6 e
         ·
           rw[h1,h2]at e
           cases e
           unfold d8 at r0;subst r0;rw[sL h2 rt qt,zH,show _=Value.type n from q0,Ty.of_name h1]
theorem QJ(K:zg)(k:Kd):∀Ts:List Ty,PySem.W.kitAny K (.type k.name) (Ts.map λT=>.type T.name)=some (Ts.any k.is)
 |[]=>rfl
 |T::Ts=>by
   have ih:=QJ K k Ts
   cases k<;>cases T<;>first
    |rfl
    |exact ih
theorem Cg:O3 X Z (.builtin "isinstance") CA:=⟨by
 intro Nc s σ H xs us Q I r Ng;obtain⟨ds,μ,G,rl,hr,p⟩:=Ng;rcases ds with _|⟨d,_|⟨_|_|_|_|l|_|_|n,_|⟨_,_⟩⟩⟩<;>try exact p.elim
 all_goals (delta CA at p;dsimp only at p)
 · obtain⟨v,t,rfl,r0,v1,t1,rfl,r1,e⟩:=rl
   cases e
   obtain⟨u,u',rfl,ru,ru'⟩:=KD r;unfold d8 at r1;obtain⟨a,vs,rfl,q,rll⟩:=r1
   cases ru'
   rcases hk:P7 G d with _|k
   ·rw[hk]at p;exact p.elim
   ·
     rcases hT:GB l with _|Ts
     ·rw[hk,hT]at p;exact p.elim
     ·
       rw[hk,hT]at p;obtain⟨HH,kx,hh,Pd⟩:=WM (A:=X.A) (E:=X.xe) I hr r0 ru hk;obtain⟨Nf,rr,⟨⟨cls,dd,data,sl⟩,h1,h2,n,h3⟩,_⟩:=I.tuple q;simp only at h2 h3;subst h2 h3;exact PySem.W.kia_tup kx I.kIn hh h1 (by rw[sL hT rll rr];exact QJ X.K k Ts) Pd λtk=>⟨.bl _,H,I.tok tk,rfl,d7.ok p hr _ ofB⟩
 · obtain⟨v,t,rfl,r0,v1,t1,rfl,r1,e⟩:=rl
   cases e
   obtain⟨u,u',rfl,ru,ru'⟩:=KD r;unfold d8 at r1;subst r1
   cases ru'
   rcases hk:P7 G d with _|k
   ·rw[hk]at p;exact p.elim
   ·
     rcases hT:Ty.of n with _|T
     ·rw[hk,hT]at p;exact p.elim
     ·
       rw[hk,hT]at p;rw[Ty.of_name hT];obtain⟨HH,kx,hh,Pd⟩:=WM (A:=X.A) (E:=X.xe) I hr r0 ru hk;exact PySem.W.kia_one kx I.kIn hh (rX X.K k T) Pd λtk=>⟨.bl _,H,I.tok tk,rfl,d7.ok p hr _ ofB⟩⟩
end
theorem FI{c:Wc}{μ:List Addr}{H:Hp}{l:List D}{vs:List V}{i:Int}{d:D}(r:m5 c μ H l vs)(e:atI l i=some d):∃v,atI vs i=some v/\d8 c μ H d v:=by
 unfold atI at e ⊢;rw[<-r.length]
 cases h:ixN l.length i with
 |none=>rw[h]at e;cases e
 |some j=>
   rw[h]at e;obtain⟨v,h1,h2⟩:=r.get e;exact⟨v,h1,h2⟩
def ixD:D->D->M D:=λx y=>match x,y with
 | .tup l,.int i=>E1 (atI l i)
 | .str z,.int i=>if z.length<=zk then do
    let c <-E1 (atI z.cps.toList i)
    pure (.str ⟨#[c]⟩)
   else M.stuck
 | .ref r,.int i=>do
   let l <-M4 r >>= listOf
   E1 (atI l i)
 |_,_=>M.stuck
section
variable{X:Cx}{Z:XC}{a b e:Expr}{fa fb:Fe}{pos:Pos}
def IxD(X:Cx)(Z:XC)(o:D->D->M D):Prop:=IxR X (qB (wc X) Z o)
theorem BK{o:D->D->M D}(ho:IxD X Z o)(ha:DE X Z a fa)(hb:DE X Z b fb)(hs:UE b):DE X Z (.Subscript a b pos) (j5 o fa fb):=DE.of (Dj ho ha.h hb.h hs) QD
theorem GF{c:Wc}{μ:List Addr}{H:Hp}{G:DH}{r:Option D}{K:D->List Addr->DH->Hp->Prop}(h:m9 c μ G H)(p:d7 c Z μ H (E1 r G) K):∃d,r=some d/\K d μ G H:=by
 cases r with
 |none=>exact p.elim
 |some d=>exact⟨d,rfl,d7.ok p h⟩
theorem HL:IxD X Z ixD:=IxR.mono (hV.or (ix_tup.or RU)) λx y H Q Ng=>Ng.elim λdx dy μ G rx ry hr p=>by
 rcases dx with _|_|_|_|_|_|_|_<;>rcases dy with _|_|_|_|_|_|_|_<;>first
  |exact p.elim
  |skip
 · rename_i z i;refine .inr (.inr ?_);unfold ixD at p;dsimp only at p;split at p
   ·rename_i hz;obtain⟨c,ec,p2⟩:=U5 p;exact⟨z,i,c,S2 rx,T5 ry,hz,ec,d7.ok p2 hr _ ofS⟩
   ·exact p.elim
 ·rename_i l i;refine .inr (.inl ?_);unfold d8 at rx;obtain⟨a,vs,rfl,q,rl⟩:=rx;obtain⟨d,ed,k⟩:=GF hr p;obtain⟨v,ev,rv⟩:=FI rl ed;exact⟨a,vs,i,v,rfl,T5 ry,q,ev,k v rv⟩
 · rename_i r i;refine .inl ?_;obtain⟨l,a,vs,rfl,rl,p2,hq⟩:=IF hr rx p;obtain⟨d,ed,k⟩:=GF hr p2;obtain⟨v,ev,rv⟩:=FI rl ed;rcases hq with⟨z,_⟩|⟨_,_,_,⟨_,q⟩|⟨_,q⟩⟩
   ·cases z
   ·exact⟨a,vs,i,v,rfl,T5 ry,SqL.of q,ev,k v rv⟩
   ·exact⟨a,vs,i,v,rfl,T5 ry,q.sq,ev,k v rv⟩
theorem lW(ha:DE X Z a fa)(hb:DE X Z b fb)(hs:UE b):DE X Z (.Subscript a b pos) (j5 ixD fa fb):=BK HL ha hb hs
def cutD(xs:List D)(lo hi:Option Int):List D:=(xs.drop (HT.sIx xs.length 0 lo)).take (HT.sIx xs.length xs.length hi-HT.sIx xs.length 0 lo)
abbrev Fo:=DSt->M (Option Int)
def mB:Fo:=λ_=>pure none
def HA(f:Fe):Fo:=λσ=>do
 match <-f σ with
 | .int i=>pure (some i)
 |_=>M.stuck
def bE(c:Wc)(Z:XC)(f:Fo):TO:=λσ H Q=>∃X9 μ G,w5 c μ H X9 σ/\m9 c μ G H/\d7 c Z μ H (f X9 G) λo _ _ H'=>Q o H'
theorem bE.elim{c:Wc}{Z:XC}{P:Prop}{f:Fo}{σ:St}{H:Hp}{Q:Option Int->Hp->Prop}(h:bE c Z f σ H Q)(k:∀X9 μ G,w5 c μ H X9 σ->m9 c μ G H->d7 c Z μ H (f X9 G) (λo _ _ H'=>Q o H')->P):P:=by obtain⟨e0,e1,e2,e3,e4,e5⟩:=h;exact k e0 e1 e2 e3 e4 e5
structure DOp(X:Cx)(Z:XC)(e:Option Expr)(f:Fo):Prop where
 h:PO X e (bE (wc X) Z f)
theorem PO.mono{e:Option Expr}{t t':TO}(h:PO X e t)(k:∀ σ H Q,t' σ H Q->t σ H Q):PO X e t':=λNc s σ H Q I q=>h Nc s σ H Q I (k σ H Q q)
theorem DOp.of{e:Option Expr}{f:Fo}{t:TO}(h:PO X e t)(k:∀ σ H Q,bE (wc X) Z f σ H Q->t σ H Q):DOp X Z e f:=⟨PO.mono h k⟩
theorem OS:DOp X Z none mB:=DOp.of OU λσ H Q Ng=>Ng.elim λX9 μ G s h p=>d7.ok p h
theorem cV(h:DE X Z e fa):DOp X Z (some e) (HA fa):=DOp.of (eT h.h) λσ H Q Ng=>Ng.elim λX9 μ G s h p=>⟨X9,μ,G,s,h,(d7.bind p).mono λd X0 G1 H1 x1 h1 p1 v rv=>by
 cases d with
 |int i=>exact⟨i,T5 rv,d7.ok p1 h1⟩
 |_=>exact p1.elim⟩
def slD:D->Option Int->Option Int->M D:=λx lo hi=>match x with
 | .tup l=>pure (.tup (cutD l lo hi))
 | .ref r=>do
   let l <-M4 r >>= listOf
   K8 (.lst (cutD l lo hi))
 |_=>M.stuck
def SlD(X:Cx)(Z:XC)(o:D->Option Int->Option Int->M D):Prop:=
 SlR X λx lo hi H Q=>∃dx μ G,d8 (wc X) μ H dx x/\m9 (wc X) μ G H/\d7 (wc X) Z μ H (o dx lo hi G) λd X2 _ H'=>∀v,d8 (wc X) X2 H' d v->Q v H'
theorem SlR.mono{r r':V->Option Int->Option Int->Hp->VK->Prop}(h:SlR X r)(k:∀x lo hi H Q,r' x lo hi H Q->r x lo hi H Q):SlR X r':=λNc s σ H x v vl vu lo hi sl Q I rx hs pl pu q=>h Nc s σ H x v vl vu lo hi sl Q I rx hs pl pu (k x lo hi H Q q)
theorem lY{prog:zM}{w:zT}{A:jd}{E:VSP}{s:zm}{t sl:Addr}{items:Array zi}{vl vu:zi}{lo hi:Option Int}{Q:VSP}(ht:XT s.heap t items)(hs:s.heap.IsSliceOf sl vl vu .none)(pl:IsPart vl lo)(pu:IsPart vu hi)
 (hw:HT.sIx items.size 0 lo=0/\HT.sIx items.size items.size hi=items.size) (h:Q (.ref t) s):zw (zF prog w) A (Xm (.ref t) (.ref sl)) Q E s:=by
 obtain⟨os,hos,hcs,hds⟩:=id hs;have hTs:s.TypeIs (.ref sl) "slice":=⟨os,hos,hcs⟩;unfold Xm
 try with_reducible refine jw ?_
 first|refine za (zj ?_)|skip
 refine za (wpAny_sequenceKey ht.typeIs (by decide) ?_);refine za (yh ht.typeIs jy
  (jC jy ht.typeIs entry_tuple_getitem ?_ (args_tuple_getitem _ _)))
 show zw _ _ (Ym (.ref t) >>= _) _ _ s;refine za (tupleItemsOf_ ht ?_);refine za (Zi hTs ?_);rw[if_pos (by decide)];refine za (HT.sliceApplied_gen hs pl pu ?_);have hyes:(((HT.sIx items.size 0 lo:Nat):Int)==0&&(1:Int)==1&&(HT.sIx items.size items.size hi-HT.sIx items.size 0 lo)==items.size)=true:=by rw[hw.1,hw.2];simp
 show zw _ _ (if (((HT.sIx items.size 0 lo:Nat):Int)==0&&(1:Int)==1&&(HT.sIx items.size items.size hi-HT.sIx items.size 0 lo)==items.size)=true then _ else _) _ _ s;rw[if_pos hyes];unfold Builtin.Tuple.tupleIsExact;refine za (za (Zi ht.typeIs (zj ?_)));rw[if_pos (by decide)];exact za (wpAny_rule (zj ⟨_,rfl,zj h⟩))
def aZ(K:zg):V->Option Int->Option Int->Hp->VK->Prop:=λx lo hi H Q=>∃a xs,x= .ref a/\SqT K H a xs/\(HT.sIx xs.length 0 lo=0/\HT.sIx xs.length xs.length hi=xs.length)/\Q (.ref a) H
theorem HS:SlR X (aZ X.K):=by
 intro Nc s σ H x v vl vu lo hi sl Q I rx hs pl pu h;obtain⟨a,xs,rfl,hx,hw,q⟩:=h
 cases rx
 obtain⟨Nf,r,ht,hz⟩:=I.tuple hx;have Nh:Nf.toArray.size=xs.length:=by rw[zo];exact r.length.symm
 exact⟨"tuple",_,jy.lookup,ht.typeIs,lY ht hs pl pu (by rw[Nh];exact hw) ⟨.ref a,H,I,rfl,q⟩⟩
theorem nG{c:Wc}{μ:List Addr}{H:Hp}{l:List D}{vs:List V}(r:m5 c μ H l vs)(lo hi:Option Int):m5 c μ H (cutD l lo hi) (a8 vs lo hi):=by unfold cutD a8;rw[r.length];exact(r.drop _).take _
theorem wX:SlD X Z slD:=SlR.mono (sl_tup.or (HS.or Bx)) λx lo hi H Q ⟨dx,μ,G,rx,hr,p⟩=>by
 rcases dx with _|_|_|_|l|r|_|_<;>try (exact p.elim;done)
 ·
   unfold d8 at rx;obtain⟨a,vs,rfl,q,rl⟩:=rx;by_cases hw:HT.sIx vs.length 0 lo=0/\HT.sIx vs.length vs.length hi=vs.length
   · refine .inr (.inl ⟨a,vs,rfl,q,hw,aG hr q ?_ p⟩);have e:a8 vs lo hi=vs:=by unfold a8;rw[hw.1,hw.2];simp
     have:=nG rl lo hi;rw[e]at this;exact this
   ·exact .inl ⟨a,vs,rfl,q,hw,λp' hp=>iE hr (nG rl lo hi) p p' hp⟩
 ·
   obtain⟨l,a,vs,rfl,rl,p2,hq⟩:=IF hr rx p;have hs:SqL (wc X).K H a vs:=by
    rcases hq with⟨z,_⟩|⟨_,_,_,⟨_,q⟩|⟨_,q⟩⟩
    ·cases z
    ·exact SqL.of q
    ·exact q.sq
   exact .inr (.inr ⟨a,vs,rfl,hs,λp' hp=>Q8 hr (nG rl lo hi) p2 p' hp⟩)
variable{lo hi:Option Expr}{fl fh:Fo}{p2:Pos}
end
def L5(r:Nat)(o:DO):M Unit:=λG=>some (.ok (),G.set r o)
def sA(l:List (Key×D))(k:Key)(d:D):List (Key×D):=if l.any (λkv=>decide (kv.1=k))then l.map (λkv=>if kv.1=k then (kv.1,d)else kv)else l++[(k,d)]
def pA:D->D->D->M Unit:=λo i d=>match o with
 | .ref r=>do
   match <-M4 r with
   | .lst l=>match i with
     | .int k=>match ixN l.length k with
       |some j=>L5 r (.lst (l.set j d))
       |none=>M.stuck
     |_=>M.stuck
   | .dct l=>match gB i with
     |some k=>if l.length<zk then L5 r (.dct (sA l k d))else M.stuck
     |none=>M.stuck
   | .rol _=>M.stuck
   | .rod _=>M.stuck
 |_=>M.stuck
def E8(fo fi:Fe):Fg:=λd σ=>do
 let o <-fo σ
 let i <-fi σ
 let _ <-pA o i d
 pure σ
section
variable{X:Cx}{Z:XC}{μ:List Addr}{H:Hp}{G:DH}
theorem fQ(rv:d8 c μ H d v):∀ {l} {Nd},Z2 c μ H l Nd->Z2 c μ H (sA l k d) (C4 Nd k v):=by
 have any_eq:∀ {l:List (Key×D)} {Nd:List (Key×V)},Z2 c μ H l Nd->(l.any λkv=>decide (kv.1=k))= (Nd.any λkv=>decide (kv.1=k)):=by
  intro l
  induction l with
  |nil=>intro Nd r;cases r;rfl
  |cons p t ih=>
    intro Nd r;obtain⟨v',kt,rfl,_,rt⟩:=r;rw[yR,yR,ih rt]
 have map_eq:∀ {l:List (Key×D)} {Nd:List (Key×V)},Z2 c μ H l Nd->Z2 c μ H (l.map λkv=>if kv.1=k then (kv.1,d)else kv) (Nd.map λkv=>if kv.1=k then (kv.1,v)else kv):=by
  intro l
  induction l with
  |nil=>intro Nd r;cases r;rfl
  |cons p t ih=>
    intro Nd r;obtain⟨k',d'⟩:=p;obtain⟨v',kt,rfl,q,rt⟩:=r;rw[zH,zH];by_cases e:k'=k
    ·simp only[e,if_true];exact⟨v,_,rfl,rv,ih rt⟩
    ·simp only[e,if_false];exact⟨v',_,rfl,q,ih rt⟩
 have app_eq:∀ {l:List (Key×D)} {Nd:List (Key×V)},Z2 c μ H l Nd->Z2 c μ H (l++[(k,d)]) (Nd++[(k,v)]):=by
  intro l
  induction l with
  |nil=>intro Nd r;cases r;exact⟨v, [],rfl,rv,rfl⟩
  |cons p t ih=>
    intro Nd r;obtain⟨v',kt,rfl,q,rt⟩:=r;exact⟨v',_,rfl,q,ih rt⟩
 intro l Nd r;unfold sA C4;rw[any_eq r];split
 ·exact map_eq r
 ·exact app_eq r
theorem Z2.length:∀ {l} {Nd},Z2 c μ H l Nd->l.length=Nd.length
 |[],_,r=>by cases r;rfl
 |_::_,_,r=>by obtain⟨_,_,rfl,_,t⟩:=r;simp[Z2.length t]
theorem AO{Q:List Addr->DH->Hp->Prop}(h:m9 c μ G H)(g:G[r]? =some o)(n:¬N4 (some o))(m:μ[r]? =some a)(n':¬N4 (some o'))(ho:∀x:Ext μ H μ (upd H a u),d6 c μ (upd H a u) a o')
 (p:d7 c Z μ H (L5 r o' G) λ_ X2 G' H'=>Q X2 G' H'):Q μ (G.set r o') (upd H a u):=by
 obtain⟨u',e,n1,n2⟩:=(h.obj r o a g m).some_of n;have x:Ext μ H μ (upd H a u):=Ext.mut (ji m) e n1 n2 u;exact p μ _ x (h.set g n m x n' (ho x))
def WF(c:Wc)(Z:XC)(f:D->D->D->M Unit):TSet:=λo i v H Q=>∃d1 d2 d3 μ G,d8 c μ H d1 o/\d8 c μ H d2 i/\d8 c μ H d3 v/\m9 c μ G H/\d7 c Z μ H (f d1 d2 d3 G) λ_ _ _ H'=>Q H'
theorem WF.elim{P:Prop}{o:V}{i:V}{v:V}{H:Hp}(h:WF c Z f o i v H Q)(k:∀d1 d2 d3 μ G,d8 c μ H d1 o->d8 c μ H d2 i->d8 c μ H d3 v->m9 c μ G H->d7 c Z μ H (f d1 d2 d3 G) (λ_ _ _ H'=>Q H')->P):P:=by obtain⟨e0,e1,e2,e3,e4,e5,e6,e7,e8,e9⟩:=h;exact k e0 e1 e2 e3 e4 e5 e6 e7 e8 e9
theorem wm(hu:X.A.units+64<yU):FG X (WF (wc X) Z pA):=by
 intro Nc s σ H o i v ov iv u Q I ro ri rv Ng;obtain⟨d1,d2,d3,μ,G,r1,r2,r3,hr,p⟩:=Ng;rcases d1 with _|_|_|_|_|r|_|_<;>try (exact p.elim;done)
 ·
   unfold d8 at r1;obtain⟨a,m,rfl⟩:=r1;obtain⟨ob,g,p1⟩:=w6 p;have rob:=hr.obj r ob a g m;rcases ob with l|l|l|l
   ·
     obtain⟨vs,ea,rl⟩:=rob;rcases d2 with _|_|k|_|_|_|_|_<;>try (exact p1.elim;done)
     ·
       dsimp only at p1;rcases hk:ixN l.length k with _|j
       ·simp only[hk]at p1;exact p1.elim
       ·
         simp only[hk]at p1;exact CZ Nc s σ H (.ref a) i v ov iv u Q I ro ri rv ⟨a,vs,k,j,rfl,T5 r2,ea,by rw[<-rl.length];exact hk,AO (o':=.lst (l.set j d3)) hr g (λz=>z) m (λz=>z) (λx=>⟨_,N6,(rl.mono x).set (r3.mono x) j⟩) p1⟩
   ·exact p1.elim
   ·
     obtain⟨Nd,ea,rk⟩:=rob;dsimp only at p1;rcases hk:gB d2 with _|k
     ·simp only[hk]at p1;exact p1.elim
     ·
       simp only[hk]at p1;split at p1
       · rename_i hz;have ei:=bJ hk r2;subst ei
         cases ro
         refine lP (by lia) I (CB.k ea (by rw[<-rk.length];exact hz)) ri rv λs' I'=>⟨_,I',?_⟩;exact AO (o':=.dct (sA l k d3)) hr g (λz=>z) m (λz=>z) (λx=>⟨_,N6,fQ (r3.mono x) (rk.mono x)⟩) p1
       ·exact p1.elim
   ·exact p1.elim
variable{a b e o i:Expr}{fa fb fo fi:Fe}
theorem Dd(hu:X.A.units+64<yU)(ho:DE X Z o fo)(hi:DE X Z i fi)
 (ha:∀v,Ya (.Subscript o i pos) X.env v= (do
   let ov <-ZD [v] (eval o X.env)
   let iv <-ZD [v,ov] (eval i X.env)
   standAt pos
   ZD [v,ov,iv] (setItem ov iv v)
   release [v,ov,iv] [])):DG X Z (.Subscript o i pos) (E8 fo fi):=
 DG.of (OQ ho.h hi.h (wm hu) ha) λv σ H Q Ng=>Ng.elim λd X9 μ G r s h p=>⟨X9,μ,G,s,h,(d7.bind p).mono λd1 X0 G1 H1 x1 h1 p1 v1 r1=>
  ⟨X9,X0,G1,s.mono x1,h1,(d7.bind p1).mono λd2 WX G2 H2 x2 h2 p2 v2 r2=>⟨d1,d2,d,WX,G2,r1.mono x2,r2,r.mono (x1.trans x2),h2,(d7.bind p2).mono λ_ μ3 G3 H3 x3 h3 p3=>d7.ok p3 h3 σ (s.mono (x1.trans (x2.trans x3)))⟩⟩⟩
def rC:Fe:=λ_=>K8 (.dct [])
theorem kS:DE X Z (.Dict [] [] pos) rC:=DE.of LU λσ H Q Ng=>Ng.elim λX9 μ G s h p q hq=>by have k:Ext μ H (μ++[q]) (upd H q (.dK [])):=Ext.add hq _;refine p (μ++[q]) _ k (h.new hq ⟨[],N6,rfl⟩) _ ?_;unfold d8;exact⟨q,by rw[<-h.len];simp,rfl⟩
def u5:D->M Unit:=λx=>match x with
 | .ref r=>do
   match <-M4 r with
   | .lst _=>pure ()
   |_=>M.stuck
 |_=>M.stuck
def mtE(t:D->M Unit)(m:D->List D->M D)(fo:Fe)(fs:DSt->M (List D)):Fe:=λσ=>do
 let x <-fo σ
 let _ <-t x
 let xs <-fs σ
 m x xs
def lstM(r:Nat):M (List D):=do
 match <-M4 r with
 | .lst l=>pure l
 |_=>M.stuck
def u9:D->List D->M D:=λx xs=>match x,xs with
 | .ref r, [y]=>do
   let l <-lstM r
   if l.length<zk then do
    let _ <-L5 r (.lst (l++[y]))
    pure .non
   else M.stuck
 |_,_=>M.stuck
theorem LJ{a:Addr}{f:List D->M α}{K:α->List Addr->DH->Hp->Prop}(h:m9 c μ G H)(m:μ[r]? =some a)(p:d7 c Z μ H ((lstM r >>= f) G) K):
 ∃l vs,G[r]? =some (.lst l)/\H a=some (.lst vs)/\m5 c μ H l vs/\d7 c Z μ H (f l G) K:=by
 have p':d7 c Z μ H ((M4 r >>= λo=>(match o with| .lst l=>pure l|_=>M.stuck:M (List D)) >>= f) G) K:=by rw[<-M.bind_assoc];exact p
 obtain⟨o,g,p2⟩:=w6 p';have ro:=h.obj r o a g m;rcases o with l|_|_|_<;>try (exact p2.elim;done)
 ·obtain⟨vs,e,rl⟩:=ro;exact⟨l,vs,g,e,rl,p2⟩
def MtD(X:Cx)(Z:XC)(id:String)(m:D->List D->M D):Prop:=
 MtR X id λx xs H Q=>∃d ds μ G,d8 (wc X) μ H d x/\m5 (wc X) μ H ds xs/\m9 (wc X) μ G H/\d7 (wc X) Z μ H (m d ds G) λd X2 _ H'=>∀v,d8 (wc X) X2 H' d v->Q v H'
theorem tL{r:Nat}{a:Addr}{f:M α}{K:α->List Addr->DH->Hp->Prop}(h:m9 c μ G H)(g:G[r]? =some (.lst l))(m:μ[r]? =some a)(rl:∀x:Ext μ H μ (upd H a (.lst Pc)),m5 c μ (upd H a (.lst Pc)) l' Pc)
 (p:d7 c Z μ H ((L5 r (.lst l') >>= λ_=>f) G) K):Ext μ H μ (upd H a (.lst Pc))/\m9 c μ (G.set r (.lst l')) (upd H a (.lst Pc))/\d7 c Z μ (upd H a (.lst Pc)) (f (G.set r (.lst l'))) K:=by
 obtain⟨u',e,n1,n2⟩:=(h.obj r _ a g m).some_of (λz=>z);have x:Ext μ H μ (upd H a (.lst Pc)):=Ext.mut (ji m) e n1 n2 _;have h':m9 c μ (G.set r (.lst l')) (upd H a (.lst Pc)):=h.set g (λz=>z) m x (λz=>z) ⟨Pc,N6,rl x⟩;exact⟨x,h',d7.from p x⟩
theorem gP:MtD X Z "list.append" u9:=by
 intro Nc s σ H x xs v us Q I rx rs Ng;obtain⟨d,ds,μ,G,rd,rds,hr,p⟩:=Ng;rcases d with _|_|_|_|_|r|_|_<;>try (exact p.elim;done)
 ·
   unfold d8 at rd;obtain⟨a,m,rfl⟩:=rd;rcases ds with _|⟨y,t⟩
   ·exact p.elim
   ·
     rcases t with _|⟨_,_⟩
     ·
       obtain⟨yv,tv,rfl,ry,e⟩:=rds
       cases e
       obtain⟨l,vs,g,ea,rl,p1⟩:=LJ hr m p;split at p1
       ·rename_i hz;obtain⟨x1,h1,p2⟩:=tL hr g m (λx=>(rl.mono x).append (m5.cons (ry.mono x) m5.nil)) p1;exact nO Nc s σ H (.ref a) [yv] v us Q I rx rs ⟨a,vs,yv,rfl,rfl,ea,by rw[<-rl.length];exact hz,d7.ok p2 h1 _ ofN⟩
       ·exact p1.elim
     ·exact p.elim
variable{es:List Expr}{fs:DSt->M (List D)}{name:Str}{Ph Np:Pos}{id:String}{mm:D->List D->M D}
theorem UP{f:Unit->M α}{K:α->List Addr->DH->Hp->Prop}(h:m9 c μ G H)(r:d8 c μ H d v)(p:d7 c Z μ H ((u5 d >>= f) G) K):tyV c.K "list" v H/\d7 c Z μ H (f () G) K:=by
 rcases d with _|_|_|_|_|i|_|_<;>try (exact p.elim;done)
 ·
   unfold d8 at r;obtain⟨a,m,rfl⟩:=r;have p':d7 c Z μ H ((M4 i >>= λo=>(match o with| .lst _=>pure ()|_=>M.stuck:M Unit) >>= f) G) K:=by rw[<-M.bind_assoc];exact p
   obtain⟨o,g,p2⟩:=w6 p';have ro:=h.obj i o a g m;rcases o with l|_|_|_<;>try (exact p2.elim;done)
   ·obtain⟨vs,e,rl⟩:=ro;exact⟨.inl ⟨rfl,vs,SqL.of e⟩,p2⟩
theorem IN(slot:Slot "list" name id)(hty:typeOf (.builtin id)=pure (.type "method_descriptor"))(hm:MtD X Z id mm)(ho:DE X Z o fo)(ha:DA X Z (e::es) fs)
 (hbase:ZJ o name X.env (eval o X.env)=eval o X.env)
 (hfew:((yZ Np (zW (e::es) X.env)).all (λx=> !x.1)&&(Xn Np (ZC [] X.env)).all (λx=>x.1.isSome)
   && decide ((e::es).length+([]:List Keyword).length+(if ([]:List Keyword).isEmpty then 0 else 1)<30))=true)
 (hline:(Ph.endLine==Np.line)=true) (hs:zW (e::es) X.env= (false,eval e X.env)::zW es X.env) (Pm:(yZ Np (zW es X.env)).any (·.1)=false):
 DE X Z (.Call (.Attribute o name Ph) (e::es) [] Np) (mtE u5 mm fo fs):=
 DE.of (bM PySem.F.plainAttrs_list slot hty hm ho.h ha.h hbase hfew hline hs Pm) λσ H Q Ng=>Ng.elim λX9 μ G s h p=>⟨X9,μ,G,s,h,(d7.bind p).mono λd X0 G1 H1 x1 h1 p1 v rv=>by obtain⟨ty,p2⟩:=UP h1 rv p1;exact⟨ty,X9,X0,G1,s.mono x1,h1,(d7.bind p2).mono λds WX G2 H2 x2 h2 p3 vs rvs=>⟨d,ds,WX,G2,rv.mono x2,rvs,h2,p3⟩⟩⟩
end
def SI(k:Bool)(h:Heap)(it a:Addr)(i:Nat):Prop:=if k then h.IsTupleIter it a i else h.IsListIter it a i
def SC(k:Bool)(h:Heap)(a:Addr)(items:Array zi):Prop:=if k then h.IsTuple a items else h.IsList a items
section
variable{prog:zM}{w:zT}{A:jd}{E:VSP}{s:zm}
theorem SI.keep(x:SI k h it a i)(q:∀o,h.get? it=some o->h'.get? it=some o):SI k h' it a i:=by
 rcases k with _|_
 ·exact Heap.IsListIter.at (show h.IsListIter it a i from x) q
 ·exact Heap.IsTupleIter.at (show h.IsTupleIter it a i from x) q
theorem SC.keep(x:SC k h a Nf)(q:∀o,h.get? a=some o->h'.get? a=some o):SC k h' a Nf:=by
 rcases k with _|_
 ·obtain⟨o,e,r⟩:=(show h.IsList a Nf from x);exact⟨o,q o e,r⟩
 ·obtain⟨o,e,r⟩:=(show h.IsTuple a Nf from x);exact⟨o,q o e,r⟩
theorem SI.there(x:SI k h it a i):∃o,h.get? it=some o/\∀v,o.data≠ .cell v:=by
 rcases k with _|_
 ·obtain⟨o,e,c,d⟩:=(show h.IsListIter it a i from x);exact⟨o,e,λv z=>by rw[d]at z;cases z⟩
 ·obtain⟨o,e,c,d⟩:=(show h.IsTupleIter it a i from x);exact⟨o,e,λv z=>by rw[d]at z;cases z⟩
structure ZA(z TI TO i1 i2:Addr):Prop where
 TIz:TI≠z
 TOz:TO≠z
 i1z:i1≠z
 i2z:i2≠z
 TITO:TI≠TO
 TIi1:TI≠i1
 TIi2:TI≠i2
 TOi1:TO≠i1
 TOi2:TO≠i2
 i12:i1≠i2
variable{z TI TO i1 i2 l1 l2:Addr}{xs ys:Array zi}{k1 k2:Bool}{i:Nat}
end
section
theorem Bw{ch:List Addr}(I:Inv X Nc σ H s)(hf:∀b∈ch,D3 X Nc H b)(k:∀b o,b∉ch->s.heap.get? b=some o->h'.get? b=some o):Inv X Nc σ H {s with heap:=h',toks:=t'}:=by
 have nch:∀b u,H b=some u->b∉ch:=λb u e z=>by rw[(hf b z).1]at e;cases e
 refine I.step (λb hb=>⟨(hf b hb).2.2.2.1,(hf b hb).2.1,(hf b hb).2.2.2.2.1,(hf b hb).2.2.2.2.2⟩) (λb o _ _ hc e _=>k b o hc e) (λb o _ _ hc e _=>⟨o.slots,k b o hc e⟩)
  (λ_ _ _ _ n=>n) (λb o hc e=>⟨o,k b o hc e⟩) (λ_ _ e=>e) (λ_ _ _ e=>e) (λb ps e=>⟨#[],by rw[e];simp⟩) (λm hm=>?_) (λb u e=>?_) I.bare
 ·obtain⟨o,es,ep,ho,r⟩:=hm;exact⟨o,es,ep,k _ o (λz=>(hf _ z).2.1 rfl) ho,r⟩
 · refine(I.hok b u e).stay (λc v hc q=>k c v ?_ q) (λ_ q=>q) λ_ _ q=>q;rcases hc with z|z
   ·rw[z];exact nch b u e
   ·exact nch c _ z
end
def Sq(K:zg)(k:Bool)(H:Hp)(a:Addr)(vs:List V):Prop:=if k then SqT K H a vs else SqL K H a vs
section
structure ZMk(k1 k2:Bool)(h h5:Heap)(l1 l2:Addr)(n:Nat):Prop where
 keep:∀b o,h.get? b=some o->h5.get? b=some o
 sz:h5.objs.size=n+5
 g5:IsZip h5 (n+4:Nat) (n+2:Nat) (n+3:Nat) .none
 g4:IsPair h5 (n+3:Nat) .none .none
 g3:IsPair h5 (n+2:Nat) (.ref n) (.ref (n+1:Nat))
 s1:SI k1 h5 n l1 0
 s2:SI k2 h5 (n+1:Nat) l2 0
theorem SC.lt(c:SC k h a xs): @LT.lt Nat instLTNat a h.objs.size:=by
 rcases k with _|_
 ·obtain⟨o,e,_⟩:=(show h.IsList a _ from c);exact zv e
 ·obtain⟨o,e,_⟩:=(show h.IsTuple a _ from c);exact zv e
end
section
open Classical in
def ckO(r:Nat)(o:DO):DH->Bool:=λG=>decide (G[r]? =some o)
def y7:D->M Src:=λx=>match x with
 | .tup l=>pure ⟨l,λ_=>true⟩
 | .ref r=>do
   let o <-M4 r
   let l <-listOf o
   pure ⟨l,ckO r o⟩
 |_=>M.stuck
def wq(c:Wc)(μ:List Addr)(H:Hp)(k:Bool)(a:Addr)(s:Src):Prop:=∀ X2 G' H',Ext μ H X2 H'->m9 c X2 G' H'->s.ck G'=true->∃vs,Sq c.K k H' a vs/\m5 c X2 H' s.items vs
theorem BT{H:Hp}{G:DH}{d:D}{v:V}{f:Src->M α}{K:α->List Addr->DH->Hp->Prop}(h:m9 c μ G H)(r:d8 c μ H d v)(p:d7 c Z μ H ((y7 d >>= f) G) K):
 ∃s k a vs,v= .ref a/\Sq c.K k H a vs/\m5 c μ H s.items vs/\wq c μ H k a s/\s.ck G=true/\(∀i,d= .ref i->k=false)/\d7 c Z μ H (f s G) K:=by
 rcases d with _|_|_|_|l|i|_|_<;>try (exact p.elim;done)
 ·
   unfold d8 at r;obtain⟨a,vs,rfl,q,rl⟩:=r;exact⟨⟨l,λ_=>true⟩,true,a,vs,rfl,q,rl,λX2 G' H' x h' _=>⟨vs,x.sqT q,rl.mono x⟩,rfl,(λi z=>nomatch z),p⟩
 ·
   unfold d8 at r;obtain⟨a,m,rfl⟩:=r;have p':d7 c Z μ H ((M4 i >>= λo=>(listOf o >>= λl=>(pure ⟨l,ckO i o⟩:M Src)) >>= f) G) K:=by rw[<-M.bind_assoc];exact p
   obtain⟨o,g,p2⟩:=w6 p';have ro:=h.obj i o a g m;have ck:ckO i o G=true:=by unfold ckO;simp[g]
   cases o with
   |lst l=>
     obtain⟨vs,q,rl⟩:=ro;refine⟨⟨l,ckO i (.lst l)⟩,false,a,vs,rfl,SqL.of q,rl,λX2 G' H' x h' Pq=>?_,ck,(λ_ _=>rfl),p2⟩;have g':G'[i]? =some (.lst l):=by unfold ckO at Pq;simpa using Pq
     obtain⟨Pc,q',Nx⟩:=h'.obj i _ a g' (NH x.pre m);exact⟨Pc,SqL.of q',Nx⟩
   |rol l=>
     obtain⟨vs,q,rl⟩:=ro;refine⟨⟨l,ckO i (.rol l)⟩,false,a,vs,rfl,q.sq,rl,λX2 G' H' x h' Pq=>?_,ck,(λ_ _=>rfl),p2⟩;have g':G'[i]? =some (.rol l):=by unfold ckO at Pq;simpa using Pq
     obtain⟨Pc,q',Nx⟩:=h'.obj i _ a g' (NH x.pre m);exact⟨Pc,q'.sq,Nx⟩
   |dct l=>exact p2.elim
   |rod l=>exact p2.elim
theorem QL{H:Hp}{i:Nat}{d:D}{x:V}(r:m5 c μ H l vs)(h:l[i]? =some d)(hx:vs[i]? =some x):d8 c μ H d x:=by
 obtain⟨v,e,q⟩:=r.get h;rw[hx]at e
 cases e
 exact q
def J2(lo:Int)(n:Nat):List D:=(zK n).map fun(i:Nat)=>D.int (lo+(i:Int))
def T4(fs:DSt->M (List D)):DSt->M Src:=λσ=>do
 match <-fs σ with
 |[.int j]=>if -(2 ^ 62)<=j/\j<2 ^ 62 then pure ⟨J2 0 j.toNat,λ_=>true⟩else M.stuck
 |_=>M.stuck
theorem Hc(lo:Int)(n:Nat):ItD c μ H (Itr lo n) ⟨J2 lo n,λ_=>true⟩:=λX2 G' H' x' h' _ i=>by
 refine⟨λd hd=>?_,λhi=>?_⟩
 · have hi:i<n:=by have:=lt_of_get hd;simpa [J2]using this
   have e:d= .int (lo+i):=by unfold J2 at hd;rw[jg,List.getElem?_range hi]at hd;simp at hd;exact hd.symm
   subst e;exact⟨hi,λx H2 ⟨e1,e2⟩=>by subst e1 e2;exact⟨Ext.refl _ _,h',ofI⟩⟩
 ·show n<=i;simpa [J2]using hi
theorem wv(hg:Gl X "range")(hm:X.mg "range" =none)(ha:DA X Z [a] fs)(hs:zW [a] X.env= [(false,eval a X.env)]):DI X Z tg (.Call (.Name "range" p) [a] [] pos) (T4 fs):=
 DI.of (Gz hg hm ha.h hs) λσ H R Ng=>Ng.elim λX9 μ G s h p=>⟨X9,μ,G,s,h,(d7.bind p).mono λds X0 G1 H1 x1 h1 p1 vs rv=>by
  rcases ds with _|⟨_|_|j|_|_|_|_|_,_|⟨_,_⟩⟩<;>dsimp only at p1<;>try exact p1.elim
  · split at p1
    · rename_i hj;obtain⟨v,t,rfl,r0,e⟩:=rv
      cases e
      exact⟨j,by rw[T5 r0],hj.1,hj.2,d7.ok p1 h1 _ (Hc 0 _)⟩
    ·exact p1.elim⟩
end
def t3:List D->M D:=λds=>match ds with
 |[.str z]=>if z.length<=zk then pure (.int z.length)else M.stuck
 |[.tup l]=>pure (.int l.length)
 |[.ref r]=>do
   match <-M4 r with
   | .lst l=>pure (.int l.length)
   | .rol l=>pure (.int l.length)
   | .dct l=>pure (.int l.length)
   | .rod _=>M.stuck
 |_=>M.stuck
def V6:List D->M D:=λds=>match ds with
 |[.tup l]=>pure (.tup l)
 |[.ref r]=>do
   let l <-M4 r >>= listOf
   pure (.tup l)
 |_=>M.stuck
def oA:List D->M D:=λds=>match ds with
 |[.tup l]=>K8 (.lst l)
 |[.ref r]=>do
   let l <-M4 r >>= listOf
   K8 (.lst l)
 |_=>M.stuck
def eB:List D->M D:=λds=>match ds with
 |[.int i,.int j]=>pure (.int (if j<i then j else i))
 |_=>M.stuck
def bF:List D->M D:=λds=>match ds with
 |[.int i,.int j]=>pure (.int (if j>i then j else i))
 |_=>M.stuck
def tB:List D->M D:=λds=>match ds with
 |[.int i]=>pure (.int (if i<0 then -i else i))
 |_=>M.stuck
def RN:List D->M D:=λds=>match ds with
 |[.int i]=>pure (.int i)
 |[.bl k]=>pure (.int (if k then 1 else 0))
 |_=>M.stuck
def UA:List D->Option (List Int)
 |[]=>some []
 | .int i::r=>(UA r).map (i :: ·)
 |_=>none
section
theorem P2(r:m5 c μ H [d] vs):∃v,vs= [v]/\d8 c μ H d v:=by
 obtain⟨v,t,rfl,q,e⟩:=r
 cases e
 exact⟨v,rfl,q⟩
theorem AJ(r:m5 c μ H [d,e] vs):∃v w,vs= [v,w]/\d8 c μ H d v/\d8 c μ H e w:=by
 obtain⟨v,t,rfl,q,v',t',rfl,q',z⟩:=r
 cases z
 exact⟨v,v',rfl,q,q'⟩
theorem Mc:O3 X Z (.builtin "len") t3:=O3.of (R4.or iZ (R4.or Hk Lf)) λxs H Q Ng=>Ng.elim λds μ G rl hr p=>by
 rcases ds with _|⟨_|_|_|z|l|i|_|_,_|⟨_,_⟩⟩<;>try exact p.elim
 all_goals (delta t3 at p;dsimp only at p)
 · obtain⟨v,rfl,r⟩:=P2 rl;split at p
   ·rename_i hz;exact .inr (.inl ⟨z,by rw[S2 r],hz,d7.ok p hr _ ofI⟩)
   ·exact p.elim
 ·obtain⟨v,rfl,r⟩:=P2 rl;unfold d8 at r;obtain⟨a,vs,rfl,q,Nx⟩:=r;exact .inl ⟨a,vs,rfl,.inr q,by rw[<-Nx.length];exact d7.ok p hr _ ofI⟩
 · obtain⟨v,rfl,r⟩:=P2 rl;unfold d8 at r;obtain⟨a,m,rfl⟩:=r;obtain⟨o,g,p1⟩:=w6 p;have ro:=hr.obj i o a g m;rcases o with l|l|l|l
   ·obtain⟨vs,q,Nx⟩:=ro;exact .inl ⟨a,vs,rfl,.inl (SqL.of q),by rw[<-Nx.length];exact d7.ok p1 hr _ ofI⟩
   ·obtain⟨vs,q,Nx⟩:=ro;exact .inl ⟨a,vs,rfl,.inl q.sq,by rw[<-Nx.length];exact d7.ok p1 hr _ ofI⟩
   ·obtain⟨Nd,q,rk⟩:=ro;exact .inr (.inr ⟨a,Nd,rfl,q,by rw[<-rk.length];exact d7.ok p1 hr _ ofI⟩)
   ·exact p1.elim
theorem qK{f:List D->M α}{K:α->List Addr->DH->Hp->Prop}(h:m9 c μ G H)(rv:d8 c μ H (.ref r) v)(p:d7 c Z μ H (((M4 r >>= listOf) >>= f) G) K):
 ∃l a vs,v= .ref a/\m5 c μ H l vs/\SqL c.K H a vs/\d7 c Z μ H (f l G) K:=by
 obtain⟨l,a,vs,rfl,rl,p2,hq⟩:=IF h rv p;refine⟨l,a,vs,rfl,rl,?_,p2⟩;rcases hq with⟨z,_⟩|⟨_,_,_,⟨_,q⟩|⟨_,q⟩⟩
 ·cases z
 ·exact SqL.of q
 ·exact q.sq
theorem OV:O3 X Z (.type "tuple") V6:=O3.of uY λxs H Q Ng=>Ng.elim λds μ G rl hr p=>by
 rcases ds with _|⟨_|_|_|_|l|i|_|_,_|⟨_,_⟩⟩<;>try exact p.elim
 all_goals (delta V6 at p;dsimp only at p)
 ·obtain⟨v,rfl,r⟩:=P2 rl;have r':=r;unfold d8 at r';obtain⟨a,vs,rfl,q,Nx⟩:=r';exact⟨a,vs,rfl,.inr ⟨q,d7.ok p hr _ r⟩⟩
 ·obtain⟨v,rfl,r⟩:=P2 rl;obtain⟨l,a,vs,rfl,Nx,q,p2⟩:=qK hr r p;exact⟨a,vs,rfl,.inl ⟨q,λl' hl=>iE hr Nx p2 l' hl⟩⟩
theorem WQ:O3 X Z (.type "list") oA:=O3.of eU λxs H Q Ng=>Ng.elim λds μ G rl hr p=>by
 rcases ds with _|⟨_|_|_|_|l|i|_|_,_|⟨_,_⟩⟩<;>try exact p.elim
 all_goals (delta oA at p;dsimp only at p)
 ·obtain⟨v,rfl,r⟩:=P2 rl;unfold d8 at r;obtain⟨a,vs,rfl,q,Nx⟩:=r;exact⟨a,vs,rfl,.inr q,λl' hl=>Q8 hr Nx p l' hl⟩
 ·obtain⟨v,rfl,r⟩:=P2 rl;obtain⟨l,a,vs,rfl,Nx,q,p2⟩:=qK hr r p;exact⟨a,vs,rfl,.inl q,λl' hl=>Q8 hr Nx p2 l' hl⟩
theorem GZ(hc:X.calm=true):O3 X Z (.builtin "min") eB:=O3.of (UU hc) λxs H Q Ng=>Ng.elim λds μ G rl hr p=>by
 delta eB at p;rcases ds with _|⟨_|_|i|_|_|_|_|_,t⟩<;>try exact p.elim
 rcases t with _|⟨_|_|j|_|_|_|_|_,_|⟨_,_⟩⟩<;>try exact p.elim
 obtain⟨v,w,rfl,r,r'⟩:=AJ rl;exact⟨_,_,by rw[T5 r,T5 r'],d7.ok p hr _ ofI⟩
theorem vU(hc:X.calm=true):O3 X Z (.builtin "max") bF:=O3.of (RZ hc) λxs H Q Ng=>Ng.elim λds μ G rl hr p=>by
 delta bF at p;rcases ds with _|⟨_|_|i|_|_|_|_|_,t⟩<;>try exact p.elim
 rcases t with _|⟨_|_|j|_|_|_|_|_,_|⟨_,_⟩⟩<;>try exact p.elim
 obtain⟨v,w,rfl,r,r'⟩:=AJ rl;exact⟨_,_,by rw[T5 r,T5 r'],d7.ok p hr _ ofI⟩
theorem Kw:O3 X Z (.builtin "abs") tB:=O3.of Hv λxs H Q Ng=>Ng.elim λds μ G rl hr p=>by
 rcases ds with _|⟨_|_|_|_|_|_|_|_,_|⟨_,_⟩⟩<;>try exact p.elim
 all_goals (delta tB at p;dsimp only at p)
 ·obtain⟨v,rfl,r⟩:=P2 rl;exact⟨_,by rw[T5 r],d7.ok p hr _ ofI⟩
theorem iN:O3 X Z (.type "int") RN:=O3.of gT λxs H Q Ng=>Ng.elim λds μ G rl hr p=>by
 rcases ds with _|⟨_|_|_|_|_|_|_|_,_|⟨_,_⟩⟩<;>try exact p.elim
 all_goals (delta RN at p;dsimp only at p)
 ·obtain⟨v,rfl,r⟩:=P2 rl;exact .inr ⟨_,by rw[B9 r],d7.ok p hr _ ofI⟩
 ·obtain⟨v,rfl,r⟩:=P2 rl;exact .inl ⟨_,by rw[T5 r],d7.ok p hr _ ofI⟩
theorem II:∀ {l} {ns} {vs} {us},UA l=some ns->m5 c μ H l vs->o5 vs us->us.length=ns.length/\∀i u,us[i]? =some u->∃t,u=Value.int (ns.getD i 0) t
 |[],_,_,_,e,r,q=>by cases e;cases r;cases q;exact⟨rfl,λi u h=>by simp at h⟩
 |d::ds,ns,_,_,e,r,q=>by
   obtain⟨v,t,rfl,r0,rt⟩:=r
   cases q with
   |cons q0 qt=>
     rcases d with _|_|n|_|_|_|_|_<;>try (cases e;done)
     ·
       replace e:(UA ds).map (n :: ·)=some ns:=e;rcases h:UA ds with _|ms
       ·rw[h]at e;exact t6 e
       ·
         rw[h]at e
         cases e
         obtain⟨h1,h2⟩:=II h rt qt;refine⟨by simp[h1],λi u hu=>?_⟩
         cases i with
         |zero=>
           simp at hu;subst hu;rw[T5 r0]at q0;exact q0
         |succ i=>simpa using h2 i u (by simpa using hu)
theorem ww(hg:Gl X x)(hm:X.mg x=none)(hv:jj x=some (.type n))(hn:x≠ "__name__")(hd:(x==("__debug__" :Str))=false):DE X Z (.Name x pos) (cE (.ty n)):=
 mC (v:=.ty n) (QV hg hm hv rfl hn hd) λ_ _=>by unfold d8;rfl
end
def g6:D->M Bool:=λx=>match x with
 | .non=>pure false
 | .bl b=>pure b
 | .int i=>pure (i != 0)
 | .str y=>if y.length<=zk then pure ((y.length:Int) != 0)else M.stuck
 | .tup l=>pure (!l.isEmpty)
 | .ref r=>do
   match <-M4 r with
   | .lst l=>pure (!l.isEmpty)
   | .rol l=>pure (!l.isEmpty)
   | .dct l=>pure (!l.isEmpty)
   | .rod _=>M.stuck
 |_=>M.stuck
def r6(f:Fe):DSt->M Bool:=λσ=>do g6 (<-f σ)
section
theorem Z3(r:m5 cc μ H l vs):vs.isEmpty=l.isEmpty:=by
 cases l with
 |nil=>cases r;rfl
 |cons _ _=>obtain⟨_,_,rfl,_⟩:=r;rfl
theorem QO(r:Z2 cc μ H l vs):vs.isEmpty=l.isEmpty:=by
 cases l with
 |nil=>cases r;rfl
 |cons _ _=>obtain⟨_,_,rfl,_⟩:=r;rfl
theorem rS(ha:DE X Z a fa)(he:∀whole,isTrue a X.env whole= (do let v <-whole;standAt a.pos;ZD [v] (truthy v))):DT X Z a (r6 fa):=
 DT.of (NS ha.h he) λσ H Q Ng=>Ng.elim λX9 μ G s h p=>⟨X9,μ,G,s,h,(d7.bind p).mono λd X0 G1 H1 x1 h1 p1 v rv=>by
  cases d with
  |non=>rw[eC rv];exact⟨false,rfl,d7.ok p1 h1⟩
  |bl b=>rw[B9 rv];exact⟨b,rfl,d7.ok p1 h1⟩
  |int b=>rw[T5 rv];exact⟨_,rfl,d7.ok p1 h1⟩
  |str y=>
    rw[S2 rv];unfold g6 at p1;dsimp only at p1;split at p1
    ·rename_i hz;exact⟨_,⟨hz,rfl⟩,d7.ok p1 h1⟩
    ·exact p1.elim
  |tup l=>
    unfold d8 at rv;obtain⟨a,vs,rfl,q,rl⟩:=rv;exact⟨!vs.isEmpty,.inr (.inl ⟨vs,q,rfl⟩),by rw[Z3 rl];exact d7.ok p1 h1⟩
  |ref r=>
    unfold d8 at rv;obtain⟨a,m,rfl⟩:=rv;obtain⟨o,g,p2⟩:=w6 p1;have ro:=h1.obj r o a g m
    cases o with
    |lst l=>obtain⟨vs,q,rl⟩:=ro;exact⟨!vs.isEmpty,.inl ⟨vs,SqL.of q,rfl⟩,by rw[Z3 rl];exact d7.ok p2 h1⟩
    |rol l=>obtain⟨vs,q,rl⟩:=ro;exact⟨!vs.isEmpty,.inl ⟨vs,q.sq,rfl⟩,by rw[Z3 rl];exact d7.ok p2 h1⟩
    |dct l=>obtain⟨vs,q,rl⟩:=ro;exact⟨!vs.isEmpty,.inr (.inr ⟨vs,q,rfl⟩),by rw[QO rl];exact d7.ok p2 h1⟩
    |rod l=>exact p2.elim
  |_=>exact p1.elim⟩
end
def BE(osc scope:Scope)(N XN:List Str)(caps:List (Option Nat)):Bool:=
 decide (scope.kind= .function)&&scope.names.all (λy=>decide (y.2≠ .cell))&&scope.names.all (λy=>decide (y.2= .local->scope.names.lookup y.1=some .local)) &&
 scope.names.all (λy=>decide (y.2= .free->(osc.names.lookup y.1=some .cell\/osc.names.lookup y.1=some .free)))&&scope.names.all (λy=>decide (y.2= .free->scope.names.lookup y.1=some .free)) &&
 decide (caps.length=N.length)&&(zK caps.length).all λi=>match caps[i]? with
  |some (some j)=>match N[i]?,XN[j]? with
    |some x,some y=>decide (x=y)&&decide ((x,NameKind.free)∈scope.names)
    |_,_=>false
  |_=>true
theorem X8.of{caps:List (Option Nat)}(h:BE osc scope N XN caps=true)(hs:X.env.scope=osc)(hN:X.N=XN):X8 X scope N caps:=by
 unfold BE at h;simp only[jl,decide_eq_true_eq,xG]at h;obtain⟨⟨⟨⟨⟨⟨h1,h2⟩,h3⟩,h4⟩,h5⟩,h6⟩,h7⟩:=h;refine⟨h1,h2,h3,λy hy e=>?_,h5,h6,λi j e=>?_⟩
 ·have:=h4 y hy e;show X.env.scope.names.lookup y.1=_\/X.env.scope.names.lookup y.1=_;rw[hs];exact this
 · have hi:i∈zK caps.length:=by rw[js];exact lt_of_get e
   have q:=h7 i hi;simp only[e]at q;rw[hN];split at q
   ·rename_i x y e1 e2;simp only[jl,decide_eq_true_eq]at q;exact⟨x,e1,by rw[e2,q.1],q.2⟩
   ·exact FE q
def v4(m:Nat)(fb:Fs):List D->M D:=λds=>do
 match <-fb (ds.map some++yr (m-ds.length) none) with
 | .nx _=>pure .non
 | .rt d=>pure d
 |_=>M.stuck
structure FF(K:zg)(mg:Str->Option zi)(x:Str)(st:Stmt)(ps:List Str)(f:Addr)(fd:xc):Prop where
 F:Fun K x x st f fd
 b:T8 K fd ps []
 m:mg x=some (.ref f)
theorem Lw(r:m5 c μ H ds vs):w5 c μ H (ds.map some++yr (N.length-ds.length) none) (L2.start N vs):=by
 unfold L2.start;rw[r.length];refine⟨by simp[r.length],λi d e=>?_⟩;by_cases hi:i<ds.length
 · rw[zh (by simpa using hi),jg]at e;have hd:ds[i]? =some d:=by
    cases h:ds[i]? with
    |none=>rw[h]at e;exact t6 e
    |some d'=>rw[h]at e;simpa using e
   obtain⟨v,hv,rv⟩:=r.get hd;refine⟨v,?_,rv⟩;rw[zh (by simp;rw[<-r.length];exact hi),jg,hv];rfl
 ·rw[yt (by simpa using hi),Ja]at e;split at e<;>cases e
theorem WK{w:zT}{K:zg}{base:Heap}{x:Str}{st:Stmt}{f:Addr}{k n m:Nat}{fb:Fs}(F:FF K mg x st ps f fd)(S:U3 N ps (v5 st))(hn:ps.length=n)(hm:N.length=m)
 (hbody:∀(Nz:zi) (A:jd) (outer:List Env) (s:zm) (H:Hp) (E:XK),Q7 k (A.deeper (ZM x (v5 st) s.heap.objs.size f Nz))->DB (g7 CX0 P w K mg base N x (v5 st) f Nz A outer s H E).nox ZF (S8 st) fb):
 U1 P w K mg base CX0 (k+1) f fd ps (spD ⟨K,mg⟩ n (v4 m fb)):=by
 refine F.F.ok S (λvs H Q E h=>by rw[hn];exact h.1) λNz A outer s H vs Q E hr h=>⟨_,(hbody Nz A outer s H E hr).h,?_⟩;obtain⟨hl,ds,μ,G,rl,hG,p⟩:=h;subst hm;refine⟨_,μ,G,Lw rl,hG,(d7.bind p).mono λfl X0 G1 H1 x1 h1 p1=>?_⟩
 cases fl with
 |nx X9=>exact λσ _=>d7.ok p1 h1 _ ofN
 |rt d=>exact λv rv=>d7.ok p1 h1 v rv
 |bk _=>exact p1.elim
 |ct _=>exact p1.elim
def dF(K:zg):Sp:=λvs H Q _=>∃(a:Addr) (ns:List Int),vs= [.ref a]/\SqL K H a (ns.map V.int)/\sE H/\ns.length<=63/\∀H',Q (.bl true) H'
theorem wM:∀ns:List Int,m5 c μ H (ns.map D.int) (ns.map V.int)
 |[]=>rfl
 |n::t=>⟨.int n,_,rfl,ofI,wM t⟩
theorem TW{w:zT}{K:zg}{base:Heap}{f:Addr}{k:Nat}(hF:U1 P w K mg base CX0 k f fd ["script"] (spD ⟨K,mg⟩ 1 F))
 (pure:∀ns:List Int,ns.length<=63->∃G',F [.ref 0] [.rol (ns.map D.int)]=some (.ok (.bl true),G')):U1 P w K mg base CX0 k f fd ["script"] (dF K):=
 hF.imp λvs H Q E h=>by
  obtain⟨a,ns,rfl,hS,hO,hl,q⟩:=h;obtain⟨G',e⟩:=pure ns hl;refine⟨rfl, [.ref 0], [a], [.rol (ns.map D.int)],⟨.ref a, [],rfl,by unfold d8;exact⟨a,rfl,rfl⟩,rfl⟩,⟨rfl,λi j b e1 e2=>?_,λi o b e1 e2=>?_⟩,?_⟩
  ·have h1:=lt_of_get e1;have h2:=lt_of_get e2;simp at h1 h2;left;lia
  · have h1:=lt_of_get e2;simp at h1;subst h1;have e1':o= .rol (ns.map D.int):=by simpa using e1.symm
    have e2':b=a:=by simpa using e2.symm
    subst e1' e2';refine⟨ns.map V.int,?_,wM ns⟩;rcases hS with(hS|⟨o,hS⟩)|hS
    · rcases hO b with z|⟨o,xs,z⟩
      ·rw[z]at hS;exact t6 hS
      ·rw[z]at hS;cases hS
    ·exact .inl ⟨o,hS⟩
    ·exact .inr (.inr hS)
  ·rw[e];exact λX2 H' _ _ v rv=>by rw[B9 rv];exact q H'
theorem FS:jj "len" =some (.builtin "len"):=by decide +kernel
theorem Lj:jj "isinstance" =some (.builtin "isinstance"):=by decide +kernel
theorem nS:jj "min" =some (.builtin "min"):=by decide +kernel
theorem BS:jj "max" =some (.builtin "max"):=by decide +kernel
theorem kY:jj "abs" =some (.builtin "abs"):=by decide +kernel
theorem mF:jj "sorted" =some (.builtin "sorted"):=by decide +kernel
theorem OW:jj "tuple" =some (.type "tuple"):=by decide +kernel
theorem UZ:jj "list" =some (.type "list"):=by decide +kernel
theorem rR:jj "int" =some (.type "int"):=by decide +kernel
theorem lQ:jj "str" =some (.type "str"):=by decide +kernel
end DL
namespace DL
open PySem L2
def Wp{α:Type}(m:M α)(G:DH)(Q:α->DH->Prop):Prop:=∃a G',m G=some (.ok a,G')/\Q a G'
section
theorem Wp.mono(h:Wp m G Q)(k:∀a G',Q a G'->Q' a G'):Wp m G Q':=let ⟨a,G',e,q⟩:=h;⟨a,G',e,k a G' q⟩
theorem wp_pure:Wp (pure a) G Q↔Q a G:=by
 constructor
 · rintro⟨b,G',e,q⟩
   cases e
   exact q
 ·exact λq=>⟨a,G,rfl,q⟩
theorem qA:Wp (M.stuck:M α) G Q↔False:=by
 constructor
 ·rintro⟨b,G',e,q⟩;exact t6 e
 ·exact yn
theorem j6:Wp (m >>= f) G Q↔Wp m G λa G1=>Wp (f a) G1 Q:=by
 constructor
 · rintro⟨a,G',e,q⟩;rw[M.bind_eq]at e
   match h:m G,e with
   |some (.ok b,G1),e=>exact⟨b,G1,h,a,G',e,q⟩
 ·rintro⟨b,G1,e,a,G',e',q⟩;exact⟨a,G',by rw[M.bind_ok e];exact e',q⟩
theorem EH(h:m G=some (.ok a,G')):Wp m G Q↔Q a G':=⟨fun⟨b,G2,e,q⟩=>by rw[h]at e;cases e;exact q,λq=>⟨a,G',h,q⟩⟩
theorem B8:Wp (E1 o) G Q↔∃a,o=some a/\Q a G:=by
 rcases o with _|a
 ·
   constructor
   ·rintro⟨_,_,e,_⟩;exact t6 e
   ·rintro⟨_,e,_⟩;exact t6 e
 ·
   constructor
   · rintro⟨_,_,e,q⟩
     cases e
     exact⟨_,rfl,q⟩
   · rintro⟨_,e,q⟩
     cases e
     exact⟨_,_,rfl,q⟩
theorem M6{Q:DO->DH->Prop}:Wp (M4 r) G Q↔∃o,G[r]? =some o/\Q o G:=by
 constructor
 · rintro⟨a,G',e,q⟩;delta M4 at e;rcases h:G[r]? with _|o
   ·rw[h]at e;exact t6 e
   ·rw[h]at e;cases e;exact⟨_,rfl,q⟩
 ·rintro⟨o,e,q⟩;refine⟨o,G,?_,q⟩;delta M4;rw[e]
theorem T6{Q:DPP}:Wp (K8 o) G Q↔Q (.ref G.length) (G++[o]):=EH rfl
theorem aF{Q:Unit->DH->Prop}:Wp (L5 r o) G Q↔Q () (G.set r o):=EH rfl
end
section
theorem i6:Wp (U2 i σ) G Q↔∃d,σ[i]? =some (some d)/\Q d G:=by
 constructor
 · rintro⟨d,G',e,q⟩;delta U2 at e;rcases h:σ[i]? with _|o
   ·rw[h]at e;exact t6 e
   ·
     rw[h]at e;rcases o with _|d'
     ·exact t6 e
     ·cases e;exact⟨_,rfl,q⟩
 ·rintro⟨d,h,q⟩;exact⟨d,G,by delta U2;rw[h],q⟩
theorem i7:Wp (cE d σ) G Q↔Q d G:=wp_pure
theorem C9:Wp (j5 o a b σ) G Q↔Wp (a σ) G λx G1=>Wp (b σ) G1 λy G2=>Wp (o x y) G2 Q:=by unfold j5;simp only[j6]
theorem bG:Wp (unE o a σ) G Q↔Wp (a σ) G λx G1=>Wp (o x) G1 Q:=by unfold unE;simp only[j6]
theorem fA:Wp (if k=true then m else n) G R↔if k=true then Wp m G R else Wp n G R:=by cases k<;>exact Iff.rfl
theorem NQ:Wp (eP d) G B↔∃k,d= .bl k/\B k G:=by
 constructor
 · rintro⟨k,G',e,q⟩;rcases d with _|b|_|_|_|_|_|_<;>try (cases e;done)
   ·cases e;exact⟨_,rfl,q⟩
 ·rintro⟨k,e,q⟩;subst e;exact⟨k,G,rfl,q⟩
theorem WA:Wp (ifE t a b σ) G Q↔Wp (t σ) G λk G1=>if k=true then Wp (a σ) G1 Q else Wp (b σ) G1 Q:=by unfold ifE;simp only[j6,fA]
theorem bC:Wp (HB a σ) G B↔Wp (a σ) G λx G1=>∃k,x= .bl k/\B k G1:=by unfold HB;simp only[j6,NQ]
theorem tF:Wp (r6 a σ) G B↔Wp (a σ) G λx G1=>Wp (g6 x) G1 B:=by unfold r6;simp only[j6]
theorem oH:Wp (B6 t u σ) G B↔Wp (t σ) G λk G1=>if k=true then Wp (u σ) G1 B else B false G1:=by unfold B6;simp only[j6,fA,wp_pure]
theorem CV:Wp (orT t u σ) G B↔Wp (t σ) G λk G1=>if k=true then B true G1 else Wp (u σ) G1 B:=by unfold orT;simp only[j6,fA,wp_pure]
theorem t7:Wp (B0 σ) G R↔R [] G:=wp_pure
theorem AA:Wp (o0 a fs σ) G R↔Wp (a σ) G λx G1=>Wp (fs σ) G1 λxs G2=>R (x::xs) G2:=by unfold o0;simp only[j6,wp_pure]
theorem RB:Wp (C2 F fs σ) G Q↔Wp (fs σ) G λds G1=>Wp (F ds) G1 Q:=by unfold C2;simp only[j6]
theorem EF{α:Type}{m:M α}{R:α->DH->Prop}:Wp (noX m) G R↔Wp m G R:=by
 constructor
 · rintro⟨x,G',e,q⟩;delta noX at e;rcases h:m G with _|p
   ·rw[h]at e;exact t6 e
   ·
     rw[h]at e;obtain⟨_|y,G1⟩:=p
     ·exact t6 e
     ·cases e;exact⟨_,_,h,q⟩
 ·rintro⟨x,G',e,q⟩;exact⟨x,G',by delta noX;rw[e],q⟩
theorem uB:Wp (fnX n F ds) G Q↔ds.length=n/\Wp (F ds) G Q:=by
 unfold fnX;by_cases h:ds.length=n
 ·rw[if_pos h,EF];exact⟨λq=>⟨h,q⟩,λq=>q.2⟩
 ·rw[if_neg h];exact⟨λq=>(qA.mp q).elim,λq=>(h q.1).elim⟩
theorem V3:Wp (y2 fs σ) G Q↔Wp (fs σ) G λxs G1=>xs.length<=zk/\Q (.tup xs) G1:=by
 unfold y2;simp only[j6];constructor
 · rintro⟨xs,G1,e,q⟩;refine⟨xs,G1,e,?_⟩;by_cases h:xs.length<=zk
   ·rw[if_pos h]at q;exact⟨h,wp_pure.mp q⟩
   ·rw[if_neg h]at q;exact(qA.mp q).elim
 ·rintro⟨xs,G1,e,h,q⟩;exact⟨xs,G1,e,by dsimp only;rw[if_pos h];exact wp_pure.mpr q⟩
theorem aB:Wp (M5 fs σ) G Q↔Wp (fs σ) G λxs G1=>xs.length<=zk/\Q (.ref G1.length) (G1++[.lst xs]):=by
 unfold M5;simp only[j6];constructor
 · rintro⟨xs,G1,e,q⟩;refine⟨xs,G1,e,?_⟩;by_cases h:xs.length<=zk
   ·rw[if_pos h]at q;exact⟨h,T6.mp q⟩
   ·rw[if_neg h]at q;exact(qA.mp q).elim
 ·rintro⟨xs,G1,e,h,q⟩;exact⟨xs,G1,e,by dsimp only;rw[if_pos h];exact T6.mpr q⟩
theorem o6:Wp (J9 σ) G P↔P (.nx σ) G:=wp_pure
theorem f9:Wp (j9 f g σ) G P↔Wp (f σ) G λfl G1=>match fl with
 | .nx X1=>Wp (g X1) G1 P
 |r=>P r G1:=by
 delta j9;refine Iff.trans j6 ?_;constructor
 · rintro⟨fl,G1,e,q⟩;refine⟨fl,G1,e,?_⟩
   cases fl<;>first
    |exact q
    |exact wp_pure.mp q
 · rintro⟨fl,G1,e,q⟩;refine⟨fl,G1,e,?_⟩
   cases fl<;>first
    |exact q
    |exact wp_pure.mpr q
theorem lD:Wp (G9 a σ) G P↔Wp (a σ) G λd G1=>P (.rt d) G1:=by unfold G9;simp only[j6,wp_pure]
theorem b9:Wp (O5 a σ) G P↔Wp (a σ) G λ_ G1=>P (.nx σ) G1:=by unfold O5;simp only[j6,wp_pure]
theorem NC:Wp (ifS t f g σ) G P↔Wp (t σ) G λk G1=>if k=true then Wp (f σ) G1 P else Wp (g σ) G1 P:=by unfold ifS;simp only[j6,fA]
theorem i8:Wp (J6 a gg σ) G P↔Wp (a σ) G λd G1=>Wp (gg d σ) G1 λX1 G2=>P (.nx X1) G2:=by unfold J6;simp only[j6,wp_pure]
theorem Z7:Wp (D4 i d σ) G S↔S (σ.set i (some d)) G:=wp_pure
theorem SH:Wp (v4 m f ds) G Q↔Wp (f (ds.map some++yr (m-ds.length) none)) G λfl G1=>match fl with
 | .nx _=>Q .non G1
 | .rt d=>Q d G1
 |_=>False:=by
 delta v4;refine Iff.trans j6 ?_;constructor
 · rintro⟨fl,G1,e,q⟩;refine⟨fl,G1,e,?_⟩
   cases fl<;>first
    |exact wp_pure.mp q
    |exact qA.mp q
 · rintro⟨fl,G1,e,q⟩;refine⟨fl,G1,e,?_⟩
   cases fl<;>first
    |exact wp_pure.mpr q
    |exact qA.mpr q
def aW(o:Option Bool)(g:Bool->Bool)(G:DH):Option (Except Str D×DH):=match o with
 |some b=>some (.ok (.bl (g b)),G)
 |none=>none
theorem sF{g:Bool->Bool}(h:m G=aW o g G):Wp m G Q↔∃k,o=some k/\Q (.bl (g k)) G:=by
 unfold Wp;rw[h];rcases o with _|k
 ·
   constructor
   ·rintro⟨_,_,e,_⟩;exact t6 e
   ·rintro⟨_,e,_⟩;exact t6 e
 ·
   constructor
   · rintro⟨_,_,e,q⟩
     cases e
     exact⟨_,rfl,q⟩
   · rintro⟨_,e,q⟩
     cases e
     exact⟨_,_,rfl,q⟩
theorem y6:Wp (eqD x y) G Q↔∃k,eqN 40 G x y=some k/\Q (.bl k) G:=sF rfl
theorem oO:Wp (neD x y) G Q↔∃k,eqN 40 G x y=some k/\Q (.bl (!k)) G:=sF rfl
theorem qW:Wp (ltD x y) G Q↔∃k,ltN 40 G x y=some k/\Q (.bl k) G:=sF rfl
end
end DL
namespace DL
open PySem PySem.Spec L2
open PyProof.Rows hiding St
section
theorem SX(hc:X.calm=true)(hi:DI X Z tg iter it)(k:X8 X scope N caps)
 (hg:∀C s H ex,DG (O1 X scope N C s H ex) ZF tg gg) (ht:∀C s H ex,DTs (O1 X scope N C s H ex) ZF ifs tt) (he:∀C s H ex,DE (O1 X scope N C s H ex) ZF elt fe)
 (hs:∀x,yE iter X.env x=pure x) (hgo:DG X Z (.Name y py) g2) (hsw:JL (.ListComp elt [⟨tg,iter,ifs,0⟩] scope pos) (some (.Name y py)) spos.line X.env=pure true):
 DS X Z (.Assign [.Name y py] (.ListComp elt [⟨tg,iter,ifs,0⟩] scope pos) spos) (J6 (J8 it caps gg tt fe) g2):=by
 refine⟨?_⟩;intro Nc s σ H En I Ng;refine Ng.elim λX9 μ G sr hr p0=>?_;obtain⟨Q,hQ,p⟩:∃Q:VK,(∀v H',Q v H'->pB (wc X) Z g2 v σ H' En.nx)/\d7 (wc X) Z μ H (J8 it caps gg tt fe X9 G) λd X2 _ H'=>∀v,d8 (wc X) X2 H' d v->Q v H':=
  ⟨λv H'=>pB (wc X) Z g2 v σ H' En.nx,λ_ _ z=>z,(d7.bind p0).mono λd X0 G1 H1 x' h1 p1 v rv=>⟨d,X9,X0,G1,rv,sr.mono x',h1,(d7.bind p1).mono λdσ2 WX G2 H2 x2 h2 p2 σ2 s2=>d7.ok p2 h2 σ2 s2⟩⟩
 rw[exec_Assign_Name_used _ _ _ _ hsw];refine za (JA (za ?_));show zw _ X.A (do let _ <-comprehension (.ListComp elt [⟨tg,iter,ifs,0⟩] scope pos) scope X.env _ (newList []) false (eval iter X.env) (some (Ya (.Name y py) X.env))) _ _ s;refine za (jG (nN hc hi k hg ht he hs I sr hr p λDD C s4 H' m o hn fin hCn hf q9=>?_) (λ_ s' hq=>zj (zj hq)) λ_ _ e=>e);have fC:∀ {H9:Hp},H9 C=none->∀b∈ [C],D3 X Nc H9 b:=λ{H9} hn9 b hb=>by rw[zr]at hb;subst hb;exact hf H9 hn9
 obtain⟨oC,zC1,zC2,hoC,zC3⟩:=id hn;have I5:=(fin s4.heap ⟨rfl,λ_ _=>rfl⟩).pinned (fC hCn) (λb hb=>by rw[zr]at hb;subst hb;exact⟨oC,hoC,λv z=>by first|(rw[zC3.1]at z;cases z)|(rw[zC3.2.1]at z;cases z)⟩)
 refine thn (hgo.h _ s4 σ H' (.ref DD) (.ref DD) _ I5 rfl (hQ _ _ q9)) λ_ s5 ⟨σ5,H5,I6,q6⟩=>?_;obtain⟨g5,g5n,_⟩:=I6.pin (C,oC) (zP _ (zP _ (AC (by simp) hoC)));refine⟨m,hn.at' (λo e=>by rw[hoC]at e;cases e;exact g5),λh'' sb=>⟨σ5,H5,Bw I6.unpinned (fC g5n) λb o hb e=>(sb.2 b (by simpa using hb)).trans e,q6⟩⟩
end
def F5:List D->Option (List Str)
 |[]=>some []
 | .str x::r=>(F5 r).map (x :: ·)
 |_=>none
def S7:List (Key×D)->Option (List Str)
 |[]=>some []
 |(.inr x,_)::r=>(S7 r).map (x :: ·)
 |_=>none
def leS(a b:Str):Bool:= !decide (b.cps.toList<a.cps.toList)
def E6(l:List Str):List Str:=l.mergeSort leS
theorem ME:leS a b=true↔a.cps.toList<=b.cps.toList:=by unfold leS;simp
theorem MO(a b c:Str)(h1:leS a b=true)(h2:leS b c=true):leS a c=true:=by rw[ME]at *;exact List.le_trans h1 h2
theorem IX(a b:Str):(leS a b||leS b a)=true:=by rw[Bool.or_eq_true,ME,ME];exact List.le_total _ _
theorem iS(h1:leS a b=true)(h2:leS b a=true):a=b:=by
 rw[ME]at *;have e:a.cps.toList=b.cps.toList:=List.le_antisymm h1 h2
 cases a;cases b
 congr 1;exact xE.mp e
theorem iL:∀l p,risingS p l=true->(p::l).Pairwise λa b=>leS a b=true
 |[],p,_=>by simp
 |x::r,p,h=>by
   unfold risingS at h;rw[jl]at h;have ih:=iL r x h.2;have hpx:leS p x=true:=by unfold leS;rw[<-ltCps_eq];exact h.1
   refine yK.mpr ⟨λy hy=>?_,ih⟩;rcases zI.mp hy with rfl|hy
   ·exact hpx
   ·exact MO _ _ _ hpx ((yK.mp ih).1 y hy)
theorem TL(hp:l'.Perm l)(hs:sortedS l'=true):l'=E6 l:=by
 have h1:l'.Pairwise λa b=>leS a b=true:=by
  rcases l' with _|⟨x,r⟩
  ·simp
  ·exact iL r x hs
 have h2:(E6 l).Pairwise λa b=>leS a b=true:=xq MO IX l;exact Za (λa b _ _ h1 h2=>iS h1 h2) h1 h2 (hp.trans (jU l leS).symm)
section
theorem TQ(K:PySem.W.KdlSrc prog w T r d n P OK)(hh:A.handled=none)(hok:OK s.heap)(hn:n<64)(hP:∀vs:List zi,vs.length=n->(∀(j:Nat) v,vs[j]? =some v->P j v)->StrsAre vs ss)
 (h:∀(h1 h':Heap) (tk e:Nat) out Pb,(∀b o,s.heap.get? b=some o->h1.get? b=some o)->(∀b o,h1.get? b=some o->h'.get? b=some o)->h'.get? h1.objs.size=some (jz "list" out.toArray e)->StrsAre out Pb->Pb.Perm ss->sortedS Pb=true->Q (.ref h1.objs.size) {s with heap:=h',toks:=tk}):
 zw (zF prog w) A (call (.builtin "sorted") [.ref r]) Q E s:=by
 have hz:n<=zk:=zp (jT hn) (by decide);refine yx Yy Yd Ye (Yf _) ?_;unfold yz.«sorted»;refine za (zj ?_);refine za (PySem.W.kdu_collect K hh hok hz λh1 tk Nq hk Pv=>?_);have hl:Nq.toList.length=n:=by rw[zC];exact Pv.1
 refine za (xr ?_ (by rw[hl];exact hz));have hS:StrsAre Nq.toList ss:=hP Nq.toList hl λj v e=>Pv.2 j v (by rw[<-zB];exact e);have hoL:(h1.push (jz "list" Nq.toList.toArray 0)).get? h1.objs.size=some (jz "list" Nq.toList.toArray 0):=zu _ rfl;refine za (jw (jC Zq ⟨_,hoL,rfl⟩ Ze (list_sort_treeK strKind_oneLt hoL hS.keysOf (λv₁ v₂ rest e=>keyKind_strs (by rw[<-e];exact hS)) (by rw[hl];exact hn) λNm a1 a2=>⟨_,rfl,?_⟩) (Zs _)));obtain⟨Pb,b1,b2,b3⟩:=sorted_out_str hS a1 a2;obtain⟨e,he⟩:=JI hoL;refine zj ⟨_,rfl,h h1 _ tk e ((jY Nm).map (·.2)).toList Pb hk (λb o hb=>?_) (by rw[ZX];exact he) b1 b2 b3⟩;have Nk:b<h1.objs.size:=zv hb;rw[Jm (zL Nk) (by rw[size_push'];exact yB Nk),YB _ _ _ (zL Nk)];exact hb
end
def EG:List D->M D:=λds=>match ds with
 |[.ref r]=>do
   match <-M4 r with
   | .dct l=>do
     let ss <-E1 (S7 l)
     if ss.length<64 then K8 (.lst ((E6 ss).map .str))else M.stuck
   |_=>M.stuck
 |_=>M.stuck
section
theorem rO:∀ {l} {ss},S7 l=some ss->ss.length=l.length
 |[],_,e=>by cases e;rfl
 |(.inr x,_)::r,ss,e=>by
  replace e:=show (S7 r).map (_ :: ·)=some _ from e;rcases h:S7 r with _|t
  ·rw[h]at e;cases e
  ·rw[h]at e;cases e;simp[rO h]
 |(.inl _,_)::_,_,e=>by cases e
theorem CM{w:zT}:∀ {l} {ss:List Str} {Nd} {xs} {vs},S7 l=some ss->Z2 c μ H l Nd->KV Nd xs->vs.length=xs.length->
 (∀(j:Nat) (v:zi),vs[j]? =some v->∃k x,xs[j]? =some (k,x)/\(J3 P w).is k v=true)->StrsAre vs ss
 |[],_,_,xs,vs,e,r,kv,hl,hv=>by
   cases e;cases r;cases kv
   rcases vs with _|⟨_,_⟩
   ·exact .nil
   ·simp at hl
 |(.inr x,d)::t,ss,Nd,xs,vs,e,r,kv,hl,hv=>by
  replace e:=show (S7 t).map (_ :: ·)=some _ from e;rcases h:S7 t with _|q
  ·rw[h]at e;cases e
  ·
    rw[h]at e
    cases e
    obtain⟨v0,tl,rfl,r0,rt⟩:=r
    cases kv with
    |cons hk ht=>
      cases vs with
      |nil=>simp at hl
      |cons u us=>
        obtain⟨k,y,e1,e2⟩:=hv 0 u rfl;simp only[jb,je]at e1;have hk1:(Sum.inr x:Key)=_:=hk.1;rw[e1]at hk1;have e3:D8 (.inr x) u=true:=by rw[hk1];exact e2
        rcases J0 e3 with⟨_,_,z,_⟩|⟨x',t',z,eu⟩
        ·cases z
        · cases z
          subst eu;exact .cons _ _ (CM h rt ht (by simpa using hl) λj v hj=>by simpa using hv (j+1) v (by simpa using hj))
 |(.inl _,_)::_,_,_,_,_,e,_,_,_,_=>by cases e
theorem qG:∀ {out} {ss},StrsAre out ss->∃vs,vs=ss.map V.str/\o5 vs out/\m5 c μ H (ss.map D.str) vs
 |_,_,.nil=>⟨[],rfl,.nil,rfl⟩
 |_,_,.cons x t q=>by obtain⟨vs,e,h1,h2⟩:=qG q;subst e;exact⟨_,rfl,.cons ⟨t,rfl⟩ h1,_,_,rfl,by unfold d8;rfl,h2⟩
theorem mY(hc:X.calm=true):O3 X Z (.builtin "sorted") EG:=⟨by
 intro Nc s σ H xs us Q I r Ng;obtain⟨ds,μ,G,rl,hr,p⟩:=Ng;rcases ds with _|⟨_|_|_|_|_|i|_|_,_|⟨_,_⟩⟩<;>try exact p.elim
 all_goals (delta EG at p;dsimp only at p)
 · obtain⟨v,rfl,rv⟩:=P2 rl;obtain⟨u,rfl,ru⟩:=C3 r;unfold d8 at rv;obtain⟨a,m,rfl⟩:=rv
   cases ru
   obtain⟨o,g,p1⟩:=w6 p;have ro:=hr.obj i o a g m
   cases o with
   |dct l=>
     obtain⟨Nd,q,rk⟩:=ro;obtain⟨ss,es,p2⟩:=U5 p1;split at p2
     case isFalse=>exact p2.elim
     rename_i Pp;obtain⟨z,hd,vs,rel,dd⟩:=wD I.hok q;obtain⟨ep,hat⟩:=dd.dictAt;have hn:vs.length=ss.length:=by rw[rO es,<-rel.length,<-rk.length]
     refine TQ (PySem.W.kdl_dict hd) (I.ok.hd hc) hat (by omega) (λus hl hu=>CM es rk rel (by omega) hu) λh1 h' tk e out Pb k1 k2 he hS hp hs=>?_;have e2:=TL hp hs;subst e2;obtain⟨ws,ew,rv,rl2⟩:=qG (μ:=μ) hS;have I1:Inv X Nc σ H {s with heap:=h1,toks:=tk}:=I.kept k1;have hf:=I1.hok.fresh (zf _);have Nh:ws.length<=zk:=by
      rw[ew,zc];have:=(jU ss leS).length_eq;have e3:(E6 ss).length=ss.length:=this;have:(64:Nat)<=zk:=by decide
      omega
     refine⟨.ref h1.objs.size,upd H h1.objs.size (.lst ws),I1.laid k2 (zf _) ⟨Nh,out,e,rv,he⟩,rfl,Q8 hr rl2 p2 _ hf⟩
   |lst l=>exact p1.elim
   |rod l=>exact p1.elim
   |rol l=>exact p1.elim⟩
end
def Its(z:Str):It:=⟨λi _=>∃c,z.cps[i]? =some c,λi H x H'=>H'=H/\∃c,z.cps[i]? =some c/\x= .str ⟨#[c]⟩,λi _=>z.cps[i]? =none⟩
theorem Fc{K:zg}(z:Str)(t:Tok)(it:Addr):F8 P w K tg (Its z) [it] it (λi h=>h.IsStrIter it "str_ascii_iterator" z t i) where
 mem:=by simp
 obj:=λi h st b hb=>by
  have e:b=it:=by simpa using hb
  subst e;obtain⟨o,e,c,d⟩:=st;exact⟨o,e,λv z=>by rw[d]at z;cases z⟩
 keep:=λi h h' st k=>let ⟨o,ho,r⟩:=st;⟨o,k it (by simp) o ho,r⟩
 item:=by intro X hP hw hK hc i Nc s σ H E I hf st hg;subst hP hw hK;obtain⟨c,hx⟩:=hg;obtain⟨f0,f1,f2,f3,f4,f5⟩:=hf it (by simp);refine wpAny_pyNext_ascii_item st hx λh' Nm sb=>?_;have I1:Inv X Nc σ H {s with heap:=h',toks:=s.toks+1}:=I.turned (λb o hb e=>(sb.2 b hb).trans e) f0 f1 f3 f4 f5;obtain⟨o,e,cc,d⟩:=id Nm;exact⟨_,rfl,kB e cc d (by decide) ⟨.str ⟨#[c]⟩,H,I1,⟨_,rfl⟩,⟨rfl,c,hx,rfl⟩,Nm,λb hb=>(hf b hb).1⟩⟩
 done:=by intro X hP hw hK hc i Nc s σ H E I hf st hg;subst hP hw hK;obtain⟨f0,f1,f2,f3,f4,f5⟩:=hf it (by simp);exact wpAny_pyNext_ascii_end (I.ok.hd hc) st hg λh' eb=>⟨rfl,I.turned (λb o hb e=>eb b o hb e) f0 f1 f3 f4 f5⟩
 self:=λ_ _ _ _ _ st h=>wpAny_pyIter_striter_ascii st h
theorem GR{K:zg}(z:Str)(t:Tok)(it:Addr):F8 P w K tg (Its z) [it] it (λi h=>h.IsStrIter it "str_iterator" z t i) where
 mem:=by simp
 obj:=λi h st b hb=>by
  have e:b=it:=by simpa using hb
  subst e;obtain⟨o,e,c,d⟩:=st;exact⟨o,e,λv z=>by rw[d]at z;cases z⟩
 keep:=λi h h' st k=>let ⟨o,ho,r⟩:=st;⟨o,k it (by simp) o ho,r⟩
 item:=by intro X hP hw hK hc i Nc s σ H E I hf st hg;subst hP hw hK;obtain⟨c,hx⟩:=hg;obtain⟨f0,f1,f2,f3,f4,f5⟩:=hf it (by simp);refine wpAny_pyNext_wide_item st hx λh' Nm sb=>?_;have I1:Inv X Nc σ H {s with heap:=h',toks:=s.toks+1}:=I.turned (λb o hb e=>(sb.2 b hb).trans e) f0 f1 f3 f4 f5;obtain⟨o,e,cc,d⟩:=id Nm;exact⟨_,rfl,kB e cc d (by decide) ⟨.str ⟨#[c]⟩,H,I1,⟨_,rfl⟩,⟨rfl,c,hx,rfl⟩,Nm,λb hb=>(hf b hb).1⟩⟩
 done:=by intro X hP hw hK hc i Nc s σ H E I hf st hg;subst hP hw hK;obtain⟨f0,f1,f2,f3,f4,f5⟩:=hf it (by simp);exact wpAny_pyNext_wide_end (I.ok.hd hc) st hg λh' eb=>⟨rfl,I.turned (λb o hb e=>eb b o hb e) f0 f1 f3 f4 f5⟩
 self:=λ_ _ _ _ _ st h=>wpAny_pyIter_striter_wide st h
section
def LH(z:Str):List D:=z.cps.toList.map λc=>.str ⟨#[c]⟩
def vF:D->M Src:=λx=>match x with
 | .str z=>pure ⟨LH z,λ_=>true⟩
 | .tup l=>y7 (.tup l)
 | .ref r=>y7 (.ref r)
 |_=>M.stuck
end
section
end
theorem bY{w:zT}{K:zg}{base:Heap}{CX:CXT}{k n:Nat}{f:Addr}(hn:ps.length=n):U1 P w K mg base CX k f fd ps (spD ⟨K,mg⟩ n λ_=>M.stuck):=
 ⟨λvs H Q E h=>by rw[hn];exact h.1,λA outer s H args us vs Q E hr=>by
  intros;rename_i h
  first
   |exact h.2.elim
   |(obtain⟨_,_,_,_,_,_,z⟩:=h;exact z.elim)⟩
end DL
namespace W
open PySem PySem.Spec L2 DL
open PyProof.Rows hiding St
def f8(G:DH)(d:D):Prop:=∃k,P7 G d=some k
theorem st1:([d].map some++yr n none:DSt)[0]? =some (some d):=by rfl
theorem mI{P:Bool->Prop}:(∃k,D.bl b= .bl k/\P k)↔P b:=⟨fun⟨k,e,p⟩=>by cases e;exact p,λp=>⟨b,rfl,p⟩⟩
theorem O4{P:α->Prop}:(∃k,some b=some k/\P k)↔P b:=⟨fun⟨k,e,p⟩=>by cases e;exact p,λp=>⟨b,rfl,p⟩⟩
def BG:Option Int->D
 |none=>.non
 |some i=>.int i
theorem ix_tup:Wp (ixD (.tup l) (.int i)) G Q↔∃d,atI l i=some d/\Q d G:=B8
def d9:Nat->DH->D->Prop
 |0,G,d=>f8 G d
 |n+1,G,d=>f8 G d/\∀l,d= .tup l->∀x∈l,d9 n G x
theorem d9.there(h:d9 n G d):f8 G d:=by cases n;exact h;exact h.1
theorem mG:Wp (g6 (.bl b)) G B↔B b G:=wp_pure
theorem O7:Wp (eqD (.int i) (.int j)) G Q↔Q (.bl (decide (i=j))) G:=by
 have e:eqN 40 G (.int i) (.int j)=some (decide (i=j)):=by rfl
 rw[y6,e];exact O4
theorem y4(h:Wp m G λa G'=>a=x/\G'=G):m G=some (.ok x,G):=by obtain⟨a,G',e,e1,e2⟩:=h;subst e1 e2;exact e
theorem lt_int:Wp (ltD (.int i) (.int j)) G Q↔Q (.bl (decide (i<j))) G:=by
 have e:ltN 40 G (.int i) (.int j)=some (decide (i<j)):=by rfl
 rw[qW,e];exact O4
theorem Z5:Wp (u0 (.int i) (.int j)) G Q↔Q (.int (i+j)) G:=wp_pure
section
theorem QA:Wp (B1 g b ck [] σ) G P↔ck G=true/\P (.nx σ) G:=by
 unfold B1;constructor
 · rintro⟨a,G',e,q⟩;by_cases h:ck G=true
   ·simp only[h,if_true]at e;cases e;exact⟨h,q⟩
   ·simp only[h]at e;exact t6 e
 ·rintro⟨h,q⟩;exact⟨_,G,by simp only[h,if_true],q⟩
theorem rA:Wp (B1 g b ck (d::r) σ) G P↔ck G=true/\Wp (g d σ) G λWW G1=>Wp (b WW) G1 λfl G2=>match fl with
 | .nx X1=>Wp (B1 g b ck r X1) G2 P
 | .ct X1=>Wp (B1 g b ck r X1) G2 P
 | .bk X1=>P (.nx X1) G2
 | .rt d=>P (.rt d) G2:=by
 have e:Wp (B1 g b ck (d::r) σ) G P↔ck G=true/\Wp (do
  match <-b (<-g d σ) with
  | .nx X1=>B1 g b ck r X1
  | .ct X1=>B1 g b ck r X1
  | .bk X1=>pure (.nx X1)
  | .rt d=>pure (.rt d):M Fl) G P:=by
  rw[B1];constructor
  · rintro⟨a,G',e,q⟩;by_cases h:ck G=true
    ·simp only[h,if_true]at e;exact⟨h,a,G',e,q⟩
    ·simp only[h]at e;exact t6 e
  ·rintro⟨h,a,G',e,q⟩;exact⟨a,G',by simp only[h,if_true];exact e,q⟩
 rw[e];simp only[j6];refine and_congr_right λ_=>?_;constructor
 · rintro⟨WW,G1,e1,fl,G2,e2,q⟩;refine⟨WW,G1,e1,fl,G2,e2,?_⟩
   cases fl<;>first
    |exact q
    |exact wp_pure.mp q
 · rintro⟨WW,G1,e1,fl,G2,e2,q⟩;refine⟨WW,G1,e1,fl,G2,e2,?_⟩
   cases fl<;>first
    |exact q
    |exact wp_pure.mpr q
theorem VA:Wp (L3 it g b σ) G P↔Wp (it σ) G λs G1=>Wp (B1 g b s.ck s.items σ) G1 P:=by unfold L3;simp only[j6]
end
theorem tH:Wp (L4 (.int i) (.int j)) G Q↔Q (.int (i-j)) G:=wp_pure
theorem pL:Wp (neD (.int i) (.int j)) G Q↔Q (.bl (!decide (i=j))) G:=by
 have e:eqN 40 G (.int i) (.int j)=some (decide (i=j)):=by rfl
 rw[oO,e];exact O4
theorem atI_nat{k:Nat}(h:l[k]? =some s):atI l (k:Int)=some s:=by
 have hk:k<l.length:=by
  by_cases hk:k<l.length
  ·exact hk
  ·rw[zS (by omega)]at h;exact t6 h
 unfold atI ixN;rw[if_pos (by omega),if_pos (by omega)];simpa using h
section
theorem O2(h:0<j):Wp (j3 (.int i) (.int j)) G Q↔Q (.int (i % j)) G:=by have e:j3 (.int i) (.int j)=if 0<j then pure (.int (i % j))else M.stuck:=rfl;rw[e,if_pos h];exact wp_pure
theorem T9(h:0<j/\j<2 ^ 100):Wp (d5 (.int i) (.int j)) G Q↔Q (.int (i / j)) G:=by have e:d5 (.int i) (.int j)=if BB i j then pure (.int (i / j))else M.stuck:=rfl;rw[e,if_pos (show BB i j from h)];exact wp_pure
theorem Q0(h:C7 i j):Wp (i3 (.int i) (.int j)) G Q↔Q (.int (i*j)) G:=by have e:i3 (.int i) (.int j)=if C7 i j then pure (.int (i*j))else M.stuck:=rfl;rw[e,if_pos h];exact wp_pure
theorem t5{l:List D}(h:G[r]? =some (.lst l)):Wp (ixD (.ref r) (.int i)) G Q↔∃d,atI l i=some d/\Q d G:=by
 have e:ixD (.ref r) (.int i)= (do
  let l <-M4 r >>= DL.listOf
  E1 (atI l i)):=rfl
 rw[e];simp only[j6,M6,h,O4,DL.listOf,wp_pure,B8]
theorem Md{d:D}{R:Unit->DH->Prop}(h:G[r]? =some (.lst l))(hj:ixN l.length k=some j):Wp (pA (.ref r) (.int k) d) G R↔R () (G.set r (.lst (l.set j d))):=by unfold pA;simp only[j6,M6,h,O4,hj,aF]
theorem wH:Wp (E8 fo fi d σ) G S↔Wp (fo σ) G λo G1=>Wp (fi σ) G1 λi G2=>Wp (pA o i d) G2 λ_ G3=>S σ G3:=by unfold E8;simp only[j6,wp_pure]
end
def A6(G:DH)(r:Nat):Prop:=∃a b c e:Int,G[r]? =some (.lst [.int a,.int b,.int c,.int e])/\0<=b/\b<2 ^ 40
def Fr(r:Nat)(G G':DH):Prop:=G.length<=G'.length/\(∀i,i≠r->i<G.length->G'[i]? =G[i]?)/\A6 G' r
theorem A6.lt(h:A6 G r):r<G.length:=by
 obtain⟨a,b,c,e,hr,_⟩:=h;by_cases hi:r<G.length
 ·exact hi
 ·rw[zS (by omega)]at hr;exact t6 hr
theorem A6.app(h:A6 G r):A6 (G++t) r:=by have hl:=h.lt;obtain⟨a,b,c,e,hr,hb⟩:=h;exact⟨a,b,c,e,by rw[zh hl];exact hr,hb⟩
theorem Fr.refl(h:A6 G r):Fr r G G:=⟨zf _,λ_ _ _=>rfl,h⟩
theorem Fr.trans(h:Fr r G G1)(k:Fr r G1 G2):Fr r G G2:=
 ⟨zp h.1 k.1,λi hi hl=>by rw[k.2.1 i hi (by have:=h.1;omega),h.2.1 i hi hl],k.2.2⟩
theorem Fr.app(h:A6 G r):Fr r G (G++t):=⟨by simp,λi _ hl=>zh hl,h.app⟩
theorem Fr.set(h:A6 (G.set r o) r):Fr r G (G.set r o):=⟨by simp,λi hi hl=>by rw[zG (Ne.symm hi)],h⟩
theorem iI(h:u7 i j):Wp (E3 (.int i) (.int j)) G Q↔Q (.int (i ^ j.toNat)) G:=by have e:E3 (.int i) (.int j)=if u7 i j then pure (.int (i ^ j.toNat))else M.stuck:=rfl;rw[e,if_pos h];exact wp_pure
theorem p18:Wp (E3 (.int 10) (.int 18)) G Q↔Q (.int 1000000000000000000) G:=by rw[iI (by decide)];exact Iff.rfl
theorem wG:Wp (D6 (.int i)) G Q↔Q (.int (-i)) G:=wp_pure
theorem RH{l:List D}{k:Int}(h0:0<=k)(h1:k<l.length):∃d,d∈l/\atI l k=some d:=by
 obtain⟨n,rfl⟩:=yI h0;have hn:n<l.length:=by omega
 exact⟨l[n],YX hn,atI_nat (zn hn)⟩
theorem sz{l:List D}(h:Nat.ble l.length 100=true:=by rfl):l.length<=zk:=zp (ZW h) (by decide)
theorem sz2{a b:List D}(h:Nat.ble (a.length+b.length) 100=true:=by rfl):a.length+b.length<=zk:=zp (ZW h) (by decide)
theorem Fr.lt(h:Fr r G G'):r<G'.length:=h.2.2.lt
theorem Fr.at(h:Fr r G G')(hp:p≠r)(e:G[p]? =some o):G'[p]? =some o:=by
 have hl:p<G.length:=by
  by_cases hi:p<G.length
  ·exact hi
  ·rw[zS (by omega)]at e;exact t6 e
 rw[h.2.1 p hp hl];exact e
theorem f8.fr(h:f8 G d)(f:Fr r G G'):f8 G' d:=by
 obtain⟨k,h⟩:=h;rcases d with _|_|_|_|_|i|_|_<;>try (exact⟨k,h⟩;done)
 ·
   delta P7 at h;dsimp only at h;by_cases hr:i=r
   ·subst hr;obtain⟨a,b,c,e,hh,_⟩:=f.2.2;exact⟨.list,by delta P7;dsimp only;rw[hh]⟩
   · have hi:i<G.length:=by
      by_cases hi:i<G.length
      ·exact hi
      ·rw[zS (by omega)]at h;exact t6 h
     refine⟨k,?_⟩;delta P7;dsimp only;rw[f.2.1 i hr hi];exact h
theorem d9.fr(f:Fr r G G'):∀n {d},d9 n G d->d9 n G' d
 |0,_,h=>f8.fr h f
 |n+1,_,h=>⟨f8.fr h.1 f,λl e x hx=>d9.fr f n (h.2 l e x hx)⟩
theorem wT{G t:DH}:(G++t)[G.length+k]? =t[k]? :=by rw[yt (by omega)];congr 1;omega
theorem CI{G t:DH}:(G++t)[G.length]? =t[0]? :=wT (k:=0)
section
theorem Gq:Wp (eB [.int i,.int j]) G Q↔Q (.int (if j<i then j else i)) G:=wp_pure
theorem X5:Wp (mtE t m fo fs σ) G Q↔Wp (fo σ) G λx G1=>Wp (t x) G1 λ_ G2=>Wp (fs σ) G2 λxs G3=>Wp (m x xs) G3 Q:=by unfold mtE;simp only[j6]
theorem P0(h:G[r]? =some (.lst l)):Wp (u5 (.ref r)) G R↔R () G:=by delta u5;exact j6.trans ((M6.trans (by rw[h];exact O4)).trans wp_pure)
theorem Q6{l:List D}(h:G[r]? =some (.lst l))(hl:l.length<zk):Wp (u9 (.ref r) [y]) G Q↔Q .non (G.set r (.lst (l++[y]))):=by
 have e:u9 (.ref r) [y]= (do
  let l <-lstM r
  if l.length<zk then do
   let _ <-L5 r (.lst (l++[y]))
   pure .non
  else M.stuck):=rfl
 rw[e];unfold lstM;simp only[j6,M6,h,O4,wp_pure,hl,if_true,aF]
theorem bB{l:List D}(h:G[r]? =some (.lst l)):Wp (V6 [.ref r]) G Q↔Q (.tup l) G:=by
 have e:V6 [.ref r]= (do
  let l <-M4 r >>= DL.listOf
  pure (.tup l)):=rfl
 rw[e];simp only[j6,M6,h,O4,DL.listOf,wp_pure]
theorem N9:Wp (T4 fs σ) G R↔Wp (fs σ) G λxs G1=>Wp (match xs with
 |[.int j]=>if -(2 ^ 62)<=j/\j<2 ^ 62 then pure ⟨J2 0 j.toNat,λ_=>true⟩else M.stuck
 |_=>M.stuck:M Src) G1 R:=by
 delta T4;exact j6
theorem l9(h: -(2 ^ 62)<=j/\j<2 ^ 62):Wp (match [D.int j] with
 |[.int j]=>if -(2 ^ 62)<=j/\j<2 ^ 62 then pure ⟨J2 0 j.toNat,λ_=>true⟩else M.stuck
 |_=>M.stuck:M Src) G R↔R ⟨J2 0 j.toNat,λ_=>true⟩ G:=by
 show Wp (if -(2 ^ 62)<=j/\j<2 ^ 62 then pure ⟨J2 0 j.toNat,λ_=>true⟩else M.stuck:M Src) G R↔_;rw[if_pos h];exact wp_pure
theorem a9{a b:List D}(ha:G[i]? =some (.lst a))(hb:G[j]? =some (.lst b))(hl:a.length+b.length<=zk):Wp (u0 (.ref i) (.ref j)) G Q↔Q (.ref G.length) (G++[.lst (a++b)]):=by
 have e:u0 (.ref i) (.ref j)= (do
  match <-M4 i,<-M4 j with
  | .lst a,.lst b=>if a.length+b.length<=zk then K8 (.lst (a++b))else M.stuck
  |_,_=>M.stuck):=rfl
 rw[e];simp only[j6,M6,ha,hb,O4,if_pos hl,T6]
theorem FT(hl:a.length+b.length<=zk):Wp (u0 (.tup a) (.tup b)) G Q↔Q (.tup (a++b)) G:=by have e:u0 (.tup a) (.tup b)=if a.length+b.length<=zk then pure (.tup (a++b))else M.stuck:=rfl;rw[e,if_pos hl];exact wp_pure
theorem CY:Wp (mB σ) G R↔R none G:=wp_pure
theorem fW:Wp (HA f σ) G R↔Wp (f σ) G λx G1=>∃i,x= .int i/\R (some i) G1:=by
 delta HA;refine Iff.trans j6 ?_;constructor
 · rintro⟨x,G1,e,q⟩;refine⟨x,G1,e,?_⟩;rcases x with _|_|i|_|_|_|_|_<;>try (exact(qA.mp q).elim;done)
   ·exact⟨i,rfl,wp_pure.mp q⟩
 ·rintro⟨x,G1,e,i,rfl,q⟩;exact⟨_,G1,e,wp_pure.mpr q⟩
theorem sl_tup{lo hi:Option Int}:Wp (slD (.tup l) lo hi) G Q↔Q (.tup (DL.cutD l lo hi)) G:=wp_pure
theorem Cb{P:Int->Prop}:(∃k,D.int i= .int k/\P k)↔P i:=⟨fun⟨k,e,p⟩=>by cases e;exact p,λp=>⟨i,rfl,p⟩⟩
end
def AB(d:D):Prop:=∃x y:Option Int,d= .tup [BG x,BG y]
def Fr2(r p:Nat)(G G':DH):Prop:=G.length<=G'.length/\(∀i,i≠r->i≠p->i<G.length->G'[i]? =G[i]?)/\A6 G' r
theorem Fr2.trans(h:Fr2 r p G G1)(k:Fr2 r p G1 G2):Fr2 r p G G2:=
 ⟨zp h.1 k.1,λi hi hp hl=>by rw[k.2.1 i hi hp (by have:=h.1;omega),h.2.1 i hi hp hl],k.2.2⟩
theorem Fr2.set(hp:p≠r)(h:A6 G r):Fr2 r p G (G.set p o):=by refine⟨by simp,λi _ hi hl=>by rw[zG (Ne.symm hi)],?_⟩;obtain⟨a,b,c,e,hr,hb⟩:=h;exact⟨a,b,c,e,by rw[zG hp];exact hr,hb⟩
theorem AB.set{xs:List D}(h:∀d∈xs,AB d)(hd:AB d):∀x∈xs.set j d,AB x:=λx hx=>by
 rcases List.mem_or_eq_of_mem_set hx with hx|rfl
 ·exact h x hx
 ·exact hd
theorem g8{G:DH}:(G++[o])[G.length]? =some o:=CI
theorem Q4{G t:DH}{p:Nat}(e:G[p]? =some o):(G++t)[p]? =some o:=by
 have Nk:p<G.length:=by
  by_cases hi:p<G.length
  ·exact hi
  ·rw[zS (by omega)]at e;exact t6 e
 rw[zh Nk];exact e
def okD:D->Bool
 | .non=>true
 | .bl _=>true
 | .int _=>true
 | .str _=>true
 | .tup _=>true
 |_=>false
theorem eX(x:Option Int):okD (BG x)=true:=by cases x<;>rfl
theorem NY(h:okD d=true):f8 G d:=by
 cases d<;>first|exact⟨_,rfl⟩|exact FE h
theorem Dm(h:∀x∈l,okD x=true):d9 1 G (.tup l):=⟨⟨_,rfl⟩,λl' e x hx=>by cases e;exact NY (h x hx)⟩
theorem AB.there(h:AB d):d9 1 G d:=by
 obtain⟨x,y,rfl⟩:=h;exact Dm λz hz=>by simp only[zI,jR,or_false]at hz;rcases hz with rfl|rfl<;>exact eX _
def Gr(G G':DH):Prop:=G.length<=G'.length/\∀i,i<G.length->G'[i]? =G[i]?
theorem Gr.refl:Gr G G:=⟨zf _,λ_ _=>rfl⟩
theorem Gr.trans(h:Gr G G1)(k:Gr G1 G2):Gr G G2:=⟨zp h.1 k.1,λi hi=>by rw[k.2 i (by have:=h.1;omega),h.2 i hi]⟩
theorem Gr.app:Gr G (G++t):=⟨by simp,λi hi=>zh hi⟩
theorem Gr.of(h:Gr G G1)(f:Fr r G1 G2)(hr:G.length<=r):Gr G G2:=⟨zp h.1 f.1,λi hi=>by rw[f.2.1 i (by omega) (by have:=h.1;omega),h.2 i hi]⟩
theorem Gr.at{p:Nat}(h:Gr G G')(e:G[p]? =some o):G'[p]? =some o:=by
 have hl:p<G.length:=by
  by_cases hi:p<G.length
  ·exact hi
  ·rw[zS (by omega)]at e;cases e
 rw[h.2 p hl];exact e
theorem tJ:∀ns:List Int,UA (ns.map D.int)=some ns
 |[]=>rfl
 |a::r=>by show (UA (r.map D.int)).map (a :: ·)=_;rw[tJ r];rfl
theorem tP{σ:DSt}{l:List D}{R:Src->DH->Prop}(e:G[p]? =some (.lst l)):Wp (y7 (.ref p)) G R↔R ⟨l,ckO p (.lst l)⟩ G:=by
 have h:y7 (.ref p)= (do
  let o <-M4 p
  let l <-DL.listOf o
  pure ⟨l,ckO p o⟩):=rfl
 rw[h];simp only[j6,M6,e,O4,DL.listOf,wp_pure]
def ok1:D->Bool
 | .tup l=>l.all okD
 |d=>okD d
def ok2:D->Bool
 | .tup l=>l.all ok1&&decide (l.length<=40)
 |d=>okD d
section
theorem W4:Wp (K6 g t e ck [] σ) G R↔ck G=true/\R [] G:=by
 unfold K6;constructor
 · rintro⟨a,G',e,q⟩;by_cases h:ck G=true
   ·simp only[h,if_true]at e;cases e;exact⟨h,q⟩
   ·simp only[h]at e;exact t6 e
 ·rintro⟨h,q⟩;exact⟨_,G,by simp only[h,if_true],q⟩
theorem W3:Wp (K6 g t e ck (d::r) σ) G R↔ck G=true/\Wp (g d σ) G λWW G1=>Wp (t WW) G1 λb G2=>if b=true then Wp (e WW) G2 λy G3=>Wp (K6 g t e ck r WW) G3 λys G4=>R (y::ys) G4 else Wp (K6 g t e ck r WW) G2 R:=by
 have h0:Wp (K6 g t e ck (d::r) σ) G R↔ck G=true/\Wp (do
  let WW <-g d σ
  if <-t WW then do
   let y <-e WW
   let ys <-K6 g t e ck r WW
   pure (y::ys)
  else K6 g t e ck r WW:M (List D)) G R:=by
  rw[K6];constructor
  · rintro⟨a,G',e,q⟩;by_cases h:ck G=true
    ·simp only[h,if_true]at e;exact⟨h,a,G',e,q⟩
    ·simp only[h]at e;exact t6 e
  ·rintro⟨h,a,G',e,q⟩;exact⟨a,G',by simp only[h,if_true];exact e,q⟩
 rw[h0];simp only[j6,fA,wp_pure]
theorem wp_comp:Wp (J8 it caps g t e σ) G Q↔Wp (it σ) G λs G1=>s.items.length<=zk/\Wp (K6 g t e s.ck s.items (y3 caps σ)) G1 λys G2=>Q (.ref G2.length) (G2++[.lst ys]):=by
 unfold J8;simp only[j6];constructor
 · rintro⟨s,G1,e1,q⟩;refine⟨s,G1,e1,?_⟩;by_cases h:s.items.length<=zk
   ·rw[if_pos h]at q;simp only[j6,EF,T6]at q;exact⟨h,q⟩
   ·rw[if_neg h]at q;exact(qA.mp q).elim
 ·rintro⟨s,G1,e1,h,q⟩;refine⟨s,G1,e1,?_⟩;dsimp only;rw[if_pos h];simp only[j6,EF,T6];exact q
end
section
theorem pN:Wp (eqD (.str a) (.str b)) G Q↔Q (.bl (a==b)) G:=by
 have e:eqN 40 G (.str a) (.str b)=some (a==b):=by rfl
 rw[y6,e];exact O4
theorem wI(h:a.length+b.length<=zk):Wp (u0 (.str a) (.str b)) G Q↔Q (.str (a++b)) G:=by have e:u0 (.str a) (.str b)=if a.length+b.length<=zk then pure (.str (a++b))else M.stuck:=rfl;rw[e,if_pos h];exact wp_pure
theorem sR(h:z.length<=zk):Wp (t3 [.str z]) G Q↔Q (.int z.length) G:=by have e:t3 [.str z]=if z.length<=zk then pure (.int z.length)else M.stuck:=rfl;rw[e,if_pos h];exact wp_pure
theorem RS(e:G[p]? =some (.lst l)):Wp (vF (.ref p)) G R↔R ⟨l,ckO p (.lst l)⟩ G:=tP (σ:= []) e
end
def dO(c:Nat):Bool:=decide (97<=c)&&decide (c<=122)
def rJ(z:Str):Bool:=z.cps.toList.all dO
end W
namespace DL
open PySem PySem.Spec L2
open PyProof.Rows hiding St
section
end
section
end
end DL
namespace DL
open PySem PySem.Spec L2 Builtin Builtin.Str
open PyProof.Rows hiding St
section
variable{X:Cx}{Z:XC}{e:Expr}{fa:Fe}{p2 pos:Pos}{lo hi:Option Expr}{fl fh:Fo}
theorem UM(p:IsPart v o):∃l:Option (Int×Tok),v=partValue l/\l.map (·.1)=o:=by
 cases p with
 |none=>exact⟨none,rfl,rfl⟩
 |int i t=>exact⟨some (i,t),rfl,rfl⟩
theorem tQ:SlR X (λx lo hi H Q=>∃z,x= .str z/\z.length<=zk/\Q (.str (xj z lo hi)) H):=by
 intro Nc s σ H x v vl vu lo hi sl Q I rx hs pl pu h;obtain⟨z,rfl,hz,q⟩:=h;obtain⟨t,rfl⟩:=rx;obtain⟨l,el,eml⟩:=UM pl;obtain⟨u,eu,emu⟩:=UM pu;subst el eu eml emu;refine⟨"str",_,PySem.F.slot_str_getitem.lookup,typeIs_str _ z t,?_⟩;refine wpAny_getItem_str_slice (st:=none) (let ⟨o,h1,h2,h3⟩:=hs;⟨o,h1,h2,h3⟩) rfl ?_;unfold sliceMade;unfold xj at q;unfold slicePicked;have e1:((Option.map (λx:Int×Tok=>x.1) none).getD 1)= (1:Int):=rfl;simp only[e1];by_cases hc:((1:Int)==1&&(strSliceIndices (l.map (·.1)) (u.map (·.1)) 1 z.length).length==z.length)=true
 ·rw[if_pos hc]at q;rw[if_pos hc];exact⟨.str z,H,I,⟨t,rfl⟩,q⟩
 ·rw[if_neg hc]at q;rw[if_neg hc];refine⟨?_,.str _,H,I.tok _,⟨_,rfl⟩,q⟩;have hle:=Txt.slice_le z (l.map (·.1)) (u.map (·.1));unfold xj at hle;rw[if_neg hc]at hle;exact zp hle hz
def slT:D->Option Int->Option Int->M D:=λx lo hi=>match x with
 | .str z=>if z.length<=zk then pure (.str (xj z lo hi))else M.stuck
 | .tup l=>slD (.tup l) lo hi
 | .ref r=>slD (.ref r) lo hi
 |_=>M.stuck
def GA(f:Fe)(lo hi:Fo):Fe:=λσ=>do
 let x <-f σ
 let l <-lo σ
 let h <-hi σ
 slT x l h
theorem vd:SlD X Z slT:=SlR.mono (tQ.or (wX)) λx lo hi H Q ⟨dx,μ,G,rx,hr,p⟩=>by
 rcases dx with _|_|_|z|l|r|_|_<;>try (exact p.elim;done)
 ·
   unfold slT at p;dsimp only at p;split at p
   ·rename_i hz;exact .inl ⟨z,S2 rx,hz,d7.ok p hr _ (by unfold d8;rfl)⟩
   ·exact p.elim
 ·exact .inr ⟨.tup l,μ,G,rx,hr,p⟩
 ·exact .inr ⟨.ref r,μ,G,rx,hr,p⟩
theorem GU(he:DE X Z e fa)(hl:DOp X Z lo fl)(hu:DOp X Z hi fh):DE X Z (.Subscript e (.Slice lo hi none p2) pos) (GA fa fl fh):=
 DE.of (wV vd he.h hl.h hu.h) λσ H Q Ng=>Ng.elim λX9 μ G s h p=>⟨X9,μ,G,s,h,(d7.bind p).mono λd X0 G1 H1 x1 h1 p1 v rv=>
  ⟨X9,X0,G1,s.mono x1,h1,(d7.bind p1).mono λl WX G2 H2 x2 h2 p2=>⟨X9,WX,G2,s.mono (x1.trans x2),h2,(d7.bind p2).mono λu μ3 G3 H3 x3 h3 p3=>⟨d,μ3,G3,rv.mono (x2.trans x3),h3,p3⟩⟩⟩⟩
end
section
end
end DL
namespace W
open PySem PySem.Spec L2 DL Builtin Builtin.Str
open PyProof.Rows hiding St
section
theorem VF{lo hi:Fo}:Wp (GA f lo hi σ) G Q↔Wp (f σ) G λx G1=>Wp (lo σ) G1 λl G2=>Wp (hi σ) G2 λh G3=>Wp (slT x l h) G3 Q:=by unfold GA;simp only[j6]
theorem iT{lo hi:Option Int}:Wp (slT (.tup l) lo hi) G Q↔Q (.tup (DL.cutD l lo hi)) G:=wp_pure
theorem dQ{lo hi:Option Int}(h:z.length<=zk):Wp (slT (.str z) lo hi) G Q↔Q (.str (xj z lo hi)) G:=by have e:slT (.str z) lo hi=if z.length<=zk then pure (.str (xj z lo hi))else M.stuck:=rfl;rw[e,if_pos h];exact wp_pure
end
end W
namespace DL
open PySem PySem.Spec L2
open PyProof.Rows hiding St
def aA:D->D->M D:=λx y=>match y with
 | .non=>pure (.bl (SG x))
 | .bl c=>match x with
   | .bl d=>pure (.bl (d==c))
   |_=>M.stuck
 |_=>M.stuck
def FC:D->D->M D:=λx y=>match y with
 | .non=>pure (.bl (!SG x))
 | .bl c=>match x with
   | .bl d=>pure (.bl (d != c))
   |_=>M.stuck
 |_=>M.stuck
def nF(a b:Fe):Fe:=λσ=>do
 let x <-a σ
 if <-g6 x then b σ else pure x
section
theorem MV:OpR X (jc .Is) (λx y H Q=>(y= .non/\Q (.bl (decide (x= .non))) H)\/∃c d,x= .bl c/\y= .bl d/\Q (.bl (c==d)) H):=by
 intro Nc s σ H x y v u Q I rx ry h;rcases h with h|⟨c,d,rfl,rfl,q⟩
 ·exact fY Nc s σ H x y v u Q I rx ry h
 · cases rx
   cases ry
   exact is_bool ⟨.bl (c==d),H,I,rfl,q⟩
theorem lX:OpR X (jc .IsNot) (λx y H Q=>(y= .non/\Q (.bl (!decide (x= .non))) H)\/∃c d,x= .bl c/\y= .bl d/\Q (.bl (c != d)) H):=by
 intro Nc s σ H x y v u Q I rx ry h;rcases h with h|⟨c,d,rfl,rfl,q⟩
 ·exact qj Nc s σ H x y v u Q I rx ry h
 · cases rx
   cases ry
   exact isnot_bool ⟨.bl (c != d),H,I,rfl,q⟩
theorem oP:OpD X Z (jc .Is) aA:=OpD.of MV λx y H Q Ng=>Ng.elim λdx dy μ G Pj Pk hr p=>by
 rcases dy with _|d|_|_|_|_|_|_<;>try (exact p.elim;done)
 ·exact .inl ⟨eC Pk,by rw[dN Pj];exact d7.ok p hr _ ofB⟩
 ·
   rcases dx with _|c|_|_|_|_|_|_<;>try (exact p.elim;done)
   ·exact .inr ⟨c,d,B9 Pj,B9 Pk,d7.ok p hr _ ofB⟩
theorem Mb:OpD X Z (jc .IsNot) FC:=OpD.of lX λx y H Q Ng=>Ng.elim λdx dy μ G Pj Pk hr p=>by
 rcases dy with _|d|_|_|_|_|_|_<;>try (exact p.elim;done)
 ·exact .inl ⟨eC Pk,by rw[dN Pj];exact d7.ok p hr _ ofB⟩
 ·
   rcases dx with _|c|_|_|_|_|_|_<;>try (exact p.elim;done)
   ·exact .inr ⟨c,d,B9 Pj,B9 Pk,d7.ok p hr _ ofB⟩
theorem FW{G:DH}{d:D}{v:V}{f:Bool->M α}{K:α->List Addr->DH->Hp->Prop}(h:m9 (wc X) μ G H)(rv:d8 (wc X) μ H d v)(p:d7 (wc X) Z μ H ((g6 d >>= f) G) K):
 ∃k,GG X.K v H k/\d7 (wc X) Z μ H (f k G) K:=by
 have p1:=d7.bind p;rcases d with _|b|b|y|l|r|_|_<;>try (exact p1.elim;done)
 ·rw[eC rv];exact⟨false,rfl,d7.ok p1 h⟩
 ·rw[B9 rv];exact⟨b,rfl,d7.ok p1 h⟩
 ·rw[T5 rv];exact⟨_,rfl,d7.ok p1 h⟩
 ·
   rw[S2 rv];unfold g6 at p1;dsimp only at p1;split at p1
   ·rename_i hz;exact⟨_,⟨hz,rfl⟩,d7.ok p1 h⟩
   ·exact p1.elim
 ·
   unfold d8 at rv;obtain⟨a,vs,rfl,q,rl⟩:=rv;exact⟨!vs.isEmpty,.inr (.inl ⟨vs,q,rfl⟩),by rw[Z3 rl];exact d7.ok p1 h⟩
 ·
   unfold d8 at rv;obtain⟨a,m,rfl⟩:=rv;obtain⟨o,g,p2⟩:=w6 p1;have ro:=h.obj r o a g m;rcases o with l|l|l|l
   ·obtain⟨vs,q,rl⟩:=ro;exact⟨!vs.isEmpty,.inl ⟨vs,SqL.of q,rfl⟩,by rw[Z3 rl];exact d7.ok p2 h⟩
   ·obtain⟨vs,q,rl⟩:=ro;exact⟨!vs.isEmpty,.inl ⟨vs,q.sq,rfl⟩,by rw[Z3 rl];exact d7.ok p2 h⟩
   ·obtain⟨vs,q,rl⟩:=ro;exact⟨!vs.isEmpty,.inr (.inr ⟨vs,q,rfl⟩),by rw[QO rl];exact d7.ok p2 h⟩
   ·exact p2.elim
theorem bR{rest:List Expr}(ha:DE X Z a fa)(hb:DE X Z (.BoolOp .And (b::rest) pos) fb):DE X Z (.BoolOp .And (a::b::rest) pos) (nF fa fb):=by
 refine⟨?_⟩;intro Nc s σ H Q I Ng;refine Ng.elim λX9 μ G sr h p=>?_;refine BoolOp_and (thn (ha.h Nc s σ H _ I ⟨X9,μ,G,sr,h,(d7.bind p).mono λd X0 G1 H1 x1 h1 p1 v rv=>(⟨d,X0,G1,x1,rv,h1,p1⟩:∃d X0 G1,Ext μ H X0 H1/\d8 (wc X) X0 H1 d v/\m9 (wc X) X0 G1 H1/\d7 (wc X) Z X0 H1 ((g6 d >>= λk=>if k=true then fb X9 else pure d) G1) λd X2 _ H'=>∀v,d8 (wc X) X2 H' d v->Q v H')⟩) λv s1 ⟨x,H1,I1,r1,d,X0,G1,x1,rd,h1,p1⟩=>?_);obtain⟨k,tk,p2⟩:=FW h1 rd p1;refine thn (PN Nc s1 σ H1 x v (λc H'=>c=k/\H'=H1) I1 r1 ⟨k,tk,rfl,rfl⟩) λc s2 ⟨H2,I2,e1,e2⟩=>?_;subst e1 e2;rcases c with _|_
 ·exact⟨x,H2,I2,r1,d7.ok p2 h1 _ rd⟩
 ·exact hb.h Nc s2 σ H2 Q I2 ⟨X9,X0,G1,sr.mono x1,h1,p2⟩
end
end DL
namespace W
open PySem PySem.Spec L2 DL
open PyProof.Rows hiding St
section
theorem BY:Wp (nF a b σ) G Q↔Wp (a σ) G λx G1=>Wp (g6 x) G1 λk G2=>if k=true then Wp (b σ) G2 Q else Q x G2:=by unfold nF;simp only[j6,fA,wp_pure]
end
end W
namespace DL
open PySem PySem.Spec L2
open PyProof.Rows hiding St
structure kA(F:List D->M D)(n:Nat)(x:Str)(P:zM)(w:zT)(K:zg)(mg:Str->Option zi)(base:Heap)(k:Nat):Prop where
 ex:∃f fd ps,U1 P w K mg base CX0 k f fd ps (spD ⟨K,mg⟩ n F)/\mg x=some (.ref f)/\ya K (.ref f)=true/\T8 K fd ps []
theorem kA.of{P:zM}{w:zT}{K:zg}{base:Heap}{k n:Nat}{x:Str}{st:Stmt}{f:Addr}(c:FF K mg x st ps f fd)(h:U1 P w K mg base CX0 k f fd ps (spD ⟨K,mg⟩ n F)):kA F n x P w K mg base k:=
 ⟨f,fd,ps,h,c.m,c.F.kp,c.b⟩
def bltL:List Str:= ["len", "isinstance", "all", "any", "sum", "min", "max", "abs", "sorted", "tuple", "list", "int", "str", "bool", "dict", "zip", "enumerate", "range", "reversed", "set"]
structure BLs(mg:Str->Option zi):Prop where
 h:∀b∈bltL,mg b=none
theorem vG:(yZ p l).any (·.1)=l.any (·.1):=by unfold yZ;rw[List.any_map];rfl
theorem uF:∀ {es},es.all L9=true->(zW es env).any (·.1)=false
 |[],_=>rfl
 |e::es,h=>by rw[yS,jl]at h;rw[y8 h.1,yR,uF h.2];rfl
section
theorem nX(hN:∃N ps sc,U3 N ps sc/\X.N=N)(hi:X.N[i]? =some x)(hx:Loc X.env.scope x)(hf:X.fn x=true\/X.env.scope.names.lookup x=some .local):DG X Z (.Name x pos) (D4 i):=by obtain⟨N,ps,sc,S,e⟩:=hN;exact lL (by rw[e];exact S.nd) hi hx hf
theorem rQ(ha:DE X Z e fa)(hr:DA X Z es fs)(hs:L9 e=true):DA X Z (e::es) (o0 fa fs):=wb ha hr (y8 hs)
theorem kU(hF:∃k kk,kA F n x X.prog X.w X.K X.mg X.base k/\Q7 kk X.A/\k<=kk)(hg:Gl X x)(ha:DA X Z (e::es) fs)(hdb:(x==("__debug__" :Str))=false)(hs:(e::es).all L9=true):
 DE X Z (.Call (.Name x p) (e::es) [] pos) (C2 (fnX n F) fs):=by
 obtain⟨k,kk,hF,hr,hk⟩:=hF;obtain⟨f,fd,ps,h1,h2,h3,h4⟩:=hF.ex;rw[yS,jl]at hs;exact Kh h1 (hr.mono hk) hg h2 h3 h4 ha hdb (y8 hs.1) (by rw[vG];exact uF hs.2)
structure BD(F:List D->M D)(x:Str)(X:Cx)(Z:XC):Prop where
 ex:(∃id,O3 X Z (.builtin id) F/\jj x=some (.builtin id))\/(∃T,O3 X Z (.type T) F/\jj x=some (.type T))
theorem lZ(hc:X.calm=true)(hF:X.calm=true->BD F x X Z)(hb:BLs X.mg)(hx:bltL.elem x=true)(hg:Gl X x)(ha:DA X Z (e::es) fs)(hn:x≠ "__name__")(hdb:(x==("__debug__" :Str))=false)(hs:(e::es).all L9=true):
 DE X Z (.Call (.Name x p) (e::es) [] pos) (C2 F fs):=by
 have hm:=hb.h x (List.elem_iff.mp hx);rw[yS,jl]at hs;rcases (hF hc).ex with⟨id,h1,h2⟩|⟨T,h1,h2⟩
 ·exact HQ h1 hg hm h2 ha hn hdb (y8 hs.1) (by rw[vG];exact uF hs.2)
 ·exact Lk h1 hg hm h2 ha hn hdb (y8 hs.1) (by rw[vG];exact uF hs.2)
theorem fS(_:X.calm=true):BD t3 "len" X Z:=⟨.inl ⟨_,Mc,FS⟩⟩
theorem MZ(_:X.calm=true):BD CA "isinstance" X Z:=⟨.inl ⟨_,Cg,Lj⟩⟩
theorem Lb(h:X.calm=true):BD eB "min" X Z:=⟨.inl ⟨_,GZ h,nS⟩⟩
theorem mQ(h:X.calm=true):BD bF "max" X Z:=⟨.inl ⟨_,vU h,BS⟩⟩
theorem Gv(_:X.calm=true):BD tB "abs" X Z:=⟨.inl ⟨_,Kw,kY⟩⟩
theorem Kf(_:X.calm=true):BD V6 "tuple" X Z:=⟨.inr ⟨_,OV,OW⟩⟩
theorem tX(_:X.calm=true):BD oA "list" X Z:=⟨.inr ⟨_,WQ,UZ⟩⟩
theorem nZ:∀n∈ ["int", "bool", "str", "tuple", "list", "dict"],jj (jD n)=some (.type n):=by decide +kernel
theorem oY(hb:BLs X.mg)(hn:n∈ ["int", "bool", "str", "tuple", "list", "dict"])(hx:bltL.elem (jD n)=true)(hg:Gl X (jD n))(hnn:jD n≠ "__name__")(hd:(jD n==("__debug__" :Str))=false):DE X Z (.Name (jD n) pos) (cE (.ty n)):=
 ww hg (hb.h _ (List.elem_iff.mp hx)) (nZ n hn) hnn hd
theorem cX(hb:BLs X.mg)(hg:Gl X "range")(ha:DA X Z [a] fs)(hs:L9 a=true):DI X Z tg (.Call (.Name "range" p) [a] [] pos) (T4 fs):=wv hg (hb.h _ (by decide +kernel)) ha (lH hs)
def D5(sc:Scope):List Str:=(sc.names.filterMap λy=>if y.2 == .local&&y.1 != (".0" :Str)then some y.1 else none)++(sc.names.filterMap λy=>if y.2 == .free then some y.1 else none)
theorem OX(hc:X.calm=true)(hi:DI X Z tg iter it)(k:∃XN ps osc,U3 XN ps osc/\X.env.scope=osc/\X.N=XN/\BE osc scope (D5 scope) XN caps=true)(nd:(D5 scope).Nodup)
 (hg:(D5 scope).Nodup->∀C s H ex,DG (O1 X scope (D5 scope) C s H ex) ZF tg gg) (ht:∀C s H ex,DTs (O1 X scope (D5 scope) C s H ex) ZF ifs tt) (he:∀C s H ex,DE (O1 X scope (D5 scope) C s H ex) ZF elt fe)
 (hf:∀x,yE iter X.env x=pure x):DE X Z (.ListComp elt [⟨tg,iter,ifs,0⟩] scope pos) (J8 it caps gg tt fe):=let ⟨_,_,_,_,hs,hN,k⟩:=k;KS hc hi (X8.of k hs hN) (hg nd) ht he hf
theorem Ff(hc:X.calm=true)(hi:DI X Z tg iter it)(k:∃XN ps osc,U3 XN ps osc/\X.env.scope=osc/\X.N=XN/\BE osc scope (D5 scope) XN caps=true)(nd:(D5 scope).Nodup)
 (hg:(D5 scope).Nodup->∀C s H ex,DG (O1 X scope (D5 scope) C s H ex) ZF tg gg) (ht:∀C s H ex,DTs (O1 X scope (D5 scope) C s H ex) ZF ifs tt) (he:∀C s H ex,DE (O1 X scope (D5 scope) C s H ex) ZF elt fe)
 (hf:∀x,yE iter X.env x=pure x) (hgo:DG X Z (.Name y py) g2) (hsw:JL (.ListComp elt [⟨tg,iter,ifs,0⟩] scope pos) (some (.Name y py)) spos.line X.env=pure true):
 DS X Z (.Assign [.Name y py] (.ListComp elt [⟨tg,iter,ifs,0⟩] scope pos) spos) (J6 (J8 it caps gg tt fe) g2):=let ⟨_,_,_,_,hs,hN,k⟩:=k;SX hc hi (X8.of k hs hN) (hg nd) ht he hf hgo hsw
end
section
end
end DL
namespace W
open PySem PySem.Spec L2 DL
open PyProof.Rows hiding St
section
end
end W
namespace DL
open PySem PySem.Spec L2
open PyProof.Rows hiding St
def Itd(a:Addr)(o:Obj)(Nd:List (Key×V)):It:=
 ⟨λi H=>H a=some (.frz o (.dK Nd))/\∃kv,Nd[i]? =some kv,λi H x H'=>H'=H/\∃kv,Nd[i]? =some kv/\x=kV kv.1,λi H=>H a=some (.frz o (.dK Nd))/\Nd.length<=i⟩
theorem aJ:∀ {Nd} {vs} {i:Nat} {kv:κ×V},KV Nd vs->Nd[i]? =some kv->∃v,vs[i]? =some (kv.1,v)
 |_,_,_,_,.nil,e=>by simp at e
 |_,_,0,_,.cons h t,e=>by simp only[jb,je]at e;subst e;exact⟨_,by rw[jb,h.1]⟩
 |_,_,i+1,_,.cons h t,e=>by simp only[jf]at e ⊢;exact aJ t e
theorem rV(h:(J3 P w).is k u=true):o7 (kV k) u:=by
 rcases J0 h with⟨i,t,rfl,rfl⟩|⟨x,t,rfl,rfl⟩
 ·exact⟨t,rfl⟩
 ·exact⟨t,rfl⟩
theorem SN(I:Inv X Nc σ H s)(ho:o.data= .dict es ep)(e:H a=some (.frz o (.dK Nd))):
 (a==yY)=false/\∃vs,KV Nd vs/\s.heap.DictAt (J3 X.prog X.w) a vs ep:=by
 obtain⟨hget,hz,hS,vs,r,m⟩:=(show O6 X.prog X.w H s.heap a (.frz o (.dK Nd))from I.hok a _ e);obtain⟨ep',dat⟩:=m.dictAt;have hep:ep'=ep:=by
  obtain⟨o',Qb,h1,_,h3,_⟩:=id dat;rw[hget]at h1
  cases h1
  rw[ho]at h3
  cases h3
  rfl
 subst hep;exact⟨hS,vs,r,dat⟩
theorem ML{P:zM}{w:zT}{K:zg}{tg:Expr}{a:Addr}{o:Obj}{ep:Nat}(ho:o.data= .dict es ep)(it:Addr):F8 P w K tg (Itd a o Nd) [it] it (λi h=>h.IsKeyIter it a i Nd.length ep) where
 mem:=by simp
 obj:=λi h st b hb=>by
  have e:b=it:=by simpa using hb
  subst e;obtain⟨o,e,c,d⟩:=st;exact⟨o,e,λv z=>by rw[d]at z;cases z⟩
 keep:=λi h h' st k=>let ⟨o,ho,r⟩:=st;⟨o,k it (by simp) o ho,r⟩
 item:=by intro X hP hw hK hc i Nc s σ H E I hf st hg;subst hP hw hK;obtain⟨hfr,kv,hx⟩:=hg;obtain⟨f0,f1,f2,f3,f4,f5⟩:=hf it (by simp);obtain⟨hS,vs,rel,dat⟩:=SN I ho hfr;obtain⟨v,hv⟩:=aJ rel hx;have Nh:Nd.length=vs.length:=yL rel;rw[Nh]at st;refine wpAny_pyNext_dict_item st dat hv λkey h' hk Nm sb=>?_;have I1:Inv X Nc σ H {s with heap:=h'}:=I.turned (λb o hb e=>(sb.2 b hb).trans e) f0 f1 f3 f4 f5;obtain⟨o',e,cc,d⟩:=id Nm;refine⟨_,rfl,kB e cc d (by decide) ⟨kV kv.1,H,I1,rV hk,⟨rfl,kv,hx,rfl⟩,by rw[Nh];exact Nm,λb hb=>(hf b hb).1⟩⟩
 done:=by intro X hP hw hK hc i Nc s σ H E I hf st hg;subst hP hw hK;obtain⟨hfr,hi⟩:=hg;obtain⟨f0,f1,f2,f3,f4,f5⟩:=hf it (by simp);obtain⟨hS,vs,rel,dat⟩:=SN I ho hfr;have Nh:Nd.length=vs.length:=yL rel;rw[Nh]at st hi;exact wpAny_pyNext_dict_end (I.ok.hd hc) st dat (zS hi) λh' eb=>⟨rfl,I.turned (λb o hb e=>eb b o hb e) f0 f1 f3 f4 f5⟩
 self:=λ_ _ _ _ _ st h=>wpAny_pyIter_keyiter st h
theorem m9.setR(h:m9 c μ G H)(g:G[i]? =some o)(n:¬N4 (some o))(m:μ[i]? =some a)(k:Ext μ H μ (upd H a u))(ho:d6 c μ (upd H a u) a o'):m9 c μ (G.set i o') (upd H a u):=by
 have hi:i<G.length:=lt_of_get g;have get:∀j,(G.set i o')[j]? =if i=j then some o' else G[j]? :=λj=>by
  rw[YG];by_cases e:i=j
  ·subst e;simp[hi]
  ·simp[e]
 refine⟨by simp[h.len],λj l b ej el=>?_,λj o2 b gj mj=>?_⟩
 · rcases h.inj j l b ej el with e|e|e
   ·exact .inl e
   · by_cases ij:i=j
     ·subst ij;rw[g]at e;exact(n e).elim
     ·right;left;rw[get,if_neg ij];exact e
   · by_cases ij:i=l
     ·subst ij;rw[g]at e;exact(n e).elim
     ·right;right;rw[get,if_neg ij];exact e
 · rw[get]at gj;by_cases ij:i=j
   · subst ij;rw[if_pos rfl]at gj
     cases gj
     rw[m]at mj
     cases mj
     exact ho
   · rw[if_neg ij]at gj;have q:=h.obj j o2 b gj mj;by_cases hr:N4 (some o2)
     ·exact q.mono k (.inr hr)
     · have nb:b≠a:=λe=>by
        subst e;rcases h.inj i j b m mj with e|e|e
        ·exact ij e
        ·rw[g]at e;exact n e
        ·rw[gj]at e;exact hr e
       exact q.mono k (.inl (v9 nb))
section
theorem Inv.freeze(I:Inv X Nc σ H s)(e:H a=some (.dK Nd))(ho:s.heap.get? a=some o):Inv X Nc σ (upd H a (.frz o (.dK Nd))) s:=by have q:O6 X.prog X.w H s.heap a (.dK Nd):=I.hok a _ e;exact I.write (by rw[e];exact trivial) (.inl rfl) (λb u _ z=>z) ⟨o,ho⟩ ⟨ho,q⟩
def iW(K:zg)(tl:TE):TI:=λσ H R=>tl σ H λx H1=>((∃z,x= .str z/\R (Its z) H1)\/(∃k a xs,x= .ref a/\Sq K k H1 a xs/\R (if k=true then Itt K a else Itl K a) H1))\/
 (∃a Nd,x= .ref a/\H1 a=some (.dK Nd)/\∀o,R (Itd a o Nd) (upd H1 a (.frz o (.dK Nd))))\/(∃a o Nd,x= .ref a/\H1 a=some (.frz o (.dK Nd))/\R (Itd a o Nd) H1)
theorem Dc(hl:PE X e tl):PI X tg e (iW X.K tl):=by
 intro Nc s σ H R I h;refine thn (hl Nc s σ H _ I h) λv s1 Nw=>Nw.elim λx H1 I1 r1 q1=>?_;have fpo:∀b∈ [s1.heap.objs.size],D3 X Nc H1 b:=λb hb=>by
  have z:b=s1.heap.objs.size:=by simpa using hb
  subst z;exact I1.fpOk (zf _) (I1.hok.fresh (zf _))
 rcases q1 with(⟨z,rfl,q⟩|⟨k,a,xs,rfl,hq,q⟩)|⟨a,Nd,rfl,hq,q⟩|⟨a,o,Nd,rfl,hq,q⟩
 · obtain⟨t,rfl⟩:=(show ∃t,v=Value.str z t from r1);refine wpAny_pyIter_strU ?_;have I2:Inv X Nc σ H1 {s1 with heap:=s1.heap.push {cls:=.type (xV z),data:=.fields #[.str z t,.int 0 0]}}:=I1.kept λb o z=>ze _ z;have hg:(s1.heap.push {cls:=.type (xV z),data:=.fields #[.str z t,.int 0 0]}).get? s1.heap.objs.size=some {cls:=.type (xV z),data:=.fields #[.str z t,.int 0 0]}:=zu _ rfl;by_cases ha:z.cps.all (· < 128)=true
   · have e:xV z= "str_ascii_iterator":=by unfold xV;rw[if_pos ha]
     refine⟨s1.heap.objs.size, [s1.heap.objs.size],_,_,H1,rfl,I2,Fc z t _,?_,fpo,q⟩;rw[e]at hg ⊢;exact⟨_,hg,rfl,rfl⟩
   · have e:xV z= "str_iterator":=by unfold xV;rw[if_neg ha]
     refine⟨s1.heap.objs.size, [s1.heap.objs.size],_,_,H1,rfl,I2,GR z t _,?_,fpo,q⟩;rw[e]at hg ⊢;exact⟨_,hg,rfl,rfl⟩
 · cases r1
   rcases k with _|_
   ·
     obtain⟨Nf,rv,p,hz⟩:=I1.list hq;exact wpAny_pyIter_list p.isList ⟨s1.heap.objs.size, [s1.heap.objs.size],_,_,H1,rfl,I1.kept λb o z=>ze _ z,Hb a _,⟨_,zu _ rfl,rfl,rfl⟩,fpo,q⟩
   ·
     obtain⟨Nf,rv,p,hz⟩:=I1.tuple hq;exact wpAny_pyIter_tuple (show s1.heap.IsTuple a Nf.toArray from p) ⟨s1.heap.objs.size, [s1.heap.objs.size],_,_,H1,rfl,I1.kept λb o z=>ze _ z,qY a _,⟨_,zu _ rfl,rfl,rfl⟩,fpo,q⟩
 · cases r1
   obtain⟨hz,hS,vs,rel,dd⟩:=wD I1.hok hq;obtain⟨ep,dat⟩:=dd.dictAt;obtain⟨o,es,h1,h2,h3,h4⟩:=id dat;have Nh:Nd.length=vs.length:=yL rel;have I2:=DL.Inv.freeze I1 hq h1;have fpo2:∀b∈ [s1.heap.objs.size],D3 X Nc (upd H1 a (.frz o (.dK Nd))) b:=λb hb=>by
    have z:b=s1.heap.objs.size:=by simpa using hb
    subst z;exact I2.fpOk (zf _) (I2.hok.fresh (zf _))
   refine wpAny_pyIter_dict hS dat ⟨s1.heap.objs.size, [s1.heap.objs.size],_,_,upd H1 a (.frz o (.dK Nd)),rfl,I2.kept λb o z=>ze _ z,ML h3 _,?_,fpo2,q o⟩;rw[Nh];exact⟨_,zu _ rfl,rfl,rfl⟩
 · cases r1
   obtain⟨hget,hz,hS,vs,rel,dd⟩:=(show O6 X.prog X.w H1 s1.heap a (.frz o (.dK Nd))from I1.hok a _ hq);obtain⟨ep,dat⟩:=dd.dictAt;obtain⟨o',es,h1,h2,h3,h4⟩:=id dat;rw[hget]at h1
   cases h1
   have Nh:Nd.length=vs.length:=yL rel;refine wpAny_pyIter_dict hS dat ⟨s1.heap.objs.size, [s1.heap.objs.size],_,_,H1,rfl,I1.kept λb o z=>ze _ z,ML h3 _,?_,fpo,q⟩;rw[Nh];exact⟨_,zu _ rfl,rfl,rfl⟩
def pG:Key->D
 | .inl i=>.int i
 | .inr x=>.str x
def aD(l:List (Key×D)):List D:=l.map λkv=>pG kv.1
def iC:D->M Src:=λx=>match x with
 | .ref r=>do
   match <-M4 r with
   | .dct l=>do
     let _ <-L5 r (.rod l)
     pure ⟨aD l,λ_=>true⟩
   | .rod l=>pure ⟨aD l,λ_=>true⟩
   |_=>vF (.ref r)
 |d=>vF d
def itW(f:Fe):DSt->M Src:=λσ=>do iC (<-f σ)
theorem VG{v:V}{R:It->Hp->Prop}(h1:m9 (wc X) X0 G1 H1)(rv:d8 (wc X) X0 H1 d v)(p1:d7 (wc X) Z X0 H1 (vF d G1) λs X2 _ H'=>∀J,ItD (wc X) X2 H' J s->R J H'):
 (∃z,v= .str z/\R (Its z) H1)\/(∃k a xs,v= .ref a/\Sq X.K k H1 a xs/\R (if k=true then Itt X.K a else Itl X.K a) H1):=by
 have main:∀dd:D,(∀z,dd≠ .str z)->d8 (wc X) X0 H1 dd v->d7 (wc X) Z X0 H1 (y7 dd G1) (λs X2 _ H'=>∀J,ItD (wc X) X2 H' J s->R J H')->(∃z,v= .str z/\R (Its z) H1)\/(∃k a xs,v= .ref a/\Sq X.K k H1 a xs/\R (if k=true then Itt X.K a else Itl X.K a) H1):=by
  intro dd _ rv p1;have p1':d7 (wc X) Z X0 H1 ((y7 dd >>= λs=>(pure s:M Src)) G1) λs X2 _ H'=>∀J,ItD (wc X) X2 H' J s->R J H':=by
   have e:(y7 dd >>= λs=>(pure s:M Src))=y7 dd:=by
    funext G;rw[M.bind_eq];rcases y7 dd G with _|q
    ·rfl
    ·obtain⟨r,G'⟩:=q;cases r<;>rfl
   rw[e];exact p1
  obtain⟨sr,k,a,vs,rfl,q,rl,is,ck,_,p2⟩:=BT h1 rv p1';refine .inr ⟨k,a,vs,rfl,q,d7.ok p2 h1 _ λX2 G' H' x' h' ck' i=>?_⟩;obtain⟨Pc,q',Nx⟩:=is X2 G' H' x' h' ck';refine⟨λd hd=>?_,λhi=>?_⟩
  · obtain⟨y,hy,ry⟩:=Nx.get hd
    cases k with
    |true=>
      rw[if_pos rfl];exact⟨⟨Pc,y,q',hy⟩,λx H2 ⟨e1,e2⟩=>by subst e1;exact⟨Ext.refl _ _,h',QL Nx hd (e2 Pc q')⟩⟩
    |false=>
      rw[if_neg zR];exact⟨⟨Pc,y,q',hy⟩,λx H2 ⟨e1,e2⟩=>by subst e1;exact⟨Ext.refl _ _,h',QL Nx hd (e2 Pc q')⟩⟩
  · cases k with
    |true=>rw[if_pos rfl];exact⟨Pc,q',by rw[<-Nx.length];exact hi⟩
    |false=>rw[if_neg zR];exact⟨Pc,q',by rw[<-Nx.length];exact hi⟩
 cases d with
 |str z=>
   refine .inl ⟨z,S2 rv,d7.ok p1 h1 _ λX2 G' H' x' h' ck' i=>⟨λd hd=>?_,λhi=>?_⟩⟩
   · simp only[LH,jg]at hd
     cases hc:z.cps.toList[i]? with
     |none=>rw[hc]at hd;cases hd
     |some c=>
       rw[hc]at hd
       cases hd
       have hc':z.cps[i]? =some c:=by rw[<-zB];exact hc
       exact⟨⟨c,hc'⟩,λx H2 ⟨e1,c2,e2,e3⟩=>by
        subst e1;rw[hc']at e2
        cases e2
        exact⟨Ext.refl _ _,h',by rw[e3];unfold d8;rfl⟩⟩
   ·simp only[LH,zc]at hi;show z.cps[i]? =none;rw[<-zB];exact zS hi
 |tup l=>exact main (.tup l) (λz q=>nomatch q) rv p1
 |ref r=>exact main (.ref r) (λz q=>nomatch q) rv p1
 |_=>exact p1.elim
theorem iJ{H:Hp}:∀ {l} {Nd} {i:Nat} {kd},Z2 c μ H l Nd->l[i]? =some kd->∃v,Nd[i]? =some (kd.1,v)
 |[],_,_,_,_,e=>by simp at e
 |(k,d)::r,_,0,_,h,e=>by obtain⟨v,t,rfl,_,_⟩:=h;simp only[jb,je]at e;subst e;exact⟨v,rfl⟩
 |(k,d)::r,_,i+1,_,h,e=>by obtain⟨v,t,rfl,_,ht⟩:=h;simp only[jf]at e ⊢;exact iJ ht e
theorem Bb(k:Key):d8 c μ H (pG k) (kV k):=by
 cases k<;>(unfold pG d8;rfl)
theorem cK{c:Wc}{H:Hp}(e:H a=some (.frz o (.dK Nd)))(rk:Z2 c μ H l Nd):ItD c μ H (Itd a o Nd) ⟨aD l,λ_=>true⟩:=by
 intro X2 G' H' x h' _ i;have e':=x.frz _ _ _ e;refine⟨λd hd=>?_,λhi=>⟨e',by rw[<-rk.length];simpa [aD]using hi⟩⟩;simp only[aD,jg]at hd
 cases hl:l[i]? with
 |none=>rw[hl]at hd;cases hd
 |some kd=>
   rw[hl]at hd
   cases hd
   obtain⟨v,hv⟩:=iJ rk hl;exact⟨⟨e',_,hv⟩,λy H2 ⟨e1,kv,e2,e3⟩=>by
    subst e1;rw[hv]at e2
    cases e2
    exact⟨Ext.refl _ _,h',by rw[e3];exact Bb _⟩⟩
theorem FV(he:DE X Z e f):DI X Z tg e (itW f):=
 DI.of (Dc he.h) λσ H R Ng=>Ng.elim λX9 μ G s h p=>⟨X9,μ,G,s,h,(d7.bind p).mono λd X0 G1 H1 x1 h1 p1 v rv=>by
  cases d with
  |ref r=>
    have rv':=rv;unfold d8 at rv';obtain⟨a,m,rfl⟩:=rv';obtain⟨o,g,p2⟩:=w6 p1;have ro:=h1.obj r o a g m;rcases o with l|l|l|l
    ·exact .inl (VG h1 rv p2)
    ·exact .inl (VG h1 rv p2)
    ·
      obtain⟨Nd,q,rk⟩:=ro;refine .inr (.inl ⟨a,Nd,rfl,q,λo=>?_⟩);have x:Ext X0 H1 X0 (upd H1 a (.frz o (.dK Nd))):=Ext.mut (ji m) q (λ_ z=>nomatch z) (λ_ _ z=>nomatch z) _;have Qc:=rk.mono x;have h2:m9 (wc X) X0 (G1.set r (.rod l)) (upd H1 a (.frz o (.dK Nd))):=h1.setR g (λz=>z) m x ⟨Nd,o,N6,Qc⟩;have p3:=d7.from p2 x;exact d7.ok p3 h2 _ (cK N6 Qc)
    ·
      obtain⟨Nd,o,q,rk⟩:=ro;exact .inr (.inr ⟨a,o,Nd,rfl,q,d7.ok p2 h1 _ (cK q rk)⟩)
  |_=>exact .inl (VG h1 rv p1)⟩
end
end DL
namespace W
open PySem PySem.Spec L2 DL
open PyProof.Rows hiding St
section
theorem wp_itW:Wp (itW f σ) G R↔Wp (f σ) G λx G1=>Wp (iC x) G1 R:=by unfold itW;simp only[j6]
theorem srcW_tup:Wp (iC (.tup l)) G R↔R ⟨l,λ_=>true⟩ G:=wp_pure
theorem UB(e:G[p]? =some (.lst l)):Wp (iC (.ref p)) G R↔R ⟨l,ckO p (.lst l)⟩ G:=by unfold iC;simp only[j6,M6,e,O4];exact RS e
end
end W
namespace DL
open PySem PySem.Spec L2
open PyProof.Rows hiding St
section
theorem vZ{a:Addr}{o:Obj}{n:Nat}(hT:T= "list"\/T= "tuple")(ho:s.heap.get? a=some o)(hc:o.cls= .type T)(hd:o.data= .seq vs.toArray n)(Pp:vs.length<64)(hS:StrsAre vs ss)
 (h:∀(h1 h':Heap) (tk e:Nat) out Pb,(∀b o,s.heap.get? b=some o->h1.get? b=some o)->(∀b o,h1.get? b=some o->h'.get? b=some o)->h'.get? h1.objs.size=some (jz "list" out.toArray e)->StrsAre out Pb->Pb.Perm ss->sortedS Pb=true->Q (.ref h1.objs.size) {s with heap:=h',toks:=tk}):
 zw (zF prog w) A (call (.builtin "sorted") [.ref a]) Q E s:=by
 have hz:vs.length<=zk:=zp (jT Pp) (by decide);refine yx Yy Yd Ye (Yf _) ?_;unfold yz.«sorted»;refine za (zj ?_);refine za (Xk a hT ho hc hd (λh1 hk=>?_) (by rw[zo];exact hz));refine za (xr ?_ hz);have hoL:(h1.push (jz "list" vs.toArray 0)).get? h1.objs.size=some (jz "list" vs.toArray 0):=zu _ rfl;refine za (jw (jC Zq ⟨_,hoL,rfl⟩ Ze (list_sort_treeK strKind_oneLt hoL hS.keysOf (λv₁ v₂ rest e=>keyKind_strs (by rw[<-e];exact hS)) Pp λNm a1 a2=>⟨_,rfl,?_⟩) (Zs _)));obtain⟨Pb,b1,b2,b3⟩:=sorted_out_str hS a1 a2;obtain⟨e,he⟩:=JI hoL;refine zj ⟨_,rfl,h h1 _ s.toks e ((jY Nm).map (·.2)).toList Pb hk (λb o hb=>?_) (by rw[ZX];exact he) b1 b2 b3⟩;have Nk:b<h1.objs.size:=zv hb;rw[Jm (zL Nk) (by rw[size_push'];exact yB Nk),YB _ _ _ (zL Nk)];exact hb
end
def bI(l:List D):M D:=do
 let ss <-E1 (F5 l)
 if ss.length<64 then K8 (.lst ((E6 ss).map .str))else M.stuck
def c9:List D->M D:=λds=>match ds with
 |[.tup l]=>bI l
 |[.ref r]=>do
   match <-M4 r with
   | .lst l=>bI l
   | .dct l=>do
     let ss <-E1 (S7 l)
     if ss.length<64 then K8 (.lst ((E6 ss).map .str))else M.stuck
   |_=>M.stuck
 |_=>M.stuck
section
theorem ED:∀ {l} {ss} {vs} {us},F5 l=some ss->m5 c μ H l vs->o5 vs us->StrsAre us ss
 |[],_,_,_,e,r,v=>by cases e;cases r;cases v;exact .nil
 | .str x::t,ss,_,_,e,r,v=>by
   replace e:=show (F5 t).map (_ :: ·)=some _ from e;rcases h:F5 t with _|q
   ·rw[h]at e;exact t6 e
   ·
     rw[h]at e
     cases e
     obtain⟨v0,tl,rfl,r0,rt⟩:=r
     cases v with
     |cons ru rt2=>
       rw[S2 r0]at ru;obtain⟨tk,rfl⟩:=ru;exact .cons _ _ (ED h rt rt2)
 | .non::_,_,_,_,e,_,_=>by exact t6 e
 | .bl _::_,_,_,_,e,_,_=>by exact t6 e
 | .int _::_,_,_,_,e,_,_=>by exact t6 e
 | .tup _::_,_,_,_,e,_,_=>by exact t6 e
 | .ref _::_,_,_,_,e,_,_=>by exact t6 e
 | .fn _::_,_,_,_,e,_,_=>by exact t6 e
 | .ty _::_,_,_,_,e,_,_=>by exact t6 e
theorem strs_len:∀ {l} {ss},F5 l=some ss->ss.length=l.length
 |[],_,e=>by cases e;rfl
 | .str x::t,ss,e=>by
   replace e:=show (F5 t).map (_ :: ·)=some _ from e;rcases h:F5 t with _|q
   ·rw[h]at e;exact t6 e
   ·rw[h]at e;cases e;simp[strs_len h]
 | .non::_,_,e=>by exact t6 e
 | .bl _::_,_,e=>by exact t6 e
 | .int _::_,_,e=>by exact t6 e
 | .tup _::_,_,e=>by exact t6 e
 | .ref _::_,_,e=>by exact t6 e
 | .fn _::_,_,e=>by exact t6 e
 | .ty _::_,_,e=>by exact t6 e
theorem IK(I:Inv X Nc σ H s)(hr:m9 (wc X) μ G H)(rl:m5 (wc X) μ H l vs)(rv:o5 vs us)(hT:T= "list"\/T= "tuple")(ho:s.heap.get? a=some o)(hc:o.cls= .type T)(hd:o.data= .seq us.toArray n)
 (p:d7 (wc X) Z μ H (bI l G) λd X2 _ H'=>∀v,d8 (wc X) X2 H' d v->Q v H'):zw (zF X.prog X.w) X.A (call (.builtin "sorted") [.ref a]) (EP X Nc σ Q) X.xe s:=by
 obtain⟨ss,es,p2⟩:=U5 p;split at p2
 case isFalse=>exact p2.elim
 rename_i Pp;have hS:=ED es rl rv;have hlen0:us.length=ss.length:=by rw[strs_len es,rl.length,rv.length]
 refine vZ hT ho hc hd (by lia) hS λh1 h' tk e out Pb k1 k2 he Px hp hs=>?_;have e2:=TL hp hs;subst e2;obtain⟨ws,ew,rv',rl2⟩:=qG (μ:=μ) Px;have I1:Inv X Nc σ H {s with heap:=h1,toks:=tk}:=I.kept k1;have hf:=I1.hok.fresh (zf _);have Nh:ws.length<=zk:=by
  rw[ew,zc];have e3:(E6 ss).length=ss.length:=(jU ss leS).length_eq;have:(64:Nat)<=zk:=by decide
  lia
 exact⟨.ref h1.objs.size,upd H h1.objs.size (.lst ws),I1.laid k2 (zf _) ⟨Nh,out,e,rv',he⟩,rfl,Q8 hr rl2 p2 _ hf⟩
theorem eR(hc:X.calm=true):O3 X Z (.builtin "sorted") c9:=⟨by
 intro Nc s σ H xs us Q I r Ng;obtain⟨ds,μ,G,rl,hr,p⟩:=Ng;rcases ds with _|⟨_|_|_|_|l|i|_|_,_|⟨_,_⟩⟩<;>try exact p.elim
 all_goals (delta c9 at p;dsimp only at p)
 · obtain⟨v,rfl,rv⟩:=P2 rl;obtain⟨u,rfl,ru⟩:=C3 r;unfold d8 at rv;obtain⟨a,vs,rfl,q,Nx⟩:=rv
   cases ru
   obtain⟨Nf,rv,⟨o,h1,h2,n,h3⟩,hz⟩:=I.tuple q;exact IK I hr Nx rv (.inr rfl) h1 h2 h3 p
 · obtain⟨v,rfl,rv⟩:=P2 rl;obtain⟨u,rfl,ru⟩:=C3 r;have rv':=rv;unfold d8 at rv';obtain⟨a,m,rfl⟩:=rv'
   cases ru
   obtain⟨o,g,p1⟩:=w6 p;have ro:=hr.obj i o a g m;rcases o with l|l|l|l
   ·
     obtain⟨vs,q,Nx⟩:=ro;obtain⟨Nf,rv,pl,hz⟩:=I.list (SqL.of q);obtain⟨o,h1,h2,n,h3⟩:=pl.isList;exact IK I hr Nx rv (.inl rfl) h1 h2 h3 p1
   ·exact p1.elim
   ·
     refine(mY (Z:=Z) hc).h Nc s σ H [.ref a] [.ref a] Q I r ⟨[.ref i],μ,G,rl,hr,?_⟩;have eo:M4 i G=some (.ok (.dct l),G):=by unfold M4;simp only[g]
     have e:EG [.ref i] G= ((do
      let ss <-E1 (S7 l)
      if ss.length<64 then K8 (.lst ((E6 ss).map .str))else M.stuck:M D)) G:=by
      show ((M4 i >>= λo=>match o with
       | .dct l => (do
         let ss <-E1 (S7 l)
         if ss.length<64 then K8 (.lst ((E6 ss).map .str))else M.stuck:M D)
       |_=>M.stuck):M D) G=_
      rw[M.bind_ok eo]
     rw[e];exact p1
   ·exact p1.elim⟩
theorem oQ(h:X.calm=true):BD c9 "sorted" X Z:=⟨.inl ⟨_,eR h,mF⟩⟩
end
end DL
namespace W
open PySem PySem.Spec L2 DL
open PyProof.Rows hiding St
section
theorem lV(e:G[r]? =some (.dct l))(hs:S7 l=some ss)(Pp:ss.length<64):Wp (c9 [.ref r]) G Q↔Q (.ref G.length) (G++[.lst ((E6 ss).map .str)]):=by unfold c9;simp only[j6,M6,e,O4,B8,hs,if_pos Pp,T6]
end
end W
namespace DL
open PySem
section
end
end DL
namespace DL
open PySem
open PyProof.Rows (IsTup)
section
variable{prog:zM}{w:zT}{A:jd}{R:Result->zm->Prop}{I:Addr}{fp wr:List Addr}{n:Nat}{P:Nat->zi->Prop}{St:Nat->Heap->Prop}{K:Type}[DecidableEq K]{knd:KeyKind prog w K}
end
section
variable{prog:zM}{w:zT}{A:jd}{E:VSP}{s:zm}{K:Type}[DecidableEq K]{knd:KeyKind prog w K}
end
end DL
namespace DL
open PySem PySem.Spec L2
open PyProof.Rows hiding St
section
variable{X:Cx}{Z:XC}{μ:List Addr}{H:Hp}{G:DH}
end
def IE:D->List D->M D:=λx xs=>match x,xs with
 | .ref r, [.int k]=>do
   let l <-lstM r
   match l[k.toNat]? with
   |some y=>
     if 0<=k/\k<2 ^ 62 then do
      let _ <-L5 r (.lst (l.eraseIdx k.toNat))
      pure y
     else M.stuck
   |none=>M.stuck
 |_,_=>M.stuck
section
theorem m5.eraseIdx(n:Nat)(h:m5 c μ H l vs):m5 c μ H (l.eraseIdx n) (vs.eraseIdx n):=by rw[YO,YO];exact(m5.take _ h).append (m5.drop _ h)
theorem aU:MtD X Z "list.pop" IE:=by
 intro Nc s σ H x xs v us Q I rx rs Ng;obtain⟨d,ds,μ,G,rd,rds,hr,p⟩:=Ng;rcases d with _|_|_|_|_|r|_|_<;>try (exact p.elim;done)
 ·
   unfold d8 at rd;obtain⟨a,m,rfl⟩:=rd;rcases ds with _|⟨kd,t⟩
   ·exact p.elim
   ·
     rcases t with _|⟨_,_⟩
     ·
       rcases kd with _|_|k|_|_|_|_|_<;>try (exact p.elim;done)
       ·
         obtain⟨kv,rfl,rk⟩:=P2 rds;have ek:=T5 rk;subst ek;obtain⟨l,vs,g,ea,rl,p1⟩:=LJ hr m p;rcases hy:l[k.toNat]? with _|y
         ·simp only[hy]at p1;exact p1.elim
         ·
           simp only[hy]at p1;split at p1
           · rename_i hz;obtain⟨x1,h1,p2⟩:=tL hr g m (λx=>(rl.mono x).eraseIdx _) p1;obtain⟨yv,e1,ry⟩:=rl.get hy;have Nk:k.toNat<vs.length:=by
              by_cases q:k.toNat<vs.length
              ·exact q
              ·rw[zS (by lia)]at e1;exact t6 e1
             refine Cm Nc s σ H (.ref a) [.int k] v us Q I rx rs ⟨a,vs,k,k.toNat,yv,rfl,rfl,ea,by lia,by lia,?_,e1,d7.ok p2 h1 _ (ry.mono x1)⟩;unfold JM;have h0:¬k<0:=by lia
             have h2:(0<=k&&k<(vs.length:Int))=true:=by simp;lia
             simp only[if_neg h0,h2,if_true]
           ·exact p1.elim
     ·cases kd<;>exact p.elim
end
end DL
namespace W
open PySem PySem.Spec L2 DL
open PyProof.Rows hiding St
theorem KY(h:G[r]? =some (.lst (y::l))):Wp (IE (.ref r) [.int 0]) G Q↔Q y (G.set r (.lst l)):=by
 have e:IE (.ref r) [.int 0]= (do
  let l <-lstM r
  match l[(0:Int).toNat]? with
  |some y=>
    if 0<=(0:Int)/\(0:Int)<2 ^ 62 then do
     let _ <-L5 r (.lst (l.eraseIdx (0:Int).toNat))
     pure y
    else M.stuck
  |none=>M.stuck):=rfl
 rw[e];unfold lstM;simp only[j6,M6,h,O4,wp_pure];show Wp (if 0<=(0:Int)/\(0:Int)<2 ^ 62 then (do let _ <-L5 r (.lst l);pure y)else M.stuck) G Q↔_;rw[if_pos (by decide)];simp only[j6,wp_pure,aF]
end W
namespace DL
open PySem PySem.Spec L2
open PyProof.Rows hiding St
def ixG:D->D->M D:=λx y=>match x,y with
 | .ref r,.str z=>do
   match <-M4 r with
   | .dct l=>E1 (i4 l (.inr z))
   |_=>M.stuck
 |_,_=>ixD x y
section
theorem FU:IxR X (λx y H Q=>∃a Nd k v,x= .ref a/\y=kV k/\H a=some (.dK Nd)/\A3 Nd k=some v/\Q v H):=by
 intro value slice Nc s σ H x y v u Q I rx ry h hs;obtain⟨a,Nd,k,z,rfl,rfl,e,l,q⟩:=h
 cases rx
 obtain⟨zz,hd,vs,rel,dd⟩:=wD I.hok e;obtain⟨w',hw,rw'⟩:=a6.some_of (by rw[<-l];exact rel.val k);exact Yc dd.typeIs PySem.F.slot_dict_getitem.lookup (wpAny_getItem_of (nC ry) dd.mapOf hw ⟨rfl,z,H,I.tok _,rw',q⟩) hs
theorem qb:IxD X Z ixG:=IxR.mono (FU.or HL) λx y H Q Ng=>Ng.elim λdx dy μ G rx ry hr p=>by
 by_cases c:∃r z,dx= .ref r/\dy= .str z
 · obtain⟨r,z,rfl,rfl⟩:=c;refine .inl ?_;unfold d8 at rx;obtain⟨a,m,rfl⟩:=rx;have p':d7 (wc X) Z μ H ((M4 r >>= λo=>match o with| .dct l=>E1 (i4 l (.inr z))|_=>M.stuck:M D) G) λd X2 _ H'=>∀v,d8 (wc X) X2 H' d v->Q v H':=p;obtain⟨o,g,p1⟩:=w6 p';have ro:=hr.obj r o a g m;rcases o with _|_|l|_<;>try (exact p1.elim;done)
   ·
     obtain⟨Nd,q,rk⟩:=ro;obtain⟨d,ed,k⟩:=GF hr p1;have z1:=bH (k:=.inr z) rk;rw[ed]at z1;obtain⟨v,ev,rv⟩:=z1;exact⟨a,Nd,.inr z,v,rfl,S2 ry,q,ev,k v rv⟩
 · refine .inr ⟨dx,dy,μ,G,rx,ry,hr,?_⟩;have e:ixG dx dy=ixD dx dy:=by
    rcases dx with _|_|_|_|_|r|_|_<;>try (rfl;done)
    ·
      rcases dy with _|_|_|z|_|_|_|_<;>try (rfl;done)
      ·exact absurd ⟨r,z,rfl,rfl⟩ c
   rw[<-e];exact p
theorem aY(ha:DE X Z a fa)(hb:DE X Z b fb)(hs:UE b):DE X Z (.Subscript a b pos) (j5 ixG fa fb):=BK qb ha hb hs
end
end DL
namespace W
open PySem PySem.Spec L2 DL
open PyProof.Rows hiding St
theorem Bz(h:G[r]? =some (.dct l))(k:i4 l (.inr z)=some d):Wp (ixG (.ref r) (.str z)) G Q↔Q d G:=by have e:ixG (.ref r) (.str z)= (M4 r >>= λo=>match o with| .dct l=>E1 (i4 l (.inr z))|_=>M.stuck:M D):=rfl;rw[e];simp only[j6,M6,h,O4,B8,k,je,exists_eq_left']
end W
namespace DL
open PySem PySem.W
open PyProof.Rows hiding St
def tOk{α:Type}(lt:Nat->Nat->Bool)(n:Nat):KasT α->(α->Prop)->Prop
 | .ret a,Q=>Q a
 | .ask i j k,Q=>i<n/\j<n/\tOk lt n (k (lt i j)) Q
section
theorem tOk.bind:∀t,tOk lt n t (λa=>tOk lt n (f a) Q)->tOk lt n (t.bind f) Q
 | .ret _,h=>h
 | .ask i j k,h=>⟨h.1,h.2.1,tOk.bind (k (lt i j)) h.2.2⟩
theorem tOk.mono(hq:∀a,Q a->Q' a):∀t,tOk lt n t Q->tOk lt n t Q'
 | .ret a,h=>hq a h
 | .ask i j k,h=>⟨h.1,h.2.1,tOk.mono hq (k (lt i j)) h.2.2⟩
theorem tOk.wp(hc:∀i j C,i<n->j<n->C (lt i j) s->cmp i j C s):∀t,tOk lt n t Q->t.kasWp cmp (λa s'=>s'=s/\Q a) s
 | .ret a,h=>⟨rfl,h⟩
 | .ask i j k,h=>hc i j _ h.1 h.2.1 (tOk.wp hc (k (lt i j)) h.2.2)
end
structure E7(lt:Nat->Nat->Bool)(n:Nat):Prop where
 tr:∀i j k,lt i j=true->lt j k=true->lt i k=true
 tot:∀i j,i<n->j<n->i≠j->lt i j=false->lt j i=true
structure J5(p:Array Nat)(n:Nat):Prop where
 pm:p.toList.Perm (zK n)
section
theorem J5.size(h:J5 p n):p.size=n:=by have:=h.pm.length_eq;simpa using this
theorem J5.bd(h:J5 p n)(hk:k<n):p.getD k 0<n:=by
 have hs:=h.size;have e:p.getD k 0=p[k]'(by lia):=by simp[Zz,hs,hk]
 rw[e];have:p[k]'(by lia)∈p.toList:=by simp
 have:=h.pm.mem_iff.mp this;simpa using this
theorem J5.ne(h:J5 p n)(hi:i<n)(hj:j<n)(hij:i≠j):p.getD i 0≠p.getD j 0:=by
 have hs:=h.size;have nd:p.toList.Nodup:=h.pm.nodup_iff.mpr List.nodup_range;have e1:p.getD i 0=p.toList[i]'(by simp;lia):=by simp[Zz,hs,hi]
 have e2:p.getD j 0=p.toList[j]'(by simp;lia):=by simp[Zz,hs,hj]
 rw[e1,e2];intro e;exact hij ((Zw nd).mp e)
def C5(lt:Nat->Nat->Bool)(p:Array Nat)(m:Nat):Prop:=∀i j,i<j->j<m->lt (p.getD i 0) (p.getD j 0)=true
def iB(lt:Nat->Nat->Bool)(p:Array Nat)(m:Nat):Prop:=∀i j,i<j->j<m->lt (p.getD j 0) (p.getD i 0)=true
theorem Mz(O:E7 lt n)(hk:1<=k)(h:C5 lt p k)(hl:lt (p.getD (k-1) 0) (p.getD k 0)=true):C5 lt p (k+1):=by
 intro i j hij hj;by_cases hj':j<k
 ·exact h i j hij hj'
 · have ej:j=k:=by lia
   subst ej;by_cases hi:i=j-1
   ·rw[hi];exact hl
   ·exact O.tr _ _ _ (h i (j-1) (by lia) (by lia)) hl
theorem Hh(O:E7 lt n)(hk:1<=k)(h:iB lt p k)(hl:lt (p.getD k 0) (p.getD (k-1) 0)=true):iB lt p (k+1):=by
 intro i j hij hj;by_cases hj':j<k
 ·exact h i j hij hj'
 · have ej:j=k:=by lia
   subst ej;by_cases hi:i=j-1
   ·rw[hi];exact hl
   ·exact O.tr _ _ _ hl (h i (j-1) (by lia) (by lia))
theorem UF(O:E7 lt n)(P:J5 p n):∀f k,1<=k->k+f<=n->C5 lt p k->tOk lt n (kas_asc p f k) (λm=>k<=m/\m<=k+f/\C5 lt p m/\(m<k+f->lt (p.getD m 0) (p.getD (m-1) 0)=true))
 |0,k,h1,h2,u=>⟨zf _,zf _,u,λz=>by lia⟩
 |f+1,k,h1,h2,u=>by
   unfold kas_asc;refine⟨P.bd (by lia),P.bd (by lia),?_⟩;rcases e:lt (p.getD k 0) (p.getD (k-1) 0)with _|_
   ·
     have hl:=O.tot _ _ (P.bd (show k<n by lia)) (P.bd (show k-1<n by lia)) (P.ne (by lia) (by lia) (by lia)) e;simp only[zy,if_false];exact(UF O P f (k+1) (by lia) (by lia) (Mz O h1 u hl)).mono λm ⟨a,b,c,d⟩=>⟨by lia,by lia,c,λz=>d (by lia)⟩
   ·exact⟨zf _,by lia,u,λ_=>e⟩
theorem nJ(O:E7 lt n)(P:J5 p n):∀f k,1<=k->k+f<=n->iB lt p k->tOk lt n (kas_desc f p k 0) (λr=>r.1=p/\r.2.2=0/\k<=r.2.1/\r.2.1<=k+f/\iB lt p r.2.1)
 |0,k,h1,h2,u=>⟨rfl,rfl,zf _,zf _,u⟩
 |f+1,k,h1,h2,u=>by
   unfold kas_desc;refine⟨P.bd (by lia),P.bd (by lia),?_⟩;rcases e:lt (p.getD k 0) (p.getD (k-1) 0)with _|_
   ·
     have hl:=O.tot _ _ (P.bd (show k<n by lia)) (P.bd (show k-1<n by lia)) (P.ne (by lia) (by lia) (by lia)) e;simp only[zy,if_false];refine⟨P.bd (by lia),P.bd (by lia),?_⟩;rw[hl];exact⟨rfl,rfl,zf _,jq _ _,u⟩
   ·
     simp only[if_true,yk,if_false,gt_iff_lt];exact(nJ O P f (k+1) (by lia) (by lia) (Hh O h1 u e)).mono λr ⟨a,b,c,d,g⟩=>⟨a,b,by lia,by lia,g⟩
theorem U0(p:Array Nat)(k:Nat):p.getD k 0= (p[k]?).getD 0:=by by_cases h:k<p.size<;>simp[Zz,h]
theorem dA(P:J5 p n):J5 (kas_rev p i j) n:=⟨(yo.mp (mirror_perm p i j _)).trans P.pm⟩
theorem Lg(P:J5 p n)(hm:m<=n)(d:iB lt p m):C5 lt (kas_rev p 0 m) m:=by
 intro i j hij hj;have hs:=P.size;have e:∀k,k<m->(kas_rev p 0 m).getD k 0=p.getD (m-1-k) 0:=λk hk=>by rw[U0,U0];unfold kas_rev;rw[getElem?_mirror_all (by lia),if_pos ⟨zD _,hk⟩,Jo]
 rw[e i (by lia),e j hj];exact d (m-1-j) (m-1-i) (by lia) (by lia)
theorem qV(O:E7 lt n)(P:J5 p n)(h2:2<=n)(d:iB lt p 2):tOk lt n (kas_descPart 1 n p) (λr=>J5 r.2 n/\1<=r.1/\r.1<=n/\C5 lt r.2 r.1):=by unfold kas_descPart;refine tOk.bind _ ((nJ O P (n-(1+1)) (1+1) (by lia) (by lia) d).mono λr ⟨a,b,c,e,g⟩=>?_);obtain⟨r1,r2,r3⟩:=r;dsimp only at a b c e g ⊢;subst a b;rw[if_neg (yk 0)];unfold kas_tail3;refine tOk.bind _ ((UF O (dA P) (n-r2) r2 (by lia) (by lia) (Lg P (by lia) g)).mono λm ⟨a1,a2,a3,_⟩=>?_);exact⟨dA P,by lia,by lia,a3⟩
theorem qT(O:E7 lt n)(P:J5 p n)(h2:2<=n):tOk lt n (kas_count n p) (λr=>J5 r.2 n/\1<=r.1/\r.1<=n/\C5 lt r.2 r.1):=by
 unfold kas_count;refine tOk.bind _ ((UF O P (n-1) 1 (zf _) (by lia) (λi j _ _=>by lia)).mono λm ⟨a1,a2,a3,a4⟩=>?_);by_cases hm:m=n
 ·rw[if_pos (by simpa using hm)];exact⟨P,a1,by lia,a3⟩
 · rw[if_neg (by simpa using hm)];by_cases h1:m>1
   ·rw[if_pos h1];refine⟨P.bd (by lia),P.bd (by lia),?_⟩;rw[a3 0 (m-1) (by lia) (by lia)];exact⟨P,a1,by lia,a3⟩
   · rw[if_neg h1];have em:m=1:=by lia
     subst em;refine qV O P h2 λi j hij hj=>?_;have e1:i=0:=by lia
     have e2:j=1:=by lia
     subst e1 e2;exact a4 (by lia)
theorem CF(O:E7 lt n)(P:J5 p n)(hk:k<n)(u:C5 lt p k):∀f l r,l<=r->r<=k->r-l<=f->(∀i,i<l->lt (p.getD i 0) (p.getD k 0)=true)->(∀i,r<=i->i<k->lt (p.getD k 0) (p.getD i 0)=true)->
 tOk lt n (kas_place p k f l r) (λL=>L<=k/\(∀i,i<L->lt (p.getD i 0) (p.getD k 0)=true)/\∀i,L<=i->i<k->lt (p.getD k 0) (p.getD i 0)=true)
 |0,l,r,h1,h2,h3,a,b=>⟨by lia,a,λi hi=>b i (by lia)⟩
 |f+1,l,r,h1,h2,h3,a,b=>by
   unfold kas_place;by_cases h:l>=r
   ·rw[if_pos h];exact⟨by lia,a,λi hi=>b i (by lia)⟩
   · rw[if_neg h];have hm1:l<=(l+r) / 2:=by lia
     have hm2:(l+r) / 2<r:=by lia
     refine⟨P.bd hk,P.bd (by lia),?_⟩;rcases e:lt (p.getD k 0) (p.getD ((l+r) / 2) 0)with _|_
     ·
       simp only[zy,if_false];have hl:=O.tot _ _ (P.bd hk) (P.bd (show (l+r) / 2<n by lia)) (P.ne hk (by lia) (by lia)) e;refine CF O P hk u f _ r (by lia) h2 (by lia) (λi hi=>?_) b;by_cases ei:i= (l+r) / 2
       ·rw[ei];exact hl
       ·exact O.tr _ _ _ (u i ((l+r) / 2) (by lia) (by lia)) hl
     ·
       simp only[if_true];refine CF O P hk u f l _ hm1 (by lia) (by lia) a λi hi hik=>?_;by_cases ei:i= (l+r) / 2
       ·rw[ei];exact e
       ·exact O.tr _ _ _ e (u _ i (by lia) hik)
theorem pM(O:E7 lt n):∀f k p,J5 p n->k+f=n->C5 lt p k->tOk lt n (kas_bin f p k) (λq=>J5 q n/\C5 lt q n)
 |0,k,p,P,h,u=>⟨P,by rw[<-h];exact u⟩
 |f+1,k,p,P,h,u=>by
   unfold kas_bin;refine tOk.bind _ ((CF O P (show k<n by lia) u k 0 k (zD _) (zf _) (by lia) (λi hi=>by lia) (λi h1 h2=>by lia)).mono λL ⟨hL,a,b⟩=>?_);have hs:=P.size;refine pM O f (k+1) _ ⟨(yo.mp (bubble_perm p k (k-L))).trans P.pm⟩ (by lia) ?_;have e:∀i,(bubble p k (k-L)).getD i 0=if i=L then p.getD k 0 else if L<i/\i<=k then p.getD (i-1) 0 else p.getD i 0:=λi=>by
    rw[U0,XY (by lia) _ (by lia),show k-(k-L)=L by lia];split
    ·rw[<-U0]
    ·split<;>rw[<-U0]
   intro i j hij hj;rw[e i,e j];by_cases h1:i=L
   ·rw[if_pos h1,if_neg (by lia),if_pos (by lia)];exact b (j-1) (by lia) (by lia)
   · rw[if_neg h1];by_cases h2:j=L
     ·rw[if_pos h2,if_neg (by lia)];exact a i (by lia)
     · rw[if_neg h2];by_cases h3:L<i
       ·rw[if_pos (by lia),if_pos (by lia)];exact u _ _ (by lia) (by lia)
       · rw[if_neg (by lia)];by_cases h4:L<j
         · rw[if_pos (by lia)];by_cases h5:i<j-1
           ·exact u _ _ h5 (by lia)
           ·lia
         ·rw[if_neg (by lia)];exact u _ _ hij (by lia)
theorem MY(O:E7 lt n)(h2:2<=n):tOk lt n (kas_sort n) (λq=>J5 q n/\C5 lt q n):=by
 unfold kas_sort;refine tOk.bind _ ((qT O ⟨by simp⟩ h2).mono λr ⟨a,b,c,d⟩=>?_);by_cases h:r.1<n
 ·rw[if_pos h,show max r.1 1=r.1 by lia];exact pM O _ _ _ a (by lia) d
 ·rw[if_neg h];exact⟨a,by rw[show n=r.1 by lia];exact d⟩
end
end DL
namespace DL
open PySem PySem.Spec L2
open PyProof.Rows hiding St
def EC:D->Option (Int×Str)
 | .tup [.int a,.str x]=>some (a,x)
 |_=>none
def w8(f:D->Option (Int×Str)):List D->Option (List (Int×Str))
 |[]=>some []
 |d::r=>match f d,w8 f r with
   |some a,some b=>some (a::b)
   |_,_=>none
def W8(p q:Int×Str):Bool:=if p.1=q.1 then decide (p.2.cps.toList<q.2.cps.toList)else decide (p.1<q.1)
def g9(p q:(Int×Str)×D):Bool:= !W8 q.1 p.1
def l8(qs:List (Int×Str))(l:List D):List D:=((qs.zip l).mergeSort g9).map (·.2)
theorem WD(p:Int×Str):W8 p p=false:=by unfold W8;rw[if_pos rfl,decide_eq_false];exact List.lt_irrefl _
theorem sB(h1:W8 p q=true)(h2:W8 q r=true):W8 p r=true:=by
 unfold W8 at *;by_cases e1:p.1=q.1
 · rw[if_pos e1]at h1;by_cases e2:q.1=r.1
   ·rw[if_pos e2]at h2;rw[if_pos (e1.trans e2)];simp only[decide_eq_true_eq]at *;exact List.lt_trans h1 h2
   ·rw[if_neg e2]at h2;rw[if_neg (by rw[e1];exact e2),e1];exact h2
 · rw[if_neg e1]at h1;simp only[decide_eq_true_eq]at h1;by_cases e2:q.1=r.1
   ·rw[if_pos e2]at h2;rw[if_neg (by rw[<-e2];exact e1),<-e2];exact decide_eq_true h1
   ·rw[if_neg e2]at h2;simp only[decide_eq_true_eq]at h2;rw[if_neg (by lia)];exact decide_eq_true (by lia)
theorem vC(h:p≠q)(h1:W8 p q=false):W8 q p=true:=by
 unfold W8 at *;by_cases e1:p.1=q.1
 · rw[if_pos e1]at h1;rw[if_pos e1.symm];simp only[decide_eq_false_iff_not,decide_eq_true_eq]at *;have hle:q.2.cps.toList<=p.2.cps.toList:=h1;refine jA λn=>h ?_;have hle2:p.2.cps.toList<=q.2.cps.toList:=n;have e:=List.le_antisymm hle2 hle
   cases p with|mk a x=>cases q with|mk b y=>
   dsimp only at e1 e;subst e1;congr 1
   cases x;cases y
   congr 1;exact xE.mp e
 ·rw[if_neg e1]at h1;rw[if_neg (λe=>e1 e.symm)];simp only[decide_eq_false_iff_not,decide_eq_true_eq]at *;lia
theorem AV{qs:List (Int×Str)}(nd:qs.Nodup):∀a∈qs.zip l,∀b∈qs.zip l,a.1=b.1->a=b:=by intro a ha b hb e;obtain⟨i,hi,rfl⟩:=xf.mp ha;obtain⟨j,hj,rfl⟩:=xf.mp hb;simp only[List.getElem_zip]at e ⊢;have:=(Zw nd).mp e;subst this;rfl
theorem lJ(nd:qs.Nodup){z:List ((Int×Str)×D)}(hp:z.Perm (qs.zip l))(hs:z.Pairwise λa b=>g9 a b=true):z.map (·.2)=l8 qs l:=by
 unfold l8;congr 1;have h2:((qs.zip l).mergeSort g9).Pairwise λa b=>g9 a b=true:=xq (λa b c h1 h2=>by
  unfold g9 at *;simp only[xy]at *;refine xz.mpr λh=>?_;by_cases e:a.1=b.1
  ·rw[e]at h;rw[h]at h2;cases h2
  ·have:=sB h (vC (λz=>e z.symm) h1);rw[this]at h2;cases h2) (λa b=>by
  unfold g9;by_cases e:a.1=b.1
  ·rw[e,WD];rfl
  · cases q:W8 b.1 a.1 with
    |false=>rfl
    |true=>
      have:W8 a.1 b.1=false:=by refine xz.mpr λh=>?_;have:=sB q h;rw[WD]at this;cases this
      rw[this];rfl) _
 refine Za (λa b ha hb h1 h2=>?_) hs h2 (hp.trans (jU _ _).symm);refine AV nd a (hp.mem_iff.mp ha) b ((jU _ _).mem_iff.mp hb) (jA λn=>?_);unfold g9 at *;simp only[xy]at *;have:=vC (λz=>n z.symm) h1;rw[this]at h2;cases h2
section
end
section
end
section
def w9(h:Heap)(u:zi)(q:Int×Str):Prop:=∃a t t',u= .ref a/\XT h a #[.int q.1 t,.str q.2 t']
def nE(u:zi)(q:Int×Str):Prop:=∃t,q.1=0/\u= .str q.2 t
def HC(P:zi->Int×Str->Prop)(ku:List zi)(qs:List (Int×Str)):Prop:=∀(i:Nat) (q:Int×Str),qs[i]? =some q->∃u,ku[i]? =some u/\P u q
theorem QK{g:D->Option (Int×Str)}{P:zi->Int×Str->Prop}(hg:∀d q v u,g d=some q->d8 (wc X) μ H d v->o7 v u->P u q):∀ {ks qs kv ku},w8 g ks=some qs->m5 (wc X) μ H ks kv->o5 kv ku->qs.length=ku.length/\HC P ku qs
 |[],qs,kv,ku,e,r,rv=>by
   cases e;cases r;cases rv
   exact⟨rfl,λi q z=>by simp at z⟩
 |d::r,qs,kv,ku,e,rr,rv=>by
   obtain⟨v,tl,rfl,rd,rt⟩:=rr
   cases rv with
   |cons ru rur=>
   rename_i u ur;unfold w8 at e;rcases h1:g d with _|a
   ·rw[h1]at e;cases e
   rcases h2:w8 g r with _|b
   ·rw[h1,h2]at e;cases e
   rw[h1,h2]at e
   cases e
   obtain⟨hl,hk⟩:=QK hg h2 rt rur;refine⟨by simp[hl],λi q z=>?_⟩
   cases i with
   |succ i=>simpa using hk i q (by simpa using z)
   |zero=>
     simp at z;subst z;exact⟨u,rfl,hg d a v u h1 rd ru⟩
end
section
theorem IW(hx:nE u q)(hy:nE u' q')(h:C (W8 q q') s):zw (zF prog w) A (keyLt' ZV u u') C E s:=by obtain⟨t,e,rfl⟩:=hx;obtain⟨t',e',rfl⟩:=hy;rw[Jn];unfold W8 at h;rw[if_pos (e.trans e'.symm)]at h;exact oneLt_str h
theorem Kk(hx:w9 s.heap u q)(hy:w9 s.heap u' q')(h:C (W8 q q') s):zw (zF prog w) A (keyLt' (tuples' true) u u') C E s:=by
 obtain⟨a,t,t',rfl,o,ho,hc,n,hd⟩:=hx;obtain⟨b,v,v',rfl,o2,Pg,hc2,n2,hd2⟩:=hy;refine PySem.W.kat_lt ho hd Pg hd2 ?_;show PySem.W.KatLex prog w A true _ C [(.int q.1 t,.int q'.1 v),(.str q.2 t',.str q'.2 v')] 0 s;refine Zk (xH (ZL (λe=>?_) λe=>?_))
 · have e1:q.1=q'.1:=by simpa using e
   refine Zt (Zk (eqBool_str (ZL (λe=>?_) λe=>?_)))
   · have e2:q.2=q'.2:=by simpa using e
     have eq:q=q':=Prod.ext e1 e2;refine Zt (JS ?_);rw[eq,WD]at h;exact h
   ·refine ZK (JR _ _ (PySem.P.lt_str ?_));unfold W8 at h;rw[if_pos e1]at h;exact h
 · have e1:¬q.1=q'.1:=by simpa using e
   refine ZK ?_;show zw (zF prog w) A (oneLt' true _ _) C _ s;rw[<-Jn];refine Ji ?_;unfold W8 at h;rw[if_neg e1]at h;exact h
theorem SY{qs:List (Int×Str)}{ku:List zi}(hq:qs.length=ku.length)(h2:2<=ku.length)(hk:HC (w9 s.heap) ku qs\/HC nE ku qs):∃kd,(∀(Q:SortKind->zm->Prop) (E:VSP),Q kd s->zw (zF prog w) A (keyKind' ku.toArray) Q E s)/\∀(i j:Nat) q q' C,qs[i]? =some q->qs[j]? =some q'->C (W8 q q') s->xI prog w A kd ku i j C s:=by
 rcases hk with hk|hk
 · obtain⟨fs,T,hfs,hT⟩:∃fs:List zi,Zu s.heap ku fs/\0<fs.length/\∀v∈fs,∃n t,v= .int n t:=by
    have gen:∀(ku:List zi) (qs:List (Int×Str)),qs.length=ku.length->HC (w9 s.heap) ku qs->∃fs:List zi,Zu s.heap ku fs/\fs.length=ku.length/\∀v∈fs,∃n t,v= .int n t:=by
     intro ku
     induction ku with
     |nil=>exact λqs _ _=>⟨[],trivial,rfl,λv hv=>by cases hv⟩
     |cons u r ih=>
       intro qs hl hk;rcases qs with _|⟨q,qr⟩
       ·simp at hl
       obtain⟨u',e1,ad,t,t',rfl,o,ho,hc,n,hd⟩:=hk 0 q rfl;simp at e1;subst e1;obtain⟨fs,f1,f2,f3⟩:=ih qr (by simpa using hl) λi q hq=>by simpa using hk (i+1) q (by simpa using hq)
       refine⟨.int q.1 t::fs,YH ho hc hd rfl f1,by simp[f2],λv hv=>?_⟩;rcases zI.mp hv with rfl|hv
       ·exact⟨_,_,rfl⟩
       ·exact f3 v hv
    obtain⟨fs,f1,f2,f3⟩:=gen ku qs hq hk;exact⟨fs,f1,by lia,f3⟩
   refine⟨_,λQ E h=>JF (T:=.type "int") T hfs (λv hv=>?_) (by decide) h,λi j q q' C e1 e2 hC=>?_⟩
   ·obtain⟨n,t,rfl⟩:=hT v hv;exact YT rfl
   ·obtain⟨u,u1,u2⟩:=hk i _ e1;obtain⟨v,v1,v2⟩:=hk j _ e2;unfold xI;rw[zA,zA,u1,v1];exact Kk u2 v2 hC
 · have gen:∀(ku:List zi) (qs:List (Int×Str)),qs.length=ku.length->HC nE ku qs->StrsAre ku (qs.map (·.2)):=by
    intro ku
    induction ku with
    |nil=>
      intro qs hl _;rcases qs with _|⟨q,r⟩
      ·exact .nil
      ·simp at hl
    |cons u r ih=>
      intro qs hl hk;rcases qs with _|⟨q,qr⟩
      ·simp at hl
      obtain⟨u',e1,t,_,rfl⟩:=hk 0 q rfl;simp at e1;subst e1;exact .cons q.2 t (ih qr (by simpa using hl) λi q hq=>by simpa using hk (i+1) q (by simpa using hq))
   have hS:=gen ku qs hq hk;refine⟨ZV,λQ E h=>?_,λi j q q' C e1 e2 hC=>?_⟩
   · rcases ku with _|⟨v1,_|⟨v2,vr⟩⟩
     ·simp at h2
     ·simp at h2
     ·rw[keyKind_strs hS];exact zj h
   ·obtain⟨u,u1,u2⟩:=hk i _ e1;obtain⟨v,v1,v2⟩:=hk j _ e2;unfold xI;rw[zA,zA,u1,v1];exact IW u2 v2 hC
end
section
theorem VZ{p:List Nat}{l:List α}(h:p.Perm (zK n))(hn:l.length=n):(p.map λi=>l.getD i d).Perm l:=by
 have e:(zK n).map (λi=>l.getD i d)=l:=by
  apply xi
  ·simp[hn]
  ·intro i hi hj;simp[hj]
 have:=h.map λi=>l.getD i d;rw[e]at this;exact this
end
section
end
def CR(K:zg)(mg:Str->Option zi)(d:D)(u:zi):Prop:=∃v,o7 v u/\∀ μ H,d8 ⟨K,mg⟩ μ H d v
def CRL(K:zg)(mg:Str->Option zi)(l:List D)(us:List zi):Prop:=∃vs,o5 vs us/\∀ μ H,m5 ⟨K,mg⟩ μ H l vs
section
variable{K:zg}{mg:Str->Option zi}
theorem cr_str:CR K mg (.str x) (.str x t):=⟨.str x,⟨t,rfl⟩,λμ H=>by unfold d8;rfl⟩
theorem cr_int:CR K mg (.int i) (.int i t):=⟨.int i,⟨t,rfl⟩,λμ H=>by unfold d8;rfl⟩
theorem cr_bl:CR K mg (.bl b) (.bool b):=⟨.bl b,rfl,λμ H=>by unfold d8;rfl⟩
theorem cr_non:CR K mg .non .none:=⟨.non,rfl,λμ H=>by unfold d8;rfl⟩
theorem crl_nil:CRL K mg [] []:=⟨[],.nil,λ_ _=>rfl⟩
theorem crl_cons(h:CR K mg d u)(t:CRL K mg l us):CRL K mg (d::l) (u::us):=by obtain⟨v,r,h⟩:=h;obtain⟨vs,rs,t⟩:=t;exact⟨v::vs,.cons r rs,λμ H=>⟨v,vs,rfl,h μ H,t μ H⟩⟩
theorem cr_tup(hl:K.lookup a=some ⟨.type "tuple",none,.seq us.toArray n,sl⟩)(hz:Nat.ble us.length 100=true)(h:CRL K mg l us):CR K mg (.tup l) (.ref a):=by obtain⟨vs,rs,t⟩:=h;refine⟨.ref a,rfl,λμ H=>?_⟩;unfold d8;refine⟨a,vs,rfl,.inr ⟨_,us.toArray,n,hl,rfl,rfl,?_,rs⟩,t μ H⟩;rw[zo];exact zp (ZW hz) (by decide)
end
structure CD(K:zg)(mg:Str->Option zi)(x:Str)(d:D):Prop where
 ex:∃u,mg x=some u/\CR K mg d u
section
theorem Dx(hc:CD X.K X.mg x d)(hg:Gl X x)(hdb:(x==("__debug__" :Str))=false):DE X Z (.Name x pos) (cE d):=⟨by
 intro Nc s σ H Q I Ng;refine Ng.elim λX9 μ G sr hr p=>?_;obtain⟨u,hm,v,ru,rv⟩:=hc.ex;exact gI I hg hm ⟨v,H,I,ru,d7.ok p hr v (rv μ H)⟩ hdb⟩
end
def R9:D->M Unit:=λx=>match x with
 | .str _=>pure ()
 |_=>M.stuck
section
variable{X:Cx}{Z:XC}{o e:Expr}{es:List Expr}{fo:Fe}{fs:DSt->M (List D)}{name:Str}{id:String}{mm:D->List D->M D}{Ph Np:Pos}
theorem ET{H:Hp}{G:DH}{d:D}{v:V}{f:Unit->M α}{K:α->List Addr->DH->Hp->Prop}(r:d8 c μ H d v)(p:d7 c Z μ H ((R9 d >>= f) G) K):tyV c.K "str" v H/\d7 c Z μ H (f () G) K:=by
 rcases d with _|_|_|x|_|_|_|_<;>try (exact p.elim;done)
 ·rw[S2 r];exact⟨rfl,p⟩
theorem QZ(slot:Slot "str" name id)(hty:typeOf (.builtin id)=pure (.type "method_descriptor"))(hm:MtD X Z id mm)(ho:DE X Z o fo)(ha:DA X Z (e::es) fs)
 (hbase:ZJ o name X.env (eval o X.env)=eval o X.env)
 (hfew:((yZ Np (zW (e::es) X.env)).all (λx=> !x.1)&&(Xn Np (ZC [] X.env)).all (λx=>x.1.isSome)
   && decide ((e::es).length+([]:List Keyword).length+(if ([]:List Keyword).isEmpty then 0 else 1)<30))=true)
 (hline:(Ph.endLine==Np.line)=true) (hs:zW (e::es) X.env= (false,eval e X.env)::zW es X.env) (Pm:(yZ Np (zW es X.env)).any (·.1)=false):
 DE X Z (.Call (.Attribute o name Ph) (e::es) [] Np) (mtE R9 mm fo fs):=
 DE.of (bM PySem.F.plainAttrs_str slot hty hm ho.h ha.h hbase hfew hline hs Pm) λσ H Q Ng=>Ng.elim λX9 μ G s h p=>⟨X9,μ,G,s,h,(d7.bind p).mono λd X0 G1 H1 x1 h1 p1 v rv=>by obtain⟨ty,p2⟩:=ET rv p1;exact⟨ty,X9,X0,G1,s.mono x1,h1,(d7.bind p2).mono λds WX G2 H2 x2 h2 p3 vs rvs=>⟨d,ds,WX,G2,rv.mono x2,rvs,h2,p3⟩⟩⟩
end
def EB(sep:Str)(l:List D):M D:=do
 let ss <-E1 (F5 l)
 if (ss.map (·.length)).sum+ss.length*sep.length<=16777216 then pure (.str (YI sep ss))else M.stuck
def U8:D->List D->M D:=λx ds=>match x,ds with
 | .str sep, [.tup l]=>EB sep l
 | .str sep, [.ref r]=>do
   match <-M4 r with
   | .lst l=>EB sep l
   |_=>M.stuck
 |_,_=>M.stuck
section
theorem Hq:MtD X Z "str.join" U8:=by
 intro Nc s σ H x xs v us Q I rx rvs Ng;obtain⟨d,ds,μ,G,rd,rl,hr,p⟩:=Ng;unfold U8 at p;split at p
 · rename_i sep l;rw[S2 rd]at rx;obtain⟨t,rfl⟩:=rx;obtain⟨v1,rfl,rv1⟩:=P2 rl;obtain⟨u,rfl,ru⟩:=C3 rvs;unfold d8 at rv1;obtain⟨a,vs,rfl,q,Nx⟩:=rv1
   cases ru
   obtain⟨Nf,rv,tp,hz⟩:=I.tuple q;unfold EB at p;obtain⟨ss,es,p2⟩:=U5 p;split at p2
   case isFalse=>exact p2.elim
   rename_i hok;exact join_tuple tp (ED es Nx rv) hok λt' k=>⟨.str (YI sep ss),H,I.tok k,⟨t',rfl⟩,d7.ok p2 hr _ (by unfold d8;rfl)⟩
 · rename_i sep r;rw[S2 rd]at rx;obtain⟨t,rfl⟩:=rx;obtain⟨v1,rfl,rv1⟩:=P2 rl;obtain⟨u,rfl,ru⟩:=C3 rvs;unfold d8 at rv1;obtain⟨a,m,rfl⟩:=rv1
   cases ru
   obtain⟨o,g,p1⟩:=w6 p;have ro:=hr.obj r o a g m;rcases o with l|l|l|l
   ·
     obtain⟨vs,q,Nx⟩:=ro;obtain⟨Nf,rv,pl,hz⟩:=I.list (SqL.of q);unfold EB at p1;obtain⟨ss,es,p2⟩:=U5 p1;split at p2
     case isFalse=>exact p2.elim
     rename_i hok;exact join_list pl.isList (ED es Nx rv) hok λt' k=>⟨.str (YI sep ss),H,I.tok k,⟨t',rfl⟩,d7.ok p2 hr _ (by unfold d8;rfl)⟩
   ·exact p1.elim
   ·exact p1.elim
   ·exact p1.elim
 ·exact p.elim
end
end DL
namespace W
open PySem PySem.Spec L2 DL
open PyProof.Rows hiding St
section
theorem r9:Wp (R9 (.str z)) G R↔R () G:=wp_pure
theorem QX(e:G[r]? =some (.lst l))(hs:F5 l=some ss)(hok:(ss.map (·.length)).sum+ss.length*sep.length<=16777216):Wp (U8 (.str sep) [.ref r]) G Q↔Q (.str (YI sep ss)) G:=by
 have h:U8 (.str sep) [.ref r]= (do
  match <-M4 r with
  | .lst l=>EB sep l
  |_=>M.stuck):=rfl
 rw[h];simp only[j6,M6,e,O4,EB,B8,hs,if_pos hok,wp_pure]
end
end W
namespace DL
open PySem PySem.Spec L2
open PyProof.Rows hiding St
section
variable{X:Cx}{Z:XC}{μ:List Addr}{H:Hp}
variable{e t:Expr}{lo hi:Option Expr}{fa:Fe}{fl fh ft:Fo}{p2 pos:Pos}
end
end DL
namespace W
open PySem PySem.Spec L2 DL
open PyProof.Rows hiding St
section
end
end W
namespace DL
open PySem PySem.Spec L2
open PyProof.Rows hiding St
section
theorem SS(hF:∃k kk,kA F 0 x X.prog X.w X.K X.mg X.base k/\Q7 kk X.A/\k<=kk)(hg:Gl X x)(hdb:(x==("__debug__" :Str))=false):
 DE X Z (.Call (.Name x p) [] [] pos) (C2 (fnX 0 F) B0):=by
 obtain⟨k,kk,hF,hr,hk⟩:=hF;obtain⟨f,fd,ps,h1,h2,h3,h4⟩:=hF.ex;exact DE.of (GY h1 (hr.mono hk) hg h2 h3 h4 .nil CO hdb) λσ H Q Ng=>Ng.elim λX9 μ G s h p=>by obtain⟨hl,p2⟩:=RO (show d7 (wc X) Z μ H (fnX 0 F [] G) _ from p);exact⟨rfl, [],μ,G,rfl,h,p2⟩
end
section
end
end DL
namespace W
open PySem PySem.Spec L2 DL
open PyProof.Rows hiding St
end W
namespace DL
open PySem PySem.Spec L2
open PyProof.Rows hiding St
section
variable{X:Cx}{Z:XC}{o e:Expr}{es:List Expr}{fo:Fe}{fs:DSt->M (List D)}{name:Str}{id:String}{mm:D->List D->M D}{Ph Np:Pos}
end
section
end
section
end
section
end
end DL
namespace W
open PySem PySem.Spec L2 DL
open PyProof.Rows hiding St
end W
namespace DL
open PySem PySem.Spec L2
open PyProof.Rows hiding St
section
end
section
end
end DL
namespace W
open PySem PySem.Spec L2 DL
open PyProof.Rows hiding St
end W
namespace DL
open PySem PySem.Spec L2
open PyProof.Rows hiding St
theorem b8(e:m G=some (.ok a,G'))(q:Q a G'):Wp m G Q:=⟨a,G',e,q⟩
def PB(Q:DPP):Fl->DH->Prop
 | .nx _,G=>Q .non G
 | .rt d,G=>Q d G
 |_,_=>False
section
variable{m:Nat}{f S g:Fs}{ds as:List D}{d:D}{G G':DH}{Q:DPP}{P A:Fl->DH->Prop}{σ X1:DSt}{e:Fe}
theorem v7(w:Wp (f (ds.map some++yr (m-ds.length) none)) G (PB Q)):Wp (v4 m f ds) G Q:=
 SH.mpr (w.mono λfl G1 h=>match fl,h with
  | .nx _,h=>h
  | .rt _,h=>h
  | .bk _,h=>h.elim
  | .ct _,h=>h.elim)
theorem o4(q:Q d G):PB Q (.rt d) G:=q
theorem FB(e:f (ds.map some++yr (m-ds.length) none) G=some (.ok (.rt d),G'))(q:Q d G'):Wp (v4 m f ds) G Q:=v7 (b8 e q)
theorem K4(e:S σ G=some (.ok (.nx X1),G'))(w:Wp (g X1) G' P):Wp (j9 S g σ) G P:=f9.mpr (b8 e w)
end
section
variable{a b c:Fe}{d x y z:D}{G G1 G2:DH}{R:List D->DH->Prop}{σ:DSt}
theorem E4(e:t σ G=some (.ok true,G1))(w:Wp (f σ) G1 P):Wp (ifS t f g σ) G P:=NC.mpr (b8 e w)
theorem D9(e:t σ G=some (.ok false,G1))(w:Wp (g σ) G1 P):Wp (ifS t f g σ) G P:=NC.mpr (b8 e w)
theorem fM(e:t σ G=some (.ok k,G1))(w:k=true->Wp (f σ) G1 P)(v:k=false->Wp (g σ) G1 P):Wp (ifS t f g σ) G P:=by
 rcases k with _|_
 ·exact D9 e (v rfl)
 ·exact E4 e (w rfl)
theorem S9(w:Wp (t σ) G λk G1=>(k=true->Wp (f σ) G1 P)/\(k=false->Wp (g σ) G1 P)):Wp (ifS t f g σ) G P:=
 NC.mpr (w.mono λk G1 h=>by cases k with|true=>exact h.1 rfl|false=>exact h.2 rfl)
theorem dC(w:Wp (t σ) G λk G1=>(k=true->Wp (u σ) G1 B)/\(k=false->B false G1)):Wp (B6 t u σ) G B:=
 oH.mpr (w.mono λk G1 h=>by cases k with|true=>exact h.1 rfl|false=>exact h.2 rfl)
theorem qJ(w:Wp (t σ) G λk G1=>(k=true->B true G1)/\(k=false->Wp (u σ) G1 B)):Wp (orT t u σ) G B:=
 CV.mpr (w.mono λk G1 h=>by cases k with|true=>exact h.1 rfl|false=>exact h.2 rfl)
theorem OA{g:Fg}(e:b σ G=some (.ok (.tup l),G1))(h:l.length<=10000)(w:Wp (K6 g t a (λ_=>true) l (y3 caps σ)) G1 λys G2=>Q (.ref G2.length) (G2++[.lst ys])):Wp (J8 (itW b) caps g t a σ) G Q:=
 W.wp_comp.mpr (W.wp_itW.mpr (b8 e (W.srcW_tup.mpr ⟨zp h (show 10000<=zk by decide),w⟩)))
theorem sZ(e:t σ G=some (.ok false,G1))(w:Wp (b σ) G1 Q):Wp (ifE t a b σ) G Q:=WA.mpr (b8 e w)
theorem u6(w:Wp (a σ) G λd G1=>P (.nx (σ.set i (some d))) G1):Wp (J6 a (D4 i) σ) G P:=i8.mpr (w.mono λ_ _ h=>Z7.mpr h)
theorem t8(w:Wp (a σ) G λd G1=>P (.rt d) G1):Wp (G9 a σ) G P:=lD.mpr w
theorem j7(e:fs σ G=some (.ok as,G1))(h:as.length=n)(w:Wp (F as) G1 Q):Wp (C2 (fnX n F) fs σ) G Q:=RB.mpr (b8 e (uB.mpr ⟨h,w⟩))
theorem S3(e:fs σ G=some (.ok as,G1))(w:Wp (F as) G1 Q):Wp (C2 F fs σ) G Q:=RB.mpr (b8 e w)
theorem x5(w:Wp (fs σ) G λas G1=>Wp (F as) G1 Q):Wp (C2 F fs σ) G Q:=RB.mpr w
theorem bin_w(w:Wp (a σ) G λx G1=>Wp (b σ) G1 λy G2=>Wp (o x y) G2 Q):Wp (j5 o a b σ) G Q:=C9.mpr w
theorem m6(w:Wp (a σ) G λx G1=>Wp (fs σ) G1 λxs G2=>R (x::xs) G2):Wp (o0 a fs σ) G R:=AA.mpr w
theorem o8(w:Wp (a σ) G λx G1=>∃k,x= .bl k/\B k G1):Wp (HB a σ) G B:=bC.mpr w
end
def FH(K:zg)(x:Str)(st:Stmt):Prop:=∃(f:Addr) (od an:Option Addr) (sl:Array (Option zi)) (oc kV dc pm cd ct:zi),xL K jr x=some (some (.ref f))/\
 K.lookup f=some ⟨oc,od,.func (yg x x (P8 st) (S8 st) (v5 st) .none kV dc pm an cd ct),sl⟩/\xR K cd x=true/\ya K (.ref f)=true
section
variable{K:zg}{h:Heap}{mg:Str->Option zi}{x:Str}{st:Stmt}
theorem FH.of{oc kV dc pm cd ct:zi}(a:xL K jr x=some (some (.ref f)))
 (l:K.lookup f=some ⟨oc,od,.func (yg x x (P8 st) (S8 st) (v5 st) .none kV dc pm an cd ct),sl⟩) (e:xR K cd x=true) (k:ya K (.ref f)=true):FH K x st:=
 ⟨f,od,an,sl,oc,kV,dc,pm,cd,ct,a,l,e,k⟩
variable{ps:List Str}
theorem FH.ff(H:FH K x st)(X:K.In h)(G:h.Ns jr mg)(b:∀kV doc pm an Nz ct us,us.length=ps.length->bindArgs (yg x x (P8 st) (S8 st) (v5 st) .none kV doc pm an Nz ct) ⟨us, []⟩=pure (ps.zip us)):∃f fd,FF K mg x st ps f fd:=by obtain⟨f,od,an,sl,oc,kV,dc,pm,cd,ct,a,l,e,k⟩:=H;exact⟨_,_,NE l e k,(NE l e k).binds b,ZY X G a⟩
theorem qc(h:us.length=n+1):∃a t,us=a::t/\t.length=n:=by
 rcases us with _|⟨a,t⟩
 ·cases h
 ·exact⟨a,t,rfl,Xv h⟩
theorem BLs.of(X:K.In h)(G:h.Ns jr mg)(z:∀b∈bltL,xL K jr b=some none):BLs mg:=⟨λb hb=>PySem.W.mg_none_of X G (z b hb)⟩
end
abbrev Gd(h:Heap)(z TI TO:Addr)(f0:zi)(b:Bool):Prop:=
 h.get? z=some {cls:=.type "zip",dict:=none,data:=.fields #[f0,.bool b,.bool false,.ref TI,.ref TO],slots:= #[]}
section
variable{prog:zM}{w:zT}{A:jd}{E:VSP}{s:zm}{k1 k2:Bool}{i:Nat}{z TI TO i1 i2 l1 l2 T:Addr}{xs ys:Array zi}{b:Bool}
structure ZSt(k1 k2:Bool)(z TI TO i1 i2 l1 l2:Addr)(xs ys:Array zi)(n0 i:Nat)(h:Heap):Prop where
 hz:(IsZip h z TI TO .none/\∃a b,IsPair h TO a b)\/∃T b,Gd h z TI TO (xp ((n0+T:Nat):Int)) b/\T<i
 hTI:IsPair h TI (.ref i1) (.ref i2)
 h1:SI k1 h i1 l1 i
 h2:SI k2 h i2 l2 i
 c1:SC k1 h l1 xs
 c2:SC k2 h l2 ys
end
section
variable{H:Hp}{n0:Nat}{ws:List (V×V)}
end
section
variable{X:Cx}{Z:XC}{a b:Expr}{fs:DSt->M (List D)}{p1 p2 pos1 pos2:Pos}
end
end DL
namespace TS
open PySem PyProof.Rows
section
variable{prog:zM}{w:zT}{A:jd}{E:VSP}{s:zm}
def kz(p:jW):Int:=numOf p.1
def isI(p:jW):Prop:=∃n t,p.1= .int n t
end
def leK(x y:jW):Prop:=kz x<=kz y
def Srt(l:List jW):Prop:=l.Pairwise leK
theorem Srt.app{a b:List jW}(ha:Srt a)(hb:Srt b)(h:∀x∈a,∀y∈b,leK x y):Srt (a++b):=jH.mpr ⟨ha,hb,h⟩
theorem Srt.left{a b:List jW}(h:Srt (a++b)):Srt a:=(jH.mp h).1
theorem Srt.right{a b:List jW}(h:Srt (a++b)):Srt b:=(jH.mp h).2.1
theorem Srt.mid{a b:List jW}(h:Srt (a++b)):∀x∈a,∀y∈b,leK x y:=(jH.mp h).2.2
structure MI(L out A B:List jW):Prop where
 perm:(out++(A++B)).Perm L
 so:Srt out
 oa:∀x∈out,∀y∈A,leK x y
 ob:∀x∈out,∀y∈B,leK x y
 sa:Srt A
 sb:Srt B
theorem MI.bk{L out C A B:List jW}(h:MI L out A (C++B))(k:∀c∈C,∀x∈A,leK c x):MI L (out++C) A B where
 perm:=by refine List.Perm.trans ?_ h.perm;rw[jh];refine List.Perm.append_left _ ?_;rw[<-jh,<-jh];exact List.Perm.append_right _ List.perm_append_comm
 so:=h.so.app h.sb.left λx hx y hy=>h.ob x hx y (by simp[hy])
 oa:=λx hx y hy=>by
  rcases zO.mp hx with hx|hx
  ·exact h.oa x hx y hy
  ·exact k x hx y hy
 ob:=λx hx y hy=>by
  rcases zO.mp hx with hx|hx
  ·exact h.ob x hx y (by simp[hy])
  ·exact h.sb.mid x hx y hy
 sa:=h.sa
 sb:=h.sb.right
structure MJ(L A B S:List jW):Prop where
 perm:(A++(B++S)).Perm L
 ss:Srt S
 as:∀x∈A,∀y∈S,leK x y
 bs:∀x∈B,∀y∈S,leK x y
 sa:Srt A
 sb:Srt B
theorem MJ.bk{L A B C S:List jW}(h:MJ L A (B++C) S)(k:∀a∈A,∀c∈C,leK a c):MJ L A B (C++S) where
 perm:=by have:=h.perm;simp only[jh]at this ⊢;exact this
 ss:=h.sb.right.app h.ss λx hx y hy=>h.bs x (by simp[hx]) y hy
 as:=λx hx y hy=>by
  rcases zO.mp hy with hy|hy
  ·exact k x hx y hy
  ·exact h.as x hx y hy
 bs:=λx hx y hy=>by
  rcases zO.mp hy with hy|hy
  ·exact h.sb.mid x hx y hy
  ·exact h.bs x (by simp[hx]) y hy
 sa:=h.sa
 sb:=h.sb.left
def r8(a:Array jW):Prop:=∀p∈a.toList,isI p
theorem r8.at{a:Array jW}(h:r8 a){i:Nat}{p:jW}(e:a[i]? =some p):isI p:=h p (by rw[<-zB]at e;exact ji e)
theorem r8.get{a:Array jW}(h:r8 a){i:Nat}(hi:i<a.size):∃p,a[i]? =some p/\isI p:=⟨_,zJ hi,h.at (zJ hi)⟩
def Same(st Nm:Zf):Prop:=yM Nm=yM st/\jY Nm=jY st/\Zo Nm=Zo st/\Zr Nm=Zr st
theorem Same.refl{st:Zf}:Same st st:=⟨rfl,rfl,rfl,rfl⟩
theorem Same.trans{a b c:Zf}(h:Same a b)(k:Same b c):Same a c:=⟨k.1.trans h.1,k.2.1.trans h.2.1,k.2.2.1.trans h.2.2.1,k.2.2.2.trans h.2.2.2⟩
structure LI(a b:Array jW)(out:Array jW)(ia ib:Nat):Prop where
 mi:MI (a.toList++b.toList) out.toList (a.toList.drop ia) (b.toList.drop ib)
 ha:ia+1<a.size
 hb:ib<b.size
 sz:out.size=ia+ib
section
variable{a b out:Array jW}{ia ib:Nat}
end
section
variable{prog:zM}{w:zT}{A:jd}{E:VSP}{s:zm}
end
section
variable{prog:zM}{w:zT}{A:jd}{E:VSP}{s:zm}
end
structure HI(a b:Array jW)(out:Array jW)(na nb:Nat):Prop where
 mj:MJ (a.toList++b.toList) (a.toList.take na) (b.toList.take nb) out.toList.reverse
 ha:0<na
 hb:1<nb
 la:na<=a.size
 lb:nb<=b.size
 sz:out.size+na+nb=a.size+b.size
section
variable{a b out:Array jW}{na nb:Nat}
end
section
variable{prog:zM}{w:zT}{A:jd}{E:VSP}{s:zm}
end
section
variable{prog:zM}{w:zT}{A:jd}{E:VSP}{s:zm}
structure Aft(st Nm:Zf)(l:List jW)(p:Array (Nat×Nat×Nat)):Prop where
 kind:yM Nm=ZV
 arr:(jY Nm).toList=l
 pend:Zo Nm=p
 fail:Zr Nm=none
end
def ND(a:Array jW):Prop:=(a.toList.map kz).Nodup
theorem wE{a:Array jW}{i:Nat}{p:jW}(e:a[i]? =some p):K a i=kz p:=by unfold K;rw[e];rfl
theorem ND.ne{a:Array jW}(h:ND a){i j:Nat}(hi:i<a.size)(hj:j<a.size)(ne:i≠j):K a i≠K a j:=by rw[wE (zJ hi),wE (zJ hj)];intro e;have:=Zw (i:=i) (j:=j) (h₀:=by simpa using hi) (h₁:=by simpa using hj) h;simp only[List.getElem_map,Array.getElem_toList]at this;exact ne (this.mp e)
theorem r8.perm{a b:Array jW}(h:r8 a)(p:b.Perm a):r8 b:=λx hx=>h x ((yo.mp p).mem_iff.mp hx)
theorem ND.perm{a b:Array jW}(h:ND a)(p:b.Perm a):ND b:=((yo.mp p).map kz).nodup_iff.mpr h
def Asc(a:Array jW)(lo m:Nat):Prop:=∀i,i+1<m->K a (lo+i)<K a (lo+i+1)
theorem Asc.lt{a:Array jW}{lo m:Nat}(h:Asc a lo m):∀ {j i:Nat},i<j->j<m->K a (lo+i)<K a (lo+j)
 |0,i,hij,_=>by lia
 |j+1,i,hij,hj=>by
   have h1:=h j hj;by_cases e:i=j
   ·subst e;exact h1
   ·exact Int.lt_trans (h.lt (show i<j by lia) (by lia)) h1
theorem Asc.snoc{a:Array jW}{lo m:Nat}(h:Asc a lo m)(k:K a (lo+m-1)<K a (lo+m))(hm:1<=m):Asc a lo (m+1):=λi hi=>by
 by_cases e:i+1<m
 ·exact h i e
 · have:i=m-1:=by lia
   subst this;rw[show lo+(m-1)=lo+m-1 by lia,show lo+m-1+1=lo+m by lia];exact k
structure Run(lo:Nat)(st Nm:Zf):Prop where
 kind:yM Nm=ZV
 pend:Zo Nm=Zo st
 fail:Zr Nm=none
 perm:(jY Nm).Perm (jY st)
 low:∀i,i<lo->(jY Nm)[i]? = (jY st)[i]?
theorem Run.refl{lo:Nat}{st:Zf}(hk:yM st=ZV)(hf:Zr st=none):Run lo st st:=⟨hk,rfl,hf,.refl _,λ_ _=>rfl⟩
theorem Run.size{lo:Nat}{st Nm:Zf}(h:Run lo st Nm):(jY Nm).size= (jY st).size:=h.perm.size_eq
section
variable{prog:zM}{w:zT}{A:jd}{E:VSP}{s:zm}
theorem lt_at{st:Zf}{i j:Nat}{Q:Option Bool->Zf->Prop}(hk:yM st=ZV)(ha:r8 (jY st))(hi:i<(jY st).size)(hj:j<(jY st).size)(h:Q (some (decide (K (jY st) i<K (jY st) j))) st):wpS (zF prog w) A E s (ltAt' i j) Q st:=by
 obtain⟨p,e1,n,t,hp⟩:=ha.get hi;obtain⟨q,e2,m,u,hq⟩:=ha.get hj;obtain⟨p1,p2⟩:=p;obtain⟨q1,q2⟩:=q
 cases hp
 cases hq
 rw[wE e1,wE e2]at h;exact wpS_ltAt hk e1 e2 h
end
theorem Run.trans{lo:Nat}{a b c:Zf}(h:Run lo a b)(k:Run lo b c):Run lo a c:=⟨k.kind,k.pend.trans h.pend,k.fail,k.perm.trans h.perm,λi hi=>(k.low i hi).trans (h.low i hi)⟩
theorem OP{a:Array jW}{lo k l:Nat}(nd:ND a)(hs:lo+k<a.size)(h:Asc a lo k)(hl:l<=k)(h1:∀i,i<l->K a (lo+i)<=K a (lo+k))(h2:∀i,l<=i->i<k->K a (lo+k)<K a (lo+i)):Asc (bubble a (lo+k) (lo+k-(lo+l))) lo (k+1):=by
 have hd:lo+k-(lo+l)=k-l:=by lia
 rw[hd];have hK:=λj=>K_bubble (xs:=a) (src:=lo+k) (d:=k-l) hs (by lia) j;intro i hi;rw[hK,hK];have e:lo+k-(k-l)=lo+l:=by lia
 rw[e];by_cases c1:lo+i=lo+l
 · rw[if_pos c1,if_neg (by lia),if_pos (by lia)];have:i=l:=by lia
   subst this;rw[show lo+i+1-1=lo+i by lia];exact h2 i (zf _) (by lia)
 · rw[if_neg c1];by_cases c2:lo+i+1=lo+l
   ·rw[if_pos c2,if_neg (by lia)];have:=h1 i (by lia);have:=nd.ne (i:=lo+i) (j:=lo+k) (by lia) (by lia) (by lia);lia
   · rw[if_neg c2];by_cases c3:lo+l<lo+i/\lo+i<=lo+k
     ·rw[if_pos c3,if_pos (by lia)];have:=h (i-1) (by lia);rw[show lo+(i-1)=lo+i-1 by lia,show lo+i-1+1=lo+i by lia]at this;rw[show lo+i+1-1=lo+i by lia];exact this
     ·rw[if_neg c3,if_neg (by lia)];exact h i (by lia)
section
variable{prog:zM}{w:zT}{A:jd}{E:VSP}{s:zm}
theorem bin_w{st:Zf}{lo n ok:Nat}{Q:Bool->Zf->Prop}(hk:yM st=ZV)(hf:Zr st=none)(ha:r8 (jY st))(nd:ND (jY st))(h1:1<=ok)(hn:ok<=n)(hs:lo+n<=(jY st).size)(h0:Asc (jY st) lo ok)
 (h:∀Nm,Run lo st Nm->Asc (jY Nm) lo n->Q true Nm):wpS (zF prog w) A E s (binarySort' lo n ok) Q st:=by
 unfold binarySort';refine wpS_bind (wpS_mono (wpS_forRange (I:=λk c Nm=>c= (none,())/\Run lo st Nm/\ok<=k/\k<=n/\Asc (jY Nm) lo k) (Q:=λc Nm=>c= (none,())/\Run lo st Nm/\Asc (jY Nm) lo n) ?_ ?_ ⟨rfl,.refl hk hf,by lia,by lia,by rw[Nat.max_eq_left h1];exact h0⟩) ?_)
 · rintro k c st1 _ hx ⟨rfl,hR,g1,g2,g3⟩;dsimp only;have hz:=hR.size;have ha1:=ha.perm hR.perm;have nd1:=nd.perm hR.perm;refine wpS_bind (wpS_mono (wpS_forRange (I:=λx c Nm=>Nm=st1/\∃l r,c= (none,l,r)/\l<=r/\r<=k/\r-l+x<=k/\(∀i,i<l->K (jY st1) (lo+i)<=K (jY st1) (lo+k))/\∀i,r<=i->i<k->K (jY st1) (lo+k)<K (jY st1) (lo+i)) (Q:=λc Nm=>Nm=st1/\∃l,c= (none,l,l)/\l<=k/\(∀i,i<l->K (jY st1) (lo+i)<=K (jY st1) (lo+k))/\∀i,l<=i->i<k->K (jY st1) (lo+k)<K (jY st1) (lo+i)) ?_ ?_ ⟨rfl,0,k,rfl,by lia,by lia,by lia,λi hi=>by lia,λi a b=>by lia⟩) ?_)
   · rintro x c st2 _ hx2 ⟨rfl,l,r,rfl,q1,q2,q3,q4,q5⟩;dsimp only;by_cases hl:l>=r
     · rw[if_pos hl];have:l=r:=by lia
       subst this;exact Jl ⟨rfl,l,rfl,q2,q4,q5⟩
     · rw[if_neg hl];refine wpS_bind (lt_at hR.kind ha1 (by lia) (by lia) ?_);dsimp only;have hm1:l<=(l+r) / 2:=by lia
       have hm2:(l+r) / 2<r:=by lia
       generalize (l+r) / 2=m at hm1 hm2;by_cases Nk:K (jY st2) (lo+k)<K (jY st2) (lo+m)
       · rw[if_pos (decide_eq_true Nk)];refine Jl ⟨rfl,l,m,rfl,by lia,by lia,by lia,q4,λi a b=>?_⟩;by_cases e:i=m
         ·subst e;exact Nk
         ·exact Int.lt_trans Nk (g3.lt (show m<i by lia) b)
       · rw[if_neg (by simpa using Nk)];refine Jl ⟨rfl,m+1,r,rfl,by lia,by lia,by lia,λi a=>?_,q5⟩;by_cases e:i=m
         ·subst e;lia
         ·have:=g3.lt (show i<m by lia) (by lia);lia
   · rintro c st2 ⟨rfl,l,r,rfl,q1,q2,q3,q4,q5⟩;have:l=r:=by rw[Nat.zero_max]at q3;lia
     subst this;exact⟨rfl,l,rfl,q2,q4,q5⟩
   ·rintro c st2 ⟨rfl,l,rfl,q2,q4,q5⟩;dsimp only;refine wpS_bind ?_;show wpS _ _ _ _ (moveDown' (lo+k) (lo+l)) _ _;rw[moveDown'_eq];refine wpS_modify (Jl ⟨rfl,hR.trans ⟨hR.kind,rfl,hR.fail,bubble_perm _ _ _,λi hi=>?_⟩,by lia,by lia,OP nd1 (by lia) g3 q2 q4 q5⟩);show (bubble (jY st2) (lo+k) (lo+k-(lo+l)))[i]? =_;rw[XY (by lia) _ (by lia),if_neg (by lia),if_neg (by lia)]
 ·rintro c st1 ⟨rfl,hR,g1,g2,g3⟩;rw[Nat.max_eq_right (by lia)]at g3;exact⟨rfl,hR,g3⟩
 ·rintro c st1 ⟨rfl,hR,g3⟩;exact Jl (h st1 hR g3)
end
def lay:Nat->List (List jW)->List Nat->List (Nat×Nat×Nat)
 |o,r::rs,p::ps=>(o,r.length,p)::lay (o+r.length) rs ps
 |_,_,_=> []
theorem vO:∀ {rs1:List (List jW)} {ps1:List Nat} {rs2:List (List jW)} {ps2:List Nat} {o:Nat},rs1.length=ps1.length->lay o (rs1++rs2) (ps1++ps2)=lay o rs1 ps1++lay (o+rs1.flatten.length) rs2 ps2
 |[], [],_,_,o,_=>by simp[lay]
 |[],_::_,_,_,_,h=>by cases h
 |_::_, [],_,_,_,h=>by cases h
 |r::rs1,p::ps1,rs2,ps2,o,h=>by show (o,r.length,p)::lay (o+r.length) (rs1++rs2) (ps1++ps2)= (o,r.length,p)::(lay (o+r.length) rs1 ps1++_);rw[vO (Xv h),List.flatten_cons,zd,Nat.add_assoc]
structure GI(a0:List jW)(st:Zf)(rs:List (List jW))(ps:List Nat)(T:List jW):Prop where
 kind:yM st=ZV
 fail:Zr st=none
 arr:(jY st).toList=rs.flatten++T
 perm:(jY st).toList.Perm a0
 len:rs.length=ps.length
 pend:Zo st= (lay 0 rs ps).toArray
 ok:∀r∈rs,0<r.length/\Srt r
section
variable{prog:zM}{w:zT}{A:jd}{E:VSP}{s:zm}
end
theorem GI.push{a0:List jW}{st:Zf}{rs:List (List jW)}{ps:List Nat}{C T:List jW}{lo n:Nat}(g:GI a0 st rs ps (C++T))(hC:0<C.length)(sC:Srt C)(e:rs.flatten.length=lo)(en:C.length=n):GI a0 (setPending st ((Zo st).push (lo,n,0))) (rs++[C]) (ps++[0]) T:=by
 refine⟨g.kind,g.fail,?_,g.perm,by rw[zd,zd,g.len];rfl,?_,λr hr=>?_⟩
 ·show (jY st).toList=_;rw[g.arr];simp
 ·show (Zo st).push (lo,n,0)=_;rw[g.pend,vO g.len,List.push_toArray,Jo,e];subst en;rfl
 · rcases zO.mp hr with hr|hr
   ·exact g.ok r hr
   ·rw[zr.mp hr];exact⟨hC,sC⟩
section
variable{prog:zM}{w:zT}{A:jd}{E:VSP}{s:zm}
end
section
variable{prog:zM}{w:zT}{A:jd}{E:VSP}{s:zm}
end
end TS
namespace DL
open PySem PySem.Spec L2
open PyProof.Rows hiding St
def lB(l:List Int):List Int:=l.mergeSort λa b=>decide (a<=b)
theorem oJ(l:List Int):(lB l).Pairwise (· <= ·):=(xq (le:=λa b=>decide (a<=b)) (λa b c h1 h2=>decide_eq_true (ZO (of_decide_eq_true h1) (of_decide_eq_true h2))) (λa b=>by rw[Bool.or_eq_true,decide_eq_true_iff,decide_eq_true_iff];exact Int.le_total a b) l).imp λh=>of_decide_eq_true h
theorem AE(l:List Int):(lB l).Perm l:=jU l _
theorem Fz(hp:l'.Perm l)(hs:l'.Pairwise (· <= ·)):l'=lB l:=
 Za (λa b _ _ h1 h2=>Int.le_antisymm h1 h2) hs (oJ l) (hp.trans (AE l).symm)
section
variable{prog:zM}{w:zT}{A:jd}{E:VSP}{s:zm}{T:String}{r d:Addr}{n:Nat}{P:Nat->zi->Prop}{OK:Heap->Prop}{Q:VSP}
end
section
variable{X:Cx}{Z:XC}{c:Wc}{μ:List Addr}{H:Hp}{G:DH}
theorem TK:∀ {out} {ss},IntsAre out ss->∃vs,vs=ss.map V.int/\o5 vs out/\m5 c μ H (ss.map D.int) vs
 |_,_,.nil=>⟨[],rfl,.nil,rfl⟩
 |_,_,.cons x t q=>by obtain⟨vs,e,h1,h2⟩:=TK q;subst e;exact⟨_,rfl,.cons ⟨t,rfl⟩ h1,_,_,rfl,by unfold d8;rfl,h2⟩
end
section
variable{prog:zM}{w:zT}{A:jd}{E:VSP}
end
def B3(r:Option Int):D:=match r with
 |none=>.non
 |some b=>.int b
section
theorem OL:∀ {vs} {ns},vs.length=ns.length->(∀i u,vs[i]? =some u->∃t,u=Value.int (ns.getD i 0) t)->IntsAre vs ns
 |[], [],_,_=>.nil
 |v::vs,n::ns,e,h=>by obtain⟨t,rfl⟩:=h 0 v rfl;exact .cons _ t (OL (Xv e) λi u hu=>by simpa using h (i+1) u (by simpa using hu))
end
section
end
structure nA(X:Cx)(e:Expr)(k:Int):Prop where
 h:PE X e (tC (.int k))
section
variable{X:Cx}{Z:XC}{pos:Pos}{e f:Expr}{i j k:Int}
theorem cS{m pos}:nA X (.Constant (.int i) m pos) i:=⟨aN⟩
theorem hU(he:nA X e i)(hf:nA X f j)(hc:u7 i j)(hk:i ^ j.toNat=k):nA X (.BinOp e .Pow f pos) k:=⟨by
 subst hk;exact PE.mono (uH cJ he.h hf.h) λσ H Q q=>⟨i,j,rfl,rfl,hc,q⟩⟩
theorem qR(he:nA X e i)(hf:nA X f j)(hk:i-j=k):nA X (.BinOp e .Sub f pos) k:=⟨by
 subst hk;exact PE.mono (uH mO he.h hf.h) λσ H Q q=>⟨i,j,rfl,rfl,q⟩⟩
end
end DL
namespace DL
open PySem PySem.W
open PyProof.Rows hiding St
structure WO(lt:Nat->Nat->Bool):Prop where
 tr:∀i j k,lt j i=false->lt k j=false->lt k i=false
 as:∀i j,lt i j=true->lt j i=false
section
theorem WO.ir(O:WO lt)(i:Nat):lt i i=false:=by
 rcases e:lt i i with _|_
 ·rfl
 ·exact(O.as i i e).symm.trans e |>.symm▸rfl
def upW(lt:Nat->Nat->Bool)(p:Array Nat)(m:Nat):Prop:=∀i j,i<j->j<m->lt (p.getD j 0) (p.getD i 0)=false
def dnW(lt:Nat->Nat->Bool)(p:Array Nat)(m:Nat):Prop:=∀i j,i<j->j<m->lt (p.getD i 0) (p.getD j 0)=false
theorem gF(O:WO lt)(h:upW lt p m)(hij:i<=j)(hj:j<m):lt (p.getD j 0) (p.getD i 0)=false:=by
 rcases Zg hij with k|k
 ·exact h i j k hj
 ·rw[k];exact O.ir _
theorem KG(O:WO lt)(h:dnW lt p m)(hij:i<=j)(hj:j<m):lt (p.getD i 0) (p.getD j 0)=false:=by
 rcases Zg hij with k|k
 ·exact h i j k hj
 ·rw[k];exact O.ir _
theorem bV(O:WO lt)(hk:1<=k)(h:upW lt p k)(hl:lt (p.getD k 0) (p.getD (k-1) 0)=false):upW lt p (k+1):=by
 intro i j hij hj;by_cases hj':j<k
 ·exact h i j hij hj'
 · have ej:j=k:=by lia
   subst ej;exact O.tr _ _ _ (gF O h (show i<=j-1 by lia) (by lia)) hl
theorem LK(O:WO lt)(hk:1<=k)(h:dnW lt p k)(hl:lt (p.getD (k-1) 0) (p.getD k 0)=false):dnW lt p (k+1):=by
 intro i j hij hj;by_cases hj':j<k
 ·exact h i j hij hj'
 · have ej:j=k:=by lia
   subst ej;exact O.tr _ _ _ hl (KG O h (show i<=j-1 by lia) (by lia))
theorem IG(O:WO lt)(P:J5 p n):∀f k,1<=k->k+f<=n->upW lt p k->tOk lt n (kas_asc p f k) (λm=>k<=m/\m<=k+f/\upW lt p m/\(m<k+f->lt (p.getD m 0) (p.getD (m-1) 0)=true))
 |0,k,h1,h2,u=>⟨zf _,zf _,u,λz=>by lia⟩
 |f+1,k,h1,h2,u=>by
   unfold kas_asc;refine⟨P.bd (by lia),P.bd (by lia),?_⟩;rcases e:lt (p.getD k 0) (p.getD (k-1) 0)with _|_
   ·simp only[zy,if_false];exact(IG O P f (k+1) (by lia) (by lia) (bV O h1 u e)).mono λm ⟨a,b,c,d⟩=>⟨by lia,by lia,c,λz=>d (by lia)⟩
   ·exact⟨zf _,by lia,u,λ_=>e⟩
theorem t9(P:J5 p n)(hb:b<=n)(i:Nat):(kas_rev p a b).getD i 0=if a<=i/\i<b then p.getD (a+b-1-i) 0 else p.getD i 0:=by have hs:=P.size;rw[U0];unfold kas_rev;rw[getElem?_mirror_all (by lia)];split<;>rw[<-U0]
def eqB(lt:Nat->Nat->Bool)(p:Array Nat)(a b:Nat):Prop:=∀i j,a<=i->i<b->a<=j->j<b->lt (p.getD i 0) (p.getD j 0)=false
theorem pJ(O:WO lt)(P:J5 p n)(hk:k<=n)(h:dnW lt p k)(e:eqB lt p a k):dnW lt (kas_rev p a k) k:=by
 intro i j hij hj;rw[t9 P hk,t9 P hk];by_cases h1:a<=i
 ·rw[if_pos ⟨h1,by lia⟩,if_pos ⟨by lia,hj⟩];exact e _ _ (by lia) (by lia) (by lia) (by lia)
 · rw[if_neg (by lia)];by_cases h2:a<=j
   ·rw[if_pos ⟨h2,hj⟩];exact h i _ (by lia) (by lia)
   ·rw[if_neg (by lia)];exact h i j hij hj
theorem oE(O:WO lt):∀f k q p,J5 p n->1<=k->k+f<=n->q+1<=k->dnW lt p k->eqB lt p (k-(q+1)) k->tOk lt n (kas_desc f p k q) (λr=>J5 r.1 n/\k<=r.2.1/\r.2.1<=k+f/\r.2.2+1<=r.2.1/\dnW lt r.1 r.2.1/\eqB lt r.1 (r.2.1-(r.2.2+1)) r.2.1)
 |0,k,q,p,P,h1,h2,h3,d,e=>⟨P,zf _,zf _,h3,d,e⟩
 |f+1,k,q,p,P,h1,h2,h3,d,e=>by
   unfold kas_desc;have one:∀(p:Array Nat),eqB lt p (k+1-(0+1)) (k+1):=λp i j a1 a2 a3 a4=>by rw[show i=j by lia];exact O.ir _
   refine⟨P.bd (by lia),P.bd (by lia),?_⟩;rcases c:lt (p.getD k 0) (p.getD (k-1) 0)with _|_
   · simp only[zy,if_false];refine⟨P.bd (by lia),P.bd (by lia),?_⟩;rcases c2:lt (p.getD (k-1) 0) (p.getD k 0)with _|_
     · simp only[zy,if_false];refine(oE O f (k+1) (q+1) p P (by lia) (by lia) (by lia) (LK O h1 d c2) λi j a1 a2 a3 a4=>?_).mono λr ⟨a,b,c,d,g⟩=>⟨a,by lia,by lia,d,g⟩;have el:∀i,k-(q+1)<=i->i<k+1->lt (p.getD i 0) (p.getD k 0)=false/\lt (p.getD k 0) (p.getD i 0)=false:=λi x y=>by
        by_cases z:i=k
        ·rw[z];exact⟨O.ir _,O.ir _⟩
        ·exact⟨O.tr _ _ _ c2 (e i (k-1) x (by lia) (by lia) (by lia)),O.tr _ _ _ (e (k-1) i (by lia) (by lia) x (by lia)) c⟩
       exact O.tr _ _ _ (el j (by lia) a4).2 (el i (by lia) a2).1
     ·exact⟨P,zf _,by lia,h3,d,e⟩
   · simp only[if_true];have c':=O.as _ _ c;split
     · have rp:J5 (kas_rev p (k-(q+1)) k) n:=dA P;refine(oE O f (k+1) 0 _ rp (by lia) (by lia) (by lia) (λi j hij hj=>?_) (one _)).mono λr ⟨a,b,c,d,g⟩=>⟨a,by lia,by lia,d,g⟩;by_cases hj':j<k
       ·exact pJ O P (by lia) d e i j hij hj'
       · have ej:j=k:=by lia
         subst ej;rw[t9 P (by lia),t9 P (by lia),if_neg (show ¬(j-(q+1)<=j/\j<j) by lia)];split
         ·exact O.tr _ _ _ c' (KG O d (by lia) (by lia))
         ·exact O.tr _ _ _ c' (KG O d (by lia) (by lia))
     ·exact(oE O f (k+1) 0 p P (by lia) (by lia) (by lia) (LK O h1 d c') (one p)).mono λr ⟨a,b,c,d,g⟩=>⟨a,by lia,by lia,d,g⟩
theorem IM(O:WO lt)(P:J5 p n)(h1:1<=k)(hk:k<=n)(d:dnW lt p k):tOk lt n (kas_tail3 k n p) (λr=>J5 r.2 n/\1<=r.1/\r.1<=n/\upW lt r.2 r.1):=by
 unfold kas_tail3;have u:upW lt (kas_rev p 0 k) k:=λi j hij hj=>by rw[t9 P hk,t9 P hk,if_pos ⟨zD _,hj⟩,if_pos ⟨zD _,by lia⟩];exact d _ _ (by lia) (by lia)
 exact tOk.bind _ ((IG O (dA P) (n-k) k h1 (by lia) u).mono λm ⟨a1,a2,a3,_⟩=>⟨dA P,by lia,by lia,a3⟩)
theorem dL(O:WO lt)(P:J5 p n)(h1:1<=k)(hk:k<n)(d:dnW lt p (k+1)):tOk lt n (kas_descPart k n p) (λr=>J5 r.2 n/\1<=r.1/\r.1<=n/\upW lt r.2 r.1):=by
 unfold kas_descPart;refine tOk.bind _ ((oE O (n-(k+1)) (k+1) 0 p P (by lia) (by lia) (by lia) d λi j a1 a2 a3 a4=>by rw[show i=j by lia];exact O.ir _).mono λr ⟨a,b,c,e,g,h⟩=>?_);split
 ·exact IM O (dA a) (by lia) (by lia) (pJ O a (by lia) g h)
 ·exact IM O a (by lia) (by lia) g
theorem pW(O:WO lt)(P:J5 p n)(h2:2<=n):tOk lt n (kas_count n p) (λr=>J5 r.2 n/\1<=r.1/\r.1<=n/\upW lt r.2 r.1):=by
 unfold kas_count;refine tOk.bind _ ((IG O P (n-1) 1 (zf _) (by lia) (λi j _ _=>by lia)).mono λm ⟨a1,a2,a3,a4⟩=>?_);by_cases hm:m=n
 ·rw[if_pos (by simpa using hm)];exact⟨P,a1,by lia,a3⟩
 · rw[if_neg (by simpa using hm)];have a5:=O.as _ _ (a4 (by lia));by_cases h1:m>1
   · rw[if_pos h1];refine⟨P.bd (by lia),P.bd (by lia),?_⟩;rcases c:lt (p.getD 0 0) (p.getD (m-1) 0)with _|_
     · simp only[zy,if_false];refine dL O (dA P) (by lia) (by lia) λi j hij hj=>?_;rw[t9 P (by lia),t9 P (by lia),if_pos ⟨zD _,by lia⟩];by_cases hj':j<m
       ·rw[if_pos ⟨zD _,hj'⟩];exact a3 _ _ (by lia) (by lia)
       ·rw[if_neg (by lia),show j=m by lia];exact O.tr _ _ _ a5 (O.tr _ _ _ c (gF O a3 (zD _) (by lia)))
     ·exact⟨P,a1,by lia,a3⟩
   · rw[if_neg h1];have em:m=1:=by lia
     subst em;refine dL O P (zf _) (by lia) λi j hij hj=>?_;have e1:i=0:=by lia
     have e2:j=1:=by lia
     subst e1 e2;exact a5
theorem RG(O:WO lt)(P:J5 p n)(hk:k<n)(u:upW lt p k):∀f l r,l<=r->r<=k->r-l<=f->(∀i,i<l->lt (p.getD k 0) (p.getD i 0)=false)->(∀i,r<=i->i<k->lt (p.getD i 0) (p.getD k 0)=false)->
 tOk lt n (kas_place p k f l r) (λL=>L<=k/\(∀i,i<L->lt (p.getD k 0) (p.getD i 0)=false)/\∀i,L<=i->i<k->lt (p.getD i 0) (p.getD k 0)=false)
 |0,l,r,h1,h2,h3,a,b=>⟨by lia,a,λi hi=>b i (by lia)⟩
 |f+1,l,r,h1,h2,h3,a,b=>by
   unfold kas_place;by_cases h:l>=r
   ·rw[if_pos h];exact⟨by lia,a,λi hi=>b i (by lia)⟩
   · rw[if_neg h];have hm1:l<=(l+r) / 2:=by lia
     have hm2:(l+r) / 2<r:=by lia
     refine⟨P.bd hk,P.bd (by lia),?_⟩;rcases e:lt (p.getD k 0) (p.getD ((l+r) / 2) 0)with _|_
     ·simp only[zy,if_false];exact RG O P hk u f _ r (by lia) h2 (by lia) (λi hi=>O.tr _ _ _ (gF O u (show i<=(l+r) / 2 by lia) (by lia)) e) b
     ·simp only[if_true];exact RG O P hk u f l _ hm1 (by lia) (by lia) a λi hi hik=>O.tr _ _ _ (O.as _ _ e) (gF O u hi hik)
theorem HK(O:WO lt):∀f k p,J5 p n->k+f=n->upW lt p k->tOk lt n (kas_bin f p k) (λq=>J5 q n/\upW lt q n)
 |0,k,p,P,h,u=>⟨P,by rw[<-h];exact u⟩
 |f+1,k,p,P,h,u=>by
   unfold kas_bin;refine tOk.bind _ ((RG O P (show k<n by lia) u k 0 k (zD _) (zf _) (by lia) (λi hi=>by lia) (λi h1 h2=>by lia)).mono λL ⟨hL,a,b⟩=>?_);have hs:=P.size;refine HK O f (k+1) _ ⟨(yo.mp (bubble_perm p k (k-L))).trans P.pm⟩ (by lia) ?_;have e:∀i,(bubble p k (k-L)).getD i 0=if i=L then p.getD k 0 else if L<i/\i<=k then p.getD (i-1) 0 else p.getD i 0:=λi=>by
    rw[U0,XY (by lia) _ (by lia),show k-(k-L)=L by lia];split
    ·rw[<-U0]
    ·split<;>rw[<-U0]
   intro i j hij hj;rw[e i,e j];by_cases h1:i=L
   ·rw[if_pos h1,if_neg (show ¬j=L by lia),if_pos (show L<j/\j<=k by lia)];exact b (j-1) (by lia) (by lia)
   · rw[if_neg h1];by_cases h2:j=L
     ·rw[if_pos h2,if_neg (show ¬(L<i/\i<=k) by lia)];exact a i (by lia)
     · rw[if_neg h2];by_cases h3:L<i
       ·rw[if_pos (show L<i/\i<=k by lia),if_pos (show L<j/\j<=k by lia)];exact u _ _ (by lia) (by lia)
       · rw[if_neg (show ¬(L<i/\i<=k) by lia)];by_cases h4:L<j
         ·rw[if_pos (show L<j/\j<=k by lia)];exact u i (j-1) (by lia) (by lia)
         ·rw[if_neg (show ¬(L<j/\j<=k) by lia)];exact u _ _ hij (by lia)
theorem OJ(O:WO lt)(h2:2<=n):tOk lt n (kas_sort n) (λq=>J5 q n/\upW lt q n):=by
 unfold kas_sort;refine tOk.bind _ ((pW O ⟨by simp⟩ h2).mono λr ⟨a,b,c,d⟩=>?_);by_cases h:r.1<n
 ·rw[if_pos h,show max r.1 1=r.1 by lia];exact HK O _ _ _ a (by lia) d
 ·rw[if_neg h];exact⟨a,by rw[show n=r.1 by lia];exact d⟩
def P9{α:Type}(lt:Nat->Nat->Bool):KasT α->α
 | .ret a=>a
 | .ask i j k=>P9 lt (k (lt i j))
theorem tOk.run:∀t,tOk lt n t Q->tOk lt n t (λa=>a=P9 lt t/\Q a)
 | .ret a,h=>⟨rfl,h⟩
 | .ask i j k,h=>⟨h.1,h.2.1,tOk.run (k (lt i j)) h.2.2⟩
theorem tOk.is:∀t,tOk lt n t Q->Q (P9 lt t)
 | .ret a,h=>h
 | .ask i j k,h=>tOk.is (k (lt i j)) h.2.2
end
end DL
namespace DL
open PySem PySem.Spec L2
open PyProof.Rows hiding St
def BF:D->Option (Int×Int)
 | .tup [.int a,.int x]=>some (a,x)
 |_=>none
def bA:List D->Option (List (Int×Int))
 |[]=>some []
 |d::r=>match BF d,bA r with
   |some a,some b=>some (a::b)
   |_,_=>none
def A9(p q:Int×Int):Bool:=if p.1=q.1 then decide (p.2<q.2)else decide (p.1<q.1)
def ltP(qs:List (Int×Int))(i j:Nat):Bool:=A9 (qs.getD i (0,0)) (qs.getD j (0,0))
def W6(qs:List (Int×Int))(n:Nat):List Nat:=if n<2 then zK n else (P9 (ltP qs) (xA n)).toList
def uC(qs:List (Int×Int))(l:List D):List D:=(W6 qs l.length).map λi=>l.getD i .non
theorem aL:A9 p q=true↔p.1<q.1\/(p.1=q.1/\p.2<q.2):=by
 unfold A9;by_cases e:p.1=q.1
 ·rw[if_pos e,decide_eq_true_iff];lia
 ·rw[if_neg e,decide_eq_true_iff];lia
theorem vB:A9 p q=false↔q.1<p.1\/(q.1=p.1/\q.2<=p.2):=by rw[<-Bool.not_eq_true,aL];lia
theorem mJ(qs:List (Int×Int)):WO (ltP qs):=⟨λi j k h1 h2=>vB.mpr (by
 have h1:=vB.mp h1;have h2:=vB.mp h2;lia),λi j h=>vB.mpr (by
 have h:=aL.mp h;lia)⟩
theorem QH(qs:List (Int×Int))(n:Nat):(W6 qs n).Perm (zK n)/\(W6 qs n).Pairwise (λi j=>ltP qs j i=false):=by
 unfold W6;by_cases h:n<2
 · rw[if_pos h];refine⟨List.Perm.refl _,?_⟩
   match n,h with
   |0,_=>simp
   |1,_=>simp[Xg]
 · rw[if_neg h];obtain⟨P,U⟩:=tOk.is _ (OJ (mJ qs) (show 2<=n by lia));refine⟨P.pm,?_⟩;rw[xk];intro i j hi hj hij;have hs:=P.size;have hi':i<(P9 (ltP qs) (xA n)).size:=by simpa using hi
   have hj':j<(P9 (ltP qs) (xA n)).size:=by simpa using hj
   have:=U i j hij (by lia);simpa [Zz,hi',hj']using this
section
variable{X:Cx}{Nc:PNS}{σ:St}{H:Hp}{s:zm}
def IA(h:Heap)(u:zi)(q:Int×Int):Prop:=∃a t t',u= .ref a/\XT h a #[.int q.1 t,.int q.2 t']
theorem WI(I:Inv X Nc σ H s):∀ {ks} {qs} {kv:List V} {ku},bA ks=some qs->m5 (wc X) μ H ks kv->o5 kv ku->qs.length=ku.length/\∀(i:Nat) q,qs[i]? =some q->∃u,ku[i]? =some u/\IA s.heap u q
 |[],qs,kv,ku,e,r,rv=>by
   cases e;cases r;cases rv
   exact⟨rfl,λi q z=>by simp at z⟩
 |d::r,qs,kv,ku,e,rr,rv=>by
   obtain⟨v,tl,rfl,rd,rt⟩:=rr
   cases rv with
   |cons ru rur=>
   rename_i u ur;unfold bA at e;rcases h1:BF d with _|a
   ·rw[h1]at e;cases e
   ·
     rcases h2:bA r with _|b
     ·rw[h1,h2]at e;cases e
     ·
       rw[h1,h2]at e
       cases e
       obtain⟨hl,hk⟩:=WI I h2 rt rur;refine⟨by simp[hl],λi q z=>?_⟩
       cases i with
       |succ i=>simpa using hk i q (by simpa using z)
       |zero=>
         simp at z;subst z;refine⟨u,rfl,?_⟩;unfold BF at h1;split at h1
         · rename_i n x
           cases h1
           unfold d8 at rd;obtain⟨ad,vs,rfl,q,rl⟩:=rd;obtain⟨v1,t1,rfl,e1,v2,t2,rfl,e2,e3⟩:=rl
           cases e3
           rw[T5 e1,T5 e2]at q
           cases ru
           obtain⟨Nf,rvs,tp,_⟩:=I.tuple q
           cases rvs with
           |cons r1 rr1=>
             cases rr1 with
             |cons r2 rr2=>
               cases rr2
               obtain⟨t,rfl⟩:=r1;obtain⟨t',rfl⟩:=r2;exact⟨ad,t,t',rfl,tp⟩
         ·cases h1
end
section
variable{prog:zM}{w:zT}{A:jd}{E:VSP}{s:zm}{C:Bool->zm->Prop}
theorem BQ(hx:IA s.heap u q)(hy:IA s.heap u' q')(h:C (A9 q q') s):zw (zF prog w) A (keyLt' (tuples' true) u u') C E s:=by
 obtain⟨a,t,t',rfl,o,ho,hc,n,hd⟩:=hx;obtain⟨b,v,v',rfl,o2,Pg,hc2,n2,hd2⟩:=hy;refine PySem.W.kat_lt ho hd Pg hd2 ?_;show PySem.W.KatLex prog w A true _ C [(.int q.1 t,.int q'.1 v),(.int q.2 t',.int q'.2 v')] 0 s;refine Zk (xH (ZL (λe=>?_) λe=>?_))
 · have e1:q.1=q'.1:=by simpa using e
   refine Zt (Zk (xH (ZL (λe=>?_) λe=>?_)))
   · have e2:q.2=q'.2:=by simpa using e
     refine Zt (JS ?_);rw[show A9 q q'=false from vB.mpr (by lia)]at h;exact h
   ·refine ZK (JR _ _ (PyProof.Rows.lt_int ?_));unfold A9 at h;rw[if_pos e1]at h;exact h
 · have e1:¬q.1=q'.1:=by simpa using e
   refine ZK ?_;show zw (zF prog w) A (oneLt' true _ _) C _ s;rw[<-Jn];refine Ji ?_;unfold A9 at h;rw[if_neg e1]at h;exact h
end
section
variable{X:Cx}{Z:XC}{Nc:PNS}{σ:St}{H:Hp}{s:zm}{F:List D->M D}{k:Nat}{f:Addr}{fd:xc}{ps:List Str}{μ:List Addr}{G:DH}
theorem gZ(rl:m5 (wc X) μ H l ws)(rv:o5 ws vs):
 ∃ws',o5 ws' ((W6 qs vs.length).map λi=>vs.getD i Value.none)/\m5 (wc X) μ H (uC qs l) ws'/\ws'.length=vs.length:=by
 have hlv:l.length=vs.length:=by rw[rl.length,rv.length]
 have hp:=(QH qs vs.length).1;have main:∀p:List Nat,(∀i∈p,i<vs.length)->∃ws',o5 ws' (p.map λi=>vs.getD i Value.none)/\m5 (wc X) μ H (p.map λi=>l.getD i .non) ws'/\ws'.length=p.length:=by
  intro p
  induction p with
  |nil=>exact λ_=>⟨[],.nil,rfl,rfl⟩
  |cons i r ih=>
    intro hi;obtain⟨ws',a1,a2,a3⟩:=ih λj hj=>hi j (zl _ hj);have li:=hi i (by simp);have gl:l[i]? =some (l.getD i .non):=by rw[zA,zn (by lia)];rfl
    obtain⟨v,e1,r1⟩:=rl.get (i:=i) gl;obtain⟨u,e2,r2⟩:=rv.get e1;refine⟨v::ws',?_,⟨v,ws',rfl,r1,a2⟩,by simp[a3]⟩;have:vs.getD i Value.none=u:=by rw[zA,e2];rfl
    rw[zH,this];exact .cons r2 a1
 obtain⟨ws',a1,a2,a3⟩:=main _ λi hi=>by simpa using hp.mem_iff.mp hi
 exact⟨ws',a1,by unfold uC;rw[hlv];exact a2,by rw[a3,hp.length_eq];simp⟩
end
section
variable{X:Cx}{Z:XC}{e:Expr}{fe:Fe}{p pf kp pos:Pos}{x:Str}{F:List D->M D}
end
section
variable{prog:zM}{w:zT}{A:jd}{E:VSP}{s:zm}
end
section
variable{X:Cx}{Z:XC}{es:List Expr}{pos:Pos}
end
section
variable{X:Cx}{Z:XC}
end
def D7:List D->M D:=λds=>match ds with
 |[.int n]=>if n.natAbs.log2<1920 then pure (.str (jD (Jd n)))else M.stuck
 |_=>M.stuck
def OE:List D->M D:=λds=>match ds with
 |[.int i]=>pure (.int i)
 |[.bl k]=>pure (.int (if k then 1 else 0))
 |[.str z]=>match intText? z with
   |some n=>if z.length<=640 then pure (.int n)else M.stuck
   |none=>M.stuck
 |_=>M.stuck
section
variable{X:Cx}{Z:XC}
theorem eS:O3 X Z (.type "str") D7:=⟨by
 intro Nc s σ H xs us Q I r Ng;obtain⟨ds,μ,G,rl,hr,p⟩:=Ng;rcases ds with _|⟨_|_|n|_|_|_|_|_,_|⟨_,_⟩⟩<;>try exact p.elim
 obtain⟨v,rfl,rv⟩:=P2 rl;obtain⟨u,rfl,ru⟩:=C3 r;rw[T5 rv]at ru;obtain⟨t,rfl⟩:=ru;have p:d7 (wc X) Z μ H ((if n.natAbs.log2<1920 then pure (.str (jD (Jd n)))else M.stuck:M D) G) _:=p;split at p
 case isFalse=>exact p.elim
 rename_i hn;exact PySem.P.str_of_int hn ⟨.str (jD (Jd n)),H,I.tok _,⟨_,rfl⟩,d7.ok p hr _ (by unfold d8;rfl)⟩⟩
theorem Kz:O3 X Z (.type "int") OE:=⟨by
 intro Nc s σ H xs us Q I r Ng;have hE:=Ng;obtain⟨ds,μ,G,rl,hr,p⟩:=Ng;rcases ds with _|⟨_|b|n|z|_|_|_|_,_|⟨_,_⟩⟩<;>try exact p.elim
 ·exact(iN (X:=X) (Z:=Z)).h Nc s σ H xs us Q I r ⟨_,μ,G,rl,hr,p⟩
 ·exact(iN (X:=X) (Z:=Z)).h Nc s σ H xs us Q I r ⟨_,μ,G,rl,hr,p⟩
 · obtain⟨v,rfl,rv⟩:=P2 rl;obtain⟨u,rfl,ru⟩:=C3 r;rw[S2 rv]at ru;obtain⟨t,rfl⟩:=ru;have p:d7 (wc X) Z μ H ((match intText? z with|some n=>if z.length<=640 then pure (.int n)else M.stuck|none=>M.stuck:M D) G) _:=p;rcases hz:intText? z with _|n
   ·rw[hz]at p;exact p.elim
   · rw[hz]at p;have p:d7 (wc X) Z μ H ((if z.length<=640 then pure (.int n)else M.stuck:M D) G) _:=p;split at p
     case isFalse=>exact p.elim
     rename_i hl;exact PySem.W.KIN.call_text hz hl ⟨.int n,H,I.tok _,⟨_,rfl⟩,d7.ok p hr _ ofI⟩⟩
theorem qz(_:X.calm=true):BD D7 "str" X Z:=⟨.inr ⟨_,eS,lQ⟩⟩
theorem iV(_:X.calm=true):BD OE "int" X Z:=⟨.inr ⟨_,Kz,rR⟩⟩
end
section
variable{prog:zM}{w:zT}{A:jd}{E:VSP}{s:zm}
end
section
variable{prog:zM}{w:zT}{A:jd}{E:VSP}{s:zm}
end
theorem Z9:Slot "set_iterator" "__next__" "set_iterator.__next__":=.of (owner:= "set_iterator") (n:= "__next__") (by rw[typeLookup_type,builtinLookup_eq_fast];kernel_rfl) (by decide +kernel) (by decide +kernel) (by decide +kernel) (by first|exact .inl (by decide +kernel)|exact .inr (by decide +kernel)) (by rw[Jg];kernel_rfl)
theorem BJ:Slot "set_iterator" "__iter__" "set_iterator.__iter__":=.of (owner:= "set_iterator") (n:= "__iter__") (by rw[typeLookup_type,builtinLookup_eq_fast];kernel_rfl) (by decide +kernel) (by decide +kernel) (by decide +kernel) (by first|exact .inl (by decide +kernel)|exact .inr (by decide +kernel)) (by rw[Jg];kernel_rfl)
theorem eF:entryFor table "set_iterator.__next__" =some yz.«set_iterator.__next__»:=entryFor_of_tree (by kernel_rfl)
theorem oX:entryFor table "set.__iter__" =some yz.«frozenset.__iter__»:=entryFor_alias (id':= "frozenset.__iter__") (by kernel_rfl) rfl (by decide +kernel) (by kernel_rfl)
theorem HD(a:zi):argsOk "set_iterator.__next__" ⟨[a], []⟩:=by unfold argsOk;kernel_rfl
theorem QR(a:zi):argsOk "set_iterator.__iter__" ⟨[a], []⟩:=by unfold argsOk;kernel_rfl
theorem Kv:entryFor table "set_iterator.__iter__" =some yz.«dict_keyiterator.__iter__»:=entryFor_alias (id':= "dict_keyiterator.__iter__") (by kernel_rfl) rfl (by decide +kernel) (by kernel_rfl)
section
variable{prog:zM}{w:zT}{A:jd}{E:VSP}{s:zm}
theorem nR(hT:s.TypeIs (.ref r) "set")(h:Q false s):zw (zF prog w) A (Yo (.ref r)) Q E s:=by
 unfold Yo;refine za (wpAny_specialOf hT PySem.F.slot_set_len.lookup ?_);generalize hq:("set.__len__" :String)=id1
 wp_delta
 rw[show splitId id1=some ("set", "__len__")from by subst hq;decide +kernel];subst hq;refine za (Xz (T:= "set") (b:=true) hT (by rw[Jg];kernel_rfl) ?_);refine jK (λz=>absurd z (by decide)) (λ_=>?_);refine jK (λ_=>?_) (λz=>absurd (by decide +kernel) z);exact za (Zi hT (zj h))
end
theorem LS:jj "set" =some (.type "set"):=by decide +kernel
section
variable{X:Cx}{Z:XC}{c:Wc}{μ:List Addr}{H:Hp}{G:DH}
end
section
variable{X:Cx}{Z:XC}{ea eb:Expr}{fa fb:Fe}{p p1 p2 q1 q2 q3 pos:Pos}
end
def HU(A:jd)(s:zm)(y x:zi)(b:Bool):Prop:=
 ∀(prog:zM) (w:zT) (E:VSP) (Q:VSP),Q (.bool b) s->zw (zF prog w) A (richCompare .GtE y x) Q E s
inductive GeR(A:jd)(s:zm):List zi->List zi->Bool->Prop
 |nil:GeR A s [] [] true
 |eq {x y xs ys b}:yA A s x y true->GeR A s xs ys b->GeR A s (x::xs) (y::ys) b
 |ne {x y xs ys b}:yA A s x y false->HU A s x y b->GeR A s (x::xs) (y::ys) b
section
open PySem.SeqAt
open PySem.AutoSeq1 (wpAny_loadPart')
open PySem.MeetsSeq PySem.MeetsSeq2 PySem.MeetsSeq3
end
section
variable{X:Cx}{Z:XC}
end
section
end
def vI(c:Wc)(μ:List Addr)(H:Hp)(Nq:Option (D×D))(old:Array zi):Prop:=match Nq with
 |none=>old= #[]
 |some b=>∃v vk u uk,d8 c μ H b.1 v/\o7 v u/\d8 c μ H b.2 vk/\o7 vk uk/\old= #[u,uk]
theorem vI.mono(x:Ext μ H X2 H')(h:vI c μ H Nq old):vI c X2 H' Nq old:=by
 rcases Nq with _|b
 ·exact h
 ·obtain⟨v,vk,u,uk,a1,a2,a3,a4,a5⟩:=h;exact⟨v,vk,u,uk,a1.mono x,a2,a3.mono x,a4,a5⟩
section
variable{X:Cx}{Z:XC}{Nc:PNS}{σ:St}{k:Nat}{f:Addr}{fd:xc}{ps:List Str}{F:List D->M D}{A:jd}
end
section
variable{X:Cx}{Z:XC}{F:List D->M D}{x:Str}{e:Expr}{fe:Fe}{p pf kp pos:Pos}
end
section
variable{prog:zM}{w:zT}{A:jd}{E:VSP}{s:zm}{K:Type}[DecidableEq K]{knd:KeyKind prog w K}
end
section
variable{X:Cx}{Z:XC}{ea:Expr}{fa:Fe}{p q1 ap pos:Pos}
end
inductive CdE(w:zT)(K:zg)(mg:Str->Option zi):List DictEntry->List (Str×D)->Prop
 |nil:CdE w K mg [] []
 |cons {z:Str} {t:Tok} {u:zi} {d:D} {es:List DictEntry} {tb:List (Str×D)} (h:CR K mg d u) (r:CdE w K mg es tb):CdE w K mg ({hash:=PyData.keyHash w.params z,key:=.str z t,val:=u}::es) ((z,d)::tb)
structure CdOk(w:zT)(K:zg)(mg:Str->Option zi)(x:Str)(tb:List (Str×D)):Prop where
 ex:∃a es n,mg x=some (.ref a)/\K.lookup a=some ⟨.type "dict",none,.dict (jF es) n, #[]⟩/\CdE w K mg es tb
 nd:(tb.map (·.1)).Nodup
section
variable{X:Cx}{Z:XC}{b:Expr}{fb:Fe}{x:Str}{tb:List (Str×D)}{p pos:Pos}
end
mutual
def pyD:D->PyData
 | .non=>.none
 | .bl b=>.bool b
 | .int i=>.int i
 | .str x=>.str x
 | .tup l=>.tuple (pyL l)
 | .ref _=>.none
 | .fn _=>.none
 | .ty _=>.none
def pyL:List D->List PyData
 |[]=> []
 |d::r=>pyD d::pyL r
end
mutual
def cB:D->Bool
 | .non=>true
 | .bl _=>true
 | .int _=>true
 | .str _=>true
 | .tup l=>fD l
 | .ref _=>false
 | .fn _=>false
 | .ty _=>false
def fD:List D->Bool
 |[]=>true
 |d::r=>cB d&&fD r
end
mutual
theorem UX:∀d:D,(pyD d).hasDict=false
 | .non=>rfl
 | .bl _=>rfl
 | .int _=>rfl
 | .str _=>rfl
 | .tup l=>by unfold pyD;exact UJ l
 | .ref _=>rfl
 | .fn _=>rfl
 | .ty _=>rfl
theorem UJ:∀l:List D,JH (pyL l)=false
 |[]=>rfl
 |d::r=>by unfold pyL;show ((pyD d).hasDict||JH (pyL r))=false;rw[UX d,UJ r];rfl
end
section
variable{X:Cx}{Z:XC}{Nc:PNS}{σ:St}{H:Hp}{s:zm}
theorem PR(I:Inv X Nc σ H s)(q:SqT X.K H a vs):∃o Nf n,s.heap.get? a=some o/\o.cls= .type "tuple"/\o.data= .seq Nf n/\o5 vs Nf.toList:=by
 rcases q with q|⟨o,Nf,n,hl,hc,hd,_,hv⟩
 ·obtain⟨_,Nf,hv,o,e,c,n,d⟩:=(show O6 X.prog X.w H s.heap a (.tup vs)from MH I.hok q);exact⟨o,Nf.toArray,n,e,c,(xn d).1,by simpa using hv⟩
 ·exact⟨o,Nf,n,I.kIn _ _ hl,hc,(xn hd).1,hv⟩
mutual
theorem eV(I:Inv X Nc σ H s):∀d {v} {u},cB d=true->d8 (wc X) μ H d v->o7 v u->∃as,Reads s.heap u (pyD d) as
 | .non,v,u,_,r,q=>by unfold d8 at r;subst r;cases q;exact⟨_,.none⟩
 | .bl b,v,u,_,r,q=>by unfold d8 at r;subst r;cases q;exact⟨_,.bool b⟩
 | .int i,v,u,_,r,q=>by unfold d8 at r;subst r;obtain⟨t,rfl⟩:=q;exact⟨_,.int i t⟩
 | .str x,v,u,_,r,q=>by unfold d8 at r;subst r;obtain⟨t,rfl⟩:=q;exact⟨_,.str x t⟩
 | .tup l,v,u,hd,r,q=>by
   unfold d8 at r;obtain⟨a,vs,rfl,sq,rl⟩:=r
   cases q
   obtain⟨o,Nf,n,e,c,d,hv⟩:=PR I sq;obtain⟨as,ra⟩:=RL I l (by unfold cB at hd;exact hd) rl hv;unfold pyD;exact⟨as,.tuple e c d ra⟩
 | .ref _,v,u,hd,_,_=>by unfold cB at hd;cases hd
 | .fn _,v,u,hd,_,_=>by unfold cB at hd;cases hd
 | .ty _,v,u,hd,_,_=>by unfold cB at hd;cases hd
theorem RL(I:Inv X Nc σ H s):∀l {vs} {us},fD l=true->m5 (wc X) μ H l vs->o5 vs us->∃as,ReadsAll s.heap us (pyL l) as
 |[],vs,us,_,r,q=>by unfold m5 at r;subst r;cases q;exact⟨_,.nil⟩
 |d::l,vs,us,hd,r,q=>by
   unfold m5 at r;obtain⟨v,r',rfl,r1,r2⟩:=r;unfold fD at hd;rw[jl]at hd
   cases q with
   |cons q1 q2=>
     obtain⟨as,h1⟩:=eV I d hd.1 r1 q1;obtain⟨bs,h2⟩:=RL I l hd.2 r2 q2;unfold pyL;exact⟨_,.cons h1 h2⟩
end
end
section
variable{X:Cx}{Z:XC}
end
end DL
namespace W
open PySem PySem.Spec L2 DL
open PyProof.Rows hiding St
end W
namespace DL
open PySem PySem.Spec L2
open PyProof.Rows hiding St
section
variable{X:Cx}{Z:XC}{o:Expr}{fo:Fe}{name:Str}{id:String}{mm:D->List D->M D}{Ph Np:Pos}
end
def sV:zi->Str
 | .str x _=>x
 |_=> ""
def byT(w:zT):Bool:=w.params.followText "set-order"
def TSet(prog:zM)(w:zT)(h:Heap)(a:Addr)(ss:List Str):Prop:=∃o es ep t,h.get? a=some o/\o.ExactSet/\o.data= .set es ep t/\ElemsOf (strKind prog w) es.toList/\(es.toList.map λe=>sV e.2).Perm ss/\es.size<scanBound/\t.fits es.size=true/\t.led= (!byT w)/\(0<es.size->t.plain=false)
section
variable{prog:zM}{w:zT}{A:jd}{E:VSP}{s:zm}
end
theorem TSet.congr(hS:TSet prog w h a ss)(e:∀o,h.get? a=some o->h'.get? a=some o):TSet prog w h' a ss:=by obtain⟨o,es,ep,t,ho,r⟩:=hS;exact⟨o,es,ep,t,e o ho,r⟩
theorem StrsAre.at:∀ {vs} {ss},StrsAre vs ss->∀(i:Nat) v,vs[i]? =some v->∃x t,ss[i]? =some x/\v= .str x t
 |_,_,.nil,i,v,h=>by simp at h
 |_,_,.cons x t hr,0,v,h=>by simp at h;exact⟨x,t,rfl,h.symm⟩
 |_,_,.cons n t hr,i+1,v,h=>by simp only[jf]at h ⊢;exact StrsAre.at hr i v h
section
variable{prog:zM}{w:zT}{A:jd}{R:Result->zm->Prop}{I:Addr}{fp wr:List Addr}{G:Array GenState->Array GenState->Prop}{n:Nat}{P:Nat->zi->Prop}{St:Nat->zm->Prop}
end
section
theorem Fb(a:zi)
 (h:Q₁ (.ref s.heap.objs.size) {s with heap:=s.heap.push {cls:=.type "set",dict:=none,data:=.set #[] 0 (.fresh 0 0 (!byT w))}}):
 ZE (zF prog w) A (.call (.builtin "set.__new__") ⟨[.type "set",a], []⟩) (wants Q₁ E) s:=by
 refine codeAny_of_tree ?_;show zw _ A.in1 (do checkBuiltinCall "set.__new__" ⟨[.type "set",a], []⟩;again (.builtin "set.__new__" ⟨[.type "set",a], []⟩)) _ _ s;refine za (wpAny_of_eq (F.newCall_set_1 a) (zj ⟨xt F.plain_set_new _,yD F.entry_set_new ?_⟩));rw[yb F.plain_set_new _];unfold yz.«set.__new__» Builtin.Frozenset.newClass;have hsub:=sub_set_self;obtain⟨hp,g,d,tk,os⟩:=s;dsimp only
 wp_walk
 refine ZT (zj ?_);dsimp only;simp only[newObj];refine za (wpAny_alloc (zj ?_));exact zj h
end
theorem PH:∀(l:List α) i h,((l[i]'h)::l.eraseIdx i).Perm l
 |x::r,0,_=>.refl _
 |x::r,i+1,h=>by have ih:=PH r i (by simpa using h);show ((r[i]'(by simpa using h))::x::r.eraseIdx i).Perm (x::r);exact(List.Perm.swap ..).trans (.cons _ ih)
abbrev sO(es:Array (Int×zi))(ep:Nat)(t:SetTable):Obj:={cls:=.type "set",dict:=none,data:=.set es ep t,slots:= #[]}
abbrev sI(f:zi)(i:Nat)(a:Addr)(n ep:Nat):Obj:={cls:=.type "set_iterator",data:=.fields #[f,.int i 0,.ref a,.int n 0,.int ep 0]}
section
theorem AT(hn:n≠0)(h:∀i d',i<n->Q i {s with drawn:=d'}):zw (zF prog w) A (choose src n) Q E s:=by intro Γ p _;unfold choose;rw[Sem.wp_choose];refine⟨hn,?_⟩;rw[Sem.wp_pure];exact h _ _ (yw _ (Nat.pos_of_ne_zero hn))
theorem TM:∀(xs:List α) s Q,(∀ys d',ys.Perm xs->Q ys {s with drawn:=d'})->zw (zF prog w) A (drawOrder xs.length xs) Q E s
 |[],s,Q,h=>zj (h [] s.drawn .nil)
 |x::r,s,Q,h=>by
   show zw _ _ (choose .order (x::r).length >>= λi=>match (x::r)[i]? with
    |some y=>(do return y::(<-drawOrder r.length ((x::r).eraseIdx i)))
    |none=>XQ "internal:drawOrder") _ _ _
   refine za (AT (by simp) λi d' hi=>?_);rw[zn hi];dsimp only;have hl:((x::r).eraseIdx i).length=r.length:=by rw[Jx,if_pos hi];simp
   rw[<-hl];refine za (TM _ _ _ λys d2 hp=>zj ?_);refine h _ d2 ?_;exact(List.Perm.cons _ hp).trans (PH _ i hi)
termination_by xs=>xs.length
decreasing_by simp only[hl];simp
theorem wK(nx:Nat->Nat):∀f k (l:List α) out,f=l.length->(Xl nx f k l out).toList.Perm (out.toList++l)
 |0,k, [],out,_=>by unfold Xl;simp
 |f+1,k,x::r,out,hf=>by
   unfold Xl;have hi:nx k % (x::r).length<(x::r).length:=yw _ (by simp);rw[zn hi];dsimp only;have hl:f= ((x::r).eraseIdx (nx k % (x::r).length)).length:=by rw[Jx,if_pos hi];simpa using hf
   refine(wK nx f (k+1) _ _ hl).trans ?_;rw[Array.toList_push,jh];exact(PH _ _ hi).append_left _
theorem Cd(nx:Nat->Nat)(xs:Array α):(Zn nx xs).toList.Perm xs.toList:=by have:=wK nx xs.size 0 xs.toList #[] (by simp);simpa [Zn]using this
theorem qF(hi:s.heap.get? I=some (sI f i a n ep))(h:Q (.ref I) s):zw (zF prog w) A (Jf (.ref I)) Q E s:=by have hT:s.TypeIs (.ref I) "set_iterator":=⟨_,hi,rfl⟩;refine wpAny_pyIter_slot hT BJ (jC BJ hT Kv (show zw _ _ (ret (.ref I)) _ _ s from ?_) (QR _));exact zj ⟨_,rfl, "set_iterator",_,hT,Z9.lookup,h⟩
end
section
theorem WG(h:Q (byT w) s):zw (zF prog w) A setsByText Q E s:=za (ZT (zj h))
theorem aM(hb:byT w=true)(ha:s.heap.get? a=some (sO es ep t))(hf:t.fits es.size=true)(h:Q (((Zn (w.params.setOrder a ep) es)[i]?).map λe=>(e.2,slot)) s):zw (zF prog w) A (Yz a slot i ep) Q E s:=by unfold Yz;refine za (jm ha rfl hf ?_);refine za (WG ?_);refine jK (λ_=>?_) (λz=>absurd hb z);refine jK (λz=>absurd z (by simp)) (λ_=>?_);unfold setWalk;refine za (za (jm ha rfl hf ?_));refine za (WG ?_);refine jK (λ_=>?_) (λz=>absurd hb z);refine za (ZT (zj ?_));exact zj h
theorem dH(hb:byT w=false)(hl:t.led=true)(h1:¬((!t.plain&&decide (es.size>1))=true))(ha:s.heap.get? a=some (sO es ep t))(hf:t.fits es.size=true) (h:Q (match es[zU t.place slot]?,t.place[zU t.place slot]? with
 |some (_,x),some j=>some (x,j+1)
 |_,_=>none) s):zw (zF prog w) A (Yz a slot i ep) Q E s:=by
 unfold Yz;refine za (jm ha rfl hf ?_);refine za (WG ?_);refine jK (λz=>absurd (hb.symm.trans z) (by decide)) (λ_=>?_);refine jK (λz=>absurd z h1) (λ_=>?_);refine za (show zw _ _ (if (!t.led&&!es.isEmpty)=true then XQ "set:maker-not-led" else pure ()) _ _ _ from ?_);rw[hl];exact zj (zj h)
set_option maxHeartbeats 3200000 in
theorem vM{I:Addr}{slot i n nx:Nat}{x:zi}(hi:s.heap.get? I=some (sI (.int slot 0) i a es.size ep))(ha:s.heap.get? a=some (sO es ep t))(hf:t.fits es.size=true)
 (hN:∀(A:jd) E Q,Q (some (x,nx)) s->zw (zF prog w) A (Yz a slot i ep) Q E s)
 (h:∀h',h'.get? I=some (sI (.int nx 0) (i+1) a es.size ep)->yj I s.heap h'->Q (some x) {s with heap:=h'}):zw (zF prog w) A (xP (.ref I)) Q E s:=by
 have hT:s.TypeIs (.ref I) "set_iterator":=⟨_,hi,rfl⟩;unfold xP;refine za (YQ (yh (name:=jD "__next__") hT Z9 (jC Z9 hT eF ?_ (HD _))));unfold yz.«set_iterator.__next__» Xb;generalize hNx:Yz=N at hN ⊢
 wp_walk using jm ha rfl hf
 simp only[jV];refine hN _ _ _ ?_;dsimp only;refine za (YZ hi (show 0<5 by decide) λh1 e1 k1=>?_);refine za (YZ e1 (show 1<5 by decide) λh2 e2 k2=>?_);refine zj ⟨_,rfl,?_⟩;exact zj (h h2 e2 (k1.trans k2))
set_option maxHeartbeats 3200000 in
theorem kG{I:Addr}{slot i n nx:Nat}(hh:A.handled=none)(hi:s.heap.get? I=some (sI (.int slot 0) i a es.size ep))(ha:s.heap.get? a=some (sO es ep t))(hf:t.fits es.size=true)
 (hN:∀(A:jd) E Q,Q none s->zw (zF prog w) A (Yz a slot i ep) Q E s)
 (h:∀h',Heap.ExtBut I s.heap h'->Q none {s with heap:=h'}):zw (zF prog w) A (xP (.ref I)) Q E s:=by
 have hT:s.TypeIs (.ref I) "set_iterator":=⟨_,hi,rfl⟩;unfold xP;refine za (YQ (yh (name:=jD "__next__") hT Z9 (jC Z9 hT eF ?_ (HD _))));unfold yz.«set_iterator.__next__» Xb;generalize hNx:Yz=N at hN ⊢
 wp_walk using jm ha rfl hf
 simp only[jV];refine hN _ _ _ ?_;dsimp only
 wp_walk
 simp only[raiseNew];refine za (wpAny_handled ?_);rw[show A.in1.handled=none from hh];refine za (zj (wpAny_throw ?_));refine za (Xz (T:= "StopIteration") (b:=true) ⟨_,zu _ rfl,rfl⟩ isSubtype_stop (zj ?_));exact h _ (((yV ..).extBut.push _).push _)
set_option maxHeartbeats 3200000 in
theorem OR{I J:Addr}{ps:List Nat}(hi:s.heap.get? I=some (sI (.ref J) i a es.size ep))(ha:s.heap.get? a=some (sO es ep t))(hf:t.fits es.size=true)(hJ:s.heap.get? J=some {cls:=.type "tuple",data:=.seq (ps.map fun(i:Nat)=>xp i).toArray m})
 (hp:ps[i]? =some p) (he:es[p]? =some e)
 (h:∀h',h'.get? I=some (sI (.ref J) (i+1) a es.size ep)->yj I s.heap h'->Q (some e.2) {s with heap:=h'}):zw (zF prog w) A (xP (.ref I)) Q E s:=by
 have hT:s.TypeIs (.ref I) "set_iterator":=⟨_,hi,rfl⟩;unfold xP;refine za (YQ (yh (name:=jD "__next__") hT Z9 (jC Z9 hT eF ?_ (HD _))));unfold yz.«set_iterator.__next__» Xb
 wp_walk using jm ha rfl hf
 have eg:(ps.map fun(i:Nat)=>xp i).toArray[(i:Int).toNat]? =some (xp p):=by rw[jV,ZS,jg,hp];rfl
 rw[eg];show zw _ _ (setNextDrawn a (p:Int).toNat (ep:Int).toNat >>= λx=>setField (.ref I) 1 (xp (i+1)) >>= λ_=>ret x) _ _ _;simp only[jV];unfold setNextDrawn;refine za (za (jm ha rfl hf ?_));refine jK (λz=>absurd z (by simp)) (λ_=>?_);rw[he];refine zj ?_;refine za (YZ hi (show 1<5 by decide) λh2 e2 k2=>?_);refine zj ⟨_,rfl,?_⟩;exact zj (h h2 e2 k2)
set_option maxHeartbeats 3200000 in
theorem RW{ps:List Nat}(hh:A.handled=none)(hi:s.heap.get? I=some (sI (.ref J) ps.length a es.size ep))(ha:s.heap.get? a=some (sO es ep t))(hf:t.fits es.size=true)(hJ:s.heap.get? J=some {cls:=.type "tuple",data:=.seq (ps.map fun(i:Nat)=>xp i).toArray m})
 (h:∀h',Heap.ExtBut I s.heap h'->Q none {s with heap:=h'}):zw (zF prog w) A (xP (.ref I)) Q E s:=by
 have hT:s.TypeIs (.ref I) "set_iterator":=⟨_,hi,rfl⟩;unfold xP;refine za (YQ (yh (name:=jD "__next__") hT Z9 (jC Z9 hT eF ?_ (HD _))));unfold yz.«set_iterator.__next__» Xb
 wp_walk using jm ha rfl hf
 have eg:(ps.map fun(i:Nat)=>xp i).toArray[(ps.length:Int).toNat]? =none:=by rw[jV,ZS,jg,zS (zf _)];rfl
 rw[eg]
 wp_walk
 simp only[raiseNew];refine za (wpAny_handled ?_);rw[show A.in1.handled=none from hh];refine za (zj (wpAny_throw ?_));refine za (Xz (T:= "StopIteration") (b:=true) ⟨_,zu _ rfl,rfl⟩ isSubtype_stop (zj ?_));exact h _ ((((yV ..).trans (yV ..)).extBut.push _).push _)
end
structure SWalk(prog:zM)(w:zT)(A:jd)(s:zm)(a:Addr)(ss:List Str)(I:Addr)(h':Heap):Prop where
 keep:∀b o,s.heap.get? b=some o->h'.get? b=some o
 new:s.heap.objs.size<=I
 walk:∃(J:Addr) (vs:List zi) (Pb:List Str) (St:Nat->Heap->Prop),s.heap.objs.size<=J/\StrsAre vs Pb/\Pb.Perm ss/\Walks prog w A I [I,J,a] [I] vs.length (λi v=>vs[i]? =some v) St/\St 0 h'
section
theorem wkT(hh:A.handled=none)(hb:byT w=true)(hf:t.fits es.size=true)(Pd:a≠I)(J:Addr)(hJ:J≠I):
 Walks prog w A I [I,J,a] [I] ((Zn (w.params.setOrder a ep) es).toList.map (·.2)).length (λi v=>((Zn (w.params.setOrder a ep) es).toList.map (·.2))[i]? =some v) (λi h=>h.get? I=some (sI (.int 0 0) i a es.size ep)/\h.get? a=some (sO es ep t)) where
 sub:=λb hb=>by simp at hb;simp[hb]
 frame:=λi h h' st hk=>⟨hk I (by simp) _ st.1,hk a (by simp) _ st.2⟩
 item:=λi s Q E hi st hQ=>by
  rw[zc]at hi;have e:(Zn (w.params.setOrder a ep) es)[i]? =some (Zn (w.params.setOrder a ep) es).toList[i]:=by rw[<-zB,zn hi]
  refine vM (n:=0) (nx:=0) (x:=(Zn (w.params.setOrder a ep) es).toList[i].2) st.1 st.2 hf (λA E Q hq=>aM hb st.2 hf (by rw[e];exact hq)) λh' hI hs=>?_;refine hQ _ h' s.toks (by rw[jg,zn hi];rfl) ⟨hI,?_⟩ λb o hb e=>?_
  ·rw[hs.2 a Pd];exact st.2
  ·rw[hs.2 b (by simpa using hb)];exact e
 done:=λs Q E st hQ=>by rw[zc]at st;refine kG (n:=0) (nx:=0) hh st.1 st.2 hf (λA E Q hq=>aM hb st.2 hf (by rw[<-zB,zS (zf _)];exact hq)) λh' he=>hQ h' s.toks λb o hb e=>he b o (λz=>hb (by simp[z])) e
 self:=λi s Q E st hQ=>qF st.1 hQ
theorem wkD(hh:A.handled=none)(hf:t.fits es.size=true)(Pd:a≠I)(J:Addr)(hJ:J≠I){ps:List Nat}{vs:List zi}(hv:ps.map (λp=>es[p]?.map (·.2))=vs.map some):
 Walks prog w A I [I,J,a] [I] vs.length (λi v=>vs[i]? =some v) (λi h=>h.get? I=some (sI (.ref J) i a es.size ep)/\h.get? a=some (sO es ep t)/\∃m,h.get? J=some {cls:=.type "tuple",data:=.seq (ps.map fun(i:Nat)=>xp i).toArray m}) where
 sub:=λb hb=>by simp at hb;simp[hb]
 frame:=λi h h' st hk=>⟨hk I (by simp) _ st.1,hk a (by simp) _ st.2.1,let ⟨m,e⟩:=st.2.2;⟨m,hk J (by simp) _ e⟩⟩
 item:=λi s Q E hi st hQ=>by
  obtain⟨m,e⟩:=st.2.2;have hl:ps.length=vs.length:=by have:=congrArg Zm hv;simpa using this
  have g:=congrArg (·[i]?) hv;simp only[jg,zn hi,zn (show i<ps.length by omega),Zy,je]at g;obtain⟨q,eq,ev⟩:=Zv.mp g;refine OR st.1 st.2.1 hf e (zn (show i<ps.length by omega)) eq λh' hI hs=>?_;refine hQ _ h' s.toks (by rw[zn hi,ev]) ⟨hI,?_,m,?_⟩ λb o hb e=>?_
  ·rw[hs.2 a Pd];exact st.2.1
  ·rw[hs.2 J hJ];exact e
  ·rw[hs.2 b (by simpa using hb)];exact e
 done:=λs Q E st hQ=>by
  obtain⟨m,e⟩:=st.2.2;have hl:ps.length=vs.length:=by have:=congrArg Zm hv;simpa using this
  rw[<-hl]at st;exact RW hh st.1 st.2.1 hf e λh' he=>hQ h' s.toks λb o hb e=>he b o (λz=>hb (by simp[z])) e
 self:=λi s Q E st hQ=>qF st.1 hQ
end
section
variable{prog:zM}{w:zT}{A:jd}{E:VSP}{s:zm}{a I:Addr}{es:Array (Int×zi)}{ep:Nat}{t:SetTable}
theorem Fh(hh:A.handled=none)(hb:byT w=false)(hl:t.led=true)(he:es= #[])(hf:t.fits es.size=true)(Pd:a≠I)(J:Addr):
 Walks prog w A I [I,J,a] [I] 0 (λi v=>([]:List zi)[i]? =some v) (λi h=>h.get? I=some (sI (.int 0 0) i a es.size ep)/\h.get? a=some (sO es ep t)) where
 sub:=λb hb=>by simp at hb;simp[hb]
 frame:=λi h h' st hk=>⟨hk I (by simp) _ st.1,hk a (by simp) _ st.2⟩
 item:=λi s Q E hi st hQ=>absurd hi (Nat.not_lt_zero _)
 done:=λs Q E st hQ=>kG (n:=0) (nx:=0) hh st.1 st.2 hf (λA E Q hq=>dH hb hl (by subst he;simp) st.2 hf (by subst he;simpa using hq)) λh' he=>hQ h' s.toks λb o hb e=>he b o (λz=>hb (by simp[z])) e
 self:=λi s Q E st hQ=>qF st.1 hQ
theorem WL(p j:Nat):zU #[p] j=if p<j then 1 else 0:=by unfold zU;simp[yF]
theorem vQ(hh:A.handled=none)(hb:byT w=false)(hl:t.led=true)(he:es= #[e])(hp:t.place= #[p])(hf:t.fits es.size=true)(Pd:a≠I)(J:Addr):
 Walks prog w A I [I,J,a] [I] 1 (λi v=> [e.2][i]? =some v) (λi h=>h.get? I=some (sI (.int (if i=0 then (0:Nat)else p+1:Nat) 0) i a es.size ep)/\h.get? a=some (sO es ep t)) where
 sub:=λb hb=>by simp at hb;simp[hb]
 frame:=λi h h' st hk=>⟨hk I (by simp) _ st.1,hk a (by simp) _ st.2⟩
 item:=λi s Q E hi st hQ=>by
  obtain rfl:i=0:=by omega
  refine vM (n:=0) (nx:=p+1) (x:=e.2) st.1 st.2 hf (λA E Q hq=>dH hb hl (by subst he;simp) st.2 hf ?_) λh' hI hs=>?_
  ·rw[hp,WL,he];simpa using hq
  refine hQ _ h' s.toks rfl ⟨hI,?_⟩ λb o hb e=>?_
  ·rw[hs.2 a Pd];exact st.2
  ·rw[hs.2 b (by simpa using hb)];exact e
 done:=λs Q E st hQ=>kG (n:=0) (nx:=0) hh st.1 st.2 hf (λA E Q hq=>dH hb hl (by subst he;simp) st.2 hf (by rw[hp,WL,he];simpa using hq)) λh' he=>hQ h' s.toks λb o hb e=>he b o (λz=>hb (by simp[z])) e
 self:=λi s Q E st hQ=>qF st.1 hQ
set_option maxHeartbeats 3200000 in
theorem Lv(ha:s.heap.get? a=some (sO es ep t))(hf:t.fits es.size=true)
 (h1:(!byT w&&(!t.plain&&decide (es.size>1)))=true->∀(ps:List Nat) d',ps.Perm (zK es.size)->Q (.ref (s.heap.objs.size+1)) {s with heap:=(s.heap.push {cls:=.type "tuple",data:=.seq (ps.map fun(i:Nat)=>xp i).toArray}).push (sI (.ref s.heap.objs.size) 0 a es.size ep),drawn:=d'})
 (h2:¬((!byT w&&(!t.plain&&decide (es.size>1)))=true)->Q (.ref s.heap.objs.size) {s with heap:=s.heap.push (sI (.int 0 0) 0 a es.size ep)}) (hz:es.size<=zk):zw (zF prog w) A (Jf (.ref a)) Q E s:=by
 have hA:s.TypeIs (.ref a) "set":=⟨_,ha,rfl⟩;refine wpAny_pyIter_slot hA F.slot_set_iter (jC F.slot_set_iter hA oX ?_ (F.args_set_iter_1 _));unfold yz.«frozenset.__iter__» Builtin.Frozenset.slot0 Builtin.Frozenset.sizeOf Xb setDrawn setEpoch
 wp_walk using jm ha rfl hf
 refine ZT (zj (zj ?_));have fin:∀(f:zi) (s1:zm),s1.heap.get? a=some (sO es ep t)->Q (.ref s1.heap.objs.size) {s1 with heap:=s1.heap.push (sI f 0 a es.size ep)}->zw (zF prog w) A.in1 (do
  let e <-(do
   let r <-setState a
   pure r.2.1)
  let v <-newFields "set_iterator" [f,xp 0,.ref a,xp (es.size:Nat),xp e]
  ret v) (λfin s'=>∃v,fin=Fin.done (Flow.ret v)/\∃T' r,s'.TypeIs v T'/\typeLookup (.type T') (jD "__next__")=pure (some r)/\Q v s') E s1:=by
  intro f s1 h1 hq;refine za (za (jm h1 rfl hf (zj ?_)))
  wp_walk
  exact⟨_,rfl, "set_iterator",_,⟨_,zu _ rfl,rfl⟩,Z9.lookup,hq⟩
 refine jK (λz=>?_) (λz=>?_)
 ·have hr:(zK es.size).length=es.size:=jv;have wo:=TM (prog:=prog) (w:=w) (A:=A.in1) (E:=E) (zK es.size) s;rw[hr]at wo;refine za (wo _ λps d' hp=>?_);refine za (Je ?_ (by rw[zc,hp.length_eq,hr];exact hz));have q:=h1 z ps d' hp;refine fin _ _ (ze _ ha) ?_;have e:(s.heap.push {cls:=.type "tuple",data:=.seq (ps.map fun(i:Nat)=>xp i).toArray}).objs.size=s.heap.objs.size+1:=yp ..;dsimp only;rw[e];exact q
 ·exact za (zj (fin _ _ ha (h2 z)))
theorem HX{ps:List Nat}(h:ps.Perm (zK es.size)):∃l:List (Int×zi),l.Perm es.toList/\ps.map (λp=>es[p]?.map (·.2))= (l.map (·.2)).map some:=by
 refine⟨ps.map λp=>es.toList.getD p (0,.none),?_,?_⟩
 · refine(h.map _).trans ?_;have:(zK es.size).map (λp=>es.toList.getD p (0,.none))=es.toList:=by
    apply xi
    ·simp
    · intro i h1 h2;have h3:i<es.size:=by simpa using h2
      simp[zA,h3]
   rw[this]
 ·rw[zV,zV];refine jM λp hp=>?_;have h3:p<es.size:=js.mp (h.mem_iff.mp hp);simp[zA,h3]
end
section
variable{prog:zM}{w:zT}{s:zm}{a I:Addr}{es:Array (Int×zi)}{ep:Nat}{t:SetTable}
theorem TSet.type(hS:TSet prog w s.heap a ss):s.TypeIs (.ref a) "set":=by obtain⟨o,es,ep,t,ho,⟨x1,_⟩,_⟩:=hS;exact⟨o,ho,x1⟩
end
section
end
section
end
section
theorem cY(I:Inv X Nc σ H s):Inv X Nc σ H {s with drawn:=d'}:=⟨I.ok,I.os,I.bare,I.base,I.loc,I.cell,I.free,I.freeC,I.pin,I.hok,I.len⟩
end
end DL
namespace W
open PySem PySem.Spec L2 DL
open PyProof.Rows hiding St
end W
namespace DL
open PySem PySem.Spec L2
open PyProof.Rows hiding St
def lcg(m i:Nat):Nat:=(i*5+1) % (m+1)
def itr(m:Nat):Nat->Nat->Nat
 |0,i=>i
 |k+1,i=>itr m k (lcg m i)
def B4(m:Nat):Prop:=∀i≤m,∀j≤m,∃k≤m,itr m k i=j
def UI(m:Nat):Bool:=(zK (m+1)).all λi=>(zK (m+1)).all λj=>(zK (m+1)).any λk=>itr m k i==j
theorem eO(h:UI m=true):B4 m:=by intro i hi j hj;unfold UI at h;have h1:=xG.mp h i (js.mpr (by omega));have h2:=xG.mp h1 j (js.mpr (by omega));obtain⟨k,hk,e⟩:=YY.mp h2;exact⟨k,by have:=js.mp hk;omega,by simpa using e⟩
theorem Cq:B4 7:=eO (by decide +kernel)
theorem RV:B4 31:=eO (by decide +kernel)
theorem HE(m:Nat):∀a b i,itr m (a+b) i=itr m a (itr m b i)
 |a,0,i=>rfl
 |a,b+1,i=>HE m a b (lcg m i)
theorem fR(hp:itr m (m+1) 0=0)(h:((zK (m+1)).all λj=>(zK (m+1)).any λk=>itr m k 0==j)=true):B4 m:=by
 have one:∀j≤m,∃k≤m,itr m k 0=j:=λj hj=>by obtain⟨k,hk,e⟩:=YY.mp (xG.mp h j (js.mpr (by omega)));exact⟨k,by have:=js.mp hk;omega,by simpa using e⟩
 intro i hi j hj;obtain⟨a,ha,ea⟩:=one i hi;obtain⟨b,hb,eb⟩:=one j hj;by_cases c:a<=b
 ·exact⟨b-a,by omega,by rw[<-ea,<-HE,Nat.sub_add_cancel c];exact eb⟩
 ·refine⟨b+(m+1)-a,by omega,?_⟩;rw[<-ea,<-HE,Nat.sub_add_cancel (by omega),HE,hp];exact eb
theorem wR:B4 127:=fR (by decide +kernel) (by decide +kernel)
def aC(owner:Array (Option Nat))(r:Option Nat):Prop:=∃j,r=some j/\owner[j]? =some none
theorem IS{owner:Array (Option Nat)}(h:(zK n).find? (λk=>(owner.getD (i+k) (some 0)).isNone)=some k):owner[i+k]? =some none:=by
 have:=List.find?_some h;have e:owner.getD (i+k) (some 0)=none:=by simpa using this
 rw[jp]at e;rcases h2:owner[i+k]? with _|o
 ·rw[h2]at e;cases e
 ·rw[h2]at e;have:o=none:=e;rw[this]
theorem PP(h:owner[i]? =some none):aC owner (ja mask owner (f+1) i p):=by
 unfold ja;have hr:∃m,jk mask i+1-i=m+1:=by
  unfold jk;split
  ·exact⟨9,by omega⟩
  ·exact⟨0,by omega⟩
 obtain⟨m,hm⟩:=hr;have:((zK (jk mask i+1-i)).find? λk=>(owner.getD (i+k) (some 0)).isNone)=some 0:=by rw[hm,ZI,List.find?_cons_of_pos];rw[jp,Nat.add_zero,h];rfl
 rw[this];exact⟨i,by simp,h⟩
theorem nL{owner:Array (Option Nat)}(h:aC owner (ja mask owner f (zZ mask i p).1 (zZ mask i p).2)):aC owner (ja mask owner (f+1) i p):=by
 unfold ja;split
 ·rename_i k hk;exact⟨i+k,rfl,IS hk⟩
 ·exact h
theorem MN(hj:owner[j]? =some none):∀k f i,k<f->itr mask k i=j->aC owner (ja mask owner f i 0)
 |0,f+1,i,_,e=>by have e:i=j:=e;rw[<-e]at hj;exact PP hj
 |k+1,f+1,i,hf,e=>by
   refine nL ?_;have e1:(zZ mask i 0).1=lcg mask i:=by show (i*5+1+0 / 32) % (mask+1)=_;simp[lcg]
   have e2:(zZ mask i 0).2=0:=by show 0 / 32=0;rfl
   rw[e1,e2];exact MN hj k f _ (by omega) e
theorem dG(hF:B4 mask)(hj:owner[j]? =some none)(hm:j<=mask):∀n f i p,p<32 ^ n->n+mask<f->i<=mask->aC owner (ja mask owner f i p)
 |0,f,i,p,hp,hf,hi=>by
   obtain rfl:p=0:=by simpa using hp
   obtain⟨k,hk,e⟩:=hF i hi j hm;exact MN hj k f i (by omega) e
 |n+1,f+1,i,p,hp,hf,hi=>by
   refine nL (dG hF hj hm n f _ _ ?_ (by omega) ?_)
   ·show p / 32<32 ^ n;rw[Jp]at hp;omega
   ·show (i*5+1+p / 32) % (mask+1)<=mask;have:=yw (i*5+1+p / 32) (show 0<mask+1 by omega);omega
structure fB(mask:Nat)(k:Nat)(owner:Array (Option Nat)):Prop where
 sz:owner.size=mask+1
 pm:(owner.toList.filterMap id).Perm (zK k)
theorem RI:∀ {l:List (Option α)} {j:Nat},l[j]? =some none->((l.set j (some x)).filterMap id).Perm (x::l.filterMap id)
 |[],_,h=>by simp at h
 |a::l,0,h=>by
   have:a=none:=by simpa using h
   subst this;simp
 |a::l,j+1,h=>by
   have ih:=RI (x:=x) (l:=l) (j:=j) (by simpa using h);rw[jZ];rcases a with _|a
   ·simpa using ih
   ·show (a::Xx id (l.set j (some x))).Perm (x::a::Xx id l);exact(List.Perm.cons a ih).trans (List.Perm.swap ..)
theorem OG:∀ {l:List (Option Nat)},(l.filterMap id).length<l.length->∃j,j<l.length/\l[j]? =some none
 |[],h=>by simp at h
 |none::l,h=>⟨0,by simp,rfl⟩
 |some a::l,h=>by obtain⟨j,h1,h2⟩:=OG (l:=l) (by simpa using h);exact⟨j+1,by simpa using h1,by simpa using h2⟩
theorem QG(h:Int):zQ h<32 ^ 13:=by
 unfold zQ;have h1:=yN h (show (0:Int)<2 ^ 64 by decide);have h2:=jQ h (show (2 ^ 64:Int)≠0 by decide);have:(32:Nat) ^ 13=36893488147419103232:=by decide
 omega
theorem fB.step{owner:Array (Option Nat)}(hF:B4 mask)(I:fB mask k owner)(hk:k<=mask)(h:Int):∃j,ja mask owner (jL mask) (zQ h % (mask+1)) (zQ h)=some j/\fB mask (k+1) (owner.setIfInBounds j (some k)):=by
 have hl:(owner.toList.filterMap id).length=k:=by rw[I.pm.length_eq,jv]
 obtain⟨j0,hj0,e0⟩:=OG (l:=owner.toList) (by rw[hl,zC,I.sz];omega);rw[zB]at e0;have hm:j0<=mask:=by rw[zC,I.sz]at hj0;omega
 have hi:zQ h % (mask+1)<=mask:=by have:=yw (zQ h) (show 0<mask+1 by omega);omega
 obtain⟨j,e,ho⟩:=dG hF e0 hm 13 (jL mask) _ _ (QG h) (by unfold jL;omega) hi;refine⟨j,e,by simp[I.sz],?_⟩;rw[Array.toList_setIfInBounds];refine(RI (by rw[zB];exact ho)).trans ?_;rw[Xg];exact(List.Perm.cons k I.pm).trans (Xw ..).symm
theorem HV{owner:Array (Option Nat)}(hs:owner.size=mask+1):(((zK (mask+1)).filterMap λj=>(owner.getD j none).map (j, ·)).map (·.2))=owner.toList.filterMap id:=by
 rw[List.map_filterMap];have:owner.toList= (zK (mask+1)).map λj=>owner.getD j none:=by
  apply xi
  ·simp[hs]
  · intro i h1 h2;have h3:i<owner.size:=by simpa using h1
    simp[jp,h3]
 rw[this,Zc];congr 1;funext j;simp[Option.map_map,Jq]
theorem Mj{es:Array (Int×zi)}{order:Array Nat}(h:order.toList.Perm (zK es.size)):(order.filterMap (es[·]?)).toList.Perm es.toList:=by
 rw[Jb];refine(h.filterMap _).trans ?_;have:(zK es.size).filterMap (es[·]?)=es.toList:=by
  have e:∀l:List (Int×zi),(zK l.length).filterMap (l[·]?)=l:=by
   intro l
   induction l with
   |nil=>rfl
   |cons a r ih=>
     rw[zq,ZI];show a::Xx _ (ZZ _ _)=_;rw[Zc];congr 1
  have:=e es.toList;simpa using this
 rw[this]
section
variable{prog:zM}{w:zT}{A:jd}{E:VSP}{s:zm}{a:Addr}
def qN(w:zT)(h:Heap)(a:Addr)(n:Nat):Prop:=∃ep t,h.get? a=some (sO #[] ep t)/\B4 t.mask/\n<=t.mask/\t.fill=0/\t.place= #[]/\t.led= (!byT w)
theorem qN.ts(h:qN w s.heap a n):TSet prog w s.heap a []:=by obtain⟨ep,t,ho,_,_,hf,hp,hl⟩:=h;exact⟨_, #[],ep,t,ho,⟨rfl,rfl,rfl⟩,rfl,(λ_ h=>by simp at h),.nil,by decide,by unfold ZU;rw[hf,hp];rfl,hl,λh=>by simp at h⟩
end
section
end
section
end
section
theorem TSet.obj(hS:TSet prog w h a ss):∃es ep t,h.get? a=some (sO es ep t)/\t.fits es.size=true:=by obtain⟨o,es,ep,t,ho,⟨x1,x2,x3⟩,hd,_,_,_,hf,_⟩:=hS;obtain⟨oc,od,odt,os⟩:=o;obtain rfl:oc= .type "set":=x1;obtain rfl:od=none:=x2;obtain rfl:os= #[]:=x3;obtain rfl:odt= .set es ep t:=hd;exact⟨es,ep,t,ho,hf⟩
end
inductive RA(w:zT):List DictEntry->List Str->Prop
 |nil:RA w [] []
 |cons {e:DictEntry} {x:Str} {tk:Tok} {es:List DictEntry} {xs:List Str}:e.key= .str x tk->e.hash=hashStr w x->RA w es xs->RA w (e::es) (x::xs)
theorem RA.len(h:RA w es xs):es.length=xs.length:=by
 induction h with
 |nil=>rfl
 |cons _ _ _ ih=>simp[ih]
theorem RA.at(h:RA w es xs):∀ {i:Nat} {e:DictEntry},es[i]? =some e->∃x tk,xs[i]? =some x/\e.key= .str x tk/\e.hash=hashStr w x:=by
 induction h with
 |nil=>intro i e h;simp at h
 |cons h1 h2 _ ih=>
   intro i e h;rcases i with _|i
   ·simp at h;subst h;exact⟨_,_,rfl,h1,h2⟩
   ·simpa using ih (by simpa using h)
section
end
section
end
section
end
end DL
namespace W
open PySem PySem.Spec L2 DL
open PyProof.Rows hiding St
end W
namespace DL
open PySem PySem.Spec L2
open PyProof.Rows hiding St
structure Ev where
 P:zM
 w:zT
 K:zg
 mg:Str->Option zi
 base:Heap
structure EvX(E:Ev):Prop where
 ex:∃h:Heap,E.K.In h/\h.Ns jr E.mg
abbrev Ck(E:Ev)(F:List D->M D)(n:Nat)(x:Str)(k:Nat):Prop:=kA F n x E.P E.w E.K E.mg E.base k
def BA(x:Str)(st:Stmt)(ps:List Str):Prop:=∀(kV doc pm:zi) (an:Option Addr) (Nz ct:zi) (us:List zi),us.length=ps.length->bindArgs (yg x x (P8 st) (S8 st) (v5 st) .none kV doc pm an Nz ct) ⟨us, []⟩=pure (ps.zip us)
section
variable{E:Ev}{x:Str}{st:Stmt}{k n m:Nat}{fb:Fs}
theorem Q9(N ps:List Str)(X:EvX E)(Y:FH E.K x st)(S:U3 N ps (v5 st))(b:BA x st ps)(hn:ps.length=n)(hm:N.length=m)
 (hb:U3 N ps (v5 st)->∀f Nz A outer s H Z,Q7 k (A.deeper (ZM x (v5 st) s.heap.objs.size f Nz))->DB (g7 CX0 E.P E.w E.K E.mg E.base N x (v5 st) f Nz A outer s H Z).nox ZF (S8 st) fb):Ck E (v4 m fb) n x (k+1):=by
 obtain⟨h,X,G⟩:=X.ex;obtain⟨f,fd,c⟩:=Y.ff X G b;exact kA.of c (WK c S hn hm (hb S f))
theorem kD(ps:List Str)(X:EvX E)(Y:FH E.K x st)(b:BA x st ps)(hn:ps.length=n):Ck E (λ_=>M.stuck) n x k:=by obtain⟨h,X,G⟩:=X.ex;obtain⟨f,fd,c⟩:=Y.ff X G b;exact kA.of c (bY hn)
end
def FHs(K:zg)(top:Nat->Stmt):List Str->List Nat->Prop
 |x::r,i::s=>FH K x (top i)/\FHs K top r s
 |_,_=>True
section
variable{K:zg}{top:Nat->Stmt}{x:Str}{i:Nat}{r:List Str}{s:List Nat}{mg:Str->Option zi}{d:D}{u:zi}{h:Heap}
theorem FHs.c(h:FH K x (top i))(t:FHs K top r s):FHs K top (x::r) (i::s):=⟨h,t⟩
structure CC(K:zg)(mg:Str->Option zi)(x:Str)(d:D):Prop where
 ex:∃u,xL K jr x=some (some u)/\CR K mg d u
theorem CC.of(g:xL K jr x=some (some u))(r:CR K mg d u):CC K mg x d:=⟨u,g,r⟩
theorem CC.ok(c:CC K mg x d)(X:K.In h)(G:h.Ns jr mg):CD K mg x d:=by obtain⟨u,g,r⟩:=c.ex;exact⟨u,ZY X G g,r⟩
theorem NP{fa:Addr}{P:zM}{w:zT}{N:List Str}{k m:Nat}{fb:Fs}(X:K.In h)(G:h.Ns jr mg)(hfa:mg "law" =some (.ref fa))(Y:FH K "law" (top i))(b:BA "law" (top i) ["script"])(S:U3 N ["script"] (v5 (top i)))(hm:N.length=m)
 (hs:∀kV dc pm an cd ct (s:zm) (v:zi),Yb s (yg "law" "law" (P8 (top i)) (S8 (top i)) (v5 (top i)) .none kV dc pm an cd ct) ⟨[v], []⟩ [("script",v)])
 (hb:∀base,U3 N ["script"] (v5 (top i))->∀Nz A outer s H Z,Q7 k (A.deeper (ZM "law" (v5 (top i)) s.heap.objs.size fa Nz))->DB (g7 CX0 P w K mg base N "law" (v5 (top i)) fa Nz A outer s H Z).nox ZF (S8 (top i)) fb)
 (pure:∀ns:List Int,ns.length<=63->∃G',v4 m fb [.ref 0] [.rol (ns.map D.int)]=some (.ok (.bl true),G')):
 ∃fd:xc,(∀(s:zm) (v:zi),Yb s fd ⟨[v], []⟩ [("script",v)])/\∀base:Heap,K.In base->base.Ns jr mg->U1 P w K mg base CX0 (k+1) fa fd ["script"] (dF K):=by
 obtain⟨f,od,an,sl,oc,kV,dc,pm,cd,ct,a,l,e,kp⟩:=Y;have q:=hfa.symm.trans (ZY X G a)
 cases q
 exact⟨_,hs kV dc pm an cd ct,λbase _ _=>TW (WK ⟨NE l e kp,(NE l e kp).binds b,ZY X G a⟩ S rfl hm (hb base S)) pure⟩
theorem walk63{l:PySem.W.OpenLaw}{q:zM}{loose:List Str}{XP:(Str->Option zi)->Heap->Prop}{YP:zT->Heap->Prop}{d:DefRec}{K:Params->zg}(k:Nat)(hn:l.most=some 63)(hdf:d.params.defaults= [])(hr:Q7 k YA)
 (hY:∀(w:zT) (h:Heap),YP w h->(K w.params).In h)
 (F:∀(w:zT) (mg:Str->Option zi) (fa:Addr) (h:Heap),(K w.params).In h->h.Ns jr mg->mg d.name=some (.ref fa)->
   ∃fd:xc,(∀(s:zm) (u:zi),Yb s fd ⟨[u], []⟩ [("script",u)])/\∀base:Heap,(K w.params).In base->base.Ns jr mg->U1 l.prog w (K w.params) mg base CX0 k fa fd ["script"] (dF (K w.params))):
 PySem.W.WalkO q loose XP YP l.row.toRowW d [] (λf vs=>JC f vs):=
 L2.walk_of hn (by decide) hdf hr hY F (λ_ _ a ns hl hO hS=>⟨a,ns,rfl,hS,hO,hl,λ_=>rfl⟩) λ_ _ _ _ _ z=>z
end
section
variable{prog:zM}{w:zT}{A:jd}{E:VSP}{s:zm}
end
section
end
section
end
section
variable{X:Cx}{Z:XC}{ea:Expr}{fa:Fe}{p q1 ap pos:Pos}
end
section
variable{prog:zM}{w:zT}{A:jd}{E:VSP}{s:zm}
theorem PV{vs:List zi}(hl:qs.length=vs.length)(Pp:vs.length<64)(ho:s.heap.get? a=some (jz "list" vs.toArray n))(hp:∀(i:Nat) q,qs[i]? =some q->∃u,vs[i]? =some u/\IA s.heap u q)
 (h:∀(h':Heap) e,(∀b o,b≠a->s.heap.get? b=some o->h'.get? b=some o)->h'.get? a=some (jz "list" (jF ((W6 qs vs.length).map λi=>vs.getD i .none)) e)->P (.done (.ret .none)) {s with heap:=h'}):
 zw (zF prog w) A (yz.«list.sort» ⟨[.ref a], []⟩) P E s:=by
 have ha:a<s.heap.objs.size:=zv ho;obtain⟨e1,ho1⟩:∃e1,(s.heap.update a (ju λ_=>(#[]:Array zi))).get? a=some (jz "list" #[] e1):=⟨_,Yi ho λ_=> #[]⟩;have k1:∀b o,b≠a->s.heap.get? b=some o->(s.heap.update a (ju λ_=>(#[]:Array zi))).get? b=some o:=λb o hb e=>by rw[xS _ _ _ _ hb];exact e
 rw[list_sort_plain];refine za (listItems_at ho rfl (za (xU ho rfl ?_ (by rw[zo,yT];lia) (zD _))));refine za (ZH ho1 rfl (za (Je ?_ (by show vs.length<=_;rw[yT];lia))));refine za (xr ?_ (zD _));refine jw ?_;have Pg:(((s.heap.update a (ju λ_=>(#[]:Array zi))).push (jz "tuple" vs.toArray 0)).push (jz "list" #[] 0)).get? a=some (jz "list" #[] e1):=ze _ (ze _ ho1);have k2:∀b o,b≠a->s.heap.get? b=some o->(((s.heap.update a (ju λ_=>(#[]:Array zi))).push (jz "tuple" vs.toArray 0)).push (jz "list" #[] 0)).get? b=some o:=λb o hb e=>ze _ (ze _ (k1 b o hb e));show zw (zF prog w) A _ P E {s with heap:=((s.heap.update a (ju λ_=>(#[]:Array zi))).push (jz "tuple" vs.toArray 0)).push (jz "list" #[] 0)};generalize ((s.heap.update a (ju λ_=>(#[]:Array zi))).push (jz "tuple" vs.toArray 0)).push (jz "list" #[] 0)=hh at Pg k2;dsimp only;have hp':∀(i:Nat) q,qs[i]? =some q->∃u,vs[i]? =some u/\IA hh u q:=λi x e=>by
  obtain⟨u,e1,b,t,t',rfl,o,hb,hc,n',hd⟩:=hp i x e;refine⟨_,e1,b,t,t',rfl,o,k2 b _ (λz=>?_) hb,hc,n',hd⟩;rw[z,ho]at hb
  cases hb
  simp[jz]at hc
 have fin:∃e,(hh.update a (ju λ_=>jF ((W6 qs vs.length).map λi=>vs.getD i .none))).get? a=some (jz "list" (jF ((W6 qs vs.length).map λi=>vs.getD i .none)) e)/\P (.done (.ret .none)) {s with heap:=hh.update a (ju λ_=>jF ((W6 qs vs.length).map λi=>vs.getD i .none))}:=by obtain⟨e,he⟩:∃e,(hh.update a (ju λ_=>jF ((W6 qs vs.length).map λi=>vs.getD i .none))).get? a=some (jz "list" (jF ((W6 qs vs.length).map λi=>vs.getD i .none)) e):=⟨_,Yi Pg λ_=>_⟩;exact⟨e,he,h _ e (λb o hb q=>by rw[xS _ _ _ _ hb];exact k2 b o hb q) he⟩
 have pm:=(QH qs vs.length).1;have tail:(jF ((W6 qs vs.length).map λi=>vs.getD i Value.none)).size<=zk+1:=by rw[zo,zc,pm.length_eq,jv,yT];lia
 by_cases h2:vs.toArray.size<2
 · rw[if_pos h2,if_pos h2];refine za (zj ?_);rw[JY];refine za (zj ?_);dsimp only;have hn:vs.length<2:=by simpa using h2
   have hv:(jY (SortSt.mk' general' (vs.toArray.zip vs.toArray) #[] 7 none)).map (·.2)=jF ((W6 qs vs.length).map λi=>vs.getD i Value.none):=by
    rw[W6,if_pos hn];show (vs.toArray.zip vs.toArray).map (·.2)=_;apply xE.mp;rw[Array.toList_map];apply xi
    ·simp
    ·intro i hi hj;simp at hi hj ⊢;simp[hj]
   rw[hv];refine za (ZH Pg rfl (za (xU Pg rfl ?_ (zD _) tail)));simp only[bne_self_eq_false,zy,if_false];exact zj (fin.elim λ_ h=>h.2)
 · rw[if_neg h2,if_neg h2];have hn2:2<=vs.length:=by simpa using h2
   have gq:∀i,i<vs.length->qs[i]? =some (qs.getD i (0,0)):=λi hi=>by rw[zA,zn (by lia)];rfl
   obtain⟨fs,T,hfs,hT⟩:∃fs:List zi,Zu hh vs fs/\0<fs.length/\∀v∈fs,∃n t,v= .int n t:=by
    have gen:∀(ku:List zi) (qs:List (Int×Int)),qs.length=ku.length->(∀(i:Nat) (q:Int×Int),qs[i]? =some q->∃u,ku[i]? =some u/\IA hh u q)->∃fs:List zi,Zu hh ku fs/\fs.length=ku.length/\∀v∈fs,∃n t,v= .int n t:=by
     intro ku
     induction ku with
     |nil=>exact λqs _ _=>⟨[],trivial,rfl,λv hv=>by cases hv⟩
     |cons u r ih=>
       intro qs hl hk;rcases qs with _|⟨q,qr⟩
       ·simp at hl
       ·
         obtain⟨u',e1,ad,t,t',rfl,o,ho,hc,n,hd⟩:=hk 0 q rfl;simp at e1;subst e1;obtain⟨fs,f1,f2,f3⟩:=ih qr (by simpa using hl) λi q hq=>by simpa using hk (i+1) q (by simpa using hq)
         refine⟨.int q.1 t::fs,YH ho hc hd rfl f1,by simp[f2],λv hv=>?_⟩;rcases zI.mp hv with rfl|hv
         ·exact⟨_,_,rfl⟩
         ·exact f3 v hv
    obtain⟨fs,f1,f2,f3⟩:=gen vs qs hl hp';exact⟨fs,f1,by lia,f3⟩
   refine za (JF (T:=.type "int") T hfs (λv hv=>?_) (by decide) ?_)
   ·obtain⟨n,t,rfl⟩:=hT v hv;exact YT rfl
   · have run:=tOk.wp (s:={s with heap:=hh}) (cmp:=xI prog w A (tuples' (Value.type "int" != Value.type "tuple")) vs) (λi j C hi hj hC=>by
      obtain⟨u,u1,u2⟩:=hp' i _ (gq i hi);obtain⟨v,v1,v2⟩:=hp' j _ (gq j hj);unfold xI;rw[zA,zA,u1,v1];exact BQ u2 v2 hC) _ (tOk.run _ (OJ (mJ qs) hn2))
     refine za (jG (JQ (Q:=λNm s'=>∃p:Array Nat,p.size=vs.length/\jY Nm=p.map (JG (vs.toArray.zip vs.toArray))/\Zr Nm=none/\s'= {s with heap:=hh}/\p=P9 (ltP qs) (xA vs.length)/\J5 p vs.length/\upW (ltP qs) p vs.length) rfl hn2 Pp (λp Nm s' a1 a2 a3 a4=>⟨p,a1,a2,a3,a4⟩) run) ?_ λ_ _ x=>x);rintro⟨⟨⟩,Nm⟩ s' ⟨p,hp,har,hf,rfl,rfl,P1,U⟩;dsimp only;have e9:W6 qs vs.length= (P9 (ltP qs) (xA vs.length)).toList:=by rw[W6,if_neg (by lia)]
     rw[JE rfl har,<-e9];refine za (ZH Pg rfl (za (xU Pg rfl ?_ (zD _) tail)));rw[hf];simp only[bne_self_eq_false,zy,if_false];exact zj (fin.elim λ_ h=>h.2)
theorem tR{n:Nat}{vs:List zi}(ho:s.heap.get? a=some o)(hc:o.cls= .type "list")(hd:o.data= .seq vs.toArray n)(hl:qs.length=vs.length)(Pp:vs.length<64)(hp:∀(i:Nat) q,qs[i]? =some q->∃u,vs[i]? =some u/\IA s.heap u q)
 (h:∀(h1 h':Heap) (tk e:Nat),(∀b o,s.heap.get? b=some o->h1.get? b=some o)->(∀b o,h1.get? b=some o->h'.get? b=some o)->h'.get? h1.objs.size=some (jz "list" (jF ((W6 qs vs.length).map λi=>vs.getD i .none)) e)->Q (.ref h1.objs.size) {s with heap:=h',toks:=tk}):
 zw (zF prog w) A (call (.builtin "sorted") [.ref a]) Q E s:=by
 have hz:vs.length<=zk:=zp (jT Pp) (by decide);refine yx Yy Yd Ye (Yf _) ?_;unfold yz.«sorted»;refine za (zj ?_);refine za (Xk a (.inl rfl) ho hc hd (λh1 hk=>?_) (by rw[zo];exact hz));refine za (xr ?_ hz);have hoL:(h1.push (jz "list" vs.toArray 0)).get? h1.objs.size=some (jz "list" vs.toArray 0):=zu _ rfl;refine za (jw (jC Zq ⟨_,hoL,rfl⟩ Ze (PV hl Pp hoL (λi q e=>?_) λh' e k1 k2=>⟨_,rfl,?_⟩) (Zs _)))
 ·obtain⟨u,e1,b,t,t',rfl,o',hb,hc,n',hd⟩:=hp i q e;exact⟨_,e1,b,t,t',rfl,o',ze _ (hk _ _ hb),hc,n',hd⟩
 ·exact zj ⟨_,rfl,h h1 h' s.toks e hk (λb o hb=>k1 b o (zL (zv hb)) (ze _ hb)) k2⟩
end
def kC(l:List D):M D:=if l.length<64 then (do
 let qs <-E1 (bA l)
 K8 (.lst (uC qs l)))else M.stuck
def KB:List D->M D:=λds=>match ds with
 |[.ref r]=>do
   match <-M4 r with
   | .lst l=>kC l
   |_=>M.stuck
 |_=>M.stuck
theorem mV:O3 X Z (.builtin "sorted") KB:=⟨by
 intro Nc s σ H xs us Q I r Ng;obtain⟨ds,μ,G,rl,hr,p⟩:=Ng;rcases ds with _|⟨_|_|_|_|l|i|_|_,_|⟨_,_⟩⟩<;>try exact p.elim
 delta KB at p;dsimp only at p;obtain⟨v,rfl,rv⟩:=P2 rl;obtain⟨u,rfl,ru⟩:=C3 r;have rv':=rv;unfold d8 at rv';obtain⟨a,m,rfl⟩:=rv'
 cases ru
 obtain⟨o,g,p1⟩:=w6 p;have ro:=hr.obj i o a g m;rcases o with l|l|l|l<;>try exact p1.elim
 obtain⟨vs,q,Nx⟩:=ro;obtain⟨Nf,rv,pl,hz⟩:=I.list (SqL.of q);obtain⟨o,h1,h2,n,h3⟩:=pl.isList;dsimp only at p1;unfold kC at p1;split at p1
 case isFalse=>exact p1.elim
 rename_i Pp;obtain⟨qs,eq,p2⟩:=U5 p1;obtain⟨hl,hk⟩:=WI I eq Nx rv;have hlv:l.length=Nf.length:=by rw[Nx.length,rv.length]
 obtain⟨ws,w1,w2,w3⟩:=gZ Nx rv;refine tR h1 h2 h3 hl (by lia) hk λh1 h' tk e k1 k2 he=>?_;have I1:Inv X Nc σ H {s with heap:=h1,toks:=tk}:=I.kept k1;have hf:=I1.hok.fresh (zf _);have Nh:ws.length<=zk:=zp (show ws.length<=64 by lia) (by decide);exact⟨.ref h1.objs.size,upd H h1.objs.size (.lst ws),I1.laid k2 (zf _) ⟨Nh,_,e,w1,he⟩,rfl,Q8 hr w2 p2 _ hf⟩⟩
theorem lU(h:X.calm=true):BD KB "sorted" X Z:=⟨.inl ⟨_,mV,mF⟩⟩
section
variable{X:Cx}{Nc:PNS}{σ:St}{H:Hp}{s:zm}
end
end DL
namespace DL
open PySem PySem.Spec L2
open PyProof.Rows hiding St
open SetTable (Probe)
def Q2(m:Nat)(p:Probe):Probe:=if p.more>0 then {p with j:=p.j+1,more:=p.more-1}else {p with j:=(zZ m p.i p.perturb).1,more:=jk m (zZ m p.i p.perturb).1-(zZ m p.i p.perturb).1,i:=(zZ m p.i p.perturb).1,perturb:=(zZ m p.i p.perturb).2}
theorem SM(t:SetTable)(p:Probe):t.advance p=Q2 t.mask p:=rfl
def rs(m i pt:Nat):Probe:={j:=i,more:=jk m i-i,i,perturb:=pt,dummy:=none}
theorem n9(h:p.more=n+1):Q2 m p= {p with j:=p.j+1,more:=n}:=by unfold Q2;rw[if_pos (by lia),h];rfl
theorem qI(h:p.more=0):Q2 m p= {p with j:=(zZ m p.i p.perturb).1,more:=jk m (zZ m p.i p.perturb).1-(zZ m p.i p.perturb).1,i:=(zZ m p.i p.perturb).1,perturb:=(zZ m p.i p.perturb).2}:=by unfold Q2;rw[if_neg (by lia)]
inductive Rch(lv:Nat->Prop)(m:Nat):Probe->Nat->Prop
 |here {p:Probe}:Rch lv m p p.j
 |step {p:Probe} {j:Nat} (h:lv p.j) (k:Rch lv m (Q2 m p) j):Rch lv m p j
theorem Rch.mono(h:Rch lv m p j)(k:∀i,lv i->lv' i):Rch lv' m p j:=by
 induction h with
 |here=>exact .here
 |step h _ ih=>exact .step (k _ h) ih
def Wk(lv:Nat->Prop)(m:Nat):Nat->Probe->Prop
 |0,p=>¬lv p.j
 |n+1,p=>lv p.j/\Wk lv m n (Q2 m p)
section
variable{lv:Nat->Prop}{m:Nat}
theorem tN:∀s p,p.more=s->(∃n≤s,Wk lv m n p)\/∀N,Wk lv m N (Q2 m {p with j:=p.j+s,more:=0})->Wk lv m (N+s+1) p
 |0,p,h=>by
   by_cases k:lv p.j
   · refine .inr λN w=>⟨k,?_⟩;have e:({p with j:=p.j+0,more:=0}:Probe)=p:=by
      obtain⟨a,b,c,d,f⟩:=p;have h:b=0:=h;rw[h];rfl
     rw[e]at w;exact w
   ·exact .inl ⟨0,zf _,k⟩
 |s+1,p,h=>by
   by_cases k:lv p.j
   · have e:=n9 (m:=m) h;rcases tN s (Q2 m p) (by rw[e]) with⟨n,hn,w⟩|w
     ·exact .inl ⟨n+1,by lia,k,w⟩
     · refine .inr λN w'=>⟨k,w N ?_⟩;rw[e];have e2:p.j+1+s=p.j+(s+1):=by lia
       show Wk lv m N (Q2 m {p with j:=p.j+1+s,more:=0});rw[e2];exact w'
   ·exact .inl ⟨0,zD _,k⟩
theorem Gb(m i:Nat):jk m i-i<=9:=by unfold jk;split<;>lia
theorem OO(h:∃n<N,Wk lv m n (rs m (zZ m i pt).1 (zZ m i pt).2)):∃n<N+10,Wk lv m n (rs m i pt):=by
 obtain⟨n,hn,w⟩:=h;have:=Gb m i;rcases tN _ (rs m i pt) rfl with⟨k,hk,w'⟩|w'
 ·have hk:k<=jk m i-i:=hk;exact⟨k,by lia,w'⟩
 ·have w2:=w' n (by rw[qI rfl];exact w);exact⟨_,by show n+(jk m i-i)+1<_;lia,w2⟩
theorem VM(hj:¬lv j):∀k i,itr m k i=j->∃n<10*(k+1),Wk lv m n (rs m i 0)
 |0,i,e=>⟨0,by lia,by
   have e:i=j:=e;show ¬lv i;rw[e];exact hj⟩
 |k+1,i,e=>by
   have e1:(zZ m i 0).1=lcg m i:=by show (i*5+1+0 / 32) % (m+1)=_;simp[lcg]
   have e2:(zZ m i 0).2=0:=by show 0 / 32=0;rfl
   obtain⟨n,hn,w⟩:=OO (by rw[e1,e2];exact VM hj k _ e);exact⟨n,by lia,w⟩
theorem NO(hF:B4 m)(hj:¬lv j)(hm:j<=m):∀n i p,p<32 ^ n->i<=m->∃k<10*(n+m+1),Wk lv m k (rs m i p)
 |0,i,p,hp,hi=>by
   obtain rfl:p=0:=by simpa using hp
   obtain⟨k,hk,e⟩:=hF i hi j hm;obtain⟨n,hn,w⟩:=VM hj k i e;exact⟨n,by lia,w⟩
 |n+1,i,p,hp,hi=>by
   obtain⟨k,hk,w⟩:=OO (NO hF hj hm n (zZ m i p).1 (zZ m i p).2 (by
    show p / 32<32 ^ n;rw[Jp]at hp;lia) (by
    show (i*5+1+p / 32) % (m+1)<=m;have:=yw (i*5+1+p / 32) (show 0<m+1 by lia);lia))
   exact⟨k,by lia,w⟩
theorem Mw(hF:B4 m)(hj:¬lv j)(hm:j<=m)(h:Int):∃n<10*jL m,Wk lv m n (rs m (zQ h % (m+1)) (zQ h)):=by obtain⟨n,hn,w⟩:=NO hF hj hm 13 (zQ h % (m+1)) (zQ h) (QG h) (by have:=yw (zQ h) (show 0<m+1 by lia);lia);exact⟨n,by unfold jL;lia,w⟩
end
abbrev lvT(t:SetTable)(j:Nat):Prop:=∃i,t.slot j= .live i
section
variable{t:SetTable}{ha:Nat->Int}{h:Int}
theorem nT(e:t.slot p.j= .empty)(k:Rch (lvT t) t.mask p j):j=p.j:=by
 cases k with
 |here=>rfl
 |step h _=>
   obtain⟨i,h⟩:=h;rw[e]at h;cases h
theorem iK(nd:∀j,t.slot j≠ .dummy):∀n fuel p,Wk (lvT t) t.mask n p->n<fuel->
 (∃j,xh t ha h fuel p=some (.empty j p.dummy)/\t.slot j= .empty/\Rch (lvT t) t.mask p j/\∀j' i,Rch (lvT t) t.mask p j'->t.slot j'= .live i->ha i≠h)\/
 (∃j i nx n',xh t ha h fuel p=some (.candidate j i nx)/\t.slot j= .live i/\ha i=h/\Rch (lvT t) t.mask p j/\n'<n/\Wk (lvT t) t.mask n' nx/\nx.dummy=p.dummy/\(∀j' i',Rch (lvT t) t.mask p j'->t.slot j'= .live i'->ha i'=h->j'=j\/Rch (lvT t) t.mask nx j')/\∀j',Rch (lvT t) t.mask nx j'->Rch (lvT t) t.mask p j')
 |n,fuel+1,p,w,hf=>by
   have dm:(Q2 t.mask p).dummy=p.dummy:=by unfold Q2;split<;>rfl
   unfold xh;rcases es:t.slot p.j with _|_|i
   ·refine .inl ⟨p.j,rfl,es,.here,λj' i r e=>?_⟩;rw[nT es r,es]at e;cases e
   ·exact absurd es (nd _)
   · rcases n with _|n
     ·exact absurd ⟨i,es⟩ w
     · obtain⟨_,w⟩:=w;have back:∀j',Rch (lvT t) t.mask (Q2 t.mask p) j'->Rch (lvT t) t.mask p j':=λj' r=>.step ⟨i,es⟩ r;by_cases c:ha i=h
       · refine .inr ⟨p.j,i,Q2 t.mask p,n,by simp[c,SM],es,c,.here,by lia,w,dm,λj' i' r _ _=>?_,back⟩
         cases r with
         |here=>exact .inl rfl
         |step _ r=>exact .inr r
       · have ce:(if ha i==h then some (SetTable.Met.candidate p.j i (t.advance p))else xh t ha h fuel (t.advance p))=xh t ha h fuel (Q2 t.mask p):=by rw[if_neg (by simpa using c),SM]
         rcases iK nd n fuel (Q2 t.mask p) w (by lia) with⟨j,e,e1,r,no⟩|⟨j,i2,nx,n',e,e1,e2,rj,hn,w2,d2,al,bk⟩
         · refine .inl ⟨j,by dsimp only;rw[ce,e,dm],e1,back _ r,λj' i' r' e'=>?_⟩
           cases r' with
           |here=>rw[es]at e';cases e';exact c
           |step _ r'=>exact no _ _ r' e'
         · refine .inr ⟨j,i2,nx,n',by dsimp only;rw[ce,e],e1,e2,back _ rj,by lia,w2,by rw[d2,dm],λj' i' r' e' c'=>?_,λj' r'=>back _ (bk _ r')⟩
           cases r' with
           |here=>rw[es]at e';cases e';exact absurd c' c
           |step _ r'=>exact al _ _ r' e' c'
end
section
variable{xs:Array Nat}{j:Nat}
def Up(xs:Array Nat):Prop:=∀i k a b:Nat,xs[i]? =some a->xs[k]? =some b->i<k->a<b
theorem LG(up:Up xs):∀fuel lo hi,hi-lo<=fuel->lo<=hi->hi<=xs.size->(∀i v,i<lo->xs[i]? =some v->v<j)->(∀i v,hi<=i->xs[i]? =some v->j<=v)->
 yF xs j fuel lo hi<=xs.size/\(∀i v,i<yF xs j fuel lo hi->xs[i]? =some v->v<j)/\∀i v,yF xs j fuel lo hi<=i->xs[i]? =some v->j<=v
 |0,lo,hi,hf,hl,hs,h1,h2=>by
   unfold yF;obtain rfl:lo=hi:=by lia
   exact⟨hs,h1,h2⟩
 |fuel+1,lo,hi,hf,hl,hs,h1,h2=>by
   unfold yF;by_cases c:lo<hi
   · rw[if_pos c];have hm:(lo+hi) / 2<xs.size:=by lia
     have em:xs[(lo+hi) / 2]? =some xs[(lo+hi) / 2]:=zJ hm;have eg:xs.getD ((lo+hi) / 2) j=xs[(lo+hi) / 2]:=by rw[jp,em];rfl
     dsimp only;rw[eg];by_cases d:xs[(lo+hi) / 2]<j
     · rw[if_pos d];refine LG up fuel _ _ (by lia) (by lia) hs (λi v hi' e=>?_) h2;rcases Zg (Nat.lt_succ_iff.mp hi')with k|k
       ·have:=up i _ v _ e em k;lia
       ·subst k;rw[em]at e;cases e;exact d
     · rw[if_neg d];refine LG up fuel _ _ (by lia) (by lia) (by lia) h1 (λi v hi' e=>?_);rcases Zg hi' with k|k
       ·have:=up _ i _ v em e k;lia
       ·subst k;rw[em]at e;cases e;lia
   · rw[if_neg c];obtain rfl:lo=hi:=by lia
     exact⟨hs,h1,h2⟩
theorem VN(up:Up xs):zU xs j<=xs.size/\(∀i v,i<zU xs j->xs[i]? =some v->v<j)/\∀i v,zU xs j<=i->xs[i]? =some v->j<=v:=
 LG up xs.size 0 xs.size (by lia) (zD _) (zf _) (λ_ _ h=>absurd h (Nat.not_lt_zero _)) λi v h e=>by rw[Array.getElem?_eq_none h]at e;cases e
theorem vp(up:Up xs)(e:xs[i]? =some j):zU xs j=i:=by
 obtain⟨h0,h1,h2⟩:=VN up;have hi:i<xs.size:=(jS.mp e).1;rcases Nat.lt_trichotomy (zU xs j) i with k|k|k
 ·have eb:xs[zU xs j]? =some xs[zU xs j]:=zJ (by lia);have:=up _ _ _ _ eb e k;have:=h2 _ _ (zf _) eb;lia
 ·exact k
 ·have:=h1 _ _ k e;lia
end
section
variable{t:SetTable}{j:Nat}
theorem X6(up:Up t.place)(dm:t.dummies= #[]):t.slot j= .live i↔t.place[i]? =some j:=by
 unfold SetTable.slot;dsimp only;constructor
 · intro h;split at h
   · rename_i c
     cases h
     simpa using c
   ·rw[dm]at h;split at h<;>cases h
 ·intro e;have:=vp up e;rw[this,if_pos (by simp[e])]
theorem kM(j:Nat):¬Xp #[] j=true:=by unfold Xp;simp
theorem vf(dm:t.dummies= #[]):t.slot j= .empty\/∃i,t.slot j= .live i:=by
 unfold SetTable.slot;dsimp only;split
 ·exact .inr ⟨_,rfl⟩
 ·rw[dm,if_neg (kM j)];exact .inl rfl
theorem LW(dm:t.dummies= #[]):t.slot j≠ .dummy:=λh=>by rcases vf dm with e|⟨i,e⟩<;>rw[h]at e<;>cases e
end
theorem Z1(xs:Array α)(p:Nat)(x:α):(jx xs p x).toList=xs.toList.take p++x::xs.toList.drop p:=by unfold jx;simp[List.extract_eq_drop_take];rw[xv (by simp)]
structure Tb(t:SetTable)(es:Array (Int×zi)):Prop where
 dm:t.dummies= #[]
 up:Up t.place
 sz:t.place.size=es.size
 le:∀j∈t.place.toList,j<=t.mask
 fu:B4 t.mask
 rch:∀q∈es.toList.zip t.place.toList,Rch (lvT t) t.mask (t.probeStart q.1.1) q.2
theorem MG:Up xs↔xs.toList.Pairwise (· < ·):=by
 rw[xk];constructor
 ·intro h i k hi hk c;exact h i k _ _ (zJ (by simpa using hi)) (zJ (by simpa using hk)) c
 ·intro h i k a b ea eb c;obtain⟨hi,rfl⟩:=jS.mp ea;obtain⟨hk,rfl⟩:=jS.mp eb;exact h i k (by simpa using hi) (by simpa using hk) c
theorem Tb.put(T:Tb t es)(hj:t.slot j= .empty)(hm:j<=t.mask)(r:Rch (lvT t) t.mask (t.probeStart h) j):
 Tb (t.put j).1 (jx es (t.put j).2 (h,x))/\(jx es (t.put j).2 (h,x)).toList.Perm ((h,x)::es.toList)/\(t.put j).1.mask=t.mask/\(t.put j).1.led=t.led/\(t.put j).1.plain=t.plain/\(t.put j).1.moves=t.moves:=by
 obtain⟨b0,b1,b2⟩:=VN (j:=j) T.up;have e2:(t.put j).2=zU t.place j:=rfl;have ep:(t.put j).1.place=jx t.place (zU t.place j) j:=rfl;have ed:(t.put j).1.dummies= #[]:=by show (if Xp t.dummies j then _ else t.dummies)=_;rw[T.dm,if_neg (kM j)]
 have nin:∀i:Nat,t.place[i]? ≠some j:=λi e=>by rw[(X6 T.up T.dm).mpr e]at hj;cases hj
 have up':Up (t.put j).1.place:=by
  rw[MG,ep,Z1];have u:=MG.mp T.up;refine jH.mpr ⟨u.sublist (List.take_sublist ..),yK.mpr ⟨λa ha=>?_,u.sublist (List.drop_sublist ..)⟩,λa ha b hb=>?_⟩
  · obtain⟨i,hi,rfl⟩:=xf.mp ha;have e:t.place[zU t.place j+i]? =some ((t.place.toList.drop (zU t.place j))[i]):=by
     rw[<-zB,<-Yv,zn hi]
    have h1:=b2 _ _ (by lia) e;have h2:((t.place.toList.drop (zU t.place j))[i])≠j:=λz=>nin _ (by rw[e,z]);lia
  · obtain⟨i,hi,rfl⟩:=xf.mp ha;have hi':i<zU t.place j:=by rw[jI]at hi;lia
    have e:t.place[i]? =some ((t.place.toList.take (zU t.place j))[i]):=by rw[<-zB,<-XV hi',zn hi]
    have h1:=b1 _ _ hi' e;rcases zI.mp hb with rfl|hb
    ·exact h1
    · obtain⟨k,hk,rfl⟩:=xf.mp hb;have e':t.place[zU t.place j+k]? =some ((t.place.toList.drop (zU t.place j))[k]):=by
       rw[<-zB,<-Yv,zn hk]
      have:=b2 _ _ (by lia) e';lia
 have mem':∀k,k∈(t.put j).1.place.toList↔k=j\/k∈t.place.toList:=λk=>by
  rw[ep,Z1,zO,zI];have:=xD (zU t.place j) t.place.toList;constructor
  · rintro(z|z|z)
    ·exact .inr (Jw z)
    ·exact .inl z
    ·exact .inr (List.mem_of_mem_drop z)
  · rintro(z|z)
    ·exact .inr (.inl z)
    ·rw[<-this]at z;exact(zO.mp z).elim .inl λz=>.inr (.inr z)
 have lvm:∀k,lvT t k->lvT (t.put j).1 k:=λk ⟨i,e⟩=>by have e:=(X6 T.up T.dm).mp e;have:k∈(t.put j).1.place.toList:=(mem' k).mpr (.inr (ji (by rw[zB];exact e)));obtain⟨i',e'⟩:=ZR.mp this;exact⟨i',(X6 up' ed).mpr (by rw[<-zB];exact e')⟩
 have perm:(jx es (t.put j).2 (h,x)).toList.Perm ((h,x)::es.toList):=by rw[Z1];refine List.perm_middle.trans ?_;rw[xD]
 refine⟨⟨ed,up',?_,λk hk=>?_,T.fu,λq hq=>?_⟩,perm,rfl,rfl,rfl,rfl⟩
 ·rw[<-zC,<-zC,perm.length_eq,ep,Z1,zd,zq,jI,xF,zq,zC,zC,T.sz];rw[T.sz]at b0;lia
 · rcases (mem' k).mp hk with rfl|hk
   ·exact hm
   ·exact T.le k hk
 · rw[Z1,ep,Z1,e2,List.zip_append (by rw[jI,jI,zC,zC,T.sz]),xo]at hq;have ez:=List.zip_append (l₁:=es.toList.take (zU t.place j)) (r₁:=es.toList.drop (zU t.place j)) (r₂:=t.place.toList.drop (zU t.place j)) (by rw[jI,jI,zC,zC,T.sz]);rw[xD,xD]at ez;rcases zO.mp hq with z|z
   ·exact(T.rch q (by rw[ez];exact yd _ z)).mono lvm
   · rcases zI.mp z with rfl|z
     ·exact r.mono lvm
     ·exact(T.rch q (by rw[ez];exact zP _ z)).mono lvm
abbrev lvO(owner:Array (Option Nat))(j:Nat):Prop:=∃k,owner[j]? =some (some k)
section
variable{lv:Nat->Prop}{m:Nat}
theorem NN:∀k p,k<=p.more->(∀i<k,lv (p.j+i))->Rch lv m p (p.j+k)
 |0,p,_,_=>.here
 |k+1,p,h,hl=>by
   obtain⟨n,e⟩:∃n,p.more=n+1:=⟨p.more-1,by lia⟩;refine .step (hl 0 (by lia)) ?_;have:=NN k (Q2 m p) (by rw[n9 e];show k<=n;lia) λi hi=>by rw[n9 e];show lv (p.j+1+i);rw[show p.j+1+i=p.j+(i+1) by lia];exact hl _ (by lia)
   rw[n9 e]at this ⊢;rw[show p.j+(k+1)=p.j+1+k by lia];exact this
theorem CL:∀s p j,p.more=s->(∀i≤s,lv (p.j+i))->Rch lv m (Q2 m {p with j:=p.j+s,more:=0}) j->Rch lv m p j
 |0,p,j,h,hl,r=>by
   refine .step (hl 0 (zf _)) ?_;have e:({p with j:=p.j+0,more:=0}:Probe)=p:=by obtain⟨a,b,c,d,f⟩:=p;have h:b=0:=h;rw[h];rfl
   rw[e]at r;exact r
 |s+1,p,j,h,hl,r=>by
   refine .step (hl 0 (by lia)) ?_;refine CL s (Q2 m p) j (by rw[n9 h]) (λi hi=>?_) ?_
   ·rw[n9 h];show lv (p.j+1+i);rw[show p.j+1+i=p.j+(i+1) by lia];exact hl _ (by lia)
   ·rw[n9 h];show Rch lv m (Q2 m {p with j:=p.j+1+s,more:=0}) j;rw[show p.j+1+s=p.j+(s+1) by lia];exact r
end
theorem VH(h:i<=m):i<=jk m i/\jk m i<=m:=by unfold jk;split<;>lia
theorem MM(hj:j<owner.size)(h:¬(owner.getD j (some 0)).isNone=true):lvO owner j:=by
 rw[jp,zJ hj]at h;rcases e:owner[j]with _|k
 ·rw[e]at h;exact absurd rfl h
 ·exact⟨k,by rw[zJ hj,e]⟩
theorem DM(hs:owner.size=m+1):∀f i p,i<=m->ja m owner f i p=some j->Rch (lvO owner) m (rs m i p) j
 |0,i,p,hi,h=>by unfold ja at h;cases h
 |f+1,i,p,hi,h=>by
   unfold ja at h;obtain⟨r1,r2⟩:=VH hi;split at h
   · rename_i k hk
     cases h
     obtain⟨_,hm,hb⟩:=List.find?_range_eq_some.mp hk;have hm:=js.mp hm;exact NN k (rs m i p) (by show k<=jk m i-i;lia) λx hx=>MM (by show i+x<_;lia) (by
      have:=hb x hx;show ¬(owner.getD (i+x) (some 0)).isNone=true;intro z;rw[z]at this
      cases this)
   ·rename_i hk;have hk:=List.find?_eq_none.mp hk;refine CL (jk m i-i) (rs m i p) j rfl (λx hx=>MM (by show i+x<_;lia) (show ¬(owner.getD (i+x) (some 0)).isNone=true from hk x (js.mpr (by lia)))) ?_;rw[qI rfl];refine DM hs f _ _ ?_ h;show (i*5+1+p / 32) % (m+1)<=m;have:=yw (i*5+1+p / 32) (show 0<m+1 by lia);lia
def OwR(m:Nat)(H:List Int)(k:Nat)(owner:Array (Option Nat)):Prop:=∀j k',owner[j]? =some (some k')->k'<k/\∃h,H[k']? =some h/\Rch (lvO owner) m (rs m (zQ h % (m+1)) (zQ h)) j
theorem FR{owner:Array (Option Nat)}(h:(owner.setIfInBounds j (some k))[i]? =some o):(i=j/\o=some k)\/owner[i]? =some o:=by
 rw[Xc]at h;split at h
 · rename_i e;split at h
   ·cases h;exact .inl ⟨e.symm,rfl⟩
   ·cases h
 ·exact .inr h
theorem OwR.step{owner:Array (Option Nat)}(hs:owner.size=m+1)(R:OwR m H k owner)(hh:H[k]? =some h)(hf:ja m owner (jL m) (zQ h % (m+1)) (zQ h)=some j)(hj:owner[j]? =some none):OwR m H (k+1) (owner.setIfInBounds j (some k)):=by
 have mono:∀i,lvO owner i->lvO (owner.setIfInBounds j (some k)) i:=λi ⟨x,e⟩=>⟨x,by
  rw[Xc,if_neg (λz=>by rw[z,e]at hj;cases hj)];exact e⟩
 intro i k' e;rcases FR e with⟨rfl,z⟩|z
 · cases z
   exact⟨by lia,h,hh,(DM hs _ _ _ (by have:=yw (zQ h) (show 0<m+1 by lia);lia) hf).mono mono⟩
 ·obtain⟨h1,x,h2,r⟩:=R i k' z;exact⟨by lia,x,h2,r.mono mono⟩
theorem UL(hF:B4 m)(H:List Int):∀hs k owner,fB m k owner->OwR m H k owner->H.drop k=hs->H.length<=m+1->k<=H.length->
 ∃owner',(hs.foldl (fun(Nq:Option (Array (Option Nat)×Nat)) h=>do
  let (owner,k) <-Nq
  let j <-ja m owner (jL m) (zQ h % (m+1)) (zQ h)
  pure (owner.setIfInBounds j (some k),k+1)) (some (owner,k)))=some (owner',H.length)/\fB m H.length owner'/\OwR m H H.length owner'
 |[],k,owner,I,R,e,hl,hk=>by
   have:k=H.length:=by have:=congrArg Zm e;rw[xF]at this;simp at this;lia
   subst this;exact⟨owner,rfl,I,R⟩
 |h::hs,k,owner,I,R,e,hl,hk=>by
   have hk2:k<H.length:=by have:=congrArg Zm e;rw[xF]at this;simp at this;lia
   have hh:H[k]? =some h:=by have:=congrArg (·[0]?) e;simpa using this
   obtain⟨j,ef,I2⟩:=I.step hF (by lia) h;have hi:zQ h % (m+1)<=m:=by have:=yw (zQ h) (show 0<m+1 by lia);lia
   have hj:owner[j]? =some none:=by
    have hl':(owner.toList.filterMap id).length=k:=by rw[I.pm.length_eq,jv]
    obtain⟨j0,hj0,e0⟩:=OG (by rw[hl',zC,I.sz];lia);rw[zB]at e0;have hm:j0<=m:=by rw[zC,I.sz]at hj0;lia
    obtain⟨j',e',ho⟩:=dG hF e0 hm 13 (jL m) _ _ (QG h) (by unfold jL;lia) hi;rw[ef]at e'
    cases e'
    exact ho
   obtain⟨o',e2,I3,R3⟩:=UL hF H hs (k+1) _ I2 (R.step I.sz hh ef hj) (by rw[<-List.drop_drop,e];rfl) hl (by lia);refine⟨o',?_,I3,R3⟩;rw[yP,<-e2];simp[ef]
theorem cP:∀l:List α,(∀x∈l,f x=some (g x))->l.filterMap f=l.map g
 |[],_=>rfl
 |x::r,h=>by rw[xT,h x (zt ..),zH,cP r λy hy=>h y (zl _ hy)]
theorem SW{led plain:Bool}(hF:B4 m)(es:Array (Int×zi))(hl:es.size<=m):∃t order,SetTable.laid m finger moves led plain (es.map (·.1))=some (t,order)/\Tb t (order.filterMap (es[·]?))/\(order.filterMap (es[·]?)).toList.Perm es.toList/\t.led=led/\t.plain=plain/\t.mask=m:=by
 have I0:fB m 0 (Array.replicate (m+1) none):=⟨by simp,by simp⟩;have R0:OwR m (es.map (·.1)).toList 0 (Array.replicate (m+1) none):=λj k' e=>by rw[Array.getElem?_replicate]at e;split at e<;>cases e
 have hz:(es.map (·.1)).toList.length=es.size:=by simp
 obtain⟨o,e,I,R⟩:=UL hF (es.map (·.1)).toList (es.map (·.1)).toList 0 _ I0 R0 rfl (by lia) (zD _);rw[hz]at I R;have el:Jj m (es.map (·.1))=some o:=by unfold Jj;rw[<-Array.foldl_toList,e];rfl
 have memL:∀q:Nat×Nat,q∈((zK (m+1)).filterMap λj=>(o.getD j none).map (j, ·))↔o[q.1]? =some (some q.2):=fun⟨j,k⟩=>by
  rw[Zb];constructor
  · rintro⟨x,hx,e⟩;rw[jp]at e;rcases eo:o[x]? with _|_|v
    ·rw[eo]at e;cases e
    ·rw[eo]at e;cases e
    · rw[eo]at e
      cases e
      exact eo
  ·intro e;have e:o[j]? =some (some k):=e;have hj:=(jS.mp e).1;exact⟨j,js.mpr (by rw[I.sz]at hj;exact hj),by rw[jp,e];rfl⟩
 have lo:=HV I.sz;have pwL:(((zK (m+1)).filterMap λj=>(o.getD j none).map (j, ·)).map (·.1)).Pairwise (· < ·):=by
  refine jN.mpr (List.pairwise_filterMap.mpr (List.pairwise_lt_range.imp λ{a b} h x hx y hy=>?_));rcases ea:o.getD a none with _|u
  ·rw[ea]at hx;cases hx
  · rcases eb:o.getD b none with _|v
    ·rw[eb]at hy;cases hy
    ·rw[ea]at hx;rw[eb]at hy;cases hx;cases hy;exact h
 have leL:∀j∈(((zK (m+1)).filterMap λj=>(o.getD j none).map (j, ·)).map (·.1)),j<=m:=λj hj=>by obtain⟨q,hq,rfl⟩:=zE.mp hj;have:=(jS.mp ((memL q).mp hq)).1;rw[I.sz]at this;lia
 generalize eL:((zK (m+1)).filterMap λj=>(o.getD j none).map (j, ·))=L at *;have op:(L.map (·.2)).Perm (zK es.size):=by rw[lo];exact I.pm
 have eE:((L.map (·.2)).toArray.filterMap (es[·]?)).toList=L.map λq=>es.getD q.2 (0,.none):=by rw[Jb,Zc];refine cP L λq hq=>?_;have Nk:q.2<es.size:=js.mp (op.mem_iff.mp (zE.mpr ⟨q,hq,rfl⟩));show es[q.2]? =_;rw[jp,zJ Nk];rfl
 refine⟨{mask:=m,place:=(L.map (·.1)).toArray,dummies:= #[],finger,led,moves,plain},(L.map (·.2)).toArray,by unfold SetTable.laid;rw[el];show some _=some _;rw[eL],?_,Mj op,rfl,rfl,rfl⟩;have up:Up (L.map (·.1)).toArray:=MG.mpr pwL;refine⟨rfl,up,?_,leL,hF,λq hq=>?_⟩
 ·rw[<-zC,<-zC,eE,zc,zc]
 · rw[eE]at hq;have hq:q∈(L.map λq=>es.getD q.2 (0,Value.none)).zip (L.map (·.1)):=hq;rw[XU]at hq;obtain⟨x,hx,rfl⟩:=zE.mp hq;obtain⟨hk,h,e1,r⟩:=R x.1 x.2 ((memL x).mp hx);have eh:(es.getD x.2 (0,Value.none)).1=h:=by
    rw[jp,zJ hk];rw[zB,Array.getElem?_map,zJ hk]at e1;exact jo e1
   show Rch _ m (rs m (zQ (es.getD x.2 (0,Value.none)).1 % (m+1)) (zQ (es.getD x.2 (0,Value.none)).1)) x.1;rw[eh];refine r.mono λi ⟨k,ek⟩=>?_;have:i∈L.map (·.1):=zE.mpr ⟨(i,k),(memL (i,k)).mpr ek,rfl⟩;obtain⟨n,en⟩:=ZR.mp this;exact⟨n,(X6 up rfl).mpr (by show (L.map (·.1)).toArray[n]? =some i;rw[ZS];exact en)⟩
section
variable{prog:zM}{w:zT}{A:jd}{E:VSP}{s:zm}{K:Type}[DecidableEq K]{knd:KeyKind prog w K}
theorem aQ(n:Nat)(h:Jh v=true):ZB n v=pure false:=by
 cases v with
 |ref a=>simp[Jh]at h
 |_=>first|rfl|(unfold ZB;rfl)
theorem FN(hk:jJ knd s.heap ks a)(h:Q false s):zw (zF prog w) A (ZB 8 (.ref a)) Q E s:=by
 have hT:=hk.typeIs;obtain⟨o,items,n,ho,_,hd,hi⟩:=hk;unfold ZB;refine za (Zi hT ?_);dsimp only;refine za (zj ?_);simp only[Yr,zy,if_false];refine za (wpAny_seqItems ho hd ?_);dsimp only;refine za ?_;show zw _ _ (forIn items _ _) _ _ s;rw[<-JJ];refine XA _ (λrest r s'=>r.1=none/\s'=s/\∀v∈rest,Jh v=true) _ ?_ ?_ _ _ ⟨rfl,rfl,hi.byValue⟩
 ·rintro v rest r s' ⟨hr,rfl,hall⟩;rw[aQ _ (hall v zt)];refine za (zj ?_);simp only[zy,if_false];exact zj ⟨rfl,rfl,λu hu'=>hall u (zl _ hu')⟩
 ·rintro⟨r1,r2⟩ s' ⟨hr,rfl,_⟩;simp only at hr;subst hr;exact zj h
def DF(knd:KeyKind prog w K)(h:Heap)(v:zi):Prop:=∃b ks,v= .ref b/\jJ knd h ks b
theorem vg{stored:List zi}(hk:jJ knd s.heap ks b)(hs:∀y∈stored,DF knd s.heap y)(h:Q false s):zw (zF prog w) A (searchCouldBeSeen (.ref b) stored) Q E s:=by
 unfold searchCouldBeSeen;refine za ?_;refine XA _ (λrest r s'=>r.1=none/\s'=s/\∀y∈rest,DF knd s.heap y) _ ?_ ?_ _ _ ⟨rfl,rfl,hs⟩
 · rintro v rest r s' ⟨hr,rfl,hall⟩;obtain⟨c,kc,rfl,hc⟩:=hall v zt;dsimp only;split
   ·exact zj ⟨rfl,rfl,λu hu=>hall u (zl _ hu)⟩
   ·refine za (wpAny_eqIsQuiet_tuple hk ?_);simp only[Yr,zy,if_false];refine za (wpAny_eqIsQuiet_tuple hc ?_);simp only[Yr,zy,if_false];refine za (FN hk ?_);simp only[zy,if_false];refine za (FN hc ?_);simp only[zy,if_false];exact zj ⟨rfl,rfl,λu hu=>hall u (zl _ hu)⟩
 ·rintro⟨r1,r2⟩ s' ⟨hr,rfl,_⟩;simp only at hr;subst hr;exact zj h
def elT(knd:KeyKind prog w K)(q:List K×Addr):Int×zi:=(jB knd q.1,.ref q.2)
structure TpS(knd:KeyKind prog w K)(h:Heap)(L:List (List K×Addr))(es:Array (Int×zi))(t:SetTable):Prop where
 tb:Tb t es
 pm:es.toList.Perm (L.map (elT knd))
 ks:∀q∈L,jJ knd h q.1 q.2
 sm:t.mask=7\/t.mask=31\/t.mask=127
 fl:es.size*5<t.mask*3
theorem TpS.at{i:Nat}(T:TpS knd h L es t)(he:es[i]? =some e):∃q∈L,e=elT knd q:=by have:e∈es.toList:=ji (by rw[zB];exact he);obtain⟨q,hq,rfl⟩:=zE.mp (T.pm.mem_iff.mp this);exact⟨q,hq,rfl⟩
theorem TpS.fits(T:TpS knd h L es t):t.fits es.size=true:=by unfold ZU Xd;rw[T.tb.sz,T.tb.dm];have:=T.fl;simp;lia
theorem TpS.way(T:TpS knd h L es t):t.gaveWay=false:=by unfold SetTable.gaveWay;rcases T.sm with e|e|e<;>rw[e]<;>rfl
def UG(t:SetTable)(L:List (List K×Addr))(es:Array (Int×zi))(knd:KeyKind prog w K)(ks:List K)(p:Probe):Prop:=∃i j q,q∈L/\q.1=ks/\es[i]? =some (elT knd q)/\t.slot j= .live i/\Rch (lvT t) t.mask p j
theorem aT{a b:Addr}{o:Obj}{ep:Nat}{ks:List K}(hu:A.units<yU)(ho:s.heap.get? a=some o)(hd:o.data= .set es ep t)(T:TpS knd s.heap L es t)(hb:jJ knd s.heap ks b):
 ∀(n fuel:Nat) (p:Probe) st,st.getD (t.probeStart (jB knd ks))=p->Wk (lvT t) t.mask n p->n<fuel->n<10*jL t.mask->p.dummy=none->
  (UG t L es knd ks p->Q (.there none) s)->(¬UG t L es knd ks p->∀j,t.slot j= .empty->Rch (lvT t) t.mask p j->Q (.free j false) s)->zw (zF prog w) A (YR a (.ref b) (jB knd ks) true fuel st) Q E s:=by
 intro n
 induction n using Nat.strongRecOn with
 |_ n ih=>
 intro fuel p st est wk hf ht dm h1 h2;obtain⟨fuel,rfl⟩:∃f,fuel=f+1:=⟨fuel-1,by lia⟩;unfold YR;refine za (jm ho hd T.fits ?_);dsimp only;rw[T.way];simp only[zy,if_false];rw[est];rcases iK (λj=>LW T.tb.dm) n (10*jL t.mask) p wk ht with⟨j,e,e1,r,no⟩|⟨j,i,nx,n',e,e1,e2,rj,hn,w2,d2,al,bk⟩
 ·have e':t.probe (λi=>(es[i]?.map (·.1)).getD 0) (jB knd ks) p=some (.empty j p.dummy):=e;erw [e'];rw[dm];dsimp only;refine zj (h2 (fun⟨i,j',q,hq,e3,e4,e5,e6⟩=>?_) j e1 r);refine no j' i e6 e5 ?_;show (es[i]?.map (·.1)).getD 0=_;rw[e4,<-e3];rfl
 · have e':t.probe (λi=>(es[i]?.map (·.1)).getD 0) (jB knd ks) p=some (.candidate j i nx):=e;erw [e'];dsimp only;have ei:t.place[i]? =some j:=(X6 T.tb.up T.tb.dm).mp e1;have hi:i<es.size:=by
    have:=(jS.mp ei).1;rw[T.tb.sz]at this;exact this
   have ee:es[i]? =some es[i]:=zJ hi;obtain⟨q,hq,eq⟩:=T.at ee;rw[eq]at ee;have hstore:∀y∈(es.filter (·.1==jB knd ks)).toList.map (·.2),DF knd s.heap y:=λy hy=>by obtain⟨x,hx,rfl⟩:=zE.mp hy;rw[Array.toList_filter]at hx;have hx:=(Xi.mp hx).1;obtain⟨q,hq,rfl⟩:=zE.mp (T.pm.mem_iff.mp hx);exact⟨q.2,q.1,rfl,T.ks q hq⟩
   have rest:zw (zF prog w) A (do
    let some (_,y):=es[i]?|XQ "internal:set-entry"
    let equal <-ZD [y] (eqBool y (.ref b))
    let (Qb,_,t') <-setState a
    if true&&equal then return .there none
    let some same:=t'.sameMemory t.moves t.mask|XQ "set.changed-during-lookup:is-the-new-block-at-the-old-address"
    let still <-match (if same then t'.slot j else .empty) with
     | .live i'=>match Qb[i']? with
       |some (_,y')=>do pure (if <-isSame y' y then some i' else none)
       |none=>pure none
     |_=>pure none
    match still with
    |none=>rule "set.search.anew";YR a (.ref b) (jB knd ks) true fuel none
    |some i'=>if equal then return .there (some i')else YR a (.ref b) (jB knd ks) true fuel (some nx)) Q E s:=by
    rw[ee];dsimp only [elT];refine za (jw (wpAny_eqBool_tuple hu (T.ks q hq) hb ?_));refine za (jm ho hd T.fits ?_);dsimp only;by_cases c:q.1=ks
    ·rw[decide_eq_true c];simp only[Bool.and_true,if_true];exact zj (h1 ⟨i,j,q,hq,c,ee,e1,rj⟩)
    · rw[decide_eq_false c];simp only[Bool.and_false,zy,if_false];rw[show t.sameMemory t.moves t.mask=some true by unfold SetTable.sameMemory;rw[if_pos (by simp)]];dsimp only;rw[if_pos rfl,e1];dsimp only;rw[ee];dsimp only [elT];refine za (wpAny_isSame_ref_self (za (zj ?_)));rw[if_pos rfl];dsimp only;refine ih n' hn fuel nx (some nx) rfl w2 (by lia) (by lia) (by rw[d2,dm]) (fun⟨i',j',q',g1,g2,g3,g4,g5⟩=>h1 ⟨i',j',q',g1,g2,g3,g4,bk _ g5⟩) λhno j' g1 g2=>h2 (fun⟨i',j2,q',k1,k2,k3,k4,k5⟩=>?_) j' g1 (bk _ g2);rcases al j2 i' k5 k4 (by show (es[i']?.map (·.1)).getD 0=_;rw[k3,<-k2];rfl)with rfl|k
      · rw[e1]at k4
        cases k4
        rw[ee]at k3;have:=congrArg (λo=>o.map (·.2)) k3;have:q.2=q'.2:=by have:=jo this;injection this
        have h3:=T.ks q hq;rw[this]at h3;exact c ((h3.inj (T.ks q' k1)).trans k2)
      ·exact hno ⟨i',j2,q',k1,k2,k3,k4,k⟩
   split
   ·refine za (vg hb hstore ?_);simp only[zy,if_false];exact rest
   ·exact rest
end
section
variable{prog:zM}{w:zT}{A:jd}{E:VSP}{s:zm}{K:Type}[DecidableEq K]{knd:KeyKind prog w K}{a b:Addr}{o:Obj}{ep:Nat}{t t':SetTable}{es Qb:Array (Int×zi)}{L:List (List K×Addr)}{ks:List K}
theorem lF(x:jJ knd h ks b)(ho:h.get? a=some o)(hd:o.data= .set es ep t)(hs:yj a h h'):jJ knd h' ks b:=by
 obtain⟨o',items,n,ho',hc,Qd,hi⟩:=x;have Pd:b≠a:=by rintro rfl;obtain rfl:o'=o:=jo (ho'.symm.trans ho);rw[hd]at Qd;exact nomatch Qd
 exact⟨o',items,n,(hs.2 b Pd).trans ho',hc,Qd,hi⟩
theorem uT(r:Rch lv m p j)(h:p.j+p.more<=m):j<=m:=by
 induction r with
 |here=>lia
 |@step p j hl k ih=>
   refine ih ?_;by_cases c:p.more>0
   ·obtain⟨n,e⟩:∃n,p.more=n+1:=⟨p.more-1,by lia⟩;rw[n9 e];show p.j+1+n<=m;lia
   · rw[qI (by lia)];have hi:(zZ m p.i p.perturb).1<=m:=by
      show (p.i*5+1+p.perturb / 32) % (m+1)<=m;have:=yw (p.i*5+1+p.perturb / 32) (show 0<m+1 by lia);lia
     obtain⟨r1,r2⟩:=VH hi;show (zZ m p.i p.perturb).1+(jk m (zZ m p.i p.perturb).1-(zZ m p.i p.perturb).1)<=m;lia
theorem TR(t:SetTable)(h:Int):(t.probeStart h).j+(t.probeStart h).more<=t.mask:=by
 have hi:zQ h % (t.mask+1)<=t.mask:=by have:=yw (zQ h) (show 0<t.mask+1 by lia);lia
 obtain⟨r1,r2⟩:=VH hi;show zQ h % (t.mask+1)+(jk t.mask (zQ h % (t.mask+1))-zQ h % (t.mask+1))<=t.mask;lia
def X4(knd:KeyKind prog w K)(h:Heap)(a:Addr)(L:List (List K×Addr)):Prop:=∃o es ep t,h.get? a=some o/\o.ExactSet/\o.data= .set es ep t/\TpS knd h L es t/\t.led= (!byT w)/\(0<es.size->t.plain=false)
theorem qH(ho:s.heap.get? a=some o)(hd:o.data= .set es ep t):(s.heap.update a (Yw Qb t')).get? a=some {o with data:=.set Qb (ep+1) t'}:=by have:=xC (Yw Qb t') ho (by rw[putSet_of Qb t' hd];rfl);rw[putSet_of Qb t' hd]at this;exact this
theorem TpS.keep(T:TpS knd h L Qb t')(ho:h.get? a=some o)(hd:o.data= .set es ep t)(hs:yj a h h'):TpS knd h' L Qb t':=⟨T.tb,T.pm,λq hq=>lF (T.ks q hq) ho hd hs,T.sm,T.fl⟩
theorem Tb.plain(T:Tb t es):Tb {t with plain:=false} es:=⟨T.dm,T.up,T.sz,T.le,T.fu,T.rch⟩
theorem kb(ho:s.heap.get? a=some o)(Pw:o.ExactSet)(hd:o.data= .set es ep t)(tb:Tb t es)(pm:es.toList.Perm (L.map (elT knd)))(hk:∀q∈L,jJ knd s.heap q.1 q.2)(hm:t.mask=7/\es.size=5\/t.mask=31/\es.size=19)(hl:t.led= (!byT w))(Pz:t.plain=false)
 (h:∀h',yj a s.heap h'->X4 knd h' a L->R () {s with heap:=h'}):zw (zF prog w) A (setRelay a (ZG es.size)) R E s:=by
 have hg:ZG es.size=es.size*4:=by unfold ZG;rw[if_neg (by lia)]
 have hsa:xM (es.size*4)-1=31/\es.size=5\/xM (es.size*4)-1=127/\es.size=19:=by
  rcases hm with⟨_,e⟩|⟨_,e⟩<;>rw[e]
  ·exact .inl ⟨by decide,rfl⟩
  ·exact .inr ⟨by decide,rfl⟩
 have hF:B4 (xM (es.size*4)-1):=by
  rcases hsa with⟨e,_⟩|⟨e,_⟩<;>rw[e]
  ·exact RV
  ·exact wR
 have hfit:t.fits es.size=true:=by unfold ZU Xd;rw[tb.sz,tb.dm];simp;lia
 obtain⟨t',order,el,T',hop,h1,h2,h3⟩:=SW hF es (by lia);have hos:(order.filterMap (es[·]?)).size=es.size:=by rw[<-zC,hop.length_eq,zC]
 rw[hg];unfold setRelay;refine za (jm ho hd hfit ?_);refine jK (λz=>absurd z (Nat.not_lt.mpr (zp (show xM (es.size*4)<=128 by lia) (by decide)))) (λ_=>?_);refine za ?_;have er:t.relaid (es.map (·.1)) (es.size*4)=some (t',order):=el;rw[er];refine jK (λz=>absurd z (by rw[hos];simp)) (λ_=>zj ?_);refine wpAny_storeSet_of ho hd ?_ (fits_of_scanBound (by rw[hos];exact Nat.lt_of_le_of_lt (show es.size<=63 by lia) (by decide)));have sb:=yV s.heap a (Yw (order.filterMap (es[·]?)) t');refine h _ sb ⟨_,_,_,t',qH ho hd,Pw,rfl,⟨T',hop.trans pm,λq hq=>lF (hk q hq) ho hd sb,?_,?_⟩,h1.trans hl,λ_=>h2.trans Pz⟩
 ·rw[h3];lia
 ·rw[h3,hos];lia
theorem TpS.len(T:TpS knd h L es t):es.size=L.length:=by have:=T.pm.length_eq;rw[zc,zC]at this;exact this
theorem qk(hu:A.units<yU)(hS:X4 knd s.heap a L)(hb:jJ knd s.heap ks b)(hroom:L.length+1<64)(hv:∀ {R},R false s->zw (zF prog w) A (xX 8 (.ref b)) R E s)
 (h:∀r h',yj a s.heap h'->X4 knd h' a (if ks∈L.map (·.1)then L else L++[(ks,b)])->Q r {s with heap:=h'}):zw (zF prog w) A (setAddHashed a (.ref b) (jB knd ks)) Q E s:=by
 have Px:=hS;obtain⟨o,es,ep,t,ho,Pw,hd,T,hl,Pz⟩:=hS;have hn:=T.len;have fl:=T.fl;have sm:=T.sm;unfold setAddHashed setAddHashedIn;refine jw (za (jm ho hd T.fits ?_));dsimp only;have hbs:byScan (.ref b) es=false:=rfl;rw[hbs];simp only[zy,if_false];obtain⟨j0,hj0,nj0⟩:∃j,j<=t.mask/\¬lvT t j:=by
  refine jA λz=>?_;have all:∀j∈zK (t.mask+1),j∈t.place.toList:=λj hj=>by have hj:=js.mp hj;obtain⟨i,e⟩:=jA λy=>z ⟨j,by lia,y⟩;exact ji (by rw[zB];exact(X6 T.tb.up T.tb.dm).mp e)
  have:=(List.nodup_range).length_le_of_subset all;rw[jv,zC,T.tb.sz]at this;lia
 obtain⟨n,hnn,wk⟩:=Mw T.tb.fu nj0 hj0 (jB knd ks);have on_iff:UG t L es knd ks (t.probeStart (jB knd ks))↔ks∈L.map (·.1):=by
  constructor
  ·rintro⟨i,j,q,hq,rfl,_⟩;exact zE.mpr ⟨q,hq,rfl⟩
  · intro hm;obtain⟨q,hq,rfl⟩:=zE.mp hm;have:elT knd q∈es.toList:=T.pm.mem_iff.mpr (zE.mpr ⟨q,hq,rfl⟩);obtain⟨i,hi⟩:=ZR.mp this;have Nk:i<es.size:=by
     have:=(yy.mp hi).1;rw[zC]at this;exact this
    have ep:t.place.toList[i]? =some (t.place[i]'(by rw[T.tb.sz];exact Nk)):=by rw[zB,zJ]
    refine⟨i,_,q,hq,rfl,by rw[<-zB];exact hi,(X6 T.tb.up T.tb.dm).mpr (by rw[<-zB];exact ep),?_⟩;exact T.tb.rch (elT knd q,_) (ji (by rw[List.getElem?_zip_eq_some];exact⟨hi,ep⟩))
 refine za ?_;unfold setSearch;refine aT hu ho hd T hb n 100000 (t.probeStart (jB knd ks)) none rfl wk (zN hnn (by unfold jL;lia)) hnn rfl (λon=>?_) λno j ej rj=>?_
 · have hk:=on_iff.mp on;dsimp only;refine zj ?_;have e:s= {s with heap:=s.heap}:=by cases s;rfl
   have:=h false s.heap (Heap.SameBut.refl a s.heap) (by rw[if_pos hk];exact Px);rw[e];exact this
 · have hk:ks∉L.map (·.1):=λz=>no (on_iff.mpr z);rw[if_neg hk]at h;dsimp only;refine za (jm ho hd T.fits ?_);dsimp only;have hjm:j<=t.mask:=uT rj (TR t _);obtain⟨T1,p1,m1,l1,pl1,mv1⟩:=T.tb.put ej hjm rj;have pm1:(jx es (t.put j).2 (jB knd ks,Value.ref b)).toList.Perm ((L++[(ks,b)]).map (elT knd)):=by
    rw[zX];exact(p1.trans ((T.pm.cons _))).trans (Xw ..).symm
   have sz1:(jx es (t.put j).2 (jB knd ks,Value.ref b)).size=es.size+1:=by rw[<-zC,p1.length_eq,zq,zC]
   have hk1:∀q∈L++[(ks,b)],jJ knd s.heap q.1 q.2:=λq hq=>(zO.mp hq).elim (T.ks q) λz=>by rw[zr.mp z];exact hb
   have tail:∀t2:SetTable,Tb t2 (jx es (t.put j).2 (jB knd ks,Value.ref b))->t2.mask=t.mask->t2.led= (!byT w)->t2.plain=false->zw (zF prog w) A (do
    storeSet a (jx es (t.put j).2 (jB knd ks,Value.ref b)) t2
    if !false&&t2.tooFull then setRelay a (ZG (es.size+1))
    return true) Q E s:=λt2 T2 m2 l2 q2=>by
    have sb:=yV s.heap a (Yw (jx es (t.put j).2 (jB knd ks,Value.ref b)) t2);refine za (wpAny_storeSet_of ho hd ?_ (fits_of_scanBound (by rw[sz1];exact Nat.lt_of_le_of_lt (show es.size+1<=63 by lia) (by decide))));have tf:t2.tooFull=decide ((es.size+1)*5>=t.mask*3):=by unfold SetTable.tooFull Xd;rw[T2.sz,T2.dm,m2,sz1];rfl
    rw[tf];by_cases c:(es.size+1)*5>=t.mask*3
    ·rw[decide_eq_true c];simp only[Xy,Bool.true_and,if_true];refine za ?_;have:=kb (s:={s with heap:=s.heap.update a (Yw (jx es (t.put j).2 (jB knd ks,Value.ref b)) t2)}) (E:=E) (A:=A) (R:=λ_ s'=>zw (zF prog w) A (pure true) Q E s') (qH ho hd) Pw rfl T2 pm1 (λq hq=>lF (hk1 q hq) ho hd sb) (by rw[m2,sz1];lia) l2 q2 λh' sb' S'=>zj (h true h' (sb.trans sb') S');rw[sz1]at this;exact this
    ·rw[decide_eq_false c];simp only[Xy,Bool.true_and,zy,if_false];refine zj (h true _ sb ⟨_,_,_,t2,qH ho hd,Pw,rfl,⟨T2,pm1,λq hq=>lF (hk1 q hq) ho hd sb,by rw[m2];exact sm,by rw[m2,sz1];lia⟩,l2,λ_=>q2⟩)
   rw[pl1];rcases hp:t.plain with _|_
   ·simp only[zy,if_false];refine za (zj ?_);simp only[if_true];exact tail _ T1 m1 (l1.trans hl) (pl1.trans hp)
   ·simp only[if_true];refine za (hv ?_);simp only[zy,if_false];exact tail _ T1.plain m1 (l1.trans hl) rfl
end
end DL
namespace DL
open PySem PySem.Spec L2
open PyProof.Rows hiding St
section
variable{K:Type}[DecidableEq K]
def ddP(L:List (List K×Addr))(q:List K×Addr):List (List K×Addr):=if q.1∈L.map (·.1)then L else L++[q]
theorem BH:∀(l L:List (List K×Addr)),(l.foldl ddP L).length<=L.length+l.length
 |[],L=>zf _
 |q::l,L=>by
   have:=BH l (ddP L q);rw[yP,zq];have h:(ddP L q).length<=L.length+1:=by unfold ddP;split<;>simp
   lia
theorem eG:∀(l L:List (List K×Addr)) q,q∈l.foldl ddP L->q∈L\/q∈l
 |[],L,q,h=>.inl h
 |x::l,L,q,h=>by
   rcases eG l (ddP L x) q h with h|h
   · unfold ddP at h;split at h
     ·exact .inl h
     · rcases zO.mp h with h|h
       ·exact .inl h
       ·exact .inr (by rw[zr.mp h];exact zt ..)
   ·exact .inr (zl _ h)
end
section
variable{prog:zM}{w:zT}{A:jd}{R:Result->zm->Prop}{I:Addr}{fp wr:List Addr}{G:Array GenState->Array GenState->Prop}{n:Nat}{P:Nat->zi->Prop}{St:Nat->zm->Prop}{K:Type}[DecidableEq K]{knd:KeyKind prog w K}
theorem kF(x:jJ knd h ks b)(k:∀o,h.get? b=some o->h'.get? b=some o):jJ knd h' ks b:=by obtain⟨o,items,n,ho,r⟩:=x;exact⟨o,items,n,k o ho,r⟩
theorem X4.congr(hS:X4 knd h a L)(e:∀o,h.get? a=some o->h'.get? a=some o)(k:∀q∈L,∀o,h.get? q.2=some o->h'.get? q.2=some o):X4 knd h' a L:=by obtain⟨o,es,ep,t,ho,Pw,hd,T,r⟩:=hS;exact⟨o,es,ep,t,e o ho,Pw,hd,⟨T.tb,T.pm,λq hq=>kF (T.ks q hq) (k q hq),T.sm,T.fl⟩,r⟩
def cG(knd:KeyKind prog w K)(q:List K×Addr):Prop:=∀ {A:jd} {E:VSP} {s:zm} {R:Bool->zm->Prop},jJ knd s.heap q.1 q.2->R false s->zw (zF prog w) A (xX 8 (.ref q.2)) R E s
theorem iP(W:WalksS prog w A.in1 I fp wr G n P St)(S:Addr)(hSf:S∉fp)(xs:List (List K×Addr))(hn:xs.length=n)(hval:∀i v,P i v->∃q,xs[i]? =some q/\v= .ref q.2)(hb:n+1<64)(hu:A.units+8<yU)(hw:∀q∈xs,q.2∉S::wr)(hv:∀q∈xs,cG knd q):
 ∀k i (s:zm),n-i=k->i<=n->St i s->(∀q∈xs,jJ knd s.heap q.1 q.2)->X4 knd s.heap S ((xs.take i).foldl ddP [])->
  (∀s',Moved (S::wr) G s s'->X4 knd s'.heap S (xs.foldl ddP [])->R (.ok (.ret .none)) s')->
  ZE (zF prog w) A (.builtin "set.update.loop" ⟨[.ref S,.ref I], []⟩) R s:=by
 have hSw:S∉wr:=λh=>hSf (W.sub _ h);have hsub:∀b∈wr,b∈S::wr:=λb hb=>zl _ hb;have sub:∀i,∀q∈(xs.take i).foldl ddP [],q∈xs:=λi q hq=>Jw ((eG _ _ q hq).resolve_left λh=>nomatch h);have nw:∀q∈xs,q.2∉wr:=λq hq z=>hw q hq (zl _ z);intro k
 induction k with
 |zero=>
   intro i s hk hi hst ht hS hR;have hin:i=n:=by omega
   subst hin;refine yD Jv ?_;rw[yb ZN _];show zw _ A.in1 (xP (.ref I) >>= _) _ _ s;refine za (W.done s _ _ hst λs' hm=>?_);show zw _ A.in1 (ret Value.none) _ _ s';have sb:=sub i;rw[xv (by omega)]at hS sb;exact zj (hR s' (hm.mono hsub) (hS.congr (λo e=>hm.heap S _ hSw e) λq hq o e=>hm.heap _ _ (nw q (sb q hq)) e))
 |succ k ih=>
   intro i s hk hi hst ht hS hR;have Nk:i<n:=by omega
   refine yD Jv ?_;rw[yb ZN _];show zw _ A.in1 (xP (.ref I) >>= _) _ _ s;refine za (W.item i s _ _ Nk hst λv s' hP hst' hm=>?_);obtain⟨q,ex,rfl⟩:=hval i v hP;have hq:q∈xs:=ji ex;have Px:=hS.congr (λo e=>hm.heap S _ hSw e) λq hq o e=>hm.heap _ _ (nw q (sub i q hq)) e;have ht':∀q∈xs,jJ knd s'.heap q.1 q.2:=λq hq=>kF (ht q hq) λo e=>hm.heap _ _ (nw q hq) e;show zw _ A.in1 (ZD [Value.ref q.2] (setAdd S (.ref q.2)) >>= _) _ _ s';refine za (jw ?_);unfold setAdd;refine jw ?_;have hu1:A.in1.units<yU:=by rw[JV];omega
   refine za (wpAny_pyHash_tuple hu1 (ht' q hq) ?_);have hl:=BH (xs.take i) [];rw[jI]at hl;refine qk hu1 Px (ht' q hq) (by simp at hl;omega) (λhr=>hv q hq (ht' q hq) hr) λb h' hsb hS2=>?_;have e2:(xs.take (i+1)).foldl ddP []=ddP ((xs.take i).foldl ddP []) q:=by rw[List.take_succ,ex,List.foldl_append];rfl
   refine zj ⟨xt ZN _,ih (i+1) _ (by omega) Nk (W.frame _ s' _ _ hst' (by simp) λb hb o e=>?_) (λq hq=>kF (ht' q hq) λo e=>?_) (by rw[e2];exact hS2) λs'' hm'' hS''=>?_⟩
   ·rw[hsb.2 b (λh:b=S=>hSf (by rw[<-h];exact hb))];exact e
   ·rw[hsb.2 _ (λh=>hw q hq (by rw[h];exact zt ..))];exact e
   ·refine hR s'' (Moved.trans W.gtrans ((hm.mono hsub).then_heap (by simp) λb o hb e=>?_) hm'') hS'';rw[hsb.2 b (λh:b=S=>hb (by rw[h];exact zt))];exact e
end
theorem QP:Tb (YU f m led) #[]:=⟨rfl,λi k a b ha=>by simp[YU]at ha,rfl,λj hj=>by simp[YU]at hj,Cq,λq hq=>by simp at hq⟩
theorem Bc{K:Type}[DecidableEq K]{knd:KeyKind prog w K}{a:Addr}(e:h.get? a=some {cls:=.type "set",dict:=none,data:=.set #[] 0 (.fresh 0 0 (!byT w))}):X4 knd h a []:=
 ⟨_, #[],0,_,e,⟨rfl,rfl,rfl⟩,rfl,⟨QP,.nil,λ_ h=>(nomatch h),.inl rfl,by show 0*5<7*3;decide⟩,rfl,λh=>by simp at h⟩
section
variable{prog:zM}{w:zT}{A:jd}{E:VSP}{s:zm}{K:Type}[DecidableEq K]{knd:KeyKind prog w K}{items:Array zi}{xs:List (List K×Addr)}{Q:VSP}
set_option maxHeartbeats 3200000 in
theorem Lq
 (hh:A.handled=none) (hl:s.heap.IsList l items) (hi:items.toList=xs.map λq=>Value.ref q.2) (ht:∀q∈xs,jJ knd s.heap q.1 q.2) (hv:∀q∈xs,cG knd q) (hu:A.units+64<yU) (hb:items.size+1<64)
 (h:∀h' tk,X4 knd h' s.heap.objs.size (xs.foldl ddP [])->(∀b o,s.heap.get? b=some o->h'.get? b=some o)->Q (.ref s.heap.objs.size) {s with heap:=h',toks:=tk}):
 zw (zF prog w) A (call (.type "set") [.ref l]) Q E s:=by
 obtain⟨c,tl,hmro⟩:=xm.mro;have hmade:=xm.made;have hsub:=xm.sub;refine wpAny_call (codeAny_of_tree ?_);show zw _ _ (callAny (.type "set") _) _ _ _;refine zj ⟨Code.quiet_builtin _ (by decide +kernel),yD F.entry_type_call ?_⟩;rw[Around.under_plain (weight_type_call_type "set" [.ref l] []) rfl];have h1:=xm.notType;have h2:=xm.canCreate;have hct:=F.typeCall_set_1 (.ref l)
 repeat (any_goals (first|assumption|wp_step))
 refine Zj (Fb (.ref l) (E:=E) (Q₁:=λobj W1=>obj= .ref s.heap.objs.size/\W1= {s with heap:=s.heap.push {cls:=.type "set",dict:=none,data:=.set #[] 0 (.fresh 0 0 (!byT w))}}) ⟨rfl,rfl⟩) λr W1 hr=>?_;rcases r with e|fl
 ·exact hr
 rcases fl with _|ob|_|_<;>try exact hr.elim
 obtain⟨rfl,rfl⟩:=hr;generalize hbt:(!byT w)=led at h ⊢;have hS:(s.heap.push {cls:=.type "set",dict:=none,data:=.set #[] 0 (.fresh 0 0 led)}).get? s.heap.objs.size=some {cls:=.type "set",dict:=none,data:=.set #[] 0 (.fresh 0 0 led)}:=zu _ rfl;have hT:Shared.TypeIs {s with heap:=s.heap.push {cls:=.type "set",dict:=none,data:=.set #[] 0 (.fresh 0 0 led)}} (.ref s.heap.objs.size) "set":=⟨_,hS,rfl⟩;have hli:=xm.init.lookup;have hbi:=xm.init.bind (.ref s.heap.objs.size)
 repeat (any_goals (first|assumption|wp_step))
 refine Zj (codeAny_call_builtin (R:=wants (λr s₂=>r= .none/\∃h' tk,s₂= {s with heap:=h',toks:=tk}/\X4 knd h' s.heap.objs.size (xs.foldl ddP [])/\(∀b o,s.heap.get? b=some o->h'.get? b=some o)) E) xm.init.plain F.entry_set_init (check_set_init_1 hT ?_)) λr₂ s₂ hr₂=>?_
 · obtain⟨ol,hol,hcl,nl,hdl⟩:=hl;obtain⟨ocls,odict,odata,oslots⟩:=ol;simp only at hcl hdl;subst hcl;subst hdl;have hol':(s.heap.push {cls:=.type "set",dict:=none,data:=.set #[] 0 (.fresh 0 0 led)}).get? l=some {cls:=.type "list",dict:=odict,data:=.seq items nl,slots:=oslots}:=ze _ hol;have hsls:=F.sub_list_set;have hslf:=F.sub_list_frozenset;have Pd:(Value.type "list" == Value.type "dict")=false:=by decide
   have hl1:(s.heap.push {cls:=.type "set",dict:=none,data:=.set #[] 0 (.fresh 0 0 led)}).IsList l items:=⟨_,hol',rfl,nl,rfl⟩;unfold yz.«set.__init__» noKeywords Builtin.Frozenset.updateFrom;generalize hPI:Jf=PI
   wp_walk
   subst hPI;refine wpAny_pyIter_list hl1 ?_;refine za (wpAny_runValue ?_);have hlS:l<s.heap.objs.size:=zv hol;have hh3:A.in1.in1.in1.handled=none:=by simp[hh]
   have hneI:l≠(s.heap.push {cls:=.type "set",dict:=none,data:=.set #[] 0 (.fresh 0 0 led)}).objs.size:=by rw[yp];exact zL (yB hlS)
   have hSf:s.heap.objs.size∉ [(s.heap.push {cls:=.type "set",dict:=none,data:=.set #[] 0 (.fresh 0 0 led)}).objs.size,l]:=by rw[yp];simp only[zI,zr,jR,or_false,not_or];exact⟨zL (xK _),YK hlS⟩
   have Nh:xs.length=items.size:=by rw[<-zC,hi,zc]
   have Nk:∀q∈xs,q.2<s.heap.objs.size:=λq hq=>by obtain⟨o,_,_,ho,_⟩:=ht q hq;exact zv ho
   refine iP ((Walks.list hh3 _ l hneI items).toS) s.heap.objs.size hSf xs Nh (λi v hv=>?hval) hb (by simp only[JV];omega) (λq hq=>?hw) hv (items.size-0) 0 _ (by omega) (zD _)
    ⟨⟨_,zu _ rfl,rfl,rfl⟩,(hl1.push _)⟩ (λq hq=>kF (ht q hq) λo e=>ze _ (ze _ e)) ?hS0 ?hR
   case hval=>
    have hv:items[i]? =some v:=hv;rw[<-zB,hi,jg]at hv;obtain⟨q,e,rfl⟩:=Zv.mp hv;exact⟨q,e,rfl⟩
   case hw=>
    have:=Nk q hq;rw[yp];simp only[zI,zr,jR,or_false,not_or];exact⟨zL this,zL (yB this)⟩
   case hS0=>
    refine Bc ?_;rw[hbt];exact ze _ hS
   case hR=>
    intro s' hm Px;obtain⟨h',g',d',tk',os'⟩:=s';have eg:g'=s.gens:=hm.gens;have ed:d'=s.drawn:=hm.drawn;have eo:os'=s.os:=hm.os;subst eg;subst ed;subst eo;show zw _ _ _ _ _ _;refine zj ?_;show zw _ _ (ret Value.none) _ _ _;refine zj ⟨rfl,h',tk',rfl,Px,λb o e=>?_⟩;have hb:=zv e;have hb1:b≠s.heap.objs.size:=zL hb;have hb2:b≠(s.heap.push {cls:=.type "set",dict:=none,data:=.set #[] 0 (.fresh 0 0 led)}).objs.size:=by rw[yp];exact zL (yB hb)
    exact hm.heap b o (by simp only[zI,zr,jR,or_false,not_or];exact⟨hb1,hb2⟩) (ze _ (ze _ e))
 · rcases r₂ with e|fl
   ·exact hr₂
   rcases fl with _|ob|_|_<;>try exact hr₂.elim
   obtain⟨rfl,h',tk,rfl,Px,Qc⟩:=hr₂
   repeat (any_goals (first|assumption|wp_step))
   exact h _ _ Px Qc
end
theorem vD{l m:List β}(h:l.Perm m):∀ {L},m=L.map f->∃L':List α,l=L'.map f/\L'.Perm L:=by
 induction h with
 |nil=>exact λ{L} e=>⟨L,e,.refl _⟩
 |cons x h ih=>
   intro L e;rcases L with _|⟨q,L⟩
   ·cases e
   ·obtain⟨e1,e2⟩:=yJ e;obtain⟨L',e3,p⟩:=ih e2;exact⟨q::L',by rw[zH,e1,e3],p.cons q⟩
 |swap x y l=>
   intro L e;rcases L with _|⟨q,_|⟨r,L⟩⟩
   ·cases e
   ·cases (yJ e).2
   ·obtain⟨e1,e2⟩:=yJ e;obtain⟨e3,e4⟩:=yJ e2;exact⟨r::q::L,by rw[zH,zH,e1,e3,e4],.swap ..⟩
 |trans _ _ ih1 ih2=>
   intro L e;obtain⟨L1,e1,p1⟩:=ih2 e;obtain⟨L2,e2,p2⟩:=ih1 e1;exact⟨L2,e2,p2.trans p1⟩
section
variable{prog:zM}{w:zT}{A:jd}{E:VSP}{s:zm}{a I:Addr}{K:Type}[DecidableEq K]{knd:KeyKind prog w K}{L:List (List K×Addr)}
structure nQ(prog:zM)(w:zT)(A:jd)(s:zm)(a:Addr)(L:List (List K×Addr))(I:Addr)(h':Heap):Prop where
 keep:∀b o,s.heap.get? b=some o->h'.get? b=some o
 new:s.heap.objs.size<=I
 walk:∃(J:Addr) (vs:List zi) (L':List (List K×Addr)) (St:Nat->Heap->Prop),s.heap.objs.size<=J/\vs=L'.map (λq=>Value.ref q.2)/\L'.Perm L/\Walks prog w A I [I,J,a] [I] vs.length (λi v=>vs[i]? =some v) St/\St 0 h'
theorem X4.type(hS:X4 knd s.heap a L):s.TypeIs (.ref a) "set":=by obtain⟨o,es,ep,t,ho,⟨x1,_⟩,_⟩:=hS;exact⟨o,ho,x1⟩
theorem UR{Q:VSP}(hh:A.handled=none)(hS:X4 knd s.heap a L)(h:∀I h' d',nQ prog w A s a L I h'->Q (.ref I) {s with heap:=h',drawn:=d'}):zw (zF prog w) A (Jf (.ref a)) Q E s:=by
 obtain⟨o,es,ep,t,ho,⟨x1,x2,x3⟩,hd,T,hl,Pz⟩:=hS;have hf:=T.fits;have hpm:=T.pm;have hb:es.size<100:=by have:=T.fl;have:=T.sm;lia
 obtain⟨oc,od,odt,os⟩:=o;obtain rfl:oc= .type "set":=x1;obtain rfl:od=none:=x2;obtain rfl:os= #[]:=x3;obtain rfl:odt= .set es ep t:=hd;have Nk:=zv ho;have Pd:a≠s.heap.objs.size:=zL Nk;have hne2:a≠s.heap.objs.size+1:=zL (yB Nk);have hne3:(s.heap.objs.size:Addr)≠s.heap.objs.size+1:=zL (xK _);have hz:es.size<=zk:=zp (jT hb) (by decide);refine Lv ho hf (λz ps d' hp=>?_) (λz=>?_) hz
 ·refine h _ _ d' ⟨λb o e=>ze _ (ze _ e),Xf _,?_⟩;obtain⟨l,hl1,hl2⟩:=HX hp;obtain⟨L',e1,e2⟩:=vD (hl1.trans hpm) rfl;refine⟨s.heap.objs.size,l.map (·.2),L',_,zf _,by rw[e1,zV];rfl,e2,wkD (ep:=ep) hh hf hne2 _ hne3 hl2,?_⟩;have e1:(s.heap.push {cls:=.type "tuple",data:=.seq (ps.map fun(i:Nat)=>xp i).toArray}).objs.size=s.heap.objs.size+1:=yp ..;refine⟨?_,ze _ (ze _ ho),0,ze _ (zu _ rfl)⟩;rw[<-e1];exact zu _ rfl
 · refine h _ _ s.drawn ⟨λb o e=>ze _ e,zf _,?_⟩;rcases hbt:byT w with _|_
   · have led:t.led=true:=by rw[hl,hbt];rfl
     have h1:¬(!t.plain&&decide (es.size>1))=true:=λq=>z (by rw[hbt,q];rfl);have hs:es.size<=1:=by
      rcases xZ 1 es.size with q|q
      ·exact absurd (by rw[Pz (by omega),decide_eq_true q];rfl) h1
      ·exact q
     obtain⟨l⟩:=es;rcases l with _|⟨e,_|⟨_,_⟩⟩
     ·obtain⟨L',e1,e2⟩:=vD hpm rfl;exact⟨s.heap.objs.size+1, [],L',_,by omega,by rw[yG.mp e1.symm];rfl,e2,Fh hh hbt led rfl hf Pd _,zu _ rfl,ze _ ho⟩
     · have hp1:t.place.size=1:=by
        have:=hf;unfold ZU at this;rw[jl]at this;simpa using this.1
       obtain⟨p,ep1⟩:∃p,t.place= #[p]:=by
        rcases hq:t.place with⟨pl⟩;rcases pl with _|⟨p,_|⟨_,_⟩⟩
        ·rw[hq]at hp1;simp at hp1
        ·exact⟨p,rfl⟩
        ·rw[hq]at hp1;simp at hp1
       obtain⟨L',e1,e2⟩:=vD hpm rfl;exact⟨s.heap.objs.size+1, [e.2],L',_,by omega,by have:=congrArg (ZZ (·.2)) e1;rw[zV]at this;exact this,e2,vQ hh hbt led rfl ep1 hf Pd _,zu _ rfl,ze _ ho⟩
     ·simp at hs
   ·obtain⟨L',e1,e2⟩:=vD ((Cd (w.params.setOrder a ep) es).trans hpm) rfl;refine⟨s.heap.objs.size+1,_,L',_,by omega,by rw[e1,zV];rfl,e2,wkT hh hbt hf Pd _ hne3.symm,zu _ rfl,ze _ ho⟩
theorem pZ(hh:A.handled=none)(hS0:X4 knd s.heap a L)(S:Addr)(hSr:S≠a)(res:zi)(c₀:Nat)(hS:s.heap.get? S=some {cls:=.type "list",data:=.seq #[] c₀})(hn:L.length<=zk)
 (hR:∀h' d' tk Nv c' (Pb:List (List K×Addr)),(∀b o,b≠S->s.heap.get? b=some o->h'.get? b=some o)->h'.get? S=some {cls:=.type "list",dict:=none,data:=.seq Nv c',slots:= #[]}->Nv.toList=Pb.map (λq=>Value.ref q.2)->Pb.Perm L->R (.ok (.ret res)) {s with heap:=h',drawn:=d',toks:=tk}):
 zw (zF prog w) A.in1 (xB (.ref S) (.ref a) res)
  (λfin s'=>match fin with| .done f=>R (.ok f) s'| .again c'=>c'.quiet=true/\ZE (zF prog w) A c' R s') (λe s'=>R (.error e) s') s:=by
 unfold xB;refine za (Zi hS0.type ?_);have h1:YC (.ref S) (.ref a)=false:=by simp[YC,hSr]
 have h2:(Value.type "set" == Value.type "list")=false:=by decide
 have h3:(Value.type "set" == Value.type "tuple")=false:=by decide
 simp only[h1,h2,h3,Bool.or_false,zy,if_false];refine za (UR hh hS0 λI h0 d0 ⟨keep,new,J,vs,Pb,St,hJ,hv,hp,W,st⟩=>?_);have hSlt:=zv hS;have halt:a<s.heap.objs.size:=by obtain⟨o,_,_,_,ho,_⟩:=hS0;exact zv ho
 have hSf:S∉ [I,J,a]:=by simp only[zI,jR,or_false,not_or];exact⟨zL (zN hSlt new),zL (zN hSlt hJ),hSr⟩
 have hvl:vs.length<=zk:=by rw[hv,zc,hp.length_eq];exact hn
 have key:∀(h:Heap) (c₁ tk:Nat),St 0 h->(∀b o,b≠S->s.heap.get? b=some o->h.get? b=some o)->
  h.get? S=some {cls:=.type "list",data:=.seq #[] c₁}->ZE (zF prog w) A (.builtin "list.extend.loop" ⟨[.ref S,.ref I,res], []⟩) R {s with heap:=h,drawn:=d0,toks:=tk}:=by
  intro h c₁ tk hst hk hS₁;refine codeAny_extend_loopS W.toS hvl S hSf res vs.length 0 _ #[] c₁ rfl (zD _) hst hS₁ (ItemsOf.nil _) λs' Nv c' hm Px Pv=>?_;rw[Moved.eq_with hm];refine hR s'.heap d0 s'.toks Nv c' Pb (λb o hb e=>hm.heap b o (λhmem=>?_) (hk b o hb e)) Px ?_ hp
  · rcases zI.mp hmem with e'|hmem
    ·exact hb e'
    ·have:=zv e;rw[zr.mp hmem]at this;exact absurd new (Nat.not_le.mpr this)
  · have:Nv.toList=vs:=by
     apply List.ext_getElem?;intro i;rcases xZ i Nv.size with q|q
     ·have:=Pv.2 i Nv[i] (by simp[q]);rw[this,zB];simp[q]
     ·rw[zS (by simpa using q),zS (by rw[<-Pv.1];exact q)]
    rw[this];exact hv
 have hS₁:=keep _ _ hS;refine za (jw (nR (X4.type (hS0.congr (λo e=>keep _ _ e) λq _ o e=>keep _ _ e)) ?_));refine jK (λ_=>?_) (λ_=>zj ⟨xt Xe _,key _ c₀ _ st (λb o _ e=>keep _ _ e) hS₁⟩);refine za (wpAny_rule ?_);refine za ?_;show zw _ _ (updateSeq S (·.push .none) >>= λ_=>updateSeq S (·.pop)) _ _ _;refine za (wpAny_updateSeq hS₁ rfl ?_);have hS₂:=xC (ju (·.push Value.none)) hS₁ rfl;refine wpAny_updateSeq hS₂ rfl ?_;have hS₃:=xC (ju (·.pop)) hS₂ rfl;refine zj ⟨xt Xe _,key _ _ _ ?_ (λb o hb e=>?_) hS₃⟩
 ·refine W.frame 0 _ _ st λb hb o e=>?_;have hbS:b≠S:=λh=>hSf (h▸hb);exact(yi _ _ (Ne.symm hbS)).trans ((yi _ _ (Ne.symm hbS)).trans e)
 ·exact(yi _ _ (Ne.symm hb)).trans ((yi _ _ (Ne.symm hb)).trans (keep _ _ e))
theorem Bh(hh:A.handled=none)(hS0:X4 knd s.heap a L)(hn:L.length<=zk)
 (h:∀h' d' tk vs (Pb:List (List K×Addr)),(∀b o,s.heap.get? b=some o->h'.get? b=some o)->vs=Pb.map (λq=>Value.ref q.2)->Pb.Perm L->R vs {s with heap:=h',drawn:=d',toks:=tk}):
 zw (zF prog w) A (collect (.ref a)) R E s:=by
 have halt:a<s.heap.objs.size:=by obtain⟨o,_,_,_,ho,_⟩:=hS0;exact zv ho
 unfold collect;refine za (wpAny_runValue (yD entry_proto_collect' ?_));rw[yb PySem.F.plain_proto_collect _];show zw _ A.in1 (newList [] >>= λl=>again (.builtin "list.__iadd__" ⟨[l,.ref a], []⟩)) _ _ s;refine za (xg ?_);refine zj ⟨xt Xt _,yD entry_list_iadd' ?_⟩;rw[yb Xt _];have hS₁:(s.heap.push {cls:=.type "list",data:=.seq ([]:List zi).toArray}).get? s.heap.objs.size=some {cls:=.type "list",data:=.seq #[]}:=zu _ rfl;show zw _ A.in1 (xB (.ref s.heap.objs.size) (.ref a) (.ref s.heap.objs.size)) _ _ _;have key:=pZ (s:={s with heap:=s.heap.push {cls:=.type "list",data:=.seq ([]:List zi).toArray}})
  (R:=fun(q:Result) (s':zm)=>∃(h':Heap) (d':_) (tk:Nat) (Nv:Array zi) (c':Nat) (Pb:List (List K×Addr)),q= .ok (.ret (.ref s.heap.objs.size))/\s'= {s with heap:=h',drawn:=d',toks:=tk}/\
    (∀b o,s.heap.get? b=some o->h'.get? b=some o)/\h'.get? s.heap.objs.size=some {cls:=.type "list",dict:=none,data:=.seq Nv c',slots:= #[]}/\Nv.toList=Pb.map (λq=>Value.ref q.2)/\Pb.Perm L)
  hh (hS0.congr (λo e=>ze _ e) λq _ o e=>ze _ e) s.heap.objs.size (YK halt) (.ref s.heap.objs.size) 0 hS₁ hn
  (λh' d' tk Nv c' Pb hk Px hv hp=>⟨h',d',tk,Nv,c',Pb,rfl,rfl,λb o e=>hk b o (zL (zv e)) (ze _ e),Px,hv,hp⟩)
 refine jG key (λfin s' x=>?_) λe s' x=>?_
 · cases fin with
   |done f=>
     obtain⟨h',d',tk,Nv,c',Pb,e,rfl,hk,Px,hv,hp⟩:=x
     cases e
     show zw _ A (load s.heap.objs.size >>= _) _ _ _;refine za (wpAny_load Px ?_);exact zj (h h' d' tk Nv.toList Pb hk hv hp)
   |again c₁=>
     refine⟨x.1,Zj x.2 λq s₂ y=>?_⟩;obtain⟨h',d',tk,Nv,c',Pb,rfl,rfl,hk,Px,hv,hp⟩:=y;show zw _ A (load s.heap.objs.size >>= _) _ _ _;refine za (wpAny_load Px ?_);exact zj (h h' d' tk Nv.toList Pb hk hv hp)
 · obtain⟨_,_,_,_,_,_,e',_⟩:=x
   cases e'
end
section
variable{prog:zM}{w:zT}{A:jd}{E:VSP}{s:zm}
theorem Gg{n:Nat}{vs:List zi}{qs:List (Int×Str)}(hl:qs.length=vs.length)(Pp:vs.length<64)(ho:s.heap.get? a=some (jz "list" vs.toArray n))(hp:∀(i:Nat) q,qs[i]? =some q->∃u,vs[i]? =some u/\w9 s.heap u q)(nd:qs.Nodup)
 (h:∀(h':Heap) e (p:List Nat),p.Perm (zK vs.length)->p.Pairwise (λi j=>W8 (qs.getD i (0, "")) (qs.getD j (0, ""))=true)->(∀b o,b≠a->s.heap.get? b=some o->h'.get? b=some o)->h'.get? a=some (jz "list" (jF (p.map λi=>vs.getD i .none)) e)->P (.done (.ret .none)) {s with heap:=h'}):
 zw (zF prog w) A (yz.«list.sort» ⟨[.ref a], []⟩) P E s:=by
 have ha:a<s.heap.objs.size:=zv ho;obtain⟨e1,ho1⟩:∃e1,(s.heap.update a (ju λ_=>(#[]:Array zi))).get? a=some (jz "list" #[] e1):=⟨_,Yi ho λ_=> #[]⟩;have k1:∀b o,b≠a->s.heap.get? b=some o->(s.heap.update a (ju λ_=>(#[]:Array zi))).get? b=some o:=λb o hb e=>by rw[xS _ _ _ _ hb];exact e
 rw[list_sort_plain];refine za (listItems_at ho rfl (za (xU ho rfl ?_ (by rw[zo,yT];lia) (zD _))));refine za (ZH ho1 rfl (za (Je ?_ (by show vs.length<=_;rw[yT];lia))));refine za (xr ?_ (zD _));refine jw ?_;have Pg:(((s.heap.update a (ju λ_=>(#[]:Array zi))).push (jz "tuple" vs.toArray 0)).push (jz "list" #[] 0)).get? a=some (jz "list" #[] e1):=ze _ (ze _ ho1);have k2:∀b o,b≠a->s.heap.get? b=some o->(((s.heap.update a (ju λ_=>(#[]:Array zi))).push (jz "tuple" vs.toArray 0)).push (jz "list" #[] 0)).get? b=some o:=λb o hb e=>ze _ (ze _ (k1 b o hb e));show zw (zF prog w) A _ P E {s with heap:=((s.heap.update a (ju λ_=>(#[]:Array zi))).push (jz "tuple" vs.toArray 0)).push (jz "list" #[] 0)};generalize ((s.heap.update a (ju λ_=>(#[]:Array zi))).push (jz "tuple" vs.toArray 0)).push (jz "list" #[] 0)=hh at Pg k2;dsimp only;have hp':∀(i:Nat) q,qs[i]? =some q->∃u,vs[i]? =some u/\w9 hh u q:=λi x e=>by
  obtain⟨u,e1,b,t,t',rfl,o,hb,hc,n',hd⟩:=hp i x e;refine⟨_,e1,b,t,t',rfl,o,k2 b _ (λz=>?_) hb,hc,n',hd⟩;rw[z,ho]at hb
  cases hb
  simp[jz]at hc
 have fin:∀p:List Nat,p.Perm (zK vs.length)->p.Pairwise (λi j=>W8 (qs.getD i (0, "")) (qs.getD j (0, ""))=true)->P (.done (.ret .none)) {s with heap:=hh.update a (ju λ_=>jF (p.map λi=>vs.getD i .none))}:=λp pm pw=>by obtain⟨e,he⟩:∃e,(hh.update a (ju λ_=>jF (p.map λi=>vs.getD i .none))).get? a=some (jz "list" (jF (p.map λi=>vs.getD i .none)) e):=⟨_,Yi Pg λ_=>_⟩;exact h _ e p pm pw (λb o hb q=>by rw[xS _ _ _ _ hb];exact k2 b o hb q) he
 have tail:∀p:List Nat,p.Perm (zK vs.length)->(jF (p.map λi=>vs.getD i Value.none)).size<=zk+1:=λp pm=>by rw[zo,zc,pm.length_eq,jv,yT];lia
 by_cases h2:vs.toArray.size<2
 · rw[if_pos h2,if_pos h2];refine za (zj ?_);rw[JY];refine za (zj ?_);dsimp only;have hn:vs.length<2:=by simpa using h2
   have hv:(jY (SortSt.mk' general' (vs.toArray.zip vs.toArray) #[] 7 none)).map (·.2)=jF ((zK vs.length).map λi=>vs.getD i Value.none):=by
    show (vs.toArray.zip vs.toArray).map (·.2)=_;apply xE.mp;rw[Array.toList_map];apply xi
    ·simp
    ·intro i hi hj;simp at hi hj ⊢;simp[hj]
   rw[hv];refine za (ZH Pg rfl (za (xU Pg rfl ?_ (zD _) (tail _ (.refl _)))));simp only[bne_self_eq_false,zy,if_false];refine zj (fin _ (.refl _) ?_)
   match hn:vs.length,hn with
   |0,_=>simp
   |1,_=>simp[Xg]
 · rw[if_neg h2,if_neg h2];have hn2:2<=vs.length:=by simpa using h2
   let lt:Nat->Nat->Bool:=λi j=>W8 (qs.getD i (0, "")) (qs.getD j (0, ""))
   have gq:∀i,i<vs.length->qs[i]? =some (qs.getD i (0, "")):=λi hi=>by rw[zA,zn (by lia)];rfl
   have O:E7 lt vs.length:=⟨λi j k h1 h2=>sB h1 h2,λi j hi hj hij h=>vC (λee=>hij (by
    have e1:=gq i hi;have e2:=gq j hj;rw[ee]at e1;have li:i<qs.length:=by lia
    exact(List.getElem?_inj li nd).mp (e1.trans e2.symm))) h⟩
   obtain⟨kd,hkd,Nk⟩:=SY (s:={s with heap:=hh}) hl hn2 (.inl hp');refine za (hkd _ _ ?_);have run:=tOk.wp (λi j C hi hj hC=>Nk i j _ _ C (gq i hi) (gq j hj) hC) _ (MY O hn2);refine za (jG (JQ (Q:=λNm s'=>∃p:Array Nat,p.size=vs.length/\jY Nm=p.map (JG (vs.toArray.zip vs.toArray))/\Zr Nm=none/\s'= {s with heap:=hh}/\J5 p vs.length/\C5 lt p vs.length) rfl hn2 Pp (λp Nm s' a1 a2 a3 a4=>⟨p,a1,a2,a3,a4⟩) run) ?_ λ_ _ x=>x);rintro⟨⟨⟩,Nm⟩ s' ⟨p,hp,har,hf,rfl,P1,U⟩;dsimp only;rw[JE rfl har];refine za (ZH Pg rfl (za (xU Pg rfl ?_ (zD _) (tail _ P1.pm))));rw[hf];simp only[bne_self_eq_false,zy,if_false];refine zj (fin _ P1.pm ?_);rw[xk];intro i j hi hj hij;have hi':i<p.size:=by simpa using hi
   have hj':j<p.size:=by simpa using hj
   have:=U i j hij (by lia);simpa [Zz,hi',hj',lt]using this
end
abbrev PK:=List Key×Addr
def isP(q:PK):Prop:=∃n z,q.1= [.inl n,.inr z]
def Q1:PK->Int×Str
 |([.inl n,.inr z],_)=>(n,z)
 |_=>(0, "")
section
variable{prog:zM}{w:zT}{A:jd}{E:VSP}{s:zm}
theorem FM(hq:isP q)(x:jJ (J3 prog w) h q.1 q.2):w9 h (.ref q.2) (Q1 q):=by
 obtain⟨n,z,e⟩:=hq;obtain⟨o,items,m,ho,hc,hd,hi⟩:=x;obtain⟨ks,b⟩:=q;obtain rfl:ks= [.inl n,.inr z]:=e
 cases hi':items.toList with
 |nil=>rw[hi']at hi;cases hi
 |cons v1 r1=>
   rw[hi']at hi
   cases hi with
   |cons h1 hr=>
     cases hr with
     |cons h2 hr2=>
       cases hr2
       have h1:D8 (.inl n) _=true:=h1;have h2:D8 (.inr z) _=true:=h2;rcases J0 h1 with⟨i,t,e1,rfl⟩|⟨x,t,e1,rfl⟩
       · cases e1
         rcases J0 h2 with⟨i,t',e2,rfl⟩|⟨x,t',e2,rfl⟩
         ·cases e2
         · cases e2
           exact⟨b,t,t',rfl,o,ho,hc,m,by rw[hd];congr 1;exact xE.mp hi'⟩
       ·cases e1
theorem EY(hq:isP q):cG (J3 prog w) q:=λ{A E s R} x hr=>by
 have hT:=x.typeIs;obtain⟨b,t,t',e,o,ho,hc,m,hd⟩:=FM hq x
 cases e
 unfold xX;refine za (wpAny_specialOf hT F.slot_tuple_hash.lookup ?_);dsimp only;refine za (wpAny_seqItems ho hd ?_);refine za ?_;show zw _ _ (forIn #[Value.int _ t,Value.str _ t'] _ _) _ _ s;rw[<-JJ];simp only[List.forIn_cons,List.forIn_nil];have h1:∀i t,xX 7 (.int i t)=pure true:=λi t=>by unfold xX;rfl
 have h2:∀i t,xX 7 (.str i t)=pure false:=λi t=>by unfold xX;rfl
 simp only[h1,h2,pure_bind,Yr,zy,if_false,Xy,if_true];exact zj (zj hr)
theorem PM(hq:isP q)(hr:isP r)(e:Q1 q=Q1 r):q.1=r.1:=by
 obtain⟨ks,b⟩:=q;obtain⟨ls,c⟩:=r;obtain⟨n,z,rfl⟩:=hq;obtain⟨m,y,rfl⟩:=hr
 cases e
 rfl
theorem Mp(hh:A.handled=none)(hS0:X4 (J3 prog w) s.heap a L)(hn:L.length<64)(hk:∀q∈L,isP q)(nd:(L.map (·.1)).Nodup)
 (h:∀(h1 h':Heap) d' (tk e:Nat) (L':List PK),(∀b o,s.heap.get? b=some o->h1.get? b=some o)->(∀b o,h1.get? b=some o->h'.get? b=some o)->h'.get? h1.objs.size=some (jz "list" (L'.map λq=>Value.ref q.2).toArray e)->L'.Perm L->(L'.map Q1).Pairwise (λx y=>W8 x y=true)->Q (.ref h1.objs.size) {s with heap:=h',drawn:=d',toks:=tk}):
 zw (zF prog w) A (call (.builtin "sorted") [.ref a]) Q E s:=by
 have hz:L.length<=zk:=zp (jT hn) (by decide);have hks:∀q∈L,jJ (J3 prog w) s.heap q.1 q.2:=by obtain⟨o,es,ep,t,ho,Pw,hd,T,r⟩:=hS0;exact T.ks
 refine yx Yy Yd Ye (Yf _) ?_;unfold yz.«sorted»;refine za (zj ?_);refine za (Bh hh hS0 hz λh1 d' tk vs L1 hkeep hv hp1=>?_);subst hv;have hl:(L1.map λq=>Value.ref q.2).length=L.length:=by rw[zc,hp1.length_eq]
 refine za (xr ?_ (by rw[hl];exact hz));have hoL:(h1.push (jz "list" (L1.map λq=>Value.ref q.2).toArray 0)).get? h1.objs.size=some (jz "list" (L1.map λq=>Value.ref q.2).toArray 0):=zu _ rfl;have nd1:(L1.map Q1).Nodup:=by have n1:(L1.map (·.1)).Nodup:=(hp1.map (·.1)).nodup_iff.mpr nd;rw[List.Nodup,jN]at n1 ⊢;exact n1.imp_of_mem λ{x y} hx hy Pd e=>Pd (PM (hk x (hp1.mem_iff.mp hx)) (hk y (hp1.mem_iff.mp hy)) e)
 refine za (jw (jC Zq ⟨_,hoL,rfl⟩ Ze (Gg (by rw[zc,zc]) (by rw[hl];exact hn) hoL (λi q e=>?_) nd1 λh' e p pm pw k1 k2=>⟨_,rfl,?_⟩) (Zs _)))
 ·rw[jg]at e;obtain⟨x,ex,rfl⟩:=Zv.mp e;have hx:=hp1.mem_iff.mp (ji ex);refine⟨.ref x.2,by rw[jg,ex];rfl,?_⟩;obtain⟨b,t,t',eb,o,ho,r⟩:=FM (hk x hx) (hks x hx);exact⟨b,t,t',eb,o,ze _ (hkeep _ _ ho),r⟩
 · rw[zc]at pm;have lt:∀i∈p,i<L1.length:=λi hi=>js.mp (pm.mem_iff.mp hi);have eo:(p.map λi=>(L1.map λq=>Value.ref q.2).getD i .none)= (p.map λi=>L1.getD i ([],0)).map λq=>Value.ref q.2:=by
    rw[zV];refine jM λi hi=>?_;have:=lt i hi;simp[zA,this]
   rw[eo]at k2;refine zj ⟨_,rfl,h h1 h' d' tk e (p.map λi=>L1.getD i ([],0)) hkeep (λb o hb=>k1 b o (zL (zv hb)) (ze _ hb)) k2 ((VZ pm rfl).trans hp1) ?_⟩;rw[zV,jN];refine pw.imp_of_mem λ{i j} hi hj Nk=>?_;have li:=lt i hi;have lj:=lt j hj;have ei:(L1.map Q1).getD i (0, "")=Q1 (L1.getD i ([],0)):=by simp[zA,li]
   have ej:(L1.map Q1).getD j (0, "")=Q1 (L1.getD j ([],0)):=by simp[zA,lj]
   rw[ei,ej]at Nk;exact Nk
end
def qD(q:Int×Str):D:=.tup [.int q.1,.str q.2]
def ddQ(us:List (Int×Str))(q:Int×Str):List (Int×Str):=if q∈us then us else us++[q]
theorem iG:∀(l us:List (Int×Str)),us.Nodup->(l.foldl ddQ us).Nodup
 |[],us,h=>h
 | q :: l, us, h => iG l (ddQ us q) (by
   unfold ddQ;split
   ·exact h
   ·rename_i k;exact YF.mpr ⟨h,ye.mpr ⟨λz=>(nomatch z),yH⟩,λa ha b hb e=>k (by rw[zr.mp hb]at e;rw[<-e];exact ha)⟩)
theorem FJ:∀(l us:List (Int×Str)) q,q∈l.foldl ddQ us↔q∈us\/q∈l
 |[],us,q=>by simp
 |x::l,us,q=>by
   rw[yP,FJ l (ddQ us x) q,zI];have:q∈ddQ us x↔q∈us\/q=x:=by
    unfold ddQ;split
    ·rename_i k;exact⟨.inl,λz=>z.elim id λz=>by rw[z];exact k⟩
    ·rw[zO,zr]
   rw[this,or_assoc]
theorem uN:∀(xs L:List PK),(∀q∈xs,isP q)->(∀q∈L,isP q)->(L.map (·.1)).Nodup->((xs.foldl ddP L).map Q1)= (xs.map Q1).foldl ddQ (L.map Q1)/\((xs.foldl ddP L).map (·.1)).Nodup
 |[],L,_,_,nd=>⟨rfl,nd⟩
 |q::xs,L,hx,hL,nd=>by
   have hq:=hx q (zt ..);have mem:q.1∈L.map (·.1)↔Q1 q∈L.map Q1:=by
    constructor
    ·intro h;obtain⟨r,hr,e⟩:=zE.mp h;refine zE.mpr ⟨r,hr,?_⟩;obtain⟨ks,b⟩:=q;obtain⟨ls,c⟩:=r;have e:ls=ks:=e;rw[e];obtain⟨n,z,e2⟩:=hq;have e2:ks=_:=e2;rw[e2];rfl
    ·intro h;obtain⟨r,hr,e⟩:=zE.mp h;exact zE.mpr ⟨r,hr,PM (hL r hr) hq e⟩
   have e1:(ddP L q).map Q1=ddQ (L.map Q1) (Q1 q):=by
    unfold ddP ddQ;by_cases c:q.1∈L.map (·.1)
    ·rw[if_pos c,if_pos (mem.mp c)]
    ·rw[if_neg c,if_neg λz=>c (mem.mpr z),zX];rfl
   have nd2:((ddP L q).map (·.1)).Nodup:=by
    unfold ddP;split
    ·exact nd
    · rename_i k;rw[zX];exact YF.mpr ⟨nd,ye.mpr ⟨λz=>(nomatch z),yH⟩,λa ha b hb e=>k (by have hb:b=q.1:=zr.mp hb;rw[<-hb,<-e];exact ha)⟩
   have hL2:∀r∈ddP L q,isP r:=λr hr=>by
    unfold ddP at hr;split at hr
    ·exact hL r hr
    · rcases zO.mp hr with h|h
      ·exact hL r h
      ·rw[zr.mp h];exact hq
   have:=uN xs (ddP L q) (λr hr=>hx r (zl _ hr)) hL2 nd2;rw[yP,zH,yP,<-e1];exact this
theorem RM{us zs:List (Int×Str)}(nd:us.Nodup)(hp:zs.Perm us)(pw:zs.Pairwise λx y=>W8 x y=true):zs.map qD=l8 us (us.map qD):=by
 have ez:∀l:List (Int×Str),l.zip (l.map qD)=l.map λq=>(q,qD q):=λl=>by have:=XU (f:=id) (g:=qD) (l:=l);rw[jE]at this;exact this
 have:=lJ nd (z:=zs.map λq=>(q,qD q)) (by rw[ez];exact hp.map _) (by rw[jN];refine pw.imp λ{x y} h=>?_;show (!W8 y x)=true;rw[xy];refine xz.mpr λh2=>?_;have:=sB h h2;rw[WD]at this;cases this)
 rw[zV]at this;exact this
def vH:D->M D:=λd=>match d with
 | .ref r=>do
   match <-M4 r with
   | .lst l=>do
     let qs <-E1 (w8 EC l)
     if qs.length<62 then K8 (.lst (l8 (qs.foldl ddQ []) ((qs.foldl ddQ []).map qD)))else M.stuck
   |_=>M.stuck
 |_=>M.stuck
def dE(fa:Fe):Fe:=λσ=>fa σ >>= vH
theorem NI:∀L:List PK,(∀q∈L,∃v,d8 c μ H (qD (Q1 q)) v/\o7 v (.ref q.2))->∃ws,o5 ws (L.map λq=>Value.ref q.2)/\m5 c μ H ((L.map Q1).map qD) ws/\ws.length=L.length
 |[],_=>⟨[],.nil,rfl,rfl⟩
 |q::r,h=>by obtain⟨v,h1,h2⟩:=h q (zt ..);obtain⟨ws,a1,a2,a3⟩:=NI r λx hx=>h x (zl _ hx);exact⟨v::ws,.cons h2 a1,⟨v,ws,rfl,h1,a2⟩,by simp[a3]⟩
theorem kW(hu:X.A.units+64<yU)(hc:X.calm=true)(hbl:BLs X.mg)(hg1:Gl X "sorted")(hg2:Gl X "set")(ha:DE X Z ea fa)(sa:L9 ea=true):DE X Z (.Call (.Name "sorted" p) [.Call (.Name "set" p1) [ea] [] q1] [] pos) (dE fa):=⟨by
 intro Nc s σ H Q I h;refine yX (oB I hg1 (hbl.h _ (by decide +kernel)) mF ?_ (by decide) (by decide));refine h.elim λX9 μ G sr hr pp=>?_;refine callWith_builtin1 (Yl ?_) rfl rfl;refine yX (oB I hg2 (hbl.h _ (by decide +kernel)) LS ?_ (by decide) (by decide));refine callWith_type1 ?_ (lH sa) rfl;rw[lH sa];have pa:=d7.bind pp;refine Yl (thn (ha.h Nc s σ H (λv H1=>∃x X0 G1,m9 (wc X) X0 G1 H1/\d8 (wc X) X0 H1 x v/\d7 (wc X) Z X0 H1 (vH x G1) λd X2 _ H'=>∀v,d8 (wc X) X2 H' d v->Q v H') I ⟨X9,μ,G,sr,hr,pa.mono λd X0 G1 H1 x1 h1 p1 v rv=>⟨d,X0,G1,h1,rv,p1⟩⟩) λu s1 hE=>hE.elim λv H1 I1 r1 q=>?_);obtain⟨x,X0,G1,hr1,rv1,pp1⟩:=q;obtain⟨i,rfl⟩:∃i,x= .ref i:=match x,pp1 with
  | .ref i,_=>⟨i,rfl⟩
 obtain⟨o,g,p2⟩:=w6 (show d7 (wc X) Z X0 H1 ((M4 i >>= λo=>match o with
  | .lst l => (do
    let qs <-E1 (w8 EC l)
    if qs.length<62 then K8 (.lst (l8 (qs.foldl ddQ []) ((qs.foldl ddQ []).map qD)))else M.stuck:M D)
  |_=>M.stuck) G1) _ from pp1)
 unfold d8 at rv1;obtain⟨a,m,rfl⟩:=rv1;have ro:=hr1.obj i o a g m;rcases o with l|l|l|l<;>try exact p2.elim
 obtain⟨vs,q,rl⟩:=ro;obtain⟨qs,es,p3⟩:=U5 p2;split at p3
 case isFalse=>exact p3.elim
 rename_i Pp
 cases r1
 refine Yx ?_;obtain⟨Nf,rv,pl,hz⟩:=I1.list (SqL.of q);obtain⟨Nh,hall⟩:=QK (P:=λu q=>w9 s1.heap u q/\∃v,d8 (wc X) X0 H1 (qD q) v/\o7 v u) (λd q v u h1 rd ru=>by
  unfold EC at h1;split at h1
  · cases h1
    refine⟨?_,v,rd,ru⟩;unfold d8 at rd;obtain⟨ad,vs,rfl,q,rl⟩:=rd;obtain⟨v1,t1,rfl,e1,v2,t2,rfl,e2,e3⟩:=rl
    cases e3
    rw[T5 e1,S2 e2]at q
    cases ru
    obtain⟨Nf,rvs,tp,_⟩:=I1.tuple q
    cases rvs with
    |cons r1 rr1=>
      cases rr1 with
      |cons r2 rr2=>
        cases rr2
        obtain⟨t,rfl⟩:=r1;obtain⟨t',rfl⟩:=r2;exact⟨ad,t,t',rfl,tp⟩
  ·cases h1) es rl rv
 obtain⟨xs,exs,exk,hisP,htk,hrep⟩:∃xs:List PK,Nf=xs.map (λq=>Value.ref q.2)/\xs.map Q1=qs/\(∀q∈xs,isP q)/\(∀q∈xs,jJ (J3 X.prog X.w) s1.heap q.1 q.2)/\∀q∈xs,∃v,d8 (wc X) X0 H1 (qD (Q1 q)) v/\o7 v (.ref q.2):=by
  clear es p3 Pp rl rv pl hz
  induction qs generalizing Nf with
  |nil=>
    obtain rfl:Nf= []:=List.length_eq_zero_iff.mp Nh.symm;exact⟨[],rfl,rfl,λ_ h=>(nomatch h),λ_ h=>(nomatch h),λ_ h=>nomatch h⟩
  |cons q qs ih=>
    rcases Nf with _|⟨u,Nf⟩
    ·cases Nh
    · obtain⟨u',eu,⟨b,t,t',rfl,o,ho,hcl,n,hdt⟩,v,h1,h2⟩:=hall 0 q rfl
      cases eu
      obtain⟨xs,e1,e2,e3,e4,e5⟩:=ih Nf (by simpa using Nh) (λi q hq=>by simpa using hall (i+1) q (by simpa using hq));refine⟨([.inl q.1,.inr q.2],b)::xs,by rw[zH,e1],by rw[zH,e2];rfl,λx hx=>?_,λx hx=>?_,λx hx=>?_⟩
      · rcases zI.mp hx with rfl|hx
        ·exact⟨q.1,q.2,rfl⟩
        ·exact e3 x hx
      · rcases zI.mp hx with rfl|hx
        ·exact⟨o,_,n,ho,hcl,hdt,.cons (UO ..) (.cons (AN ..) .nil)⟩
        ·exact e4 x hx
      · rcases zI.mp hx with rfl|hx
        ·exact⟨v,h1,h2⟩
        ·exact e5 x hx
 have hlx:xs.length=qs.length:=by rw[<-exk,zc]
 have hc1:X.A.handled=none:=I1.ok.hd hc;refine Lq hc1 pl.isList (by simpa using exs) htk (λq hq=>EY (hisP q hq)) hu (by rw[zo,<-Nh];omega) λh1 tk1 hT k1=>?_;have I2:Inv X Nc σ H1 {s1 with heap:=h1,toks:=tk1}:=I1.kept k1;refine Yx ?_;obtain⟨ek,ndk⟩:=uN xs [] hisP (λ_ h=>nomatch h) yH;have hdl:=BH xs [];have hsub:∀q∈xs.foldl ddP [],q∈xs:=λq hq=>(eG xs [] q hq).resolve_left λh=>nomatch h;refine Mp (I2.ok.hd hc) hT (by simp at hdl;omega) (λq hq=>hisP q (hsub q hq)) ndk λh2 h' d' tk e L' k2 k3 he hp pw=>?_;have eq1:(L'.map Q1).map qD=l8 (qs.foldl ddQ []) ((qs.foldl ddQ []).map qD):=by refine RM (iG _ _ yH) ?_ pw;have:=hp.map Q1;rw[ek,exk]at this;exact this
 have I3:Inv X Nc σ H1 {s1 with heap:=h2,drawn:=d',toks:=tk}:=cY (I2.kept k2);obtain⟨ws,rv',rl2,lw⟩:=NI (μ:=X0) L' λq hq=>hrep q (hsub q (hp.mem_iff.mp hq));rw[eq1]at rl2;have hf:=I3.hok.fresh (zf _);have hlw:ws.length<=zk:=by
  have:(64:Nat)<=zk:=by decide
  rw[lw,hp.length_eq];simp at hdl;omega
 exact⟨.ref h2.objs.size,upd H1 h2.objs.size (.lst ws),I3.laid k3 (zf _) ⟨hlw,_,e,rv',he⟩,rfl,Q8 hr1 rl2 p3 _ hf⟩⟩
end DL
namespace W
open PySem PySem.Spec L2 DL
open PyProof.Rows hiding St
theorem dS(ea:fa σ G=some (.ok (.ref r),G1))(e:G1[r]? =some (.lst l))(hs:w8 EC l=some qs)(h62:qs.length<62)(q:Q (.ref G1.length) (G1++[.lst (l8 (qs.foldl ddQ []) ((qs.foldl ddQ []).map qD))])):Wp (dE fa σ) G Q:=by refine j6.mpr (b8 ea ?_);unfold vH;simp only[j6,M6,e,O4,B8,hs,if_pos h62,T6];exact q
end W
namespace DL
open PySem PySem.Spec L2
open PyProof.Rows hiding St
section
theorem EZ{n:Nat}(ho:s.heap.get? a=some o)(hc:o.cls= .type "list")(hd:o.data= .seq vs.toArray n)(Pp:vs.length<64)(hI:IntsAre vs ns)
 (h:∀(h1 h':Heap) (tk e:Nat) out ns',(∀b o,s.heap.get? b=some o->h1.get? b=some o)->(∀b o,h1.get? b=some o->h'.get? b=some o)->h'.get? h1.objs.size=some (jz "list" out.toArray e)->IntsAre out ns'->ns'.Perm ns->ns'.Pairwise (· <= ·)->Q (.ref h1.objs.size) {s with heap:=h',toks:=tk}):
 zw (zF prog w) A (call (.builtin "sorted") [.ref a]) Q E s:=by
 have hz:vs.length<=zk:=zp (jT Pp) (by decide);refine yx Yy Yd Ye (Yf _) ?_;unfold yz.«sorted»;refine za (zj ?_);refine za (Xk a (.inl rfl) ho hc hd (λh1 hk=>?_) (by rw[zo];exact hz));refine za (xr ?_ hz);have hoL:(h1.push (jz "list" vs.toArray 0)).get? h1.objs.size=some (jz "list" vs.toArray 0):=zu _ rfl;refine za (jw (jC Zq ⟨_,hoL,rfl⟩ Ze (list_sort_tree hoL hI Pp λout ns' a1 a2 a3=>⟨_,rfl,?_⟩) (Zs _)));obtain⟨e,he⟩:=JI hoL;refine zj ⟨_,rfl,h h1 _ s.toks e out.toList ns' hk (λb o hb=>?_) (by rw[ZX];exact he) a1 a2 a3⟩;have Nk:b<h1.objs.size:=zv hb;rw[Jm (zL Nk) (by rw[size_push'];exact yB Nk),YB _ _ _ (zL Nk)];exact hb
end
def MB:List D->M D:=λds=>match ds with
 |[.ref r]=>do
   match <-M4 r with
   | .lst l=>do
     let ns <-E1 (UA l)
     if ns.length<64 then K8 (.lst ((lB ns).map .int))else M.stuck
   |_=>M.stuck
 |_=>M.stuck
section
variable{X:Cx}{Z:XC}{c:Wc}{μ:List Addr}{H:Hp}
theorem pQ:O3 X Z (.builtin "sorted") MB:=⟨by
 intro Nc s σ H xs us Q I r Ng;obtain⟨ds,μ,G,rl,hr,p⟩:=Ng;rcases ds with _|⟨_|_|_|_|l|i|_|_,_|⟨_,_⟩⟩<;>try exact p.elim
 delta MB at p;dsimp only at p;obtain⟨v,rfl,rv⟩:=P2 rl;obtain⟨u,rfl,ru⟩:=C3 r;have rv':=rv;unfold d8 at rv';obtain⟨a,m,rfl⟩:=rv'
 cases ru
 obtain⟨o,g,p1⟩:=w6 p;have ro:=hr.obj i o a g m;rcases o with l|l|l|l<;>try exact p1.elim
 obtain⟨vs,q,Nx⟩:=ro;obtain⟨Nf,rv,pl,hz⟩:=I.list (SqL.of q);obtain⟨o,h1,h2,n,h3⟩:=pl.isList;dsimp only at p1;obtain⟨ns,es,p2⟩:=U5 p1;split at p2
 case isFalse=>exact p2.elim
 rename_i Pp;obtain⟨hl,hv⟩:=II es Nx rv;have hI:IntsAre Nf ns:=OL hl hv;refine EZ h1 h2 h3 (by lia) hI λh1 h' tk e out ns' k1 k2 he hS hp hs=>?_;have e2:=Fz hp hs;subst e2;obtain⟨ws,ew,rv',rl2⟩:=TK (μ:=μ) hS;have I1:Inv X Nc σ H {s with heap:=h1,toks:=tk}:=I.kept k1;have hf:=I1.hok.fresh (zf _);have Nh:ws.length<=zk:=by rw[ew,zc,(AE ns).length_eq];exact zp (jT Pp) (by decide)
 exact⟨.ref h1.objs.size,upd H h1.objs.size (.lst ws),I1.laid k2 (zf _) ⟨Nh,out,e,rv',he⟩,rfl,Q8 hr rl2 p2 _ hf⟩⟩
theorem BZ(h:X.calm=true):BD MB "sorted" X Z:=⟨.inl ⟨_,pQ,mF⟩⟩
end
end DL
namespace W
open PySem PySem.Spec L2 DL
open PyProof.Rows hiding St
theorem gQ(e:G[r]? =some (.lst (ns.map D.int)))(Pp:ns.length<64):Wp (MB [.ref r]) G Q↔Q (.ref G.length) (G++[.lst ((lB ns).map .int)]):=by unfold MB;simp only[j6,M6,e,O4,B8,tJ,if_pos Pp,T6]
end W
namespace DL
open PySem PySem.Spec L2
open PyProof.Rows hiding St
def wC(h:Heap)(a l:Addr)(i:Int):Prop:=∃o,h.get? a=some o/\o.cls= .type "reversed"/\o.data= .fields #[.ref l,xp i]
section
variable{s:zm}
theorem wC.typeIs(x:wC s.heap a l i):s.TypeIs (.ref a) "reversed":=let ⟨o,ho,hc,_⟩:=x;⟨o,ho,hc⟩
theorem wC.at(x:wC h a l i)(e:∀o,h.get? a=some o->h'.get? a=some o):wC h' a l i:=let ⟨o,ho,r⟩:=x;⟨o,e _ ho,r⟩
variable{prog:zM}{w:zT}{A:jd}{E:VSP}
end
section
variable{prog:zM}{w:zT}{A:jd}{E:VSP}{s:zm}
end
section
variable{prog:zM}{w:zT}{A:jd}{E:VSP}{s:zm}
variable{I l:Addr}{items:Array zi}{R:Except zi Flow->zm->Prop}
end
section
end
end DL
namespace W
open PySem PySem.Spec L2 DL
open PyProof.Rows hiding St
end W
namespace DL
open PySem PySem.Spec L2
open PyProof.Rows hiding St
section
variable{X:Cx}{Z:XC}{c:Wc}{μ:List Addr}{G:DH}{H:Hp}{q:Addr}
def kvS(ks:List Str)(vs:List V):List (Key×V):=(ks.zip vs).map λp=>(.inr p.1,p.2)
structure DP(X:Cx)(Z:XC)(keys:List (Option Expr))(vals:List Expr)(ks:List Str)(fs:DSt->M (List D)):Prop where
 ex:∃trs,(∀pos,PPs X pos keys vals trs)/\∀(X9:DSt) (σ:St) (μ:List Addr) (G:DH) (H:Hp) (K:List (V×V)->Hp->Prop),w5 (wc X) μ H X9 σ->m9 (wc X) μ G H->
  d7 (wc X) Z μ H (fs X9 G) (λds X0 _ H1=>∀vs,m5 (wc X) X0 H1 ds vs->K ((kvS ks vs).map λkv=>(kV kv.1,kv.2)) H1)->fI trs σ H K
inductive UHD{α:Type}(c:Wc)(q:Addr)(K:α->List Addr->DH->Hp->Prop)(a:α)(X2:List Addr)(G':DH)(H':Hp):Prop
 |mk (e:H' q=some (.dK [])) (n:q∉X2) (h:m9 c X2 G' (DL.hide q H')) (k:K a X2 G' (DL.hide q H'))
end
def neW:D->D->M D:=λx y G=>match eqN 60 G x y with
 |some b=>some (.ok (.bl (!b)),G)
 |none=>none
theorem KW(hu:X.A.units+64<yU):OpD X Z (jc .NotEq) neW:=⟨by
 intro Nc s σ H x y v u Q I rx ry Ng;refine Ng.elim λdx dy μ G Pj Pk hr p=>?_;unfold neW at p;rcases e:eqN 60 G dx dy with _|b
 ·rw[e]at p;exact p.elim
 ·
   rw[e]at p;exact(cC I hr 60 X.A (by lia) Pj Pk rx ry e).2.1 X.prog X.w X.xe _ ⟨.bl (!b),H,I,rfl,d7.ok p hr _ ofB⟩⟩
end DL
namespace W
open PySem PySem.Spec L2 DL
open PyProof.Rows hiding St
theorem MX{x y:D}{G:DH}{Q:DPP}:Wp (neW x y) G Q↔∃k,eqN 60 G x y=some k/\Q (.bl (!k)) G:=sF rfl
abbrev x0(a:Fe):=o0 a (B0)
abbrev TD(a b:Fe):=o0 a (o0 b (B0))
abbrev Mv(a b c:Fe):=o0 a (o0 b (o0 c (B0)))
abbrev KI(a b c d:Fe):=o0 a (o0 b (o0 c (o0 d (B0))))
abbrev B5(a b c d e:Fe):=o0 a (o0 b (o0 c (o0 d (o0 e (B0)))))
abbrev asQ(e:Fe)(g:D->DSt->M DSt)(r:Fs):Fs:=j9 (J6 e g) r
abbrev cBf:Fe:=cE (.bl false)
abbrev cBt:Fe:=cE (.bl true)
abbrev N0:Fe:=cE (.int 0)
abbrev y0:Fe:=cE (.int 1)
abbrev P5:Fe:=cE (.int 10)
abbrev dB:Fe:=cE (.int 11)
abbrev K0:Fe:=cE (.int 2)
abbrev u3:Fe:=cE (.int 3)
abbrev v3:Fe:=cE (.int 4)
abbrev uG:Fe:=cE (.int 5)
abbrev EA:Fe:=cE (.int 6)
abbrev BO:Fe:=cE (.int 7)
abbrev F4:Fe:=cE (.int 8)
abbrev cIn(i:Int):Fe:=cE (.int i)
abbrev B2:Fe:=cE .non
abbrev cSt(s:Str):Fe:=cE (.str s)
abbrev C8(F:List D->M D):Fe:=C2 (fnX 0 F) (B0)
abbrev D0(F:List D->M D)(a:Fe):Fe:=C2 (fnX 1 F) (o0 a (B0))
abbrev z0(F:List D->M D)(a b:Fe):Fe:=C2 (fnX 2 F) (o0 a (o0 b (B0)))
abbrev GK(F:List D->M D)(a b c:Fe):Fe:=C2 (fnX 3 F) (o0 a (o0 b (o0 c (B0))))
abbrev WE(F:List D->M D)(a b c d:Fe):Fe:=C2 (fnX 4 F) (o0 a (o0 b (o0 c (o0 d (B0)))))
abbrev F0(F:List D->M D)(a:Fe):Fe:=C2 F (o0 a (B0))
abbrev eA(F:List D->M D)(a b:Fe):Fe:=C2 F (o0 a (o0 b (B0)))
abbrev gdQ(t:DSt->M Bool)(x:Fe)(r:Fs):Fs:=j9 (ifS t (G9 x) J9) r
abbrev ixE(a b:Fe):Fe:=j5 ixD a b
abbrev H0:=D4 0
abbrev S0:=D4 1
abbrev S1:=D4 2
abbrev A1:=D4 3
abbrev T0:=D4 4
abbrev u4:=D4 5
abbrev F6:=D4 6
abbrev x9:=D4 7
abbrev TB:=D4 8
abbrev sIi(i:Int):Option D:=some (D.int i)
abbrev sRf(r:Nat):Option D:=some (D.ref r)
abbrev tBn(o:D->D->M D)(a b:Fe):=HB (j5 o a b)
abbrev gA(a:Fe):=y2 (o0 a (B0))
abbrev L0(a b:Fe):=y2 (o0 a (o0 b (B0)))
abbrev nB(a b c:Fe):=y2 (o0 a (o0 b (o0 c (B0))))
abbrev g0:Fe:=U2 0
abbrev i0:Fe:=U2 1
abbrev C0:Fe:=U2 2
abbrev A0:Fe:=U2 3
abbrev O0:Fe:=U2 4
abbrev F3:Fe:=U2 5
abbrev A7:Fe:=U2 6
abbrev uD:Fe:=U2 7
abbrev EO:Fe:=U2 8
def LF:Fs:=j9 (ifS (tBn eqD g0 (M5 B0)) (G9 N0) J9) (G9 (j5 j3 (mtE u5 IE g0 (x0 N0)) i0))
def j4:List D->M D:=v4 2 LF
def EM:Fs:=G9 (y2 (B5 (y2 B0) (L0 (cSt "of") (y2 B0)) (y2 B0) B2 B2))
def v6:List D->M D:=v4 0 EM
def woL:Fs:=(J6 (j5 u0 O0 (ixE (cSt "abcdefghijklmnopqrstuvwxyz") (z0 j4 g0 (cIn 26)))) T0)
def woR:Fs:=(asQ (cSt "") T0 (j9 (L3 (T4 (x0 A0)) u4 woL) (G9 O0)))
def woA:Fs:=(ifS (tBn eqD i0 v3) (asQ (M5 (o0 (cSt "any") (o0 (cSt "nothing") (o0 (cSt "number") (o0 (cSt "text") (o0 (cSt "truth") (o0 (cSt "true") (o0 (cSt "false") (B5 (cSt "or") (cSt "but") (cSt "in") (cSt "only") (cSt "wish")))))))))) S1 (asQ (j5 u0 C0 (M5 (KI (cSt "numbers") (cSt "texts") (cSt "anyone") (cSt "orb")))) S1 (G9 (ixE C0 (z0 j4 g0 (cIn 16)))))) J9)
def woB:Fs:=(ifS (tBn eqD i0 uG) (J6 (z0 j4 g0 (cIn 31)) A1) J9)
def cD:Fs:=j9 (J6 (z0 j4 g0 EA) S0) (j9 woA (asQ (z0 j4 g0 v3) A1 (j9 woB woR)))
def U7:List D->M D:=v4 6 cD
def tI:Fs:=j9 (J6 (GA (D0 U7 g0) (mB) (HA F4)) S0) (gdQ (tBn eqD i0 (cSt "")) (cSt "a") (G9 i0))
def U6:List D->M D:=v4 2 tI
def iH:Fs:=j9 (ifS (tBn eqD (nB g0 i0 C0) (nB (gA (L0 B2 B2)) (L0 (cSt "but") (y2 B0)) (L0 cBf cBt))) (ifS (B6 (tBn eqD A0 (L0 (y2 B0) (cSt "any"))) (tBn eqD O0 (L0 (y2 B0) (cSt "any")))) (G9 (cSt "any")) J9) J9) (G9 (y2 (B5 g0 i0 C0 A0 O0)))
def mE:List D->M D:=v4 5 iH
def NJ:Fs:=j9 (ifS (tBn eqD (F0 tB g0) (j5 E3 P5 (cIn 30))) (G9 B2) J9) (G9 g0)
def QC:List D->M D:=v4 1 NJ
def LB:Fs:=(ifS (B6 (tBn neD i0 (M5 B0)) (tBn leD C0 (j5 u0 (ixE (ixE i0 (unE D6 y0)) y0) y0))) (J6 (L0 (ixE (ixE i0 (unE D6 y0)) N0) (eA bF (ixE (ixE i0 (unE D6 y0)) y0) A0)) (E8 i0 (unE D6 y0))) (O5 (mtE u5 u9 i0 (x0 (L0 C0 A0)))))
def LE:Fe:=(L0 (D0 QC g0) (D0 QC i0))
def Z8:Fs:=j9 (J6 (M5 B0) S0) (j9 (L3 (itW (F0 KB g0)) (t4 2 (J4 S1 (J4 A1 (m4)))) LB) (G9 (F0 V6 (J8 (itW i0) [none,none] (t4 2 (J4 H0 (J4 S0 (m4)))) (K7) LE))))
def T7:List D->M D:=v4 4 Z8
def NB:Fs:=(J6 (j5 u0 (j5 i3 A0 (cIn 1000)) (z0 j4 g0 (cIn 1000))) A1)
def N1:Fs:=(ifS (tBn ltD i0 uG) (asQ (z0 j4 g0 (cIn 40)) S1 (G9 (j5 i3 (j5 d5 C0 K0) (j5 L4 y0 (j5 i3 K0 (j5 j3 C0 K0)))))) J9)
def N2:Fs:=(ifS (tBn eqD i0 uG) (G9 (ixE (M5 (KI (j5 E3 P5 (cIn 20)) (unE D6 (j5 E3 P5 (cIn 20))) (j5 L4 (j5 E3 P5 (cIn 20)) y0) (j5 E3 P5 (cIn 18)))) (z0 j4 g0 v3))) J9)
def N3:Fs:=(G9 (j5 i3 (j5 u0 (j5 i3 A0 (cIn 100)) (z0 j4 g0 (cIn 100))) (j5 L4 (cIn 13) (j5 i3 K0 i0))))
def MD:Fs:=j9 (J6 (z0 j4 g0 F4) S0) (j9 N1 (j9 N2 (asQ N0 A1 (j9 (L3 (T4 (x0 EA)) T0 NB) N3))))
def Q3:List D->M D:=v4 5 MD
def nuE:Fe:=(D0 Q3 i0)
def nuB:Fs:=(O5 (mtE u5 u9 A0 (x0 (L0 (ixE C0 (j5 i3 K0 O0)) (ixE C0 (j5 u0 (j5 i3 K0 O0) (z0 j4 g0 K0)))))))
def nuL:Fs:=(ifS (tBn inD F3 (L0 y0 u3)) (O5 (mtE u5 u9 A0 (x0 (L0 (unE D6 (j5 E3 P5 (cIn 30))) (D0 Q3 g0))))) J9)
def nuH:Fs:=(ifS (tBn inD F3 (L0 K0 u3)) (O5 (mtE u5 u9 A0 (x0 (L0 (D0 Q3 g0) (j5 E3 P5 (cIn 30)))))) J9)
def nuA:Fs:=(ifS (tBn eqD F3 v3) (O5 (mtE u5 u9 A0 (x0 (L0 (unE D6 (j5 E3 P5 (cIn 30))) (j5 E3 P5 (cIn 30)))))) J9)
def nuM:Fs:=(J6 (ixE (M5 (o0 y0 (o0 y0 (o0 K0 (B5 u3 N0 y0 EA K0))))) (z0 j4 g0 F4)) S0)
def nuS:Fs:=(J6 (F0 MB (J8 (T4 (x0 (j5 i3 K0 i0))) [none,some 0] H0 (K7) nuE)) S1)
def V9:Fs:=j9 nuM (j9 nuS (asQ (M5 B0) A1 (j9 (L3 (T4 (x0 i0)) T0 nuB) (asQ (z0 j4 g0 F4) u4 (j9 nuL (j9 nuH (j9 nuA (G9 (D0 T7 A0)))))))))
def V1:List D->M D:=v4 6 V9
def rkC:Fe:=(J8 (itW g0) [none] H0 (K7) (L0 (F0 t3 g0) g0))
def gE:Fs:=G9 (F0 V6 (J8 (itW (dE rkC)) [none,none] (t4 2 (J4 H0 (J4 S0 (m4)))) (K7) i0))
def Z6:List D->M D:=v4 1 gE
def dtA:Fs:=(J6 (ixE (M5 (o0 y0 (o0 N0 (o0 K0 (B5 u3 y0 K0 EA N0))))) (z0 j4 g0 F4)) S0)
def dtB:Fs:=(J6 (D0 Z6 (J8 (T4 (x0 i0)) [none,some 0] H0 (K7) (D0 U7 i0))) S1)
def dtC:Fs:=(G9 (L0 (ixE (M5 (TD (cSt "of") (cSt "but"))) (j5 d5 (z0 j4 g0 u3) K0)) C0))
def oF:Fs:=j9 dtA (j9 dtB dtC)
def gD:List D->M D:=v4 3 oF
def pH(R:List D->M D):Fs:=j9 (J6 (z0 R g0 i0) S1) (gdQ (tBn eqD C0 (C8 v6)) (y2 (B5 (y2 B0) (L0 (cSt "of") (y2 B0)) (gA cBt) B2 B2)) (G9 C0))
def M3(R:List D->M D):List D->M D:=v4 3 (pH R)
def rcM:Fs:=(J6 (ixE (M5 (o0 N0 (o0 y0 (o0 K0 (B5 y0 u3 K0 EA y0))))) (z0 j4 g0 F4)) S1)
def WH(R:List D->M D):Fs:=j9 rcM (asQ (F0 V6 (J8 (T4 (x0 C0)) [none,some 1,some 0] H0 (K7) (z0 (M3 R) C0 (j5 L4 i0 y0)))) A1 (G9 (L0 A0 (z0 R g0 (j5 L4 i0 y0)))))
def W2(R:List D->M D):List D->M D:=v4 4 (WH R)
def flT:DSt->M Bool:=(orT (r6 (ixE g0 y0)) (tBn neW (ixE g0 K0) i0))
def V2(R:List D->M D):Fs:=j9 rcM (asQ (rC) A1 (j9 (L3 (T4 (x0 C0)) T0 (asQ (D0 U6 g0) u4 (ifS (tBn eqD (z0 j4 g0 K0) N0) (J6 (nB F3 cBt (z0 (M3 R) g0 (j5 L4 i0 y0))) (E8 A0 F3)) (J6 (nB F3 cBf (z0 R g0 (j5 L4 i0 y0))) (E8 A0 F3))))) (asQ (z0 R g0 (j5 L4 i0 y0)) F6 (asQ (J8 (itW (F0 c9 A0)) [none,some 3] H0 (K7) (j5 ixG i0 g0)) x9 (G9 (L0 (F0 V6 (J8 (itW uD) [none,some 6] H0 flT g0)) A7))))))
def R8(R:List D->M D):List D->M D:=v4 8 (V2 R)
def smD:Fs:=(ifS (tBn ltD i0 K0) (J6 (j5 u0 (j5 j3 A0 BO) y0) A1) J9)
def smN:Fs:=(ifS (tBn eqD (j5 j3 A0 K0) y0) (J6 (D0 V1 g0) T0) J9)
def smT:Fs:=(ifS (tBn eqD (j5 j3 (j5 d5 A0 K0) K0) y0) (J6 (D0 gD g0) u4) J9)
def smB:Fs:=(ifS (tBn eqD (j5 j3 (j5 d5 A0 v3) K0) y0) (J6 (ixE (M5 (Mv (gA cBf) (gA cBt) (L0 cBf cBt))) (z0 j4 g0 u3)) F6) J9)
def smL(R:List D->M D):Fs:=(ifS (tBn eqD (j5 j3 (j5 d5 A0 F4) K0) y0) (J6 (z0 (W2 R) g0 i0) x9) J9)
def smK(R:List D->M D):Fs:=(ifS (tBn eqD (j5 d5 A0 (cIn 16)) y0) (J6 (z0 (R8 R) g0 i0) TB) J9)
def smV:Fs:=(G9 (C2 (fnX 5 mE) (B5 O0 F3 A7 uD EO)))
def WC(R:List D->M D):Fs:=j9 (J6 (z0 j4 g0 (cIn 13)) S1) (gdQ (tBn eqD C0 (cIn 12)) (cSt "any") (gdQ (tBn eqD C0 dB) (C8 v6) (asQ (ixE (M5 (o0 y0 (o0 F4 (o0 (cIn 16) (o0 K0 (o0 v3 (o0 F4 (B5 (cIn 16) u3 (cIn 14) (cIn 21) (cIn 31))))))))) C0) A1 (j9 smD (asQ (C8 v6) (t4 5 (J4 T0 (J4 u4 (J4 F6 (J4 x9 (J4 TB (m4))))))) (j9 smN (j9 smT (j9 smB (j9 (smL R) (j9 (smK R) smV))))))))))
def R1:Nat->List D->M D
 |0=>λ_=>M.stuck
 |n+1=>v4 9 (WC (R1 n))
def M9:List D->M D:=R1 14
def V0:List D->M D:=M3 M9
def uK:List D->M D:=W2 M9
def sK:List D->M D:=R8 M9
def wiT:DSt->M Bool:=(B6 (tBn neD g0 (M5 B0)) (tBn ltD (j5 u0 (F0 t3 A0) (F0 t3 O0)) (cIn 16)))
def wiF:Fs:=(O5 (mtE u5 u9 A0 (x0 (z0 V0 g0 dB))))
def wiG:Fs:=(asQ (D0 U6 g0) u4 (J6 (nB F3 cBt (z0 V0 g0 dB)) (E8 O0 F3)))
def wiB:Fs:=(ifS (orT (tBn eqD i0 y0) (B6 (tBn eqD i0 u3) (tBn eqD (z0 j4 g0 K0) N0))) wiF wiG)
def wiP:Fs:=(ifS (tBn eqD C0 (cSt "any")) (J6 (C8 v6) F6) J9)
def wiL:Fs:=(ifS (tBn neD i0 K0) (J6 (L0 (F0 V6 A0) C0) x9) J9)
def wiR:Fs:=(ifS (tBn neD i0 y0) (J6 (L0 (F0 V6 (J8 (itW (F0 c9 O0)) [none,some 4] H0 (K7) (j5 ixG i0 g0))) (y2 (B5 (y2 B0) (L0 (cSt "of") (gA (cSt "a"))) (y2 B0) B2 B2))) TB) J9)
def wiV:Fs:=(G9 (j5 u0 (GA A7 (mB) (HA u3)) (L0 uD EO)))
def oD:Fs:=j9 (J6 (z0 j4 g0 v3) S0) (gdQ (tBn eqD i0 N0) (z0 M9 g0 (cIn 12)) (asQ (z0 M9 g0 dB) S1 (asQ (M5 B0) A1 (asQ (rC) T0 (j9 (KA wiT wiB) (asQ C0 F6 (j9 wiP (asQ (ixE A7 u3) x9 (asQ (ixE A7 v3) TB (j9 wiL (j9 wiR wiV)))))))))))
def GD:List D->M D:=v4 9 oD
def KL(R:List D->M D):Fs:=G9 (j5 u0 (j5 u0 (ixE g0 N0) (cSt ": ")) (D0 R (ixE g0 y0)))
def VD(R:List D->M D):List D->M D:=v4 1 (KL R)
def kH(R:List D->M D):Fs:=j9 (ifS (r6 (eA CA g0 (cE (.ty "bool")))) (G9 (ifE (r6 g0) (cSt "true") (cSt "false"))) J9) (gdQ (r6 (eA CA g0 (cE (.ty "int")))) (F0 D7 g0) (gdQ (r6 (eA CA g0 (cE (.ty "str")))) (j5 u0 (j5 u0 (cE (.str ("\"" :Str))) g0) (cE (.str ("\"" :Str)))) (gdQ (tBn eqD (ixE g0 N0) (cSt "list")) (j5 u0 (j5 u0 (cSt "[") (mtE R9 U8 (cSt ", ") (x0 (J8 (itW (ixE g0 y0)) [none] H0 (K7) (D0 R g0))))) (cSt "]")) (G9 (j5 u0 (j5 u0 (cSt "{") (mtE R9 U8 (cSt ", ") (x0 (J8 (itW (ixE g0 y0)) [none] H0 (K7) (D0 (VD R) g0))))) (cSt "}"))))))
def fG:Nat->List D->M D
 |0=>λ_=>M.stuck
 |n+1=>v4 1 (kH (fG n))
def N5:List D->M D:=fG 3
def cO:List D->M D:=VD N5
def MK:Fs:=G9 (ifE (tBn eqD (F0 t3 g0) K0) (M5 (x0 (cSt "truth"))) (J8 (itW g0) [none] H0 (K7) (D0 N5 g0)))
def rF:List D->M D:=v4 1 MK
def fN:Fs:=G9 (ifE (tBn aA g0 B2) (cSt "") (D0 N5 g0))
def R5:List D->M D:=v4 1 fN
def fP:Fs:=G9 (ifE (tBn eqD g0 i0) (D0 R5 g0) (j5 u0 (j5 u0 (D0 R5 g0) (cSt "..")) (D0 R5 i0)))
def U9:List D->M D:=v4 2 fP
def OI:Fs:=G9 (ifE (tBn eqD g0 (gA (L0 B2 B2))) (M5 (x0 (cSt "number"))) (J8 (itW g0) [none,none] (t4 2 (J4 H0 (J4 S0 (m4)))) (K7) (z0 U9 g0 i0)))
def W7:List D->M D:=v4 1 OI
def mK:Fs:=j9 (J6 (J8 (itW (ixE g0 y0)) [none] H0 (K7) (D0 N5 g0)) S0) (gdQ (tBn eqD (ixE g0 N0) (cSt "of")) i0 (G9 (ifE (r6 i0) (M5 (x0 (mtE R9 U8 (cSt " ") (x0 (j5 u0 (M5 (x0 (cSt "text but"))) i0))))) (M5 (x0 (cSt "text"))))))
def ID:List D->M D:=v4 2 mK
def TF(R:List D->M D):Fs:=j9 (J6 (D0 R g0) S0) (G9 (ifE (tBn eqD (F0 t3 i0) y0) (ixE i0 N0) (j5 u0 (j5 u0 (cSt "(") (mtE R9 U8 (cSt " or ") (x0 i0))) (cSt ")"))))
def K3(R:List D->M D):List D->M D:=v4 2 (TF R)
def lG(R:List D->M D):Fs:=G9 (ifE (tBn eqD g0 (cE (.tup [.tup [],.tup [.str ("of" :Str),.tup []],.tup [],.non,.non]))) (M5 B0) (M5 (x0 (j5 u0 (cSt ".. ") (D0 (K3 R) g0)))))
def R6(R:List D->M D):List D->M D:=v4 1 (lG R)
def uI(R:List D->M D):Fs:=j9 (ifS (tBn aA g0 B2) (G9 (M5 B0)) J9) (G9 (M5 (x0 (j5 u0 (j5 u0 (cSt "[") (mtE R9 U8 (cSt ", ") (x0 (j5 u0 (J8 (itW (ixE g0 N0)) [none] H0 (K7) (D0 (K3 R) g0)) (D0 (R6 R) (ixE g0 y0)))))) (cSt "]")))))
def W0(R:List D->M D):List D->M D:=v4 1 (uI R)
def AH(R:List D->M D):Fs:=j9 (ifS (tBn aA g0 B2) (G9 (M5 B0)) J9) (asQ (J8 (itW (ixE g0 N0)) [none,none,none] (t4 3 (J4 H0 (J4 S0 (J4 S1 (m4))))) (K7) (j5 u0 (j5 u0 g0 (ifE (r6 i0) (cSt ": ") (cSt "?: "))) (D0 (K3 R) C0))) S0 (G9 (M5 (x0 (j5 u0 (j5 u0 (cSt "{") (mtE R9 U8 (cSt ", ") (x0 (j5 u0 i0 (D0 (R6 R) (ixE g0 y0)))))) (cSt "}"))))))
def R7(R:List D->M D):List D->M D:=v4 2 (AH R)
def pE(R:List D->M D):Fs:=j9 (ifS (tBn eqD g0 (cSt "any")) (G9 (M5 (x0 (cSt "any")))) J9) (gdQ (tBn eqD g0 (cE (.tup [.tup [],.tup [.str ("of" :Str),.tup []],.tup [],.non,.non]))) (M5 (x0 (cSt "nothing"))) (G9 (j5 u0 (j5 u0 (j5 u0 (j5 u0 (D0 W7 (ixE g0 N0)) (D0 ID (ixE g0 y0))) (D0 rF (ixE g0 K0))) (D0 (W0 R) (ixE g0 u3))) (D0 (R7 R) (ixE g0 v3)))))
def qC:Nat->List D->M D
 |0=>λ_=>M.stuck
 |n+1=>v4 1 (pE (qC n))
def U4:List D->M D:=qC 14
def sN:List D->M D:=K3 U4
def KK:List D->M D:=R6 U4
def eM:List D->M D:=W0 U4
def GJ:List D->M D:=R7 U4
def oI:Fs:=G9 (mtE R9 U8 (cSt " or ") (x0 (D0 U4 g0)))
def SE:List D->M D:=v4 1 oI
def D1:Fs:=(asQ (j5 j3 (j5 i3 (j5 j3 (j5 u0 (j5 u0 A0 (j5 i3 (cIn 7919) C0)) u3) (cIn 2147483647)) (cIn 48271)) (cIn 2147483647)) T0 (asQ (j5 j3 (j5 i3 O0 O0) (cIn 2147483629)) T0 (j9 (O5 (mtE u5 u9 i0 (x0 (j5 j3 (j5 d5 O0 (cIn 16)) (cIn 1000))))) (j9 (O5 (mtE u5 u9 i0 (x0 (j5 j3 (j5 d5 O0 (cIn 16000)) (cIn 1000))))) (asQ (j5 j3 (j5 u0 O0 (j5 i3 (cIn 40692) (j5 u0 C0 BO))) (cIn 2147483587)) T0 (O5 (mtE u5 u9 i0 (x0 (j5 j3 (j5 d5 (j5 j3 (j5 i3 O0 O0) (cIn 2147483647)) (cIn 16)) (cIn 1000))))))))))
def WT1:DSt->M Bool:=(B6 (tBn geD A0 (cIn 1000)) (tBn ltD F3 (cIn 60)))
def WB1:Fs:=(j9 (O5 (mtE u5 u9 i0 (x0 (j5 j3 A0 (cIn 1000))))) (asQ (j5 d5 A0 (cIn 1000)) A1 (J6 (j5 u0 F3 y0) u4)))
def D2:Fs:=(asQ N0 u4 (KA WT1 WB1))
def DB:Fs:=(asQ (F0 tB (ixE g0 C0)) A1 (ifS (tBn ltD A0 (j5 E3 P5 (cIn 18))) D1 D2))
def aI:Fs:=j9 (J6 (M5 B0) S0) (j9 (L3 (T4 (x0 (eA eB (F0 t3 g0) (cIn 80)))) S1 DB) (G9 (GA i0 (mB) (HA (cIn 240)))))
def V5:List D->M D:=v4 6 aI
def BN:Fs:=j9 (ifS (B6 (tBn aA g0 B2) (tBn aA i0 B2)) (G9 (cSt "number")) J9) (gdQ (tBn aA g0 B2) (j5 u0 (cSt "..") (F0 D7 i0)) (gdQ (tBn aA i0 B2) (j5 u0 (F0 D7 g0) (cSt "..")) (gdQ (tBn eqD g0 i0) (F0 D7 g0) (G9 (j5 u0 (j5 u0 (F0 D7 g0) (cSt "..")) (F0 D7 i0))))))
def K5:List D->M D:=v4 2 BN
def fwX:Fe:=(J8 (itW (ixE i0 y0)) [none] H0 (K7) (j5 u0 (j5 u0 (cE (.str ("\"" :Str))) g0) (cE (.str ("\"" :Str)))))
def fwA:Fs:=(ifS (tBn eqD (ixE i0 N0) (cSt "of")) (J6 (j5 u0 A0 O0) A1) (ifS (tBn eqD O0 (M5 B0)) (O5 (mtE u5 u9 A0 (x0 (cSt "text")))) (O5 (mtE u5 u9 A0 (x0 (j5 u0 (cSt "text but ") (mtE R9 U8 (cSt " ") (x0 O0))))))))
def fwB:Fs:=(ifS (tBn eqD C0 (L0 cBf cBt)) (O5 (mtE u5 u9 A0 (x0 (cSt "truth")))) (ifS (tBn neD C0 (y2 B0)) (O5 (mtE u5 u9 A0 (x0 (ixE (M5 (TD (cSt "false") (cSt "true"))) (F0 OE (j5 eqD C0 (gA cBt))))))) J9))
def Q5:Fs:=j9 (J6 (J8 (itW g0) [none,none] (t4 2 (J4 H0 (J4 S0 (m4)))) (K7) (z0 K5 g0 i0)) A1) (asQ fwX T0 (j9 fwA (j9 fwB (G9 A0))))
def N7:List D->M D:=v4 5 Q5
def HG(R:List D->M D):Fs:=j9 (J6 (D0 R g0) S1) (gdQ (B6 (r6 i0) (tBn gtD (F0 t3 C0) y0)) (j5 u0 (j5 u0 (cSt "(") (mtE R9 U8 (cSt " or ") (x0 C0))) (cSt ")")) (G9 (mtE R9 U8 (cSt " or ") (x0 C0))))
def K1(R:List D->M D):List D->M D:=v4 3 (HG R)
def neA(R:List D->M D):Fs:=(ifS (tBn neD C0 (C8 v6)) (O5 (mtE u5 u9 O0 (x0 (j5 u0 (cSt ".. ") (z0 (K1 R) C0 cBt))))) J9)
def S6(R:List D->M D):Fs:=j9 (J6 (F0 oA i0) T0) (j9 (neA R) (G9 (j5 u0 (j5 u0 g0 (mtE R9 U8 (cSt ", ") (x0 O0))) A0)))
def J1(R:List D->M D):List D->M D:=v4 5 (S6 R)
def lwC(R:List D->M D):Fs:=(O5 (mtE u5 u9 A0 (x0 (j5 u0 (j5 u0 O0 (ixE (M5 (TD (cSt "?: ") (cSt ": "))) (F0 OE F3))) (z0 (K1 R) A7 cBt)))))
def V8(R:List D->M D):Fs:=j9 (ifS (tBn eqD g0 (cSt "any")) (G9 (M5 (x0 (cSt "any")))) J9) (gdQ (tBn eqD g0 (C8 v6)) (M5 (x0 (cSt "nothing"))) (asQ (GK N7 (ixE g0 N0) (ixE g0 y0) (ixE g0 K0)) S0 (j9 (ifS (tBn FC (ixE g0 u3) B2) (asQ (J8 (itW (ixE (ixE g0 u3) N0)) [none] H0 (K7) (z0 (K1 R) g0 cBt)) S1 (O5 (mtE u5 u9 i0 (x0 (WE (J1 R) (cSt "[") C0 (ixE (ixE g0 u3) y0) (cSt "]")))))) J9) (j9 (ifS (tBn FC (ixE g0 v3) B2) (asQ (M5 B0) A1 (j9 (L3 (itW (ixE (ixE g0 v3) N0)) (t4 3 (J4 T0 (J4 u4 (J4 F6 (m4))))) (lwC R)) (O5 (mtE u5 u9 i0 (x0 (WE (J1 R) (cSt "{") A0 (ixE (ixE g0 v3) y0) (cSt "}"))))))) J9) (G9 i0)))))
def V7:Nat->List D->M D
 |0=>λ_=>M.stuck
 |n+1=>v4 7 (V8 (V7 n))
def sD:List D->M D:=V7 14
def rE:List D->M D:=K1 sD
def kJ:List D->M D:=J1 sD
def sG:Fs:=j9 (J6 (D0 GD (D0 V5 g0)) S0) (asQ (D0 SE i0) S1 (G9 (nF (eA CA C0 (cE (.ty "str"))) (j5 eqD C0 (z0 rE i0 cBf)))))
def RF:List D->M D:=v4 3 sG
local macro_rules | `(tactic| walk_at "cl") => `(tactic| (refine ⟨?k, ?kk, ?a, ?b, ?c⟩; (case a => first | (dsimp only [Cx.nox, g7]; with_reducible assumption) | assumption); (case b => assumption); (case c => first | decide | omega)))
local macro_rules | `(tactic| walk_at "ck") => `(tactic| (refine ⟨?k, ?kk, ?kkk, ?a, ?b, ?c, ?d⟩; (case a => assumption); (case b => rfl); (case c => rfl); (case d => decide +kernel)))
local macro_rules | `(tactic| walk_at "od") => `(tactic| first
 |with_reducible exact GQ
 |with_reducible exact Lz
 |with_reducible exact aR
 |with_reducible exact RQ
 |with_reducible exact pU
 |with_reducible exact vh
 |with_reducible exact Cw
 |with_reducible exact GV
 |with_reducible exact dX
 |with_reducible exact oP
 |with_reducible exact Mb
 |((with_reducible refine Gc ?_);exact Q7.units (by assumption))
 |((with_reducible refine qZ ?_);exact Q7.units (by assumption))
 |((with_reducible refine KW ?_);exact Q7.units (by assumption))
 |((with_reducible refine cZ ?_);exact Q7.units (by assumption))
 |((with_reducible refine IR ?_);exact Q7.units (by assumption)))
local macro_rules | `(tactic| walk_at "bd") => `(tactic| first
 |with_reducible exact fS
 |with_reducible exact MZ
 |with_reducible exact Kf
 |with_reducible exact tX
 |with_reducible exact qz
 |with_reducible exact iV
 |with_reducible exact Lb
 |with_reducible exact mQ
 |with_reducible exact Gv
 |with_reducible exact oQ
 |with_reducible exact lU
 |with_reducible exact BZ)
local macro_rules | `(tactic| walk_at "da") => `(tactic| first
 |with_reducible exact EV
 |((with_reducible refine rQ ?_ ?_ ?_);walk_at "de";walk_at "da";rfl))
local macro_rules | `(tactic| walk_at "do") => `(tactic| first
 |with_reducible exact OS
 |((with_reducible refine cV ?_);walk_at "de"))
local macro_rules | `(tactic| walk_at "pk") => `(tactic| first | exact cS | ((apply hU); walk_at "pk"; walk_at "pk"; (unfold u7; decide); rfl) | ((apply qR); walk_at "pk"; walk_at "pk"; rfl))
local macro_rules | `(tactic| walk_at "de") => `(tactic| first
 |with_reducible exact bW
 |with_reducible exact GT
 |with_reducible exact Hx
 |with_reducible exact VS
 |((with_reducible refine NT _ ?_ ?_ ?_ ?_);rfl;(first|exact Or.inl rfl|exact Or.inr (Or.inl rfl)|exact Or.inr (Or.inr rfl));decide;decide)
 |((with_reducible refine oY ?_ ?_ ?_ ?_ ?_ ?_);assumption;decide;decide +kernel;rfl;decide;decide)
 |((with_reducible refine Dx ?_ ?_ ?_);assumption;rfl;decide)
 |((with_reducible refine Bd ?_ ?_ ?_);walk_at "od";walk_at "de";walk_at "de")
 |((with_reducible refine wj CU ?_);walk_at "de")
 |((with_reducible refine mX ?_ ?_ ?_ ?_);walk_at "od";walk_at "de";walk_at "de";with_unfolding_all rfl)
 |((with_reducible refine ER ?_);walk_at "de")
 |((with_reducible refine bR ?_ ?_);walk_at "de";walk_at "de")
 |((with_reducible refine NR ?_ ?_ ?_);walk_at "dt";walk_at "de";walk_at "de")
 |((with_reducible refine wP ?_);walk_at "da")
 |((with_reducible refine pS ?_);walk_at "da")
 |with_reducible exact kS
 |((with_reducible refine GU ?_ ?_ ?_);walk_at "de";walk_at "do";walk_at "do")
 |((with_reducible refine lW ?_ ?_ ?_);walk_at "de";walk_at "de";exact λ_ _=>rfl)
 |((with_reducible refine aY ?_ ?_ ?_);walk_at "de";walk_at "de";exact λ_ _=>rfl)
 |((with_reducible refine kU ?_ ?_ ?_ ?_ ?_);walk_at "cl";rfl;walk_at "da";decide;rfl)
 |((with_reducible refine SS ?_ ?_ ?_);walk_at "cl";rfl;decide)
 |((with_reducible refine kW ?_ ?_ ?_ ?_ ?_ ?_ ?_);exact Q7.units (by assumption);rfl;assumption;rfl;rfl;walk_at "de";rfl)
 |((with_reducible refine lZ ?_ ?_ ?_ ?_ ?_ ?_ ?_ ?_ ?_);rfl;walk_at "bd";assumption;decide +kernel;rfl;walk_at "da";decide;decide;rfl)
 |((with_reducible refine IN Jk PySem.F.type_list_append gP ?_ ?_ ?_ ?_ ?_ ?_ ?_);walk_at "de";walk_at "da";rfl;rfl;rfl;exact y8 rfl;rfl)
 |((with_reducible refine IN JU PySem.F.type_list_pop aU ?_ ?_ ?_ ?_ ?_ ?_ ?_);walk_at "de";walk_at "da";rfl;rfl;rfl;exact y8 rfl;rfl)
 |((with_reducible refine QZ PySem.F.slot_str_join PySem.F.type_str_join Hq ?_ ?_ ?_ ?_ ?_ ?_ ?_);walk_at "de";walk_at "da";rfl;rfl;rfl;exact y8 rfl;rfl)
 |((with_reducible refine OX ?_ ?_ ?_ ?_ ?_ ?_ ?_ ?_);rfl;walk_at "di";walk_at "ck";decide +kernel;(intro _ _ _ _ _;walk_at "dg");(intro _ _ _ _;walk_at "dts");(intro _ _ _ _;walk_at "de");exact λ_=>rfl))
local macro_rules | `(tactic| walk_at "dt") => `(tactic| first
 |((with_reducible refine DW.dt ?_);walk_at "dw")
 |((with_reducible refine qP ?_ ?_ ?_ ?_);walk_at "od";walk_at "de";walk_at "de";with_unfolding_all rfl)
 |((with_reducible refine rS ?_ ?_);walk_at "de";exact λ_=>rfl))
local macro_rules | `(tactic| walk_at "dw") => `(tactic| first
 |((with_reducible refine pP ?_);walk_at "dt")
 |((with_reducible refine kZ ?_);walk_at "dt")
 |((with_reducible refine lT ?_ ?_);walk_at "dt";walk_at "dw")
 |((with_reducible refine wZ ?_ ?_);walk_at "dt";walk_at "dw"))
local macro_rules | `(tactic| walk_at "dts") => `(tactic| first
 |with_reducible exact IY
 |((with_reducible refine BR ?_);walk_at "dt"))
local macro_rules | `(tactic| walk_at "di") => `(tactic| first
 |((with_reducible refine cX ?_ ?_ ?_ ?_);assumption;rfl;walk_at "da";rfl)
 |((with_reducible refine FV ?_);walk_at "de"))
local macro_rules | `(tactic| walk_at "dg") => `(tactic| first
 |((with_reducible refine nX ?_ ?_ ?_ ?_);exact⟨_,_,_, ‹U3 _ _ _›,rfl⟩;rfl;(first|exact Or.inl rfl|exact Or.inr rfl);(first|exact .inl rfl|exact .inr rfl))
 |((with_reducible refine lL ?_ ?_ ?_ ?_);assumption;rfl;(first|exact Or.inl rfl|exact Or.inr rfl);(first|exact .inl rfl|exact .inr rfl))
 |((with_reducible refine LZ ?_ ?_ ?_ ?_);rfl;walk_at "dgs";rfl;rfl)
 |((with_reducible refine Dd ?_ ?_ ?_ ?_);exact Q7.units (by assumption);walk_at "de";walk_at "de";exact λ_=>rfl))
local macro_rules | `(tactic| walk_at "dgs") => `(tactic| first
 |with_reducible exact CQ
 |((with_reducible refine cW ?_ ?_ ?_);walk_at "dg";walk_at "dgs";rfl))
local macro_rules | `(tactic| walk_at "ds") => `(tactic| first
 |((with_reducible refine vw ?_);walk_at "de")
 |((with_reducible refine AZ ?_ ?_ ?_);walk_at "dt";walk_at "db";walk_at "db")
 |((with_reducible refine Ff ?_ ?_ ?_ ?_ ?_ ?_ ?_ ?_ ?_ ?_);rfl;walk_at "di";walk_at "ck";decide +kernel;(intro _ _ _ _ _;walk_at "dg");(intro _ _ _ _;walk_at "dts");(intro _ _ _ _;walk_at "de");(exact λ_=>rfl);walk_at "dg";rfl)
 |((with_reducible refine vq ?_ ?_ ?_ ?_ ?_);walk_at "de";walk_at "dg";rfl;rfl;rfl)
 |((with_reducible refine hW ?_ ?_);walk_at "de";rfl)
 |((with_reducible refine OT ?_ ?_ ?_ ?_ ?_ ?_);exact Ju;rfl;walk_at "di";walk_at "dg";walk_at "db";exact λ_=>rfl)
 |((with_reducible refine vc ?_ ?_ ?_);exact Ju;walk_at "dt";walk_at "db"))
local macro_rules | `(tactic| walk_at "db") => `(tactic| first
 |with_reducible exact Kx
 |((with_reducible refine SJ ?_);walk_at "ds")
 |((with_reducible refine vN ?_ ?_);walk_at "ds";walk_at "db"))
local macro_rules | `(tactic| walk_at "db0") => `(tactic| first
 |(refine SJ ?_;walk_at "ds")
 |(refine vN ?_ ?_;walk_at "ds";walk_at "db"))
set_option maxHeartbeats 2000000
local macro_rules | `(tactic| walk_at "sc") => `(tactic| exact ⟨rfl, rfl, rfl, by decide +kernel, rfl, by decide +kernel, by decide +kernel⟩)
local macro_rules | `(tactic| walk_at "ba") => `(tactic| (intro _ _ _ _ _ _ us h; (repeat (have q := qc h; clear h; obtain ⟨_, _, e, h⟩ := q; subst e)); cases List.eq_nil_of_length_eq_zero h; rfl))
abbrev OM:D:=.tup [.tup [],.tup [.str ("of" :Str),.tup []],.tup [],.non,.non]
abbrev UN:D:=.str ("any" :Str)
structure BC(K:zg)(mg:Str->Option zi):Prop where
 b:BLs mg
 c_NOTHING:CD K mg "NOTHING" OM
 c_ANY:CD K mg "ANY" UN
local macro_rules | `(tactic| walk_at "s1") => `(tactic| (walk_at "sc"; walk_at "ba"; (intro _ _ _ _ _ _ _ _ _; obtain ⟨_, _, _⟩ := (‹_› : BC _ _); skip)))
def top(i:Nat):Stmt:=PySem.Challenge.pw_allmeet_k42_lists_and_records_in_words.main.body.getD i (.Pass ⟨0,0,0,0⟩)
section
variable{E:Ev}(zx:EvX E)(zb:BC E.K E.mg)
include zx zb
theorem QY(Y:FH E.K "_law_take" (top 19)):Ck E j4 2 "_law_take" 1:=by refine Q9 ["draws", "many"] ["draws", "many"] zx Y ?_ ?_ rfl rfl ?_;walk_at "s1";unfold LF;walk_at "db0"
variable(k0:Ck E j4 2 "_law_take" 1)
theorem Gx(Y:FH E.K "_law_nothing" (top 28)):Ck E v6 0 "_law_nothing" 1:=by refine Q9 [] [] zx Y ?_ ?_ rfl rfl ?_;walk_at "s1";unfold EM;walk_at "db0"
variable(k1:Ck E v6 0 "_law_nothing" 1)
include k0 in
theorem QQ(Y:FH E.K "_law_word" (top 21)):Ck E U7 1 "_law_word" 2:=by refine Q9 ["draws", "way", "some", "size", "word", "k"] ["draws"] zx Y ?_ ?_ rfl rfl ?_;walk_at "s1";unfold cD;unfold woA woR woL woB;walk_at "db0"
variable(k2:Ck E U7 1 "_law_word" 2)
include k2 in
theorem CS(Y:FH E.K "_law_name" (top 22)):Ck E U6 1 "_law_name" 3:=by refine Q9 ["draws", "word"] ["draws"] zx Y ?_ ?_ rfl rfl ?_;walk_at "s1";unfold tI;walk_at "db0"
variable(k3:Ck E U6 1 "_law_name" 3)
theorem qX(Y:FH E.K "_law_made" (top 29)):Ck E mE 5 "_law_made" 1:=by refine Q9 ["numbers", "texts", "truths", "lists", "records"] ["numbers", "texts", "truths", "lists", "records"] zx Y ?_ ?_ rfl rfl ?_;walk_at "s1";unfold iH;walk_at "db0"
variable(k4:Ck E mE 5 "_law_made" 1)
theorem KZ(Y:FH E.K "_law_end" (top 23)):Ck E QC 1 "_law_end" 1:=by refine Q9 ["number"] ["number"] zx Y ?_ ?_ rfl rfl ?_;walk_at "s1";unfold NJ;walk_at "db0"
variable(k5:Ck E QC 1 "_law_end" 1)
include k5 in
theorem Cz(Y:FH E.K "_law_joined" (top 24)):Ck E T7 1 "_law_joined" 2:=by refine Q9 ["pairs", "found", "low", "high"] ["pairs"] zx Y ?_ ?_ rfl rfl ?_;walk_at "s1";unfold Z8;unfold LB LE;walk_at "db0"
variable(k6:Ck E T7 1 "_law_joined" 2)
include k0 in
theorem km(Y:FH E.K "_law_number" (top 20)):Ck E Q3 1 "_law_number" 2:=by refine Q9 ["draws", "way", "small", "large", "k"] ["draws"] zx Y ?_ ?_ rfl rfl ?_;walk_at "s1";unfold MD;unfold N2 N1 N3 NB;walk_at "db0"
variable(k7:Ck E Q3 1 "_law_number" 2)
include k0 k6 k7 in
theorem wY(Y:FH E.K "_law_numbers" (top 25)):Ck E V1 1 "_law_numbers" 3:=by refine Q9 ["draws", "many", "ends", "pairs", "k", "way"] ["draws"] zx Y ?_ ?_ rfl rfl ?_;walk_at "s1";unfold V9;unfold nuM nuL nuH nuB nuA nuS nuE;walk_at "db0"
variable(k8:Ck E V1 1 "_law_numbers" 3)
theorem AQ(Y:FH E.K "_law_ranked" (top 26)):Ck E Z6 1 "_law_ranked" 1:=by refine Q9 ["words"] ["words"] zx Y ?_ ?_ rfl rfl ?_;walk_at "s1";unfold gE;unfold rkC;walk_at "db0"
variable(k9:Ck E Z6 1 "_law_ranked" 1)
include k0 k2 k9 in
theorem SV(Y:FH E.K "_law_texts" (top 27)):Ck E gD 1 "_law_texts" 3:=by refine Q9 ["draws", "many", "some"] ["draws"] zx Y ?_ ?_ rfl rfl ?_;walk_at "s1";unfold oF;unfold dtA dtC dtB;walk_at "db0"
variable(k10:Ck E gD 1 "_law_texts" 3)
include k1 in
theorem WJ{R:List D->M D}{lv:Nat}(kR:Ck E R 2 "_law_some" lv)(h2:3<=lv)(Y:FH E.K "_law_front" (top 30)):Ck E (M3 R) 2 "_law_front" (lv+1):=by refine Q9 ["draws", "deep", "some"] ["draws", "deep"] zx Y ?_ ?_ rfl rfl ?_;walk_at "s1";unfold pH;walk_at "db0"
include k0 in
theorem nM{R:List D->M D}{lv:Nat}(kR:Ck E R 2 "_law_some" lv)(h12:Ck E (M3 R) 2 "_law_front" (lv+1))(h2:3<=lv)(Y:FH E.K "_law_lists" (top 31)):Ck E (W2 R) 2 "_law_lists" (lv+2):=by refine Q9 ["draws", "deep", "many", "fronts"] ["draws", "deep"] zx Y ?_ ?_ rfl rfl ?_;walk_at "s1";unfold WH;unfold rcM;walk_at "db0"
include k0 k3 in
theorem RK{R:List D->M D}{lv:Nat}(kR:Ck E R 2 "_law_some" lv)(h12:Ck E (M3 R) 2 "_law_front" (lv+1))(h2:3<=lv)(Y:FH E.K "_law_records" (top 32)):Ck E (R8 R) 2 "_law_records" (lv+2):=by refine Q9 ["draws", "deep", "many", "found", "k", "name", "more", "fields"] ["draws", "deep"] zx Y ?_ ?_ rfl rfl ?_;walk_at "s1";unfold V2;unfold rcM flT;walk_at "db0"
include k0 k1 k4 k8 k10 in
theorem sU{R:List D->M D}{lv:Nat}(kR:Ck E R 2 "_law_some" lv)(h13:Ck E (W2 R) 2 "_law_lists" (lv+2))(h14:Ck E (R8 R) 2 "_law_records" (lv+2))(h2:3<=lv)(Y:FH E.K "_law_some" (top 33)):Ck E (v4 9 (WC R)) 2 "_law_some" (lv+3):=by refine Q9 ["draws", "deep", "way", "mask", "numbers", "texts", "truths", "lists", "records"] ["draws", "deep"] zx Y ?_ ?_ rfl rfl ?_;walk_at "s1";unfold WC;unfold smB smL smK smT smN smV smD;walk_at "db0"
section
variable(Y:FH E.K "_law_some" (top 33))(Y12:FH E.K "_law_front" (top 30))(Y13:FH E.K "_law_lists" (top 31))(Y14:FH E.K "_law_records" (top 32))
include Y Y12 Y13 Y14 k0 k1 k3 k4 k8 k10
theorem HM:∀n,Ck E (R1 n) 2 "_law_some" (3+3*n)
 |0=>kD ["draws", "deep"] zx Y (by walk_at "ba") rfl
 |n+1=>by have kR:=HM n;have h12:=WJ zx zb k1 kR (jq _ _) Y12;have h13:=nM zx zb k0 kR h12 (jq _ _) Y13;have h14:=RK zx zb k0 k3 kR h12 (jq _ _) Y14;exact sU zx zb k0 k1 k4 k8 k10 kR h13 h14 (jq _ _) Y
end
include k0 k1 k3 k4 k8 k10 in
theorem VY(Y:FH E.K "_law_some" (top 33))(Y12:FH E.K "_law_front" (top 30))(Y13:FH E.K "_law_lists" (top 31))(Y14:FH E.K "_law_records" (top 32)):Ck E M9 2 "_law_some" 45:=HM zx zb k0 k1 k3 k4 k8 k10 Y Y12 Y13 Y14 14
variable(k11:Ck E M9 2 "_law_some" 45)
include k1 k11 in
theorem fV(Y:FH E.K "_law_front" (top 30)):Ck E V0 2 "_law_front" 46:=WJ zx zb k1 k11 (by decide) Y
variable(k12:Ck E V0 2 "_law_front" 46)
include k0 k11 k12 in
theorem KQ(Y:FH E.K "_law_lists" (top 31)):Ck E uK 2 "_law_lists" 47:=nM zx zb k0 k11 k12 (by decide) Y
variable(k13:Ck E uK 2 "_law_lists" 47)
include k0 k3 k11 k12 in
theorem IT(Y:FH E.K "_law_records" (top 32)):Ck E sK 2 "_law_records" 47:=RK zx zb k0 k3 k11 k12 (by decide) Y
variable(k14:Ck E sK 2 "_law_records" 47)
include k0 k1 k3 k11 k12 in
theorem wU(Y:FH E.K "_law_wide" (top 34)):Ck E GD 1 "_law_wide" 47:=by refine Q9 ["draws", "way", "some", "fronts", "fields", "name", "parts", "lists", "records"] ["draws"] zx Y ?_ ?_ rfl rfl ?_;walk_at "s1";unfold oD;unfold wiB wiF wiG wiR wiT wiL wiP wiV;walk_at "db0"
variable(k15:Ck E GD 1 "_law_wide" 47)
theorem HJ{R:List D->M D}{lv:Nat}(kR:Ck E R 1 "show_value" lv)(h2:0<=lv)(Y:FH E.K "show_pair" (top 4)):Ck E (VD R) 1 "show_pair" (lv+1):=by refine Q9 ["pair"] ["pair"] zx Y ?_ ?_ rfl rfl ?_;walk_at "s1";unfold KL;walk_at "db0"
theorem uP{R:List D->M D}{lv:Nat}(kR:Ck E R 1 "show_value" lv)(h17:Ck E (VD R) 1 "show_pair" (lv+1))(h2:0<=lv)(Y:FH E.K "show_value" (top 3)):Ck E (v4 1 (kH R)) 1 "show_value" (lv+2):=by refine Q9 ["value"] ["value"] zx Y ?_ ?_ rfl rfl ?_;walk_at "s1";unfold kH;walk_at "db0"
section
variable(Y:FH E.K "show_value" (top 3))(Y17:FH E.K "show_pair" (top 4))
include Y Y17
theorem iM:∀n,Ck E (fG n) 1 "show_value" (0+2*n)
 |0=>kD ["value"] zx Y (by walk_at "ba") rfl
 |n+1=>by have kR:=iM n;have h17:=HJ zx zb kR (jq _ _) Y17;exact uP zx zb kR h17 (jq _ _) Y
end
theorem LP(Y:FH E.K "show_value" (top 3))(Y17:FH E.K "show_pair" (top 4)):Ck E N5 1 "show_value" 6:=iM zx zb Y Y17 3
variable(k16:Ck E N5 1 "show_value" 6)
include k16 in
theorem tZ(Y:FH E.K "show_pair" (top 4)):Ck E cO 1 "show_pair" 7:=HJ zx zb k16 (by decide) Y
variable(k17:Ck E cO 1 "show_pair" 7)
include k16 in
theorem VW(Y:FH E.K "truth_words" (top 12)):Ck E rF 1 "truth_words" 7:=by refine Q9 ["truths"] ["truths"] zx Y ?_ ?_ rfl rfl ?_;walk_at "s1";unfold MK;walk_at "db0"
variable(k18:Ck E rF 1 "truth_words" 7)
include k16 in
theorem NW(Y:FH E.K "show_end" (top 10)):Ck E R5 1 "show_end" 7:=by refine Q9 ["number"] ["number"] zx Y ?_ ?_ rfl rfl ?_;walk_at "s1";unfold fN;walk_at "db0"
variable(k19:Ck E R5 1 "show_end" 7)
include k19 in
theorem uZ(Y:FH E.K "show_stretch" (top 9)):Ck E U9 2 "show_stretch" 8:=by refine Q9 ["low", "high"] ["low", "high"] zx Y ?_ ?_ rfl rfl ?_;walk_at "s1";unfold fP;walk_at "db0"
variable(k20:Ck E U9 2 "show_stretch" 8)
include k20 in
theorem Dg(Y:FH E.K "number_words" (top 8)):Ck E W7 1 "number_words" 9:=by refine Q9 ["numbers"] ["numbers"] zx Y ?_ ?_ rfl rfl ?_;walk_at "s1";unfold OI;walk_at "db0"
variable(k21:Ck E W7 1 "number_words" 9)
include k16 in
theorem MS(Y:FH E.K "text_words" (top 11)):Ck E ID 1 "text_words" 7:=by refine Q9 ["texts", "words"] ["texts"] zx Y ?_ ?_ rfl rfl ?_;walk_at "s1";unfold mK;walk_at "db0"
variable(k22:Ck E ID 1 "text_words" 7)
theorem dJ{R:List D->M D}{lv:Nat}(kR:Ck E R 1 "words_of" lv)(h2:9<=lv)(Y:FH E.K "show_inner" (top 16)):Ck E (K3 R) 1 "show_inner" (lv+1):=by refine Q9 ["some", "words"] ["some"] zx Y ?_ ?_ rfl rfl ?_;walk_at "s1";unfold TF;walk_at "db0"
theorem gN{R:List D->M D}{lv:Nat}(kR:Ck E R 1 "words_of" lv)(h24:Ck E (K3 R) 1 "show_inner" (lv+1))(h2:9<=lv)(Y:FH E.K "show_more" (top 15)):Ck E (R6 R) 1 "show_more" (lv+2):=by refine Q9 ["more"] ["more"] zx Y ?_ ?_ rfl rfl ?_;walk_at "s1";unfold lG;walk_at "db0"
theorem kL{R:List D->M D}{lv:Nat}(kR:Ck E R 1 "words_of" lv)(h24:Ck E (K3 R) 1 "show_inner" (lv+1))(h25:Ck E (R6 R) 1 "show_more" (lv+2))(h2:9<=lv)(Y:FH E.K "list_words" (top 13)):Ck E (W0 R) 1 "list_words" (lv+3):=by refine Q9 ["lists"] ["lists"] zx Y ?_ ?_ rfl rfl ?_;walk_at "s1";unfold uI;walk_at "db0"
theorem sJ{R:List D->M D}{lv:Nat}(kR:Ck E R 1 "words_of" lv)(h24:Ck E (K3 R) 1 "show_inner" (lv+1))(h25:Ck E (R6 R) 1 "show_more" (lv+2))(h2:9<=lv)(Y:FH E.K "record_words" (top 14)):Ck E (R7 R) 1 "record_words" (lv+3):=by refine Q9 ["records", "fields"] ["records"] zx Y ?_ ?_ rfl rfl ?_;walk_at "s1";unfold AH;walk_at "db0"
include k18 k21 k22 in
theorem HY{R:List D->M D}{lv:Nat}(kR:Ck E R 1 "words_of" lv)(h26:Ck E (W0 R) 1 "list_words" (lv+3))(h27:Ck E (R7 R) 1 "record_words" (lv+3))(h2:9<=lv)(Y:FH E.K "words_of" (top 7)):Ck E (v4 1 (pE R)) 1 "words_of" (lv+4):=by refine Q9 ["some"] ["some"] zx Y ?_ ?_ rfl rfl ?_;walk_at "s1";unfold pE;walk_at "db0"
section
variable(Y:FH E.K "words_of" (top 7))(Y24:FH E.K "show_inner" (top 16))(Y25:FH E.K "show_more" (top 15))(Y26:FH E.K "list_words" (top 13))(Y27:FH E.K "record_words" (top 14))
include Y Y24 Y25 Y26 Y27 k18 k21 k22
theorem oN:∀n,Ck E (qC n) 1 "words_of" (9+4*n)
 |0=>kD ["some"] zx Y (by walk_at "ba") rfl
 |n+1=>by have kR:=oN n;have h24:=dJ zx zb kR (jq _ _) Y24;have h25:=gN zx zb kR h24 (jq _ _) Y25;have h26:=kL zx zb kR h24 h25 (jq _ _) Y26;have h27:=sJ zx zb kR h24 h25 (jq _ _) Y27;exact HY zx zb k18 k21 k22 kR h26 h27 (jq _ _) Y
end
include k18 k21 k22 in
theorem VR(Y:FH E.K "words_of" (top 7))(Y24:FH E.K "show_inner" (top 16))(Y25:FH E.K "show_more" (top 15))(Y26:FH E.K "list_words" (top 13))(Y27:FH E.K "record_words" (top 14)):Ck E U4 1 "words_of" 65:=oN zx zb k18 k21 k22 Y Y24 Y25 Y26 Y27 14
variable(k23:Ck E U4 1 "words_of" 65)
include k23 in
theorem EU(Y:FH E.K "show_inner" (top 16)):Ck E sN 1 "show_inner" 66:=dJ zx zb k23 (by decide) Y
variable(k24:Ck E sN 1 "show_inner" 66)
include k23 k24 in
theorem bU(Y:FH E.K "show_more" (top 15)):Ck E KK 1 "show_more" 67:=gN zx zb k23 k24 (by decide) Y
variable(k25:Ck E KK 1 "show_more" 67)
include k23 k24 k25 in
theorem Cv(Y:FH E.K "list_words" (top 13)):Ck E eM 1 "list_words" 68:=kL zx zb k23 k24 k25 (by decide) Y
variable(k26:Ck E eM 1 "list_words" 68)
include k23 k24 k25 in
theorem gW(Y:FH E.K "record_words" (top 14)):Ck E GJ 1 "record_words" 68:=sJ zx zb k23 k24 k25 (by decide) Y
variable(k27:Ck E GJ 1 "record_words" 68)
include k23 in
theorem fX(Y:FH E.K "show_set" (top 6)):Ck E SE 1 "show_set" 66:=by refine Q9 ["some"] ["some"] zx Y ?_ ?_ rfl rfl ?_;walk_at "s1";unfold oI;walk_at "db0"
variable(k28:Ck E SE 1 "show_set" 66)
theorem CW(Y:FH E.K "_law_draws" (top 18)):Ck E V5 1 "_law_draws" 1:=by refine Q9 ["script", "draws", "k", "rest", "stir", "many"] ["script"] zx Y ?_ ?_ rfl rfl ?_;walk_at "s1";unfold aI;unfold DB D1 D2 WT1 WB1;walk_at "db0"
variable(k29:Ck E V5 1 "_law_draws" 1)
theorem sT(Y:FH E.K "_law_stretch_shown" (top 35)):Ck E K5 2 "_law_stretch_shown" 1:=by refine Q9 ["low", "high"] ["low", "high"] zx Y ?_ ?_ rfl rfl ?_;walk_at "s1";unfold BN;walk_at "db0"
variable(k30:Ck E K5 2 "_law_stretch_shown" 1)
include k30 in
theorem GS(Y:FH E.K "_law_flat_words" (top 36)):Ck E N7 3 "_law_flat_words" 2:=by refine Q9 ["numbers", "texts", "truths", "words", "some"] ["numbers", "texts", "truths"] zx Y ?_ ?_ rfl rfl ?_;walk_at "s1";unfold Q5;unfold fwB fwA fwX;walk_at "db0"
variable(k31:Ck E N7 3 "_law_flat_words" 2)
theorem gL{R:List D->M D}{lv:Nat}(kR:Ck E R 1 "_law_words" lv)(h2:2<=lv)(Y:FH E.K "_law_shown" (top 39)):Ck E (K1 R) 2 "_law_shown" (lv+1):=by refine Q9 ["some", "inner", "words"] ["some", "inner"] zx Y ?_ ?_ rfl rfl ?_;walk_at "s1";unfold HG;walk_at "db0"
include k1 in
theorem LL{R:List D->M D}{lv:Nat}(kR:Ck E R 1 "_law_words" lv)(h33:Ck E (K1 R) 2 "_law_shown" (lv+1))(h2:2<=lv)(Y:FH E.K "_law_nest_word" (top 37)):Ck E (J1 R) 4 "_law_nest_word" (lv+2):=by refine Q9 ["first", "fronts", "more", "last", "some"] ["first", "fronts", "more", "last"] zx Y ?_ ?_ rfl rfl ?_;walk_at "s1";unfold S6;unfold neA;walk_at "db0"
include k1 k31 in
theorem HR{R:List D->M D}{lv:Nat}(kR:Ck E R 1 "_law_words" lv)(h33:Ck E (K1 R) 2 "_law_shown" (lv+1))(h34:Ck E (J1 R) 4 "_law_nest_word" (lv+2))(h2:2<=lv)(Y:FH E.K "_law_words" (top 38)):Ck E (v4 7 (V8 R)) 1 "_law_words" (lv+3):=by refine Q9 ["some", "words", "fronts", "fields", "name", "must", "one"] ["some"] zx Y ?_ ?_ rfl rfl ?_;walk_at "s1";unfold V8;unfold lwC;walk_at "db0"
section
variable(Y:FH E.K "_law_words" (top 38))(Y33:FH E.K "_law_shown" (top 39))(Y34:FH E.K "_law_nest_word" (top 37))
include Y Y33 Y34 k1 k31
theorem kN:∀n,Ck E (V7 n) 1 "_law_words" (2+3*n)
 |0=>kD ["some"] zx Y (by walk_at "ba") rfl
 |n+1=>by have kR:=kN n;have h33:=gL zx zb kR (jq _ _) Y33;have h34:=LL zx zb k1 kR h33 (jq _ _) Y34;exact HR zx zb k1 k31 kR h33 h34 (jq _ _) Y
end
include k1 k31 in
theorem vW(Y:FH E.K "_law_words" (top 38))(Y33:FH E.K "_law_shown" (top 39))(Y34:FH E.K "_law_nest_word" (top 37)):Ck E sD 1 "_law_words" 44:=kN zx zb k1 k31 Y Y33 Y34 14
variable(k32:Ck E sD 1 "_law_words" 44)
include k32 in
theorem Db(Y:FH E.K "_law_shown" (top 39)):Ck E rE 2 "_law_shown" 45:=gL zx zb k32 (by decide) Y
variable(k33:Ck E rE 2 "_law_shown" 45)
include k1 k32 k33 in
theorem pT(Y:FH E.K "_law_nest_word" (top 37)):Ck E kJ 4 "_law_nest_word" 46:=LL zx zb k1 k32 k33 (by decide) Y
variable(k34:Ck E kJ 4 "_law_nest_word" 46)
end
set_option maxHeartbeats 4000000 in
theorem all_mk{l:PySem.W.OpenLaw}{w:zT}{K:zg}{h:Heap}{mg:Str->Option zi}{fa:Addr}(X:K.In h)(G:h.Ns jr mg)(hfa:mg "law" =some (.ref fa))(Z0:FHs K top ["_law_take", "_law_nothing", "_law_word", "_law_name", "_law_made", "_law_end", "_law_joined", "_law_number", "_law_numbers", "_law_ranked", "_law_texts", "_law_some", "_law_front", "_law_lists", "_law_records", "_law_wide", "show_value", "show_pair", "truth_words", "show_end", "show_stretch", "number_words", "text_words", "words_of", "show_inner"] [19,28,21,22,29,23,24,20,25,26,27,33,30,31,32,34,3,4,12,10,9,8,11,7,16])(Z25:FHs K top ["show_more", "list_words", "record_words", "show_set", "_law_draws", "_law_stretch_shown", "_law_flat_words", "_law_words", "_law_shown", "_law_nest_word", "law"] [15,13,14,6,18,35,36,38,39,37,40])
 (g_NOTHING:CC K mg "NOTHING" OM)
 (g_ANY:CC K mg "ANY" UN)
 (z:∀b∈bltL,xL K jr b=some none) (pure:∀ns:List Int,ns.length<=63->∃G',RF [.ref 0] [.rol (ns.map D.int)]=some (.ok (.bl true),G')):
 ∃fd:xc,(∀(s:zm) (v:zi),Yb s fd ⟨[v], []⟩ [("script",v)])/\∀base:Heap,K.In base->base.Ns jr mg->U1 l.prog w K mg base CX0 67 fa fd ["script"] (dF K):=by
 obtain⟨Y0,Y1,Y2,Y3,Y4,Y5,Y6,Y7,Y8,Y9,Y10,Y11,Y12,Y13,Y14,Y15,Y16,Y17,Y18,Y19,Y20,Y21,Y22,Y23,Y24,_⟩:=Z0;obtain⟨Y25,Y26,Y27,Y28,Y29,Y30,Y31,Y32,Y33,Y34,Y35,_⟩:=Z25;have zb:BC K mg:=⟨BLs.of X G z,g_NOTHING.ok X G,g_ANY.ok X G⟩;refine NP (N:= ["script", "some", "shown"]) X G hfa Y35 (by walk_at "ba") (by walk_at "sc") rfl (λ_ _ _ _ _ _ s v=>.of_eq rfl) (λbase=>?_) pure;have zx:EvX ⟨l.prog,w,K,mg,base⟩:=⟨h,X,G⟩;have k0:=QY zx zb Y0;have k1:=Gx zx zb Y1;have k2:=QQ zx zb k0 Y2;have k3:=CS zx zb k2 Y3;have k4:=qX zx zb Y4;have k5:=KZ zx zb Y5;have k6:=Cz zx zb k5 Y6;have k7:=km zx zb k0 Y7;have k8:=wY zx zb k0 k6 k7 Y8;have k9:=AQ zx zb Y9;have k10:=SV zx zb k0 k2 k9 Y10;have k11:=VY zx zb k0 k1 k3 k4 k8 k10 Y11 Y12 Y13 Y14;have k12:=fV zx zb k1 k11 Y12;have k13:=KQ zx zb k0 k11 k12 Y13;have k14:=IT zx zb k0 k3 k11 k12 Y14;have k15:=wU zx zb k0 k1 k3 k11 k12 Y15;have k16:=LP zx zb Y16 Y17;have k17:=tZ zx zb k16 Y17;have k18:=VW zx zb k16 Y18;have k19:=NW zx zb k16 Y19;have k20:=uZ zx zb k19 Y20;have k21:=Dg zx zb k20 Y21;have k22:=MS zx zb k16 Y22;have k23:=VR zx zb k18 k21 k22 Y23 Y24 Y25 Y26 Y27;have k24:=EU zx zb k23 Y24;have k25:=bU zx zb k23 k24 Y25;have k26:=Cv zx zb k23 k24 k25 Y26;have k27:=gW zx zb k23 k24 k25 Y27;have k28:=fX zx zb k23 Y28;have k29:=CW zx zb Y29;have k30:=sT zx zb Y30;have k31:=GS zx zb k30 Y31;have k32:=vW zx zb k1 k31 Y32 Y33 Y34;have k33:=Db zx zb k32 Y33;have k34:=pT zx zb k1 k32 k33 Y34;intro _ _ _ _ _ _ _ _;obtain⟨_,_,_⟩:=zb;unfold sG;walk_at "db0"
mutual
def szD:D->Nat
 | .tup l=>1+szL l
 | .str _=>1
 | .ref _=>1
 | .fn _=>1
 | .ty _=>1
 | .non=>1
 | .bl _=>1
 | .int _=>1
def szL:List D->Nat
 |[]=>0
 |d::r=>szD d+szL r
end
abbrev AL:Str:= "list"
abbrev vP:Str:= "record"
def Ap(G G':DH):Prop:=∃t,G'=G++t
theorem Ap.refl:Ap G G:=⟨[],by simp⟩
theorem Ap.trans(h:Ap G G1)(k:Ap G1 G2):Ap G G2:=by obtain⟨t,rfl⟩:=h;obtain⟨u,rfl⟩:=k;exact⟨t++u,by simp⟩
theorem Ap.one:Ap G (G++[o]):=⟨_,rfl⟩
theorem Ap.at{p:Nat}(h:Ap G G')(e:G[p]? =some o):G'[p]? =some o:=by obtain⟨t,rfl⟩:=h;exact Q4 e
theorem Ap.len(h:Ap G G'):G.length<=G'.length:=by obtain⟨t,rfl⟩:=h;simp
theorem Ap.gr(h:Ap G G'):Gr G G':=by obtain⟨t,rfl⟩:=h;exact Gr.app
section
end
theorem fL(e:G[p]? =some (.lst xs))(eq:G[q]? =some (.lst [])):Wp (eqD (.ref p) (.ref q)) G Q↔Q (.bl xs.isEmpty) G:=by
 have h:eqN 40 G (.ref p) (.ref q)=some xs.isEmpty:=by
  have h1:W9 G (.ref p)=some (false,xs):=by simp only[W9,e]
  have h2:W9 G (.ref q)=some (false, []):=by simp only[W9,eq]
  rw[FA,h1,h2]
  cases xs<;>rfl
 rw[y6,h];exact O4
theorem Bf{lo hi:Option Int}(e:G[p]? =some (.lst l)):Wp (slD (.ref p) lo hi) G Q↔Q (.ref G.length) (G++[.lst (DL.cutD l lo hi)]):=by
 have h:slD (.ref p) lo hi= (do
  let l <-M4 p >>= DL.listOf
  K8 (.lst (DL.cutD l lo hi))):=rfl
 rw[h];simp only[j6,M6,e,O4,DL.listOf,wp_pure,T6]
theorem big:1000000<zk:=by decide
section
theorem fE:Wp (O8 (n+1) t b σ) G P↔Wp (t σ) G λk G1=>if k=true then Wp (b σ) G1 λfl G2=>match fl with
 | .nx X1=>Wp (O8 n t b X1) G2 P
 | .ct X1=>Wp (O8 n t b X1) G2 P
 | .bk X1=>P (.nx X1) G2
 | .rt d=>P (.rt d) G2
 else P (.nx σ) G1:=by
 rw[O8];simp only[j6,fA,wp_pure];constructor
 · rintro⟨k,G1,e,q⟩;refine⟨k,G1,e,?_⟩;rcases k with _|_
   ·exact q
   ·
     simp only[if_true]at q ⊢;obtain⟨fl,G2,e2,q⟩:=q;refine⟨fl,G2,e2,?_⟩
     cases fl<;>first
      |exact q
      |exact wp_pure.mp q
 · rintro⟨k,G1,e,q⟩;refine⟨k,G1,e,?_⟩;rcases k with _|_
   ·exact q
   ·
     simp only[if_true]at q ⊢;obtain⟨fl,G2,e2,q⟩:=q;refine⟨fl,G2,e2,?_⟩
     cases fl<;>first
      |exact q
      |exact wp_pure.mpr q
theorem EL(h:Wp (O8 n t b σ) G P):Wp (KA t b σ) G P:=by obtain⟨a,G',e,q⟩:=h;refine⟨a,G',?_,q⟩;have hx:∃n,(O8 n t b σ G).isSome=true:=⟨n,by rw[e];rfl⟩;unfold KA;rw[dif_pos hx];have hs:=Classical.choose_spec hx;obtain⟨r,hr⟩:=Xu.mp hs;rw[hr];have e1:=VL (Nat.le_max_left n (Yq hx)) e;have e2:=VL (Nat.le_max_right n (Yq hx)) hr;rw[e1]at e2;exact e2.symm
end
theorem Gr.set(h:Gr G0 G)(hp:G0.length<=p):Gr G0 (G.set p o):=⟨by rw[yf];exact h.1,λi hi=>by rw[zG (by lia)];exact h.2 i hi⟩
theorem uQ(e:G[p]? =some (.lst xs)):Wp (g6 (.ref p)) G B↔B (!xs.isEmpty) G:=by unfold g6;simp only[j6,M6,e,O4,wp_pure]
theorem lt_of_get{G:DH}(e:G[p]? =some o):p<G.length:=by
 by_cases hi:p<G.length
 ·exact hi
 ·rw[zS (by lia)]at e;exact t6 e
def VB(b:Nat):Nat->D->Prop
 |0,_=>False
 |n+1,d=>(∃i,d= .int i)\/(∃k,d= .bl k)\/(∃z,d= .str z/\z.length<=b)\/(∃l,d= .tup [.str AL,.tup l]/\∀x∈l,VB b n x)\/(∃l,d= .tup [.str vP,.tup l]/\∀x∈l,∃nm v,x= .tup [.str nm,v]/\nm.length<=1000/\VB b n v)
theorem VB.le{b c:Nat}(hb:b<=c):∀ {n m:Nat} {d:D},n<=m->VB b n d->VB c m d
 |0,_,_,_,h=>h.elim
 |n+1,0,_,h,_=>by lia
 |n+1,m+1,d,h,a=>by
   rcases a with a|a|⟨z,e,hz⟩|⟨l,e,hl⟩|⟨l,e,hl⟩
   ·exact .inl a
   ·exact .inr (.inl a)
   ·exact .inr (.inr (.inl ⟨z,e,by lia⟩))
   ·exact .inr (.inr (.inr (.inl ⟨l,e,λx hx=>VB.le hb (by lia) (hl x hx)⟩)))
   ·exact .inr (.inr (.inr (.inr ⟨l,e,λx hx=>let ⟨nm,v,q1,q2,q3⟩:=hl x hx;⟨nm,v,q1,q2,VB.le hb (by lia) q3⟩⟩)))
section
variable{bd n:Nat}
theorem VB.i{i:Int}:VB bd (n+1) (.int i):=.inl ⟨i,rfl⟩
theorem VB.b{i:Bool}:VB bd (n+1) (.bl i):=.inr (.inl ⟨i,rfl⟩)
theorem VB.l{l:List D}(h:∀x∈l,VB bd n x):VB bd (n+1) (.tup [.str AL,.tup l]):=.inr (.inr (.inr (.inl ⟨l,rfl,h⟩)))
end
theorem VB.pos{b n:Nat}{d:D}(h:VB b n d):0<n:=by
 cases n with
 |zero=>exact h.elim
 |succ n=>lia
theorem VB.there{b n:Nat}{d:D}{G:DH}(h:VB b n d):f8 G d:=by
 cases n with
 |zero=>exact h.elim
 |succ n=>rcases h with⟨i,rfl⟩|⟨k,rfl⟩|⟨z,rfl,hz⟩|⟨l,rfl,hl⟩|⟨l,rfl,hl⟩<;>exact⟨_,rfl⟩
theorem LY(l:List D)(n:Nat):DL.cutD l none (some (n:Int))=l.take n:=by
 unfold DL.cutD;rw[HT.sIx_none,HT.sIx_nat,List.drop_zero,Nat.sub_zero];by_cases h:n<=l.length
 ·rw[Nat.min_eq_left h]
 ·rw[Nat.min_eq_right (by lia),xv (zf _),xv (by lia)]
section
variable{G:DH}{Q:DPP}
theorem EI{i:Int}:Wp (tB [.int i]) G Q↔Q (.int (if i<0 then -i else i)) G:=wp_pure
end
def S4{α β:Type}(R:α->β->Prop):List α->List β->Prop
 |[], []=>True
 |a::r,b::s=>R a b/\S4 R r s
 |_,_=>False
section
variable{α β:Type}{R S:α->β->Prop}
theorem S4.len:∀ {a:List α} {b:List β},S4 R a b->a.length=b.length
 |[], [],_=>rfl
 |_::_,_::_,h=>by simp[S4.len h.2]
 |[],_::_,h=>h.elim
 |_::_, [],h=>h.elim
theorem S4.mono(k:∀a b,R a b->S a b):∀ {a:List α} {b:List β},S4 R a b->S4 S a b
 |[], [],_=>trivial
 |_::_,_::_,h=>⟨k _ _ h.1,S4.mono k h.2⟩
 |[],_::_,h=>h.elim
 |_::_, [],h=>h.elim
theorem S4.app:∀ {a c:List α} {b d:List β},S4 R a b->S4 R c d->S4 R (a++c) (b++d)
 |[],_, [],_,_,h=>h
 |_::_,_,_::_,_,h,k=>⟨h.1,S4.app h.2 k⟩
 |[],_,_::_,_,h,_=>h.elim
 |_::_,_, [],_,h,_=>h.elim
end
abbrev tl(z:Str):List Nat:=z.cps.toList
abbrev ofL(l:List Nat):Str:=⟨l.toArray⟩
theorem fK{a b:Str}(h:tl a=tl b):a=b:=by obtain⟨⟨a⟩⟩:=a;obtain⟨⟨b⟩⟩:=b;have h:a=b:=h;rw[h]
theorem aP(a b:List Nat):ofL a++ofL b=ofL (a++b):=fK (show tl (ofL a++ofL b)=a++b from xO)
def dg(m:Nat):List Nat:=(YJ 10 m).map Char.toNat
theorem kj{m:Nat}(h:¬m<10):dg m=dg (m / 10)++dg (m % 10):=by have hm:m % 10<10:=yw m (by decide);have t:YJ 10 (m / 10)++YJ 10 (m % 10)=YJ 10 (10*(m / 10)+m % 10):=Nat.toDigits_append_toDigits (by decide) (by lia) hm;rw[Nat.div_add_mod]at t;unfold dg;rw[<-t,zX]
theorem nH{m:Nat}(h:m<10):dg m= [48+m]:=by
 unfold dg;rw[Nat.toDigits_of_lt_base h];have:∀d,d<10->(Nat.digitChar d).toNat=48+d:=by decide
 show [(Nat.digitChar m).toNat]=_;rw[this m h]
theorem NF:∀(k m:Nat),m<10 ^ (k+1)->(dg m).length<=k+1
 |0,m,h=>by rw[nH (by lia)];simp
 |k+1,m,h=>by
   by_cases h':m<10
   ·rw[nH h'];simp
   ·rw[kj h',zd,nH (yw m (by decide))];have:=NF k (m / 10) (by rw[Jp]at h;lia);simp;lia
def nmL(i:Int):List Nat:=tl (jD (Jd i))
theorem Cf(m:Nat):nmL (m:Int)=dg m:=PySem.W.KIN.signs_num m
theorem KU(m:Nat)(h:0<m):nmL (-(m:Int))=45::dg m:=by obtain⟨k,rfl⟩:∃k,m=k+1:=⟨m-1,by lia⟩;unfold nmL tl;rw[signs_ofString];show (("-" ++ Nat.repr (k+1):String)).toList.map Char.toNat=_;rw[String.toList_append,zX,Nat.toList_repr];rfl
def PD:Nat:=9999999999999999999999999999999999999999
def smI(i:Int):Prop:=i.natAbs<=PD
theorem LR(i:Int):(∃m:Nat,i=m)\/∃m:Nat,0<m/\i= -(m:Int):=by
 rcases Int.lt_or_le i 0 with h|h
 ·exact .inr ⟨i.natAbs,by lia,by lia⟩
 ·exact .inl ⟨i.natAbs,by lia⟩
theorem L7{i:Int}(h:smI i):(nmL i).length<=41:=by
 unfold smI PD at h;rcases LR i with⟨m,rfl⟩|⟨m,hm,rfl⟩
 ·rw[Cf];have:=NF 39 m (by show m<10000000000000000000000000000000000000000;lia);lia
 ·rw[KU m hm,zq];have:=NF 39 m (by show m<10000000000000000000000000000000000000000;lia);lia
def glL(s:List Nat):List (List Nat)->List Nat
 |[]=> []
 |p::r=>s++p++glL s r
def Z4(s:List Nat):List (List Nat)->List Nat
 |[]=> []
 |a::r=>a++glL s r
theorem NU(sep:Str)(ss:List Str):tl (YI sep ss)=Z4 (tl sep) (ss.map tl):=by
 have go:∀(r:List Str) (Nq:Array Nat),(r.foldl (λNq p=>Nq++sep.cps++p.cps) Nq).toList=Nq.toList++glL (tl sep) (r.map tl):=λr=>by
  induction r with
  |nil=>intro Nq;simp[glL]
  |cons p r ih=>
    intro Nq;rw[yP,ih,xO,xO,zH,glL,jh,jh,jh]
 rcases ss with _|⟨a,r⟩
 ·rfl
 ·exact go r a.cps
theorem tS{i:Int}(h:smI i):i.natAbs.log2<1920:=by
 unfold smI PD at h;rcases Nat.eq_zero_or_pos i.natAbs with z|z
 ·rw[z];decide
 ·exact zN ((Nat.log2_lt (by lia)).mpr (show i.natAbs<2 ^ 140 by lia)) (by decide)
theorem rB{i:Int}{G:DH}{Q:DPP}(h:smI i)(q:Q (.str (ofL (nmL i))) G):Wp (D7 [.int i]) G Q:=by have e:D7 [.int i]= (if i.natAbs.log2<1920 then pure (.str (jD (Jd i)))else M.stuck:M D):=rfl;rw[e,if_pos (tS h)];exact wp_pure.mpr q
abbrev Rg:=Option Int×Option Int
def inR(p:Rg)(x:Int):Prop:=(∀a,p.1=some a->a<=x)/\∀b,p.2=some b->x<=b
def inS(l:List Rg)(x:Int):Prop:=∃p∈l,inR p x
def okR(p:Rg):Prop:=∀a b,p.1=some a->p.2=some b->a<=b
def y9(p q:Rg):Prop:=∃a b,p.2=some a/\q.1=some b/\a+1<b
def Can(l:List Rg):Prop:=(∀p∈l,okR p)/\l.Pairwise y9
theorem LC{p:Rg}{l:List Rg}{x:Int}:inS (p::l) x↔inR p x\/inS l x:=by
 unfold inS;constructor
 · rintro⟨q,hq,h⟩;rcases zI.mp hq with rfl|hq
   ·exact .inl h
   ·exact .inr ⟨q,hq,h⟩
 · rintro(h|⟨q,hq,h⟩)
   ·exact⟨p,zt ..,h⟩
   ·exact⟨q,zl _ hq,h⟩
theorem AD{x:Int}:¬inS [] x:=fun⟨_,h,_⟩=>nomatch h
theorem okR.some{p:Rg}(h:okR p):∃x,inR p x:=by
 obtain⟨a,b⟩:=p;rcases a with _|a<;>rcases b with _|b
 ·exact⟨0,λc hc=>(nomatch hc),λc hc=>(nomatch hc)⟩
 ·exact⟨b,λc hc=>(nomatch hc),λc hc=>by cases hc;exact Xj _⟩
 ·exact⟨a,λc hc=>(by cases hc;exact Xj _),λc hc=>nomatch hc⟩
 ·exact⟨a,λc hc=>(by cases hc;exact Xj _),λc hc=>by cases hc;exact h a b rfl rfl⟩
theorem pI{l m:List Rg}{x:Int}:inS (l++m) x↔inS l x\/inS m x:=by
 unfold inS;constructor
 ·rintro⟨p,hp,h⟩;exact(zO.mp hp).elim (λk=>.inl ⟨p,k,h⟩) λk=>.inr ⟨p,k,h⟩
 · rintro(⟨p,hp,h⟩|⟨p,hp,h⟩)
   ·exact⟨p,yd _ hp,h⟩
   ·exact⟨p,zP _ hp,h⟩
theorem Can.snoc{l:List Rg}{r:Rg}(h:Can l)(ok:okR r)(c:∀p∈l,y9 p r):Can (l++[r]):=
 ⟨λp hp=>(zO.mp hp).elim (h.1 p) λk=>by rw[zr.mp k];exact ok,
  jH.mpr ⟨h.2,XZ ..,λp hp q hq=>by rw[zr.mp hq];exact c p hp⟩⟩
def kle:Option Int->Option Int->Prop
 |none,_=>True
 |some _,none=>False
 |some a,some b=>a<=b
theorem kq{a:Int}{b:Option Int}(h:kle (some a) b):∃c,b=some c/\a<=c:=match b,h with
 |some c,h=>⟨c,rfl,h⟩
def F9:Option Int->Option Int->Option Int
 |some a,some b=>some (max a b)
 |_,_=>none
theorem oK{a b:Option Int}{c:Int}(h:F9 a b=some c):∃x y,a=some x/\b=some y/\x<=c/\y<=c:=match a,b,h with
 |some x,some y,h=>⟨x,y,rfl,rfl,by cases h;lia,by cases h;lia⟩
theorem Fp{e p:Rg}(k:kle e.1 p.1)(n:¬y9 e p){x:Int}:inR (e.1,F9 e.2 p.2) x↔inR e x\/inR p x:=by
 constructor
 · rintro⟨lo,hi⟩;by_cases hx:inR e x
   ·exact .inl hx
   ·refine .inr ?_;obtain⟨c,ec,hc⟩:∃c,e.2=some c/\c<x:=jA λz=>hx ⟨lo,λb eb=>Int.not_lt.mp λy=>z ⟨b,eb,y⟩⟩;refine⟨λd ed=>Int.not_lt.mp λy=>n ⟨c,d,ec,ed,by lia⟩,λb eb=>?_⟩;have:=hi (max c b) (by show F9 e.2 p.2=_;rw[ec,eb];rfl);lia
 · have hf:∀b,F9 e.2 p.2=some b->∃c d,e.2=some c/\p.2=some d/\c<=b/\d<=b:=λb=>oK;rintro(h|h)
   ·refine⟨h.1,λb eb=>?_⟩;obtain⟨c,d,e1,e2,k1,k2⟩:=hf b eb;exact ZO (h.2 c e1) k1
   · refine⟨λa ea=>?_,λb eb=>?_⟩
     ·rw[show e.1=some a from ea]at k;obtain⟨c,ec,hc⟩:=kq k;exact ZO hc (h.1 c ec)
     ·obtain⟨c,d,e1,e2,k1,k2⟩:=hf b eb;exact ZO (h.2 d e2) k2
structure Mg(ds Nq rest:List Rg):Prop where
 can:Can Nq
 ok:∀p∈rest,okR p
 ord:rest.Pairwise λp q=>kle p.1 q.1
 le:∀e∈Nq,∀p∈rest,kle e.1 p.1
 same:∀x,inS ds x↔inS Nq x\/inS rest x
 len:Nq.length+rest.length<=ds.length
theorem Mg.start{ds l:List Rg}(h:∀p∈ds,okR p)(pm:l.Perm ds)(o:l.Pairwise λp q=>kle p.1 q.1):Mg ds [] l:=
 ⟨⟨λ_ h=>(nomatch h),.nil⟩,λp hp=>h p (pm.mem_iff.mp hp),o,λ_ h=>(nomatch h),λx=>⟨fun⟨p,hp,k⟩=>.inr ⟨p,pm.mem_iff.mpr hp,k⟩,λz=>z.elim (λz=>absurd z AD) fun⟨p,hp,k⟩=>⟨p,pm.mem_iff.mp hp,k⟩⟩,by rw[pm.length_eq];simp⟩
theorem Mg.new{ds Nq rest:List Rg}{p:Rg}(h:Mg ds Nq (p::rest))(c:∀t e,Nq=t++[e]->y9 e p):Mg ds (Nq++[p]) rest:=by
 have o:=yK.mp h.ord;refine⟨h.can.snoc (h.ok p (zt ..)) λr hr=>?_,λq hq=>h.ok q (zl _ hq),o.2,λe he q hq=>?_,λx=>?_,?_⟩
 · have Pd:Nq≠ []:=List.ne_nil_of_mem hr;obtain⟨t,e,rfl⟩:∃(t:List Rg) (e:Rg),Nq=t++[e]:=⟨_,_,(xN Pd).symm⟩;have ce:=c t e rfl;rcases zO.mp hr with k|k
   ·obtain⟨a,b,e1,e2,k1⟩:=(jH.mp h.can.2).2.2 r k e (zr.mpr rfl);obtain⟨a',b',e3,e4,k2⟩:=ce;have:=h.can.1 e (zP _ (zr.mpr rfl)) b a' e2 e3;exact⟨a,b',e1,e4,by lia⟩
   ·rw[zr.mp k];exact ce
 · rcases zO.mp he with k|k
   ·exact h.le e k q (zl _ hq)
   ·rw[zr.mp k];exact o.1 q hq
 ·rw[h.same x,pI,LC (p:=p) (l:=rest),LC (p:=p) (l:= [])];have n0:¬inS [] x:=AD;exact⟨λz=>z.elim (λz=>.inl (.inl z)) λz=>z.elim (λz=>.inl (.inr (.inl z))) .inr,λz=>z.elim (λz=>z.elim .inl λz=>z.elim (λz=>.inr (.inl z)) λz=>absurd z n0) λz=>.inr (.inr z)⟩
 ·have:=h.len;simp only[zq,zd,jO]at this ⊢;lia
theorem Mg.join{ds t rest:List Rg}{e p:Rg}(h:Mg ds (t++[e]) (p::rest))(n:¬y9 e p):Mg ds (t++[(e.1,F9 e.2 p.2)]) rest:=by
 have o:=yK.mp h.ord;have he:=zP t (zr.mpr (rfl:e=e));have pw:=jH.mp h.can.2;refine⟨Can.snoc ⟨λq hq=>h.can.1 q (yd _ hq),pw.1⟩ (λa b ea eb=>?_) λr hr=>pw.2.2 r hr e (zr.mpr rfl),λq hq=>h.ok q (zl _ hq),o.2,λq hq r hr=>?_,λx=>?_,?_⟩
 ·obtain⟨c,d,e1,e2,k1,k2⟩:=oK eb;exact ZO (h.can.1 e he a c ea e1) k1
 · rcases zO.mp hq with k|k
   ·exact h.le q (yd _ k) r (zl _ hr)
   ·rw[zr.mp k];exact h.le e he r (zl _ hr)
 · rw[h.same x,pI,pI,LC (p:=p) (l:=rest),LC (p:=e) (l:= []),LC (p:=(e.1,F9 e.2 p.2)) (l:= []),Fp (h.le e he p (zt ..)) n];have n0:¬inS [] x:=AD;exact⟨λz=>z.elim (λz=>z.elim (λz=>.inl (.inl z)) λz=>z.elim (λz=>.inl (.inr (.inl (.inl z)))) λz=>absurd z n0) λz=>z.elim (λz=>.inl (.inr (.inl (.inr z)))) .inr,
    λz=>z.elim (λz=>z.elim (λz=>.inl (.inl z)) λz=>z.elim (λz=>z.elim (λz=>.inl (.inr (.inl z))) λz=>.inr (.inl z)) λz=>absurd z n0) λz=>.inr (.inr z)⟩
 ·have:=h.len;simp only[zq,zd,jO]at this ⊢;lia
theorem Gr.ap{G G':DH}(h:Gr G G'):Ap G G':=by
 refine⟨G'.drop G.length,?_⟩;refine List.ext_getElem? λi=>?_;rcases xZ i G.length with c|c
 ·rw[zh c];exact h.2 i c
 ·rw[yt c,Yv];congr 1;lia
theorem GO{G:DH}{p q:Nat}{xs:List D}{Q:DPP}(e:G[p]? =some (.lst xs))(eq:G[q]? =some (.lst [])):Wp (neD (.ref p) (.ref q)) G Q↔Q (.bl (!xs.isEmpty)) G:=by
 have h:eqN 40 G (.ref p) (.ref q)=some xs.isEmpty:=by
  have h1:W9 G (.ref p)=some (false,xs):=by simp only[W9,e]
  have h2:W9 G (.ref q)=some (false, []):=by simp only[W9,eq]
  rw[FA];rw[h1,h2];rcases xs with _|⟨_,_⟩
  ·rfl
  ·rfl
 exact EH (show neD (.ref p) (.ref q) G=_ from by unfold neD;rw[h])
theorem qq{r:Nat}{l:List D}{k:Int}{j:Nat}{a b:Fe}{σ:DSt}{d:D}{G:DH}{S:DSt->DH->Prop}(ha:a σ G=some (.ok (.ref r),G))(hb:b σ G=some (.ok (.int k),G))(e:G[r]? =some (.lst l))(hj:ixN l.length k=some j)(q:S σ (G.set r (.lst (l.set j d)))):Wp (E8 a b d σ) G S:=wH.mpr (b8 ha (b8 hb ((Md e hj).mpr q)))
theorem Kb{G:DH}{p:Nat}{l:List D}{lo hi:Option Int}{Q:DPP}(e:G[p]? =some (.lst l)):Wp (slT (.ref p) lo hi) G Q↔Q (.ref G.length) (G++[.lst (DL.cutD l lo hi)]):=Bf e
def rD(p:Rg):D:=.tup [B3 p.1,B3 p.2]
def rsD(l:List Rg):List D:=l.map rD
theorem vE(l:List Rg):(rsD l).length=l.length:=zc ..
section
variable{T:Str}{G:DH}{Q:DPP}
theorem GX{pre rest:List Nat}{c:Nat}(h:tl T=pre++c::rest)(hz:T.length<=zk)(q:Q (.str ⟨#[c]⟩) G):Wp (ixD (.str T) (.int (pre.length:Int))) G Q:=by
 have e:ixD (.str T) (.int (pre.length:Int))=if T.length<=zk then (do
  let c <-E1 (atI T.cps.toList (pre.length:Int))
  pure (.str ⟨#[c]⟩):M D)else M.stuck:=rfl
 rw[e,if_pos hz];refine j6.mpr<| B8.mpr ⟨c,?_,wp_pure.mpr q⟩;have hl:(tl T).length=pre.length+(c::rest).length:=by rw[h,zd]
 show atI (tl T) (pre.length:Int)=some c;unfold atI ixN;simp only[zq]at hl;rw[if_pos (by lia),if_pos (by lia)];simp only[jV,JX,h];rw[yt (zf _),Nat.sub_self];rfl
end
theorem LA{G:DH}{p:Nat}{o:DO}(e:G[p]? =some o):ckO p o G=true:=by unfold ckO;rw[e];simp
def mU(l due:List Rg):Prop:=Can due/\∀x,inS due x↔inS l x
def Dr(G:DH)(r:Nat):Prop:=∃ns:List Nat,G[r]? =some (.lst (ns.map λn:Nat=>D.int (n:Int)))
def cnt(G:DH)(r:Nat):Nat:=match G[r]? with
 |some (.lst l)=>l.length
 |_=>0
theorem GC{G:DH}{r:Nat}{l:List D}(e:G[r]? =some (.lst l)):cnt G r=l.length:=by unfold cnt;rw[e]
theorem W5{G G':DH}{r:Nat}(e:G'[r]? =G[r]?):cnt G' r=cnt G r:=by unfold cnt;rw[e]
structure Fd(r:Nat)(G G':DH):Prop where
 a:G.length<=G'.length
 b:(∀i,i≠r->i<G.length->G'[i]? =G[i]?)/\Dr G' r
 c:cnt G' r<=cnt G r
theorem Dr.lt{G:DH}{r:Nat}(h:Dr G r):r<G.length:=by obtain⟨ns,hr⟩:=h;exact lt_of_get hr
theorem Dr.app{G t:DH}{r:Nat}(h:Dr G r):Dr (G++t) r:=by obtain⟨ns,hr⟩:=h;exact⟨ns,Q4 hr⟩
theorem Fd.refl{r:Nat}{G:DH}(h:Dr G r):Fd r G G:=⟨zf _,⟨λ_ _ _=>rfl,h⟩,zf _⟩
theorem Fd.trans{r:Nat}{G G1 G2:DH}(h:Fd r G G1)(k:Fd r G1 G2):Fd r G G2:=
 ⟨zp h.1 k.1,⟨λi hi hl=>by rw[k.2.1 i hi (by have:=h.1;lia),h.2.1 i hi hl],k.2.2⟩,zp k.c h.c⟩
theorem Fd.app{r:Nat}{G t:DH}(h:Dr G r):Fd r G (G++t):=⟨by simp,⟨λi _ hl=>zh hl,h.app⟩,YN (W5 (zh h.lt))⟩
theorem Fd.at{r p:Nat}{G G':DH}{o:DO}(h:Fd r G G')(hp:p≠r)(e:G[p]? =some o):G'[p]? =some o:=by rw[h.2.1 p hp (lt_of_get e)];exact e
theorem Dr.set{G:DH}{r p:Nat}{o:DO}(h:Dr G r)(hp:p≠r):Dr (G.set p o) r:=by obtain⟨ns,hr⟩:=h;exact⟨ns,by rw[zG hp];exact hr⟩
theorem KM{r:Nat}{m:Int}{G:DH}{Q:DPP}(h:Dr G r)(hm:0<m)(q:∀k:Int,0<=k->k<m->(cnt G r=0->k=0)->∀G',Fd r G G'->cnt G' r=cnt G r-1->Q (.int k) G'):Wp (j4 [.ref r,.int m]) G Q:=by
 have h':=h;obtain⟨ns,hr⟩:=h';have s0:([D.ref r,D.int m].map some++yr (2 - [D.ref r,D.int m].length) none:DSt)= [sRf r,some (.int m)]:=rfl;unfold j4 LF;simp only[SH,s0,f9,NC,bC,lD,C9,aB,X5,AA,t7,i7,i6,o6,je,exists_eq_left',jb,jf];refine⟨sz,?_⟩;have e1:=Q4 (t:= [DO.lst []]) hr;rw[fL e1 g8];refine⟨_,rfl,?_⟩
 cases ns with
 |nil=>
   simp only[xw,List.isEmpty_nil,if_true];have c0:cnt G r=0:=GC hr;refine q 0 (by lia) hm (λ_=>rfl) _ (Fd.app h) ?_;rw[W5 (zh h.lt),c0]
 |cons n t=>
   simp only[zH,List.isEmpty_cons,zy,if_false];rw[P0 e1,KY e1,O2 hm];have c0:cnt G r=t.length+1:=by rw[GC hr,zc,zq]
   have c1:∀o:DO,o= .lst (t.map λn:Nat=>D.int (n:Int))->cnt ((G++[DO.lst []]).set r o) r=t.length:=λo ho=>by subst ho;rw[GC (zY (lt_of_get e1)),zc]
   refine q _ (jQ _ (by lia)) (yN _ hm) (λz=>by rw[c0]at z;cases z) _ ⟨by simp,⟨λi hi hl=>?_,t,?_⟩,?_⟩ ?_
   ·rw[zG (Ne.symm hi),zh hl]
   ·rw[zY (lt_of_get e1)]
   ·rw[c0,c1 _ rfl];exact Xf _
   ·rw[c0,c1 _ rfl];rfl
theorem T3{r:Nat}{m:Int}{G:DH}{Q:DPP}(h:Dr G r)(hm:0<m)(q:∀k:Int,0<=k->k<m->∀G',Fd r G G'->Q (.int k) G'):Wp (j4 [.ref r,.int m]) G Q:=KM h hm λk a b _ G' f _=>q k a b G' f
theorem OD{r:Nat}{G:DH}{n:Int}{ds:List D}{Q:DPP}(h:Dr G r)(hn:(ds.length:Int)=n)(h0:0<n)(q:∀d∈ds,∀G',Fd r G G'->Q d G'):
 Wp (j4 [.ref r,.int n]) (G++[.lst ds]) λy G2=>Wp (ixD (.ref G.length) y) G2 Q:=by
 refine T3 h.app h0 λk h3 h4 G2 f2=>?_;have Pd:G.length≠r:=by have:=h.lt;lia
 have hg:=f2.at Pd (o:=.lst ds) CI;rw[t5 hg];obtain⟨d,hd,e⟩:=RH (l:=ds) h3 (by lia);exact⟨d,e,q d hd G2 ((Fd.app h).trans f2)⟩
theorem UW:MD=j9 (J6 (z0 j4 g0 F4) S0) (j9 N1 (j9 N2 (asQ N0 A1 (j9 (L3 (T4 (x0 EA)) T0 NB) N3)))):=rfl
def C1(i:Int):Prop:= -100000000000000000000<=i/\i<=100000000000000000000
theorem TJ{r:Nat}{w u:Option D}:∀(items:List D) (l B:Int) (v:Option D) (G:DH),Dr G r->0<=l->l<B->
 Wp (B1 T0 NB (λ_=>true) items [sRf r,w,u,some (.int l),v]) G λfl G'=>Fd r G G'/\∃l' v',fl= .nx [sRf r,w,u,some (.int l'),v']/\0<=l'/\l'<B*1000 ^ items.length
 |[],l,B,v,G,h,h0,h1=>QA.mpr ⟨rfl,Fd.refl h,l,v,rfl,h0,by simpa using h1⟩
 |d::t,l,B,v,G,h,h0,h1=>by refine rA.mpr ⟨rfl,Z7.mpr<| u6<| bin_w<| bin_w<| b8 (a:=.int l) (G':=G) rfl<| b8 (a:=.int 1000) (G':=G) rfl<| (Q0 (Or.inr ⟨by lia,by lia⟩)).mpr<| j7 (as:= [.ref r,.int 1000]) rfl rfl<| T3 h (by decide) λk k0 k1 G1 f1=>Z5.mpr ?_⟩;refine Wp.mono (TJ t (l*1000+k) (B*1000) (some d) G1 f1.2.2 (by lia) (by lia)) λfl G2 ⟨f2,l',v',e,q0,q1⟩=>⟨f1.trans f2,l',v',e,q0,?_⟩;rw[zq,Int.pow_succ,Int.mul_comm (1000 ^ _) 1000,<-Int.mul_assoc];exact q1
theorem gH{r:Nat}{G:DH}(h:Dr G r):Wp (Q3 [.ref r]) G λx G'=>∃i,x= .int i/\C1 i/\Fd r G G':=by
 refine v7 (show Wp (MD [sRf r,none,none,none,none]) G _ from ?_);rw[UW];refine f9.mpr<| u6<| j7 (as:= [.ref r,.int 8]) rfl rfl<| T3 h (by decide) λw w0 w1 G1 f1=>?_;refine f9.mpr<| S9<| o8<| bin_w<| b8 (a:=.int w) (G':=G1) rfl<| b8 (a:=.int 5) (G':=G1) rfl<| lt_int.mpr ⟨_,rfl,λk=>?_,λk=>o6.mpr ?_⟩
 · refine f9.mpr<| u6<| j7 (as:= [.ref r,.int 40]) rfl rfl<| T3 f1.2.2 (by decide) λk k0 k1 G2 f2=>?_;have b1:0<=k % 2:=jQ _ (by lia);have b2:k % 2<2:=yN _ (by lia);refine t8<| bin_w<| bin_w<| b8 (a:=.int k) (G':=G2) rfl<| b8 (a:=.int 2) (G':=G2) rfl<| (T9 ⟨by decide,by decide⟩).mpr<| bin_w<| b8 (a:=.int 1) (G':=G2) rfl<| bin_w<| b8 (a:=.int 2) (G':=G2) rfl<| bin_w<| b8 (a:=.int k) (G':=G2) rfl<| b8 (a:=.int 2) (G':=G2) rfl<| (O2 (by decide)).mpr<| (Q0 (Or.inl ⟨by decide,by decide⟩)).mpr<| tH.mpr<| (Q0 (Or.inr ⟨by lia,by lia⟩)).mpr<| o4 ⟨_,rfl,?_,f1.trans f2⟩;unfold C1;have c:k % 2=0\/k % 2=1:=by lia
   rcases c with c|c<;>rw[c]<;>constructor<;>lia
 · have k:=of_decide_eq_false k;refine f9.mpr<| S9<| o8<| bin_w<| b8 (a:=.int w) (G':=G1) rfl<| b8 (a:=.int 5) (G':=G1) rfl<| O7.mpr ⟨_,rfl,λk=>?_,λk=>o6.mpr ?_⟩
   ·simp only[lD,C9,bG,aB,RB,AA,t7,i7,i6,uB,iI (show u7 10 20 by decide),p18,wG,tH,jb,jf,jZ,yq,je,exists_eq_left'];refine⟨sz,rfl,OD f1.2.2 rfl (by decide) λd hd G2 f2=>o4 ?_⟩;simp only[zI,jR,or_false]at hd;rcases hd with rfl|rfl|rfl|rfl<;>exact⟨_,rfl,by unfold C1;lia,f1.trans f2⟩
   · have k:=of_decide_eq_false k;refine f9.mpr<| u6<| b8 (a:=.int 0) (G':=G1) rfl<| f9.mpr<| VA.mpr<| N9.mpr<| b8 (a:= [.int 6]) (G':=G1) rfl<| (l9 ⟨by decide,by decide⟩).mpr ?_;refine Wp.mono (TJ (J2 0 (6:Int).toNat) 0 1 none G1 f1.2.2 (by decide) (by decide)) λfl G2 ⟨f2,l,v,e2,q0,q1⟩=>?_;subst e2;have q1:l<1000000000000000000:=q1;refine t8<| bin_w<| bin_w<| bin_w<| b8 (a:=.int l) (G':=G2) rfl<| b8 (a:=.int 100) (G':=G2) rfl<| (Q0 (Or.inr ⟨by lia,by lia⟩)).mpr<| j7 (as:= [.ref r,.int 100]) rfl rfl<| T3 f2.2.2 (by decide) λk k0 k1 G3 f3=>Z5.mpr<| bin_w<| b8 (a:=.int 13) (G':=G3) rfl<| bin_w<| b8 (a:=.int 2) (G':=G3) rfl<| b8 (a:=.int w) (G':=G3) rfl<| (Q0 (Or.inl ⟨by decide,by decide⟩)).mpr<| tH.mpr<| (Q0 (Or.inr ⟨by lia,by lia⟩)).mpr<| o4 ⟨_,rfl,?_,(f1.trans f2).trans f3⟩;unfold C1;have c:w=6\/w=7:=by lia
     rcases c with rfl|rfl<;>constructor<;>lia
def DL'(G:DH)(q L:Nat):Prop:=∃ns:List Nat,G[q]? =some (.lst (ns.map λn:Nat=>D.int (n:Int)))/\ns.length<=L
theorem iD{G:DH}{q L:Nat}{x:Int}{Q:DPP}(h:DL' G q L)(hL:L<=100000)(hx:0<=x)(k:∀o,DL' (G.set q o) q (L+1)->Q .non (G.set q o)):Wp (u9 (.ref q) [.int x]) G Q:=by have bg:=big;obtain⟨ns,e,hl⟩:=h;rw[Q6 e (by rw[zc];lia)];refine k _ ⟨ns++[x.toNat],?_,by simp;lia⟩;rw[zY (lt_of_get e),zX];have ex:((x.toNat:Nat):Int)=x:=Int.toNat_of_nonneg hx;simp only[zH,xw,ex]
theorem FD{G:DH}{q L:Nat}{R:Unit->DH->Prop}(h:DL' G q L):Wp (u5 (.ref q)) G R↔R () G:=by obtain⟨ns,e,hl⟩:=h;exact P0 e
theorem VI{i j:Int}{G:DH}{Q:DPP}:Wp (geD (.int i) (.int j)) G Q↔Q (.bl (decide (i>=j))) G:=wp_pure
theorem PU{G:DH}{p:Nat}{l:List D}{i:Int}{Q:DPP}(e:G[p]? =some (.rol l)):Wp (ixD (.ref p) (.int i)) G Q↔∃d,atI l i=some d/\Q d G:=by
 have h:ixD (.ref p) (.int i)= (do
  let l <-M4 p >>= DL.listOf
  E1 (atI l i)):=rfl
 rw[h];simp only[j6,M6,e,O4,DL.listOf,wp_pure,B8]
theorem AW:aI=j9 (J6 (M5 B0) S0) (j9 (L3 (T4 (x0 (eA eB (F0 t3 g0) (cIn 80)))) S1 DB) (G9 (GA i0 (mB) (HA (cIn 240))))):=rfl
section
variable{s:Option D}{q L:Nat}{k rest:Int}{u v:Option D}
def Fq(q:Nat)(G G':DH):Prop:=G.length<=G'.length/\∀i,i≠q->i<G.length->G'[i]? =G[i]?
theorem Fq.refl{G:DH}:Fq q G G:=⟨zf _,λ_ _ _=>rfl⟩
theorem Fq.trans{G G1 G2:DH}(h:Fq q G G1)(k:Fq q G1 G2):Fq q G G2:=⟨zp h.1 k.1,λi hi hl=>by rw[k.2 i hi (by have:=h.1;lia),h.2 i hi hl]⟩
theorem Fq.set{G:DH}{o:DO}:Fq q G (G.set q o):=⟨by simp,λi hi hl=>by rw[zG (Ne.symm hi)]⟩
theorem rW{G:DH}(h:DL' G q L)(hL:L<=90000)(hk:0<=k/\k<100)(hr:0<=rest):
 Wp (D1 [s,sRf q,some (.int k),some (.int rest),u,v]) G λfl G'=>Fq q G G'/\DL' G' q (L+3)/\∃u',fl= .nx [s,sRf q,some (.int k),some (.int rest),u',v]:=by
 unfold D1;have m1:C7 7919 k:=Or.inl ⟨by lia,by lia⟩;have m3:C7 40692 (k+7):=Or.inl ⟨by lia,by lia⟩;simp only[f9,i8,Z7,b9,X5,C9,AA,t7,i7,i6,jZ,yq,jb,jf,je,exists_eq_left',Q0 m1,Q0 m3,Z5,O2 (show (0:Int)<2147483647 by decide)];have b1:0<=(rest+7919*k+3) % 2147483647:=jQ _ (by lia);rw[Q0 (Or.inr ⟨by decide,by decide⟩),O2 (by decide)];have b2:0<=(rest+7919*k+3) % 2147483647*48271 % 2147483647:=jQ _ (by lia);have b3:(rest+7919*k+3) % 2147483647*48271 % 2147483647<2147483647:=yN _ (by lia);generalize (rest+7919*k+3) % 2147483647*48271 % 2147483647=a at *;rw[Q0 (Or.inl ⟨by lia,by lia⟩),O2 (by decide)];have c1:0<=a*a % 2147483629:=jQ _ (by lia);have c2:a*a % 2147483629<2147483629:=yN _ (by lia);generalize a*a % 2147483629=c at *;rw[FD h,T9 ⟨by decide,by decide⟩,O2 (by decide)];refine iD h (by lia) (jQ _ (by decide)) λo1 h1=>?_;rw[FD h1,T9 ⟨by decide,by decide⟩,O2 (by decide)];refine iD h1 (by lia) (jQ _ (by decide)) λo2 h2=>?_;rw[Z5,O2 (by decide)];have d1:0<=(c+40692*(k+7)) % 2147483587:=jQ _ (by lia);have d2:(c+40692*(k+7)) % 2147483587<2147483587:=yN _ (by lia);generalize (c+40692*(k+7)) % 2147483587=e at *;rw[FD h2,Q0 (Or.inl ⟨by lia,by lia⟩),O2 (by decide),T9 ⟨by decide,by decide⟩,O2 (by decide)];refine iD h2 (by lia) (jQ _ (by decide)) λo3 h3=>?_;exact⟨(Fq.set.trans Fq.set).trans Fq.set,h3,_,rfl⟩
theorem EN:∀(j m:Nat) (rest:Int) (L:Nat) (G:DH),m+j=60->0<=rest->DL' G q L->L+j<=90000->
 Wp (O8 (j+1) WT1 WB1 [s,sRf q,some (.int k),some (.int rest),u,some (.int m)]) G λfl G'=>Fq q G G'/\DL' G' q (L+j)/\∃r' m',fl= .nx [s,sRf q,some (.int k),some (.int r'),u,some (.int m')]
 |0,m,rest,L,G,hm,hr,h,hL=>by
   rw[fE];unfold WT1;have c:¬((m:Int)<60):=by lia
   simp only[oH,bC,C9,i7,i6,VI,lt_int,mI,jb,jf,je,exists_eq_left',c,decide_false];split
   ·simp only[zy,if_false];exact⟨Fq.refl,h,rest,m,rfl⟩
   ·simp only[zy,if_false];exact⟨Fq.refl,h,rest,m,rfl⟩
 |j+1,m,rest,L,G,hm,hr,h,hL=>by
   rw[fE];have c:((m:Int)<60):=by lia
   have et:Wp (WT1 [s,sRf q,some (.int k),some (.int rest),u,some (.int m)]) G λb G'=>b=decide (rest>=1000)/\G'=G:=by
    unfold WT1;simp only[oH,bC,C9,i7,i6,VI,lt_int,mI,jb,jf,je,exists_eq_left',c,decide_true];by_cases cr:rest>=1000
    ·simp[cr]
    ·simp[cr]
   refine Wp.mono et λb G1 ⟨eb,eg⟩=>?_;subst eb eg;by_cases cr:rest>=1000
   · rw[if_pos (decide_eq_true cr)];unfold WB1;simp only[f9,i8,Z7,b9,X5,C9,AA,t7,i7,i6,jZ,yq,jb,jf,je,exists_eq_left',FD h,O2 (show (0:Int)<1000 by decide),Z5,T9 (show (0:Int)<1000/\(1000:Int)<2 ^ 100 by decide)];refine iD h (by lia) (jQ _ (by decide)) λo h1=>?_;refine Wp.mono (EN j (m+1) (rest / 1000) (L+1) (G1.set q o) (by lia) (by lia) h1 (by lia)) λfl G2 ⟨f2,h2,q2⟩=>⟨Fq.set.trans f2,?_,q2⟩;have e:L+(j+1)=L+1+j:=by lia
     rw[e];exact h2
   ·rw[if_neg (by simpa using cr)];obtain⟨ns,e,hl⟩:=h;exact⟨Fq.refl,⟨ns,e,by lia⟩,rest,m,rfl⟩
theorem FZ{G:DH}(h:DL' G q L)(hL:L<=80000)(hr:0<=rest):
 Wp (D2 [s,sRf q,some (.int k),some (.int rest),u,v]) G λfl G'=>Fq q G G'/\DL' G' q (L+60)/\∃r' v',fl= .nx [s,sRf q,some (.int k),some (.int r'),u,v']:=by
 unfold D2;simp only[f9,i8,Z7,i7,jZ,yq];refine EL (Wp.mono (EN 60 0 rest L G rfl hr h (by lia)) λfl G1 ⟨f1,h1,r',m',e⟩=>?_);exact⟨f1,h1,r',_,e⟩
theorem uR{p:Nat}{ns:List Int}{i:Nat}{G:DH}(e:G[p]? =some (.rol (ns.map D.int)))(hi:i<ns.length)(hi2:i<100)(h:DL' G q L)(hL:L<=80000){t:Option D}:
 Wp (DB [sRf p,sRf q,some (.int i),t,u,v]) G λfl G'=>Fq q G G'/\DL' G' q (L+60)/\∃t' u' v',fl= .nx [sRf p,sRf q,some (.int i),t',u',v']:=by
 have ei:atI (ns.map D.int) (i:Int)=some (.int ns[i]):=atI_nat (by rw[jg,zn hi];rfl);unfold DB;simp only[f9,i8,Z7,RB,C9,AA,t7,i7,i6,jZ,yq,jb,jf,je,exists_eq_left',PU e,ei,EI,NC,bC,p18,lt_int,mI];have hr:0<=(if ns[i]<0 then -ns[i]else ns[i]):=by split<;>lia
 generalize (if ns[i]<0 then -ns[i]else ns[i])=rest at *;split
 ·refine Wp.mono (rW h (by lia) ⟨by lia,by lia⟩ hr) λfl G1 ⟨f1,h1,u',ef⟩=>⟨f1,?_,_,_,_,ef⟩;obtain⟨ns,e,hl⟩:=h1;exact⟨ns,e,by lia⟩
 ·exact Wp.mono (FZ h hL hr) λfl G1 ⟨f1,h1,r',v',ef⟩=>⟨f1,h1,_,_,_,ef⟩
theorem vJ{p:Nat}{ns:List Int}(Qf:p≠q):∀(is:List Nat) (L:Nat) (a t u v:Option D) (G:DH),G[p]? =some (.rol (ns.map D.int))->DL' G q L->(∀i∈is,i<ns.length/\i<100)->L+60*is.length<=80000->
 Wp (B1 S1 DB (λ_=>true) (is.map λi:Nat=>D.int (i:Int)) [sRf p,sRf q,a,t,u,v]) G λfl G'=>Fq q G G'/\DL' G' q 80000/\∃a t u v,fl= .nx [sRf p,sRf q,a,t,u,v]
 |[],L,a,t,u,v,G,e,h,hi,hL=>by rw[xw,QA];obtain⟨ns,e,hl⟩:=h;exact⟨rfl,Fq.refl,⟨ns,e,by simp at hL;lia⟩,a,t,u,v,rfl⟩
 |i::r,L,a,t,u,v,G,e,h,hi,hL=>by
   simp only[zq]at hL;have hi0:=hi i (by simp);rw[zH,rA,Z7];refine⟨rfl,?_⟩;simp only[jZ,yq];refine Wp.mono (uR e hi0.1 hi0.2 h (by lia)) λfl G1 ⟨f1,h1,t',u',v',ef⟩=>?_;subst ef;have e1:G1[p]? =some (.rol (ns.map D.int)):=by rw[f1.2 p Qf (lt_of_get e)];exact e
   exact Wp.mono (vJ Qf r (L+60) _ _ _ _ G1 e1 h1 (λj hj=>hi j (by simp[hj])) (by lia)) λfl G2 ⟨f2,q2⟩=>⟨f1.trans f2,q2⟩
end
theorem AR(n:Nat):J2 0 n= (zK n).map λi:Nat=>D.int (i:Int):=by unfold J2;apply jM;intro i _;simp
theorem QS{G:DH}{p:Nat}{l:List D}{Q:DPP}(e:G[p]? =some (.rol l)):Wp (t3 [.ref p]) G Q↔Q (.int l.length) G:=by unfold t3;simp only[j6,M6,e,O4,wp_pure]
theorem RT{p:Nat}{ns:List Int}{G:DH}(e:G[p]? =some (.rol (ns.map D.int)))(hn:ns.length<=63):Wp (V5 [.ref p]) G λx G'=>∃r,x= .ref r/\Dr G' r/\cnt G' r<=240:=by
 unfold V5;rw[AW];have hp:=lt_of_get e;have s0:([D.ref p].map some++yr (6 - [D.ref p].length) none:DSt)= [sRf p,none,none,none,none,none]:=rfl;simp only[SH,s0,f9,i8,Z7,aB,VA,N9,RB,AA,t7,i7,i6,jZ,yq,jb,jf,je,exists_eq_left'];refine⟨sz,?_⟩;have e1:=Q4 (t:= [DO.lst []]) e;rw[QS e1,Gq];have hm:(if (80:Int)<((ns.map D.int).length:Int)then (80:Int)else ((ns.map D.int).length:Int))= (ns.length:Int):=by rw[zc,if_neg (by lia)]
 rw[hm,l9 ⟨by lia,by lia⟩,jV];show Wp (B1 S1 DB (λ_=>true) (J2 0 ns.length) [sRf p,some (.ref G.length),none,none,none,none]) (G++[DO.lst []]) _;rw[AR];refine Wp.mono (vJ (ns:=ns) (show p≠G.length by lia) (zK ns.length) 0 none none none none _ e1 ⟨[],g8,by simp⟩ (λi hi=>⟨js.mp hi,by have:=js.mp hi;lia⟩) (by rw[jv];lia)) λfl G1 ⟨f1,h1,a,t,u,v,ef⟩=>?_;subst ef;obtain⟨ms,em,hl⟩:=h1;simp only[lD,VF,CY,fW,Cb,i7,i6,jb,jf,je,exists_eq_left'];rw[Kb em];have:=LY (ms.map λn:Nat=>D.int (n:Int)) 240;have ee:∀M:DH,(M++[DO.lst (DL.cutD (ms.map λn:Nat=>D.int (n:Int)) none (some 240))])[M.length]? =some (.lst ((ms.take 240).map λn:Nat=>D.int (n:Int))):=λM=>by rw[g8,show (some (240:Int))=some ((240:Nat):Int)from rfl,this,List.map_take]
 exact⟨_,rfl,⟨ms.take 240,ee _⟩,by rw[GC (ee _),zc,jI];lia⟩
abbrev e30:Int:=1000000000000000000000000000000
def pD(p:Int×Int):D:=.tup [.int p.1,.int p.2]
structure y1(p:Int×Int):Prop where
 le:p.1<=p.2
 lo:C1 p.1\/p.1= -e30
 hi:C1 p.2\/p.2=e30
theorem p30:Wp (E3 (.int 10) (.int 30)) G Q↔Q (.int e30) G:=iI (show u7 10 30 by decide)
def b5(n:Int):Option Int:=if (if n<0 then -n else n)=e30 then none else some n
theorem X7{n:Int}(h:C1 n):b5 n=some n:=by unfold C1 at h;unfold b5;rw[if_neg (by split<;>lia)]
theorem iF:b5 (-e30)=none:=by decide
theorem VC:b5 e30=none:=by decide
def rg(p:Int×Int):Rg:=(b5 p.1,b5 p.2)
theorem eJ{n:Int}{G:DH}{Q:DPP}(q:Q (B3 (b5 n)) G):Wp (QC [.int n]) G Q:=by
 refine v7<| f9.mpr<| S9<| o8<| bin_w<| S3 rfl<| EI.mpr<| bin_w<| b8 rfl<| b8 rfl<| p30.mpr<| O7.mpr ⟨_,rfl,λk=>?_,λk=>?_⟩
 ·have k:=of_decide_eq_true k;rw[show b5 n=none from if_pos k]at q;exact t8<| b8 rfl<| o4 q
 ·have k:=of_decide_eq_false k;rw[show b5 n=some n from if_neg k]at q;exact o6.mpr<| t8<| b8 rfl<| o4 q
section
variable{a p:Int×Int}
theorem y1.ok(h:y1 p):okR (rg p):=by
 obtain⟨le,l,hh⟩:=h;intro x y ex ey;rcases l with l|l
 · rcases hh with hh|hh
   · rw[show (rg p).1=some p.1 from X7 l]at ex;rw[show (rg p).2=some p.2 from X7 hh]at ey
     cases ex;cases ey;exact le
   · rw[show (rg p).2=none by unfold rg;rw[hh];exact VC]at ey
     cases ey
 · rw[show (rg p).1=none by unfold rg;rw[l];exact iF]at ex
   cases ex
theorem y1.far(ha:y1 a)(hp:y1 p):rg (a.1,if p.2>a.2 then p.2 else a.2)= ((rg a).1,F9 (rg a).2 (rg p).2):=by
 have h1:=ha.hi;have h2:=hp.hi;unfold rg;refine Prod.ext rfl ?_;show b5 (if p.2>a.2 then p.2 else a.2)=F9 (b5 a.2) (b5 p.2);rcases h1 with h1|h1
 · rcases h2 with h2|h2
   ·rw[X7 h1,X7 h2,X7 (by split;exact h2;exact h1)];show _=some (max a.2 p.2);congr 1;split<;>lia
   · unfold C1 at h1;rw[h2,if_pos (by lia),VC]
     cases b5 a.2<;>rfl
 ·rw[h1,if_neg (by unfold C1 at h2;lia),VC];rfl
theorem y1.join(ha:y1 a)(hp:y1 p):y1 (a.1,if p.2>a.2 then p.2 else a.2):=by
 refine⟨?_,ha.lo,?_⟩
 ·have:=ha.le;show a.1<=if p.2>a.2 then p.2 else a.2;split<;>lia
 · show C1 (if p.2>a.2 then p.2 else a.2)\/(if p.2>a.2 then p.2 else a.2)=e30;split
   ·exact hp.hi
   ·exact ha.hi
theorem y1.clr(ha:y1 a)(hp:y1 p):y9 (rg a) (rg p)↔¬p.1<=a.2+1:=by
 have h1:=ha.hi;have h2:=hp.lo;constructor
 · rintro⟨x,y,ex,ey,k⟩;rcases h1 with h1|h1
   · rcases h2 with h2|h2
     · rw[show (rg a).2=some a.2 from X7 h1]at ex;rw[show (rg p).1=some p.1 from X7 h2]at ey
       cases ex;cases ey;lia
     · rw[show (rg p).1=none by unfold rg;rw[h2];exact iF]at ey
       cases ey
   · rw[show (rg a).2=none by unfold rg;rw[h1];exact VC]at ex
     cases ex
 · intro k;have s1:C1 a.2:=h1.resolve_right λz=>by unfold C1 at h2;lia
   have s2:C1 p.1:=h2.resolve_right λz=>by unfold C1 at s1;lia
   exact⟨a.2,p.1,X7 s1,X7 s2,by lia⟩
theorem y1.kle(ha:y1 a)(hp:y1 p)(h:a.1<=p.1):W.kle (rg a).1 (rg p).1:=by
 have h1:=ha.lo;have h2:=hp.lo;rcases h1 with h1|h1
 · have s2:C1 p.1:=h2.resolve_right λz=>by unfold C1 at h1;lia
   rw[show (rg a).1=some a.1 from X7 h1,show (rg p).1=some p.1 from X7 s2];exact h
 ·rw[show (rg a).1=none by unfold rg;rw[h1];exact iF];trivial
end
theorem tK:∀l:List (Int×Int),bA (l.map pD)=some l
 |[]=>rfl
 |p::r=>by show (match BF (pD p),bA (r.map pD) with|some a,some b=>some (a::b)|_,_=>none)=_;rw[tK r];rfl
theorem RP(l:List (Int×Int)):∃l':List (Int×Int),uC l (l.map pD)=l'.map pD/\l'.Perm l/\l'.Pairwise λp q=>p.1<=q.1:=by
 obtain⟨pm,pw⟩:=QH l l.length;have lt:∀i∈W6 l l.length,i<l.length:=λi hi=>js.mp (pm.mem_iff.mp hi);refine⟨(W6 l l.length).map λi=>l.getD i (0,0),?_,?_,?_⟩
 ·unfold uC;rw[zc,zV];refine jM λi hi=>?_;have:=lt i hi;simp[zA,this]
 · have e:(zK l.length).map (λi=>l.getD i (0,0))=l:=by
    apply xi
    ·simp
    ·intro i hi hj;simp[hj]
   have:=pm.map λi=>l.getD i ((0,0):Int×Int);rw[e]at this;exact this
 ·refine jN.mpr (pw.imp_of_mem λ{i j} hi hj h=>?_);unfold ltP at h;have:=vB.mp h;lia
theorem Dq{a:Nat}{l:List (Int×Int)}{G:DH}{Q:DPP}(e:G[a]? =some (.lst (l.map pD)))(hl:l.length<64)
 (q:∀l':List (Int×Int),l'.Perm l->(l'.Pairwise λp q=>p.1<=q.1)->Q (.ref G.length) (G++[.lst (l'.map pD)])):Wp (KB [.ref a]) G Q:=by
 obtain⟨l',e1,pm,pw⟩:=RP l;refine b8 ?_ (q l' pm pw);show (do match <-M4 a with
  | .lst l=>kC l
  |_=>M.stuck:M D) G=_
 rw[M.bind_ok (show M4 a G=some (.ok (.lst (l.map pD)),G) by unfold M4;rw[e])];show kC (l.map pD) G=_;unfold kC;rw[if_pos (by rw[zc];exact hl),M.bind_ok (show E1 (bA (l.map pD)) G=some (.ok l,G) by rw[tK];rfl),e1];rfl
theorem leI{i j:Int}{G:DH}{Q:DPP}:Wp (leD (.int i) (.int j)) G Q↔Q (.bl (decide (i<=j))) G:=wp_pure
abbrev g23:Fg:=(t4 2 (J4 S1 (J4 A1 (m4))))
abbrev g01:Fg:=(t4 2 (J4 H0 (J4 S0 (m4))))
theorem TY:Z8=j9 (J6 (M5 B0) S0) (j9 (L3 (itW (F0 KB g0)) g23 LB) (G9 (F0 V6 (J8 (itW i0) [none,none] g01 (K7) LE)))):=rfl
structure MI(ds Nq rest:List (Int×Int)):Prop where
 mg:Mg (ds.map rg) (Nq.map rg) (rest.map rg)
 ok:∀p∈Nq,y1 p
 ok2:∀p∈rest,y1 p
theorem uE(l:List (Int×Int))(p:Int×Int):(l++[p]).map rg=l.map rg++[rg p]:=zX ..
section
variable{ds:List (Int×Int)}{c:Nat}{a0:Option D}
abbrev lS(a0:Option D)(c:Nat)(p:Int×Int):DSt:= [a0,sRf c,some (.int p.1),some (.int p.2)]
theorem UT{Nq rest:List (Int×Int)}{p:Int×Int}{G:DH}(M:MI ds Nq (p::rest))(e:G[c]? =some (.lst (Nq.map pD)))(hl:ds.length<10000):
 Wp (LB (lS a0 c p)) G λfl G'=>fl= .nx (lS a0 c p)/\∃Nv,MI ds Nv rest/\G.length<=G'.length/\(∀i,i≠c->i<G.length->G'[i]? =G[i]?)/\G'[c]? =some (.lst (Nv.map pD)):=by
 have bg:=big;have okp:=M.ok2 p (zt ..);have ln:=M.mg.len;simp only[zH,zq,zc]at ln;have hG:(G++[DO.lst []])[c]? =some (.lst (Nq.map pD)):=Q4 e;have hc:=lt_of_get e;have fr:∀ {o:DO} i,i≠c->i<G.length->((G++[DO.lst []]).set c o)[i]? =G[i]? :=λi hi h=>by rw[zG (Ne.symm hi),zh h]
 have new:(∀t e,Nq=t++[e]->y9 (rg e) (rg p))->Wp ((O5 (mtE u5 u9 i0 (x0 (L0 C0 A0)))) (lS a0 c p)) (G++[.lst []]) λfl G'=>fl= .nx (lS a0 c p)/\∃Nv,MI ds Nv rest/\G.length<=G'.length/\(∀i,i≠c->i<G.length->G'[i]? =G[i]?)/\G'[c]? =some (.lst (Nv.map pD)):=λhcl=>by
  refine b9.mpr<| X5.mpr<| b8 rfl<| (P0 hG).mpr<| b8 rfl<| (Q6 hG (by rw[zc];lia)).mpr ⟨rfl,Nq++[p],⟨?_,λq hq=>(zO.mp hq).elim (M.ok q) λz=>by rw[zr.mp z];exact okp,λq hq=>M.ok2 q (zl _ hq)⟩,by simp,fr,?_⟩
  · rw[uE];refine M.mg.new λt x z=>?_;have Pd:Nq≠ []:=by rintro rfl;cases t<;>cases z
    obtain⟨t',x',rfl⟩:∃(t:List (Int×Int)) (x:Int×Int),Nq=t++[x]:=⟨_,_,(xN Pd).symm⟩;rw[uE]at z;obtain⟨_,h2⟩:=List.append_inj' z rfl;rw[<-(yJ h2).1];exact hcl t' x' rfl
  ·rw[zY (lt_of_get hG),zX];rfl
 refine S9<| dC<| o8<| bin_w<| b8 rfl<| b8 rfl<| (GO hG g8).mpr ⟨_,rfl,λh=>?_,λh=>⟨λz=>(nomatch z),λ_=>new λt x z=>?_⟩⟩
 · have Pd:Nq≠ []:=by rintro rfl;cases h
   clear h;obtain⟨t,x,rfl⟩:∃(t:List (Int×Int)) (x:Int×Int),Nq=t++[x]:=⟨_,_,(xN Pd).symm⟩;have okx:=M.ok x (zP _ (zr.mpr rfl));have e':=hG;rw[zX]at e';have ix:∀ {Q:DPP},Q (pD x) (G++[.lst []])->Wp (j5 ixD i0 (unE D6 y0) (lS a0 c p)) (G++[.lst []]) Q:=λq=>bin_w<| b8 rfl<| b8 rfl<| (t5 e').mpr ⟨_,KR _ _,q⟩;have ix1:∀ {Q:DPP},Q (.int x.2) (G++[.lst []])->Wp (j5 ixD (ixE i0 (unE D6 y0)) y0 (lS a0 c p)) (G++[.lst []]) Q:=λq=>bin_w<| ix<| b8 rfl<| (ix_tup).mpr ⟨_,rfl,q⟩;refine o8<| bin_w<| b8 rfl<| bin_w<| ix1<| b8 rfl<| Z5.mpr<| leI.mpr ⟨_,rfl,λh=>?_,λh=>new λt' x' z=>?_⟩
   · have nc:¬y9 (rg x) (rg p):=λk=>(okx.clr okp).mp k (of_decide_eq_true h);refine i8.mpr<| V3.mpr<| m6<| bin_w<| ix<| b8 rfl<| (ix_tup).mpr ⟨.int x.1,rfl,m6<| x5<| m6<| ix1<| b8 rfl<| b8 rfl<| t7.mpr ⟨sz,?_⟩⟩;refine qq rfl rfl e' (j:=(t.map pD).length) ?_ ⟨rfl,t++[(x.1,if p.2>x.2 then p.2 else x.2)],⟨?_,λq hq=>(zO.mp hq).elim (λz=>M.ok q (yd _ z)) λz=>by rw[zr.mp z];exact okx.join okp,λq hq=>M.ok2 q (zl _ hq)⟩,by simp,fr,?_⟩
     ·unfold ixN;rw[if_neg (by lia),if_pos (by simp;lia)];congr 1;simp;lia
     ·rw[uE,okx.far okp];refine Mg.join ?_ nc;rw[<-uE];exact M.mg
     ·rw[zY (lt_of_get hG),zX,List.set_append_right _ _ (zf _),Nat.sub_self];rfl
   · obtain⟨rfl,h2⟩:=List.append_inj' z rfl
     cases h2
     exact(okx.clr okp).mpr (of_decide_eq_false h)
 · rw[z]at h
   cases t<;>cases h
end
section
variable{ds:List (Int×Int)}{c:Nat}{a0:Option D}
theorem kO{q:Nat}{L:List D}(hq:q≠c):∀(rest Nq:List (Int×Int)) (u v:Option D) (G:DH),MI ds Nq rest->G[c]? =some (.lst (Nq.map pD))->G[q]? =some (.lst L)->ds.length<10000->
 Wp (B1 g23 LB (ckO q (.lst L)) (rest.map pD) [a0,sRf c,u,v]) G λfl G'=>(∃u v,fl= .nx [a0,sRf c,u,v])/\∃Nv,MI ds Nv []/\G'[c]? =some (.lst (Nv.map pD))/\G.length<=G'.length/\∀i,i≠c->i<G.length->G'[i]? =G[i]?
 |[],Nq,u,v,G,M,e,eq,hl=>QA.mpr ⟨LA eq,⟨u,v,rfl⟩,Nq,M,e,zf _,λ_ _ _=>rfl⟩
 |p::r,Nq,u,v,G,M,e,eq,hl=>by refine rA.mpr ⟨LA eq,b8 rfl<| (UT M e hl).mono ?_⟩;rintro _ G1 ⟨rfl,Nv,M',l1,f1,e1⟩;refine(kO hq r Nv _ _ _ M' e1 (by rw[f1 q hq (lt_of_get eq)];exact eq) hl).mono ?_;rintro _ G2 ⟨⟨u,v,rfl⟩,acc2,M2,e2,l2,f2⟩;exact⟨⟨u,v,rfl⟩,acc2,M2,e2,by lia,λi hi h=>by rw[f2 i hi (by lia),f1 i hi h]⟩
end
theorem PC{α:Type}{mk:α->D×D}{e:Fe}{f:α->D}{ck:DH->Bool}{G:DH}(Pq:ck G=true):∀(l:List α) (u v:Option D),(∀x∈l,e [some (mk x).1,some (mk x).2] G=some (.ok (f x),G))->K6 g01 K7 e ck (l.map λx=>.tup [(mk x).1,(mk x).2]) [u,v] G=some (.ok (l.map f),G)
 |[],u,v,h=>y4 (W4.mpr ⟨Pq,rfl,rfl⟩)
 | x :: r, u, v, h => y4 (W3.mpr ⟨Pq, b8 rfl <| b8 rfl <| by
    rw[if_pos rfl];exact b8 (h x (zt ..))<| b8 (PC Pq r _ _ λy hy=>h y (zl _ hy)) ⟨rfl,rfl⟩⟩)
theorem MP{p:Int×Int}{G:DH}:LE [some (.int p.1),some (.int p.2)] G=some (.ok (rD (rg p)),G):=
 y4<| V3.mpr<| m6<| j7 rfl rfl<| eJ<| m6<| j7 rfl rfl<| eJ<| t7.mpr ⟨sz,rfl,rfl⟩
theorem wd{l:List (Int×Int)}{a:Nat}{G:DH}(ok:∀p∈l,y1 p)(e:G[a]? =some (.lst (l.map pD)))(hl:l.length<64):
 Wp (T7 [.ref a]) G λx G'=>∃due,x= .tup (rsD due)/\mU (l.map rg) due/\due.length<=l.length/\(∀r∈due,∃p,y1 p/\r=rg p)/\Ap G G':=by
 refine v7 (show Wp (Z8 [sRf a,none,none,none]) G _ from ?_);rw[TY];refine K4 (X1:= [sRf a,some (.ref G.length),none,none]) rfl<| f9.mpr<| VA.mpr<| wp_itW.mpr<| S3 rfl<| Dq (Q4 e) hl λl' pm pw=>?_;have Pd:(G++[DO.lst []]).length≠G.length:=by simp
 have st:MI l [] l':=by refine⟨Mg.start (λr hr=>?_) (pm.map rg) (jN.mpr (pw.imp_of_mem λhi hj h=>(ok _ (pm.mem_iff.mp hi)).kle (ok _ (pm.mem_iff.mp hj)) h)),λ_ z=>(nomatch z),λp hp=>ok p (pm.mem_iff.mp hp)⟩;obtain⟨p,hp,rfl⟩:=zE.mp hr;exact(ok p hp).ok
 refine(UB g8).mpr<| (kO Pd l' [] none none _ st (Q4 g8) g8 (by lia)).mono ?_;rintro _ G1 ⟨⟨u,v,rfl⟩,Nq,M,e1,l1,f1⟩;have ml:=M.mg.len;simp only[xw,zc,jO]at ml;refine t8<| x5<| m6<| wp_comp.mpr<| wp_itW.mpr<| b8 rfl<| (UB e1).mpr ⟨?_,b8 (PC (mk:=λp:Int×Int=>(.int p.1,.int p.2)) (LA e1) Nq none none λp _=>MP)<| t7.mpr<| (bB g8).mpr<| o4 ⟨Nq.map rg,?_,⟨M.mg.can,λx=>?_⟩,by rw[zc];exact ml,λr hr=>?_,Gr.ap ⟨?_,λi hi=>?_⟩⟩⟩
 · have:(64:Nat)<=zk:=by decide
   rw[zc];lia
 ·unfold rsD;rw[zV];rfl
 ·rw[M.mg.same x];exact⟨.inl,λz=>z.elim id λz=>absurd z AD⟩
 ·obtain⟨p,hp,rfl⟩:=zE.mp hr;exact⟨p,M.ok p hp,rfl⟩
 ·simp only[zd]at l1 ⊢;lia
 ·rw[zh (by simp at l1;lia),f1 i (by lia) (by simp;lia),jh,zh hi]
abbrev EW:List Nat:= [110,117,109,98,101,114]
def smR(r:Rg):Prop:=(∀a,r.1=some a->smI a)/\∀b,r.2=some b->smI b
def swL:Rg->List Nat
 |(none,none)=>EW
 |(none,some h)=> [46,46]++nmL h
 |(some l,none)=>nmL l++[46,46]
 |(some l,some h)=>if l=h then nmL l else nmL l++[46,46]++nmL h
def oL:Option Int->List Nat
 |none=> []
 |some i=>nmL i
theorem fJ(h:C1 i):smI i:=by unfold C1 at h;unfold smI PD;lia
theorem y1.sm(h:y1 p):smR (rg p):=by
 refine⟨λa e=>?_,λb e=>?_⟩
 · rcases h.lo with k|k
   · rw[show (rg p).1=some p.1 from X7 k]at e
     cases e;exact fJ k
   · rw[show (rg p).1=none by unfold rg;rw[k];exact iF]at e
     cases e
 · rcases h.hi with k|k
   · rw[show (rg p).2=some p.2 from X7 k]at e
     cases e;exact fJ k
   · rw[show (rg p).2=none by unfold rg;rw[k];exact VC]at e
     cases e
theorem IU(h:smR r):(swL r).length<=90:=by
 obtain⟨a,b⟩:=r;rcases a with _|a<;>rcases b with _|b
 ·decide
 ·have:=L7 (h.2 b rfl);show ([46,46]++nmL b).length<=90;rw[zd];show 2+_<=_;lia
 ·have:=L7 (h.1 a rfl);show (nmL a++[46,46]).length<=90;rw[zd];show _+2<=_;lia
 · have h1:=L7 (h.1 a rfl);have h2:=L7 (h.2 b rfl);show (if a=b then nmL a else nmL a++[46,46]++nmL b).length<=90;split
   ·lia
   ·rw[zd,zd];show _+2+_<=_;lia
section
variable{G:DH}{Q:DPP}
theorem IB(h:a.length+b.length<=1000)(q:Q (.str (ofL (a++b))) G):Wp (u0 (.str (ofL a)) (.str (ofL b))) G Q:=by have bg:=big;refine(wI (zp (show (ofL a).length+(ofL b).length<=1000 from h) (by lia))).mpr ?_;rw[aP];exact q
theorem wx(h:smR r)(q:Q (.str (ofL (swL r))) G):Wp (K5 [B3 r.1,B3 r.2]) G Q:=by
 obtain⟨a,b⟩:=r;rcases a with _|a<;>rcases b with _|b
 ·exact FB rfl q
 ·have h2:=h.2 b rfl;have l2:=L7 h2;refine v7<| K4 (X1:= [some .non,some (.int b)]) rfl<| f9.mpr<| S9<| b8 rfl ⟨λ_=>?_,λz=>(nomatch z)⟩;exact t8<| bin_w<| b8 rfl<| S3 rfl<| rB h2<| IB (by show 2+_<=_;lia)<| o4 q
 ·have h1:=h.1 a rfl;have l1:=L7 h1;refine v7<| K4 (X1:= [some (.int a),some .non]) rfl<| K4 (X1:= [some (.int a),some .non]) rfl<| f9.mpr<| S9<| b8 rfl ⟨λ_=>?_,λz=>(nomatch z)⟩;exact t8<| bin_w<| S3 rfl<| rB h1<| b8 rfl<| IB (by show _+2<=_;lia)<| o4 q
 · have h1:=h.1 a rfl;have l1:=L7 h1;have h2:=h.2 b rfl;have l2:=L7 h2;refine v7<| K4 (X1:= [some (.int a),some (.int b)]) rfl<| K4 (X1:= [some (.int a),some (.int b)]) rfl<| K4 (X1:= [some (.int a),some (.int b)]) rfl<| f9.mpr<| S9<| o8<| bin_w<| b8 rfl<| b8 rfl<| O7.mpr ⟨_,rfl,λk=>?_,λk=>o6.mpr ?_⟩
   ·have k:=of_decide_eq_true k;rw[show swL (some a,some b)=nmL a from if_pos k]at q;exact t8<| S3 rfl<| rB h1<| o4 q
   ·have k:=of_decide_eq_false k;rw[show swL (some a,some b)=nmL a++[46,46]++nmL b from if_neg k]at q;exact t8<| bin_w<| bin_w<| S3 rfl<| rB h1<| b8 rfl<| IB (by show _+2<=_;lia)<| S3 rfl<| rB h2<| IB (by rw[zd];show _+2+_<=_;lia)<| o4 q
theorem qU(h:smI i)(q:Q (.str (ofL (nmL i))) G):Wp (N5 [.int i]) G Q:=
 v7<| K4 (X1:= [some (.int i)]) rfl<| f9.mpr<| S9<| b8 rfl ⟨λ_=>t8<| S3 rfl<| rB h<| o4 q,λz=>nomatch z⟩
theorem mH(h:∀i,a=some i->smI i)(q:Q (.str (ofL (oL a))) G):Wp (R5 [B3 a]) G Q:=by
 rcases a with _|i
 ·exact FB rfl q
 ·exact v7<| t8<| sZ rfl<| j7 rfl rfl<| qU (h i rfl)<| o4 q
theorem iU(h:smR r)(hn:r≠(none,none))(q:Q (.str (ofL (swL r))) G):Wp (U9 [B3 r.1,B3 r.2]) G Q:=by
 obtain⟨a,b⟩:=r;have ends:∀ {a b:Option Int},smR (a,b)->∀ {Q:DPP},Q (.str (ofL (oL a++[46,46]++oL b))) G->Wp ((j5 u0 (j5 u0 (D0 R5 g0) (cSt "..")) (D0 R5 i0)) [some (B3 a),some (B3 b)]) G Q:=λ{a b} h {Q} q=>by
  have l1:(oL a).length<=41:=by
   rcases a with _|a
   ·decide
   ·exact L7 (h.1 a rfl)
  have l2:(oL b).length<=41:=by
   rcases b with _|b
   ·decide
   ·exact L7 (h.2 b rfl)
  exact bin_w<| bin_w<| j7 rfl rfl<| mH h.1<| b8 rfl<| IB (by show _+2<=_;lia)<| j7 rfl rfl<| mH h.2<| IB (by rw[zd];show _+2+_<=_;lia) q
 refine v7 (show Wp (G9 _ [some (B3 a),some (B3 b)]) G _ from t8<| WA.mpr<| o8<| bin_w<| b8 rfl<| b8 rfl ?_);rcases a with _|a<;>rcases b with _|b
 ·exact absurd rfl hn
 ·exact b8 rfl ⟨_,rfl,by rw[if_neg zR];exact ends h (o4 q)⟩
 ·refine b8 rfl ⟨_,rfl,?_⟩;rw[if_neg zR];exact ends h (o4 (by rw[show oL none= []from rfl,jP];exact q))
 · refine O7.mpr ⟨_,rfl,?_⟩;by_cases k:a=b
   ·rw[decide_eq_true k,if_pos rfl];rw[show swL (some a,some b)=nmL a from if_pos k]at q;exact j7 rfl rfl<| mH h.1<| o4 q
   ·rw[decide_eq_false k,if_neg zR];rw[show swL (some a,some b)=nmL a++[46,46]++nmL b from if_neg k]at q;exact ends h (o4 q)
end
def Km:D->D
 | .str z=>.tup [.int z.length,.str z]
 |_=>.non
def txB(a b:Str):Bool:=if a.length=b.length then decide (a.cps.toList<b.cps.toList)else decide (a.length<b.length)
abbrev wOf:Str:= "of"
abbrev DX:Str:= "but"
def Dk(G:DH)(p:Nat)(l:List (Key×D)):Prop:=G[p]? =some (.dct l)\/G[p]? =some (.rod l)
theorem Dk.app(h:Dk G p l):Dk (G++t) p l:=by
 rcases h with h|h
 ·exact .inl (Q4 h)
 ·exact .inr (Q4 h)
theorem Dk.lt(h:Dk G p l):p<G.length:=by rcases h with h|h<;>exact lt_of_get h
def Tx(z:Str):Prop:=rJ z=true/\z.length<=40
def Ris(s:List Str):Prop:=s.Pairwise λa b=>txB a b=true
theorem Bg(h1:txB a b=true)(h2:txB b c=true):txB a c=true:=by have:= @sB ((a.length:Int),a) ((b.length:Int),b) ((c.length:Int),c);unfold W8 at this;unfold txB at *;simp only[Int.ofNat_inj,Int.ofNat_lt]at this;exact this h1 h2
theorem NK(a:Str):txB a a=false:=by unfold txB;rw[if_pos rfl,decide_eq_false (List.lt_irrefl _)]
theorem VE(a b:Str):txB a b=W8 ((a.length:Int),a) ((b.length:Int),b):=by unfold txB W8;simp only[Int.ofNat_inj,Int.ofNat_lt]
abbrev wrd(b:Bool):Str:=if b then wOf else DX
def A2(b:Bool)(s:List Str):D:=.tup [.str (wrd b),.tup (s.map D.str)]
theorem gM:∀s t:List Str,eqL (eqN (n+1) G) (s.map D.str) (t.map D.str)=some (decide (s=t))
 |[], []=>by simp[eqL]
 |[],_::_=>by simp[eqL]
 |_::_, []=>by simp[eqL]
 |a::s,b::t=>by
   have e:eqN (n+1) G (.str a) (.str b)=some (a==b):=rfl;simp only[zH,eqL,e,gM s t,je];by_cases h1:a=b
   ·by_cases h2:s=t<;>simp[h1,h2]
   ·simp[h1]
theorem NM:∀s:List Str,w8 EC (s.map λz=>Km (.str z))=some (s.map λz=>((z.length:Int),z))
 |[]=>rfl
 |a::r=>by simp only[zH,w8,NM r];rfl
theorem AY(nd:s.Nodup):∃m,l8 (s.map λz=>((z.length:Int),z)) (s.map D.str)=m.map D.str/\Ris m/\m.Perm s:=by
 have hz:(s.map λz=>(((z.length:Int),z):Int×Str)).zip (s.map D.str)=s.map λz=>(((z.length:Int),z),D.str z):=by rw[XU]
 have nd2:(s.map λz=>(((z.length:Int),z):Int×Str)).Nodup:=by rw[List.Nodup,jN];exact nd.imp λ{a b} h e=>h (xn e).2
 let m:=s.mergeSort λa b=> !txB b a
 have hp:m.Perm s:=jU _ _;have hs:m.Pairwise λa b=>(!txB b a)=true:=xq (λa b c h1 h2=>by
  simp only[xy]at *;refine xz.mpr λh=>?_;by_cases e:a=b
  ·subst e;rw[h]at h2;cases h2
  ·rw[VE]at h h1 h2;have:=sB h (vC (λz=>e (xn z).2.symm) h1);rw[this]at h2;cases h2) (λa b=>by
  by_cases e:a=b
  ·subst e;rw[NK];rfl
  · cases q:txB b a with
    |false=>rfl
    |true=>
      have:txB a b=false:=by refine xz.mpr λh=>?_;have:=Bg q h;rw[NK]at this;cases this
      rw[this];rfl) _
 refine⟨m,?_,?_,hp⟩
 · have e:=lJ nd2 (z:=m.map λz=>(((z.length:Int),z),D.str z)) (by rw[hz];exact hp.map _) (by
    rw[jN];refine hs.imp λ{a b} h=>?_;unfold g9;rw[<-VE];exact h)
   rw[<-e,zV];rfl
 ·have ndm:m.Nodup:=hp.nodup_iff.mpr nd;have:m.Pairwise λa b=>(!txB b a)=true/\a≠b:=List.Pairwise.and hs ndm;refine this.imp λ{a b} h=>?_;have h1:=h.1;simp only[xy]at h1;rw[VE]at h1 ⊢;exact vC (λz=>h.2 (xn z).2.symm) h1
def inT(b:Bool)(s:List Str)(z:Str):Prop:=if b then z∈s else z∉s
structure Rw(s:List Str):Prop where
 ris:Ris s
 tx:∀z∈s,Tx z
 len:s.length<64
structure PS where
 ns:List Rg
 b:Bool
 ts:List Str
 f:Bool
 t:Bool
def trD(f t:Bool):D:=.tup ((if f then [.bl false]else [])++if t then [.bl true]else [])
structure OkP(s:PS):Prop where
 can:Can s.ns
 rw:Rw s.ts
section
variable{G:DH}{Q:DPP}
end
structure tM(L:List PS)(m:PS):Prop where
 ok:OkP m
 ns:∀x,inS m.ns x↔∃s∈L,inS s.ns x
 b:m.b=L.all (·.b)
 ts:∀z,inT m.b m.ts z↔∃s∈L,inT s.b s.ts z
 f:m.f=L.any (·.f)
 t:m.t=L.any (·.t)
theorem GE{L:List α}{P:α->Prop}:(∃s∈a::L,P s)↔P a\/∃s∈L,P s:=by
 constructor
 · rintro⟨s,hs,h⟩;rcases zI.mp hs with rfl|hs
   ·exact .inl h
   ·exact .inr ⟨s,hs,h⟩
 · rintro(h|⟨s,hs,h⟩)
   ·exact⟨a,zt ..,h⟩
   ·exact⟨s,zl _ hs,h⟩
theorem tM.one(h:OkP s):tM [s] s:=by have no:∀ {P:PS->Prop},¬∃u∈([]:List PS),P u:=fun⟨_,h,_⟩=>nomatch h;exact⟨h,λx=>⟨λk=>GE.mpr (.inl k),λk=>(GE.mp k).elim id λz=>absurd z no⟩,by simp,λz=>⟨λk=>GE.mpr (.inl k),λk=>(GE.mp k).elim id λz=>absurd z no⟩,by simp,by simp⟩
def v8(f:α->List Nat)(l:List α):List D:=l.map λx=>.str (ofL (f x))
theorem AM(f:α->List Nat):∀l:List α,F5 (v8 f l)=some (l.map λd=>ofL (f d))
 |[]=>rfl
 |x::r=>by have h:=AM f r;unfold v8 at h ⊢;rw[zH,zH,F5,h];rfl
def TxL(z:Str):Prop:=(∀c∈tl z,97<=c/\c<=122)/\z.length<=40
abbrev cT:List Nat:= [116,114,117,101]
abbrev cF:List Nat:= [102,97,108,115,101]
abbrev cTx:List Nat:= [116,101,120,116]
abbrev cTh:List Nat:= [116,114,117,116,104]
def qL(z:Str):List Nat:=34::(tl z++[34])
section
variable{T:Str}{G:DH}{Q:DPP}{pre post:List Nat}
def blL(b:Bool):List Nat:=if b then cT else cF
end
theorem dD{mk:α->D}{e:Fe}{f:α->D}{G:DH}(Pq:ck G=true):∀(l:List α) u,(∀x∈l,e [some (mk x)] G=some (.ok (f x),G))->K6 H0 K7 e ck (l.map mk) [u] G=some (.ok (l.map f),G)
 |[],u,h=>y4 (W4.mpr ⟨Pq,rfl,rfl⟩)
 | x :: r, u, h => y4 (W3.mpr ⟨Pq, b8 rfl <| b8 rfl <| by
    rw[if_pos rfl];exact b8 (h x (zt ..))<| b8 (dD Pq r _ λy hy=>h y (zl _ hy)) ⟨rfl,rfl⟩⟩)
section
variable{G:DH}{Q:DPP}
def bqL(ts:List Str):List Nat:=ts.flatMap λz=>32::qL z
end
theorem UV(h:TxL z):Tx z:=⟨by
 unfold rJ;rw[xG];intro c hc;have:=h.1 c hc;unfold dO;simp only[decide_eq_true_eq,jl];exact this,h.2⟩
abbrev cTb:List Nat:= [116,101,120,116,32,98,117,116]
def btL(ts:List Str):List Nat:=cTb++bqL ts
inductive Wd
 |num (r:Rg)
 |txt (z:Str)
 |all
 |but (ts:List Str)
 |tru (b:Bool)
 |both
def wdL:Wd->List Nat
 | .num r=>swL r
 | .txt z=>qL z
 | .all=>cTx
 | .but ts=>btL ts
 | .tru b=>blL b
 | .both=>cTh
def PDx:Nat->D->Prop
 |0,_=>False
 |n+1,d=>d= .non\/(∃k,d= .bl k)\/(∃i,d= .int i)\/(∃z,d= .str z)\/∃l,d= .tup l/\l.length<=1000/\∀x∈l,PDx n x
section
variable{G:DH}
theorem o9(hl:l.length<=1000)(h:∀x∈l,PDx n x):PDx (n+1) (.tup l):=.inr (.inr (.inr (.inr ⟨_,rfl,hl,h⟩)))
end
abbrev abc:Str:= "abcdefghijklmnopqrstuvwxyz"
theorem mT:∀n<26,tl abc= (tl abc).take n++(97+n)::(tl abc).drop (n+1)/\((tl abc).take n).length=n:=by decide
theorem Hj(h0:0<=k)(h1:k<26)(q:∀c,97<=c->c<=122->Q (.str ⟨#[c]⟩) G):Wp (ixD (.str abc) (.int k)) G Q:=by obtain⟨n,rfl⟩:=yI h0;obtain⟨e,l⟩:=mT n (by lia);have:=GX e (by decide) (q _ (by lia) (by lia));rw[l]at this;exact this
def Lt(z:Str):Prop:=∀c∈tl z,97<=c/\c<=122
theorem Lt.snoc(h:Lt z)(h0:97<=c)(h1:c<=122):Lt (z++⟨#[c]⟩):=λx hx=>by
 have e:tl (z++⟨#[c]⟩)=tl z++[c]:=xO;rw[e]at hx;rcases zO.mp hx with k|k
 ·exact h x k
 ·rw[zr.mp k];exact⟨h0,h1⟩
theorem kg:cD=j9 (J6 (z0 j4 g0 EA) S0) (j9 woA (asQ (z0 j4 g0 v3) A1 (j9 woB woR))):=rfl
section
variable{r:Nat}{a b c:Option D}
theorem eK:∀items z u G,Dr G r->Lt z->z.length+items.length<=40->
 Wp (B1 u4 woL (λ_=>true) items [sRf r,a,b,c,some (.str z),u]) G λfl G'=>Fd r G G'/\∃z' u',fl= .nx [sRf r,a,b,c,some (.str z'),u']/\TxL z'
 |[],z,u,G,h,hz,hl=>QA.mpr ⟨rfl,Fd.refl h,z,u,rfl,hz,by simp at hl;lia⟩
 |d::t,z,u,G,h,hz,hl=>by have bg:=big;simp only[zq]at hl;refine rA.mpr ⟨rfl,Z7.mpr<| u6<| bin_w<| b8 rfl<| bin_w<| b8 rfl<| j7 rfl rfl<| T3 h (by decide) λk k0 k1 G1 f1=>Hj k0 k1 λq q0 q1=>(wI (by show z.length+1<=_;lia)).mpr ?_⟩;refine(eK t (z++⟨#[q]⟩) (some d) G1 f1.2.2 (hz.snoc q0 q1) (by rw[Str.length_append];show z.length+1+_<=_;lia)).mono ?_;rintro fl G2 ⟨f2,h2⟩;exact⟨f1.trans f2,h2⟩
theorem Kj(h:Dr G r):Wp (woA [sRf r,some (.int w),none,none,none,none]) G λfl G'=>Fd r G G'/\((∃z,fl= .rt (.str z)/\TxL z)\/fl= .nx [sRf r,some (.int w),none,none,none,none]):=by
 have hr:=h.lt;refine S9<| o8<| bin_w<| b8 rfl<| b8 rfl<| O7.mpr ⟨_,rfl,λ_=>?_,λ_=>o6.mpr ⟨Fd.refl h,.inr rfl⟩⟩;refine f9.mpr<| u6<| b8 rfl ?_;refine f9.mpr<| u6<| bin_w<| b8 rfl<| b8 (a:=.ref (G++[DO.lst (ZZ D.str ["any", "nothing", "number", "text", "truth", "true", "false", "or", "but", "in", "only", "wish"])]).length) (G':=G++[.lst (ZZ D.str ["any", "nothing", "number", "text", "truth", "true", "false", "or", "but", "in", "only", "wish"])]++[.lst (ZZ D.str ["numbers", "texts", "anyone", "orb"])]) rfl ?_;refine(a9 (Q4 g8) g8 (by decide)).mpr ?_;generalize hL:ZZ D.str ["any", "nothing", "number", "text", "truth", "true", "false", "or", "but", "in", "only", "wish"]=L;generalize hM:ZZ D.str ["numbers", "texts", "anyone", "orb"]=M;refine t8<| bin_w<| b8 rfl<| j7 rfl rfl<| T3 h.app.app.app (by decide) λk k0 k1 G1 f1=>?_;have e1:=f1.at (by simp;lia) g8;have fd:=((Fd.app h).trans ((Fd.app h.app).trans (Fd.app h.app.app))).trans f1;obtain⟨d,hd,e⟩:=RH (l:=L++M) k0 (by subst hL hM;simp;lia);refine(t5 e1).mpr ⟨d,e,fd,.inl ?_⟩;have tx:∀z∈(["any", "nothing", "number", "text", "truth", "true", "false", "or", "but", "in", "only", "wish", "numbers", "texts", "anyone", "orb"]:List Str),(∀c∈tl z,97<=c/\c<=122)/\z.length<=40:=by decide +kernel
 subst hL hM;rw[<-zX]at hd;obtain⟨z,hz,rfl⟩:=zE.mp hd;exact⟨z,rfl,tx z hz⟩
end
section
variable{r:Nat}{a b c:Option D}
theorem PL(h:Dr G r):Wp (U7 [.ref r]) G λx G'=>∃z,x= .str z/\TxL z/\Fd r G G':=by
 refine v7 (show Wp (cD [sRf r,none,none,none,none,none]) G _ from ?_);rw[kg];refine f9.mpr<| u6<| j7 rfl rfl<| T3 h (by decide) λw w0 w1 G1 f1=>?_;refine f9.mpr<| (Kj f1.2.2).mono ?_;rintro fl G2 ⟨f2,k⟩;rcases k with⟨z,rfl,hz⟩|rfl
 ·exact o4 ⟨z,rfl,hz,f1.trans f2⟩
 have key:∀(m:Int) (G4:DH),0<=m->m<31->Fd r G G4->Wp (woR [sRf r,some (.int w),none,some (.int m),none,none]) G4 (PB λx G'=>∃z,x= .str z/\TxL z/\Fd r G G'):=by
  intro m G4 m0 m1 f4;refine f9.mpr<| u6<| b8 rfl<| f9.mpr<| VA.mpr<| N9.mpr<| b8 rfl<| (l9 ⟨by lia,by lia⟩).mpr<| (eK (J2 0 m.toNat) "" none G4 f4.2.2 (λ_ z=>nomatch z) ?_).mono ?_
  ·unfold J2;rw[zc,jv,show (("" :Str).length)=0 from rfl];lia
  ·rintro fl G5 ⟨f5,z,u,rfl,hz⟩;exact t8<| b8 rfl<| o4 ⟨z,rfl,hz,f4.trans f5⟩
 refine f9.mpr<| u6<| j7 rfl rfl<| T3 f2.2.2 (by decide) λk k0 k1 G3 f3=>?_;refine f9.mpr<| S9<| o8<| bin_w<| b8 rfl<| b8 rfl<| O7.mpr ⟨_,rfl,λ_=>?_,λ_=>o6.mpr<| key k G3 k0 (by lia) ((f1.trans f2).trans f3)⟩;refine u6<| j7 rfl rfl<| T3 f3.2.2 (by decide) λm m0 m1 G4 f4=>key m G4 m0 m1 (((f1.trans f2).trans f3).trans f4)
end
def prL(z:Str):Int×Str:=((z.length:Int),z)
theorem sM:∀l us:List (Int×Str),(l.foldl ddQ us).length<=us.length+l.length
 |[],us=>zf _
 |q::l,us=>by
   have:=sM l (ddQ us q);have h:(ddQ us q).length<=us.length+1:=by
    unfold ddQ;split
    ·lia
    ·rw[zd];exact zf _
   rw[yP,zq];lia
theorem gS(ws:List Str):∃m:List Str,l8 ((ws.map prL).foldl ddQ []) (((ws.map prL).foldl ddQ []).map qD)=m.map (λz=>.tup [.int z.length,.str z])/\Ris m/\(∀z,z∈m↔z∈ws)/\m.length<=ws.length:=by
 have nd:=iG (ws.map prL) [] yH;have mem:=FJ (ws.map prL) [];have len:=sM (ws.map prL) [];generalize (ws.map prL).foldl ddQ []=us at nd mem len;have hu:∀q∈us,q=prL q.2:=λq hq=>by
  rcases (mem q).mp hq with k|k
  ·cases k
  ·obtain⟨z,_,rfl⟩:=zE.mp k;rfl
 have e0:us= (us.map (·.2)).map prL:=by
  rw[zV]
  conv=>lhs;rw[<-jE us]
  exact jM λq hq=>hu q hq
 have nd0:(us.map (·.2)).Nodup:=by rw[e0]at nd;exact(jN.mp nd).imp λh z=>h (by rw[z])
 obtain⟨m,_,r,p⟩:=AY nd0;have hp:(m.map prL).Perm us:=by rw[e0];exact p.map _
 have pw:(m.map prL).Pairwise λx y=>W8 x y=true:=jN.mpr (r.imp λ{a b} h=>by rw[VE]at h;exact h);refine⟨m,?_,r,λz=>?_,?_⟩
 ·rw[<-RM nd hp pw,zV];rfl
 · rw[p.mem_iff,zE];constructor
   · rintro⟨q,hq,rfl⟩;rcases (mem q).mp hq with k|k
     ·cases k
     ·obtain⟨z,hz,rfl⟩:=zE.mp k;exact hz
   ·exact λhz=>⟨prL z,(mem _).mpr (.inr (zE.mpr ⟨z,hz,rfl⟩)),rfl⟩
 ·rw[p.length_eq,zc];rw[zc]at len;simpa using len
theorem Ld:gE=G9 (F0 V6 (J8 (itW (dE rkC)) [none,none] g01 (K7) i0)):=rfl
theorem SU{ws:List Str}(e:G[c]? =some (.lst (ws.map D.str)))(tx:∀z∈ws,TxL z)(hl:ws.length<=6)(q:∀m G',Ris m->(∀z,z∈m↔z∈ws)->m.length<=6->Ap G G'->Q (.tup (m.map D.str)) G'):Wp (Z6 [.ref c]) G Q:=by
 have bg:=big;refine v7 (show Wp (gE [sRf c]) G _ from ?_);rw[Ld];obtain⟨m,em,r,mm,lm⟩:=gS ws;have ea:rkC [sRf c] G=some (.ok (.ref G.length),G++[.lst (ws.map λz=>.tup [.int z.length,.str z])]):=by
  suffices w:Wp (rkC [sRf c]) G λx G'=>x= .ref G.length/\G'=G++[.lst (ws.map λz=>.tup [.int z.length,.str z])] by
   obtain⟨_,_,w,rfl,rfl⟩:=w;exact w
  refine wp_comp.mpr<| wp_itW.mpr<| b8 rfl<| (UB e).mpr ⟨by rw[zc];lia,?_⟩;refine b8 (dD (LA e) ws none λz hz=>y4<| V3.mpr<| m6<| S3 rfl<| (sR (zp (tx z hz).2 (by lia))).mpr<| b8 rfl ⟨sz,rfl,rfl⟩) ⟨rfl,rfl⟩
 refine t8<| x5<| m6<| wp_comp.mpr<| wp_itW.mpr<| dS (qs:=ws.map prL) ea g8 (NM ws) (by rw[zc];lia) ?_;rw[em];refine(UB g8).mpr ⟨by rw[zc];lia,b8 (PC (mk:=λz:Str=>(.int z.length,.str z)) (LA g8) m none none λz _=>rfl)<| t7.mpr<| (bB g8).mpr<| o4<| q m _ r mm (by lia) ((Ap.one.trans Ap.one).trans Ap.one)⟩
theorem DQ:V9=j9 nuM (j9 nuS (asQ (M5 B0) A1 (j9 (L3 (T4 (x0 i0)) T0 nuB) (asQ (z0 j4 g0 F4) u4 (j9 nuL (j9 nuH (j9 nuA (G9 (D0 T7 A0))))))))):=rfl
section
variable{r:Nat}
theorem mM:∀items u G,Dr G r->
 Wp (K6 H0 K7 nuE (λ_=>true) items [u,sRf r]) G λys G'=>∃ns:List Int,ys=ns.map D.int/\(∀n∈ns,C1 n)/\ns.length=items.length/\Fd r G G'
 |[],u,G,h=>W4.mpr ⟨rfl, [],rfl,λ_ z=>(nomatch z),rfl,Fd.refl h⟩
 |d::t,u,G,h=>by refine W3.mpr ⟨rfl,b8 rfl<| b8 rfl ?_⟩;rw[if_pos rfl];refine j7 rfl rfl<| (gH h).mono ?_;rintro _ G1 ⟨i,rfl,hi,f1⟩;refine(mM t _ G1 f1.2.2).mono ?_;rintro _ G2 ⟨ns,rfl,hn,hl,f2⟩;exact⟨i::ns,rfl,λn hm=>(zI.mp hm).elim (λe=>e▸hi) (hn n),by simp[hl],f1.trans f2⟩
end
section
variable{r:Nat}
variable{p q:Nat}{w:Option D}{S:List Int}
abbrev nuX(r p q:Nat)(m:Int)(u w:Option D):DSt:= [sRf r,some (.int m),sRf p,sRf q,u,w]
structure Nu(r q:Nat)(G G':DH)(prs:List (Int×Int)):Prop where
 ok:∀x∈prs,y1 x
 at_:G'[q]? =some (.lst (prs.map pD))
 dr:Dr G' r
 old:G.length<=G'.length/\∀i,i≠r->i≠q->i<G.length->G'[i]? =G[i]?
 cn:cnt G' r<=cnt G r
theorem Nu.more(hq:q≠r)(h:Nu r q G G1 prs)(f:Fd r G1 G2)(ok:y1 x):G2[q]? =some (.lst (prs.map pD))/\Nu r q G (G2.set q (.lst (prs.map pD++[pD x]))) (prs++[x]):=by
 have e2:=f.at hq h.at_;refine⟨e2,λy hy=>(zO.mp hy).elim (h.ok y) λz=>by rw[zr.mp z];exact ok,?_,f.2.2.set hq,⟨?_,λi hi hq' hl=>?_⟩,by rw[W5 (zG hq)];exact zp f.c h.cn⟩
 ·rw[zY (lt_of_get e2),zX];rfl
 ·rw[yf];exact zp h.old.1 f.1
 ·rw[zG (Ne.symm hq'),f.2.1 i hi (by have:=h.old.1;lia),h.old.2 i hi hq' hl]
theorem wN{l:List Int}(hk:k=n)(hn:n<l.length):atI (l.map D.int) k=some (.int l[n]):=by subst hk;exact atI_nat (by simp[hn])
theorem lM(hq:q≠r)(hp:p≠r)(Qf:p≠q)(hS:S.Pairwise (· <= ·))(hs:∀n∈S,C1 n)(ep:G[p]? =some (.lst (S.map D.int)))(hL:S.length=2*n0):∀(n k:Nat) (prs:List (Int×Int)) u (G1:DH),k+n=n0->Nu r q G G1 prs->prs.length<=k->n0<=10->
 Wp (B1 T0 nuB (λ_=>true) ((List.range' k n).map λi:Nat=>D.int ((0:Int)+(i:Int))) (nuX r p q m u w)) G1 λfl G'=>(∃u,fl= .nx (nuX r p q m u w))/\∃prs',Nu r q G G' prs'/\prs'.length<=n0
 |0,k,prs,u,G1,hk,h,hl,h10=>QA.mpr ⟨rfl,⟨u,rfl⟩,prs,h,by lia⟩
 |n+1,k,prs,u,G1,hk,h,hl,h10=>by
   have bg:=big;have e1:G1[p]? =some (.lst (S.map D.int)):=by rw[h.old.2 p hp Qf (lt_of_get ep)];exact ep
   rw[List.range'_succ,zH];refine rA.mpr ⟨rfl,Z7.mpr<| b9.mpr<| X5.mpr<| b8 rfl<| (P0 h.at_).mpr<| m6<| V3.mpr<| m6<| bin_w<| b8 rfl<| bin_w<| b8 rfl<| b8 rfl<| (Q0 (Or.inl ⟨by decide,by lia⟩)).mpr<| (t5 e1).mpr ⟨.int S[2*k],wN (by lia) (by lia),?_⟩⟩;refine m6<| bin_w<| b8 rfl<| bin_w<| bin_w<| b8 rfl<| b8 rfl<| (Q0 (Or.inl ⟨by decide,by lia⟩)).mpr<| j7 rfl rfl<| T3 h.dr (by decide) λt t0 t1 G2 f2=>Z5.mpr ?_;obtain⟨t,rfl⟩:=yI t0;have ok:y1 (S[2*k],S[2*k+t]):=⟨by
    show S[2*k]<=S[2*k+t];rcases Nat.eq_zero_or_pos t with rfl|c
    ·exact Xj _
    ·exact xk.mp hS _ _ _ _ (by lia),.inl (hs _ (YX _)),.inl (hs _ (YX _))⟩
   obtain⟨e2,nu⟩:=h.more hq f2 ok;refine(t5 (f2.at hp e1)).mpr ⟨.int S[2*k+t],wN (by lia) (by lia),t7.mpr ⟨sz,t7.mpr<| (Q6 e2 (by rw[zc];lia)).mpr ?_⟩⟩;refine lM hq hp Qf hS hs ep hL n (k+1) _ _ _ (by lia) nu (by rw[zd,yW];lia) h10
end
section
variable{r p q:Nat}{m:Int}{u:Option D}{G G1:DH}{prs:List (Int×Int)}
theorem NL{a b w:Int}(w0:0<=w)(w1:w<8)(h:(a=1/\b=3)\/(a=2/\b=3)):∃k,HB (j5 inD F3 (L0 (cE (.int a)) (cE (.int b)))) (nuX r p q m u (some (.int w))) G=some (.ok k,G):=by
 have:w=0\/w=1\/w=2\/w=3\/w=4\/w=5\/w=6\/w=7:=by lia
 rcases h with⟨rfl,rfl⟩|⟨rfl,rfl⟩<;>rcases this with rfl|rfl|rfl|rfl|rfl|rfl|rfl|rfl<;>exact⟨_,rfl⟩
abbrev NuQ(r p q:Nat)(m:Int)(u:Option D)(w:Int)(G:DH)(n:Nat)(fl:Fl)(G':DH):Prop:=fl= .nx (nuX r p q m u (some (.int w)))/\∃prs',Nu r q G G' prs'/\prs'.length<=n+1
theorem NG{w:Int}{x:Int×Int}{G2:DH}{fs:DSt->M (List D)}{a:Fe}(hq:q≠r)(h:Nu r q G G1 prs)(hl:prs.length<=40)(ok:y1 x)(ew:Wp (a (nuX r p q m u (some (.int w)))) G1 λd G'=>d=pD x/\Fd r G1 G'):
 Wp (O5 (mtE u5 u9 A0 (x0 a)) (nuX r p q m u (some (.int w)))) G1 (NuQ r p q m u w G prs.length):=by
 have bg:=big;refine b9.mpr<| X5.mpr<| b8 rfl<| (P0 h.at_).mpr<| m6<| ew.mono ?_;rintro _ G2 ⟨rfl,f⟩;obtain⟨e2,nu⟩:=h.more hq f ok;exact t7.mpr<| (Q6 e2 (by rw[zc];lia)).mpr ⟨rfl,_,nu,by rw[zd,yW];lia⟩
theorem AF{σ:DSt}{R:DPP}(k:R (.int e30) G):Wp (j5 E3 P5 (cIn 30) σ) G R:=bin_w<| b8 rfl<| b8 rfl<| p30.mpr k
theorem Mx(w0:0<=w)(w1:w<8)(hq:q≠r)(h:Nu r q G G1 prs)(hl:prs.length<=40):Wp (nuL (nuX r p q m u (some (.int w)))) G1 (NuQ r p q m u w G prs.length):=by obtain⟨k,ek⟩:=NL w0 w1 (.inl ⟨rfl,rfl⟩);refine fM ek (λ_=>?_) λ_=>o6.mpr ⟨rfl,prs,h,by lia⟩;obtain⟨i,G2,em,_⟩:=gH h.dr;obtain⟨i,rfl,hi,f⟩:= ‹∃j,i= .int j/\_›;refine NG (x:=(-e30,i)) (G2:=G1) (fs:=B0) hq h hl ⟨by unfold C1 at hi;show -e30<=i;lia,.inr rfl,.inl hi⟩ ?_;exact V3.mpr<| m6<| bG.mpr<| AF<| wG.mpr<| m6<| j7 rfl rfl<| b8 em<| t7.mpr ⟨sz,rfl,f⟩
theorem qS(w0:0<=w)(w1:w<8)(hq:q≠r)(h:Nu r q G G1 prs)(hl:prs.length<=40):Wp (nuH (nuX r p q m u (some (.int w)))) G1 (NuQ r p q m u w G prs.length):=by obtain⟨k,ek⟩:=NL w0 w1 (.inr ⟨rfl,rfl⟩);refine fM ek (λ_=>?_) λ_=>o6.mpr ⟨rfl,prs,h,by lia⟩;obtain⟨i,G2,em,_⟩:=gH h.dr;obtain⟨i,rfl,hi,f⟩:= ‹∃j,i= .int j/\_›;refine NG (x:=(i,e30)) (G2:=G1) (fs:=B0) hq h hl ⟨by unfold C1 at hi;show i<=e30;lia,.inl hi,.inr rfl⟩ ?_;exact V3.mpr<| m6<| j7 rfl rfl<| b8 em<| m6<| AF<| t7.mpr ⟨sz,rfl,f⟩
theorem PY(hq:q≠r)(h:Nu r q G G1 prs)(hl:prs.length<=40):Wp (nuA (nuX r p q m u (some (.int w)))) G1 (NuQ r p q m u w G prs.length):=by refine S9<| o8<| bin_w<| b8 rfl<| b8 rfl<| O7.mpr ⟨_,rfl,λ_=>?_,λ_=>o6.mpr ⟨rfl,prs,h,by lia⟩⟩;refine NG (x:=(-e30,e30)) (G2:=G1) (fs:=B0) hq h hl ⟨by decide,.inr rfl,.inr rfl⟩ ?_;exact V3.mpr<| m6<| bG.mpr<| AF<| wG.mpr<| m6<| AF<| t7.mpr ⟨sz,rfl,Fd.refl h.dr⟩
theorem vj(h:Dr G r):Wp (nuM [sRf r,none,none,none,none,none]) G λfl G'=>Fd r G G'/\∃n:Nat,n<=6/\fl= .nx [sRf r,some (.int n),none,none,none,none]:=by
 refine u6 ?_;refine bin_w ?_;refine b8 rfl ?_;refine j7 rfl rfl ?_;refine OD h rfl (by decide) λd hd G2 f=>⟨f,?_⟩;simp only[zI,jR,or_false]at hd;rcases hd with rfl|rfl|rfl|rfl|rfl|rfl|rfl|rfl
 ·exact⟨1,by decide,rfl⟩
 ·exact⟨1,by decide,rfl⟩
 ·exact⟨2,by decide,rfl⟩
 ·exact⟨3,by decide,rfl⟩
 ·exact⟨0,by decide,rfl⟩
 ·exact⟨1,by decide,rfl⟩
 ·exact⟨6,by decide,rfl⟩
 ·exact⟨2,by decide,rfl⟩
theorem Gf{n:Nat}(hn:n<=6)(h:Dr G r):Wp (nuS [sRf r,some (.int n),none,none,none,none]) G λfl G'=>∃(S:List Int) (p:Nat),fl= .nx [sRf r,some (.int n),sRf p,none,none,none]/\S.Pairwise (· <= ·)/\(∀i∈S,C1 i)/\S.length=2*n/\G'[p]? =some (.lst (S.map D.int))/\G.length<=p/\Fd r G G':=by
 have bg:=big;have l0:(J2 0 ((2:Int)*n).toNat).length=2*n:=by unfold J2;rw[zc,jv];lia
 refine u6<| x5<| m6<| wp_comp.mpr<| N9.mpr<| m6<| bin_w<| b8 rfl<| b8 rfl<| (Q0 (Or.inl ⟨by decide,by lia⟩)).mpr<| t7.mpr<| (l9 ⟨by lia,by lia⟩).mpr ⟨by rw[l0];lia,(mM (J2 0 ((2:Int)*n).toNat) none G h).mono ?_⟩;rintro _ G1 ⟨ns,rfl,hs,hl,f⟩;rw[l0]at hl;refine t7.mpr<| (gQ g8 (by lia)).mpr ⟨lB ns,_,rfl,oJ ns,λi hi=>hs i ((AE ns).mem_iff.mp hi),by rw[(AE ns).length_eq];exact hl,g8,?_,(f.trans (Fd.app f.2.2)).trans (Fd.app f.2.2.app)⟩;have:=f.1;simp;lia
theorem iX(h:Dr G r):Wp (V1 [.ref r]) G λx G'=>∃due,x= .tup (rsD due)/\Can due/\due.length<=9/\(∀z∈due,smR z)/\Fd r G G':=by
 refine v7 (show Wp (V9 [sRf r,none,none,none,none,none]) G _ from ?_);rw[DQ];refine f9.mpr<| (vj h).mono ?_;rintro _ G1 ⟨f1,n,hn,rfl⟩;refine f9.mpr<| (Gf hn f1.2.2).mono ?_;rintro _ G2 ⟨S,p,rfl,pw,hs,hl,ep,lp,f2⟩;have f02:=f1.trans f2;have hr2:=f2.2.2.lt;have hr1:=f1.2.2.lt;have hpr:p≠r:=by lia
 have hp2:=lt_of_get ep;refine f9.mpr<| u6<| b8 rfl ?_;have hq:G2.length≠r:=by lia
 have nu0:Nu r G2.length (G2++[.lst []]) (G2++[.lst []]) []:=⟨λ_ z=>(nomatch z),g8,f2.2.2.app,⟨zf _,λ_ _ _ _=>rfl⟩,zf _⟩;refine f9.mpr<| VA.mpr<| N9.mpr<| b8 rfl<| (l9 ⟨by lia,by lia⟩).mpr ?_;have er:J2 0 (n:Int).toNat= (List.range' 0 n).map λi:Nat=>D.int ((0:Int)+(i:Int)):=by unfold J2;rw[List.range_eq_range',jV]
 show Wp (B1 T0 nuB (λ_=>true) (J2 0 (n:Int).toNat) (nuX r p G2.length n none none)) _ _;rw[er];refine(lM hq hpr (by lia) pw hs (Q4 ep) hl n 0 [] none _ (by lia) nu0 (by simp) (by lia)).mono ?_;rintro _ G3 ⟨⟨u,rfl⟩,prs,nu,l3⟩;refine f9.mpr<| u6<| j7 rfl rfl<| T3 nu.dr (by decide) λw w0 w1 G4 f4=>?_;have nu4:Nu r G2.length (G2++[.lst []]) G4 prs:=⟨nu.ok,f4.at hq nu.at_,f4.2.2,⟨zp nu.old.1 f4.1,λi hi hj hk=>by rw[f4.2.1 i hi (by have:=nu.old.1;lia),nu.old.2 i hi hj hk]⟩,zp f4.c nu.cn⟩;refine f9.mpr<| (Mx w0 w1 hq nu4 (by lia)).mono ?_;rintro _ G5 ⟨rfl,prs5,nu5,l5⟩;refine f9.mpr<| (qS w0 w1 hq nu5 (by lia)).mono ?_;rintro _ G6 ⟨rfl,prs6,nu6,l6⟩;refine f9.mpr<| (PY hq nu6 (by lia)).mono ?_;rintro _ G7 ⟨rfl,prs7,nu7,l7⟩;refine t8<| j7 rfl rfl<| (wd nu7.ok nu7.at_ (by lia)).mono ?_;rintro _ G8 ⟨due,rfl,s2,ld,hp,t,rfl⟩;refine o4 ⟨due,rfl,s2.1,by lia,λz hz=>?_,?_⟩
 ·obtain⟨x,ok,rfl⟩:=hp z hz;exact ok.sm
 · have cc:cnt G7 r<=cnt G r:=zp nu7.cn (zp (Fd.app f2.2.2).c f02.c);refine⟨?_,⟨λi hi hl'=>?_,nu7.dr.app⟩,by rw[W5 (zh nu7.dr.lt)];exact cc⟩
   ·have:=nu7.old.1;have:=f02.1;simp only[zd]at *;lia
   ·have o1:=nu7.old.1;have o2:=f02.1;simp only[zd]at o1;rw[zh (by lia),nu7.old.2 i hi (by lia) (by rw[zd];lia),zh (by lia),f02.2.1 i hi hl']
end
def P6(b:Bool)(ts:List Str):List Wd:=if b then ts.map Wd.txt else if ts= []then [.all]else [.but ts]
def wB(f t:Bool):List Wd:=if f&&t then [.both]else (if f then [.tru false]else [])++if t then [.tru true]else []
def A4(s:PS):List Wd:=s.ns.map Wd.num++P6 s.b s.ts++wB s.f s.t
structure P3(s:PS):Prop where
 can:Can s.ns
 sm:∀r∈s.ns,smR r
 ln:s.ns.length<=9
 rs:Ris s.ts
 tx:∀z∈s.ts,TxL z
 lt:s.ts.length<=6
def szM(L:List (List Nat)):Nat:=L.flatten.length
theorem N8:szM (a::L)=a.length+szM L:=by unfold szM;rw[List.flatten_cons,zd]
theorem rG{L M:List (List Nat)}:szM (L++M)=szM L+szM M:=by unfold szM;rw[List.flatten_append,zd]
theorem TC(h:∀a∈L,a.length<=k):szM L<=k*L.length:=by
 induction L with
 |nil=>exact zD _
 |cons a r ih=>
   have:=ih λx hx=>h x (zl _ hx);have:=h a (zt ..);rw[N8,zq,YL];lia
theorem bD:∀L:List (List Nat),(glL s L).length=szM L+s.length*L.length
 |[]=>rfl
 |a::r=>by show (s++a++glL s r).length=_;rw[zd,zd,bD r,N8,zq,YL];lia
theorem MC(L:List (List Nat)):(Z4 s L).length<=szM L+s.length*L.length:=by
 rcases L with _|⟨a,r⟩
 ·exact zD _
 ·show (a++glL s r).length<=_;rw[zd,bD,N8,zq,YL];lia
theorem RE:(qL z).length=z.length+2:=by unfold qL;rw[zq,zd];rfl
theorem eD(ts:List Str):glL [32] (ts.map qL)=bqL ts:=by
 induction ts with
 |nil=>rfl
 |cons z r ih=>
   show [32]++qL z++glL [32] (r.map qL)=_;rw[ih];unfold bqL;rw[List.flatMap_cons];rfl
theorem bO: [32]++Z4 [32] ((z::ts).map qL)=bqL (z::ts):=by rw[<-eD];show [32]++(qL z++glL [32] (ts.map qL))= [32]++qL z++glL [32] (ts.map qL);rw[jh]
theorem sX(h:∀z∈ts,TxL z)(hl:ts.length<=51):(bqL ts).length<=52000:=by
 rw[<-eD,bD];have:=TC (L:=ts.map qL) (k:=1002) λa ha=>by obtain⟨z,hz,rfl⟩:=zE.mp ha;rw[RE];have:=(h z hz).2;lia
 rw[zc]at this ⊢;show _+1*_<=_;lia
section
variable{G:DH}{Q:DPP}
theorem K9(h:a.length+b.length<=16000000)(q:Q (.str (ofL (a++b))) G):Wp (u0 (.str (ofL a)) (.str (ofL b))) G Q:=by have bg:=big;refine(wI (zp (show (ofL a).length+(ofL b).length<=16000000 from h) (by rw[yT];decide))).mpr ?_;rw[aP];exact q
theorem i9(e:G[r]? =some (.lst (v8 f l)))(h:szM (l.map f)+l.length*s.length<=16000000)(q:Q (.str (ofL (Z4 (tl s) (l.map f)))) G):Wp (U8 (.str s) [.ref r]) G Q:=by
 refine(QX e (AM f l) ?_).mpr ?_
 · have:((l.map λd=>ofL (f d)).map (·.length)).sum=szM (l.map f):=by
    unfold szM;rw[List.length_flatten,zV,zV];rfl
   rw[this,zc];lia
 ·rw[show YI s (l.map λd=>ofL (f d))=ofL (Z4 (tl s) (l.map f))from fK (by rw[NU,zV];rfl)];exact q
end
section
variable{G:DH}{Q:DPP}
theorem rN(h:TxL z)(ea:a σ G=some (.ok (.str z),G))(q:Q (.str (ofL (qL z))) G):Wp (j5 u0 (j5 u0 (cE (.str ("\"" :Str))) a) (cE (.str ("\"" :Str))) σ) G Q:=by have hz:=h.2;refine bin_w<| bin_w<| b8 rfl<| b8 ea<| K9 (by show 1+z.length<=_;lia)<| b8 rfl<| K9 (by rw[zd];show 1+z.length+1<=_;lia) ?_;exact q
end
def fwN:Fe:=(J8 (itW g0) [none,none] g01 (K7) (z0 K5 g0 i0))
theorem aX:Q5=j9 (J6 fwN A1) (asQ fwX T0 (j9 fwA (j9 fwB (G9 A0)))):=rfl
section
variable{G:DH}{Q:DPP}{a:Option D}{c d:Nat}
abbrev fwS(a:Option D)(b:Bool)(ts:List Str)(f t:Bool)(c d:Nat):DSt:= [a,some (A2 b ts),some (trD f t),sRf c,sRf d]
theorem RC(hG:Ap G0 G)(e:G0[c]? =some (.lst (v8 wdL W)))(hl:W.length<=200)(ev:Wp (fe (fwS a b ts f t c d)) G λx G'=>x= .str (ofL (wdL w))/\Ap G G'):
 Wp (O5 (mtE u5 u9 A0 (x0 fe)) (fwS a b ts f t c d)) G λfl G'=>fl= .nx (fwS a b ts f t c d)/\G'[c]? =some (.lst (v8 wdL (W++[w])))/\Fq c G0 G':=by
 have bg:=big;have e0:=hG.at e;refine b9.mpr<| X5.mpr<| b8 rfl<| (P0 e0).mpr<| m6<| ev.mono ?_;rintro _ G1 ⟨rfl,a1⟩;have e1:=a1.at e0;refine t7.mpr<| (Q6 e1 (by unfold v8;rw[zc];lia)).mpr ⟨rfl,?_,?_⟩
 ·rw[zY (lt_of_get e1)];unfold v8;rw[zX];rfl
 ·refine⟨by rw[yf];exact(hG.trans a1).len,λi hi Nk=>?_⟩;rw[zG (Ne.symm hi)];obtain⟨t,rfl⟩:=hG.trans a1;exact zh Nk
theorem DR(e:G[c]? =some (.lst (v8 wdL W)))(hl:W.length<=200):
 Wp (fwB (fwS a b ts f t c d)) G λfl G'=>fl= .nx (fwS a b ts f t c d)/\G'[c]? =some (.lst (v8 wdL (W++wB f t)))/\Fq c G G':=by
 cases f<;>cases t
 ·refine D9 rfl<| D9 rfl<| o6.mpr ⟨rfl,?_,Fq.refl⟩;rw[show wB false false= []from rfl,jP];exact e
 ·refine D9 rfl<| E4 rfl<| RC Ap.refl e hl ?_;exact bin_w<| b8 rfl<| b8 rfl<| (t5 g8).mpr ⟨.str ("true" :Str),rfl,rfl,Ap.one⟩
 ·refine D9 rfl<| E4 rfl<| RC Ap.refl e hl ?_;exact bin_w<| b8 rfl<| b8 rfl<| (t5 g8).mpr ⟨.str ("false" :Str),rfl,rfl,Ap.one⟩
 ·exact E4 rfl<| RC Ap.refl e hl<| b8 rfl ⟨rfl,Ap.refl⟩
theorem lE:v8 f (l++m)=v8 f l++v8 f m:=zX
theorem hX(tx:∀z∈ts,TxL z)(lt:ts.length<=50)(e:G[c]? =some (.lst (v8 wdL W)))(ed:G[d]? =some (.lst (v8 qL ts)))(hl:W.length<=100):
 Wp (fwA (fwS a b ts f t c d)) G λfl G'=>∃c',fl= .nx (fwS a b ts f t c' d)/\G'[c']? =some (.lst (v8 wdL (W++P6 b ts)))/\(c'=c\/G.length<=c')/\Fq c G G':=by
 have bg:=big;have hw:(v8 wdL W).length=W.length:=zc ..;have ht:(v8 qL ts).length=ts.length:=zc ..
 cases b
 · refine D9 rfl<| S9<| o8<| bin_w<| b8 rfl<| b8 rfl<| (fL (Q4 ed) g8).mpr ⟨_,rfl,λk=>?_,λk=>?_⟩
   · rcases ts with _|⟨z,ts⟩
     · refine(RC (w:=.all) Ap.one e (by lia) ?_).mono ?_
       ·exact b8 rfl ⟨rfl,Ap.refl⟩
       rintro _ G' ⟨rfl,e',f'⟩;exact⟨c,rfl,e',.inl rfl,f'⟩
     ·cases k
   · rcases ts with _|⟨z,ts⟩
     ·cases k
     · have sz1:szM ((z::ts).map qL)<=52000:=by
        have:=TC (L:=(z::ts).map qL) (k:=1002) λa ha=>by obtain⟨y,hy,rfl⟩:=zE.mp ha;rw[RE];have:=(tx y hy).2;lia
        rw[zc]at this;lia
       have lb:=sX tx (by lia);refine(RC (w:=.but (z::ts)) Ap.one e (by lia) ?_).mono ?_
       ·refine bin_w<| b8 (a:=.str (ofL (cTb++[32]))) rfl<| X5.mpr<| b8 rfl<| r9.mpr<| b8 rfl<| i9 (Q4 ed) (by show _+_*1<=_;lia) ?_;rw[show tl (" " :Str)= [32]from rfl];have hb:=congrArg Zm (bO (z:=z) (ts:=ts));rw[zd]at hb;refine K9 (by rw[zd];show 8+1+_<=_;have: [32].length=1:=rfl;lia) ⟨?_,Ap.refl⟩;rw[jh,bO];rfl
       ·rintro _ G' ⟨rfl,e',f'⟩;exact⟨c,rfl,e',.inl rfl,f'⟩
 ·refine E4 rfl<| u6<| bin_w<| b8 rfl<| b8 rfl<| (a9 e ed (by lia)).mpr ⟨G.length,rfl,?_,.inr (zf _),⟨by simp,λi _ h=>zh h⟩⟩;rw[g8,lE];congr 3;show _=v8 wdL (ts.map Wd.txt);unfold v8;rw[zV];rfl
theorem MQ(h:P3 s)(q:∀r G',G.length<=r->G'[r]? =some (.lst (v8 wdL (A4 s)))->Ap G G'->Q (.ref r) G'):Wp (N7 [.tup (rsD s.ns),A2 s.b s.ts,trD s.f s.t]) G Q:=by
 have bg:=big;refine v7 (show Wp (Q5 [some (.tup (rsD s.ns)),some (A2 s.b s.ts),some (trD s.f s.t),none,none]) G _ from ?_);rw[aX];have l0:=h.ln;have l1:=h.lt;refine f9.mpr<| u6<| OA rfl (by rw[vE];lia)<| b8 (PC (mk:=λp:Rg=>(B3 p.1,B3 p.2)) rfl s.ns none none λr hr=>y4<| j7 rfl rfl<| wx (h.sm r hr) ⟨rfl,rfl⟩) ?_;have e1:(G++[DO.lst (s.ns.map λr=>D.str (ofL (swL r)))])[G.length]? =some (.lst (v8 wdL (s.ns.map Wd.num))):=by rw[g8];unfold v8;rw[zV];rfl
 generalize hH:G++[DO.lst (s.ns.map λr=>D.str (ofL (swL r)))]=H at e1;have aH:Ap G H:=⟨_,hH.symm⟩;refine f9.mpr<| u6<| OA rfl (by rw[zc];lia)<| b8 (dD rfl s.ts none λz hz=>y4<| rN (h.tx z hz) rfl ⟨rfl,rfl⟩) ?_;refine f9.mpr<| (hX h.tx (zp h.lt (by decide)) (Q4 e1) g8 (by rw[zc];lia)).mono ?_;rintro _ G1 ⟨c',rfl,e2,hc,f1⟩;have lf:(P6 s.b s.ts).length<=51:=by
  unfold P6;split
  ·rw[zc];lia
  ·split<;>exact(by decide:1<=51)
 refine f9.mpr<| (DR e2 (by rw[zd,zc];lia)).mono ?_;rintro _ G2 ⟨rfl,e3,f2⟩;refine t8<| b8 rfl<| o4<| q c' G2 (hc.elim (λe=>YN e.symm) λhc=>by have:=aH.len;simp only[zd]at hc;lia) e3<| Gr.ap ⟨?_,λi hi=>?_⟩
 ·have:=f1.1;have:=f2.1;have:=aH.len;simp only[zd]at *;lia
 ·have k1:=f1.1;have k2:=aH.len;simp only[zd,zq]at k1;obtain⟨t,rfl⟩:=aH;rw[f2.2 i (by simp only[zd]at *;lia) (by lia),f1.2 i (by lia) (by simp only[zd]at *;lia),jh,zh hi]
end
section
variable{G:DH}{Q:DPP}
theorem tY(h:∀r∈l,smR r)(hc:Can l)(hl:l.length<=64)(q:∀r G',Ap G G'->G'[r]? =some (.lst (v8 wdL (l.map Wd.num)))->Q (.ref r) G'):Wp (W7 [.tup (rsD l)]) G Q:=by
 have ew:v8 wdL (l.map Wd.num)=v8 swL l:=by unfold v8;rw[zV];rfl
 rw[ew]at q;refine v7<| t8<| WA.mpr<| o8<| bin_w<| b8 rfl<| b8 rfl<| y6.mpr ⟨_,(show eqN 40 G (.tup (rsD l)) (.tup [.tup [.non,.non]])=some (decide (l= [(none,none)]))from ?_),_,rfl,?_⟩
 · rcases l with _|⟨⟨a,b⟩,_|⟨q,r⟩⟩
   ·rfl
   ·rcases a with _|a<;>rcases b with _|b<;>rfl
   ·rcases a with _|a<;>rcases b with _|b<;>rfl
 by_cases k:l= [(none,none)]
 ·rw[decide_eq_true k,if_pos rfl];refine b8 rfl<| o4<| q _ _ Ap.one ?_;rw[g8,k];rfl
 · rw[decide_eq_false k,if_neg zR];refine OA rfl (by rw[vE];lia)<| b8 (PC (mk:=λp:Rg=>(B3 p.1,B3 p.2)) rfl l none none λr hr=>?_)<| o4<| q _ _ Ap.one g8;refine y4<| j7 rfl rfl<| iU (h r hr) (λz=>k ?_) ⟨rfl,rfl⟩;subst z;obtain⟨s,t,rfl⟩:=List.append_of_mem hr;have pw:=jH.mp hc.2;rcases s with _|⟨x,s⟩
   · rcases t with _|⟨y,t⟩
     ·rfl
     · obtain⟨a,b,e,_⟩:=(yK.mp pw.2.1).1 y (zt ..)
       cases e
   · obtain⟨a,b,_,e,_⟩:=pw.2.2 x (zt ..) _ (zt ..)
     cases e
theorem kT(h:TxL z)(q:Q (.str (ofL (qL z))) G):Wp (N5 [.str z]) G Q:=
 v7<| K4 (X1:= [some (.str z)]) rfl<| K4 (X1:= [some (.str z)]) rfl<| f9.mpr<| S9<| b8 rfl ⟨λ_=>t8<| rN h rfl<| o4 q,λz=>nomatch z⟩
theorem dZ(h:∀z∈ts,TxL z)(hl:ts.length<=50)(q:∀r G',Ap G G'->G'[r]? =some (.lst (v8 wdL (P6 b ts)))->Q (.ref r) G'):Wp (ID [A2 b ts]) G Q:=by
 have bg:=big;refine v7<| f9.mpr<| u6<| OA rfl (by rw[zc];lia)<| b8 (dD rfl ts none λz hz=>y4<| j7 rfl rfl<| kT (h z hz) ⟨rfl,rfl⟩) ?_;have e1:(G++[DO.lst (ts.map λz=>D.str (ofL (qL z)))])[G.length]? =some (.lst (v8 qL ts)):=g8;have a1:Ap G (G++[DO.lst (ts.map λz=>D.str (ofL (qL z)))]):=Ap.one;generalize G++[DO.lst (ts.map λz=>D.str (ofL (qL z)))]=H at e1 a1
 cases b
 · refine K4 (X1:= [some (A2 false ts),some (.ref G.length)]) rfl<| t8<| WA.mpr<| tF.mpr<| b8 rfl<| (uQ e1).mpr ?_;rcases ts with _|⟨z,ts⟩
   ·refine b8 rfl<| o4<| q _ _ (a1.trans Ap.one) g8
   · have sz1:szM ((z::ts).map qL)<=52000:=by
      have:=TC (L:=(z::ts).map qL) (k:=1002) λa ha=>by obtain⟨y,hy,rfl⟩:=zE.mp ha;rw[RE];have:=(h y hy).2;lia
      rw[zc]at this;lia
     refine aB.mpr<| m6<| X5.mpr<| b8 rfl<| r9.mpr<| m6<| bin_w<| b8 rfl<| b8 rfl<| (a9 g8 (Q4 e1) (by unfold v8;rw[zc];show 1+_<=_;lia)).mpr<| t7.mpr ?_;have e2:∀M,(M++[DO.lst ([D.str ("text but" :Str)]++v8 qL (z::ts))])[M.length]? =some (DO.lst (v8 id (cTb::(z::ts).map qL))):=λM=>by
      rw[g8];have:v8 id (cTb::(z::ts).map qL)=D.str (ofL cTb)::v8 qL (z::ts):=by unfold v8;rw[zH,zV];rfl
      rw[this];rfl
     refine i9 (e2 _) ?_ ?_
     ·rw[jE,N8];have:cTb.length=8:=rfl;have:(" " :Str).length=1:=rfl;simp only[zq,zc]at *;lia
     ·refine t7.mpr ⟨sz,o4<| q _ _ (((a1.trans Ap.one).trans Ap.one).trans Ap.one) ?_⟩;rw[g8,jE];show some (DO.lst [D.str (ofL (cTb++glL [32] ((z::ts).map qL)))])=_;rw[eD];rfl
 ·refine f9.mpr<| E4 rfl<| t8<| b8 rfl<| o4<| q _ _ a1 ?_;rw[e1];show _=some (DO.lst (v8 wdL (ts.map Wd.txt)));unfold v8;rw[zV];rfl
theorem bS(q:∀r G',Ap G G'->G'[r]? =some (.lst (v8 wdL (wB f t)))->Q (.ref r) G'):Wp (rF [trD f t]) G Q:=by
 cases f<;>cases t
 ·exact FB rfl (q _ _ Ap.one g8)
 ·exact FB rfl (q _ _ Ap.one g8)
 ·exact FB rfl (q _ _ Ap.one g8)
 ·exact FB rfl (q _ _ Ap.one g8)
end
theorem P3.ok(h:P3 s):OkP s:=⟨h.can,h.rs,λz hz=>UV (h.tx z hz),by have:=h.lt;lia⟩
section
variable{G G':DH}{r:Nat}
theorem FK:∀(items:List D) (u:Option D) (G:DH),Dr G r->
 Wp (K6 H0 K7 (D0 U7 i0) (λ_=>true) items [u,sRf r]) G λys G'=>∃ts:List Str,ys=ts.map D.str/\(∀z∈ts,TxL z)/\ts.length=items.length/\Fd r G G'
 |[],u,G,h=>W4.mpr ⟨rfl, [],rfl,λ_ z=>(nomatch z),rfl,Fd.refl h⟩
 |d::l,u,G,h=>by refine W3.mpr ⟨rfl,b8 (a:= [some d,sRf r]) (G':=G) rfl<| b8 (a:=true) (G':=G) rfl ?_⟩;rw[if_pos rfl];refine j7 (as:= [.ref r]) rfl rfl<| (PL h).mono ?_;rintro _ G1 ⟨z,rfl,hz,f1⟩;refine(FK l _ G1 f1.2.2).mono ?_;rintro _ G2 ⟨ts,rfl,ht,hl,f2⟩;exact⟨z::ts,rfl,λy hm=>(zI.mp hm).elim (λe=>e▸hz) (ht y),by simp[hl],f1.trans f2⟩
theorem gR:oF=j9 dtA (j9 dtB dtC):=rfl
theorem PF{ds:List Int}{σ X1:Int->DSt}{fe:Fe}(h:Dr G r)(hl:ds.length=8)(hs:∀d∈ds,0<=d/\d<=6){m:Nat}{ρ:DSt}(e0:ρ[0]? =some (some (.ref r)))(el:fe ρ G=some (.ok (.ref G.length),G++[.lst (ds.map D.int)])):
 Wp (J6 (ixE fe (z0 j4 g0 F4)) (D4 m) ρ) G λfl G'=>Fd r G G'/\∃n:Nat,n<=6/\fl= .nx (ρ.set m (some (.int n))):=by
 refine u6 ?_;refine bin_w ?_;refine b8 el ?_;refine x5<| m6<| i6.mpr ⟨_,e0,b8 (a:= [.int 8]) rfl<| uB.mpr ⟨rfl,?_⟩⟩;refine OD h (by rw[zc,hl];rfl) (by decide) λd hd G2 f=>⟨f,?_⟩;obtain⟨i,hi,rfl⟩:=zE.mp hd;obtain⟨a,b⟩:=hs i hi;obtain⟨n,rfl⟩:=yI a;exact⟨n,by lia,rfl⟩
theorem qd(h:Dr G r):Wp (gD [.ref r]) G λx G'=>∃b m,x=A2 b m/\Ris m/\(∀z∈m,TxL z)/\m.length<=6/\Fd r G G':=by
 have bg:=big;refine v7 (show Wp (oF [sRf r,none,none]) G _ from ?_);rw[gR];refine f9.mpr<| (PF (ds:= [1,0,2,3,1,2,6,0]) (σ:=λ_=> []) (X1:=λ_=> []) h rfl (by decide) rfl rfl).mono ?_;rintro _ G1 ⟨f1,n,hn,rfl⟩;have lr:(J2 0 ((n:Int)).toNat).length=n:=by unfold J2;rw[zc,jv];lia
 refine f9.mpr<| u6<| x5<| m6<| wp_comp.mpr<| N9.mpr<| b8 (a:= [.int (n:Int)]) (G':=G1) rfl<| (l9 ⟨by lia,by lia⟩).mpr ⟨by rw[lr];lia,(FK (J2 0 (n:Int).toNat) none G1 f1.2.2).mono ?_⟩;rintro _ G2 ⟨ts,rfl,ht,hl,f2⟩;rw[lr]at hl;refine t7.mpr<| uB.mpr ⟨rfl,SU g8 ht (by lia) λm G3 rs mm lm a3=>?_⟩;obtain⟨t,rfl⟩:=a3;have f3:Fd r G (G2++[.lst (ts.map D.str)]++t):=((f1.trans f2).trans (Fd.app f2.2.2)).trans (Fd.app f2.2.2.app);refine t8<| V3.mpr<| m6<| bin_w<| b8 (a:=.ref (G2++[DO.lst (ts.map D.str)]++t).length) (G':=G2++[.lst (ts.map D.str)]++t++[.lst [.str (wrd true),.str (wrd false)]]) rfl<| bin_w<| j7 (as:= [.ref r,.int 3]) rfl rfl<| T3 f3.2.2.app (by decide) λk k0 k1 G4 f4=>b8 (a:=.int 2) (G':=G4) rfl<| (T9 ⟨by decide,by decide⟩).mpr ?_;have e4:G4[(G2++[DO.lst (ts.map D.str)]++t).length]? =some (.lst [.str (wrd true),.str (wrd false)]):=f4.at (by have:=f3.2.2.lt;lia) g8;obtain⟨d,hd,ed⟩:=RH (l:= [.str (wrd true),.str (wrd false)]) (k:=k / 2) (by lia) (by show k / 2<2;lia);obtain⟨b,rfl⟩:∃b,d= .str (wrd b):=by
  simp only[zI,jR,or_false]at hd;rcases hd with rfl|rfl
  ·exact⟨true,rfl⟩
  ·exact⟨false,rfl⟩
 exact(t5 e4).mpr ⟨_,ed,b8 (a:= [.tup (m.map D.str)]) (G':=G4) rfl ⟨sz,o4 ⟨b,m,rfl,rs,λz hz=>ht z ((mm z).mp hz),lm,(f3.trans (Fd.app f3.2.2)).trans f4⟩⟩⟩
theorem qm(b n:Nat):Yt none (some (b:Int)) 1 n=zK (min b n):=by
 unfold Yt sliceRange;have e1:max 0 (min ((b:Int)) n)= (min b n:Nat):=by lia
 simp only[show (1:Int)>0 by decide,if_true,show ¬(b:Int)<0 by lia,if_false,e1];have e3:(if (0:Int)<((min b n:Nat):Int)then (((min b n:Nat):Int)-0+1-1) / 1 else 0).toNat=min b n:=by split<;>lia
 rw[e3];refine Eq.trans (jM (g:=id) λk _=>?_) (jE _);show ((0:Int)+1*(k:Int)).toNat=k;lia
theorem VQ(z:Str)(b:Nat):(∀c∈tl (xj z none (some (b:Int))),c∈tl z)/\(xj z none (some (b:Int))).length<=z.length:=by
 unfold xj;rw[qm];split
 ·exact⟨λ_ h=>h,zf _⟩
 · have e:∀l:List Nat,tl (ofL l)=l:=λ_=>rfl;refine⟨λc hc=>?_,?_⟩
   ·have hc:c∈(zK (min b z.length)).filterMap (λi=>z.cps[i]?):=hc;obtain⟨i,_,hi⟩:=Zb.mp hc;rw[<-zB]at hi;exact ji hi
   ·show ((zK (min b z.length)).filterMap (λi=>z.cps[i]?)).length<=_;refine zp (List.length_filterMap_le ..) ?_;rw[jv];lia
theorem VJ(h:Dr G r):Wp (U6 [.ref r]) G λx G'=>∃z,x= .str z/\TxL z/\Fd r G G':=by have bg:=big;refine v7 (show Wp (tI [sRf r,none]) G _ from ?_);refine f9.mpr<| u6<| VF.mpr<| j7 (as:= [.ref r]) rfl rfl<| (PL h).mono ?_;rintro _ G1 ⟨z,rfl,hz,f1⟩;have h40:=hz.2;obtain⟨s1,s2⟩:=VQ z 8;refine b8 (a:=none) (G':=G1) rfl<| b8 (a:=some 8) (G':=G1) rfl<| (dQ (by lia)).mpr ?_;refine f9.mpr<| S9<| o8<| bin_w<| b8 (a:=.str (xj z none (some 8))) (G':=G1) rfl<| b8 (a:=.str ("" :Str)) (G':=G1) rfl<| pN.mpr ⟨_,rfl,λ_=>t8<| b8 (a:=.str ("a" :Str)) (G':=G1) rfl<| o4 ⟨_,rfl,?_,f1⟩,λ_=>o6.mpr<| t8<| b8 (a:=.str (xj z none (some 8))) (G':=G1) rfl<| o4 ⟨_,rfl,⟨λc hc=>hz.1 c (s1 c hc),by exact zp s2 h40⟩,f1⟩⟩;exact⟨by decide,by decide⟩
end
abbrev dI:List Nat:= [97,110,121]
abbrev cNo:List Nat:= [110,111,116,104,105,110,103]
abbrev cOr:List Nat:= [32,111,114,32]
abbrev cCm:List Nat:= [44,32]
abbrev noD:D:=.tup [.tup [],.tup [.str ("of" :Str),.tup []],.tup [],.non,.non]
def inL(ws:List (List Nat)):List Nat:=if ws.length=1 then Z4 cOr ws else [40]++Z4 cOr ws++[41]
def wt(ws:List (List Nat)):Nat:=szM ws+4*ws.length
abbrev SR:=D->List (List Nat)->Prop
def Mo(N:SR)(m:D)(z:List (List Nat)):Prop:=∃w,N m w/\(m=noD/\z= []\/m≠noD/\z= [[46,46,32]++inL w])
def LwS(N:SR)(L:D)(lw:List (List Nat)):Prop:=L= .non/\lw= []\/∃(fs:List (D×List (List Nat))) (m:D) (z:List (List Nat)),L= .tup [.tup (fs.map (·.1)),m]/\fs.length<=20/\(∀f∈fs,N f.1 f.2)/\Mo N m z/\lw= [[91]++Z4 cCm (fs.map (λf=>inL f.2)++z)++[93]]
structure Fld where
 nm:Str
 must:Bool
 d:D
 ws:List (List Nat)
def fdD(f:Fld):D:=.tup [.str f.nm,.bl f.must,f.d]
abbrev cMu(b:Bool):List Nat:=if b then [58,32]else [63,58,32]
def fdL(f:Fld):List Nat:=tl f.nm++cMu f.must++inL f.ws
def RwS(N:SR)(R:D)(rw:List (List Nat)):Prop:=R= .non/\rw= []\/∃(fs:List Fld) (m:D) (z:List (List Nat)),R= .tup [.tup (fs.map fdD),m]/\fs.length<=20/\(∀f∈fs,TxL f.nm/\N f.d f.ws)/\Mo N m z/\rw= [[123]++Z4 cCm (fs.map fdL++z)++[125]]
abbrev X3(s:PS)(L R:D):D:=.tup [.tup (rsD s.ns),A2 s.b s.ts,trD s.f s.t,L,R]
def Ns:Nat->SR
 |0,_,_=>False
 |n+1,d,ws=>wt ws<=15000000/\(d= .str ("any" :Str)/\ws= [dI]\/d=noD/\ws= [cNo]\/d≠noD/\∃s L R lw rw,P3 s/\d=X3 s L R/\LwS (Ns n) L lw/\RwS (Ns n) R rw/\ws= (A4 s).map wdL++lw++rw)
theorem Mo.mono{N M:SR}(k:∀d w,N d w->M d w)(h:Mo N m z):Mo M m z:=let ⟨w,a,b⟩:=h;⟨w,k _ _ a,b⟩
theorem LwS.mono{N M:SR}(k:∀d w,N d w->M d w)(h:LwS N L l):LwS M L l:=h.imp id fun⟨fs,m,z,a,b,c,d,e⟩=>⟨fs,m,z,a,b,λf hf=>k _ _ (c f hf),d.mono k,e⟩
theorem RwS.mono{N M:SR}(k:∀d w,N d w->M d w)(h:RwS N L l):RwS M L l:=h.imp id fun⟨fs,m,z,a,b,c,d,e⟩=>⟨fs,m,z,a,b,λf hf=>⟨(c f hf).1,k _ _ (c f hf).2⟩,d.mono k,e⟩
theorem Ns.up:∀(n:Nat) {d w},Ns n d w->Ns (n+1) d w
 |0,_,_,h=>h.elim
 |n+1,_,_,⟨h,k⟩=>⟨h,k.imp id λk=>k.imp id fun⟨a,s,L,R,lw,rw,b,c,d,e,f⟩=>⟨a,s,L,R,lw,rw,b,c,d.mono λ_ _=>Ns.up n,e.mono λ_ _=>Ns.up n,f⟩⟩
theorem Ns.sz{n:Nat}(h:Ns n d w):wt w<=15000000:=by
 cases n with
 |zero=>exact h.elim
 |succ n=>exact h.1
theorem uX(h:A4 s= []):∀L R,X3 s L R= .tup [.tup [],.tup [.str ("of" :Str),.tup []],.tup [],L,R]:=by
 obtain⟨ns,b,ts,f,t⟩:=s;obtain⟨h1,h3⟩:=xx.mp h;obtain⟨h1,h2⟩:=xx.mp h1;have h1:=yG.mp h1;intro L R
 cases b
 ·exfalso;unfold P6 at h2;rw[if_neg zR]at h2;split at h2<;>cases h2
 · have h4:ts= []:=yG.mp h2;have h5:ns= []:=h1;subst h4 h5
   cases f<;>cases t<;>first|rfl|cases h3
theorem Ns.ne{n:Nat}(h:Ns n d w):w≠ []:=by
 cases n with
 |zero=>exact h.elim
 |succ n=>
   rcases h.2 with⟨_,rfl⟩|⟨_,rfl⟩|⟨a,s,L,R,lw,rw',b,rfl,e,f,rfl⟩
   ·exact λz=>nomatch z
   ·exact λz=>nomatch z
   intro z;obtain⟨z,z3⟩:=xx.mp z;obtain⟨z1,z2⟩:=xx.mp z;refine a ?_;rw[uX (yG.mp z1)];rcases e with⟨rfl,_⟩|⟨_,_,_,_,_,_,_,rfl⟩
   · rcases f with⟨rfl,_⟩|⟨_,_,_,_,_,_,_,rfl⟩
     ·rfl
     ·cases z3
   ·cases z2
section
variable{G:DH}
theorem NV:eqN 39 G (.tup (rsD ns)) (.tup [])=some (decide (ns= [])):=by rcases ns with _|⟨⟨a,b⟩,r⟩<;>rfl
theorem vm:eqN 39 G (A2 b ts) (.tup [.str ("of" :Str),.tup []])=some (decide (b=true/\ts= [])):=by have e1:eqN 38 G (.tup (ts.map D.str)) (.tup [])=some (decide (ts= [])):=gM ts [];have e2:eqN 38 G (.str (wrd b)) (.str ("of" :Str))=some (wrd b==wrd true):=rfl;show eqL (eqN 38 G) [.str (wrd b),.tup (ts.map D.str)] [.str ("of" :Str),.tup []]=_;simp only[eqL,e1,e2];rw[show (wrd b==wrd true)=decide (b=true) by cases b<;>decide];by_cases h1:b=true<;>by_cases h2:ts= []<;>simp[h1,h2]
theorem bT:eqN 39 G (trD f t) (.tup [])=some (!f&&!t):=by cases f<;>cases t<;>rfl
theorem tG{L R:D}(hL:L= .non\/∃l,L= .tup l)(hR:R= .non\/∃l,R= .tup l):∃k,eqN 40 G (X3 s L R) noD=some k/\(k=true↔X3 s L R=noD):=by
 obtain⟨ns,b,ts,f,t⟩:=s;have e4:∀ {L:D},(L= .non\/∃l,L= .tup l)->∃k,eqN 39 G L .non=some k/\(k=true↔L= .non):=by
  rintro L (rfl|⟨l,rfl⟩)
  ·exact⟨true,rfl,⟨λ_=>rfl,λ_=>rfl⟩⟩
  ·exact⟨false,rfl,⟨λz=>(nomatch z),λz=>(nomatch z)⟩⟩
 obtain⟨k4,e5,h4⟩:=e4 hL;obtain⟨k6,e6,h6⟩:=e4 hR;refine⟨decide (ns= [])&&(decide (b=true/\ts= [])&&((!f&&!t)&&(k4&&(k6&&true)))),?_,?_⟩
 ·show eqL (eqN 39 G) [.tup (rsD ns),A2 b ts,trD f t,L,R] [.tup [],.tup [.str ("of" :Str),.tup []],.tup [],.non,.non]=_;simp only[eqL,NV,vm,bT,e5,e6]
 · constructor
   · intro k;simp only[jl,decide_eq_true_iff,h4,h6]at k;obtain⟨rfl,⟨rfl,rfl⟩,⟨kf,kt⟩,rfl,rfl,_⟩:=k
     cases f<;>cases t<;>first|rfl|exact absurd kf (by decide)|exact absurd kt (by decide)
   · intro z;simp only[X3,D.tup.injEq,Jz]at z;obtain⟨z1,z2,z3,rfl,rfl,_⟩:=z;have z1:ns= []:=yG.mp z1;rw[h4.mpr rfl,h6.mpr rfl,decide_eq_true z1];unfold A2 at z2;simp only[D.tup.injEq,Jz,D.str.injEq,and_true,yG]at z2;obtain⟨z5,rfl⟩:=z2;have:b=true:=by cases b with
      |true=>rfl
      |false=>exact absurd z5 (by decide)
     subst this
     cases f<;>cases t<;>first|rfl|cases z3
theorem LwS.tup{N:SR}(h:LwS N L l):L= .non\/∃l,L= .tup l:=h.imp (·.1) fun⟨_,_,_,a,_⟩=>⟨_,a⟩
theorem RwS.tup{N:SR}(h:RwS N L l):L= .non\/∃l,L= .tup l:=h.imp (·.1) fun⟨_,_,_,a,_⟩=>⟨_,a⟩
theorem Ns.eqno{n:Nat}(h:Ns n d w):∃k,eqN 40 G d noD=some k/\(k=true↔d=noD):=by
 cases n with
 |zero=>exact h.elim
 |succ n=>
   rcases h.2 with⟨rfl,_⟩|⟨rfl,_⟩|⟨_,s,L,R,lw,rw',b,rfl,e,f,_⟩
   ·exact⟨false,rfl,λz=>(nomatch z),λz=>(nomatch z)⟩
   ·exact⟨true,rfl,λ_=>rfl,λ_=>rfl⟩
   ·exact tG e.tup f.tup
theorem FO(L:List (List Nat)):szM L+s.length*L.length<=(Z4 s L).length+s.length:=by
 rcases L with _|⟨a,r⟩
 ·exact zD _
 ·show _<=(a++glL s r).length+_;rw[zd,bD,N8,zq,YL];lia
theorem uA(ws:List (List Nat)):(inL ws).length<=wt ws+2:=by
 have h:=MC (s:=cOr) ws;unfold inL wt;have:cOr.length=4:=rfl;rw[this]at h;split
 ·lia
 ·simp only[zd,zq,jO];lia
theorem OF{p:Nat}{l:List D}{Q:DPP}(e:G[p]? =some (.lst l)):Wp (t3 [.ref p]) G Q↔Q (.int l.length) G:=by unfold t3;simp only[j6,M6,e,O4,wp_pure]
theorem qg{i j:Int}{Q:DPP}:Wp (gtD (.int i) (.int j)) G Q↔Q (.bl (decide (j<i))) G:=wp_pure
theorem VX{p:Nat}{l:List D}{Q:DPP}(e:G[p]? =some (.lst l)):Wp (oA [.ref p]) G Q↔Q (.ref G.length) (G++[.lst l]):=by unfold oA;simp only[j6,M6,e,O4,wp_pure,DL.listOf,T6]
theorem gG{mk:α->D}{f:α->D}{e:Fe}:∀(l:List α) (u:Option D) (G:DH) (Q:List D->DH->Prop),(∀x∈l,∀G' (R:DPP),(∀G'',Ap G' G''->R (f x) G'')->Wp (e [some (mk x)]) G' R)->(∀G',Ap G G'->Q (l.map f) G')->Wp (K6 H0 K7 e (λ_=>true) (l.map mk) [u]) G Q
 |[],u,G,Q,h,q=>W4.mpr ⟨rfl,q G Ap.refl⟩
 |x::l,u,G,Q,h,q=>by refine W3.mpr ⟨rfl,b8 (a:= [some (mk x)]) (G':=G) rfl<| b8 (a:=true) (G':=G) rfl ?_⟩;rw[if_pos rfl];exact h x (zt ..) G _ λG1 a1=>gG l _ G1 _ (λy hy=>h y (zl _ hy)) λG2 a2=>q G2 (a1.trans a2)
abbrev pY:Fg:=(t4 3 (J4 H0 (J4 S0 (J4 S1 (m4)))))
theorem qO{a b c:α->D}{f:α->D}{e:Fe}:∀(l:List α) (u v w:Option D) (G:DH) (Q:List D->DH->Prop),(∀x∈l,∀G' (R:DPP),(∀G'',Ap G' G''->R (f x) G'')->Wp (e [some (a x),some (b x),some (c x)]) G' R)->(∀G',Ap G G'->Q (l.map f) G')->Wp (K6 pY K7 e (λ_=>true) (l.map λx=>.tup [a x,b x,c x]) [u,v,w]) G Q
 |[],u,v,w,G,Q,h,q=>W4.mpr ⟨rfl,q G Ap.refl⟩
 |x::l,u,v,w,G,Q,h,q=>by refine W3.mpr ⟨rfl,b8 (a:= [some (a x),some (b x),some (c x)]) (G':=G) rfl<| b8 (a:=true) (G':=G) rfl ?_⟩;rw[if_pos rfl];exact h x (zt ..) G _ λG1 a1=>qO l _ _ _ G1 _ (λy hy=>h y (zl _ hy)) λG2 a2=>q G2 (a1.trans a2)
def A5(R:List D->M D)(d:D)(ws:List (List Nat)):Prop:=∀(G:DH) (Q:DPP),(∀r G',Ap G G'->G'[r]? =some (.lst (v8 id ws))->Q (.ref r) G')->Wp (R [d]) G Q
theorem CH{R:List D->M D}{Q:DPP}(hR:A5 R d ws)(hs:wt ws<=15000000)(q:∀G',Ap G G'->Q (.str (ofL (inL ws))) G'):Wp (K3 R [d]) G Q:=by
 have sl:=MC (s:=cOr) ws;unfold wt at hs;refine v7 (show Wp (TF R [some d,none]) G _ from ?_);refine f9.mpr<| u6<| j7 (as:= [d]) rfl rfl<| hR _ _ λr G1 a1 e1=>?_;refine t8<| WA.mpr<| o8<| bin_w<| S3 (as:= [.ref r]) rfl<| (OF e1).mpr<| b8 (a:=.int 1) rfl<| O7.mpr ⟨_,rfl,?_⟩;have ln:(v8 id ws).length=ws.length:=zc ..;by_cases k:ws.length=1
 ·rw[if_pos (by rw[ln,k];rfl)];obtain⟨w,rfl⟩:=List.length_eq_one_iff.mp k;refine bin_w<| b8 (a:=.ref r) rfl<| b8 (a:=.int 0) rfl<| (t5 e1).mpr ⟨.str (ofL w),rfl,o4 ?_⟩;have:=q G1 a1;rw[show inL [w]=w from jP w]at this;exact this
 ·rw[if_neg (by rw[ln];exact λz=>k (by have:=of_decide_eq_true z;lia))];refine bin_w<| bin_w<| b8 (a:=.str ("(" :Str)) rfl<| X5.mpr<| b8 (a:=.str (" or " :Str)) rfl<| r9.mpr<| b8 (a:= [.ref r]) rfl<| i9 e1 (by rw[jE];show _+_*4<=_;lia) ?_;rw[jE,show tl (" or " :Str)=cOr from rfl];have:cOr.length=4:=rfl;refine K9 (a:= [40]) (by show 1+_<=_;lia)<| b8 (a:=.str (ofL [41])) rfl<| K9 (by rw[zd];show 1+_+1<=_;lia)<| o4 ?_;have:=q G1 a1;rw[show inL ws= [40]++Z4 cOr ws++[41]from if_neg k]at this;exact this
end
section
variable{G:DH}{Q:DPP}{R:List D->M D}{n:Nat}
theorem GM(hm:Ns n m w)(hR:A5 R m w)(hz:m=noD/\z= []\/m≠noD/\z= [[46,46,32]++inL w])(q:∀r G',Ap G G'->G'[r]? =some (.lst (v8 id z))->Q (.ref r) G'):Wp (R6 R [m]) G Q:=by
 refine v7 (show Wp (lG R [some m]) G _ from ?_);obtain⟨k,ek,hk⟩:=hm.eqno (G:=G);refine t8<| WA.mpr<| o8<| bin_w<| b8 (a:=m) (G':=G) rfl<| b8 (a:=noD) (G':=G) rfl<| y6.mpr ⟨k,ek,_,rfl,?_⟩;rcases hz with⟨e,rfl⟩|⟨e,rfl⟩
 ·rw[if_pos (hk.mpr e)];exact b8 rfl<| o4<| q _ _ Ap.one g8
 ·rw[if_neg λz=>e (hk.mp z)];have hs:=hm.sz;have hi:=uA w;refine aB.mpr<| m6<| bin_w<| b8 (a:=.str (ofL [46,46,32])) rfl<| j7 (as:= [m]) rfl rfl<| CH hR hs λG1 a1=>?_;refine K9 (by show 3+_<=_;lia)<| t7.mpr ⟨sz,o4<| q _ _ (a1.trans Ap.one) g8⟩
theorem QB(l m:List (List Nat)):v8 id (l++m)=v8 id l++v8 id m:=lE
theorem strs_len(l:List (List Nat)):(v8 id l).length=l.length:=zc ..
theorem Mo.len{N:SR}(h:Mo N m z):z.length<=1:=by
 obtain⟨w,_,⟨_,rfl⟩|⟨_,rfl⟩⟩:=h
 ·exact zD _
 ·exact zf _
theorem lN{I:List (List Nat)}(h:wt [a++Z4 cCm I++b]<=15000000):szM I+I.length*2<=15000010:=by have:=FO (s:=cCm) I;have e:cCm.length=2:=rfl;rw[e]at this;unfold wt at h;rw[N8]at h;simp only[zd]at h;lia
theorem Gp(hR:∀d w,Ns n d w->A5 R d w)(h:LwS (Ns n) L lw)(hs:wt lw<=15000000)(q:∀r G',Ap G G'->G'[r]? =some (.lst (v8 id lw))->Q (.ref r) G'):Wp (W0 R [L]) G Q:=by
 refine v7 (show Wp (uI R [some L]) G _ from ?_);rcases h with⟨rfl,rfl⟩|⟨fs,m,z,rfl,lf,hf,hm,rfl⟩
 ·exact f9.mpr<| E4 rfl<| t8<| b8 rfl<| o4<| q _ _ Ap.one g8
 have bg:=big;have lz:=hm.len;have hj:=lN hs;have ll:(fs.map (λf:D×List (List Nat)=>inL f.2)++z).length<=30:=by rw[zd,zc];lia
 have hw:([91]++Z4 cCm (fs.map (λf:D×List (List Nat)=>inL f.2)++z)++[93]).length<=15000000:=by unfold wt at hs;rw[N8]at hs;lia
 obtain⟨w,nw,hz⟩:=hm;refine K4 (X1:= [some (.tup [.tup (fs.map (·.1)),m])]) rfl<| t8<| aB.mpr<| m6<| bin_w<| bin_w<| b8 (a:=.str (ofL [91])) rfl<| X5.mpr<| b8 (a:=.str (", " :Str)) rfl<| r9.mpr<| m6<| bin_w<| OA (l:=fs.map (·.1)) rfl (by rw[zc];lia) ?_;refine gG (f:=λf:D×List (List Nat)=>.str (ofL (inL f.2))) fs none G _ (λf hm G1 S k=>j7 (as:= [f.1]) rfl rfl<| CH (hR _ _ (hf f hm)) (hf f hm).sz λG2 a2=>k G2 a2) λG1 a1=>?_;refine j7 (as:= [m]) rfl rfl<| GM nw (hR _ _ nw) hz λr2 G2 a2 e2=>?_;refine(a9 (a2.at g8) e2 (by rw[zc,strs_len];lia)).mpr<| t7.mpr<| i9 (l:=fs.map (λf:D×List (List Nat)=>inL f.2)++z) (f:=id) ?_ ?_ ?_
 ·rw[g8,QB];unfold v8;rw[zV];rfl
 ·rw[jE];show _+_*2<=_;lia
 rw[jE,show tl (", " :Str)=cCm from rfl];simp only[zd]at hw;refine K9 (by lia)<| b8 (a:=.str (ofL [93])) rfl<| K9 (by rw[zd];lia)<| t7.mpr ⟨sz,o4<| q _ _ (((a1.trans Ap.one).trans (a2.trans Ap.one)).trans Ap.one) g8⟩
theorem tV(hR:∀d w,Ns n d w->A5 R d w)(h:RwS (Ns n) L lw)(hs:wt lw<=15000000)(q:∀r G',Ap G G'->G'[r]? =some (.lst (v8 id lw))->Q (.ref r) G'):Wp (R7 R [L]) G Q:=by
 refine v7 (show Wp (AH R [some L,none]) G _ from ?_);rcases h with⟨rfl,rfl⟩|⟨fs,m,z,rfl,lf,hf,hm,rfl⟩
 ·exact f9.mpr<| E4 rfl<| t8<| b8 rfl<| o4<| q _ _ Ap.one g8
 have bg:=big;have lz:=hm.len;have hj:=lN hs;have ll:(fs.map fdL++z).length<=30:=by rw[zd,zc];lia
 have hw:([123]++Z4 cCm (fs.map fdL++z)++[125]).length<=15000000:=by unfold wt at hs;rw[N8]at hs;lia
 obtain⟨w,nw,hz⟩:=hm;refine K4 (X1:= [some (.tup [.tup (fs.map fdD),m]),none]) rfl<| f9.mpr<| u6<| OA (l:=fs.map fdD) rfl (by rw[zc];lia) ?_;refine qO (a:=λf:Fld=>.str f.nm) (b:=λf=>.bl f.must) (c:=λf=>f.d) (f:=λf:Fld=>.str (ofL (fdL f))) fs none none none G _ (λf hm G1 S k=>?_) λG1 a1=>?_
 · have h40:=(hf f hm).1.2;have hs1:=(hf f hm).2.sz;have hi:=uA f.ws;have c3:(cMu f.must).length<=3:=by cases f.must<;>decide
   refine bin_w<| bin_w<| b8 (a:=.str f.nm) rfl<| WA.mpr<| tF.mpr<| b8 (a:=.bl f.must) rfl<| mG.mpr ?_;have ad:u0 (.str f.nm) (.str (ofL (cMu f.must))) G1=some (.ok (.str (ofL (tl f.nm++cMu f.must))),G1):=y4<| K9 (a:=tl f.nm) (by show f.nm.length+_<=_;lia) ⟨rfl,rfl⟩;have go:Wp (λG=>(D0 (K3 R) C0) [some (.str f.nm),some (.bl f.must),some f.d] G) G1 λy G2=>Wp (u0 (.str (ofL (tl f.nm++cMu f.must))) y) G2 S:=j7 (as:= [f.d]) rfl rfl<| CH (hR _ _ (hf f hm).2) hs1 λG2 a2=>K9 (by rw[zd];show f.nm.length+_+_<=_;lia) (k G2 a2);generalize hmu:f.must=b at *
   cases b
   ·exact b8 rfl<| b8 ad go
   ·exact b8 rfl<| b8 ad go
 refine t8<| aB.mpr<| m6<| bin_w<| bin_w<| b8 (a:=.str (ofL [123])) rfl<| X5.mpr<| b8 (a:=.str (", " :Str)) rfl<| r9.mpr<| m6<| bin_w<| b8 (a:=.ref G1.length) rfl ?_;refine j7 (as:= [m]) rfl rfl<| GM nw (hR _ _ nw) hz λr2 G2 a2 e2=>?_;refine(a9 (a2.at g8) e2 (by rw[zc,strs_len];lia)).mpr<| t7.mpr<| i9 (l:=fs.map fdL++z) (f:=id) ?_ ?_ ?_
 ·rw[g8,QB];unfold v8;rw[zV];rfl
 ·rw[jE];show _+_*2<=_;lia
 rw[jE,show tl (", " :Str)=cCm from rfl];simp only[zd]at hw;refine K9 (by lia)<| b8 (a:=.str (ofL [125])) rfl<| K9 (by rw[zd];lia)<| t7.mpr ⟨sz,o4<| q _ _ (((a1.trans Ap.one).trans (a2.trans Ap.one)).trans Ap.one) g8⟩
theorem V4{l m:List (List Nat)}:wt (l++m)=wt l+wt m:=by unfold wt;rw[rG,zd];lia
theorem LwS.len{N:SR}(h:LwS N L l):l.length<=1:=by
 rcases h with⟨_,rfl⟩|⟨_,_,_,_,_,_,_,rfl⟩
 ·exact zD _
 ·exact zf _
theorem RwS.len{N:SR}(h:RwS N L l):l.length<=1:=by
 rcases h with⟨_,rfl⟩|⟨_,_,_,_,_,_,_,rfl⟩
 ·exact zD _
 ·exact zf _
theorem uM(l:List Wd):v8 id (l.map wdL)=v8 wdL l:=by unfold v8;rw[zV];rfl
theorem SL{s:PS}(h:P3 s):(s.ns.map Wd.num).length<=9/\(P6 s.b s.ts).length<=51/\(wB s.f s.t).length<=2:=by
 have l1:=h.lt;refine⟨by rw[zc];exact h.ln,?_,?_⟩
 · unfold P6;split
   ·rw[zc];lia
   ·split<;>exact(by decide:1<=51)
 ·cases s.f<;>cases s.t<;>decide
end
theorem kK:∀(n N:Nat),n<=N->∀d w,Ns n d w->A5 (qC N) d w
 |0,_,_,_,_,h=>h.elim
 |n+1,0,hN,_,_,_=>(by lia)
 |n+1,N+1,hN,d,w,h=>λG Q q=>by
   have bg:=big;have ih:=kK n N (by lia);refine v7 (show Wp (pE (qC N) [some d]) G _ from ?_);rcases h with⟨hs,⟨rfl,rfl⟩|⟨rfl,rfl⟩|⟨hn,s,L,R,lw,rw',hl,rfl,hL,hR,rfl⟩⟩
   ·exact f9.mpr<| E4 rfl<| t8<| b8 rfl<| o4<| q _ _ Ap.one g8
   ·exact K4 (X1:= [some noD]) rfl<| f9.mpr<| E4 rfl<| t8<| b8 rfl<| o4<| q _ _ Ap.one g8
   obtain⟨k,ek,hk⟩:=tG (G:=G) (s:=s) hL.tup hR.tup;have wl:∀l:List Wd,(v8 wdL l).length=l.length:=λ_=>zc ..;obtain⟨n1,n2,n3⟩:=SL hl;have n4:=hL.len;have n5:=hR.len;rw[V4,V4]at hs;have kf:k=false:=by cases k with
    |false=>rfl
    |true=>exact absurd (hk.mp rfl) hn
   subst kf;refine K4 (X1:= [some (X3 s L R)]) rfl<| f9.mpr<| S9<| o8<| bin_w<| b8 (a:=X3 s L R) (G':=G) rfl<| b8 (a:=noD) (G':=G) rfl<| y6.mpr ⟨false,ek,_,rfl,λz=>(nomatch z),λ_=>o6.mpr ?_⟩;refine t8<| bin_w<| bin_w<| bin_w<| bin_w<| j7 (as:= [.tup (rsD s.ns)]) rfl rfl<| tY hl.sm hl.can (by have:=hl.ln;lia) λr1 G1 a1 e1=>j7 (as:= [A2 s.b s.ts]) rfl rfl<| dZ hl.tx (zp hl.lt (by decide)) λr2 G2 a2 e2=>(a9 (a2.at e1) e2 (by rw[wl,wl];lia)).mpr ?_;refine j7 (as:= [trD s.f s.t]) rfl rfl<| bS λr3 G3 a3 e3=>(a9 (a3.at g8) e3 (by rw[zd,wl,wl,wl];lia)).mpr ?_;refine j7 (as:= [L]) rfl rfl<| Gp ih hL (by lia) λr4 G4 a4 e4=>(a9 (a4.at g8) e4 (by rw[zd,zd,wl,wl,wl,strs_len];lia)).mpr ?_;refine j7 (as:= [R]) rfl rfl<| tV ih hR (by lia) λr5 G5 a5 e5=>(a9 (a5.at g8) e5 (by rw[zd,zd,zd,wl,wl,wl,strs_len,strs_len];lia)).mpr<| o4<| q _ _ ((((a1.trans (a2.trans Ap.one)).trans (a3.trans Ap.one)).trans (a4.trans Ap.one)).trans (a5.trans Ap.one)) ?_;rw[g8,QB,QB,uM];unfold A4;rw[lE,lE]
section
variable{G:DH}{Q:DPP}{R:List D->M D}{n:Nat}
def shL(k:Bool)(ws:List (List Nat)):List Nat:=if k then inL ws else Z4 cOr ws
theorem QT(h:ws.length≠1):inL ws= [40]++Z4 cOr ws++[41]:=if_neg h
theorem Lm(h:ws.length=1):inL ws=Z4 cOr ws:=if_pos h
theorem SD{k:Bool}(hR:A5 R d ws)(hn:ws≠ [])(hs:wt ws<=15000000)(q:∀G',Ap G G'->Q (.str (ofL (shL k ws))) G'):Wp (K1 R [d,.bl k]) G Q:=by
 have sl:=MC (s:=cOr) ws;unfold wt at hs;have c4:cOr.length=4:=rfl;have ln:(v8 id ws).length=ws.length:=zc ..;have l0:0<ws.length:=List.length_pos_iff.mpr hn;refine v7 (show Wp (HG R [some d,some (.bl k),none]) G _ from ?_);refine f9.mpr<| u6<| j7 (as:= [d]) rfl rfl<| hR _ _ λr G1 a1 e1=>?_;have jn:∀ {S:DPP},S (.str (ofL (Z4 cOr ws))) G1->Wp (mtE R9 U8 (cSt " or ") (x0 C0) [some d,some (.bl k),sRf r]) G1 S:=λ{S} h=>X5.mpr<| b8 (a:=.str (" or " :Str)) rfl<| r9.mpr<| b8 (a:= [.ref r]) rfl<| i9 e1 (by rw[jE];show _+_*4<=_;lia) (by rw[jE];exact h);refine f9.mpr<| S9<| dC<| tF.mpr<| b8 (a:=.bl k) rfl<| mG.mpr ⟨λe=>o8<| bin_w<| S3 (as:= [.ref r]) rfl<| (OF e1).mpr<| b8 (a:=.int 1) rfl<| qg.mpr ⟨_,rfl,?_⟩,λe=>⟨λz=>(nomatch z),λ_=>o6.mpr<| t8<| jn<| o4 ?_⟩⟩
 · subst e;have:=q G1 a1;rw[ln];refine⟨λz=>?_,λz=>o6.mpr<| t8<| jn<| o4 ?_⟩
   ·have z:=of_decide_eq_true z;rw[show shL true ws= [40]++Z4 cOr ws++[41]from QT (by lia)]at this;refine t8<| bin_w<| bin_w<| b8 (a:=.str (ofL [40])) rfl<| jn<| K9 (by show 1+_<=_;lia)<| b8 (a:=.str (ofL [41])) rfl<| K9 (by rw[zd];show 1+_+1<=_;lia)<| o4 this
   ·have z:=of_decide_eq_false z;rw[show shL true ws=Z4 cOr ws from Lm (by lia)]at this;exact this
 ·subst e;exact q G1 a1
theorem kX:S6 R=j9 (J6 (F0 oA i0) T0) (j9 (neA R) (G9 (j5 u0 (j5 u0 g0 (mtE R9 U8 (cSt ", ") (x0 O0))) A0))):=rfl
theorem wL{c:Nat}(hm:Ns n m w)(hR:A5 R m w)(hz:m=noD/\z= []\/m≠noD/\z= [[46,46,32]++inL w])(e:G[c]? =some (.lst (v8 id I)))(hl:I.length<=30)(hs:([a]++Z4 cCm (I++z)++[b]).length<=15000000)(q:∀G',Gr G G'->Q (.str (ofL ([a]++Z4 cCm (I++z)++[b]))) G'):Wp (J1 R [.str (ofL [a]),.ref c,m,.str (ofL [b])]) G Q:=by
 have bg:=big;refine v7 (show Wp (S6 R [some (.str (ofL [a])),sRf c,some m,some (.str (ofL [b])),none]) G _ from ?_);rw[kX];refine f9.mpr<| u6<| S3 (as:= [.ref c]) rfl<| (VX e).mpr ?_;have main:∀G',Gr G G'->G'[G.length]? =some (.lst (v8 id (I++z)))->Wp (G9 (j5 u0 (j5 u0 g0 (mtE R9 U8 (cSt ", ") (x0 O0))) A0) [some (.str (ofL [a])),sRf c,some m,some (.str (ofL [b])),some (.ref G.length)]) G' (PB Q):=by intro G' g e';have hj:=FO (s:=cCm) (I++z);have e2:cCm.length=2:=rfl;rw[e2]at hj;simp only[zd,zq,jO]at hs;refine t8<| bin_w<| bin_w<| b8 (a:=.str (ofL [a])) rfl<| X5.mpr<| b8 (a:=.str (", " :Str)) rfl<| r9.mpr<| b8 (a:= [.ref G.length]) rfl<| i9 e' (by rw[jE];show _+_*2<=_;lia) ?_;rw[jE,show tl (", " :Str)=cCm from rfl];exact K9 (by show 1+_<=_;lia)<| b8 (a:=.str (ofL [b])) rfl<| K9 (by rw[zd];show 1+_+1<=_;lia)<| o4<| q G' g
 obtain⟨k,ek,hk⟩:=hm.eqno (G:=G++[.lst (v8 id I)]);refine f9.mpr<| S9<| o8<| bin_w<| b8 (a:=m) (G':=G++[.lst (v8 id I)]) rfl<| b8 (a:=noD) (G':=G++[.lst (v8 id I)]) rfl<| oO.mpr ⟨k,ek,_,rfl,λz'=>?_,λz'=>o6.mpr<| main _ Ap.one.gr ?_⟩
 · have kf:k=false:=by cases k with
    |false=>rfl
    |true=>cases z'
   subst kf;rcases hz with⟨h1,_⟩|⟨_,rfl⟩
   ·exact absurd (hk.mpr h1) (λz=>nomatch z)
   have hs2:=hm.sz;have hi:=uA w;refine b9.mpr<| X5.mpr<| b8 (a:=.ref G.length) rfl<| (P0 g8).mpr<| m6<| bin_w<| b8 (a:=.str (ofL [46,46,32])) rfl<| j7 (as:= [m,.bl true]) rfl rfl<| SD hR hm.ne hs2 λG1 a1=>K9 (by show 3+(inL w).length<=_;lia)<| t7.mpr<| (Q6 (a1.at g8) (by rw[strs_len];lia)).mpr<| main _ ?_ ?_
   ·refine⟨by rw[yf];exact(Ap.one.trans a1).len,λi hi=>?_⟩;rw[zG (by lia)];obtain⟨t,rfl⟩:=Ap.one.trans a1;exact zh hi
   ·rw[zY (lt_of_get (a1.at g8)),QB];rfl
 · have kt:k=true:=by cases k with
    |true=>rfl
    |false=>cases z'
   subst kt;rcases hz with⟨_,rfl⟩|⟨h1,_⟩
   ·rw[g8,jP]
   ·exact absurd (hk.mp rfl) h1
end
def ixx(a b:Int):Fe:=j5 ixD (ixE g0 (cE (.int a))) (cE (.int b))
def lwA(R:List D->M D):Fs:=(ifS (tBn FC (ixE g0 u3) B2) (asQ (J8 (itW (ixx 3 0)) [none] H0 (K7) (z0 (K1 R) g0 cBt)) S1 (O5 (mtE u5 u9 i0 (x0 (WE (J1 R) (cSt "[") C0 (ixx 3 1) (cSt "]")))))) J9)
abbrev CJ:Fg:=(t4 3 (J4 T0 (J4 u4 (J4 F6 (m4)))))
def lwB(R:List D->M D):Fs:=(ifS (tBn FC (ixE g0 v3) B2) (asQ (M5 B0) A1 (j9 (L3 (itW (ixx 4 0)) CJ (lwC R)) (O5 (mtE u5 u9 i0 (x0 (WE (J1 R) (cSt "{") A0 (ixx 4 1) (cSt "}"))))))) J9)
def lwD(R:List D->M D):Fs:=j9 (J6 (GK N7 (ixE g0 N0) (ixE g0 y0) (ixE g0 K0)) S0) (j9 (lwA R) (j9 (lwB R) (G9 i0)))
theorem AX:V8 R=j9 (ifS (tBn eqD g0 (cSt "any")) (G9 (M5 (x0 (cSt "any")))) J9) (gdQ (tBn eqD g0 (C8 v6)) (M5 (x0 (cSt "nothing"))) (lwD R)):=rfl
section
variable{G:DH}{R:List D->M D}{n c:Nat}{s:PS}{L RR:D}
theorem lI{σ:DSt}{fe:Fe}{k:Nat}(hv:∀G,U2 k σ G=some (.ok (.ref c),G))(e:G[c]? =some (.lst (v8 id W)))(hl:W.length<=200)(ev:Wp (fe σ) G λx G'=>x= .str (ofL w)/\Gr G G'):
 Wp (O5 (mtE u5 u9 (U2 k) (x0 fe)) σ) G λfl G'=>fl= .nx σ/\G'[c]? =some (.lst (v8 id (W++[w])))/\Fq c G G':=by
 have bg:=big;refine b9.mpr<| X5.mpr<| b8 (hv G)<| (P0 e).mpr<| m6<| ev.mono ?_;rintro _ G1 ⟨rfl,a1⟩;have e1:=a1.ap.at e;refine t7.mpr<| (Q6 e1 (by rw[strs_len];lia)).mpr ⟨rfl,?_,?_⟩
 ·rw[zY (lt_of_get e1),QB];rfl
 ·refine⟨by rw[yf];exact a1.ap.len,λi hi Nk=>?_⟩;rw[zG (Ne.symm hi)];exact a1.2 i Nk
theorem HW(hT:∀d w,Ns n d w->A5 R d w)(h:LwS (Ns n) L lw)(hs:wt lw<=15000000)(e:G[c]? =some (.lst (v8 id W)))(hl:W.length<=100){x y z t:Option D}:
 Wp (lwA R [some (X3 s L RR),sRf c,none,x,y,z,t]) G λfl G'=>∃u,fl= .nx [some (X3 s L RR),sRf c,u,x,y,z,t]/\G'[c]? =some (.lst (v8 id (W++lw)))/\Fq c G G':=by
 rcases h with⟨rfl,rfl⟩|⟨fs,m,zz,rfl,lf,hf,hm,rfl⟩
 ·refine D9 rfl<| o6.mpr ⟨none,rfl,?_,Fq.refl⟩;rw[jP];exact e
 have bg:=big;have hw:([91]++Z4 cCm (fs.map (λf:D×List (List Nat)=>inL f.2)++zz)++[93]).length<=15000000:=by unfold wt at hs;rw[N8]at hs;lia
 obtain⟨w,nw,hz⟩:=hm;refine E4 rfl<| f9.mpr<| u6<| OA (l:=fs.map (·.1)) rfl (by rw[zc];lia) ?_;refine gG (f:=λf:D×List (List Nat)=>.str (ofL (inL f.2))) fs none G _ (λf hm G1 S k=>j7 (as:= [f.1,.bl true]) rfl rfl<| SD (hT _ _ (hf f hm)) (hf f hm).ne (hf f hm).sz λG2 a2=>k G2 a2) λG1 a1=>?_;have e1:(G1++[DO.lst (fs.map λf:D×List (List Nat)=>D.str (ofL (inL f.2)))])[G1.length]? =some (.lst (v8 id (fs.map λf:D×List (List Nat)=>inL f.2))):=by rw[g8];unfold v8;rw[zV];rfl
 refine Wp.mono (lI (σ:= [some (X3 s (.tup [.tup (fs.map (·.1)),m]) RR),sRf c,some (.ref G1.length),x,y,z,t]) (λ_=>rfl) ((a1.trans Ap.one).at e) (by lia) (j7 (as:= [.str (ofL [91]),.ref G1.length,m,.str (ofL [93])]) rfl rfl<| wL nw (hT _ _ nw) hz e1 (by rw[zc];lia) hw λG2 g2=>⟨rfl,g2⟩)) ?_;rintro _ G2 ⟨rfl,e2,f2⟩;refine⟨_,rfl,e2,?_⟩;have k:=(a1.trans (Ap.one (o:=DO.lst (fs.map λf:D×List (List Nat)=>D.str (ofL (inL f.2)))))).gr;exact⟨zp k.1 f2.1,λi hi Nk=>by rw[f2.2 i hi (zN Nk k.1),k.2 i Nk]⟩
theorem oT(f:Fld)(hn:TxL f.nm)(hf:Ns n f.d f.ws)(hT:∀d w,Ns n d w->A5 R d w){p q u:Option D}(e:G[c]? =some (.lst (v8 id W)))(hl:W.length<=100):
 Wp (lwC R [p,q,u,sRf c,some (.str f.nm),some (.bl f.must),some f.d]) G λfl G'=>fl= .nx [p,q,u,sRf c,some (.str f.nm),some (.bl f.must),some f.d]/\G'[c]? =some (.lst (v8 id (W++[fdL f])))/\Fq c G G':=by
 have h40:=hn.2;have hs1:=hf.sz;have hi:=uA f.ws;refine lI (λ_=>rfl) e (by lia) ?_;have c3:(cMu f.must).length<=3:=by cases f.must<;>decide
 refine bin_w<| bin_w<| b8 (a:=.str f.nm) rfl ?_;have go:∀G1,Gr G G1->Wp (u0 (.str f.nm) (.str (ofL (cMu f.must)))) G1 λx G2=>Wp (λG3=>C2 (fnX 2 (K1 R)) (TD A7 cBt) [p,q,u,sRf c,some (.str f.nm),some (.bl f.must),some f.d] G3) G2 λy G3=>Wp (u0 x y) G3 λx G'=>x= .str (ofL (fdL f))/\Gr G G':=λG1 g1=>K9 (a:=tl f.nm) (by show f.nm.length+_<=_;lia)<| j7 (as:= [f.d,.bl true]) rfl rfl<| SD (hT _ _ hf) hf.ne hs1 λG2 a2=>K9 (b:=inL f.ws) (by rw[zd];show f.nm.length+_+_<=_;lia) ⟨rfl,(g1.ap.trans a2).gr⟩;generalize f.must=b at *
 cases b
 ·exact bin_w<| b8 rfl<| b8 rfl<| (t5 g8).mpr ⟨.str (ofL [63,58,32]),rfl,go _ Ap.one.gr⟩
 ·exact bin_w<| b8 rfl<| b8 rfl<| (t5 g8).mpr ⟨.str (ofL [58,32]),rfl,go _ Ap.one.gr⟩
theorem rM(hT:∀d w,Ns n d w->A5 R d w){p q:Option D}:∀(fs:List Fld) (I:List (List Nat)) (u x y z:Option D) (G:DH),(∀f∈fs,TxL f.nm/\Ns n f.d f.ws)->G[c]? =some (.lst (v8 id I))->I.length+fs.length<=30->
 Wp (B1 CJ (lwC R) (λ_=>true) (fs.map fdD) [p,q,u,sRf c,x,y,z]) G λfl G'=>(∃x y z,fl= .nx [p,q,u,sRf c,x,y,z])/\G'[c]? =some (.lst (v8 id (I++fs.map fdL)))/\Fq c G G'
 |[],I,u,x,y,z,G,hf,e,hl=>QA.mpr ⟨rfl,⟨x,y,z,rfl⟩,by rw[xw,jP];exact e,Fq.refl⟩
 |f::fs,I,u,x,y,z,G,hf,e,hl=>by rw[zq]at hl;refine rA.mpr ⟨rfl,b8 (a:= [p,q,u,sRf c,some (.str f.nm),some (.bl f.must),some f.d]) (G':=G) rfl<| (oT f (hf f (zt ..)).1 (hf f (zt ..)).2 hT e (by lia)).mono ?_⟩;rintro _ G1 ⟨rfl,e1,f1⟩;refine(rM hT fs (I++[fdL f]) u _ _ _ G1 (λg hg=>hf g (zl _ hg)) e1 (by rw[zd];show _+1+_<=_;lia)).mono ?_;rintro _ G2 ⟨h2,e2,f2⟩;exact⟨h2,by rw[jh]at e2;exact e2,f1.trans f2⟩
theorem EQ(hT:∀d w,Ns n d w->A5 R d w)(h:RwS (Ns n) RR lw)(hs:wt lw<=15000000)(e:G[c]? =some (.lst (v8 id W)))(hl:W.length<=100){u x y z t:Option D}:
 Wp (lwB R [some (X3 s L RR),sRf c,u,x,y,z,t]) G λfl G'=>∃x y z t,fl= .nx [some (X3 s L RR),sRf c,u,x,y,z,t]/\G'[c]? =some (.lst (v8 id (W++lw)))/\Fq c G G':=by
 rcases h with⟨rfl,rfl⟩|⟨fs,m,zz,rfl,lf,hf,hm,rfl⟩
 ·refine D9 rfl<| o6.mpr ⟨x,y,z,t,rfl,?_,Fq.refl⟩;rw[jP];exact e
 have bg:=big;have hw:([123]++Z4 cCm (fs.map fdL++zz)++[125]).length<=15000000:=by unfold wt at hs;rw[N8]at hs;lia
 obtain⟨w,nw,hz⟩:=hm;refine E4 rfl<| K4 (X1:= [some (X3 s L (.tup [.tup (fs.map fdD),m])),sRf c,u,some (.ref G.length),y,z,t]) rfl<| f9.mpr<| VA.mpr<| wp_itW.mpr<| b8 (a:=.tup (fs.map fdD)) rfl<| srcW_tup.mpr<| (rM hT fs [] u y z t (G++[.lst []]) hf g8 (by show 0+_<=_;lia)).mono ?_;rintro _ G1 ⟨⟨y',z',t',rfl⟩,e1,f1⟩;rw[List.nil_append]at e1;have hc:=lt_of_get e;have f1':Gr G G1:=⟨zp (by simp) f1.1,λi hi=>by rw[f1.2 i (by lia) (by simp;lia),zh hi]⟩;refine Wp.mono (lI (σ:= [some (X3 s L (.tup [.tup (fs.map fdD),m])),sRf c,u,some (.ref G.length),y',z',t']) (λ_=>rfl) (f1'.ap.at e) (by lia) (j7 (as:= [.str (ofL [123]),.ref G.length,m,.str (ofL [125])]) rfl rfl<| wL nw (hT _ _ nw) hz e1 (by rw[zc];lia) hw λG2 g2=>⟨rfl,g2⟩)) ?_;rintro _ G2 ⟨rfl,e2,f2⟩;exact⟨_,_,_,_,rfl,e2,zp f1'.1 f2.1,λi hi Nk=>by rw[f2.2 i hi (zN Nk f1'.1),f1'.2 i Nk]⟩
end
theorem KN:∀(n N:Nat),n<=N->∀d w,Ns n d w->A5 (V7 N) d w
 |0,_,_,_,_,h=>h.elim
 |n+1,0,hN,_,_,_=>(by lia)
 |n+1,N+1,hN,d,w,h=>λG Q q=>by
   have ih:=KN n N (by lia);refine v7 (show Wp (V8 (V7 N) [some d,none,none,none,none,none,none]) G _ from ?_);rw[AX];rcases h with⟨hs,⟨rfl,rfl⟩|⟨rfl,rfl⟩|⟨hn,s,L,R,lw,rw',hl,rfl,hL,hR,rfl⟩⟩
   ·exact f9.mpr<| E4 rfl<| t8<| b8 rfl<| o4<| q _ _ Ap.one g8
   ·exact K4 (X1:= [some noD,none,none,none,none,none,none]) rfl<| f9.mpr<| E4 rfl<| t8<| b8 rfl<| o4<| q _ _ Ap.one g8
   obtain⟨k,ek,hk⟩:=tG (G:=G) (s:=s) hL.tup hR.tup;obtain⟨n1,n2,n3⟩:=SL hl;have n4:=hL.len;rw[V4,V4]at hs;have kf:k=false:=by cases k with
    |false=>rfl
    |true=>exact absurd (hk.mp rfl) hn
   subst kf;refine K4 (X1:= [some (X3 s L R),none,none,none,none,none,none]) rfl<| f9.mpr<| S9<| o8<| bin_w<| b8 (a:=X3 s L R) (G':=G) rfl<| b8 (a:=noD) (G':=G) rfl<| y6.mpr ⟨false,ek,_,rfl,λz=>(nomatch z),λ_=>o6.mpr ?_⟩;refine f9.mpr<| u6<| j7 (as:= [.tup (rsD s.ns),A2 s.b s.ts,trD s.f s.t]) rfl rfl<| MQ hl λr G1 hr e1 a1=>?_;rw[<-uM]at e1;have wl:((A4 s).map wdL).length<=62:=by rw[zc];unfold A4;rw[zd,zd];lia
   refine f9.mpr<| (HW ih hL (by lia) e1 (by lia)).mono ?_;rintro _ G2 ⟨u,rfl,e2,f2⟩;refine f9.mpr<| (EQ ih hR (by lia) e2 (by rw[zd];lia)).mono ?_;rintro _ G3 ⟨x,y,z,t,rfl,e3,f3⟩;refine t8<| b8 (a:=.ref r) (G':=G3) rfl<| o4<| q r G3 (Gr.ap ⟨?_,λi hi=>?_⟩) e3
   ·exact zp a1.len (zp f2.1 f3.1)
   ·have l1:=a1.len;have l2:=f2.1;rw[f3.2 i (by lia) (by lia),f2.2 i (by lia) (by lia),a1.gr.2 i hi]
theorem GN:∀ {n d},PDx n d->PDx (n+1) d
 |0,_,h=>h.elim
 |n+1,d,h=>by
   rcases h with h|h|h|h|⟨l,e,hl,h⟩
   ·exact .inl h
   ·exact .inr (.inl h)
   ·exact .inr (.inr (.inl h))
   ·exact .inr (.inr (.inr (.inl h)))
   ·exact .inr (.inr (.inr (.inr ⟨l,e,hl,λx hx=>GN (h x hx)⟩)))
theorem A8(h:n<=m)(k:PDx n d):PDx m d:=by
 induction h with
 |refl=>exact k
 |step _ ih=>exact GN ih
section
variable{G:DH}
theorem nI{n:Nat}{d:D}(h:PDx n d):(∃l,d= .tup l)\/W9 G d=none/\d4 d=true:=by
 cases n with
 |zero=>exact h.elim
 |succ n=>
   rcases h with rfl|⟨k,rfl⟩|⟨k,rfl⟩|⟨k,rfl⟩|⟨l,rfl,_⟩
   ·exact .inr ⟨rfl,rfl⟩
   ·exact .inr ⟨rfl,rfl⟩
   ·exact .inr ⟨rfl,rfl⟩
   ·exact .inr ⟨rfl,rfl⟩
   ·exact .inl ⟨l,rfl⟩
theorem mR{x y:D}(hx:d4 x=true)(hy:d4 y=true):∃k,eqS x y=some k:=by
 cases x<;>first|(cases hx;done)|skip
 all_goals cases y<;>first|(cases hy;done)|exact⟨_,rfl⟩
theorem wO(h:PDx j (.tup l)):∃i,j=i+1/\∀x∈l,PDx i x:=by
 cases j with
 |zero=>exact h.elim
 |succ m=>
   rcases h with h|⟨_,h⟩|⟨_,h⟩|⟨_,h⟩|⟨_,h,_,h'⟩<;>first|(cases h;done)|skip
   cases h;exact⟨m,rfl,h'⟩
theorem DC:∀(n:Nat) {j m:Nat} {x y:D},PDx j x->PDx m y->j<=n\/m<=n->∃k,eqN n G x y=some k
 |0,j,m,_,_,h,k,hn=>by
   rcases hn with hn|hn
   ·rw[Nat.le_zero.mp hn]at h;exact h.elim
   ·rw[Nat.le_zero.mp hn]at k;exact k.elim
 |n+1,j,m,x,y,h,k,hn=>by
   rcases nI (G:=G) h with⟨l,rfl⟩|⟨h1,h2⟩
   · rcases nI (G:=G) k with⟨l',rfl⟩|⟨k1,k2⟩
     · obtain⟨j,rfl,hl⟩:=wO h;obtain⟨m,rfl,hk⟩:=wO k;have go:∀a b,(∀x∈a,PDx j x)->(∀x∈b,PDx m x)->∃k,eqL (eqN n G) a b=some k:=by
        intro a
        induction a with
        |nil=>intro b _ _;cases b<;>exact⟨_,rfl⟩
        |cons x a ih=>
          intro b ha hb;rcases b with _|⟨y,b⟩
          ·exact⟨_,rfl⟩
          obtain⟨k1,e1⟩:=DC n (ha x (zt ..)) (hb y (zt ..)) (by lia);obtain⟨k2,e2⟩:=ih b (λz hz=>ha z (zl _ hz)) (λz hz=>hb z (zl _ hz));exact⟨_,by rw[LD,e1,e2]⟩
       exact go l l' hl hk
     ·refine⟨false,?_⟩;rw[FA,k1];show (if d4 y=true then some false else none)=_;rw[if_pos k2]
   · rcases nI (G:=G) k with⟨l',rfl⟩|⟨k1,k2⟩
     ·refine⟨false,?_⟩;rw[FA,h1];show (if d4 x=true then some false else none)=_;rw[if_pos h2]
     ·rw[FA,h1,k1];exact mR h2 k2
end
theorem tE(a:Option Int):PDx (n+1) (B3 a):=by
 cases a with
 |none=>exact .inl rfl
 |some i=>exact .inr (.inr (.inl ⟨i,rfl⟩))
theorem c8{z:Str}:PDx (n+1) (.str z):=.inr (.inr (.inr (.inl ⟨z,rfl⟩)))
theorem i5{k:Bool}:PDx (n+1) (.bl k):=.inr (.inl ⟨k,rfl⟩)
theorem E2{P:D->Prop}(ha:P a)(hb:P b):∀x∈ [a,b],P x:=λx hx=>by
 rcases zI.mp hx with rfl|hx
 ·exact ha
 ·rw[zr.mp hx];exact hb
theorem all_cons{P:D->Prop}(ha:P a)(hb:∀x∈l,P x):∀x∈a::l,P x:=λx hx=>(zI.mp hx).elim (λe=>e▸ha) (hb x)
theorem Ns.pd:∀ {n d w},Ns n d w->PDx (4*n) d
 |0,_,_,h=>h.elim
 |n+1,d,w,h=>by
   show PDx (4*n+3+1) d;have non:∀ {m},PDx (m+1) D.non:=.inl rfl;rcases h with⟨_,⟨rfl,_⟩|⟨rfl,_⟩|⟨_,s,L,R,lw,rw',hl,rfl,hL,hR,_⟩⟩
   ·exact c8
   ·refine o9 (by decide) (all_cons (o9 (by decide) λ_ h=>nomatch h) (all_cons (o9 (by decide) (E2 c8 (o9 (by decide) λ_ h=>nomatch h))) (all_cons (o9 (by decide) λ_ h=>nomatch h) (E2 non non))))
   have hn:=hl.ln;have ht:=hl.lt;have nest:∀ {m z},Mo (Ns n) m z->0<n/\PDx (4*n) m:=fun⟨w,nw,_⟩=>⟨by cases n with
    |zero=>exact nw.elim
    |succ n=>lia,nw.pd⟩
   refine o9 (by show 5<=1000;decide) (all_cons ?_ (all_cons ?_ (all_cons ?_ (E2 ?_ ?_))))
   ·refine o9 (by rw[vE];lia) λx hx=>?_;obtain⟨p,_,rfl⟩:=zE.mp hx;exact o9 (by show 2<=1000;decide) (E2 (tE _) (tE _))
   ·refine o9 (by show 2<=1000;decide) (E2 c8 (o9 (by rw[zc];lia) λx hx=>?_));obtain⟨p,_,rfl⟩:=zE.mp hx;exact c8
   · cases s.f<;>cases s.t
     ·exact o9 (by decide) λ_ h=>nomatch h
     ·exact o9 (by decide) (all_cons i5 λ_ h=>nomatch h)
     ·exact o9 (by decide) (all_cons i5 λ_ h=>nomatch h)
     ·exact o9 (by decide) (E2 i5 i5)
   · rcases hL with⟨rfl,_⟩|⟨fs,m,z,rfl,lf,hf,hm,_⟩
     ·exact non
     obtain⟨n0,hm⟩:=nest hm;refine o9 (by show 2<=1000;decide) (E2 (o9 (by rw[zc];lia) λx hx=>?_) (A8 (by lia) hm));obtain⟨f,hf',rfl⟩:=zE.mp hx;exact A8 (by lia) (hf f hf').pd
   · rcases hR with⟨rfl,_⟩|⟨fs,m,z,rfl,lf,hf,hm,_⟩
     ·exact non
     obtain⟨n0,hm⟩:=nest hm;refine o9 (by show 2<=1000;decide) (E2 (o9 (by rw[zc];lia) λx hx=>?_) (A8 (by lia) hm));obtain⟨f,hf',rfl⟩:=zE.mp hx;exact o9 (by show 3<=1000;decide) (all_cons (A8 (n:=1) (by lia) c8) (E2 (A8 (n:=1) (by lia) i5) (hf f hf').2.pd))
def pK(F:List Fld):List (Key×D):=F.map λf=>(.inr f.nm,fdD f)
def putF(F:List Fld)(f:Fld):List Fld:=if F.any (λg=>decide (g.nm=f.nm))then F.map (λg=>if g.nm=f.nm then f else g)else F++[f]
def fw(F:List Fld):Nat:=(F.map λf=>wt f.ws).sum
theorem mL(F:List Fld)(f:Fld):sA (pK F) (.inr f.nm) (fdD f)=pK (putF F f):=by
 unfold sA putF pK;have e:((F.map λf=>((.inr f.nm:Key),fdD f)).any λkv=>decide (kv.1= (.inr f.nm:Key)))=F.any λg=>decide (g.nm=f.nm):=by rw[List.any_map];congr 1;funext g;show decide ((Sum.inr g.nm:Key)= .inr f.nm)=_;simp
 rw[e];split
 · rw[zV,zV];refine jM λg _=>?_;show (if (Sum.inr g.nm:Key)= .inr f.nm then _ else _)=_;by_cases k:g.nm=f.nm
   ·rw[if_pos (by rw[k])];show _= ((.inr (if g.nm=f.nm then f else g).nm:Key),fdD (if g.nm=f.nm then f else g));rw[if_pos k];show ((.inr g.nm:Key),fdD f)=_;rw[k]
   ·rw[if_neg λz=>k (XW z)];show _= ((.inr (if g.nm=f.nm then f else g).nm:Key),fdD (if g.nm=f.nm then f else g));rw[if_neg k]
 ·rw[zX];rfl
abbrev nms(F:List Fld):List Str:=F.map Fld.nm
theorem LQ(F:List Fld)(f:Fld):nms (F.map λg=>if g.nm=f.nm then f else g)=nms F:=by
 unfold nms;rw[zV];refine jM λg _=>?_;show (if g.nm=f.nm then f else g).nm=_;split
 ·rename_i h;exact h.symm
 ·rfl
theorem nP(F:List Fld)(f:Fld)(h:f.nm∉nms F):F.map (λg=>if g.nm=f.nm then f else g)=F:=by refine Eq.trans (jM (g:=id) λg hg=>?_) (jE _);exact if_neg fun(e:g.nm=f.nm)=>h (e▸zE.mpr ⟨g,hg,rfl⟩)
theorem SK:∀(F:List Fld) (f:Fld),(nms F).Nodup->fw (F.map λg=>if g.nm=f.nm then f else g)<=fw F+wt f.ws
 |[],f,_=>zD _
 |g::F,f,h=>by
   obtain⟨h1,h2⟩:=ye.mp h;rw[zH];by_cases k:g.nm=f.nm
   ·rw[if_pos k,nP F f (k▸h1)];show wt f.ws+fw F<=wt g.ws+fw F+_;lia
   ·rw[if_neg k];have:=SK F f h2;show wt g.ws+fw _<=wt g.ws+fw F+_;lia
structure FOk(P:Fld->Prop)(F:List Fld):Prop where
 nd:(nms F).Nodup
 al:∀f∈F,P f
theorem oS:fw (F++E)=fw F+fw E:=by unfold fw;rw[zX,List.sum_append]
theorem FOk.put(h:FOk P F)(hf:P f):FOk P (putF F f)/\(putF F f).length<=F.length+1/\fw (putF F f)<=fw F+wt f.ws:=by
 unfold putF;split
 · refine⟨⟨by rw[LQ];exact h.nd,λg hg=>?_⟩,by rw[zc];exact Xf _,SK F f h.nd⟩;obtain⟨g',hg',rfl⟩:=zE.mp hg;split
   ·exact hf
   ·exact h.al g' hg'
 · rename_i k;refine⟨⟨?_,λg hg=>?_⟩,by rw[zd];exact zf _,by rw[oS];exact zf _⟩
   ·show (nms (F++[f])).Nodup;unfold nms;rw[zX];refine YF.mpr ⟨h.nd,ye.mpr ⟨λz=>(nomatch z),yH⟩,λa ha b hb e=>k ?_⟩;rw[zr.mp hb]at e;subst e;obtain⟨g,hg,e⟩:=zE.mp ha;exact YY.mpr ⟨g,hg,decide_eq_true e⟩
   · rcases zO.mp hg with hg|hg
     ·exact h.al g hg
     ·rw[zr.mp hg];exact hf
theorem eN:∀F:List Fld,S7 (pK F)=some (nms F)
 |[]=>rfl
 |f::F=>congrArg (Option.map (f.nm :: ·)) (eN F)
theorem cM:∀(F:List Fld),(nms F).Nodup->∀f∈F,i4 (pK F) (.inr f.nm)=some (fdD f)
 |g::F,h,f,hf=>by
   obtain⟨h1,h2⟩:=ye.mp h;have ih:=cM F h2;unfold i4 pK at ih ⊢;rw[zH,yQ];rcases zI.mp hf with rfl|hf
   ·have:decide (((.inr f.nm:Key),fdD f).1= .inr f.nm)=true:=decide_eq_true rfl;rw[this];rfl
   · have:decide (((.inr g.nm:Key),fdD g).1= .inr f.nm)=false:=decide_eq_false λe=>h1 (by
      have e:g.nm=f.nm:=XW e;show g.nm∈nms F;rw[e];exact zE.mpr ⟨f,hf,rfl⟩)
     rw[this];exact ih f hf
theorem LV{g:α->β}{a l:List β}(h:a.Perm l):∀F:List α,a=F.map g->∃F',F.Perm F'/\l=F'.map g:=by
 induction h with
 |nil=>
   intro F e;exact⟨F,.refl _,e⟩
 |cons x _ ih=>
   intro F e;rcases F with _|⟨f,F⟩
   ·cases e
   obtain⟨e1,e2⟩:=yJ e;obtain⟨F',p,e3⟩:=ih F e2;exact⟨f::F',p.cons f,by rw[zH,<-e1,<-e3]⟩
 |swap x y l=>
   intro F e;rcases F with _|⟨f,_|⟨f',F⟩⟩
   ·cases e
   ·cases e
   obtain⟨e1,e2⟩:=yJ e;obtain⟨e2,e3⟩:=yJ e2;exact⟨f'::f::F,.swap ..,by rw[zH,zH,<-e1,<-e2,<-e3]⟩
 |trans _ _ ih1 ih2=>
   intro F e;obtain⟨F1,p1,e1⟩:=ih1 F e;obtain⟨F2,p2,e2⟩:=ih2 F1 e1;exact⟨F2,p1.trans p2,e2⟩
theorem Df(F:List Fld):∃F',F.Perm F'/\E6 (nms F)=nms F':=LV (jU (nms F) _).symm F rfl
theorem dM(h:F.Perm E):fw F=fw E:=(h.map _).sum_nat
theorem vK{r:Nat}{l:List (Key×D)}{z:Str}{d:D}{G:DH}{R:Unit->DH->Prop}(h:G[r]? =some (.dct l))(hl:l.length<zk):Wp (pA (.ref r) (.str z) d) G R↔R () (G.set r (.dct (sA l (.inr z) d))):=by unfold pA;simp only[j6,M6,h,O4,gB,if_pos hl,aF]
def Dn(R:List D->M D)(n:Nat):Prop:=∀(G:DH) (r:Nat) (k:Int),k=n->Dr G r->cnt G r<=240->Wp (R [.ref r,.int k]) G λx G'=>∃ws,Ns n x ws/\Fd r G G'/\(wt ws+17400*cnt G' r<=1200+17400*cnt G r/\cnt G' r<=cnt G r-1)
theorem kI:wt (a::L)=a.length+4+wt L:=by unfold wt;rw[N8,zq];lia
theorem QI{L:List (List Nat)}(h:∀a∈L,a.length<=k):wt L<=(k+4)*L.length:=by have:=TC h;unfold wt;rw[Nat.add_mul];lia
theorem HN(h:P3 s):wt ((A4 s).map wdL)<=1200:=by
 have q42:∀a∈s.ts.map qL,a.length<=42:=λa ha=>by obtain⟨z,hz,rfl⟩:=zE.mp ha;rw[RE];have:=(h.tx z hz).2;lia
 have l0:=h.ln;have l1:=h.lt;unfold A4;rw[zX,zX,V4,V4];have h1:wt ((s.ns.map Wd.num).map wdL)<=846:=by
  have:=QI (L:=(s.ns.map Wd.num).map wdL) (k:=90) λa ha=>by obtain⟨w,hw,rfl⟩:=zE.mp ha;obtain⟨r,hr,rfl⟩:=zE.mp hw;exact IU (h.sm r hr)
  rw[zc,zc]at this;lia
 have h2:wt ((P6 s.b s.ts).map wdL)<=300:=by
  unfold P6;split
  · have:=QI (L:=(s.ts.map Wd.txt).map wdL) (k:=42) λa ha=>by
     obtain⟨w,hw,rfl⟩:=zE.mp ha;obtain⟨r,hr,rfl⟩:=zE.mp hw;exact q42 _ (zE.mpr ⟨r,hr,rfl⟩)
    rw[zc,zc]at this;lia
  · split
    ·exact(by decide:wt [cTx]<=300)
    · show wt [btL s.ts]<=_;have hb:(bqL s.ts).length<=270:=by
       rw[<-eD,bD];have:=TC q42;rw[zc]at this ⊢;show _+1*_<=_;lia
      rw[kI,show wt []=0 from rfl];show (cTb++bqL s.ts).length+4+0<=_;rw[zd];have:cTb.length=8:=rfl;lia
 have h3:wt ((wB s.f s.t).map wdL)<=30:=by
  cases s.f<;>cases s.t<;>decide
 lia
abbrev LO:D:=.tup [.tup [],.tup [.str ("of" :Str),.tup []],.tup [.bl true],.non,.non]
theorem P3.nil(f t:Bool):P3 ⟨[],true, [],f,t⟩:=⟨⟨λ_ h=>(nomatch h),List.Pairwise.nil⟩,λ_ h=>(nomatch h),zD _,List.Pairwise.nil,λ_ h=>(nomatch h),zD _⟩
theorem FX(n:Nat):Ns (n+1) LO [cT]:=⟨by decide,.inr (.inr ⟨(λz=>by cases z),⟨[],true, [],false,true⟩,.non,.non, [], [],P3.nil _ _,rfl,.inl ⟨rfl,rfl⟩,.inl ⟨rfl,rfl⟩,rfl⟩)⟩
theorem cL(n:Nat):Ns (n+1) (.str ("any" :Str)) [dI]:=⟨by decide,.inl ⟨rfl,rfl⟩⟩
theorem rK(n:Nat):Ns (n+1) noD [cNo]:=⟨by decide,.inr (.inl ⟨rfl,rfl⟩)⟩
section
variable{R:List D->M D}{n r:Nat}{G:DH}
theorem fH(hD:Dn R n):Dn (M3 R) n:=by
 intro G r k hk h hc;refine v7 (show Wp (pH R [sRf r,some (.int k),none]) G _ from ?_);refine f9.mpr<| u6<| j7 (as:= [.ref r,.int k]) rfl rfl<| (hD G r k hk h hc).mono ?_;rintro x G1 ⟨ws,hx,f1,b1⟩;have n0:∃m,n=m+1:=by cases n with
  |zero=>exact hx.elim
  |succ m=>exact⟨m,rfl⟩
 obtain⟨m,rfl⟩:=n0;have c1:=f1.c;obtain⟨k,ek,hk⟩:=hx.eqno (G:=G1);refine f9.mpr<| S9<| o8<| bin_w<| b8 (a:=x) (G':=G1) rfl<| b8 (a:=noD) (G':=G1) rfl<| y6.mpr ⟨k,ek,_,rfl,λ_=>t8<| b8 (a:=LO) (G':=G1) rfl<| o4 ⟨_,FX m,f1,?_⟩,λ_=>o6.mpr<| t8<| b8 (a:=x) (G':=G1) rfl<| o4 ⟨ws,hx,f1,b1⟩⟩;refine⟨?_,b1.2⟩;show wt [cT]+_<=_;have:wt [cT]=8:=by decide
 lia
abbrev frE(R:List D->M D):Fe:=(z0 (M3 R) C0 (j5 L4 i0 y0))
def fwL(fs:List (D×List (List Nat))):Nat:=(fs.map λf=>wt f.2).sum
theorem pO(hD:Dn R n){k:Int}(hk:k-1=n):∀(items:List D) (u:Option D) (G:DH),Dr G r->cnt G r<=240->
 Wp (K6 H0 K7 (frE R) (λ_=>true) items [u,some (.int k),sRf r]) G λys G'=>∃fs:List (D×List (List Nat)),ys=fs.map (·.1)/\(∀f∈fs,Ns n f.1 f.2)/\fs.length=items.length/\Fd r G G'/\fwL fs+17400*cnt G' r<=1200*items.length+17400*cnt G r
 |[],u,G,h,hc=>W4.mpr ⟨rfl, [],rfl,λ_ h=>(nomatch h),rfl,Fd.refl h,by show 0+_<=0+_;lia⟩
 |d::l,u,G,h,hc=>by refine W3.mpr ⟨rfl,b8 (a:= [some d,some (.int k),sRf r]) (G':=G) rfl<| b8 (a:=true) (G':=G) rfl ?_⟩;rw[if_pos rfl];refine j7 (as:= [.ref r,.int (k-1)]) rfl rfl<| (fH hD G r (k-1) hk h hc).mono ?_;rintro x G1 ⟨ws,hx,f1,b1⟩;have c1:=f1.c;refine(pO hD hk l _ G1 f1.2.2 (by lia)).mono ?_;rintro _ G2 ⟨fs,rfl,hf,hl,f2,b2⟩;refine⟨(x,ws)::fs,rfl,all_f hx hf,by simp[hl],f1.trans f2,?_⟩;show wt ws+fwL fs+_<=_;rw[zq];lia
where
 all_f {fs:List (D×List (List Nat))} {x:D} {ws:List (List Nat)} (hx:Ns n x ws) (hf:∀f∈fs,Ns n f.1 f.2):∀f∈(x,ws)::fs,Ns n f.1 f.2:=λf hm=>by
  rcases zI.mp hm with rfl|hm
  ·exact hx
  ·exact hf f hm
theorem QM:∀fs:List (D×List (List Nat)),szM (fs.map λf:D×List (List Nat)=>inL f.2)<=fwL fs+2*fs.length
 |[]=>zD _
 |f::fs=>by have:=QM fs;have h:=uA f.2;rw[zH,N8,zq];show _<=wt f.2+fwL fs+_;lia
theorem Mo.sz{N:SR}{w:List (List Nat)}(hz:m=noD/\z= []\/m≠noD/\z= [[46,46,32]++inL w]):szM z<=wt w+5/\z.length<=1:=by
 rcases hz with⟨_,rfl⟩|⟨_,rfl⟩
 ·exact⟨zD _,zD _⟩
 ·have:=uA w;refine⟨?_,zf _⟩;rw[N8,zd,show szM []=0 from rfl];show 3+_+0<=_;lia
theorem nK{N:SR}(h:N m w):∃z,Mo N m z/\szM z<=wt w+5/\z.length<=1:=by
 by_cases e:m=noD
 ·have k:m=noD/\([]:List (List Nat))= []\/m≠noD/\ []= [[46,46,32]++inL w]:=.inl ⟨e,rfl⟩;exact⟨_,⟨w,h,k⟩,Mo.sz (N:=N) k⟩
 ·have k:m=noD/\ [[46,46,32]++inL w]= []\/m≠noD/\ [[46,46,32]++inL w]= [[46,46,32]++inL w]:=.inr ⟨e,rfl⟩;exact⟨_,⟨w,h,k⟩,Mo.sz (N:=N) k⟩
theorem KO(fs:List (D×List (List Nat)))(hl:fs.length<=20)(hf:∀f∈fs,Ns n f.1 f.2)(hm:Ns n m w):∃lw,LwS (Ns n) (.tup [.tup (fs.map (·.1)),m]) lw/\wt lw<=fwL fs+wt w+4*fs.length+20:=by obtain⟨z,hz,s1,s2⟩:=nK (N:=Ns n) hm;refine⟨_,.inr ⟨fs,m,z,rfl,hl,hf,hz,rfl⟩,?_⟩;have h1:=QM fs;have h2:=MC (s:=cCm) (fs.map (λf:D×List (List Nat)=>inL f.2)++z);have e2:cCm.length=2:=rfl;rw[e2,rG,zd,zc]at h2;rw[kI,show wt []=0 from rfl];simp only[zd,zq,jO];lia
theorem dY(hD:Dn R n){k:Int}(hk:k-1=n)(h:Dr G r)(hc:cnt G r<=240):Wp (W2 R [.ref r,.int k]) G λx G'=>∃lw,LwS (Ns n) x lw/\Fd r G G'/\wt lw+17400*cnt G' r<=8500+17400*cnt G r:=by
 have bg:=big;refine v7 (show Wp (WH R [sRf r,some (.int k),none,none]) G _ from ?_);refine f9.mpr<| (PF (ds:= [0,1,2,1,3,2,6,1]) (σ:=λ_=> []) (X1:=λ_=> []) h rfl (by decide) rfl rfl).mono ?_;rintro _ G1 ⟨f1,c,hn,rfl⟩;have c1:=f1.c;have lr:(J2 0 ((c:Int)).toNat).length=c:=by unfold J2;rw[zc,jv];lia
 refine f9.mpr<| u6<| x5<| m6<| wp_comp.mpr<| N9.mpr<| b8 (a:= [.int (c:Int)]) (G':=G1) rfl<| (l9 ⟨by lia,by lia⟩).mpr ⟨by rw[lr];lia,(pO hD hk (J2 0 (c:Int).toNat) none G1 f1.2.2 (by lia)).mono ?_⟩;rintro _ G2 ⟨fs,rfl,hf,hl,f2,b2⟩;rw[lr]at hl b2;have c2:=f2.c;have f3:=(f1.trans f2).trans (Fd.app (t:= [.lst (fs.map (·.1))]) f2.2.2);have e3:cnt (G2++[DO.lst (fs.map (·.1))]) r=cnt G2 r:=W5 (zh f2.2.2.lt);refine t7.mpr<| (bB g8).mpr<| t8<| V3.mpr<| m6<| b8 (a:=.tup (fs.map (·.1))) rfl<| m6<| j7 (as:= [.ref r,.int (k-1)]) rfl rfl<| (hD _ r (k-1) hk f3.2.2 (by rw[e3];lia)).mono ?_;rintro m G4 ⟨w,hm,f4,b4⟩;rw[e3]at b4;obtain⟨lw,h1,h2⟩:=KO fs (by lia) hf hm;exact t7.mpr ⟨sz,o4 ⟨lw,h1,f3.trans f4,by lia⟩⟩
end
abbrev FP(n:Nat)(f:Fld):Prop:=TxL f.nm/\Ns n f.d f.ws
structure Rc(n r p j:Nat)(G0:DH)(F:List Fld)(G:DH):Prop where
 e:G[p]? =some (.dct (pK F))
 ok:FOk (FP n) F
 dr:Dr G r
 fr:G0.length<=G.length/\∀i,i≠r->i≠p->i<G0.length->G[i]? =G0[i]?
 w:fw F+17400*cnt G r<=1200*j+17400*cnt G0 r
 l:F.length<=j
 c:cnt G r<=cnt G0 r
def rcP(H:List D->M D)(b:Bool):Fs:=(J6 (nB F3 (cE (.bl b)) (z0 H g0 (j5 L4 i0 y0))) (E8 A0 F3))
def rcB(R:List D->M D):Fs:=(asQ (D0 U6 g0) u4 (ifS (tBn eqD (z0 j4 g0 K0) N0) (rcP (M3 R) true) (rcP R false)))
theorem Fm:V2 R=j9 rcM (asQ (rC) A1 (j9 (L3 (T4 (x0 C0)) T0 (rcB R)) (asQ (z0 R g0 (j5 L4 i0 y0)) F6 (asQ (J8 (itW (F0 c9 A0)) [none,some 3] H0 (K7) (j5 ixG i0 g0)) x9 (G9 (L0 (F0 V6 (J8 (itW uD) [none,some 6] H0 flT g0)) A7)))))):=rfl
section
variable{R H:List D->M D}{n r p j:Nat}{G G0:DH}{F:List Fld}{k:Int}
theorem Rc.fd(h:Rc n r p j G0 F G)(hp:p≠r)(f:Fd r G G1):G1[p]? =some (.dct (pK F))/\Dr G1 r/\(G0.length<=G1.length/\∀i,i≠r->i≠p->i<G0.length->G1[i]? =G0[i]?)/\cnt G1 r<=cnt G0 r:=
 ⟨f.at hp h.e,f.2.2,⟨zp h.fr.1 f.1,λi hi hj hk=>by rw[f.2.1 i hi (by have:=h.fr.1;lia),h.fr.2 i hi hj hk]⟩,zp f.c h.c⟩
theorem gO(hD:Dn H n)(hk:k-1=n)(hp:p≠r)(h:Rc n r p j G0 F G)(hc:cnt G0 r<=240)(hj:j<=30)(f1:Fd r G G1)(hz:TxL z){b:Bool}{m u x y:Option D}:
 Wp (rcP H b [sRf r,some (.int k),m,sRf p,u,some (.str z),x,y]) G1 λfl G'=>fl= .nx [sRf r,some (.int k),m,sRf p,u,some (.str z),x,y]/\∃F',Rc n r p (j+1) G0 F' G':=by
 have bg:=big;have c1:=f1.c;have c0:=h.c;refine i8.mpr<| V3.mpr<| m6<| b8 (a:=.str z) rfl<| m6<| b8 (a:=.bl b) rfl<| m6<| j7 (as:= [.ref r,.int (k-1)]) rfl rfl<| (hD G1 r (k-1) hk f1.2.2 (by lia)).mono ?_;rintro d G2 ⟨ws,hd,f2,b2⟩;obtain⟨e2,dr2,fr2,c2⟩:=h.fd hp (f1.trans f2);obtain⟨ok,ln,wf⟩:=h.ok.put (f:=⟨z,b,d,ws⟩) ⟨hz,hd⟩;have hl:=h.l;have hw:=h.w;have ep:=mL F ⟨z,b,d,ws⟩;refine t7.mpr ⟨sz,wH.mpr<| b8 (a:=.ref p) rfl<| b8 (a:=.str z) rfl<| (vK e2 (by unfold pK;rw[zc];lia)).mpr ⟨rfl,putF F ⟨z,b,d,ws⟩,?_⟩⟩;have wf:fw (putF F ⟨z,b,d,ws⟩)<=fw F+wt ws:=wf;have ec:∀o:DO,cnt (G2.set p o) r=cnt G2 r:=λo=>W5 (zG hp);refine⟨?_,ok,dr2.set hp,⟨by rw[yf];exact fr2.1,λi hi hj hk=>by rw[zG (Ne.symm hj)];exact fr2.2 i hi hj hk⟩,by rw[ec];lia,by lia,by rw[ec];exact c2⟩;rw[zY (lt_of_get e2)];exact congrArg (λl=>some (DO.dct l)) ep
theorem wQ(hD:Dn R n)(hk:k-1=n)(hp:p≠r)(h:Rc n r p j G0 F G)(hc:cnt G0 r<=240)(hj:j<=30){m u v x y:Option D}:
 Wp (rcB R [sRf r,some (.int k),m,sRf p,u,v,x,y]) G λfl G'=>(∃v,fl= .nx [sRf r,some (.int k),m,sRf p,u,v,x,y])/\∃F',Rc n r p (j+1) G0 F' G':=by
 refine f9.mpr<| u6<| j7 (as:= [.ref r]) rfl rfl<| (VJ h.dr).mono ?_;rintro _ G1 ⟨z,rfl,hz,f1⟩;refine S9<| o8<| bin_w<| j7 (as:= [.ref r,.int 2]) rfl rfl<| T3 f1.2.2 (by decide) λw w0 w1 G2 f2=>b8 (a:=.int 0) rfl<| O7.mpr ⟨_,rfl,λ_=>?_,λ_=>?_⟩
 ·exact(gO (fH hD) hk hp h hc hj (f1.trans f2) hz).mono λ_ _ ⟨e,q⟩=>⟨⟨_,e⟩,q⟩
 ·exact(gO hD hk hp h hc hj (f1.trans f2) hz).mono λ_ _ ⟨e,q⟩=>⟨⟨_,e⟩,q⟩
theorem DN(hD:Dn R n)(hk:k-1=n)(hp:p≠r)(hc:cnt G0 r<=240){m x y:Option D}:∀(items:List D) (j:Nat) (F:List Fld) (u v:Option D) (G:DH),Rc n r p j G0 F G->j+items.length<=30->
 Wp (B1 T0 (rcB R) (λ_=>true) items [sRf r,some (.int k),m,sRf p,u,v,x,y]) G λfl G'=>(∃u v,fl= .nx [sRf r,some (.int k),m,sRf p,u,v,x,y])/\∃F',Rc n r p (j+items.length) G0 F' G'
 |[],j,F,u,v,G,h,hj=>QA.mpr ⟨rfl,⟨u,v,rfl⟩,F,h⟩
 |d::l,j,F,u,v,G,h,hj=>by rw[zq]at hj;refine rA.mpr ⟨rfl,b8 (a:= [sRf r,some (.int k),m,sRf p,some d,v,x,y]) (G':=G) rfl<| (wQ hD hk hp h hc (by lia)).mono ?_⟩;rintro _ G1 ⟨⟨v,rfl⟩,F1,h1⟩;refine(DN hD hk hp hc l (j+1) F1 _ _ G1 h1 (by lia)).mono ?_;rintro _ G2 ⟨q,F2,h2⟩;refine⟨q,F2,?_⟩;rw[zq,show j+(l.length+1)=j+1+l.length by lia];exact h2
theorem wJ{ck:DH->Bool}(Pq:ck G=true)(nd:(nms F).Nodup)(e:G[p]? =some (.dct (pK F))):∀(l:List Fld) (u:Option D),(∀f∈l,f∈F)->K6 H0 K7 (j5 ixG i0 g0) ck (l.map λf=>D.str f.nm) [u,sRf p] G=some (.ok (l.map fdD),G)
 |[],u,h=>y4 (W4.mpr ⟨Pq,rfl,rfl⟩)
 | f :: l, u, h => y4 (W3.mpr ⟨Pq, b8 (a := [some (.str f.nm), sRf p]) (G' := G) rfl <| b8 (a := true) (G' := G) rfl <| by
    rw[if_pos rfl];exact bin_w<| b8 (a:=.ref p) rfl<| b8 (a:=.str f.nm) rfl<| (Bz e (cM F nd f (h f (zt ..)))).mpr<| b8 (wJ Pq nd e l _ λg hg=>h g (zl _ hg)) ⟨rfl,rfl⟩⟩)
theorem IL{ck:DH->Bool}(Pq:ck G=true)(hn:n<=14)(hm:Ns n m w):∀(l:List Fld) (u:Option D),(∀f∈l,FP n f)->Wp (K6 H0 flT g0 ck (l.map fdD) [u,some m]) G λys G'=>G'=G/\∃l',List.Sublist l' l/\ys=l'.map fdD
 |[],u,h=>W4.mpr ⟨Pq,rfl, [],List.Sublist.refl _,rfl⟩
 |f::l,u,h=>by
   have ih:=IL Pq hn hm l (some (fdD f)) λg hg=>h g (zl _ hg);have yes:Wp (U2 0 [some (fdD f),some m]) G λy G3=>Wp (K6 H0 flT g0 ck (l.map fdD) [some (fdD f),some m]) G3 λys G4=>G4=G/\∃l',List.Sublist l' (f::l)/\y::ys=l'.map fdD:=b8 (a:=fdD f) (G':=G) rfl<| ih.mono λ_ _ ⟨e,l',s,q⟩=>⟨e,f::l',s.cons₂ f,by rw[q];rfl⟩;have nay:Wp (K6 H0 flT g0 ck (l.map fdD) [some (fdD f),some m]) G λys G4=>G4=G/\∃l',List.Sublist l' (f::l)/\ys=l'.map fdD:=ih.mono λ_ _ ⟨e,l',s,q⟩=>⟨e,l',s.cons f,q⟩;refine W3.mpr ⟨Pq,b8 (a:= [some (fdD f),some m]) (G':=G) rfl<| qJ<| tF.mpr<| b8 (a:=.bl f.must) (G':=G) rfl<| mG.mpr ⟨λ_=>?_,λ_=>?_⟩⟩
   ·rw[if_pos rfl];exact yes
   obtain⟨k,ek⟩:=DC (G:=G) 60 ((h f (zt ..)).2.pd) hm.pd (.inl (by lia));refine o8<| bin_w<| b8 (a:=f.d) (G':=G) rfl<| b8 (a:=m) (G':=G) rfl<| MX.mpr ⟨k,ek,_,rfl,?_⟩
   cases k
   ·rw[if_pos (show (!false)=true from rfl)];exact yes
   ·rw[if_neg (show ¬(!true)=true by decide)];exact nay
theorem IZ(h:List.Sublist F E):fw F<=fw E:=by
 induction h with
 |slnil=>exact zf _
 |cons f _ ih=>exact zp ih (Nat.le_add_left ..)
 |cons_cons f _ ih=>exact Nat.add_le_add_left ih _
theorem oM:∀F:List Fld,(∀f∈F,TxL f.nm)->szM (F.map fdL)<=fw F+45*F.length
 |[],_=>zD _
 |f::F,hF=>by
   have:=oM F λg hg=>hF g (zl _ hg);have h:=uA f.ws;have h2:=(hF f (zt ..)).2;have c3:(cMu f.must).length<=3:=by cases f.must<;>decide
   rw[zH,N8,zq];show (tl f.nm++cMu f.must++inL f.ws).length+_<=wt f.ws+fw F+_;rw[zd,zd];have h2:(tl f.nm).length<=40:=h2;lia
theorem uO(F:List Fld)(hl:F.length<=20)(hf:∀f∈F,FP n f)(hm:Ns n m w):∃lw,RwS (Ns n) (.tup [.tup (F.map fdD),m]) lw/\wt lw<=fw F+wt w+47*F.length+20:=by obtain⟨z,hz,s1,s2⟩:=nK (N:=Ns n) hm;refine⟨_,.inr ⟨F,m,z,rfl,hl,hf,hz,rfl⟩,?_⟩;have h1:=oM F λf h=>(hf f h).1;have h2:=MC (s:=cCm) (F.map fdL++z);have e2:cCm.length=2:=rfl;rw[e2,rG,zd,zc]at h2;rw[kI,show wt []=0 from rfl];simp only[zd,zq,jO];lia
theorem cN{Q:DPP}{σ:DSt}{a:Nat}(ok:FOk Pf F)(e:G[p]? =some (.dct (pK F)))(hl:F.length<60)(h3:σ[a]? =some (some (.ref p)))(q:∀F' G',F.Perm F'->Ap G G'->G'[G.length+1]? =some (.lst (F'.map fdD))->Q (.ref (G.length+1)) G'):
 Wp (J8 (itW (F0 c9 (U2 a))) [none,some a] H0 (K7) (j5 ixG i0 g0) σ) G Q:=by
 have bg:=big;obtain⟨F',pm,es⟩:=Df F;have va:U2 a σ G=some (.ok (.ref p),G):=y4 (i6.mpr ⟨_,h3,rfl,rfl⟩);refine wp_comp.mpr<| wp_itW.mpr<| x5<| m6<| b8 va<| t7.mpr<| (lV e (eN F) (by rw[zc];lia)).mpr<| (UB g8).mpr ?_;rw[es];have ei:(nms F').map D.str=F'.map λf=>D.str f.nm:=by unfold nms;rw[zV];rfl
 have ec:y3 [none,some a] σ= [none,sRf p]:=by unfold y3;simp[h3]
 rw[ei];refine⟨by rw[zc,<-pm.length_eq];lia,b8 (G':=G++[.lst (F'.map λf=>D.str f.nm)]) (by rw[ec];exact wJ (LA (by rw[g8])) ok.nd (Q4 e) F' none λf hf=>pm.mem_iff.mpr hf) ?_⟩;have:=q F' (G++[.lst (F'.map λf=>D.str f.nm)]++[.lst (F'.map fdD)]) pm (Ap.one.trans Ap.one) (by rw[show G.length+1= (G++[DO.lst (F'.map λf=>D.str f.nm)]).length by simp,g8])
 rw[show (G++[DO.lst (F'.map λf=>D.str f.nm)]).length=G.length+1 by simp];exact this
theorem fZ(hD:Dn R n)(hn:n<=14)(hk:k-1=n)(h:Dr G r)(hc:cnt G r<=240):Wp (R8 R [.ref r,.int k]) G λx G'=>∃lw,RwS (Ns n) x lw/\Fd r G G'/\wt lw+17400*cnt G' r<=8800+17400*cnt G r:=by
 have bg:=big;refine v7 (show Wp (V2 R [sRf r,some (.int k),none,none,none,none,none,none]) G _ from ?_);rw[Fm];refine f9.mpr<| (PF (ds:= [0,1,2,1,3,2,6,1]) (σ:=λ_=> []) (X1:=λ_=> []) h rfl (by decide) rfl rfl).mono ?_;rintro _ G1 ⟨f1,c,hn6,rfl⟩;have c1:=f1.c;have lr:(J2 0 ((c:Int)).toNat).length=c:=by unfold J2;rw[zc,jv];lia
 refine K4 (X1:= [sRf r,some (.int k),sIi c,some (.ref G1.length),none,none,none,none]) (G':=G1++[.dct []]) rfl ?_;have hp:G1.length≠r:=by have:=f1.2.2.lt;lia
 have e0:cnt (G1++[.dct []]) r=cnt G1 r:=W5 (zh f1.2.2.lt);have st:Rc n r G1.length 0 (G1++[.dct []]) [] (G1++[.dct []]):=⟨g8,⟨yH,λ_ h=>(nomatch h)⟩,f1.2.2.app,⟨zf _,λ_ _ _ _=>rfl⟩,by show 0+_<=_;lia,zf _,zf _⟩;refine f9.mpr<| VA.mpr<| N9.mpr<| b8 (a:= [.int (c:Int)]) (G':=G1++[.dct []]) rfl<| (l9 ⟨by lia,by lia⟩).mpr<| (DN hD hk hp (by lia) (J2 0 (c:Int).toNat) 0 [] none none _ st (by rw[lr];lia)).mono ?_;rintro _ G2 ⟨⟨u,v,rfl⟩,F,h2⟩;rw[lr,Jo]at h2;have w2:=h2.w;have l2:=h2.l;have c2:=h2.c;have f2:Fd r G1 G2:=⟨zp (by simp) h2.fr.1,⟨λi hi hl=>by rw[h2.fr.2 i hi (by lia) (by simp;lia),zh hl],h2.dr⟩,by lia⟩;refine f9.mpr<| u6<| j7 (as:= [.ref r,.int (k-1)]) rfl rfl<| (hD G2 r (k-1) hk h2.dr (by lia)).mono ?_;rintro m G3 ⟨w,hm,f3,b3⟩;have e3:=f3.at hp h2.e;refine f9.mpr<| u6<| cN (a:=3) h2.ok e3 (by lia) rfl λF' G4 pm a4 e4=>?_;have al:∀f∈F',FP n f:=λf hf=>h2.ok.al f (pm.mem_iff.mpr hf);refine t8<| V3.mpr<| m6<| x5<| m6<| wp_comp.mpr<| wp_itW.mpr<| b8 (a:=.ref (G3.length+1)) (G':=G4) rfl<| (UB e4).mpr ⟨by rw[zc,<-pm.length_eq];lia,(IL (LA e4) hn hm F' none al).mono ?_⟩;rintro _ _ ⟨rfl,F2,sb,rfl⟩;refine t7.mpr<| (bB g8).mpr<| b8 (a:= [m]) rfl ?_;obtain⟨lw,k1,k2⟩:=uO F2 (by have:=sb.length_le;rw[<-pm.length_eq]at this;lia) (λf hf=>al f (sb.subset hf)) hm;have s1:=IZ sb;rw[<-dM pm]at s1;have s2:=sb.length_le;rw[<-pm.length_eq]at s2;obtain⟨t,rfl⟩:=a4;have f5:Fd r G3 (G3++t++[.lst (F2.map fdD)]):=(Fd.app f3.2.2).trans (Fd.app f3.2.2.app);have e5:cnt (G3++t++[.lst (F2.map fdD)]) r=cnt G3 r:=by rw[jh];exact W5 (zh f3.2.2.lt)
 exact⟨sz,o4 ⟨lw,k1,((f1.trans f2).trans f3).trans f5,by rw[e5];lia⟩⟩
end
abbrev pC:List D:= [.int 1,.int 8,.int 16,.int 2,.int 4,.int 8,.int 16,.int 3,.int 14,.int 21,.int 31]
theorem Hm:WC R=j9 (J6 (z0 j4 g0 (cIn 13)) S1) (gdQ (tBn eqD C0 (cIn 12)) (cSt "any") (gdQ (tBn eqD C0 dB) (C8 v6) (asQ (ixE (M5 (o0 y0 (o0 F4 (o0 (cIn 16) (o0 K0 (o0 v3 (o0 F4 (B5 (cIn 16) u3 (cIn 14) (cIn 21) (cIn 31))))))))) C0) A1 (j9 smD (asQ (C8 v6) (t4 5 (J4 T0 (J4 u4 (J4 F6 (J4 x9 (J4 TB (m4))))))) (j9 smN (j9 smT (j9 smB (j9 (smL R) (j9 (smK R) smV)))))))))):=rfl
abbrev smS(r:Nat)(k w m:Int)(A B C L E5:D):DSt:= [sRf r,some (.int k),some (.int w),some (.int m),some A,some B,some C,some L,some E5]
section
variable{R:List D->M D}{n r:Nat}{G:DH}{k w m:Int}
theorem TV(h:Dr G r):Wp (smN (smS r k w m (.tup []) B C L E5)) G λfl G'=>∃ns,fl= .nx (smS r k w m (.tup (rsD ns)) B C L E5)/\Can ns/\(∀z∈ns,smR z)/\ns.length<=9/\Fd r G G':=by refine S9<| o8<| bin_w<| bin_w<| b8 (a:=.int m) rfl<| b8 (a:=.int 2) rfl<| (O2 (by decide)).mpr<| b8 (a:=.int 1) rfl<| O7.mpr ⟨_,rfl,λ_=>u6<| j7 (as:= [.ref r]) rfl rfl<| (iX h).mono ?_,λ_=>o6.mpr ⟨[],rfl,⟨λ_ h=>(nomatch h),List.Pairwise.nil⟩,λ_ h=>(nomatch h),zD _,Fd.refl h⟩⟩;rintro _ G1 ⟨ns,rfl,a,b,c,f⟩;exact⟨ns,rfl,a,c,b,f⟩
theorem TU(h:Dr G r):Wp (smT (smS r k w m A (A2 true []) C L E5)) G λfl G'=>∃b ts,fl= .nx (smS r k w m A (A2 b ts) C L E5)/\Ris ts/\(∀z∈ts,TxL z)/\ts.length<=6/\Fd r G G':=by refine S9<| o8<| bin_w<| bin_w<| bin_w<| b8 (a:=.int m) rfl<| b8 (a:=.int 2) rfl<| (T9 ⟨by decide,by decide⟩).mpr<| b8 (a:=.int 2) rfl<| (O2 (by decide)).mpr<| b8 (a:=.int 1) rfl<| O7.mpr ⟨_,rfl,λ_=>u6<| j7 (as:= [.ref r]) rfl rfl<| (qd h).mono ?_,λ_=>o6.mpr ⟨true, [],rfl,List.Pairwise.nil,λ_ h=>(nomatch h),zD _,Fd.refl h⟩⟩;rintro _ G1 ⟨b,ts,rfl,q⟩;exact⟨b,ts,rfl,q⟩
theorem Dp(h:Dr G r):Wp (smB (smS r k w m A B (trD false false) L E5)) G λfl G'=>∃f t,fl= .nx (smS r k w m A B (trD f t) L E5)/\Fd r G G':=by
 refine S9<| o8<| bin_w<| bin_w<| bin_w<| b8 (a:=.int m) rfl<| b8 (a:=.int 4) rfl<| (T9 ⟨by decide,by decide⟩).mpr<| b8 (a:=.int 2) rfl<| (O2 (by decide)).mpr<| b8 (a:=.int 1) rfl<| O7.mpr ⟨_,rfl,λ_=>u6<| bin_w<| b8 (a:=.ref G.length) (G':=G++[.lst [trD true false,trD false true,trD true true]]) rfl ?_,λ_=>o6.mpr ⟨false,false,rfl,Fd.refl h⟩⟩;refine x5<| m6<| b8 (a:=.ref r) rfl<| b8 (a:= [.int 3]) rfl<| uB.mpr ⟨rfl,?_⟩;refine OD h rfl (by decide) λd hd G2 f=>?_;simp only[zI,jR,or_false]at hd;rcases hd with rfl|rfl|rfl
 ·exact⟨_,_,rfl,f⟩
 ·exact⟨_,_,rfl,f⟩
 ·exact⟨_,_,rfl,f⟩
theorem Dh(hD:8<=m->Dn R n)(hk:k-1=n)(hm:0<=m)(hy:8500<=c\/m<8)(h:Dr G r)(hc:cnt G r<=240):Wp (smL R (smS r k w m A B C .non E5)) G λfl G'=>∃L lw,fl= .nx (smS r k w m A B C L E5)/\LwS (Ns n) L lw/\Fd r G G'/\wt lw+17400*cnt G' r<=c+17400*cnt G r:=by
 refine S9<| o8<| bin_w<| bin_w<| bin_w<| b8 (a:=.int m) rfl<| b8 (a:=.int 8) rfl<| (T9 ⟨by decide,by decide⟩).mpr<| b8 (a:=.int 2) rfl<| (O2 (by decide)).mpr<| b8 (a:=.int 1) rfl<| O7.mpr ⟨_,rfl,λz=>u6<| j7 (as:= [.ref r,.int k]) rfl rfl ?_,λ_=>o6.mpr ⟨.non, [],rfl,.inl ⟨rfl,rfl⟩,Fd.refl h,by show 0+_<=_;lia⟩⟩;have z:=of_decide_eq_true z;have m8:8<=m:=by lia
 refine(dY (hD m8) hk h hc).mono ?_;rintro x G1 ⟨lw,a,b,q⟩;exact⟨x,lw,rfl,a,b,by lia⟩
theorem MW(hD:8<=m->Dn R n)(hn:n<=14)(hk:k-1=n)(hm:0<=m)(hy:8800<=c\/m<8)(h:Dr G r)(hc:cnt G r<=240):Wp (smK R (smS r k w m A B C L .non)) G λfl G'=>∃E5 lw,fl= .nx (smS r k w m A B C L E5)/\RwS (Ns n) E5 lw/\Fd r G G'/\wt lw+17400*cnt G' r<=c+17400*cnt G r:=by
 refine S9<| o8<| bin_w<| bin_w<| b8 (a:=.int m) rfl<| b8 (a:=.int 16) rfl<| (T9 ⟨by decide,by decide⟩).mpr<| b8 (a:=.int 1) rfl<| O7.mpr ⟨_,rfl,λz=>u6<| j7 (as:= [.ref r,.int k]) rfl rfl ?_,λ_=>o6.mpr ⟨.non, [],rfl,.inl ⟨rfl,rfl⟩,Fd.refl h,by show 0+_<=_;lia⟩⟩;have z:=of_decide_eq_true z;have m8:8<=m:=by lia
 refine(fZ (hD m8) hn hk h hc).mono ?_;rintro x G1 ⟨lw,a,b,q⟩;exact⟨x,lw,rfl,a,b,by lia⟩
theorem BW(hl:P3 s):(∀x∈ [D.tup (rsD s.ns),A2 s.b s.ts,trD s.f s.t],PDx 3 x):=by
 have hn:=hl.ln;have ht:=hl.lt;refine all_cons ?_ (E2 ?_ ?_)
 ·refine o9 (by rw[vE];lia) λx hx=>?_;obtain⟨p,_,rfl⟩:=zE.mp hx;exact o9 (by show 2<=1000;decide) (E2 (tE _) (tE _))
 ·refine o9 (by show 2<=1000;decide) (E2 c8 (o9 (by rw[zc];lia) λx hx=>?_));obtain⟨p,_,rfl⟩:=zE.mp hx;exact c8
 · cases s.f<;>cases s.t
   ·exact o9 (by decide) λ_ h=>nomatch h
   ·exact o9 (by decide) (all_cons i5 λ_ h=>nomatch h)
   ·exact o9 (by decide) (all_cons i5 λ_ h=>nomatch h)
   ·exact o9 (by decide) (E2 i5 i5)
theorem Fk(hl:P3 s)(hL:PDx i L)(hK:PDx j E5):Wp (mE [.tup (rsD s.ns),A2 s.b s.ts,trD s.f s.t,L,E5]) G λx G'=>(x= .str ("any" :Str)\/x=X3 s L E5)/\G'=G:=by refine v7 (show Wp (iH [some (.tup (rsD s.ns)),some (A2 s.b s.ts),some (trD s.f s.t),some L,some E5]) G _ from ?_);have no:Wp (G9 (y2 (B5 g0 i0 C0 A0 O0)) [some (.tup (rsD s.ns)),some (A2 s.b s.ts),some (trD s.f s.t),some L,some E5]) G (PB λx G'=>(x= .str ("any" :Str)\/x=X3 s L E5)/\G'=G):=t8<| b8 (a:=X3 s L E5) (G':=G) rfl<| o4 ⟨.inr rfl,rfl⟩;have anyE:PDx 2 (.tup [.tup [],.str ("any" :Str)]):=o9 (by decide) (E2 (o9 (by decide) λ_ h=>nomatch h) c8);obtain⟨k1,e1⟩:=DC (G:=G) 40 (x:=.tup [.tup (rsD s.ns),A2 s.b s.ts,trD s.f s.t]) (y:=.tup [.tup [.tup [.non,.non]],.tup [.str ("but" :Str),.tup []],.tup [.bl false,.bl true]]) (o9 (n:=3) (by show 3<=1000;decide) (BW hl)) (m:=4) (o9 (by decide) (all_cons (o9 (by decide) (all_cons (o9 (by decide) (E2 (.inl rfl) (.inl rfl))) λ_ h=>nomatch h)) (E2 (o9 (by decide) (E2 c8 (o9 (by decide) λ_ h=>nomatch h))) (o9 (by decide) (E2 i5 i5))))) (.inl (by decide));obtain⟨k2,e2⟩:=DC (G:=G) 40 hL anyE (.inr (by decide));obtain⟨k3,e3⟩:=DC (G:=G) 40 hK anyE (.inr (by decide));refine f9.mpr<| S9<| o8<| bin_w<| b8 (a:=.tup [.tup (rsD s.ns),A2 s.b s.ts,trD s.f s.t]) (G':=G) rfl<| b8 (a:=.tup [.tup [.tup [.non,.non]],.tup [.str ("but" :Str),.tup []],.tup [.bl false,.bl true]]) (G':=G) rfl<| y6.mpr ⟨k1,e1,_,rfl,λ_=>?_,λ_=>o6.mpr no⟩;refine S9<| dC<| o8<| bin_w<| b8 (a:=L) (G':=G) rfl<| b8 (a:=.tup [.tup [],.str ("any" :Str)]) (G':=G) rfl<| y6.mpr ⟨k2,e2,_,rfl,λ_=>o8<| bin_w<| b8 (a:=E5) (G':=G) rfl<| b8 (a:=.tup [.tup [],.str ("any" :Str)]) (G':=G) rfl<| y6.mpr ⟨k3,e3,_,rfl,λ_=>t8<| b8 rfl<| o4 ⟨.inl rfl,rfl⟩,λ_=>o6.mpr no⟩,λ_=>⟨λz=>(nomatch z),λ_=>o6.mpr no⟩⟩
theorem TX(w0:0<=w)(w1:w<=10):∃m:Int,atI pC w=some (.int m)/\0<=m/\m<=31/\(w=0->m=1):=by
 obtain⟨n,rfl⟩:=yI w0;have:n=0\/n=1\/n=2\/n=3\/n=4\/n=5\/n=6\/n=7\/n=8\/n=9\/n=10:=by lia
 rcases this with rfl|rfl|rfl|rfl|rfl|rfl|rfl|rfl|rfl|rfl|rfl<;>exact⟨_,rfl,by decide,by decide,by decide⟩
theorem FY(h0:0<=m)(h1:m<=31)(hw:w=0->m=1){a b c d e:Option D}:Wp (smD [sRf r,some (.int k),some (.int w),some (.int m),a,b,c,d,e]) G λfl G'=>G'=G/\∃m',fl= .nx [sRf r,some (.int k),some (.int w),some (.int m'),a,b,c,d,e]/\0<=m'/\(8<=m'->2<=k/\w≠0):=by refine S9<| o8<| bin_w<| b8 (a:=.int k) (G':=G) rfl<| b8 (a:=.int 2) (G':=G) rfl<| lt_int.mpr ⟨_,rfl,λz=>u6<| bin_w<| bin_w<| b8 (a:=.int m) (G':=G) rfl<| b8 (a:=.int 7) (G':=G) rfl<| (O2 (by decide)).mpr<| b8 (a:=.int 1) (G':=G) rfl<| Z5.mpr ⟨rfl,_,rfl,by lia,λz=>by lia⟩,λz=>o6.mpr ⟨rfl,m,rfl,h0,λz'=>?_⟩⟩;have z:=of_decide_eq_false z;exact⟨by lia,λe=>by have:=hw e;lia⟩
end
theorem Ns.of(hl:P3 s)(hL:LwS (Ns n) L lw)(hR:RwS (Ns n) E5 rw')(hw:wt ((A4 s).map wdL++lw++rw')<=15000000):∃ws,Ns (n+1) (X3 s L E5) ws/\wt ws<=max 11 (wt ((A4 s).map wdL++lw++rw')):=by
 by_cases e:X3 s L E5=noD
 ·exact⟨[cNo],by rw[e];exact rK n,Nat.le_max_left ..⟩
 ·exact⟨_,⟨hw,.inr (.inr ⟨e,s,L,E5,lw,rw',hl,rfl,hL,hR,rfl⟩)⟩,Nat.le_max_right ..⟩
theorem LwS.pd{n:Nat}(h:LwS (Ns n) L lw):PDx (4*n+3) L:=by
 rcases h with⟨rfl,_⟩|⟨fs,m,z,rfl,lf,hf,⟨w,hm,_⟩,_⟩
 ·exact .inl rfl
 refine o9 (by show 2<=1000;decide) (E2 (o9 (n:=4*n+1) (by rw[zc];lia) λx hx=>?_) (A8 (by lia) hm.pd));obtain⟨f,hf',rfl⟩:=zE.mp hx;exact A8 (by lia) (hf f hf').pd
theorem RwS.pd{n:Nat}(h:RwS (Ns n) L lw):PDx (4*n+4) L:=by
 rcases h with⟨rfl,_⟩|⟨fs,m,z,rfl,lf,hf,⟨w,hm,_⟩,_⟩
 ·exact .inl rfl
 refine o9 (by show 2<=1000;decide) (E2 (o9 (n:=4*n+2) (by rw[zc];lia) λx hx=>?_) (A8 (by lia) hm.pd));obtain⟨f,hf',rfl⟩:=zE.mp hx;exact o9 (n:=4*n+1) (by show 3<=1000;decide) (all_cons c8 (E2 i5 (A8 (by lia) (hf f hf').2.pd)))
theorem qE:∀(n N:Nat),n<=N->n<=13->1<=n->Dn (R1 N) n
 |0,_,_,_,h=>(by lia)
 |n+1,0,hN,_,_=>(by lia)
 |n+1,N+1,hN,h13,_=>λG r k hk h hc=>by
   have ih:1<=n->Dn (R1 N) n:=qE n N (by lia) (by lia);refine v7 (show Wp (WC (R1 N) [sRf r,some (.int k),none,none,none,none,none,none,none]) G _ from ?_);rw[Hm];refine f9.mpr<| u6<| j7 (as:= [.ref r,.int 13]) rfl rfl<| KM h (by decide) λw w0 w1 wz G1 f1 e1=>?_;have a7:wt [dI]=7:=rfl;have a11:wt [cNo]=11:=rfl;refine f9.mpr<| S9<| o8<| bin_w<| b8 (a:=.int w) (G':=G1) rfl<| b8 (a:=.int 12) (G':=G1) rfl<| O7.mpr ⟨_,rfl,λ_=>t8<| b8 (a:=.str ("any" :Str)) (G':=G1) rfl<| o4 ⟨_,cL n,f1,by lia,by lia⟩,λz=>o6.mpr ?_⟩;have z:=of_decide_eq_false z;refine f9.mpr<| S9<| o8<| bin_w<| b8 (a:=.int w) (G':=G1) rfl<| b8 (a:=.int 11) (G':=G1) rfl<| O7.mpr ⟨_,rfl,λ_=>t8<| b8 (a:=noD) (G':=G1) rfl<| o4 ⟨_,rK n,f1,by lia,by lia⟩,λz=>o6.mpr ?_⟩;have z:=of_decide_eq_false z;obtain⟨m,em,m0,m1,mw⟩:=TX w0 (by lia);have f2:=f1.trans (Fd.app (t:= [.lst pC]) f1.2.2);have e2:cnt (G1++[.lst pC]) r=cnt G r-1:=(W5 (zh f1.2.2.lt)).trans e1;refine f9.mpr<| u6<| bin_w<| b8 (a:=.ref G1.length) (G':=G1++[.lst pC]) rfl<| b8 (a:=.int w) rfl<| (t5 g8).mpr ⟨_,em,?_⟩;generalize G1++[DO.lst pC]=G2 at f2 e2 ⊢;refine f9.mpr<| (FY m0 m1 mw).mono ?_;rintro _ _ ⟨rfl,M,rfl,M0,M8⟩;refine K4 (X1:=smS r k w M (.tup []) (A2 true []) (.tup []) .non .non) rfl ?_;refine f9.mpr<| (TV f2.2.2).mono ?_;rintro _ G3 ⟨ns,rfl,can,sm,ln,f3⟩;refine f9.mpr<| (TU f3.2.2).mono ?_;rintro _ G4 ⟨b,ts,rfl,rs,tx,lt,f4⟩;refine f9.mpr<| Wp.mono (Dp f4.2.2) ?_;rintro _ G5 ⟨f,t,rfl,f5⟩;have c3:=f3.c;have c4:=f4.c;have c5:=f5.c;obtain⟨c1,c2,k1,k2,k3⟩:∃c1 c2:Nat,(8500<=c1\/M<8)/\(8800<=c2\/M<8)/\c1+c2+17400*(cnt G r-1)<=17400*cnt G r:=by
    by_cases q:8<=M
    ·have:=(M8 q).2;have:cnt G r≠0:=λe=>this (wz e);exact⟨8500,8800,.inl (zf _),.inl (zf _),by lia⟩
    ·exact⟨0,0,.inr (by lia),.inr (by lia),by lia⟩
   have hD:8<=M->Dn (R1 N) n:=λq=>ih (by have:=(M8 q).1;lia);have Qc:k-1=n:=by lia
   have hl:P3 ⟨ns,b,ts,f,t⟩:=⟨can,sm,ln,rs,tx,lt⟩;refine f9.mpr<| (Dh (c:=c1) hD Qc M0 k1 f5.2.2 (by lia)).mono ?_;rintro _ G6 ⟨L,lw,rfl,hL,f6,b6⟩;have c6:=f6.c;refine f9.mpr<| (MW (c:=c2) hD (by lia) Qc M0 k2 f6.2.2 (by lia)).mono ?_;rintro _ G7 ⟨K',kw,rfl,hK,f7,b7⟩;have c7:=f7.c;refine t8<| j7 (as:= [.tup (rsD ns),A2 b ts,trD f t,L,K']) rfl rfl<| (Fk hl hL.pd hK.pd).mono ?_;have ff:=((((f2.trans f3).trans f4).trans f5).trans f6).trans f7;have wf:=HN hl;have wa:wt ((A4 ⟨ns,b,ts,f,t⟩).map wdL++lw++kw)=wt ((A4 ⟨ns,b,ts,f,t⟩).map wdL)+wt lw+wt kw:=by rw[V4,V4]
   rintro _ _ ⟨rfl|rfl,rfl⟩
   ·exact o4 ⟨_,cL n,ff,by lia,by lia⟩
   ·obtain⟨ws,h1,h2⟩:=Ns.of hl hL hK (by lia);exact o4 ⟨ws,h1,ff,by lia,by lia⟩
theorem Mf:oD=j9 (J6 (z0 j4 g0 v3) S0) (gdQ (tBn eqD i0 N0) (z0 M9 g0 (cIn 12)) (asQ (z0 M9 g0 dB) S1 (asQ (M5 B0) A1 (asQ (rC) T0 (j9 (KA wiT wiB) (asQ C0 F6 (j9 wiP (asQ (ixE A7 u3) x9 (asQ (ixE A7 v3) TB (j9 wiL (j9 wiR wiV))))))))))):=rfl
structure Wi(r a p:Nat)(G0:DH)(fs:List (D×List (List Nat)))(F:List Fld)(G:DH):Prop where
 ea:G[a]? =some (.lst (fs.map (·.1)))
 ep:G[p]? =some (.dct (pK F))
 hf:∀f∈fs,Ns 11 f.1 f.2
 ok:FOk (FP 11) F
 dr:Dr G r
 fr:G0.length<=G.length/\∀i,i≠r->i≠a->i≠p->i<G0.length->G[i]? =G0[i]?
 w:fwL fs+fw F+18600*cnt G r<=18600*cnt G0 r
 l:fs.length+F.length<=16
 c:cnt G r<=cnt G0 r
theorem mN:Dn V0 11:=fH (qE 11 14 (by decide) (by decide) (by decide))
section
variable{r a p:Nat}{G G0 G1:DH}{fs:List (D×List (List Nat))}{F:List Fld}{w:Int}{x:D}
abbrev wiS(r:Nat)(w:Int)(x:D)(a p:Nat)(v:Option D):DSt:= [sRf r,some (.int w),some x,sRf a,sRf p,v,none,none,none]
theorem Wi.fd(h:Wi r a p G0 fs F G)(ha:a≠r)(hp:p≠r)(f:Fd r G G1):G1[a]? =some (.lst (fs.map (·.1)))/\G1[p]? =some (.dct (pK F))/\(G0.length<=G1.length/\∀i,i≠r->i≠a->i≠p->i<G0.length->G1[i]? =G0[i]?)/\cnt G1 r<=cnt G0 r:=
 ⟨f.at ha h.ea,f.at hp h.ep,⟨zp h.fr.1 f.1,λi hi hj hk hl=>by rw[f.2.1 i hi (by have:=h.fr.1;lia),h.fr.2 i hi hj hk hl]⟩,zp f.c h.c⟩
theorem Wi.go(h:Wi r a p G0 fs F G)(ha:a≠r)(hp:p≠r)(f:Fd r G G1):Wi r a p G0 fs F G1:=by obtain⟨a1,a2,a3,a4⟩:=h.fd ha hp f;have:=f.c;have:=h.w;exact⟨a1,a2,h.hf,h.ok,f.2.2,a3,by lia,h.l,a4⟩
abbrev WiQ(r a p:Nat)(w:Int)(x:D)(G0:DH)(G:DH)(fl:Fl)(G':DH):Prop:=∃fs F v,fl= .nx (wiS r w x a p v)/\Wi r a p G0 fs F G'/\cnt G' r<=cnt G r-1
theorem BL(h:Wi r a p G0 fs F G)(ha:a≠r)(hp:p≠r)(hap:a≠p)(hc:cnt G0 r<=240)(h0:0<cnt G r)(hl:fs.length+F.length<16)(f1:Fd r G G1):Wp (wiF (wiS r w x a p v)) G1 (WiQ r a p w x G0 G):=by
 have bg:=big;have c1:=f1.c;have hcc:=h.c;refine b9.mpr<| X5.mpr<| b8 (a:=.ref a) rfl<| (P0 (f1.at ha h.ea)).mpr<| m6<| j7 (as:= [.ref r,.int 11]) rfl rfl<| (mN G1 r 11 rfl f1.2.2 (by lia)).mono ?_;rintro d G2 ⟨ws,hd,f2,b2⟩;obtain⟨ea,ep,fr,cc⟩:=h.fd ha hp (f1.trans f2);have hw:=h.w;refine t7.mpr<| (Q6 ea (by rw[zc];lia)).mpr ⟨fs++[(d,ws)],F,v,rfl,?_,?_⟩
 · have ec:∀o:DO,cnt (G2.set a o) r=cnt G2 r:=λo=>W5 (zG ha);refine⟨?_,by rw[zG hap];exact ep,?_,h.ok,f2.2.2.set ha,⟨by rw[yf];exact fr.1,λi hi hj hk hl=>by rw[zG (Ne.symm hj)];exact fr.2 i hi hj hk hl⟩,?_,by rw[zd];show _+1+_<=_;lia,by rw[ec];exact cc⟩
   ·rw[zY (lt_of_get ea),zX];rfl
   · intro f hf;rcases zO.mp hf with hf|hf
     ·exact h.hf f hf
     ·rw[zr.mp hf];exact hd
   · rw[ec];have:fwL (fs++[(d,ws)])=fwL fs+wt ws:=by
      unfold fwL;rw[zX,List.sum_append];rfl
     rw[this];lia
 ·rw[W5 (zG ha)];lia
theorem IJ(h:Wi r a p G0 fs F G)(ha:a≠r)(hp:p≠r)(hap:a≠p)(hc:cnt G0 r<=240)(h0:0<cnt G r)(hl:fs.length+F.length<16)(f1:Fd r G G1):Wp (wiG (wiS r w x a p v)) G1 (WiQ r a p w x G0 G):=by
 have bg:=big;have hcc:=h.c;have c1:=f1.c;refine f9.mpr<| u6<| j7 (as:= [.ref r]) rfl rfl<| (VJ f1.2.2).mono ?_;rintro _ G2 ⟨z,rfl,hz,f2⟩;have c2:=f2.c;refine i8.mpr<| V3.mpr<| m6<| b8 (a:=.str z) rfl<| m6<| b8 (a:=.bl true) rfl<| m6<| j7 (as:= [.ref r,.int 11]) rfl rfl<| (mN G2 r 11 rfl f2.2.2 (by lia)).mono ?_;rintro d G3 ⟨ws,hd,f3,b3⟩;obtain⟨ea,ep,fr,cc⟩:=h.fd ha hp ((f1.trans f2).trans f3);obtain⟨ok,ln,wf⟩:=h.ok.put (f:=⟨z,true,d,ws⟩) ⟨hz,hd⟩;have hw:=h.w;have eq:=mL F ⟨z,true,d,ws⟩;have ec:∀o:DO,cnt (G3.set p o) r=cnt G3 r:=λo=>W5 (zG hp);refine t7.mpr ⟨sz,wH.mpr<| b8 (a:=.ref p) rfl<| b8 (a:=.str z) rfl<| (vK ep (by unfold pK;rw[zc];lia)).mpr ⟨fs,putF F ⟨z,true,d,ws⟩,_,rfl,⟨by rw[zG (Ne.symm hap)];exact ea,?_,h.hf,ok,f3.2.2.set hp,⟨by rw[yf];exact fr.1,λi hi hj hk hl=>by rw[zG (Ne.symm hk)];exact fr.2 i hi hj hk hl⟩,?_,by lia,by rw[ec];exact cc⟩,by rw[ec];lia⟩⟩
 ·rw[zY (lt_of_get ep)];exact congrArg (λl=>some (DO.dct l)) eq
 ·rw[ec];have wf:fw (putF F ⟨z,true,d,ws⟩)<=fw F+wt ws:=wf;lia
theorem sQ(h:Wi r a p G0 fs F G)(ha:a≠r)(hp:p≠r)(hap:a≠p)(hc:cnt G0 r<=240)(h0:0<cnt G r)(hl:fs.length+F.length<16):Wp (wiB (wiS r w x a p v)) G (WiQ r a p w x G0 G):=by refine S9<| qJ<| o8<| bin_w<| b8 (a:=.int w) (G':=G) rfl<| b8 (a:=.int 1) (G':=G) rfl<| O7.mpr ⟨_,rfl,λ_=>⟨λ_=>BL h ha hp hap hc h0 hl (Fd.refl h.dr),λz=>(nomatch z)⟩,λ_=>?_⟩;refine dC<| o8<| bin_w<| b8 (a:=.int w) (G':=G) rfl<| b8 (a:=.int 3) (G':=G) rfl<| O7.mpr ⟨_,rfl,λ_=>?_,λ_=>⟨λz=>(nomatch z),λ_=>IJ h ha hp hap hc h0 hl (Fd.refl h.dr)⟩⟩;exact o8<| bin_w<| j7 (as:= [.ref r,.int 2]) rfl rfl<| T3 h.dr (by decide) λk k0 k1 G1 f1=>b8 (a:=.int 0) (G':=G1) rfl<| O7.mpr ⟨_,rfl,λ_=>BL h ha hp hap hc h0 hl f1,λ_=>IJ h ha hp hap hc h0 hl f1⟩
theorem cU{l:List (Key×D)}{Q:DPP}(e:G[p]? =some (.dct l)):Wp (t3 [.ref p]) G Q↔Q (.int l.length) G:=by unfold t3;simp only[j6,M6,e,O4,wp_pure]
theorem TN(h:Wi r a p G0 fs F G)(ha:a≠r)(hp:p≠r):Wp (wiT (wiS r w x a p v)) G λk G'=>Fd r G G'/\cnt G' r=cnt G r/\(k=true->0<cnt G r/\fs.length+F.length<16):=by
 obtain⟨ns,hr⟩:=h.dr;have c0:cnt G r=ns.length:=by rw[GC hr,zc]
 have f1:Fd r G (G++[.lst []]):=Fd.app h.dr;have e1:cnt (G++[.lst []]) r=cnt G r:=W5 (zh h.dr.lt);refine dC<| o8<| bin_w<| b8 (a:=.ref r) (G':=G) rfl<| b8 (a:=.ref G.length) (G':=G++[.lst []]) rfl<| (GO (Q4 hr) g8).mpr ⟨_,rfl,λz=>?_,λz=>⟨f1,e1,λz=>(nomatch z)⟩⟩;have n0:0<cnt G r:=by
  rw[c0];rcases ns with _|⟨_,_⟩
  ·cases z
  ·exact Nat.succ_pos _
 obtain⟨ea,ep,_⟩:=h.fd ha hp f1;refine o8<| bin_w<| bin_w<| S3 (as:= [.ref a]) rfl<| (OF ea).mpr<| S3 (as:= [.ref p]) rfl<| (cU ep).mpr<| Z5.mpr<| b8 (a:=.int 16) rfl<| lt_int.mpr ⟨_,rfl,f1,e1,λz=>⟨n0,?_⟩⟩;have z:=of_decide_eq_true z;unfold pK at z;rw[zc,zc]at z;lia
theorem oZ(ha:a≠r)(hp:p≠r)(hap:a≠p)(hc:cnt G0 r<=240):∀(j:Nat) (fs:List (D×List (List Nat))) (F:List Fld) (v:Option D) (G:DH),Wi r a p G0 fs F G->cnt G r<=j->Wp (O8 (j+1) wiT wiB (wiS r w x a p v)) G λfl G'=>∃fs F v,fl= .nx (wiS r w x a p v)/\Wi r a p G0 fs F G':=by
 intro j
 induction j with
 |zero=>
   intro fs F v G h hj;refine fE.mpr<| (TN h ha hp).mono λk G1 ⟨f1,e1,hk⟩=>?_
   cases k
   ·rw[if_neg zR];exact⟨fs,F,v,rfl,h.go ha hp f1⟩
   ·exact absurd (hk rfl).1 (by lia)
 |succ j ih=>
   intro fs F v G h hj;refine fE.mpr<| (TN h ha hp).mono λk G1 ⟨f1,e1,hk⟩=>?_
   cases k
   ·rw[if_neg zR];exact⟨fs,F,v,rfl,h.go ha hp f1⟩
   obtain⟨k1,k2⟩:=hk rfl;rw[if_pos rfl];refine(sQ (h.go ha hp f1) ha hp hap hc (by lia) k2).mono ?_;rintro _ G2 ⟨fs2,F2,v2,rfl,h2,c2⟩;exact ih fs2 F2 v2 G2 h2 (by lia)
end
theorem lO:X3 ⟨[],true, [],false,false⟩ .non .non=noD:=rfl
theorem Ns.parts{n:Nat}(h:Ns (n+1) x ws):∃s L K' lw kw,P3 s/\LwS (Ns n) L lw/\RwS (Ns n) K' kw/\wt lw<=wt ws/\wt kw<=wt ws/\(x= .str ("any" :Str)/\X3 s L K'=noD\/x=X3 s L K'):=by
 rcases h with⟨hs,⟨rfl,rfl⟩|⟨rfl,rfl⟩|⟨_,s,L,K',lw,kw,hl,rfl,hL,hK,rfl⟩⟩
 ·exact⟨_,_,_, [], [],P3.nil false false,.inl ⟨rfl,rfl⟩,.inl ⟨rfl,rfl⟩,zD _,zD _,.inl ⟨rfl,lO⟩⟩
 ·exact⟨_,_,_, [], [],P3.nil false false,.inl ⟨rfl,rfl⟩,.inl ⟨rfl,rfl⟩,zD _,zD _,.inr lO.symm⟩
 ·exact⟨s,L,K',lw,kw,hl,hL,hK,by rw[V4,V4];lia,by rw[V4,V4];lia,.inr rfl⟩
abbrev moD:D:=.tup [.tup [],.tup [.str ("of" :Str),.tup [.str ("a" :Str)]],.tup [],.non,.non]
theorem oW(n:Nat):Ns (n+1) moD [[34,97,34]]:=⟨by decide,.inr (.inr ⟨(λz=>by cases z),⟨[],true, [("a" :Str)],false,false⟩,.non,.non, [], [],⟨⟨λ_ h=>(nomatch h),List.Pairwise.nil⟩,λ_ h=>(nomatch h),zD _,XZ ..,λz hz=>by rw[zr.mp hz];exact⟨by decide,by decide⟩,by decide⟩,rfl,.inl ⟨rfl,rfl⟩,.inl ⟨rfl,rfl⟩,rfl⟩)⟩
section
variable{r a p:Nat}{G G0:DH}{fs:List (D×List (List Nat))}{F:List Fld}{w:Int}{x:D}{n:Nat}
theorem oV{v:Option D}{y A L K':D}(ea:G[a]? =some (.lst (fs.map (·.1))))(hl:fs.length<=16)(hf:∀f∈fs,Ns n f.1 f.2)(hx:Ns n x ws)(hL:LwS (Ns n) L lw)(hw:wt lw<=wt ws):Wp (wiL [sRf r,some (.int w),some x,sRf a,y,v,some A,some L,some K']) G λfl G'=>G'=G/\∃L lw,fl= .nx [sRf r,some (.int w),some x,sRf a,y,v,some A,some L,some K']/\LwS (Ns n) L lw/\wt lw<=wt ws+fwL fs+84:=by refine S9<| o8<| bin_w<| b8 (a:=.int w) (G':=G) rfl<| b8 (a:=.int 2) (G':=G) rfl<| pL.mpr ⟨_,rfl,λ_=>?_,λ_=>o6.mpr ⟨rfl,L,lw,rfl,hL,by lia⟩⟩;obtain⟨lw2,h1,h2⟩:=KO fs (by lia) hf hx;exact u6<| V3.mpr<| m6<| S3 (as:= [.ref a]) rfl<| (bB ea).mpr<| m6<| b8 (a:=x) (G':=G) rfl<| t7.mpr ⟨sz,rfl,_,lw2,rfl,h1,by lia⟩
theorem Ch{v b:Option D}{A L K':D}(ep:G[p]? =some (.dct (pK F)))(hl:F.length<=16)(ok:FOk (FP (n+1)) F)(hK:RwS (Ns (n+1)) K' kw)(hw:wt kw<=c):Wp (wiR [sRf r,some (.int w),some x,b,sRf p,v,some A,some L,some K']) G λfl G'=>∃K' kw,fl= .nx [sRf r,some (.int w),some x,b,sRf p,v,some A,some L,some K']/\RwS (Ns (n+1)) K' kw/\wt kw<=c+fw F+800:=by refine S9<| o8<| bin_w<| b8 (a:=.int w) (G':=G) rfl<| b8 (a:=.int 1) (G':=G) rfl<| pL.mpr ⟨_,rfl,λ_=>?_,λ_=>o6.mpr ⟨K',kw,rfl,hK,by lia⟩⟩;refine u6<| V3.mpr<| m6<| x5<| m6<| cN (a:=4) ok ep (by lia) rfl λF' G1 pm a1 e1=>t7.mpr<| (bB e1).mpr ?_;obtain⟨lw2,h1,h2⟩:=uO F' (by rw[<-pm.length_eq];lia) (λf hf=>ok.al f (pm.mem_iff.mpr hf)) (oW n);rw[<-dM pm,<-pm.length_eq]at h2;have m7:wt [[34,97,34]]=7:=rfl;exact b8 (a:= [moD]) (G':=G1) rfl ⟨sz,_,lw2,rfl,h1,by lia⟩
end
theorem iY{r:Nat}{G:DH}(h:Dr G r)(hc:cnt G r<=240):Wp (GD [.ref r]) G λx _=>∃ws,Ns 12 x ws:=by
 refine v7 (show Wp (oD [sRf r,none,none,none,none,none,none,none,none]) G _ from ?_);rw[Mf];refine f9.mpr<| u6<| j7 (as:= [.ref r,.int 4]) rfl rfl<| T3 h (by decide) λw w0 w1 G1 f1=>?_;have c1:=f1.c;refine f9.mpr<| S9<| o8<| bin_w<| b8 (a:=.int w) (G':=G1) rfl<| b8 (a:=.int 0) (G':=G1) rfl<| O7.mpr ⟨_,rfl,λ_=>t8<| j7 (as:= [.ref r,.int 12]) rfl rfl<| (qE 12 14 (by decide) (by decide) (by decide) G1 r 12 rfl f1.2.2 (by lia)).mono λx G' ⟨ws,hx,_⟩=>o4 ⟨ws,hx⟩,λ_=>o6.mpr ?_⟩;refine f9.mpr<| u6<| j7 (as:= [.ref r,.int 11]) rfl rfl<| (qE 11 14 (by decide) (by decide) (by decide) G1 r 11 rfl f1.2.2 (by lia)).mono ?_;rintro x G2 ⟨ws,hx,f2,b2⟩;have c2:=f2.c;have hr:=f2.2.2.lt;refine K4 (X1:= [sRf r,some (.int w),some x,some (.ref G2.length),none,none,none,none,none]) (G':=G2++[.lst []]) rfl ?_;refine K4 (X1:=wiS r w x G2.length (G2.length+1) none) (G':=G2++[.lst []]++[.dct []]) (by
  have:(G2++[DO.lst []]).length=G2.length+1:=by simp
  rw[<-this];rfl) ?_
 have dr:Dr (G2++[.lst []]++[.dct []]) r:=f2.2.2.app.app;have e1:(G2++[DO.lst []]++[.dct []])[G2.length]? =some (.lst []):=Q4 g8;have e2:(G2++[DO.lst []]++[.dct []])[G2.length+1]? =some (.dct []):=by rw[show G2.length+1= (G2++[DO.lst []]).length by simp];exact g8
 have e3:cnt (G2++[.lst []]++[.dct []]) r=cnt G2 r:=by rw[jh];exact W5 (zh hr)
 generalize (G2++[DO.lst []]++[.dct []])=G3 at dr e1 e2 e3 ⊢;have st:Wi r G2.length (G2.length+1) G3 [] [] G3:=⟨e1,e2,λ_ h=>(nomatch h),⟨yH,λ_ h=>(nomatch h)⟩,dr,⟨zf _,λ_ _ _ _ _=>rfl⟩,by show 0+0+_<=_;lia,by decide,zf _⟩;refine f9.mpr<| EL (n:=241)<| (oZ (by lia) (by lia) (by lia) (by lia) 240 [] [] none G3 st (by lia)).mono ?_;rintro _ G4 ⟨fs,F,v,rfl,h4⟩;have l4:=h4.l;have w4:=h4.w;obtain⟨s,L,K',lw,kw,hl,hL,hK,wl,wk,hp⟩:=hx.parts;refine K4 (X1:= [sRf r,some (.int w),some x,some (.ref G2.length),some (.ref (G2.length+1)),v,some x,none,none]) (G':=G4) rfl ?_;have pp:wiP [sRf r,some (.int w),some x,some (.ref G2.length),some (.ref (G2.length+1)),v,some x,none,none] G4=some (.ok (.nx [sRf r,some (.int w),some x,some (.ref G2.length),some (.ref (G2.length+1)),v,some (X3 s L K'),none,none]),G4):=by
  rcases hp with⟨rfl,e⟩|rfl
  ·rw[e];rfl
  ·rfl
 refine K4 pp ?_;refine K4 (X1:= [sRf r,some (.int w),some x,some (.ref G2.length),some (.ref (G2.length+1)),v,some (X3 s L K'),some L,none]) (G':=G4) rfl ?_;refine K4 (X1:= [sRf r,some (.int w),some x,some (.ref G2.length),some (.ref (G2.length+1)),v,some (X3 s L K'),some L,some K']) (G':=G4) rfl ?_;refine f9.mpr<| (oV (n:=11) h4.ea (by lia) h4.hf hx (hL.mono λ_ _=>Ns.up 10) wl).mono ?_;rintro _ _ ⟨rfl,L2,lw2,rfl,hL2,wl2⟩;refine f9.mpr<| (Ch (n:=10) h4.ep (by lia) h4.ok (hK.mono λ_ _=>Ns.up 10) wk).mono ?_;rintro _ G5 ⟨K2,kw2,rfl,hK2,wk2⟩;have wf:=HN hl;have wa:wt ((A4 s).map wdL++lw2++kw2)=wt ((A4 s).map wdL)+wt lw2+wt kw2:=by rw[V4,V4]
 obtain⟨ws2,h1,h2⟩:=Ns.of hl hL2 hK2 (by lia);refine t8<| bin_w<| VF.mpr<| b8 (a:=X3 s L K') (G':=G5) rfl<| b8 (a:=none) (G':=G5) rfl<| b8 (a:=some 3) (G':=G5) rfl<| iT.mpr<| b8 (a:=.tup [L2,K2]) (G':=G5) rfl<| (FT sz2).mpr<| o4 ⟨ws2,h1⟩
theorem aV{n:Nat}{G:DH}{Q:DPP}(h:Ns n x ws)(hn:n<=14)(q:∀G',Q (.str (ofL (Z4 cOr ws))) G'):Wp (SE [x]) G Q:=by have hs:=h.sz;unfold wt at hs;refine v7 (show Wp (oI [some x]) G _ from ?_);refine t8<| X5.mpr<| b8 (a:=.str (" or " :Str)) (G':=G) rfl<| r9.mpr<| m6<| j7 (as:= [x]) rfl rfl<| kK n 14 hn x ws h G _ λr G1 a1 e1=>t7.mpr<| i9 e1 (by rw[jE];show _+_*4<=_;lia) ?_;rw[jE];exact o4 (q G1)
theorem uW(ns:List Int)(hn:ns.length<=63):Wp (RF [.ref 0]) [.rol (ns.map D.int)] λd _=>d= .bl true:=by have e0:([.rol (ns.map D.int)]:DH)[0]? =some (.rol (ns.map D.int)):=rfl;generalize ([.rol (ns.map D.int)]:DH)=G at e0;refine v7 (show Wp (sG [sRf 0,none,none]) G _ from ?_);refine f9.mpr<| u6<| x5<| m6<| j7 (as:= [.ref 0]) rfl rfl<| (RT e0 hn).mono ?_;rintro _ G1 ⟨r,rfl,h1,hc⟩;refine t7.mpr<| uB.mpr ⟨rfl,(iY h1 hc).mono ?_⟩;rintro x G2 ⟨ws,hx⟩;refine f9.mpr<| u6<| j7 (as:= [x]) rfl rfl<| aV hx (by decide) λG3=>?_;have sh:Wp (rE [x,.bl false]) G3 λy G'=>y= .str (ofL (Z4 cOr ws)):=SD (k:=false) (KN 12 14 (by decide) x ws hx) hx.ne hx.sz λ_ _=>rfl;refine t8<| BY.mpr<| b8 (a:=.bl true) (G':=G3) rfl<| b8 (a:=true) (G':=G3) rfl ?_;rw[if_pos rfl];refine bin_w<| b8 (a:=.str (ofL (Z4 cOr ws))) (G':=G3) rfl<| j7 (as:= [x,.bl false]) rfl rfl<| sh.mono ?_;rintro _ G4 rfl;exact pN.mpr (o4 (congrArg D.bl (beq_self_eq_true _)))
theorem pure_law:∀ns:List Int,ns.length<=63->∃G',RF [.ref 0] [.rol (ns.map D.int)]=some (.ok (.bl true),G'):=λns hn=>by obtain⟨d,G',e,rfl⟩:=uW ns hn;exact⟨G',e⟩
end W
namespace PySem.W.Fast
def tw18174146272214766402:=()
def tw16928229153316911591:=()
def tw18143545841084325165:=()
def tw16974890468130779608:=()
def tw2323217015879012800:=()
def tw6924816912737424311:=()
def tw1376548021556093006:=()
def tw10932758149884141836:=()
def tw538079613788109355:=()
def tw1063133238667967333:=()
def tw2612417505662377349:=()
def tw8329926139669761662:=()
def tw5671322995290101333:=()
def tw16754200009400077911:=()
def tw2938557602909013264:=()
def tw6981394190426094167:=()
def tw4807634140511062124:=()
def tw10949930921887704076:=()
def tw8590600070993602371:=()
def tw1394186472722797623:=()
def tw17764395012638535758:=()
def tw1753549251004863794:=()
def tw2733698268080381537:=()
def tw3479746888426532652:=()
def tw15215148414178518488:=()
def tw17847538209415710125:=()
def tw14466271196218650749:=()
def tw10407702091094646337:=()
def tw10534186524831828317:=()
def tw5013086072760088514:=()
def tw12131525994635289798:=()
def tw3341651606995111227:=()
def tw11467601420553513347:=()
def tw425604907388725611:=()
def tw8939902474393833988:=()
def tw12688052590119680942:=()
def tw9636064520990393865:=()
def tw8290651380510904044:=()
def tw11757818834488733914:=()
def tw6475560272537928724:=()
def tw12356718093689468787:=()
def tw9087735233069413302:=()
def tw14282050796830565217:=()
def tw12321790345151782385:=()
def tw8461415109653814963:=()
def tw11516027558829535444:=()
def tw6457130236473402796:=()
def tw14470874218611843954:=()
def tw15827186886443337369:=()
def tw8884342560790761333:=()
def tw12903182687925042481:=()
def tw11759389435521347794:=()
def tw5091834637971648207:=()
def tw8378330260912033686:=()
def tw8033807439330927625:=()
def tw4766021389823595176:=()
def tw9140775284161210961:=()
def tw4844169755625948119:=()
def tw1937031236924019372:=()
def tw3304314361072375896:=()
def tw15959852500012575318:=()
def tw13606910501974060151:=()
def tw4225898586484285615:=()
def tw6895181179296449626:=()
def tw13246158740840862174:=()
def tw1919847236400787841:=()
def tw18112584597606945409:=()
def tw15662847661827780150:=()
def tw8108345010487790007:=()
def tw15596275078432890231:=()
def tw11223900371754032239:=()
def tw5026555748263404265:=()
def tw16207125661099608494:=()
def tw8755006361262905141:=()
def tw9041772882995166390:=()
def tw11410692965540473983:=()
def tw11235993452974818379:=()
def tw8881590409388874538:=()
def tw7181815918268183052:=()
def tw13456930532554233188:=()
def tw9616573693143178654:=()
def tw14825199348439094259:=()
def tw10540846626320003877:=()
def tw8466451969971594550:=()
def tw13265754456941968411:=()
def tw8798629273920726544:=()
def tw10767813107727401081:=()
def tw9181497374594817768:=()
def tw14675136567269103482:=()
def tw9112604116045786618:=()
def tw13638000540137273271:=()
def tw14643542848042353485:=()
def tw17651259466592845527:=()
def tw12690130732899746700:=()
def tw15016616753311474949:=()
def tw7111055591791244431:=()
def tw784485045560472939:=()
def tw7720410834790817755:=()
def tw16309587174011831506:=()
def tw8278511650031082559:=()
def tw4506229612117272364:=()
def tw16662962346860514485:=()
def tw10503218244123245920:=()
def tw6779018517844073370:=()
def tw16495664942719967826:=()
def tw886125149413681141:=()
def tw2481545287794537742:=()
def tw6689295835980600230:=()
def tw4387900532690423936:=()
def tw12952619631333059567:=()
def tw10323268244772896202:=()
def tw3724883435871252216:=()
def tw5770032138540286468:=()
def tw8200938558922818722:=()
def tw5820489715673592711:=()
def tw7348197634184086282:=()
def tw16355419076657772507:=()
def tw12495776621695309809:=()
def tw11462009594855005568:=()
def tw12513439143250695388:=()
def tw268540075103378415:=()
def tw10753928022402187893:=()
def tw12836668843349655250:=()
def tw1241956836864007342:=()
def tw8968682901994524562:=()
def tw127766272144440240:=()
def tw8309617318904122222:=()
def tw11102468003861492373:=()
def tw13562447360816445239:=()
def tw4962116070870310518:=()
def tw16463284099568432473:=()
def tw10309614451123087498:=()
def tw7248471572243379954:=()
def tw2675486964425981337:=()
def tw14419023999673851898:=()
def tw2221708291295232203:=()
def tw15689658627675607089:=()
def tw10942315453677992974:=()
def tw631799704543267138:=()
def tw298601884776563229:=()
end PySem.W.Fast
local macro_rules | `(tactic| walk_at "fh") => `(tactic| first | exact trivial | (refine DL.FHs.c ?q ?b; (case q => refine' DL.FH.of ?a ?l ?e ?k; (case a => k_is); (case l => k_is); (case e => k_is); (case k => k_is)); (case b => walk_at "fh")))
local macro_rules | `(tactic| walk_at "cr") => `(tactic| first | exact DL.cr_str | exact DL.cr_int | exact DL.cr_bl | exact DL.cr_non | (refine' DL.cr_tup ?l ?z ?h; (case l => k_is); (case z => rfl); (case h => walk_at "cs")))
local macro_rules | `(tactic| walk_at "cs") => `(tactic| first | exact DL.crl_nil | (refine' DL.crl_cons ?a ?b; (case a => walk_at "cr"); (case b => walk_at "cs")))
set_option maxRecDepth 100000 in
set_option maxHeartbeats 0 in
theorem PySem.Challenge.cw_allmeet_k42_lists_and_records_in_words_holds : PySem.Challenge.rw_allmeet_k42_lists_and_records_in_words.Holds := by
 w_on;o_law;k_head;(case hw=>w_witness2)
 k_fill
 refine DL.walk63 (l := PySem.Challenge.rw_allmeet_k42_lists_and_records_in_words) 67 rfl rfl ⟨rfl, by decide, by decide, rfl⟩ (fun w h Y => PySem.W.kIn_of Y) ?F
 case F=>
  intro w mg fa h KX G hmg;refine' W.all_mk KX G hmg ?Y0 ?Y25 ?_ ?_ ?z W.pure_law
  (case z=>intro b hb;simp only[DL.bltL,zI,jR,or_false]at hb;rcases hb with rfl|rfl|rfl|rfl|rfl|rfl|rfl|rfl|rfl|rfl|rfl|rfl|rfl|rfl|rfl|rfl|rfl|rfl|rfl|rfl<;>k_is)
  (case Y0=>walk_at "fh")
  (case Y25=>walk_at "fh")
  all_goals (refine' DL.CC.of ?g ?r;(case g=>k_is);(case r=>walk_at "cr"))
