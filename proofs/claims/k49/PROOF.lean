import PyProof.Rows.All
import Wide.All
import OpenK.AllK
import Wide.FinOn
import Lean
import PyProof.EqAt
import PyProof.EqKinds
import PyProof.TupleCall
import PyProof.NeKinds
import PyProof.ZipIter
import PyProof.EnumFor
import PyProof.EnumMake
import PyProof.EnumStmt
import PyProof.Draws
import KE.KDictSum
import PyProof.Rows.SortStr
import PyProof.StrWalks
import KE.KRevIter
import KE.KDictList
import PyProof.CollectIter
import PyProof.SliceStr2
import PyProof.StrBlockI
import KE.KListMore
import PyProof.DictWalks
import PyProof.TupleOfSeq
import PyProof.AttrMissHeap
import PyProof.AttrMissSeq
import KE.KDictOf
import PyProof.WalksMore
import KE.KSortTup
import KE.KSortKey
import PyProof.Rows.StrJoin2
import PyProof.ListMulRoad
import PyProof.FactsAll.tuple_2
import PyProof.Rows.SortShell
import PyProof.WalkInts
import KE.KMinBuiltin
import KE.KIntText
import PyProof.CallStr
import PyProof.PureStr
import PyProof.Rows.SetFrom
import KE.KMinKey
import PyProof.DictItems
import PyProof.DictItemsLoops
import PyProof.ReprRoads
import PyProof.WalksS
import PyProof.MeetsSeq2
import KE.KItemsList
import PyProof.TupleKey
import PyProof.IsRules
import PySem.Challenge.RW_allmeet_k49_what_is_a_telling
set_option Elab.async false
set_option linter.all false
set_option maxRecDepth 100000
open PySem renaming wpAny_bind→za,wpAny_pure→zf,sizeLine→zj,Value→zm,wpAny→zt,Shared→zA,model→zI,Program→zU,starEach→ja,compareOp→jf,World→jg,wpAny_holding→jk,wpAny_call_entry→jn,bootBuiltins→jp,Around→js,wpAny_callSpecial?_slot→ju,wpAny_setState_of→jw,mainGlobals→jG,wpAny_loadPart'→jI,wpAny_field→jS,tupleKeyHash→jX,IsPair→yd,wpAny_setField_rec→ye,wpAny_seqItems→yf,wpAny_mono→yg,IsTupleKey→yi,wpAny_ite_split→yk,codeAny_builtin→ym,rawInt→yA,Builtin→yC,binaryOp→yG,wpAny_Call_Name_kw→yO,wpAny_newObj_type→yV,pyNext→yW,plainId_quiet→xc,mem_of_lookup→xn,foldedSetIterable→xo,cLine→xF,sysModules→xH,assignEach→xI,wpAny_newList→xL,wpAny_attempt→xM,wpAny_rule→xT,sizeLine_eq→xU,backTo→xV,FuncData→xW,codeAny→xZ,wpAny_updateSeq→Zh,letOwnedTupleGo→Zi,wpAny_typeOf→Zy,wpAny_truthy_bool→Zz,wpAny_eqBool_int→ZB,builtinLookup_eq_fast→ZL,IsZip→ZN,wpAny_isInstance→ZR,attributeBase→ZY,strIterType→Ya,sliceBounds→Yb,hashByValue→Yc,holding→Yq,codeAny_mono→Yr,scanBound→YA,pickOrder→YB,wpAny_newTuple→YD,wpAny_storeSet_of→YT,wpAny_pyIter_list→YU,ofAClassStatement→YV,fits_of_scanBound→YW,wpAny_askSetting→Xl,assign→Xs,BindsTo→Xt,wpAny_specialOf→Xw,wpAny_execs_nil→Xx,typeLookup_type→Xy,wpAny_updateSeq_pair→XL,relayAll→XM,keywordEach→XO,isSubtype_stop→XQ,field→XR,updateSeq→XT,setNext→XU,callerA→XV,wpAny_onRaise→Jb,setSearchFrom→Jc,behindInMarks→Jd,MulOk→Jg,tupleKind_room_in1→Jm,setEntries→Jn,pyIter→Jo,wpAny_collect_seq→JA,setAddHashed→JB,getItem→JD,wpAny_pyIter_zip→JT,wpAny_forIn_list→JU,tupleKind→JV,noFill_tuple_add→JW
open PySem.Heap renaming get?_push_of_some→zc,get?_push_size→zu,lt_size→zC,size_push→jN,get?_update_other→jO,get?_update_self→jT,SameBut→jZ,get?_update_ne→ZV,get?_push_ne→Yt,size_update→YH,ExtBut→Jp
open List renaming length_map→zd,mem_cons_of_mem→ze,mem_cons_self→zg,mem_singleton→zi,mem_map→zk,mem_cons→zn,size_toArray→zr,length_append→zv,mem_append→zB,getElem?_eq_getElem→zD,getElem?_append_left→zE,not_mem_nil→zF,all_eq_true→zH,getElem?_cons_zero→zJ,getD_eq_getElem?_getD→zK,length_cons→zM,range→zP,mem_append_right→zS,map_cons→zT,length_range→zV,getElem?_set_self→zX,map_append→jh,getElem?_cons_succ→ji,getElem?_map→jl,all_cons→jm,pairwise_map→jv,replicate→jx,mem_range→jy,mem_of_getElem?→jz,getElem?_set_ne→jA,getElem?_eq_none→jC,map_map→jF,mergeSort_perm→jL,mem_append_left→jP,length_take→jW,toArray→ya,map_congr_left→yo,length_singleton→yq,length_nil→yE,zip_cons_cons→yH,set_cons_zero→yI,set_cons_succ→yJ,pairwise_cons→yK,nodup_cons→yQ,dropLast_concat_getLast→yR,lookup_cons→yY,nodup_nil→xa,getElem?_append_right→xb,getElem?_zip_eq_some→xg,getElem?_eq_some_iff→xh,foldl_cons→xi,all_nil→xj,pairwise_mergeSort→xq,length_drop→xr,take_of_length_le→xv,of_mem_zip→xB,find?_cons→xC,any_cons→xD,mem_iff_getElem→xN,map_nil→xP,ext_getElem→xQ,pairwise_iff_getElem→xS,length_zip→Za,forIn_cons→Zb,append_nil→Zc,all_append→Zd,mem_filterMap→Ze,length→Zf,range_succ_eq_map→Zl,all_map→Zm,take_append_drop→Zu,cons_lt_cons_iff→Zv,pairwise_append→ZI,mem_of_mem_drop→ZJ,instMembership→ZW,filterMap_cons→ZX,forIn_nil→Yl,filterMap_map→Ym,drop_eq_getElem_cons→Yp,nodup_append→Yy,append_assoc→Yz,prefix_refl→YK,getElem_mem→YL,append_inj'→YM,range_succ→Xf,mem_iff_getElem?→Xj,getElem?_toArray→Xk,mem_of_mem_take→Xp,map→Xq,lt_irrefl→Xr,getElem?_drop→XJ,getElem?_set→XX,eraseIdx_eq_take_drop_succ→XZ,eraseIdxIfInBounds_toArray→Ja,nodup_range→Jj,getElem_inj→Jk,any_eq_true→Jl,map_id→Js,mem_filter→Jw,length_set→Jx,perm_append_singleton→JP,filterMap→JQ
open Nat renaming le_refl→zh,le_trans→zq,lt_of_lt_of_le→zL,zero_le→zO,ne_of_lt→zQ,le_of_ble_eq_true→jt,le_of_lt→yj,lt_succ_of_lt→yp,le_add_right→yx,lt_irrefl→yD,not_lt_zero→yT,le_succ→yX,lt_succ_self→yZ,le_of_eq→xl,mod_lt→xy,ne_of_gt→Zr,lt_or_ge→Ye,lt_or_eq_of_le→Yo,succ_le_succ→YQ,lt_trans→Xe,sub_succ_lt_self→Xv,le_max_right→Jr,min_le_left→JG,le_max_left→JH
open PySem.W renaming Frag→zo,keepIn→yL,fnOf→yS,kas_sort→Zp,kas_ask→ZC,nsIn→ZK,findIn→ZS,codeIn→ZU,kat_cons→Ys,kat_yes→YF,KatTups→YG,kat_no→Xa,kat_go→Xb,mg_of→Xo,methodObj→XB,cellsFrom_some→JX
open Bool renaming false_eq_true→zw,and_eq_true→zy,false_ne_true→zZ,true_and→jD,and_false→jH,and_true→yr,false_and→yN,eq_false_iff→yP,not_true→xE,not_false→Zn,not_eq_true'→Zo,or_eq_true→ZP,eq_iff_iff→Jz,and_assoc→JS
open Array renaming length_toList→zG,getElem?_toList→zN,getElem?_eq_getElem→zW,getD_eq_getD_getElem?→jE,getElem?_eq_some_iff→yB,toList_inj→Zx,toArray_toList→ZH,toList_append→ZQ,perm_iff_toList_perm→Yh,forIn_toList→Yi,getElem?_eq_none→YR,getD→YS,getElem?_setIfInBounds→Jt
open Option.some renaming injEq→zR,inj→jd
open PySem.Builtin.SmallTypes renaming nextOf→zY,ownedTupleIsFree→jr,ownedTupleHandOut→Yk
open PySem.SetTable renaming bits→jb,below→jc,leap→jo,runEnd→jB,insertAt→jU,turns→yn,grown→yy,sizeAbove→ZM,laid→Xm,fresh→Jf,fits→Ju,fill→Jv,has→JI
open PySem.Obj renaming mapSeq→je,putSet→xx
open PySem.SetTable.layClean renaming free→jq
open Classical renaming byContradiction→jJ,choose→XG,propDecidable→Jy
open PySem.Txt renaming slice→jK
open PySem.Around renaming under_plainId→jM
open PyProof.Rows renaming seqObj→jQ,slot_tuple_getitem→jV,callWith_type1→yM,entry_list_sort→Zj,kindOf→Zq,slot_list_sort→ZE,args_list_sort→ZG,listUpdate_at→ZZ,plain_sorted→Yv,entry_sorted→Yw,args_sorted1→Yx,seqEpoch_at→YX,kind_sorted→YY,Keyed→YZ,envOfC→Xd,arrOf→Xn,subscriptTail_builtinR→Xu,get?_update_seq→Xz,sortedHeap_old→XS,AllBare→XW,sortedHeap_at→Ji,keyKind_strs→JF
open Int renaming toNat_natCast→jR,eq_ofNat_of_zero_le→yb,emod_nonneg→yt,emod_lt_of_pos→xz,le_trans→Xg
open PySem.Builtin.List renaming listExtendWith→jY,listSameRef→xK,listLengthHint→Zs,listTooLong→ZO,listItems→Jh
open PySem.Heap.SameBut renaming update→yc
open PySem.Str renaming ofString→yh
open List.cons renaming inj→yw,injEq→Zw
open PySem.Calls renaming call_function_entry→yF,spliced_cons→xt,spliced_nil→xG,Name_function_global→JE
open PyProof.Rows.F renaming plain_set_update_loop→yU,entry_set_update_loop→Zk
open PySem.F renaming plain_extend_loop→xf,slot_zip_next→xm,slot_tuple_iterator_next→xR,called_set→xX,slot_list_pop→Yj,args_tuple_add_2→Yn,entry_tuple_add→Yu,slot_tuple_add→YE,args_zip_next_1→YI,entry_zip_next→Xc,plain_list_iadd→JM,plainAttrs_list→JN
open PySem.SeqAt renaming EqAt→xk,RcNeAt→YN,RcAt→XD
open PySem.SetTable.below renaming go→xp
open False renaming elim→xu
open PySem.Paired renaming length→xw
open PySem.Builtin.Slice renaming slicePlaces→xA,sliceAdjust→ZD,sliceApplied→XF
open PySem.Builtin.Tuple renaming tupleExact→xJ,tupleItemsOf→XE
open PySem.SetTable.probe renaming go→xO
open Prod.mk renaming inj→xY
open Option renaming map_eq_some_iff→Zg,map_some→YO,isSome_map→XI,isSome_iff_exists→JO
open PySem.Builtin.Str renaming strSliceIndices→Zt,occurrences→Yd
open List.Perm renaming eq_of_pairwise→Yf
open Function renaming comp_def→Yg
open LawfulBEq renaming eq_of_beq→YC
open Membership renaming mem→YJ
open PySem.SeqAt.EqAt renaming str_int→Xh,int_str→Xi,same→XH,none_bool→JJ,bool_none→JK,bool_bool→JL,str_none→JY,str_bool→JZ
open Nat.succ renaming inj→XA
open PySem.W.KatTups renaming cons→XY
open PySem.W.Looks renaming of_pure→Je
open PyProof.Rows.StrsAre renaming length→Jq
open PySem.pickOrder renaming go→JC
open List.Pairwise renaming and→JR
noncomputable section
abbrev VSP:=zm->zA->Prop
abbrev PNS:=List (PySem.Addr×PySem.Obj)
namespace L2
open PySem PySem.Spec PyProof.Rows
def v8{a:α}{P:Prop}(h:none=some a):P:=nomatch h
def tK{a:α}{P:Prop}(h:some a=none):P:=nomatch h
def B7{P:Prop}(h:false=true):P:=nomatch h
def WD{a:α}{l:List α}{P:Prop}(h: []=a::l):P:=nomatch h
def lG{a:α}{l:List α}{P:Prop}(h:a::l= []):P:=nomatch h
abbrev Key:=Sum Int Str
def iB:Key->zm->Bool
| .inl k,v=>Value.isInt k v
| .inr x,v=>Value.isStrOf x v
def Wx(w:jg):Key->Int
| .inl k=>hashInt k
| .inr x=>hashStr w x
def M6:∀ {k} {v},iB k v=true->(∃i t,k=Sum.inl i/\v=Value.int i t)\/(∃x t,k=Sum.inr x/\v=Value.str x t)
| .inl i,v,h=>by obtain⟨t,e⟩:=Value.isInt_shape (k:=i) (v:=v) h;exact .inl ⟨i,t,rfl,e⟩
| .inr x,v,h=>by obtain⟨t,e⟩:=Value.isStrOf_shape (x:=x) (v:=v) h;exact .inr ⟨x,t,rfl,e⟩
def Gi(i:Int)(t:Tok):iB (.inl i) (.int i t)=true:=by simp[iB,Value.isInt]
def GZ(x:Str)(t:Tok):iB (.inr x) (.str x t)=true:=by simp[iB,Value.isStrOf]
def Lp(a b:Int):decide ((Sum.inl a:Key)=Sum.inl b)= (a==b):=by
 by_cases e:a=b
 ·subst e;simp
 ·have h:¬(Sum.inl a:Key)=Sum.inl b:=λq=>e (Sum.inl.inj q);rw[decide_eq_false h];exact(beq_eq_false_iff_ne.mpr e).symm
def Bg(a b:Str):decide ((Sum.inr a:Key)=Sum.inr b)=decide (a=b):=by
 by_cases e:a=b
 ·subst e;simp
 ·have h:¬(Sum.inr a:Key)=Sum.inr b:=λq=>e (Sum.inr.inj q);rw[decide_eq_false h,decide_eq_false e]
def lu(a:Int)(b:Str):decide ((Sum.inl a:Key)=Sum.inr b)=false:=decide_eq_false (λq=>nomatch q)
def vt(a:Str)(b:Int):decide ((Sum.inr a:Key)=Sum.inl b)=false:=decide_eq_false (λq=>nomatch q)
def N8(prog:zU)(w:jg):PySem.KeyKind prog w Key where
 is:=iB
 hash:=Wx w
 inj:=λv a b ha hb=>by
  rcases M6 ha with⟨i,t,rfl,rfl⟩|⟨x,t,rfl,rfl⟩
  ·rcases M6 hb with⟨j,u,rfl,e⟩|⟨y,u,rfl,e⟩
   ·injection e with e1 _;rw[e1]
   ·exact nomatch e
  ·rcases M6 hb with⟨j,u,rfl,e⟩|⟨y,u,rfl,e⟩
   ·exact nomatch e
   ·injection e with e1 _;rw[e1]
 byValue:=λk v h=>by rcases M6 h with⟨i,t,rfl,rfl⟩|⟨x,t,rfl,rfl⟩<;>rfl
 pyHash:=λhv h=>by
  rcases M6 hv with⟨i,t,rfl,rfl⟩|⟨x,t,rfl,rfl⟩
  ·exact wpAny_pyHash_int h
  ·exact wpAny_pyHash_str h
 eqBool:=λhu hv h=>by
  rcases M6 hu with⟨i,t,rfl,rfl⟩|⟨x,t,rfl,rfl⟩
  ·rcases M6 hv with⟨j,u,rfl,rfl⟩|⟨y,u,rfl,rfl⟩
   ·rw[Lp]at h;exact ZB h
   ·rw[lu]at h;exact Xi i t y u _ _ _ _ h
  ·rcases M6 hv with⟨j,u,rfl,rfl⟩|⟨y,u,rfl,rfl⟩
   ·rw[vt]at h;exact Xh x t j u _ _ _ _ h
   ·rw[Bg]at h;exact wpAny_eqBool_str h
 «strs»:=λk x t v h=>by
  rcases M6 h with⟨i,u,rfl,e⟩|⟨y,u,rfl,e⟩
  ·exact nomatch e
  ·injection e with e1 _;subst e1
   cases v<;>rfl
def mQ(prog:zU)(w:jg)(i:Int)(t:Tok):(N8 prog w).is (.inl i) (.int i t)=true:=Gi i t
def NV(prog:zU)(w:jg)(x:Str)(t:Tok):(N8 prog w).is (.inr x) (.str x t)=true:=GZ x t
inductive V where
 |non|bl (b:Bool)|int (i:Int)|str (x:Str)|byt (b:Array UInt8)|flt (b:UInt64)|ref (a:Addr)|ty (n:String)
 deriving DecidableEq
def J1:V->zm->Prop
| .non,u=>u=Value.none
| .bl b,u=>u=Value.bool b
| .int i,u=>∃t,u=Value.int i t
| .str x,u=>∃t,u=Value.str x t
| .byt b,u=>∃t,u=Value.bytes b t
| .flt b,u=>∃t,u=Value.float b t
| .ref a,u=>u=Value.ref a
| .ty n,u=>u=Value.type n
abbrev u6:List V->List zm->Prop:=Paired J1
def u6.length(r:u6 xs us):xs.length=us.length:=xw r
theorem u6.get:∀ {xs} {us} {i:Nat} {x:V},u6 xs us->xs[i]? =some x->∃u,us[i]? =some u/\J1 x u
|_,_,_,_,.nil,e=>by simp at e
|_,_,0,_,.cons r _,e=>by simp at e;subst e;exact⟨_,rfl,r⟩
|_,_,i+1,x,.cons _ t,e=>by obtain⟨u,h1,h2⟩:=u6.get (i:=i) (x:=x) t (by simpa using e);exact⟨u,by simpa using h1,h2⟩
def u6.set(r:J1 x u):∀ {xs} {us} i,u6 xs us->u6 (xs.set i x) (us.set i u)
|_,_,_,.nil=>.nil
|_,_,0,.cons _ t=>.cons r t
|_,_,i+1,.cons q t=>.cons q (u6.set r i t)
def u6.append(h:u6 xs us)(k:u6 ys ws):u6 (xs++ys) (us++ws):=by
 induction h with
 |nil=>exact k
 |cons r t ih=>exact .cons r ih
def u6.take:∀ {xs} {us} n,u6 xs us->u6 (xs.take n) (us.take n)
|_,_,0,_=>.nil
|_,_,_+1,.nil=>.nil
|_,_,n+1,.cons r t=>.cons r (u6.take n t)
def u6.drop:∀ {xs} {us} n,u6 xs us->u6 (xs.drop n) (us.drop n)
|_,_,0,r=>r
|_,_,_+1,.nil=>.nil
|_,_,n+1,.cons _ t=>u6.drop n t
def pB:Option V->Option zm->Prop
|some v,some u=>J1 v u
|none,none=>True
|_,_=>False
def KV{κ:Type}:List (κ×V)->List (κ×zm)->Prop:=Paired fun(p:κ×V) (q:κ×zm)=>p.1=q.1/\J1 p.2 q.2
def kV:Key->V
| .inl i=>.int i
| .inr x=>.str x
inductive HO where
 /-- a list -/
 |lst (xs:List V)
 /-- a tuple (never changes) -/
 |tup (xs:List V)
 /-- a dict whose keys are ints and texts;one whose keys are tuples of ints and texts (the empty one is both) -/
 |dK (Ln:List (Key×V))|dT (Ln:List (List Key×V))
 /-- a set of ints:Ll members,Ll size -/
 |set (S:Int->Bool) (n:Nat)
 /-- an instance of the class at C,Ll dict at dx,Ll attributes -/
 |ins (C dx:Addr) (fs:List (Str×V))
 /-- the dict of the instance at x -/
 |own (x:Addr)
 /-- the dict of an exception -/
 |xd (fs:List (Str×V))
 /-- a bound method,f of x -/
 |met (f x:Addr)
 /-- a range object lo,lo+1,.. below hi -/
 |rng (lo hi:Int)
 /-- a thing that is known to the object (the script;a dict while a loop walks it):read,never written while it is so -/
 |frz (o:Obj) (u:HO)
 /-- a code object's table -/
 |tbl (ps:Array zm)
 /-- any other thing,by what is true of Ll one object (a def of one's own:SetO a S n:=HO.ext λh=>..) -/
 |ext (φ:Heap->Prop)
abbrev Hp:=Addr->Option HO
def upd(H:Hp)(a:Addr)(o:HO):Hp:=λb=>if b=a then some o else H b
def Q5:upd H a o a=some o:=by unfold upd;rw[if_pos rfl]
def v9(h:b≠a):upd H a o b=H b:=by unfold upd;rw[if_neg h]
def Tj{H:Hp}(h:H a=some o)(h':H b=some u)(d:o≠u):a≠b:=by intro e;subst e;rw[h]at h';exact d (jd h')
def J0{H:Hp}{o:HO}(h:H a=some o)(h':H b=none):a≠b:=by intro e;subst e;rw[h]at h';cases h'
section
variable(P:zU)(w:jg)
def P9(h:Heap)(a:Addr)(items:Array zm):Prop:=∃o,h.get? a=some o/\o.cls= .type "tuple"/\∃n,(o.data,o.dict)= (Data.seq items n,none)
def P9.tup(x:P9 h a items):IsTup h a items:=by obtain⟨o,e,c,n,d⟩:=x;exact⟨o,e,c,n,(xY d).1⟩
def P9.new(h:Heap)(items:Array zm):P9 (h.push {cls:=.type "tuple",data:=.seq items}) h.objs.size items:=⟨_,zu _ rfl,rfl,_,rfl⟩
def T9(H:Hp)(h:Heap)(a:Addr):HO->Prop
| .lst xs=>xs.length<=zj/\∃(Ll:List zm) (n:Nat),u6 xs Ll/\h.get? a=some {cls:=.type "list",data:=.seq Ll.toArray n}
| .tup xs=>xs.length<=zj/\∃Ll:List zm,u6 xs Ll/\P9 h a Ll.toArray
| .dK Ln=>Ln.length<=zj/\(a==xH)=false/\∃vs,KV Ln vs/\h.DictOf (N8 P w) a vs
| .dT Ln=>Ln.length<=zj/\(a==xH)=false/\∃xs:List (List Key×Addr×zm),
   Paired (fun(p:List Key×V) (q:List Key×Addr×zm)=>p.1=q.1/\H q.2.1=some (.tup (p.1.map kV))/\J1 p.2 q.2.2) Ln xs/\
   ∃o es ep,h.get? a=some o/\o.ExactDict/\o.data= .dict es ep/\es.toList=xs.map (entryOfKey (JV (N8 P w)))/\(xs.map (·.1)).Nodup
| .set S n=>h.SetOf (intKind P w) a S n
| .ins C dx fs=>H dx=some (.own a)/\fs.length<=1000/\dx≠a/\h.get? a=some (PySem.W.instObj C dx)/\
   ∃mA,h.Ns1 dx mA/\(∀f,pB (fs.lookup f) (mA f))/\PySem.Within mA (fs.map (·.1))
| .own _=>∃o,h.get? a=some o
| .xd fs=>∃mA,h.Ns1 a mA/\∀f,pB (fs.lookup f) (mA f)
| .rng lo hi=>∃t u v,h.get? a=some {cls:=.type "range",data:=.fields #[.int lo t,.int hi u,.int 1 v]}
| .frz o u=>h.get? a=some o/\T9 H h a u
| .tbl ps=>h.get? a=some {cls:=.none,data:=.fields ps}
| .met f x=>h.get? a=some (XB (.ref f) (.ref x))
| .ext φ=>φ h/\(∃o,h.get? a=some o)/\∀h1 h2:Heap,φ h1->(∀o,h1.get? a=some o->h2.get? a=some o)->φ h2
def HOk(H:Hp)(h:Heap):Prop:=∀a o,H a=some o->T9 P w H h a o
end
section
def T9.lt(x:T9 P w H h a o):a<h.objs.size:=by
 cases o with
 |lst xs=>obtain⟨_,_,_,_,e⟩:=x;exact zC e
 |tup xs=>obtain⟨_,_,_,p⟩:=x;exact(P9.tup p).lt
 |dK Ln=>obtain⟨_,_,_,_,o,_,_,e,_⟩:=x;exact zC e
 |dT Ln=>obtain⟨_,_,_,_,o,_,_,e,_⟩:=x;exact zC e
 |set S n=>obtain⟨o,_,_,_,e,_⟩:=x;exact zC e
 |ins C dx fs=>obtain⟨_,_,_,e,_⟩:=x;exact zC e
 |own y=>obtain⟨_,e⟩:=x;exact zC e
 |xd fs=>obtain⟨_,⟨_,_,_,e,_⟩,_⟩:=x;exact zC e
 |rng lo hi=>obtain⟨_,_,_,e⟩:=x;exact zC e
 |frz ob u=>obtain⟨e,_⟩:=x;exact zC e
 |tbl ps=>exact zC (show h.get? a=some _ from x)
 |met f y=>exact zC (show h.get? a=some _ from x)
 |ext φ=>obtain⟨_,⟨_,e⟩,_⟩:=x;exact zC e
def Paired.mapP(h:Paired F l₁ l₂)(f:∀a b,F a b->G a b):Paired G l₁ l₂:=by
 induction h with
 |nil=>exact .nil
 |cons r t ih=>exact .cons (f _ _ r) ih
def T9.stay(x:T9 P w H h a o)(k:∀b u,(b=a\/H b=some (.own a))->h.get? b=some u->h'.get? b=some u)
 (ho:∀b,H b=some (.own a)->H' b=some (.own a)) (ht:∀b xs,H b=some (.tup xs)->H' b=some (.tup xs)):T9 P w H' h' a o:=by
 induction o with
 |lst xs=>obtain⟨z,Ll,n,r,e⟩:=x;exact⟨z,Ll,n,r,k _ _ (.inl rfl) e⟩
 |tup xs=>obtain⟨z,Ll,r,ob,e,c⟩:=x;exact⟨z,Ll,r,ob,k _ _ (.inl rfl) e,c⟩
 |dK Ln=>obtain⟨z,y,vs,r,ob,es,ep,e,c⟩:=x;exact⟨z,y,vs,r,ob,es,ep,k _ _ (.inl rfl) e,c⟩
 |dT Ln=>
   obtain⟨z,y,xs,r,ob,es,ep,e,c⟩:=x;exact⟨z,y,xs,Paired.mapP r λp q z=>⟨z.1,ht _ _ z.2.1,z.2.2⟩,ob,es,ep,k _ _ (.inl rfl) e,c⟩
 |set S n=>obtain⟨ob,es,ep,t,e,c⟩:=x;exact⟨ob,es,ep,t,k _ _ (.inl rfl) e,c⟩
 |ins C dx fs=>
   obtain⟨d,z,ne,e,mA,⟨od,es,ep,e2,c⟩,r⟩:=x;exact⟨ho _ d,z,ne,k _ _ (.inl rfl) e,mA,⟨od,es,ep,k _ _ (.inr d) e2,c⟩,r⟩
 |own y=>obtain⟨ob,e⟩:=x;exact⟨ob,k _ _ (.inl rfl) e⟩
 |xd fs=>obtain⟨mA,⟨od,es,ep,e,c⟩,r⟩:=x;exact⟨mA,⟨od,es,ep,k _ _ (.inl rfl) e,c⟩,r⟩
 |rng lo hi=>obtain⟨t,u,v,e⟩:=x;exact⟨t,u,v,k _ _ (.inl rfl) e⟩
 |frz ob u ih=>obtain⟨e,q⟩:=x;exact⟨k _ _ (.inl rfl) e,ih q⟩
 |tbl ps=>
   have e:h.get? a=some {cls:=.none,data:=.fields ps}:=x;show h'.get? a=some {cls:=.none,data:=.fields ps};exact k a _ (.inl rfl) e
 |met f y=>
   have e:h.get? a=some (XB (.ref f) (.ref y)):=x;show h'.get? a=some (XB (.ref f) (.ref y));exact k a _ (.inl rfl) e
 |ext φ=>obtain⟨p,⟨o,e⟩,st⟩:=x;exact⟨st _ _ p λo q=>k _ _ (.inl rfl) q,⟨o,k _ _ (.inl rfl) e⟩,st⟩
def HOk.lt(x:HOk P w H h)(e:H a=some o):a<h.objs.size:=(x a o e).lt
def HOk.fresh(x:HOk P w H h)(e:h.objs.size<=a):H a=none:=by
 cases q:H a with
 |none=>rfl
 |some u=>exact absurd (zL (x.lt q) e) (yD _)
def HOk.kept(x:HOk P w H h)(k:∀b u,h.get? b=some u->h'.get? b=some u):HOk P w H h':=λa o e=>
 (x a o e).stay (λb u _ q=>k b u q) (λ_ q=>q) λ_ _ q=>q
def HOk.laid(x:HOk P w H h)(k:∀b u,h.get? b=some u->h'.get? b=some u)(hp:h.objs.size<=a)(new:T9 P w (upd H a o) h' a o):HOk P w (upd H a o) h':=λb u e=>by
 have hn:=x.fresh hp;by_cases hb:b=a
 ·subst hb;rw[Q5]at e;cases e;exact new
 ·rw[v9 hb]at e;exact(x b u e).stay (λc v _ q=>k c v q) (λc q=>by rw[v9 (J0 q hn)];exact q) λc xs q=>by rw[v9 (J0 q hn)];exact q
end
def Rd(H:Hp)(a:Addr)(u:HO):Prop:=H a=some u\/∃o,H a=some (.frz o u)
def Rd.ok(r:Rd H a u)(x:HOk P w H h):T9 P w H h a u:=by
 rcases r with r|⟨o,r⟩
 ·exact x a u r
 ·obtain⟨_,q⟩:=x a _ r;exact q
def Mut:Option HO->Prop
|some (.lst _)=>True
|some (.dK _)=>True
|some (.dT _)=>True
|some (.set _ _)=>True
|some (.ins _ _ _)=>True
|some (.ext _)=>True
|_=>False
section
def HOk.write(ok:HOk P w H h)(mu:Mut (H x))(he:e=x\/H e=some (.own x))(k:∀b u,b≠e->h.get? b=some u->h'.get? b=some u)(heo:∃u,h'.get? e=some u)
 (new:T9 P w (upd H x o') h' x o'):HOk P w (upd H x o') h':=λb u q=>by
 have nown:∀c y,H c=some (.own y)->c≠x:=λc y r z=>by subst z;rw[r]at mu;exact mu
 have ntup:∀c xs,H c=some (.tup xs)->c≠x:=λc xs r z=>by subst z;rw[r]at mu;exact mu
 by_cases hb:b=x
 ·subst hb;rw[Q5]at q;cases q;exact new
 ·rw[v9 hb]at q;by_cases hbe:b=e
  ·have q':H b=some (.own x):=by
    rcases he with z|z
    ·exact absurd (hbe.trans z) hb
    ·rw[hbe];exact z
   rw[q]at q';cases q';obtain⟨v,hv⟩:=heo;exact⟨v,by rw[hbe];exact hv⟩
  ·refine(ok b u q).stay (λc v hc r=>k c v ?_ r) (λc r=>by rw[v9 (nown c b r)];exact r) λc xs r=>by rw[v9 (ntup c xs r)];exact r
   rcases hc with rfl|hc
   ·exact hbe
   ·rintro rfl;rcases he with z|z
    ·exact nown c b hc z
    ·rw[hc]at z;cases z;exact hb rfl
end
structure Un(fs ex:List Addr)(H H':Hp)(h h':Heap):Prop where
 keep:∀b o,h.get? b=some o->H b=none->b∉fs->b∉ex->h'.get? b=some o
 slot:∀b o,h.get? b=some o->H b=none->b∈fs->b∉ex->∃sl,h'.get? b=some {o with slots:=sl}
 free:∀b o,h.get? b=some o->H b=none->b∉ex->H' b=none
 there:∀b o,h.get? b=some o->b∉ex->∃o',h'.get? b=some o'
 tups:∀b xs,H b=some (.tup xs)->H' b=some (.tup xs)
 frzs:∀b o u,H b=some (.frz o u)->H' b=some (.frz o u)
 tbls:∀b ps,H b=some (.tbl ps)->∃more,H' b=some (.tbl (ps++more))
section
def Un.any(u:Un fs ex H H1 h h1)(q:h.get? b=some ob)(n:H b=none)(hx:b∉ex):∃sl,h1.get? b=some {ob with slots:=sl}:=by
 by_cases hb:b∈fs
 ·exact u.slot b ob q n hb hx
 ·exact⟨ob.slots,u.keep b ob q n hb hx⟩
def Un.kept(k:∀b u,h.get? b=some u->h'.get? b=some u):Un fs ex H H h h':=
 ⟨λb ob q _ _ _=>k b ob q,λb ob q _ _ _=>⟨ob.slots,k b ob q⟩,λ_ _ _ n _=>n,λb ob q _=>⟨ob,k b ob q⟩,λ_ _ q=>q,λ_ _ _ q=>q,λ_ ps q=>⟨#[],by rw[q];simp⟩⟩
def Un.refl:Un fs ex H H h h:=Un.kept λ_ _ q=>q
def Un.laid(k:∀b u,h.get? b=some u->h'.get? b=some u)(hp:h.objs.size<=a)(hn:H a=none):Un fs ex H (upd H a o) h h' where
 keep:=λb u q _ _ _=>k b u q
 slot:=λb u q _ _ _=>⟨u.slots,k b u q⟩
 free:=λb u q n _=>by rw[v9 (zQ (zL (zC q) hp))];exact n
 there:=λb u q _=>⟨u,k b u q⟩
 tups:=λb xs q=>by rw[v9 (J0 q hn)];exact q
 frzs:=λb u xs q=>by rw[v9 (J0 q hn)];exact q
 tbls:=λb ps q=>⟨#[],by rw[v9 (J0 q hn),q];simp⟩
def Un.write(mu:Mut (H x))(he:e=x\/H e=some (.own x))(k:∀b u,b≠e->h.get? b=some u->h'.get? b=some u)(heo:∃u,h'.get? e=some u):Un fs ex H (upd H x o) h h':=by
 have hx:∀b,H b=none->b≠x:=λb n z=>by subst z;rw[n]at mu;exact mu
 have hb:∀b,H b=none->b≠e:=λb n z=>by
  subst z;rcases he with r|r
  ·exact hx b n r
  ·rw[n]at r;cases r
 have hm:∀b u,H b=some u->¬Mut (some u)->b≠x:=λb u q nm z=>by subst z;rw[q]at mu;exact nm mu
 refine⟨λb u q n _ _=>k b u (hb b n) q,λb u q n _ _=>⟨u.slots,k b u (hb b n) q⟩,λb u q n _=>by rw[v9 (hx b n)];exact n,λb u q _=>?_,
  λb xs q=>by rw[v9 (hm b _ q λz=>z)];exact q,λb u xs q=>by rw[v9 (hm b _ q λz=>z)];exact q,λb ps q=>⟨#[],by rw[v9 (hm b _ q λz=>z),q];simp⟩⟩
 by_cases hbe:b=e
 ·subst hbe;exact heo
 ·exact⟨u,k b u hbe q⟩
end
def trk(h:Heap)(H:Hp):List Addr:=(zP h.objs.size).filter λa=>(H a).isSome
def BB(h:Heap)(H:Hp):Heap:=PySem.W.hideAll h (trk h H)
def Av(h:Heap)(H:Hp):(BB h H).objs.size=h.objs.size:=PySem.W.hideAll_size _ _
def Bi(e:h.get? b=some o)(n:H b=none):(BB h H).get? b=some o:=
 PySem.W.hideAll_get _ e λhm=>by have q:(H b).isSome=true:=(Jw.mp hm).2;rw[n]at q;simp at q
def CZ(e:(BB h H).get? b=some o):h.get? b=some o/\H b=none:=by
 have e':h.get? b=some o:=PySem.W.of_hideAll (trk h H) e;refine⟨e',?_⟩
 cases q:H b with
 |none=>rfl
 |some x=>
   have hm:b∈trk h H:=Jw.mpr ⟨jy.mpr (zC e'),by simp[q]⟩;have z:(BB h H).get? b=none:=PySem.W.hideAll_none (trk h H) hm;rw[z]at e;cases e
def fj(g h:Heap)(L:Addr):PNS:=(zP h.objs.size).filterMap λa=>if a=L\/(g.get? a).isSome=true then none else (h.get? a).map λo=>(a,o)
def rest(g h:Heap)(L d:Addr):PNS:=(fj g h L).filter λp=>decide (p.1≠d)
structure Mod(K:zo)(mg:Str->Option zm)(base:Heap):Prop where
 kin:K.In base
 glob:base.Ns jG mg
 blt:∃mb,base.Ns builtinsNs mb/\∀x:Str,x≠ "__name__"->mb x=jp x
 nolimit:base.NoLimit
structure Cx where
 prog:zU
 w:jg
 K:zo
 mg:Str->Option zm
 base:Heap
 A:js
 N:List Str
 WV:zA
 H₀:Hp
 env:Env
 outer:List Env
 stack:List Env
 ex:List Addr
 fn:Str->Bool
 calm:Bool
 pn:PNS
 xe:VSP
def frs(l:List Env):List Addr:=l.filterMap (·.frame)
abbrev Cx.fs(X:Cx):List Addr:=frs X.outer
def Vis(sc:Scope)(x:Str):Prop:=sc.names.lookup x=some .local\/sc.names.lookup x=some .cell\/sc.names.lookup x=some .free
def Loc(sc:Scope)(x:Str):Prop:=sc.names.lookup x=some .local\/sc.names.lookup x=some .cell
def BX(env:Env)(h:Heap)(m:Str->Option zm)(x:Str)(u:zm):Prop:=
 (env.kindOf x=some .local/\m x=some u)\/((env.kindOf x=some .cell\/env.kindOf x=some .free)/\∃c,env.cells.lookup x=some c/\h.IsCell c (some u))
structure Cx.Ok(X:Cx):Prop where
 mod:Mod X.K X.mg X.base
 kind:X.env.scope.kind= .function
 glob:X.env.globals=jG
 blt:X.env.builtins=builtinsNs
 above:X.WV.heap.objs.size<=X.env.locals
 inj:∀x y c,X.env.cells.lookup x=some c->X.env.cells.lookup y=some c->x=y
 has:∀x,(X.env.kindOf x=some .cell\/X.env.kindOf x=some .free)->∃c,X.env.cells.lookup x=some c
 cab:∀x c,X.fn x=true->X.env.cells.lookup x=some c->X.WV.heap.objs.size<=c
 hd:X.calm=true->X.A.handled=none
 frames:X.A.frames=some X.stack
 stk:X.stack=X.outer\/(X.stack=X.env::X.outer/\X.env.frame=some X.env.locals)
 exf:∀b∈X.ex,b≠X.env.locals/\∀x c,X.env.cells.lookup x=some c->c≠b
 bs:∀b o,X.base.get? b=some o->X.WV.heap.get? b=some o/\X.H₀ b=none
 bsz:X.base.objs.size<=X.WV.heap.objs.size
 noex:∀b o,X.base.get? b=some o->b∉X.ex
 exfs:∀b∈X.ex,b∉X.fs
 funs:X.WV.heap.FunFrames X.base X.outer
 frf:∀b∈X.fs,X.H₀ b=none
 gd:X.A.guards=some []
structure Inv(X:Cx)(Li:PNS)(σ:List (Option V))(H:Hp)(s:zA):Prop where
 ok:X.Ok
 os:s.os=X.WV.os
 bare:XW s.gens
 base:Un X.fs X.ex X.H₀ H X.WV.heap s.heap
 loc:∃m,s.heap.Ns X.env.locals m/\∀(i:Nat) (x:Str) (v:V),X.N[i]? =some x->σ[i]? =some (some v)->Vis X.env.scope x->∃u,J1 v u/\BX X.env s.heap m x u
 cell:∀x c,X.env.cells.lookup x=some c->∃v,s.heap.IsCell c v
 free:H X.env.locals=none
 freeC:∀x c,X.env.cells.lookup x=some c->H c=none
 pin:∀p∈X.pn++Li,s.heap.get? p.1=some p.2/\H p.1=none/\p.1≠X.env.locals/\p.1∉X.fs/\∀v,p.2.data≠ .cell v
 hok:HOk X.prog X.w H s.heap
 len:σ.length=X.N.length
section
variable{X:Cx}{Li:PNS}{σ:List (Option V)}{H H':Hp}{s:zA}
def Cx.Ok.nofr(ok:X.Ok)(e:X.base.get? b=some o):b∉X.fs:=λhb=>by have:=(ok.funs.mem hb).1;rw[e]at this;cases this
def Inv.bs(I:Inv X Li σ H s):∀b o,X.base.get? b=some o->s.heap.get? b=some o/\H b=none:=λb o e=>
 ⟨I.base.keep b o (I.ok.bs b o e).1 (I.ok.bs b o e).2 (I.ok.nofr e) (I.ok.noex b o e),I.base.free b o (I.ok.bs b o e).1 (I.ok.bs b o e).2 (I.ok.noex b o e)⟩
def Inv.bk(I:Inv X Li σ H s):∀b o,X.base.get? b=some o->s.heap.get? b=some o:=λb o e=>(I.bs b o e).1
def Inv.mod(I:Inv X Li σ H s):Mod X.K X.mg X.base:=I.ok.mod
def Inv.kIn(I:Inv X Li σ H s):X.K.In s.heap:=I.ok.mod.kin.keeps I.bk
def Inv.lt(I:Inv X Li σ H s):X.env.locals<s.heap.objs.size:=let ⟨_,hn,_⟩:=I.loc;hn.lt
def Inv.sz(I:Inv X Li σ H s):X.WV.heap.objs.size<=s.heap.objs.size:=zq I.ok.above (yj I.lt)
def Inv.nofs(I:Inv X Li σ H s)(h:s.heap.objs.size<=a):a∉X.fs:=λhb=>by obtain⟨_,o,ho,_⟩:=I.ok.funs.mem hb;exact absurd (zL (zC ho) (zq I.sz h)) (yD _)
def Inv.cne(I:Inv X Li σ H s):∀x c,X.env.cells.lookup x=some c->c≠X.env.locals:=λx c e z=>by obtain⟨v,o,ho,hd⟩:=I.cell x c e;obtain⟨m,⟨o',es,ep,ho',Od,_⟩,_⟩:=I.loc;rw[z,ho']at ho;cases ho;rw[Od]at hd;cases hd
def Inv.funs(I:Inv X Li σ H s):s.heap.FunFrames X.base X.outer:=by
 have all:∀(l:List Env),(∀b∈frs l,b∈X.fs)->X.WV.heap.FunFrames X.base l->s.heap.FunFrames X.base l:=by
  intro l
  induction l with
  |nil=>intro _ _;trivial
  |cons env r ih=>
    intro hs hl;obtain⟨hk,⟨L,o,hf,hn,ho,hd⟩,hr⟩:=hl;have hL:L∈X.fs:=hs L (by unfold frs;rw[ZX,hf];exact zg);obtain⟨sl,e⟩:=I.base.slot L o ho (I.ok.frf L hL) hL λz=>I.ok.exfs L z hL;exact⟨hk,⟨L,_,hf,hn,e,hd⟩,ih (λb hb=>hs b (by unfold frs;rw[ZX,hf];exact ze _ hb)) hr⟩
 exact all X.outer (λ_ hb=>hb) I.ok.funs
def Inv.stack(I:Inv X Li σ H s):s.heap.FunFrames X.base X.stack:=by
 rcases I.ok.stk with e|⟨e,hf⟩
 ·rw[e];exact I.funs
 ·rw[e];obtain⟨m,hn,_⟩:=I.loc;refine .cons (by rw[I.ok.kind];decide) hf hn ?_ I.funs;exact Heap.get?_none_of_le (zq I.ok.bsz I.ok.above)
def Inv.stkSub(I:Inv X Li σ H s):∀b∈frs X.stack,b∈X.env.locals::X.fs:=λb hb=>by
 rcases I.ok.stk with e|⟨e,hf⟩
 ·rw[e]at hb;exact ze _ hb
 ·rw[e]at hb;unfold frs at hb;rw[ZX,hf]at hb;exact hb
def Inv.stkFree(I:Inv X Li σ H s):∀b∈frs X.stack,H b=none:=λb hb=>by
 rcases zn.mp (I.stkSub b hb)with e|hb
 ·rw[e];exact I.free
 ·obtain⟨_,o,ho,_⟩:=I.ok.funs.mem hb;exact I.base.free b o ho (I.ok.frf b hb) λz=>I.ok.exfs b z hb
def Inv.step{t':Nat}{d':Drawn}{ch:List Addr}(I:Inv X Li σ H s)
 (hch:∀b∈ch,(b∈X.ex\/X.WV.heap.objs.size<=b)/\b≠X.env.locals/\(∀x c,X.env.cells.lookup x=some c->c≠b)/\∀p∈X.pn++Li,p.1≠b)
 (keep:∀b o,b≠X.env.locals->b∉X.fs->b∉ch->s.heap.get? b=some o->H b=none->h'.get? b=some o)
 (slot:∀b o,b≠X.env.locals->b∈X.fs->b∉ch->s.heap.get? b=some o->H b=none->∃sl,h'.get? b=some {o with slots:=sl}) (free:∀b o,b∉ch->s.heap.get? b=some o->H b=none->H' b=none)
 (there:∀b o,b∉ch->s.heap.get? b=some o->∃o',h'.get? b=some o')
 (tups:∀b xs,H b=some (.tup xs)->H' b=some (.tup xs)) (frzs:∀b o u,H b=some (.frz o u)->H' b=some (.frz o u)) (tbls:∀b ps,H b=some (.tbl ps)->∃more,H' b=some (.tbl (ps++more)))
 (ns:∀m,s.heap.Ns X.env.locals m->h'.Ns X.env.locals m) (hok:HOk X.prog X.w H' h') (hg:XW g'):
 Inv X Li σ H' {s with heap:=h',gens:=g',drawn:=d',toks:=t'}:=by
 have neL:∀b o,X.WV.heap.get? b=some o->b≠X.env.locals:=λb o e=>zQ (zL (zC e) I.ok.above);have neC:∀b o,X.WV.heap.get? b=some o->b∉X.ex->b∉ch:=λb o e hx hb=>by
  rcases (hch b hb).1 with z|z
  ·exact hx z
  ·exact absurd (zL (zC e) z) (yD _)
 have cellK:∀x c,X.env.cells.lookup x=some c->∀v,s.heap.IsCell c v->h'.IsCell c v:=λx c e v ⟨o,ho,hd⟩=>by
  have nch:c∉ch:=λz=>(hch c z).2.2.1 x c e rfl;by_cases hc:c∈X.fs
  ·obtain⟨sl,q⟩:=slot c o (I.cne x c e) hc nch ho (I.freeC x c e);exact⟨_,q,hd⟩
  ·exact⟨o,keep c o (I.cne x c e) hc nch ho (I.freeC x c e),hd⟩
 refine⟨I.ok,I.os,hg,⟨λb o e n hb hx=>?_,λb o e n hb hx=>?_,λb o e n hx=>?_,λb o e hx=>?_,λb xs e=>tups b xs (I.base.tups b xs e),λb o xs e=>frzs b o xs (I.base.frzs b o xs e),λb ps e=>?_⟩,?_,λx c e=>?_,?_,λx c e=>?_,λp hp=>?_,hok,I.len⟩
 ·exact keep b o (neL b o e) hb (neC b o e hx) (I.base.keep b o e n hb hx) (I.base.free b o e n hx)
 ·obtain⟨sl,e1⟩:=I.base.slot b o e n hb hx;obtain⟨sl',e2⟩:=slot b _ (neL b o e) hb (neC b o e hx) e1 (I.base.free b o e n hx);exact⟨sl',e2⟩
 ·obtain⟨o',e1⟩:=I.base.there b o e hx;exact free b o' (neC b o e hx) e1 (I.base.free b o e n hx)
 ·obtain⟨o',e1⟩:=I.base.there b o e hx;exact there b o' (neC b o e hx) e1
 ·obtain⟨m1,e1⟩:=I.base.tbls b ps e;obtain⟨m2,e2⟩:=tbls b _ e1;exact⟨m1++m2,by rw[e2,Array.append_assoc]⟩
 ·obtain⟨m,hn,hl⟩:=I.loc;refine⟨m,ns m hn,λi x v e1 e2 e3=>?_⟩;obtain⟨u,r,l⟩:=hl i x v e1 e2 e3;refine⟨u,r,?_⟩;rcases l with l|⟨k,c,e,z⟩
  ·exact .inl l
  ·exact .inr ⟨k,c,e,cellK x c e _ z⟩
 ·obtain⟨v,z⟩:=I.cell x c e;exact⟨v,cellK x c e v z⟩
 ·obtain⟨m,⟨o,_,_,ho,_⟩,_⟩:=I.loc;exact free _ o (λz=>(hch _ z).2.1 rfl) ho I.free
 ·obtain⟨v,o,ho,hd⟩:=I.cell x c e;exact free c o (λz=>(hch c z).2.2.1 x c e rfl) ho (I.freeC x c e)
 ·obtain⟨e,n,ne,nf,d⟩:=I.pin p hp;have nch:p.1∉ch:=λz=>(hch p.1 z).2.2.2 p hp rfl;exact⟨keep p.1 p.2 ne nf nch e n,free p.1 p.2 nch e n,ne,nf,d⟩
def Inv.un(I:Inv X Li σ H s)(u:Un X.fs [] H H' s.heap h')(hok:HOk X.prog X.w H' h'):Inv X Li σ H' {s with heap:=h',toks:=t'}:=by
 obtain⟨m,⟨o,es,ep,ho,r⟩,_⟩:=id I.loc;obtain⟨sl,hL⟩:=u.any ho I.free (by simp);exact I.step (g':=s.gens) (d':=s.drawn) (ch:= []) (λ_ z=>nomatch z) (λb o _ hb _ e n=>u.keep b o e n hb (by simp)) (λb o _ hb _ e n=>u.slot b o e n hb (by simp)) (λb o _ e n=>u.free b o e n (by simp)) (λb o _ e=>u.there b o e (by simp)) u.tups u.frzs u.tbls (λm' hm=>by obtain⟨o',Oc,ep',ho',r'⟩:=hm;rw[ho]at ho';cases ho';exact⟨_,Oc,ep',hL,r'⟩) hok I.bare
def Inv.call{t':Nat}{d':Drawn}{ch:List Addr}(I:Inv X Li σ H s)(u:Un (frs X.stack) ch H H' s.heap h')(hok:HOk X.prog X.w H' h')(hg:XW g')
 (hch:∀b∈ch,(b∈X.ex\/X.WV.heap.objs.size<=b)/\b≠X.env.locals/\(∀x c,X.env.cells.lookup x=some c->c≠b)/\∀p∈X.pn++Li,p.1≠b):
 Inv X Li σ H' {s with heap:=h',gens:=g',drawn:=d',toks:=t'}:=by
 obtain⟨m,⟨o,es,ep,ho,r⟩,_⟩:=id I.loc;obtain⟨sl,hL⟩:=u.any ho I.free λz=>(hch _ z).2.1 rfl;exact I.step (ch:=ch) hch (λb o hL hb hc e n=>u.keep b o e n (λz=>(zn.mp (I.stkSub b z)).elim hL hb) hc) (λb o _ _ hc e n=>u.any e n hc) (λb o hc e n=>u.free b o e n hc) (λb o hc e=>u.there b o e hc) u.tups u.frzs u.tbls (λm' hm=>by obtain⟨o',Oc,ep',ho',r'⟩:=hm;rw[ho]at ho';cases ho';exact⟨_,Oc,ep',hL,r'⟩) hok hg
def Inv.turned{t':Nat}(I:Inv X Li σ H s)(k:∀b o,b≠it->s.heap.get? b=some o->h'.get? b=some o)(hn:H it=none)(hL:it≠X.env.locals)
 (h1:it∈X.ex\/X.WV.heap.objs.size<=it) (h2:∀x c,X.env.cells.lookup x=some c->c≠it) (h3:∀p∈X.pn++Li,p.1≠it):Inv X Li σ H {s with heap:=h',toks:=t'}:=by
 have nit:∀b u,H b=some u->b≠it:=λb u e z=>by rw[z,hn]at e;cases e
 refine I.step (g':=s.gens) (d':=s.drawn) (ch:= [it]) (λb hb=>?_) (λb o _ _ hc e _=>k b o (λz=>hc (by simp[z])) e) (λb o _ _ hc e _=>⟨o.slots,k b o (λz=>hc (by simp[z])) e⟩) (λ_ _ _ _ n=>n)
  (λb o hc e=>⟨o,k b o (λz=>hc (by simp[z])) e⟩) (λ_ _ e=>e) (λ_ _ _ e=>e) (λb ps e=>⟨#[],by rw[e];simp⟩) (λm hm=>?_) (λb u e=>?_) I.bare
 ·have e:b=it:=by simpa using hb
  subst e;exact⟨h1,hL,h2,h3⟩
 ·obtain⟨o,es,ep,ho,r⟩:=hm;exact⟨o,es,ep,k _ o (Ne.symm hL) ho,r⟩
 ·refine(I.hok b u e).stay (λc v hc q=>k c v ?_ q) (λ_ q=>q) λ_ _ q=>q;rcases hc with z|z
  ·rw[z];exact nit b u e
  ·exact nit c _ z
def Inv.tok(I:Inv X Li σ H s)(t:Nat):Inv X Li σ H {s with toks:=t}:=I.un (h':=s.heap) (t':=t) Un.refl I.hok
def Inv.kept(I:Inv X Li σ H s)(k:∀b u,s.heap.get? b=some u->h'.get? b=some u):Inv X Li σ H {s with heap:=h',toks:=t'}:=I.un (Un.kept k) (I.hok.kept k)
def Inv.laid(I:Inv X Li σ H s)(k:∀b u,s.heap.get? b=some u->h'.get? b=some u)(hp:s.heap.objs.size<=a)(new:T9 X.prog X.w (upd H a o) h' a o):
 Inv X Li σ (upd H a o) {s with heap:=h',toks:=t'}:=I.un (Un.laid k hp (I.hok.fresh hp)) (I.hok.laid k hp new)
def Inv.write(I:Inv X Li σ H s)(mu:Mut (H x))(he:e=x\/H e=some (.own x))(k:∀b u,b≠e->s.heap.get? b=some u->h'.get? b=some u)(heo:∃u,h'.get? e=some u)
 (new:T9 X.prog X.w (upd H x o) h' x o):Inv X Li σ (upd H x o) {s with heap:=h',toks:=t'}:=I.un (Un.write mu he k heo) (I.hok.write mu he k heo new)
def Inv.pins_of(I:Inv X Li σ H s)(h:∀p∈pins',s.heap.get? p.1=some p.2/\H p.1=none/\p.1≠X.env.locals/\p.1∉X.fs/\∀v,p.2.data≠ .cell v):Inv X pins' σ H s:=
 ⟨I.ok,I.os,I.bare,I.base,I.loc,I.cell,I.free,I.freeC,λp hp=>(zB.mp hp).elim (λz=>I.pin p (jP _ z)) (h p),I.hok,I.len⟩
def tQ{N:List Str}(hN:N.Nodup){i j:Nat}{x:Str}(a:N[i]? =some x)(b:N[j]? =some x):i=j:=by obtain⟨h1,e1⟩:=xh.mp a;obtain⟨h2,e2⟩:=xh.mp b;exact(Jk hN).mp (e1.trans e2.symm)
def ga{M:Model}{A:js}{E:VSP}{i:Nat}{x:Str}{v:V}{u:zm}{Q:Unit->zA->Prop}(I:Inv X Li σ H s)(hN:X.N.Nodup)(hi:X.N[i]? =some x)(hx:Loc X.env.scope x)(r:J1 v u)
 (h:∀s',Inv X Li (σ.set i (some v)) H s'->(∃a,jZ a s.heap s'.heap/\(a=X.env.locals\/X.env.cells.lookup x=some a))->Q () s') (hf:X.fn x=true\/X.env.scope.names.lookup x=some .local):zt M A (storeName X.env x u) Q E s:=by
 obtain⟨m,hn,hl⟩:=id I.loc;have hcls:(X.env.scope.kind == .class||(X.env.scope.kind == .module&&X.env.locals != X.env.globals))=false:=by rw[I.ok.kind];rfl
 have hiσ:i<σ.length:=by rw[I.len];exact(xh.mp hi).1
 have cne:=I.cne;have tracked:∀ {a:Addr} {h':Heap},(∃o,s.heap.get? a=some o/\H a=none)->jZ a s.heap h'->HOk X.prog X.w H h':=λ{a h'} ha hs b ob e=>by
  obtain⟨_,_,hfree⟩:=ha;refine(I.hok b ob e).stay (λc w' hc q=>(hs.2 c ?_).trans q) (λ_ q=>q) λ_ _ q=>q;rintro rfl;rcases hc with rfl|hc
  ·rw[hfree]at e;cases e
  ·rw[hfree]at hc;cases hc
 rcases hx with hk|hk
 ·refine wpAny_storeName_local hk hn (λh' hn' hs=>?_) hcls;obtain⟨oL,_,_,hoL,_⟩:=id hn;refine h _ ⟨I.ok,I.os,I.bare,⟨λb o e n hb hx=>?_,λb o e n hb hx=>?_,I.base.free,λb o e hx=>?_,I.base.tups,I.base.frzs,I.base.tbls⟩,⟨_,hn',λj y v' e1 e2 e3=>?_⟩,λy c e=>?_,I.free,I.freeC,λp hp=>?_,tracked ⟨oL,hoL,I.free⟩ hs,by simpa using I.len⟩ ⟨_,hs,.inl rfl⟩
  ·exact(hs.2 b (zQ (zL (zC e) I.ok.above))).trans (I.base.keep b o e n hb hx)
  ·obtain⟨sl,e1⟩:=I.base.slot b o e n hb hx;exact⟨sl,(hs.2 b (zQ (zL (zC e) I.ok.above))).trans e1⟩
  ·obtain⟨o',e1⟩:=I.base.there b o e hx;exact⟨o',(hs.2 b (zQ (zL (zC e) I.ok.above))).trans e1⟩
  ·by_cases hj:j=i
   ·subst hj;rw[hi]at e1;cases e1;rw[zX hiσ]at e2
    cases e2
    exact⟨u,r,.inl ⟨hk,by simp⟩⟩
   ·rw[jA (Ne.symm hj)]at e2;obtain⟨u',r',q⟩:=hl j y v' e1 e2 e3;refine⟨u',r',?_⟩;rcases q with⟨k,e⟩|⟨k,c,e,z⟩
    ·refine .inl ⟨k,?_⟩;have:y≠x:=λe=>hj (tQ hN e1 (e▸hi));simp[this,e]
    ·exact .inr ⟨k,c,e,z.sameBut hs (cne y c e)⟩
  ·obtain⟨w',z⟩:=I.cell y c e;exact⟨w',z.sameBut hs (cne y c e)⟩
  ·obtain⟨e,n,ne,nf,d⟩:=I.pin p hp;exact⟨(hs.2 p.1 ne).trans e,n,ne,nf,d⟩
 ·have hfn:X.fn x=true:=by
   rcases hf with z|z
   ·exact z
   ·rw[z]at hk;cases hk
  obtain⟨c,hc⟩:=I.ok.has x (.inl hk);obtain⟨w',z⟩:=I.cell x c hc;refine wpAny_storeName_cell I.ok.kind hk hc z (λh' hc' hs=>?_);obtain⟨oc,hoc,hocd⟩:=id z;refine h {s with heap:=h'} ⟨I.ok,I.os,I.bare,⟨λb o e n hb hx=>?_,λb o e n hb hx=>?_,I.base.free,λb o e hx=>?_,I.base.tups,I.base.frzs,I.base.tbls⟩,⟨m,hn.sameBut hs (Ne.symm (cne x c hc)),λj y v' e1 e2 e3=>?_⟩,λy c' e=>?_,I.free,I.freeC,λp hp=>?_,tracked ⟨oc,hoc,I.freeC x c hc⟩ hs,by simpa using I.len⟩ ⟨c,hs,.inr hc⟩
  ·exact(hs.2 b (zQ (zL (zC e) (I.ok.cab x c hfn hc)))).trans (I.base.keep b o e n hb hx)
  ·obtain⟨sl,e1⟩:=I.base.slot b o e n hb hx;exact⟨sl,(hs.2 b (zQ (zL (zC e) (I.ok.cab x c hfn hc)))).trans e1⟩
  ·obtain⟨o',e1⟩:=I.base.there b o e hx;exact⟨o',(hs.2 b (zQ (zL (zC e) (I.ok.cab x c hfn hc)))).trans e1⟩
  ·by_cases hj:j=i
   ·subst hj;rw[hi]at e1;cases e1;rw[zX hiσ]at e2
    cases e2
    exact⟨u,r,.inr ⟨.inl hk,c,hc,hc'⟩⟩
   ·rw[jA (Ne.symm hj)]at e2;obtain⟨u',r',q⟩:=hl j y v' e1 e2 e3;refine⟨u',r',?_⟩;rcases q with q|⟨k,c',e,z'⟩
    ·exact .inl q
    ·refine .inr ⟨k,c',e,z'.sameBut hs ?_⟩;rintro rfl;exact hj (tQ hN e1 (I.ok.inj _ _ _ e hc▸hi))
  ·by_cases hcc:c'=c
   ·subst hcc;exact⟨_,hc'⟩
   ·obtain⟨w2,z2⟩:=I.cell y c' e;exact⟨w2,z2.sameBut hs hcc⟩
  ·obtain⟨e,n,ne,nf,d⟩:=I.pin p hp;refine⟨(hs.2 p.1 ?_).trans e,n,ne,nf,d⟩;intro q;rw[q,hoc]at e;have q':oc=p.2:=jd e;exact d w' (by rw[<-q'];exact hocd)
def Rb(I:Inv X Li σ H s)(hN:X.N.Nodup)(hi:X.N[i]? =some x)(hx:Loc X.env.scope x)(r:J1 v u)
 (h:∀s',Inv X Li (σ.set i (some v)) H s'->Q () s') (hf:X.fn x=true\/X.env.scope.names.lookup x=some .local):zt M A (storeName X.env x u) Q E s:=
 ga I hN hi hx r (λs' I' _=>h s' I') hf
end
abbrev XK:=zm->Option Addr->Hp->Prop
abbrev St:=List (Option V)
abbrev VK:=V->Hp->Prop
abbrev TE:=St->Hp->VK->Prop
abbrev TT:=St->Hp->(Bool->Hp->Prop)->Prop
abbrev TA:=St->Hp->(List V->Hp->Prop)->Prop
structure vC where
 nx:St->Hp->Prop
 rt:VK
 bk:St->Hp->Prop:=λ_ _=>False
 ct:St->Hp->Prop:=λ_ _=>False
abbrev TS:=vC->St->Hp->Prop
def EP(X:Cx)(Li:PNS)(σ:St)(Q:VK)(u:zm)(s':zA):Prop:=∃v H',Inv X Li σ H' s'/\J1 v u/\Q v H'
def TP(X:Cx)(Li:PNS)(σ:St)(Q:Bool->Hp->Prop)(b:Bool)(s':zA):Prop:=∃H',Inv X Li σ H' s'/\Q b H'
def AP(X:Cx)(Li:PNS)(σ:St)(Q:List V->Hp->Prop)(us:List zm)(s':zA):Prop:=∃vs H',Inv X Li σ H' s'/\u6 vs us/\Q vs H'
def EP.elim{X:Cx}{σ:St}{Q:VK}{u:zm}{P:Prop}(h:EP X Li σ Q u s)(k:∀v H,Inv X Li σ H s->J1 v u->Q v H->P):P:=by obtain⟨a,b,c,d,e⟩:=h;exact k a b c d e
def TP.elim{X:Cx}{σ:St}{u:Bool}{s:zA}{P:Prop}(h:TP X Li σ Q u s)(k:∀H,Inv X Li σ H s->Q u H->P):P:=by obtain⟨b,c,e⟩:=h;exact k b c e
def AP.elim{X:Cx}{σ:St}{u:List zm}{s:zA}{P:Prop}(h:AP X Li σ Q u s)(k:∀v H,Inv X Li σ H s->u6 v u->Q v H->P):P:=by obtain⟨a,b,c,d,e⟩:=h;exact k a b c d e
def SP(X:Cx)(Li:PNS)(D:vC)(f:Flow)(s':zA):Prop:=
 match f with
 | .next=>∃ X1 H',Inv X Li X1 H' s'/\D.nx X1 H'
 | .brk=>∃ X1 H',Inv X Li X1 H' s'/\D.bk X1 H'
 | .cont=>∃ X1 H',Inv X Li X1 H' s'/\D.ct X1 H'
 | .ret u=>∃v X1 H',Inv X Li X1 H' s'/\J1 v u/\D.rt v H'
def PE(X:Cx)(e:Expr)(t:TE):Prop:=
 ∀(Li:PNS) (s:zA) (σ:St) (H:Hp) (Q:VK),Inv X Li σ H s->t σ H Q->zt (zI X.prog X.w) X.A (eval e X.env) (EP X Li σ Q) X.xe s
def PT(X:Cx)(e:Expr)(t:TT):Prop:=
 ∀(Li:PNS) (s:zA) (σ:St) (H:Hp) (Q:Bool->Hp->Prop),Inv X Li σ H s->t σ H Q->zt (zI X.prog X.w) X.A (isTrue e X.env (eval e X.env)) (TP X Li σ Q) X.xe s
def PW(X:Cx)(e:Expr)(t:TT):Prop:=
 ∀(whole:Sem zm) (Li:PNS) (s:zA) (σ:St) (H:Hp) (Q:Bool->Hp->Prop),Inv X Li σ H s->t σ H Q->zt (zI X.prog X.w) X.A (isTrue e X.env whole) (TP X Li σ Q) X.xe s
def PA(X:Cx)(es:List Expr)(t:TA):Prop:=
 ∀(pos:Pos) (Li:PNS) (s:zA) (σ:St) (H:Hp) (Q:List V->Hp->Prop),Inv X Li σ H s->t σ H Q->zt (zI X.prog X.w) X.A (spliced (xV pos (ja es X.env))) (AP X Li σ Q) X.xe s
def PS(X:Cx)(st:Stmt)(t:TS):Prop:=
 ∀(Li:PNS) (s:zA) (σ:St) (H:Hp) (D:vC),Inv X Li σ H s->t D σ H->zt (zI X.prog X.w) X.A (exec st X.env) (SP X Li D) X.xe s
def PSs(X:Cx)(st:List Stmt)(t:TS):Prop:=
 ∀(Li:PNS) (s:zA) (σ:St) (H:Hp) (D:vC),Inv X Li σ H s->t D σ H->zt (zI X.prog X.w) X.A (execs st X.env) (SP X Li D) X.xe s
def thn(h:zt M A t Q E s)(hQ:∀a s,Q a s->Q' a s):zt M A t Q' E s:=yg h hQ λ_ _ x=>x
section
variable{X:Cx}
def DU(i:Nat):TE:=λσ H Q=>∃v,σ[i]? =some (some v)/\Q v H
def tC(v:V):TE:=λ_ H Q=>Q v H
def DX(hN:X.N[i]? =some x)(hv:Vis X.env.scope x)(hd:(x==("__debug__" :Str))=false)(hcd:(x==("__classdict__" :Str))=false):PE X (.Name x pos) (DU i):=by
 intro Li s σ H Q I h;obtain⟨v,e,h⟩:=h;obtain⟨m,hn,hl⟩:=I.loc;obtain⟨u,r,l⟩:=hl i x v hN e hv;have fin:EP X Li σ Q u s:=⟨v,H,I,r,h⟩;rcases l with⟨hk,hm⟩|⟨hk,c,hc,hcell⟩
 ·exact wpAny_Name (wpAny_loadName_local I.ok.kind hk hn hm fin) hd
 ·rcases hk with hk|hk
  ·exact wpAny_Name (wpAny_loadName_cell I.ok.kind hk hc hcell fin) hd
  ·exact wpAny_Name (wpAny_loadName_free I.ok.kind hk hc hcell fin hcd) hd
def pW{i j pos}:PE X (.Constant (.int i) j pos) (tC (.int i)):=λ_ _ _ H _ I h=>wpAny_Constant_int ⟨.int i,H,I.tok _,⟨_,rfl⟩,h⟩
def Bn{b j pos}:PE X (.Constant (.bool b) j pos) (tC (.bl b)):=λ_ _ _ H _ I h=>Constant_bool ⟨.bl b,H,I,rfl,h⟩
def gc{j pos}:PE X (.Constant .none j pos) (tC .non):=λ_ _ _ H _ I h=>Constant_none ⟨.non,H,I,rfl,h⟩
def Lx{x j pos}:PE X (.Constant (.str x) j pos) (tC (.str x)):=λ_ _ _ H _ I h=>Calls.Constant_str ⟨.str x,H,I.tok _,⟨_,rfl⟩,h⟩
def Gl(X:Cx)(x:Str):Prop:=X.env.kindOf x=some .globalImplicit
def AN(I:Inv X Li σ H s)(hg:Gl X x)(hm:X.mg x=some u)(h:Q u s)
 (hd:(x==("__debug__" :Str))=false):zt (zI X.prog X.w) X.A (eval (.Name x pos) X.env) Q E s:=
 JE I.ok.kind hg (Calls.loadGlobal_global (by rw[I.ok.glob];exact I.mod.glob.keeps I.bk) hm h) hd
def gA(I:Inv X Li σ H s)(hg:Gl X x)(hm:X.mg x=none)(hv:jp x=some u)(h:Q u s)
 (hn:x≠ "__name__":=by decide) (hd:(x==("__debug__" :Str))=false:=by decide):zt (zI X.prog X.w) X.A (eval (.Name x pos) X.env) Q E s:=by
 obtain⟨mb,h1,h2⟩:=I.mod.blt;exact JE I.ok.kind hg (Calls.loadGlobal_builtin (by rw[I.ok.glob];exact I.mod.glob.keeps I.bk) hm (by rw[I.ok.blt];exact h1.keeps I.bk) ((h2 x hn).trans hv) h) hd
def IZ(hg:Gl X x)(hm:X.mg x=none)(hv:jp x=some u)(r:J1 v u)(hn:x≠ "__name__")(hd:(x==("__debug__" :Str))=false):PE X (.Name x pos) (tC v):=
 λ_ _ _ H _ I h=>gA I hg hm hv ⟨v,H,I,r,h⟩ hn hd
variable{a b:Expr}{ta tb:TE}{pos:Pos}
variable{tA tB':TT}{rest:List Expr}
def Cd(t u:TT):TT:=λσ H Q=>t σ H λc H1=>if c=true then u σ H1 Q else Q false H1
def tOr(t u:TT):TT:=λσ H Q=>t σ H λc H1=>if c=true then Q true H1 else u σ H1 Q
def Ip(t:TT):TT:=λσ H Q=>t σ H λc H1=>Q (!c) H1
def ua(ha:PT X a tA):PW X (.BoolOp .And [a] pos) tA:=by
 intro wh Li s σ H Q I h;refine isTrue_and (thn (ha Li s σ H Q I h) λc s1 e=>?_)
 cases c with
 |true=>exact isTrue_and_nil e
 |false=>exact e
def ui(ha:PT X a tA):PW X (.BoolOp .Or [a] pos) tA:=by
 intro wh Li s σ H Q I h;refine isTrue_or (thn (ha Li s σ H Q I h) λc s1 e=>?_)
 cases c with
 |false=>exact isTrue_or_nil e
 |true=>exact e
def qh(ha:PT X a tA)(hb:PW X (.BoolOp .And (b::rest) pos) tB'):PW X (.BoolOp .And (a::b::rest) pos) (Cd tA tB'):=by
 intro wh Li s σ H Q I h;refine isTrue_and (thn (ha Li s σ H _ I h) λc s1 Me=>Me.elim λH1 I1 q1=>?_)
 cases c with
 |true=>exact hb wh Li s1 σ H1 Q I1 q1
 |false=>exact⟨H1,I1,q1⟩
def Wq(ha:PT X a tA)(hb:PW X (.BoolOp .Or (b::rest) pos) tB'):PW X (.BoolOp .Or (a::b::rest) pos) (tOr tA tB'):=by
 intro wh Li s σ H Q I h;refine isTrue_or (thn (ha Li s σ H _ I h) λc s1 Me=>Me.elim λH1 I1 q1=>?_)
 cases c with
 |true=>exact⟨H1,I1,q1⟩
 |false=>exact hb wh Li s1 σ H1 Q I1 q1
def IY(ha:PT X a tA):PT X (.UnaryOp .Not a pos) (Ip tA):=by intro Li s σ H Q I h;exact isTrue_not (ha Li s σ H (λc H1=>Q (!c) H1) I h)
def Gp(ta:TE):TE:=λσ H Q=>ta σ H λx H1=>∃c,x= .bl c/\Q (.bl (!c)) H1
def dq{op}(h:PE X a t):PE X (.BoolOp op [a] pos) t:=λLi s σ H Q I hw=>BoolOp_one (h Li s σ H Q I hw)
def vz(ha:PE X a ta):PE X (.UnaryOp .Not a pos) (Gp ta):=by
 intro Li s σ H Q I h;refine UnaryOp_ (thn (ha Li s σ H _ I h) λv s1 Me=>Me.elim λx H1 I1 r1 q1=>?_);obtain⟨c,rfl,q1⟩:=q1
 cases r1
 exact not_of (Zz ⟨.bl (!c),H1,I1,rfl,q1⟩)
def tIf(t:TT)(ta tb:TE):TE:=λσ H Q=>t σ H λc H1=>if c=true then ta σ H1 Q else tb σ H1 Q
def Fz(hc:PT X c tA)(ha:PE X a ta)(hb:PE X b tb):PE X (.IfExp c a b pos) (tIf tA ta tb):=by
 intro Li s σ H Q I h;refine wpAny_IfExp (thn (hc Li s σ H _ I h) λd s1 Me=>Me.elim λH1 I1 q1=>?_)
 cases d with
 |true=>exact ha Li s1 σ H1 Q I1 q1
 |false=>exact hb Li s1 σ H1 Q I1 q1
end
def SqL(K:zo)(H:Hp)(a:Addr)(xs:List V):Prop:=
 Rd H a (.lst xs)\/
  ∃(o:Obj) (Ll:Array zm) (n:Nat),K.lookup a=some o/\o.cls= .type "list"/\o.dict=none/\o.data= .seq Ll n/\Ll.size<=zj/\u6 xs Ll.toList
def SqT(K:zo)(H:Hp)(a:Addr)(xs:List V):Prop:=
 Rd H a (.tup xs)\/
  ∃(o:Obj) (Ll:Array zm) (n:Nat),K.lookup a=some o/\o.cls= .type "tuple"/\(o.data,o.dict)= (Data.seq Ll n,none)/\Ll.size<=zj/\u6 xs Ll.toList
def Kx:zm->Option V
| .none=>some .non
| .bool b=>some (.bl b)
| .int i _=>some (.int i)
| .str x _=>some (.str x)
| .bytes b _=>some (.byt b)
| .float b _=>some (.flt b)
| .ref a=>some (.ref a)
| .type n=>some (.ty n)
|_=>none
def J1.abs(r:J1 x u):Kx u=some x:=by
 cases x with
 |non=>cases r;rfl
 |bl _=>cases r;rfl
 |int _=>obtain⟨t,rfl⟩:=r;rfl
 |str _=>obtain⟨t,rfl⟩:=r;rfl
 |byt _=>obtain⟨t,rfl⟩:=r;rfl
 |flt _=>obtain⟨t,rfl⟩:=r;rfl
 |ref _=>cases r;rfl
 |ty _=>cases r;rfl
def J1.inj(r:J1 x u)(q:J1 y u):x=y:=jd (r.abs.symm.trans q.abs)
def u6.inj(h:u6 xs us)(k:u6 ys us):xs=ys:=by
 induction h generalizing ys with
 |nil=>cases k;rfl
 |cons r t ih=>cases k with
   |cons r' t'=>rw[r.inj r',ih t']
section
def SqL.of{K:zo}(h:H a=some (.lst xs)):SqL K H a xs:=.inl (.inl h)
def SqT.of{K:zo}(h:H a=some (.tup xs)):SqT K H a xs:=.inl (.inl h)
def Inv.list(I:Inv X Li σ H s)(h:SqL X.K H a xs):∃Ll:List zm,u6 xs Ll/\PlainL s.heap a Ll.toArray/\xs.length<=zj:=by
 rcases h with h|⟨o,Ll,n,hk,hc,hd,hs,hz,r⟩
 ·obtain⟨z,Ll,n,r,e⟩:=h.ok I.hok;exact⟨Ll,r,⟨_,n,e,rfl,rfl,rfl⟩,z⟩
 ·refine⟨Ll.toList,r,⟨o,n,I.kIn a o hk,hc,hd,by simpa using hs⟩,?_⟩;have e:=r.length;simp only[zG]at e;lia
def Inv.tuple(I:Inv X Li σ H s)(h:SqT X.K H a xs):∃Ll:List zm,u6 xs Ll/\IsTup s.heap a Ll.toArray/\xs.length<=zj:=by
 rcases h with h|⟨o,Ll,n,hk,hc,hs,hz,r⟩
 ·obtain⟨z,Ll,r,p⟩:=h.ok I.hok;exact⟨Ll,r,P9.tup p,z⟩
 ·refine⟨Ll.toList,r,⟨o,I.kIn a o hk,hc,n,by simpa using (xY hs).1⟩,?_⟩;have e:=r.length;simp only[zG]at e;lia
def Inv.list_inj(I:Inv X Li σ H s)(h:SqL X.K H a xs)(h':SqL X.K H a ys):xs=ys:=by
 obtain⟨Ll,r,⟨o,n,e,_,_,d⟩,_⟩:=I.list h;obtain⟨its',r',⟨o',n',e',_,_,d'⟩,_⟩:=I.list h';rw[e]at e';cases e';rw[d]at d';injection d' with d1 _;have:Ll=its':=by simpa using congrArg Array.toList d1
 subst this;exact r.inj r'
def Inv.tuple_inj(I:Inv X Li σ H s)(h:SqT X.K H a xs)(h':SqT X.K H a ys):xs=ys:=by
 obtain⟨Ll,r,⟨o,e,_,n,d⟩,_⟩:=I.tuple h;obtain⟨its',r',⟨o',e',_,n',d'⟩,_⟩:=I.tuple h';rw[e]at e';cases e';rw[d]at d';injection d' with d1 _;have:Ll=its':=by simpa using congrArg Array.toList d1
 subst this;exact r.inj r'
end
abbrev Cx.wish(X:Cx)(E:VSP):Cx:={X with xe:=E}
abbrev Cx.nox(X:Cx):Cx:=X.wish λ_ _=>False
def Cx.Ok.wish{X:Cx}(ok:X.Ok)(E:VSP):(X.wish E).Ok:=
 ⟨ok.mod,ok.kind,ok.glob,ok.blt,ok.above,ok.inj,ok.has,ok.cab,ok.hd,ok.frames,ok.stk,ok.exf,ok.bs,ok.bsz,ok.noex,ok.exfs,ok.funs,ok.frf,ok.gd⟩
def Cx.Ok.unwish{X:Cx}(ok:(X.wish E).Ok):X.Ok:=
 ⟨ok.mod,ok.kind,ok.glob,ok.blt,ok.above,ok.inj,ok.has,ok.cab,ok.hd,ok.frames,ok.stk,ok.exf,ok.bs,ok.bsz,ok.noex,ok.exfs,ok.funs,ok.frf,ok.gd⟩
section
def Inv.wish(I:Inv X Li σ H s)(E:VSP):Inv (X.wish E) Li σ H s:=⟨I.ok.wish E,I.os,I.bare,I.base,I.loc,I.cell,I.free,I.freeC,I.pin,I.hok,I.len⟩
def Inv.unwish(I:Inv (X.wish E) Li σ H s):Inv X Li σ H s:=⟨I.ok.unwish,I.os,I.bare,I.base,I.loc,I.cell,I.free,I.freeC,I.pin,I.hok,I.len⟩
def SP.unwish(h:SP (X.wish E) Li D f s'):SP X Li D f s':=by
 cases f with
 |next=>obtain⟨X1,H',I,q⟩:=h;exact⟨X1,H',I.unwish,q⟩
 |brk=>obtain⟨X1,H',I,q⟩:=h;exact⟨X1,H',I.unwish,q⟩
 |cont=>obtain⟨X1,H',I,q⟩:=h;exact⟨X1,H',I.unwish,q⟩
 |ret u=>obtain⟨v,X1,H',I,r,q⟩:=h;exact⟨v,X1,H',I.unwish,r,q⟩
def PSs.nox{st:List Stmt}(h:PSs X.nox st t):PSs X st t:=λLi s σ H D I hw=>
 yg (h Li s σ H D (I.wish _) hw) (λ_ _ q=>q.unwish) λ_ _ z=>xu z
end
section
variable{X:Cx}{st:Stmt}{rest:List Stmt}{t u:TS}
def wt:TS:=λD σ H=>D.nx σ H
def Am(t u:TS):TS:=λD σ H=>t {D with nx:=u D} σ H
def Fr:PSs X [] wt:=λ_ _ σ H _ I h=>Xx ⟨σ,H,I,h⟩
def Et(h1:PS X st t)(h2:PSs X rest u):PSs X (st::rest) (Am t u):=by
 intro Li s σ H D I h;refine wpAny_execs_cons (thn (h1 Li s σ H {D with nx:=u D} I h) λf s1 q=>?_)
 cases f with
 |next=>
   obtain⟨X1,H',I',q⟩:=q;exact h2 Li s1 X1 H' D I' q
 |ret v=>exact q
 |brk=>exact q
 |cont=>exact q
def Ea(h1:PS X st t):PSs X [st] t:=by
 intro Li s σ H D I h;refine wpAny_execs_cons (thn (h1 Li s σ H D I h) λf s1 q=>?_)
 cases f with
 |next=>exact Xx q
 |ret v=>exact q
 |brk=>exact q
 |cont=>exact q
def Inv.quiet(I:Inv X Li σ H s):interactive X.env=false:=by simp[interactive,I.ok.kind]
def km(te:TE):TS:=λD σ H=>te σ H λ_ H1=>D.nx σ H1
def Cf(he:PE X e te)(hs:swapsWith e none pos.line X.env=pure false):PS X (.Expr e pos) (km te):=by intro Li s σ H D I h;exact wpAny_Expr_any (thn (he Li s σ H _ I h) λv s1 Me=>Me.elim λx H1 I1 r1 q1=>⟨σ,H1,I1,q1⟩) I.quiet hs
def vi(te:TE):TS:=λD σ H=>te σ H D.rt
def np(he:PE X e te):PS X (.Return (some e) pos) (vi te):=by intro Li s σ H D I h;exact wpAny_Return_some (thn (he Li s σ H _ I h) λv s1 Me=>Me.elim λx H1 I1 r1 q1=>⟨x,σ,H1,I1,r1,q1⟩)
def eY(c:TT)(t u:TS):TS:=λD σ H=>c σ H λb H1=>if b=true then t D σ H1 else u D σ H1
def ug{tc:TT}(hc:PT X c tc)(ha:PSs X a t)(hb:PSs X b u):PS X (.If c a b pos) (eY tc t u):=by
 intro Li s σ H D I h;refine wpAny_If (thn (hc Li s σ H _ I h) λd s1 Me=>Me.elim λH1 I1 q1=>?_)
 cases d with
 |true=>exact ha Li s1 σ H1 D I1 q1
 |false=>exact hb Li s1 σ H1 D I1 q1
end
abbrev TG:=V->St->Hp->(St->Hp->Prop)->Prop
abbrev TGs:=List V->St->Hp->(St->Hp->Prop)->Prop
def PG(X:Cx)(target:Expr)(t:TG):Prop:=
 ∀(Li:PNS) (s:zA) (σ:St) (H:Hp) (v:V) (u:zm) (Q:St->Hp->Prop),Inv X Li σ H s->J1 v u->t v σ H Q->
  zt (zI X.prog X.w) X.A (Xs target X.env u) (λ_ s'=>∃ X1 H',Inv X Li X1 H' s'/\Q X1 H') X.xe s
def PGs(X:Cx)(ts:List Expr)(t:TGs):Prop:=
 ∀(Li:PNS) (s:zA) (σ:St) (H:Hp) (vs:List V) (us:List zm) (Q:St->Hp->Prop),Inv X Li σ H s->u6 vs us->t vs σ H Q->
  zt (zI X.prog X.w) X.A (assignInOrder ((xI ts X.env).map (·.2)) us) (λ_ s'=>∃ X1 H',Inv X Li X1 H' s'/\Q X1 H') X.xe s
abbrev TSet:=V->V->V->Hp->(Hp->Prop)->Prop
def eM(X:Cx)(t:TSet):Prop:=
 ∀(Li:PNS) (s:zA) (σ:St) (H:Hp) (o i v:V) (ov iv u:zm) (Q:Hp->Prop),Inv X Li σ H s->J1 o ov->J1 i iv->J1 v u->t o i v H Q->
  zt (zI X.prog X.w) X.A (setItem ov iv u) (λ_ s'=>∃H',Inv X Li σ H' s'/\Q H') X.xe s
section
def Vh(i:Nat):TG:=λv σ H Q=>Q (σ.set i (some v)) H
def vg(hN:X.N.Nodup)(hi:X.N[i]? =some x)(hx:Loc X.env.scope x)(hf:X.fn x=true\/X.env.scope.names.lookup x=some .local):PG X (.Name x pos) (Vh i):=by intro Li s σ H v u Q I r h;exact wpAny_assign_Name (Rb I hN hi hx r (λs' I'=>⟨_,H,I',h⟩) hf)
def Ep:TGs:=λvs σ H Q=>vs= []/\Q σ H
def Wm(t:TG)(u:TGs):TGs:=λvs σ H Q=>∃v r,vs=v::r/\t v σ H λX1 H'=>u r X1 H' Q
def bo:PGs X [] Ep:=by
 intro Li s σ H vs us Q I r h;obtain⟨e,h⟩:=h;subst e
 cases r
 exact assignInOrder_nil ⟨σ,H,I,h⟩
def Vb(h1:PG X e t)(h2:PGs X es u)
 (hs:(xI (e::es) X.env).map (·.2)=Xs e X.env::(xI es X.env).map (·.2)):PGs X (e::es) (Wm t u):=by
 intro Li s σ H vs us Q I r h;obtain⟨v,vr,e1,h⟩:=h;subst e1
 cases r with
 |cons r rr=>
   rw[hs];refine assignInOrder_cons (thn (h1 Li s σ H _ _ _ I r h) λ_ s1 ⟨WZ,H1,I1,q1⟩=>?_);exact h2 Li s1 WZ H1 _ _ Q I1 rr q1
def gv(K:zo)(n:Nat)(t:TGs):TG:=λv σ H Q=>∃a xs,v= .ref a/\SqT K H a xs/\xs.length=n/\t xs σ H Q
def gu(hc:X.calm=true)(h:PGs X es t)
 (hn:(xI es X.env).length=n) (hst:(xI es X.env).findIdx? (·.1)=none):PG X (.Tuple es k pos) (gv X.K n t):=by
 intro Li s σ H v u Q I r hw;obtain⟨a,xs,e1,hq,hl,hw⟩:=hw;subst e1
 cases r
 obtain⟨Ll,rv,ht,hz⟩:=I.tuple hq;refine assign_Tuple_tuple (I.ok.hd hc) ht (by simp[hn,<-hl,rv.length]) hst λh' hx=>?_;have I1:Inv X Li σ H {s with heap:=h'}:=I.kept (t':=s.toks) λb o e=>hx b o (zQ (zC e)) e;exact h Li _ σ H xs _ Q I1 (by simpa using rv) hw
def Fv(to ti:TE)(t:TSet):TG:=λv σ H Q=>to σ H λo H1=>ti σ H1 λi H2=>t o i v H2 λH3=>Q σ H3
def Gq(ho:PE X o to)(hi:PE X i ti)(hs:eM X t)
 (ha:∀v,Xs (.Subscript o i pos) X.env v= (do
   let ov <-Yq [v] (eval o X.env)
   let iv <-Yq [v,ov] (eval i X.env)
   standAt pos
   Yq [v,ov,iv] (setItem ov iv v)
   release [v,ov,iv] [])):PG X (.Subscript o i pos) (Fv to ti t):=by
 intro Li s σ H v u Q I r h;rw[ha];refine za (jk (thn (ho Li s σ H _ I h) λov s1 ⟨x,H1,I1,r1,q1⟩=>?_));refine za (jk (thn (hi Li s1 σ H1 _ I1 q1) λiv s2 ⟨y,H2,I2,r2,q2⟩=>?_));refine za (wpAny_standAt (za (jk (thn (hs Li s2 σ H2 x y v ov iv u _ I2 r1 r2 r q2) λ_ s3 ⟨H3,I3,q3⟩=>?_))));exact wpAny_release ⟨σ,H3,I3,q3⟩
def vv(te:TE)(g:TG):TS:=λD σ H=>te σ H λx H1=>g x σ H1 D.nx
def Es{g:TG}(he:PE X e te)(hg:PG X tg g)(hs:swapsWithSole [tg] e pos.line X.env=pure false)(hw:swappedStores [tg] e X.env=pure none)
 (h1:(xI [tg] X.env).map (·.2)= [Xs tg X.env]):PS X (.Assign [tg] e pos) (vv te g):=by
 intro Li s σ H D I h;refine wpAny_Assign_stores (thn (he Li s σ H _ I h) λv s1 Me=>Me.elim λx H1 I1 r1 q1=>?_) hs hw;rw[h1];exact thn (hg Li s1 σ H1 x v _ I1 r1 q1) λ_ s2 q=>q
def lZ(c:TT)(tb:TS):TS:=λD σ H=>∃W:Nat->St->Hp->Prop,(∃m,W m σ H)/\∀m σ H,W m σ H->
 c σ H λb H1=>if b=true then ∃N:St->Hp->Prop,(∀ X1 H',N X1 H'->∃m',m'<m/\W m' X1 H')/\tb {D with nx:=N,ct:=N,bk:=D.nx} σ H1 else D.nx σ H1
def DZ{tc:TT}{tb:TS}(hp:PassesOwn (zI X.prog X.w) X.A X.env X.xe)(hc:PT X c tc)(hb:PSs X body tb):PS X (.While c body [] pos) (lZ tc tb):=by
 intro Li s σ H D I h;obtain⟨W,⟨m0,w0⟩,turn⟩:=h;refine wpAny_While (codeAny_whileLoop (λn s'=>∃ X1 H',Inv X Li X1 H' s'/\W n X1 H') ?_ m0 ⟨σ,H,I,w0⟩);rintro n s1 ⟨WZ,H1,I1,w1⟩;refine wpAny_passesOwn hp (thn (hc Li s1 WZ H1 _ I1 (turn n WZ H1 w1)) λb s2 Me=>Me.elim λH2 I2 q2=>?_)
 cases b with
 |true=>
   obtain⟨N,hN,q2⟩:=q2;rw[if_pos rfl];refine wpAny_passesOwn hp (thn (hb Li s2 WZ H2 _ I2 q2) λf s3 q3=>?_)
   cases f with
   |next=>
     obtain⟨WJ,H3,I3,n3⟩:=q3;obtain⟨m',hm,w3⟩:=hN WJ H3 n3;exact⟨m',hm,WJ,H3,I3,w3⟩
   |cont=>
     obtain⟨WJ,H3,I3,n3⟩:=q3;obtain⟨m',hm,w3⟩:=hN WJ H3 n3;exact⟨m',hm,WJ,H3,I3,w3⟩
   |brk=>exact q3
   |ret v=>exact q3
 |false=>
   rw[if_neg zZ];exact Xx ⟨WZ,H2,I2,q2⟩
end
structure It where
 go:Nat->Hp->Prop
 yld:Nat->Hp->V->Hp->Prop
 stop:Nat->Hp->Prop
def L5(X:Cx)(Li:PNS)(H:Hp)(b:Addr):Prop:=
 H b=none/\b≠X.env.locals/\b∉X.fs/\(b∈X.ex\/X.WV.heap.objs.size<=b)/\(∀x c,X.env.cells.lookup x=some c->c≠b)/\∀p∈X.pn++Li,p.1≠b
def Inv.fpOk(I:Inv X Li σ H s)(hb:s.heap.objs.size<=b)(hn:H' b=none):L5 X Li H' b:=by
 refine⟨hn,Zr (zL I.lt hb),I.nofs hb,.inr (zq I.sz hb),λx c e z=>?_,λp hp z=>?_⟩
 ·obtain⟨v,q⟩:=I.cell x c e;exact absurd (zL q.lt (by rw[z];exact hb)) (yD _)
 ·exact absurd (zL (zC (I.pin p hp).1) (by rw[z];exact hb)) (yD _)
inductive TIt(X:Cx)(Li:PNS)(σ:St)(J:It)(fp:List Addr)(tn:Nat->Heap->Prop)(i:Nat)(H:Hp)(u:zm)(s2:zA):Prop
|mk (x:V) (H':Hp) (I:Inv X Li σ H' s2) (r:J1 x u) (y:J.yld i H x H') (st:tn (i+1) s2.heap) (fr:∀b∈fp,H' b=none)
structure SA(P:zU)(w:jg)(K:zo)(tg:Expr)(J:It)(fp:List Addr)(it:Addr)(tn:Nat->Heap->Prop):Prop where
 mem:it∈fp
 obj:∀i h,tn i h->∀b∈fp,∃o,h.get? b=some o/\∀v,o.data≠ .cell v
 keep:∀i h h',tn i h->(∀b∈fp,∀o,h.get? b=some o->h'.get? b=some o)->tn i h'
 item:∀(X:Cx),X.prog=P->X.w=w->X.K=K->X.calm=true->∀(i:Nat) (Li:PNS) (s:zA) (σ:St) (H:Hp) (E:VSP),Inv X Li σ H s->(∀b∈fp,L5 X Li H b)->tn i s.heap->J.go i H->
  zt (zI P w) X.A (yW (.ref it)) (λr s1=>∃u,r=some u/\
   zt (zI P w) X.A (Zi tg (.ref it) u) (λ_ s2=>TIt X Li σ J fp tn i H u s2) E s1) E s
 done:∀(X:Cx),X.prog=P->X.w=w->X.K=K->X.calm=true->∀(i:Nat) (Li:PNS) (s:zA) (σ:St) (H:Hp) (E:VSP),Inv X Li σ H s->(∀b∈fp,L5 X Li H b)->tn i s.heap->J.stop i H->
  zt (zI P w) X.A (yW (.ref it)) (λr s1=>r=none/\Inv X Li σ H s1) E s
 self:∀(A:js) (i:Nat) (s:zA) (Q:VSP) (E:VSP),tn i s.heap->Q (.ref it) s->zt (zI P w) A (Jo (.ref it)) Q E s
abbrev TI:=St->Hp->(It->Hp->Prop)->Prop
inductive PIE(X:Cx)(Li:PNS)(σ:St)(tg:Expr)(R:It->Hp->Prop)(itv:zm)(s2:zA):Prop
|mk (it:Addr) (fp:List Addr) (tn:Nat->Heap->Prop) (J:It) (H':Hp) (e:itv= .ref it) (I:Inv X Li σ H' s2) (T:SA X.prog X.w X.K tg J fp it tn) (st:tn 0 s2.heap) (f:∀b∈fp,L5 X Li H' b) (r:R J H')
def PI(X:Cx)(tg iter:Expr)(wi:TI):Prop:=
 ∀(Li:PNS) (s:zA) (σ:St) (H:Hp) (R:It->Hp->Prop),Inv X Li σ H s->wi σ H R->
  zt (zI X.prog X.w) X.A (eval iter X.env) (λv s1=>zt (zI X.prog X.w) X.A (Jo v) (PIE X Li σ tg R) X.xe s1) X.xe s
def wE(ho:s.heap.get? it=some o)(hc:o.cls= .type n)(hd:o.data= .fields vs)
 (hn: ["enumerate", "zip", "dict_itemiterator", "dict_reverseitemiterator", "odict_iterator", "itertools.zip_longest", "itertools.pairwise"].contains n=false) (hQ:Q () s):zt M A (Zi tg (.ref it) u) Q E s:=by
 unfold Zi
 cases tg<;>first
  |exact zf hQ
  | (cases u <;> first
      |exact zf hQ
      | (refine za (wpAny_load ho ?_)
         rw[hc,hd];show zt M A (if (["enumerate", "zip", "dict_itemiterator", "dict_reverseitemiterator", "odict_iterator", "itertools.zip_longest", "itertools.pairwise"].contains n&&vs[0]? == some (yA _))=true then _ else _) Q E s;rw[if_neg (by intro h;rw[hn,yN]at h;cases h)];exact zf hQ))
def Itl(K:zo)(a:Addr):It:=
 ⟨λi H=>∃xs x,SqL K H a xs/\xs[i]? =some x,λi H x H'=>H'=H/\∀xs,SqL K H a xs->xs[i]? =some x,λi H=>∃xs,SqL K H a xs/\xs.length<=i⟩
def Itt(K:zo)(a:Addr):It:=
 ⟨λi H=>∃xs x,SqT K H a xs/\xs[i]? =some x,λi H x H'=>H'=H/\∀xs,SqT K H a xs->xs[i]? =some x,λi H=>∃xs,SqT K H a xs/\xs.length<=i⟩
def Itr(lo:Int)(n:Nat):It:=⟨λi _=>i<n,λi H x H'=>H'=H/\x= .int (lo+i),λi _=>n<=i⟩
def nz{w:jg}{K:zo}{tg:Expr}(a it:Addr):SA P w K tg (Itl K a) [it] it (λi h=>h.IsListIter it a i) where
 mem:=by simp
 obj:=λi h st b hb=>by
  have e:b=it:=by simpa using hb
  subst e;obtain⟨o,e,c,d⟩:=st;exact⟨o,e,λv z=>by rw[d]at z;cases z⟩
 keep:=λi h h' st k=>st.at λo e=>k it (by simp) o e
 item:=by intro X hP hw hK hc i Li s σ H E I hf st hg;subst hP hw hK;obtain⟨xs,x,hq,hx⟩:=hg;obtain⟨Ll,rv,p,hz⟩:=I.list hq;obtain⟨u,hu,ru⟩:=rv.get hx;obtain⟨f0,f1,f2,f3,f4,f5⟩:=hf it (by simp);refine wpAny_pyNext_list_item st p.isList (x:=u) (by simpa using hu) λh' Mi sb=>?_;have I1:Inv X Li σ H {s with heap:=h'}:=I.turned (t':=s.toks) (λb o hb e=>(sb.2 b hb).trans e) f0 f1 f3 f4 f5;obtain⟨o,e,c,d⟩:=id Mi;exact⟨u,rfl,wE (s:={s with heap:=h'}) e c d (by decide) ⟨x,H,I1,ru,⟨rfl,λys hy=>by rw[I.list_inj hy hq];exact hx⟩,Mi,λb hb=>(hf b hb).1⟩⟩
 done:=by intro X hP hw hK hc i Li s σ H E I hf st hg;subst hP hw hK;obtain⟨xs,hq,hx⟩:=hg;obtain⟨Ll,rv,p,hz⟩:=I.list hq;obtain⟨f0,f1,f2,f3,f4,f5⟩:=hf it (by simp);have hl:=rv.length;exact wpAny_pyNext_list_end (I.ok.hd hc) st p.isList (by simp;lia) λh' eb=>⟨rfl,I.turned (t':=s.toks) (λb o hb e=>eb b o hb e) f0 f1 f3 f4 f5⟩
 self:=λ_ _ _ _ _ st h=>wpAny_pyIter_listiter st h
def ka{w:jg}{K:zo}{tg:Expr}(a it:Addr):SA P w K tg (Itt K a) [it] it (λi h=>h.IsTupleIter it a i) where
 mem:=by simp
 obj:=λi h st b hb=>by
  have e:b=it:=by simpa using hb
  subst e;obtain⟨o,e,c,d⟩:=st;exact⟨o,e,λv z=>by rw[d]at z;cases z⟩
 keep:=λi h h' st k=>st.at λo e=>k it (by simp) o e
 item:=by intro X hP hw hK hc i Li s σ H E I hf st hg;subst hP hw hK;obtain⟨xs,x,hq,hx⟩:=hg;obtain⟨Ll,rv,p,hz⟩:=I.tuple hq;obtain⟨u,hu,ru⟩:=rv.get hx;obtain⟨f0,f1,f2,f3,f4,f5⟩:=hf it (by simp);refine wpAny_pyNext_tuple_item st (show s.heap.IsTuple a Ll.toArray from p) (x:=u) (by simpa using hu) λh' Mi sb=>?_;have I1:Inv X Li σ H {s with heap:=h'}:=I.turned (t':=s.toks) (λb o hb e=>(sb.2 b hb).trans e) f0 f1 f3 f4 f5;obtain⟨o,e,c,d⟩:=id Mi;exact⟨u,rfl,wE (s:={s with heap:=h'}) e c d (by decide) ⟨x,H,I1,ru,⟨rfl,λys hy=>by rw[I.tuple_inj hy hq];exact hx⟩,Mi,λb hb=>(hf b hb).1⟩⟩
 done:=by intro X hP hw hK hc i Li s σ H E I hf st hg;subst hP hw hK;obtain⟨xs,hq,hx⟩:=hg;obtain⟨Ll,rv,p,hz⟩:=I.tuple hq;obtain⟨f0,f1,f2,f3,f4,f5⟩:=hf it (by simp);have hl:=rv.length;exact wpAny_pyNext_tuple_end (I.ok.hd hc) st (show s.heap.IsTuple a Ll.toArray from p) (by simp;lia) λh' eb=>⟨rfl,I.turned (t':=s.toks) (λb o hb e=>eb b o hb e) f0 f1 f3 f4 f5⟩
 self:=λ_ _ _ _ _ st h=>wpAny_pyIter_tupleiter st h
def sx{w:jg}{K:zo}{tg:Expr}(it:Addr)(lo:Int)(n:Nat):SA P w K tg (Itr lo n) [it] it (λi h=>IsRangeIter h it (lo+(i:Nat)*1) ((n:Int)-(i:Nat)) 1) where
 mem:=by simp
 obj:=λi h st b hb=>by
  have e:b=it:=by simpa using hb
  subst e;exact⟨_,st,λv z=>by
   have z':Data.fields _=Data.cell v:=z
   cases z'⟩
 keep:=λi h h' st k=>k it (by simp) _ st
 item:=by intro X hP hw hK hc i Li s σ H E I hf st hg;subst hP hw hK;obtain⟨f0,f1,f2,f3,f4,f5⟩:=hf it (by simp);have W:=Walks.range (prog:=X.prog) (w:=X.w) (I.ok.hd hc) it lo 1 n;refine W.item i s _ _ hg st λv h' tk hv Mi kk=>?_;obtain⟨t,rfl⟩:=hv;have I1:Inv X Li σ H {s with heap:=h',toks:=tk}:=I.turned (λb o hb e=>kk b o (by simpa using hb) e) f0 f1 f3 f4 f5;refine⟨_,rfl,wE (s:={s with heap:=h',toks:=tk}) (n:= "range_iterator") Mi rfl rfl (by decide) ⟨.int (lo+i),H,I1,⟨t,?_⟩,⟨rfl,rfl⟩,Mi,λb hb=>(hf b hb).1⟩⟩;rw[Int.mul_one]
 done:=by intro X hP hw hK hc i Li s σ H E I hf st hg;subst hP hw hK;obtain⟨f0,f1,f2,f3,f4,f5⟩:=hf it (by simp);exact wpAny_pyNext_range_end (I.ok.hd hc) st (by have:n<=i:=hg;lia) λh' eb=>⟨rfl,I.turned (t':=s.toks) (λb o hb e=>eb b o hb e) f0 f1 f3 f4 f5⟩
 self:=λ_ _ _ _ _ st h=>wpAny_pyIter_rangeiter st h
section
def Hy{σ:St}{H:Hp}{s:zA}{R:It->Hp->Prop}{lo hi:Int}{t u v:Tok}{tk:Nat}(I:Inv X Li σ H s)(h1: -(2 ^ 62)<=lo)(h2:lo<2 ^ 62)(h3: -(2 ^ 62)<=hi)(h4:hi<2 ^ 62)
 (q:R (Itr lo (hi-lo).toNat) H):zt (zI X.prog X.w) X.A (Jo (.ref s.heap.objs.size)) (PIE X Li σ tg R) E {s with heap:=s.heap.push {cls:=.type "range",data:=.fields #[.int lo t,.int hi u,.int 1 v]},toks:=tk}:=by
 refine wpAny_pyIter_range (IsRange.new ..) (small_one h1 h2 h3 h4) ?_;have I1:Inv X Li σ H {s with heap:=s.heap.push {cls:=.type "range",data:=.fields #[.int lo t,.int hi u,.int 1 v]},toks:=tk}:=I.kept λb o e=>zc _ e;refine⟨(s.heap.push {cls:=.type "range",data:=.fields #[.int lo t,.int hi u,.int 1 v]}).objs.size, [(s.heap.push {cls:=.type "range",data:=.fields #[.int lo t,.int hi u,.int 1 v]}).objs.size],_,_,H,rfl,
  I1.kept (t':=tk) λb o e=>zc _ e,sx _ lo (hi-lo).toNat,?_,λb hb=>?_,q⟩
 ·have e1:lo+((0:Nat):Int)*1=lo:=by simp
  have e2:(((hi-lo).toNat:Nat):Int)-((0:Nat):Int)=Builtin.Range.rangeSize lo hi 1:=by rw[rangeSize_one];split<;>lia
  show IsRangeIter _ _ (lo+((0:Nat):Int)*1) ((((hi-lo).toNat:Nat):Int)-((0:Nat):Int)) 1;rw[e1,e2];exact zu _ rfl
 ·have e:b= (s.heap.push {cls:=.type "range",data:=.fields #[.int lo t,.int hi u,.int 1 v]}).objs.size:=by simpa using hb
  subst e;exact I1.fpOk (zh _) (I1.hok.fresh (zh _))
def ou(ta:TA):TI:=λσ H R=>ta σ H λvs H1=>∃j:Int,vs= [.int j]/\ -(2 ^ 62)<=j/\j<2 ^ 62/\R (Itr 0 j.toNat) H1
def Ib{ta:TA}(hg:Gl X "range")(hm:X.mg "range" =none)(ha:PA X [a] ta)(hs:ja [a] X.env= [(false,eval a X.env)]):PI X tg (.Call (.Name "range" p) [a] [] pos) (ou ta):=by
 intro Li s σ H R I h;refine Call_ (gA I hg hm boot_range (yM (thn (ha pos Li s σ H _ I h) λus s1 Me=>Me.elim λvs H1 I1 r1 q1=>?_) hs rfl));obtain⟨j,e,q1,q2,q⟩:=q1;subst e
 cases r1 with
 |cons r rr=>
   cases rr
   obtain⟨t,rfl⟩:=r;exact call_range_1 (Hy I1 (by lia) (by lia) q1 q2 (by simpa using q))
def Fx(wi:TI)(g:TG)(tb:TS):TS:=λD σ H=>wi σ H λJ H1=>∃W:Nat->Nat->St->Hp->Prop,(∃m,W 0 m σ H1)/\∀i m σ H,W i m σ H->
 (J.stop i H/\D.nx σ H)\/(J.go i H/\∃N:St->Hp->Prop,(∀ X1 H',N X1 H'->∃m',m'<m/\W (i+1) m' X1 H')/\∀x H',J.yld i H x H'->g x σ H' λσ2 H2=>tb {D with nx:=N,ct:=N,bk:=D.nx} σ2 H2)
def GF(fp:List Addr)(h:Heap):PNS:=fp.filterMap λb=>(h.get? b).map λo=>(b,o)
def EG(hb:b∈fp)(e:h.get? b=some o):(b,o)∈GF fp h:=Ze.mpr ⟨b,hb,by rw[e];rfl⟩
def Ce(hp:p∈GF fp h):p.1∈fp/\h.get? p.1=some p.2:=by
 obtain⟨b,hb,e⟩:=Ze.mp hp
 cases q:h.get? b with
 |none=>rw[q]at e;cases e
 |some o=>
   rw[q]at e;have e':(b,o)=p:=jd e;subst e';exact⟨hb,q⟩
def Inv.pinned(I:Inv X Li σ H s)(hf:∀b∈fp,L5 X Li H b)(ho:∀b∈fp,∃o,s.heap.get? b=some o/\∀v,o.data≠ .cell v):Inv X (Li++GF fp s.heap) σ H s:=
 I.pins_of λp hp=>(zB.mp hp).elim (λz=>I.pin p (zS _ z)) λz=>by obtain⟨hb,e⟩:=Ce z;obtain⟨f0,f1,f2,_⟩:=hf p.1 hb;obtain⟨o,e',d⟩:=ho p.1 hb;rw[e]at e';cases e';exact⟨e,f0,f1,f2,d⟩
def Inv.unpinned(I:Inv X (Li++pl) σ H s):Inv X Li σ H s:=I.pins_of λp hp=>I.pin p (zS _ (jP _ hp))
inductive PL(X:Cx)(Li:PNS)(fp:List Addr)(tn:Nat->Heap->Prop)(W:Nat->Nat->St->Hp->Prop)(n:Nat)(s':zA):Prop
|mk (i:Nat) (X1:St) (H':Hp) (I:Inv X Li X1 H' s') (st:tn i s'.heap) (fr:∀b∈fp,H' b=none) (w:W i n X1 H')
def cu{body:List Stmt}{g:TG}{tb:TS}{Li:PNS}{D:vC}{it:Addr}{fp:List Addr}{tn:Nat->Heap->Prop}{J:It}(hp:∀e s,X.xe e s->EE e s)(hc:X.calm=true)(hg:PG X tg g)(hb:PSs X body tb)
 (T:SA X.prog X.w X.K tg J fp it tn) (stat:∀ {H':Hp},(∀b∈fp,H' b=none)->∀b∈fp,L5 X Li H' b)
 (turn:∀i m σ H,W i m σ H->
 (J.stop i H/\D.nx σ H)\/(J.go i H/\∃N:St->Hp->Prop,(∀ X1 H',N X1 H'->∃m',m'<m/\W (i+1) m' X1 H')/\∀x H',J.yld i H x H'->g x σ H' λσ2 H2=>tb {D with nx:=N,ct:=N,bk:=D.nx} σ2 H2))
   {n:Nat} {s3:zA} (h3:PL X Li fp tn W n s3) {NX:zA->Prop} (nx:∀m s,m<n->PL X Li fp tn W m s->NX s):
   zt (zI X.prog X.w) X.A (yW (.ref it)) (λr s1=>match r with
    |none=>zt (zI X.prog X.w) X.A (execs [] X.env) (λf s2=>SP X Li D f s2) EE s1
    | some v => zt (zI X.prog X.w) X.A (Zi tg (.ref it) v) (λ_ s2 => zt (zI X.prog X.w) X.A (Xs tg X.env v) (λ_ s4 => zt (zI X.prog X.w) X.A (execs body X.env) (λf s5 => match f with
       | .next| .cont=>NX s5
       | .brk=>SP X Li D .next s5
       | .ret v=>SP X Li D (.ret v) s5) EE s4) EE s2) EE s1) EE s3:=by
 obtain⟨i,WJ,H3,I3,st3,fr3,w3⟩:=h3;rcases turn i n WJ H3 w3 with⟨stop,qn⟩|⟨go,N,hN,step⟩
 ·refine yg (T.done X rfl rfl rfl hc i Li s3 WJ H3 X.xe I3 (stat fr3) st3 stop) (λr s4 z1=>?_) hp;obtain⟨hr,I4⟩:=z1;subst hr;exact Xx ⟨WJ,H3,I4,qn⟩
 ·refine yg (T.item X rfl rfl rfl hc i Li s3 WJ H3 X.xe I3 (stat fr3) st3 go) (λr s4 z2=>?_) hp;obtain⟨u,hr,h4⟩:=z2;subst hr;refine yg h4 (λ_ s5 z3=>?_) hp;obtain⟨x,H5,I5,r5,y5,st5,fr5⟩:=z3;have I5':=I5.pinned (stat fr5) (T.obj _ _ st5);refine yg (hg _ s5 WJ H5 x u _ I5' r5 (step x H5 y5)) (λ_ s6 z4=>?_) hp;obtain⟨WN,H6,I6,q6⟩:=z4;refine yg (hb _ s6 WN H6 _ I6 q6) (λf s7 q7=>?_) hp;have again:∀ {WL:St} {H7:Hp},Inv X (Li++GF fp s5.heap) WL H7 s7->N WL H7->NX s7:=λ{WL H7} I7 n7=>by
   obtain⟨m',hm,w7⟩:=hN WL H7 n7;refine nx m' _ hm ⟨i+1,WL,H7,I7.unpinned,T.keep _ _ _ st5 λb hb o e=>(I7.pin (b,o) (zS _ (zS _ (EG hb e)))).1,λb hb=>?_,w7⟩;obtain⟨o,e,d⟩:=T.obj _ _ st5 b hb;exact(I7.pin (b,o) (zS _ (zS _ (EG hb e)))).2.1
  cases f with
  |next=>obtain⟨WL,H7,I7,n7⟩:=q7;exact again I7 n7
  |cont=>obtain⟨WL,H7,I7,n7⟩:=q7;exact again I7 n7
  |brk=>obtain⟨WL,H7,I7,q7⟩:=q7;exact⟨WL,H7,I7.unpinned,q7⟩
  |ret v=>obtain⟨x7,WL,H7,I7,r7,q7⟩:=q7;exact⟨x7,WL,H7,I7.unpinned,r7,q7⟩
def Fh(hp:PassesOwn (zI X.prog X.w) X.A X.env X.xe)(hc:X.calm=true)(hi:PI X tg iter wi)(hg:PG X tg g)(hb:PSs X body tb)
 (hs:∀x,xo iter X.env x=pure x):PS X (.For tg iter body [] pos) (Fx wi g tb):=by
 intro Li s σ H D I h;refine wpAny_For (thn (hi Li s σ H _ I h) λv s1 h1=>thn h1 λitv s2 h2=>?_) hs;obtain⟨it,fp,tn,J,H2,e,I2,T,st2,f2,W,⟨m0,w0⟩,turn⟩:=h2;subst e
 -- what stays true of the iterator's objects through the loop
 have stat:∀ {H':Hp},(∀b∈fp,H' b=none)->∀b∈fp,L5 X Li H' b:=λhn b hb=>⟨hn b hb,(f2 b hb).2⟩;exact codeAny_forLoop_any (PL X Li fp tn W) (λn s3 h3=>cu hp hc hg hb T stat turn h3 λm s h1 h2=>⟨m,h1,h2⟩) m0 ⟨0,σ,H2,I2,st2,λb hb=>(f2 b hb).1,w0⟩
end
abbrev R2:=V->V->Hp->VK->Prop
def OpR(X:Cx)(f:zm->zm->Sem zm)(r:R2):Prop:=
 ∀(Li:PNS) (s:zA) (σ:St) (H:Hp) (x y:V) (v u:zm) (Q:VK),Inv X Li σ H s->J1 x v->J1 y u->r x y H Q->
  zt (zI X.prog X.w) X.A (f v u) (EP X Li σ Q) X.xe s
def UnR(X:Cx)(f:zm->Sem zm)(r:V->Hp->VK->Prop):Prop:=
 ∀(Li:PNS) (s:zA) (σ:St) (H:Hp) (x:V) (v:zm) (Q:VK),Inv X Li σ H s->J1 x v->r x H Q->
  zt (zI X.prog X.w) X.A (f v) (EP X Li σ Q) X.xe s
def w4(X:Cx)(f:zm)(r:List V->Hp->VK->Prop):Prop:=
 ∀(Li:PNS) (s:zA) (σ:St) (H:Hp) (xs:List V) (us:List zm) (Q:VK),Inv X Li σ H s->u6 xs us->r xs H Q->
  zt (zI X.prog X.w) X.A (call f us) (EP X Li σ Q) X.xe s
def Cv(X:Cx)(r:V->Hp->(Bool->Hp->Prop)->Prop):Prop:=
 ∀(Li:PNS) (s:zA) (σ:St) (H:Hp) (x:V) (v:zm) (Q:Bool->Hp->Prop),Inv X Li σ H s->J1 x v->r x H Q->
  zt (zI X.prog X.w) X.A (truthy v) (TP X Li σ Q) X.xe s
def tOp(r:R2)(ta tb:TE):TE:=λσ H Q=>ta σ H λx H1=>tb σ H1 λy H2=>r x y H2 Q
def tUn(r:V->Hp->VK->Prop)(ta:TE):TE:=λσ H Q=>ta σ H λx H1=>r x H1 Q
def rI(C:Int->Int->Prop)(g:Int->Int->V):R2:=λx y H Q=>∃i j,x= .int i/\y= .int j/\C i j/\Q (g i j) H
def KB(g:Int->Int->V):R2:=λx y H Q=>∃i j,x= .int i/\y= .int j/\Q (g i j) H
def rU(g:Int->V):V->Hp->VK->Prop:=λx H Q=>∃i,x= .int i/\Q (g i) H
section
def AL(ha:PE X a ta)(hb:PE X b tb){Li:PNS}{s:zA}{σ:St}{H:Hp}{R:V->V->Hp->Prop}(I:Inv X Li σ H s)
 (h:ta σ H λx H1=>tb σ H1 λy H2=>R x y H2) {f:zm->zm->Sem zm}
 (hf:∀v u s2 x y H2,Inv X Li σ H2 s2->J1 x v->J1 y u->R x y H2->zt (zI X.prog X.w) X.A (f v u) Q X.xe s2):
 zt (zI X.prog X.w) X.A (eval a X.env) (λv W1=>zt (zI X.prog X.w) X.A (eval b X.env) (λu s₂=>zt (zI X.prog X.w) X.A (f v u) Q X.xe s₂) X.xe W1) X.xe s:=by
 refine thn (ha Li s σ H _ I h) λv s1 Me=>Me.elim λx H1 I1 r1 q1=>?_;refine thn (hb Li s1 σ H1 _ I1 q1) λu s2 Me=>Me.elim λy H2 I2 r2 q2=>?_;exact hf v u s2 x y H2 I2 r1 r2 q2
def pM(ho:OpR X (yG op) r)(ha:PE X a ta)(hb:PE X b tb):PE X (.BinOp a op b pos) (tOp r ta tb):=by intro Li s σ H Q I h;exact wpAny_BinOp (AL ha hb I h λv u s2 x y H2 I2 rx ry q=>ho Li s2 σ H2 x y v u Q I2 rx ry q)
def Pv(ho:UnR X (unaryOp op) r)(ha:PE X a ta):PE X (.UnaryOp op a pos) (tUn r ta):=by intro Li s σ H Q I h;exact UnaryOp_ (thn (ha Li s σ H _ I h) λv s1 Me=>Me.elim λx H1 I1 r1 q1=>ho Li s1 σ H1 x v Q I1 r1 q1)
def opI{C:Int->Int->Prop}{g:Int->Int->Int}
 (rule:∀(i j:Int) (t u:Tok) (s:zA) Q (E:VSP),C i j->Q (.int (g i j) s.toks) {s with toks:=s.toks+1}->zt (zI X.prog X.w) X.A (f (.int i t) (.int j u)) Q E s):
 OpR X f (rI C λi j=>.int (g i j)):=by
 intro Li s σ H x y v u Q I rx ry h;obtain⟨i,j,rfl,rfl,hc,q⟩:=h;obtain⟨t,rfl⟩:=rx;obtain⟨t',rfl⟩:=ry;exact rule i j t t' s _ _ hc ⟨.int (g i j),H,I.tok _,⟨_,rfl⟩,q⟩
def qO{g:Int->Int->Int}
 (rule:∀(i j:Int) (t u:Tok) (s:zA) Q (E:VSP),Q (.int (g i j) s.toks) {s with toks:=s.toks+1}->zt (zI X.prog X.w) X.A (f (.int i t) (.int j u)) Q E s):
 OpR X f (KB λi j=>.int (g i j)):=by
 intro Li s σ H x y v u Q I rx ry h;obtain⟨i,j,rfl,rfl,q⟩:=h;obtain⟨t,rfl⟩:=rx;obtain⟨t',rfl⟩:=ry;exact rule i j t t' s _ _ ⟨.int (g i j),H,I.tok _,⟨_,rfl⟩,q⟩
def OM{g:Int->Int->Bool}
 (rule:∀(i j:Int) (t u:Tok) (s:zA) Q (E:VSP),Q (.bool (g i j)) s->zt (zI X.prog X.w) X.A (f (.int i t) (.int j u)) Q E s):
 OpR X f (KB λi j=>.bl (g i j)):=by
 intro Li s σ H x y v u Q I rx ry h;obtain⟨i,j,rfl,rfl,q⟩:=h;obtain⟨t,rfl⟩:=rx;obtain⟨t',rfl⟩:=ry;exact rule i j t t' s _ _ ⟨.bl (g i j),H,I,rfl,q⟩
def vA(i j:Int):Prop:=0<=j/\j<=1000000/\i.natAbs<2 ^ 64
def MA(i j:Int):Prop:=(-(2 ^ 64)<i/\i<2 ^ 64)\/(-(2 ^ 64)<j/\j<2 ^ 64)
def MA.ok(h:MA i j):IntMulOk i j:=by
 rcases h with⟨h1,h2⟩|⟨h1,h2⟩
 ·exact .of_left (intBits_le_64 h1 h2)
 ·exact .of_right (intBits_le_64 h1 h2)
def Kf:OpR X (yG .Add) (KB λi j=>.int (i+j)):=qO λ_ _ _ _ _ _ _ q=>add_int q
def aV:OpR X (yG .Sub) (KB λi j=>.int (i-j)):=qO λ_ _ _ _ _ _ _ q=>sub_int q
def aZ:OpR X (yG .Mult) (rI MA λi j=>.int (i*j)):=opI λ_ _ _ _ _ _ _ hc q=>mul_int q hc.ok
def uZ:OpR X (yG .Mod) (rI (λ_ j=>0<j) λi j=>.int (i % j)):=opI λi j _ _ _ _ _ hc q=>by have h1:(0:Int)<j:=hc;exact mod_int' (by lia) (by rw[Int.fmod_eq_emod_of_nonneg i (by lia)];exact q)
def uV:OpR X (yG .Pow) (rI vA λi j=>.int (i ^ j.toNat)):=opI λ_ _ _ _ _ _ _ hc q=>pow_int_small hc.1 hc.2.1 hc.2.2 q
def unI{f:zm->Sem zm}{g:Int->Int}
 (rule:∀(i:Int) (t:Tok) (s:zA) Q E,Q (.int (g i) s.toks) {s with toks:=s.toks+1}->zt (zI X.prog X.w) X.A (f (.int i t)) Q E s):
 UnR X f (rU λi=>.int (g i)):=by
 intro Li s σ H x v Q I rx h;obtain⟨i,rfl,q⟩:=h;obtain⟨t,rfl⟩:=rx;exact rule i t s _ _ ⟨.int (g i),H,I.tok _,⟨_,rfl⟩,q⟩
def Dm:UnR X (unaryOp .USub) (rU λi=>.int (-i)):=unI λ_ _ _ _ _ q=>neg_int q
def GN(I:Inv X Li σ H s)(q:Q (.bl k) H)(e:k=k'):EP X Li σ Q (.bool k') s:=by subst e;exact⟨.bl k,H,I,rfl,q⟩
def Hh:OpR X (jf .LtE) (KB λi j=>.bl (decide (i<=j))):=OM λ_ _ _ _ _ _ _ q=>le_int q
def wm:OpR X (jf .Gt) (KB λi j=>.bl (decide (j<i))):=OM λ_ _ _ _ _ _ _ q=>gt_int q
def px:OpR X (jf .GtE) (KB λi j=>.bl (decide (j<=i))):=OM λ_ _ _ _ _ _ _ q=>ge_int q
def LY:OpR X (jf .In) (λx y H Q=>∃i j,x= .str i/\y= .str j/\Q (.bl (!(Yd j i 0 j.length 1).isEmpty)) H):=by intro Li s σ H x y v u Q I rx ry h;obtain⟨i,j,rfl,rfl,q⟩:=h;obtain⟨t,rfl⟩:=rx;obtain⟨t',rfl⟩:=ry;exact in_str (GN I q rfl)
def ny:OpR X (jf .Is) (λx y H Q=>y= .non/\Q (.bl (decide (x= .non))) H):=by
 intro Li s σ H x y v u Q I rx ry h;obtain⟨rfl,q⟩:=h
 cases ry
 refine is_none_gen (GN I q ?_)
 cases x<;>first
  |(cases rx;rfl)
  |(obtain⟨t,rfl⟩:=rx;rfl)
def kn:OpR X (jf .IsNot) (λx y H Q=>y= .non/\Q (.bl (!decide (x= .non))) H):=by
 intro Li s σ H x y v u Q I rx ry h;obtain⟨rfl,q⟩:=h
 cases ry
 refine isnot_none_gen (GN I q ?_)
 cases x<;>first
  |(cases rx;rfl)
  |(obtain⟨t,rfl⟩:=rx;rfl)
def OpR.or(h:OpR X f r)(h':OpR X f r'):OpR X f (λx y H Q=>r x y H Q\/r' x y H Q):=by
 intro Li s σ H x y v u Q I rx ry q;rcases q with q|q
 ·exact h Li s σ H x y v u Q I rx ry q
 ·exact h' Li s σ H x y v u Q I rx ry q
def lq(ho:OpR X (jf op) r)(ha:PE X a ta)(hb:PE X b tb)(hm:Jd op b=false):PE X (.Compare a [op] [b] pos) (tOp r ta tb):=by intro Li s σ H Q I h;exact wpAny_Compare1 (AL ha hb I h λv u s2 x y H2 I2 rx ry q=>ho Li s2 σ H2 x y v u Q I2 rx ry q) hm
def uY(t:TE):TT:=λσ H Q=>t σ H λx H'=>∃k,x= .bl k/\Q k H'
def Nm(ho:OpR X (jf op) r)(ha:PE X a ta)(hb:PE X b tb)(hm:Jd op b=false):PT X (.Compare a [op] [b] pos) (uY (tOp r ta tb)):=by
 intro Li s σ H Q I h;refine wpAny_isTrue_Compare1 (thn (ha Li s σ H _ I h) λv s1 Me=>Me.elim λx H1 I1 r1 q1=>thn (hb Li s1 σ H1 _ I1 q1) λu s2 Me=>Me.elim λy H2 I2 r2 q2=>
  thn (ho Li s2 σ H2 x y v u _ I2 r1 r2 q2) λc s3 ⟨z,H3,I3,r3,k,e,q3⟩=>?_) hm
 subst e
 cases r3
 exact Zz ⟨H3,I3,q3⟩
def bt(r r':R2)(ta tb tc:TE):TE:=λσ H Q=>ta σ H λx H1=>tb σ H1 λy H2=>r x y H2 λz H3=>∃k,z= .bl k/\
 (if k=true then tc σ H3 λw' H4=>r' y w' H4 Q else Q (.bl false) H3)
def sX(ho:OpR X (jf op) r)(ho':OpR X (jf op') r')(ha:PE X a ta)(hb:PE X b tb)(hc:PE X c tc)
 (hm:lastMarks [op,op'] [b,c]=false):PE X (.Compare a [op,op'] [b,c] pos) (bt r r' ta tb tc):=by
 intro Li s σ H Q I h;refine Compare_chain (thn (ha Li s σ H _ I h) λv s1 Me=>Me.elim λx H1 I1 r1 q1=>chain_link (thn (hb Li s1 σ H1 _ I1 q1) λu s2 Me=>Me.elim λy H2 I2 r2 q2=>
  thn (ho Li s2 σ H2 x y v u _ I2 r1 r2 q2) λd s3 ⟨z,H3,I3,r3,k,e,q3⟩=>?_)) hm
 subst e
 cases r3
 refine Zz ?_
 cases k with
 |false=>exact ite_ff ⟨.bl false,H3,I3,rfl,q3⟩
 |true=>exact ite_tt (chain_last (thn (hc Li s3 σ H3 _ I3 q3) λw' s4 ⟨z',H4,I4,r4,q4⟩=>ho' Li s4 σ H4 y z' u w' Q I4 r2 r4 q4))
def pO(K:zo)(x:V)(H:Hp)(k:Bool):Prop:=
 match x with
 | .non=>k=false
 | .bl b=>k=b
 | .int i=>k= (i != 0)
 | .str y=>y.length<=zj/\k= ((y.length:Int) != 0)
 | .byt y=>y.size<=zj/\k= ((y.size:Int) != 0)
 | .ref p=>(∃xs,SqL K H p xs/\k= !xs.isEmpty)\/(∃xs,SqT K H p xs/\k= !xs.isEmpty)\/∃Ln,H p=some (.dK Ln)/\k= !Ln.isEmpty
 |_=>False
def qo(r:KV Ln vs):(!vs.isEmpty)= !Ln.isEmpty:=by
 cases r<;>rfl
def cW(r:u6 xs Ll):(!Ll.toArray.isEmpty)= !xs.isEmpty:=by
 cases r<;>simp
def vD:(zj:Nat)<2 ^ 63:=by rw[xU];decide
def tru_ok:Cv X (λx H Q=>∃k,pO X.K x H k/\Q k H):=by
 intro Li s σ H x v Q I rx h;obtain⟨k,e,q⟩:=h;have hl:=vD;have hs:zj=16777216:=xU
 cases x with
 |non=>
   cases rx
   have e':k=false:=e;subst e';exact truthy_none ⟨H,I,q⟩
 |bl b=>
   cases rx
   have e':k=b:=e;subst e';exact Zz ⟨H,I,q⟩
 |int i=>
   obtain⟨t,rfl⟩:=rx;have e':k= (i != 0):=e;subst e';exact PySem.P.truthy_int ⟨H,I,q⟩
 |str y=>
   obtain⟨t,rfl⟩:=rx;obtain⟨hy,e'⟩:y.length<=zj/\k= ((y.length:Int) != 0):=e;subst e';exact PySem.P.truthy_str (by lia) ⟨H,I.tok _,q⟩
 |byt y=>
   obtain⟨t,rfl⟩:=rx;obtain⟨hy,e'⟩:y.size<=zj/\k= ((y.size:Int) != 0):=e;subst e';exact PySem.W.truthy_bytes (by lia) ⟨H,I.tok _,q⟩
 |ref p=>
   cases rx
   have e':(∃xs,SqL X.K H p xs/\k= !xs.isEmpty)\/(∃xs,SqT X.K H p xs/\k= !xs.isEmpty)\/∃Ln,H p=some (.dK Ln)/\k= !Ln.isEmpty:=e;rcases e' with⟨xs,hx,e'⟩|⟨xs,hx,e'⟩|⟨Ln,hx,e'⟩
   ·subst e';obtain⟨Ll,r,pl,hz⟩:=I.list hx;have Lr:=r.length;exact wpAny_truthy_list pl.isList (by simp only[zr];lia) ⟨H,I.tok _,by rw[cW r];exact q⟩
   ·subst e';obtain⟨Ll,r,pl,hz⟩:=I.tuple hx;have Lr:=r.length;exact truthy_tuple pl (by simp only[zr];lia) ⟨H,I.tok _,by rw[cW r];exact q⟩
   ·subst e';obtain⟨hz,hS,vs,r,m⟩:Ln.length<=zj/\(p==xH)=false/\∃vs,KV Ln vs/\s.heap.DictOf (N8 X.prog X.w) p vs:=I.hok p _ hx;have Lr:Ln.length=vs.length:=xw r;exact wpAny_truthy_dict hS m (by lia) ⟨H,I.tok _,by rw[qo r];exact q⟩
 |_=>exact(show False from e).elim
def dl(ha:PE X a ta)(he:∀whole,isTrue a X.env whole= (do let v <-whole;standAt a.pos;Yq [v] (truthy v))):
 PT X a (λσ H Q=>ta σ H λx H'=>∃k,pO X.K x H' k/\Q k H'):=by
 intro Li s σ H Q I h;exact isTrue_plain (thn (ha Li s σ H _ I h) λv s1 Me=>Me.elim λx H1 I1 r1 q1=>tru_ok Li s1 σ H1 x v Q I1 r1 q1) (he _)
def Df:OpR X (yG .Add) (λx y H Q=>∃i j,x= .str i/\y= .str j/\i.length+j.length<=zj/\Q (.str (i++j)) H):=by intro Li s σ H x y v u Q I rx ry h;obtain⟨i,j,rfl,rfl,hz,q⟩:=h;obtain⟨t,rfl⟩:=rx;obtain⟨t',rfl⟩:=ry;exact add_str (λt' tk=>⟨.str (i++j),H,I.tok _,⟨_,rfl⟩,q⟩) hz
def C9(r:u6 [x] us):∃u,us= [u]/\J1 x u:=by
 cases r with
 |cons r1 r2=>cases r2;exact⟨_,rfl,r1⟩
def lF(r:u6 [x,y] us):∃u w',us= [u,w']/\J1 x u/\J1 y w':=by
 cases r with
 |cons r1 r2=>
   cases r2 with
   |cons r3 r4=>cases r4;exact⟨_,_,rfl,r1,r3⟩
def ue:w4 X (.builtin "abs") (λxs H Q=>∃i,xs= [.int i]/\Q (.int (if i<0 then -i else i)) H):=by intro Li s σ H xs us Q I r h;obtain⟨i,rfl,q⟩:=h;obtain⟨u,rfl,t,rfl⟩:=C9 r;exact call_abs_int λu tk=>⟨.int (if i<0 then -i else i),H,I.tok _,⟨_,rfl⟩,q⟩
def wv(hc:X.calm=true):w4 X (.builtin "max") (λxs H Q=>∃i j,xs= [.int i,.int j]/\Q (.int (if j>i then j else i)) H):=by
 intro Li s σ H xs us Q I r h;obtain⟨i,j,rfl,q⟩:=h;obtain⟨u,w',rfl,⟨t,rfl⟩,⟨t',rfl⟩⟩:=lF r;refine max_two_ints (I.ok.hd hc) λh' tk k=>⟨_,H,I.kept k,?_,q⟩;by_cases hj:j>i
 ·rw[if_pos hj,if_pos hj];exact⟨_,rfl⟩
 ·rw[if_neg hj,if_neg hj];exact⟨_,rfl⟩
def Lk(hc:X.calm=true):w4 X (.builtin "min") (λxs H Q=>∃i j,xs= [.int i,.int j]/\Q (.int (if j<i then j else i)) H):=by
 intro Li s σ H xs us Q I r h;obtain⟨i,j,rfl,q⟩:=h;obtain⟨u,w',rfl,⟨t,rfl⟩,⟨t',rfl⟩⟩:=lF r;refine min_two_ints (I.ok.hd hc) λh' tk k=>⟨_,H,I.kept k,?_,q⟩;by_cases hj:j<i
 ·rw[if_pos hj,if_pos hj];exact⟨_,rfl⟩
 ·rw[if_neg hj,if_neg hj];exact⟨_,rfl⟩
end
structure ObjM(h:Heap)(x dx C:Addr)(mA:Str->Option zm):Prop where
 obj:h.get? x=some (PySem.W.instObj C dx)
 ns:h.Ns1 dx mA
 ne:dx≠x
section
variable{prog:zU}{w:jg}{A:js}{E:VSP}{s:zA}{K:zo}{x dx C f:Addr}{mA:Str->Option zm}{name:Str}{v:zm}
end
def putF(f:Str)(v:V):List (Str×V)->List (Str×V)
|[]=> [(f,v)]
|(g,x)::r=>if g=f then (g,v)::r else (g,x)::putF f v r
def pB.some_of(r:pB (some v) o):∃u,o=some u/\J1 v u:=by
 cases o with
 |none=>exact(show False from r).elim
 |some u=>exact⟨u,rfl,r⟩
section
end
structure Cls(K:zo)(C:Addr):Prop where
 pg:PySem.W.plainGet K C Str.empty=true
 hd:PySem.W.hasDictIn K C=true
 po:PySem.W.plainOver K C=true
 sa:ZS K (.ref C) "__setattr__" =some (some (.builtin "object.__setattr__"))
structure Con(K:zo)(C:Addr)(f:Str)(v:V)(u:zm):Prop where
 at_:ZS K (.ref C) f=some (some u)
 rel:J1 v u
 get:PySem.W.specialIn K u "__get__" =some none
 cp:PySem.W.copiedNames.contains f=false
structure Meth(K:zo)(C:Addr)(m:Str)(f:Addr):Prop where
 at_:ZS K (.ref C) m=some (some (.ref f))
 fn:PySem.W.isFn K (.ref f)=true
 kp:yL K (.ref f)=true
section
inductive lA(K:zo)(H:Hp):V->zm->Prop where
|non:lA K H .non (.type "NoneType")
|bl (x:Bool):lA K H (.bl x) (.type "bool")
|int (i:Int):lA K H (.int i) (.type "int")
|str (x:Str):lA K H (.str x) (.type "str")
|flt (x:UInt64):lA K H (.flt x) (.type "float")
|lst {a:Addr} {xs:List V} (e:H a=some (.lst xs)):lA K H (.ref a) (.type "list")
|frz {a:Addr} {o:Obj} {xs:List V} (e:H a=some (.frz o (.lst xs))):lA K H (.ref a) (.type "list")
|tup {a:Addr} {xs:List V} (e:H a=some (.tup xs)):lA K H (.ref a) (.type "tuple")
|dK {a:Addr} {Ln:List (Key×V)} (e:H a=some (.dK Ln)):lA K H (.ref a) (.type "dict")
|dT {a:Addr} {Ln:List (List Key×V)} (e:H a=some (.dT Ln)):lA K H (.ref a) (.type "dict")
|ins {a C dx:Addr} {fs:List (Str×V)} (e:H a=some (.ins C dx fs)) (cl:Cls K C) (ha:ZS K (.ref C) "__class__" =some (some (.builtin "object.__class__")))
   (hn:PySem.W.specialIn K (.builtin "object.__class__") "__get__" =some (some (.builtin "getset_descriptor.__get__"))) (htk:PySem.W.takesIn K (.builtin "object.__class__")=some true)
   (hm:PySem.W.mroIn K C (.type "object")=some true):lA K H (.ref a) (.ref C)
end
structure U1(k:Nat)(A:js):Prop where
 hd:A.handled=none
 dp:A.depth+3*k+5<recursionLimit
 un:A.units+16*k+200<xF
 gd:A.guards=some []
def U1.mono(r:U1 k A)(h:j<=k):U1 j A:=⟨r.hd,by have:=r.dp;lia,by have:=r.un;lia,r.gd⟩
def U1.deeper(r:U1 (k+1) A)(env:Env):U1 k (A.deeper env):=
 ⟨r.hd,by have:=r.dp;show A.depth+1+3*k+5<_;lia,by have:=r.un;show A.units+3+16*k+200<_;lia,r.gd⟩
def U1.depth(r:U1 k A):A.depth<recursionLimit:=by have:=r.dp;lia
def U1.units(r:U1 k A):A.units+64<xF:=by have:=r.un;lia
def hU:TA:=λ_ H Q=>Q [] H
def Pj(ta:TE)(tr:TA):TA:=λσ H Q=>ta σ H λx H1=>tr σ H1 λxs H2=>Q (x::xs) H2
section
def Fc:PA X [] hU:=λ_ _ _ _ H Q I h=>xG ⟨[],H,I,.nil,h⟩
def vc(ha:PE X e te)(hr:PA X es t)(hs:ja (e::es) X.env= (false,eval e X.env)::ja es X.env):PA X (e::es) (Pj te t):=by intro pos Li s σ H Q I h;rw[hs];show zt _ _ (spliced ((false,eval e X.env)::xV pos (ja es X.env))) _ _ s;refine xt (thn (ha Li s σ H _ I h) λu s1 Me=>Me.elim λx H1 I1 r1 q1=>?_);exact thn (hr pos Li s1 σ H1 _ I1 q1) λus s2 Me=>Me.elim λxs H2 I2 r2 q2=>⟨x::xs,H2,I2,.cons r1 r2,q2⟩
def ul(t:TA):TE:=λσ H Q=>t σ H λxs H1=>xs.length<=zj/\∀p,H1 p=none->Q (.ref p) (upd H1 p (.tup xs))
def lY(t:TA):TE:=λσ H Q=>t σ H λxs H1=>xs.length<=zj/\∀p,H1 p=none->Q (.ref p) (upd H1 p (.lst xs))
def tu{x1}(h:PA X es t):PE X (.Tuple es x1 pos) (ul t):=by intro Li s σ H Q I hq;refine wpAny_Tuple_spliced (thn (h pos Li s σ H _ I hq) λus s1 ⟨xs,H1,I1,r,z,q⟩=>⟨by rw[<-r.length];exact z,?_⟩);have hf:H1 s1.heap.objs.size=none:=I1.hok.fresh (zh _);refine⟨.ref s1.heap.objs.size,upd H1 s1.heap.objs.size (.tup xs),I1.laid (t':=s1.toks) (λb u e=>zc _ e) (zh _) ?_,rfl,q _ hf⟩;exact⟨z,us,r,⟨_,zu _ rfl,rfl,_,rfl⟩⟩
def mX(h:PA X es t):PE X (.List es pos) (lY t):=by intro Li s σ H Q I hq;refine wpAny_List_spliced (thn (h pos Li s σ H _ I hq) λus s1 ⟨xs,H1,I1,r,z,q⟩=>⟨by rw[<-r.length];exact z,?_⟩);have hf:H1 s1.heap.objs.size=none:=I1.hok.fresh (zh _);refine⟨.ref s1.heap.objs.size,upd H1 s1.heap.objs.size (.lst xs),I1.laid (t':=s1.toks) (λb u e=>zc _ e) (zh _) ?_,rfl,q _ hf⟩;exact⟨z,us,0,r,zu _ rfl⟩
end
abbrev Sp:=List V->Hp->VK->XK->Prop
abbrev CXT:=List Env->Hp->zA->XK->VSP
structure cI(P:zU)(w:jg)(K:zo)(mg:Str->Option zm)(base:Heap)(A:js)(outer:List Env)(s:zA)(H:Hp):Prop where
 frames:A.frames=some outer
 mod:Mod K mg base
 bs:∀b o,base.get? b=some o->s.heap.get? b=some o/\H b=none
 bsz:base.objs.size<=s.heap.objs.size
 funs:s.heap.FunFrames base outer
 frf:∀b∈frs outer,H b=none
 hok:HOk P w H s.heap
 bare:XW s.gens
def CE(outer:List Env)(P:zU)(w:jg)(H:Hp)(s:zA)(Q:VK)(u:zm)(s':zA):Prop:=
 ∃v H',s'.os=s.os/\XW s'.gens/\Un (frs outer) [] H H' s.heap s'.heap/\HOk P w H' s'.heap/\J1 v u/\Q v H'
def CR(CX:CXT)(outer:List Env)(P:zU)(w:jg)(H:Hp)(s:zA)(Q:VK)(E:XK)(r:Result)(s':zA):Prop:=
 match r with
 | .ok (.ret u)=>CE outer P w H s Q u s'
 | .ok _=>False
 | .error e=>CX outer H s E e s'
structure F4(P:zU)(w:jg)(K:zo)(mg:Str->Option zm)(base:Heap)(CX:CXT)(k:Nat)(f:Addr)(fd:xW)(ps:List Str)(sp:Sp):Prop where
 len:∀vs H Q E,sp vs H Q E->vs.length=ps.length
 run:∀(A:js) (outer:List Env) (s:zA) (H:Hp) (args:Args) (us:List zm) (vs:List V) (Q:VK) (E:XK),U1 k A->cI P w K mg base A outer s H->Xt s fd args (ps.zip us)->u6 vs us->sp vs H Q E->
  xZ (zI P w) A (.call (.ref f) args) (CR CX outer P w H s Q E) s
def F4.imp{P:zU}{w:jg}{K:zo}{base:Heap}{CX:CXT}{k:Nat}{f:Addr}{fd:xW}{ps:List Str}{sp sp':Sp}(F:F4 P w K mg base CX k f fd ps sp)
 (h:∀vs H Q E,sp' vs H Q E->sp vs H Q E):F4 P w K mg base CX k f fd ps sp':=
 ⟨λvs H Q E q=>F.len vs H Q E (h _ _ _ _ q),λA outer s H args us vs Q E hr he hb hv hs=>F.run A outer s H args us vs Q E hr he hb hv (h _ _ _ _ hs)⟩
section
def Inv.env0(I:Inv X Li σ H s):cI X.prog X.w X.K X.mg X.base X.A X.stack s H:=
 ⟨I.ok.frames,I.ok.mod,I.bs,zq I.ok.bsz I.sz,I.stack,I.stkFree,I.hok,I.bare⟩
def Inv.after(I:Inv X Li σ H s)(h:CE X.stack X.prog X.w H s Q u s'):EP X Li σ Q u s':=by obtain⟨v,H',os,bare,un,hok,r,q⟩:=h;obtain⟨hh,g,d,t,os'⟩:=s';obtain rfl:os'=s.os:=os;exact⟨v,H',I.call (h':=hh) (g':=g) (d':=d) (t':=t) (ch:= []) un hok bare (λb z=>absurd z (by simp)),r,q⟩
end
def DQ(sp:Sp)(dvs:List V)(E:XK)(t:TA):TE:=λσ H Q=>t σ H λvs H1=>sp (vs++dvs) H1 Q E
def qB(K:zo)(fd:xW)(ps:List Str)(ds:List zm):Prop:=
 ∀(s:zA) (us:List zm),K.In s.heap->(us++ds).length=ps.length->Xt s fd ⟨us, []⟩ (ps.zip (us++ds))
def qB.all{K:zo}{ps:List Str}(h:∀us:List zm,us.length=ps.length->bindArgs fd ⟨us, []⟩=pure (ps.zip us)):qB K fd ps []:=λs us _ hl=>by rw[Zc]at hl ⊢;exact .of_eq (h us hl)
def VI(CX:CXT)(X:Cx)(E:XK):Prop:=∀(Li:PNS) (σ:St) (H:Hp) (s:zA) (e:zm) (s':zA),Inv X Li σ H s->CX X.stack H s E e s'->X.xe e s'
section
def cX(F:F4 X.prog X.w X.K X.mg X.base CX k f fd ps sp)(hr:U1 k X.A)(hb:qB X.K fd ps ds)(hd:u6 dvs ds)(hx:VI CX X E)
 (I:Inv X Li σ H s) (r:u6 vs us) (h:sp (vs++dvs) H Q E):zt (zI X.prog X.w) X.A (call (.ref f) us) (EP X Li σ Q) X.xe s:=by
 have r2:u6 (vs++dvs) (us++ds):=r.append hd;have hl:(us++ds).length=ps.length:=by rw[<-r2.length];exact F.len _ _ _ _ h
 refine wpAny_call (Yr (F.run X.A X.stack s H ⟨us, []⟩ (us++ds) (vs++dvs) Q E hr I.env0 (hb s us I.kIn hl) r2 h) λr s' hq=>?_)
 cases r with
 |error e=>exact hx Li σ H s e s' I hq
 |ok fl=>
   cases fl with
   |ret u=>exact I.after hq
   |next=>exact xu hq
   |brk=>exact xu hq
   |cont=>exact xu hq
def Hk(F:F4 X.prog X.w X.K X.mg X.base CX k f fd ps sp)(hr:U1 k X.A)(hg:Gl X x)(hm:X.mg x=some (.ref f))(hk:yL X.K (.ref f)=true)(hb:qB X.K fd ps ds)(hd:u6 dvs ds)(hx:VI CX X E)
 (ha:PA X (e::es) t) (hdb:(x==("__debug__" :Str))=false) (he:ja (e::es) X.env= (false,eval e X.env)::ja es X.env) (No:(xV pos (ja es X.env)).any (·.1)=false):
 PE X (.Call (.Name x p) (e::es) [] pos) (DQ sp dvs E t):=by
 intro Li s σ H Q I h;refine yO (AN I hg hm ?_ hdb);refine PySem.W.callWith_K (h₀:=X.base) I.ok.mod.kin hk (thn (ha pos Li s σ H _ I h) λus s1 Me=>Me.elim λvs H1 I1 r q=>⟨I1.kIn,?_⟩) he No;exact cX F hr hb hd hx I1 r q
def gf(F:F4 X.prog X.w X.K X.mg X.base CX k f fd ps sp)(hr:U1 k X.A)(hg:Gl X x)(hm:X.mg x=some (.ref f))(hk:yL X.K (.ref f)=true)(hb:qB X.K fd ps ds)(hd:u6 dvs ds)(hx:VI CX X E)
 (hdb:(x==("__debug__" :Str))=false):PE X (.Call (.Name x p) [] [] pos) (DQ sp dvs E hU):=by
 intro Li s σ H Q I h;refine yO (AN I hg hm ?_ hdb);exact PySem.W.callWith_K0 I.kIn hk (cX (us:= []) F hr hb hd hx I .nil h)
structure Mk(K:zo)(C f:Addr):Prop where
 makes:PySem.W.makesIn K C=true
 init:ZS K (.ref C) "__init__" =some (some (.ref f))
 fn:PySem.W.isFn K (.ref f)=true
 kp:yL K (.ref C)=true
end
def PK(X:Cx)(kws:List Keyword)(t:TA):Prop:=
 ∀(pos:Pos) (Li:PNS) (s:zA) (σ:St) (H:Hp) (Q:List V->Hp->Prop),Inv X Li σ H s->t σ H Q->zt (zI X.prog X.w) X.A (evalAll ((backToKw pos (XO kws X.env)).map (·.2))) (AP X Li σ Q) X.xe s
section
structure KBinds(K:zo)(fd:xW)(ps ks:List Str)(g:List zm->List zm->List zm)(gV:List V->List V->List V):Prop where
 to:∀(s:zA) (us ws:List zm),K.In s.heap->(g us ws).length=ps.length->Xt s fd ⟨us,ks.zip ws⟩ (ps.zip (g us ws))
 rel:∀ {vs:List V} {us:List zm} {zs:List V} {ws:List zm},u6 vs us->u6 zs ws->u6 (gV vs zs) (g us ws)
end
structure L9(N P:List Str)(sc:Scope):Prop where
 kind:sc.kind= .function
 co:sc.isCoroutine=false
 gen:sc.isGenerator=false
 nd:N.Nodup
 pre:N.take P.length=P
 par:∀x∈P,sc.names.lookup x=some .local\/sc.names.lookup x=some .cell
 nofree:∀y∈sc.names,y.2≠ .free
theorem qR{Zq:Str->Option NameKind}{x:Str}:∀ {binds} {m:Str->Option zm},(∀v,(x,v)∉binds)->bindL Zq binds m x=m x
|[],_,_=>rfl
|(n,v)::r,m,h=>by
 unfold bindL;rw[qR λw hw=>h w (ze _ hw)];split
 ·have:x≠n:=by rintro rfl;exact h v zg
  simp[this]
 ·rfl
theorem mP{Zq:Str->Option NameKind}{x:Str}:∀ {binds} {m:Str->Option zm},(∀v,(x,v)∉binds)->bindC Zq binds m x=m x
|[],_,_=>rfl
|(n,v)::r,m,h=>by
 unfold bindC;rw[mP λw hw=>h w (ze _ hw)];split
 ·rfl
 ·have:x≠n:=by rintro rfl;exact h v zg
  simp[this]
theorem NS{Zq:Str->Option NameKind}{x:Str}{v:zm}:∀ {P:List Str} {vs:List zm} {i:Nat} {m},P.Nodup->P[i]? =some x->vs[i]? =some v->Zq x=some .local->
 bindL Zq (P.zip vs) m x=some v
 |[],_,_,_,_,h,_,_=>by simp at h
 |_::_, [],_,_,_,_,h,_=>by simp at h
 |p::P,w::vs,0,m,nd,h1,h2,hk=>by simp at h1 h2;subst h1;subst h2;show bindL Zq ((p,w)::P.zip vs) m p=_;unfold bindL;rw[qR λv hv=>(yQ.mp nd).1 (xB hv).1,if_pos hk];simp
 |p::P,w::vs,i+1,m,nd,h1,h2,hk=>by show bindL Zq ((p,w)::P.zip vs) m x=_;unfold bindL;exact NS (i:=i) (yQ.mp nd).2 (by simpa using h1) (by simpa using h2) hk
theorem wW{Zq:Str->Option NameKind}{x:Str}{v:zm}:∀ {P:List Str} {vs:List zm} {i:Nat} {m},P.Nodup->P[i]? =some x->vs[i]? =some v->Zq x≠some .local->
 bindC Zq (P.zip vs) m x=some v
 |[],_,_,_,_,h,_,_=>by simp at h
 |_::_, [],_,_,_,_,h,_=>by simp at h
 |p::P,w::vs,0,m,nd,h1,h2,hk=>by simp at h1 h2;subst h1;subst h2;show bindC Zq ((p,w)::P.zip vs) m p=_;unfold bindC;rw[mP λv hv=>(yQ.mp nd).1 (xB hv).1,if_neg hk];simp
 |p::P,w::vs,i+1,m,nd,h1,h2,hk=>by show bindC Zq ((p,w)::P.zip vs) m x=_;unfold bindC;exact wW (i:=i) (yQ.mp nd).2 (by simpa using h1) (by simpa using h2) hk
def start(N:List Str)(vs:List V):St:=vs.map some++jx (N.length-vs.length) none
def OA(CX:CXT)(P:zU)(w:jg)(K:zo)(mg:Str->Option zm)(base:Heap)(N:List Str)(qual:Str)(scope:Scope)(f:Addr)(cd:zm)(A:js)(outer:List Env)(s:zA)(H:Hp)(E:XK):Cx where
 prog:=P
 w:=w
 K:=K
 mg:=mg
 base:=base
 A:=A.deeper (Xd qual scope s.heap.objs.size f cd)
 N:=N
 WV:=s
 H₀:=H
 env:=Xd qual scope s.heap.objs.size f cd
 outer:=outer
 stack:=Xd qual scope s.heap.objs.size f cd::outer
 ex:= []
 calm:=true
 fn:=λ_=>true
 pn:= []
 xe:=λe s'=>zt (zI P w) (A.deeper (Xd qual scope s.heap.objs.size f cd)) (leaving (Xd qual scope s.heap.objs.size f cd) e) (λ_ s''=>CX outer H s E e s'') (λe' s''=>CX outer H s E e' s'') s'
def dR{sc:Scope}{x:Str}(h:sc.names.lookup x=some .cell):∃c,(cellsFrom n sc.names []).lookup x=some c:=by have q:=JX sc.names n [] (.inl h);exact JO.mp q
def Bv{CX:CXT}{P:zU}{w:jg}{K:zo}{mg:Str->Option zm}{base:Heap}{N ps:List Str}{qual:Str}{scope:Scope}{f:Addr}{cd:zm}{A:js}{outer:List Env}{s s1:zA}{H:Hp}{E:XK}{us:List zm}{vs:List V}
 (S:L9 N ps scope) (hd:A.handled=none) (gd:A.guards=some []) (e0:cI P w K mg base A outer s H) (hl:vs.length=ps.length) (r:u6 vs us)
 (x:InCallC s s.heap.objs.size (bindL (Xd qual scope s.heap.objs.size f cd).kindOf (ps.zip us) λ_=>none) (cellsFrom (s.heap.objs.size+1) scope.names []) (bindC (Xd qual scope s.heap.objs.size f cd).kindOf (ps.zip us) λ_=>none) s1):
 Inv (OA CX P w K mg base N qual scope f cd A outer s H E) [] (start N vs) H s1:=by
 have No:ps.length<=N.length:=by have:=congrArg Zf S.pre;rw[jW]at this;lia
 obtain⟨h1,tk,rfl,hk⟩:=x.done;have noA:∀b:Addr,b∉(OA CX P w K mg base N qual scope f cd A outer s H E).ex:=λb z=>absurd (show b∈([]:List Addr)from z) (by simp);refine⟨⟨e0.mod,S.kind,rfl,rfl,zh _,λy z c h1 h2=>?_,λy hy=>?_,λy c _ h=>?_,λ_=>hd,Around.frames_deeper e0.frames,.inr ⟨rfl,rfl⟩,λb z=>absurd z (noA b),e0.bs,e0.bsz,λb _ _=>noA b,λb z=>absurd z (noA b),e0.funs,e0.frf,gd⟩,
  rfl,e0.bare,Un.kept hk,⟨_,x.toInCall.ns,λi y v h1 h2 h3=>?_⟩,λy c h=>⟨_,x.cell y c h⟩,e0.hok.fresh (zh _),λy c h=>?_,λp hp=>absurd (show p∈([]:PNS)from hp) (by simp),e0.hok.kept hk,?_⟩
 ·exact name_of_addr x.apart (xn h1) (xn h2)
 ·have hy:scope.names.lookup y=some .cell\/scope.names.lookup y=some .free:=hy;rcases hy with hy|hy
  ·exact dR hy
  ·exact absurd rfl (S.nofree _ (xn hy))
 ·exact yj (x.above y c (xn h))
 ·have hi:i<vs.length:=by
   unfold start at h2;by_cases hi:i<vs.length
   ·exact hi
   ·rw[xb (by simpa using hi)]at h2;rw[List.getElem?_replicate]at h2;split at h2<;>cases h2
  have ha:vs[i]? =some v:=by
   unfold start at h2;rw[zE (by simpa using hi),jl]at h2
   cases e:vs[i]? with
   |none=>rw[e]at h2;cases h2
   |some a=>rw[e]at h2;cases h2;rfl
  obtain⟨u,hu,rv⟩:=r.get ha;have hp:ps[i]? =some y:=by rw[<-S.pre,List.getElem?_take_of_lt (by lia)];exact h1
  have ndP:ps.Nodup:=by rw[<-S.pre];exact S.nd.sublist (List.take_sublist _ _)
  refine⟨u,rv,?_⟩;rcases S.par y (jz hp)with k|k
  ·exact .inl ⟨k,NS ndP hp hu k⟩
  ·obtain⟨c,e⟩:=dR (n:=s.heap.objs.size+1) k;refine .inr ⟨.inl k,c,e,?_⟩;have q:=x.cell y c e;rw[wW ndP hp hu (by show scope.names.lookup y≠_;rw[k];decide)]at q;exact q
 ·exact e0.hok.fresh (yj (x.above y c (xn h)))
 ·unfold start;show _=N.length;rw[zv,zd,List.length_replicate];lia
def Cb{CX:CXT}{P:zU}{w:jg}{K:zo}{mg:Str->Option zm}{base:Heap}{k:Nat}{f:Addr}{name qual:Str}{params:Arguments}{body:List Stmt}{scope:Scope}{dV kV doc pm Ms ct oc:zm}{an od:Option Addr}
 {N ps:List Str} {sp:Sp} (lk:K.lookup f=some ⟨oc,od,.func (yS name qual params body scope dV kV doc pm an Ms ct),osl⟩) (hcd:ZU K Ms qual=true) (S:L9 N ps scope)
 (len:∀vs H Q E,sp vs H Q E->vs.length=ps.length)
 (hbody:∀(A:js) (outer:List Env) (s:zA) (H:Hp) (vs:List V) (Q:VK) (E:XK),U1 k (A.deeper (Xd qual scope s.heap.objs.size f Ms))->sp vs H Q E->
   ∃t,PSs (OA CX P w K mg base N qual scope f Ms A outer s H E) body t/\t {nx:=λ_ H'=>Q .non H',rt:=Q} (start N vs) H):
 F4 P w K mg base CX (k+1) f (yS name qual params body scope dV kV doc pm an Ms ct) ps sp:=by
 refine⟨len,λA outer s H args us vs Q E hr e0 hb r hsp=>?_⟩;have hl:=len _ _ _ _ hsp;have KX:K.In s.heap:=e0.mod.kin.keeps λb o e=>(e0.bs b o e).1;have lim:s.heap.NoLimit:=e0.mod.nolimit.keeps λb o e=>(e0.bs b o e).1;have hkind:∀y∈ps.zip us,scope.names.lookup y.1=some .local\/(scope.names.lookup y.1=some .cell/\((cellsFrom (s.heap.objs.size+1) scope.names []).lookup y.1).isSome=true):=fun⟨n,v⟩ hy=>by
  rcases S.par n (xB hy).1 with q|q
  ·exact .inl q
  ·exact .inr ⟨q,JX _ _ _ (.inl q)⟩
 refine codeAny_call_function hr.depth (KX _ _ lk) rfl S.co S.gen rfl (PySem.W.codeRec_of KX hcd) (hb _ _ _ _ ?_);refine wpAny_newFunctionEnv_cells S.kind hkind λenv he s1 x=>?_;subst he;refine⟨lim.keeps x.toInCall.keep,codeAny_func ?_⟩;obtain⟨t,ht,hq⟩:=hbody A outer s H vs Q E (hr.deeper _) hsp;have I:Inv (OA CX P w K mg base N qual scope f Ms A outer s H E) [] (start N vs) H s1:=Bv S hr.hd hr.gd e0 hl r x;refine yg (ht [] s1 (start N vs) H _ I hq) (λfl s' hs=>?_) λe s' hs=>hs;have fin:∀ {X1:St} {H':Hp} {v:V} {u:zm},Inv (OA CX P w K mg base N qual scope f Ms A outer s H E) [] X1 H' s'->J1 v u->Q v H'->CE outer P w H s Q u s':=
  λ{X1 H' v u} J rv q=>⟨v,H',J.os,J.bare,J.base,J.hok,rv,q⟩
 cases fl with
 |ret u=>
   obtain⟨v,X1,H',J,rv,q⟩:=hs;exact fin J rv q
 |next=>
   obtain⟨X1,H',J,q⟩:=hs;exact fin (v:=V.non) (u:=Value.none) J rfl q
 |brk=>
   obtain⟨_,_,_,q⟩:=hs;exact xu q
 |cont=>
   obtain⟨_,_,_,q⟩:=hs;exact xu q
section
variable{X:Cx}{x:Str}{p pos:Pos}{e:Expr}{es:List Expr}{t:TA}{id T:String}{r:List V->Hp->VK->Prop}
def tCB(r:List V->Hp->VK->Prop)(t:TA):TE:=λσ H Q=>t σ H λvs H1=>r vs H1 Q
def Kv(hc:w4 X (.builtin id) r)(hg:Gl X x)(hm:X.mg x=none)(hv:jp x=some (.builtin id))(ha:PA X (e::es) t)(hn:x≠ "__name__")(hdb:(x==("__debug__" :Str))=false)
 (he:ja (e::es) X.env= (false,eval e X.env)::ja es X.env) (No:(xV pos (ja es X.env)).any (·.1)=false):PE X (.Call (.Name x p) (e::es) [] pos) (tCB r t):=by
 intro Li s σ H Q I h;refine yO (gA I hg hm hv ?_ hn hdb);exact PyProof.Rows.callWith_builtin1 (thn (ha pos Li s σ H _ I h) λus s1 Me=>Me.elim λvs H1 I1 r1 q1=>hc Li s1 σ H1 vs us Q I1 r1 q1) he No
def Eh(hc:w4 X (.type T) r)(hg:Gl X x)(hm:X.mg x=none)(hv:jp x=some (.type T))(ha:PA X (e::es) t)(hn:x≠ "__name__")(hdb:(x==("__debug__" :Str))=false)
 (he:ja (e::es) X.env= (false,eval e X.env)::ja es X.env) (No:(xV pos (ja es X.env)).any (·.1)=false):PE X (.Call (.Name x p) (e::es) [] pos) (tCB r t):=by
 intro Li s σ H Q I h;refine yO (gA I hg hm hv ?_ hn hdb);exact yM (thn (ha pos Li s σ H _ I h) λus s1 Me=>Me.elim λvs H1 I1 r1 q1=>hc Li s1 σ H1 vs us Q I1 r1 q1) he No
end
end L2
namespace HT
open PySem PyProof.Rows
section
open PySem.SeqAt
open PySem.AutoSeq1 (wpAny_loadPart')
open PySem.MeetsSeq PySem.MeetsSeq2 PySem.MeetsSeq3
end
section
def cat_tup(ht:IsTup s.heap t vs.toArray)(hb:IsTup s.heap b ws.toArray)(hv:vs≠ [])
 (h1:ws= []->Q (.ref t) s) (h2:ws≠ []->Q (.ref s.heap.objs.size) {s with heap:=s.heap.push {cls:=.type "tuple",data:=.seq (vs++ws).toArray}})
 (hsz:vs.length+ws.length<=zj):zt (zI prog w) A (yG .Add (.ref t) (.ref b)) Q E s:=by
 obtain⟨⟨cls,dd,data,sl⟩,ho,hc,n,hd⟩:=id ht;obtain⟨⟨cls2,dd2,data2,sl2⟩,Nl,hc2,n2,hd2⟩:=id hb;simp only at hc hd hc2 hd2;subst hc hd hc2 hd2;have e:vs.toArray++ws.toArray= (vs++ws).toArray:=by simp
 by_cases hw:ws= []
 ·exact concat_meets ⟨_,ho,rfl⟩ ⟨_,Nl,rfl⟩ JW seq_tuple_add YE Yu (Yn _ _)
   (tuple_addW1 t b vs.toArray ws.toArray n n2 dd dd2 sl sl2 (by simpa using hv) (by simp[hw])) ⟨ho,Nl,h1 hw⟩
 ·refine concat_meets ⟨_,ho,rfl⟩ ⟨_,Nl,rfl⟩ JW seq_tuple_add YE Yu (Yn _ _)
   (tuple_addW2 t b vs.toArray ws.toArray n n2 dd dd2 sl sl2 (by simpa using hv) (by simpa using hw) (by rw[zr,zr];exact hsz)) ⟨ho,Nl,?_⟩
  rw[e];exact h2 hw
def sIx(n d:Nat):Option Int->Nat
|none=>d
|some v=>if v<0 then (v+(n:Int)).toNat else min v.toNat n
def sIx_none(n d:Nat):sIx n d none=d:=rfl
def sIx_nat(n d k:Nat):sIx n d (some (k:Int))=min k n:=by show (if (k:Int)<0 then ((k:Int)+(n:Int)).toNat else min (k:Int).toNat n)=min k n;rw[if_neg (by lia),jR]
def bp(n d:Nat)(hd:d<=n)(o:Option Int):sIx n d o<=n:=by
 cases o with
 |none=>exact hd
 |some v=>
   show (if v<0 then (v+(n:Int)).toNat else min v.toNat n)<=n;by_cases hv:v<0
   ·rw[if_pos hv];lia
   ·rw[if_neg hv];exact Nat.min_le_right _ _
def AQ(v:Int)(n d:Nat):(if v<0 then max (v+(n:Int)) 0 else min v (n:Int))= ((sIx n d (some v):Nat):Int):=by
 show (if v<0 then max (v+(n:Int)) 0 else min v (n:Int))= (((if v<0 then (v+(n:Int)).toNat else min v.toNat n):Nat):Int);by_cases hv:v<0
 ·simp only[if_pos hv];lia
 ·simp only[if_neg hv];lia
def Sj(lo hi:Option Int)(n:Nat):ZD lo hi 1 (n:Int)= (((sIx n 0 lo:Nat):Int),((sIx n n hi:Nat):Int)):=by
 have h1:¬((1:Int)<0):=by lia
 unfold ZD;simp only[h1,if_false];refine Prod.ext ?_ ?_
 ·cases lo with
  |none=>rfl
  |some v=>exact AQ v n 0
 ·cases hi with
  |none=>rfl
  |some v=>exact AQ v n n
def Db(i j:Nat):xA (i:Int) (j:Int) 1=j-i:=by
 unfold xA;have h1:(1:Int)>0:=by lia
 simp only[h1,if_true,Int.ediv_one];split<;>lia
def AU(p:IsPart v o)(h:Q o s):zt (zI prog w) A (Builtin.Slice.slicePartIndex v) Q E s:=by
 cases p with
 |none=>exact slicePart_none h
 |int i t=>exact slicePart_int h
def sliceApplied_gen{sl:Addr}{vl vu:zm}{lo hi:Option Int}{n:Nat}(hs:s.heap.IsSliceOf sl vl vu .none)(pl:IsPart vl lo)(pu:IsPart vu hi)
 (h:Q (((sIx n 0 lo:Nat):Int),1,sIx n n hi-sIx n 0 lo) s):zt (zI prog w) A (XF (.ref sl) (pure (n:Int))) Q E s:=by
 obtain⟨os,hos,hcs,hds⟩:=id hs;unfold XF Builtin.Slice.sliceFields;refine za (za (jS hos hds (x:=vl) rfl (za (jS hos hds (x:=vu) rfl (za (jS hos hds (x:=.none) rfl (zf ?_)))))));refine za (slicePart_none ?_);show zt _ _ (if ((1:Int)==0)=true then _ else _) _ _ s;rw[if_neg (by decide)];refine za (AU pl (za (AU pu (za (zf ?_)))));show zt _ _ (match ZD lo hi 1 (n:Int) with|(lo,hi)=>pure (lo,(1:Int),xA lo hi 1)) _ _ s;rw[Sj lo hi n];show zt _ _ (pure (((sIx n 0 lo:Nat):Int),(1:Int),xA ((sIx n 0 lo:Nat):Int) ((sIx n n hi:Nat):Int) 1)) _ _ s;rw[Db];exact zf h
def ak(xs:Array zm)(i k:Nat):((zP k).filterMap fun(m:Nat)=>xs[((i:Int)+(m:Int)*1).toNat]?).toArray= ((xs.toList.drop i).take k).toArray:=by
 have e:(fun(m:Nat)=>xs[((i:Int)+(m:Int)*1).toNat]?)=λm=>xs[i+m]? :=by
  funext m;have:((i:Int)+(m:Int)*1).toNat=i+m:=by lia
  rw[this]
 rw[e];have:=pick_run xs i k;rw[Ym]at this;have e2:((λx=>xs[x]?)∘λx=>i+x)=λm=>xs[i+m]? :=rfl;rw[e2]at this;rw[this]
def getItem_tuple_cut{t sl:Addr}{vl vu:zm}{lo hi:Option Int}(ht:IsTup s.heap t items)(hs:s.heap.IsSliceOf sl vl vu .none)(pl:IsPart vl lo)(pu:IsPart vu hi)
 (hw:¬(sIx items.size 0 lo=0/\sIx items.size items.size hi=items.size))
 (h:Q (.ref s.heap.objs.size) {s with heap:=s.heap.push {cls:=.type "tuple",data:=.seq ((items.toList.drop (sIx items.size 0 lo)).take (sIx items.size items.size hi-sIx items.size 0 lo)).toArray}})
 (hsz:items.size<=zj):zt (zI prog w) A (JD (.ref t) (.ref sl)) Q E s:=by
 have htake:sizeOk (.seq ((items.toList.drop (sIx items.size 0 lo)).take (sIx items.size items.size hi-sIx items.size 0 lo)).toArray):=by show ((items.toList.drop (sIx items.size 0 lo)).take (sIx items.size items.size hi-sIx items.size 0 lo)).toArray.size<=zj;rw[zr,jW,xr,zG];lia
 have hj:sIx items.size items.size hi<=items.size:=bp _ _ (zh _) hi;obtain⟨os,hos,hcs,hds⟩:=id hs;have hTs:s.TypeIs (.ref sl) "slice":=⟨os,hos,hcs⟩;unfold JD
 try with_reducible refine jk ?_
 first|refine za (zf ?_)|skip
 refine za (wpAny_sequenceKey ht.typeIs (by decide) ?_);refine za (ju (name:=yh "__getitem__") ht.typeIs jV
  (jn jV ht.typeIs entry_tuple_getitem ?_ (args_tuple_getitem _ _)))
 show zt _ _ (XE (.ref t) >>= _) _ _ s;refine za (tupleItemsOf_ ht ?_);refine za (Zy hTs ?_);rw[if_pos (by decide)];refine za (sliceApplied_gen hs pl pu ?_);have hno:¬((((sIx items.size 0 lo:Nat):Int)==0&&(1:Int)==1&&(sIx items.size items.size hi-sIx items.size 0 lo)==items.size)=true):=by intro q;rw[zy,zy]at q;have q1:((sIx items.size 0 lo:Nat):Int)=0:=YC q.1.1;have q2:sIx items.size items.size hi-sIx items.size 0 lo=items.size:=YC q.2;exact hw ⟨by lia,by lia⟩
 show zt _ _ (if (((sIx items.size 0 lo:Nat):Int)==0&&(1:Int)==1&&(sIx items.size items.size hi-sIx items.size 0 lo)==items.size)=true then _ else _) _ _ s;rw[if_neg hno,ak]
 first
  |exact za (m:=xJ _) (yV (zf ⟨_,rfl,zf h⟩) htake)
  |exact za (m:=xJ _) (yV (za (zf (zf ⟨_,rfl,zf h⟩))) htake)
  |exact za (za (m:=xJ _) (yV (zf (zf ⟨_,rfl,zf h⟩)) htake))
  |exact za (za (m:=xJ _) (yV (zf ⟨_,rfl,zf h⟩) htake))
end
end HT
namespace L2
open PySem PySem.Spec PyProof.Rows
abbrev TO:=St->Hp->(Option Int->Hp->Prop)->Prop
def PO(X:Cx)(e:Option Expr)(t:TO):Prop:=
 ∀(Li:PNS) (s:zA) (σ:St) (H:Hp) (Q:Option Int->Hp->Prop),Inv X Li σ H s->t σ H Q->
  zt (zI X.prog X.w) X.A (evalPart e X.env) (λu s'=>∃o H',Inv X Li σ H' s'/\IsPart u o/\Q o H') X.xe s
def Hi:TO:=λ_ H Q=>Q none H
def Ho(t:TE):TO:=λσ H Q=>t σ H λx H1=>∃i,x= .int i/\Q (some i) H1
section
variable{X:Cx}{e:Expr}{te:TE}{lo hi:Option Expr}{tl th:TO}{pos p2:Pos}
def wY:PO X none Hi:=by intro Li s σ H Q I h;rw[evalPart_none];exact zf ⟨none,H,I,.none,h⟩
def Ao(h:PE X e te):PO X (some e) (Ho te):=by intro Li s σ H Q I hw;rw[evalPart_some];refine thn (h Li s σ H _ I hw) λu s1 Me=>Me.elim λx H1 I1 r1 q1=>?_;obtain⟨i,rfl,q⟩:=q1;obtain⟨t,rfl⟩:=r1;exact⟨some i,H1,I1,.int i t,q⟩
def SlR(X:Cx)(r:V->Option Int->Option Int->Hp->VK->Prop):Prop:=
 ∀(Li:PNS) (s:zA) (σ:St) (H:Hp) (x:V) (v vl vu:zm) (lo hi:Option Int) (sl:Addr) (Q:VK),Inv X Li σ H s->J1 x v->s.heap.IsSliceOf sl vl vu .none->IsPart vl lo->IsPart vu hi->r x lo hi H Q->
  ∃T id,typeLookup (.type T) "__getitem__" =pure (some (.builtin id))/\s.TypeIs v T/\zt (zI X.prog X.w) X.A (JD v (.ref sl)) (EP X Li σ Q) X.xe s
def SlR.or(h:SlR X r)(h':SlR X r'):SlR X (λx lo hi H Q=>r x lo hi H Q\/r' x lo hi H Q):=by
 intro Li s σ H x v vl vu lo hi sl Q I rx hs pl pu q;rcases q with q|q
 ·exact h Li s σ H x v vl vu lo hi sl Q I rx hs pl pu q
 ·exact h' Li s σ H x v vl vu lo hi sl Q I rx hs pl pu q
def tSl(r:V->Option Int->Option Int->Hp->VK->Prop)(te:TE)(tl th:TO):TE:=λσ H Q=>te σ H λx H1=>tl σ H1 λl H2=>th σ H2 λu H3=>r x l u H3 Q
def Ah(hr:SlR X r)(he:PE X e te)(hl:PO X lo tl)(hu:PO X hi th):PE X (.Subscript e (.Slice lo hi none p2) pos) (tSl r te tl th):=by intro Li s σ H Q I h;refine Subscript_ (thn (he Li s σ H _ I h) λv s1 Me=>Me.elim λx H1 I1 r1 q1=>?_);refine wpAny_Slice (thn (hl Li s1 σ H1 _ I1 q1) λvl s2 ⟨l,H2,I2,pl,q2⟩=>thn (hu Li s2 σ H2 _ I2 q2) λvu s3 ⟨u,H3,I3,pu,q3⟩=>?_);rw[evalPart_none];refine zf ?_;have I4:Inv X Li σ H3 {s3 with heap:=s3.heap.push {cls:=.type "slice",data:=.fields #[vl,vu,.none]}}:=I3.kept (t':=s3.toks) λb ob q=>zc _ q;obtain⟨T,id,hT,ht,hg⟩:=hr Li {s3 with heap:=s3.heap.push {cls:=.type "slice",data:=.fields #[vl,vu,.none]}} σ H3 x v vl vu l u s3.heap.objs.size Q I4 r1 (Heap.IsSliceOf.new ..) pl pu q3;show zt (zI X.prog X.w) X.A (subscriptTail e (.Slice lo hi none p2) v (.ref s3.heap.objs.size)) (EP X Li σ Q) X.xe {s3 with heap:=s3.heap.push {cls:=.type "slice",data:=.fields #[vl,vu,.none]}};exact tail_any (ops:= [.ref s3.heap.objs.size,v]) ht hT hg (by with_unfolding_all rfl)
def RA(xs:List V)(lo hi:Option Int):List V:=(xs.drop (HT.sIx xs.length 0 lo)).take (HT.sIx xs.length xs.length hi-HT.sIx xs.length 0 lo)
def nW(xs:List V)(lo hi:Option Int):(RA xs lo hi).length<=xs.length:=by unfold RA;rw[jW,xr];lia
def Ff(K:zo):V->Option Int->Option Int->Hp->VK->Prop:=λx lo hi H Q=>∃a xs,x= .ref a/\SqT K H a xs/\
 ¬(HT.sIx xs.length 0 lo=0/\HT.sIx xs.length xs.length hi=xs.length)/\∀p,H p=none->Q (.ref p) (upd H p (.tup (RA xs lo hi)))
def sl_tup:SlR X (Ff X.K):=by
 intro Li s σ H x v vl vu lo hi sl Q I rx hs pl pu h;obtain⟨a,xs,rfl,hx,hw,q⟩:=h
 cases rx
 obtain⟨Ll,r,ht,hz⟩:=I.tuple hx;have Lr:Ll.toArray.size=xs.length:=by rw[zr];exact r.length.symm
 refine⟨"tuple",_,jV.lookup,ht.typeIs,?_⟩;refine HT.getItem_tuple_cut ht hs pl pu (by rw[Lr];exact hw) ?_ (by rw[Lr];exact hz);rw[Lr];refine⟨.ref s.heap.objs.size,_,I.laid (t':=s.toks) (o:=.tup (RA xs lo hi)) (λb ob q=>zc _ q) (zh _) ?_,rfl,q _ (I.hok.fresh (zh _))⟩;exact⟨zq (nW xs lo hi) hz,_,(r.drop (HT.sIx xs.length 0 lo)).take (HT.sIx xs.length xs.length hi-HT.sIx xs.length 0 lo),P9.new _ _⟩
def HZ(K:zo):R2:=λx y H Q=>∃a b xs ys,x= .ref a/\y= .ref b/\SqT K H a xs/\SqT K H b ys/\xs≠ []/\xs.length+ys.length<=zj/\
 (ys= []->Q (.ref a) H)/\(ys≠ []->∀p,H p=none->Q (.ref p) (upd H p (.tup (xs++ys))))
def u6.nil_iff(r:u6 xs us):us= []↔xs= []:=by
 cases r with
 |nil=>simp
 |cons _ _=>simp
def Cn:OpR X (yG .Add) (HZ X.K):=by
 intro Li s σ H x y v u Q I rx ry h;obtain⟨a,b,xs,ys,rfl,rfl,ha,hb,hx,hz,q1,q2⟩:=h
 cases rx
 cases ry
 obtain⟨Ll,r1,p1,_⟩:=I.tuple ha;obtain⟨Mu,r2,p2,_⟩:=I.tuple hb;refine HT.cat_tup p1 p2 (λz=>hx (r1.nil_iff.mp z)) (λz=>⟨.ref a,H,I,rfl,q1 (r2.nil_iff.mp z)⟩) (λz=>?_) (by rw[<-r1.length,<-r2.length];exact hz);refine⟨.ref s.heap.objs.size,_,I.laid (t':=s.toks) (o:=.tup (xs++ys)) (λb ob q=>zc _ q) (zh _) ?_,rfl,q2 (λw=>z (r2.nil_iff.mpr w)) _ (I.hok.fresh (zh _))⟩;exact⟨by rw[zv];exact hz,_,r1.append r2,P9.new _ _⟩
end
def ixN(n:Nat)(i:Int):Option Nat:=if 0<=i then (if i<n then some i.toNat else none)else if -(n:Int)<=i then some (i+n).toNat else none
def atI{α:Type}(xs:List α)(i:Int):Option α:=(ixN xs.length i).bind λj=>xs[j]?
def MO(h:ixN n i=some j):seqIndex? i n=some j/\j<n/\ -(n:Int)<=i/\i<n:=by
 unfold ixN at h;by_cases h0:0<=i
 ·rw[if_pos h0]at h;by_cases h1:i<n
  ·rw[if_pos h1]at h;have e:i.toNat=j:=jd h;exact⟨by rw[seqIndex_of h0 h1,e],by lia,by lia,h1⟩
  ·rw[if_neg h1]at h;cases h
 ·rw[if_neg h0]at h;by_cases h1: -(n:Int)<=i
  ·rw[if_pos h1]at h;have e:(i+n).toNat=j:=jd h;exact⟨by rw[seqIndex_neg (by lia) h1,e],by lia,h1,by lia⟩
  ·rw[if_neg h1]at h;cases h
def FL(h:atI xs i=some v):∃j,seqIndex? i xs.length=some j/\xs[j]? =some v/\j<xs.length/\ -(xs.length:Int)<=i/\i<xs.length:=by
 unfold atI at h
 cases e:ixN xs.length i with
 |none=>rw[e]at h;cases h
 |some j=>
   rw[e]at h;obtain⟨h1,h2,h3,h4⟩:=MO e;exact⟨j,h1,h,h2,h3,h4⟩
def atI_nat{xs:List α}{j:Nat}{v:α}(h:xs[j]? =some v):atI xs (j:Int)=some v:=by
 have hj:j<xs.length:=(xh.mp h).1;have e:ixN xs.length (j:Int)=some j:=by unfold ixN;rw[if_pos (by lia),if_pos (by lia)];simp
 unfold atI;rw[e];exact h
def Di(xs:List α)(v:α):atI (xs++[v]) (-1)=some v:=by
 have hl:(xs++[v]).length=xs.length+1:=by simp
 have e:ixN (xs++[v]).length (-1)=some xs.length:=by unfold ixN;rw[hl,if_neg (by decide),if_pos (by lia)];congr 1;lia
 unfold atI;rw[e];show (xs++[v])[xs.length]? =some v;simp
def lJ(b:Expr):Prop:=∀o i,subscripted b false o i=operate [o,i] (JD o i)
def IxR(X:Cx)(r:R2):Prop:=
 ∀(value slice:Expr) (Li:PNS) (s:zA) (σ:St) (H:Hp) (x y:V) (v u:zm) (Q:VK),Inv X Li σ H s->J1 x v->J1 y u->r x y H Q->
  subscripted slice false v u=operate [v,u] (JD v u)->zt (zI X.prog X.w) X.A (subscriptTail value slice v u) (EP X Li σ Q) X.xe s
def MtR(X:Cx)(id:String)(r:V->List V->Hp->VK->Prop):Prop:=
 ∀(Li:PNS) (s:zA) (σ:St) (H:Hp) (x:V) (xs:List V) (v:zm) (us:List zm) (Q:VK),Inv X Li σ H s->J1 x v->u6 xs us->r x xs H Q->
  zt (zI X.prog X.w) X.A (call (.builtin id) (v::us)) (EP X Li σ Q) X.xe s
section
variable{X:Cx}
def IxR.or(h:IxR X r)(h':IxR X r'):IxR X (λx y H Q=>r x y H Q\/r' x y H Q):=by
 intro value slice Li s σ H x y v u Q I rx ry q hs;rcases q with q|q
 ·exact h value slice Li s σ H x y v u Q I rx ry q hs
 ·exact h' value slice Li s σ H x y v u Q I rx ry q hs
def Im(hr:IxR X r)(ha:PE X a ta)(hb:PE X b tb)(hs:lJ b):PE X (.Subscript a b pos) (tOp r ta tb):=by intro Li s σ H Q I h;exact Subscript_ (AL ha hb I h λv u s2 x y H2 I2 rx ry q=>hr a b Li s2 σ H2 x y v u Q I2 rx ry q (hs _ _))
def tY(K:zo):R2:=λx y H Q=>∃p xs i v,x= .ref p/\y= .int i/\SqL K H p xs/\atI xs i=some v/\Q v H
def Tm(K:zo):R2:=λx y H Q=>∃p xs i v,x= .ref p/\y= .int i/\SqT K H p xs/\atI xs i=some v/\Q v H
def qu:R2:=λx y H Q=>∃z i c,x= .str z/\y= .int i/\z.length<=zj/\atI z.cps.toList i=some c/\Q (.str ⟨#[c]⟩) H
def tw:IxR X (tY X.K):=by
 intro value slice Li s σ H x y v u Q I rx ry h hs;obtain⟨p,xs,i,z,rfl,rfl,hq,he,q⟩:=h
 cases rx
 obtain⟨t,rfl⟩:=ry;obtain⟨Ll,r,pl,hz⟩:=I.list hq;obtain⟨j,h1,h2,h3,h4,h5⟩:=FL he;obtain⟨w,ew,rw'⟩:=r.get h2;have hl:=r.length;have hn:=vD;have fin:EP X Li σ Q w s:=⟨z,H,I,rw',q⟩;by_cases h0:0<=i
 ·have hj:i.toNat=j:=by
   rw[seqIndex_of h0 h5]at h1;exact jd h1
  exact item_listR pl.isList h0 (by lia) (by rw[hj];simpa using ew) fin hs
 ·have hj:(i+(Ll.toArray.size:Int)).toNat=j:=by
   rw[seqIndex_neg (by lia) h4]at h1;rw[zr,<-hl];exact jd h1
  exact Xu (x:=w) pl.isList.typeIs slot_list_getitem.lookup
   (wpAny_getItem_list_neg (Q:=λr s'=>r=w/\EP X Li σ Q r s') pl.isList (by lia) (by rw[zr]<;>lia) (by lia) (by rw[hj];simpa using ew) ⟨rfl,fin⟩) hs
def ix_tup:IxR X (Tm X.K):=by
 intro value slice Li s σ H x y v u Q I rx ry h hs;obtain⟨p,xs,i,z,rfl,rfl,hq,he,q⟩:=h
 cases rx
 obtain⟨t,rfl⟩:=ry;obtain⟨Ll,r,pl,hz⟩:=I.tuple hq;obtain⟨j,h1,h2,h3,h4,h5⟩:=FL he;obtain⟨w,ew,rw'⟩:=r.get h2;have hl:=r.length;have hn:=vD;have fin:EP X Li σ Q w s:=⟨z,H,I,rw',q⟩;exact Xu (x:=w) pl.typeIs jV.lookup
  (getItem_tuple (j:=j) (Q:=λr s'=>r=w/\EP X Li σ Q r s') pl (by lia) (by lia) (by rw[zr,<-hl];exact h1) (by simpa using ew) ⟨rfl,fin⟩) hs
def Mh:IxR X qu:=by
 intro value slice Li s σ H x y v u Q I rx ry h hs;obtain⟨z,i,c,rfl,rfl,hz,he,q⟩:=h;obtain⟨t,rfl⟩:=rx;obtain⟨t',rfl⟩:=ry;obtain⟨j,h1,h2,h3,h4,h5⟩:=FL he;have hl:z.cps.toList.length=z.length:=by simp[Str.length]
 rw[hl]at h1 h4 h5;have hn:=vD;exact tail_any (typeIs_str s z t) slot_str_getitem.lookup (getItem_str (c:=c) (by have e1:decide (i < -(2 ^ 63:Int))=false:=decide_eq_false (by lia);have e2:decide (i>=2 ^ 63)=false:=decide_eq_false (by lia);rw[e1,e2,Bool.or_false]) (by rw[h1];simpa using h2) ⟨.str ⟨#[c]⟩,H,I.tok _,⟨_,rfl⟩,q⟩) hs
def Ir(Ll:List zm)(n j:Nat)(u:zm):je (·.setIfInBounds j u) {cls:=.type "list",data:=.seq Ll.toArray n}= {cls:=.type "list",data:=.seq (Ll.set j u).toArray n}:=by simp[je]
def Inv.lst(I:Inv X Li σ H s)(h:H p=some (.lst xs)):
 ∃(Ll:List zm) (n:Nat),u6 xs Ll/\s.heap.get? p=some {cls:=.type "list",data:=.seq Ll.toArray n}/\xs.length<=zj:=by
 obtain⟨z,Ll,n,r,e⟩:=I.hok p _ h;exact⟨Ll,n,r,e,z⟩
def Inv.lstUpd{σ:St}{H:Hp}{s:zA}{p:Addr}{xs ys:List V}{Ll its':List zm}{n n':Nat}{f:Obj->Obj}(I:Inv X Li σ H s)(h:H p=some (.lst xs))
 (ho:s.heap.get? p=some {cls:=.type "list",data:=.seq Ll.toArray n}) (hf:f {cls:=.type "list",data:=.seq Ll.toArray n}= {cls:=.type "list",data:=.seq its'.toArray n'}) (r:u6 ys its') (hz:ys.length<=zj) (t:Nat):
 Inv X Li σ (upd H p (.lst ys)) {s with heap:=s.heap.update p f,toks:=t}:=by
 have e:(s.heap.update p f).get? p=some {cls:=.type "list",data:=.seq its'.toArray n'}:=by rw[jT f ho (by rw[hf]<;>rfl),hf]
 refine I.write (x:=p) (e:=p) (by rw[h];trivial) (.inl rfl) (λb u hb q=>(jO _ _ (Ne.symm hb)).trans q) ⟨_,e⟩ ?_;exact⟨hz,its',n',r,e⟩
def dh:V->V->V->Hp->(Hp->Prop)->Prop:=λo i v H Q=>∃p xs k j,o= .ref p/\i= .int k/\H p=some (.lst xs)/\ixN xs.length k=some j/\Q (upd H p (.lst (xs.set j v)))
def sv:eM X dh:=by
 intro Li s σ H o i v ov iv u Q I ro ri rv h;obtain⟨p,xs,k,j,rfl,rfl,hp,hj,q⟩:=h
 cases ro
 obtain⟨t,rfl⟩:=ri;obtain⟨Ll,n,r,ho,hz⟩:=I.lst hp;obtain⟨h1,h2,h3,h4⟩:=MO hj;have hl:=r.length;have hn:=vD;have I':Inv X Li σ (upd H p (.lst (xs.set j v))) {s with heap:=s.heap.update p (je (·.setIfInBounds j u))}:=
  I.lstUpd hp ho (Ir Ll n j u) (r.set rv j) (by rw[Jx];exact hz) s.toks
 by_cases h0:0<=k
 ·have hk:k.toNat=j:=by
   rw[seqIndex_of h0 h4]at h1;exact jd h1
  exact PySem.W.ki_setAt ho h0 (by lia) (by rw[zr,<-hl];exact h4) (by rw[hk];exact⟨_,I',q⟩)
 ·have hk:(k+(Ll.toArray.size:Int)).toNat=j:=by
   rw[seqIndex_neg (by lia) h3]at h1;rw[zr,<-hl];exact jd h1
  exact PySem.W.ki_setBack ho (by lia) (by rw[zr,<-hl];exact h3) (by lia) (by rw[hk];exact⟨_,I',q⟩)
def Ke(lo hi:Option Int)(n:Nat):(Yb lo hi none n).1= ((HT.sIx n 0 lo:Nat):Int)/\(Yb lo hi none n).2.1= ((HT.sIx n n hi:Nat):Int)/\(Yb lo hi none n).2.2=1:=by
 refine⟨?_,?_,rfl⟩
 ·cases lo with
  |none=>simp[Yb,HT.sIx]
  |some i=>
    simp only[Yb,HT.sIx,Option.getD_none,show (1:Int)>0 by decide,if_true];by_cases h:i<0
    ·simp only[h,if_true]<;>lia
    ·simp only[h,if_false]<;>lia
 ·cases hi with
  |none=>simp[Yb,HT.sIx]
  |some i=>
    simp only[Yb,HT.sIx,Option.getD_none,show (1:Int)>0 by decide,if_true];by_cases h:i<0
    ·simp only[h,if_true]<;>lia
    ·simp only[h,if_false]<;>lia
def Ac(Ll:List zm)(lo hi:Option Int):slicePick Ll.toArray lo hi none= ((Ll.drop (HT.sIx Ll.length 0 lo)).take (HT.sIx Ll.length Ll.length hi-HT.sIx Ll.length 0 lo)).toArray:=by obtain⟨h1,h2,h3⟩:=Ke lo hi Ll.toArray.size;unfold slicePick;rw[h1,h2,h3];simp only[sliceRange_one,pick_run,zr]<;>rfl
def cZ(K:zo):V->Option Int->Option Int->Hp->VK->Prop:=λx lo hi H Q=>∃a xs,x= .ref a/\SqL K H a xs/\∀p,H p=none->Q (.ref p) (upd H p (.lst (RA xs lo hi)))
def Ct:SlR X (cZ X.K):=by
 intro Li s σ H x v vl vu lo hi sl Q I rx hs pl pu h;obtain⟨a,xs,rfl,hx,q⟩:=h
 cases rx
 obtain⟨Ll,r,ht,hz⟩:=I.list hx;have Lr:=r.length;refine⟨"list",_,slot_list_getitem.lookup,ht.isList.typeIs,?_⟩;refine wpAny_getItem_list_slice ht.isList hs pl pu .none (by simp) ?_ (by rw[zr]<;>lia);rw[Ac,<-Lr];refine⟨.ref s.heap.objs.size,_,I.laid (t':=s.toks) (o:=.lst (RA xs lo hi)) (λb ob q=>zc _ q) (zh _) ?_,rfl,q _ (I.hok.fresh (zh _))⟩;exact⟨zq (nW xs lo hi) hz,_,0,(r.drop (HT.sIx xs.length 0 lo)).take (HT.sIx xs.length xs.length hi-HT.sIx xs.length 0 lo),zu _ rfl⟩
def FA:V->Bool
| .non=>true
| .bl _=>true
| .int _=>true
| .str _=>true
|_=>false
def eqV:V->V->Bool
| .non,.non=>true
| .bl a,.bl b=>a==b
| .bl a,.int b=>(if a then 1 else 0)==b
| .int a,.bl b=>a==(if b then 1 else 0)
| .int a,.int b=>a==b
| .str a,.str b=>a==b
|_,_=>false
def Ds(ry:J1 y u)(rx:J1 x v)(fy:FA y=true)(fx:FA x=true):xk A s u v (eqV y x):=by
 cases y with
 |non=>
   cases ry
   cases x with
   |non=>cases rx;exact XH _
   |bl b=>cases rx;exact JJ b
   |int b=>obtain⟨t,rfl⟩:=rx;exact SeqAt.EqAt.none_int b t
   |str b=>obtain⟨t,rfl⟩:=rx;exact SeqAt.EqAt.none_str b t
   |_=>exact absurd (show false=true from fx) zZ
 |bl a=>
   cases ry
   cases x with
   |non=>cases rx;exact JK a
   |bl b=>cases rx;exact JL a b
   |int b=>obtain⟨t,rfl⟩:=rx;exact SeqAt.EqAt.bool_int a b t
   |str b=>obtain⟨t,rfl⟩:=rx;exact SeqAt.EqAt.bool_str a b t
   |_=>exact absurd (show false=true from fx) zZ
 |int a=>
   obtain⟨t',rfl⟩:=ry
   cases x with
   |non=>cases rx;exact SeqAt.EqAt.int_none a t'
   |bl b=>cases rx;exact SeqAt.EqAt.int_bool a t' b
   |int b=>obtain⟨t,rfl⟩:=rx;exact SeqAt.EqAt.int_int a t' b t
   |str b=>obtain⟨t,rfl⟩:=rx;exact Xi a t' b t
   |_=>exact absurd (show false=true from fx) zZ
 |str a=>
   obtain⟨t',rfl⟩:=ry
   cases x with
   |non=>cases rx;exact JY a t'
   |bl b=>cases rx;exact JZ a t' b
   |int b=>obtain⟨t,rfl⟩:=rx;exact Xh a t' b t
   |str b=>obtain⟨t,rfl⟩:=rx;exact SeqAt.EqAt.str_str a t' b t
   |_=>exact absurd (show false=true from fx) zZ
 |_=>exact absurd (show false=true from fy) zZ
def eqU(x:V)(u:zm):Bool:=match u with
| .none=>eqV .non x
| .bool b=>eqV (.bl b) x
| .int i _=>eqV (.int i) x
| .str z _=>eqV (.str z) x
|_=>false
def BR(r:J1 y u)(f:FA y=true):eqU x u=eqV y x:=by
 cases y with
 |non=>cases r;rfl
 |bl b=>cases r;rfl
 |int i=>obtain⟨t,rfl⟩:=r;rfl
 |str z=>obtain⟨t,rfl⟩:=r;rfl
 |_=>exact absurd (show false=true from f) zZ
def tJ(h:u6 xs us)(f:xs.all FA=true):us.any (eqU x)=xs.any λy=>eqV y x:=by
 induction h with
 |nil=>rfl
 |cons r t ih=>
   rw[jm,zy]at f;rw[xD,xD,BR r f.1,ih f.2]
theorem KG(rx:J1 x v)(fx:FA x=true):∀ {xs} {us},u6 xs us->xs.all FA=true->∀u∈us,xk A s u v (eqU x u)
|_,_,.nil,_=>λu hu=>by cases hu
|y::xs,u::us,.cons r t,f=>λu' hu=>by
  rw[jm,zy]at f;rcases zn.mp hu with rfl|hu
  ·rw[BR r f.1];exact Ds r rx f.1 fx
  ·exact KG rx fx t f.2 u' hu
def inV(x:V)(xs:List V):Bool:=xs.any λy=>eqV y x
def rIn(K:zo)(neg:Bool):R2:=λx y H Q=>∃p xs,y= .ref p/\(SqL K H p xs\/SqT K H p xs)/\FA x=true/\xs.all FA=true/\Q (.bl (if neg then !inV x xs else inV x xs)) H
def vX:OpR X (jf .In) (rIn X.K false):=by
 intro Li s σ H x y v u Q I rx ry h;obtain⟨p,xs,rfl,hq,fx,fs,q⟩:=h
 cases ry
 rcases hq with hq|hq
 ·obtain⟨Ll,r,pl,hz⟩:=I.list hq;refine SeqAt.in_listAt (eqU x) pl.isList (λw hw=>KG rx fx r fs w (by simpa using hw)) ⟨.bl _,H,I,rfl,?_⟩;rw[show Ll.toArray.any (eqU x)=Ll.any (eqU x) by simp,tJ r fs];exact q
 ·obtain⟨Ll,r,pl,hz⟩:=I.tuple hq;refine SeqAt.in_tupleAt (eqU x) pl (λw hw=>KG rx fx r fs w (by simpa using hw)) ⟨.bl _,H,I,rfl,?_⟩;rw[show Ll.toArray.any (eqU x)=Ll.any (eqU x) by simp,tJ r fs];exact q
def Sm:OpR X (jf .NotIn) (rIn X.K true):=by
 intro Li s σ H x y v u Q I rx ry h;obtain⟨p,xs,rfl,hq,fx,fs,q⟩:=h
 cases ry
 rcases hq with hq|hq
 ·obtain⟨Ll,r,pl,hz⟩:=I.list hq;refine SeqAt.notIn_listAt (eqU x) pl.isList (λw hw=>KG rx fx r fs w (by simpa using hw)) ⟨.bl _,H,I,rfl,?_⟩;rw[show Ll.toArray.any (eqU x)=Ll.any (eqU x) by simp,tJ r fs];exact q
 ·obtain⟨Ll,r,pl,hz⟩:=I.tuple hq;refine SeqAt.notIn_tupleAt (eqU x) pl (λw hw=>KG rx fx r fs w (by simpa using hw)) ⟨.bl _,H,I,rfl,?_⟩;rw[show Ll.toArray.any (eqU x)=Ll.any (eqU x) by simp,tJ r fs];exact q
def qf:OpR X (jf .NotIn) (λx y H Q=>∃i j,x= .str i/\y= .str j/\Q (.bl (!(!(Yd j i 0 j.length 1).isEmpty))) H):=by intro Li s σ H x y v u Q I rx ry h;obtain⟨i,j,rfl,rfl,q⟩:=h;obtain⟨t,rfl⟩:=rx;obtain⟨t',rfl⟩:=ry;exact notIn_str ⟨.bl _,H,I,rfl,q⟩
def Hj:w4 X (.builtin "len") (λxs H Q=>∃p ys,xs= [.ref p]/\(SqL X.K H p ys\/SqT X.K H p ys)/\Q (.int ys.length) H):=by
 intro Li s σ H xs us Q I r h;obtain⟨p,ys,rfl,hq,q⟩:=h;obtain⟨u,rfl,rx⟩:=C9 r
 cases rx
 have hn:=vD;rcases hq with hq|hq
 ·obtain⟨Ll,r',pl,hz⟩:=I.list hq;have Lr:=r'.length;exact Calls.call_len_list pl.isList (by simp only[zr]<;>lia) ⟨.int ys.length,H,I.tok _,⟨s.toks+1,by rw[zr,Lr]⟩,q⟩
 ·obtain⟨Ll,r',pl,hz⟩:=I.tuple hq;have Lr:=r'.length;exact len_tuple pl (by simp only[zr]<;>lia) ⟨.int ys.length,H,I.tok _,⟨s.toks+1,by rw[zr,Lr]⟩,q⟩
def gZ:w4 X (.builtin "len") (λxs H Q=>∃z,xs= [.str z]/\z.length<=zj/\Q (.int z.length) H):=by intro Li s σ H xs us Q I r h;obtain⟨z,rfl,hz,q⟩:=h;obtain⟨u,rfl,t,rfl⟩:=C9 r;have hn:=vD;exact len_str (by lia) ⟨.int z.length,H,I.tok _,⟨_,rfl⟩,q⟩
def w4.or(h:w4 X f r)(h':w4 X f r'):w4 X f (λxs H Q=>r xs H Q\/r' xs H Q):=by
 intro Li s σ H xs us Q I rs q;rcases q with q|q
 ·exact h Li s σ H xs us Q I rs q
 ·exact h' Li s σ H xs us Q I rs q
def Dc:w4 X (.type "list") (λxs H Q=>∃p ys,xs= [.ref p]/\(SqL X.K H p ys\/SqT X.K H p ys)/\∀l,H l=none->Q (.ref l) (upd H l (.lst ys))):=by
 intro Li s σ H xs us Q I r h;obtain⟨p,ys,rfl,hq,q⟩:=h;obtain⟨u,rfl,rx⟩:=C9 r
 cases rx
 have fin:∀(Ll:List zm),u6 ys Ll->ys.length<=zj->∀(h':Heap) (c':Nat),(∀b o',s.heap.get? b=some o'->h'.get? b=some o')->
  h'.get? s.heap.objs.size=some {cls:=.type "list",dict:=none,data:=.seq Ll.toArray c',slots:= #[]}->EP X Li σ Q (.ref s.heap.objs.size) {s with heap:=h'}:=λLl r' hz h' c' kp e=>
  ⟨.ref s.heap.objs.size,_,I.laid (t':=s.toks) kp (zh _) (show T9 X.prog X.w _ h' _ (.lst ys) from⟨hz,Ll,c',r',e⟩),rfl,q _ (I.hok.fresh (zh _))⟩
 rcases hq with hq|hq
 ·obtain⟨Ll,r',pl,hz⟩:=I.list hq;have Lr:=r'.length;obtain⟨o,ho,hc,n,hd⟩:=pl.isList;exact call_list_seq p (.inl rfl) ho hc hd (λh' c' kp e=>fin Ll r' hz h' c' kp e) (by simp only[zr]<;>lia)
 ·obtain⟨Ll,r',pl,hz⟩:=I.tuple hq;have Lr:=r'.length;obtain⟨o,ho,hc,n,hd⟩:=pl;exact call_list_seq p (.inr rfl) ho hc hd (λh' c' kp e=>fin Ll r' hz h' c' kp e) (by simp only[zr]<;>lia)
def Tf:w4 X (.type "tuple") (λxs H Q=>∃p ys,xs= [.ref p]/\((SqL X.K H p ys/\∀l,H l=none->Q (.ref l) (upd H l (.tup ys)))\/(SqT X.K H p ys/\Q (.ref p) H))):=by
 intro Li s σ H xs us Q I r h;obtain⟨p,ys,rfl,h⟩:=h;obtain⟨u,rfl,rx⟩:=C9 r
 cases rx
 rcases h with⟨hq,q⟩|⟨hq,q⟩
 ·obtain⟨Ll,r',pl,hz⟩:=I.list hq;have Lr:=r'.length;refine call_tuple_list pl.isList (λh' kp=>?_) (by simp only[zr]<;>lia);have I1:Inv X Li σ H {s with heap:=h'}:=I.kept (t':=s.toks) kp;have I2:Inv X Li σ (upd H h'.objs.size (.tup ys)) {s with heap:=h'.push {cls:=.type "tuple",data:=.seq Ll.toArray}}:=
   I1.laid (t':=s.toks) (λb o e=>zc _ e) (zh _) (show T9 X.prog X.w _ _ _ (.tup ys) from⟨hz,Ll,r',P9.new _ _⟩)
  exact⟨.ref h'.objs.size,_,I2,rfl,q _ (I1.hok.fresh (zh _))⟩
 ·obtain⟨Ll,r',pl,hz⟩:=I.tuple hq;exact call_tuple_same pl ⟨.ref p,H,I,rfl,q⟩
def tyV(K:zo)(T:String)(x:V)(H:Hp):Prop:=match x with
| .str _=>T= "str"
| .int _=>T= "int"
| .ref p=>(T= "list"/\∃xs,SqL K H p xs)\/(T= "tuple"/\∃o,K.lookup p=some o/\o.cls= .type "tuple"/\o.dict=none)\/
   (T= "dict"/\((∃Ln,H p=some (.dK Ln))\/∃Ln,H p=some (.dT Ln)))\/(T= "set"/\∃S n,H p=some (.set S n))
|_=>False
def rP(I:Inv X Li σ H s)(r:J1 x v)(ty:tyV X.K T x H):
 s.TypeIs v T/\∀a,v= .ref a->∃ob,s.heap.get? a=some ob/\ob.dict=none:=by
 cases x with
 |str z=>
   obtain⟨t,rfl⟩:=r
   cases (show T= "str" from ty)
   exact⟨typeIs_str s z t,λ_ e=>nomatch e⟩
 |int i=>
   obtain⟨t,rfl⟩:=r
   cases (show T= "int" from ty)
   exact⟨typeIs_int s i t,λ_ e=>nomatch e⟩
 |ref p=>
   cases r
   rcases ty with⟨rfl,xs,hq⟩|⟨rfl,o,hk,hc,hd⟩|⟨rfl,hk⟩|⟨rfl,S,n,hk⟩
   ·obtain⟨Ll,_,pl,_⟩:=I.list hq;refine⟨pl.isList.typeIs,λa e=>?_⟩
    cases e
    obtain⟨o,n,e,c,hd,_⟩:=pl;exact⟨o,e,hd⟩
   ·refine⟨⟨o,I.kIn p o hk,hc⟩,λa e=>?_⟩
    cases e
    exact⟨o,I.kIn _ o hk,hd⟩
   ·have z:∃o,s.heap.get? p=some o/\o.ExactDict:=by
     rcases hk with⟨Ln,hk⟩|⟨Ln,hk⟩
     ·obtain⟨_,_,_,_,o,_,_,e,ex,_⟩:=I.hok p _ hk;exact⟨o,e,ex⟩
     ·obtain⟨_,_,_,_,o,_,_,e,ex,_⟩:=I.hok p _ hk;exact⟨o,e,ex⟩
    obtain⟨o,e,ex⟩:=z;refine⟨⟨o,e,ex.1⟩,λa e2=>?_⟩
    cases e2
    exact⟨o,e,ex.2.1⟩
   ·obtain⟨o,_,_,_,e,ex,_⟩:=I.hok p _ hk;refine⟨⟨o,e,ex.1⟩,λa e2=>?_⟩
    cases e2
    exact⟨o,e,ex.2.1⟩
 |_=>exact xu ty
def kX(K:zo)(T:String)(r:V->List V->Hp->VK->Prop)(to:TE):TE:=λσ H Q=>to σ H λx H1=>tyV K T x H1/\r x [] H1 Q
def tBM(K:zo)(T:String)(r:V->List V->Hp->VK->Prop)(to:TE)(t:TA):TE:=λσ H Q=>to σ H λx H1=>tyV K T x H1/\t σ H1 λxs H2=>r x xs H2 Q
variable{o e:Expr}{es:List Expr}{to:TE}{t:TA}{name:Str}{My Ly:Pos}{T id:String}{r:V->List V->Hp->VK->Prop}
def wn(pa:PlainAttrs T)(slot:Slot T name id)(hty:typeOf (.builtin id)=pure (.type "method_descriptor"))(hm:MtR X id r)(ho:PE X o to)
 (hbase:ZY o name X.env (eval o X.env)=eval o X.env) (hline:(My.endLine==Ly.line)=true):PE X (.Call (.Attribute o name My) [] [] Ly) (kX X.K T r to):=by
 intro Li s σ H Q I h;refine wpAny_Call_method0_late hbase hline (thn (ho Li s σ H _ I h) λv s1 ⟨x,H1,I1,r1,ty,q1⟩=>?_);obtain⟨h1,h2⟩:=rP I1 r1 ty;exact⟨T,id,pa,slot,hty,h1,h2,Calls.callWith_builtin rfl (PySem.evalArgs_none (hm Li s1 σ H1 x [] v [] Q I1 r1 .nil q1))⟩
def Dd(pa:PlainAttrs T)(slot:Slot T name id)(hty:typeOf (.builtin id)=pure (.type "method_descriptor"))(hm:MtR X id r)(ho:PE X o to)(ha:PA X (e::es) t)
 (hbase:ZY o name X.env (eval o X.env)=eval o X.env)
 (hfew:((xV Ly (ja (e::es) X.env)).all (λx=> !x.1)&&(backToKw Ly (XO [] X.env)).all (λx=>x.1.isSome)
   && decide ((e::es).length+([]:List Keyword).length+(if ([]:List Keyword).isEmpty then 0 else 1)<30))=true)
 (hline:(My.endLine==Ly.line)=true) (hs:ja (e::es) X.env= (false,eval e X.env)::ja es X.env) (hplain:(xV Ly (ja es X.env)).any (·.1)=false):
 PE X (.Call (.Attribute o name My) (e::es) [] Ly) (tBM X.K T r to t):=by
 intro Li s σ H Q I h;refine wpAny_Call_method_late hbase hfew hline rfl (thn (ho Li s σ H _ I h) λv s1 ⟨x,H1,I1,r1,ty,q1⟩=>?_);obtain⟨h1,h2⟩:=rP I1 r1 ty;refine⟨T,id,pa,slot,hty,h1,h2,?_⟩;have hA:=ha Ly Li s1 σ H1 _ I1 q1;rw[hs]at hA ⊢;refine Calls.callWith_builtin (by show (false||(xV Ly (ja es X.env)).any (·.1))=false;rw[hplain]<;>rfl) (Calls.evalArgs_plain ?_);exact thn hA λus s2 Me=>Me.elim λvs H2 I2 r2 q2=>hm Li s2 σ H2 x vs v us Q I2 r1 r2 q2
end
def MtM(X:Cx)(id:String)(r:V->List V->Hp->VK->Prop):Prop:=
 ∀(Li:PNS) (s:zA) (σ:St) (H:Hp) (x:V) (xs:List V) (v:zm) (us:List zm) (Q:VK),Inv X Li σ H s->J1 x v->u6 xs us->r x xs H Q->
  zt (zI X.prog X.w) X.A (call (.builtin id) (v::us)) (EP X Li σ Q) X.xe s
def u6.one(h:u6 [x] us):∃u,us= [u]/\J1 x u:=by
 cases h with
 |cons r t=>cases t;exact⟨_,rfl,r⟩
def u6.zero:∀ {us},u6 [] us->us= []
|_,.nil=>rfl
def u6.dropLast(h:u6 xs us):u6 xs.dropLast us.dropLast:=by
 induction h with
 |nil=>exact .nil
 |cons r t ih=>
   cases t with
   |nil=>exact .nil
   |cons q t'=>exact .cons r ih
def u6.eraseIdx:∀ {xs} {us} i,u6 xs us->u6 (xs.eraseIdx i) (us.eraseIdx i)
|_,_,_,.nil=>.nil
|_,_,0,.cons _ t=>t
|_,_,i+1,.cons r t=>.cons r (u6.eraseIdx i t)
def vo(l:List α):l.eraseIdx (l.length-1)=l.dropLast:=by
 induction l with
 |nil=>rfl
 |cons a r ih=>
   cases r with
   |nil=>rfl
   |cons b r=>
     have e:(a::b::r).length-1= ((b::r).length-1)+1:=by have h1:(a::b::r).length=r.length+2:=rfl;have h2:(b::r).length=r.length+1:=rfl;lia
     rw[e,List.eraseIdx_cons_succ,ih]
     all_goals rfl
def BO:∀(l:List α) (i:Nat),(l.eraseIdx i).length<=l.length
|[],_=>zh _
|_::_,0=>yX _
|_::r,i+1=>YQ (BO r i)
section
def Inv.lset{Ll its':List zm}{n:Nat}{t':Nat}(I:Inv X Li σ H s)(hH:H l=some (.lst xs))
 (e:s.heap.get? l=some {cls:=.type "list",data:=.seq Ll.toArray n}) (hf:f Ll.toArray=its'.toArray) (hv:u6 ys its') (hz:ys.length<=zj):
 Inv X Li σ (upd H l (.lst ys)) {s with heap:=s.heap.update l (je f),toks:=t'}:=by
 have q:=PySem.IsL.update e f;rw[hf]at q;refine I.write (x:=l) (e:=l) (by rw[hH];exact trivial) (.inl rfl) (λb' u hb hu=>(jO s.heap (je f) (Ne.symm hb)).trans hu) ⟨_,q⟩ ?_;exact⟨hz,its',_,hv,q⟩
def Inv.lnew(I:Inv X Li σ H s)(hv:u6 ys Ll)(hz:ys.length<=zj):
 Inv X Li σ (upd H s.heap.objs.size (.lst ys)) {s with heap:=s.heap.push {cls:=.type "list",data:=.seq Ll.toArray},toks:=t'}:=
 I.laid (λ_ _ q=>zc _ q) (zh _) ⟨hz,Ll,0,hv,zu _ rfl⟩
def Inv.fresh(I:Inv X Li σ H s):H s.heap.objs.size=none:=I.hok.fresh (zh _)
def Inv.lstM(I:Inv X Li σ H s)(hH:H l=some (.lst xs)):xs.length<=zj/\∃(Ll:List zm) (n:Nat),u6 xs Ll/\xs.length=Ll.length/\s.heap.get? l=some {cls:=.type "list",data:=.seq Ll.toArray n}:=by obtain⟨z,Ll,n,r,e⟩:=I.hok l _ hH;exact⟨z,Ll,n,r,r.length,e⟩
def Nc(h:n<=zj):ZO n=false:=by unfold ZO;exact decide_eq_false (by lia)
def tZ:V->List V->Hp->VK->Prop:=λx vs H Q=>∃l xs y,x= .ref l/\vs= [y]/\H l=some (.lst xs)/\xs.length<zj/\Q .non (upd H l (.lst (xs++[y])))
def cP:MtM X "list.append" tZ:=by
 intro Li s σ H x vs v us Q I rx rv h;obtain⟨l,xs,y,rfl,rfl,hH,hz,q⟩:=h
 cases rx
 obtain⟨u,rfl,ru⟩:=rv.one;obtain⟨z,Ll,n,r,hl,e⟩:=I.lstM hH;refine call_meets F.slot_list_append ⟨_,e,rfl⟩ F.entry_list_append (F.args_list_append_2 _ _) (PySem.list_append l Ll.toArray n u (by rw[zr];lia)) ⟨e,?_⟩;refine⟨.non,_,I.lset (its':=Ll++[u]) hH e (by simp) (r.append (.cons ru .nil)) ?_,rfl,q⟩;rw[zv,yq];lia
def Pb:V->List V->Hp->VK->Prop:=λx vs H Q=>∃l b xs zs,x= .ref l/\vs= [.ref b]/\H l=some (.lst xs)/\H b=some (.lst zs)/\xs.length+zs.length<=zj/\Q .non (upd H l (.lst (xs++zs)))
def Vf:MtM X "list.extend" Pb:=by
 intro Li s σ H x vs v us Q I rx rv h;obtain⟨l,b,xs,zs,rfl,rfl,hH,hB,hz,q⟩:=h
 cases rx
 obtain⟨u,rfl,ru⟩:=rv.one
 cases ru
 obtain⟨z,Ll,n,r,hl,e⟩:=I.lstM hH;obtain⟨z2,Mu,n2,r2,Oa,e2⟩:=I.lstM hB;have hsz:Ll.toArray.size+Mu.toArray.size<=zj:=by rw[zr,zr];lia
 have hlong:¬(!Ll.toArray.isEmpty&&ZO (Ll.toArray.size+Mu.toArray.size))=true:=by rw[Nc hsz,jH];exact zZ
 refine call_meets F.slot_list_extend ⟨_,e,rfl⟩ F.entry_list_extend (F.args_list_extend_2 _ _)
  (AutoSeq1.list_extend_list_list_0 l Ll.toArray n b Mu.toArray n2 hlong (by rw[zr];lia) (by lia)) ⟨e,e2,?_⟩
 refine⟨.non,_,I.lset (its':=Ll++Mu) hH e (by simp) (r.append r2) ?_,rfl,q⟩;rw[zv];lia
def il:V->List V->Hp->VK->Prop:=λx vs H Q=>∃l xs y,x= .ref l/\vs= []/\H l=some (.lst xs)/\xs[xs.length-1]? =some y/\Q y (upd H l (.lst xs.dropLast))
def SX:MtM X "list.pop" il:=by
 intro Li s σ H x vs v us Q I rx rv h;obtain⟨l,xs,y,rfl,rfl,hH,hy,q⟩:=h
 cases rx
 have hus:=rv.zero;subst hus;obtain⟨z,Ll,n,r,hl,e⟩:=I.lstM hH;obtain⟨u,hu,ru⟩:=r.get hy;have hy':Ll.toArray[Ll.toArray.size-1]? =some u:=by show Ll.toArray[Ll.length-1]? =some u;rw[<-zN,<-hl];exact hu
 refine call_meets Yj ⟨_,e,rfl⟩ F.entry_list_pop (F.args_list_pop_1 _) (MeetsSeq.list_pop_last l Ll.toArray n u hy' (by rw[zr];lia)) ⟨e,?_⟩;refine⟨y,_,I.lset (its':=Ll.dropLast) hH e ?_ r.dropLast ?_,ru,q⟩
 ·show Ll.toArray.eraseIdxIfInBounds (Ll.toArray.size-1)=Ll.dropLast.toArray;rw[zr,Ja,vo]
 ·rw[List.length_dropLast];lia
def tj:V->List V->Hp->VK->Prop:=λx vs H Q=>∃l xs i k y,x= .ref l/\vs= [.int i]/\H l=some (.lst xs)/\ -(2 ^ 63)<=i/\i<2 ^ 63/\seqIndex? i xs.length=some k/\xs[k]? =some y/\Q y (upd H l (.lst (xs.eraseIdx k)))
def sy:MtM X "list.pop" tj:=by
 intro Li s σ H x vs v us Q I rx rv h;obtain⟨l,xs,i,k,y,rfl,rfl,hH,h1,h2,hk,hy,q⟩:=h
 cases rx
 obtain⟨u,rfl,ru⟩:=rv.one;obtain⟨t,rfl⟩:=ru;obtain⟨z,Ll,n,r,hl,e⟩:=I.lstM hH;obtain⟨w,hw,rw'⟩:=r.get hy;refine call_meets Yj ⟨_,e,rfl⟩ F.entry_list_pop (F.args_list_pop_2 _ _)
  (MeetsSeq.list_pop_at l Ll.toArray n i t k w (fitsIndex_both h1 h2) (by rw[zr,<-hl];exact hk) (by rw[<-zN];exact hw) (by rw[zr];lia)) ⟨e,?_⟩
 refine⟨y,_,I.lset (its':=Ll.eraseIdx k) hH e ?_ (r.eraseIdx k) ?_,rw',q⟩
 ·show Ll.toArray.eraseIdxIfInBounds k= (Ll.eraseIdx k).toArray;rw[Ja]
 ·have:=BO xs k;lia
def Io:R2:=λx y H Q=>∃l b xs zs,x= .ref l/\y= .ref b/\H l=some (.lst xs)/\H b=some (.lst zs)/\xs.length+zs.length<=zj/\∀p,H p=none->Q (.ref p) (upd H p (.lst (xs++zs)))
def Hb:OpR X (yG .Add) Io:=by
 intro Li s σ H x y v u Q I rx ry h;obtain⟨l,b,xs,zs,rfl,rfl,hH,hB,hz,q⟩:=h
 cases rx
 cases ry
 obtain⟨z,Ll,n,r,hl,e⟩:=I.lstM hH;obtain⟨z2,Mu,n2,r2,Oa,e2⟩:=I.lstM hB;refine PySem.P.add_list e e2 ?_ (by rw[zr,zr];lia);have ea:Ll.toArray++Mu.toArray= (Ll++Mu).toArray:=by simp
 rw[ea];exact⟨.ref _,_,I.lnew (t':=s.toks) (r.append r2) (by rw[zv];lia),rfl,q _ I.fresh⟩
end
end L2
namespace Att
open PySem PySem.W PySem.Calls PyProof.Rows
def Sx:∀ns vs,WellAll P h vs (ns.map WData.int)->IntsAre vs ns:=by
 intro ns
 induction ns with
 |nil=>
   intro vs w;rw[xP]at w
   cases w
   exact .nil
 |cons n ns ih=>
   intro vs w;rw[zT]at w
   cases w with
   |cons a b=>
     cases a
     exact .cons _ _ (ih _ b)
def tm{l:OpenLaw}{n:Nat}(hn:l.most=some n){P:Params}{h:Heap}
 (hpre:l.row.toRowW.claim.pre args=true) (hwl:WellAll P h vals args):
 ∃a vs ns,vals= [Value.ref a]/\args= [WData.list (ns.map WData.int)]/\h.get? a=some {cls:=.type "list",data:=.seq vs.toArray}/\IntsAre vs ns/\ns.length<=n:=by
 have hsh:WShape.hasAll [] args [.list .int]=true:=(pre_splitW hpre).1;have hc:l.pre.holds [] {args:=args}=true:=(pre_splitW hpre).2;obtain⟨d,r,rfl,h1,h2⟩:=hasAllW_cons hsh;obtain rfl:=hasAllW_nil h2;obtain⟨xs,rfl,h3⟩:=hasW_list h1;obtain⟨ns,rfl⟩:=items_int h3;have Lr:ns.length<=n:=by
  unfold OpenLaw.pre at hc;have h4:(WTm.not (.lt (.lit (.int (n:Int))) (.len (.arg 0)))).holds [] {args:= [.list (ns.map .int)]}=true:=by have h4:=(holds_andW hc).1;rw[hn]at h4;exact h4
  have h5:=condW_of h4 (w_not (w_lt w_lit (w_len_list (w_arg rfl))));rw[zd]at h5;refine Nat.le_of_not_lt λq=>?_;have q':(n:Int)<((ns.length:Nat):Int):=by lia
  first
   |(rw[decide_eq_true q']at h5;exact absurd h5 (by decide))
   |(simp at h5;lia)
 cases hwl with
 |cons w1 w2=>
   cases w2
   cases w1 with
   |list ho hall=>exact⟨_,_,ns,rfl,rfl,ho,Sx ns _ hall,Lr⟩
def gz(l:OpenLaw)(args:List WData):l.row.toRowW.claim.post args (.bool true) args=true:=
 postW_of (r:=l.row.toRowW) (X:=(true==true))
  (show WShape.has [] (.bool true) .bool=true by first|rfl|decide|simp[WShape.has,WShape.arms,WShape.armsAll])
  (show (WTm.eq .res (.lit (.bool true))).value [] {args:=args,res:=some (.bool true),after:=args}=some (.bool (true==true))from w_eq_bool (w_res rfl) w_lit) rfl
def attach_call{l:OpenLaw}{n:Nat}{q:zU}{loose:List Str}{d:DefRec}
 (hn:l.most=some n) (hdf:d.params.defaults= [])
 (call:∀(w:jg) (WV W1:zA) (mg mb:Str->Option zm) (fa:Addr) (o:Obj) (pm cd doc:zm) (a:Addr) (vs:List zm) (ns:List Int),
   Ground q loose [] XP w WV mg mb W1.heap->YP w W1.heap->
   W1.heap.get? fa=some o->o.data= .func (docDef d.name d.params d.body d.scope pm cd doc)->W1.heap.CodeRec cd d.name->mg d.name=some (.ref fa)->
   W1.heap.get? a=some {cls:=.type "list",data:=.seq vs.toArray}->IntsAre vs ns->ns.length<=n->W1.gens= #[]->
   xZ (zI l.prog w) XV (.call (.ref fa) ⟨[.ref a], []⟩) (λr s'=>r= .ok (.ret (.bool true))/\OldK W1.heap s'.heap/\s'.os=W1.os/\XW s'.gens) W1):
 WalkO q loose XP YP l.row.toRowW d [] (λf vs=>PySem.call f vs):=by
 intro w WV W1 mg mb G Y fa o pm cd doc dV kV ho hd hcd hD hmg hg args vals as hpre hlay hrd hwl hlo;obtain rfl:dV= .none:=Dflts.none hD hdf;obtain rfl:kV= .none:=Dflts.noKw hD;obtain⟨a,vs,ns,rfl,rfl,hobj,hints,Lr⟩:=tm hn hpre hwl;refine enter_call (Yr (call w WV W1 mg mb fa o pm cd doc a vs ns G Y ho (fd_plain hd) hcd hmg hobj hints Lr hg) λr s' hq=>?_);obtain⟨rfl,h2,h3,h4⟩:=hq;exact⟨.inl ⟨.bool true,.bool true, [],rfl,λ_=>rfl,.bool true,gz l _,λ_=>⟨List.Pairwise.nil,λ_ hm=>(nomatch hm)⟩⟩,h2,h3,h4⟩
section
variable{prog:zU}{w:jg}{A:js}{s:zA}{K:Frag}
end
end Att
namespace L2
open PySem PySem.Spec PyProof.Rows
def GR:∀ {vs} {ns},IntsAre vs ns->u6 (ns.map V.int) vs
|_,_,.nil=>.nil
|_,_,.cons n t h=>.cons ⟨t,rfl⟩ (GR h)
def PJ(H:Hp):Prop:=∀b,H b=none\/∃o xs,H b=some (.frz o (.lst xs))
def mq{P:zU}{w:jg}{K:zo}{CX:CXT}{k:Nat}{fa a:Addr}{fd:xW}{x:Str}{sp:Sp}{W1:zA}{vs:List zm}{ns:List Int}
 (KX:K.In W1.heap) (hns:W1.heap.Ns jG mg) (hb:W1.heap.Ns builtinsNs mb) (hbb:∀x:Str,x≠ "__name__"->mb x=jp x) (hlim:W1.heap.NoLimit) (hg:W1.gens= #[])
 (ha:W1.heap.get? a=some {cls:=.type "list",data:=.seq vs.toArray}) (hi:IntsAre vs ns) (hl:ns.length<=zj) (hr:U1 k XV)
 (F:∀base:Heap,K.In base->base.Ns jG mg->F4 P w K mg base CX k fa fd [x] sp) (hbind:∀(s:zA) (u:zm),Xt s fd ⟨[u], []⟩ [(x,u)])
 (hsp:∀H:Hp,PJ H->SqL K H a (ns.map V.int)->sp [.ref a] H (λv _=>v= .bl true) λ_ _ _=>False)
 (hCX:∀H e s',CX [] H W1 (λ_ _ _=>False) e s'->False):
 xZ (zI P w) XV (.call (.ref fa) ⟨[.ref a], []⟩) (λr s'=>r= .ok (.ret (.bool true))/\OldK W1.heap s'.heap/\s'.os=W1.os/\XW s'.gens) W1:=by
 have rv:=GR hi;have lenV:=hi.length
 -- from an abstract heap in which nothing but the script may be tracked
 have core:∀H:Hp,PJ H->SqL K H a (ns.map V.int)->HOk P w H W1.heap->(∀b,H b≠none->b=a)->(H a≠none->K.lookup a=none)->
  xZ (zI P w) XV (.call (.ref fa) ⟨[.ref a], []⟩) (λr s'=>r= .ok (.ret (.bool true))/\OldK W1.heap s'.heap/\s'.os=W1.os/\XW s'.gens) W1:=by
  intro H hO hS hok hA hK;have base_of:∀ {b:Addr} {o:Obj},W1.heap.get? b=some o->H b=none->(BB W1.heap H).get? b=some o:=λe n=>Bi e n;have noA:∀ {b:Addr} {o:Obj} {es:Array DictEntry} {ep:Nat},W1.heap.get? b=some o->o.data= .dict es ep->H b=none:=λ{b o es ep} e d=>by
   cases q:H b with
   |none=>rfl
   |some u=>
     have e':b=a:=hA b (by rw[q];simp);subst e';rw[ha]at e;cases e;have d':Data.seq vs.toArray _=Data.dict es ep:=d
     cases d'
  have nsK:∀ {b:Addr} {m:Str->Option zm},W1.heap.Ns b m->(BB W1.heap H).Ns b m:=λ{b m} ⟨o,es,ep,e,d,r⟩=>⟨o,es,ep,base_of e (noA e d),d,r⟩;have hKb:K.In (BB W1.heap H):=λb o e=>base_of (KX b o e) (by
   cases q:H b with
   |none=>rfl
   |some u=>
     have e':b=a:=hA b (by rw[q];simp);subst e';rw[hK (by rw[q];simp)]at e;cases e)
  have hM:Mod K mg (BB W1.heap H):=⟨hKb,nsK hns,⟨mb,nsK hb,hbb⟩,let ⟨mc,h1,h2⟩:=hlim;⟨mc,nsK h1,h2⟩⟩;have e0:cI P w K mg (BB W1.heap H) XV [] W1 H:=⟨rfl,hM,λb o e=>CZ e,xl (Av _ _),trivial,λb hb=>absurd (show b∈([]:List Addr)from hb) (by simp),hok,.of_eq hg⟩;refine Yr ((F _ hKb (nsK hns)).run XV [] W1 H ⟨[.ref a], []⟩ [.ref a] [.ref a] _ _ hr e0 (hbind W1 (.ref a)) (.cons rfl .nil) (hsp H hO hS)) λr s' h=>?_
  cases r with
  |error e=>exact(hCX H e s' h).elim
  |ok fl=>
    cases fl with
    |next=>exact xu h
    |brk=>exact xu h
    |cont=>exact xu h
    |ret u=>
      obtain⟨v,H',os,bare,un,hok',r',q⟩:=h;have q':v= .bl true:=q;subst q';obtain rfl:u=Value.bool true:=r';refine⟨rfl,OldK.of_keep λb o e=>?_,os,bare⟩
      cases q:H b with
      |none=>exact un.keep b o e q (by intro z;exact absurd (show b∈([]:List Addr)from z) (by simp)) (by simp)
      |some u=>
        rcases hO b with z|⟨ob,xs,z⟩
        ·rw[q]at z;cases z
        ·have z2:=un.frzs b ob _ z;obtain⟨e1,_⟩:=hok b _ z;obtain⟨e2,_⟩:=hok' b _ z2;rw[e]at e1;cases e1;exact e2
 cases hk:K.lookup a with
 |some o=>
   -- the script is one of the module's own objects
   have e:=KX a o hk;rw[ha]at e
   cases e
   refine core (λ_=>none) (λ_=>.inl rfl) (.inr ⟨_,vs.toArray,_,hk,rfl,rfl,rfl,by rw[zr,lenV];exact hl,by simpa using rv⟩) (λb u z=>by have z':(none:Option HO)=some u:=z;cases z') (λb z=>absurd rfl z) λz=>absurd rfl z
 |none=>
   refine core (λb=>if b=a then some (.frz {cls:=.type "list",data:=.seq vs.toArray} (.lst (ns.map V.int)))else none) (λb=>?_) (.inl (.inr ⟨{cls:=.type "list",data:=.seq vs.toArray},if_pos rfl⟩)) (λb u z=>?_) (λb z=>?_) λ_=>hk
   ·by_cases hb:b=a
    ·exact .inr ⟨_,_,if_pos hb⟩
    ·exact .inl (if_neg hb)
   ·by_cases hb:b=a
    ·have z':=(if_pos hb).symm.trans z
     cases z'
     subst hb;exact⟨ha,by rw[zd];exact hl,vs,_,rv,ha⟩
    ·have z':=(if_neg hb).symm.trans z
     cases z'
   ·by_cases hb:b=a
    ·exact hb
    ·exact absurd (if_neg hb) z
def walk_of{l:PySem.W.OpenLaw}{n k:Nat}{q:zU}{loose:List Str}{YP:jg->Heap->Prop}{d:DefRec}{K:Params->zo}{CX:jg->CXT}{sp:jg->Sp}{x:Str}
 (hn:l.most=some n) (hn2:n<=zj) (hdf:d.params.defaults= []) (hr:U1 k XV)
 (hY:∀(w:jg) (h:Heap),YP w h->(K w.params).In h)
 (F:∀(w:jg) (mg:Str->Option zm) (fa:Addr) (h:Heap),(K w.params).In h->h.Ns jG mg->mg d.name=some (.ref fa)->
   ∃fd:xW,(∀(s:zA) (u:zm),Xt s fd ⟨[u], []⟩ [(x,u)])/\
    ∀base:Heap,(K w.params).In base->base.Ns jG mg->F4 l.prog w (K w.params) mg base (CX w) k fa fd [x] (sp w))
 (hsp:∀(w:jg) (H:Hp) (a:Addr) (ns:List Int),ns.length<=n->PJ H->SqL (K w.params) H a (ns.map V.int)->sp w [.ref a] H (λv _=>v= .bl true) λ_ _ _=>False)
 (hCX:∀(w:jg) (H:Hp) (s:zA) (e:zm) (s':zA),CX w [] H s (λ_ _ _=>False) e s'->False):
 PySem.W.WalkO q loose XP YP l.row.toRowW d [] (λf vs=>PySem.call f vs):=by
 refine Att.attach_call hn hdf λw WV W1 mg mb fa o pm cd doc a vs ns G Y ho hd hcd hmg hobj hints Lr hg=>?_;have KX:=hY w _ Y;obtain⟨fd,hb,hF⟩:=F w mg fa _ KX G.T.g hmg;exact mq KX G.T.g G.T.b G.T.builtins G.T.nolimit hg hobj hints (zq Lr hn2) hr hF hb (λH hO hS=>hsp w H a ns Lr hO hS) λH e s'=>hCX w H W1 e s'
def mB(s:Stmt):Arguments:=match s with
| .FunctionDef _ a _ _ _ _ _ _ _ _=>a
|_=>{posonlyargs:= [],args:= [],vararg:=none,kwonlyargs:= [],kw_defaults:= [],kwarg:=none,defaults:= []}
def P8(s:Stmt):List Stmt:=match s with
| .FunctionDef _ _ b _ _ _ _ _ _ _=>b
|_=> []
def K1(s:Stmt):Scope:=match s with
| .FunctionDef _ _ _ _ _ _ sc _ _ _=>sc
|_=>{kind:=.function,names:= [],isGenerator:=false,isCoroutine:=false}
abbrev CX0:CXT:=λ_ _ _ _ _ _=>False
abbrev E0:XK:=λ_ _ _=>False
def RR:VI CX0 X E0:=λ_ _ _ _ _ _ _ h=>h.elim
structure Fun(K:zo)(x qual:Str)(st:Stmt)(f:Addr)(fd:xW):Prop where
 ex:∃(oc:zm) (od:Option Addr) (kV doc pm:zm) (an:Option Addr) (Ms ct:zm) (osl:Array (Option zm)),
  fd=yS x qual (mB st) (P8 st) (K1 st) .none kV doc pm an Ms ct/\K.lookup f=some ⟨oc,od,.func fd,osl⟩/\ZU K Ms qual=true
 kp:yL K (.ref f)=true
section
variable{P:zU}{w:jg}{K:zo}{mg:Str->Option zm}{base:Heap}
def Fun.ok{x qual:Str}{st:Stmt}{f:Addr}{k:Nat}{sp:Sp}(F:Fun K x qual st f fd)(S:L9 N ps (K1 st))(len:∀vs H Q E,sp vs H Q E->vs.length=ps.length)
 (hbody:∀(Ms:zm) (A:js) (outer:List Env) (s:zA) (H:Hp) (vs:List V) (Q:VK) (E:XK),U1 k (A.deeper (Xd qual (K1 st) s.heap.objs.size f Ms))->sp vs H Q E->
   ∃t,PSs (OA CX0 P w K mg base N qual (K1 st) f Ms A outer s H E).nox (P8 st) t/\t {nx:=λ_ H'=>Q .non H',rt:=Q} (start N vs) H):F4 P w K mg base CX0 (k+1) f fd ps sp:=by
 obtain⟨oc,od,kV,doc,pm,an,Ms,ct,osl,rfl,lk,hcd⟩:=F.ex;refine Cb lk hcd S len λA outer s H vs Q E hr hsp=>?_;obtain⟨t,h,q⟩:=hbody Ms A outer s H vs Q E hr hsp;exact⟨t,h.nox,q⟩
def Fun.binds{x qual:Str}{st:Stmt}{f:Addr}(F:Fun K x qual st f fd)
 (h:∀(kV doc pm:zm) (an:Option Addr) (Ms ct:zm) (us:List zm),us.length=ps.length->bindArgs (yS x qual (mB st) (P8 st) (K1 st) .none kV doc pm an Ms ct) ⟨us, []⟩=pure (ps.zip us)):qB K fd ps []:=by
 obtain⟨oc,od,kV,doc,pm,an,Ms,ct,osl,rfl,lk,hcd⟩:=F.ex;exact .all (h kV doc pm an Ms ct)
def sK{x qual:Str}{st:Stmt}{f:Addr}{oc:zm}{od an:Option Addr}{kV doc pm Ms ct:zm}(l:K.lookup f=some ⟨oc,od,.func (yS x qual (mB st) (P8 st) (K1 st) .none kV doc pm an Ms ct),osl⟩)
 (c:ZU K Ms qual=true) (k:yL K (.ref f)=true):Fun K x qual st f (yS x qual (mB st) (P8 st) (K1 st) .none kV doc pm an Ms ct):=⟨⟨oc,od,kV,doc,pm,an,Ms,ct,osl,rfl,l,c⟩,k⟩
end
section
end
section
variable[DecidableEq κ]
def A7(Ln:List (κ×V))(k:κ):Option V:=(Ln.find? λkv=>decide (kv.1=k)).map (·.2)
def n9(Ln:List (κ×V))(k:κ)(v:V):List (κ×V):=
 if (Ln.any λkv=>decide (kv.1=k))=true then Ln.map (λkv=>if kv.1=k then (kv.1,v)else kv)else Ln++[(k,v)]
def NH{k:κ}(e:p.1=k):A7 (p::r) k=some p.2:=by simp[A7,xC,e]
def CI{k:κ}(e:¬p.1=k):A7 (p::r) k=A7 r k:=by simp[A7,xC,e]
theorem sR(k:κ):∀Ln:List (κ×V),(Ln.any λkv=>decide (kv.1=k))= (A7 Ln k).isSome
|[]=>rfl
|p::r=>by
  rw[xD];by_cases e:p.1=k
  ·simp only[NH e,decide_eq_true e,Bool.true_or,Option.isSome_some]
  ·rw[CI e,decide_eq_false e,Bool.false_or];exact sR k r
def dU(Ln:List (κ×V))(k:κ)(v:V):(n9 Ln k v).length<=Ln.length+1:=by
 unfold n9;split
 ·rw[zd];lia
 ·rw[zv,zM,yE];lia
def pB.isSome_eq(r:pB o u):o.isSome=u.isSome:=by
 cases o with
 |none=>cases u with
   |none=>rfl
   |some _=>exact(show False from r).elim
 |some _=>cases u with
   |none=>exact(show False from r).elim
   |some _=>rfl
def KV.val(r:KV Ln vs)(k:κ):pB (A7 Ln k) (valueAt vs k):=by
 unfold KV at r
 induction r with
 |nil=>exact True.intro
 |@cons p q ps qs h t ih=>
   obtain⟨h1,h2⟩:=h;by_cases e:p.1=k
   ·have e':q.1=k:=h1.symm.trans e;have b:valueAt (q::qs) k=some q.2:=by simp[valueAt,xC,e']
    rw[NH e,b];exact h2
   ·have e':¬q.1=k:=λz=>e (h1.trans z);have b:valueAt (q::qs) k=valueAt qs k:=by simp[valueAt,xC,e']
    rw[CI e,b];exact ih
def KV.any(r:KV Ln vs)(k:κ):(Ln.any λkv=>decide (kv.1=k))=vs.any λkv=>decide (kv.1=k):=by
 unfold KV at r
 induction r with
 |nil=>rfl
 |cons h t ih=>rw[xD,xD,ih,h.1]
def KV.repl(r:KV Ln vs)(k:κ)(ry:J1 y u):
 KV (Ln.map λkv=>if kv.1=k then (kv.1,y)else kv) (vs.map λkv=>if kv.1=k then (kv.1,u)else kv):=by
 unfold KV at r ⊢
 induction r with
 |nil=>exact .nil
 |@cons p q ps qs h t ih=>
   rw[zT,zT];refine .cons ?_ ih;obtain⟨h1,h2⟩:=h;by_cases e:p.1=k
   ·rw[if_pos e,if_pos (h1.symm.trans e)];exact⟨h1,ry⟩
   ·rw[if_neg e,if_neg (λz=>e (h1.trans z))];exact⟨h1,h2⟩
def KV.put(r:KV Ln vs)(k:κ)(ry:J1 y u):KV (n9 Ln k y) (stored vs k u):=by
 unfold n9 stored;rw[r.any k];by_cases e:(vs.any λkv=>decide (kv.1=k))=true
 ·rw[if_pos e,if_pos e];exact r.repl k ry
 ·rw[if_neg e,if_neg e];exact Paired.snoc r ⟨rfl,ry⟩
def KV.length(r:KV Ln vs):Ln.length=vs.length:=xw r
end
def rF(r:J1 (kV k) u):(N8 P w).is k u=true:=by
 cases k with
 |inl i=>obtain⟨t,e⟩:=(show ∃t,u=Value.int i t from r);subst e;exact mQ P w i t
 |inr x=>obtain⟨t,e⟩:=(show ∃t,u=Value.str x t from r);subst e;exact NV P w x t
theorem sU:∀ {ks} {us},u6 (ks.map kV) us->ItemsAre (N8 P w) ks us
|[],_,r=>by rw[xP]at r;cases r;exact .nil
|k::ks,_,r=>by
  rw[zT]at r
  cases r with
  |cons h t=>exact .cons (rF h) (sU t)
abbrev KT(H:Hp):List (List Key×V)->List (List Key×Addr×zm)->Prop:=Paired λp q=>p.1=q.1/\H q.2.1=some (.tup (p.1.map kV))/\J1 p.2 q.2.2
def KT.val{H:Hp}(r:KT H Ln xs)(k:List Key):pB (A7 Ln k) ((atKey xs k).map (·.2)):=by
 induction r with
 |nil=>exact True.intro
 |@cons p q ps qs h t ih=>
   obtain⟨h1,_,h2⟩:=h;by_cases e:p.1=k
   ·have e':q.1=k:=h1.symm.trans e;have b:atKey (q::qs) k=some q.2:=by simp[atKey,xC,e']
    rw[NH e,b];exact h2
   ·have e':¬q.1=k:=λz=>e (h1.trans z);have b:atKey (q::qs) k=atKey qs k:=by simp[atKey,xC,e']
    rw[CI e,b];exact ih
def KT.repl(r:KT H Ln xs)(k:List Key)(ry:J1 y u):
 KT H (Ln.map λkv=>if kv.1=k then (kv.1,y)else kv) (xs.map (putAt k u)):=by
 induction r with
 |nil=>exact .nil
 |@cons p q ps qs h t ih=>
   rw[zT,zT];refine .cons ?_ ih;obtain⟨h1,h2,h3⟩:=h;unfold putAt;by_cases e:p.1=k
   ·rw[if_pos e,if_pos (h1.symm.trans e)];exact⟨h1,h2,ry⟩
   ·rw[if_neg e,if_neg (λz=>e (h1.trans z))];exact⟨h1,h2,h3⟩
def KT.put(r:KT H Ln xs)(k:List Key)(hb:H b=some (.tup (k.map kV)))(ry:J1 y u):
 KT H (n9 Ln k y) (storedH xs k b u):=by
 have e:(Ln.any λkv=>decide (kv.1=k))= (atKey xs k).isSome:=by rw[sR,(r.val k).isSome_eq,XI]
 unfold n9 storedH;rw[e];by_cases q:(atKey xs k).isSome=true
 ·rw[if_pos q,if_pos q];exact r.repl k ry
 ·rw[if_neg q,if_neg q];exact Paired.snoc r ⟨rfl,hb,ry⟩
def KT.keeps(r:KT H Ln xs)(ht:∀b ys,H b=some (.tup ys)->H' b=some (.tup ys)):KT H' Ln xs:=
 Paired.mapP r λ_ _ z=>⟨z.1,ht _ _ z.2.1,z.2.2⟩
section
def UK(ok:HOk P w H h)(e:Rd H a u):T9 P w H h a u:=e.ok ok
def qK(ok:HOk P w H h)(e:Rd H a (.dK Ln)):Ln.length<=zj/\(a==xH)=false/\∃vs,KV Ln vs/\h.DictOf (N8 P w) a vs:=
 show T9 P w H h a (.dK Ln)from UK ok e
def RI(ok:HOk P w H h)(e:H a=some (.dK Ln)):Ln.length<=zj/\(a==xH)=false/\∃vs,KV Ln vs/\h.DictOf (N8 P w) a vs:=qK ok (.inl e)
def TJ(ok:HOk P w H h)(e:H a=some (.tup (ks.map kV))):(JV (N8 P w)).is h ks a:=by obtain⟨_,Ll,r,o,h1,h2,n,h3⟩:=(show T9 P w H h a (.tup (ks.map kV))from ok a _ e);exact⟨o,Ll.toArray,n,h1,h2,(xY h3).1,by simpa using sU r⟩
def vN(ok:HOk P w H h)(e:Rd H a (.dT Ln)):Ln.length<=zj/\(a==xH)=false/\
 ∃xs,KT H Ln xs/\h.DictOfH (JV (N8 P w)) a xs:=by
 obtain⟨z,y,xs,r,o,es,ep,h1,h2,h3,h4,h5⟩:=(show T9 P w H h a (.dT Ln)from UK ok e);refine⟨z,y,xs,r,o,es,ep,h1,h2,h3,h4,λx hx=>?_,h5⟩;have all:∀ {l:List (List Key×V)} {m:List (List Key×Addr×zm)},KT H l m->∀x∈m,(JV (N8 P w)).is h x.1 x.2.1:=by
  intro l m q
  induction q with
  |nil=>intro x hx;exact nomatch hx
  |@cons p q ps qs hq t ih=>
    intro x hx;rcases zn.mp hx with e|hx
    ·subst e;exact TJ ok (by rw[<-hq.1];exact hq.2.1)
    ·exact ih x hx
 exact all r x hx
def PY(ok:HOk P w H h)(e:H a=some (.dT Ln)):Ln.length<=zj/\(a==xH)=false/\
 ∃xs,KT H Ln xs/\h.DictOfH (JV (N8 P w)) a xs:=vN ok (.inl e)
end
def pF(H:Hp)(a:Addr)(y:V)(r:Option V):Prop:=
 (∃Ln k,Rd H a (.dK Ln)/\y=kV k/\r=A7 Ln k)\/∃Ln k b,Rd H a (.dT Ln)/\y= .ref b/\H b=some (.tup (k.map kV))/\r=A7 Ln k
def aI(H:Hp)(a:Addr)(y v:V)(H':Hp):Prop:=
 (∃Ln k,H a=some (.dK Ln)/\y=kV k/\Ln.length<zj/\H'=upd H a (.dK (n9 Ln k v)))\/
 ∃Ln k b,H a=some (.dT Ln)/\y= .ref b/\H b=some (.tup (k.map kV))/\Ln.length<zj/\H'=upd H a (.dT (n9 Ln k v))
def pF.k{k:Key}(e:H a=some (.dK Ln)):pF H a (kV k) (A7 Ln k):=.inl ⟨Ln,k,.inl e,rfl,rfl⟩
def aI.k{k:Key}(e:H a=some (.dK Ln))(hl:Ln.length<zj):aI H a (kV k) v (upd H a (.dK (n9 Ln k v))):=.inl ⟨Ln,k,e,rfl,hl,rfl⟩
section
def Inv.big(I:Inv X Li σ H s):xH<s.heap.objs.size:=by have h:jG<s.heap.objs.size:=(I.mod.glob.keeps I.bk).lt;exact Xe (by decide) h
def vY(hu:A.units+1<xF)(I:Inv X Li σ H s)(g:pF H a y o)(ry:J1 y u)(h:∀s',Inv X Li σ H s'->Q (.bool o.isSome) s'):
 zt (zI X.prog X.w) A (jf .In u (.ref a)) Q E s:=by
 rcases g with⟨Ln,k,e,ey,l⟩|⟨Ln,k,b,e,ey,eb,l⟩
 ·subst ey;obtain⟨z,hd,vs,rel,dd⟩:=qK I.hok e;refine wpAny_in_of (rF ry) hd dd.mapOf ?_;rw[<-(rel.val k).isSome_eq,<-l];exact h _ (I.tok _)
 ·subst ey
  cases (show u=Value.ref b from ry)
  obtain⟨z,hd,xs,rel,dd⟩:=vN I.hok e;refine wpAny_in_heap (Jm hu) (TJ I.hok eb) hd dd ?_;have q:=(rel.val k).isSome_eq;rw[XI]at q;rw[<-q,<-l];exact h _ (I.tok _)
def Gb(hu:A.units+1<xF)(I:Inv X Li σ H s)(g:pF H a y o)(ry:J1 y u)(h:∀s',Inv X Li σ H s'->Q (.bool (!o.isSome)) s'):
 zt (zI X.prog X.w) A (jf .NotIn u (.ref a)) Q E s:=by
 rcases g with⟨Ln,k,e,ey,l⟩|⟨Ln,k,b,e,ey,eb,l⟩
 ·subst ey;obtain⟨z,hd,vs,rel,dd⟩:=qK I.hok e;refine wpAny_notIn_of (rF ry) hd dd.mapOf ?_;rw[<-(rel.val k).isSome_eq,<-l];exact h _ (I.tok _)
 ·subst ey
  cases (show u=Value.ref b from ry)
  obtain⟨z,hd,xs,rel,dd⟩:=vN I.hok e;refine wpAny_notIn_heap (Jm hu) (TJ I.hok eb) hd dd ?_;have q:=(rel.val k).isSome_eq;rw[XI]at q;rw[<-q,<-l];exact h _ (I.tok _)
def lP(I:Inv X Li σ H s)(mu:Mut (H a))(hs:jZ a s.heap h')(he:∃q,h'.get? a=some q)(new:T9 X.prog X.w (upd H a ob) h' a ob):
 Inv X Li σ (upd H a ob) {s with heap:=h',toks:=t'}:=
 I.write mu (.inl rfl) (λb q hb z=>(hs.2 b hb).trans z) he new
def Cu(z:Ln.length<=zj)(hd:(a==xH)=false)(rel:KV Ln vs)(dd:h'.DictOf (N8 P w) a vs):
 T9 P w H' h' a (.dK Ln):=⟨z,hd,vs,rel,dd⟩
def rc(hu:A.units+1<xF)(I:Inv X Li σ H s)(g:aI H a y v H')(ry:J1 y u)(rv:J1 v r)(h:∀s',Inv X Li σ H' s'->Q () s'):
 zt (zI X.prog X.w) A (setItem (.ref a) u r) Q E s:=by
 rcases g with⟨Ln,k,e,ey,l,eH⟩|⟨Ln,k,b,e,ey,eb,l,eH⟩
 ·subst ey eH;obtain⟨z,hd,vs,rel,dd⟩:=RI I.hok e;have hz:vs.length<=zj:=by rw[<-rel.length];exact z
  have hl:(n9 Ln k v).length<=zj:=by have:=dU Ln k v;lia
  refine wpAny_setItem_pairs (rF ry) dd λh' dd' hs=>h _ ?_;have he:∃q,h'.get? a=some q:=let ⟨q,_,_,hq,_⟩:=dd';⟨q,hq⟩;exact lP I (by rw[e];exact True.intro) hs he (Cu hl hd (rel.put k rv) dd')
 ·subst ey eH
  cases (show u=Value.ref b from ry)
  obtain⟨z,hd,xs,rel,dd⟩:=PY I.hok e;have hz:xs.length<=zj:=by rw[<-xw rel];exact z
  have hl:(n9 Ln k v).length<=zj:=by have:=dU Ln k v;lia
  refine wpAny_setItem_heap (Jm hu) (TJ I.hok eb) dd λh' dd' hs=>h _ ?_;obtain⟨q,es,ep,hq,h2,h3,h4,_,h5⟩:=dd';refine lP I (by rw[e];exact True.intro) hs ⟨q,hq⟩ ⟨hl,hd,_,(rel.put k eb rv).keeps λc ys ec=>?_,q,es,ep,hq,h2,h3,h4,h5⟩;rw[v9 (Tj ec e (λz=>nomatch z))];exact ec
def ca(I:Inv X Li σ H s)(e:Rd H a (.dK Ln))(h:∀t s',Inv X Li σ H s'->Q (.int Ln.length t) s'):zt (zI X.prog X.w) A (call (.builtin "len") [.ref a]) Q E s:=by obtain⟨z,hd,vs,rel,dd⟩:=qK I.hok e;refine call_len_dict hd dd (by rw[<-rel.length];rw[xU]at z;lia) ?_;rw[<-rel.length];exact h _ _ (I.tok _)
end
def Aq(h:Heap)(hb:xH<h.objs.size):T9 P w H (h.push {cls:=.type "dict",data:=.dict #[]}) h.objs.size (.dK []):=
 ⟨zO _,beq_eq_false_iff_ne.mpr (Ne.symm (zQ hb)), [],.nil,Heap.DictOf.new h⟩
def Da:TE:=λ_ H Q=>∀p,H p=none->Q (.ref p) (upd H p (.dK []))
section
def wx:PE X (.Dict [] [] pos) Da:=λLi s σ H Q I h=>
 wpAny_Dict_empty ⟨.ref s.heap.objs.size,_,I.laid (λ_ _ q=>zc _ q) (zh _) (Aq s.heap I.big),rfl,h _ (I.hok.fresh (zh _))⟩
end
def dL:List (TE×TE)->St->Hp->(List (V×V)->Hp->Prop)->Prop
|[],_,H,Q=>Q [] H
|(tk,tv)::r,σ,H,Q=>tk σ H λx H1=>tv σ H1 λy H2=>dL r σ H2 λps H3=>Q ((x,y)::ps) H3
abbrev VV:List (V×V)->List (zm×zm)->Prop:=Paired λp q=>J1 p.1 q.1/\J1 p.2 q.2
def PPs(X:Cx)(pos:Pos)(keys:List (Option Expr))(values:List Expr)(trs:List (TE×TE)):Prop:=
 ∀(Li:PNS) (s:zA) (σ:St) (H:Hp) (Q:List (V×V)->Hp->Prop),Inv X Li σ H s->dL trs σ H Q->
  zt (zI X.prog X.w) X.A (evalPairs (pairTrees keys values X.env pos)) (λvs s'=>∃ps H',Inv X Li σ H' s'/\VV ps vs/\Q ps H') X.xe s
structure M1(X:Cx)(o:Expr)(m:Str)(My:Pos)(e:Expr)(Ly:Pos):Prop where
 base:ZY o m X.env (eval o X.env)=eval o X.env
 few:((xV Ly (ja [e] X.env)).all (λx=> !x.1)&&(backToKw Ly (XO [] X.env)).all (λx=>x.1.isSome)
  && decide (([e]:List Expr).length+([]:List Keyword).length+(if ([]:List Keyword).isEmpty then 0 else 1)<30))=true
 line:(My.endLine==Ly.line)=true
 trees:xV Ly (ja [e] X.env)= [(false,eval e X.env)]
structure M2(X:Cx)(o:Expr)(m:Str)(My:Pos)(e f:Expr)(Ly:Pos):Prop where
 base:ZY o m X.env (eval o X.env)=eval o X.env
 few:((xV Ly (ja [e,f] X.env)).all (λx=> !x.1)&&(backToKw Ly (XO [] X.env)).all (λx=>x.1.isSome)
  && decide (([e,f]:List Expr).length+([]:List Keyword).length+(if ([]:List Keyword).isEmpty then 0 else 1)<30))=true
 line:(My.endLine==Ly.line)=true
 trees:xV Ly (ja [e,f] X.env)= [(false,eval e X.env),(false,eval f X.env)]
section
def sg:w4 X (.builtin "len") (λxs H Q=>∃a Ln,xs= [V.ref a]/\H a=some (.dK Ln)/\Q (.int Ln.length) H):=by
 intro Li s σ H xs us Q I r h;obtain⟨a,Ln,rfl,ha,q⟩:=h;obtain⟨u,rfl,ru⟩:=C9 r
 cases ru
 exact ca I (.inl ha) λt s' I'=>⟨.int Ln.length,H,I',⟨t,rfl⟩,q⟩
end
section
variable[DecidableEq κ]
end
end L2
namespace DL
open PySem PySem.Spec L2
open PyProof.Rows hiding St
inductive D where
|non|bl (b:Bool)|int (i:Int)|str (x:Str)|tup (l:List D)|ref (i:Nat)|fn (x:Str)|ty (n:String)
inductive DO where
|lst (l:List D)|rol (l:List D)|dct (l:List (Key×D))|rod (l:List (Key×D))
abbrev DH:=List DO
abbrev DPP:=D->DH->Prop
abbrev DSt:=List (Option D)
structure Wc where
 K:zo
 mg:Str->Option zm
abbrev wc(X:Cx):Wc:=⟨X.K,X.mg⟩
mutual
def d9(c:Wc)(μ:List Addr)(H:Hp):D->V->Prop
| .non,v=>v= .non
| .bl b,v=>v= .bl b
| .int i,v=>v= .int i
| .str x,v=>v= .str x
| .ty n,v=>v= .ty n
| .fn x,v=>∃a,c.mg x=some (.ref a)/\v= .ref a
| .ref i,v=>∃a,μ[i]? =some a/\v= .ref a
| .tup l,v=>∃a vs,v= .ref a/\SqT c.K H a vs/\u0 c μ H l vs
def u0(c:Wc)(μ:List Addr)(H:Hp):List D->List V->Prop
|[],vs=>vs= []
|d::ds,vs=>∃v r,vs=v::r/\d9 c μ H d v/\u0 c μ H ds r
end
def u3(c:Wc)(μ:List Addr)(H:Hp):List (Key×D)->List (Key×V)->Prop
|[],Ln=>Ln= []
|(k,d)::r,Ln=>∃v t,Ln= (k,v)::t/\d9 c μ H d v/\u3 c μ H r t
structure Ext(μ:List Addr)(H:Hp)(X2:List Addr)(H':Hp):Prop where
 pre:μ <+:X2
 new:∀a∈X2,a∉μ->H a=none
 oth:∀b o,H b=some o->b∉μ->H' b=some o
 tup:∀b xs,H b=some (.tup xs)->H' b=some (.tup xs)
 frz:∀b o u,H b=some (.frz o u)->H' b=some (.frz o u)
def Ext.refl(μ:List Addr)(H:Hp):Ext μ H μ H:=⟨YK _,λa h n=>absurd h n,λ_ _ h _=>h,λ_ _ h=>h,λ_ _ _ h=>h⟩
def Ext.trans(a:Ext μ H X0 H1)(b:Ext X0 H1 WT H2):Ext μ H WT H2 where
 pre:=a.pre.trans b.pre
 new:=λx h n=>by
  by_cases h1:x∈X0
  ·exact a.new x h1 n
  ·have e1:=b.new x h h1;rcases e:H x with _|o
   ·rfl
   ·rw[a.oth x o e n]at e1;exact tK e1
 oth:=λx o e n=>by refine b.oth x o (a.oth x o e n) λh1=>?_;have:=a.new x h1 n;rw[e]at this;exact tK this
 tup:=λx xs e=>b.tup x xs (a.tup x xs e)
 frz:=λx o u e=>b.frz x o u (a.frz x o u e)
def Ext.lay(h:H p=none)(o:HO):Ext μ H μ (upd H p o):=
 ⟨YK _,λa h n=>absurd h n,λb o' q _=>by rw[v9 (J0 q h)];exact q,λb xs q=>by rw[v9 (J0 q h)];exact q,λb o' u q=>by rw[v9 (J0 q h)];exact q⟩
def Ext.add(h:H p=none)(o:HO):Ext μ H (μ++[p]) (upd H p o):=
 ⟨List.prefix_append _ _,λa ha n=>by
  rcases zB.mp ha with z|z
  ·exact absurd z n
  ·rw[zi.mp z];exact h,λb o' q _=>by rw[v9 (J0 q h)];exact q,λb xs q=>by rw[v9 (J0 q h)];exact q,λb o' u q=>by rw[v9 (J0 q h)];exact q⟩
def Ext.mut(hp:p∈μ)(h:H p=some o')(n1:∀xs,o'≠ .tup xs)(n2:∀o u,o'≠ .frz o u)(o:HO):Ext μ H μ (upd H p o):=
 ⟨YK _,λa h n=>absurd h n,λb o2 q n=>by rw[v9 (λe=>n (by rw[e];exact hp))];exact q,λb xs q=>by
  rw[v9 (λe=>by subst e;rw[h]at q;cases q;exact n1 _ rfl)];exact q,
  λb oo u q=>by rw[v9 (λe=>by subst e;rw[h]at q;cases q;exact n2 _ _ rfl)];exact q⟩
def Ext.sqT{K:zo}(k:Ext μ H X2 H')(h:SqT K H a xs):SqT K H' a xs:=by
 rcases h with(h|⟨o,h⟩)|h
 ·exact .inl (.inl (k.tup _ _ h))
 ·exact .inl (.inr ⟨o,k.frz _ _ _ h⟩)
 ·exact .inr h
def RoL(K:zo)(H:Hp)(a:Addr)(xs:List V):Prop:=(∃o,H a=some (.frz o (.lst xs)))\/(SqL K (λ_=>none) a xs)
def aY{K:zo}(h:SqL K (λ_=>none) a xs):SqL K H a xs:=by
 rcases h with(h|⟨o,h⟩)|h
 ·exact v8 h
 ·exact v8 h
 ·exact .inr h
def RoL.sq{K:zo}(h:RoL K H a xs):SqL K H a xs:=by
 rcases h with⟨o,h⟩|h
 ·exact .inl (.inr ⟨o,h⟩)
 ·exact aY h
def Ext.roL{K:zo}(k:Ext μ H X2 H')(h:RoL K H a xs):RoL K H' a xs:=by
 rcases h with⟨o,h⟩|h
 ·exact .inl ⟨o,k.frz _ _ _ h⟩
 ·exact .inr h
section
variable{μ X2:List Addr}
def uL(h:μ <+:X2){i:Nat}(e:μ[i]? =some a):X2[i]? =some a:=by
 obtain⟨t,rfl⟩:=h;have:i<μ.length:=by
  rcases Ye i μ.length with q|q
  ·exact q
  ·rw[jC q]at e;exact v8 e
 rw[zE this];exact e
mutual
theorem d9.mono(x:Ext μ H X2 H'):∀ {d} {v},d9 c μ H d v->d9 c X2 H' d v
| .non,_,h=>h
| .bl _,_,h=>h
| .int _,_,h=>h
| .str _,_,h=>h
| .ty _,_,h=>h
| .fn _,_,h=>h
| .ref i,v,h=>by unfold d9 at h ⊢;obtain⟨a,e,r⟩:=h;exact⟨a,uL x.pre e,r⟩
| .tup l,v,h=>by unfold d9 at h ⊢;obtain⟨a,vs,e,q,r⟩:=h;exact⟨a,vs,e,x.sqT q,u0.mono x r⟩
theorem u0.mono(x:Ext μ H X2 H'):∀ {l} {vs},u0 c μ H l vs->u0 c X2 H' l vs
|[],_,h=>h
|d::ds,vs,h=>by unfold u0 at h ⊢;obtain⟨v,r,e,q,t⟩:=h;exact⟨v,r,e,d9.mono x q,u0.mono x t⟩
end
theorem u3.mono(x:Ext μ H X2 H'):∀ {l} {vs},u3 c μ H l vs->u3 c X2 H' l vs
|[],_,h=>h
|(_,d)::ds,vs,h=>by obtain⟨v,r,e,q,t⟩:=h;exact⟨v,r,e,d9.mono x q,u3.mono x t⟩
def u0.nil:u0 c μ H [] []:=rfl
def u0.cons(h:d9 c μ H d v)(t:u0 c μ H ds vs):u0 c μ H (d::ds) (v::vs):=⟨v,vs,rfl,h,t⟩
theorem u0.length:∀ {l} {vs},u0 c μ H l vs->l.length=vs.length
|[],_,h=>by cases h;rfl
|_::_,_,h=>by obtain⟨v,r,rfl,_,t⟩:=h;simp[u0.length t]
theorem u0.get:∀ {l} {vs} {i:Nat} {d},u0 c μ H l vs->l[i]? =some d->∃v,vs[i]? =some v/\d9 c μ H d v
|[],_,_,_,_,e=>by simp at e
|_::_,_,0,_,h,e=>by obtain⟨v,r,rfl,q,t⟩:=h;simp at e;subst e;exact⟨v,rfl,q⟩
|_::_,_,i+1,_,h,e=>by obtain⟨v,r,rfl,q,t⟩:=h;simp at e;obtain⟨w,h1,h2⟩:=u0.get t e;exact⟨w,by simpa using h1,h2⟩
theorem u0.append:∀ {l l'} {vs Na},u0 c μ H l vs->u0 c μ H l' Na->u0 c μ H (l++l') (vs++Na)
|[],_,_,_,h,t=>by cases h;exact t
|_::_,_,_,_,h,t=>by obtain⟨v,r,rfl,q,u⟩:=h;exact⟨v,r++_,rfl,q,u0.append u t⟩
theorem u0.take:∀n {l} {vs},u0 c μ H l vs->u0 c μ H (l.take n) (vs.take n)
|0,_,_,_=>rfl
|_+1, [],_,h=>by cases h;rfl
|n+1,_::_,_,h=>by obtain⟨v,r,rfl,q,u⟩:=h;exact⟨v,r.take n,rfl,q,u0.take n u⟩
theorem u0.drop:∀n {l} {vs},u0 c μ H l vs->u0 c μ H (l.drop n) (vs.drop n)
|0,_,_,h=>h
|_+1, [],_,h=>by cases h;rfl
|n+1,_::_,_,h=>by obtain⟨v,r,rfl,q,u⟩:=h;exact u0.drop n u
theorem u0.set(hv:d9 c μ H d v):∀n {l} {vs},u0 c μ H l vs->u0 c μ H (l.set n d) (vs.set n v)
|_, [],_,h=>by cases h;rfl
|0,_::_,_,h=>by obtain⟨w,r,rfl,q,u⟩:=h;exact⟨v,r,rfl,hv,u⟩
|n+1,_::_,_,h=>by obtain⟨w,r,rfl,q,u⟩:=h;exact⟨w,r.set n v,rfl,q,u0.set hv n u⟩
def u0.dropLast(h:u0 c μ H l vs):u0 c μ H l.dropLast vs.dropLast:=by rw[List.dropLast_eq_take,List.dropLast_eq_take,h.length];exact h.take _
def c9:Option DO->Prop
|some (.rol _)=>True
|some (.rod _)=>True
|_=>False
def cB(c:Wc)(μ:List Addr)(H:Hp)(a:Addr):DO->Prop
| .lst l=>∃vs,H a=some (.lst vs)/\u0 c μ H l vs
| .rol l=>∃vs,RoL c.K H a vs/\u0 c μ H l vs
| .dct l=>∃Ln,H a=some (.dK Ln)/\u3 c μ H l Ln
| .rod l=>∃Ln o,H a=some (.frz o (.dK Ln))/\u3 c μ H l Ln
structure v5(c:Wc)(μ:List Addr)(G:DH)(H:Hp):Prop where
 len:μ.length=G.length
 inj:∀(i j:Nat) (a:Addr),μ[i]? =some a->μ[j]? =some a->i=j\/c9 G[i]? \/c9 G[j]?
 obj:∀(i:Nat) (o:DO) (a:Addr),G[i]? =some o->μ[i]? =some a->cB c μ H a o
def lt_of_get{α:Type}{l:List α}{x:α}(e:l[i]? =some x):i<l.length:=by
 rcases Ye i l.length with q|q
 ·exact q
 ·rw[jC q]at e;exact v8 e
def cB.mono(x:Ext μ H X2 H')(h:cB c μ H a o)(e:H' a=H a\/c9 (some o)):cB c X2 H' a o:=by
 rcases o with l|l|l|l
 ·
   obtain⟨vs,q,r⟩:=h;rcases e with e|e
   ·exact⟨vs,e.trans q,r.mono x⟩
   ·exact e.elim
 ·obtain⟨vs,q,r⟩:=h;exact⟨vs,x.roL q,r.mono x⟩
 ·
   obtain⟨vs,q,r⟩:=h;rcases e with e|e
   ·exact⟨vs,e.trans q,r.mono x⟩
   ·exact e.elim
 ·obtain⟨vs,o,q,r⟩:=h;exact⟨vs,o,x.frz _ _ _ q,r.mono x⟩
def cB.some_of(h:cB c μ H a o)(n:¬c9 (some o)):∃u,H a=some u/\(∀xs,u≠ .tup xs)/\∀o' u',u≠ .frz o' u':=by
 rcases o with l|l|l|l
 ·obtain⟨vs,q,_⟩:=h;exact⟨_,q,(λ_ z=>nomatch z),(λ_ _ z=>nomatch z)⟩
 ·exact(n trivial).elim
 ·obtain⟨vs,q,_⟩:=h;exact⟨_,q,(λ_ z=>nomatch z),(λ_ _ z=>nomatch z)⟩
 ·exact(n trivial).elim
def v5.same(h:v5 c μ G H)(k:Ext μ H μ H')(e:∀a o,H a=some o->(∀xs,o≠ .tup xs)->H' a=some o):v5 c μ G H':=
 ⟨h.len,h.inj,λi o a g m=>by
  have q:=h.obj i o a g m;by_cases hr:c9 (some o)
  ·exact q.mono k (.inr hr)
  ·obtain⟨u,e1,n1,n2⟩:=q.some_of hr;exact q.mono k (.inl ((e a u e1 n1).trans e1.symm))⟩
def v5.new{p:Addr}(h:v5 c μ G H)(hp:H p=none)(ho:cB c (μ++[p]) (upd H p u) p o):v5 c (μ++[p]) (G++[o]) (upd H p u):=by
 have k:Ext μ H (μ++[p]) (upd H p u):=Ext.add hp u;have old:∀(i:Nat) (a:Addr),i<μ.length->(μ++[p])[i]? =some a->μ[i]? =some a:=λi a hi e=>by rw[zE hi]at e;exact e
 refine⟨by simp[h.len],λi j a ei ej=>?_,λi o' a g m=>?_⟩
 ·have li:=lt_of_get ei;have lj:=lt_of_get ej;simp only[zv,yq]at li lj;by_cases hi:i<μ.length
  ·have mi:=old i a hi ei;have gi:(G++[o])[i]? =G[i]? :=zE (by rw[<-h.len];exact hi);by_cases hj:j<μ.length
   ·have mj:=old j a hj ej;have gj:(G++[o])[j]? =G[j]? :=zE (by rw[<-h.len];exact hj);rw[gi,gj];exact h.inj i j a mi mj
   ·-- j is the new one:a=p
    have ej':j=μ.length:=by lia
    subst ej';have ea:a=p:=by simpa using ej.symm
    subst ea;right;left;rw[gi];have hg:i<G.length:=by rw[<-h.len];exact hi
    have q:=h.obj i G[i] a (zD hg) mi;rw[zD hg];refine jJ λn=>?_;obtain⟨u',e1,_⟩:=q.some_of n;rw[hp]at e1;exact v8 e1
  ·have ei':i=μ.length:=by lia
   by_cases hj:j<μ.length
   ·have mj:=old j a hj ej;have gj:(G++[o])[j]? =G[j]? :=zE (by rw[<-h.len];exact hj);subst ei';have ea:a=p:=by simpa using ei.symm
    subst ea;right;right;rw[gj];have hg:j<G.length:=by rw[<-h.len];exact hj
    have q:=h.obj j G[j] a (zD hg) mj;rw[zD hg];refine jJ λn=>?_;obtain⟨u',e1,_⟩:=q.some_of n;rw[hp]at e1;exact v8 e1
   ·left;lia
 ·have li:=lt_of_get m;simp only[zv,yq]at li;by_cases hi:i<μ.length
  ·have mi:=old i a hi m;rw[zE (by rw[<-h.len];exact hi)]at g;have q:=h.obj i o' a g mi;by_cases hr:c9 (some o')
   ·exact q.mono k (.inr hr)
   ·obtain⟨u',e1,_⟩:=q.some_of hr;exact q.mono k (.inl (v9 (J0 e1 hp)))
  ·have ei':i=μ.length:=by lia
   subst ei';have ea:a=p:=by simpa using m.symm
   subst ea;rw[h.len]at g;have eo:o'=o:=by simpa using g.symm
   subst eo;exact ho
def v5.set{o o':DO}{u:HO}(h:v5 c μ G H)(g:G[i]? =some o)(n:¬c9 (some o))(m:μ[i]? =some a)(k:Ext μ H μ (upd H a u))(n':¬c9 (some o'))(ho:cB c μ (upd H a u) a o'):v5 c μ (G.set i o') (upd H a u):=by
 have hi:i<G.length:=lt_of_get g;have get:∀j,(G.set i o')[j]? =if i=j then some o' else G[j]? :=λj=>by
  rw[XX];by_cases e:i=j
  ·subst e;simp[hi]
  ·simp[e]
 refine⟨by simp[h.len],λj l b ej el=>?_,λj o2 b gj mj=>?_⟩
 ·rcases h.inj j l b ej el with e|e|e
  ·exact .inl e
  ·by_cases ij:i=j
   ·subst ij;rw[g]at e;exact(n e).elim
   ·right;left;rw[get,if_neg ij];exact e
  ·by_cases ij:i=l
   ·subst ij;rw[g]at e;exact(n e).elim
   ·right;right;rw[get,if_neg ij];exact e
 ·rw[get]at gj;by_cases ij:i=j
  ·subst ij;rw[if_pos rfl]at gj
   cases gj
   rw[m]at mj
   cases mj
   exact ho
  ·rw[if_neg ij]at gj;have q:=h.obj j o2 b gj mj;by_cases hr:c9 (some o2)
   ·exact q.mono k (.inr hr)
   ·have nb:b≠a:=λe=>by
     subst e;rcases h.inj i j b m mj with e|e|e
     ·exact ij e
     ·rw[g]at e;exact n e
     ·rw[gj]at e;exact hr e
    exact q.mono k (.inl (v9 nb))
def K5(c:Wc)(μ:List Addr)(H:Hp)(X9:DSt)(σ:St):Prop:=X9.length=σ.length/\∀(i:Nat) (d:D),X9[i]? =some (some d)->∃v,σ[i]? =some (some v)/\d9 c μ H d v
def K5.mono(x:Ext μ H X2 H')(h:K5 c μ H X9 σ):K5 c X2 H' X9 σ:=
 ⟨h.1,λi d e=>let ⟨v,a,b⟩:=h.2 i d e;⟨v,a,b.mono x⟩⟩
def K5.put(h:K5 c μ H X9 σ)(r:d9 c μ H d v)(i:Nat):K5 c μ H (X9.set i (some d)) (σ.set i (some v)):=by
 refine⟨by simp[h.1],λj d' e=>?_⟩;rw[XX]at e ⊢;by_cases ij:i=j
 ·subst ij;rw[if_pos rfl]at e ⊢;rw[<-h.1];split at e
  ·rename_i hl;rw[if_pos hl]
   cases e
   exact⟨v,rfl,r⟩
  ·exact v8 e
 ·rw[if_neg ij]at e ⊢;exact h.2 j d' e
end
def M(α:Type):=DH->Option (Except Str α×DH)
namespace M
def pure{α:Type}(a:α):M α:=λG=>some (.ok a,G)
def bind{α β:Type}(m:M α)(f:α->M β):M β:=λG=>match m G with
|none=>none
|some (.ok a,G1)=>f a G1
|some (.error x,G1)=>some (.error x,G1)
def stuck{α:Type}:M α:=λ_=>none
end M
instance:Monad M:={pure:=M.pure,bind:=M.bind}
def M.bind_eq(m:M α)(f:α->M β)(G:DH):(m >>= f) G=match m G with
|none=>none
|some (.ok a,G1)=>f a G1
|some (.error x,G1)=>some (.error x,G1):=rfl
def M.bind_ok{f:α->M β}(h:m G=some (.ok a,G1)):(m >>= f) G=f a G1:=by rw[M.bind_eq,h]
def M.bind_assoc(m:M α)(f:α->M β)(g:β->M γ):((m >>= f) >>= g)= (m >>= λa=>f a >>= g):=by
 funext G;simp only[M.bind_eq];rcases m G with _|p
 ·rfl
 ·obtain⟨r,G1⟩:=p;cases r<;>rfl
abbrev XC:=Str->List Addr->DH->Hp->Prop
def ZF:XC:=λ_ _ _ _=>False
def d7{α:Type}(c:Wc)(Z:XC)(μ:List Addr)(H:Hp)(r:Option (Except Str α×DH))(K:α->List Addr->DH->Hp->Prop):Prop:=
 match r with
 |none=>False
 |some (.ok a,G')=>∀ X2 H',Ext μ H X2 H'->v5 c X2 G' H'->K a X2 G' H'
 |some (.error x,G')=>∀ X2 H',Ext μ H X2 H'->v5 c X2 G' H'->Z x X2 G' H'
section
def d7.mono{K K':α->List Addr->DH->Hp->Prop}(h:d7 c Z μ H r K)
 (k:∀a X2 G' H',Ext μ H X2 H'->v5 c X2 G' H'->K a X2 G' H'->K' a X2 G' H'):d7 c Z μ H r K':=by
 match r,h with
 |some (.ok a,G'),h=>exact λX2 H' p e=>k a X2 G' H' p e (h X2 H' p e)
 |some (.error x,G'),h=>exact h
def d7.from{K:α->List Addr->DH->Hp->Prop}(h:d7 c Z μ H r K)(p:Ext μ H X2 H'):d7 c Z X2 H' r K:=by
 match r,h with
 |some (.ok a,G'),h=>exact λWT H2 p2 e=>h WT H2 (p.trans p2) e
 |some (.error x,G'),h=>exact λWT H2 p2 e=>h WT H2 (p.trans p2) e
def d7.bind{m:M α}{K:β->List Addr->DH->Hp->Prop}(h:d7 c Z μ H ((m >>= f) G) K):
 d7 c Z μ H (m G) (λa X2 G' H'=>d7 c Z X2 H' (f a G') K):=by
 rw[M.bind_eq]at h
 match m G,h with
 |some (.ok a,G'),h=>exact λX2 H' p e=>d7.from h p
 |some (.error x,G'),h=>exact h
def d7.ok{K:α->List Addr->DH->Hp->Prop}(h:d7 c Z μ H (some (.ok a,G)) K)(e:v5 c μ G H):K a μ G H:=h μ H (Ext.refl _ _) e
end
inductive Fl where
|nx (σ:DSt)|rt (d:D)|bk (σ:DSt)|ct (σ:DSt)
section
variable(c:Wc)(Z:XC)
def dC(f:DSt->M D):TE:=λσ H Q=>∃X9 μ G,K5 c μ H X9 σ/\v5 c μ G H/\d7 c Z μ H (f X9 G) λd X2 _ H'=>∀v,d9 c X2 H' d v->Q v H'
def GD(f:DSt->M Bool):TT:=λσ H Q=>∃X9 μ G,K5 c μ H X9 σ/\v5 c μ G H/\d7 c Z μ H (f X9 G) λb X2 _ H'=>Q b H'
def bG(f:DSt->M (List D)):TA:=λσ H Q=>∃X9 μ G,K5 c μ H X9 σ/\v5 c μ G H/\d7 c Z μ H (f X9 G) λds X2 _ H'=>∀vs,u0 c X2 H' ds vs->Q vs H'
def SD(E:vC)(fl:Fl)(μ:List Addr)(H:Hp):Prop:=match fl with
| .nx X9=>∀ σ,K5 c μ H X9 σ->E.nx σ H
| .rt d=>∀v,d9 c μ H d v->E.rt v H
| .bk X9=>∀ σ,K5 c μ H X9 σ->E.bk σ H
| .ct X9=>∀ σ,K5 c μ H X9 σ->E.ct σ H
def TC(f:DSt->M Fl):TS:=λE σ H=>∃X9 μ G,K5 c μ H X9 σ/\v5 c μ G H/\d7 c Z μ H (f X9 G) λfl X2 _ H'=>SD c E fl X2 H'
end
def dC.elim{P:Prop}{H:Hp}{Q:VK}(h:dC c Z f σ H Q)(k:∀X9 μ G,K5 c μ H X9 σ->v5 c μ G H->d7 c Z μ H (f X9 G) (λd X2 _ H'=>∀v,d9 c X2 H' d v->Q v H')->P):P:=by obtain⟨e0,e1,e2,e3,e4,e5⟩:=h;exact k e0 e1 e2 e3 e4 e5
def GD.elim{P:Prop}{σ:St}{H:Hp}(h:GD c Z f σ H Q)(k:∀X9 μ G,K5 c μ H X9 σ->v5 c μ G H->d7 c Z μ H (f X9 G) (λb X2 _ H'=>Q b H')->P):P:=by obtain⟨e0,e1,e2,e3,e4,e5⟩:=h;exact k e0 e1 e2 e3 e4 e5
def bG.elim{P:Prop}{σ:St}{H:Hp}(h:bG c Z f σ H Q)(k:∀X9 μ G,K5 c μ H X9 σ->v5 c μ G H->d7 c Z μ H (f X9 G) (λds X2 _ H'=>∀vs,u0 c X2 H' ds vs->Q vs H')->P):P:=by obtain⟨e0,e1,e2,e3,e4,e5⟩:=h;exact k e0 e1 e2 e3 e4 e5
def TC.elim{P:Prop}{σ:St}{H:Hp}(h:TC c Z f E σ H)(k:∀X9 μ G,K5 c μ H X9 σ->v5 c μ G H->d7 c Z μ H (f X9 G) (λfl X2 _ H'=>SD c E fl X2 H')->P):P:=by obtain⟨e0,e1,e2,e3,e4,e5⟩:=h;exact k e0 e1 e2 e3 e4 e5
structure DE(X:Cx)(Z:XC)(e:Expr)(f:DSt->M D):Prop where
 h:PE X e (dC (wc X) Z f)
structure DT(X:Cx)(Z:XC)(e:Expr)(f:DSt->M Bool):Prop where
 h:PT X e (GD (wc X) Z f)
structure DA(X:Cx)(Z:XC)(e:List Expr)(f:DSt->M (List D)):Prop where
 h:PA X e (bG (wc X) Z f)
structure DS(X:Cx)(Z:XC)(e:Stmt)(f:DSt->M Fl):Prop where
 h:PS X e (TC (wc X) Z f)
structure DB(X:Cx)(Z:XC)(e:List Stmt)(f:DSt->M Fl):Prop where
 h:PSs X e (TC (wc X) Z f)
def PE.mono(h:PE X e t)(k:∀ σ H Q,t' σ H Q->t σ H Q):PE X e t':=λLi s σ H Q I q=>h Li s σ H Q I (k σ H Q q)
def PT.mono(h:PT X e t)(k:∀ σ H Q,t' σ H Q->t σ H Q):PT X e t':=λLi s σ H Q I q=>h Li s σ H Q I (k σ H Q q)
def PW.mono(h:PW X e t)(k:∀ σ H Q,t' σ H Q->t σ H Q):PW X e t':=λwh Li s σ H Q I q=>h wh Li s σ H Q I (k σ H Q q)
def PA.mono(h:PA X e t)(k:∀ σ H Q,t' σ H Q->t σ H Q):PA X e t':=λpos Li s σ H Q I q=>h pos Li s σ H Q I (k σ H Q q)
def PS.mono(h:PS X e t)(k:∀E σ H,t' E σ H->t E σ H):PS X e t':=λLi s σ H E I q=>h Li s σ H E I (k E σ H q)
def PSs.mono(h:PSs X e t)(k:∀E σ H,t' E σ H->t E σ H):PSs X e t':=λLi s σ H E I q=>h Li s σ H E I (k E σ H q)
def DE.of(h:PE X e t)(k:∀ σ H Q,dC (wc X) Z f σ H Q->t σ H Q):DE X Z e f:=⟨PE.mono h k⟩
def DT.of(h:PT X e t)(k:∀ σ H Q,GD (wc X) Z f σ H Q->t σ H Q):DT X Z e f:=⟨PT.mono h k⟩
def DA.of(h:PA X e t)(k:∀ σ H Q,bG (wc X) Z f σ H Q->t σ H Q):DA X Z e f:=⟨PA.mono h k⟩
def DS.of(h:PS X e t)(k:∀E σ H,TC (wc X) Z f E σ H->t E σ H):DS X Z e f:=⟨PS.mono h k⟩
def DB.of(h:PSs X e t)(k:∀E σ H,TC (wc X) Z f E σ H->t E σ H):DB X Z e f:=⟨PSs.mono h k⟩
end DL
namespace DL
open PySem PySem.Spec L2
open PyProof.Rows hiding St
def V8:Expr->Bool
| .Starred ..=>false
|_=>true
def QA(h:V8 e=true):ja (e::es) env= (false,eval e env)::ja es env:=by
 cases e<;>first
  |rfl
  |exact B7 h
def MB(h:V8 e=true):ja [e] env= [(false,eval e env)]:=QA h
def OU(h:V8 a=true)(h':V8 b=true):ja [a,b] env= [(false,eval a env),(false,eval b env)]:=by rw[QA h,MB h']
abbrev Fe:=DSt->M D
def T7(i:Nat):Fe:=λσ G=>match σ[i]? with
|some (some d)=>some (.ok d,G)
|_=>none
def cE(d:D):Fe:=λ_=>pure d
def m9(o:D->D->M D)(a b:Fe):Fe:=λσ=>do o (<-a σ) (<-b σ)
def unE(o:D->M D)(a:Fe):Fe:=λσ=>do o (<-a σ)
def K0:DSt->M (List D):=λ_=>pure []
def A0(a:Fe)(r:DSt->M (List D)):DSt->M (List D):=λσ=>do
 let x <-a σ
 let xs <-r σ
 pure (x::xs)
def P2(F:List D->M D)(a:DSt->M (List D)):Fe:=λσ=>do F (<-a σ)
def qG:D->M Bool
| .bl b=>pure b
|_=>M.stuck
def iD(a:Fe):Fe:=λσ=>do pure (.bl (!(<-qG (<-a σ))))
def ifE(t:DSt->M Bool)(a b:Fe):Fe:=λσ=>do if <-t σ then a σ else b σ
section
variable(c:Wc)(Z:XC)
def oE(o:D->D->M D):R2:=λx y H Q=>∃dx dy μ G,d9 c μ H dx x/\d9 c μ H dy y/\v5 c μ G H/\d7 c Z μ H (o dx dy G) λd X2 _ H'=>∀v,d9 c X2 H' d v->Q v H'
def nO(o:D->M D):V->Hp->VK->Prop:=λx H Q=>∃dx μ G,d9 c μ H dx x/\v5 c μ G H/\d7 c Z μ H (o dx G) λd X2 _ H'=>∀v,d9 c X2 H' d v->Q v H'
def gD(F:List D->M D):List V->Hp->VK->Prop:=λxs H Q=>∃ds μ G,u0 c μ H ds xs/\v5 c μ G H/\d7 c Z μ H (F ds G) λd X2 _ H'=>∀v,d9 c X2 H' d v->Q v H'
end
def oE.elim{P:Prop}{x:V}{y:V}{Q:VK}(h:oE c Z o x y H Q)(k:∀dx dy μ G,d9 c μ H dx x->d9 c μ H dy y->v5 c μ G H->d7 c Z μ H (o dx dy G) (λd X2 _ H'=>∀v,d9 c X2 H' d v->Q v H')->P):P:=by obtain⟨e0,e1,e2,e3,e4,e5,e6,e7⟩:=h;exact k e0 e1 e2 e3 e4 e5 e6 e7
def nO.elim{P:Prop}{x:V}{Q:VK}(h:nO c Z o x H Q)(k:∀dx μ G,d9 c μ H dx x->v5 c μ G H->d7 c Z μ H (o dx G) (λd X2 _ H'=>∀v,d9 c X2 H' d v->Q v H')->P):P:=by obtain⟨e0,e1,e2,e3,e4,e5⟩:=h;exact k e0 e1 e2 e3 e4 e5
def gD.elim{P:Prop}{H:Hp}{Q:VK}(h:gD c Z F xs H Q)(k:∀ds μ G,u0 c μ H ds xs->v5 c μ G H->d7 c Z μ H (F ds G) (λd X2 _ H'=>∀v,d9 c X2 H' d v->Q v H')->P):P:=by obtain⟨e0,e1,e2,e3,e4,e5⟩:=h;exact k e0 e1 e2 e3 e4 e5
structure OpD(X:Cx)(Z:XC)(f:zm->zm->Sem zm)(o:D->D->M D):Prop where
 h:OpR X f (oE (wc X) Z o)
structure UnD(X:Cx)(Z:XC)(f:zm->Sem zm)(o:D->M D):Prop where
 h:UnR X f (nO (wc X) Z o)
structure W8(X:Cx)(Z:XC)(f:zm)(F:List D->M D):Prop where
 h:w4 X f (gD (wc X) Z F)
def OpR.mono(h:OpR X f r)(k:∀x y H Q,r' x y H Q->r x y H Q):OpR X f r':=λLi s σ H x y v u Q I rx ry q=>h Li s σ H x y v u Q I rx ry (k x y H Q q)
def w4.mono(h:w4 X f r)(k:∀xs H Q,r' xs H Q->r xs H Q):w4 X f r':=λLi s σ H xs us Q I rx q=>h Li s σ H xs us Q I rx (k xs H Q q)
def OpD.of(h:OpR X f r)(k:∀x y H Q,oE (wc X) Z o x y H Q->r x y H Q):OpD X Z f o:=⟨OpR.mono h k⟩
def W8.of(h:w4 X f r)(k:∀xs H Q,gD (wc X) Z F xs H Q->r xs H Q):W8 X Z f F:=⟨w4.mono h k⟩
section
variable{X:Cx}{Z:XC}{a b c e:Expr}{pos:Pos}
def lI(σ:St)(H:Hp)(Q:VK)(h:dC cc Z (m9 o fa fb) σ H Q):tOp (oE cc Z o) (dC cc Z fa) (dC cc Z fb) σ H Q:=by obtain⟨X9,μ,G,s,h,p⟩:=h;exact⟨X9,μ,G,s,h,(d7.bind p).mono λx X0 G1 H1 x' h1 p1 v rv=>⟨X9,X0,G1,s.mono x',h1,(d7.bind p1).mono λy WT G2 H2 x2 h2 p2 u ru=>⟨x,y,WT,G2,rv.mono x2,ru,h2,p2⟩⟩⟩
def BZ(h:PE X e (DU i)):DE X Z e (T7 i):=DE.of h λσ H Q Lo=>Lo.elim λX9 μ G s h p=>by
 delta T7 at p;rcases he:X9[i]? with _|_|d
 ·rw[he]at p;exact p.elim
 ·rw[he]at p;exact p.elim
 ·rw[he]at p;obtain⟨v,e1,r⟩:=s.2 i d he;exact⟨v,e1,d7.ok p h v r⟩
def uG(h:PE X e (tC v))(r:∀ μ H,d9 (wc X) μ H d v):DE X Z e (cE d):=DE.of h λσ H Q Lo=>Lo.elim λX9 μ G s h p=>d7.ok p h v (r _ _)
def Wb{i j pos}:DE X Z (.Constant (.int i) j pos) (cE (.int i)):=uG pW λ_ _=>by unfold d9;rfl
def qa{i j pos}:DE X Z (.Constant (.bool i) j pos) (cE (.bl i)):=uG Bn λ_ _=>by unfold d9;rfl
def Pm{j pos}:DE X Z (.Constant .none j pos) (cE .non):=uG gc λ_ _=>by unfold d9;rfl
def iZ{i j pos}:DE X Z (.Constant (.str i) j pos) (cE (.str i)):=uG Lx λ_ _=>by unfold d9;rfl
def vk(i:Nat)(hN:X.N[i]? =some x)(hv:Vis X.env.scope x)(hd:(x==("__debug__" :Str))=false)
 (hcd:(x==("__classdict__" :Str))=false):DE X Z (.Name x pos) (T7 i):=BZ (DX hN hv hd hcd)
def cv(ho:OpD X Z (yG op) o)(ha:DE X Z a fa)(hb:DE X Z b fb):DE X Z (.BinOp a op b pos) (m9 o fa fb):=
 DE.of (pM ho.h ha.h hb.h) lI
def cw(ho:OpD X Z (jf op) o)(ha:DE X Z a fa)(hb:DE X Z b fb)(hm:Jd op b=false):DE X Z (.Compare a [op] [b] pos) (m9 o fa fb):=
 DE.of (lq ho.h ha.h hb.h hm) lI
def Hs(ho:UnD X Z (unaryOp op) o)(ha:DE X Z a fa):DE X Z (.UnaryOp op a pos) (unE o fa):=
 DE.of (Pv ho.h ha.h) λσ H Q Lo=>Lo.elim λX9 μ G s h p=>⟨X9,μ,G,s,h,(d7.bind p).mono λx X0 G1 H1 x' h1 p1 v rv=>⟨x,X0,G1,rv,h1,p1⟩⟩
def GT{H:Hp}{d:D}{f:Bool->M α}{G:DH}{K:α->List Addr->DH->Hp->Prop}(p:d7 cc Z μ H ((qG d >>= f) G) K):∃k,d= .bl k/\d7 cc Z μ H (f k G) K:=by
 cases d with
 |bl k=>exact⟨k,rfl,p⟩
 |_=>exact p.elim
def Mw{op}(h:DE X Z a f):DE X Z (.BoolOp op [a] pos) f:=⟨dq h.h⟩
def wj(ha:DE X Z a fa):DE X Z (.UnaryOp .Not a pos) (iD fa):=
 DE.of (vz ha.h) λσ H Q Lo=>Lo.elim λX9 μ G s h p=>⟨X9,μ,G,s,h,(d7.bind p).mono λx X0 G1 H1 x' h1 p1 v rv=>by obtain⟨k',rfl,p2⟩:=GT p1;unfold d9 at rv;exact⟨k',rv,d7.ok p2 h1 _ (by unfold d9;rfl)⟩⟩
def sA(f:Fe):DSt->M Bool:=λσ=>do qG (<-f σ)
def B3(a b:DSt->M Bool):DSt->M Bool:=λσ=>do if <-a σ then b σ else pure false
def orT(a b:DSt->M Bool):DSt->M Bool:=λσ=>do if <-a σ then pure true else b σ
def C3(a:DSt->M Bool):DSt->M Bool:=λσ=>do pure (!(<-a σ))
structure DW(X:Cx)(Z:XC)(e:Expr)(f:DSt->M Bool):Prop where
 h:PW X e (GD (wc X) Z f)
def DW.of(h:PW X e t)(k:∀ σ H Q,GD (wc X) Z f σ H Q->t σ H Q):DW X Z e f:=⟨PW.mono h k⟩
variable{ta tb:DSt->M Bool}{rest:List Expr}
def DW.dt(h:DW X Z a ta):DT X Z a ta:=⟨λLi s σ H Q I q=>h.h _ Li s σ H Q I q⟩
def Fk(ho:OpD X Z (jf op) o)(ha:DE X Z a fa)(hb:DE X Z b fb)(hm:Jd op b=false):DT X Z (.Compare a [op] [b] pos) (sA (m9 o fa fb)):=
 DT.of (Nm ho.h ha.h hb.h hm) λσ H Q Lo=>Lo.elim λX9 μ G s h p=>lI σ H _ ⟨X9,μ,G,s,h,(d7.bind p).mono λx X0 G1 H1 x' h1 p1 v rv=>by
  cases x with
  |bl k'=>unfold d9 at rv;exact⟨k',rv,d7.ok p1 h1⟩
  |_=>exact p1.elim⟩
def Cc(ha:DT X Z a ta):DW X Z (.BoolOp .And [a] pos) ta:=⟨ua ha.h⟩
def Gv(ha:DT X Z a ta):DW X Z (.BoolOp .Or [a] pos) ta:=⟨ui ha.h⟩
def Qk(ha:DT X Z a ta)(hb:DW X Z (.BoolOp .And (b::rest) pos) tb):DW X Z (.BoolOp .And (a::b::rest) pos) (B3 ta tb):=
 DW.of (qh ha.h hb.h) λσ H Q Lo=>Lo.elim λX9 μ G s h p=>⟨X9,μ,G,s,h,(d7.bind p).mono λx X0 G1 H1 x' h1 p1=>by
  cases x with
  |true=>exact⟨X9,X0,G1,s.mono x',h1,p1⟩
  |false=>exact d7.ok p1 h1⟩
def ag(ha:DT X Z a ta)(hb:DW X Z (.BoolOp .Or (b::rest) pos) tb):DW X Z (.BoolOp .Or (a::b::rest) pos) (orT ta tb):=
 DW.of (Wq ha.h hb.h) λσ H Q Lo=>Lo.elim λX9 μ G s h p=>⟨X9,μ,G,s,h,(d7.bind p).mono λx X0 G1 H1 x' h1 p1=>by
  cases x with
  |false=>exact⟨X9,X0,G1,s.mono x',h1,p1⟩
  |true=>exact d7.ok p1 h1⟩
def vp(ha:DT X Z a ta):DT X Z (.UnaryOp .Not a pos) (C3 ta):=
 DT.of (IY ha.h) λσ H Q Lo=>Lo.elim λX9 μ G s h p=>⟨X9,μ,G,s,h,(d7.bind p).mono λx X0 G1 H1 x' h1 p1=>d7.ok p1 h1⟩
def nn(hc:DT X Z c ta)(ha:DE X Z a fa)(hb:DE X Z b fb):DE X Z (.IfExp c a b pos) (ifE ta fa fb):=
 DE.of (Fz hc.h ha.h hb.h) λσ H Q Lo=>Lo.elim λX9 μ G s h p=>⟨X9,μ,G,s,h,(d7.bind p).mono λx X0 G1 H1 x' h1 p1=>by
  cases x with
  |true=>exact⟨X9,X0,G1,s.mono x',h1,p1⟩
  |false=>exact⟨X9,X0,G1,s.mono x',h1,p1⟩⟩
def qq:DA X Z [] K0:=DA.of Fc λσ H Q Lo=>Lo.elim λX9 μ G s h p=>d7.ok p h [] rfl
def Cr(ha:DE X Z e fa)(hr:DA X Z es fs)(hs:ja (e::es) X.env= (false,eval e X.env)::ja es X.env):DA X Z (e::es) (A0 fa fs):=
 DA.of (vc ha.h hr.h hs) λσ H Q Lo=>Lo.elim λX9 μ G s h p=>⟨X9,μ,G,s,h,(d7.bind p).mono λx X0 G1 H1 x' h1 p1 v rv=>
  ⟨X9,X0,G1,s.mono x',h1,(d7.bind p1).mono λxs WT G2 H2 x2 h2 p2 vs rvs=>d7.ok p2 h2 (v::vs) ⟨v,vs,rfl,rv.mono x2,rvs⟩⟩⟩
def X4(fs:DSt->M (List D)):Fe:=λσ=>do
 let xs <-fs σ
 if xs.length<=zj then pure (.tup xs)else M.stuck
def N7(o:DO):M D:=λG=>some (.ok (.ref G.length),G++[o])
def Q6(fs:DSt->M (List D)):Fe:=λσ=>do
 let xs <-fs σ
 if xs.length<=zj then N7 (.lst xs)else M.stuck
def OH{G:DH}{Q:VK}(h:v5 cc μ G H)(r:u0 cc μ H xs vs)
 (p:d7 cc Z μ H (some (Except.ok (.tup xs),G)) λd X2 _ H'=>∀v,d9 cc X2 H' d v->Q v H') (q:Addr) (hq:H q=none):Q (.ref q) (upd H q (.tup vs)):=by
 have k:Ext μ H μ (upd H q (.tup vs)):=Ext.lay hq _;refine p μ _ k (h.same k λa o e n=>?_) _ ?_
 ·rw[v9 (J0 e hq)];exact e
 ·unfold d9;exact⟨q,vs,rfl,SqT.of Q5,r.mono k⟩
def U6{G:DH}{Q:VK}(h:v5 cc μ G H)(r:u0 cc μ H xs vs)
 (p:d7 cc Z μ H (N7 (.lst xs) G) λd X2 _ H'=>∀v,d9 cc X2 H' d v->Q v H') (q:Addr) (hq:H q=none):Q (.ref q) (upd H q (.lst vs)):=by
 have k:Ext μ H (μ++[q]) (upd H q (.lst vs)):=Ext.add hq _;refine p (μ++[q]) _ k (h.new hq ⟨vs,Q5,r.mono k⟩) _ ?_;unfold d9;exact⟨q,by rw[<-h.len];simp,rfl⟩
def wu{x1}(h:DA X Z es fs):DE X Z (.Tuple es x1 pos) (X4 fs):=
 DE.of (tu h.h) λσ H Q Lo=>Lo.elim λX9 μ G s h p=>⟨X9,μ,G,s,h,(d7.bind p).mono λxs X0 G1 H1 x' h1 p1 vs rv=>by
  split at p1
  ·rename_i hz;exact⟨by rw[<-rv.length];exact hz,λq hq=>OH h1 rv p1 q hq⟩
  ·exact p1.elim⟩
def RY(h:DA X Z es fs):DE X Z (.List es pos) (Q6 fs):=
 DE.of (mX h.h) λσ H Q Lo=>Lo.elim λX9 μ G s h p=>⟨X9,μ,G,s,h,(d7.bind p).mono λxs X0 G1 H1 x' h1 p1 vs rv=>by
  split at p1
  ·rename_i hz;exact⟨by rw[<-rv.length];exact hz,λq hq=>U6 h1 rv p1 q hq⟩
  ·exact p1.elim⟩
def OT(σ:St)(H:Hp)(Q:VK)(h:dC cc Z (P2 F fs) σ H Q):tCB (gD cc Z F) (bG cc Z fs) σ H Q:=by obtain⟨X9,μ,G,s,h,p⟩:=h;exact⟨X9,μ,G,s,h,(d7.bind p).mono λx X0 G1 H1 x' h1 p1 vs rv=>⟨x,X0,G1,rv,h1,p1⟩⟩
def Ld{id:String}(hc:W8 X Z (.builtin id) F)(hg:Gl X x)(hm:X.mg x=none)(hv:jp x=some (.builtin id))(ha:DA X Z (e::es) fs)(hn:x≠ "__name__")(hdb:(x==("__debug__" :Str))=false)
 (he:ja (e::es) X.env= (false,eval e X.env)::ja es X.env) (No:(xV pos (ja es X.env)).any (·.1)=false):DE X Z (.Call (.Name x p) (e::es) [] pos) (P2 F fs):=
 DE.of (Kv hc.h hg hm hv ha.h hn hdb he No) OT
def Rv(hc:W8 X Z (.type T) F)(hg:Gl X x)(hm:X.mg x=none)(hv:jp x=some (.type T))(ha:DA X Z (e::es) fs)(hn:x≠ "__name__")(hdb:(x==("__debug__" :Str))=false)
 (he:ja (e::es) X.env= (false,eval e X.env)::ja es X.env) (No:(xV pos (ja es X.env)).any (·.1)=false):DE X Z (.Call (.Name x p) (e::es) [] pos) (P2 F fs):=
 DE.of (Eh hc.h hg hm hv ha.h hn hdb he No) OT
def spD(c:Wc)(n:Nat)(F:List D->M D):Sp:=λvs H Q _=>vs.length=n/\∃ds μ G,u0 c μ H ds vs/\v5 c μ G H/\d7 c ZF μ H (F ds G) λd X2 _ H'=>∀v,d9 c X2 H' d v->Q v H'
def noX{α:Type}(m:M α):M α:=λG=>match m G with
|some (.ok a,G1)=>some (.ok a,G1)
|_=>none
def KP{H:Hp}{G:DH}{K:α->List Addr->DH->Hp->Prop}(p:d7 cc Z μ H (noX m G) K):d7 cc ZF μ H (m G) K:=by
 unfold noX at p
 match m G,p with
 |some (.ok a,G1),p=>exact p
 |some (.error x,G1),p=>exact p.elim
 |none,p=>exact p.elim
def fnX(n:Nat)(F:List D->M D):List D->M D:=λds=>if ds.length=n then noX (F ds)else M.stuck
def OR{H:Hp}{n:Nat}{G:DH}{K:D->List Addr->DH->Hp->Prop}(p:d7 cc Z μ H (fnX n F ds G) K):ds.length=n/\d7 cc ZF μ H (F ds G) K:=by
 unfold fnX at p;split at p
 ·rename_i h;exact⟨h,KP p⟩
 ·exact p.elim
def qY(hF:F4 X.prog X.w X.K X.mg X.base CX0 k f fd ps (spD (wc X) n F))(hr:U1 k X.A)(hg:Gl X x)(hm:X.mg x=some (.ref f))(hk:yL X.K (.ref f)=true)(hb:qB X.K fd ps [])
 (ha:DA X Z (e::es) fs)
 (hdb:(x==("__debug__" :Str))=false) (he:ja (e::es) X.env= (false,eval e X.env)::ja es X.env) (No:(xV pos (ja es X.env)).any (·.1)=false):
 DE X Z (.Call (.Name x p) (e::es) [] pos) (P2 (fnX n F) fs):=
 DE.of (Hk hF hr hg hm hk hb .nil RR ha.h hdb he No) λσ H Q Lo=>Lo.elim λX9 μ G s h p=>by refine⟨X9,μ,G,s,h,(d7.bind p).mono λds' X0 G1 H1 x' h1 p1 vs rv=>?_⟩;obtain⟨hl,p2⟩:=OR p1;show spD (wc X) n F (vs++[]) H1 Q E0;rw[Zc];exact⟨by rw[<-rv.length];exact hl,ds',X0,G1,rv,h1,p2⟩
end
abbrev Fs:=DSt->M Fl
def M7:Fs:=λσ=>pure (.nx σ)
def o6(a b:Fs):Fs:=λσ=>do
 match <-a σ with
 | .nx X1=>b X1
 |r=>pure r
def u9(f:Fe):Fs:=λσ=>do pure (.rt (<-f σ))
def d5(f:Fe):Fs:=λσ=>do
 let _ <-f σ
 pure (.nx σ)
def ifS(t:DSt->M Bool)(a b:Fs):Fs:=λσ=>do if <-t σ then a σ else b σ
abbrev Fg:=D->DSt->M DSt
abbrev Fgs:=List D->DSt->M DSt
def A4(i:Nat):Fg:=λd σ=>pure (σ.set i (some d))
def cA:Fgs:=λds σ=>match ds with
|[]=>pure σ
|_=>M.stuck
def U5(g:Fg)(r:Fgs):Fgs:=λds σ=>match ds with
|d::t=>do r t (<-g d σ)
|[]=>M.stuck
def qA(n:Nat)(g:Fgs):Fg:=λd σ=>match d with
| .tup l=>if l.length=n then g l σ else M.stuck
|_=>M.stuck
def M3(f:Fe)(g:Fg):Fs:=λσ=>do
 let d <-f σ
 let X1 <-g d σ
 pure (.nx X1)
section
variable(c:Wc)(Z:XC)
def eF(g:Fg):TG:=λv σ H Q=>∃d X9 μ G,d9 c μ H d v/\K5 c μ H X9 σ/\v5 c μ G H/\d7 c Z μ H (g d X9 G) λWU X2 _ H'=>∀ X1,K5 c X2 H' WU X1->Q X1 H'
def oH(g:Fgs):TGs:=λvs σ H Q=>∃ds X9 μ G,u0 c μ H ds vs/\K5 c μ H X9 σ/\v5 c μ G H/\d7 c Z μ H (g ds X9 G) λWU X2 _ H'=>∀ X1,K5 c X2 H' WU X1->Q X1 H'
end
def eF.elim{P:Prop}{v:V}{σ:St}{H:Hp}(h:eF c Z g v σ H Q)(k:∀d X9 μ G,d9 c μ H d v->K5 c μ H X9 σ->v5 c μ G H->d7 c Z μ H (g d X9 G) (λWU X2 _ H'=>∀ X1,K5 c X2 H' WU X1->Q X1 H')->P):P:=by obtain⟨e0,e1,e2,e3,e4,e5,e6,e7⟩:=h;exact k e0 e1 e2 e3 e4 e5 e6 e7
def oH.elim{Z:XC}{P:Prop}{σ:St}{H:Hp}(h:oH c Z g vs σ H Q)(k:∀ds X9 μ G,u0 c μ H ds vs->K5 c μ H X9 σ->v5 c μ G H->d7 c Z μ H (g ds X9 G) (λWU X2 _ H'=>∀ X1,K5 c X2 H' WU X1->Q X1 H')->P):P:=by obtain⟨e0,e1,e2,e3,e4,e5,e6,e7⟩:=h;exact k e0 e1 e2 e3 e4 e5 e6 e7
structure DG(X:Cx)(Z:XC)(tg:Expr)(g:Fg):Prop where
 h:PG X tg (eF (wc X) Z g)
structure DGs(X:Cx)(Z:XC)(tgs:List Expr)(g:Fgs):Prop where
 h:PGs X tgs (oH (wc X) Z g)
def PG.mono(h:PG X e t)(k:∀v σ H Q,t' v σ H Q->t v σ H Q):PG X e t':=λLi s σ H v u Q I r q=>h Li s σ H v u Q I r (k v σ H Q q)
def PGs.mono(h:PGs X e t)(k:∀v σ H Q,t' v σ H Q->t v σ H Q):PGs X e t':=λLi s σ H v u Q I r q=>h Li s σ H v u Q I r (k v σ H Q q)
def DG.of(h:PG X e t)(k:∀v σ H Q,eF (wc X) Z g v σ H Q->t v σ H Q):DG X Z e g:=⟨PG.mono h k⟩
def DGs.of(h:PGs X e t)(k:∀v σ H Q,oH (wc X) Z g v σ H Q->t v σ H Q):DGs X Z e g:=⟨PGs.mono h k⟩
section
variable{X:Cx}{Z:XC}{st:Stmt}{rest sa sb:List Stmt}{f g:Fs}
def Kh:DB X Z [] M7:=DB.of Fr λE σ H Lo=>Lo.elim λX9 μ G s h p=>d7.ok p h σ s
def pb(h:v5 cc μ G H)
 (p:d7 cc Z μ H ((match fl with| .nx X1=>g X1|r=>pure r:M Fl) G) λfl X2 _ H'=>SD cc E fl X2 H'):SD cc {E with nx:=TC cc Z g E} fl μ H:=by
 cases fl with
 |nx X9=>exact λσ s=>⟨X9,μ,G,s,h,p⟩
 |rt d=>exact d7.ok p h
 |bk X9=>exact d7.ok p h
 |ct X9=>exact d7.ok p h
def nU(h1:DS X Z st f)(h2:DB X Z rest g):DB X Z (st::rest) (o6 f g):=
 DB.of (Et h1.h h2.h) λE σ H Lo=>Lo.elim λX9 μ G s h p=>⟨X9,μ,G,s,h,(d7.bind p).mono λfl X0 G1 H1 x' h1 p1=>pb h1 p1⟩
def aP(h1:DS X Z st f):DB X Z [st] f:=⟨Ea h1.h⟩
def dz(he:DE X Z e fa)(hs:swapsWith e none pos.line X.env=pure false):DS X Z (.Expr e pos) (d5 fa):=
 DS.of (Cf he.h hs) λE σ H Lo=>Lo.elim λX9 μ G s h p=>⟨X9,μ,G,s,h,(d7.bind p).mono λd X0 G1 H1 x' h1 p1 v rv=>d7.ok p1 h1 σ (s.mono x')⟩
def Ki(he:DE X Z e fa):DS X Z (.Return (some e) pos) (u9 fa):=
 DS.of (np he.h) λE σ H Lo=>Lo.elim λX9 μ G s h p=>⟨X9,μ,G,s,h,(d7.bind p).mono λd X0 G1 H1 x' h1 p1 v rv=>d7.ok p1 h1 v rv⟩
def Nb(hc:DT X Z c t)(ha:DB X Z sa f)(hb:DB X Z sb g):DS X Z (.If c sa sb pos) (ifS t f g):=
 DS.of (ug hc.h ha.h hb.h) λE σ H Lo=>Lo.elim λX9 μ G s h p=>⟨X9,μ,G,s,h,(d7.bind p).mono λx X0 G1 H1 x' h1 p1=>by
  cases x with
  |true=>exact⟨X9,X0,G1,s.mono x',h1,p1⟩
  |false=>exact⟨X9,X0,G1,s.mono x',h1,p1⟩⟩
def gT{x:Str}(hN:X.N.Nodup)(hi:X.N[i]? =some x)(hx:Loc X.env.scope x)(hf:X.fn x=true\/X.env.scope.names.lookup x=some .local):DG X Z (.Name x pos) (A4 i):=
 DG.of (vg hN hi hx hf) λv σ H Q Lo=>Lo.elim λd X9 μ G r s h p=>d7.ok p h _ (s.put r i)
def Kj:DGs X Z [] cA:=DGs.of bo λvs σ H Q Lo=>Lo.elim λds X9 μ G r s h p=>by
 cases ds with
 |nil=>cases r;exact⟨rfl,d7.ok p h _ s⟩
 |cons _ _=>exact p.elim
def Bz(h1:DG X Z e gg)(h2:DGs X Z es gr)(hs:(xI (e::es) X.env).map (·.2)=Xs e X.env::(xI es X.env).map (·.2)):DGs X Z (e::es) (U5 gg gr):=
 DGs.of (Vb h1.h h2.h hs) λvs σ H Q Lo=>Lo.elim λds X9 μ G r s h p=>by
  cases ds with
  |nil=>exact p.elim
  |cons d t=>
    obtain⟨v,vr,rfl,rv,rt⟩:=r;exact⟨v,vr,rfl,d,X9,μ,G,rv,s,h,(d7.bind p).mono λdσ1 X0 G1 H1 x' h1 p1 WZ s1=>⟨t,dσ1,X0,G1,rt.mono x',s1,h1,p1⟩⟩
def Bt{gs:Fgs}(hc:X.calm=true)(h:DGs X Z es gs)(hn:(xI es X.env).length=n)(hst:(xI es X.env).findIdx? (·.1)=none):DG X Z (.Tuple es k pos) (qA n gs):=
 DG.of (gu hc h.h hn hst) λv σ H Q Lo=>Lo.elim λd X9 μ G r s h p=>by
  cases d with
  |tup l=>
    unfold d9 at r;obtain⟨a,vs,rfl,q,rl⟩:=r;have p':d7 (wc X) Z μ H ((if l.length=n then gs l X9 else M.stuck:M DSt) G) λWU X2 _ H'=>∀ X1,K5 (wc X) X2 H' WU X1->Q X1 H':=p;split at p'
    ·rename_i hl;exact⟨a,vs,rfl,q,by rw[<-rl.length];exact hl,l,X9,μ,G,rl,s,h,p'⟩
    ·exact p'.elim
  |_=>exact p.elim
def aj(he:DE X Z e fa)(hg:DG X Z tg gg)(hs:swapsWithSole [tg] e pos.line X.env=pure false)(hw:swappedStores [tg] e X.env=pure none)
 (h1:(xI [tg] X.env).map (·.2)= [Xs tg X.env]):DS X Z (.Assign [tg] e pos) (M3 fa gg):=
 DS.of (Es he.h hg.h hs hw h1) λE σ H Lo=>Lo.elim λX9 μ G s h p=>⟨X9,μ,G,s,h,(d7.bind p).mono λd X0 G1 H1 x' h1 p1 v rv=>
  ⟨d,X9,X0,G1,rv,s.mono x',h1,(d7.bind p1).mono λdσ2 WT G2 H2 x2 h2 p2 σ2 s2=>d7.ok p2 h2 σ2 s2⟩⟩
end
def S5:Nat->(DSt->M Bool)->Fs->Fs
|0,_,_=>λ_=>M.stuck
|n+1,t,b=>λσ=>do
  if <-t σ then
   match <-b σ with
   | .nx X1=>S5 n t b X1
   | .ct X1=>S5 n t b X1
   | .bk X1=>pure (.nx X1)
   | .rt d=>pure (.rt d)
  else pure (.nx σ)
open Classical in
def iA(t:DSt->M Bool)(b:Fs):Fs:=λσ G=>if h:∃n,(S5 n t b σ G).isSome=true then S5 (XG h) t b σ G else none
def M.bind_mono{f g:α->M β}{r:Except Str β×DH}(h:(m >>= f) G=some r)(k:∀a G',f a G'=some r->g a G'=some r):(m >>= g) G=some r:=by
 rw[M.bind_eq]at h ⊢
 match m G,h with
 |some (.ok a,G'),h=>exact k a G' h
 |some (.error x,G'),h=>exact h
theorem dO{t:DSt->M Bool}:∀ {n} {σ} {G:DH} {r:Except Str Fl×DH},S5 n t b σ G=some r->S5 (n+1) t b σ G=some r
|0,_,_,_,h=>by exact v8 h
|n+1,σ,G,r,h=>by
  unfold S5 at h ⊢;refine M.bind_mono h λc G1 h1=>?_
  cases c with
  |true=>
    refine M.bind_mono h1 λfl G2 h2=>?_
    cases fl with
    |nx X1=>exact dO h2
    |ct X1=>exact dO h2
    |bk X1=>exact h2
    |rt d=>exact h2
  |false=>exact h1
def LS(hm:n<=m)(h:S5 n t b σ G=some r):S5 m t b σ G=some r:=by
 induction hm with
 |refl=>exact h
 |step _ ih=>exact dO ih
section
def ql(hp:PassesOwn (zI X.prog X.w) X.A X.env X.xe)(hc:DT X Z c t)(hb:DB X Z body f):DS X Z (.While c body [] pos) (iA t f):=
 DS.of (DZ hp hc.h hb.h) λE σ H Lo=>Lo.elim λX9 μ G s h p=>by
  unfold iA at p;split at p
  ·rename_i ex;refine⟨λm σ H=>∃X9 μ G,K5 (wc X) μ H X9 σ/\v5 (wc X) μ G H/\d7 (wc X) Z μ H (S5 m t f X9 G) λfl X2 _ H'=>SD (wc X) E fl X2 H',⟨_,X9,μ,G,s,h,p⟩,?_⟩;rintro m σ H ⟨X9,μ,G,s,h,p⟩
   cases m with
   |zero=>exact p.elim
   |succ m=>
     refine⟨X9,μ,G,s,h,(d7.bind p).mono λx X0 G1 H1 x' h1 p1=>?_⟩
     cases x with
     |false=>exact d7.ok p1 h1 σ (s.mono x')
     |true=>
       refine⟨λX1 H'=>∃X9 μ G,K5 (wc X) μ H' X9 X1/\v5 (wc X) μ G H'/\d7 (wc X) Z μ H' (S5 m t f X9 G) λfl X2 _ H'=>SD (wc X) E fl X2 H',λX1 H' w=>⟨m,yZ _,w⟩,X9,X0,G1,s.mono x',h1,(d7.bind p1).mono λfl WT G2 H2 x2 h2 p2=>?_⟩
       cases fl with
       |nx WU=>exact λX1 s'=>⟨WU,WT,G2,s',h2,p2⟩
       |ct WU=>exact λX1 s'=>⟨WU,WT,G2,s',h2,p2⟩
       |bk WU=>exact λX1 s'=>d7.ok p2 h2 X1 s'
       |rt d=>exact λv r=>d7.ok p2 h2 v r
  ·exact p.elim
end
def L3(g:Fg)(b:Fs)(ck:DH->Bool):List D->Fs
|[]=>λσ G=>if ck G then some (.ok (.nx σ),G)else none
| d :: r => λσ G => if ck G then (do
   match <-b (<-g d σ) with
   | .nx X1=>L3 g b ck r X1
   | .ct X1=>L3 g b ck r X1
   | .bk X1=>pure (.nx X1)
   | .rt d=>pure (.rt d):M Fl) G else none
structure Src where
 items:List D
 ck:DH->Bool
def C8(it:DSt->M Src)(g:Fg)(b:Fs):Fs:=λσ=>do
 let s <-it σ
 L3 g b s.ck s.items σ
def ItD(c:Wc)(μ:List Addr)(H:Hp)(J:It)(s:Src):Prop:=∀ X2 G' H',Ext μ H X2 H'->v5 c X2 G' H'->s.ck G'=true->∀i:Nat,
 (∀d,s.items[i]? =some d->J.go i H'/\∀x H2,J.yld i H' x H2->Ext X2 H' X2 H2/\v5 c X2 G' H2/\d9 c X2 H2 d x)/\(s.items.length<=i->J.stop i H')
def dH(c:Wc)(Z:XC)(it:DSt->M Src):TI:=λσ H R=>∃X9 μ G,K5 c μ H X9 σ/\v5 c μ G H/\d7 c Z μ H (it X9 G) λs X2 _ H'=>∀J,ItD c X2 H' J s->R J H'
def dH.elim{P:Prop}{σ:St}{H:Hp}(h:dH c Z it σ H R)(k:∀X9 μ G,K5 c μ H X9 σ->v5 c μ G H->d7 c Z μ H (it X9 G) (λs X2 _ H'=>∀J,ItD c X2 H' J s->R J H')->P):P:=by obtain⟨e0,e1,e2,e3,e4,e5⟩:=h;exact k e0 e1 e2 e3 e4 e5
structure DI(X:Cx)(Z:XC)(tg e:Expr)(it:DSt->M Src):Prop where
 h:PI X tg e (dH (wc X) Z it)
def PI.mono(h:PI X tg e t)(k:∀ σ H R,t' σ H R->t σ H R):PI X tg e t':=λLi s σ H R I q=>h Li s σ H R I (k σ H R q)
def DI.of(h:PI X tg e t)(k:∀ σ H R,dH (wc X) Z it σ H R->t σ H R):DI X Z tg e it:=⟨PI.mono h k⟩
section
def Dz(c:Wc)(E:vC)(fl:Fl)(μ:List Addr)(_:DH)(H:Hp):Prop:=SD c E fl μ H
inductive lT(c:Wc)(Z:XC)(gg:Fg)(f:Fs)(sr:Src)(E:vC)(X0:List Addr)(H1:Hp)(i:Nat)(σ:St)(H:Hp):Prop
|mk (X9:DSt) (μ:List Addr) (G:DH) (k:Ext X0 H1 μ H) (s:K5 c μ H X9 σ) (h:v5 c μ G H) (p:d7 c Z μ H (L3 gg f sr.ck (sr.items.drop i) X9 G) (Dz c E))
def pc(hp:PassesOwn (zI X.prog X.w) X.A X.env X.xe)(hc:X.calm=true)(hi:DI X Z tg iter it)(hg:DG X Z tg gg)(hb:DB X Z body f)(hs:∀x,xo iter X.env x=pure x):
 DS X Z (.For tg iter body [] pos) (C8 it gg f):=
 DS.of (Fh hp hc hi.h hg.h hb.h hs) λE σ H Lo=>Lo.elim λX9 μ G s h p=>⟨X9,μ,G,s,h,(d7.bind p).mono λsr X0 G1 H1 x' h1 p1 J hJ=>by
  refine⟨λi m X1 H'=>m=sr.items.length-i/\i<=sr.items.length/\lT (wc X) Z gg f sr E X0 H1 i X1 H',
   ⟨sr.items.length,rfl,zO _,X9,X0,G1,Ext.refl _ _,s.mono x',h1,p1⟩,?_⟩
  rintro i m X1 H' ⟨rfl,hi',WU,X2,G',k',s',h',p'⟩;by_cases Lu:i<sr.items.length
  ·rw[Yp Lu]at p';unfold L3 at p';split at p'
   ·rename_i ck;obtain⟨q1,_⟩:=hJ X2 G' H' k' h' ck i;obtain⟨go,yl⟩:=q1 _ (zD Lu);refine .inr ⟨go,λσ2 H2=>lT (wc X) Z gg f sr E X0 H1 (i+1) σ2 H2,λσ2 H2 w=>⟨sr.items.length-(i+1),Xv _ _ Lu,rfl,Lu,w⟩,λx H2 y=>?_⟩;obtain⟨k2,h2,rx⟩:=yl x H2 y;have p2:=d7.bind (p'.from k2);refine⟨_,WU,X2,G',rx,s'.mono k2,h2,p2.mono λdσ3 μ3 G3 H3 x3 h3 p3 WJ s3=>?_⟩;refine⟨dσ3,μ3,G3,s3,h3,(d7.bind p3).mono λfl μ4 G4 H4 x4 h4 p4=>?_⟩
    cases fl with
    |nx dσ4=>exact λσ4 s4=>⟨dσ4,μ4,G4,k'.trans (k2.trans (x3.trans x4)),s4,h4,p4⟩
    |ct dσ4=>exact λσ4 s4=>⟨dσ4,μ4,G4,k'.trans (k2.trans (x3.trans x4)),s4,h4,p4⟩
    |bk dσ4=>exact λσ4 s4=>d7.ok p4 h4 σ4 s4
    |rt d=>exact λv r=>d7.ok p4 h4 v r
   ·exact p'.elim
  ·have e:i=sr.items.length:=Nat.le_antisymm hi' (Nat.le_of_not_lt Lu);subst e;rw[List.drop_length]at p';unfold L3 at p';split at p'
   ·rename_i ck;obtain⟨_,q2⟩:=hJ X2 G' H' k' h' ck sr.items.length;exact .inl ⟨q2 (zh _),d7.ok p' h' X1 s'⟩
   ·exact p'.elim⟩
end
def w9(env:Env):List (Str×NameKind)->List (Str×Addr)->List (Str×Addr)
|[],cs=>cs
|(n,k)::r,cs=>w9 env r (if k == .free then (match env.cells.lookup n with|some c=>(n,c)::cs|none=>cs)else cs)
theorem QQ:∀l cs,(∀p∈l,p.2= .free->∃c,env.cells.lookup p.1=some c)->
 (forIn l cs (fun(x:Str×NameKind) (cs:List (Str×Addr))=>(match x with|(name,kind)=>if (kind==NameKind.free)=true then do let c <-cellOf env name;pure (ForInStep.yield ((name,c)::cs))else pure (ForInStep.yield cs):Sem (ForInStep (List (Str×Addr))))):Sem (List (Str×Addr)))=pure (w9 env l cs)
 |[],cs,_=>rfl
 |(n,k)::r,cs,h=>by
  have ih:=λcs'=>QQ r cs' λp hp=>h p (ze _ hp);rw[Zb];unfold w9;rcases hk:(k==NameKind.free)with _|_
  ·
    have e:(match ((n,k):Str×NameKind) with|(name,kind)=>if (kind==NameKind.free)=true then do let c <-cellOf env name;pure (ForInStep.yield ((name,c)::cs))else pure (ForInStep.yield cs):Sem (ForInStep (List (Str×Addr))))=pure (ForInStep.yield cs):=by show (if (k==NameKind.free)=true then _ else _)=_;rw[hk];rfl
    rw[e];exact ih cs
  ·
    obtain⟨c,hc⟩:=h (n,k) zg (by simpa using hk);have hcell:cellOf env n=pure c:=by unfold cellOf;rw[hc]
    have e:(match ((n,k):Str×NameKind) with|(name,kind)=>if (kind==NameKind.free)=true then do let c <-cellOf env name;pure (ForInStep.yield ((name,c)::cs))else pure (ForInStep.yield cs):Sem (ForInStep (List (Str×Addr))))=pure (ForInStep.yield ((n,c)::cs)):=by show (if (k==NameKind.free)=true then (do let c <-cellOf env n;pure (ForInStep.yield ((n,c)::cs)))else _)=_;rw[hk,hcell];rfl
    rw[e,hc];exact ih ((n,c)::cs)
def fX(h:∀p∈scope.names,p.2= .free->∃c,env.cells.lookup p.1=some c):closureFor scope env=pure (w9 env scope.names []):=by have q:=QQ scope.names [] h;unfold closureFor;dsimp only;rw[q];rfl
theorem SS:∀l cs,(cs.lookup x=some c->env.cells.lookup x=some c)->(w9 env l cs).lookup x=some c->env.cells.lookup x=some c
|[],cs,h,e=>h e
|(n,k)::r,cs,h,e=>by
 unfold w9 at e;refine SS r _ (λe1=>?_) e;split at e1
 ·split at e1
  ·rename_i c' hc;rw[yY]at e1;split at e1
   ·rename_i hx;have hx':x=n:=by simpa using hx
    subst hx'
    cases e1
    exact hc
   ·exact h e1
  ·exact h e1
 ·exact h e1
def FC(h:(w9 env l []).lookup x=some c):env.cells.lookup x=some c:=SS l [] (λz=>by exact v8 z) h
theorem QU:∀l cs,(∃c,cs.lookup x=some c)->∃c,(w9 env l cs).lookup x=some c
|[],cs,h=>h
|(n,k)::r,cs,h=>by
 unfold w9;refine QU r _ ?_;split
 ·split
  ·rename_i c' hc;rw[yY];split
   ·exact⟨_,rfl⟩
   ·exact h
  ·exact h
 ·exact h
theorem KL(hc:env.cells.lookup x=some c):∀l cs,(x,NameKind.free)∈l->∃c,(w9 env l cs).lookup x=some c
|[],cs,h=>by simp at h
|(n,k)::r,cs,h=>by
 unfold w9;rcases zn.mp h with e|h
 ·cases e
  refine QU r _ ?_;rw[hc];simp
 ·exact KL hc r _ h
section
def Gn(I:Nat->zA->Prop)
 (turn:∀n s,I n s->zt (zI prog w) A (yW it) (λr W1=>match r with
   |none=>R (.ok .next) W1
   | some v => zt (zI prog w) A (Zi target it v) (λ_ s₁' => zt (zI prog w) A (Xs target env v) (λ_ s₂ =>
      zt (zI prog w) A (forIn ifs true λc r=>if r=true then do let ok <-isTrue c env (eval c env);pure (ForInStep.yield ok)else pure (ForInStep.yield r)) (λok s₃=>
       if ok=true then zt (zI prog w) A (eval elt env) (λx s₄=>
        zt (zI prog w) A (call (.builtin "list.append") [Ml,x]) (λ_ s₅=>∃m,m<n/\I m s₅) (λ_ _=>False) s₄) (λ_ _=>False) s₃
       else ∃m,m<n/\I m s₃) (λ_ _=>False) s₂) (λ_ _=>False) s₁') (λ_ _=>False) W1) (λ_ _=>False) s)
 (n:Nat) (h:I n s):
 xZ (zI prog w) A (.compLoop (.ListComp elt [⟨target,iter,ifs,0⟩] scope pos) 0 it Ml env) R s:=by
 refine codeAny_loop rfl I (λn s hI=>?_) n h;show zt _ A ((compTurn (.ListComp elt [⟨target,iter,ifs,0⟩] scope pos) 0 it Ml env).onRaise (λx=>do noteFrame x env;theTreesLotGoes x)) _ _ s;refine wpAny_noted ?_;rw[compTurn_list];refine za (wpAny_standAt (za (yg (turn n s hI) (λr W1 h₁=>?_) λ_ _ h'=>h'.elim)));rcases r with _|v
 ·exact zf h₁
 ·
   refine za (yg h₁ (λ_ s₁' h₁'=>?_) λ_ _ h'=>h'.elim);refine za (yg h₁' (λ_ s₂ h₂=>za (yg h₂ (λok s₃ h₃=>?_) λ_ _ h'=>h'.elim)) λ_ _ h'=>h'.elim);rcases ok with _|_
   ·
     exact zf ⟨rfl,h₃⟩
   ·
     exact za (za (yg h₃ (λx s₄ h₄=>za (yg h₄ (λ_ s₅ h₅=>zf (zf ⟨rfl,h₅⟩)) λ_ _ h'=>h'.elim)) λ_ _ h'=>h'.elim))
end
def T6(X:Cx)(scope:Scope)(N:List Str)(C:Addr)(s:zA)(H:Hp)(ex:List Addr):Cx where
 prog:=X.prog
 w:=X.w
 K:=X.K
 mg:=X.mg
 base:=X.base
 A:=X.A
 N:=N
 WV:=s
 H₀:=H
 env:=compEnvC scope (w9 X.env scope.names []) C X.env
 outer:=X.stack
 stack:=X.stack
 ex:=ex
 fn:=λ_=>false
 calm:=X.calm
 pn:= []
 xe:=λ_ _=>False
structure a9(X:Cx)(scope:Scope)(N:List Str)(caps:List (Option Nat)):Prop where
 kind:scope.kind= .function
 cell:∀y∈scope.names,y.2≠ .cell
 names:∀y∈scope.names,y.2= .local->scope.names.lookup y.1=some .local
 free:∀y∈scope.names,y.2= .free->X.env.kindOf y.1=some .cell\/X.env.kindOf y.1=some .free
 frees:∀y∈scope.names,y.2= .free->scope.names.lookup y.1=some .free
 len:caps.length=N.length
 caps:∀(i j:Nat),caps[i]? =some (some j)->∃x,N[i]? =some x/\X.N[j]? =some x/\(x,NameKind.free)∈scope.names
def W4{α:Type}(caps:List (Option Nat))(σ:List (Option α)):List (Option α):=caps.map λo=>o.bind λj=>(σ[j]?).join
theorem BM{env:Env}:∀names:List (Str×NameKind),(names.map fun(n,k)=>if (k==NameKind.free&&env.scope.kind == .function&&env.kindOf n==some .cell)then (n,NameKind.cell)else (n,k)).lookup x=
 (names.lookup x).map λk=>if (k==NameKind.free&&env.scope.kind == .function&&env.kindOf x==some .cell)then NameKind.cell else k
 |[]=>rfl
 |(n,k)::r=>by
  have ih:=BM (env:=env) (x:=x) r;rw[zT];by_cases hx:x=n
  ·subst hx;dsimp only;split
   ·rename_i h;simp[yY];simp at h;simp[h]
   ·rename_i h;simp[yY];simp at h;intro a b c;exact absurd c (h a b)
  ·have hb:(x==n)=false:=by simpa using hx
   dsimp only;split
   ·rw[yY,yY,hb];exact ih
   ·rw[yY,yY,hb];exact ih
section
variable{X:Cx}{scope:Scope}{N:List Str}{caps:List (Option Nat)}
def a9.isFree(k:a9 X scope N caps){x:Str}(h:(relabel scope X.env).names.lookup x=some .cell\/(relabel scope X.env).names.lookup x=some .free):(x,NameKind.free)∈scope.names:=by
 have e:(relabel scope X.env).names.lookup x= (scope.names.lookup x).map λk=>if (k==NameKind.free&&X.env.scope.kind == .function&&X.env.kindOf x==some .cell)then NameKind.cell else k:=BM scope.names;rw[e]at h;rcases hl:scope.names.lookup x with _|kd
 ·rw[hl]at h;rcases h with h|h<;>exact v8 h
 ·
   rw[hl]at h;have hm:=xn hl;have hn:=k.cell _ hm;simp only[YO]at h
   cases kd with
   |free=>exact hm
   |cell=>exact absurd rfl hn
   |_=>rcases h with h|h<;>simp at h
def a9.cells(k:a9 X scope N caps)(ok:X.Ok):∀p∈scope.names,p.2= .free->∃c,X.env.cells.lookup p.1=some c:=λp hp e=>ok.has p.1 (k.free p hp e)
def iu(I:Inv X Li σ H s)(k:a9 X scope N caps)(hC:s.heap.objs.size<=C)(Nr:∀b∈ex,L5 X Li H b)(Lu:∀b∈ex,b<s.heap.objs.size):(T6 X scope N C s H ex).Ok where
 mod:=I.ok.mod
 kind:=k.kind
 glob:=I.ok.glob
 blt:=I.ok.blt
 above:=hC
 inj:=λx y c h1 h2=>I.ok.inj x y c (FC h1) (FC h2)
 has:=λx hx=>by have hm:=k.isFree hx;obtain⟨c,hc⟩:=k.cells I.ok _ hm rfl;exact KL hc _ _ hm
 cab:=λx c h=>by exact B7 h
 hd:=I.ok.hd
 frames:=I.ok.frames
 stk:=.inl rfl
 exf:=λb hb=>⟨zQ (zL (Lu b hb) hC),λx c e=>(Nr b hb).2.2.2.2.1 x c (FC e)⟩
 bs:=I.bs
 bsz:=zq I.ok.bsz I.sz
 noex:=λb o e hb=>by
  rcases (Nr b hb).2.2.2.1 with z|z
  ·exact I.ok.noex b o e z
  ·exact absurd (zL (zC (I.ok.bs b o e).1) z) (yD _)
 exfs:=λb hb z=>by
  rcases zn.mp (I.stkSub b z)with e|e
  ·exact(Nr b hb).2.1 e
  ·exact(Nr b hb).2.2.1 e
 funs:=I.stack
 frf:=I.stkFree
 gd:=I.ok.gd
def iS{σ:List (Option α)}{i:Nat}(h:(W4 caps σ)[i]? =some (some v)):∃j,caps[i]? =some (some j)/\σ[j]? =some (some v):=by
 unfold W4 at h;rw[jl]at h;rcases e:caps[i]? with _|o
 ·rw[e]at h;exact v8 h
 ·
   rw[e]at h;rcases o with _|j
   ·cases h
   ·
     refine⟨j,rfl,?_⟩;simp only[YO,Option.bind_some,zR]at h;rcases e2:σ[j]? with _|w
     ·rw[e2]at h;exact v8 h
     ·rw[e2]at h;simp at h;rw[h]
def Bx{h₁:Heap}{tk:Nat}(I:Inv X Li σ H s)(k:a9 X scope N caps)(hC:s.heap.objs.size<C)(Nr:∀b∈ex,L5 X Li H b)(Lu:∀b∈ex,b<s.heap.objs.size)
 (old:∀b o,s.heap.get? b=some o->h₁.get? b=some o) (hns:h₁.Ns C λ_=>none) (Og:h₁.get? s.heap.objs.size=some {cls:=.type "list",data:=.seq ([]:List zm).toArray 0}):
 Inv (T6 X scope N C s H ex) [] (W4 caps σ) (upd H s.heap.objs.size (.lst [])) {s with heap:=h₁,toks:=tk}:=by
 have hD:H s.heap.objs.size=none:=I.hok.fresh (zh _);refine⟨iu I k (yj hC) Nr Lu,rfl,I.bare,Un.laid old (zh _) hD,⟨_,hns,λi x v h1 h2 h3=>?_⟩,λx c e=>?_,?_,λx c e=>?_,λp hp=>absurd (show p∈([]:PNS)from hp) (by simp),?_,?_⟩
 ·obtain⟨j,e1,e2⟩:=iS h2;obtain⟨y,e3,e4,e5⟩:=k.caps i j e1;have exy:y=x:=by
   have:some y=some x:=e3.symm.trans h1;exact jd this
  subst exy;have hk:=k.free _ e5 rfl;obtain⟨m,hn,hl⟩:=I.loc;obtain⟨u,r,l⟩:=hl j y v e4 e2 (by rcases hk with z|z;exact .inr (.inl z);exact .inr (.inr z));refine⟨u,r,.inr ?_⟩;rcases l with⟨z,_⟩|⟨_,c,ec,hc⟩
  ·rcases hk with z'|z'<;>(rw[z]at z';cases z')
  ·refine⟨?_,c,?_,?_⟩
   ·rcases h3 with h3|h3|h3
    ·exfalso;have e:(relabel scope X.env).names.lookup y= (scope.names.lookup y).map λk=>if (k==NameKind.free&&X.env.scope.kind == .function&&X.env.kindOf y==some .cell)then NameKind.cell else k:=BM scope.names;have h3':(relabel scope X.env).names.lookup y=some .local:=h3;rw[e]at h3';rw[k.frees _ e5 rfl]at h3';simp only[YO]at h3';split at h3'<;>cases h3'
    ·exact .inl h3
    ·exact .inr h3
   ·obtain⟨c',ec'⟩:=KL ec scope.names [] e5;have:=FC ec';rw[ec]at this
    cases this
    exact ec'
   ·obtain⟨o,ho,hd⟩:=hc;exact⟨o,old _ _ ho,hd⟩
 ·obtain⟨v,o,ho,hd⟩:=I.cell x c (FC e);exact⟨v,o,old _ _ ho,hd⟩
 ·show upd H s.heap.objs.size (.lst []) C=none;rw[v9 (Zr hC)];exact I.hok.fresh (yj hC)
 ·obtain⟨v,o,ho,hd⟩:=I.cell x c (FC e);rw[v9 (zQ (zC ho))];exact I.freeC x c (FC e)
 ·exact I.hok.laid old (zh _) ⟨zO _, [],0,.nil,Og⟩
 ·show (W4 caps σ).length=N.length;unfold W4;rw[zd];exact k.len
def Fm(I:Inv X Li σ H s)(Nr:∀b∈ex,L5 X Li H b)(hC:s.heap.objs.size<C)
 (I':Inv (T6 X scope N C s H ex) pins' X1 H' s') (sb:jZ C s'.heap h'):Inv X Li σ H' {s' with heap:=h'}:=by
 have hos:s'.os=s.os:=I'.os;have hfree:H' C=none:=I'.free;have neC:∀b o,s.heap.get? b=some o->b≠C:=λb o e z=>by have:=zC e;rw[z]at this;exact absurd (Xe hC this) (yD _)
 have hun:Un (frs X.stack) ex H H' s.heap s'.heap:=I'.base;have hun2:Un (frs X.stack) ex H H' s.heap h':=by
  refine⟨λb o e n hb hx=>(sb.2 b (neC b o e)).trans (hun.keep b o e n hb hx),λb o e n hb hx=>?_,hun.free,λb o e hx=>?_,hun.tups,hun.frzs,hun.tbls⟩
  ·obtain⟨sl,q⟩:=hun.slot b o e n hb hx;exact⟨sl,(sb.2 b (neC b o e)).trans q⟩
  ·obtain⟨o',q⟩:=hun.there b o e hx;exact⟨o',(sb.2 b (neC b o e)).trans q⟩
 have hok2:HOk X.prog X.w H' h':=λa o e=>by
  have nc:∀c u,H' c=some u->c≠C:=λc u q z=>by rw[z,hfree]at q;exact v8 q
  refine(I'.hok a o e).stay (λb u hb q=>?_) (λ_ q=>q) λ_ _ q=>q;rcases hb with rfl|hb
  ·exact(sb.2 b (nc b o e)).trans q
  ·exact(sb.2 b (nc b _ hb)).trans q
 obtain⟨hh,g,d,t,os'⟩:=s';obtain rfl:os'=s.os:=hos;have fin:=I.call (d':=d) (t':=t) hun2 hok2 I'.bare λb hb=>⟨(Nr b hb).2.2.2.1,(Nr b hb).2.1,(Nr b hb).2.2.2.2.1,(Nr b hb).2.2.2.2.2⟩;exact fin
end
def hide(q:Addr)(H:Hp):Hp:=λb=>if b=q then none else H b
def vE:hide q H q=none:=by unfold hide;rw[if_pos rfl]
def U8(h:b≠q):hide q H b=H b:=by unfold hide;rw[if_neg h]
def S6(h:hide q H b=some o):b≠q/\H b=some o:=by
 by_cases e:b=q
 ·rw[e,vE]at h;exact v8 h
 ·rw[U8 e]at h;exact⟨e,h⟩
def iy(h:H q=some o):upd (hide q H) q o=H:=by
 funext b;by_cases e:b=q
 ·rw[e,Q5,h]
 ·rw[v9 e,U8 e]
def aH:hide q (upd H q o)=hide q H:=by
 funext b;by_cases e:b=q
 ·rw[e,vE,vE]
 ·rw[U8 e,U8 e,v9 e]
def rH(h:H q=none):hide q H=H:=by
 funext b;by_cases e:b=q
 ·rw[e,vE,h]
 ·rw[U8 e]
section
mutual
theorem d9.sq(k:∀a xs,SqT c.K H a xs->SqT c.K H' a xs):∀ {d} {v},d9 c μ H d v->d9 c μ H' d v
| .non,_,h=>h
| .bl _,_,h=>h
| .int _,_,h=>h
| .str _,_,h=>h
| .ty _,_,h=>h
| .fn _,_,h=>h
| .ref i,v,h=>by unfold d9 at h ⊢;exact h
| .tup l,v,h=>by unfold d9 at h ⊢;obtain⟨a,vs,e,q,r⟩:=h;exact⟨a,vs,e,k _ _ q,u0.sq k r⟩
theorem u0.sq(k:∀a xs,SqT c.K H a xs->SqT c.K H' a xs):∀ {l} {vs},u0 c μ H l vs->u0 c μ H' l vs
|[],_,h=>h
|d::ds,vs,h=>by unfold u0 at h ⊢;obtain⟨v,r,e,q,t⟩:=h;exact⟨v,r,e,d9.sq k q,u0.sq k t⟩
end
theorem u3.sq(k:∀a xs,SqT c.K H a xs->SqT c.K H' a xs):∀ {l} {vs},u3 c μ H l vs->u3 c μ H' l vs
|[],_,h=>h
|(_,d)::ds,vs,h=>by obtain⟨v,r,e,q,t⟩:=h;exact⟨v,r,e,d9.sq k q,u3.sq k t⟩
def oD(hq:H q=some (.lst vs)){K:zo}(a:Addr)(xs:List V)(h:SqT K H a xs):SqT K (hide q H) a xs:=by
 rcases h with(h|⟨o,h⟩)|h
 ·exact .inl (.inl (by rw[U8 (λe=>by rw[e,hq]at h;cases h)];exact h))
 ·exact .inl (.inr ⟨o,by rw[U8 (λe=>by rw[e,hq]at h;cases h)];exact h⟩)
 ·exact .inr h
def HF{K:zo}(a:Addr)(xs:List V)(h:SqT K (hide q H) a xs):SqT K H a xs:=by
 rcases h with(h|⟨o,h⟩)|h
 ·exact .inl (.inl (S6 h).2)
 ·exact .inl (.inr ⟨o,(S6 h).2⟩)
 ·exact .inr h
def K5.sq(k:∀a xs,SqT c.K H a xs->SqT c.K H' a xs)(h:K5 c μ H X9 σ):K5 c μ H' X9 σ:=⟨h.1,λi d e=>let ⟨v,a,b⟩:=h.2 i d e;⟨v,a,b.sq k⟩⟩
def Ext.hide(x:Ext μ H X2 H')(n:q∉μ)(hq:H q=some (.lst vs)):H' q=some (.lst vs)/\q∉X2/\Ext μ (DL.hide q H) X2 (DL.hide q H'):=by
 refine⟨x.oth q _ hq n,λh=>?_,x.pre,λa h1 h2=>?_,λb o e nb=>?_,λb xs e=>?_,λb o u e=>?_⟩
 ·have:=x.new q h n;rw[hq]at this;exact tK this
 ·by_cases e:a=q
  ·rw[e,vE]
  ·rw[U8 e];exact x.new a h1 h2
 ·obtain⟨e1,e2⟩:=S6 e;rw[U8 e1];exact x.oth b o e2 nb
 ·obtain⟨e1,e2⟩:=S6 e;rw[U8 e1];exact x.tup b xs e2
 ·obtain⟨e1,e2⟩:=S6 e;rw[U8 e1];exact x.frz b o u e2
def Ext.unhide(x:Ext μ H X2 (DL.hide q H')):Ext μ H X2 H':=
 ⟨x.pre,x.new,λb o e n=>(S6 (x.oth b o e n)).2,λb xs e=>(S6 (x.tup b xs e)).2,λb o u e=>(S6 (x.frz b o u e)).2⟩
def v5.hide(h:v5 c μ G H)(n:q∉μ)(hq:H q=some (.lst vs)):v5 c μ G (DL.hide q H):=
 ⟨h.len,h.inj,λi o a g m=>by
  have na:a≠q:=λe=>n (by rw[<-e];exact jz m);have r:=h.obj i o a g m
  cases o with
  |lst l=>obtain⟨ws,e,r⟩:=r;exact⟨ws,by rw[U8 na];exact e,r.sq (oD hq)⟩
  |dct l=>obtain⟨ws,e,r⟩:=r;exact⟨ws,by rw[U8 na];exact e,r.sq (oD hq)⟩
  |rod l=>obtain⟨ws,o,e,r⟩:=r;exact⟨ws,o,by rw[U8 na];exact e,r.sq (oD hq)⟩
  |rol l=>
    obtain⟨ws,e,r⟩:=r;refine⟨ws,?_,r.sq (oD hq)⟩;rcases e with⟨o,e⟩|e
    ·exact .inl ⟨o,by rw[U8 na];exact e⟩
    ·exact .inr e⟩
def v5.unhide(h:v5 c μ G (DL.hide q H)):v5 c μ G H:=
 ⟨h.len,h.inj,λi o a g m=>by
  have r:=h.obj i o a g m
  cases o with
  |lst l=>obtain⟨ws,e,r⟩:=r;exact⟨ws,(S6 e).2,r.sq HF⟩
  |dct l=>obtain⟨ws,e,r⟩:=r;exact⟨ws,(S6 e).2,r.sq HF⟩
  |rod l=>obtain⟨ws,o,e,r⟩:=r;exact⟨ws,o,(S6 e).2,r.sq HF⟩
  |rol l=>
    obtain⟨ws,e,r⟩:=r;refine⟨ws,?_,r.sq HF⟩;rcases e with⟨o,e⟩|e
    ·exact .inl ⟨o,(S6 e).2⟩
    ·exact .inr e⟩
inductive UH{α:Type}(c:Wc)(q:Addr)(vs:List V)(μ:List Addr)(H:Hp)(K:α->List Addr->DH->Hp->Prop)(a:α)(X2:List Addr)(G':DH)(H':Hp):Prop
|mk (e:H' q=some (.lst vs)) (n:q∉X2) (h:v5 c X2 G' (DL.hide q H')) (x:Ext μ (DL.hide q H) X2 (DL.hide q H')) (k:K a X2 G' (DL.hide q H'))
def d7.unhide{r:Option (Except Str α×DH)}{K:α->List Addr->DH->Hp->Prop}(n:q∉μ)(hq:H q=some (.lst vs))(p:d7 c ZF μ (DL.hide q H) r K):
 d7 c Z μ H r (UH c q vs μ H K):=by
 match r,p with
 |some (.ok a,G'),p=>
   intro X2 H' x h;obtain⟨e1,e2,e3⟩:=x.hide n hq;have h2:=h.hide e2 e1;exact⟨e1,e2,h2,e3,p X2 _ e3 h2⟩
 |some (.error z,G'),p=>
   intro X2 H' x h;obtain⟨e1,e2,e3⟩:=x.hide n hq;exact(p X2 _ e3 (h.hide e2 e1)).elim
def v5.mem_lt(I:Inv X Li σ H s)(h:v5 (wc X) μ G H)(ha:a∈μ):a<s.heap.objs.size:=by
 obtain⟨i,hi⟩:=List.getElem?_of_mem ha;have hl:i<G.length:=by rw[<-h.len];exact lt_of_get hi
 have r:=h.obj i G[i] a (zD hl) hi;rcases e:G[i]with l|l|l|l
 ·rw[e]at r;obtain⟨_,e,_⟩:=r;exact I.hok.lt e
 ·
   rw[e]at r;obtain⟨ws,e,_⟩:=r;rcases e with⟨o,e⟩|e
   ·exact I.hok.lt e
   ·rcases e with(e|⟨o,e⟩)|⟨o,Ll,n,e,_⟩
    ·exact v8 e
    ·exact v8 e
    ·exact zC (I.kIn a o e)
 ·rw[e]at r;obtain⟨_,e,_⟩:=r;exact I.hok.lt e
 ·rw[e]at r;obtain⟨_,_,e,_⟩:=r;exact I.hok.lt e
end
def PTs(X:Cx)(ifs:List Expr)(t:TT):Prop:=
 ∀(Li:PNS) (s:zA) (σ:St) (H:Hp) (Q:Bool->Hp->Prop),Inv X Li σ H s->t σ H Q->
  zt (zI X.prog X.w) X.A (forIn ifs true λc r=>if r=true then do let ok <-isTrue c X.env (eval c X.env);pure (ForInStep.yield ok)else pure (ForInStep.yield r)) (TP X Li σ Q) X.xe s
structure DTs(X:Cx)(Z:XC)(ifs:List Expr)(f:DSt->M Bool):Prop where
 h:PTs X ifs (GD (wc X) Z f)
def J4:DSt->M Bool:=λ_=>pure true
def td:DTs X Z [] J4:=⟨λLi s σ H Q I Lo=>Lo.elim λX9 μ G sr h p=>wpAny_tests_nil ⟨H,I,d7.ok p h⟩⟩
def du(h:DT X Z c t):DTs X Z [c] t:=⟨λLi s σ H Q I q=>wpAny_tests_one (h.h Li s σ H Q I q)⟩
def K7(g:Fg)(t:DSt->M Bool)(e:Fe)(ck:DH->Bool):List D->DSt->M (List D)
|[]=>λ_ G=>if ck G then some (.ok [],G)else none
| d :: r => λσ G => if ck G then (do
   let WZ <-g d σ
   if <-t WZ then do
    let y <-e WZ
    let ys <-K7 g t e ck r WZ
    pure (y::ys)
   else K7 g t e ck r WZ:M (List D)) G else none
def J8(it:DSt->M Src)(caps:List (Option Nat))(g:Fg)(t:DSt->M Bool)(e:Fe):Fe:=λσ=>do
 let s <-it σ
 if s.items.length<=zj then do
  let ys <-noX (K7 g t e s.ck s.items (W4 caps σ))
  N7 (.lst ys)
 else M.stuck
def bn(h:K5 c μ H X9 σ):K5 c μ H (W4 caps X9) (W4 caps σ):=by refine⟨by simp[W4],λi d e=>?_⟩;obtain⟨j,e1,e2⟩:=iS e;obtain⟨v,e3,r⟩:=h.2 j d e2;refine⟨v,?_,r⟩;unfold W4;rw[jl,e1];simp[e3]
section
set_option maxHeartbeats 1000000 in
def CKV(c:Wc)(Q:VK)(d:D)(X2:List Addr)(_:DH)(H':Hp):Prop:=∀v,d9 c X2 H' d v->Q v H'
def CKR(c:Wc)(Z:XC)(Q:VK)(ys rest:List D)(μ:List Addr)(G:DH)(H:Hp):Prop:=d7 c Z μ H (N7 (.lst (ys++rest)) G) (CKV c Q)
def VO(gg:Fg)(tt:DSt->M Bool)(fe:Fe)(ck:DH->Bool)(items:List D)(σ:DSt)(y:D):M (List D):=do let ys <-K7 gg tt fe ck items σ;pure (y::ys)
def PR(gg:Fg)(tt:DSt->M Bool)(fe:Fe)(ck:DH->Bool)(items:List D)(σ:DSt)(b:Bool):M (List D):=if b=true then (do let y <-fe σ;let ys <-K7 gg tt fe ck items σ;pure (y::ys))else K7 gg tt fe ck items σ
def aa(gg:Fg)(tt:DSt->M Bool)(fe:Fe)(ck:DH->Bool)(items:List D)(σ:DSt):M (List D):=do if <-tt σ then do {let y <-fe σ;let ys <-K7 gg tt fe ck items σ;pure (y::ys)}else K7 gg tt fe ck items σ
inductive CG(X:Cx)(Z:XC)(Q:VK)(vs:List V)(DD:Addr)(ys:List D)(X2:List Addr)(H5:Hp)(m:DSt->M (List D))(WN:St)(H6:Hp):Prop
|mk (WS:DSt) (μ6:List Addr) (G6:DH) (s:K5 (wc X) μ6 H6 WS WN) (h:v5 (wc X) μ6 G6 H6) (u:UH (wc X) DD vs X2 H5 (λX9 μ G H=>d7 (wc X) ZF μ H (m X9 G) (CKR (wc X) Z Q ys)) WS μ6 G6 H6)
inductive CT(X:Cx)(Z:XC)(Q:VK)(vs:List V)(DD:Addr)(ys:List D)(WS:DSt)(WN:St)(μ6:List Addr)(H6:Hp)(m:Bool->M (List D))(b:Bool)(H7:Hp):Prop
|mk (WK:List Addr) (G7:DH) (s:K5 (wc X) WK H7 WS WN) (h:v5 (wc X) WK G7 H7) (u:UH (wc X) DD vs μ6 H6 (λb μ G H=>d7 (wc X) ZF μ H (m b G) (CKR (wc X) Z Q ys)) b WK G7 H7)
inductive CE(X:Cx)(Z:XC)(Q:VK)(vs:List V)(DD:Addr)(ys:List D)(WS:DSt)(WN:St)(WK:List Addr)(H7:Hp)(m:D->M (List D))(v:V)(H8:Hp):Prop
|mk (y:D) (μ8:List Addr) (G8:DH) (r:d9 (wc X) μ8 H8 y v) (s:K5 (wc X) μ8 H8 WS WN) (h:v5 (wc X) μ8 G8 H8) (u:UH (wc X) DD vs WK H7 (λy μ G H=>d7 (wc X) ZF μ H (m y G) (CKR (wc X) Z Q ys)) y μ8 G8 H8)
inductive iN(Y:Cx)(Z:XC)(Q:VK)(gg:Fg)(tt:DSt->M Bool)(fe:Fe)(src:Src)(fp:List Addr)(tn:Nat->Heap->Prop)(DD:Addr)(WT:List Addr)(H2:Hp)(n:Nat)(s':zA):Prop
|mk (i:Nat) (ys:List D) (vs:List V) (X1:St) (H':Hp) (WU:DSt) (X2:List Addr) (G':DH) (e:n=src.items.length-i) (hi:i<=src.items.length) (hv:vs.length<=i)
   (I:Inv Y [] X1 H' s') (st:tn i s'.heap) (fr:∀b∈fp,H' b=none) (hs:H' DD=some (.lst vs)) (nD:DD∉X2)
   (x:Ext WT H2 X2 (hide DD H')) (h:v5 (wc Y) X2 G' (hide DD H')) (sr:K5 (wc Y) X2 (hide DD H') WU X1) (rl:u0 (wc Y) X2 (hide DD H') ys vs)
   (p:d7 (wc Y) ZF X2 (hide DD H') (K7 gg tt fe src.ck (src.items.drop i) WU G') (CKR (wc Y) Z Q ys))
def Vp{Y:Cx}{Q:VK}{src:Src}{tn:Nat->Heap->Prop}{DD it:Addr}{H2:Hp}{J:It}{R:Result->zA->Prop}(hcX:Y.calm=true)(hg:DG Y ZF tg gg)(ht:DTs Y ZF ifs tt)(he:DE Y ZF elt fe)(T:SA Y.prog Y.w Y.K tg J fp it tn)
 (fpX:∀(H':Hp) (b:Addr),b∈fp->H' b=none->L5 Y [] H' b) (hJ:ItD (wc Y) WT H2 J src) (Lr:src.items.length<=zj) (fin:∀(H':Hp) (X1:St) (s4:zA),Inv Y [] X1 H' s4->Q (.ref DD) H'->R (.ok .next) s4) (n:Nat) (s':zA) (h:iN Y Z Q gg tt fe src fp tn DD WT H2 n s') {NX:zA->Prop} (nx:∀m s,m<n->iN Y Z Q gg tt fe src fp tn DD WT H2 m s->NX s):
 zt (zI Y.prog Y.w) Y.A (yW (.ref it)) (λr W1=>match r with
  |none=>R (.ok .next) W1
  | some v => zt (zI Y.prog Y.w) Y.A (Zi tg (.ref it) v) (λ_ s₁' => zt (zI Y.prog Y.w) Y.A (Xs tg Y.env v) (λ_ s₂ =>
     zt (zI Y.prog Y.w) Y.A (forIn ifs true λc r=>if r=true then do let ok <-isTrue c Y.env (eval c Y.env);pure (ForInStep.yield ok)else pure (ForInStep.yield r)) (λok s₃=>
      if ok=true then zt (zI Y.prog Y.w) Y.A (eval elt Y.env) (λx s₄=>
       zt (zI Y.prog Y.w) Y.A (call (.builtin "list.append") [.ref DD,x]) (λ_ s₅=>NX s₅) Y.xe s₄) Y.xe s₃
      else NX s₃) Y.xe s₂) Y.xe s₁') Y.xe W1) Y.xe s':=by
 obtain⟨i,ys,vs,X1,H',WU,X2,G',rfl,hi',hvl,I',Mi,fr',hvs,nD',x',h',sr',rl,p'⟩:=h;by_cases Lu:i<src.items.length
 ·rw[Yp Lu]at p';unfold K7 at p';split at p'
  case isFalse=>exact p'.elim
  rename_i ck;obtain⟨q1,_⟩:=hJ X2 G' H' x'.unhide h'.unhide ck i;obtain⟨go,yl⟩:=q1 _ (zD Lu);refine thn (T.item (Y) rfl rfl rfl hcX i [] s' X1 H' Y.xe I' (λb hb=>fpX H' b hb (fr' b hb)) Mi go) λr s4 z4=>?_;obtain⟨u,rfl,h4⟩:=z4;refine thn h4 λ_ s5 z5=>?_;obtain⟨x,H5,I5,r5,y5,st5,fr5⟩:=z5;obtain⟨k5,h5,rx5⟩:=yl x H5 y5;obtain⟨e5,n5,k5'⟩:=k5.hide nD' hvs;have I5':=I5.pinned (λb hb=>fpX H5 b hb (fr5 b hb)) (T.obj _ _ st5);have keepIt:∀ {WL:St} {H7:Hp} {s7:zA},Inv (Y) ([]++GF fp s5.heap) WL H7 s7->Inv (Y) [] WL H7 s7/\tn (i+1) s7.heap/\∀b∈fp,H7 b=none:=λ{WL H7 s7} I7=>by refine⟨I7.unpinned,T.keep _ _ _ st5 λb hb o e=>(I7.pin (b,o) (zS _ (zS _ (EG hb e)))).1,λb hb=>?_⟩;obtain⟨o,e,d⟩:=T.obj _ _ st5 b hb;exact(I7.pin (b,o) (zS _ (zS _ (EG hb e)))).2.1
  have p5:=d7.unhide (Z:=ZF) n5 e5 (d7.bind (p'.from k5'));refine thn (hg.h _ s5 X1 H5 x u _ I5' r5 ⟨_,WU,X2,G',rx5,(sr'.mono k5').sq HF,h5,p5.mono λWS μ6 G6 H6 x6 h6 q6 WN sr6=>(⟨WS,μ6,G6,sr6,h6,q6⟩:CG Y Z Q vs DD ys X2 H5 (aa gg tt fe src.ck (src.items.drop (i+1))) WN H6)⟩) λ_ s6 z6=>?_;obtain⟨WN,H6,I6,WS,μ6,G6,sr6,h6,e6,n6,hh6,x6,p6⟩:=z6;have p6':=d7.unhide (Z:=ZF) n6 e6 (d7.bind p6);refine thn (ht.h _ s6 WN H6 (CT Y Z Q vs DD ys WS WN μ6 H6 (PR gg tt fe src.ck (src.items.drop (i+1)) WS)) I6 ⟨WS,μ6,G6,sr6,h6,p6'.mono λb WK G7 H7 x7 h7 q7=>⟨WK,G7,sr6.mono x7,h7,q7⟩⟩) λb s7 z7=>?_;obtain⟨H7,I7,WK,G7,sr7,h7,e7,n7,hh7,x7,p7⟩:=z7;unfold PR at p7;have x27:Ext WT H2 WK (hide DD H7):=x'.trans (k5'.trans (x6.trans x7));have rl7:u0 (wc Y) WK (hide DD H7) ys vs:=rl.mono (k5'.trans (x6.trans x7));rcases b with _|_
  ·
    rw[if_neg zZ]at p7 ⊢;obtain⟨I8,st8,fr8⟩:=keepIt I7;exact nx _ _ (Xv _ _ Lu) ⟨i+1,ys,vs,WN,H7,WS,WK,G7,rfl,Lu,Nat.le_succ_of_le hvl,I8,st8,fr8,e7,n7,x27,hh7,sr7.sq (oD e7),rl7,p7⟩
  ·
    rw[if_pos rfl]at p7 ⊢;have p7':=d7.unhide (Z:=ZF) n7 e7 (d7.bind p7);refine thn (he.h _ s7 WN H7 (CE Y Z Q vs DD ys WS WN WK H7 (VO gg tt fe src.ck (src.items.drop (i+1)) WS)) I7 ⟨WS,WK,G7,sr7,h7,p7'.mono λy μ8 G8 H8 x8 h8 q8 v rv=>⟨y,μ8,G8,rv,sr7.mono x8,h8,q8⟩⟩) λyu s8 z8=>?_;obtain⟨yv,H8,I8,ry,y,μ8,G8,ryd,sr8,h8,e8,n8,hh8,x8,p8⟩:=z8;unfold VO at p8;refine thn (cP _ s8 WN H8 (.ref DD) [yv] (.ref DD) [yu] (λ_ H9=>H9=upd H8 DD (.lst (vs++[yv]))) I8 rfl (.cons ry .nil) ⟨DD,vs,yv,rfl,rfl,e8,by lia,rfl⟩) λ_ s9 z9=>?_;obtain⟨_,H9,I9,_,rfl⟩:=z9;obtain⟨I10,st10,fr10⟩:=keepIt I9;have hd9:hide DD (upd H8 DD (.lst (vs++[yv])))=hide DD H8:=aH;refine nx _ _ (Xv _ _ Lu) ⟨i+1,ys++[y],vs++[yv],WN,_,WS,μ8,G8,rfl,Lu,by rw[zv];exact YQ hvl,I10,st10,fr10,Q5,n8,?_,?_,?_,?_,?_⟩
    ·rw[hd9];exact x27.trans x8
    ·rw[hd9];exact hh8
    ·rw[hd9];exact sr8.sq (oD e8)
    ·rw[hd9];exact(rl7.mono x8).append ⟨yv, [],rfl,ryd.sq (oD e8),rfl⟩
    ·rw[hd9];refine(d7.bind p8).mono λrest μ'' G'' H'' x'' h'' q''=>?_;have q3:=d7.ok q'' h'';show d7 (wc Y) Z μ'' H'' (N7 (.lst (ys++[y]++rest)) G'') (CKV (wc Y) Q);rw[Yz];exact q3
 ·have e:i=src.items.length:=by lia
  subst e;rw[List.drop_length]at p';unfold K7 at p';split at p'
  case isFalse=>exact p'.elim
  rename_i ck;obtain⟨_,q2⟩:=hJ X2 G' H' x'.unhide h'.unhide ck src.items.length;refine thn (T.done (Y) rfl rfl rfl hcX src.items.length [] s' X1 H' Y.xe I' (λb hb=>fpX H' b hb (fr' b hb)) Mi (q2 (zh _))) λr s4 ⟨hr,I4⟩=>?_;subst hr;have p9:d7 (wc Y) Z X2 (hide DD H') (N7 (.lst (ys++[])) G') (CKV (wc Y) Q):=d7.ok p' h';rw[Zc]at p9;have q9:=U6 (q:=DD) h' rl p9 vE;rw[iy hvs]at q9;exact fin H' X1 s4 I4 q9
def dS{use:Option (zm->Sem Unit)}{Q:VK}{ps:Pos}{Li:PNS}{s:zA}{σ:St}{H:Hp}{X9:DSt}{G:DH}(hc:X.calm=true)(hi:DI X Z tg iter it)(k:a9 X scope N caps)
 (hg:∀C s H ex,DG (T6 X scope N C s H ex) ZF tg gg) (ht:∀C s H ex,DTs (T6 X scope N C s H ex) ZF ifs tt) (he:∀C s H ex,DE (T6 X scope N C s H ex) ZF elt fe)
 (hs:∀x,xo iter X.env x=pure x) (I:Inv X Li σ H s) (sr:K5 (wc X) μ H X9 σ) (hr:v5 (wc X) μ G H) (p:d7 (wc X) Z μ H (J8 it caps gg tt fe X9 G) λd X2 _ H'=>∀v,d9 (wc X) X2 H' d v->Q v H')
 (fin:∀(DD C:Addr) (s4:zA) (H':Hp) m (o:Flow),s4.heap.Ns C m->(∀h'',jZ C s4.heap h''->Inv X Li σ H' {s4 with heap:=h''})->H' C=none->(∀H9:Hp,H9 C=none->L5 X Li H9 C)->Q (.ref DD) H'->compPost (zI X.prog X.w) X.A X.xe use PQ (.ref DD) C (.ok o) s4):
 zt (zI X.prog X.w) X.A (comprehension (.ListComp elt [⟨tg,iter,ifs,0⟩] scope pos) scope X.env ps (newList []) false (eval iter X.env) use) PQ X.xe s:=by
 replace p:d7 (wc X) Z μ H (J8 it caps gg tt fe X9 G) (CKV (wc X) Q):=p;have p1:=d7.bind p;refine wpAny_comprehension_free rfl hs (fX (k.cells I.ok)) k.kind k.names ?_;refine thn (hi.h Li s σ H (λJ H1=>∃src X0 G1,Ext μ H X0 H1/\v5 (wc X) X0 G1 H1/\ItD (wc X) X0 H1 J src/\
  d7 (wc X) Z X0 H1 ((if src.items.length<=zj then (do let ys <-noX (K7 gg tt fe src.ck src.items (W4 caps X9));N7 (.lst ys))else M.stuck:M D) G1) (CKV (wc X) Q))
  I ⟨X9,μ,G,sr,hr,p1.mono λsrc X0 G1 H1 x1 h1 p1 J hJ=>⟨src,X0,G1,x1,h1,hJ,p1⟩⟩) λv s1 q1=>thn q1 λitv s2 q2=>?_
 obtain⟨itA,fp,tn,J,H2,rfl,I2,T,st2,f2,src,WT,G2,x2,h2,hJ,p2⟩:=q2;split at p2
 case isFalse=>exact p2.elim
 rename_i Lr;have hfp:∀b∈fp,b<s2.heap.objs.size:=λb hb=>by obtain⟨o,e,_⟩:=T.obj _ _ st2 b hb;exact zC e
 refine yV (wpAny_newFunctionEnv k.cell (by intro y hy;simp at hy) (λh₁ hns₁ hsb₁=>?_) k.kind);dsimp only at hns₁ hsb₁ ⊢;generalize hHP:s2.heap.push {cls:=.type "list",dict:=none,data:=.seq ([]:List zm).toArray}=HP at hns₁ hsb₁ ⊢;have hC:HP.objs.size=s2.heap.objs.size+1:=by rw[<-hHP,jN]
 have hCl:s2.heap.objs.size<HP.objs.size:=by rw[hC];exact yZ _
 have hDC:s2.heap.objs.size≠HP.objs.size:=zQ hCl;have old:∀b o,s2.heap.get? b=some o->h₁.get? b=some o:=λb o e=>hsb₁.extBut b o (by have:=zC e;exact zQ (Xe this hCl)) (zc _ (hHP▸zc _ e));have Og:h₁.get? s2.heap.objs.size=some {cls:=.type "list",data:=.seq ([]:List zm).toArray 0}:=hsb₁.extBut _ _ hDC (zc _ (hHP▸zu _ rfl));have hD:H2 s2.heap.objs.size=none:=I2.hok.fresh (zh _);have nD:s2.heap.objs.size∉WT:=λz=>yD _ (h2.mem_lt I2 z);have st1:tn 0 h₁:=T.keep _ _ _ st2 λb _ o e=>old b o e;have fpX:∀(H':Hp) (b:Addr),b∈fp->H' b=none->L5 (T6 X scope N HP.objs.size s2 H2 fp) [] H' b:=λH' b hb hn=>
  ⟨hn,zQ (Xe (hfp b hb) hCl),λz=>by
   rcases zn.mp (I2.stkSub b z)with e|e
   ·exact(f2 b hb).2.1 e
   ·exact(f2 b hb).2.2.1 e,.inl hb,λx c e=>(f2 b hb).2.2.2.2.1 x c (FC e),λp hp=>absurd (show p∈([]:PNS)from hp) (by simp)⟩
 have hcX:(T6 X scope N HP.objs.size s2 H2 fp).calm=true:=hc;have p3:=KP (d7.bind p2);generalize hDD:s2.heap.objs.size=DD at *;have loop:∀s₃:zA,s₃= {s2 with heap:=h₁,toks:=s2.toks+([]:List (Str×zm)).length}->
  xZ (zI X.prog X.w) X.A (.compLoop (.ListComp elt [⟨tg,iter,ifs,0⟩] scope pos) 0 (.ref itA) (.ref DD) (compEnvC scope (w9 X.env scope.names []) HP.objs.size X.env))
   (compPost (zI X.prog X.w) X.A X.xe use PQ (.ref DD) HP.objs.size) s₃:=by
  rintro s₃ rfl;refine Gn (iN (T6 X scope N HP.objs.size s2 H2 fp) Z Q gg tt fe src fp tn DD WT H2) (λn s' h=>Vp hcX (hg _ _ _ _) (ht _ _ _ _) (he _ _ _ _) T fpX hJ Lr (λH' X1 s4 I4 q9=>?_) n s' h λm s h1 h2=>⟨m,h1,h2⟩) src.items.length
   ⟨0, [], [],W4 caps σ,upd H2 DD (.lst []),W4 caps X9,WT,G2,rfl,zO _,zh _,?_,st1,λb hb=>?_,Q5,nD,?_,?_,?_,rfl,?_⟩
  ·obtain⟨m,hn,_⟩:=I4.loc;exact fin DD HP.objs.size s4 H' m _ hn (λh'' sb=>Fm I2 (λb hb=>f2 b hb) (by rw[hDD];exact hCl) I4 sb) I4.free (λH9 hn9=>I2.fpOk (by rw[hDD];exact yj hCl) hn9) q9
  ·have:=Bx (tk:=s2.toks+([]:List (Str×zm)).length) I2 k (by rw[hDD];exact hCl) f2 (λb hb=>by rw[hDD];exact hfp b hb) old hns₁ (by rw[hDD];exact Og);rw[hDD]at this;exact this
  ·rw[v9 (zQ (hfp b hb))];exact(f2 b hb).1
  ·rw[aH,rH hD];exact Ext.refl _ _
  ·rw[aH,rH hD];exact h2
  ·rw[aH,rH hD];exact bn (sr.mono x2)
  ·rw[aH,rH hD,List.drop_zero];exact p3
 exact codeAny_compStart_list (loop _ rfl) (T.self _ 0 _ _ _ st1 (loop _ rfl))
def qm(hc:X.calm=true)(hi:DI X Z tg iter it)(k:a9 X scope N caps)
 (hg:∀C s H ex,DG (T6 X scope N C s H ex) ZF tg gg) (ht:∀C s H ex,DTs (T6 X scope N C s H ex) ZF ifs tt) (he:∀C s H ex,DE (T6 X scope N C s H ex) ZF elt fe)
 (hs:∀x,xo iter X.env x=pure x):DE X Z (.ListComp elt [⟨tg,iter,ifs,0⟩] scope pos) (J8 it caps gg tt fe):=⟨by
 intro Li s σ H Q I Lo;refine Lo.elim λX9 μ G sr hr p=>?_;rw[eval_ListComp];exact dS hc hi k hg ht he hs I sr hr p λDD C s4 H' m o hn fin _ _ q9=>⟨m,hn,λh'' sb=>⟨.ref DD,H',fin h'' sb,rfl,q9⟩⟩⟩
end
def O4(r:Nat):M DO:=λG=>match G[r]? with
|some o=>some (.ok o,G)
|none=>none
def listOf:DO->M (List D)
| .lst l=>pure l
| .rol l=>pure l
| .dct _=>M.stuck
| .rod _=>M.stuck
def dv:D->M (List D)
| .tup l=>pure l
| .ref r=>O4 r >>= listOf
|_=>M.stuck
def D3{α:Type}:Option α->M α
|some a=>pure a
|none=>M.stuck
section
def IxR.mono(h:IxR X r)(k:∀x y H Q,r' x y H Q->r x y H Q):IxR X r':=λva sl Li s σ H x y v u Q I rx ry q hs=>h va sl Li s σ H x y v u Q I rx ry (k x y H Q q) hs
def K8{f:DO->M α}{K:α->List Addr->DH->Hp->Prop}(p:d7 c Z μ H ((O4 r >>= f) G) K):∃o,G[r]? =some o/\d7 c Z μ H (f o G) K:=by
 rw[M.bind_eq]at p;unfold O4 at p;rcases e:G[r]? with _|o
 ·rw[e]at p;exact p.elim
 ·rw[e]at p;exact⟨o,rfl,p⟩
def gC{r:Option β}{f:β->M α}{K:α->List Addr->DH->Hp->Prop}(p:d7 c Z μ H ((D3 r >>= f) G) K):∃o,r=some o/\d7 c Z μ H (f o G) K:=by
 rcases r with _|o
 ·exact p.elim
 ·exact⟨o,rfl,p⟩
def iM{f:List D->M α}{K:α->List Addr->DH->Hp->Prop}(h:v5 c μ G H)(r:d9 c μ H d v)(p:d7 c Z μ H ((dv d >>= f) G) K):
 ∃l a vs,v= .ref a/\u0 c μ H l vs/\d7 c Z μ H (f l G) K/\((d= .tup l/\SqT c.K H a vs)\/(∃i,d= .ref i/\μ[i]? =some a/\((G[i]? =some (.lst l)/\H a=some (.lst vs))\/(G[i]? =some (.rol l)/\RoL c.K H a vs)))):=by
 rcases d with _|_|_|_|l|i|_|_<;>try (exact p.elim;done)
 ·
   unfold d9 at r;obtain⟨a,vs,e,q,rl⟩:=r;exact⟨l,a,vs,e,rl,p,.inl ⟨rfl,q⟩⟩
 ·
   unfold d9 at r;obtain⟨a,m,e⟩:=r;have p':d7 c Z μ H ((O4 i >>= λo=>listOf o >>= f) G) K:=by rw[<-M.bind_assoc];exact p
   obtain⟨o,g,p2⟩:=K8 p';have ro:=h.obj i o a g m;rcases o with l|l|l|l
   ·obtain⟨vs,q,rl⟩:=ro;exact⟨l,a,vs,e,rl,p2,.inr ⟨i,rfl,m,.inl ⟨g,q⟩⟩⟩
   ·obtain⟨vs,q,rl⟩:=ro;exact⟨l,a,vs,e,rl,p2,.inr ⟨i,rfl,m,.inr ⟨g,q⟩⟩⟩
   ·exact p2.elim
   ·exact p2.elim
def C2(r:d9 c μ H (.int i) v):v= .int i:=by unfold d9 at r;exact r
def P6(r:d9 c μ H (.str i) v):v= .str i:=by unfold d9 at r;exact r
def wB(r:d9 c μ H (.bl i) v):v= .bl i:=by unfold d9 at r;exact r
def VG(r:d9 c μ H .non v):v= .non:=by unfold d9 at r;exact r
def ofI:d9 c μ H (.int i) (.int i):=by unfold d9;rfl
def ofS:d9 c μ H (.str i) (.str i):=by unfold d9;rfl
def ofB:d9 c μ H (.bl i) (.bl i):=by unfold d9;rfl
def ofN:d9 c μ H .non .non:=by unfold d9;rfl
def PD(g:Int->Int->M D):D->D->M D:=λx y=>match x,y with
| .int i,.int j=>g i j
|_,_=>M.stuck
def QK[∀i j,Decidable (C i j)]{g:Int->Int->Int}(h:OpR X f (rI C λi j=>.int (g i j))):OpD X Z f (PD λi j=>if C i j then pure (.int (g i j))else M.stuck):=
 OpD.of h λx y H Q Lo=>Lo.elim λdx dy μ G rx ry hr p=>by
  rcases dx with _|_|_|_|_|_|_|_<;>rcases dy with _|_|_|_|_|_|_|_<;>first
   |exact p.elim
   |skip
  rename_i i j;unfold PD at p;dsimp only at p;split at p
  ·rename_i hc;exact⟨i,j,C2 rx,C2 ry,hc,d7.ok p hr _ ofI⟩
  ·exact p.elim
def Ng{g:Int->Int->Int}(h:OpR X f (KB λi j=>.int (g i j))):OpD X Z f (PD λi j=>pure (.int (g i j))):=
 OpD.of h λx y H Q Lo=>Lo.elim λdx dy μ G rx ry hr p=>by
  rcases dx with _|_|_|_|_|_|_|_<;>rcases dy with _|_|_|_|_|_|_|_<;>first
   |exact p.elim
   |exact⟨_,_,C2 rx,C2 ry,d7.ok p hr _ ofI⟩
def u8:D->D->M D:=PD λi j=>pure (.int (i-j))
def mf:OpD X Z (yG .Sub) u8:=Ng aV
instance (i j:Int):Decidable (MA i j):=by unfold MA;infer_instance
def FE(_ j:Int):Prop:=0<j/\j<2 ^ 100
instance (i j:Int):Decidable (FE i j):=by unfold FE;infer_instance
def ie:OpR X (yG .FloorDiv) (rI FE λi j=>.int (i / j)):=opI λi j _ _ _ _ _ hc q=>by
 have h1:(0:Int)<j:=hc.1;have h2:j<2 ^ 100:=hc.2;refine floordiv_int (by lia) (by rw[Int.fdiv_eq_ediv_of_nonneg i (by lia)];exact q) (.inl (PyProof.noPylong_of_log2 ?_));have h3:j.natAbs<2 ^ 100:=by lia
 have h4:j.natAbs≠0:=by lia
 have:=(Nat.log2_lt h4).mpr h3;lia
def w8:D->D->M D:=PD λi j=>if FE i j then pure (.int (i / j))else M.stuck
def qi:OpD X Z (yG .FloorDiv) w8:=QK ie
def P4:D->D->M D:=PD λi j=>if 0<j then pure (.int (i % j))else M.stuck
def Ex:OpD X Z (yG .Mod) P4:=QK uZ
instance (i j:Int):Decidable (vA i j):=by unfold vA;infer_instance
def L6:D->D->M D:=PD λi j=>if vA i j then pure (.int (i ^ j.toNat))else M.stuck
def Hw:OpD X Z (yG .Pow) L6:=QK uV
def Dh{w:jg}{s:zA}{t b:Addr}{ws:List zm}(ht:IsTup s.heap t #[])(hb:IsTup s.heap b ws.toArray)
 (h1:Q (.ref b) s):zt (zI prog w) A (yG .Add (.ref t) (.ref b)) Q E s:=by
 obtain⟨⟨cls,dd,data,sl⟩,ho,hc,n,hd⟩:=id ht;obtain⟨⟨cls2,dd2,data2,sl2⟩,Nl,hc2,n2,hd2⟩:=id hb;simp only at hc hd hc2 hd2;subst hc hd hc2 hd2;exact concat_meets ⟨_,ho,rfl⟩ ⟨_,Nl,rfl⟩ JW seq_tuple_add YE Yu (Yn _ _)
  (tuple_addW0 t b #[] ws.toArray n n2 dd dd2 sl sl2 (by simp)) ⟨ho,Nl,h1⟩
def cy(K:zo):R2:=λx y H Q=>∃a b ys,x= .ref a/\y= .ref b/\SqT K H a []/\SqT K H b ys/\Q (.ref b) H
def Ax:OpR X (yG .Add) (cy X.K):=by
 intro Li s σ H x y v u Q I rx ry h;obtain⟨a,b,ys,rfl,rfl,ha,hb,q⟩:=h
 cases rx
 cases ry
 obtain⟨Ll,r,p,_⟩:=I.tuple ha;obtain⟨Mu,r2,p2,_⟩:=I.tuple hb
 cases r
 exact Dh p p2 ⟨.ref b,H,I,rfl,q⟩
def K4:D->D->M D:=λx y=>match x,y with
| .int i,.int j=>pure (.int (i+j))
| .str a,.str b=>if a.length+b.length<=zj then pure (.str (a++b))else M.stuck
| .tup a,.tup b=>if a.length+b.length<=zj then pure (.tup (a++b))else M.stuck
| .ref i,.ref j=>do
  match <-O4 i,<-O4 j with
  | .lst a,.lst b=>if a.length+b.length<=zj then N7 (.lst (a++b))else M.stuck
  |_,_=>M.stuck
|_,_=>M.stuck
def QN{Q:VK}(h:v5 c μ G H)(q:SqT c.K H a vs)(r:u0 c μ H xs vs)
 (p:d7 c Z μ H (some (Except.ok (.tup xs),G)) λd X2 _ H'=>∀v,d9 c X2 H' d v->Q v H'):Q (.ref a) H:=d7.ok p h _ (by unfold d9;exact⟨a,vs,rfl,q,r⟩)
def AX:OpD X Z (yG .Add) K4:=
 OpD.of (OpR.or Kf (OpR.or Df (OpR.or Cn (OpR.or Ax Hb)))) λx y H Q Lo=>Lo.elim λdx dy μ G rx ry hr p=>by
  rcases dx with _|_|_|_|_|_|_|_<;>rcases dy with _|_|_|_|_|_|_|_<;>first
   |exact p.elim
   |skip
  ·exact .inl ⟨_,_,C2 rx,C2 ry,d7.ok p hr _ ofI⟩
  ·rename_i a b;refine .inr (.inl ?_);unfold K4 at p;dsimp only at p;split at p
   ·rename_i hz;exact⟨a,b,P6 rx,P6 ry,hz,d7.ok p hr _ ofS⟩
   ·exact p.elim
  ·rename_i a b;unfold d9 at rx ry;obtain⟨ax,vx,rfl,qx,lx⟩:=rx;obtain⟨ay,vy,rfl,qy,ly⟩:=ry;unfold K4 at p;dsimp only at p;split at p
   ·rename_i hz;by_cases hv:vx= []
    ·subst hv;rcases a with _|⟨_,_⟩
     ·exact .inr (.inr (.inr (.inl ⟨ax,ay,vy,rfl,rfl,qx,qy,QN hr qy ly p⟩)))
     ·obtain⟨_,_,z,_⟩:=lx;cases z
    ·refine .inr (.inr (.inl ⟨ax,ay,vx,vy,rfl,rfl,qx,qy,hv,by rw[<-lx.length,<-ly.length];exact hz,?_⟩));refine⟨λhy=>?_,λhy q hq=>OH hr (lx.append ly) p q hq⟩;subst hy;refine QN hr qx ?_ p;rcases b with _|⟨_,_⟩
     ·rw[Zc];exact lx
     ·obtain⟨_,_,z,_⟩:=ly;cases z
   ·exact p.elim
  ·rename_i i j;unfold d9 at rx ry;obtain⟨ax,mx,rfl⟩:=rx;obtain⟨ay,my,rfl⟩:=ry;obtain⟨ox,gx,p⟩:=K8 p;obtain⟨oy,gy,p⟩:=K8 p;have hx:=hr.obj i ox ax gx mx;have hy:=hr.obj j oy ay gy my;rcases ox with _|_|_|_<;>rcases oy with _|_|_|_<;>first
    |exact p.elim
    |skip
   obtain⟨vx,ex,lx⟩:=hx;obtain⟨vy,ey,ly⟩:=hy;dsimp only at p;split at p
   ·rename_i hz;exact .inr (.inr (.inr (.inr ⟨ax,ay,vx,vy,rfl,rfl,ex,ey,by rw[<-lx.length,<-ly.length];exact hz,λq hq=>U6 hr (lx.append ly) p q hq⟩)))
   ·exact p.elim
end
def W9(G:DH):D->Option (Bool×List D)
| .tup l=>some (true,l)
| .ref i=>match G[i]? with
  |some (.lst l)=>some (false,l)
  |some (.rol l)=>some (false,l)
  |_=>none
|_=>none
def S4:D->Bool
| .non=>true
| .bl _=>true
| .int _=>true
| .str _=>true
|_=>false
def eqS:D->D->Option Bool
| .non,.non=>some true
| .bl a,.bl b=>some (a==b)
| .int a,.int b=>some (a==b)
| .str a,.str b=>some (a==b)
| .bl a,.int b=>some ((if a then (1:Int)else 0)==b)
| .int a,.bl b=>some (a==(if b then (1:Int)else 0))
|x,y=>if S4 x&&S4 y then some false else none
def eqL(f:D->D->Option Bool):List D->List D->Option Bool
|[], []=>some true
|[],_::_=>some false
|_::_, []=>some false
|x::xs,y::ys=>match f x y,eqL f xs ys with
  |some e,some r=>some (e&&r)
  |_,_=>none
def eqN:Nat->DH->D->D->Option Bool
|0,_,_,_=>none
|n+1,G,x,y=>match W9 G x,W9 G y with
  |some (k1,a),some (k2,b)=>if k1=k2 then (if k1=false/\a.length≠b.length then some false else eqL (eqN n G) a b)else some false
  |some _,none=>if S4 y then some false else none
  |none,some _=>if S4 x then some false else none
  |none,none=>eqS x y
def P7:eqN (n+1) G x y=match W9 G x,W9 G y with
|some (k1,a),some (k2,b)=>if k1=k2 then (if k1=false/\a.length≠b.length then some false else eqL (eqN n G) a b)else some false
|some _,none=>if S4 y then some false else none
|none,some _=>if S4 x then some false else none
|none,none=>eqS x y:=rfl
def VA:eqL f (x::xs) (y::ys)=match f x y,eqL f xs ys with
|some e,some r=>some (e&&r)
|_,_=>none:=rfl
theorem tR:∀a b r,eqL f a b=some r->(∀j x y,a[j]? =some x->b[j]? =some y->f x y=some (e j))->r= ((zP (min a.length b.length)).all e&&a.length==b.length)
|[], [],r,h,_=>by cases h;rfl
|[],_::_,r,h,_=>by cases h;simp
|_::_, [],r,h,_=>by cases h;simp
|x::xs,y::ys,r,h,he=>by
  rw[VA]at h;have h0:=he 0 x y rfl rfl;rw[h0]at h;rcases hr:eqL f xs ys with _|r'
  ·rw[hr]at h;exact v8 h
  ·
    rw[hr]at h;have ih:=tR xs ys r' hr λj x' y' h1 h2=>he (j+1) x' y' (by simpa using h1) (by simpa using h2)
    cases h
    rw[ih];have:min (x::xs).length (y::ys).length=min xs.length ys.length+1:=by simp only[zM];lia
    rw[this,Zl,jm,Zm];simp[JS,Yg]
theorem EL:∀a b r,eqL f a b=some r->∀(j:Nat) x y,a[j]? =some x->b[j]? =some y->∃e,f x y=some e
|[],_,_,_,_,_,_,h,_=>by simp at h
|_::_, [],_,_,_,_,_,_,h=>by simp at h
|x::xs,y::ys,r,h,j,x',y',h1,h2=>by
  rw[VA]at h;rcases hf:f x y with _|e
  ·rw[hf]at h;exact v8 h
  ·
    rcases hr:eqL f xs ys with _|r'
    ·rw[hf,hr]at h;exact v8 h
    ·
      cases j with
      |zero=>simp at h1 h2;subst h1 h2;exact⟨e,hf⟩
      |succ j=>exact EL xs ys r' hr j x' y' (by simpa using h1) (by simpa using h2)
section
def UG(s:zA)(k:Bool)(a:Addr)(Ll:List zm):Prop:=if k then s.heap.IsTuple a Ll.toArray else s.heap.IsList a Ll.toArray
def OB(I:Inv X Li σ H s)(h:v5 (wc X) μ G H)(e:W9 G d=some (k,l))(r:d9 (wc X) μ H d x)(rv:J1 x v):
 ∃a vs Ll,x= .ref a/\v= .ref a/\u0 (wc X) μ H l vs/\u6 vs Ll/\UG s k a Ll/\(if k then SqT X.K H a vs else SqL X.K H a vs):=by
 rcases d with _|_|_|_|l'|i|_|_<;>try (cases e;done)
 ·
   unfold W9 at e
   cases e
   unfold d9 at r;obtain⟨a,vs,rfl,q,rl⟩:=r;obtain⟨Ll,rr,p,_⟩:=I.tuple q;exact⟨a,vs,Ll,rfl,rv,rl,rr,p,q⟩
 ·
   have e':(match G[i]? with|some (.lst l)=>some (false,l)|some (.rol l)=>some (false,l)|_=>none)=some (k,l):=e;unfold d9 at r;obtain⟨a,m,rfl⟩:=r;have key:∀vs,SqL X.K H a vs->u0 (wc X) μ H l vs->k=false->∃a' vs Ll,V.ref a= .ref a'/\v= .ref a'/\u0 (wc X) μ H l vs/\u6 vs Ll/\UG s k a' Ll/\(if k then SqT X.K H a' vs else SqL X.K H a' vs):=λvs q rl hk=>by subst hk;obtain⟨Ll,rr,p,_⟩:=I.list q;exact⟨a,vs,Ll,rfl,rv,rl,rr,p.isList,q⟩
   generalize g:G[i]? =o at e';rcases o with _|l'|l'|_|_<;>cases e'
   ·obtain⟨vs,q,rl⟩:=h.obj i _ a g m;exact key vs (SqL.of q) rl rfl
   ·obtain⟨vs,q,rl⟩:=h.obj i _ a g m;exact key vs q.sq rl rfl
def SO(hs:S4 d=true)(r:d9 c μ H d (.ref a)):False:=by
 cases d<;>first
  |exact absurd (show false=true from hs) zZ
  |(unfold d9 at r;cases r)
def CO(h:eqS x y=some b):S4 x=true/\S4 y=true:=by
 rcases x with _|_|_|_|_|_|_|_<;>rcases y with _|_|_|_|_|_|_|_<;>first
  |exact⟨rfl,rfl⟩
  |(cases h;done)
def kq(h:eqS x y=some b)(rx:d9 c μ H x v)(ry:d9 c μ H y v):b=true:=by
 obtain⟨s1,s2⟩:=CO h;rcases x with _|_|_|_|_|_|_|_<;>rcases y with _|_|_|_|_|_|_|_<;>first
  |(cases s1;done)
  |(cases s2;done)
  |(unfold d9 at rx ry;rw[rx]at ry;cases ry;done)
  |(unfold d9 at rx ry;rw[rx]at ry;cases ry;cases h;first|rfl|simp)
def qz(I:Inv X Li σ H s)(h1:UG s k a Ll)(h2:UG s k' a its'):k=k':=by
 cases k<;>cases k'<;>first
  |rfl
  |exact absurd rfl (SeqAt.ne_of_list_tuple h1 h2)
  |exact absurd rfl (SeqAt.ne_of_list_tuple h2 h1)
theorem eqL_same:∀l l' vs b,u0 c μ H l vs->u0 c μ H l' vs->(∀d d' v b,v∈vs->d9 c μ H d v->d9 c μ H d' v->f d d'=some b->b=true)->eqL f l l'=some b->b=true
|[], [],_,b,_,_,_,e=>by cases e;rfl
|[],_::_,vs,b,r1,r2,_,_=>by cases r1;obtain⟨_,_,z,_⟩:=r2;exact WD z
|_::_, [],vs,b,r1,r2,_,_=>by cases r2;obtain⟨_,_,z,_⟩:=r1;cases z
|d::ds,d'::ds',vs,b,r1,r2,k,e=>by
  obtain⟨v0,vr,rfl,q0,t0⟩:=r1;obtain⟨v1,vr',e1,q1,t1⟩:=r2
  cases e1
  rw[VA]at e;rcases hf:f d d' with _|e0
  ·rw[hf]at e;exact v8 e
  ·
    rcases hr:eqL f ds ds' with _|r'
    ·rw[hf,hr]at e;exact v8 e
    ·
      rw[hf,hr]at e
      cases e
      have z1:=k d d' v0 e0 zg q0 q1 hf;have z2:=eqL_same ds ds' vr r' t0 t1 (λa a' v b hm=>k a a' v b (ze _ hm)) hr;rw[z1,z2];rfl
theorem SU(I:Inv X Li σ H s)(h:v5 (wc X) μ G H):∀n {dx dy} {x} {v} {b},d9 (wc X) μ H dx x->d9 (wc X) μ H dy x->J1 x v->eqN n G dx dy=some b->b=true
|0,_,_,_,_,_,_,_,_,e=>by exact v8 e
|n+1,dx,dy,x,v,b,rx,ry,rv,e=>by
  rw[P7]at e;rcases hx:W9 G dx with _|p
  ·
    rw[hx]at e;rcases hy:W9 G dy with _|p
    ·rw[hy]at e;exact kq e rx ry
    ·
      obtain⟨k,l⟩:=p;rw[hy]at e;dsimp only at e;split at e
      ·rename_i hs;obtain⟨a,_,_,rfl,_⟩:=OB I h hy ry rv;exact(SO hs rx).elim
      ·exact v8 e
  ·
    obtain⟨k,l⟩:=p;rw[hx]at e;rcases hy:W9 G dy with _|p'
    ·
      rw[hy]at e;dsimp only at e;split at e
      ·rename_i hs;obtain⟨a,_,_,rfl,_⟩:=OB I h hx rx rv;exact(SO hs ry).elim
      ·exact v8 e
    ·
      obtain⟨k',l'⟩:=p';rw[hy]at e;dsimp only at e;obtain⟨a,vs,Ll,rfl,rfl,rl,rr,sq,q⟩:=OB I h hx rx rv;obtain⟨a',Na,its',ea,_,Mr,rr',sq',q'⟩:=OB I h hy ry rv
      cases ea
      have hk:k=k':=qz I sq sq';subst hk;have hvs:vs=Na:=by
       rcases k with _|_
       ·exact I.list_inj q q'
       ·exact I.tuple_inj q q'
      subst hvs;rw[if_pos rfl,if_neg (by rw[rl.length,Mr.length];simp)]at e;have hv:∀v∈vs,∃u,J1 v u:=λv hv=>by obtain⟨i,hi⟩:=List.getElem?_of_mem hv;obtain⟨u,_,ru⟩:=rr.get hi;exact⟨u,ru⟩
      exact eqL_same l l' vs b rl Mr (λd d' v b hm r1 r2 ef=>by obtain⟨u,ru⟩:=hv v hm;exact SU I h n r1 r2 ru ef) e
def Sb(rx:d9 c μ H dx x)(ry:d9 c μ H dy y)(rv:J1 x v)(ru:J1 y u)(e:eqS dx dy=some b):
 XD A s v u b/\YN A s v u (!b)/\xk A s v u b:=by
 obtain⟨s1,s2⟩:=CO e;rcases dx with _|i|i|i|_|_|_|_<;>try (cases s1;done)
 ·
   unfold d9 at rx;subst rx;cases rv;rcases dy with _|j|j|j|_|_|_|_<;>try (cases s2;done)
   ·unfold d9 at ry;subst ry;cases ru;cases e;exact⟨SeqAt.RcAt.none_none,SeqAt.RcNeAt.none_none,XH _⟩
   ·unfold d9 at ry;subst ry;cases ru;cases e;exact⟨SeqAt.RcAt.none_bool _,SeqAt.RcNeAt.none_bool _,JJ _⟩
   ·unfold d9 at ry;subst ry;obtain⟨t,rfl⟩:=ru;cases e;exact⟨SeqAt.RcAt.none_int _ _,SeqAt.RcNeAt.none_int _ _,SeqAt.EqAt.none_int _ _⟩
   ·unfold d9 at ry;subst ry;obtain⟨t,rfl⟩:=ru;cases e;exact⟨SeqAt.RcAt.none_str _ _,SeqAt.RcNeAt.none_str _ _,SeqAt.EqAt.none_str _ _⟩
 ·
   unfold d9 at rx;subst rx;cases rv;rcases dy with _|j|j|j|_|_|_|_<;>try (cases s2;done)
   ·unfold d9 at ry;subst ry;cases ru;cases e;exact⟨SeqAt.RcAt.bool_none _,SeqAt.RcNeAt.bool_none _,JK _⟩
   ·unfold d9 at ry;subst ry;cases ru;cases e;exact⟨SeqAt.RcAt.bool_bool _ _,SeqAt.RcNeAt.bool_bool _ _,JL _ _⟩
   ·unfold d9 at ry;subst ry;obtain⟨t,rfl⟩:=ru;cases e;exact⟨SeqAt.RcAt.bool_int _ _ _,SeqAt.RcNeAt.bool_int _ _ _,SeqAt.EqAt.bool_int _ _ _⟩
   ·unfold d9 at ry;subst ry;obtain⟨t,rfl⟩:=ru;cases e;exact⟨SeqAt.RcAt.bool_str _ _ _,SeqAt.RcNeAt.bool_str _ _ _,SeqAt.EqAt.bool_str _ _ _⟩
 ·
   unfold d9 at rx;subst rx;obtain⟨t,rfl⟩:=rv;rcases dy with _|j|j|j|_|_|_|_<;>try (cases s2;done)
   ·unfold d9 at ry;subst ry;cases ru;cases e;exact⟨SeqAt.RcAt.int_none _ _,SeqAt.RcNeAt.int_none _ _,SeqAt.EqAt.int_none _ _⟩
   ·unfold d9 at ry;subst ry;cases ru;cases e;exact⟨SeqAt.RcAt.int_bool _ _ _,SeqAt.RcNeAt.int_bool _ _ _,SeqAt.EqAt.int_bool _ _ _⟩
   ·unfold d9 at ry;subst ry;obtain⟨t,rfl⟩:=ru;cases e;exact⟨SeqAt.RcAt.int_int _ _ _ _,SeqAt.RcNeAt.int_int _ _ _ _,SeqAt.EqAt.int_int _ _ _ _⟩
   ·unfold d9 at ry;subst ry;obtain⟨t,rfl⟩:=ru;cases e;exact⟨SeqAt.RcAt.int_str _ _ _ _,SeqAt.RcNeAt.int_str _ _ _ _,Xi _ _ _ _⟩
 ·
   unfold d9 at rx;subst rx;obtain⟨t,rfl⟩:=rv;rcases dy with _|j|j|j|_|_|_|_<;>try (cases s2;done)
   ·unfold d9 at ry;subst ry;cases ru;cases e;exact⟨SeqAt.RcAt.str_none _ _,SeqAt.RcNeAt.str_none _ _,JY _ _⟩
   ·unfold d9 at ry;subst ry;cases ru;cases e;exact⟨SeqAt.RcAt.str_bool _ _ _,SeqAt.RcNeAt.str_bool _ _ _,JZ _ _ _⟩
   ·unfold d9 at ry;subst ry;obtain⟨t,rfl⟩:=ru;cases e;exact⟨SeqAt.RcAt.str_int _ _ _ _,SeqAt.RcNeAt.str_int _ _ _ _,Xh _ _ _ _⟩
   ·unfold d9 at ry;subst ry;obtain⟨t,rfl⟩:=ru;cases e;exact⟨SeqAt.RcAt.str_str _ _ _ _,SeqAt.RcNeAt.str_str _ _ _ _,SeqAt.EqAt.str_str _ _ _ _⟩
def FS(hu:A.units<xF)(sq:UG s k a Ll)(ry:d9 c μ H dy y)(ru:J1 y u)(hs:S4 dy=true):
 (XD A s (.ref a) u false/\YN A s (.ref a) u true/\xk A s (.ref a) u false)/\(XD A s u (.ref a) false/\YN A s u (.ref a) true/\xk A s u (.ref a) false):=by
 rcases k with _|_
 ·
   rcases dy with _|j|j|j|_|_|_|_<;>try (cases hs;done)
   ·unfold d9 at ry;subst ry;cases ru;exact⟨⟨.list_none sq hu,.list_none sq hu,.list_none sq hu⟩,.none_list sq hu,.none_list sq hu,.none_list sq hu⟩
   ·unfold d9 at ry;subst ry;cases ru;exact⟨⟨.list_bool _ sq hu,.list_bool _ sq hu,.list_bool _ sq hu⟩,.bool_list _ sq hu,.bool_list _ sq hu,.bool_list _ sq hu⟩
   ·unfold d9 at ry;subst ry;obtain⟨t,rfl⟩:=ru;exact⟨⟨.list_int _ _ sq hu,.list_int _ _ sq hu,.list_int _ _ sq hu⟩,.int_list _ _ sq hu,.int_list _ _ sq hu,.int_list _ _ sq hu⟩
   ·unfold d9 at ry;subst ry;obtain⟨t,rfl⟩:=ru;exact⟨⟨.list_str _ _ sq hu,.list_str _ _ sq hu,.list_str _ _ sq hu⟩,.str_list _ _ sq hu,.str_list _ _ sq hu,.str_list _ _ sq hu⟩
 ·
   rcases dy with _|j|j|j|_|_|_|_<;>try (cases hs;done)
   ·unfold d9 at ry;subst ry;cases ru;exact⟨⟨.tuple_none sq hu,.tuple_none sq hu,.tuple_none sq hu⟩,.none_tuple sq hu,.none_tuple sq hu,.none_tuple sq hu⟩
   ·unfold d9 at ry;subst ry;cases ru;exact⟨⟨.tuple_bool _ sq hu,.tuple_bool _ sq hu,.tuple_bool _ sq hu⟩,.bool_tuple _ sq hu,.bool_tuple _ sq hu,.bool_tuple _ sq hu⟩
   ·unfold d9 at ry;subst ry;obtain⟨t,rfl⟩:=ru;exact⟨⟨.tuple_int _ _ sq hu,.tuple_int _ _ sq hu,.tuple_int _ _ sq hu⟩,.int_tuple _ _ sq hu,.int_tuple _ _ sq hu,.int_tuple _ _ sq hu⟩
   ·unfold d9 at ry;subst ry;obtain⟨t,rfl⟩:=ru;exact⟨⟨.tuple_str _ _ sq hu,.tuple_str _ _ sq hu,.tuple_str _ _ sq hu⟩,.str_tuple _ _ sq hu,.str_tuple _ _ sq hu,.str_tuple _ _ sq hu⟩
theorem aG(I:Inv X Li σ H s)(h:v5 (wc X) μ G H):∀n A,A.units+n<xF->∀ {dx dy} {x y:V} {v u} {b:Bool},d9 (wc X) μ H dx x->d9 (wc X) μ H dy y->J1 x v->J1 y u->eqN n G dx dy=some b->
 XD A s v u b/\YN A s v u (!b)/\xk A s v u b
 |0,_,_,_,_,_,_,_,_,_,_,_,_,_,e=>by exact v8 e
 |n+1,A,hu,dx,dy,x,y,v,u,b,rx,ry,rv,ru,e=>by
   have hu0:A.units<xF:=by lia
   have hu1:A.in1.units+n<xF:=by show A.units+1+n<xF;lia
   have e0:=e;rw[P7]at e;rcases hx:W9 G dx with _|p
   ·
     rw[hx]at e;rcases hy:W9 G dy with _|p
     ·rw[hy]at e;exact Sb rx ry rv ru e
     ·
       obtain⟨k,l⟩:=p;rw[hy]at e;dsimp only at e;split at e
       ·rename_i hs
        cases e
        obtain⟨a,vs,Ll,rfl,rfl,_,_,sq,_⟩:=OB I h hy ry ru;exact(FS hu0 sq rx rv hs).2
       ·exact v8 e
   ·
     obtain⟨k,l⟩:=p;rw[hx]at e;obtain⟨a,vs,Ll,rfl,rfl,rl,rr,sq,q⟩:=OB I h hx rx rv;rcases hy:W9 G dy with _|p'
     ·
       rw[hy]at e;dsimp only at e;split at e
       ·rename_i hs
        cases e
        exact(FS hu0 sq ry ru hs).1
       ·exact v8 e
     ·
       obtain⟨k',l'⟩:=p';rw[hy]at e;dsimp only at e;obtain⟨a',Na,its',rfl,rfl,Mr,rr',sq',q'⟩:=OB I h hy ry ru
       -- the two at one place
       have main:XD A s (.ref a) (.ref a') b/\YN A s (.ref a) (.ref a') (!b):=by
        have len1:Ll.toArray.size=l.length:=by rw[zr,<-rr.length,rl.length]
        have len2:its'.toArray.size=l'.length:=by rw[zr,<-rr'.length,Mr.length]
        by_cases hk:k=k'
        ·subst hk;rw[if_pos rfl]at e;by_cases Lr:k=false/\l.length≠l'.length
         ·rw[if_pos Lr]at e
          cases e
          obtain⟨rfl,Mo⟩:=Lr;have hz:(Ll.toArray.size != its'.toArray.size)=true:=by rw[len1,len2];simpa using Mo
          exact⟨SeqAt.RcAt.lists_lengths sq sq' hz hu0,SeqAt.RcNeAt.lists_lengths sq sq' hz hu0⟩
         ·rw[if_neg Lr]at e;have items:∀j (h1:j<Ll.toArray.size) (h2:j<its'.toArray.size),∃e,eqN n G (l.getD j .non) (l'.getD j .non)=some e/\xk A.in1 s Ll.toArray[j] its'.toArray[j] e:=λj h1 h2=>by
           have j1:j<l.length:=by rw[<-len1];exact h1
           have j2:j<l'.length:=by rw[<-len2];exact h2
           have g1:l[j]? =some l[j]:=zD j1;have g2:l'[j]? =some l'[j]:=zD j2;obtain⟨e1,he1⟩:=EL l l' b e j _ _ g1 g2;obtain⟨v1,hv1,r1⟩:=rl.get g1;obtain⟨v2,hv2,r2⟩:=Mr.get g2;obtain⟨u1,hu1',ru1⟩:=rr.get hv1;obtain⟨u2,hu2',ru2⟩:=rr'.get hv2;have w1:Ll.toArray[j]=u1:=by
            have:Ll.toArray[j]? =some u1:=by simpa using hu1'
            rw[zW h1]at this;exact jd this
           have w2:its'.toArray[j]=u2:=by
            have:its'.toArray[j]? =some u2:=by simpa using hu2'
            rw[zW h2]at this;exact jd this
           rw[w1,w2];refine⟨e1,?_,(aG I h n A.in1 hu1 r1 r2 ru1 ru2 he1).2.2⟩;rw[zK,zK,g1,g2];exact he1
          have hr:=tR (e:=λj=>(eqN n G (l.getD j .non) (l'.getD j .non)).getD false) l l' b e λj x y g1 g2=>by obtain⟨e1,he1⟩:=EL l l' b e j x y g1 g2;rw[zK,zK,g1,g2];simp only[Option.getD_some];rw[he1];rfl
          have he:∀j (h1:j<Ll.toArray.size) (h2:j<its'.toArray.size),xk A.in1 s Ll.toArray[j] its'.toArray[j] ((eqN n G (l.getD j .non) (l'.getD j .non)).getD false):=λj h1 h2=>by obtain⟨e1,he1,hh⟩:=items j h1 h2;rw[he1];exact hh
          rcases k with _|_
          ·
            have hl:l.length=l'.length:=jJ λz=>Lr ⟨rfl,z⟩;have hsz:Ll.toArray.size=its'.toArray.size:=by rw[len1,len2,hl]
            have z1:=SeqAt.RcAt.lists sq sq' hsz hu0 he;have z2:=SeqAt.RcNeAt.lists sq sq' hsz hu0 he;have hr2:b= (zP Ll.toArray.size).all λj=>(eqN n G (l.getD j .non) (l'.getD j .non)).getD false:=by rw[hr,len1,hl];simp
            rw[<-hr2]at z1 z2;exact⟨z1,z2⟩
          ·
            have z1:=SeqAt.RcAt.tuples sq sq' hu0 he;have z2:=SeqAt.RcNeAt.tuples sq sq' hu0 he;rw[len1,len2,<-hr]at z1 z2;exact⟨z1,z2⟩
        ·rw[if_neg hk]at e
         cases e
         cases k<;>cases k'<;>first
          |exact absurd rfl hk
          |exact⟨SeqAt.RcAt.list_tuple sq sq' hu0,SeqAt.RcNeAt.list_tuple sq sq' hu0⟩
          |exact⟨SeqAt.RcAt.tuple_list sq sq' hu0,SeqAt.RcNeAt.tuple_list sq sq' hu0⟩
       refine⟨main.1,main.2,?_⟩;by_cases ha:a=a'
       ·subst ha;have:b=true:=SU I h (n+1) rx ry rv e0;rw[this];exact XH _
       ·exact SeqAt.EqAt.of_refs ha main.1
def eqD:D->D->M D:=λx y G=>match eqN 40 G x y with
|some b=>some (.ok (.bl b),G)
|none=>none
def neD:D->D->M D:=λx y G=>match eqN 40 G x y with
|some b=>some (.ok (.bl (!b)),G)
|none=>none
def Gf(hu:X.A.units+64<xF):OpD X Z (jf .Eq) eqD:=⟨by
 intro Li s σ H x y v u Q I rx ry Lo;refine Lo.elim λdx dy μ G Nt Ny hr p=>?_;unfold eqD at p;rcases e:eqN 40 G dx dy with _|b
 ·rw[e]at p;exact p.elim
 ·
   rw[e]at p;exact(aG I hr 40 X.A (by lia) Nt Ny rx ry e).1 X.prog X.w X.xe _ ⟨.bl b,H,I,rfl,d7.ok p hr _ ofB⟩⟩
def kh(hu:X.A.units+64<xF):OpD X Z (jf .NotEq) neD:=⟨by
 intro Li s σ H x y v u Q I rx ry Lo;refine Lo.elim λdx dy μ G Nt Ny hr p=>?_;unfold neD at p;rcases e:eqN 40 G dx dy with _|b
 ·rw[e]at p;exact p.elim
 ·
   rw[e]at p;exact(aG I hr 40 X.A (by lia) Nt Ny rx ry e).2.1 X.prog X.w X.xe _ ⟨.bl (!b),H,I,rfl,d7.ok p hr _ ofB⟩⟩
def leD:D->D->M D:=λx y=>match x,y with
| .int i,.int j=>pure (.bl (decide (i<=j)))
| .str i,.str j=>pure (.bl (!decide (j.cps.toList<i.cps.toList)))
|_,_=>M.stuck
def gtD:D->D->M D:=λx y=>match x,y with
| .int i,.int j=>pure (.bl (decide (j<i)))
| .str i,.str j=>pure (.bl (decide (j.cps.toList<i.cps.toList)))
|_,_=>M.stuck
def geD:D->D->M D:=λx y=>match x,y with
| .int i,.int j=>pure (.bl (decide (j<=i)))
| .str i,.str j=>pure (.bl (!decide (i.cps.toList<j.cps.toList)))
|_,_=>M.stuck
def EM{op:CmpOp}{fi:Int->Int->Bool}{fs:Str->Str->Bool}(hi:OpR X (jf op) (KB λi j=>.bl (fi i j)))
 (hs:∀(i j:Str) (t u:Tok) (s:zA) Q E,Q (.bool (fs i j)) s->zt (zI X.prog X.w) X.A (jf op (.str i t) (.str j u)) Q E s)
 (h1:∀i j,o (.int i) (.int j)=pure (.bl (fi i j))) (h2:∀i j,o (.str i) (.str j)=pure (.bl (fs i j)))
 (h3:∀x y,(∀i j,¬(x= .int i/\y= .int j))->(∀i j,¬(x= .str i/\y= .str j))->o x y=M.stuck):OpD X Z (jf op) o:=⟨by
 intro Li s σ H x y v u Q I rx ry Lo;refine Lo.elim λdx dy μ G Nt Ny hr p=>?_;by_cases c1:∃i j,dx= .int i/\dy= .int j
 ·obtain⟨i,j,rfl,rfl⟩:=c1;rw[h1]at p;exact hi Li s σ H x y v u Q I rx ry ⟨i,j,C2 Nt,C2 Ny,d7.ok p hr _ ofB⟩
 ·by_cases c2:∃i j,dx= .str i/\dy= .str j
  ·obtain⟨i,j,rfl,rfl⟩:=c2;rw[h2]at p;have e1:=P6 Nt;have e2:=P6 Ny;subst e1 e2;obtain⟨t,rfl⟩:=rx;obtain⟨t',rfl⟩:=ry;exact hs i j t t' s _ _ ⟨.bl (fs i j),H,I,rfl,d7.ok p hr _ ofB⟩
  ·rw[h3 dx dy (λi j z=>c1 ⟨i,j,z⟩) (λi j z=>c2 ⟨i,j,z⟩)]at p;exact p.elim⟩
def Hz:OpD X Z (jf .LtE) leD:=EM Hh (λ_ _ _ _ _ _ _ q=>PySem.P.le_str q) (λ_ _=>rfl) (λ_ _=>rfl) λx y n1 n2=>by
 rcases x with _|_|_|_|_|_|_|_<;>rcases y with _|_|_|_|_|_|_|_<;>first
  |rfl
  |exact absurd ⟨rfl,rfl⟩ (n1 _ _)
  |exact absurd ⟨rfl,rfl⟩ (n2 _ _)
def cq:OpD X Z (jf .Gt) gtD:=EM wm (λ_ _ _ _ _ _ _ q=>PySem.P.gt_str q) (λ_ _=>rfl) (λ_ _=>rfl) λx y n1 n2=>by
 rcases x with _|_|_|_|_|_|_|_<;>rcases y with _|_|_|_|_|_|_|_<;>first
  |rfl
  |exact absurd ⟨rfl,rfl⟩ (n1 _ _)
  |exact absurd ⟨rfl,rfl⟩ (n2 _ _)
def Kb:OpD X Z (jf .GtE) geD:=EM px (λ_ _ _ _ _ _ _ q=>PySem.P.ge_str q) (λ_ _=>rfl) (λ_ _=>rfl) λx y n1 n2=>by
 rcases x with _|_|_|_|_|_|_|_<;>rcases y with _|_|_|_|_|_|_|_<;>first
  |rfl
  |exact absurd ⟨rfl,rfl⟩ (n1 _ _)
  |exact absurd ⟨rfl,rfl⟩ (n2 _ _)
def eB:D->Bool
| .non=>true
|_=>false
def LW(r:d9 c μ H d v):decide (v= .non)=eB d:=by
 cases d with
 |non=>rw[VG r];rfl
 |tup l=>unfold d9 at r;obtain⟨a,_,rfl,_⟩:=r;rfl
 |ref l=>unfold d9 at r;obtain⟨a,_,rfl⟩:=r;rfl
 |fn l=>unfold d9 at r;obtain⟨a,_,rfl⟩:=r;rfl
 |_=>unfold d9 at r;subst r;rfl
def L7:D->M D:=λx=>match x with
| .int i=>pure (.int (-i))
|_=>M.stuck
def TX:UnD X Z (unaryOp .USub) L7:=⟨by
 intro Li s σ H x v Q I rx Lo;refine Lo.elim λdx μ G Nt hr p=>?_
 cases dx<;>first
  |exact p.elim
  |exact Dm Li s σ H x v Q I rx ⟨_,C2 Nt,d7.ok p hr _ ofI⟩⟩
instance (x:Str) (n:Int):Decidable (Jg x n):=by unfold Jg;infer_instance
def A5:D->D->M D:=λx y=>match x,y with
| .int i,.int j=>if MA i j then pure (.int (i*j))else M.stuck
| .str x,.int n=>if Jg x n then pure (.str (Txt.mul x n))else M.stuck
|_,_=>M.stuck
def Mc:OpR X (yG .Mult) (λx y H Q=>∃z n,x= .str z/\y= .int n/\Jg z n/\Q (.str (Txt.mul z n)) H):=by intro Li s σ H x y v u Q I rx ry h;obtain⟨z,n,rfl,rfl,hk,q⟩:=h;obtain⟨t,rfl⟩:=rx;obtain⟨t',rfl⟩:=ry;exact PySem.SB.mul hk λt' k=>⟨.str _,H,I.tok _,⟨_,rfl⟩,q⟩
def Nh:OpD X Z (yG .Mult) A5:=
 OpD.of (OpR.or aZ Mc) λx y H Q Lo=>Lo.elim λdx dy μ G Nt Ny hr p=>by
  rcases dx with _|_|_|_|_|_|_|_<;>rcases dy with _|_|_|_|_|_|_|_<;>first
   |exact p.elim
   |skip
  ·unfold A5 at p;dsimp only at p;split at p
   ·rename_i hc;exact .inl ⟨_,_,C2 Nt,C2 Ny,hc,d7.ok p hr _ ofI⟩
   ·exact p.elim
  ·unfold A5 at p;dsimp only at p;split at p
   ·rename_i hc;exact .inr ⟨_,_,P6 Nt,C2 Ny,hc,d7.ok p hr _ ofS⟩
   ·exact p.elim
end
def aN(A:js)(s:zA)(y x:zm)(b:Bool):Prop:=
 ∀(prog:zU) (w:jg) (E:VSP) (Q:VSP),Q (.bool b) s->zt (zI prog w) A (richCompare .Lt y x) Q E s
inductive LtR(A:js)(s:zA):List zm->List zm->Bool->Prop
|nil:LtR A s [] [] false
|nilc {y ys}:LtR A s [] (y::ys) true
|cnil {x xs}:LtR A s (x::xs) [] false
|eq {x y xs ys b}:xk A s x y true->LtR A s xs ys b->LtR A s (x::xs) (y::ys) b
|ne {x y xs ys b}:xk A s x y false->aN A s x y b->LtR A s (x::xs) (y::ys) b
section
open PySem.SeqAt
open PySem.AutoSeq1 (wpAny_loadPart')
open PySem.MeetsSeq PySem.MeetsSeq2 PySem.MeetsSeq3
def Qm(l b:Addr)(items Ls:Array zm)(n n2:Nat)(dd dd2:Option Addr)(sl sl2:Array (Option zm))(k:Bool):
 Meets (yC.«tuple.__lt__» ⟨[.ref l,.ref b], []⟩)
  (λA R s=>s.heap.get? l=some {cls:=.type "tuple",dict:=dd,data:=.seq items n,slots:=sl}/\s.heap.get? b=some {cls:=.type "tuple",dict:=dd2,data:=.seq Ls n2,slots:=sl2}/\
    LtR A.in1 s items.toList Ls.toList k/\R (.ok (.ret (.bool k))) s):=
 .of_wp λprog w A R s h=>by
  obtain⟨hp,g,d,tk,os⟩:=s;obtain⟨hl,hb,hk,h⟩:=h;have f2:=AutoSeq1.sub_tuple_tuple
  wp_walk using jI hl,jI hb,JU _ (λrest b s'=>b.1=none/\s'= ⟨hp,g,d,tk,os⟩/\∃(vs ws:List zm),rest=vs.zip ws/\
   vs.length+Ls.size=ws.length+items.size/\LtR A.in1 ⟨hp,g,d,tk,os⟩ vs ws k) _
  case turn=>
   rintro⟨y,x⟩ rest b s' ⟨Oe,rfl,vs,ws,hz,Lr,hR⟩
   cases hR with
   |nil=>exact lG hz
   |nilc=>exact lG hz
   |cnil=>exact lG hz
   |eq he hR'=>
     rw[yH]at hz;injection hz with hyx hrest;injection hyx with hy hx;subst hy hx;refine za (he prog w _ _ ?_)
     wp_walk
     simp only[zM]at Lr;exact⟨rfl,rfl,_,_,hrest,by lia,hR'⟩
   |ne he hc=>
     rw[yH]at hz;injection hz with hyx hrest;injection hyx with hy hx;subst hy hx;refine za (he prog w _ _ ?_);have hri:=hc prog w
     wp_walk using hri
     exact⟨_,rfl,h⟩
  case fin=>
   rintro⟨b1,b2⟩ s' ⟨Oe,rfl,vs,ws,hz,Lr,hR⟩;simp only at Oe;subst Oe;have hv:k=decide (items.size<Ls.size):=by
    cases hR with
    |nil=>simp only[yE]at Lr;exact(decide_eq_false (by lia)).symm
    |nilc=>simp only[yE,zM]at Lr;exact(decide_eq_true (by lia)).symm
    |cnil=>simp only[yE,zM]at Lr;exact(decide_eq_false (by lia)).symm
    |eq _ _=>rw[yH]at hz;exact WD hz
    |ne _ _=>rw[yH]at hz;exact WD hz
   rw[hv]at h
   wp_walk
   exact⟨_,rfl,by simpa [Builtin.Tuple.tupleCompareSizes]using h⟩
  case h=>
   exact⟨rfl,rfl,items.toList,Ls.toList,rfl,by simp;lia,hk⟩
def kw(l b:Addr)(items Ls:Array zm)(n n2:Nat)(dd dd2:Option Addr)(sl sl2:Array (Option zm))(k:Bool):∀vs ws i,items.toList.drop i=vs->Ls.toList.drop i=ws->i<=items.size->i<=Ls.size->
 Meets (yC.«list.__eq__.loop» ⟨[.ref l,.ref b,yA i,yA 0], []⟩)
  (λA R s=>s.heap.get? l=some {cls:=.type "list",dict:=dd,data:=.seq items n,slots:=sl}/\s.heap.get? b=some {cls:=.type "list",dict:=dd2,data:=.seq Ls n2,slots:=sl2}/\
    LtR A.in1 s vs ws k/\R (.ok (.ret (.bool k))) s):=by
 have dropn:∀(a:Array zm) (i:Nat),a.toList.drop i= []->i<=a.size->i=a.size:=λa i e hi=>by have:=List.drop_eq_nil_iff.mp e;simp at this;lia
 have dropc:∀(a:Array zm) (i:Nat) (v:zm) (r:List zm),a.toList.drop i=v::r->i<a.size/\a[((i:Nat):Int).toNat]? =some v/\a.toList.drop (i+1)=r:=λa i v r e=>by
  have Lu:i<a.toList.length:=by
   rcases Ye i a.toList.length with q|q
   ·exact q
   ·rw[List.drop_eq_nil_of_le q]at e;exact WD e
  rw[Yp Lu]at e;injection e with e1 e2;refine⟨by simpa using Lu,?_,e2⟩;simp at Lu;simp[Lu];simpa using e1
 intro vs
 induction vs with
 |nil=>
   intro ws i hv hw hi hi2 prog w A R s h;obtain⟨hp,g,d,tk,os⟩:=s;obtain⟨hl,hb,he,h⟩:=h;have e1:=dropn items i hv hi
   wp_walk using jI hl,jI hb
   have hi1:items[((i:Nat):Int).toNat]? =none:=by simp;lia
   rw[hi1];rcases ws with _|⟨y,ys⟩
   ·
     have e2:=dropn Ls i hw hi2
     cases he
     wp_walk using jI hl,jI hb
     show R (.ok (.ret (.bool (decide (items.size<Ls.size))))) _;rw[decide_eq_false (by lia)];exact h
   ·
     obtain⟨Lu,_,_⟩:=dropc Ls i y ys hw
     cases he
     wp_walk using jI hl,jI hb
     show R (.ok (.ret (.bool (decide (items.size<Ls.size))))) _;rw[decide_eq_true (by lia)];exact h
 |cons x xs ih=>
   intro ws i hv hw hi hi2 prog w A R s h;obtain⟨hp,g,d,tk,os⟩:=s;obtain⟨hl,hb,he,h⟩:=h;obtain⟨Lu,g1,d1⟩:=dropc items i x xs hv
   wp_walk using jI hl,jI hb
   rcases ws with _|⟨y,ys⟩
   ·
     have e2:=dropn Ls i hw hi2;have hi2':Ls[((i:Nat):Int).toNat]? =none:=by simp;lia
     rw[g1,hi2']
     cases he
     wp_walk using jI hl,jI hb
     show R (.ok (.ret (.bool (decide (items.size<Ls.size))))) _;rw[decide_eq_false (by lia)];exact h
   ·
     obtain⟨hlt2,g2,d2⟩:=dropc Ls i y ys hw;have hc:((i:Int)+1)= ((i+1:Nat):Int):=by push_cast;rfl
     rw[g1,g2]
     cases he with
     |eq he he'=>
       refine za (he prog w _ _ ?_)
       wp_walk
       rw[hc];exact⟨xc plain_eq_loop _,ym entry_eq_loop (by rw[jM plain_eq_loop _];exact ih ys (i+1) d1 d2 (by lia) (by lia) prog w A R _ ⟨hl,hb,he',h⟩)⟩
     |ne he hcmp=>
       refine za (he prog w _ _ ?_);have hri:=hcmp prog w
       wp_walk using jI hl,jI hb
       rw[g1,g2]
       wp_walk using hri
       exact h
def Co(l b:Addr)(items Ls:Array zm)(n n2:Nat)(dd dd2:Option Addr)(sl sl2:Array (Option zm))(k:Bool):
 Meets (yC.«list.__lt__» ⟨[.ref l,.ref b], []⟩)
  (λA R s=>s.heap.get? l=some {cls:=.type "list",dict:=dd,data:=.seq items n,slots:=sl}/\s.heap.get? b=some {cls:=.type "list",dict:=dd2,data:=.seq Ls n2,slots:=sl2}/\
    LtR A.in1 s items.toList Ls.toList k/\R (.ok (.ret (.bool k))) s):=by
 intro prog w A R s h;obtain⟨hp,g,d,tk,os⟩:=s;obtain⟨hl,hb,he,h⟩:=h;have f3:=AutoSeq1.sub_list_list
 wp_walk using jI hl,jI hb
 exact⟨xc plain_eq_loop _,ym entry_eq_loop (by rw[jM plain_eq_loop _];exact kw l b items Ls n n2 dd dd2 sl sl2 k items.toList Ls.toList 0 rfl rfl (zO _) (zO _) prog w A R _ ⟨hl,hb,he,h⟩)⟩
end
def ltS:D->D->Option Bool
| .int a,.int b=>some (decide (a<b))
| .str a,.str b=>some (decide (a.cps.toList<b.cps.toList))
| .bl a,.bl b=>some (decide (b2i a<b2i b))
|_,_=>none
def ltL(eq lt:D->D->Option Bool):List D->List D->Option Bool
|[], []=>some false
|[],_::_=>some true
|_::_, []=>some false
|x::xs,y::ys=>match eq x y with
  |some true=>ltL eq lt xs ys
  |some false=>lt x y
  |none=>none
def ltN:Nat->DH->D->D->Option Bool
|0,_,_,_=>none
|n+1,G,x,y=>match W9 G x,W9 G y with
  |some (k1,a),some (k2,b)=>if k1=k2 then ltL (eqN n G) (ltN n G) a b else none
  |none,none=>ltS x y
  |_,_=>none
def Px:ltN (n+1) G x y=match W9 G x,W9 G y with
|some (k1,a),some (k2,b)=>if k1=k2 then ltL (eqN n G) (ltN n G) a b else none
|none,none=>ltS x y
|_,_=>none:=rfl
section
def Th(rx:d9 c μ H dx x)(ry:d9 c μ H dy y)(rv:J1 x v)(ru:J1 y u)(e:ltS dx dy=some b):aN A s v u b:=by
 intro prog w E Q hq;rcases dx with _|_|_|_|_|_|_|_<;>rcases dy with _|_|_|_|_|_|_|_<;>first
  |(cases e;done)
  |skip
 ·cases e
  unfold d9 at rx ry;subst rx ry;cases rv;cases ru;exact(lt_bool hq:zt (zI prog w) A (jf .Lt _ _) Q E s)
 ·cases e
  unfold d9 at rx ry;subst rx ry;obtain⟨t,rfl⟩:=rv;obtain⟨t',rfl⟩:=ru;exact(lt_int hq:zt (zI prog w) A (jf .Lt _ _) Q E s)
 ·cases e
  unfold d9 at rx ry;subst rx ry;obtain⟨t,rfl⟩:=rv;obtain⟨t',rfl⟩:=ru;exact(lt_str hq:zt (zI prog w) A (jf .Lt _ _) Q E s)
theorem aX(I:Inv X Li σ H s)(h:v5 (wc X) μ G H):∀n A,A.units+n<xF->∀ {dx dy} {x y} {v u} {b},d9 (wc X) μ H dx x->d9 (wc X) μ H dy y->J1 x v->J1 y u->ltN n G dx dy=some b->aN A s v u b
|0,_,_,_,_,_,_,_,_,_,_,_,_,_,e=>by exact v8 e
|n+1,A,hu,dx,dy,x,y,v,u,b,rx,ry,rv,ru,e=>by
  have hu0:A.units<xF:=by lia
  have hu1:A.in1.units+n<xF:=by show A.units+1+n<xF;lia
  rw[Px]at e;rcases hx:W9 G dx with _|p
  ·
    rw[hx]at e;rcases hy:W9 G dy with _|p
    ·rw[hy]at e;exact Th rx ry rv ru e
    ·rw[hy]at e;exact v8 e
  ·
    obtain⟨k,l⟩:=p;rw[hx]at e;rcases hy:W9 G dy with _|p'
    ·rw[hy]at e;exact v8 e
    ·
      obtain⟨k',l'⟩:=p';rw[hy]at e;dsimp only at e;split at e
      case isFalse=>exact v8 e
      rename_i hk;subst hk;obtain⟨a,vs,Ll,rfl,rfl,rl,rr,sq,q⟩:=OB I h hx rx rv;obtain⟨a',Na,its',rfl,rfl,Mr,rr',sq',q'⟩:=OB I h hy ry ru;have main:∀(l l':List D) (vs Na:List V) (Ll its':List zm),u0 (wc X) μ H l vs->u0 (wc X) μ H l' Na->u6 vs Ll->u6 Na its'->ltL (eqN n G) (ltN n G) l l'=some b->LtR A.in1 s Ll its' b:=by
       intro l
       induction l with
       |nil=>
         intro l' vs Na Ll its' r r' q q' e
         cases r;cases q
         rcases l' with _|⟨_,_⟩
         ·cases r';cases q';cases e;exact .nil
         ·
           obtain⟨_,_,rfl,_,_⟩:=r'
           cases q'
           cases e
           exact .nilc
       |cons d ds ih=>
         intro l' vs Na Ll its' r r' q q' e;obtain⟨v0,vr,rfl,r0,rt⟩:=r
         cases q with
         |cons q0 qt=>
           rcases l' with _|⟨d',ds'⟩
           ·cases r';cases q';cases e;exact .cnil
           ·
             obtain⟨v1,vr',rfl,r1,rt'⟩:=r'
             cases q' with
             |cons q1 qt'=>
               unfold ltL at e;rcases he:eqN n G d d' with _|b0
               ·rw[he]at e;exact v8 e
               ·
                 rw[he]at e;have hE:=(aG I h n A.in1 hu1 r0 r1 q0 q1 he).2.2;rcases b0 with _|_
                 ·exact .ne hE (aX I h n A.in1 hu1 r0 r1 q0 q1 e)
                 ·exact .eq hE (ih ds' vr vr' _ _ rt rt' qt qt' e)
      have hR:=main l l' vs Na Ll its' rl Mr rr rr' e;intro prog w E Q hq;rcases k with _|_
      ·
        obtain⟨⟨cls,dd,data,sl⟩,ho,hc,m,hd⟩:=id sq;obtain⟨⟨cls2,dd2,data2,sl2⟩,Nl,hc2,m2,hd2⟩:=id sq';simp only at hc hd hc2 hd2;subst hc hd hc2 hd2;exact richCompare_meets_room ⟨_,ho,rfl⟩ ⟨_,Nl,rfl⟩ PySem.F.slot_list_lt PySem.F.entry_list_lt (PySem.F.args_list_lt_2 _ _) (Co a a' Ll.toArray its'.toArray m m2 dd dd2 sl sl2 b)
         ⟨ho,Nl,hR,show Value.bool b≠Value.notImplemented/\Q (.bool b) s from⟨(λx=>nomatch x),hq⟩⟩ hu0
      ·
        obtain⟨⟨cls,dd,data,sl⟩,ho,hc,m,hd⟩:=id sq;obtain⟨⟨cls2,dd2,data2,sl2⟩,Nl,hc2,m2,hd2⟩:=id sq';simp only at hc hd hc2 hd2;subst hc hd hc2 hd2;exact richCompare_meets_room ⟨_,ho,rfl⟩ ⟨_,Nl,rfl⟩ PySem.F.slot_tuple_lt PySem.F.entry_tuple_lt (PySem.F.args_tuple_lt_2 _ _) (Qm a a' Ll.toArray its'.toArray m m2 dd dd2 sl sl2 b)
         ⟨ho,Nl,hR,show Value.bool b≠Value.notImplemented/\Q (.bool b) s from⟨(λx=>nomatch x),hq⟩⟩ hu0
def ltD:D->D->M D:=λx y G=>match ltN 40 G x y with
|some b=>some (.ok (.bl b),G)
|none=>none
def UY(hu:X.A.units+64<xF):OpD X Z (jf .Lt) ltD:=⟨by
 intro Li s σ H x y v u Q I rx ry Lo;refine Lo.elim λdx dy μ G Nt Ny hr p=>?_;unfold ltD at p;rcases e:ltN 40 G dx dy with _|b
 ·rw[e]at p;exact p.elim
 ·
   rw[e]at p;exact aX I hr 40 X.A (by lia) Nt Ny rx ry e X.prog X.w X.xe _ ⟨.bl b,H,I,rfl,d7.ok p hr _ ofB⟩⟩
end
def WA:D->Bool
| .non=>true
| .bl _=>true
| .int _=>true
| .str _=>true
|_=>false
def toV:D->V
| .bl b=>.bl b
| .int i=>.int i
| .str x=>.str x
|_=>.non
def iE:D->Option Key
| .int i=>some (.inl i)
| .str x=>some (.inr x)
|_=>none
def l8(l:List (Key×D))(k:Key):Option D:=(l.find? λkv=>decide (kv.1=k)).map (·.2)
def inB(x y:D)(G:DH):Option Bool:=match y with
| .str j=>match x with
  | .str i=>some (!(Yd j i 0 j.length 1).isEmpty)
  |_=>none
| .ref r=>match G[r]? with
  |some (.dct l)=>(iE x).map λk=>(l8 l k).isSome
  |some (.rod _)=>none
  |some (.lst l)=>if WA x&&l.all WA then some (inV (toV x) (l.map toV))else none
  |some (.rol l)=>if WA x&&l.all WA then some (inV (toV x) (l.map toV))else none
  |none=>none
| .tup l=>if WA x&&l.all WA then some (inV (toV x) (l.map toV))else none
|_=>none
def inD:D->D->M D:=λx y G=>match inB x y G with
|some b=>some (.ok (.bl b),G)
|none=>none
section
def GQ(f:WA d=true)(r:d9 c μ H d v):v=toV d/\FA v=true:=by
 cases d<;>first
  |exact absurd (show false=true from f) zZ
  |(unfold d9 at r;subst r;exact⟨rfl,rfl⟩)
theorem eR:∀ {l} {vs},l.all WA=true->u0 c μ H l vs->vs=l.map toV/\vs.all FA=true
|[],_,_,r=>by cases r;exact⟨rfl,rfl⟩
|d::ds,_,f,r=>by obtain⟨v,t,rfl,q,rt⟩:=r;rw[jm,zy]at f;obtain⟨e1,e2⟩:=GQ f.1 q;obtain⟨e3,e4⟩:=eR f.2 rt;refine⟨by rw[zT,<-e1,<-e3],?_⟩;rw[jm,e2,e4];rfl
def UV(e:iE d=some k)(r:d9 c μ H d v):v=kV k:=by
 cases d<;>first
  |(cases e;unfold d9 at r;exact r)
  |exact v8 e
theorem nL:∀ {l} {Ln},u3 c μ H l Ln->match l8 l k with|some d=>∃v,A7 Ln k=some v/\d9 c μ H d v|none=>A7 Ln k=none
|[],_,r=>by cases r;exact rfl
|(k',d)::t,_,r=>by
 obtain⟨v,kt,rfl,q,rt⟩:=r;by_cases e:k'=k
 ·have h1:l8 ((k',d)::t) k=some d:=by unfold l8;simp[e]
  rw[h1];exact⟨v,NH e,q⟩
 ·have h1:l8 ((k',d)::t) k=l8 t k:=by unfold l8;simp[e]
  rw[h1];have ih:=nL (k:=k) rt;rw[CI e];exact ih
def Vm(r:u3 c μ H l Ln):(l8 l k).isSome= (A7 Ln k).isSome:=by
 have q:=nL (k:=k) r;rcases e:l8 l k with _|d
 ·rw[e]at q;rw[q];rfl
 ·rw[e]at q;obtain⟨v,q,_⟩:=q;rw[q];rfl
def OZ(hu:X.A.units+64<xF)(I:Inv X Li σ H s)(hr:v5 (wc X) μ G H)(Nt:d9 (wc X) μ H dx x)(Ny:d9 (wc X) μ H dy y)(rx:J1 x v)(ry:J1 y u)
 (e:inB dx dy G=some b):
 (Q (.bl b) H->zt (zI X.prog X.w) X.A (jf .In v u) (EP X Li σ Q) X.xe s)/\(Q (.bl (!b)) H->zt (zI X.prog X.w) X.A (jf .NotIn v u) (EP X Li σ Q) X.xe s):=by
 have seq:∀(p:Addr) (l:List D) (vs:List V),y= .ref p->(SqL X.K H p vs\/SqT X.K H p vs)->u0 (wc X) μ H l vs->(if (WA dx&&l.all WA)=true then some (inV (toV dx) (l.map toV))else none)=some b->
  (Q (.bl b) H->zt (zI X.prog X.w) X.A (jf .In v u) (EP X Li σ Q) X.xe s)/\(Q (.bl (!b)) H->zt (zI X.prog X.w) X.A (jf .NotIn v u) (EP X Li σ Q) X.xe s):=by
  intro p l vs hy hq rl e;split at e
  ·rename_i hf;rw[zy]at hf
   cases e
   obtain⟨e1,e2⟩:=GQ hf.1 Nt;obtain⟨e3,e4⟩:=eR hf.2 rl;rw[<-e1,<-e3];exact⟨λq=>vX Li s σ H x y v u Q I rx ry ⟨p,vs,hy,hq,e2,e4,q⟩,λq=>Sm Li s σ H x y v u Q I rx ry ⟨p,vs,hy,hq,e2,e4,q⟩⟩
  ·exact v8 e
 rcases dy with _|_|_|j|l|i|_|_<;>try (cases e;done)
 ·
   rcases dx with _|_|_|i|_|_|_|_<;>try (cases e;done)
   ·
     cases e
     have e1:=P6 Nt;have e2:=P6 Ny;exact⟨λq=>LY Li s σ H x y v u Q I rx ry ⟨i,j,e1,e2,q⟩,λq=>qf Li s σ H x y v u Q I rx ry ⟨i,j,e1,e2,q⟩⟩
 ·
   unfold d9 at Ny;obtain⟨a,vs,hy,q,rl⟩:=Ny;exact seq a l vs hy (.inr q) rl e
 ·
   unfold d9 at Ny;obtain⟨a,m,hy⟩:=Ny;rcases g:G[i]? with _|o
   ·unfold inB at e;simp only[g]at e;exact v8 e
   ·
     have ro:=hr.obj i o a g m;rcases o with l|l|l|l
     ·
       obtain⟨vs,q,rl⟩:=ro;unfold inB at e;simp only[g]at e;exact seq a l vs hy (.inl (SqL.of q)) rl e
     ·
       obtain⟨vs,q,rl⟩:=ro;unfold inB at e;simp only[g]at e;exact seq a l vs hy (.inl q.sq) rl e
     ·
       obtain⟨Ln,q,rk⟩:=ro;unfold inB at e;simp only[g]at e;rcases hk:iE dx with _|k
       ·rw[hk]at e;exact v8 e
       ·
         rw[hk]at e
         cases e
         have ek:=UV hk Nt;have dg:pF H a x (A7 Ln k):=by rw[ek];exact pF.k q
         subst hy
         cases ry
         dsimp only;rw[Vm rk];exact⟨λq=>vY (by lia) I dg rx λs' I'=>⟨.bl _,H,I',rfl,q⟩,λq=>Gb (by lia) I dg rx λs' I'=>⟨.bl _,H,I',rfl,q⟩⟩
     ·unfold inB at e;simp only[g]at e;exact v8 e
def qg(hu:X.A.units+64<xF):OpD X Z (jf .In) inD:=⟨by
 intro Li s σ H x y v u Q I rx ry Lo;refine Lo.elim λdx dy μ G Nt Ny hr p=>?_;unfold inD at p;rcases e:inB dx dy G with _|b
 ·rw[e]at p;exact p.elim
 ·rw[e]at p;exact(OZ hu I hr Nt Ny rx ry e).1 (d7.ok p hr _ ofB)⟩
inductive Ty where
 |int|bool|str|tuple|list|dict
 deriving DecidableEq
def Ty.name:Ty->String
| .int=> "int"| .bool=> "bool"| .str=> "str"| .tuple=> "tuple"| .list=> "list"| .dict=> "dict"
def Ty.of(n:String):Option Ty:=if n= "int" then some .int else if n= "bool" then some .bool else if n= "str" then some .str else if n= "tuple" then some .tuple else if n= "list" then some .list else if n= "dict" then some .dict else none
def Ty.of_name{n:String}{T:Ty}(h:Ty.of n=some T):n=T.name:=by
 unfold Ty.of at h;split at h
 ·rename_i e;cases h;exact e
 split at h
 ·rename_i e;cases h;exact e
 split at h
 ·rename_i e;cases h;exact e
 split at h
 ·rename_i e;cases h;exact e
 split at h
 ·rename_i e;cases h;exact e
 split at h
 ·rename_i e;cases h;exact e
 ·exact v8 h
inductive Kd where
|non|bool|int|str|tuple|list|dict
def Kd.is:Kd->Ty->Bool
| .bool,.int=>true
| .bool,.bool=>true
| .int,.int=>true
| .str,.str=>true
| .tuple,.tuple=>true
| .list,.list=>true
| .dict,.dict=>true
|_,_=>false
def Kd.name:Kd->String
| .non=> "NoneType"| .bool=> "bool"| .int=> "int"| .str=> "str"| .tuple=> "tuple"| .list=> "list"| .dict=> "dict"
def D5(G:DH):D->Option Kd
| .non=>some .non
| .bl _=>some .bool
| .int _=>some .int
| .str _=>some .str
| .tup _=>some .tuple
| .ref i=>match G[i]? with
  |some (.lst _)=>some .list
  |some (.rol _)=>some .list
  |some (.dct _)=>some .dict
  |some (.rod _)=>some .dict
  |none=>none
|_=>none
def cF:List D->Option (List Ty)
|[]=>some []
| .ty n::r=>match Ty.of n,cF r with
  |some T,some Ts=>some (T::Ts)
  |_,_=>none
|_=>none
def v4:List D->M D:=λds G=>match ds with
|[d,.ty n]=>match D5 G d,Ty.of n with
  |some k,some T=>some (.ok (.bl (k.is T)),G)
  |_,_=>none
|[d,.tup l]=>match D5 G d,cF l with
  |some k,some Ts=>some (.ok (.bl (Ts.any k.is)),G)
  |_,_=>none
|_=>none
def Az(K:zo)(k:Kd)(T:Ty):PySem.W.kitOne K (.type k.name) (.type T.name)=some (k.is T):=by
 cases k<;>cases T<;>rfl
def RU{A:js}{E:VSP}{Li:PNS}{σ:St}{s:zA}{d:D}{x:V}{v:zm}{k:Kd}(I:Inv X Li σ H s)(hr:v5 (wc X) μ G H)(r:d9 (wc X) μ H d x)(rv:J1 x v)(e:D5 G d=some k):
 ∃HH:Heap->Prop,PySem.W.KitX X.K v (.type k.name) HH/\HH s.heap/\v≠ .builtin "__main__.__loader__#opaque":=by
 rcases d with _|b|b|b|l|i|_|_<;>try (cases e;done)
 ·cases e;unfold d9 at r;subst r;cases rv;exact⟨_,PySem.W.kitx_none,True.intro,λz=>nomatch z⟩
 ·cases e;unfold d9 at r;subst r;cases rv;exact⟨_,PySem.W.kitx_bool,True.intro,λz=>nomatch z⟩
 ·cases e;unfold d9 at r;subst r;obtain⟨t,rfl⟩:=rv;exact⟨_,PySem.W.kitx_int,True.intro,λz=>nomatch z⟩
 ·cases e;unfold d9 at r;subst r;obtain⟨t,rfl⟩:=rv;exact⟨_,PySem.W.kitx_str,True.intro,λz=>nomatch z⟩
 ·
   cases e
   unfold d9 at r;obtain⟨a,vs,rfl,q,_⟩:=r
   cases rv
   obtain⟨Ll,_,⟨o,h1,h2,_⟩,_⟩:=I.tuple q;exact⟨_,PySem.W.kitx_tuple,⟨o,h1,h2⟩,λz=>nomatch z⟩
 ·
   unfold d9 at r;obtain⟨a,m,rfl⟩:=r
   cases rv
   unfold D5 at e;rcases g:G[i]? with _|o
   ·simp only[g]at e;exact v8 e
   ·
     have ro:=hr.obj i o a g m;simp only[g]at e;rcases o with l|l|l|l
     ·
       cases e
       obtain⟨vs,q,_⟩:=ro;obtain⟨Ll,_,⟨o,n,h1,h2,_⟩,_⟩:=I.list (SqL.of q);exact⟨_,PySem.W.kitx_list,⟨o,h1,h2⟩,λz=>nomatch z⟩
     ·
       cases e
       obtain⟨vs,q,_⟩:=ro;obtain⟨Ll,_,⟨o,n,h1,h2,_⟩,_⟩:=I.list q.sq;exact⟨_,PySem.W.kitx_list,⟨o,h1,h2⟩,λz=>nomatch z⟩
     ·
       cases e
       obtain⟨Ln,q,_⟩:=ro;obtain⟨_,_,vs,_,o,es,ep,h1,h2,_⟩:=(show T9 X.prog X.w H s.heap a (.dK Ln)from I.hok a _ q);exact⟨_,PySem.W.kitx_dict,⟨o,h1,h2.1⟩,λz=>nomatch z⟩
     ·
       cases e
       obtain⟨Ln,ob,q,_⟩:=ro;obtain⟨_,_,_,vs,_,o,es,ep,h1,h2,_⟩:=(show T9 X.prog X.w H s.heap a (.frz ob (.dK Ln))from I.hok a _ q);exact⟨_,PySem.W.kitx_dict,⟨o,h1,h2.1⟩,λz=>nomatch z⟩
theorem fS:∀ {l:List D} {vs:List V} {us:List zm} {Ts:List Ty},cF l=some Ts->u0 c μ H l vs->u6 vs us->us=Ts.map λT=>.type T.name
|[],_,_,_,e,r,q=>by cases e;cases r;cases q;rfl
|d::ds,_,_,Ts,e,r,q=>by
  obtain⟨v,t,rfl,r0,rt⟩:=r
  cases q with
  |cons q0 qt=>
    rcases d with _|_|_|_|_|_|_|n<;>try (cases e;done)
    ·
      replace e:(match Ty.of n,cF ds with|some T,some Ts=>some (T::Ts)|_,_=>none)=some Ts:=e;rcases h1:Ty.of n with _|T
      ·rw[h1]at e;exact v8 e
      ·
        rcases h2:cF ds with _|Ts'
        ·rw[h1,h2]at e;exact v8 e
        ·
          rw[h1,h2]at e
          cases e
          unfold d9 at r0;subst r0;rw[fS h2 rt qt,zT,show _=Value.type n from q0,Ty.of_name h1]
theorem nS(K:zo)(k:Kd):∀Ts:List Ty,PySem.W.kitAny K (.type k.name) (Ts.map λT=>.type T.name)=some (Ts.any k.is)
|[]=>rfl
|T::Ts=>by
  have ih:=nS K k Ts
  cases k<;>cases T<;>first
   |rfl
   |exact ih
def Gh:W8 X Z (.builtin "isinstance") v4:=⟨by
 intro Li s σ H xs us Q I r Lo;obtain⟨ds,μ,G,rl,hr,p⟩:=Lo;rcases ds with _|⟨d,_|⟨_|_|_|_|l|_|_|n,_|⟨_,_⟩⟩⟩<;>try exact p.elim
 all_goals (delta v4 at p;dsimp only at p)
 ·obtain⟨v,t,rfl,r0,v1,t1,rfl,r1,e⟩:=rl
  cases e
  obtain⟨u,u',rfl,ru,ru'⟩:=lF r;unfold d9 at r1;obtain⟨a,vs,rfl,q,rll⟩:=r1
  cases ru'
  rcases hk:D5 G d with _|k
  ·rw[hk]at p;exact p.elim
  ·
    rcases hT:cF l with _|Ts
    ·rw[hk,hT]at p;exact p.elim
    ·
      rw[hk,hT]at p;obtain⟨HH,kx,hh,Mo⟩:=RU (A:=X.A) (E:=X.xe) I hr r0 ru hk;obtain⟨Ll,rr,⟨⟨cls,dd,data,sl⟩,h1,h2,n,h3⟩,_⟩:=I.tuple q;simp only at h2 h3;subst h2 h3;exact PySem.W.kia_tup kx I.kIn hh h1 (by rw[fS hT rll rr];exact nS X.K k Ts) Mo λtk=>⟨.bl _,H,I.tok tk,rfl,d7.ok p hr _ ofB⟩
 ·obtain⟨v,t,rfl,r0,v1,t1,rfl,r1,e⟩:=rl
  cases e
  obtain⟨u,u',rfl,ru,ru'⟩:=lF r;unfold d9 at r1;subst r1
  cases ru'
  rcases hk:D5 G d with _|k
  ·rw[hk]at p;exact p.elim
  ·
    rcases hT:Ty.of n with _|T
    ·rw[hk,hT]at p;exact p.elim
    ·
      rw[hk,hT]at p;rw[Ty.of_name hT];obtain⟨HH,kx,hh,Mo⟩:=RU (A:=X.A) (E:=X.xe) I hr r0 ru hk;exact PySem.W.kia_one kx I.kIn hh (Az X.K k T) Mo λtk=>⟨.bl _,H,I.tok tk,rfl,d7.ok p hr _ ofB⟩⟩
end
def wO{c:Wc}{μ:List Addr}{H:Hp}{l:List D}{vs:List V}{i:Int}{d:D}(r:u0 c μ H l vs)(e:atI l i=some d):∃v,atI vs i=some v/\d9 c μ H d v:=by
 unfold atI at e ⊢;rw[<-r.length]
 cases h:ixN l.length i with
 |none=>rw[h]at e;cases e
 |some j=>
   rw[h]at e;obtain⟨v,h1,h2⟩:=r.get e;exact⟨v,h1,h2⟩
def ixD:D->D->M D:=λx y=>match x,y with
| .tup l,.int i=>D3 (atI l i)
| .str z,.int i=>if z.length<=zj then do
   let c <-D3 (atI z.cps.toList i)
   pure (.str ⟨#[c]⟩)
  else M.stuck
| .ref r,.int i=>do
  let l <-O4 r >>= listOf
  D3 (atI l i)
|_,_=>M.stuck
section
variable{X:Cx}{Z:XC}{a b e:Expr}{fa fb:Fe}{pos:Pos}
def IxD(X:Cx)(Z:XC)(o:D->D->M D):Prop:=IxR X (oE (wc X) Z o)
def sW{o:D->D->M D}(ho:IxD X Z o)(ha:DE X Z a fa)(hb:DE X Z b fb)(hs:lJ b):DE X Z (.Subscript a b pos) (m9 o fa fb):=DE.of (Im ho ha.h hb.h hs) lI
def DM{c:Wc}{μ:List Addr}{H:Hp}{G:DH}{r:Option D}{K:D->List Addr->DH->Hp->Prop}(h:v5 c μ G H)(p:d7 c Z μ H (D3 r G) K):∃d,r=some d/\K d μ G H:=by
 cases r with
 |none=>exact p.elim
 |some d=>exact⟨d,rfl,d7.ok p h⟩
def VR:IxD X Z ixD:=IxR.mono (tw.or (ix_tup.or Mh)) λx y H Q Lo=>Lo.elim λdx dy μ G rx ry hr p=>by
 rcases dx with _|_|_|_|_|_|_|_<;>rcases dy with _|_|_|_|_|_|_|_<;>first
  |exact p.elim
  |skip
 ·rename_i z i;refine .inr (.inr ?_);unfold ixD at p;dsimp only at p;split at p
  ·rename_i hz;obtain⟨c,ec,p2⟩:=gC p;exact⟨z,i,c,P6 rx,C2 ry,hz,ec,d7.ok p2 hr _ ofS⟩
  ·exact p.elim
 ·rename_i l i;refine .inr (.inl ?_);unfold d9 at rx;obtain⟨a,vs,rfl,q,rl⟩:=rx;obtain⟨d,ed,k⟩:=DM hr p;obtain⟨v,ev,rv⟩:=wO rl ed;exact⟨a,vs,i,v,rfl,C2 ry,q,ev,k v rv⟩
 ·rename_i r i;refine .inl ?_;obtain⟨l,a,vs,rfl,rl,p2,hq⟩:=iM hr rx p;obtain⟨d,ed,k⟩:=DM hr p2;obtain⟨v,ev,rv⟩:=wO rl ed;rcases hq with⟨z,_⟩|⟨_,_,_,⟨_,q⟩|⟨_,q⟩⟩
  ·cases z
  ·exact⟨a,vs,i,v,rfl,C2 ry,SqL.of q,ev,k v rv⟩
  ·exact⟨a,vs,i,v,rfl,C2 ry,q.sq,ev,k v rv⟩
def df(ha:DE X Z a fa)(hb:DE X Z b fb)(hs:lJ b):DE X Z (.Subscript a b pos) (m9 ixD fa fb):=sW VR ha hb hs
def cutD(xs:List D)(lo hi:Option Int):List D:=(xs.drop (HT.sIx xs.length 0 lo)).take (HT.sIx xs.length xs.length hi-HT.sIx xs.length 0 lo)
abbrev Fo:=DSt->M (Option Int)
def J6:Fo:=λ_=>pure none
def N5(f:Fe):Fo:=λσ=>do
 match <-f σ with
 | .int i=>pure (some i)
 |_=>M.stuck
def uI(c:Wc)(Z:XC)(f:Fo):TO:=λσ H Q=>∃X9 μ G,K5 c μ H X9 σ/\v5 c μ G H/\d7 c Z μ H (f X9 G) λo _ _ H'=>Q o H'
def uI.elim{c:Wc}{Z:XC}{P:Prop}{f:Fo}{σ:St}{H:Hp}{Q:Option Int->Hp->Prop}(h:uI c Z f σ H Q)(k:∀X9 μ G,K5 c μ H X9 σ->v5 c μ G H->d7 c Z μ H (f X9 G) (λo _ _ H'=>Q o H')->P):P:=by obtain⟨e0,e1,e2,e3,e4,e5⟩:=h;exact k e0 e1 e2 e3 e4 e5
structure DOp(X:Cx)(Z:XC)(e:Option Expr)(f:Fo):Prop where
 h:PO X e (uI (wc X) Z f)
def PO.mono{e:Option Expr}{t t':TO}(h:PO X e t)(k:∀ σ H Q,t' σ H Q->t σ H Q):PO X e t':=λLi s σ H Q I q=>h Li s σ H Q I (k σ H Q q)
def DOp.of{e:Option Expr}{f:Fo}{t:TO}(h:PO X e t)(k:∀ σ H Q,uI (wc X) Z f σ H Q->t σ H Q):DOp X Z e f:=⟨PO.mono h k⟩
def Nq:DOp X Z none J6:=DOp.of wY λσ H Q Lo=>Lo.elim λX9 μ G s h p=>d7.ok p h
def Bj(h:DE X Z e fa):DOp X Z (some e) (N5 fa):=DOp.of (Ao h.h) λσ H Q Lo=>Lo.elim λX9 μ G s h p=>⟨X9,μ,G,s,h,(d7.bind p).mono λd X0 G1 H1 x1 h1 p1 v rv=>by
 cases d with
 |int i=>exact⟨i,C2 rv,d7.ok p1 h1⟩
 |_=>exact p1.elim⟩
def slD:D->Option Int->Option Int->M D:=λx lo hi=>match x with
| .tup l=>pure (.tup (cutD l lo hi))
| .ref r=>do
  let l <-O4 r >>= listOf
  N7 (.lst (cutD l lo hi))
|_=>M.stuck
def SlD(X:Cx)(Z:XC)(o:D->Option Int->Option Int->M D):Prop:=
 SlR X λx lo hi H Q=>∃dx μ G,d9 (wc X) μ H dx x/\v5 (wc X) μ G H/\d7 (wc X) Z μ H (o dx lo hi G) λd X2 _ H'=>∀v,d9 (wc X) X2 H' d v->Q v H'
def SlR.mono{r r':V->Option Int->Option Int->Hp->VK->Prop}(h:SlR X r)(k:∀x lo hi H Q,r' x lo hi H Q->r x lo hi H Q):SlR X r':=λLi s σ H x v vl vu lo hi sl Q I rx hs pl pu q=>h Li s σ H x v vl vu lo hi sl Q I rx hs pl pu (k x lo hi H Q q)
def AZ{prog:zU}{w:jg}{A:js}{E:VSP}{s:zA}{t sl:Addr}{items:Array zm}{vl vu:zm}{lo hi:Option Int}{Q:VSP}(ht:IsTup s.heap t items)(hs:s.heap.IsSliceOf sl vl vu .none)(pl:IsPart vl lo)(pu:IsPart vu hi)
 (hw:HT.sIx items.size 0 lo=0/\HT.sIx items.size items.size hi=items.size) (h:Q (.ref t) s):zt (zI prog w) A (JD (.ref t) (.ref sl)) Q E s:=by
 obtain⟨os,hos,hcs,hds⟩:=id hs;have hTs:s.TypeIs (.ref sl) "slice":=⟨os,hos,hcs⟩;unfold JD
 try with_reducible refine jk ?_
 first|refine za (zf ?_)|skip
 refine za (wpAny_sequenceKey ht.typeIs (by decide) ?_);refine za (ju ht.typeIs jV
  (jn jV ht.typeIs entry_tuple_getitem ?_ (args_tuple_getitem _ _)))
 show zt _ _ (XE (.ref t) >>= _) _ _ s;refine za (tupleItemsOf_ ht ?_);refine za (Zy hTs ?_);rw[if_pos (by decide)];refine za (HT.sliceApplied_gen hs pl pu ?_);have hyes:(((HT.sIx items.size 0 lo:Nat):Int)==0&&(1:Int)==1&&(HT.sIx items.size items.size hi-HT.sIx items.size 0 lo)==items.size)=true:=by rw[hw.1,hw.2];simp
 show zt _ _ (if (((HT.sIx items.size 0 lo:Nat):Int)==0&&(1:Int)==1&&(HT.sIx items.size items.size hi-HT.sIx items.size 0 lo)==items.size)=true then _ else _) _ _ s;rw[if_pos hyes];unfold Builtin.Tuple.tupleIsExact;refine za (za (Zy ht.typeIs (zf ?_)));rw[if_pos (by decide)];exact za (xT (zf ⟨_,rfl,zf h⟩))
def qe(K:zo):V->Option Int->Option Int->Hp->VK->Prop:=λx lo hi H Q=>∃a xs,x= .ref a/\SqT K H a xs/\(HT.sIx xs.length 0 lo=0/\HT.sIx xs.length xs.length hi=xs.length)/\Q (.ref a) H
def Aj:SlR X (qe X.K):=by
 intro Li s σ H x v vl vu lo hi sl Q I rx hs pl pu h;obtain⟨a,xs,rfl,hx,hw,q⟩:=h
 cases rx
 obtain⟨Ll,r,ht,hz⟩:=I.tuple hx;have Lr:Ll.toArray.size=xs.length:=by rw[zr];exact r.length.symm
 exact⟨"tuple",_,jV.lookup,ht.typeIs,AZ ht hs pl pu (by rw[Lr];exact hw) ⟨.ref a,H,I,rfl,q⟩⟩
def sN{c:Wc}{μ:List Addr}{H:Hp}{l:List D}{vs:List V}(r:u0 c μ H l vs)(lo hi:Option Int):u0 c μ H (cutD l lo hi) (RA vs lo hi):=by unfold cutD RA;rw[r.length];exact(r.drop _).take _
def Kq:SlD X Z slD:=SlR.mono (sl_tup.or (Aj.or Ct)) λx lo hi H Q ⟨dx,μ,G,rx,hr,p⟩=>by
 rcases dx with _|_|_|_|l|r|_|_<;>try (exact p.elim;done)
 ·
   unfold d9 at rx;obtain⟨a,vs,rfl,q,rl⟩:=rx;by_cases hw:HT.sIx vs.length 0 lo=0/\HT.sIx vs.length vs.length hi=vs.length
   ·refine .inr (.inl ⟨a,vs,rfl,q,hw,QN hr q ?_ p⟩);have e:RA vs lo hi=vs:=by unfold RA;rw[hw.1,hw.2];simp
    have:=sN rl lo hi;rw[e]at this;exact this
   ·exact .inl ⟨a,vs,rfl,q,hw,λp' hp=>OH hr (sN rl lo hi) p p' hp⟩
 ·
   obtain⟨l,a,vs,rfl,rl,p2,hq⟩:=iM hr rx p;have hs:SqL (wc X).K H a vs:=by
    rcases hq with⟨z,_⟩|⟨_,_,_,⟨_,q⟩|⟨_,q⟩⟩
    ·cases z
    ·exact SqL.of q
    ·exact q.sq
   exact .inr (.inr ⟨a,vs,rfl,hs,λp' hp=>U6 hr (sN rl lo hi) p2 p' hp⟩)
variable{lo hi:Option Expr}{fl fh:Fo}{p2:Pos}
end
def E7(r:Nat)(o:DO):M Unit:=λG=>some (.ok (),G.set r o)
def PC(l:List (Key×D))(k:Key)(d:D):List (Key×D):=if l.any (λkv=>decide (kv.1=k))then l.map (λkv=>if kv.1=k then (kv.1,d)else kv)else l++[(k,d)]
def cD:D->D->D->M Unit:=λo i d=>match o with
| .ref r=>do
  match <-O4 r with
  | .lst l=>match i with
    | .int k=>match ixN l.length k with
      |some j=>E7 r (.lst (l.set j d))
      |none=>M.stuck
    |_=>M.stuck
  | .dct l=>match iE i with
    |some k=>if l.length<zj then E7 r (.dct (PC l k d))else M.stuck
    |none=>M.stuck
  | .rol _=>M.stuck
  | .rod _=>M.stuck
|_=>M.stuck
def AC(fo fi:Fe):Fg:=λd σ=>do
 let o <-fo σ
 let i <-fi σ
 let _ <-cD o i d
 pure σ
section
variable{X:Cx}{Z:XC}{μ:List Addr}{H:Hp}{G:DH}
def Kk(rv:d9 c μ H d v):∀ {l} {Ln},u3 c μ H l Ln->u3 c μ H (PC l k d) (n9 Ln k v):=by
 have any_eq:∀ {l:List (Key×D)} {Ln:List (Key×V)},u3 c μ H l Ln->(l.any λkv=>decide (kv.1=k))= (Ln.any λkv=>decide (kv.1=k)):=by
  intro l
  induction l with
  |nil=>intro Ln r;cases r;rfl
  |cons p t ih=>
    intro Ln r;obtain⟨v',kt,rfl,_,rt⟩:=r;rw[xD,xD,ih rt]
 have map_eq:∀ {l:List (Key×D)} {Ln:List (Key×V)},u3 c μ H l Ln->u3 c μ H (l.map λkv=>if kv.1=k then (kv.1,d)else kv) (Ln.map λkv=>if kv.1=k then (kv.1,v)else kv):=by
  intro l
  induction l with
  |nil=>intro Ln r;cases r;rfl
  |cons p t ih=>
    intro Ln r;obtain⟨k',d'⟩:=p;obtain⟨v',kt,rfl,q,rt⟩:=r;rw[zT,zT];by_cases e:k'=k
    ·simp only[e,if_true];exact⟨v,_,rfl,rv,ih rt⟩
    ·simp only[e,if_false];exact⟨v',_,rfl,q,ih rt⟩
 have app_eq:∀ {l:List (Key×D)} {Ln:List (Key×V)},u3 c μ H l Ln->u3 c μ H (l++[(k,d)]) (Ln++[(k,v)]):=by
  intro l
  induction l with
  |nil=>intro Ln r;cases r;exact⟨v, [],rfl,rv,rfl⟩
  |cons p t ih=>
    intro Ln r;obtain⟨v',kt,rfl,q,rt⟩:=r;exact⟨v',_,rfl,q,ih rt⟩
 intro l Ln r;unfold PC n9;rw[any_eq r];split
 ·exact map_eq r
 ·exact app_eq r
theorem u3.length:∀ {l} {Ln},u3 c μ H l Ln->l.length=Ln.length
|[],_,r=>by cases r;rfl
|_::_,_,r=>by obtain⟨_,_,rfl,_,t⟩:=r;simp[u3.length t]
def TW{Q:List Addr->DH->Hp->Prop}(h:v5 c μ G H)(g:G[r]? =some o)(n:¬c9 (some o))(m:μ[r]? =some a)(n':¬c9 (some o'))(ho:∀x:Ext μ H μ (upd H a u),cB c μ (upd H a u) a o')
 (p:d7 c Z μ H (E7 r o' G) λ_ X2 G' H'=>Q X2 G' H'):Q μ (G.set r o') (upd H a u):=by
 obtain⟨u',e,n1,n2⟩:=(h.obj r o a g m).some_of n;have x:Ext μ H μ (upd H a u):=Ext.mut (jz m) e n1 n2 u;exact p μ _ x (h.set g n m x n' (ho x))
def Ge(c:Wc)(Z:XC)(f:D->D->D->M Unit):TSet:=λo i v H Q=>∃d1 d2 d3 μ G,d9 c μ H d1 o/\d9 c μ H d2 i/\d9 c μ H d3 v/\v5 c μ G H/\d7 c Z μ H (f d1 d2 d3 G) λ_ _ _ H'=>Q H'
def uv(hu:X.A.units+64<xF):eM X (Ge (wc X) Z cD):=by
 intro Li s σ H o i v ov iv u Q I ro ri rv Lo;obtain⟨d1,d2,d3,μ,G,r1,r2,r3,hr,p⟩:=Lo;rcases d1 with _|_|_|_|_|r|_|_<;>try (exact p.elim;done)
 ·
   unfold d9 at r1;obtain⟨a,m,rfl⟩:=r1;obtain⟨ob,g,p1⟩:=K8 p;have rob:=hr.obj r ob a g m;rcases ob with l|l|l|l
   ·
     obtain⟨vs,ea,rl⟩:=rob;rcases d2 with _|_|k|_|_|_|_|_<;>try (exact p1.elim;done)
     ·
       dsimp only at p1;rcases hk:ixN l.length k with _|j
       ·simp only[hk]at p1;exact p1.elim
       ·
         simp only[hk]at p1;exact sv Li s σ H (.ref a) i v ov iv u Q I ro ri rv ⟨a,vs,k,j,rfl,C2 r2,ea,by rw[<-rl.length];exact hk,TW (o':=.lst (l.set j d3)) hr g (λz=>z) m (λz=>z) (λx=>⟨_,Q5,(rl.mono x).set (r3.mono x) j⟩) p1⟩
   ·exact p1.elim
   ·
     obtain⟨Ln,ea,rk⟩:=rob;dsimp only at p1;rcases hk:iE d2 with _|k
     ·simp only[hk]at p1;exact p1.elim
     ·
       simp only[hk]at p1;split at p1
       ·rename_i hz;have ei:=UV hk r2;subst ei
        cases ro
        refine rc (by lia) I (aI.k ea (by rw[<-rk.length];exact hz)) ri rv λs' I'=>⟨_,I',?_⟩;exact TW (o':=.dct (PC l k d3)) hr g (λz=>z) m (λz=>z) (λx=>⟨_,Q5,Kk (r3.mono x) (rk.mono x)⟩) p1
       ·exact p1.elim
   ·exact p1.elim
variable{a b e o i:Expr}{fa fb fo fi:Fe}
def Bw(hu:X.A.units+64<xF)(ho:DE X Z o fo)(hi:DE X Z i fi)
 (ha:∀v,Xs (.Subscript o i pos) X.env v= (do
   let ov <-Yq [v] (eval o X.env)
   let iv <-Yq [v,ov] (eval i X.env)
   standAt pos
   Yq [v,ov,iv] (setItem ov iv v)
   release [v,ov,iv] [])):DG X Z (.Subscript o i pos) (AC fo fi):=
 DG.of (Gq ho.h hi.h (uv hu) ha) λv σ H Q Lo=>Lo.elim λd X9 μ G r s h p=>⟨X9,μ,G,s,h,(d7.bind p).mono λd1 X0 G1 H1 x1 h1 p1 v1 r1=>
  ⟨X9,X0,G1,s.mono x1,h1,(d7.bind p1).mono λd2 WT G2 H2 x2 h2 p2 v2 r2=>⟨d1,d2,d,WT,G2,r1.mono x2,r2,r.mono (x1.trans x2),h2,(d7.bind p2).mono λ_ μ3 G3 H3 x3 h3 p3=>d7.ok p3 h3 σ (s.mono (x1.trans (x2.trans x3)))⟩⟩⟩
def wJ:Fe:=λ_=>N7 (.dct [])
def Be:DE X Z (.Dict [] [] pos) wJ:=DE.of wx λσ H Q Lo=>Lo.elim λX9 μ G s h p q hq=>by have k:Ext μ H (μ++[q]) (upd H q (.dK [])):=Ext.add hq _;refine p (μ++[q]) _ k (h.new hq ⟨[],Q5,rfl⟩) _ ?_;unfold d9;exact⟨q,by rw[<-h.len];simp,rfl⟩
def M4:D->M Unit:=λx=>match x with
| .ref r=>do
  match <-O4 r with
  | .lst _=>pure ()
  |_=>M.stuck
|_=>M.stuck
def mtE(t:D->M Unit)(m:D->List D->M D)(fo:Fe)(fs:DSt->M (List D)):Fe:=λσ=>do
 let x <-fo σ
 let _ <-t x
 let xs <-fs σ
 m x xs
def lstM(r:Nat):M (List D):=do
 match <-O4 r with
 | .lst l=>pure l
 |_=>M.stuck
def U0:D->List D->M D:=λx xs=>match x,xs with
| .ref r, [y]=>do
  let l <-lstM r
  if l.length<zj then do
   let _ <-E7 r (.lst (l++[y]))
   pure .non
  else M.stuck
|_,_=>M.stuck
def sC:D->List D->M D:=λx xs=>match x,xs with
| .ref r, [.ref q]=>do
  let l <-lstM r
  let k <-lstM q
  if l.length+k.length<=zj then do
   let _ <-E7 r (.lst (l++k))
   pure .non
  else M.stuck
|_,_=>M.stuck
def EI:D->List D->M D:=λx xs=>match x,xs with
| .ref r, []=>do
  let l <-lstM r
  match l.getLast? with
  |some y=>do
    let _ <-E7 r (.lst l.dropLast)
    pure y
  |none=>M.stuck
|_,_=>M.stuck
def vG{a:Addr}{f:List D->M α}{K:α->List Addr->DH->Hp->Prop}(h:v5 c μ G H)(m:μ[r]? =some a)(p:d7 c Z μ H ((lstM r >>= f) G) K):
 ∃l vs,G[r]? =some (.lst l)/\H a=some (.lst vs)/\u0 c μ H l vs/\d7 c Z μ H (f l G) K:=by
 have p':d7 c Z μ H ((O4 r >>= λo=>(match o with| .lst l=>pure l|_=>M.stuck:M (List D)) >>= f) G) K:=by rw[<-M.bind_assoc];exact p
 obtain⟨o,g,p2⟩:=K8 p';have ro:=h.obj r o a g m;rcases o with l|_|_|_<;>try (exact p2.elim;done)
 ·obtain⟨vs,e,rl⟩:=ro;exact⟨l,vs,g,e,rl,p2⟩
def MtD(X:Cx)(Z:XC)(id:String)(m:D->List D->M D):Prop:=
 MtR X id λx xs H Q=>∃d ds μ G,d9 (wc X) μ H d x/\u0 (wc X) μ H ds xs/\v5 (wc X) μ G H/\d7 (wc X) Z μ H (m d ds G) λd X2 _ H'=>∀v,d9 (wc X) X2 H' d v->Q v H'
def CK{r:Nat}{a:Addr}{f:M α}{K:α->List Addr->DH->Hp->Prop}(h:v5 c μ G H)(g:G[r]? =some (.lst l))(m:μ[r]? =some a)(rl:∀x:Ext μ H μ (upd H a (.lst Na)),u0 c μ (upd H a (.lst Na)) l' Na)
 (p:d7 c Z μ H ((E7 r (.lst l') >>= λ_=>f) G) K):Ext μ H μ (upd H a (.lst Na))/\v5 c μ (G.set r (.lst l')) (upd H a (.lst Na))/\d7 c Z μ (upd H a (.lst Na)) (f (G.set r (.lst l'))) K:=by
 obtain⟨u',e,n1,n2⟩:=(h.obj r _ a g m).some_of (λz=>z);have x:Ext μ H μ (upd H a (.lst Na)):=Ext.mut (jz m) e n1 n2 _;have h':v5 c μ (G.set r (.lst l')) (upd H a (.lst Na)):=h.set g (λz=>z) m x (λz=>z) ⟨Na,Q5,rl x⟩;exact⟨x,h',d7.from p x⟩
def eZ:MtD X Z "list.append" U0:=by
 intro Li s σ H x xs v us Q I rx rs Lo;obtain⟨d,ds,μ,G,rd,rds,hr,p⟩:=Lo;rcases d with _|_|_|_|_|r|_|_<;>try (exact p.elim;done)
 ·
   unfold d9 at rd;obtain⟨a,m,rfl⟩:=rd;rcases ds with _|⟨y,t⟩
   ·exact p.elim
   ·
     rcases t with _|⟨_,_⟩
     ·
       obtain⟨yv,tv,rfl,ry,e⟩:=rds
       cases e
       obtain⟨l,vs,g,ea,rl,p1⟩:=vG hr m p;split at p1
       ·rename_i hz;obtain⟨x1,h1,p2⟩:=CK hr g m (λx=>(rl.mono x).append (u0.cons (ry.mono x) u0.nil)) p1;exact cP Li s σ H (.ref a) [yv] v us Q I rx rs ⟨a,vs,yv,rfl,rfl,ea,by rw[<-rl.length];exact hz,d7.ok p2 h1 _ ofN⟩
       ·exact p1.elim
     ·exact p.elim
def vq:MtD X Z "list.extend" sC:=by
 intro Li s σ H x xs v us Q I rx rs Lo;obtain⟨d,ds,μ,G,rd,rds,hr,p⟩:=Lo;rcases d with _|_|_|_|_|r|_|_<;>try (exact p.elim;done)
 ·
   unfold d9 at rd;obtain⟨a,m,rfl⟩:=rd;rcases ds with _|⟨y,t⟩
   ·exact p.elim
   ·
     rcases t with _|⟨_,_⟩
     ·
       obtain⟨yv,tv,rfl,ry,e⟩:=rds
       cases e
       rcases y with _|_|_|_|_|q|_|_<;>try (exact p.elim;done)
       ·
         unfold d9 at ry;obtain⟨b,m2,rfl⟩:=ry;obtain⟨l,vs,g,ea,rl,p1⟩:=vG hr m p;obtain⟨k,ws,g2,eb,rk,p2⟩:=vG hr m2 p1;split at p2
         ·rename_i hz;obtain⟨x1,h1,p3⟩:=CK hr g m (λx=>(rl.mono x).append (rk.mono x)) p2;exact Vf Li s σ H (.ref a) [.ref b] v us Q I rx rs ⟨a,b,vs,ws,rfl,rfl,ea,eb,by rw[<-rl.length,<-rk.length];exact hz,d7.ok p3 h1 _ ofN⟩
         ·exact p2.elim
     ·cases y<;>exact p.elim
def lh:MtD X Z "list.pop" EI:=by
 intro Li s σ H x xs v us Q I rx rs Lo;obtain⟨d,ds,μ,G,rd,rds,hr,p⟩:=Lo;rcases d with _|_|_|_|_|r|_|_<;>try (exact p.elim;done)
 ·
   unfold d9 at rd;obtain⟨a,m,rfl⟩:=rd;rcases ds with _|⟨_,_⟩
   ·
     cases rds
     obtain⟨l,vs,g,ea,rl,p1⟩:=vG hr m p;rcases hy:l.getLast? with _|y
     ·simp only[hy]at p1;exact p1.elim
     ·
       simp only[hy]at p1;obtain⟨x1,h1,p2⟩:=CK hr g m (λx=>(rl.mono x).dropLast) p1;rw[List.getLast?_eq_getElem?]at hy;obtain⟨yv,e1,ry⟩:=rl.get hy;rw[rl.length]at e1;exact SX Li s σ H (.ref a) [] v us Q I rx rs ⟨a,vs,yv,rfl,rfl,ea,e1,d7.ok p2 h1 _ (ry.mono x1)⟩
   ·exact p.elim
variable{es:List Expr}{fs:DSt->M (List D)}{name:Str}{My Ly:Pos}{id:String}{mm:D->List D->M D}
def CP{f:Unit->M α}{K:α->List Addr->DH->Hp->Prop}(h:v5 c μ G H)(r:d9 c μ H d v)(p:d7 c Z μ H ((M4 d >>= f) G) K):tyV c.K "list" v H/\d7 c Z μ H (f () G) K:=by
 rcases d with _|_|_|_|_|i|_|_<;>try (exact p.elim;done)
 ·
   unfold d9 at r;obtain⟨a,m,rfl⟩:=r;have p':d7 c Z μ H ((O4 i >>= λo=>(match o with| .lst _=>pure ()|_=>M.stuck:M Unit) >>= f) G) K:=by rw[<-M.bind_assoc];exact p
   obtain⟨o,g,p2⟩:=K8 p';have ro:=h.obj i o a g m;rcases o with l|_|_|_<;>try (exact p2.elim;done)
   ·obtain⟨vs,e,rl⟩:=ro;exact⟨.inl ⟨rfl,vs,SqL.of e⟩,p2⟩
def FN(slot:Slot "list" name id)(hty:typeOf (.builtin id)=pure (.type "method_descriptor"))(hm:MtD X Z id mm)(ho:DE X Z o fo)(ha:DA X Z (e::es) fs)
 (hbase:ZY o name X.env (eval o X.env)=eval o X.env)
 (hfew:((xV Ly (ja (e::es) X.env)).all (λx=> !x.1)&&(backToKw Ly (XO [] X.env)).all (λx=>x.1.isSome)
   && decide ((e::es).length+([]:List Keyword).length+(if ([]:List Keyword).isEmpty then 0 else 1)<30))=true)
 (hline:(My.endLine==Ly.line)=true) (hs:ja (e::es) X.env= (false,eval e X.env)::ja es X.env) (hplain:(xV Ly (ja es X.env)).any (·.1)=false):
 DE X Z (.Call (.Attribute o name My) (e::es) [] Ly) (mtE M4 mm fo fs):=
 DE.of (Dd JN slot hty hm ho.h ha.h hbase hfew hline hs hplain) λσ H Q Lo=>Lo.elim λX9 μ G s h p=>⟨X9,μ,G,s,h,(d7.bind p).mono λd X0 G1 H1 x1 h1 p1 v rv=>by obtain⟨ty,p2⟩:=CP h1 rv p1;exact⟨ty,X9,X0,G1,s.mono x1,h1,(d7.bind p2).mono λds WT G2 H2 x2 h2 p3 vs rvs=>⟨d,ds,WT,G2,rv.mono x2,rvs,h2,p3⟩⟩⟩
def Ix(slot:Slot "list" name id)(hty:typeOf (.builtin id)=pure (.type "method_descriptor"))(hm:MtD X Z id mm)(ho:DE X Z o fo)
 (hbase:ZY o name X.env (eval o X.env)=eval o X.env) (hline:(My.endLine==Ly.line)=true):DE X Z (.Call (.Attribute o name My) [] [] Ly) (mtE M4 mm fo K0):=
 DE.of (wn JN slot hty hm ho.h hbase hline) λσ H Q Lo=>Lo.elim λX9 μ G s h p=>⟨X9,μ,G,s,h,(d7.bind p).mono λd X0 G1 H1 x1 h1 p1 v rv=>by obtain⟨ty,p2⟩:=CP h1 rv p1;exact⟨ty,d, [],X0,G1,rv,rfl,h1,p2⟩⟩
end
def SI(k:Bool)(h:Heap)(it a:Addr)(i:Nat):Prop:=if k then h.IsTupleIter it a i else h.IsListIter it a i
def SC(k:Bool)(h:Heap)(a:Addr)(items:Array zm):Prop:=if k then h.IsTuple a items else h.IsList a items
section
variable{prog:zU}{w:jg}{A:js}{E:VSP}{s:zA}
def SI.keep(x:SI k h it a i)(q:∀o,h.get? it=some o->h'.get? it=some o):SI k h' it a i:=by
 rcases k with _|_
 ·exact Heap.IsListIter.at (show h.IsListIter it a i from x) q
 ·exact Heap.IsTupleIter.at (show h.IsTupleIter it a i from x) q
def SC.keep(x:SC k h a Ll)(q:∀o,h.get? a=some o->h'.get? a=some o):SC k h' a Ll:=by
 rcases k with _|_
 ·obtain⟨o,e,r⟩:=(show h.IsList a Ll from x);exact⟨o,q o e,r⟩
 ·obtain⟨o,e,r⟩:=(show h.IsTuple a Ll from x);exact⟨o,q o e,r⟩
def SI.there(x:SI k h it a i):∃o,h.get? it=some o/\∀v,o.data≠ .cell v:=by
 rcases k with _|_
 ·obtain⟨o,e,c,d⟩:=(show h.IsListIter it a i from x);exact⟨o,e,λv z=>by rw[d]at z;cases z⟩
 ·obtain⟨o,e,c,d⟩:=(show h.IsTupleIter it a i from x);exact⟨o,e,λv z=>by rw[d]at z;cases z⟩
def Iz(hit:s.heap.IsTupleIter it t i)(ht:s.heap.IsTuple t items)(hx:items[i]? =some x)
 (hQ:∀h',h'.IsTupleIter it t (i+1)->jZ it s.heap h'->Q x {s with heap:=h'}):zt (zI prog w) A (zY (.ref it)) Q E s:=by
 obtain⟨ob,hob,hcls,Oh⟩:=id hit;obtain⟨ot,hot,_,nt,hdt⟩:=ht;unfold zY;refine za (ju hit.typeIs xR (jn xR hit.typeIs F.entry_tuple_iterator_next ?_ (F.args_tuple_iterator_next_1 _)));show zt _ _ (XR (.ref it) 0 >>= _) _ _ s;refine za (jS hob Oh rfl ?_);show zt _ _ (if (Value.ref t==Value.none)=true then _ else _) _ _ s;rw[if_neg (show ¬((Value.ref t==Value.none)=true)from zZ)];show zt _ _ (XR (.ref it) 1 >>= _) _ _ s;refine za (jS hob Oh rfl ?_);show zt _ _ (seqItems? (.ref t) >>= _) _ _ s;refine za (yf hot hdt ?_);simp only[jR,hx];refine za (wpAny_setField hob Oh (by simp) (zf ⟨x,rfl,zf (hQ _ ?_ (yc ..))⟩));exact⟨_,jT _ hob (Obj.isFreed_of_fields (Obj.data_mapFields Oh _)),(Obj.cls_mapFields ..).trans hcls,by rw[Obj.data_mapFields Oh];simp[yA]⟩
def QZ(hh:A.handled=none)(hit:s.heap.IsTupleIter it t i)(ht:s.heap.IsTuple t items)(hx:items[i]? =none)
 (hE:∀h' e,Jp it s.heap h'->(∃o,h'.get? e=some o/\o.cls= .type "StopIteration")->E (.ref e) {s with heap:=h'}):zt (zI prog w) A (zY (.ref it)) Q E s:=by
 obtain⟨ob,hob,hcls,Oh⟩:=id hit;obtain⟨ot,hot,_,nt,hdt⟩:=ht;unfold zY;refine za (ju hit.typeIs xR (jn xR hit.typeIs F.entry_tuple_iterator_next ?_ (F.args_tuple_iterator_next_1 _)));show zt _ _ (XR (.ref it) 0 >>= _) _ _ s;refine za (jS hob Oh rfl ?_);show zt _ _ (if (Value.ref t==Value.none)=true then _ else _) _ _ s;rw[if_neg (show ¬((Value.ref t==Value.none)=true)from zZ)];show zt _ _ (XR (.ref it) 1 >>= _) _ _ s;refine za (jS hob Oh rfl ?_);show zt _ _ (seqItems? (.ref t) >>= _) _ _ s;refine za (yf hot hdt ?_);simp only[jR,hx];refine za (xT (za (wpAny_setField hob Oh (by simp) ?_)));show zt _ _ (newExc (.type "StopIteration") [] >>= _) _ _ _;refine za ?_;simp only[newExc,newTuple];refine za (yV ?_ (by size_fits));refine za (wpAny_of_eq (by first|rfl|(simp only[firstArgMember];rfl)) ?_);refine yV ?_ (by size_fits);delta raiseNew;dsimp only;refine za (wpAny_handled ?_)
 first|rw[show A.in1.handled=none from hh]|rw[hh]
 refine za (zf (wpAny_throw ?_));exact hE _ _ (((yc ..).extBut.push _).push _) ⟨_,zu _ rfl,rfl⟩
def tE(hit:SI k s.heap it a i)(hl:SC k s.heap a items)(hx:items[i]? =some x)
 (hQ:∀h',SI k h' it a (i+1)->jZ it s.heap h'->Q x {s with heap:=h'}):zt (zI prog w) A (zY (.ref it)) Q E s:=by
 rcases k with _|_
 ·exact wpAny_nextOf_list_item hit hl hx hQ
 ·exact Iz hit hl hx hQ
def GH(hh:A.handled=none)(hit:SI k s.heap it a i)(hl:SC k s.heap a items)(hx:items[i]? =none)
 (hE:∀h' e,Jp it s.heap h'->(∃o,h'.get? e=some o/\o.cls= .type "StopIteration")->E (.ref e) {s with heap:=h'}):zt (zI prog w) A (zY (.ref it)) Q E s:=by
 rcases k with _|_
 ·exact wpAny_nextOf_list_end hh hit hl hx hE
 ·exact QZ hh hit hl hx hE
structure ZA(z TI TO i1 i2:Addr):Prop where
 TIz:TI≠z
 TOz:TO≠z
 i1z:i1≠z
 i2z:i2≠z
 TITO:TI≠TO
 TIi1:TI≠i1
 TIi2:TI≠i2
 TOi1:TO≠i1
 TOi2:TO≠i2
 i12:i1≠i2
def vV(n:Nat):ZA (n+4:Nat) (n+2:Nat) (n+3:Nat) n (n+1:Nat):=⟨(by show @Ne Nat _ _;lia),(by show @Ne Nat _ _;lia),(by show @Ne Nat _ _;lia),(by show @Ne Nat _ _;lia),(by show @Ne Nat _ _;lia),(by show @Ne Nat _ _;lia),(by show @Ne Nat _ _;lia),(by show @Ne Nat _ _;lia),(by show @Ne Nat _ _;lia),(by show @Ne Nat _ _;lia)⟩
def BF(h:l<n):¬ @YJ Addr (List Addr) ZW [(n+4:Nat),(n+3:Nat),n,(n+1:Nat)] l:=by simp only[zn,zF,or_false,not_or];exact⟨(by show ¬ @Eq Nat _ _;lia),(by show ¬ @Eq Nat _ _;lia),(by show ¬ @Eq Nat _ _;lia),(by show ¬ @Eq Nat _ _;lia)⟩
def dY(h1:l1<n)(h2:l2<n)(e:m=n+5):∀b, @YJ Addr (List Addr) ZW [(n+4:Nat),(n+2:Nat),(n+3:Nat),n,(n+1:Nat),l1,l2] b-> @LT.lt Nat instLTNat b m:=λb hb=>by subst e;simp only[zn,zF,or_false]at hb;rcases hb with rfl|rfl|rfl|rfl|rfl|rfl|rfl<;>(show @LT.lt Nat instLTNat _ _;lia)
def mt(hb: @YJ Addr (List Addr) ZW [(n+4:Nat),(n+2:Nat),(n+3:Nat),n,(n+1:Nat)] b): @LE.le Nat instLENat n b:=by simp only[zn,zF,or_false]at hb;rcases hb with rfl|rfl|rfl|rfl|rfl<;>(show @LE.le Nat instLENat _ _;lia)
def Tv(h:b<n):¬ @YJ Addr (List Addr) ZW [(n+4:Nat),(n+3:Nat),n,(n+1:Nat)] b:=BF h
variable{z TI TO i1 i2 l1 l2:Addr}{xs ys:Array zm}{k1 k2:Bool}{i:Nat}
def Bu{Q:VSP}(Ap:ZA z TI TO i1 i2)(n1:l1∉ [z,TO,i1,i2])(n2:l2∉ [z,TO,i1,i2])
 (hz:ZN s.heap z TI TO .none) (hTI:yd s.heap TI (.ref i1) (.ref i2)) (hTO:yd s.heap TO a b)
 (h1:SI k1 s.heap i1 l1 i) (h2:SI k2 s.heap i2 l2 i) (Ni:SC k1 s.heap l1 xs) (Oa:SC k2 s.heap l2 ys) (hx:xs[i]? =some x) (hy:ys[i]? =some y)
 (hQ:∀h',ZN h' z TI TO (yA s.heap.objs.size)->yd h' TO x y->SI k1 h' i1 l1 (i+1)->SI k2 h' i2 l2 (i+1)->yd h' s.heap.objs.size x y->h'.objs.size=s.heap.objs.size+1->
   (∀c o,c≠z->c≠TO->c≠i1->c≠i2->s.heap.get? c=some o->h'.get? c=some o)->Q (.ref s.heap.objs.size) {s with heap:=h'}):
 zt (zI prog w) A (yC.«zip.__next__» ⟨[.ref z], []⟩) (λfin s'=>∃v,fin= .done (.ret v)/\Q v s') E s:=by
 simp only[zn,zF,or_false,not_or]at n1 n2;show zt _ _ (XR (.ref z) 2 >>= _) _ _ _;refine za (jS hz rfl rfl ?_);show zt _ _ (XR (.ref z) 3 >>= _) _ _ _;refine za (jS hz rfl rfl ?_);refine za (yf hTI rfl ?_);show zt _ _ (jr (.ref z) >>= _) _ _ _;refine za ?_;unfold jr;refine za (jS hz rfl rfl (zf ?_));simp only[if_true];refine za (xT ?_);refine za (jS hz rfl rfl ?_);refine za (ye hz (by simp) λg₁ WQ WY=>?_);replace WQ:ZN g₁ z TI TO .ellipsis:=WQ;refine za ?_;simp only[List.zipIdx_cons,List.zipIdx_nil,Zb,Yl];refine za (za (Jb ?_));show zt _ _ (zY (.ref i1) >>= _) _ _ _;refine za (tE (h1.keep λo e=>WY.extBut _ _ Ap.i1z e) (Ni.keep λo e=>WY.extBut _ _ n1.1 e) hx λWM h1₂ WX=>zf ?_);have hTO₂:yd WM TO a b:=WX.extBut _ _ Ap.TOi1 (WY.extBut _ _ Ap.TOz hTO);refine za (yf hTO₂ rfl ?_);refine za (XL hTO₂ λWP hTO₃ WW=>?_);replace hTO₃:yd WP TO x b:=hTO₃;refine za (wpAny_letGo (zf ?_));refine za (za (Jb ?_));show zt _ _ (zY (.ref i2) >>= _) _ _ _;have up3:∀c o,c≠z->c≠TO->c≠i1->s.heap.get? c=some o->WP.get? c=some o:=λc o c1 c2 c3 e=>WW.extBut _ _ c2 (WX.extBut _ _ c3 (WY.extBut _ _ c1 e));refine za (tE (h2.keep λo e=>up3 _ _ Ap.i2z Ap.TOi2.symm Ap.i12.symm e) (Oa.keep λo e=>up3 _ _ n2.1 n2.2.1 n2.2.2.1 e) hy λg₄ h2₄ hs₄=>zf ?_);have hTO₄:yd g₄ TO x b:=hs₄.extBut _ _ Ap.TOi2 hTO₃;refine za (yf hTO₄ rfl ?_);refine za (XL hTO₄ λWR hTO₅ hs₅=>?_);replace hTO₅:yd WR TO x y:=hTO₅;refine za (wpAny_letGo (zf (zf ?_)));refine za (yf hTO₅ rfl ?_);refine za (YD ?_);have hsz:WR.objs.size=s.heap.objs.size:=by rw[hs₅.1,hs₄.1,WW.1,WX.1,WY.1]
 have hz₅:ZN WR z TI TO .ellipsis:=hs₅.extBut _ _ Ap.TOz.symm (hs₄.extBut _ _ Ap.i2z.symm (WW.extBut _ _ Ap.TOz.symm (WX.extBut _ _ Ap.i1z.symm WQ)));have hk₅:∀c o,c≠z->c≠TO->c≠i1->c≠i2->s.heap.get? c=some o->WR.get? c=some o:=λc o c1 c2 c3 c4 e=>hs₅.extBut _ _ c2 (hs₄.extBut _ _ c4 (up3 c o c1 c2 c3 e));have h1₅:SI k1 WR i1 l1 (i+1):=h1₂.keep λo e=>hs₅.extBut _ _ Ap.TOi1.symm (hs₄.extBut _ _ Ap.i12 (WW.extBut _ _ Ap.TOi1.symm e));have h2₅:SI k2 WR i2 l2 (i+1):=h2₄.keep λo e=>hs₅.extBut _ _ Ap.TOi2.symm e;have hzlt:z<WR.objs.size:=zC hz₅;show zt _ _ (Yk (.ref z) (.ref WR.objs.size) >>= _) _ _ _;refine za ?_;unfold Yk;have hz₆:ZN (WR.push {cls:=.type "tuple",data:=.seq #[x,y]}) z TI TO .ellipsis:=zc _ hz₅;refine za (ye hz₆ (by simp) λg₇ hz₇ hs₇=>?_);replace hz₇:ZN g₇ z TI TO (yA WR.objs.size):=hz₇;refine ye hz₇ (by simp) λg₈ hz₈ hs₈=>?_;replace hz₈:ZN g₈ z TI TO (yA WR.objs.size):=hz₈;have up:∀c o,c≠z->WR.get? c=some o->g₈.get? c=some o:=λc o c1 e=>hs₈.extBut _ _ c1 (hs₇.extBut _ _ c1 (zc _ e));have hT₈:yd g₈ WR.objs.size x y:=hs₈.extBut _ _ (Zr hzlt) (hs₇.extBut _ _ (Zr hzlt) (zu _ rfl));have hz8:g₈.objs.size=WR.objs.size+1:=by rw[hs₈.1,hs₇.1,jN]
 rw[hsz]at hz₈ hT₈ hz8;refine zf ⟨_,rfl,?_⟩;show Q (.ref WR.objs.size) _;rw[hsz];exact hQ g₈ hz₈ (up _ _ Ap.TOz hTO₅) (h1₅.keep λo e=>up _ o Ap.i1z e) (h2₅.keep λo e=>up _ o Ap.i2z e) hT₈ hz8 λc o c1 c2 c3 c4 e=>up c o c1 (hk₅ c o c1 c2 c3 c4 e)
def Gc(hh:A.handled=none)(Ap:ZA z TI TO i1 i2)(n1:l1∉ [z,TO,i1,i2])(n2:l2∉ [z,TO,i1,i2])
 (hz:ZN s.heap z TI TO .none) (hTI:yd s.heap TI (.ref i1) (.ref i2)) (hTO:yd s.heap TO a b)
 (h1:SI k1 s.heap i1 l1 i) (h2:SI k2 s.heap i2 l2 i) (Ni:SC k1 s.heap l1 xs) (Oa:SC k2 s.heap l2 ys) (hend:xs[i]? =none\/ys[i]? =none)
 (hE:∀h' e,(∀c o,c≠z->c≠TO->c≠i1->c≠i2->s.heap.get? c=some o->h'.get? c=some o)->(∃o,h'.get? e=some o/\o.cls= .type "StopIteration")->E (.ref e) {s with heap:=h'}):
 zt (zI prog w) A (yC.«zip.__next__» ⟨[.ref z], []⟩) Q E s:=by
 simp only[zn,zF,or_false,not_or]at n1 n2;show zt _ _ (XR (.ref z) 2 >>= _) _ _ _;refine za (jS hz rfl rfl ?_);show zt _ _ (XR (.ref z) 3 >>= _) _ _ _;refine za (jS hz rfl rfl ?_);refine za (yf hTI rfl ?_);show zt _ _ (jr (.ref z) >>= _) _ _ _;refine za ?_;unfold jr;refine za (jS hz rfl rfl (zf ?_));simp only[if_true];refine za (xT ?_);refine za (jS hz rfl rfl ?_);refine za (ye hz (by simp) λg₁ WQ WY=>?_);replace WQ:ZN g₁ z TI TO .ellipsis:=WQ;refine za ?_;simp only[List.zipIdx_cons,List.zipIdx_nil,Zb,Yl];refine za (za (Jb ?_));show zt _ _ (zY (.ref i1) >>= _) _ _ _;rcases hx:xs[i]? with _|x
 ·
   refine za (GH hh (h1.keep λo e=>WY.extBut _ _ Ap.i1z e) (Ni.keep λo e=>WY.extBut _ _ n1.1 e) hx λWM e WX he=>?_);obtain⟨oe,hoe,hce⟩:=he;have hz₂:ZN WM z TI TO .ellipsis:=WX _ _ Ap.i1z.symm WQ;have hez:e≠z:=λq=>by subst q;rw[hz₂]at hoe;cases hoe;simp at hce
   exact ye hz₂ (by simp) λWP _ WW=>hE WP e (λc o c1 _ c3 _ q=>WW.extBut _ _ c1 (WX _ _ c3 (WY.extBut _ _ c1 q))) ⟨oe,WW.extBut _ _ hez hoe,hce⟩
 ·
   have hy:ys[i]? =none:=by
    rcases hend with h|h
    ·rw[hx]at h;exact tK h
    ·exact h
   refine za (tE (h1.keep λo e=>WY.extBut _ _ Ap.i1z e) (Ni.keep λo e=>WY.extBut _ _ n1.1 e) hx λWM h1₂ WX=>zf ?_);have hTO₂:yd WM TO a b:=WX.extBut _ _ Ap.TOi1 (WY.extBut _ _ Ap.TOz hTO);refine za (yf hTO₂ rfl ?_);refine za (XL hTO₂ λWP hTO₃ WW=>?_);refine za (wpAny_letGo (zf ?_));refine za (za (Jb ?_));show zt _ _ (zY (.ref i2) >>= _) _ _ _;have up3:∀c o,c≠z->c≠TO->c≠i1->s.heap.get? c=some o->WP.get? c=some o:=λc o c1 c2 c3 e=>WW.extBut _ _ c2 (WX.extBut _ _ c3 (WY.extBut _ _ c1 e));refine za (GH hh (h2.keep λo e=>up3 _ _ Ap.i2z Ap.TOi2.symm Ap.i12.symm e) (Oa.keep λo e=>up3 _ _ n2.1 n2.2.1 n2.2.2.1 e) hy λg₄ e hs₄ he=>?_);obtain⟨oe,hoe,hce⟩:=he;have hz₄:ZN g₄ z TI TO .ellipsis:=hs₄ _ _ Ap.i2z.symm (WW.extBut _ _ Ap.TOz.symm (WX.extBut _ _ Ap.i1z.symm WQ));have hez:e≠z:=λq=>by subst q;rw[hz₄]at hoe;cases hoe;simp at hce
   exact ye hz₄ (by simp) λWR _ hs₅=>hE WR e (λc o c1 c2 c3 c4 q=>hs₅.extBut _ _ c1 (hs₄ _ _ c4 (up3 c o c1 c2 c3 q))) ⟨oe,hs₅.extBut _ _ hez hoe,hce⟩
def nP(Ap:ZA z TI TO i1 i2)(n1:l1∉ [z,TO,i1,i2])(n2:l2∉ [z,TO,i1,i2])
 (hz:ZN s.heap z TI TO .none) (hTI:yd s.heap TI (.ref i1) (.ref i2)) (hTO:yd s.heap TO a b)
 (h1:SI k1 s.heap i1 l1 i) (h2:SI k2 s.heap i2 l2 i) (Ni:SC k1 s.heap l1 xs) (Oa:SC k2 s.heap l2 ys) (hx:xs[i]? =some x) (hy:ys[i]? =some y)
 (hQ:∀h',ZN h' z TI TO (yA s.heap.objs.size)->yd h' TO x y->SI k1 h' i1 l1 (i+1)->SI k2 h' i2 l2 (i+1)->yd h' s.heap.objs.size x y->h'.objs.size=s.heap.objs.size+1->
   (∀c o,c≠z->c≠TO->c≠i1->c≠i2->s.heap.get? c=some o->h'.get? c=some o)->Q (some (.ref s.heap.objs.size)) {s with heap:=h'}):
 zt (zI prog w) A (yW (.ref z)) Q E s:=by
 have hT:s.TypeIs (.ref z) "zip":=⟨_,hz,rfl⟩;unfold yW;exact za (xM (ju hT xm (jn xm hT Xc
  (Bu Ap n1 n2 hz hTI hTO h1 h2 Ni Oa hx hy λh' a1 a2 a3 a4 a5 a6 a7=>zf (hQ h' a1 a2 a3 a4 a5 a6 a7)) (YI _))))
def EO(hh:A.handled=none)(Ap:ZA z TI TO i1 i2)(n1:l1∉ [z,TO,i1,i2])(n2:l2∉ [z,TO,i1,i2])
 (hz:ZN s.heap z TI TO .none) (hTI:yd s.heap TI (.ref i1) (.ref i2)) (hTO:yd s.heap TO a b)
 (h1:SI k1 s.heap i1 l1 i) (h2:SI k2 s.heap i2 l2 i) (Ni:SC k1 s.heap l1 xs) (Oa:SC k2 s.heap l2 ys) (hend:xs[i]? =none\/ys[i]? =none)
 (hQ:∀h',(∀c o,c≠z->c≠TO->c≠i1->c≠i2->s.heap.get? c=some o->h'.get? c=some o)->Q none {s with heap:=h'}):zt (zI prog w) A (yW (.ref z)) Q E s:=by
 have hT:s.TypeIs (.ref z) "zip":=⟨_,hz,rfl⟩;unfold yW;refine za (xM (ju hT xm (jn xm hT Xc
  (Gc hh Ap n1 n2 hz hTI hTO h1 h2 Ni Oa hend λh' e hk he=>?_) (YI _))))
 obtain⟨o,ho,hc⟩:=he;exact za (ZR ⟨o,ho,hc⟩ XQ (zf (hQ _ hk)))
end
def dE(k:Bool)(a:Addr):Obj:={cls:=.type (if k then "tuple_iterator" else "list_iterator"),data:=.fields #[.ref a,.int 0 0]}
abbrev zh1(k1:Bool)(h:Heap)(l1:Addr):Heap:=h.push (dE k1 l1)
abbrev zh2(k1 k2:Bool)(h:Heap)(l1 l2:Addr):Heap:=(zh1 k1 h l1).push (dE k2 l2)
abbrev zh3(k1 k2:Bool)(h:Heap)(l1 l2:Addr):Heap:=(zh2 k1 k2 h l1 l2).push {cls:=.type "tuple",data:=.seq #[.ref h.objs.size,.ref (zh1 k1 h l1).objs.size]}
abbrev zh4(k1 k2:Bool)(h:Heap)(l1 l2:Addr):Heap:=(zh3 k1 k2 h l1 l2).push {cls:=.type "tuple",data:=.seq #[.none,.none]}
abbrev zh5(k1 k2:Bool)(h:Heap)(l1 l2:Addr):Heap:=(zh4 k1 k2 h l1 l2).push {cls:=.type "zip",data:=.fields #[.none,.bool false,.bool false,.ref (zh2 k1 k2 h l1 l2).objs.size,.ref (zh3 k1 k2 h l1 l2).objs.size]}
def iU(hl:SC k s.heap a items)(h:Q (.ref s.heap.objs.size) {s with heap:=s.heap.push (dE k a)}):zt (zI prog w) A (Jo (.ref a)) Q E s:=by
 rcases k with _|_
 ·exact YU hl h
 ·exact wpAny_pyIter_tuple hl h
def bj(k1 k2:Bool)(l1 l2:Addr)(xs ys:Array zm):
 Meets (yC.«zip.__new__» ⟨[.type "zip",.ref l1,.ref l2], []⟩) (λ_ R s=>SC k1 s.heap l1 xs/\SC k2 s.heap l2 ys/\R (.ok (.ret (.ref (zh4 k1 k2 s.heap l1 l2).objs.size))) {s with heap:=zh5 k1 k2 s.heap l1 l2}):=
 .of_wp λprog w A R s h=>by
  obtain⟨hp,g,d,tk,os⟩:=s;obtain⟨Ni,Oa,h⟩:=h;have hsub:=sub_zip;have hL1:SC k1 (Shared.heap ⟨hp,g,d,tk,os⟩) l1 xs:=Ni;have hL2:SC k2 (Shared.heap ⟨hp.push (dE k1 l1),g,d,tk,os⟩) l2 ys:=Oa.keep λo e=>zc _ e
  wp_walk using iU hL1,iU hL2
  exact⟨_,rfl,h⟩
section
def Ft{ch:List Addr}(I:Inv X Li σ H s)(hf:∀b∈ch,L5 X Li H b)(k:∀b o,b∉ch->s.heap.get? b=some o->h'.get? b=some o)
 (hz:vs.length<=zj) (rv:u6 vs us) (ht:P9 h' s.heap.objs.size us.toArray):Inv X Li σ (upd H s.heap.objs.size (.tup vs)) {s with heap:=h',toks:=t'}:=by
 have hq:H s.heap.objs.size=none:=I.hok.fresh (zh _);have neq:∀b o,s.heap.get? b=some o->b≠s.heap.objs.size:=λb o e=>zQ (zC e);have nch:∀b u,H b=some u->b∉ch:=λb u e z=>by rw[(hf b z).1]at e;cases e
 refine I.step (λb hb=>⟨(hf b hb).2.2.2.1,(hf b hb).2.1,(hf b hb).2.2.2.2.1,(hf b hb).2.2.2.2.2⟩) (λb o _ _ hc e _=>k b o hc e) (λb o _ _ hc e _=>⟨o.slots,k b o hc e⟩)
  (λb o _ e n=>by rw[v9 (neq b o e)];exact n) (λb o hc e=>⟨o,k b o hc e⟩) (λb xs e=>by rw[v9 (J0 e hq)];exact e) (λb o u e=>by rw[v9 (J0 e hq)];exact e)
  (λb ps e=>⟨#[],by rw[v9 (J0 e hq),e];simp⟩) (λm hm=>?_) (λb u e=>?_) I.bare
 ·obtain⟨o,es,ep,ho,r⟩:=hm;exact⟨o,es,ep,k _ o (λz=>(hf _ z).2.1 rfl) ho,r⟩
 ·by_cases hb:b=s.heap.objs.size
  ·subst hb;rw[Q5]at e
   cases e
   exact⟨hz,us,rv,ht⟩
  ·rw[v9 hb]at e;refine(I.hok b u e).stay (λc v hc q=>k c v ?_ q) (λc q=>by rw[v9 (J0 q hq)];exact q) λc xs q=>by rw[v9 (J0 q hq)];exact q
   rcases hc with z|z
   ·rw[z];exact nch b u e
   ·exact nch c _ z
def wV{ch:List Addr}(I:Inv X Li σ H s)(hf:∀b∈ch,L5 X Li H b)(k:∀b o,b∉ch->s.heap.get? b=some o->h'.get? b=some o):Inv X Li σ H {s with heap:=h',toks:=t'}:=by
 have nch:∀b u,H b=some u->b∉ch:=λb u e z=>by rw[(hf b z).1]at e;cases e
 refine I.step (λb hb=>⟨(hf b hb).2.2.2.1,(hf b hb).2.1,(hf b hb).2.2.2.2.1,(hf b hb).2.2.2.2.2⟩) (λb o _ _ hc e _=>k b o hc e) (λb o _ _ hc e _=>⟨o.slots,k b o hc e⟩)
  (λ_ _ _ _ n=>n) (λb o hc e=>⟨o,k b o hc e⟩) (λ_ _ e=>e) (λ_ _ _ e=>e) (λb ps e=>⟨#[],by rw[e];simp⟩) (λm hm=>?_) (λb u e=>?_) I.bare
 ·obtain⟨o,es,ep,ho,r⟩:=hm;exact⟨o,es,ep,k _ o (λz=>(hf _ z).2.1 rfl) ho,r⟩
 ·refine(I.hok b u e).stay (λc v hc q=>k c v ?_ q) (λ_ q=>q) λ_ _ q=>q;rcases hc with z|z
  ·rw[z];exact nch b u e
  ·exact nch c _ z
end
def Sq(K:zo)(k:Bool)(H:Hp)(a:Addr)(vs:List V):Prop:=if k then SqT K H a vs else SqL K H a vs
def UE(I:Inv X Li σ H s)(h:Sq X.K k H a vs):∃Ll:List zm,u6 vs Ll/\SC k s.heap a Ll.toArray/\vs.length<=zj:=by
 rcases k with _|_
 ·obtain⟨Ll,r,p,z⟩:=I.list h;exact⟨Ll,r,p.isList,z⟩
 ·obtain⟨Ll,r,p,z⟩:=I.tuple h;exact⟨Ll,r,p,z⟩
def qV(I:Inv X Li σ H s)(h:Sq X.K k H a vs)(h':Sq X.K k H a ws):vs=ws:=by
 rcases k with _|_
 ·exact I.list_inj h h'
 ·exact I.tuple_inj h h'
def Itz(K:zo)(k1 k2:Bool)(a b:Addr):It:=
 ⟨λi H=>∃xs ys x y,Sq K k1 H a xs/\Sq K k2 H b ys/\xs[i]? =some x/\ys[i]? =some y,
  λi H v H'=>∃q x y,H q=none/\v= .ref q/\H'=upd H q (.tup [x,y])/\(∀xs,Sq K k1 H a xs->xs[i]? =some x)/\∀ys,Sq K k2 H b ys->ys[i]? =some y,
  λi H=>∃xs ys,Sq K k1 H a xs/\Sq K k2 H b ys/\(xs.length<=i\/ys.length<=i)⟩
def qI(r:u6 vs Ll){i:Nat}(h:vs[i]? =some x):∃u,Ll.toArray[i]? =some u/\J1 x u:=by obtain⟨u,e,ru⟩:=r.get h;exact⟨u,by simpa using e,ru⟩
def HY{w:jg}{K:zo}{es:List Expr}{x1:Nat}{tp:Pos}{l1 l2 z TI TO i1 i2:Addr}(Ap:ZA z TI TO i1 i2)(n1:l1∉ [z,TO,i1,i2])(n2:l2∉ [z,TO,i1,i2]):
 SA P w K (.Tuple es x1 tp) (Itz K k1 k2 l1 l2) [z,TI,TO,i1,i2] z (λi h=>ZN h z TI TO .none/\yd h TI (.ref i1) (.ref i2)/\(∃a b,yd h TO a b)/\SI k1 h i1 l1 i/\SI k2 h i2 l2 i) where
 mem:=by simp
 obj:=λi h st b hb=>by
  obtain⟨s1,s2,⟨a,c,s3⟩,s4,s5⟩:=st;simp only[zn,zF,or_false]at hb;rcases hb with rfl|rfl|rfl|rfl|rfl
  ·exact⟨_,s1,λv z=>nomatch z⟩
  ·exact⟨_,s2,λv z=>nomatch z⟩
  ·exact⟨_,s3,λv z=>nomatch z⟩
  ·exact s4.there
  ·exact s5.there
 keep:=λi h h' st k=>by obtain⟨s1,s2,⟨a,c,s3⟩,s4,s5⟩:=st;exact⟨k _ (by simp) _ s1,k _ (by simp) _ s2,⟨a,c,k _ (by simp) _ s3⟩,s4.keep (k _ (by simp)),s5.keep (k _ (by simp))⟩
 item:=by
  intro X hP hw hK hc i Li s σ H E I hf st hg;subst hP hw hK;obtain⟨xs,ys,x,y,q1,q2,hx,hy⟩:=hg;obtain⟨its1,r1,c1,z1⟩:=UE I q1;obtain⟨Mu,r2,c2,z2⟩:=UE I q2;obtain⟨u1,e1,ru1⟩:=qI r1 hx;obtain⟨u2,e2,ru2⟩:=qI r2 hy;obtain⟨s1,s2,⟨a,c,s3⟩,s4,s5⟩:=st;refine nP Ap n1 n2 s1 s2 s3 s4 s5 c1 c2 e1 e2 λg b1 b2 b3 b4 b5 b6 b7=>⟨_,rfl,?_⟩;refine wpAny_letOwnedTupleGo_zip b1 λg2 c1' sb=>?_;have keep:∀b o,b∉ [z,TI,TO,i1,i2]->s.heap.get? b=some o->g2.get? b=some o:=λb o hb e=>by simp only[zn,zF,or_false,not_or]at hb;exact(sb.2 b hb.1).trans (b7 b o hb.1 hb.2.2.1 hb.2.2.2.1 hb.2.2.2.2 e)
  have zlt:z<s.heap.objs.size:=zC s1;have hnew:P9 g2 s.heap.objs.size [u1,u2].toArray:=⟨_,(sb.2 _ (Zr zlt)).trans b5,rfl,_,rfl⟩;have hq:H s.heap.objs.size=none:=I.hok.fresh (zh _);refine⟨.ref s.heap.objs.size,upd H s.heap.objs.size (.tup [x,y]),Ft I hf keep (by show 2<=zj;decide) (.cons ru1 (.cons ru2 .nil)) hnew,rfl,⟨_,x,y,hq,rfl,rfl,λxs' h=>by rw[qV I h q1];exact hx,λys' h=>by rw[qV I h q2];exact hy⟩,?_,λb hb=>?_⟩
  ·refine⟨c1',?_,⟨_,_,(sb.2 _ Ap.TOz).trans b2⟩,b3.keep λo e=>(sb.2 _ Ap.i1z).trans e,b4.keep λo e=>(sb.2 _ Ap.i2z).trans e⟩;exact(sb.2 _ Ap.TIz).trans (b7 TI _ Ap.TIz Ap.TITO Ap.TIi1 Ap.TIi2 s2)
  ·have Oe:b<s.heap.objs.size:=by
    simp only[zn,zF,or_false]at hb;rcases hb with rfl|rfl|rfl|rfl|rfl
    ·exact zlt
    ·exact zC s2
    ·exact zC s3
    ·obtain⟨_,e,_⟩:=s4.there;exact zC e
    ·obtain⟨_,e,_⟩:=s5.there;exact zC e
   rw[v9 (zQ Oe)];exact(hf b hb).1
 done:=by intro X hP hw hK hc i Li s σ H E I hf st hg;subst hP hw hK;obtain⟨xs,ys,q1,q2,hend⟩:=hg;obtain⟨its1,r1,c1,z1⟩:=UE I q1;obtain⟨Mu,r2,c2,z2⟩:=UE I q2;obtain⟨s1,s2,⟨a,c,s3⟩,s4,s5⟩:=st;have Ni:=r1.length;have Oa:=r2.length;refine EO (I.ok.hd hc) Ap n1 n2 s1 s2 s3 s4 s5 c1 c2 (by rcases hend with h|h;left;simp;lia;right;simp;lia) λg b7=>⟨rfl,wV I hf λb o hb e=>?_⟩;simp only[zn,zF,or_false,not_or]at hb;exact b7 b o hb.1 hb.2.2.1 hb.2.2.2.1 hb.2.2.2.2 e
 self:=λ_ _ _ _ _ st h=>JT st.1 h
def pY(K:zo)(ta:TA):TI:=λσ H R=>ta σ H λvs H1=>∃k1 k2 a b xs ys,vs= [.ref a,.ref b]/\Sq K k1 H1 a xs/\Sq K k2 H1 b ys/\R (Itz K k1 k2 a b) H1
section
def rb(Ni:SC k1 s.heap l1 xs)(Oa:SC k2 s.heap l2 ys)
 (h:Q (.ref (zh4 k1 k2 s.heap l1 l2).objs.size) {s with heap:=zh5 k1 k2 s.heap l1 l2}):zt (zI prog w) A (call (.type "zip") [.ref l1,.ref l2]) Q E s:=by
 refine callType_new F.called_zip (by decide) (F.typeCall_zip_2 _ _) (F.newCall_zip_2 _ _) (λobj=>F.args_object_init_3 obj _ _) F.entry_zip_new (bj k1 k2 l1 l2 xs ys) ⟨Ni,Oa,?_⟩;exact⟨⟨_,zu _ rfl,rfl⟩,h⟩
structure ZMk(k1 k2:Bool)(h h5:Heap)(l1 l2:Addr)(n:Nat):Prop where
 keep:∀b o,h.get? b=some o->h5.get? b=some o
 sz:h5.objs.size=n+5
 g5:ZN h5 (n+4:Nat) (n+2:Nat) (n+3:Nat) .none
 g4:yd h5 (n+3:Nat) .none .none
 g3:yd h5 (n+2:Nat) (.ref n) (.ref (n+1:Nat))
 s1:SI k1 h5 n l1 0
 s2:SI k2 h5 (n+1:Nat) l2 0
def zmk:(zh4 k1 k2 h l1 l2).objs.size=h.objs.size+4/\ZMk k1 k2 h (zh5 k1 k2 h l1 l2) l1 l2 h.objs.size:=by
 have z1:(zh1 k1 h l1).objs.size=h.objs.size+1:=jN ..;have z2:(zh2 k1 k2 h l1 l2).objs.size=h.objs.size+2:=by rw[jN,z1]
 have z3:(zh3 k1 k2 h l1 l2).objs.size=h.objs.size+3:=by rw[jN,z2]
 have z4:(zh4 k1 k2 h l1 l2).objs.size=h.objs.size+4:=by rw[jN,z3]
 have z5:(zh5 k1 k2 h l1 l2).objs.size=h.objs.size+5:=by rw[jN,z4]
 have g5:ZN (zh5 k1 k2 h l1 l2) (zh4 k1 k2 h l1 l2).objs.size (zh2 k1 k2 h l1 l2).objs.size (zh3 k1 k2 h l1 l2).objs.size .none:=zu _ rfl;have g4:yd (zh5 k1 k2 h l1 l2) (zh3 k1 k2 h l1 l2).objs.size .none .none:=zc _ (zu _ rfl);have g3:yd (zh5 k1 k2 h l1 l2) (zh2 k1 k2 h l1 l2).objs.size (.ref h.objs.size) (.ref (zh1 k1 h l1).objs.size):=zc _ (zc _ (zu _ rfl));have g2:(zh5 k1 k2 h l1 l2).get? (zh1 k1 h l1).objs.size=some (dE k2 l2):=zc _ (zc _ (zc _ (zu _ (by cases k2<;>rfl))));have g1:(zh5 k1 k2 h l1 l2).get? h.objs.size=some (dE k1 l1):=zc _ (zc _ (zc _ (zc _ (zu _ (by cases k1<;>rfl)))));rw[z4,z2,z3]at g5;rw[z3]at g4;rw[z2,z1]at g3;rw[z1]at g2;refine⟨z4,λb o e=>zc _ (zc _ (zc _ (zc _ (zc _ e)))),z5,g5,g4,g3,?_,?_⟩
 ·rcases k1 with _|_
  ·exact⟨_,g1,rfl,rfl⟩
  ·exact⟨_,g1,rfl,rfl⟩
 ·rcases k2 with _|_
  ·exact⟨_,g2,rfl,rfl⟩
  ·exact⟨_,g2,rfl,rfl⟩
def SC.lt(c:SC k h a xs): @LT.lt Nat instLTNat a h.objs.size:=by
 rcases k with _|_
 ·obtain⟨o,e,_⟩:=(show h.IsList a _ from c);exact zC e
 ·obtain⟨o,e,_⟩:=(show h.IsTuple a _ from c);exact zC e
def cT(Ni:SC k1 s.heap l1 xs)(Oa:SC k2 s.heap l2 ys)
 (h:∀h5 n,n=s.heap.objs.size->ZMk k1 k2 s.heap h5 l1 l2 n->Q (.ref (n+4:Nat)) {s with heap:=h5}):zt (zI prog w) A (call (.type "zip") [.ref l1,.ref l2]) Q E s:=by
 refine rb Ni Oa ?_;have:=zmk (k1:=k1) (k2:=k2) (h:=s.heap) (l1:=l1) (l2:=l2);rw[this.1];exact h _ _ rfl this.2
def sY{es:List Expr}{ta:TA}{p pos:Pos}(hg:Gl X "zip")(hm:X.mg "zip" =none)(ha:PA X [a,b] ta)(hs:ja [a,b] X.env= [(false,eval a X.env),(false,eval b X.env)])(hs2:ja [b] X.env= [(false,eval b X.env)])(hbt:jp "zip" =some (.type "zip")):
 PI X (.Tuple es x1 tp) (.Call (.Name "zip" p) [a,b] [] pos) (pY X.K ta):=by
 intro Li s σ H R I h;refine Call_ (gA I hg hm hbt (yM (thn (ha pos Li s σ H _ I h) λus s1 Me=>Me.elim λvs H1 I1 r1 q1=>?_) (by rw[hs,hs2]) (by rw[hs2];rfl)));obtain⟨k1,k2,l1,l2,xs,ys,rfl,q1,q2,q⟩:=q1;obtain⟨u1,u2,rfl,ru1,ru2⟩:=lF r1
 cases ru1
 cases ru2
 obtain⟨its1,rr1,c1,z1⟩:=UE I1 q1;obtain⟨Mu,rr2,c2,z2⟩:=UE I1 q2;refine cT c1 c2 λh5 n en Z=>?_;have n1:=BF (en▸c1.lt);have n2:=BF (en▸c2.lt);refine JT Z.g5 ?_;refine⟨(n+4:Nat),_,_,Itz X.K k1 k2 l1 l2,H1,rfl,I1.kept Z.keep,HY (vV n) n1 n2,⟨Z.g5,Z.g3,⟨_,_,Z.g4⟩,Z.s1,Z.s2⟩,λb hb=>?_,q⟩;have Oe:s1.heap.objs.size<=b:=en▸mt hb;exact I1.fpOk Oe (I1.hok.fresh Oe)
open Classical in
def ckO(r:Nat)(o:DO):DH->Bool:=λG=>decide (G[r]? =some o)
def C4:D->M Src:=λx=>match x with
| .tup l=>pure ⟨l,λ_=>true⟩
| .ref r=>do
  let o <-O4 r
  let l <-listOf o
  pure ⟨l,ckO r o⟩
|_=>M.stuck
def nj(c:Wc)(μ:List Addr)(H:Hp)(k:Bool)(a:Addr)(s:Src):Prop:=∀ X2 G' H',Ext μ H X2 H'->v5 c X2 G' H'->s.ck G'=true->∃vs,Sq c.K k H' a vs/\u0 c X2 H' s.items vs
def sM{H:Hp}{G:DH}{d:D}{v:V}{f:Src->M α}{K:α->List Addr->DH->Hp->Prop}(h:v5 c μ G H)(r:d9 c μ H d v)(p:d7 c Z μ H ((C4 d >>= f) G) K):
 ∃s k a vs,v= .ref a/\Sq c.K k H a vs/\u0 c μ H s.items vs/\nj c μ H k a s/\s.ck G=true/\(∀i,d= .ref i->k=false)/\d7 c Z μ H (f s G) K:=by
 rcases d with _|_|_|_|l|i|_|_<;>try (exact p.elim;done)
 ·
   unfold d9 at r;obtain⟨a,vs,rfl,q,rl⟩:=r;exact⟨⟨l,λ_=>true⟩,true,a,vs,rfl,q,rl,λX2 G' H' x h' _=>⟨vs,x.sqT q,rl.mono x⟩,rfl,(λi z=>nomatch z),p⟩
 ·
   unfold d9 at r;obtain⟨a,m,rfl⟩:=r;have p':d7 c Z μ H ((O4 i >>= λo=>(listOf o >>= λl=>(pure ⟨l,ckO i o⟩:M Src)) >>= f) G) K:=by rw[<-M.bind_assoc];exact p
   obtain⟨o,g,p2⟩:=K8 p';have ro:=h.obj i o a g m;have ck:ckO i o G=true:=by unfold ckO;simp[g]
   cases o with
   |lst l=>
     obtain⟨vs,q,rl⟩:=ro;refine⟨⟨l,ckO i (.lst l)⟩,false,a,vs,rfl,SqL.of q,rl,λX2 G' H' x h' Mn=>?_,ck,(λ_ _=>rfl),p2⟩;have g':G'[i]? =some (.lst l):=by unfold ckO at Mn;simpa using Mn
     obtain⟨Na,q',Mr⟩:=h'.obj i _ a g' (uL x.pre m);exact⟨Na,SqL.of q',Mr⟩
   |rol l=>
     obtain⟨vs,q,rl⟩:=ro;refine⟨⟨l,ckO i (.rol l)⟩,false,a,vs,rfl,q.sq,rl,λX2 G' H' x h' Mn=>?_,ck,(λ_ _=>rfl),p2⟩;have g':G'[i]? =some (.rol l):=by unfold ckO at Mn;simpa using Mn
     obtain⟨Na,q',Mr⟩:=h'.obj i _ a g' (uL x.pre m);exact⟨Na,q'.sq,Mr⟩
   |dct l=>exact p2.elim
   |rod l=>exact p2.elim
def IU{H:Hp}{i:Nat}{d:D}{x:V}(r:u0 c μ H l vs)(h:l[i]? =some d)(hx:vs[i]? =some x):d9 c μ H d x:=by
 obtain⟨v,e,q⟩:=r.get h;rw[hx]at e
 cases e
 exact q
def J9(lo:Int)(n:Nat):List D:=(zP n).map fun(i:Nat)=>D.int (lo+(i:Int))
def T5(fs:DSt->M (List D)):DSt->M Src:=λσ=>do
 match <-fs σ with
 |[.int j]=>if -(2 ^ 62)<=j/\j<2 ^ 62 then pure ⟨J9 0 j.toNat,λ_=>true⟩else M.stuck
 |_=>M.stuck
def br(lo:Int)(n:Nat):ItD c μ H (Itr lo n) ⟨J9 lo n,λ_=>true⟩:=λX2 G' H' x' h' _ i=>by
 refine⟨λd hd=>?_,λhi=>?_⟩
 ·have hi:i<n:=by have:=lt_of_get hd;simpa [J9]using this
  have e:d= .int (lo+i):=by unfold J9 at hd;rw[jl,List.getElem?_range hi]at hd;simp at hd;exact hd.symm
  subst e;exact⟨hi,λx H2 ⟨e1,e2⟩=>by subst e1 e2;exact⟨Ext.refl _ _,h',ofI⟩⟩
 ·show n<=i;simpa [J9]using hi
def Qp(hg:Gl X "range")(hm:X.mg "range" =none)(ha:DA X Z [a] fs)(hs:ja [a] X.env= [(false,eval a X.env)]):DI X Z tg (.Call (.Name "range" p) [a] [] pos) (T5 fs):=
 DI.of (Ib hg hm ha.h hs) λσ H R Lo=>Lo.elim λX9 μ G s h p=>⟨X9,μ,G,s,h,(d7.bind p).mono λds X0 G1 H1 x1 h1 p1 vs rv=>by
  rcases ds with _|⟨_|_|j|_|_|_|_|_,_|⟨_,_⟩⟩<;>dsimp only at p1<;>try exact p1.elim
  ·split at p1
   ·rename_i hj;obtain⟨v,t,rfl,r0,e⟩:=rv
    cases e
    exact⟨j,by rw[C2 r0],hj.1,hj.2,d7.ok p1 h1 _ (br 0 _)⟩
   ·exact p1.elim⟩
def MD(fs:DSt->M (List D)):DSt->M Src:=λσ=>do
 match <-fs σ with
 |[a,b]=>do
   let s1 <-C4 a
   let s2 <-C4 b
   pure ⟨(s1.items.zip s2.items).map λp=>.tup [p.1,p.2],λG=>s1.ck G&&s2.ck G⟩
 |_=>M.stuck
def Cs(h:v5 c μ G H)(hq:H q=none)(r:u0 c μ H ds vs):Ext μ H μ (upd H q (.tup vs))/\v5 c μ G (upd H q (.tup vs))/\d9 c μ (upd H q (.tup vs)) (.tup ds) (.ref q):=by have k:Ext μ H μ (upd H q (.tup vs)):=Ext.lay hq _;refine⟨k,h.same k λa o e n=>by rw[v9 (J0 e hq)];exact e,?_⟩;unfold d9;exact⟨q,vs,rfl,SqT.of Q5,r.mono k⟩
def Gk{tp:Pos}{p pos:Pos}(hg:Gl X "zip")(hm:X.mg "zip" =none)(ha:DA X Z [a,b] fs)(hs:ja [a,b] X.env= [(false,eval a X.env),(false,eval b X.env)])(hs2:ja [b] X.env= [(false,eval b X.env)])(hbt:jp "zip" =some (.type "zip")):
 DI X Z (.Tuple es x1 tp) (.Call (.Name "zip" p) [a,b] [] pos) (MD fs):=
 DI.of (sY hg hm ha.h hs hs2 hbt) λσ H R Lo=>Lo.elim λX9 μ G s h p=>⟨X9,μ,G,s,h,(d7.bind p).mono λds X0 G1 H1 x1 h1 p1 vs rv=>by
  rcases ds with _|⟨d1,_|⟨d2,_|⟨_,_⟩⟩⟩<;>dsimp only at p1<;>try exact p1.elim
  ·obtain⟨v1,t1,rfl,r1,v2,t2,rfl,r2,e⟩:=rv
   cases e
   obtain⟨s1,k1,a1,w1,rfl,q1,l1,is1,ck1,_,p2⟩:=sM h1 r1 p1;obtain⟨s2,k2,a2,w2,rfl,q2,l2,is2,ck2,_,p3⟩:=sM h1 r2 p2;refine⟨k1,k2,a1,a2,w1,w2,rfl,q1,q2,d7.ok p3 h1 _ λX2 G' H' x' h' ck' i=>?_⟩;have ck'':s1.ck G'=true/\s2.ck G'=true:=by simpa using ck'
   obtain⟨u1,q1',l1'⟩:=is1 X2 G' H' x' h' ck''.1;obtain⟨u2,q2',l2'⟩:=is2 X2 G' H' x' h' ck''.2;refine⟨λd hd=>?_,λhi=>?_⟩
   ·rw[jl]at hd;rcases hz:(s1.items.zip s2.items)[i]? with _|pr
    ·rw[hz]at hd;cases hd
    ·
      rw[hz]at hd;obtain⟨e1,e2⟩:=pr;have Od:d= .tup [e1,e2]:=by simpa using hd.symm
      subst Od;rw[xg]at hz;obtain⟨y1,hy1,ry1⟩:=l1'.get hz.1;obtain⟨y2,hy2,ry2⟩:=l2'.get hz.2;refine⟨⟨u1,u2,y1,y2,q1',q2',hy1,hy2⟩,λx H2 ⟨q,z1,z2,hq,ex,eH,f1,f2⟩=>?_⟩;subst ex eH;have g1:=f1 u1 q1';have g2:=f2 u2 q2';rw[hy1]at g1;rw[hy2]at g2
      cases g1
      cases g2
      exact Cs h' hq ⟨y1,_,rfl,ry1,y2,_,rfl,ry2,rfl⟩
   ·refine⟨u1,u2,q1',q2',?_⟩;rw[<-l1'.length,<-l2'.length];simp at hi;lia⟩
end
def A2:List D->M D:=λds=>match ds with
|[.str z]=>if z.length<=zj then pure (.int z.length)else M.stuck
|[.tup l]=>pure (.int l.length)
|[.ref r]=>do
  match <-O4 r with
  | .lst l=>pure (.int l.length)
  | .rol l=>pure (.int l.length)
  | .dct l=>pure (.int l.length)
  | .rod _=>M.stuck
|_=>M.stuck
def Z9:List D->M D:=λds=>match ds with
|[.tup l]=>pure (.tup l)
|[.ref r]=>do
  let l <-O4 r >>= listOf
  pure (.tup l)
|_=>M.stuck
def AB:List D->M D:=λds=>match ds with
|[.tup l]=>N7 (.lst l)
|[.ref r]=>do
  let l <-O4 r >>= listOf
  N7 (.lst l)
|_=>M.stuck
def pE:List D->M D:=λds=>match ds with
|[.int i,.int j]=>pure (.int (if j<i then j else i))
|_=>M.stuck
def BK:List D->M D:=λds=>match ds with
|[.int i,.int j]=>pure (.int (if j>i then j else i))
|_=>M.stuck
def GE:List D->M D:=λds=>match ds with
|[.int i]=>pure (.int (if i<0 then -i else i))
|_=>M.stuck
def tD:List D->Option (List Int)
|[]=>some []
| .int i::r=>(tD r).map (i :: ·)
|_=>none
def ND:List D->Option (List Bool)
|[]=>some []
| .bl b::r=>(ND r).map (b :: ·)
|_=>none
def d6:List D->M D:=λds=>match ds with
|[.ref r]=>do
  let l <-O4 r >>= listOf
  let bs <-D3 (ND l)
  pure (.bl (bs.all id))
|_=>M.stuck
def uy{F:List D->M α}{c:Wc}{Z:XC}{H:Hp}{G:DH}{K:α->List Addr->DH->Hp->Prop}(p:d7 c Z μ H (F ds G) K)(h0:F []=M.stuck)(h2:∀a b t,F (a::b::t)=M.stuck)(hn:F [.non]=M.stuck)(hb:∀b,F [.bl b]=M.stuck)(hi:∀b,F [.int b]=M.stuck)(hs:∀b,F [.str b]=M.stuck)(ht:∀b,F [.tup b]=M.stuck)(hf:∀b,F [.fn b]=M.stuck)(hy:∀b,F [.ty b]=M.stuck):∃r,ds= [.ref r]:=by
 rcases ds with _|⟨d,_|⟨_,_⟩⟩
 ·rw[h0]at p;exact p.elim
 ·rcases d with _|b|b|b|b|b|b|b
  ·rw[hn]at p;exact p.elim
  ·rw[hb]at p;exact p.elim
  ·rw[hi]at p;exact p.elim
  ·rw[hs]at p;exact p.elim
  ·rw[ht]at p;exact p.elim
  ·exact⟨b,rfl⟩
  ·rw[hf]at p;exact p.elim
  ·rw[hy]at p;exact p.elim
 ·rw[h2]at p;exact p.elim
section
def D7(r:u0 c μ H [d] vs):∃v,vs= [v]/\d9 c μ H d v:=by
 obtain⟨v,t,rfl,q,e⟩:=r
 cases e
 exact⟨v,rfl,q⟩
def AW(r:u0 c μ H [d,e] vs):∃v w,vs= [v,w]/\d9 c μ H d v/\d9 c μ H e w:=by
 obtain⟨v,t,rfl,q,v',t',rfl,q',z⟩:=r
 cases z
 exact⟨v,v',rfl,q,q'⟩
def Kl:W8 X Z (.builtin "len") A2:=W8.of (w4.or Hj (w4.or gZ sg)) λxs H Q Lo=>Lo.elim λds μ G rl hr p=>by
 rcases ds with _|⟨_|_|_|z|l|i|_|_,_|⟨_,_⟩⟩<;>try exact p.elim
 all_goals (delta A2 at p;dsimp only at p)
 ·obtain⟨v,rfl,r⟩:=D7 rl;split at p
  ·rename_i hz;exact .inr (.inl ⟨z,by rw[P6 r],hz,d7.ok p hr _ ofI⟩)
  ·exact p.elim
 ·obtain⟨v,rfl,r⟩:=D7 rl;unfold d9 at r;obtain⟨a,vs,rfl,q,Mr⟩:=r;exact .inl ⟨a,vs,rfl,.inr q,by rw[<-Mr.length];exact d7.ok p hr _ ofI⟩
 ·obtain⟨v,rfl,r⟩:=D7 rl;unfold d9 at r;obtain⟨a,m,rfl⟩:=r;obtain⟨o,g,p1⟩:=K8 p;have ro:=hr.obj i o a g m;rcases o with l|l|l|l
  ·obtain⟨vs,q,Mr⟩:=ro;exact .inl ⟨a,vs,rfl,.inl (SqL.of q),by rw[<-Mr.length];exact d7.ok p1 hr _ ofI⟩
  ·obtain⟨vs,q,Mr⟩:=ro;exact .inl ⟨a,vs,rfl,.inl q.sq,by rw[<-Mr.length];exact d7.ok p1 hr _ ofI⟩
  ·obtain⟨Ln,q,rk⟩:=ro;exact .inr (.inr ⟨a,Ln,rfl,q,by rw[<-rk.length];exact d7.ok p1 hr _ ofI⟩)
  ·exact p1.elim
def oG{f:List D->M α}{K:α->List Addr->DH->Hp->Prop}(h:v5 c μ G H)(rv:d9 c μ H (.ref r) v)(p:d7 c Z μ H (((O4 r >>= listOf) >>= f) G) K):
 ∃l a vs,v= .ref a/\u0 c μ H l vs/\SqL c.K H a vs/\d7 c Z μ H (f l G) K:=by
 obtain⟨l,a,vs,rfl,rl,p2,hq⟩:=iM h rv p;refine⟨l,a,vs,rfl,rl,?_,p2⟩;rcases hq with⟨z,_⟩|⟨_,_,_,⟨_,q⟩|⟨_,q⟩⟩
 ·cases z
 ·exact SqL.of q
 ·exact q.sq
def Mj:W8 X Z (.type "tuple") Z9:=W8.of Tf λxs H Q Lo=>Lo.elim λds μ G rl hr p=>by
 rcases ds with _|⟨_|_|_|_|l|i|_|_,_|⟨_,_⟩⟩<;>try exact p.elim
 all_goals (delta Z9 at p;dsimp only at p)
 ·obtain⟨v,rfl,r⟩:=D7 rl;have r':=r;unfold d9 at r';obtain⟨a,vs,rfl,q,Mr⟩:=r';exact⟨a,vs,rfl,.inr ⟨q,d7.ok p hr _ r⟩⟩
 ·obtain⟨v,rfl,r⟩:=D7 rl;obtain⟨l,a,vs,rfl,Mr,q,p2⟩:=oG hr r p;exact⟨a,vs,rfl,.inl ⟨q,λl' hl=>OH hr Mr p2 l' hl⟩⟩
def qX:W8 X Z (.type "list") AB:=W8.of Dc λxs H Q Lo=>Lo.elim λds μ G rl hr p=>by
 rcases ds with _|⟨_|_|_|_|l|i|_|_,_|⟨_,_⟩⟩<;>try exact p.elim
 all_goals (delta AB at p;dsimp only at p)
 ·obtain⟨v,rfl,r⟩:=D7 rl;unfold d9 at r;obtain⟨a,vs,rfl,q,Mr⟩:=r;exact⟨a,vs,rfl,.inr q,λl' hl=>U6 hr Mr p l' hl⟩
 ·obtain⟨v,rfl,r⟩:=D7 rl;obtain⟨l,a,vs,rfl,Mr,q,p2⟩:=oG hr r p;exact⟨a,vs,rfl,.inl q,λl' hl=>U6 hr Mr p2 l' hl⟩
def Pp(hc:X.calm=true):W8 X Z (.builtin "min") pE:=W8.of (Lk hc) λxs H Q Lo=>Lo.elim λds μ G rl hr p=>by
 delta pE at p;rcases ds with _|⟨_|_|i|_|_|_|_|_,t⟩<;>try exact p.elim
 rcases t with _|⟨_|_|j|_|_|_|_|_,_|⟨_,_⟩⟩<;>try exact p.elim
 obtain⟨v,w,rfl,r,r'⟩:=AW rl;exact⟨_,_,by rw[C2 r,C2 r'],d7.ok p hr _ ofI⟩
def Ci(hc:X.calm=true):W8 X Z (.builtin "max") BK:=W8.of (wv hc) λxs H Q Lo=>Lo.elim λds μ G rl hr p=>by
 delta BK at p;rcases ds with _|⟨_|_|i|_|_|_|_|_,t⟩<;>try exact p.elim
 rcases t with _|⟨_|_|j|_|_|_|_|_,_|⟨_,_⟩⟩<;>try exact p.elim
 obtain⟨v,w,rfl,r,r'⟩:=AW rl;exact⟨_,_,by rw[C2 r,C2 r'],d7.ok p hr _ ofI⟩
def Ak:W8 X Z (.builtin "abs") GE:=W8.of ue λxs H Q Lo=>Lo.elim λds μ G rl hr p=>by
 rcases ds with _|⟨_|_|_|_|_|_|_|_,_|⟨_,_⟩⟩<;>try exact p.elim
 all_goals (delta GE at p;dsimp only at p)
 ·obtain⟨v,rfl,r⟩:=D7 rl;exact⟨_,by rw[C2 r],d7.ok p hr _ ofI⟩
theorem pU:∀ {l} {ns} {vs} {us},tD l=some ns->u0 c μ H l vs->u6 vs us->us.length=ns.length/\∀i u,us[i]? =some u->∃t,u=Value.int (ns.getD i 0) t
|[],_,_,_,e,r,q=>by cases e;cases r;cases q;exact⟨rfl,λi u h=>by simp at h⟩
|d::ds,ns,_,_,e,r,q=>by
  obtain⟨v,t,rfl,r0,rt⟩:=r
  cases q with
  |cons q0 qt=>
    rcases d with _|_|n|_|_|_|_|_<;>try (cases e;done)
    ·
      replace e:(tD ds).map (n :: ·)=some ns:=e;rcases h:tD ds with _|ms
      ·rw[h]at e;exact v8 e
      ·
        rw[h]at e
        cases e
        obtain⟨h1,h2⟩:=pU h rt qt;refine⟨by simp[h1],λi u hu=>?_⟩
        cases i with
        |zero=>
          simp at hu;subst hu;rw[C2 r0]at q0;exact q0
        |succ i=>simpa using h2 i u (by simpa using hu)
theorem oU:∀ {l} {bs} {vs} {us},ND l=some bs->u0 c μ H l vs->u6 vs us->us.length=bs.length/\∀i u,us[i]? =some u->u=Value.bool (bs.getD i false)
|[],_,_,_,e,r,q=>by cases e;cases r;cases q;exact⟨rfl,λi u h=>by simp at h⟩
|d::ds,ns,_,_,e,r,q=>by
  obtain⟨v,t,rfl,r0,rt⟩:=r
  cases q with
  |cons q0 qt=>
    rcases d with _|n|_|_|_|_|_|_<;>try (cases e;done)
    ·
      replace e:(ND ds).map (n :: ·)=some ns:=e;rcases h:ND ds with _|ms
      ·rw[h]at e;exact v8 e
      ·
        rw[h]at e
        cases e
        obtain⟨h1,h2⟩:=oU h rt qt;refine⟨by simp[h1],λi u hu=>?_⟩
        cases i with
        |zero=>
          simp at hu;subst hu;rw[wB r0]at q0;exact q0
        |succ i=>simpa using h2 i u (by simpa using hu)
def ko(bs:List Bool):((zP bs.length).all λi=>bs.getD i false)=bs.all id:=by
 induction bs with
 |nil=>rfl
 |cons b t ih=>rw[zM,Zl,jm,Zm,jm];simp[Yg];rw[<-ih];simp
def VZ{σ:St}{a:Addr}{Ll:List zm}(hc:X.calm=true)(I:Inv X Li σ H s)(hl:s.heap.IsList a Ll.toArray)
 (h:Walks X.prog X.w X.A.in1 s.heap.objs.size [s.heap.objs.size,a] [s.heap.objs.size] Ll.toArray.size (λi v=>Ll.toArray[i]? =some v) (λi h=>h.IsListIter s.heap.objs.size a i/\h.IsList a Ll.toArray)->
   ∀h2:Heap,(h2.IsListIter s.heap.objs.size a 0/\h2.IsList a Ll.toArray)->(∀b∈ [s.heap.objs.size,a],b<h2.objs.size)->(∀h' tk,(∀b o,b∉ [s.heap.objs.size]->h2.get? b=some o->h'.get? b=some o)->Inv X Li σ H {s with heap:=h',toks:=tk})->Q (.ref s.heap.objs.size) {s with heap:=h2}):
 zt (zI X.prog X.w) X.A.in1 (Jo (.ref a)) Q E s:=by
 have Lu:a<s.heap.objs.size:=by obtain⟨_,e,_⟩:=hl;exact zC e
 refine YU hl ?_;have hh:X.A.in1.handled=none:=I.ok.hd hc;refine h (Walks.list hh s.heap.objs.size a (zQ Lu) Ll.toArray) _ ⟨⟨_,zu _ rfl,rfl,rfl⟩,hl.push _⟩ (λb hb=>?_) λh' tk k=>?_
 ·rw[jN];simp only[zn,zF,or_false]at hb;rcases hb with rfl|rfl
  ·exact yZ _
  ·exact yp Lu
 ·exact I.kept λb o e=>k b o (by simp only[zi];exact zQ (zC e)) (zc _ e)
def ky(hc:X.calm=true):W8 X Z (.builtin "all") d6:=⟨by
 intro Li s σ H xs us Q I r Lo;obtain⟨ds,μ,G,rl,hr,p⟩:=Lo;obtain⟨i,rfl⟩:=uy p rfl (λa _ _=>by cases a<;>rfl) rfl (λ_=>rfl) (λ_=>rfl) (λ_=>rfl) (λ_=>rfl) (λ_=>rfl) λ_=>rfl
 ·obtain⟨v,rfl,rv⟩:=D7 rl;obtain⟨u,rfl,ru⟩:=C9 r;obtain⟨l,a,vs,rfl,Mr,q,p2⟩:=oG hr rv p
  cases ru
  obtain⟨bs,en,p3⟩:=gC p2;obtain⟨Ll,rr,pl,hz⟩:=I.list q;obtain⟨h1,h2⟩:=oU en Mr rr;refine call_all_walk (VZ hc I pl.isList λW g hg hb hk=>⟨_,_,_,_,_,_,λi=>bs.getD i false,rfl,W,hg,λi v s' Q' E' hv hq=>?_,λh' tk k=>?_⟩)
  ·rw[h2 i v (by simpa using hv)];exact Zz hq
  ·refine⟨.bl (bs.all id),H,hk h' tk k,?_,d7.ok p3 hr _ ofB⟩;have e:Ll.toArray.size=bs.length:=by rw[zr];exact h1
   rw[e,ko];rfl⟩
def Eb(hg:Gl X x)(hm:X.mg x=none)(hv:jp x=some (.type n))(hn:x≠ "__name__")(hd:(x==("__debug__" :Str))=false):DE X Z (.Name x pos) (cE (.ty n)):=
 uG (v:=.ty n) (IZ hg hm hv rfl hn hd) λ_ _=>by unfold d9;rfl
end
def F7:D->M Bool:=λx=>match x with
| .non=>pure false
| .bl b=>pure b
| .int i=>pure (i != 0)
| .str y=>if y.length<=zj then pure ((y.length:Int) != 0)else M.stuck
| .tup l=>pure (!l.isEmpty)
| .ref r=>do
  match <-O4 r with
  | .lst l=>pure (!l.isEmpty)
  | .rol l=>pure (!l.isEmpty)
  | .dct l=>pure (!l.isEmpty)
  | .rod _=>M.stuck
|_=>M.stuck
def J7(f:Fe):DSt->M Bool:=λσ=>do F7 (<-f σ)
section
def gE(r:u0 cc μ H l vs):vs.isEmpty=l.isEmpty:=by
 cases l with
 |nil=>cases r;rfl
 |cons _ _=>obtain⟨_,_,rfl,_⟩:=r;rfl
def qT(r:u3 cc μ H l vs):vs.isEmpty=l.isEmpty:=by
 cases l with
 |nil=>cases r;rfl
 |cons _ _=>obtain⟨_,_,rfl,_⟩:=r;rfl
def mv(ha:DE X Z a fa)(he:∀whole,isTrue a X.env whole= (do let v <-whole;standAt a.pos;Yq [v] (truthy v))):DT X Z a (J7 fa):=
 DT.of (dl ha.h he) λσ H Q Lo=>Lo.elim λX9 μ G s h p=>⟨X9,μ,G,s,h,(d7.bind p).mono λd X0 G1 H1 x1 h1 p1 v rv=>by
  cases d with
  |non=>rw[VG rv];exact⟨false,rfl,d7.ok p1 h1⟩
  |bl b=>rw[wB rv];exact⟨b,rfl,d7.ok p1 h1⟩
  |int b=>rw[C2 rv];exact⟨_,rfl,d7.ok p1 h1⟩
  |str y=>
    rw[P6 rv];unfold F7 at p1;dsimp only at p1;split at p1
    ·rename_i hz;exact⟨_,⟨hz,rfl⟩,d7.ok p1 h1⟩
    ·exact p1.elim
  |tup l=>
    unfold d9 at rv;obtain⟨a,vs,rfl,q,rl⟩:=rv;exact⟨!vs.isEmpty,.inr (.inl ⟨vs,q,rfl⟩),by rw[gE rl];exact d7.ok p1 h1⟩
  |ref r=>
    unfold d9 at rv;obtain⟨a,m,rfl⟩:=rv;obtain⟨o,g,p2⟩:=K8 p1;have ro:=h1.obj r o a g m
    cases o with
    |lst l=>obtain⟨vs,q,rl⟩:=ro;exact⟨!vs.isEmpty,.inl ⟨vs,SqL.of q,rfl⟩,by rw[gE rl];exact d7.ok p2 h1⟩
    |rol l=>obtain⟨vs,q,rl⟩:=ro;exact⟨!vs.isEmpty,.inl ⟨vs,q.sq,rfl⟩,by rw[gE rl];exact d7.ok p2 h1⟩
    |dct l=>obtain⟨vs,q,rl⟩:=ro;exact⟨!vs.isEmpty,.inr (.inr ⟨vs,q,rfl⟩),by rw[qT rl];exact d7.ok p2 h1⟩
    |rod l=>exact p2.elim
  |_=>exact p1.elim⟩
def VJ(o o':D->D->M D)(fa fb fc:Fe):Fe:=λσ=>do
 let x <-fa σ
 let y <-fb σ
 if <-qG (<-o x y)then o' y (<-fc σ)else pure (.bl false)
def QX(ho:OpD X Z (jf op) o)(ho':OpD X Z (jf op') o')(ha:DE X Z a fa)(hb:DE X Z b fb)(hc:DE X Z c fc)
 (hm:lastMarks [op,op'] [b,c]=false):DE X Z (.Compare a [op,op'] [b,c] pos) (VJ o o' fa fb fc):=
 DE.of (sX ho.h ho'.h ha.h hb.h hc.h hm) λσ H Q Lo=>Lo.elim λX9 μ G s h p=>⟨X9,μ,G,s,h,(d7.bind p).mono λx X0 G1 H1 x1 h1 p1 v rv=>
  ⟨X9,X0,G1,s.mono x1,h1,(d7.bind p1).mono λy WT G2 H2 x2 h2 p2 u ru=>⟨x,y,WT,G2,rv.mono x2,ru,h2,(d7.bind p2).mono λz μ3 G3 H3 x3 h3 p3 w rw'=>by
   obtain⟨k,rfl,p4⟩:=GT p3;refine⟨k,wB rw',?_⟩
   cases k with
   |true=>exact⟨X9,μ3,G3,s.mono (x1.trans (x2.trans x3)),h3,(d7.bind p4).mono λt μ4 G4 H4 x4 h4 p5 q rq=>⟨y,t,μ4,G4,ru.mono (x3.trans x4),rq,h4,p5⟩⟩
   |false=>exact d7.ok p4 h3 _ ofB⟩⟩⟩
end
def SH(osc scope:Scope)(N XN:List Str)(caps:List (Option Nat)):Bool:=
 decide (scope.kind= .function)&&scope.names.all (λy=>decide (y.2≠ .cell))&&scope.names.all (λy=>decide (y.2= .local->scope.names.lookup y.1=some .local)) &&
 scope.names.all (λy=>decide (y.2= .free->(osc.names.lookup y.1=some .cell\/osc.names.lookup y.1=some .free)))&&scope.names.all (λy=>decide (y.2= .free->scope.names.lookup y.1=some .free)) &&
 decide (caps.length=N.length)&&(zP caps.length).all λi=>match caps[i]? with
  |some (some j)=>match N[i]?,XN[j]? with
    |some x,some y=>decide (x=y)&&decide ((x,NameKind.free)∈scope.names)
    |_,_=>false
  |_=>true
def a9.of{caps:List (Option Nat)}(h:SH osc scope N XN caps=true)(hs:X.env.scope=osc)(hN:X.N=XN):a9 X scope N caps:=by
 unfold SH at h;simp only[zy,decide_eq_true_eq,zH]at h;obtain⟨⟨⟨⟨⟨⟨h1,h2⟩,h3⟩,h4⟩,h5⟩,h6⟩,h7⟩:=h;refine⟨h1,h2,h3,λy hy e=>?_,h5,h6,λi j e=>?_⟩
 ·have:=h4 y hy e;show X.env.scope.names.lookup y.1=_\/X.env.scope.names.lookup y.1=_;rw[hs];exact this
 ·have hi:i∈zP caps.length:=by rw[jy];exact lt_of_get e
  have q:=h7 i hi;simp only[e]at q;rw[hN];split at q
  ·rename_i x y e1 e2;simp only[zy,decide_eq_true_eq]at q;exact⟨x,e1,by rw[e2,q.1],q.2⟩
  ·exact B7 q
def v7(m:Nat)(fb:Fs):List D->M D:=λds=>do
 match <-fb (ds.map some++jx (m-ds.length) none) with
 | .nx _=>pure .non
 | .rt d=>pure d
 |_=>M.stuck
structure FF(K:zo)(mg:Str->Option zm)(x:Str)(st:Stmt)(ps:List Str)(f:Addr)(fd:xW):Prop where
 F:Fun K x x st f fd
 b:qB K fd ps []
 m:mg x=some (.ref f)
def Gw(r:u0 c μ H ds vs):K5 c μ H (ds.map some++jx (N.length-ds.length) none) (L2.start N vs):=by
 unfold L2.start;rw[r.length];refine⟨by simp[r.length],λi d e=>?_⟩;by_cases hi:i<ds.length
 ·rw[zE (by simpa using hi),jl]at e;have hd:ds[i]? =some d:=by
   cases h:ds[i]? with
   |none=>rw[h]at e;exact v8 e
   |some d'=>rw[h]at e;simpa using e
  obtain⟨v,hv,rv⟩:=r.get hd;refine⟨v,?_,rv⟩;rw[zE (by simp;rw[<-r.length];exact hi),jl,hv];rfl
 ·rw[xb (by simpa using hi),List.getElem?_replicate]at e;split at e<;>cases e
def wQ{w:jg}{K:zo}{base:Heap}{x:Str}{st:Stmt}{f:Addr}{k n m:Nat}{fb:Fs}(F:FF K mg x st ps f fd)(S:L9 N ps (K1 st))(hn:ps.length=n)(hm:N.length=m)
 (hbody:∀(Ms:zm) (A:js) (outer:List Env) (s:zA) (H:Hp) (E:XK),U1 k (A.deeper (Xd x (K1 st) s.heap.objs.size f Ms))->DB (OA CX0 P w K mg base N x (K1 st) f Ms A outer s H E).nox ZF (P8 st) fb):
 F4 P w K mg base CX0 (k+1) f fd ps (spD ⟨K,mg⟩ n (v7 m fb)):=by
 refine F.F.ok S (λvs H Q E h=>by rw[hn];exact h.1) λMs A outer s H vs Q E hr h=>⟨_,(hbody Ms A outer s H E hr).h,?_⟩;obtain⟨hl,ds,μ,G,rl,hG,p⟩:=h;subst hm;refine⟨_,μ,G,Gw rl,hG,(d7.bind p).mono λfl X0 G1 H1 x1 h1 p1=>?_⟩
 cases fl with
 |nx X9=>exact λσ _=>d7.ok p1 h1 _ ofN
 |rt d=>exact λv rv=>d7.ok p1 h1 v rv
 |bk _=>exact p1.elim
 |ct _=>exact p1.elim
def RH(K:zo):Sp:=λvs H Q _=>∃(a:Addr) (ns:List Int),vs= [.ref a]/\SqL K H a (ns.map V.int)/\PJ H/\ns.length<=63/\∀H',Q (.bl true) H'
def oQ:∀ns:List Int,u0 c μ H (ns.map D.int) (ns.map V.int)
|[]=>rfl
|n::t=>⟨.int n,_,rfl,ofI,oQ t⟩
def bx{w:jg}{K:zo}{base:Heap}{f:Addr}{k:Nat}(hF:F4 P w K mg base CX0 k f fd ["script"] (spD ⟨K,mg⟩ 1 F))
 (pure:∀ns:List Int,ns.length<=63->∃G',F [.ref 0] [.rol (ns.map D.int)]=some (.ok (.bl true),G')):F4 P w K mg base CX0 k f fd ["script"] (RH K):=
 hF.imp λvs H Q E h=>by
  obtain⟨a,ns,rfl,hS,hO,hl,q⟩:=h;obtain⟨G',e⟩:=pure ns hl;refine⟨rfl, [.ref 0], [a], [.rol (ns.map D.int)],⟨.ref a, [],rfl,by unfold d9;exact⟨a,rfl,rfl⟩,rfl⟩,⟨rfl,λi j b e1 e2=>?_,λi o b e1 e2=>?_⟩,?_⟩
  ·have h1:=lt_of_get e1;have h2:=lt_of_get e2;simp at h1 h2;left;lia
  ·have h1:=lt_of_get e2;simp at h1;subst h1;have e1':o= .rol (ns.map D.int):=by simpa using e1.symm
   have e2':b=a:=by simpa using e2.symm
   subst e1' e2';refine⟨ns.map V.int,?_,oQ ns⟩;rcases hS with(hS|⟨o,hS⟩)|hS
   ·rcases hO b with z|⟨o,xs,z⟩
    ·rw[z]at hS;exact v8 hS
    ·rw[z]at hS;cases hS
   ·exact .inl ⟨o,hS⟩
   ·exact .inr (.inr hS)
  ·rw[e];exact λX2 H' _ _ v rv=>by rw[wB rv];exact q H'
def Hn:jp "len" =some (.builtin "len"):=by decide +kernel
def vd:jp "isinstance" =some (.builtin "isinstance"):=by decide +kernel
def rn:jp "all" =some (.builtin "all"):=by decide +kernel
def ip:jp "min" =some (.builtin "min"):=by decide +kernel
def ki:jp "max" =some (.builtin "max"):=by decide +kernel
def wX:jp "abs" =some (.builtin "abs"):=by decide +kernel
def GG:jp "sorted" =some (.builtin "sorted"):=by decide +kernel
def nk:jp "tuple" =some (.type "tuple"):=by decide +kernel
def KO:jp "list" =some (.type "list"):=by decide +kernel
def uO:jp "zip" =some (.type "zip"):=by decide +kernel
end DL
namespace DL
open PySem L2
def Wp{α:Type}(m:M α)(G:DH)(Q:α->DH->Prop):Prop:=∃a G',m G=some (.ok a,G')/\Q a G'
section
def Wp.mono(h:Wp m G Q)(k:∀a G',Q a G'->Q' a G'):Wp m G Q':=let ⟨a,G',e,q⟩:=h;⟨a,G',e,k a G' q⟩
def wp_pure:Wp (pure a) G Q↔Q a G:=by
 constructor
 ·rintro⟨b,G',e,q⟩
  cases e
  exact q
 ·exact λq=>⟨a,G,rfl,q⟩
def AD:Wp (M.stuck:M α) G Q↔False:=by
 constructor
 ·rintro⟨b,G',e,q⟩;exact v8 e
 ·exact xu
def m6:Wp (m >>= f) G Q↔Wp m G λa G1=>Wp (f a) G1 Q:=by
 constructor
 ·rintro⟨a,G',e,q⟩;rw[M.bind_eq]at e
  match h:m G,e with
  |some (.ok b,G1),e=>exact⟨b,G1,h,a,G',e,q⟩
 ·rintro⟨b,G1,e,a,G',e',q⟩;exact⟨a,G',by rw[M.bind_ok e];exact e',q⟩
def AA(h:m G=some (.ok a,G')):Wp m G Q↔Q a G':=⟨fun⟨b,G2,e,q⟩=>by rw[h]at e;cases e;exact q,λq=>⟨a,G',h,q⟩⟩
def rA:Wp (D3 o) G Q↔∃a,o=some a/\Q a G:=by
 rcases o with _|a
 ·
   constructor
   ·rintro⟨_,_,e,_⟩;exact v8 e
   ·rintro⟨_,e,_⟩;exact v8 e
 ·
   constructor
   ·rintro⟨_,_,e,q⟩
    cases e
    exact⟨_,rfl,q⟩
   ·rintro⟨_,e,q⟩
    cases e
    exact⟨_,_,rfl,q⟩
def O8{Q:DO->DH->Prop}:Wp (O4 r) G Q↔∃o,G[r]? =some o/\Q o G:=by
 constructor
 ·rintro⟨a,G',e,q⟩;delta O4 at e;rcases h:G[r]? with _|o
  ·rw[h]at e;exact v8 e
  ·rw[h]at e;cases e;exact⟨_,rfl,q⟩
 ·rintro⟨o,e,q⟩;refine⟨o,G,?_,q⟩;delta O4;rw[e]
def U4{Q:DPP}:Wp (N7 o) G Q↔Q (.ref G.length) (G++[o]):=AA rfl
def sE{Q:Unit->DH->Prop}:Wp (E7 r o) G Q↔Q () (G.set r o):=AA rfl
def R4:Wp (T7 i σ) G Q↔∃d,σ[i]? =some (some d)/\Q d G:=by
 constructor
 ·rintro⟨d,G',e,q⟩;delta T7 at e;rcases h:σ[i]? with _|o
  ·rw[h]at e;exact v8 e
  ·
    rw[h]at e;rcases o with _|d'
    ·exact v8 e
    ·cases e;exact⟨_,rfl,q⟩
 ·rintro⟨d,h,q⟩;exact⟨d,G,by delta T7;rw[h],q⟩
def E4:Wp (cE d σ) G Q↔Q d G:=wp_pure
def y9:Wp (m9 o a b σ) G Q↔Wp (a σ) G λx G1=>Wp (b σ) G1 λy G2=>Wp (o x y) G2 Q:=by unfold m9;simp only[m6]
def HL:Wp (unE o a σ) G Q↔Wp (a σ) G λx G1=>Wp (o x) G1 Q:=by unfold unE;simp only[m6]
def oB:Wp (if k=true then m else n) G R↔if k=true then Wp m G R else Wp n G R:=by cases k<;>exact Iff.rfl
def kL:Wp (qG d) G B↔∃k,d= .bl k/\B k G:=by
 constructor
 ·rintro⟨k,G',e,q⟩;rcases d with _|b|_|_|_|_|_|_<;>try (cases e;done)
  ·cases e;exact⟨_,rfl,q⟩
 ·rintro⟨k,e,q⟩;subst e;exact⟨k,G,rfl,q⟩
def Gs:Wp (iD a σ) G Q↔Wp (a σ) G λx G1=>∃k,x= .bl k/\Q (.bl (!k)) G1:=by unfold iD;simp only[m6,kL,wp_pure]
def eW:Wp (ifE t a b σ) G Q↔Wp (t σ) G λk G1=>if k=true then Wp (a σ) G1 Q else Wp (b σ) G1 Q:=by unfold ifE;simp only[m6,oB]
def lE:Wp (sA a σ) G B↔Wp (a σ) G λx G1=>∃k,x= .bl k/\B k G1:=by unfold sA;simp only[m6,kL]
def W0:Wp (J7 a σ) G B↔Wp (a σ) G λx G1=>Wp (F7 x) G1 B:=by unfold J7;simp only[m6]
def iH:Wp (B3 t u σ) G B↔Wp (t σ) G λk G1=>if k=true then Wp (u σ) G1 B else B false G1:=by unfold B3;simp only[m6,oB,wp_pure]
def eU:Wp (orT t u σ) G B↔Wp (t σ) G λk G1=>if k=true then B true G1 else Wp (u σ) G1 B:=by unfold orT;simp only[m6,oB,wp_pure]
def RD:Wp (C3 t σ) G B↔Wp (t σ) G λk G1=>B (!k) G1:=by unfold C3;simp only[m6,wp_pure]
def o8:Wp (K0 σ) G R↔R [] G:=wp_pure
def R5:Wp (A0 a fs σ) G R↔Wp (a σ) G λx G1=>Wp (fs σ) G1 λxs G2=>R (x::xs) G2:=by unfold A0;simp only[m6,wp_pure]
def U3:Wp (P2 F fs σ) G Q↔Wp (fs σ) G λds G1=>Wp (F ds) G1 Q:=by unfold P2;simp only[m6]
def gI{α:Type}{m:M α}{R:α->DH->Prop}:Wp (noX m) G R↔Wp m G R:=by
 constructor
 ·rintro⟨x,G',e,q⟩;delta noX at e;rcases h:m G with _|p
  ·rw[h]at e;exact v8 e
  ·
    rw[h]at e;obtain⟨_|y,G1⟩:=p
    ·exact v8 e
    ·cases e;exact⟨_,_,h,q⟩
 ·rintro⟨x,G',e,q⟩;exact⟨x,G',by delta noX;rw[e],q⟩
def V0:Wp (fnX n F ds) G Q↔ds.length=n/\Wp (F ds) G Q:=by
 unfold fnX;by_cases h:ds.length=n
 ·rw[if_pos h,gI];exact⟨λq=>⟨h,q⟩,λq=>q.2⟩
 ·rw[if_neg h];exact⟨λq=>(AD.mp q).elim,λq=>(h q.1).elim⟩
def R7:Wp (X4 fs σ) G Q↔Wp (fs σ) G λxs G1=>xs.length<=zj/\Q (.tup xs) G1:=by
 unfold X4;simp only[m6];constructor
 ·rintro⟨xs,G1,e,q⟩;refine⟨xs,G1,e,?_⟩;by_cases h:xs.length<=zj
  ·rw[if_pos h]at q;exact⟨h,wp_pure.mp q⟩
  ·rw[if_neg h]at q;exact(AD.mp q).elim
 ·rintro⟨xs,G1,e,h,q⟩;exact⟨xs,G1,e,by dsimp only;rw[if_pos h];exact wp_pure.mpr q⟩
def bC:Wp (Q6 fs σ) G Q↔Wp (fs σ) G λxs G1=>xs.length<=zj/\Q (.ref G1.length) (G1++[.lst xs]):=by
 unfold Q6;simp only[m6];constructor
 ·rintro⟨xs,G1,e,q⟩;refine⟨xs,G1,e,?_⟩;by_cases h:xs.length<=zj
  ·rw[if_pos h]at q;exact⟨h,U4.mp q⟩
  ·rw[if_neg h]at q;exact(AD.mp q).elim
 ·rintro⟨xs,G1,e,h,q⟩;exact⟨xs,G1,e,by dsimp only;rw[if_pos h];exact U4.mpr q⟩
def t8:Wp (M7 σ) G P↔P (.nx σ) G:=wp_pure
def d8:Wp (o6 f g σ) G P↔Wp (f σ) G λfl G1=>match fl with
 | .nx X1=>Wp (g X1) G1 P
 |r=>P r G1:=by
 delta o6;refine Iff.trans m6 ?_;constructor
 ·rintro⟨fl,G1,e,q⟩;refine⟨fl,G1,e,?_⟩
  cases fl<;>first
   |exact q
   |exact wp_pure.mp q
 ·rintro⟨fl,G1,e,q⟩;refine⟨fl,G1,e,?_⟩
  cases fl<;>first
   |exact q
   |exact wp_pure.mpr q
def nA:Wp (u9 a σ) G P↔Wp (a σ) G λd G1=>P (.rt d) G1:=by unfold u9;simp only[m6,wp_pure]
def GA:Wp (d5 a σ) G P↔Wp (a σ) G λ_ G1=>P (.nx σ) G1:=by unfold d5;simp only[m6,wp_pure]
def uC:Wp (ifS t f g σ) G P↔Wp (t σ) G λk G1=>if k=true then Wp (f σ) G1 P else Wp (g σ) G1 P:=by unfold ifS;simp only[m6,oB]
def RB:Wp (M3 a gg σ) G P↔Wp (a σ) G λd G1=>Wp (gg d σ) G1 λX1 G2=>P (.nx X1) G2:=by unfold M3;simp only[m6,wp_pure]
def R6:Wp (A4 i d σ) G S↔S (σ.set i (some d)) G:=wp_pure
def HA:Wp (v7 m f ds) G Q↔Wp (f (ds.map some++jx (m-ds.length) none)) G λfl G1=>match fl with
 | .nx _=>Q .non G1
 | .rt d=>Q d G1
 |_=>False:=by
 delta v7;refine Iff.trans m6 ?_;constructor
 ·rintro⟨fl,G1,e,q⟩;refine⟨fl,G1,e,?_⟩
  cases fl<;>first
   |exact wp_pure.mp q
   |exact AD.mp q
 ·rintro⟨fl,G1,e,q⟩;refine⟨fl,G1,e,?_⟩
  cases fl<;>first
   |exact wp_pure.mpr q
   |exact AD.mpr q
def oi(o:Option Bool)(g:Bool->Bool)(G:DH):Option (Except Str D×DH):=match o with
|some b=>some (.ok (.bl (g b)),G)
|none=>none
def AH{g:Bool->Bool}(h:m G=oi o g G):Wp m G Q↔∃k,o=some k/\Q (.bl (g k)) G:=by
 unfold Wp;rw[h];rcases o with _|k
 ·
   constructor
   ·rintro⟨_,_,e,_⟩;exact v8 e
   ·rintro⟨_,e,_⟩;exact v8 e
 ·
   constructor
   ·rintro⟨_,_,e,q⟩
    cases e
    exact⟨_,rfl,q⟩
   ·rintro⟨_,e,q⟩
    cases e
    exact⟨_,_,rfl,q⟩
def LD:Wp (eqD x y) G Q↔∃k,eqN 40 G x y=some k/\Q (.bl k) G:=AH rfl
def iI:Wp (neD x y) G Q↔∃k,eqN 40 G x y=some k/\Q (.bl (!k)) G:=AH rfl
def nV:Wp (ltD x y) G Q↔∃k,ltN 40 G x y=some k/\Q (.bl k) G:=AH rfl
def qJ(hT:Ty.of n=some T):Wp (v4 [d,.ty n]) G Q↔∃k,D5 G d=some k/\Q (.bl (k.is T)) G:=by
 have e:v4 [d,.ty n] G=match D5 G d with|some k=>some (.ok (.bl (k.is T)),G)|none=>none:=by
  delta v4;dsimp only;rw[hT]
  cases D5 G d<;>rfl
 unfold Wp;rw[e];rcases D5 G d with _|k
 ·
   constructor
   ·rintro⟨_,_,e,_⟩;exact v8 e
   ·rintro⟨_,e,_⟩;exact v8 e
 ·
   constructor
   ·rintro⟨_,_,e,q⟩
    cases e
    exact⟨_,rfl,q⟩
   ·rintro⟨_,e,q⟩
    cases e
    exact⟨_,_,rfl,q⟩
end
end DL
namespace DL
open PySem PySem.Spec L2
open PyProof.Rows hiding St
section
def Qj(hc:X.calm=true)(hi:DI X Z tg iter it)(k:a9 X scope N caps)
 (hg:∀C s H ex,DG (T6 X scope N C s H ex) ZF tg gg) (ht:∀C s H ex,DTs (T6 X scope N C s H ex) ZF ifs tt) (he:∀C s H ex,DE (T6 X scope N C s H ex) ZF elt fe)
 (hs:∀x,xo iter X.env x=pure x) (hgo:DG X Z (.Name y py) g2) (hsw:swapsWith (.ListComp elt [⟨tg,iter,ifs,0⟩] scope pos) (some (.Name y py)) spos.line X.env=pure true):
 DS X Z (.Assign [.Name y py] (.ListComp elt [⟨tg,iter,ifs,0⟩] scope pos) spos) (M3 (J8 it caps gg tt fe) g2):=by
 refine⟨?_⟩;intro Li s σ H En I Lo;refine Lo.elim λX9 μ G sr hr p0=>?_;obtain⟨Q,hQ,p⟩:∃Q:VK,(∀v H',Q v H'->eF (wc X) Z g2 v σ H' En.nx)/\d7 (wc X) Z μ H (J8 it caps gg tt fe X9 G) λd X2 _ H'=>∀v,d9 (wc X) X2 H' d v->Q v H':=
  ⟨λv H'=>eF (wc X) Z g2 v σ H' En.nx,λ_ _ z=>z,(d7.bind p0).mono λd X0 G1 H1 x' h1 p1 v rv=>⟨d,X9,X0,G1,rv,sr.mono x',h1,(d7.bind p1).mono λdσ2 WT G2 H2 x2 h2 p2 σ2 s2=>d7.ok p2 h2 σ2 s2⟩⟩
 rw[exec_Assign_Name_used _ _ _ _ hsw];refine za (wpAny_standAt (za ?_));show zt _ X.A (do let _ <-comprehension (.ListComp elt [⟨tg,iter,ifs,0⟩] scope pos) scope X.env _ (newList []) false (eval iter X.env) (some (Xs (.Name y py) X.env))) _ _ s;refine za (yg (dS hc hi k hg ht he hs I sr hr p λDD C s4 H' m o hn fin hCn hf q9=>?_) (λ_ s' hq=>zf (zf hq)) λ_ _ e=>e);have fC:∀ {H9:Hp},H9 C=none->∀b∈ [C],L5 X Li H9 b:=λ{H9} hn9 b hb=>by rw[zi]at hb;subst hb;exact hf H9 hn9
 obtain⟨oC,zC1,zC2,hoC,zC3⟩:=id hn;have I5:=(fin s4.heap ⟨rfl,λ_ _=>rfl⟩).pinned (fC hCn) (λb hb=>by rw[zi]at hb;subst hb;exact⟨oC,hoC,λv z=>by first|(rw[zC3.1]at z;cases z)|(rw[zC3.2.1]at z;cases z)⟩)
 refine thn (hgo.h _ s4 σ H' (.ref DD) (.ref DD) _ I5 rfl (hQ _ _ q9)) λ_ s5 ⟨σ5,H5,I6,q6⟩=>?_;obtain⟨g5,g5n,_⟩:=I6.pin (C,oC) (zS _ (zS _ (EG (by simp) hoC)));refine⟨m,hn.at' (λo e=>by rw[hoC]at e;cases e;exact g5),λh'' sb=>⟨σ5,H5,wV I6.unpinned (fC g5n) λb o hb e=>(sb.2 b (by simpa using hb)).trans e,q6⟩⟩
end
def c8:List D->Option (List Str)
|[]=>some []
| .str x::r=>(c8 r).map (x :: ·)
|_=>none
def h9:List (Key×D)->Option (List Str)
|[]=>some []
|(.inr x,_)::r=>(h9 r).map (x :: ·)
|_=>none
def leS(a b:Str):Bool:= !decide (b.cps.toList<a.cps.toList)
def W5(l:List Str):List Str:=l.mergeSort leS
def fI:leS a b=true↔a.cps.toList<=b.cps.toList:=by unfold leS;simp
def VN(a b c:Str)(h1:leS a b=true)(h2:leS b c=true):leS a c=true:=by rw[fI]at *;exact List.le_trans h1 h2
def MV(a b:Str):(leS a b||leS b a)=true:=by rw[ZP,fI,fI];exact List.le_total _ _
def wT(h1:leS a b=true)(h2:leS b a=true):a=b:=by
 rw[fI]at *;have e:a.cps.toList=b.cps.toList:=List.le_antisymm h1 h2
 cases a;cases b
 congr 1;exact Zx.mp e
theorem LU:∀l p,risingS p l=true->(p::l).Pairwise λa b=>leS a b=true
|[],p,_=>by simp
|x::r,p,h=>by
  unfold risingS at h;rw[zy]at h;have ih:=LU r x h.2;have hpx:leS p x=true:=by unfold leS;rw[<-ltCps_eq];exact h.1
  refine yK.mpr ⟨λy hy=>?_,ih⟩;rcases zn.mp hy with rfl|hy
  ·exact hpx
  ·exact VN _ _ _ hpx ((yK.mp ih).1 y hy)
def nM(hp:l'.Perm l)(hs:sortedS l'=true):l'=W5 l:=by
 have h1:l'.Pairwise λa b=>leS a b=true:=by
  rcases l' with _|⟨x,r⟩
  ·simp
  ·exact LU r x hs
 have h2:(W5 l).Pairwise λa b=>leS a b=true:=xq VN MV l;exact Yf (λa b _ _ h1 h2=>wT h1 h2) h1 h2 (hp.trans (jL l leS).symm)
section
def nq(K:PySem.W.KdlSrc prog w T r d n P OK)(hh:A.handled=none)(hok:OK s.heap)(hn:n<64)(hP:∀vs:List zm,vs.length=n->(∀(j:Nat) v,vs[j]? =some v->P j v)->StrsAre vs ss)
 (h:∀(h1 h':Heap) (tk e:Nat) out Of,(∀b o,s.heap.get? b=some o->h1.get? b=some o)->(∀b o,h1.get? b=some o->h'.get? b=some o)->h'.get? h1.objs.size=some (jQ "list" out.toArray e)->StrsAre out Of->Of.Perm ss->sortedS Of=true->Q (.ref h1.objs.size) {s with heap:=h',toks:=tk}):
 zt (zI prog w) A (call (.builtin "sorted") [.ref r]) Q E s:=by
 have hz:n<=zj:=zq (yj hn) (by decide);refine yF YY Yv Yw (Yx _) ?_;unfold yC.«sorted»;refine za (zf ?_);refine za (PySem.W.kdu_collect K hh hok hz λh1 tk Ml hk Og=>?_);have hl:Ml.toList.length=n:=by rw[zG];exact Og.1
 refine za (xL ?_ (by rw[hl];exact hz));have hS:StrsAre Ml.toList ss:=hP Ml.toList hl λj v e=>Og.2 j v (by rw[<-zN];exact e);have hoL:(h1.push (jQ "list" Ml.toList.toArray 0)).get? h1.objs.size=some (jQ "list" Ml.toList.toArray 0):=zu _ rfl;refine za (jk (jn ZE ⟨_,hoL,rfl⟩ Zj (list_sort_treeK strKind_oneLt hoL hS.keysOf (λv₁ v₂ rest e=>JF (by rw[<-e];exact hS)) (by rw[hl];exact hn) λMi a1 a2=>⟨_,rfl,?_⟩) (ZG _)));obtain⟨Of,b1,b2,b3⟩:=sorted_out_str hS a1 a2;obtain⟨e,he⟩:=Ji hoL;refine zf ⟨_,rfl,h h1 _ tk e ((Xn Mi).map (·.2)).toList Of hk (λb o hb=>?_) (by rw[ZH];exact he) b1 b2 b3⟩;have Lu:b<h1.objs.size:=zC hb;rw[XS (zQ Lu) (by rw[size_push'];exact yp Lu),Yt _ _ _ (zQ Lu)];exact hb
end
def KK:List D->M D:=λds=>match ds with
|[.ref r]=>do
  match <-O4 r with
  | .dct l=>do
    let ss <-D3 (h9 l)
    if ss.length<64 then N7 (.lst ((W5 ss).map .str))else M.stuck
  |_=>M.stuck
|_=>M.stuck
section
theorem AV:∀ {l} {ss},h9 l=some ss->ss.length=l.length
|[],_,e=>by cases e;rfl
|(.inr x,_)::r,ss,e=>by
 replace e:=show (h9 r).map (_ :: ·)=some _ from e;rcases h:h9 r with _|t
 ·rw[h]at e;cases e
 ·rw[h]at e;cases e;simp[AV h]
|(.inl _,_)::_,_,e=>by cases e
theorem gQ{w:jg}:∀ {l} {ss:List Str} {Ln} {xs} {vs},h9 l=some ss->u3 c μ H l Ln->KV Ln xs->vs.length=xs.length->
 (∀(j:Nat) (v:zm),vs[j]? =some v->∃k x,xs[j]? =some (k,x)/\(N8 P w).is k v=true)->StrsAre vs ss
 |[],_,_,xs,vs,e,r,kv,hl,hv=>by
   cases e;cases r;cases kv
   rcases vs with _|⟨_,_⟩
   ·exact .nil
   ·simp at hl
 |(.inr x,d)::t,ss,Ln,xs,vs,e,r,kv,hl,hv=>by
  replace e:=show (h9 t).map (_ :: ·)=some _ from e;rcases h:h9 t with _|q
  ·rw[h]at e;cases e
  ·
    rw[h]at e
    cases e
    obtain⟨v0,tl,rfl,r0,rt⟩:=r
    cases kv with
    |cons hk ht=>
      cases vs with
      |nil=>simp at hl
      |cons u us=>
        obtain⟨k,y,e1,e2⟩:=hv 0 u rfl;simp only[zJ,zR]at e1;have hk1:(Sum.inr x:Key)=_:=hk.1;rw[e1]at hk1;have e3:iB (.inr x) u=true:=by rw[hk1];exact e2
        rcases M6 e3 with⟨_,_,z,_⟩|⟨x',t',z,eu⟩
        ·cases z
        ·cases z
         subst eu;exact .cons _ _ (gQ h rt ht (by simpa using hl) λj v hj=>by simpa using hv (j+1) v (by simpa using hj))
 |(.inl _,_)::_,_,_,_,_,e,_,_,_,_=>by cases e
theorem kI:∀ {out} {ss},StrsAre out ss->∃vs,vs=ss.map V.str/\u6 vs out/\u0 c μ H (ss.map D.str) vs
|_,_,.nil=>⟨[],rfl,.nil,rfl⟩
|_,_,.cons x t q=>by obtain⟨vs,e,h1,h2⟩:=kI q;subst e;exact⟨_,rfl,.cons ⟨t,rfl⟩ h1,_,_,rfl,by unfold d9;rfl,h2⟩
def oZ(hc:X.calm=true):W8 X Z (.builtin "sorted") KK:=⟨by
 intro Li s σ H xs us Q I r Lo;obtain⟨ds,μ,G,rl,hr,p⟩:=Lo;rcases ds with _|⟨_|_|_|_|_|i|_|_,_|⟨_,_⟩⟩<;>try exact p.elim
 all_goals (delta KK at p;dsimp only at p)
 ·obtain⟨v,rfl,rv⟩:=D7 rl;obtain⟨u,rfl,ru⟩:=C9 r;unfold d9 at rv;obtain⟨a,m,rfl⟩:=rv
  cases ru
  obtain⟨o,g,p1⟩:=K8 p;have ro:=hr.obj i o a g m
  cases o with
  |dct l=>
    obtain⟨Ln,q,rk⟩:=ro;obtain⟨ss,es,p2⟩:=gC p1;split at p2
    case isFalse=>exact p2.elim
    rename_i Nn;obtain⟨z,hd,vs,rel,dd⟩:=RI I.hok q;obtain⟨ep,hat⟩:=dd.dictAt;have hn:vs.length=ss.length:=by rw[AV es,<-rel.length,<-rk.length]
    refine nq (PySem.W.kdl_dict hd) (I.ok.hd hc) hat (by omega) (λus hl hu=>gQ es rk rel (by omega) hu) λh1 h' tk e out Of k1 k2 he hS hp hs=>?_;have e2:=nM hp hs;subst e2;obtain⟨ws,ew,rv,rl2⟩:=kI (μ:=μ) hS;have I1:Inv X Li σ H {s with heap:=h1,toks:=tk}:=I.kept k1;have hf:=I1.hok.fresh (zh _);have Lr:ws.length<=zj:=by
     rw[ew,zd];have:=(jL ss leS).length_eq;have e3:(W5 ss).length=ss.length:=this;have:(64:Nat)<=zj:=by decide
     omega
    refine⟨.ref h1.objs.size,upd H h1.objs.size (.lst ws),I1.laid k2 (zh _) ⟨Lr,out,e,rv,he⟩,rfl,U6 hr rl2 p2 _ hf⟩
  |lst l=>exact p1.elim
  |rod l=>exact p1.elim
  |rol l=>exact p1.elim⟩
end
def Its(z:Str):It:=⟨λi _=>∃c,z.cps[i]? =some c,λi H x H'=>H'=H/\∃c,z.cps[i]? =some c/\x= .str ⟨#[c]⟩,λi _=>z.cps[i]? =none⟩
def vb{K:zo}(z:Str)(t:Tok)(it:Addr):SA P w K tg (Its z) [it] it (λi h=>h.IsStrIter it "str_ascii_iterator" z t i) where
 mem:=by simp
 obj:=λi h st b hb=>by
  have e:b=it:=by simpa using hb
  subst e;obtain⟨o,e,c,d⟩:=st;exact⟨o,e,λv z=>by rw[d]at z;cases z⟩
 keep:=λi h h' st k=>let ⟨o,ho,r⟩:=st;⟨o,k it (by simp) o ho,r⟩
 item:=by intro X hP hw hK hc i Li s σ H E I hf st hg;subst hP hw hK;obtain⟨c,hx⟩:=hg;obtain⟨f0,f1,f2,f3,f4,f5⟩:=hf it (by simp);refine wpAny_pyNext_ascii_item st hx λh' Mi sb=>?_;have I1:Inv X Li σ H {s with heap:=h',toks:=s.toks+1}:=I.turned (λb o hb e=>(sb.2 b hb).trans e) f0 f1 f3 f4 f5;obtain⟨o,e,cc,d⟩:=id Mi;exact⟨_,rfl,wE e cc d (by decide) ⟨.str ⟨#[c]⟩,H,I1,⟨_,rfl⟩,⟨rfl,c,hx,rfl⟩,Mi,λb hb=>(hf b hb).1⟩⟩
 done:=by intro X hP hw hK hc i Li s σ H E I hf st hg;subst hP hw hK;obtain⟨f0,f1,f2,f3,f4,f5⟩:=hf it (by simp);exact wpAny_pyNext_ascii_end (I.ok.hd hc) st hg λh' eb=>⟨rfl,I.turned (λb o hb e=>eb b o hb e) f0 f1 f3 f4 f5⟩
 self:=λ_ _ _ _ _ st h=>wpAny_pyIter_striter_ascii st h
def MZ{K:zo}(z:Str)(t:Tok)(it:Addr):SA P w K tg (Its z) [it] it (λi h=>h.IsStrIter it "str_iterator" z t i) where
 mem:=by simp
 obj:=λi h st b hb=>by
  have e:b=it:=by simpa using hb
  subst e;obtain⟨o,e,c,d⟩:=st;exact⟨o,e,λv z=>by rw[d]at z;cases z⟩
 keep:=λi h h' st k=>let ⟨o,ho,r⟩:=st;⟨o,k it (by simp) o ho,r⟩
 item:=by intro X hP hw hK hc i Li s σ H E I hf st hg;subst hP hw hK;obtain⟨c,hx⟩:=hg;obtain⟨f0,f1,f2,f3,f4,f5⟩:=hf it (by simp);refine wpAny_pyNext_wide_item st hx λh' Mi sb=>?_;have I1:Inv X Li σ H {s with heap:=h',toks:=s.toks+1}:=I.turned (λb o hb e=>(sb.2 b hb).trans e) f0 f1 f3 f4 f5;obtain⟨o,e,cc,d⟩:=id Mi;exact⟨_,rfl,wE e cc d (by decide) ⟨.str ⟨#[c]⟩,H,I1,⟨_,rfl⟩,⟨rfl,c,hx,rfl⟩,Mi,λb hb=>(hf b hb).1⟩⟩
 done:=by intro X hP hw hK hc i Li s σ H E I hf st hg;subst hP hw hK;obtain⟨f0,f1,f2,f3,f4,f5⟩:=hf it (by simp);exact wpAny_pyNext_wide_end (I.ok.hd hc) st hg λh' eb=>⟨rfl,I.turned (λb o hb e=>eb b o hb e) f0 f1 f3 f4 f5⟩
 self:=λ_ _ _ _ _ st h=>wpAny_pyIter_striter_wide st h
section
def KA(z:Str):List D:=z.cps.toList.map λc=>.str ⟨#[c]⟩
def AK:D->M Src:=λx=>match x with
| .str z=>pure ⟨KA z,λ_=>true⟩
| .tup l=>C4 (.tup l)
| .ref r=>C4 (.ref r)
|_=>M.stuck
end
def uz{w:jg}{K:zo}{base:Heap}{CX:CXT}{k n:Nat}{f:Addr}(hn:ps.length=n):F4 P w K mg base CX k f fd ps (spD ⟨K,mg⟩ n λ_=>M.stuck):=
 ⟨λvs H Q E h=>by rw[hn];exact h.1,λA outer s H args us vs Q E hr=>by
  intros;rename_i h
  first
   |exact h.2.elim
   |(obtain⟨_,_,_,_,_,_,z⟩:=h;exact z.elim)⟩
end DL
namespace W
open PySem PySem.Spec L2 DL
open PyProof.Rows hiding St
def Fp:Ty.of "int" =some .int:=by rfl
def Ad:Ty.of "bool" =some .bool:=by rfl
def og:Ty.of "tuple" =some .tuple:=by rfl
def r6(G:DH)(d:D):Prop:=∃k,D5 G d=some k
def st1:([d].map some++jx n none:DSt)[0]? =some (some d):=by rfl
def BE{P:Bool->Prop}:(∃k,D.bl b= .bl k/\P k)↔P b:=⟨fun⟨k,e,p⟩=>by cases e;exact p,λp=>⟨b,rfl,p⟩⟩
def O9{P:α->Prop}:(∃k,some b=some k/\P k)↔P b:=⟨fun⟨k,e,p⟩=>by cases e;exact p,λp=>⟨b,rfl,p⟩⟩
def KD:D->Bool
| .int _=>true
|_=>false
def Ew:Wp (gtD (.int i) (.int j)) G Q↔Q (.bl (decide (j<i))) G:=wp_pure
def ix_tup:Wp (ixD (.tup l) (.int i)) G Q↔∃d,atI l i=some d/\Q d G:=rA
def V6:D->Bool
| .tup _=>true
|_=>false
def Ay(h:D5 G (.ref i)=some k):k= .list\/k= .dict:=by delta D5 at h;dsimp only at h;generalize G[i]? =x at h;rcases x with _|_|_|_|_<;>cases h<;>first|exact .inl rfl|exact .inr rfl
def EJ(f:D->Bool)(P:Kd->Bool)(h:D5 G d=some k)(a:∀i,f (.ref i)=P .list/\f (.ref i)=P .dict)(b:f .non=P .non)(c:∀x,f (.bl x)=P .bool)(e:∀x,f (.int x)=P .int)(g:∀x,f (.str x)=P .str)(t:∀x,f (.tup x)=P .tuple):P k=f d:=by
 rcases d with _|x|x|x|x|i|_|_<;>try (cases h;done)
 ·cases h;exact b.symm
 ·cases h;exact(c x).symm
 ·cases h;exact(e x).symm
 ·cases h;exact(g x).symm
 ·cases h;exact(t x).symm
 ·rcases Ay h with rfl|rfl;exact(a i).1.symm;exact(a i).2.symm
def mJ{Q:DPP}(h:r6 G d):Wp (v4 [d,.ty "tuple"]) G Q↔Q (.bl (V6 d)) G:=by obtain⟨k,h⟩:=h;rw[qJ og];simp only[h,O9];rw[EJ V6 (λk=>k.is .tuple) h (λ_=>⟨rfl,rfl⟩) rfl (λ_=>rfl) (λ_=>rfl) (λ_=>rfl) λ_=>rfl]
def S8:Wp (F7 (.bl b)) G B↔B b G:=wp_pure
def mF:Wp (A2 [.tup l]) G Q↔Q (.int l.length) G:=wp_pure
def P0:Wp (eqD (.int i) (.int j)) G Q↔Q (.bl (decide (i=j))) G:=by
 have e:eqN 40 G (.int i) (.int j)=some (decide (i=j)):=by rfl
 rw[LD,e];exact O9
def W7(h:Wp m G λa G'=>a=x/\G'=G):m G=some (.ok x,G):=by obtain⟨a,G',e,e1,e2⟩:=h;subst e1 e2;exact e
theorem nE{g:Fg}{e:Fe}{G:DH}{I:DSt->Prop}(Mn:ck G=true):∀items (σ:DSt),I σ->
 (∀d∈items,∀ σ,I σ->∃ WZ,g d σ G=some (.ok WZ,G)/\I WZ/\t WZ G=some (.ok true,G)/\e WZ G=some (.ok (f d),G))->K7 g t e ck items σ G=some (.ok (items.map f),G)
 |[],σ,_,_=>by unfold K7;simp only[Mn,if_true,Xq]
 |d::r,σ,i,h=>by obtain⟨WZ,h1,i1,h2,h3⟩:=h d (by simp) σ i;have h4:=nE Mn r WZ i1 λd hd=>h d (by simp[hd]);unfold K7;simp only[Mn,if_true];rw[M.bind_ok h1,M.bind_ok h2,if_pos rfl,M.bind_ok h3,M.bind_ok h4];rfl
def Aa{it:DSt->M Src}{g:Fg}{e:Fe}{G:DH}{σ:DSt}{s:Src}(I:DSt->Prop)(hs:it σ G=some (.ok s,G))(hn:s.items.length<=zj)(Mn:s.ck G=true)(hi:I (W4 caps σ))
 (h:∀d∈s.items,∀ σ,I σ->∃ WZ,g d σ G=some (.ok WZ,G)/\I WZ/\t WZ G=some (.ok true,G)/\e WZ G=some (.ok (f d),G)):
 Wp (J8 it caps g t e σ) G Q↔Q (.ref G.length) (G++[.lst (s.items.map f)]):=by
 unfold J8;simp only[m6];rw[AA hs,if_pos hn];simp only[m6,gI];rw[AA (nE Mn s.items _ hi h),U4]
def EW:∀l:List α,ND (l.map λx=>D.bl (f x))=some (l.map f)
|[]=>rfl
|a::r=>by show (ND (r.map λx=>D.bl (f x))).map (f a :: ·)=_;rw[EW r];rfl
def HE{l:List D}{Q:DPP}(h:G[r]? =some (.lst (l.map λx=>.bl (f x)))):Wp (d6 [.ref r]) G Q↔Q (.bl (l.all f)) G:=by unfold d6;simp only[m6,O8,h,O9,DL.listOf,wp_pure,rA,EW];simp[Zm,Yg]
def lt_int:Wp (ltD (.int i) (.int j)) G Q↔Q (.bl (decide (i<j))) G:=by
 have e:ltN 40 G (.int i) (.int j)=some (decide (i<j)):=by rfl
 rw[nV,e];exact O9
def fB:Wp (K4 (.int i) (.int j)) G Q↔Q (.int (i+j)) G:=wp_pure
def at0:atI [a,b] 0=some a:=by rfl
def at1:atI [a,b] 1=some b:=by rfl
def PM(l:List D):DL.cutD l (some 1) none=l.drop 1:=by
 unfold DL.cutD;rw[HT.sIx_none,show (some (1:Int))=some ((1:Nat):Int)from rfl,HT.sIx_nat];rcases l with _|⟨a,r⟩
 ·rfl
 ·simp[zM]
section
def gF:Wp (L3 g b ck [] σ) G P↔ck G=true/\P (.nx σ) G:=by
 unfold L3;constructor
 ·rintro⟨a,G',e,q⟩;by_cases h:ck G=true
  ·simp only[h,if_true]at e;cases e;exact⟨h,q⟩
  ·simp only[h]at e;exact v8 e
 ·rintro⟨h,q⟩;exact⟨_,G,by simp only[h,if_true],q⟩
def kE:Wp (L3 g b ck (d::r) σ) G P↔ck G=true/\Wp (g d σ) G λWZ G1=>Wp (b WZ) G1 λfl G2=>match fl with
 | .nx X1=>Wp (L3 g b ck r X1) G2 P
 | .ct X1=>Wp (L3 g b ck r X1) G2 P
 | .bk X1=>P (.nx X1) G2
 | .rt d=>P (.rt d) G2:=by
 have e:Wp (L3 g b ck (d::r) σ) G P↔ck G=true/\Wp (do
  match <-b (<-g d σ) with
  | .nx X1=>L3 g b ck r X1
  | .ct X1=>L3 g b ck r X1
  | .bk X1=>pure (.nx X1)
  | .rt d=>pure (.rt d):M Fl) G P:=by
  rw[L3];constructor
  ·rintro⟨a,G',e,q⟩;by_cases h:ck G=true
   ·simp only[h,if_true]at e;exact⟨h,a,G',e,q⟩
   ·simp only[h]at e;exact v8 e
  ·rintro⟨h,a,G',e,q⟩;exact⟨a,G',by simp only[h,if_true];exact e,q⟩
 rw[e];simp only[m6];refine and_congr_right λ_=>?_;constructor
 ·rintro⟨WZ,G1,e1,fl,G2,e2,q⟩;refine⟨WZ,G1,e1,fl,G2,e2,?_⟩
  cases fl<;>first
   |exact q
   |exact wp_pure.mp q
 ·rintro⟨WZ,G1,e1,fl,G2,e2,q⟩;refine⟨WZ,G1,e1,fl,G2,e2,?_⟩
  cases fl<;>first
   |exact q
   |exact wp_pure.mpr q
def fE:Wp (C8 it g b σ) G P↔Wp (it σ) G λs G1=>Wp (L3 g b s.ck s.items σ) G1 P:=by unfold C8;simp only[m6]
end
def SK:Wp (u8 (.int i) (.int j)) G Q↔Q (.int (i-j)) G:=wp_pure
def atI_nat{k:Nat}(h:l[k]? =some s):atI l (k:Int)=some s:=by
 have hk:k<l.length:=by
  by_cases hk:k<l.length
  ·exact hk
  ·rw[jC (by omega)]at h;exact v8 h
 unfold atI ixN;rw[if_pos (by omega),if_pos (by omega)];simpa using h
section
def S9(h:0<j):Wp (P4 (.int i) (.int j)) G Q↔Q (.int (i % j)) G:=by have e:P4 (.int i) (.int j)=if 0<j then pure (.int (i % j))else M.stuck:=rfl;rw[e,if_pos h];exact wp_pure
def Z7(h:0<j/\j<2 ^ 100):Wp (w8 (.int i) (.int j)) G Q↔Q (.int (i / j)) G:=by have e:w8 (.int i) (.int j)=if FE i j then pure (.int (i / j))else M.stuck:=rfl;rw[e,if_pos (show FE i j from h)];exact wp_pure
def V1(h:MA i j):Wp (A5 (.int i) (.int j)) G Q↔Q (.int (i*j)) G:=by have e:A5 (.int i) (.int j)=if MA i j then pure (.int (i*j))else M.stuck:=rfl;rw[e,if_pos h];exact wp_pure
def LA{l:List D}(h:G[r]? =some (.lst l)):Wp (ixD (.ref r) (.int i)) G Q↔∃d,atI l i=some d/\Q d G:=by
 have e:ixD (.ref r) (.int i)= (do
  let l <-O4 r >>= DL.listOf
  D3 (atI l i)):=rfl
 rw[e];simp only[m6,O8,h,O9,DL.listOf,wp_pure,rA]
def El{d:D}{R:Unit->DH->Prop}(h:G[r]? =some (.lst l))(hj:ixN l.length k=some j):Wp (cD (.ref r) (.int k) d) G R↔R () (G.set r (.lst (l.set j d))):=by unfold cD;simp only[m6,O8,h,O9,hj,sE]
def pV:Wp (AC fo fi d σ) G S↔Wp (fo σ) G λo G1=>Wp (fi σ) G1 λi G2=>Wp (cD o i d) G2 λ_ G3=>S σ G3:=by unfold AC;simp only[m6,wp_pure]
end
def ON(h:vA i j):Wp (L6 (.int i) (.int j)) G Q↔Q (.int (i ^ j.toNat)) G:=by have e:L6 (.int i) (.int j)=if vA i j then pure (.int (i ^ j.toNat))else M.stuck:=rfl;rw[e,if_pos h];exact wp_pure
def p18:Wp (L6 (.int 10) (.int 18)) G Q↔Q (.int 1000000000000000000) G:=by rw[ON (by decide)];exact Iff.rfl
def TK:Wp (L7 (.int i)) G Q↔Q (.int (-i)) G:=wp_pure
def IE{l:List D}{k:Int}(h0:0<=k)(h1:k<l.length):∃d,d∈l/\atI l k=some d:=by
 obtain⟨n,rfl⟩:=yb h0;have hn:n<l.length:=by omega
 exact⟨l[n],YL hn,atI_nat (zD hn)⟩
def sz{l:List D}(h:Nat.ble l.length 100=true:=by rfl):l.length<=zj:=zq (jt h) (by decide)
def sz2{a b:List D}(h:Nat.ble (a.length+b.length) 100=true:=by rfl):a.length+b.length<=zj:=zq (jt h) (by decide)
def Lj{G t:DH}:(G++t)[G.length+k]? =t[k]? :=by rw[xb (by omega)];congr 1;omega
def sP{G t:DH}:(G++t)[G.length]? =t[0]? :=Lj (k:=0)
section
def CY:Wp (pE [.int i,.int j]) G Q↔Q (.int (if j<i then j else i)) G:=wp_pure
def E8:Wp (mtE t m fo fs σ) G Q↔Wp (fo σ) G λx G1=>Wp (t x) G1 λ_ G2=>Wp (fs σ) G2 λxs G3=>Wp (m x xs) G3 Q:=by unfold mtE;simp only[m6]
def O3(h:G[r]? =some (.lst l)):Wp (M4 (.ref r)) G R↔R () G:=by delta M4;exact m6.trans ((O8.trans (by rw[h];exact O9)).trans wp_pure)
def RF{l:List D}(h:G[r]? =some (.lst l))(hl:l.length<zj):Wp (U0 (.ref r) [y]) G Q↔Q .non (G.set r (.lst (l++[y]))):=by
 have e:U0 (.ref r) [y]= (do
  let l <-lstM r
  if l.length<zj then do
   let _ <-E7 r (.lst (l++[y]))
   pure .non
  else M.stuck):=rfl
 rw[e];unfold lstM;simp only[m6,O8,h,O9,wp_pure,hl,if_true,sE]
def eD{l:List D}(h:G[r]? =some (.lst l)):Wp (Z9 [.ref r]) G Q↔Q (.tup l) G:=by
 have e:Z9 [.ref r]= (do
  let l <-O4 r >>= DL.listOf
  pure (.tup l)):=rfl
 rw[e];simp only[m6,O8,h,O9,DL.listOf,wp_pure]
def OJ:Wp (AB [.tup l]) G Q↔Q (.ref G.length) (G++[.lst l]):=U4
def fA:Wp (T5 fs σ) G R↔Wp (fs σ) G λxs G1=>Wp (match xs with
 |[.int j]=>if -(2 ^ 62)<=j/\j<2 ^ 62 then pure ⟨J9 0 j.toNat,λ_=>true⟩else M.stuck
 |_=>M.stuck:M Src) G1 R:=by
 delta T5;exact m6
def X7(h: -(2 ^ 62)<=j/\j<2 ^ 62):Wp (match [D.int j] with
 |[.int j]=>if -(2 ^ 62)<=j/\j<2 ^ 62 then pure ⟨J9 0 j.toNat,λ_=>true⟩else M.stuck
 |_=>M.stuck:M Src) G R↔R ⟨J9 0 j.toNat,λ_=>true⟩ G:=by
 show Wp (if -(2 ^ 62)<=j/\j<2 ^ 62 then pure ⟨J9 0 j.toNat,λ_=>true⟩else M.stuck:M Src) G R↔_;rw[if_pos h];exact wp_pure
def uK{a b:List D}(ha:G[i]? =some (.lst a))(hb:G[j]? =some (.lst b))(hl:a.length+b.length<=zj):Wp (K4 (.ref i) (.ref j)) G Q↔Q (.ref G.length) (G++[.lst (a++b)]):=by
 have e:K4 (.ref i) (.ref j)= (do
  match <-O4 i,<-O4 j with
  | .lst a,.lst b=>if a.length+b.length<=zj then N7 (.lst (a++b))else M.stuck
  |_,_=>M.stuck):=rfl
 rw[e];simp only[m6,O8,ha,hb,O9,if_pos hl,U4]
def TB(hl:a.length+b.length<=zj):Wp (K4 (.tup a) (.tup b)) G Q↔Q (.tup (a++b)) G:=by have e:K4 (.tup a) (.tup b)=if a.length+b.length<=zj then pure (.tup (a++b))else M.stuck:=rfl;rw[e,if_pos hl];exact wp_pure
def SN:Wp (J6 σ) G R↔R none G:=wp_pure
def qM:Wp (N5 f σ) G R↔Wp (f σ) G λx G1=>∃i,x= .int i/\R (some i) G1:=by
 delta N5;refine Iff.trans m6 ?_;constructor
 ·rintro⟨x,G1,e,q⟩;refine⟨x,G1,e,?_⟩;rcases x with _|_|i|_|_|_|_|_<;>try (exact(AD.mp q).elim;done)
  ·exact⟨i,rfl,wp_pure.mp q⟩
 ·rintro⟨x,G1,e,i,rfl,q⟩;exact⟨_,G1,e,wp_pure.mpr q⟩
def sl_tup{lo hi:Option Int}:Wp (slD (.tup l) lo hi) G Q↔Q (.tup (DL.cutD l lo hi)) G:=wp_pure
def UL{P:Int->Prop}:(∃k,D.int i= .int k/\P k)↔P i:=⟨fun⟨k,e,p⟩=>by cases e;exact p,λp=>⟨i,rfl,p⟩⟩
def bY(l:List D)(lo hi:Option Int):(DL.cutD l lo hi).length<=l.length:=by unfold DL.cutD;rw[jW,xr];omega
end
def o4{G:DH}:(G++[o])[G.length]? =some o:=sP
def R8{G t:DH}{p:Nat}(e:G[p]? =some o):(G++t)[p]? =some o:=by
 have Lu:p<G.length:=by
  by_cases hi:p<G.length
  ·exact hi
  ·rw[jC (by omega)]at e;exact v8 e
 rw[zE Lu];exact e
def okD:D->Bool
| .non=>true
| .bl _=>true
| .int _=>true
| .str _=>true
| .tup _=>true
|_=>false
def Gr(G G':DH):Prop:=G.length<=G'.length/\∀i,i<G.length->G'[i]? =G[i]?
def IP:∀ns:List Int,tD (ns.map D.int)=some ns
|[]=>rfl
|a::r=>by show (tD (r.map D.int)).map (a :: ·)=_;rw[IP r];rfl
def sL{σ:DSt}{l:List D}{R:Src->DH->Prop}(e:G[p]? =some (.lst l)):Wp (C4 (.ref p)) G R↔R ⟨l,ckO p (.lst l)⟩ G:=by
 have h:C4 (.ref p)= (do
  let o <-O4 p
  let l <-DL.listOf o
  pure ⟨l,ckO p o⟩):=rfl
 rw[h];simp only[m6,O8,e,O9,DL.listOf,wp_pure]
def ok1:D->Bool
| .tup l=>l.all okD
|d=>okD d
def ok2:D->Bool
| .tup l=>l.all ok1&&decide (l.length<=40)
|d=>okD d
section
def Wd:Wp (VJ o o' a b c σ) G Q↔Wp (a σ) G λx G1=>Wp (b σ) G1 λy G2=>Wp (o x y) G2 λz G3=>∃k,z= .bl k/\if k=true then Wp (c σ) G3 λw G4=>Wp (o' y w) G4 Q else Q (.bl false) G3:=by unfold VJ;simp only[m6,kL,oB,wp_pure]
def wp_trueT:Wp (J4 σ) G B↔B true G:=wp_pure
def Z4:Wp (K7 g t e ck [] σ) G R↔ck G=true/\R [] G:=by
 unfold K7;constructor
 ·rintro⟨a,G',e,q⟩;by_cases h:ck G=true
  ·simp only[h,if_true]at e;cases e;exact⟨h,q⟩
  ·simp only[h]at e;exact v8 e
 ·rintro⟨h,q⟩;exact⟨_,G,by simp only[h,if_true],q⟩
def Z6:Wp (K7 g t e ck (d::r) σ) G R↔ck G=true/\Wp (g d σ) G λWZ G1=>Wp (t WZ) G1 λb G2=>if b=true then Wp (e WZ) G2 λy G3=>Wp (K7 g t e ck r WZ) G3 λys G4=>R (y::ys) G4 else Wp (K7 g t e ck r WZ) G2 R:=by
 have h0:Wp (K7 g t e ck (d::r) σ) G R↔ck G=true/\Wp (do
  let WZ <-g d σ
  if <-t WZ then do
   let y <-e WZ
   let ys <-K7 g t e ck r WZ
   pure (y::ys)
  else K7 g t e ck r WZ:M (List D)) G R:=by
  rw[K7];constructor
  ·rintro⟨a,G',e,q⟩;by_cases h:ck G=true
   ·simp only[h,if_true]at e;exact⟨h,a,G',e,q⟩
   ·simp only[h]at e;exact v8 e
  ·rintro⟨h,a,G',e,q⟩;exact⟨a,G',by simp only[h,if_true];exact e,q⟩
 rw[h0];simp only[m6,oB,wp_pure]
def wp_comp:Wp (J8 it caps g t e σ) G Q↔Wp (it σ) G λs G1=>s.items.length<=zj/\Wp (K7 g t e s.ck s.items (W4 caps σ)) G1 λys G2=>Q (.ref G2.length) (G2++[.lst ys]):=by
 unfold J8;simp only[m6];constructor
 ·rintro⟨s,G1,e1,q⟩;refine⟨s,G1,e1,?_⟩;by_cases h:s.items.length<=zj
  ·rw[if_pos h]at q;simp only[m6,gI,U4]at q;exact⟨h,q⟩
  ·rw[if_neg h]at q;exact(AD.mp q).elim
 ·rintro⟨s,G1,e1,h,q⟩;refine⟨s,G1,e1,?_⟩;dsimp only;rw[if_pos h];simp only[m6,gI,U4];exact q
def Er:Ty.of "str" =some .str:=by rfl
def bB:D->Bool
| .str _=>true
|_=>false
def vH:D->Bool
| .int _=>true
| .bl _=>true
|_=>false
def LL(h:r6 G d):Wp (v4 [d,.ty "str"]) G Q↔Q (.bl (bB d)) G:=by obtain⟨k,h⟩:=h;rw[qJ Er];simp only[h,O9];rw[EJ (bB) (λk=>k.is .str) h (λ_=>⟨rfl,rfl⟩) rfl (λ_=>rfl) (λ_=>rfl) (λ_=>rfl) λ_=>rfl]
def dZ(h:r6 G d):Wp (v4 [d,.ty "int"]) G Q↔Q (.bl (vH d)) G:=by obtain⟨k,h⟩:=h;rw[qJ Fp];simp only[h,O9];rw[EJ (vH) (λk=>k.is .int) h (λ_=>⟨rfl,rfl⟩) rfl (λ_=>rfl) (λ_=>rfl) (λ_=>rfl) λ_=>rfl]
def OI:Wp (eqD (.str a) (.str b)) G Q↔Q (.bl (a==b)) G:=by
 have e:eqN 40 G (.str a) (.str b)=some (a==b):=by rfl
 rw[LD,e];exact O9
def MW:Wp (leD (.str a) (.str b)) G Q↔Q (.bl (!decide (b.cps.toList<a.cps.toList))) G:=wp_pure
def rJ(h:a.length+b.length<=zj):Wp (K4 (.str a) (.str b)) G Q↔Q (.str (a++b)) G:=by have e:K4 (.str a) (.str b)=if a.length+b.length<=zj then pure (.str (a++b))else M.stuck:=rfl;rw[e,if_pos h];exact wp_pure
def fH(h:z.length<=zj):Wp (A2 [.str z]) G Q↔Q (.int z.length) G:=by have e:A2 [.str z]=if z.length<=zj then pure (.int z.length)else M.stuck:=rfl;rw[e,if_pos h];exact wp_pure
def lX(e:G[p]? =some (.lst l)):Wp (AK (.ref p)) G R↔R ⟨l,ckO p (.lst l)⟩ G:=sL (σ:= []) e
end
def BG(c:Nat):Bool:=decide (97<=c)&&decide (c<=122)
def g9(z:Str):Bool:=z.cps.toList.all BG
def ik(c:Nat):(!decide ((⟨#[c]⟩:Str).cps.toList<("a" :Str).cps.toList))=decide (97<=c):=by
 have e:("a" :Str).cps.toList= [97]:=by rfl
 rw[e];show (!decide ([c] < [97]))=_;by_cases h:97<=c
 ·have:¬c<97:=by lia
  simp[h,Zv,this]
 ·have:c<97:=by lia
  simp[h,Zv,this]
def Lm(c:Nat):(!decide (("z" :Str).cps.toList<(⟨#[c]⟩:Str).cps.toList))=decide (c<=122):=by
 have e:("z" :Str).cps.toList= [122]:=by rfl
 rw[e];show (!decide ([122] < [c]))=_;by_cases h:c<=122
 ·have:¬122<c:=by lia
  simp[h,Zv,this]
 ·have:122<c:=by lia
  simp[h,Zv,this]
end W
namespace DL
open PySem PySem.Spec L2
open PyProof.Rows hiding St
section
end
end DL
namespace DL
open PySem PySem.Spec L2 Builtin Builtin.Str
open PyProof.Rows hiding St
section
variable{X:Cx}{Z:XC}{e:Expr}{fa:Fe}{p2 pos:Pos}{lo hi:Option Expr}{fl fh:Fo}
def OV(p:IsPart v o):∃l:Option (Int×Tok),v=partValue l/\l.map (·.1)=o:=by
 cases p with
 |none=>exact⟨none,rfl,rfl⟩
 |int i t=>exact⟨some (i,t),rfl,rfl⟩
def Rk:SlR X (λx lo hi H Q=>∃z,x= .str z/\z.length<=zj/\Q (.str (jK z lo hi)) H):=by
 intro Li s σ H x v vl vu lo hi sl Q I rx hs pl pu h;obtain⟨z,rfl,hz,q⟩:=h;obtain⟨t,rfl⟩:=rx;obtain⟨l,el,eml⟩:=OV pl;obtain⟨u,eu,emu⟩:=OV pu;subst el eu eml emu;refine⟨"str",_,PySem.F.slot_str_getitem.lookup,typeIs_str _ z t,?_⟩;refine wpAny_getItem_str_slice (st:=none) (let ⟨o,h1,h2,h3⟩:=hs;⟨o,h1,h2,h3⟩) rfl ?_;unfold sliceMade;unfold jK at q;unfold slicePicked;have e1:((Option.map (λx:Int×Tok=>x.1) none).getD 1)= (1:Int):=rfl;simp only[e1];by_cases hc:((1:Int)==1&&(strSliceIndices (l.map (·.1)) (u.map (·.1)) 1 z.length).length==z.length)=true
 ·rw[if_pos hc]at q;rw[if_pos hc];exact⟨.str z,H,I,⟨t,rfl⟩,q⟩
 ·rw[if_neg hc]at q;rw[if_neg hc];refine⟨?_,.str _,H,I.tok _,⟨_,rfl⟩,q⟩;have hle:=Txt.slice_le z (l.map (·.1)) (u.map (·.1));unfold jK at hle;rw[if_neg hc]at hle;exact zq hle hz
def slT:D->Option Int->Option Int->M D:=λx lo hi=>match x with
| .str z=>if z.length<=zj then pure (.str (jK z lo hi))else M.stuck
| .tup l=>slD (.tup l) lo hi
| .ref r=>slD (.ref r) lo hi
|_=>M.stuck
def J3(f:Fe)(lo hi:Fo):Fe:=λσ=>do
 let x <-f σ
 let l <-lo σ
 let h <-hi σ
 slT x l h
def uk:SlD X Z slT:=SlR.mono (Rk.or (Kq)) λx lo hi H Q ⟨dx,μ,G,rx,hr,p⟩=>by
 rcases dx with _|_|_|z|l|r|_|_<;>try (exact p.elim;done)
 ·
   unfold slT at p;dsimp only at p;split at p
   ·rename_i hz;exact .inl ⟨z,P6 rx,hz,d7.ok p hr _ (by unfold d9;rfl)⟩
   ·exact p.elim
 ·exact .inr ⟨.tup l,μ,G,rx,hr,p⟩
 ·exact .inr ⟨.ref r,μ,G,rx,hr,p⟩
def Sc(he:DE X Z e fa)(hl:DOp X Z lo fl)(hu:DOp X Z hi fh):DE X Z (.Subscript e (.Slice lo hi none p2) pos) (J3 fa fl fh):=
 DE.of (Ah uk he.h hl.h hu.h) λσ H Q Lo=>Lo.elim λX9 μ G s h p=>⟨X9,μ,G,s,h,(d7.bind p).mono λd X0 G1 H1 x1 h1 p1 v rv=>
  ⟨X9,X0,G1,s.mono x1,h1,(d7.bind p1).mono λl WT G2 H2 x2 h2 p2=>⟨X9,WT,G2,s.mono (x1.trans x2),h2,(d7.bind p2).mono λu μ3 G3 H3 x3 h3 p3=>⟨d,μ3,G3,rv.mono (x2.trans x3),h3,p3⟩⟩⟩⟩
end
section
end
end DL
namespace W
open PySem PySem.Spec L2 DL Builtin Builtin.Str
open PyProof.Rows hiding St
section
def pC{lo hi:Fo}:Wp (J3 f lo hi σ) G Q↔Wp (f σ) G λx G1=>Wp (lo σ) G1 λl G2=>Wp (hi σ) G2 λh G3=>Wp (slT x l h) G3 Q:=by unfold J3;simp only[m6]
def TQ{lo hi:Option Int}:Wp (slT (.tup l) lo hi) G Q↔Q (.tup (DL.cutD l lo hi)) G:=wp_pure
def DJ{lo hi:Option Int}(h:z.length<=zj):Wp (slT (.str z) lo hi) G Q↔Q (.str (jK z lo hi)) G:=by have e:slT (.str z) lo hi=if z.length<=zj then pure (.str (jK z lo hi))else M.stuck:=rfl;rw[e,if_pos h];exact wp_pure
def pJ{lo hi:Option Int}:(jK z lo hi).length<=z.length:=Txt.slice_le z lo hi
end
end W
namespace DL
open PySem PySem.Spec L2
open PyProof.Rows hiding St
def WB:D->D->M D:=λx y=>match y with
| .non=>pure (.bl (eB x))
| .bl c=>match x with
  | .bl d=>pure (.bl (d==c))
  |_=>M.stuck
|_=>M.stuck
def EB:D->D->M D:=λx y=>match y with
| .non=>pure (.bl (!eB x))
| .bl c=>match x with
  | .bl d=>pure (.bl (d != c))
  |_=>M.stuck
|_=>M.stuck
def kF(a b:Fe):Fe:=λσ=>do
 let x <-a σ
 if <-F7 x then pure x else b σ
def T3(a b:Fe):Fe:=λσ=>do
 let x <-a σ
 if <-F7 x then b σ else pure x
section
def Cq:OpR X (jf .Is) (λx y H Q=>(y= .non/\Q (.bl (decide (x= .non))) H)\/∃c d,x= .bl c/\y= .bl d/\Q (.bl (c==d)) H):=by
 intro Li s σ H x y v u Q I rx ry h;rcases h with h|⟨c,d,rfl,rfl,q⟩
 ·exact ny Li s σ H x y v u Q I rx ry h
 ·cases rx
  cases ry
  exact is_bool ⟨.bl (c==d),H,I,rfl,q⟩
def sd:OpR X (jf .IsNot) (λx y H Q=>(y= .non/\Q (.bl (!decide (x= .non))) H)\/∃c d,x= .bl c/\y= .bl d/\Q (.bl (c != d)) H):=by
 intro Li s σ H x y v u Q I rx ry h;rcases h with h|⟨c,d,rfl,rfl,q⟩
 ·exact kn Li s σ H x y v u Q I rx ry h
 ·cases rx
  cases ry
  exact isnot_bool ⟨.bl (c != d),H,I,rfl,q⟩
def Pg:OpD X Z (jf .Is) WB:=OpD.of Cq λx y H Q Lo=>Lo.elim λdx dy μ G Nt Ny hr p=>by
 rcases dy with _|d|_|_|_|_|_|_<;>try (exact p.elim;done)
 ·exact .inl ⟨VG Ny,by rw[LW Nt];exact d7.ok p hr _ ofB⟩
 ·
   rcases dx with _|c|_|_|_|_|_|_<;>try (exact p.elim;done)
   ·exact .inr ⟨c,d,wB Nt,wB Ny,d7.ok p hr _ ofB⟩
def bZ:OpD X Z (jf .IsNot) EB:=OpD.of sd λx y H Q Lo=>Lo.elim λdx dy μ G Nt Ny hr p=>by
 rcases dy with _|d|_|_|_|_|_|_<;>try (exact p.elim;done)
 ·exact .inl ⟨VG Ny,by rw[LW Nt];exact d7.ok p hr _ ofB⟩
 ·
   rcases dx with _|c|_|_|_|_|_|_<;>try (exact p.elim;done)
   ·exact .inr ⟨c,d,wB Nt,wB Ny,d7.ok p hr _ ofB⟩
def RP{G:DH}{d:D}{v:V}{f:Bool->M α}{K:α->List Addr->DH->Hp->Prop}(h:v5 (wc X) μ G H)(rv:d9 (wc X) μ H d v)(p:d7 (wc X) Z μ H ((F7 d >>= f) G) K):
 ∃k,pO X.K v H k/\d7 (wc X) Z μ H (f k G) K:=by
 have p1:=d7.bind p;rcases d with _|b|b|y|l|r|_|_<;>try (exact p1.elim;done)
 ·rw[VG rv];exact⟨false,rfl,d7.ok p1 h⟩
 ·rw[wB rv];exact⟨b,rfl,d7.ok p1 h⟩
 ·rw[C2 rv];exact⟨_,rfl,d7.ok p1 h⟩
 ·
   rw[P6 rv];unfold F7 at p1;dsimp only at p1;split at p1
   ·rename_i hz;exact⟨_,⟨hz,rfl⟩,d7.ok p1 h⟩
   ·exact p1.elim
 ·
   unfold d9 at rv;obtain⟨a,vs,rfl,q,rl⟩:=rv;exact⟨!vs.isEmpty,.inr (.inl ⟨vs,q,rfl⟩),by rw[gE rl];exact d7.ok p1 h⟩
 ·
   unfold d9 at rv;obtain⟨a,m,rfl⟩:=rv;obtain⟨o,g,p2⟩:=K8 p1;have ro:=h.obj r o a g m;rcases o with l|l|l|l
   ·obtain⟨vs,q,rl⟩:=ro;exact⟨!vs.isEmpty,.inl ⟨vs,SqL.of q,rfl⟩,by rw[gE rl];exact d7.ok p2 h⟩
   ·obtain⟨vs,q,rl⟩:=ro;exact⟨!vs.isEmpty,.inl ⟨vs,q.sq,rfl⟩,by rw[gE rl];exact d7.ok p2 h⟩
   ·obtain⟨vs,q,rl⟩:=ro;exact⟨!vs.isEmpty,.inr (.inr ⟨vs,q,rfl⟩),by rw[qT rl];exact d7.ok p2 h⟩
   ·exact p2.elim
def Sg{rest:List Expr}(ha:DE X Z a fa)(hb:DE X Z (.BoolOp .Or (b::rest) pos) fb):DE X Z (.BoolOp .Or (a::b::rest) pos) (kF fa fb):=by
 refine⟨?_⟩;intro Li s σ H Q I Lo;refine Lo.elim λX9 μ G sr h p=>?_;refine BoolOp_or (thn (ha.h Li s σ H _ I ⟨X9,μ,G,sr,h,(d7.bind p).mono λd X0 G1 H1 x1 h1 p1 v rv=>(⟨d,X0,G1,x1,rv,h1,p1⟩:∃d X0 G1,Ext μ H X0 H1/\d9 (wc X) X0 H1 d v/\v5 (wc X) X0 G1 H1/\d7 (wc X) Z X0 H1 ((F7 d >>= λk=>if k=true then pure d else fb X9) G1) λd X2 _ H'=>∀v,d9 (wc X) X2 H' d v->Q v H')⟩) λv s1 ⟨x,H1,I1,r1,d,X0,G1,x1,rd,h1,p1⟩=>?_);obtain⟨k,tk,p2⟩:=RP h1 rd p1;refine thn (tru_ok Li s1 σ H1 x v (λc H'=>c=k/\H'=H1) I1 r1 ⟨k,tk,rfl,rfl⟩) λc s2 ⟨H2,I2,e1,e2⟩=>?_;subst e1 e2;rcases c with _|_
 ·exact hb.h Li s2 σ H2 Q I2 ⟨X9,X0,G1,sr.mono x1,h1,p2⟩
 ·exact⟨x,H2,I2,r1,d7.ok p2 h1 _ rd⟩
def Nx{rest:List Expr}(ha:DE X Z a fa)(hb:DE X Z (.BoolOp .And (b::rest) pos) fb):DE X Z (.BoolOp .And (a::b::rest) pos) (T3 fa fb):=by
 refine⟨?_⟩;intro Li s σ H Q I Lo;refine Lo.elim λX9 μ G sr h p=>?_;refine BoolOp_and (thn (ha.h Li s σ H _ I ⟨X9,μ,G,sr,h,(d7.bind p).mono λd X0 G1 H1 x1 h1 p1 v rv=>(⟨d,X0,G1,x1,rv,h1,p1⟩:∃d X0 G1,Ext μ H X0 H1/\d9 (wc X) X0 H1 d v/\v5 (wc X) X0 G1 H1/\d7 (wc X) Z X0 H1 ((F7 d >>= λk=>if k=true then fb X9 else pure d) G1) λd X2 _ H'=>∀v,d9 (wc X) X2 H' d v->Q v H')⟩) λv s1 ⟨x,H1,I1,r1,d,X0,G1,x1,rd,h1,p1⟩=>?_);obtain⟨k,tk,p2⟩:=RP h1 rd p1;refine thn (tru_ok Li s1 σ H1 x v (λc H'=>c=k/\H'=H1) I1 r1 ⟨k,tk,rfl,rfl⟩) λc s2 ⟨H2,I2,e1,e2⟩=>?_;subst e1 e2;rcases c with _|_
 ·exact⟨x,H2,I2,r1,d7.ok p2 h1 _ rd⟩
 ·exact hb.h Li s2 σ H2 Q I2 ⟨X9,X0,G1,sr.mono x1,h1,p2⟩
end
end DL
namespace W
open PySem PySem.Spec L2 DL
open PyProof.Rows hiding St
section
def wb:Wp (kF a b σ) G Q↔Wp (a σ) G λx G1=>Wp (F7 x) G1 λk G2=>if k=true then Q x G2 else Wp (b σ) G2 Q:=by unfold kF;simp only[m6,oB,wp_pure]
def FG:Wp (T3 a b σ) G Q↔Wp (a σ) G λx G1=>Wp (F7 x) G1 λk G2=>if k=true then Wp (b σ) G2 Q else Q x G2:=by unfold T3;simp only[m6,oB,wp_pure]
def um:Wp (WB x .non) G Q↔Q (.bl (eB x)) G:=wp_pure
end
end W
namespace DL
open PySem PySem.Spec L2
open PyProof.Rows hiding St
structure lD(F:List D->M D)(n:Nat)(x:Str)(P:zU)(w:jg)(K:zo)(mg:Str->Option zm)(base:Heap)(k:Nat):Prop where
 ex:∃f fd ps,F4 P w K mg base CX0 k f fd ps (spD ⟨K,mg⟩ n F)/\mg x=some (.ref f)/\yL K (.ref f)=true/\qB K fd ps []
def lD.of{P:zU}{w:jg}{K:zo}{base:Heap}{k n:Nat}{x:Str}{st:Stmt}{f:Addr}(c:FF K mg x st ps f fd)(h:F4 P w K mg base CX0 k f fd ps (spD ⟨K,mg⟩ n F)):lD F n x P w K mg base k:=
 ⟨f,fd,ps,h,c.m,c.F.kp,c.b⟩
def bltL:List Str:= ["len", "isinstance", "all", "any", "sum", "min", "max", "abs", "sorted", "tuple", "list", "int", "str", "bool", "dict", "zip", "enumerate", "range", "reversed", "set"]
structure BLs(mg:Str->Option zm):Prop where
 h:∀b∈bltL,mg b=none
def bO:(xV p l).any (·.1)=l.any (·.1):=by unfold xV;rw[List.any_map];rfl
theorem sJ:∀ {es},es.all V8=true->(ja es env).any (·.1)=false
|[],_=>rfl
|e::es,h=>by rw[jm,zy]at h;rw[QA h.1,xD,sJ h.2];rfl
section
def NY(hN:∃N ps sc,L9 N ps sc/\X.N=N)(hi:X.N[i]? =some x)(hx:Loc X.env.scope x)(hf:X.fn x=true\/X.env.scope.names.lookup x=some .local):DG X Z (.Name x pos) (A4 i):=by obtain⟨N,ps,sc,S,e⟩:=hN;exact gT (by rw[e];exact S.nd) hi hx hf
def Rj(ha:DE X Z e fa)(hr:DA X Z es fs)(hs:V8 e=true):DA X Z (e::es) (A0 fa fs):=Cr ha hr (QA hs)
def Mx(hF:∃k kk,lD F n x X.prog X.w X.K X.mg X.base k/\U1 kk X.A/\k<=kk)(hg:Gl X x)(ha:DA X Z (e::es) fs)(hdb:(x==("__debug__" :Str))=false)(hs:(e::es).all V8=true):
 DE X Z (.Call (.Name x p) (e::es) [] pos) (P2 (fnX n F) fs):=by
 obtain⟨k,kk,hF,hr,hk⟩:=hF;obtain⟨f,fd,ps,h1,h2,h3,h4⟩:=hF.ex;rw[jm,zy]at hs;exact qY h1 (hr.mono hk) hg h2 h3 h4 ha hdb (QA hs.1) (by rw[bO];exact sJ hs.2)
structure BD(F:List D->M D)(x:Str)(X:Cx)(Z:XC):Prop where
 ex:(∃id,W8 X Z (.builtin id) F/\jp x=some (.builtin id))\/(∃T,W8 X Z (.type T) F/\jp x=some (.type T))
def Ph(hc:X.calm=true)(hF:X.calm=true->BD F x X Z)(hb:BLs X.mg)(hx:bltL.elem x=true)(hg:Gl X x)(ha:DA X Z (e::es) fs)(hn:x≠ "__name__")(hdb:(x==("__debug__" :Str))=false)(hs:(e::es).all V8=true):
 DE X Z (.Call (.Name x p) (e::es) [] pos) (P2 F fs):=by
 have hm:=hb.h x (List.elem_iff.mp hx);rw[jm,zy]at hs;rcases (hF hc).ex with⟨id,h1,h2⟩|⟨T,h1,h2⟩
 ·exact Ld h1 hg hm h2 ha hn hdb (QA hs.1) (by rw[bO];exact sJ hs.2)
 ·exact Rv h1 hg hm h2 ha hn hdb (QA hs.1) (by rw[bO];exact sJ hs.2)
def Ec(_:X.calm=true):BD A2 "len" X Z:=⟨.inl ⟨_,Kl,Hn⟩⟩
def tX(_:X.calm=true):BD v4 "isinstance" X Z:=⟨.inl ⟨_,Gh,vd⟩⟩
def uq(h:X.calm=true):BD d6 "all" X Z:=⟨.inl ⟨_,ky h,rn⟩⟩
def mY(h:X.calm=true):BD pE "min" X Z:=⟨.inl ⟨_,Pp h,ip⟩⟩
def Au(h:X.calm=true):BD BK "max" X Z:=⟨.inl ⟨_,Ci h,ki⟩⟩
def Ar(_:X.calm=true):BD GE "abs" X Z:=⟨.inl ⟨_,Ak,wX⟩⟩
def Dt(_:X.calm=true):BD Z9 "tuple" X Z:=⟨.inr ⟨_,Mj,nk⟩⟩
def Md(_:X.calm=true):BD AB "list" X Z:=⟨.inr ⟨_,qX,KO⟩⟩
def Sh:∀n∈ ["int", "bool", "str", "tuple", "list", "dict"],jp (yh n)=some (.type n):=by decide +kernel
def Pz(hb:BLs X.mg)(hn:n∈ ["int", "bool", "str", "tuple", "list", "dict"])(hx:bltL.elem (yh n)=true)(hg:Gl X (yh n))(hnn:yh n≠ "__name__")(hd:(yh n==("__debug__" :Str))=false):DE X Z (.Name (yh n) pos) (cE (.ty n)):=
 Eb hg (hb.h _ (List.elem_iff.mp hx)) (Sh n hn) hnn hd
def lz(hb:BLs X.mg)(hg:Gl X "range")(ha:DA X Z [a] fs)(hs:V8 a=true):DI X Z tg (.Call (.Name "range" p) [a] [] pos) (T5 fs):=Qp hg (hb.h _ (by decide +kernel)) ha (MB hs)
def Gy(hb:BLs X.mg)(hg:Gl X "zip")(ha:DA X Z [a,b] fs)(hs:V8 a=true)(hs2:V8 b=true):DI X Z (.Tuple Ob x1 tp) (.Call (.Name "zip" p) [a,b] [] pos) (MD fs):=Gk hg (hb.h _ (by decide +kernel)) ha (OU hs hs2) (MB hs2) uO
def bA(sc:Scope):List Str:=(sc.names.filterMap λy=>if y.2 == .local&&y.1 != (".0" :Str)then some y.1 else none)++(sc.names.filterMap λy=>if y.2 == .free then some y.1 else none)
def Dv(hc:X.calm=true)(hi:DI X Z tg iter it)(k:∃XN ps osc,L9 XN ps osc/\X.env.scope=osc/\X.N=XN/\SH osc scope (bA scope) XN caps=true)(nd:(bA scope).Nodup)
 (hg:(bA scope).Nodup->∀C s H ex,DG (T6 X scope (bA scope) C s H ex) ZF tg gg) (ht:∀C s H ex,DTs (T6 X scope (bA scope) C s H ex) ZF ifs tt) (he:∀C s H ex,DE (T6 X scope (bA scope) C s H ex) ZF elt fe)
 (hf:∀x,xo iter X.env x=pure x):DE X Z (.ListComp elt [⟨tg,iter,ifs,0⟩] scope pos) (J8 it caps gg tt fe):=let ⟨_,_,_,_,hs,hN,k⟩:=k;qm hc hi (a9.of k hs hN) (hg nd) ht he hf
def Ii(hc:X.calm=true)(hi:DI X Z tg iter it)(k:∃XN ps osc,L9 XN ps osc/\X.env.scope=osc/\X.N=XN/\SH osc scope (bA scope) XN caps=true)(nd:(bA scope).Nodup)
 (hg:(bA scope).Nodup->∀C s H ex,DG (T6 X scope (bA scope) C s H ex) ZF tg gg) (ht:∀C s H ex,DTs (T6 X scope (bA scope) C s H ex) ZF ifs tt) (he:∀C s H ex,DE (T6 X scope (bA scope) C s H ex) ZF elt fe)
 (hf:∀x,xo iter X.env x=pure x) (hgo:DG X Z (.Name y py) g2) (hsw:swapsWith (.ListComp elt [⟨tg,iter,ifs,0⟩] scope pos) (some (.Name y py)) spos.line X.env=pure true):
 DS X Z (.Assign [.Name y py] (.ListComp elt [⟨tg,iter,ifs,0⟩] scope pos) spos) (M3 (J8 it caps gg tt fe) g2):=let ⟨_,_,_,_,hs,hN,k⟩:=k;Qj hc hi (a9.of k hs hN) (hg nd) ht he hf hgo hsw
end
end DL
namespace W
open PySem PySem.Spec L2 DL
open PyProof.Rows hiding St
section
end
end W
namespace DL
open PySem PySem.Spec L2
open PyProof.Rows hiding St
def Itd(a:Addr)(o:Obj)(Ln:List (Key×V)):It:=
 ⟨λi H=>H a=some (.frz o (.dK Ln))/\∃kv,Ln[i]? =some kv,λi H x H'=>H'=H/\∃kv,Ln[i]? =some kv/\x=kV kv.1,λi H=>H a=some (.frz o (.dK Ln))/\Ln.length<=i⟩
theorem vW:∀ {Ln} {vs} {i:Nat} {kv:κ×V},KV Ln vs->Ln[i]? =some kv->∃v,vs[i]? =some (kv.1,v)
|_,_,_,_,.nil,e=>by simp at e
|_,_,0,_,.cons h t,e=>by simp only[zJ,zR]at e;subst e;exact⟨_,by rw[zJ,h.1]⟩
|_,_,i+1,_,.cons h t,e=>by simp only[ji]at e ⊢;exact vW t e
def pi(h:(N8 P w).is k u=true):J1 (kV k) u:=by
 rcases M6 h with⟨i,t,rfl,rfl⟩|⟨x,t,rfl,rfl⟩
 ·exact⟨t,rfl⟩
 ·exact⟨t,rfl⟩
def mV(I:Inv X Li σ H s)(ho:o.data= .dict es ep)(e:H a=some (.frz o (.dK Ln))):
 (a==xH)=false/\∃vs,KV Ln vs/\s.heap.DictAt (N8 X.prog X.w) a vs ep:=by
 obtain⟨hget,hz,hS,vs,r,m⟩:=(show T9 X.prog X.w H s.heap a (.frz o (.dK Ln))from I.hok a _ e);obtain⟨ep',dat⟩:=m.dictAt;have hep:ep'=ep:=by
  obtain⟨o',Oc,h1,_,h3,_⟩:=id dat;rw[hget]at h1
  cases h1
  rw[ho]at h3
  cases h3
  rfl
 subst hep;exact⟨hS,vs,r,dat⟩
def AR{P:zU}{w:jg}{K:zo}{tg:Expr}{a:Addr}{o:Obj}{ep:Nat}(ho:o.data= .dict es ep)(it:Addr):SA P w K tg (Itd a o Ln) [it] it (λi h=>h.IsKeyIter it a i Ln.length ep) where
 mem:=by simp
 obj:=λi h st b hb=>by
  have e:b=it:=by simpa using hb
  subst e;obtain⟨o,e,c,d⟩:=st;exact⟨o,e,λv z=>by rw[d]at z;cases z⟩
 keep:=λi h h' st k=>let ⟨o,ho,r⟩:=st;⟨o,k it (by simp) o ho,r⟩
 item:=by intro X hP hw hK hc i Li s σ H E I hf st hg;subst hP hw hK;obtain⟨hfr,kv,hx⟩:=hg;obtain⟨f0,f1,f2,f3,f4,f5⟩:=hf it (by simp);obtain⟨hS,vs,rel,dat⟩:=mV I ho hfr;obtain⟨v,hv⟩:=vW rel hx;have Lr:Ln.length=vs.length:=xw rel;rw[Lr]at st;refine wpAny_pyNext_dict_item st dat hv λkey h' hk Mi sb=>?_;have I1:Inv X Li σ H {s with heap:=h'}:=I.turned (λb o hb e=>(sb.2 b hb).trans e) f0 f1 f3 f4 f5;obtain⟨o',e,cc,d⟩:=id Mi;refine⟨_,rfl,wE e cc d (by decide) ⟨kV kv.1,H,I1,pi hk,⟨rfl,kv,hx,rfl⟩,by rw[Lr];exact Mi,λb hb=>(hf b hb).1⟩⟩
 done:=by intro X hP hw hK hc i Li s σ H E I hf st hg;subst hP hw hK;obtain⟨hfr,hi⟩:=hg;obtain⟨f0,f1,f2,f3,f4,f5⟩:=hf it (by simp);obtain⟨hS,vs,rel,dat⟩:=mV I ho hfr;have Lr:Ln.length=vs.length:=xw rel;rw[Lr]at st hi;exact wpAny_pyNext_dict_end (I.ok.hd hc) st dat (jC hi) λh' eb=>⟨rfl,I.turned (λb o hb e=>eb b o hb e) f0 f1 f3 f4 f5⟩
 self:=λ_ _ _ _ _ st h=>wpAny_pyIter_keyiter st h
def v5.setR(h:v5 c μ G H)(g:G[i]? =some o)(n:¬c9 (some o))(m:μ[i]? =some a)(k:Ext μ H μ (upd H a u))(ho:cB c μ (upd H a u) a o'):v5 c μ (G.set i o') (upd H a u):=by
 have hi:i<G.length:=lt_of_get g;have get:∀j,(G.set i o')[j]? =if i=j then some o' else G[j]? :=λj=>by
  rw[XX];by_cases e:i=j
  ·subst e;simp[hi]
  ·simp[e]
 refine⟨by simp[h.len],λj l b ej el=>?_,λj o2 b gj mj=>?_⟩
 ·rcases h.inj j l b ej el with e|e|e
  ·exact .inl e
  ·by_cases ij:i=j
   ·subst ij;rw[g]at e;exact(n e).elim
   ·right;left;rw[get,if_neg ij];exact e
  ·by_cases ij:i=l
   ·subst ij;rw[g]at e;exact(n e).elim
   ·right;right;rw[get,if_neg ij];exact e
 ·rw[get]at gj;by_cases ij:i=j
  ·subst ij;rw[if_pos rfl]at gj
   cases gj
   rw[m]at mj
   cases mj
   exact ho
  ·rw[if_neg ij]at gj;have q:=h.obj j o2 b gj mj;by_cases hr:c9 (some o2)
   ·exact q.mono k (.inr hr)
   ·have nb:b≠a:=λe=>by
     subst e;rcases h.inj i j b m mj with e|e|e
     ·exact ij e
     ·rw[g]at e;exact n e
     ·rw[gj]at e;exact hr e
    exact q.mono k (.inl (v9 nb))
section
def Inv.freeze(I:Inv X Li σ H s)(e:H a=some (.dK Ln))(ho:s.heap.get? a=some o):Inv X Li σ (upd H a (.frz o (.dK Ln))) s:=by have q:T9 X.prog X.w H s.heap a (.dK Ln):=I.hok a _ e;exact I.write (by rw[e];exact trivial) (.inl rfl) (λb u _ z=>z) ⟨o,ho⟩ ⟨ho,q⟩
def iW(K:zo)(tl:TE):TI:=λσ H R=>tl σ H λx H1=>((∃z,x= .str z/\R (Its z) H1)\/(∃k a xs,x= .ref a/\Sq K k H1 a xs/\R (if k=true then Itt K a else Itl K a) H1))\/
 (∃a Ln,x= .ref a/\H1 a=some (.dK Ln)/\∀o,R (Itd a o Ln) (upd H1 a (.frz o (.dK Ln))))\/(∃a o Ln,x= .ref a/\H1 a=some (.frz o (.dK Ln))/\R (Itd a o Ln) H1)
def gX(hl:PE X e tl):PI X tg e (iW X.K tl):=by
 intro Li s σ H R I h;refine thn (hl Li s σ H _ I h) λv s1 Me=>Me.elim λx H1 I1 r1 q1=>?_;have fpo:∀b∈ [s1.heap.objs.size],L5 X Li H1 b:=λb hb=>by
  have z:b=s1.heap.objs.size:=by simpa using hb
  subst z;exact I1.fpOk (zh _) (I1.hok.fresh (zh _))
 rcases q1 with(⟨z,rfl,q⟩|⟨k,a,xs,rfl,hq,q⟩)|⟨a,Ln,rfl,hq,q⟩|⟨a,o,Ln,rfl,hq,q⟩
 ·obtain⟨t,rfl⟩:=(show ∃t,v=Value.str z t from r1);refine wpAny_pyIter_strU ?_;have I2:Inv X Li σ H1 {s1 with heap:=s1.heap.push {cls:=.type (Ya z),data:=.fields #[.str z t,.int 0 0]}}:=I1.kept λb o z=>zc _ z;have hg:(s1.heap.push {cls:=.type (Ya z),data:=.fields #[.str z t,.int 0 0]}).get? s1.heap.objs.size=some {cls:=.type (Ya z),data:=.fields #[.str z t,.int 0 0]}:=zu _ rfl;by_cases ha:z.cps.all (· < 128)=true
  ·have e:Ya z= "str_ascii_iterator":=by unfold Ya;rw[if_pos ha]
   refine⟨s1.heap.objs.size, [s1.heap.objs.size],_,_,H1,rfl,I2,vb z t _,?_,fpo,q⟩;rw[e]at hg ⊢;exact⟨_,hg,rfl,rfl⟩
  ·have e:Ya z= "str_iterator":=by unfold Ya;rw[if_neg ha]
   refine⟨s1.heap.objs.size, [s1.heap.objs.size],_,_,H1,rfl,I2,MZ z t _,?_,fpo,q⟩;rw[e]at hg ⊢;exact⟨_,hg,rfl,rfl⟩
 ·cases r1
  rcases k with _|_
  ·
    obtain⟨Ll,rv,p,hz⟩:=I1.list hq;exact YU p.isList ⟨s1.heap.objs.size, [s1.heap.objs.size],_,_,H1,rfl,I1.kept λb o z=>zc _ z,nz a _,⟨_,zu _ rfl,rfl,rfl⟩,fpo,q⟩
  ·
    obtain⟨Ll,rv,p,hz⟩:=I1.tuple hq;exact wpAny_pyIter_tuple (show s1.heap.IsTuple a Ll.toArray from p) ⟨s1.heap.objs.size, [s1.heap.objs.size],_,_,H1,rfl,I1.kept λb o z=>zc _ z,ka a _,⟨_,zu _ rfl,rfl,rfl⟩,fpo,q⟩
 ·cases r1
  obtain⟨hz,hS,vs,rel,dd⟩:=RI I1.hok hq;obtain⟨ep,dat⟩:=dd.dictAt;obtain⟨o,es,h1,h2,h3,h4⟩:=id dat;have Lr:Ln.length=vs.length:=xw rel;have I2:=DL.Inv.freeze I1 hq h1;have fpo2:∀b∈ [s1.heap.objs.size],L5 X Li (upd H1 a (.frz o (.dK Ln))) b:=λb hb=>by
   have z:b=s1.heap.objs.size:=by simpa using hb
   subst z;exact I2.fpOk (zh _) (I2.hok.fresh (zh _))
  refine wpAny_pyIter_dict hS dat ⟨s1.heap.objs.size, [s1.heap.objs.size],_,_,upd H1 a (.frz o (.dK Ln)),rfl,I2.kept λb o z=>zc _ z,AR h3 _,?_,fpo2,q o⟩;rw[Lr];exact⟨_,zu _ rfl,rfl,rfl⟩
 ·cases r1
  obtain⟨hget,hz,hS,vs,rel,dd⟩:=(show T9 X.prog X.w H1 s1.heap a (.frz o (.dK Ln))from I1.hok a _ hq);obtain⟨ep,dat⟩:=dd.dictAt;obtain⟨o',es,h1,h2,h3,h4⟩:=id dat;rw[hget]at h1
  cases h1
  have Lr:Ln.length=vs.length:=xw rel;refine wpAny_pyIter_dict hS dat ⟨s1.heap.objs.size, [s1.heap.objs.size],_,_,H1,rfl,I1.kept λb o z=>zc _ z,AR h3 _,?_,fpo,q⟩;rw[Lr];exact⟨_,zu _ rfl,rfl,rfl⟩
def mO:Key->D
| .inl i=>.int i
| .inr x=>.str x
def LF(l:List (Key×D)):List D:=l.map λkv=>mO kv.1
def ED:D->M Src:=λx=>match x with
| .ref r=>do
  match <-O4 r with
  | .dct l=>do
    let _ <-E7 r (.rod l)
    pure ⟨LF l,λ_=>true⟩
  | .rod l=>pure ⟨LF l,λ_=>true⟩
  |_=>AK (.ref r)
|d=>AK d
def itW(f:Fe):DSt->M Src:=λσ=>do ED (<-f σ)
def rL{v:V}{R:It->Hp->Prop}(h1:v5 (wc X) X0 G1 H1)(rv:d9 (wc X) X0 H1 d v)(p1:d7 (wc X) Z X0 H1 (AK d G1) λs X2 _ H'=>∀J,ItD (wc X) X2 H' J s->R J H'):
 (∃z,v= .str z/\R (Its z) H1)\/(∃k a xs,v= .ref a/\Sq X.K k H1 a xs/\R (if k=true then Itt X.K a else Itl X.K a) H1):=by
 have main:∀dd:D,(∀z,dd≠ .str z)->d9 (wc X) X0 H1 dd v->d7 (wc X) Z X0 H1 (C4 dd G1) (λs X2 _ H'=>∀J,ItD (wc X) X2 H' J s->R J H')->(∃z,v= .str z/\R (Its z) H1)\/(∃k a xs,v= .ref a/\Sq X.K k H1 a xs/\R (if k=true then Itt X.K a else Itl X.K a) H1):=by
  intro dd _ rv p1;have p1':d7 (wc X) Z X0 H1 ((C4 dd >>= λs=>(pure s:M Src)) G1) λs X2 _ H'=>∀J,ItD (wc X) X2 H' J s->R J H':=by
   have e:(C4 dd >>= λs=>(pure s:M Src))=C4 dd:=by
    funext G;rw[M.bind_eq];rcases C4 dd G with _|q
    ·rfl
    ·obtain⟨r,G'⟩:=q;cases r<;>rfl
   rw[e];exact p1
  obtain⟨sr,k,a,vs,rfl,q,rl,is,ck,_,p2⟩:=sM h1 rv p1';refine .inr ⟨k,a,vs,rfl,q,d7.ok p2 h1 _ λX2 G' H' x' h' ck' i=>?_⟩;obtain⟨Na,q',Mr⟩:=is X2 G' H' x' h' ck';refine⟨λd hd=>?_,λhi=>?_⟩
  ·obtain⟨y,hy,ry⟩:=Mr.get hd
   cases k with
   |true=>
     rw[if_pos rfl];exact⟨⟨Na,y,q',hy⟩,λx H2 ⟨e1,e2⟩=>by subst e1;exact⟨Ext.refl _ _,h',IU Mr hd (e2 Na q')⟩⟩
   |false=>
     rw[if_neg zZ];exact⟨⟨Na,y,q',hy⟩,λx H2 ⟨e1,e2⟩=>by subst e1;exact⟨Ext.refl _ _,h',IU Mr hd (e2 Na q')⟩⟩
  ·cases k with
   |true=>rw[if_pos rfl];exact⟨Na,q',by rw[<-Mr.length];exact hi⟩
   |false=>rw[if_neg zZ];exact⟨Na,q',by rw[<-Mr.length];exact hi⟩
 cases d with
 |str z=>
   refine .inl ⟨z,P6 rv,d7.ok p1 h1 _ λX2 G' H' x' h' ck' i=>⟨λd hd=>?_,λhi=>?_⟩⟩
   ·simp only[KA,jl]at hd
    cases hc:z.cps.toList[i]? with
    |none=>rw[hc]at hd;cases hd
    |some c=>
      rw[hc]at hd
      cases hd
      have hc':z.cps[i]? =some c:=by rw[<-zN];exact hc
      exact⟨⟨c,hc'⟩,λx H2 ⟨e1,c2,e2,e3⟩=>by
       subst e1;rw[hc']at e2
       cases e2
       exact⟨Ext.refl _ _,h',by rw[e3];unfold d9;rfl⟩⟩
   ·simp only[KA,zd]at hi;show z.cps[i]? =none;rw[<-zN];exact jC hi
 |tup l=>exact main (.tup l) (λz q=>nomatch q) rv p1
 |ref r=>exact main (.ref r) (λz q=>nomatch q) rv p1
 |_=>exact p1.elim
theorem GV{H:Hp}:∀ {l} {Ln} {i:Nat} {kd},u3 c μ H l Ln->l[i]? =some kd->∃v,Ln[i]? =some (kd.1,v)
|[],_,_,_,_,e=>by simp at e
|(k,d)::r,_,0,_,h,e=>by obtain⟨v,t,rfl,_,_⟩:=h;simp only[zJ,zR]at e;subst e;exact⟨v,rfl⟩
|(k,d)::r,_,i+1,_,h,e=>by obtain⟨v,t,rfl,_,ht⟩:=h;simp only[ji]at e ⊢;exact GV ht e
def bc(k:Key):d9 c μ H (mO k) (kV k):=by
 cases k<;>(unfold mO d9;rfl)
def LR{c:Wc}{H:Hp}(e:H a=some (.frz o (.dK Ln)))(rk:u3 c μ H l Ln):ItD c μ H (Itd a o Ln) ⟨LF l,λ_=>true⟩:=by
 intro X2 G' H' x h' _ i;have e':=x.frz _ _ _ e;refine⟨λd hd=>?_,λhi=>⟨e',by rw[<-rk.length];simpa [LF]using hi⟩⟩;simp only[LF,jl]at hd
 cases hl:l[i]? with
 |none=>rw[hl]at hd;cases hd
 |some kd=>
   rw[hl]at hd
   cases hd
   obtain⟨v,hv⟩:=GV rk hl;exact⟨⟨e',_,hv⟩,λy H2 ⟨e1,kv,e2,e3⟩=>by
    subst e1;rw[hv]at e2
    cases e2
    exact⟨Ext.refl _ _,h',by rw[e3];exact bc _⟩⟩
def Rq(he:DE X Z e f):DI X Z tg e (itW f):=
 DI.of (gX he.h) λσ H R Lo=>Lo.elim λX9 μ G s h p=>⟨X9,μ,G,s,h,(d7.bind p).mono λd X0 G1 H1 x1 h1 p1 v rv=>by
  cases d with
  |ref r=>
    have rv':=rv;unfold d9 at rv';obtain⟨a,m,rfl⟩:=rv';obtain⟨o,g,p2⟩:=K8 p1;have ro:=h1.obj r o a g m;rcases o with l|l|l|l
    ·exact .inl (rL h1 rv p2)
    ·exact .inl (rL h1 rv p2)
    ·
      obtain⟨Ln,q,rk⟩:=ro;refine .inr (.inl ⟨a,Ln,rfl,q,λo=>?_⟩);have x:Ext X0 H1 X0 (upd H1 a (.frz o (.dK Ln))):=Ext.mut (jz m) q (λ_ z=>nomatch z) (λ_ _ z=>nomatch z) _;have Oj:=rk.mono x;have h2:v5 (wc X) X0 (G1.set r (.rod l)) (upd H1 a (.frz o (.dK Ln))):=h1.setR g (λz=>z) m x ⟨Ln,o,Q5,Oj⟩;have p3:=d7.from p2 x;exact d7.ok p3 h2 _ (LR Q5 Oj)
    ·
      obtain⟨Ln,o,q,rk⟩:=ro;exact .inr (.inr ⟨a,o,Ln,rfl,q,d7.ok p2 h1 _ (LR q rk)⟩)
  |_=>exact .inl (rL h1 rv p1)⟩
end
end DL
namespace W
open PySem PySem.Spec L2 DL
open PyProof.Rows hiding St
section
def wp_itW:Wp (itW f σ) G R↔Wp (f σ) G λx G1=>Wp (ED x) G1 R:=by unfold itW;simp only[m6]
def srcW_tup:Wp (ED (.tup l)) G R↔R ⟨l,λ_=>true⟩ G:=wp_pure
def aC(e:G[p]? =some (.lst l)):Wp (ED (.ref p)) G R↔R ⟨l,ckO p (.lst l)⟩ G:=by unfold ED;simp only[m6,O8,e,O9];exact lX e
end
end W
namespace DL
open PySem PySem.Spec L2
open PyProof.Rows hiding St
section
def Qx{a:Addr}{o:Obj}{n:Nat}(hT:T= "list"\/T= "tuple")(ho:s.heap.get? a=some o)(hc:o.cls= .type T)(hd:o.data= .seq vs.toArray n)(Nn:vs.length<64)(hS:StrsAre vs ss)
 (h:∀(h1 h':Heap) (tk e:Nat) out Of,(∀b o,s.heap.get? b=some o->h1.get? b=some o)->(∀b o,h1.get? b=some o->h'.get? b=some o)->h'.get? h1.objs.size=some (jQ "list" out.toArray e)->StrsAre out Of->Of.Perm ss->sortedS Of=true->Q (.ref h1.objs.size) {s with heap:=h',toks:=tk}):
 zt (zI prog w) A (call (.builtin "sorted") [.ref a]) Q E s:=by
 have hz:vs.length<=zj:=zq (yj Nn) (by decide);refine yF YY Yv Yw (Yx _) ?_;unfold yC.«sorted»;refine za (zf ?_);refine za (JA a hT ho hc hd (λh1 hk=>?_) (by rw[zr];exact hz));refine za (xL ?_ hz);have hoL:(h1.push (jQ "list" vs.toArray 0)).get? h1.objs.size=some (jQ "list" vs.toArray 0):=zu _ rfl;refine za (jk (jn ZE ⟨_,hoL,rfl⟩ Zj (list_sort_treeK strKind_oneLt hoL hS.keysOf (λv₁ v₂ rest e=>JF (by rw[<-e];exact hS)) Nn λMi a1 a2=>⟨_,rfl,?_⟩) (ZG _)));obtain⟨Of,b1,b2,b3⟩:=sorted_out_str hS a1 a2;obtain⟨e,he⟩:=Ji hoL;refine zf ⟨_,rfl,h h1 _ s.toks e ((Xn Mi).map (·.2)).toList Of hk (λb o hb=>?_) (by rw[ZH];exact he) b1 b2 b3⟩;have Lu:b<h1.objs.size:=zC hb;rw[XS (zQ Lu) (by rw[size_push'];exact yp Lu),Yt _ _ _ (zQ Lu)];exact hb
end
def MF(l:List D):M D:=do
 let ss <-D3 (c8 l)
 if ss.length<64 then N7 (.lst ((W5 ss).map .str))else M.stuck
def B9:List D->M D:=λds=>match ds with
|[.tup l]=>MF l
|[.ref r]=>do
  match <-O4 r with
  | .lst l=>MF l
  | .dct l=>do
    let ss <-D3 (h9 l)
    if ss.length<64 then N7 (.lst ((W5 ss).map .str))else M.stuck
  |_=>M.stuck
|_=>M.stuck
section
theorem wM:∀ {l} {ss} {vs} {us},c8 l=some ss->u0 c μ H l vs->u6 vs us->StrsAre us ss
|[],_,_,_,e,r,v=>by cases e;cases r;cases v;exact .nil
| .str x::t,ss,_,_,e,r,v=>by
  replace e:=show (c8 t).map (_ :: ·)=some _ from e;rcases h:c8 t with _|q
  ·rw[h]at e;exact v8 e
  ·
    rw[h]at e
    cases e
    obtain⟨v0,tl,rfl,r0,rt⟩:=r
    cases v with
    |cons ru rt2=>
      rw[P6 r0]at ru;obtain⟨tk,rfl⟩:=ru;exact .cons _ _ (wM h rt rt2)
| .non::_,_,_,_,e,_,_=>by exact v8 e
| .bl _::_,_,_,_,e,_,_=>by exact v8 e
| .int _::_,_,_,_,e,_,_=>by exact v8 e
| .tup _::_,_,_,_,e,_,_=>by exact v8 e
| .ref _::_,_,_,_,e,_,_=>by exact v8 e
| .fn _::_,_,_,_,e,_,_=>by exact v8 e
| .ty _::_,_,_,_,e,_,_=>by exact v8 e
theorem BQ:∀ {l} {ss},c8 l=some ss->ss.length=l.length
|[],_,e=>by cases e;rfl
| .str x::t,ss,e=>by
  replace e:=show (c8 t).map (_ :: ·)=some _ from e;rcases h:c8 t with _|q
  ·rw[h]at e;exact v8 e
  ·rw[h]at e;cases e;simp[BQ h]
| .non::_,_,e=>by exact v8 e
| .bl _::_,_,e=>by exact v8 e
| .int _::_,_,e=>by exact v8 e
| .tup _::_,_,e=>by exact v8 e
| .ref _::_,_,e=>by exact v8 e
| .fn _::_,_,e=>by exact v8 e
| .ty _::_,_,e=>by exact v8 e
def aS(I:Inv X Li σ H s)(hr:v5 (wc X) μ G H)(rl:u0 (wc X) μ H l vs)(rv:u6 vs us)(hT:T= "list"\/T= "tuple")(ho:s.heap.get? a=some o)(hc:o.cls= .type T)(hd:o.data= .seq us.toArray n)
 (p:d7 (wc X) Z μ H (MF l G) λd X2 _ H'=>∀v,d9 (wc X) X2 H' d v->Q v H'):zt (zI X.prog X.w) X.A (call (.builtin "sorted") [.ref a]) (EP X Li σ Q) X.xe s:=by
 obtain⟨ss,es,p2⟩:=gC p;split at p2
 case isFalse=>exact p2.elim
 rename_i Nn;have hS:=wM es rl rv;have hlen0:us.length=ss.length:=by rw[BQ es,rl.length,rv.length]
 refine Qx hT ho hc hd (by lia) hS λh1 h' tk e out Of k1 k2 he Mt hp hs=>?_;have e2:=nM hp hs;subst e2;obtain⟨ws,ew,rv',rl2⟩:=kI (μ:=μ) Mt;have I1:Inv X Li σ H {s with heap:=h1,toks:=tk}:=I.kept k1;have hf:=I1.hok.fresh (zh _);have Lr:ws.length<=zj:=by
  rw[ew,zd];have e3:(W5 ss).length=ss.length:=(jL ss leS).length_eq;have:(64:Nat)<=zj:=by decide
  lia
 exact⟨.ref h1.objs.size,upd H h1.objs.size (.lst ws),I1.laid k2 (zh _) ⟨Lr,out,e,rv',he⟩,rfl,U6 hr rl2 p2 _ hf⟩
def Pq(hc:X.calm=true):W8 X Z (.builtin "sorted") B9:=⟨by
 intro Li s σ H xs us Q I r Lo;obtain⟨ds,μ,G,rl,hr,p⟩:=Lo;rcases ds with _|⟨_|_|_|_|l|i|_|_,_|⟨_,_⟩⟩<;>try exact p.elim
 all_goals (delta B9 at p;dsimp only at p)
 ·obtain⟨v,rfl,rv⟩:=D7 rl;obtain⟨u,rfl,ru⟩:=C9 r;unfold d9 at rv;obtain⟨a,vs,rfl,q,Mr⟩:=rv
  cases ru
  obtain⟨Ll,rv,⟨o,h1,h2,n,h3⟩,hz⟩:=I.tuple q;exact aS I hr Mr rv (.inr rfl) h1 h2 h3 p
 ·obtain⟨v,rfl,rv⟩:=D7 rl;obtain⟨u,rfl,ru⟩:=C9 r;have rv':=rv;unfold d9 at rv';obtain⟨a,m,rfl⟩:=rv'
  cases ru
  obtain⟨o,g,p1⟩:=K8 p;have ro:=hr.obj i o a g m;rcases o with l|l|l|l
  ·
    obtain⟨vs,q,Mr⟩:=ro;obtain⟨Ll,rv,pl,hz⟩:=I.list (SqL.of q);obtain⟨o,h1,h2,n,h3⟩:=pl.isList;exact aS I hr Mr rv (.inl rfl) h1 h2 h3 p1
  ·exact p1.elim
  ·
    refine(oZ (Z:=Z) hc).h Li s σ H [.ref a] [.ref a] Q I r ⟨[.ref i],μ,G,rl,hr,?_⟩;have eo:O4 i G=some (.ok (.dct l),G):=by unfold O4;simp only[g]
    have e:KK [.ref i] G= ((do
     let ss <-D3 (h9 l)
     if ss.length<64 then N7 (.lst ((W5 ss).map .str))else M.stuck:M D)) G:=by
     show ((O4 i >>= λo=>match o with
      | .dct l => (do
        let ss <-D3 (h9 l)
        if ss.length<64 then N7 (.lst ((W5 ss).map .str))else M.stuck:M D)
      |_=>M.stuck):M D) G=_
     rw[M.bind_ok eo]
    rw[e];exact p1
  ·exact p1.elim⟩
def bz(h:X.calm=true):BD B9 "sorted" X Z:=⟨.inl ⟨_,Pq h,GG⟩⟩
end
end DL
namespace W
open PySem PySem.Spec L2 DL
open PyProof.Rows hiding St
section
def Qf(hs:c8 l=some ss)(Nn:ss.length<64):Wp (MF l) G Q↔Q (.ref G.length) (G++[.lst ((W5 ss).map .str)]):=by unfold MF;simp only[m6,rA,hs,O9,if_pos Nn,U4]
def vm(e:G[r]? =some (.lst l))(hs:c8 l=some ss)(Nn:ss.length<64):Wp (B9 [.ref r]) G Q↔Q (.ref G.length) (G++[.lst ((W5 ss).map .str)]):=by unfold B9;simp only[m6,O8,e,O9];exact Qf hs Nn
def Bl(e:G[r]? =some (.dct l))(hs:h9 l=some ss)(Nn:ss.length<64):Wp (B9 [.ref r]) G Q↔Q (.ref G.length) (G++[.lst ((W5 ss).map .str)]):=by unfold B9;simp only[m6,O8,e,O9,rA,hs,if_pos Nn,U4]
end
end W
namespace DL
open PySem
section
end
end DL
namespace DL
open PySem
open PyProof.Rows (IsTup)
section
variable{prog:zU}{w:jg}{A:js}{R:Result->zA->Prop}{I:Addr}{fp wr:List Addr}{n:Nat}{P:Nat->zm->Prop}{St:Nat->Heap->Prop}{K:Type}[DecidableEq K]{knd:KeyKind prog w K}
end
section
variable{prog:zU}{w:jg}{A:js}{E:VSP}{s:zA}{K:Type}[DecidableEq K]{knd:KeyKind prog w K}
end
end DL
namespace DL
open PySem PySem.Spec L2
open PyProof.Rows hiding St
section
variable{X:Cx}{Z:XC}{μ:List Addr}{H:Hp}{G:DH}
end
def oI:D->List D->M D:=λx xs=>match x,xs with
| .ref r, [.int k]=>do
  let l <-lstM r
  match l[k.toNat]? with
  |some y=>
    if 0<=k/\k<2 ^ 62 then do
     let _ <-E7 r (.lst (l.eraseIdx k.toNat))
     pure y
    else M.stuck
  |none=>M.stuck
|_,_=>M.stuck
section
def u0.eraseIdx(n:Nat)(h:u0 c μ H l vs):u0 c μ H (l.eraseIdx n) (vs.eraseIdx n):=by rw[XZ,XZ];exact(u0.take _ h).append (u0.drop _ h)
def Qh:MtD X Z "list.pop" oI:=by
 intro Li s σ H x xs v us Q I rx rs Lo;obtain⟨d,ds,μ,G,rd,rds,hr,p⟩:=Lo;rcases d with _|_|_|_|_|r|_|_<;>try (exact p.elim;done)
 ·
   unfold d9 at rd;obtain⟨a,m,rfl⟩:=rd;rcases ds with _|⟨kd,t⟩
   ·exact p.elim
   ·
     rcases t with _|⟨_,_⟩
     ·
       rcases kd with _|_|k|_|_|_|_|_<;>try (exact p.elim;done)
       ·
         obtain⟨kv,rfl,rk⟩:=D7 rds;have ek:=C2 rk;subst ek;obtain⟨l,vs,g,ea,rl,p1⟩:=vG hr m p;rcases hy:l[k.toNat]? with _|y
         ·simp only[hy]at p1;exact p1.elim
         ·
           simp only[hy]at p1;split at p1
           ·rename_i hz;obtain⟨x1,h1,p2⟩:=CK hr g m (λx=>(rl.mono x).eraseIdx _) p1;obtain⟨yv,e1,ry⟩:=rl.get hy;have Lu:k.toNat<vs.length:=by
             by_cases q:k.toNat<vs.length
             ·exact q
             ·rw[jC (by lia)]at e1;exact v8 e1
            refine sy Li s σ H (.ref a) [.int k] v us Q I rx rs ⟨a,vs,k,k.toNat,yv,rfl,rfl,ea,by lia,by lia,?_,e1,d7.ok p2 h1 _ (ry.mono x1)⟩;unfold seqIndex?;have h0:¬k<0:=by lia
            have h2:(0<=k&&k<(vs.length:Int))=true:=by simp;lia
            simp only[if_neg h0,h2,if_true]
           ·exact p1.elim
     ·cases kd<;>exact p.elim
end
end DL
namespace W
open PySem PySem.Spec L2 DL
open PyProof.Rows hiding St
def ai(h:G[r]? =some (.lst (y::l))):Wp (oI (.ref r) [.int 0]) G Q↔Q y (G.set r (.lst l)):=by
 have e:oI (.ref r) [.int 0]= (do
  let l <-lstM r
  match l[(0:Int).toNat]? with
  |some y=>
    if 0<=(0:Int)/\(0:Int)<2 ^ 62 then do
     let _ <-E7 r (.lst (l.eraseIdx (0:Int).toNat))
     pure y
    else M.stuck
  |none=>M.stuck):=rfl
 rw[e];unfold lstM;simp only[m6,O8,h,O9,wp_pure];show Wp (if 0<=(0:Int)/\(0:Int)<2 ^ 62 then (do let _ <-E7 r (.lst l);pure y)else M.stuck) G Q↔_;rw[if_pos (by decide)];simp only[m6,wp_pure,sE]
end W
namespace DL
open PySem PySem.Spec L2
open PyProof.Rows hiding St
def ixG:D->D->M D:=λx y=>match x,y with
| .ref r,.str z=>do
  match <-O4 r with
  | .dct l=>D3 (l8 l (.inr z))
  |_=>M.stuck
|_,_=>ixD x y
section
def OX:IxR X (λx y H Q=>∃a Ln k v,x= .ref a/\y=kV k/\H a=some (.dK Ln)/\A7 Ln k=some v/\Q v H):=by
 intro value slice Li s σ H x y v u Q I rx ry h hs;obtain⟨a,Ln,k,z,rfl,rfl,e,l,q⟩:=h
 cases rx
 obtain⟨zz,hd,vs,rel,dd⟩:=RI I.hok e;obtain⟨w',hw,rw'⟩:=pB.some_of (by rw[<-l];exact rel.val k);exact Xu dd.typeIs PySem.F.slot_dict_getitem.lookup (wpAny_getItem_of (rF ry) dd.mapOf hw ⟨rfl,z,H,I.tok _,rw',q⟩) hs
def Mf:IxD X Z ixG:=IxR.mono (OX.or VR) λx y H Q Lo=>Lo.elim λdx dy μ G rx ry hr p=>by
 by_cases c:∃r z,dx= .ref r/\dy= .str z
 ·obtain⟨r,z,rfl,rfl⟩:=c;refine .inl ?_;unfold d9 at rx;obtain⟨a,m,rfl⟩:=rx;have p':d7 (wc X) Z μ H ((O4 r >>= λo=>match o with| .dct l=>D3 (l8 l (.inr z))|_=>M.stuck:M D) G) λd X2 _ H'=>∀v,d9 (wc X) X2 H' d v->Q v H':=p;obtain⟨o,g,p1⟩:=K8 p';have ro:=hr.obj r o a g m;rcases o with _|_|l|_<;>try (exact p1.elim;done)
  ·
    obtain⟨Ln,q,rk⟩:=ro;obtain⟨d,ed,k⟩:=DM hr p1;have z1:=nL (k:=.inr z) rk;rw[ed]at z1;obtain⟨v,ev,rv⟩:=z1;exact⟨a,Ln,.inr z,v,rfl,P6 ry,q,ev,k v rv⟩
 ·refine .inr ⟨dx,dy,μ,G,rx,ry,hr,?_⟩;have e:ixG dx dy=ixD dx dy:=by
   rcases dx with _|_|_|_|_|r|_|_<;>try (rfl;done)
   ·
     rcases dy with _|_|_|z|_|_|_|_<;>try (rfl;done)
     ·exact absurd ⟨r,z,rfl,rfl⟩ c
  rw[<-e];exact p
def HX(ha:DE X Z a fa)(hb:DE X Z b fb)(hs:lJ b):DE X Z (.Subscript a b pos) (m9 ixG fa fb):=sW Mf ha hb hs
end
end DL
namespace W
open PySem PySem.Spec L2 DL
open PyProof.Rows hiding St
def Ez(h:G[r]? =some (.dct l))(k:l8 l (.inr z)=some d):Wp (ixG (.ref r) (.str z)) G Q↔Q d G:=by have e:ixG (.ref r) (.str z)= (O4 r >>= λo=>match o with| .dct l=>D3 (l8 l (.inr z))|_=>M.stuck:M D):=rfl;rw[e];simp only[m6,O8,h,O9,rA,k,zR,exists_eq_left']
end W
namespace DL
open PySem PySem.W
open PyProof.Rows hiding St
def tOk{α:Type}(lt:Nat->Nat->Bool)(n:Nat):KasT α->(α->Prop)->Prop
| .ret a,Q=>Q a
| .ask i j k,Q=>i<n/\j<n/\tOk lt n (k (lt i j)) Q
section
theorem tOk.bind:∀t,tOk lt n t (λa=>tOk lt n (f a) Q)->tOk lt n (t.bind f) Q
| .ret _,h=>h
| .ask i j k,h=>⟨h.1,h.2.1,tOk.bind (k (lt i j)) h.2.2⟩
def tOk.mono(hq:∀a,Q a->Q' a):∀t,tOk lt n t Q->tOk lt n t Q'
| .ret a,h=>hq a h
| .ask i j k,h=>⟨h.1,h.2.1,tOk.mono hq (k (lt i j)) h.2.2⟩
theorem tOk.wp(hc:∀i j C,i<n->j<n->C (lt i j) s->cmp i j C s):∀t,tOk lt n t Q->t.kasWp cmp (λa s'=>s'=s/\Q a) s
| .ret a,h=>⟨rfl,h⟩
| .ask i j k,h=>hc i j _ h.1 h.2.1 (tOk.wp hc (k (lt i j)) h.2.2)
end
structure dB(lt:Nat->Nat->Bool)(n:Nat):Prop where
 tr:∀i j k,lt i j=true->lt j k=true->lt i k=true
 tot:∀i j,i<n->j<n->i≠j->lt i j=false->lt j i=true
structure O1(p:Array Nat)(n:Nat):Prop where
 pm:p.toList.Perm (zP n)
section
def O1.size(h:O1 p n):p.size=n:=by have:=h.pm.length_eq;simpa using this
def O1.bd(h:O1 p n)(hk:k<n):p.getD k 0<n:=by
 have hs:=h.size;have e:p.getD k 0=p[k]'(by lia):=by simp[YS,hs,hk]
 rw[e];have:p[k]'(by lia)∈p.toList:=by simp
 have:=h.pm.mem_iff.mp this;simpa using this
def O1.ne(h:O1 p n)(hi:i<n)(hj:j<n)(hij:i≠j):p.getD i 0≠p.getD j 0:=by
 have hs:=h.size;have nd:p.toList.Nodup:=h.pm.nodup_iff.mpr Jj;have e1:p.getD i 0=p.toList[i]'(by simp;lia):=by simp[YS,hs,hi]
 have e2:p.getD j 0=p.toList[j]'(by simp;lia):=by simp[YS,hs,hj]
 rw[e1,e2];intro e;exact hij ((Jk nd).mp e)
def F9(lt:Nat->Nat->Bool)(p:Array Nat)(m:Nat):Prop:=∀i j,i<j->j<m->lt (p.getD i 0) (p.getD j 0)=true
def RE(lt:Nat->Nat->Bool)(p:Array Nat)(m:Nat):Prop:=∀i j,i<j->j<m->lt (p.getD j 0) (p.getD i 0)=true
def vn(O:dB lt n)(hk:1<=k)(h:F9 lt p k)(hl:lt (p.getD (k-1) 0) (p.getD k 0)=true):F9 lt p (k+1):=by
 intro i j hij hj;by_cases hj':j<k
 ·exact h i j hij hj'
 ·have ej:j=k:=by lia
  subst ej;by_cases hi:i=j-1
  ·rw[hi];exact hl
  ·exact O.tr _ _ _ (h i (j-1) (by lia) (by lia)) hl
def nh(O:dB lt n)(hk:1<=k)(h:RE lt p k)(hl:lt (p.getD k 0) (p.getD (k-1) 0)=true):RE lt p (k+1):=by
 intro i j hij hj;by_cases hj':j<k
 ·exact h i j hij hj'
 ·have ej:j=k:=by lia
  subst ej;by_cases hi:i=j-1
  ·rw[hi];exact hl
  ·exact O.tr _ _ _ hl (h i (j-1) (by lia) (by lia))
theorem iL(O:dB lt n)(P:O1 p n):∀f k,1<=k->k+f<=n->F9 lt p k->tOk lt n (kas_asc p f k) (λm=>k<=m/\m<=k+f/\F9 lt p m/\(m<k+f->lt (p.getD m 0) (p.getD (m-1) 0)=true))
|0,k,h1,h2,u=>⟨zh _,zh _,u,λz=>by lia⟩
|f+1,k,h1,h2,u=>by
  unfold kas_asc;refine⟨P.bd (by lia),P.bd (by lia),?_⟩;rcases e:lt (p.getD k 0) (p.getD (k-1) 0)with _|_
  ·
    have hl:=O.tot _ _ (P.bd (show k<n by lia)) (P.bd (show k-1<n by lia)) (P.ne (by lia) (by lia) (by lia)) e;simp only[zw,if_false];exact(iL O P f (k+1) (by lia) (by lia) (vn O h1 u hl)).mono λm ⟨a,b,c,d⟩=>⟨by lia,by lia,c,λz=>d (by lia)⟩
  ·exact⟨zh _,by lia,u,λ_=>e⟩
theorem qU(O:dB lt n)(P:O1 p n):∀f k,1<=k->k+f<=n->RE lt p k->tOk lt n (kas_desc f p k 0) (λr=>r.1=p/\r.2.2=0/\k<=r.2.1/\r.2.1<=k+f/\RE lt p r.2.1)
|0,k,h1,h2,u=>⟨rfl,rfl,zh _,zh _,u⟩
|f+1,k,h1,h2,u=>by
  unfold kas_desc;refine⟨P.bd (by lia),P.bd (by lia),?_⟩;rcases e:lt (p.getD k 0) (p.getD (k-1) 0)with _|_
  ·
    have hl:=O.tot _ _ (P.bd (show k<n by lia)) (P.bd (show k-1<n by lia)) (P.ne (by lia) (by lia) (by lia)) e;simp only[zw,if_false];refine⟨P.bd (by lia),P.bd (by lia),?_⟩;rw[hl];exact⟨rfl,rfl,zh _,yx _ _,u⟩
  ·
    simp only[if_true,yD,if_false,gt_iff_lt];exact(qU O P f (k+1) (by lia) (by lia) (nh O h1 u e)).mono λr ⟨a,b,c,d,g⟩=>⟨a,b,by lia,by lia,g⟩
def EA(p:Array Nat)(k:Nat):p.getD k 0= (p[k]?).getD 0:=by by_cases h:k<p.size<;>simp[YS,h]
def VC(P:O1 p n):O1 (kas_rev p i j) n:=⟨(Yh.mp (mirror_perm p i j _)).trans P.pm⟩
def Ku(P:O1 p n)(hm:m<=n)(d:RE lt p m):F9 lt (kas_rev p 0 m) m:=by
 intro i j hij hj;have hs:=P.size;have e:∀k,k<m->(kas_rev p 0 m).getD k 0=p.getD (m-1-k) 0:=λk hk=>by rw[EA,EA];unfold kas_rev;rw[getElem?_mirror_all (by lia),if_pos ⟨zO _,hk⟩,Nat.zero_add]
 rw[e i (by lia),e j hj];exact d (m-1-j) (m-1-i) (by lia) (by lia)
def qZ(O:dB lt n)(P:O1 p n)(h2:2<=n)(d:RE lt p 2):tOk lt n (kas_descPart 1 n p) (λr=>O1 r.2 n/\1<=r.1/\r.1<=n/\F9 lt r.2 r.1):=by unfold kas_descPart;refine tOk.bind _ ((qU O P (n-(1+1)) (1+1) (by lia) (by lia) d).mono λr ⟨a,b,c,e,g⟩=>?_);obtain⟨r1,r2,r3⟩:=r;dsimp only at a b c e g ⊢;subst a b;rw[if_neg (yD 0)];unfold kas_tail3;refine tOk.bind _ ((iL O (VC P) (n-r2) r2 (by lia) (by lia) (Ku P (by lia) g)).mono λm ⟨a1,a2,a3,_⟩=>?_);exact⟨VC P,by lia,by lia,a3⟩
def Qq(O:dB lt n)(P:O1 p n)(h2:2<=n):tOk lt n (kas_count n p) (λr=>O1 r.2 n/\1<=r.1/\r.1<=n/\F9 lt r.2 r.1):=by
 unfold kas_count;refine tOk.bind _ ((iL O P (n-1) 1 (zh _) (by lia) (λi j _ _=>by lia)).mono λm ⟨a1,a2,a3,a4⟩=>?_);by_cases hm:m=n
 ·rw[if_pos (by simpa using hm)];exact⟨P,a1,by lia,a3⟩
 ·rw[if_neg (by simpa using hm)];by_cases h1:m>1
  ·rw[if_pos h1];refine⟨P.bd (by lia),P.bd (by lia),?_⟩;rw[a3 0 (m-1) (by lia) (by lia)];exact⟨P,a1,by lia,a3⟩
  ·rw[if_neg h1];have em:m=1:=by lia
   subst em;refine qZ O P h2 λi j hij hj=>?_;have e1:i=0:=by lia
   have e2:j=1:=by lia
   subst e1 e2;exact a4 (by lia)
theorem vL(O:dB lt n)(P:O1 p n)(hk:k<n)(u:F9 lt p k):∀f l r,l<=r->r<=k->r-l<=f->(∀i,i<l->lt (p.getD i 0) (p.getD k 0)=true)->(∀i,r<=i->i<k->lt (p.getD k 0) (p.getD i 0)=true)->
 tOk lt n (kas_place p k f l r) (λL=>L<=k/\(∀i,i<L->lt (p.getD i 0) (p.getD k 0)=true)/\∀i,L<=i->i<k->lt (p.getD k 0) (p.getD i 0)=true)
 |0,l,r,h1,h2,h3,a,b=>⟨by lia,a,λi hi=>b i (by lia)⟩
 |f+1,l,r,h1,h2,h3,a,b=>by
   unfold kas_place;by_cases h:l>=r
   ·rw[if_pos h];exact⟨by lia,a,λi hi=>b i (by lia)⟩
   ·rw[if_neg h];have hm1:l<=(l+r) / 2:=by lia
    have hm2:(l+r) / 2<r:=by lia
    refine⟨P.bd hk,P.bd (by lia),?_⟩;rcases e:lt (p.getD k 0) (p.getD ((l+r) / 2) 0)with _|_
    ·
      simp only[zw,if_false];have hl:=O.tot _ _ (P.bd hk) (P.bd (show (l+r) / 2<n by lia)) (P.ne hk (by lia) (by lia)) e;refine vL O P hk u f _ r (by lia) h2 (by lia) (λi hi=>?_) b;by_cases ei:i= (l+r) / 2
      ·rw[ei];exact hl
      ·exact O.tr _ _ _ (u i ((l+r) / 2) (by lia) (by lia)) hl
    ·
      simp only[if_true];refine vL O P hk u f l _ hm1 (by lia) (by lia) a λi hi hik=>?_;by_cases ei:i= (l+r) / 2
      ·rw[ei];exact e
      ·exact O.tr _ _ _ e (u _ i (by lia) hik)
theorem aW(O:dB lt n):∀f k p,O1 p n->k+f=n->F9 lt p k->tOk lt n (kas_bin f p k) (λq=>O1 q n/\F9 lt q n)
|0,k,p,P,h,u=>⟨P,by rw[<-h];exact u⟩
|f+1,k,p,P,h,u=>by
  unfold kas_bin;refine tOk.bind _ ((vL O P (show k<n by lia) u k 0 k (zO _) (zh _) (by lia) (λi hi=>by lia) (λi h1 h2=>by lia)).mono λL ⟨hL,a,b⟩=>?_);have hs:=P.size;refine aW O f (k+1) _ ⟨(Yh.mp (bubble_perm p k (k-L))).trans P.pm⟩ (by lia) ?_;have e:∀i,(bubble p k (k-L)).getD i 0=if i=L then p.getD k 0 else if L<i/\i<=k then p.getD (i-1) 0 else p.getD i 0:=λi=>by
   rw[EA,getElem?_bubble (by lia) _ (by lia),show k-(k-L)=L by lia];split
   ·rw[<-EA]
   ·split<;>rw[<-EA]
  intro i j hij hj;rw[e i,e j];by_cases h1:i=L
  ·rw[if_pos h1,if_neg (by lia),if_pos (by lia)];exact b (j-1) (by lia) (by lia)
  ·rw[if_neg h1];by_cases h2:j=L
   ·rw[if_pos h2,if_neg (by lia)];exact a i (by lia)
   ·rw[if_neg h2];by_cases h3:L<i
    ·rw[if_pos (by lia),if_pos (by lia)];exact u _ _ (by lia) (by lia)
    ·rw[if_neg (by lia)];by_cases h4:L<j
     ·rw[if_pos (by lia)];by_cases h5:i<j-1
      ·exact u _ _ h5 (by lia)
      ·lia
     ·rw[if_neg (by lia)];exact u _ _ hij (by lia)
def Vc(O:dB lt n)(h2:2<=n):tOk lt n (kas_sort n) (λq=>O1 q n/\F9 lt q n):=by
 unfold kas_sort;refine tOk.bind _ ((Qq O ⟨by simp⟩ h2).mono λr ⟨a,b,c,d⟩=>?_);by_cases h:r.1<n
 ·rw[if_pos h,show max r.1 1=r.1 by lia];exact aW O _ _ _ a (by lia) d
 ·rw[if_neg h];exact⟨a,by rw[show n=r.1 by lia];exact d⟩
end
end DL
namespace DL
open PySem PySem.Spec L2
open PyProof.Rows hiding St
def tF:D->Option (Int×Str)
| .tup [.int a,.str x]=>some (a,x)
|_=>none
def tB(f:D->Option (Int×Str)):List D->Option (List (Int×Str))
|[]=>some []
|d::r=>match f d,tB f r with
  |some a,some b=>some (a::b)
  |_,_=>none
def S2(p q:Int×Str):Bool:=if p.1=q.1 then decide (p.2.cps.toList<q.2.cps.toList)else decide (p.1<q.1)
def eC(p q:(Int×Str)×D):Bool:= !S2 q.1 p.1
def IB(qs:List (Int×Str))(l:List D):List D:=((qs.zip l).mergeSort eC).map (·.2)
def mH(p:Int×Str):S2 p p=false:=by unfold S2;rw[if_pos rfl,decide_eq_false];exact Xr _
def AE(h1:S2 p q=true)(h2:S2 q r=true):S2 p r=true:=by
 unfold S2 at *;by_cases e1:p.1=q.1
 ·rw[if_pos e1]at h1;by_cases e2:q.1=r.1
  ·rw[if_pos e2]at h2;rw[if_pos (e1.trans e2)];simp only[decide_eq_true_eq]at *;exact List.lt_trans h1 h2
  ·rw[if_neg e2]at h2;rw[if_neg (by rw[e1];exact e2),e1];exact h2
 ·rw[if_neg e1]at h1;simp only[decide_eq_true_eq]at h1;by_cases e2:q.1=r.1
  ·rw[if_pos e2]at h2;rw[if_neg (by rw[<-e2];exact e1),<-e2];exact decide_eq_true h1
  ·rw[if_neg e2]at h2;simp only[decide_eq_true_eq]at h2;rw[if_neg (by lia)];exact decide_eq_true (by lia)
def gG(h:p≠q)(h1:S2 p q=false):S2 q p=true:=by
 unfold S2 at *;by_cases e1:p.1=q.1
 ·rw[if_pos e1]at h1;rw[if_pos e1.symm];simp only[decide_eq_false_iff_not,decide_eq_true_eq]at *;have hle:q.2.cps.toList<=p.2.cps.toList:=h1;refine jJ λn=>h ?_;have hle2:p.2.cps.toList<=q.2.cps.toList:=n;have e:=List.le_antisymm hle2 hle
  cases p with|mk a x=>cases q with|mk b y=>
  dsimp only at e1 e;subst e1;congr 1
  cases x;cases y
  congr 1;exact Zx.mp e
 ·rw[if_neg e1]at h1;rw[if_neg (λe=>e1 e.symm)];simp only[decide_eq_false_iff_not,decide_eq_true_eq]at *;lia
def EY{qs:List (Int×Str)}(nd:qs.Nodup):∀a∈qs.zip l,∀b∈qs.zip l,a.1=b.1->a=b:=by intro a ha b hb e;obtain⟨i,hi,rfl⟩:=xN.mp ha;obtain⟨j,hj,rfl⟩:=xN.mp hb;simp only[List.getElem_zip]at e ⊢;have:=(Jk nd).mp e;subst this;rfl
def fT(nd:qs.Nodup){z:List ((Int×Str)×D)}(hp:z.Perm (qs.zip l))(hs:z.Pairwise λa b=>eC a b=true):z.map (·.2)=IB qs l:=by
 unfold IB;congr 1;have h2:((qs.zip l).mergeSort eC).Pairwise λa b=>eC a b=true:=xq (λa b c h1 h2=>by
  unfold eC at *;simp only[Zo]at *;refine yP.mpr λh=>?_;by_cases e:a.1=b.1
  ·rw[e]at h;rw[h]at h2;cases h2
  ·have:=AE h (gG (λz=>e z.symm) h1);rw[this]at h2;cases h2) (λa b=>by
  unfold eC;by_cases e:a.1=b.1
  ·rw[e,mH];rfl
  ·cases q:S2 b.1 a.1 with
   |false=>rfl
   |true=>
     have:S2 a.1 b.1=false:=by refine yP.mpr λh=>?_;have:=AE q h;rw[mH]at this;cases this
     rw[this];rfl) _
 refine Yf (λa b ha hb h1 h2=>?_) hs h2 (hp.trans (jL _ _).symm);refine EY nd a (hp.mem_iff.mp ha) b ((jL _ _).mem_iff.mp hb) (jJ λn=>?_);unfold eC at *;simp only[Zo]at *;have:=gG (λz=>n z.symm) h1;rw[this]at h2;cases h2
section
def kC(h:Heap)(u:zm)(q:Int×Str):Prop:=∃a t t',u= .ref a/\IsTup h a #[.int q.1 t,.str q.2 t']
def tI(u:zm)(q:Int×Str):Prop:=∃t,q.1=0/\u= .str q.2 t
def SG(P:zm->Int×Str->Prop)(ku:List zm)(qs:List (Int×Str)):Prop:=∀(i:Nat) (q:Int×Str),qs[i]? =some q->∃u,ku[i]? =some u/\P u q
theorem vR{g:D->Option (Int×Str)}{P:zm->Int×Str->Prop}(hg:∀d q v u,g d=some q->d9 (wc X) μ H d v->J1 v u->P u q):∀ {ks qs kv ku},tB g ks=some qs->u0 (wc X) μ H ks kv->u6 kv ku->qs.length=ku.length/\SG P ku qs
|[],qs,kv,ku,e,r,rv=>by
  cases e;cases r;cases rv
  exact⟨rfl,λi q z=>by simp at z⟩
|d::r,qs,kv,ku,e,rr,rv=>by
  obtain⟨v,tl,rfl,rd,rt⟩:=rr
  cases rv with
  |cons ru rur=>
  rename_i u ur;unfold tB at e;rcases h1:g d with _|a
  ·rw[h1]at e;cases e
  rcases h2:tB g r with _|b
  ·rw[h1,h2]at e;cases e
  rw[h1,h2]at e
  cases e
  obtain⟨hl,hk⟩:=vR hg h2 rt rur;refine⟨by simp[hl],λi q z=>?_⟩
  cases i with
  |succ i=>simpa using hk i q (by simpa using z)
  |zero=>
    simp at z;subst z;exact⟨u,rfl,hg d a v u h1 rd ru⟩
def oh(hx:tI u q)(hy:tI u' q')(h:C (S2 q q') s):zt (zI prog w) A (keyLt' oneType' u u') C E s:=by obtain⟨t,e,rfl⟩:=hx;obtain⟨t',e',rfl⟩:=hy;rw[keyLt'_oneType];unfold S2 at h;rw[if_pos (e.trans e'.symm)]at h;exact oneLt_str h
def fz(hx:kC s.heap u q)(hy:kC s.heap u' q')(h:C (S2 q q') s):zt (zI prog w) A (keyLt' (tuples' true) u u') C E s:=by
 obtain⟨a,t,t',rfl,o,ho,hc,n,hd⟩:=hx;obtain⟨b,v,v',rfl,o2,Nl,hc2,n2,hd2⟩:=hy;refine PySem.W.kat_lt ho hd Nl hd2 ?_;show PySem.W.KatLex prog w A true _ C [(.int q.1 t,.int q'.1 v),(.str q.2 t',.str q'.2 v')] 0 s;refine Ys (ZB (Xb (λe=>?_) λe=>?_))
 ·have e1:q.1=q'.1:=by simpa using e
  refine YF (Ys (eqBool_str (Xb (λe=>?_) λe=>?_)))
  ·have e2:q.2=q'.2:=by simpa using e
   have eq:q=q':=Prod.ext e1 e2;refine YF (PySem.W.kat_nil ?_);rw[eq,mH]at h;exact h
  ·refine Xa (PySem.W.kat_one _ _ (PySem.P.lt_str ?_));unfold S2 at h;rw[if_pos e1]at h;exact h
 ·have e1:¬q.1=q'.1:=by simpa using e
  refine Xa ?_;show zt (zI prog w) A (oneLt' true _ _) C _ s;rw[<-keyLt'_oneType];refine PySem.W.kat_lt_int ?_;unfold S2 at h;rw[if_neg e1]at h;exact h
def qc{qs:List (Int×Str)}{ku:List zm}(hq:qs.length=ku.length)(h2:2<=ku.length)(hk:SG (kC s.heap) ku qs\/SG tI ku qs):∃kd,(∀(Q:SortKind->zA->Prop) (E:VSP),Q kd s->zt (zI prog w) A (keyKind' ku.toArray) Q E s)/\∀(i j:Nat) q q' C,qs[i]? =some q->qs[j]? =some q'->C (S2 q q') s->ZC prog w A kd ku i j C s:=by
 rcases hk with hk|hk
 ·obtain⟨fs,T,hfs,hT⟩:∃fs:List zm,YG s.heap ku fs/\0<fs.length/\∀v∈fs,∃n t,v= .int n t:=by
   have gen:∀(ku:List zm) (qs:List (Int×Str)),qs.length=ku.length->SG (kC s.heap) ku qs->∃fs:List zm,YG s.heap ku fs/\fs.length=ku.length/\∀v∈fs,∃n t,v= .int n t:=by
    intro ku
    induction ku with
    |nil=>exact λqs _ _=>⟨[],trivial,rfl,λv hv=>by cases hv⟩
    |cons u r ih=>
      intro qs hl hk;rcases qs with _|⟨q,qr⟩
      ·simp at hl
      obtain⟨u',e1,ad,t,t',rfl,o,ho,hc,n,hd⟩:=hk 0 q rfl;simp at e1;subst e1;obtain⟨fs,f1,f2,f3⟩:=ih qr (by simpa using hl) λi q hq=>by simpa using hk (i+1) q (by simpa using hq)
      refine⟨.int q.1 t::fs,XY ho hc hd rfl f1,by simp[f2],λv hv=>?_⟩;rcases zn.mp hv with rfl|hv
      ·exact⟨_,_,rfl⟩
      ·exact f3 v hv
   obtain⟨fs,f1,f2,f3⟩:=gen ku qs hq hk;exact⟨fs,f1,by lia,f3⟩
  refine⟨_,λQ E h=>PySem.W.kat_kind (T:=.type "int") T hfs (λv hv=>?_) (by decide) h,λi j q q' C e1 e2 hC=>?_⟩
  ·obtain⟨n,t,rfl⟩:=hT v hv;exact Je rfl
  ·obtain⟨u,u1,u2⟩:=hk i _ e1;obtain⟨v,v1,v2⟩:=hk j _ e2;unfold ZC;rw[zK,zK,u1,v1];exact fz u2 v2 hC
 ·have gen:∀(ku:List zm) (qs:List (Int×Str)),qs.length=ku.length->SG tI ku qs->StrsAre ku (qs.map (·.2)):=by
   intro ku
   induction ku with
   |nil=>
     intro qs hl _;rcases qs with _|⟨q,r⟩
     ·exact .nil
     ·simp at hl
   |cons u r ih=>
     intro qs hl hk;rcases qs with _|⟨q,qr⟩
     ·simp at hl
     obtain⟨u',e1,t,_,rfl⟩:=hk 0 q rfl;simp at e1;subst e1;exact .cons q.2 t (ih qr (by simpa using hl) λi q hq=>by simpa using hk (i+1) q (by simpa using hq))
  have hS:=gen ku qs hq hk;refine⟨oneType',λQ E h=>?_,λi j q q' C e1 e2 hC=>?_⟩
  ·rcases ku with _|⟨v1,_|⟨v2,vr⟩⟩
   ·simp at h2
   ·simp at h2
   ·rw[JF hS];exact zf h
  ·obtain⟨u,u1,u2⟩:=hk i _ e1;obtain⟨v,v1,v2⟩:=hk j _ e2;unfold ZC;rw[zK,zK,u1,v1];exact oh u2 v2 hC
def oX{p:List Nat}{l:List α}(h:p.Perm (zP n))(hn:l.length=n):(p.map λi=>l.getD i d).Perm l:=by
 have e:(zP n).map (λi=>l.getD i d)=l:=by
  apply xQ
  ·simp[hn]
  ·intro i hi hj;simp[hj]
 have:=h.map λi=>l.getD i d;rw[e]at this;exact this
end
def CR(K:zo)(mg:Str->Option zm)(d:D)(u:zm):Prop:=∃v,J1 v u/\∀ μ H,d9 ⟨K,mg⟩ μ H d v
def CRL(K:zo)(mg:Str->Option zm)(l:List D)(us:List zm):Prop:=∃vs,u6 vs us/\∀ μ H,u0 ⟨K,mg⟩ μ H l vs
section
variable{K:zo}{mg:Str->Option zm}
def cr_str:CR K mg (.str x) (.str x t):=⟨.str x,⟨t,rfl⟩,λμ H=>by unfold d9;rfl⟩
def cr_int:CR K mg (.int i) (.int i t):=⟨.int i,⟨t,rfl⟩,λμ H=>by unfold d9;rfl⟩
def cr_bl:CR K mg (.bl b) (.bool b):=⟨.bl b,rfl,λμ H=>by unfold d9;rfl⟩
def cr_non:CR K mg .non .none:=⟨.non,rfl,λμ H=>by unfold d9;rfl⟩
def crl_nil:CRL K mg [] []:=⟨[],.nil,λ_ _=>rfl⟩
def crl_cons(h:CR K mg d u)(t:CRL K mg l us):CRL K mg (d::l) (u::us):=by obtain⟨v,r,h⟩:=h;obtain⟨vs,rs,t⟩:=t;exact⟨v::vs,.cons r rs,λμ H=>⟨v,vs,rfl,h μ H,t μ H⟩⟩
def cr_tup(hl:K.lookup a=some ⟨.type "tuple",none,.seq us.toArray n,sl⟩)(hz:Nat.ble us.length 100=true)(h:CRL K mg l us):CR K mg (.tup l) (.ref a):=by obtain⟨vs,rs,t⟩:=h;refine⟨.ref a,rfl,λμ H=>?_⟩;unfold d9;refine⟨a,vs,rfl,.inr ⟨_,us.toArray,n,hl,rfl,rfl,?_,rs⟩,t μ H⟩;rw[zr];exact zq (jt hz) (by decide)
end
structure WE(K:zo)(mg:Str->Option zm)(x:Str)(d:D):Prop where
 ex:∃u,mg x=some u/\CR K mg d u
section
def Tz(hc:WE X.K X.mg x d)(hg:Gl X x)(hdb:(x==("__debug__" :Str))=false):DE X Z (.Name x pos) (cE d):=⟨by
 intro Li s σ H Q I Lo;refine Lo.elim λX9 μ G sr hr p=>?_;obtain⟨u,hm,v,ru,rv⟩:=hc.ex;exact AN I hg hm ⟨v,H,I,ru,d7.ok p hr v (rv μ H)⟩ hdb⟩
end
section
variable{X:Cx}{Z:XC}{o e:Expr}{es:List Expr}{fo:Fe}{fs:DSt->M (List D)}{name:Str}{id:String}{mm:D->List D->M D}{My Ly:Pos}
end
section
end
end DL
namespace W
open PySem PySem.Spec L2 DL
open PyProof.Rows hiding St
section
end
end W
namespace DL
open PySem PySem.Spec L2
open PyProof.Rows hiding St
section
variable{X:Cx}{Z:XC}{μ:List Addr}{H:Hp}
variable{e t:Expr}{lo hi:Option Expr}{fa:Fe}{fl fh ft:Fo}{p2 pos:Pos}
end
end DL
namespace W
open PySem PySem.Spec L2 DL
open PyProof.Rows hiding St
section
end
end W
namespace DL
open PySem PySem.Spec L2
open PyProof.Rows hiding St
section
def Ed(hF:∃k kk,lD F 0 x X.prog X.w X.K X.mg X.base k/\U1 kk X.A/\k<=kk)(hg:Gl X x)(hdb:(x==("__debug__" :Str))=false):
 DE X Z (.Call (.Name x p) [] [] pos) (P2 (fnX 0 F) K0):=by
 obtain⟨k,kk,hF,hr,hk⟩:=hF;obtain⟨f,fd,ps,h1,h2,h3,h4⟩:=hF.ex;exact DE.of (gf h1 (hr.mono hk) hg h2 h3 h4 .nil RR hdb) λσ H Q Lo=>Lo.elim λX9 μ G s h p=>by obtain⟨hl,p2⟩:=OR (show d7 (wc X) Z μ H (fnX 0 F [] G) _ from p);exact⟨rfl, [],μ,G,rfl,h,p2⟩
end
end DL
namespace W
open PySem PySem.Spec L2 DL
open PyProof.Rows hiding St
end W
namespace DL
open PySem PySem.Spec L2
open PyProof.Rows hiding St
section
variable{X:Cx}{Z:XC}{o e:Expr}{es:List Expr}{fo:Fe}{fs:DSt->M (List D)}{name:Str}{id:String}{mm:D->List D->M D}{My Ly:Pos}
end
section
end
end DL
namespace W
open PySem PySem.Spec L2 DL
open PyProof.Rows hiding St
end W
namespace DL
open PySem PySem.Spec L2
open PyProof.Rows hiding St
section
end
end DL
namespace W
open PySem PySem.Spec L2 DL
open PyProof.Rows hiding St
end W
namespace DL
open PySem PySem.Spec L2
open PyProof.Rows hiding St
def b8(e:m G=some (.ok a,G'))(q:Q a G'):Wp m G Q:=⟨a,G',e,q⟩
def PB(Q:DPP):Fl->DH->Prop
| .nx _,G=>Q .non G
| .rt d,G=>Q d G
|_,_=>False
section
variable{m:Nat}{f S g:Fs}{ds as:List D}{d:D}{G G':DH}{Q:DPP}{P A:Fl->DH->Prop}{σ X1:DSt}{e:Fe}
def K3(w:Wp (f (ds.map some++jx (m-ds.length) none)) G (PB Q)):Wp (v7 m f ds) G Q:=
 HA.mpr (w.mono λfl G1 h=>match fl,h with
  | .nx _,h=>h
  | .rt _,h=>h
  | .bk _,h=>h.elim
  | .ct _,h=>h.elim)
def u5(q:Q d G):PB Q (.rt d) G:=q
def Iv(e:f (ds.map some++jx (m-ds.length) none) G=some (.ok (.rt d),G'))(q:Q d G'):Wp (v7 m f ds) G Q:=K3 (b8 e q)
def Q8(e:S σ G=some (.ok (.nx X1),G'))(w:Wp (g X1) G' P):Wp (o6 S g σ) G P:=d8.mpr (b8 e w)
def MT(e:S σ G=some (.ok (.rt d),G'))(q:P (.rt d) G'):Wp (o6 S g σ) G P:=d8.mpr (b8 e q)
end
section
variable{a b c:Fe}{d x y z:D}{G G1 G2:DH}{R:List D->DH->Prop}{σ:DSt}
def rE(e:t σ G=some (.ok true,G1))(w:Wp (f σ) G1 P):Wp (ifS t f g σ) G P:=uC.mpr (b8 e w)
def QD(e:t σ G=some (.ok false,G1))(w:Wp (g σ) G1 P):Wp (ifS t f g σ) G P:=uC.mpr (b8 e w)
def uW(e:t σ G=some (.ok k,G1))(w:k=true->Wp (f σ) G1 P)(v:k=false->Wp (g σ) G1 P):Wp (ifS t f g σ) G P:=by
 rcases k with _|_
 ·exact QD e (v rfl)
 ·exact rE e (w rfl)
def X3(w:Wp (t σ) G λk G1=>(k=true->Wp (f σ) G1 P)/\(k=false->Wp (g σ) G1 P)):Wp (ifS t f g σ) G P:=
 uC.mpr (w.mono λk G1 h=>by cases k with|true=>exact h.1 rfl|false=>exact h.2 rfl)
def qE(w:Wp (t σ) G λk G1=>(k=true->Wp (u σ) G1 B)/\(k=false->B false G1)):Wp (B3 t u σ) G B:=
 iH.mpr (w.mono λk G1 h=>by cases k with|true=>exact h.1 rfl|false=>exact h.2 rfl)
def NF(w:Wp (t σ) G λk G1=>(k=true->B true G1)/\(k=false->Wp (u σ) G1 B)):Wp (orT t u σ) G B:=
 eU.mpr (w.mono λk G1 h=>by cases k with|true=>exact h.1 rfl|false=>exact h.2 rfl)
def AO{S:DSt->Prop}{R:DPP}(hS:S (σ.set i (some d)))(w:Wp (a (σ.set i (some d))) G R):Wp (A4 i d σ) G λWZ G1=>G1=G/\S WZ/\Wp (J4 WZ) G λb G2=>b=true/\G2=G/\Wp (a WZ) G R:=
 R6.mpr ⟨rfl,hS,W.wp_trueT.mpr ⟨rfl,rfl,w⟩⟩
def cR{g:Fg}(e:b σ G=some (.ok (.tup l),G1))(h:l.length<=10000)(w:Wp (K7 g t a (λ_=>true) l (W4 caps σ)) G1 λys G2=>Q (.ref G2.length) (G2++[.lst ys])):Wp (J8 (itW b) caps g t a σ) G Q:=
 W.wp_comp.mpr (W.wp_itW.mpr (b8 e (W.srcW_tup.mpr ⟨zq h (show 10000<=zj by decide),w⟩)))
def ni(e:t σ G=some (.ok true,G1))(w:Wp (a σ) G1 Q):Wp (ifE t a b σ) G Q:=eW.mpr (b8 e w)
def QP(e:t σ G=some (.ok false,G1))(w:Wp (b σ) G1 Q):Wp (ifE t a b σ) G Q:=eW.mpr (b8 e w)
def J5(w:Wp (a σ) G λd G1=>P (.nx (σ.set i (some d))) G1):Wp (M3 a (A4 i) σ) G P:=RB.mpr (w.mono λ_ _ h=>R6.mpr h)
def w5(w:Wp (a σ) G λd G1=>P (.rt d) G1):Wp (u9 a σ) G P:=nA.mpr w
def o7(e:fs σ G=some (.ok as,G1))(h:as.length=n)(w:Wp (F as) G1 Q):Wp (P2 (fnX n F) fs σ) G Q:=U3.mpr (b8 e (V0.mpr ⟨h,w⟩))
def B6(e:fs σ G=some (.ok as,G1))(w:Wp (F as) G1 Q):Wp (P2 F fs σ) G Q:=U3.mpr (b8 e w)
def O2(w:Wp (fs σ) G λas G1=>Wp (F as) G1 Q):Wp (P2 F fs σ) G Q:=U3.mpr w
def ae(ea:a σ G=some (.ok x,G1))(eb:b σ G1=some (.ok y,G2))(w:Wp (o x y) G2 Q):Wp (m9 o a b σ) G Q:=y9.mpr (b8 ea (b8 eb w))
def m7(w:Wp (a σ) G λx G1=>Wp (b σ) G1 λy G2=>Wp (o x y) G2 Q):Wp (m9 o a b σ) G Q:=y9.mpr w
def MS(e:a σ G=some (.ok x,G1))(w:Wp (fs σ) G1 λxs G2=>R (x::xs) G2):Wp (A0 a fs σ) G R:=R5.mpr (b8 e w)
def m5(w:Wp (a σ) G λx G1=>Wp (fs σ) G1 λxs G2=>R (x::xs) G2):Wp (A0 a fs σ) G R:=R5.mpr w
def w6(w:Wp (a σ) G λx G1=>∃k,x= .bl k/\B k G1):Wp (sA a σ) G B:=lE.mpr w
end
def FH(K:zo)(x:Str)(st:Stmt):Prop:=∃(f:Addr) (od an:Option Addr) (sl:Array (Option zm)) (oc kV dc pm cd ct:zm),ZK K jG x=some (some (.ref f))/\
 K.lookup f=some ⟨oc,od,.func (yS x x (mB st) (P8 st) (K1 st) .none kV dc pm an cd ct),sl⟩/\ZU K cd x=true/\yL K (.ref f)=true
section
variable{K:zo}{h:Heap}{mg:Str->Option zm}{x:Str}{st:Stmt}
def FH.of{oc kV dc pm cd ct:zm}(a:ZK K jG x=some (some (.ref f)))
 (l:K.lookup f=some ⟨oc,od,.func (yS x x (mB st) (P8 st) (K1 st) .none kV dc pm an cd ct),sl⟩) (e:ZU K cd x=true) (k:yL K (.ref f)=true):FH K x st:=
 ⟨f,od,an,sl,oc,kV,dc,pm,cd,ct,a,l,e,k⟩
variable{ps:List Str}
def FH.ff(H:FH K x st)(X:K.In h)(G:h.Ns jG mg)(b:∀kV doc pm an Ms ct us,us.length=ps.length->bindArgs (yS x x (mB st) (P8 st) (K1 st) .none kV doc pm an Ms ct) ⟨us, []⟩=pure (ps.zip us)):∃f fd,FF K mg x st ps f fd:=by obtain⟨f,od,an,sl,oc,kV,dc,pm,cd,ct,a,l,e,k⟩:=H;exact⟨_,_,sK l e k,(sK l e k).binds b,Xo X G a⟩
def ar(h:us.length=n+1):∃a t,us=a::t/\t.length=n:=by
 rcases us with _|⟨a,t⟩
 ·cases h
 ·exact⟨a,t,rfl,XA h⟩
def BLs.of(X:K.In h)(G:h.Ns jG mg)(z:∀b∈bltL,ZK K jG b=some none):BLs mg:=⟨λb hb=>PySem.W.mg_none_of X G (z b hb)⟩
end
def Cp:typeLookup (.type "zip") "__len__" =pure none:=by rw[Xy,ZL];kernel_rfl
def Bc:typeLookup (.type "zip") "__length_hint__" =pure none:=by rw[Xy,ZL];kernel_rfl
abbrev kA(h:Heap)(z TI TO:Addr)(f0:zm)(b:Bool):Prop:=
 h.get? z=some {cls:=.type "zip",dict:=none,data:=.fields #[f0,.bool b,.bool false,.ref TI,.ref TO],slots:= #[]}
section
variable{prog:zU}{w:jg}{A:js}{E:VSP}{s:zA}{k1 k2:Bool}{i:Nat}{z TI TO i1 i2 l1 l2 T:Addr}{xs ys:Array zm}{b:Bool}
def rh(h:Q (s.heap.get? a) s):zt (zI prog w) A (loadIfAlive a) Q E s:=by intro Γ p _;show Sem.wp _ _ (Sem.loadIfAlive a .pure) _ _ _ _;rw[Sem.wp_loadIfAlive];exact h
def iQ(hz:kA s.heap z TI TO (yA T) b)(hT:∃o,s.heap.get? T=some o)
 (hQ:∀h',kA h' z TI TO (yA T) true->jZ z s.heap h'->Q false {s with heap:=h'}):zt (zI prog w) A (jr (.ref z)) Q E s:=by
 obtain⟨o,ho⟩:=hT;unfold jr;refine za (jS hz rfl (x:=yA T) rfl ?_);show zt _ _ (loadIfAlive (Int.toNat (T:Int)) >>= _) _ _ _;refine za (rh ?_);rw[jR,ho];show zt _ _ (XR (.ref z) 1 >>= _) _ _ _;refine za (jS hz rfl (x:=.bool b) rfl ?_)
 cases b with
 |true=>exact zf (hQ s.heap hz ⟨rfl,λ_ _=>rfl⟩)
 |false=>
   show zt _ _ (setField (.ref z) 1 (.bool true) >>= _) _ _ _;refine za (ye hz (by simp) λg hg hs=>zf (hQ g hg hs))
def Bm{Q:VSP}(Ap:ZA z TI TO i1 i2)(n1:l1∉ [z,TO,i1,i2])(n2:l2∉ [z,TO,i1,i2])
 (hz:kA s.heap z TI TO (yA T) b) (hT:∃o,s.heap.get? T=some o) (hTI:yd s.heap TI (.ref i1) (.ref i2))
 (h1:SI k1 s.heap i1 l1 i) (h2:SI k2 s.heap i2 l2 i) (Ni:SC k1 s.heap l1 xs) (Oa:SC k2 s.heap l2 ys) (hx:xs[i]? =some x) (hy:ys[i]? =some y)
 (hQ:∀h',kA h' z TI TO (yA T) true->SI k1 h' i1 l1 (i+1)->SI k2 h' i2 l2 (i+1)->yd h' s.heap.objs.size x y->h'.objs.size=s.heap.objs.size+1->
   (∀c o,c≠z->c≠i1->c≠i2->s.heap.get? c=some o->h'.get? c=some o)->Q (.ref s.heap.objs.size) {s with heap:=h'}):
 zt (zI prog w) A (yC.«zip.__next__» ⟨[.ref z], []⟩) (λfin s'=>∃v,fin= .done (.ret v)/\Q v s') E s:=by
 simp only[zn,zF,or_false,not_or]at n1 n2;show zt _ _ (XR (.ref z) 2 >>= _) _ _ _;refine za (jS hz rfl (x:=.bool false) rfl ?_);show zt _ _ (XR (.ref z) 3 >>= _) _ _ _;refine za (jS hz rfl (x:=.ref TI) rfl ?_);refine za (yf hTI rfl ?_);show zt _ _ (jr (.ref z) >>= _) _ _ _;refine za (iQ hz hT λg₁ WQ WY=>?_);simp only[zw,if_false,<-Yi,Zb,Yl];refine za (za (za (jk ?_)));show zt _ _ (zY (.ref i1) >>= _) _ _ _;refine za (tE (h1.keep λo e=>WY.extBut _ _ Ap.i1z e) (Ni.keep λo e=>WY.extBut _ _ n1.1 e) hx λWM h1₂ WX=>zf (zf ?_));have up2:∀c o,c≠z->c≠i1->s.heap.get? c=some o->WM.get? c=some o:=λc o c1 c2 e=>WX.extBut _ _ c2 (WY.extBut _ _ c1 e);refine za (za (jk ?_));show zt _ _ (zY (.ref i2) >>= _) _ _ _;refine za (tE (h2.keep λo e=>up2 _ _ Ap.i2z Ap.i12.symm e) (Oa.keep λo e=>up2 _ _ n2.1 n2.2.2.1 e) hy λWP h2₃ WW=>zf (zf (zf ?_)));have hsz:WP.objs.size=s.heap.objs.size:=by rw[WW.1,WX.1,WY.1]
 show zt _ _ (newTuple [x,y] >>= _) _ _ _;refine za (YD ?_);refine zf ⟨_,rfl,?_⟩;have hz₃:kA WP z TI TO (yA T) true:=WW.extBut _ _ Ap.i2z.symm (WX.extBut _ _ Ap.i1z.symm WQ);have hT₃:yd (WP.push {cls:=.type "tuple",data:=.seq #[x,y]}) s.heap.objs.size x y:=by rw[<-hsz];exact zu _ rfl
 show Q (.ref WP.objs.size) _;rw[hsz];exact hQ _ (zc _ hz₃) ((h1₂.keep λo e=>WW.extBut _ _ Ap.i12 e).keep λo e=>zc _ e) (h2₃.keep λo e=>zc _ e) hT₃ (by rw[jN,hsz])
  λc o c1 c2 c3 e=>zc _ (WW.extBut _ _ c3 (up2 c o c1 c2 e))
def bf(hh:A.handled=none)(Ap:ZA z TI TO i1 i2)(n1:l1∉ [z,TO,i1,i2])(n2:l2∉ [z,TO,i1,i2])
 (hz:kA s.heap z TI TO (yA T) b) (hT:∃o,s.heap.get? T=some o) (hTI:yd s.heap TI (.ref i1) (.ref i2))
 (h1:SI k1 s.heap i1 l1 i) (h2:SI k2 s.heap i2 l2 i) (Ni:SC k1 s.heap l1 xs) (Oa:SC k2 s.heap l2 ys) (hend:xs[i]? =none\/ys[i]? =none)
 (hE:∀h' e,(∀c o,c≠z->c≠i1->c≠i2->s.heap.get? c=some o->h'.get? c=some o)->(∃o,h'.get? e=some o/\o.cls= .type "StopIteration")->E (.ref e) {s with heap:=h'}):
 zt (zI prog w) A (yC.«zip.__next__» ⟨[.ref z], []⟩) Q E s:=by
 simp only[zn,zF,or_false,not_or]at n1 n2;show zt _ _ (XR (.ref z) 2 >>= _) _ _ _;refine za (jS hz rfl (x:=.bool false) rfl ?_);show zt _ _ (XR (.ref z) 3 >>= _) _ _ _;refine za (jS hz rfl (x:=.ref TI) rfl ?_);refine za (yf hTI rfl ?_);show zt _ _ (jr (.ref z) >>= _) _ _ _;refine za (iQ hz hT λg₁ WQ WY=>?_);simp only[zw,if_false,<-Yi,Zb,Yl];refine za (za (za (jk ?_)));show zt _ _ (zY (.ref i1) >>= _) _ _ _
 cases hx:xs[i]? with
 |none=>
   exact za (GH hh (h1.keep λo e=>WY.extBut _ _ Ap.i1z e) (Ni.keep λo e=>WY.extBut _ _ n1.1 e) hx λWM e WX he=>hE WM e (λc o c1 c2 _ q=>WX _ _ c2 (WY.extBut _ _ c1 q)) he)
 |some x=>
   have hy:ys[i]? =none:=by
    rcases hend with h|h
    ·rw[hx]at h;cases h
    ·exact h
   refine za (tE (h1.keep λo e=>WY.extBut _ _ Ap.i1z e) (Ni.keep λo e=>WY.extBut _ _ n1.1 e) hx λWM h1₂ WX=>zf (zf ?_));have up2:∀c o,c≠z->c≠i1->s.heap.get? c=some o->WM.get? c=some o:=λc o c1 c2 e=>WX.extBut _ _ c2 (WY.extBut _ _ c1 e);refine za (za (jk ?_));show zt _ _ (zY (.ref i2) >>= _) _ _ _;exact za (GH hh (h2.keep λo e=>up2 _ _ Ap.i2z Ap.i12.symm e) (Oa.keep λo e=>up2 _ _ n2.1 n2.2.2.1 e) hy λWP e WW he=>hE WP e (λc o c1 c2 c3 q=>WW _ _ c3 (up2 c o c1 c2 q)) he)
def Hl(Ap:ZA z TI TO i1 i2)(n1:l1∉ [z,TO,i1,i2])(n2:l2∉ [z,TO,i1,i2])
 (hz:kA s.heap z TI TO (yA T) b) (hT:∃o,s.heap.get? T=some o) (hTI:yd s.heap TI (.ref i1) (.ref i2))
 (h1:SI k1 s.heap i1 l1 i) (h2:SI k2 s.heap i2 l2 i) (Ni:SC k1 s.heap l1 xs) (Oa:SC k2 s.heap l2 ys) (hx:xs[i]? =some x) (hy:ys[i]? =some y)
 (hQ:∀h',kA h' z TI TO (yA T) true->SI k1 h' i1 l1 (i+1)->SI k2 h' i2 l2 (i+1)->yd h' s.heap.objs.size x y->h'.objs.size=s.heap.objs.size+1->
   (∀c o,c≠z->c≠i1->c≠i2->s.heap.get? c=some o->h'.get? c=some o)->Q (some (.ref s.heap.objs.size)) {s with heap:=h'}):
 zt (zI prog w) A (yW (.ref z)) Q E s:=by
 have hY:s.TypeIs (.ref z) "zip":=⟨_,hz,rfl⟩;unfold yW;exact za (xM (ju (name:=yh "__next__") hY xm (jn xm hY Xc
  (Bm Ap n1 n2 hz hT hTI h1 h2 Ni Oa hx hy λh' a1 a3 a4 a5 a6 a7=>zf (hQ h' a1 a3 a4 a5 a6 a7)) (YI _))))
def gm(hh:A.handled=none)(Ap:ZA z TI TO i1 i2)(n1:l1∉ [z,TO,i1,i2])(n2:l2∉ [z,TO,i1,i2])
 (hz:kA s.heap z TI TO (yA T) b) (hT:∃o,s.heap.get? T=some o) (hTI:yd s.heap TI (.ref i1) (.ref i2))
 (h1:SI k1 s.heap i1 l1 i) (h2:SI k2 s.heap i2 l2 i) (Ni:SC k1 s.heap l1 xs) (Oa:SC k2 s.heap l2 ys) (hend:xs[i]? =none\/ys[i]? =none)
 (hQ:∀h',(∀c o,c≠z->c≠i1->c≠i2->s.heap.get? c=some o->h'.get? c=some o)->Q none {s with heap:=h'}):zt (zI prog w) A (yW (.ref z)) Q E s:=by
 have hY:s.TypeIs (.ref z) "zip":=⟨_,hz,rfl⟩;unfold yW;refine za (xM (ju (name:=yh "__next__") hY xm (jn xm hY Xc
  (bf hh Ap n1 n2 hz hT hTI h1 h2 Ni Oa hend λh' e hk he=>?_) (YI _))))
 obtain⟨o,ho,hc⟩:=he;exact za (ZR (T:= "StopIteration") (b:=true) ⟨o,ho,hc⟩ XQ (zf (hQ _ hk)))
def o9(n0 m:Nat):List zm:=(zP m).map λj=>Value.ref (n0+j:Nat)
def IX:(o9 n0 m).toArray.push (.ref (n0+m:Nat))= (o9 n0 (m+1)).toArray:=by simp[o9,Xf]
def rG(xs ys:Array zm)(n0 m:Nat)(h:Heap):Prop:=∀j,j<m->∃x y,xs[j]? =some x/\ys[j]? =some y/\yd h (n0+j:Nat) x y
structure ZSt(k1 k2:Bool)(z TI TO i1 i2 l1 l2:Addr)(xs ys:Array zm)(n0 i:Nat)(h:Heap):Prop where
 hz:(ZN h z TI TO .none/\∃a b,yd h TO a b)\/∃T b,kA h z TI TO (yA ((n0+T:Nat):Int)) b/\T<i
 hTI:yd h TI (.ref i1) (.ref i2)
 h1:SI k1 h i1 l1 i
 h2:SI k2 h i2 l2 i
 c1:SC k1 h l1 xs
 c2:SC k2 h l2 ys
def Hq{a b:Nat}:a<=min a b\/b<=min a b:=(Nat.le_total a b).imp (λh=>xl (Nat.min_eq_left h).symm) λh=>xl (Nat.min_eq_right h).symm
def GO:(o9 n0 m).toArray.size=m:=by rw[zr,o9,zd,zV]
def PZ(hh:A.handled=none)(Ap:ZA z TI TO i1 i2)(n1:l1∉ [z,TO,i1,i2])(n2:l2∉ [z,TO,i1,i2])(S:Addr)(hS:S∉ [z,TI,TO,i1,i2,l1,l2])(res:zm)
 (lt:∀b∈ [z,TI,TO,i1,i2,l1,l2,S], @LT.lt Nat instLTNat b n0) (m1:m<=xs.size) (m2:m<=ys.size) (m3:xs.size<=m\/ys.size<=m) (hn:m<=zj):
 ∀k i s c,m-i=k->i<=m->ZSt k1 k2 z TI TO i1 i2 l1 l2 xs ys n0 i s.heap->
 s.heap.get? S=some {cls:=.type "list",dict:=none,data:=.seq (o9 n0 i).toArray c,slots:= #[]}->s.heap.objs.size=n0+i->rG xs ys n0 i s.heap->
 (∀h' c',(∀b o,b∉ [z,TO,i1,i2,S]->s.heap.get? b=some o->h'.get? b=some o)->h'.get? S=some {cls:=.type "list",dict:=none,data:=.seq (o9 n0 (m)).toArray c',slots:= #[]}->
   rG xs ys n0 (m) h'->R (.ok (.ret res)) {s with heap:=h'})->
 xZ (zI prog w) A (.builtin "list.extend.loop" ⟨[.ref S,.ref z,res], []⟩) R s:=by
 simp only[zn,zF,or_false,not_or]at hS;have neA:∀ {b:Addr} {j:Nat},b∈ [z,TI,TO,i1,i2,l1,l2,S]->(n0+j:Nat)≠b:=λhb e=>by have q:=lt _ hb;rw[<-e]at q;exact absurd q (Nat.not_lt.mpr (yx _ _))
 intro k
 induction k with
 |zero=>
   intro i s c hk hi hst hL hsz hp hR;have hin:i=m:=Nat.le_antisymm hi (Nat.sub_eq_zero_iff_le.mp hk);refine ym F.entry_extend_loop ?_;rw[jM xf _];show zt _ A.in1 (yW (.ref z) >>= _) _ _ s;have hend:xs[i]? =none\/ys[i]? =none:=hin▸m3.imp YR YR;have fin:∀h',(∀c o,c≠z->c≠TO->c≠i1->c≠i2->s.heap.get? c=some o->h'.get? c=some o)->R (.ok (.ret res)) {s with heap:=h'}:=λh' hk=>by
    rw[hin]at hL hp;refine hR h' c (λb o hb e=>?_) (hk _ _ hS.1 hS.2.2.1 hS.2.2.2.1 hS.2.2.2.2.1 hL) λj hj=>?_
    ·simp only[zn,zF,or_false,not_or]at hb;exact hk _ _ hb.1 hb.2.1 hb.2.2.1 hb.2.2.2.1 e
    ·obtain⟨x,y,e1,e2,e3⟩:=hp j hj;exact⟨x,y,e1,e2,hk _ _ (neA (by simp)) (neA (by simp)) (neA (by simp)) (neA (by simp)) e3⟩
   rcases hst.hz with⟨hz,a,b,hTO⟩|⟨T,b,hz,hT⟩
   ·exact za (EO hh Ap n1 n2 hz hst.hTI hTO hst.h1 hst.h2 hst.c1 hst.c2 hend λh' hk=>zf (fin h' hk))
   ·obtain⟨x,y,_,_,e3⟩:=hp T hT;exact za (gm hh Ap n1 n2 hz ⟨_,e3⟩ hst.hTI hst.h1 hst.h2 hst.c1 hst.c2 hend λh' hk=>zf (fin h' λc o c1 _ c3 c4 e=>hk c o c1 c3 c4 e))
 |succ k ih=>
   intro i s c hk hi hst hL hsz hp hR;have Lu:i<m:=Nat.lt_of_sub_eq_succ hk;refine ym F.entry_extend_loop ?_;rw[jM xf _];show zt _ A.in1 (yW (.ref z) >>= _) _ _ s;obtain⟨x,hx⟩:∃x,xs[i]? =some x:=⟨_,zW (zL Lu m1)⟩;obtain⟨y,hy⟩:∃y,ys[i]? =some y:=⟨_,zW (zL Lu m2)⟩;have fin:∀h',((ZN h' z TI TO .none/\∃a b,yd h' TO a b)\/∃T b,kA h' z TI TO (yA ((n0+T:Nat):Int)) b/\T<i+1)->SI k1 h' i1 l1 (i+1)->SI k2 h' i2 l2 (i+1)->yd h' s.heap.objs.size x y->h'.objs.size=s.heap.objs.size+1->
    (∀c o,c≠z->c≠TO->c≠i1->c≠i2->s.heap.get? c=some o->h'.get? c=some o)->
    zt (zI prog w) A.in1 (XT S (·.push (.ref s.heap.objs.size)) >>= λ_=>again (.builtin "list.extend.loop" ⟨[.ref S,.ref z,res], []⟩)) (λfin s'=>match fin with| .done f=>R (.ok f) s'| .again c'=>c'.quiet=true/\xZ (zI prog w) A c' R s') (λe s'=>R (.error e) s') {s with heap:=h'}:=by
    intro h' hz' q1 q2 qp qs qk;have hL':=qk S _ hS.1 hS.2.2.1 hS.2.2.2.1 hS.2.2.2.2.1 hL;have oth:∀b o,S≠b->h'.get? b=some o->(h'.update S (je (·.push (.ref s.heap.objs.size)))).get? b=some o:=λb o hb e=>(jO _ _ hb).trans e;obtain⟨c2,hL2⟩:∃c2,(h'.update S (je (·.push (.ref s.heap.objs.size)))).get? S=some {cls:=.type "list",dict:=none,data:=.seq (o9 n0 (i+1)).toArray c2,slots:= #[]}:=by rw[<-IX,<-hsz];exact⟨_,jT (je (·.push (Value.ref s.heap.objs.size))) hL' rfl⟩
    refine za (Zh hL' rfl (zf ⟨xc xf _,ih (i+1) _ c2 (congrArg Nat.pred hk) Lu ?_ hL2 ?_ ?_ λh2 c' k2 k3 k4=>?_⟩) (GO▸zq hi hn) (by rw[Array.size_push,GO];exact YQ (zq hi hn)))
    ·refine⟨?_,oth _ _ hS.2.1 (qk _ _ Ap.TIz Ap.TITO Ap.TIi1 Ap.TIi2 hst.hTI),q1.keep λo e=>oth _ o hS.2.2.2.1 e,q2.keep λo e=>oth _ o hS.2.2.2.2.1 e,hst.c1.keep λo e=>oth _ o hS.2.2.2.2.2.1 (qk _ _ ?_ ?_ ?_ ?_ e),hst.c2.keep λo e=>oth _ o hS.2.2.2.2.2.2 (qk _ _ ?_ ?_ ?_ ?_ e)⟩
     ·rcases hz' with⟨a1,a,b,a2⟩|⟨T,b,a1,a2⟩
      ·exact .inl ⟨oth _ _ hS.1 a1,a,b,oth _ _ hS.2.2.1 a2⟩
      ·exact .inr ⟨T,b,oth _ _ hS.1 a1,a2⟩
     all_goals simp only[zn,zF,or_false,not_or]at n1 n2
     ·exact n1.1
     ·exact n1.2.1
     ·exact n1.2.2.1
     ·exact n1.2.2.2
     ·exact n2.1
     ·exact n2.2.1
     ·exact n2.2.2.1
     ·exact n2.2.2.2
    ·show (h'.update S _).objs.size=_;rw[YH,qs,hsz];rfl
    ·intro j hj;by_cases q:j=i
     ·subst q;rw[hsz]at qp;exact⟨x,y,hx,hy,oth _ _ (neA (by simp)).symm qp⟩
     ·obtain⟨x',y',e1,e2,e3⟩:=hp j (Nat.lt_of_le_of_ne (Nat.le_of_lt_succ hj) q);exact⟨x',y',e1,e2,oth _ _ (neA (by simp)).symm (qk _ _ (neA (by simp)) (neA (by simp)) (neA (by simp)) (neA (by simp)) e3)⟩
    ·refine hR h2 c' (λb o hb e=>?_) k3 k4;have Oe:=hb;simp only[zn,zF,or_false,not_or]at Oe;exact k2 b o hb (oth _ _ (Ne.symm Oe.2.2.2.2) (qk _ _ Oe.1 Oe.2.1 Oe.2.2.1 Oe.2.2.2.1 e))
   rcases hst.hz with⟨hz,a,b,hTO⟩|⟨T,b,hz,hT⟩
   ·refine za (nP Ap n1 n2 hz hst.hTI hTO hst.h1 hst.h2 hst.c1 hst.c2 hx hy λh' a1 a2 a3 a4 a5 a6 a7=>?_);refine fin h' (.inr ⟨i,false,?_,yZ _⟩) a3 a4 a5 a6 a7;rw[hsz]at a1;exact a1
   ·obtain⟨x',y',_,_,e3⟩:=hp T hT;exact za (Hl Ap n1 n2 hz ⟨_,e3⟩ hst.hTI hst.h1 hst.h2 hst.c1 hst.c2 hx hy λh' a1 a3 a4 a5 a6 a7=>fin h' (.inr ⟨T,true,a1,yp hT⟩) a3 a4 a5 a6 λc o c1 _ c3 c4 e=>a7 c o c1 c3 c4 e)
def Kt{R:Result->zA->Prop}(hh:A.handled=none)(Ap:ZA z TI TO i1 i2)(n1:l1∉ [z,TO,i1,i2])(n2:l2∉ [z,TO,i1,i2])(S:Addr)(hS:S∉ [z,TI,TO,i1,i2,l1,l2])(res:zm)
 (lt:∀b∈ [z,TI,TO,i1,i2,l1,l2,S], @LT.lt Nat instLTNat b s.heap.objs.size) (hn:min xs.size ys.size<=zj) (hst:ZSt k1 k2 z TI TO i1 i2 l1 l2 xs ys s.heap.objs.size 0 s.heap) (hL:s.heap.get? S=some {cls:=.type "list",data:=.seq #[] c})
 (hR:∀h' c',(∀b o,b∉ [z,TO,i1,i2,S]->s.heap.get? b=some o->h'.get? b=some o)->h'.get? S=some {cls:=.type "list",dict:=none,data:=.seq (o9 s.heap.objs.size (min xs.size ys.size)).toArray c',slots:= #[]}->
   rG xs ys s.heap.objs.size (min xs.size ys.size) h'->R (.ok (.ret res)) {s with heap:=h'}):
 zt (zI prog w) A.in1 (jY (.ref S) (.ref z) res)
  (λfin s'=>match fin with| .done f=>R (.ok f) s'| .again c'=>c'.quiet=true/\xZ (zI prog w) A c' R s') (λe s'=>R (.error e) s') s:=by
 obtain⟨hz,hTI,h1,h2,c1,c2⟩:=hst;rcases hz with⟨hz,a,b,hTO⟩|⟨T,b,_,q⟩
 ·have Mt:=hS;simp only[zn,zF,or_false,not_or]at Mt;have hT:s.TypeIs (.ref z) "zip":=⟨_,hz,rfl⟩;unfold jY;refine za (Zy (T:= "zip") hT ?_);have e1:xK (.ref S) (.ref z)=false:=by simp[xK,Mt.1]
  rw[if_neg (by rw[e1];decide)];refine za (JT hz ?_);refine za (jk ?_);unfold Zs;refine za (Xw hT Cp ?_);show zt _ A.in1 (specialOf (Value.ref z) (yh "__length_hint__") >>= _) _ _ _;refine za (Xw hT Bc ?_);refine zf ?_;show zt _ A.in1 (rule "list.extend.makes-room" >>= λ_=>Builtin.List.listTouch (.ref S) >>= λ_=>again (.builtin "list.extend.loop" ⟨[.ref S,.ref z,res], []⟩)) _ _ _;refine za (xT ?_);refine za ?_;show zt _ A.in1 (XT S (·.push .none) >>= λ_=>XT S (·.pop)) _ _ _;refine za (Zh hL rfl ?_);have hS₂:=jT (je (·.push Value.none)) hL rfl;refine Zh hS₂ rfl ?_;have hS₃:=jT (je (·.pop)) hS₂ rfl;have oth:∀b o,S≠b->s.heap.get? b=some o->((s.heap.update S (je (·.push Value.none))).update S (je (·.pop))).get? b=some o:=
   λb o hb e=>(jO _ _ hb).trans ((jO _ _ hb).trans e)
  have hsz:((s.heap.update S (je (·.push Value.none))).update S (je (·.pop))).objs.size=s.heap.objs.size+0:=by rw[YH,YH];rfl
  refine zf ⟨xc xf _,PZ (k1:=k1) (k2:=k2) (xs:=xs) (ys:=ys) hh Ap n1 n2 S hS res (n0:=s.heap.objs.size) lt (JG _ _) (Nat.min_le_right _ _) Hq hn _ 0 _ _ rfl (zO _)
   ⟨.inl ⟨oth _ _ Mt.1 hz,a,b,oth _ _ Mt.2.2.1 hTO⟩,oth _ _ Mt.2.1 hTI,h1.keep λo e=>oth _ o Mt.2.2.2.1 e,h2.keep λo e=>oth _ o Mt.2.2.2.2.1 e,c1.keep λo e=>oth _ o Mt.2.2.2.2.2.1 e,c2.keep λo e=>oth _ o Mt.2.2.2.2.2.2 e⟩ hS₃ hsz (λj hj=>absurd hj (yT _)) λh' c' q1 q2 q3=>?_⟩
  refine hR h' c' (λb o hb e=>q1 b o hb (oth b o ?_ e)) q2 q3;simp only[zn,zF,or_false,not_or]at hb;exact Ne.symm hb.2.2.2.2
 ·exact absurd q (yT _)
def Ij(hh:A.handled=none)(Ap:ZA z TI TO i1 i2)(n1:l1∉ [z,TO,i1,i2])(n2:l2∉ [z,TO,i1,i2])
 (lt:∀b∈ [z,TI,TO,i1,i2,l1,l2], @LT.lt Nat instLTNat b s.heap.objs.size) (hn:min xs.size ys.size<=zj)
 (hz:ZN s.heap z TI TO .none) (hTO:∃a b,yd s.heap TO a b) (hTI:yd s.heap TI (.ref i1) (.ref i2)) (h1:SI k1 s.heap i1 l1 0) (h2:SI k2 s.heap i2 l2 0) (c1:SC k1 s.heap l1 xs) (c2:SC k2 s.heap l2 ys)
 (hQ:∀h' c',(∀b o,b∉ [z,TO,i1,i2]->s.heap.get? b=some o->h'.get? b=some o)->h'.get? s.heap.objs.size=some {cls:=.type "list",dict:=none,data:=.seq (o9 (s.heap.objs.size+1) (min xs.size ys.size)).toArray c',slots:= #[]}->
   rG xs ys (s.heap.objs.size+1) (min xs.size ys.size) h'->Q (.ref s.heap.objs.size) {s with heap:=h'}):
 zt (zI prog w) A (call (.type "list") [.ref z]) Q E s:=by
 refine callType_codes (Q₁:=λobj W1=>obj= .ref s.heap.objs.size/\W1= {s with heap:=s.heap.push {cls:=.type "list",data:=.seq #[]}}) PySem.F.called_list (PySem.F.typeCall_list_1 _) PySem.F.entry_list_init
  (code_list_new _ ⟨rfl,rfl⟩) λobj W1 h₁=>?_
 obtain⟨rfl,rfl⟩:=h₁;have hS:(s.heap.push {cls:=.type "list",data:=.seq #[]}).get? s.heap.objs.size=some {cls:=.type "list",data:=.seq #[]}:=zu _ rfl;refine⟨⟨_,hS,rfl⟩,PySem.F.args_list_init_2 _ _,?_⟩;show zt _ _ (do let old <-Jh (.ref s.heap.objs.size);Builtin.List.listUpdate (.ref s.heap.objs.size) (λ_=> #[]);letGo old.toList.reverse;jY (.ref s.heap.objs.size) (.ref z) .none) _ _ _;refine za ?_;unfold Jh;refine za (yf hS rfl (zf ?_));show zt _ _ (XT s.heap.objs.size (λ_=> #[]) >>= λ_=>letGo (#[]:Array zm).toList.reverse >>= λ_=>jY (.ref s.heap.objs.size) (.ref z) .none) _ _ _;refine za (Zh hS rfl ?_);have hS₂:=jT (je (λ_=>(#[]:Array zm))) hS rfl;refine za (wpAny_letGo ?_);have ne:∀b∈ [z,TI,TO,i1,i2,l1,l2],s.heap.objs.size≠b:=λb hb=>Ne.symm (zQ (lt b hb));have oth:∀b o,s.heap.get? b=some o->((s.heap.push {cls:=.type "list",data:=.seq #[]}).update s.heap.objs.size (je (λ_=>(#[]:Array zm)))).get? b=some o:=
  λb o e=>(jO _ _ (Ne.symm (zQ (zC e)))).trans (zc _ e)
 have hsz:((s.heap.push {cls:=.type "list",data:=.seq #[]}).update s.heap.objs.size (je (λ_=>(#[]:Array zm)))).objs.size=s.heap.objs.size+1:=by rw[YH,jN]
 obtain⟨a,b,hTO⟩:=hTO;refine Kt (k1:=k1) (k2:=k2) (xs:=xs) (ys:=ys) (TI:=TI) (TO:=TO) (i1:=i1) (i2:=i2) (l1:=l1) (l2:=l2) (A:=A.in1) hh Ap n1 n2 _ (λhm=>ne _ hm rfl) .none (λb hb=>?_) hn ⟨.inl ⟨oth _ _ hz,a,b,oth _ _ hTO⟩,oth _ _ hTI,h1.keep λo e=>oth _ o e,h2.keep λo e=>oth _ o e,c1.keep λo e=>oth _ o e,c2.keep λo e=>oth _ o e⟩ hS₂ λh' c' q1 q2 q3=>?_
 ·show b<(Heap.update _ _ _).objs.size;rw[hsz];rcases zB.mp (show b∈ [z,TI,TO,i1,i2,l1,l2]++[s.heap.objs.size]from hb)with q|q
  ·exact yp (lt b q)
  ·rw[zi.mp q];exact yZ _
 ·have q2':=q2;have q3':=q3;dsimp only at q2' q3';rw[hsz]at q2' q3';refine⟨rfl,hQ h' c' (λb o hb e=>q1 b o (λhm=>?_) (oth b o e)) q2' q3'⟩;rcases zB.mp (show b∈ [z,TO,i1,i2]++[s.heap.objs.size]from hm)with q|q
  ·exact hb q
  ·exact yD _ (by have:=zC e;rw[zi.mp q]at this;exact this)
end
def Fb(I:Inv X Li σ H s)(k:∀b u,s.heap.get? b=some u->h'.get? b=some u)(same:∀b u,H b=some u->H' b=some u)
 (new:∀b u,H' b=some u->H b=some u\/s.heap.objs.size<=b/\T9 X.prog X.w H' h' b u):Inv X Li σ H' {s with heap:=h',toks:=t'}:=by
 refine I.un ⟨λb u q _ _ _=>k b u q,λb u q _ _ _=>⟨u.slots,k b u q⟩,λb o q n _=>?_,λb u q _=>⟨u,k b u q⟩,λb xs q=>same _ _ q,λb o u q=>same _ _ q,λb ps q=>⟨#[],by rw[same _ _ q];simp⟩⟩ λb u e=>?_
 ·cases e:H' b with
  |none=>rfl
  |some u=>
    rcases new b u e with z|z
    ·rw[n]at z;cases z
    ·exact absurd (zL (zC q) z.1) (yD _)
 ·rcases new b u e with z|z
  ·exact(I.hok b u z).stay (λc v _ q=>k c v q) (λc q=>same _ _ q) λc xs q=>same _ _ q
  ·exact z.2
def N9(H:Hp)(n0:Nat)(ws:List (V×V)):Hp:=λb=>if (n0:Nat)<=b/\b<n0+ws.length then some (.tup [(ws.getD (b-n0) (.non,.non)).1,(ws.getD (b-n0) (.non,.non)).2])else H b
section
variable{H:Hp}{n0:Nat}{ws:List (V×V)}
def CF(fr:∀b,n0<=b->H b=none)(e:H b=some u):N9 H n0 ws b=some u:=by
 unfold N9;rw[if_neg,e];intro q;rw[fr b q.1]at e
 cases e
def wq(e:ws[j]? =some p):N9 H n0 ws (n0+j:Nat)=some (.tup [p.1,p.2]):=by have hj:=lt_of_get e;unfold N9;rw[if_pos ⟨yx _ _,Nat.add_lt_add_left hj _⟩,Nat.add_sub_cancel_left,zK,e];rfl
def sk(e:N9 H n0 ws b=some u):H b=some u\/∃j p,b= (n0+j:Nat)/\ws[j]? =some p/\u= .tup [p.1,p.2]:=by
 unfold N9 at e;by_cases q:n0<=b/\b<n0+ws.length
 ·rw[if_pos q]at e;have hj:b-n0<ws.length:=Nat.sub_lt_left_of_lt_add q.1 q.2;refine .inr ⟨b-n0,ws[b-n0],(Nat.add_sub_cancel' q.1).symm,zD hj,?_⟩;rw[zK,zD hj]at e
  cases e;rfl
 ·rw[if_neg q]at e;exact .inl e
end
def UB:List D->M D:=λds=>match ds with
|[.ref r,.ref q]=>do
  let l <-O4 r >>= listOf
  let m <-O4 q >>= listOf
  N7 (.lst ((l.zip m).map λp=>.tup [p.1,p.2]))
|_=>M.stuck
def GC(n0 m:Nat):List V:=(zP m).map λj=>V.ref (n0+j:Nat)
def Em:u6 (GC n0 m) (o9 n0 m):=by
 unfold GC o9
 induction zP m with
 |nil=>exact .nil
 |cons j l ih=>exact .cons rfl ih
theorem aU:∀ {l} {vs},l.length=vs.length->(∀(j:Nat) d v,l[j]? =some d->vs[j]? =some v->d9 c μ H d v)->u0 c μ H l vs
|[], [],_,_=>rfl
|d::l,v::vs,e,h=>⟨v,vs,rfl,h 0 d v rfl rfl,aU (XA e) λj d v a b=>h (j+1) d v a b⟩
def Cw{H:Hp}{G:DH}{K:D->List Addr->DH->Hp->Prop}(p:d7 c Z μ H (UB ds G) K):∃i j,ds= [.ref i,.ref j]:=by
 match ds,p with
 |[.ref i,.ref j],_=>exact⟨i,j,rfl⟩
def kK(fr:∀b:Addr,n0<=b->H b=none):Ext μ H μ (N9 H n0 ws):=
 ⟨YK _,λa ha n=>absurd ha n,λb o q _=>CF fr q,λb xs q=>CF fr q,λb o u q=>CF fr q⟩
def Ee(hj:j<m)(ev:(GC n0 m)[j]? =some v):v= .ref (n0+j:Nat):=by unfold GC at ev;rw[jl,List.getElem?_range hj]at ev;exact(jd ev).symm
def Ch{H:Hp}(fr:∀b:Addr,n0<=b->H b=none)(rl1:u0 c μ H dl1 vs1)(rl2:u0 c μ H dl2 vs2):
 u0 c μ (N9 H n0 (vs1.zip vs2)) ((dl1.zip dl2).map λp=>.tup [p.1,p.2]) (GC n0 (vs1.zip vs2).length):=by
 refine aU (by rw[zd,Za,rl1.length,rl2.length,GC,zd,zV,Za]) λj d v ed ev=>?_;rw[jl]at ed;obtain⟨pr,hz,rfl⟩:=Zg.mp ed;have hz2:=xg.mp hz;obtain⟨y1,hy1,ry1⟩:=rl1.get hz2.1;obtain⟨y2,hy2,ry2⟩:=rl2.get hz2.2;have hw:(vs1.zip vs2)[j]? =some (y1,y2):=xg.mpr ⟨hy1,hy2⟩;unfold d9;exact⟨_, [y1,y2],Ee (lt_of_get hw) ev,SqT.of (wq hw),u0.cons (ry1.mono (kK fr)) (u0.cons (ry2.mono (kK fr)) u0.nil)⟩
def iz(I:Inv X Li σ H s)(k:∀b u,s.heap.get? b=some u->h'.get? b=some u)
 (hL:s.heap.objs.size<=L) (e0:n0=L+1) (rr1:u6 vs1 its1) (rr2:u6 vs2 Mu) (z1:vs1.length<=zj)
 (q2:h'.get? L=some {cls:=.type "list",dict:=none,data:=.seq (o9 n0 (vs1.zip vs2).length).toArray c',slots:= #[]}) (q3:rG its1.toArray Mu.toArray n0 (vs1.zip vs2).length h'):
 N9 H n0 (vs1.zip vs2) L=none/\Inv X Li σ (upd (N9 H n0 (vs1.zip vs2)) L (.lst (GC n0 (vs1.zip vs2).length))) {s with heap:=h'}:=by
 have h0:s.heap.objs.size<=n0:=e0▸zq hL (yX _);have fr:∀b:Addr,n0<=b->H b=none:=λb hb=>I.hok.fresh (zq h0 hb);have hS:N9 H n0 (vs1.zip vs2) L=none:=by unfold N9;rw[if_neg λq=>Nat.not_succ_le_self L (zq (xl e0.symm) q.1)];exact I.hok.fresh hL
 refine⟨hS,Fb (s:=s) (t':=s.toks) I k (λb u q=>?_) λb u q=>?_⟩
 ·have:=CF (ws:=vs1.zip vs2) fr q;rw[v9 (J0 this hS)];exact this
 ·by_cases hb:b=L
  ·subst hb;rw[Q5]at q
   cases q
   exact .inr ⟨hL,by unfold GC;rw[zd,zV,Za];exact zq (JG _ _) z1,_,c',Em,q2⟩
  ·rw[v9 hb]at q;rcases sk q with z|⟨j,pr,rfl,hw,rfl⟩
   ·exact .inl z
   ·refine .inr ⟨zq h0 (yx _ _),by show 2<=zj;decide,?_⟩;have hw2:=xg.mp (show (vs1.zip vs2)[j]? =some (pr.1,pr.2)from hw);obtain⟨x,y,ex,ey,ep⟩:=q3 j (lt_of_get hw);obtain⟨w1,f1,rw1⟩:=qI rr1 hw2.1;obtain⟨w2,f2,rw2⟩:=qI rr2 hw2.2;rw[ex]at f1;cases f1;rw[ey]at f2;cases f2;exact⟨[x,y],.cons rw1 (.cons rw2 .nil),_,ep,rfl,_,rfl⟩
section
variable{X:Cx}{Z:XC}{a b:Expr}{fs:DSt->M (List D)}{p1 p2 pos1 pos2:Pos}
def kl(hc:X.calm=true)(I1:Inv X Li σ H1 s1)(r1:u6 vs us)(hl:gD (wc X) Z UB vs H1 Q):
 zt (zI X.prog X.w) X.A (call (.type "zip") us) (λz s2=>zt (zI X.prog X.w) X.A (call (.type "list") [z]) (EP X Li σ Q) X.xe s2) X.xe s1:=by
 obtain⟨ds,X0,G1,rd,h1,p1⟩:=hl;obtain⟨i,j,rfl⟩:=Cw p1;obtain⟨v1,t1,rfl,ra1,v2,t2,rfl,ra2,e⟩:=rd
 cases e
 obtain⟨dl1,l1,vs1,rfl,rl1,hq1,p2⟩:=oG h1 ra1 p1;obtain⟨dl2,l2,vs2,rfl,rl2,hq2,p3⟩:=oG h1 ra2 p2;obtain⟨u1,u2,rfl,ru1,ru2⟩:=lF r1
 cases ru1
 cases ru2
 obtain⟨its1,rr1,ht1,z1⟩:=I1.list hq1;obtain⟨Mu,rr2,ht2,z2⟩:=I1.list hq2;have c1:SC false s1.heap l1 its1.toArray:=ht1.isList;have c2:SC false s1.heap l2 Mu.toArray:=ht2.isList;refine cT c1 c2 λh5 n en Z=>?_;have hm:min its1.toArray.size Mu.toArray.size= (vs1.zip vs2).length:=by rw[Za,rr1.length,rr2.length,zr,zr]
 refine Ij (k1:=false) (k2:=false) (xs:=its1.toArray) (ys:=Mu.toArray) (s:={s1 with heap:=h5}) (I1.ok.hd hc) (vV n) (BF (en▸c1.lt)) (BF (en▸c2.lt)) (dY (en▸c1.lt) (en▸c2.lt) Z.sz) (by rw[hm,Za];exact zq (JG _ _) z1) Z.g5 ⟨_,_,Z.g4⟩ Z.g3 Z.s1 Z.s2 (c1.keep λo e=>Z.keep _ o e) (c2.keep λo e=>Z.keep _ o e) λh' c' q1 q2 q3=>?_;rw[hm]at q2 q3;have e5:({s1 with heap:=h5}:zA).heap.objs.size=n+5:=Z.sz;rw[e5]at q2 q3 ⊢;obtain⟨hS,I2⟩:=iz (h':=h') (n0:=n+5+1) I1 (λb u q=>q1 b u (Tv (en▸zC q)) (Z.keep _ _ q)) (en▸yx _ _) rfl rr1 rr2 z1 q2 q3;have fr:∀b:Addr,n+5+1<=b->H1 b=none:=λb hb=>I1.hok.fresh (en▸zq (yx n 6) hb);exact⟨.ref (n+5:Nat),_,I2,rfl,U6 (h1.same (kK fr) λa o e _=>CF fr e) (Ch fr rl1 rl2) (d7.from p3 (kK fr)) _ hS⟩
def iY(ha:DA X Z [a,b] fs)(hc:X.calm=true)(hg1:Gl X "list")(hm1:X.mg "list" =none)(hg2:Gl X "zip")(hm2:X.mg "zip" =none)
 (hs1:ja [Expr.Call (.Name "zip" p2) [a,b] [] pos2] X.env= [(false,eval (.Call (.Name "zip" p2) [a,b] [] pos2) X.env)]) (hs:ja [a,b] X.env= [(false,eval a X.env),(false,eval b X.env)]) (hs2:ja [b] X.env= [(false,eval b X.env)])
 (hb1:jp "list" =some (.type "list")) (hb2:jp "zip" =some (.type "zip")):
 DE X Z (.Call (.Name "list" p1) [.Call (.Name "zip" p2) [a,b] [] pos2] [] pos1) (P2 UB fs):=by
 refine⟨?_⟩;intro Li s σ H Q I Lo;refine Lo.elim λX9 μ G sr h p=>?_;refine Call_ (gA I hg1 hm1 hb1 (yM ?_ hs1 rfl));rw[hs1];refine xt (Call_ (gA I hg2 hm2 hb2 (yM (thn (ha.h pos2 Li s σ H _ I ⟨X9,μ,G,sr,h,(d7.bind p).mono λds X0 G1 H1 x1 h1 p1 vs rv=>(⟨ds,X0,G1,rv,h1,p1⟩:gD (wc X) Z UB vs H1 Q)⟩) λus s1 hu=>hu.elim λvs H1 I1 r1 hl=>?_) (by rw[hs,hs2]) (by rw[hs2];rfl))));exact yg (kl hc I1 r1 hl) (λz s2 h=>xG h) λ_ _ h=>h
def qj(ha:DA X Z [a,b] fs)(hc:X.calm=true)(hb:BLs X.mg)(hg1:Gl X "list")(hg2:Gl X "zip")(hs:V8 a=true)(hs2:V8 b=true):DE X Z (.Call (.Name "list" p1) [.Call (.Name "zip" p2) [a,b] [] pos2] [] pos1) (P2 UB fs):=
 iY ha hc hg1 (hb.h _ (by decide +kernel)) hg2 (hb.h _ (by decide +kernel)) (MB rfl) (OU hs hs2) (MB hs2) KO uO
end
end DL
namespace TS
open PySem PyProof.Rows
section
variable{prog:zU}{w:jg}{A:js}{E:VSP}{s:zA}
def kz(p:YZ):Int:=numOf p.1
end
def leK(x y:YZ):Prop:=kz x<=kz y
def Srt(l:List YZ):Prop:=l.Pairwise leK
structure MI(L out A B:List YZ):Prop where
 perm:(out++(A++B)).Perm L
 so:Srt out
 oa:∀x∈out,∀y∈A,leK x y
 ob:∀x∈out,∀y∈B,leK x y
 sa:Srt A
 sb:Srt B
structure MJ(L A B S:List YZ):Prop where
 perm:(A++(B++S)).Perm L
 ss:Srt S
 as:∀x∈A,∀y∈S,leK x y
 bs:∀x∈B,∀y∈S,leK x y
 sa:Srt A
 sb:Srt B
structure LI(a b:Array YZ)(out:Array YZ)(ia ib:Nat):Prop where
 mi:MI (a.toList++b.toList) out.toList (a.toList.drop ia) (b.toList.drop ib)
 ha:ia+1<a.size
 hb:ib<b.size
 sz:out.size=ia+ib
section
variable{a b out:Array YZ}{ia ib:Nat}
end
section
variable{prog:zU}{w:jg}{A:js}{E:VSP}{s:zA}
end
structure HI(a b:Array YZ)(out:Array YZ)(na nb:Nat):Prop where
 mj:MJ (a.toList++b.toList) (a.toList.take na) (b.toList.take nb) out.toList.reverse
 ha:0<na
 hb:1<nb
 la:na<=a.size
 lb:nb<=b.size
 sz:out.size+na+nb=a.size+b.size
section
variable{a b out:Array YZ}{na nb:Nat}
end
section
variable{prog:zU}{w:jg}{A:js}{E:VSP}{s:zA}
structure Aft(st Mi:SortSt)(l:List YZ)(p:Array (Nat×Nat×Nat)):Prop where
 kind:Zq Mi=oneType'
 arr:(Xn Mi).toList=l
 pend:pendingOf Mi=p
 fail:failedOf Mi=none
end
structure Run(lo:Nat)(st Mi:SortSt):Prop where
 kind:Zq Mi=oneType'
 pend:pendingOf Mi=pendingOf st
 fail:failedOf Mi=none
 perm:(Xn Mi).Perm (Xn st)
 low:∀i,i<lo->(Xn Mi)[i]? = (Xn st)[i]?
section
variable{prog:zU}{w:jg}{A:js}{E:VSP}{s:zA}
end
def lay:Nat->List (List YZ)->List Nat->List (Nat×Nat×Nat)
|o,r::rs,p::ps=>(o,r.length,p)::lay (o+r.length) rs ps
|_,_,_=> []
structure GI(a0:List YZ)(st:SortSt)(rs:List (List YZ))(ps:List Nat)(T:List YZ):Prop where
 kind:Zq st=oneType'
 fail:failedOf st=none
 arr:(Xn st).toList=rs.flatten++T
 perm:(Xn st).toList.Perm a0
 len:rs.length=ps.length
 pend:pendingOf st= (lay 0 rs ps).toArray
 ok:∀r∈rs,0<r.length/\Srt r
section
variable{prog:zU}{w:jg}{A:js}{E:VSP}{s:zA}
end
end TS
namespace DL
open PySem PySem.Spec L2
open PyProof.Rows hiding St
def aE(l:List Int):List Int:=l.mergeSort λa b=>decide (a<=b)
def LP(l:List Int):(aE l).Pairwise (· <= ·):=(xq (le:=λa b=>decide (a<=b)) (λa b c h1 h2=>decide_eq_true (Xg (of_decide_eq_true h1) (of_decide_eq_true h2))) (λa b=>by rw[ZP,decide_eq_true_iff,decide_eq_true_iff];exact Int.le_total a b) l).imp λh=>of_decide_eq_true h
def AJ(l:List Int):(aE l).Perm l:=jL l _
def Fj(hp:l'.Perm l)(hs:l'.Pairwise (· <= ·)):l'=aE l:=
 Yf (λa b _ _ h1 h2=>Int.le_antisymm h1 h2) hs (LP l) (hp.trans (AJ l).symm)
section
variable{prog:zU}{w:jg}{A:js}{E:VSP}{s:zA}{T:String}{r d:Addr}{n:Nat}{P:Nat->zm->Prop}{OK:Heap->Prop}{Q:VSP}
end
section
variable{X:Cx}{Z:XC}{c:Wc}{μ:List Addr}{H:Hp}{G:DH}
theorem EQ:∀ {out} {ss},IntsAre out ss->∃vs,vs=ss.map V.int/\u6 vs out/\u0 c μ H (ss.map D.int) vs
|_,_,.nil=>⟨[],rfl,.nil,rfl⟩
|_,_,.cons x t q=>by obtain⟨vs,e,h1,h2⟩:=EQ q;subst e;exact⟨_,rfl,.cons ⟨t,rfl⟩ h1,_,_,rfl,by unfold d9;rfl,h2⟩
end
section
variable{prog:zU}{w:jg}{A:js}{E:VSP}
end
def i8(r:Option Int):D:=match r with
|none=>.non
|some b=>.int b
section
theorem CU:∀ {vs} {ns},vs.length=ns.length->(∀i u,vs[i]? =some u->∃t,u=Value.int (ns.getD i 0) t)->IntsAre vs ns
|[], [],_,_=>.nil
|v::vs,n::ns,e,h=>by obtain⟨t,rfl⟩:=h 0 v rfl;exact .cons _ t (CU (XA e) λi u hu=>by simpa using h (i+1) u (by simpa using hu))
end
structure sD(X:Cx)(e:Expr)(k:Int):Prop where
 h:PE X e (tC (.int k))
section
variable{X:Cx}{Z:XC}{pos:Pos}{e f:Expr}{i j k:Int}
def Vw{m pos}:sD X (.Constant (.int i) m pos) i:=⟨pW⟩
def Td(he:sD X e i)(hf:sD X f j)(hc:vA i j)(hk:i ^ j.toNat=k):sD X (.BinOp e .Pow f pos) k:=⟨by
 subst hk;exact PE.mono (pM uV he.h hf.h) λσ H Q q=>⟨i,j,rfl,rfl,hc,q⟩⟩
def RZ(he:sD X e i)(hf:sD X f j)(hk:i-j=k):sD X (.BinOp e .Sub f pos) k:=⟨by
 subst hk;exact PE.mono (pM aV he.h hf.h) λσ H Q q=>⟨i,j,rfl,rfl,q⟩⟩
end
end DL
namespace DL
open PySem PySem.W
open PyProof.Rows hiding St
structure WO(lt:Nat->Nat->Bool):Prop where
 tr:∀i j k,lt j i=false->lt k j=false->lt k i=false
 as:∀i j,lt i j=true->lt j i=false
section
def WO.ir(O:WO lt)(i:Nat):lt i i=false:=by
 rcases e:lt i i with _|_
 ·rfl
 ·exact(O.as i i e).symm.trans e |>.symm▸rfl
def upW(lt:Nat->Nat->Bool)(p:Array Nat)(m:Nat):Prop:=∀i j,i<j->j<m->lt (p.getD j 0) (p.getD i 0)=false
def dnW(lt:Nat->Nat->Bool)(p:Array Nat)(m:Nat):Prop:=∀i j,i<j->j<m->lt (p.getD i 0) (p.getD j 0)=false
def GJ(O:WO lt)(h:upW lt p m)(hij:i<=j)(hj:j<m):lt (p.getD j 0) (p.getD i 0)=false:=by
 rcases Yo hij with k|k
 ·exact h i j k hj
 ·rw[k];exact O.ir _
def cL(O:WO lt)(h:dnW lt p m)(hij:i<=j)(hj:j<m):lt (p.getD i 0) (p.getD j 0)=false:=by
 rcases Yo hij with k|k
 ·exact h i j k hj
 ·rw[k];exact O.ir _
def Ic(O:WO lt)(hk:1<=k)(h:upW lt p k)(hl:lt (p.getD k 0) (p.getD (k-1) 0)=false):upW lt p (k+1):=by
 intro i j hij hj;by_cases hj':j<k
 ·exact h i j hij hj'
 ·have ej:j=k:=by lia
  subst ej;exact O.tr _ _ _ (GJ O h (show i<=j-1 by lia) (by lia)) hl
def KR(O:WO lt)(hk:1<=k)(h:dnW lt p k)(hl:lt (p.getD (k-1) 0) (p.getD k 0)=false):dnW lt p (k+1):=by
 intro i j hij hj;by_cases hj':j<k
 ·exact h i j hij hj'
 ·have ej:j=k:=by lia
  subst ej;exact O.tr _ _ _ hl (cL O h (show i<=j-1 by lia) (by lia))
theorem GK(O:WO lt)(P:O1 p n):∀f k,1<=k->k+f<=n->upW lt p k->tOk lt n (kas_asc p f k) (λm=>k<=m/\m<=k+f/\upW lt p m/\(m<k+f->lt (p.getD m 0) (p.getD (m-1) 0)=true))
|0,k,h1,h2,u=>⟨zh _,zh _,u,λz=>by lia⟩
|f+1,k,h1,h2,u=>by
  unfold kas_asc;refine⟨P.bd (by lia),P.bd (by lia),?_⟩;rcases e:lt (p.getD k 0) (p.getD (k-1) 0)with _|_
  ·simp only[zw,if_false];exact(GK O P f (k+1) (by lia) (by lia) (Ic O h1 u e)).mono λm ⟨a,b,c,d⟩=>⟨by lia,by lia,c,λz=>d (by lia)⟩
  ·exact⟨zh _,by lia,u,λ_=>e⟩
def IC(P:O1 p n)(hb:b<=n)(i:Nat):(kas_rev p a b).getD i 0=if a<=i/\i<b then p.getD (a+b-1-i) 0 else p.getD i 0:=by have hs:=P.size;rw[EA];unfold kas_rev;rw[getElem?_mirror_all (by lia)];split<;>rw[<-EA]
def eqB(lt:Nat->Nat->Bool)(p:Array Nat)(a b:Nat):Prop:=∀i j,a<=i->i<b->a<=j->j<b->lt (p.getD i 0) (p.getD j 0)=false
def SW(O:WO lt)(P:O1 p n)(hk:k<=n)(h:dnW lt p k)(e:eqB lt p a k):dnW lt (kas_rev p a k) k:=by
 intro i j hij hj;rw[IC P hk,IC P hk];by_cases h1:a<=i
 ·rw[if_pos ⟨h1,by lia⟩,if_pos ⟨by lia,hj⟩];exact e _ _ (by lia) (by lia) (by lia) (by lia)
 ·rw[if_neg (by lia)];by_cases h2:a<=j
  ·rw[if_pos ⟨h2,hj⟩];exact h i _ (by lia) (by lia)
  ·rw[if_neg (by lia)];exact h i j hij hj
theorem uJ(O:WO lt):∀f k q p,O1 p n->1<=k->k+f<=n->q+1<=k->dnW lt p k->eqB lt p (k-(q+1)) k->tOk lt n (kas_desc f p k q) (λr=>O1 r.1 n/\k<=r.2.1/\r.2.1<=k+f/\r.2.2+1<=r.2.1/\dnW lt r.1 r.2.1/\eqB lt r.1 (r.2.1-(r.2.2+1)) r.2.1)
|0,k,q,p,P,h1,h2,h3,d,e=>⟨P,zh _,zh _,h3,d,e⟩
|f+1,k,q,p,P,h1,h2,h3,d,e=>by
  unfold kas_desc;have one:∀(p:Array Nat),eqB lt p (k+1-(0+1)) (k+1):=λp i j a1 a2 a3 a4=>by rw[show i=j by lia];exact O.ir _
  refine⟨P.bd (by lia),P.bd (by lia),?_⟩;rcases c:lt (p.getD k 0) (p.getD (k-1) 0)with _|_
  ·simp only[zw,if_false];refine⟨P.bd (by lia),P.bd (by lia),?_⟩;rcases c2:lt (p.getD (k-1) 0) (p.getD k 0)with _|_
   ·simp only[zw,if_false];refine(uJ O f (k+1) (q+1) p P (by lia) (by lia) (by lia) (KR O h1 d c2) λi j a1 a2 a3 a4=>?_).mono λr ⟨a,b,c,d,g⟩=>⟨a,by lia,by lia,d,g⟩;have el:∀i,k-(q+1)<=i->i<k+1->lt (p.getD i 0) (p.getD k 0)=false/\lt (p.getD k 0) (p.getD i 0)=false:=λi x y=>by
     by_cases z:i=k
     ·rw[z];exact⟨O.ir _,O.ir _⟩
     ·exact⟨O.tr _ _ _ c2 (e i (k-1) x (by lia) (by lia) (by lia)),O.tr _ _ _ (e (k-1) i (by lia) (by lia) x (by lia)) c⟩
    exact O.tr _ _ _ (el j (by lia) a4).2 (el i (by lia) a2).1
   ·exact⟨P,zh _,by lia,h3,d,e⟩
  ·simp only[if_true];have c':=O.as _ _ c;split
   ·have rp:O1 (kas_rev p (k-(q+1)) k) n:=VC P;refine(uJ O f (k+1) 0 _ rp (by lia) (by lia) (by lia) (λi j hij hj=>?_) (one _)).mono λr ⟨a,b,c,d,g⟩=>⟨a,by lia,by lia,d,g⟩;by_cases hj':j<k
    ·exact SW O P (by lia) d e i j hij hj'
    ·have ej:j=k:=by lia
     subst ej;rw[IC P (by lia),IC P (by lia),if_neg (show ¬(j-(q+1)<=j/\j<j) by lia)];split
     ·exact O.tr _ _ _ c' (cL O d (by lia) (by lia))
     ·exact O.tr _ _ _ c' (cL O d (by lia) (by lia))
   ·exact(uJ O f (k+1) 0 p P (by lia) (by lia) (by lia) (KR O h1 d c') (one p)).mono λr ⟨a,b,c,d,g⟩=>⟨a,by lia,by lia,d,g⟩
def MR(O:WO lt)(P:O1 p n)(h1:1<=k)(hk:k<=n)(d:dnW lt p k):tOk lt n (kas_tail3 k n p) (λr=>O1 r.2 n/\1<=r.1/\r.1<=n/\upW lt r.2 r.1):=by
 unfold kas_tail3;have u:upW lt (kas_rev p 0 k) k:=λi j hij hj=>by rw[IC P hk,IC P hk,if_pos ⟨zO _,hj⟩,if_pos ⟨zO _,by lia⟩];exact d _ _ (by lia) (by lia)
 exact tOk.bind _ ((GK O (VC P) (n-k) k h1 (by lia) u).mono λm ⟨a1,a2,a3,_⟩=>⟨VC P,by lia,by lia,a3⟩)
def mS(O:WO lt)(P:O1 p n)(h1:1<=k)(hk:k<n)(d:dnW lt p (k+1)):tOk lt n (kas_descPart k n p) (λr=>O1 r.2 n/\1<=r.1/\r.1<=n/\upW lt r.2 r.1):=by
 unfold kas_descPart;refine tOk.bind _ ((uJ O (n-(k+1)) (k+1) 0 p P (by lia) (by lia) (by lia) d λi j a1 a2 a3 a4=>by rw[show i=j by lia];exact O.ir _).mono λr ⟨a,b,c,e,g,h⟩=>?_);split
 ·exact MR O (VC a) (by lia) (by lia) (SW O a (by lia) g h)
 ·exact MR O a (by lia) (by lia) g
def Gm(O:WO lt)(P:O1 p n)(h2:2<=n):tOk lt n (kas_count n p) (λr=>O1 r.2 n/\1<=r.1/\r.1<=n/\upW lt r.2 r.1):=by
 unfold kas_count;refine tOk.bind _ ((GK O P (n-1) 1 (zh _) (by lia) (λi j _ _=>by lia)).mono λm ⟨a1,a2,a3,a4⟩=>?_);by_cases hm:m=n
 ·rw[if_pos (by simpa using hm)];exact⟨P,a1,by lia,a3⟩
 ·rw[if_neg (by simpa using hm)];have a5:=O.as _ _ (a4 (by lia));by_cases h1:m>1
  ·rw[if_pos h1];refine⟨P.bd (by lia),P.bd (by lia),?_⟩;rcases c:lt (p.getD 0 0) (p.getD (m-1) 0)with _|_
   ·simp only[zw,if_false];refine mS O (VC P) (by lia) (by lia) λi j hij hj=>?_;rw[IC P (by lia),IC P (by lia),if_pos ⟨zO _,by lia⟩];by_cases hj':j<m
    ·rw[if_pos ⟨zO _,hj'⟩];exact a3 _ _ (by lia) (by lia)
    ·rw[if_neg (by lia),show j=m by lia];exact O.tr _ _ _ a5 (O.tr _ _ _ c (GJ O a3 (zO _) (by lia)))
   ·exact⟨P,a1,by lia,a3⟩
  ·rw[if_neg h1];have em:m=1:=by lia
   subst em;refine mS O P (zh _) (by lia) λi j hij hj=>?_;have e1:i=0:=by lia
   have e2:j=1:=by lia
   subst e1 e2;exact a5
theorem aL(O:WO lt)(P:O1 p n)(hk:k<n)(u:upW lt p k):∀f l r,l<=r->r<=k->r-l<=f->(∀i,i<l->lt (p.getD k 0) (p.getD i 0)=false)->(∀i,r<=i->i<k->lt (p.getD i 0) (p.getD k 0)=false)->
 tOk lt n (kas_place p k f l r) (λL=>L<=k/\(∀i,i<L->lt (p.getD k 0) (p.getD i 0)=false)/\∀i,L<=i->i<k->lt (p.getD i 0) (p.getD k 0)=false)
 |0,l,r,h1,h2,h3,a,b=>⟨by lia,a,λi hi=>b i (by lia)⟩
 |f+1,l,r,h1,h2,h3,a,b=>by
   unfold kas_place;by_cases h:l>=r
   ·rw[if_pos h];exact⟨by lia,a,λi hi=>b i (by lia)⟩
   ·rw[if_neg h];have hm1:l<=(l+r) / 2:=by lia
    have hm2:(l+r) / 2<r:=by lia
    refine⟨P.bd hk,P.bd (by lia),?_⟩;rcases e:lt (p.getD k 0) (p.getD ((l+r) / 2) 0)with _|_
    ·simp only[zw,if_false];exact aL O P hk u f _ r (by lia) h2 (by lia) (λi hi=>O.tr _ _ _ (GJ O u (show i<=(l+r) / 2 by lia) (by lia)) e) b
    ·simp only[if_true];exact aL O P hk u f l _ hm1 (by lia) (by lia) a λi hi hik=>O.tr _ _ _ (O.as _ _ e) (GJ O u hi hik)
theorem CV(O:WO lt):∀f k p,O1 p n->k+f=n->upW lt p k->tOk lt n (kas_bin f p k) (λq=>O1 q n/\upW lt q n)
|0,k,p,P,h,u=>⟨P,by rw[<-h];exact u⟩
|f+1,k,p,P,h,u=>by
  unfold kas_bin;refine tOk.bind _ ((aL O P (show k<n by lia) u k 0 k (zO _) (zh _) (by lia) (λi hi=>by lia) (λi h1 h2=>by lia)).mono λL ⟨hL,a,b⟩=>?_);have hs:=P.size;refine CV O f (k+1) _ ⟨(Yh.mp (bubble_perm p k (k-L))).trans P.pm⟩ (by lia) ?_;have e:∀i,(bubble p k (k-L)).getD i 0=if i=L then p.getD k 0 else if L<i/\i<=k then p.getD (i-1) 0 else p.getD i 0:=λi=>by
   rw[EA,getElem?_bubble (by lia) _ (by lia),show k-(k-L)=L by lia];split
   ·rw[<-EA]
   ·split<;>rw[<-EA]
  intro i j hij hj;rw[e i,e j];by_cases h1:i=L
  ·rw[if_pos h1,if_neg (show ¬j=L by lia),if_pos (show L<j/\j<=k by lia)];exact b (j-1) (by lia) (by lia)
  ·rw[if_neg h1];by_cases h2:j=L
   ·rw[if_pos h2,if_neg (show ¬(L<i/\i<=k) by lia)];exact a i (by lia)
   ·rw[if_neg h2];by_cases h3:L<i
    ·rw[if_pos (show L<i/\i<=k by lia),if_pos (show L<j/\j<=k by lia)];exact u _ _ (by lia) (by lia)
    ·rw[if_neg (show ¬(L<i/\i<=k) by lia)];by_cases h4:L<j
     ·rw[if_pos (show L<j/\j<=k by lia)];exact u i (j-1) (by lia) (by lia)
     ·rw[if_neg (show ¬(L<j/\j<=k) by lia)];exact u _ _ hij (by lia)
def LQ(O:WO lt)(h2:2<=n):tOk lt n (kas_sort n) (λq=>O1 q n/\upW lt q n):=by
 unfold kas_sort;refine tOk.bind _ ((Gm O ⟨by simp⟩ h2).mono λr ⟨a,b,c,d⟩=>?_);by_cases h:r.1<n
 ·rw[if_pos h,show max r.1 1=r.1 by lia];exact CV O _ _ _ a (by lia) d
 ·rw[if_neg h];exact⟨a,by rw[show n=r.1 by lia];exact d⟩
def HC{α:Type}(lt:Nat->Nat->Bool):KasT α->α
| .ret a=>a
| .ask i j k=>HC lt (k (lt i j))
theorem tOk.run:∀t,tOk lt n t Q->tOk lt n t (λa=>a=HC lt t/\Q a)
| .ret a,h=>⟨rfl,h⟩
| .ask i j k,h=>⟨h.1,h.2.1,tOk.run (k (lt i j)) h.2.2⟩
def tOk.is:∀t,tOk lt n t Q->Q (HC lt t)
| .ret a,h=>h
| .ask i j k,h=>tOk.is (k (lt i j)) h.2.2
end
end DL
namespace DL
open PySem PySem.Spec L2
open PyProof.Rows hiding St
def oK:D->Option (Int×Int)
| .tup [.int a,.int x]=>some (a,x)
|_=>none
def qC:List D->Option (List (Int×Int))
|[]=>some []
|d::r=>match oK d,qC r with
  |some a,some b=>some (a::b)
  |_,_=>none
def QB(p q:Int×Int):Bool:=if p.1=q.1 then decide (p.2<q.2)else decide (p.1<q.1)
def ltP(qs:List (Int×Int))(i j:Nat):Bool:=QB (qs.getD i (0,0)) (qs.getD j (0,0))
def i5(qs:List (Int×Int))(n:Nat):List Nat:=if n<2 then zP n else (HC (ltP qs) (Zp n)).toList
def iG(qs:List (Int×Int))(l:List D):List D:=(i5 qs l.length).map λi=>l.getD i .non
def fU:QB p q=true↔p.1<q.1\/(p.1=q.1/\p.2<q.2):=by
 unfold QB;by_cases e:p.1=q.1
 ·rw[if_pos e,decide_eq_true_iff];lia
 ·rw[if_neg e,decide_eq_true_iff];lia
def mE:QB p q=false↔q.1<p.1\/(q.1=p.1/\q.2<=p.2):=by rw[<-Bool.not_eq_true,fU];lia
def fP(qs:List (Int×Int)):WO (ltP qs):=⟨λi j k h1 h2=>mE.mpr (by
 have h1:=mE.mp h1;have h2:=mE.mp h2;lia),λi j h=>mE.mpr (by
 have h:=fU.mp h;lia)⟩
def IN(qs:List (Int×Int))(n:Nat):(i5 qs n).Perm (zP n)/\(i5 qs n).Pairwise (λi j=>ltP qs j i=false):=by
 unfold i5;by_cases h:n<2
 ·rw[if_pos h];refine⟨List.Perm.refl _,?_⟩
  match n,h with
  |0,_=>simp
  |1,_=>simp[Xf]
 ·rw[if_neg h];obtain⟨P,U⟩:=tOk.is _ (LQ (fP qs) (show 2<=n by lia));refine⟨P.pm,?_⟩;rw[xS];intro i j hi hj hij;have hs:=P.size;have hi':i<(HC (ltP qs) (Zp n)).size:=by simpa using hi
  have hj':j<(HC (ltP qs) (Zp n)).size:=by simpa using hj
  have:=U i j hij (by lia);simpa [YS,hi',hj']using this
section
variable{X:Cx}{Li:PNS}{σ:St}{H:Hp}{s:zA}
def mD(h:Heap)(u:zm)(q:Int×Int):Prop:=∃a t t',u= .ref a/\IsTup h a #[.int q.1 t,.int q.2 t']
theorem nQ(I:Inv X Li σ H s):∀ {ks} {qs} {kv:List V} {ku},qC ks=some qs->u0 (wc X) μ H ks kv->u6 kv ku->qs.length=ku.length/\∀(i:Nat) q,qs[i]? =some q->∃u,ku[i]? =some u/\mD s.heap u q
|[],qs,kv,ku,e,r,rv=>by
  cases e;cases r;cases rv
  exact⟨rfl,λi q z=>by simp at z⟩
|d::r,qs,kv,ku,e,rr,rv=>by
  obtain⟨v,tl,rfl,rd,rt⟩:=rr
  cases rv with
  |cons ru rur=>
  rename_i u ur;unfold qC at e;rcases h1:oK d with _|a
  ·rw[h1]at e;cases e
  ·
    rcases h2:qC r with _|b
    ·rw[h1,h2]at e;cases e
    ·
      rw[h1,h2]at e
      cases e
      obtain⟨hl,hk⟩:=nQ I h2 rt rur;refine⟨by simp[hl],λi q z=>?_⟩
      cases i with
      |succ i=>simpa using hk i q (by simpa using z)
      |zero=>
        simp at z;subst z;refine⟨u,rfl,?_⟩;unfold oK at h1;split at h1
        ·rename_i n x
         cases h1
         unfold d9 at rd;obtain⟨ad,vs,rfl,q,rl⟩:=rd;obtain⟨v1,t1,rfl,e1,v2,t2,rfl,e2,e3⟩:=rl
         cases e3
         rw[C2 e1,C2 e2]at q
         cases ru
         obtain⟨Ll,rvs,tp,_⟩:=I.tuple q
         cases rvs with
         |cons r1 rr1=>
           cases rr1 with
           |cons r2 rr2=>
             cases rr2
             obtain⟨t,rfl⟩:=r1;obtain⟨t',rfl⟩:=r2;exact⟨ad,t,t',rfl,tp⟩
        ·cases h1
end
section
variable{prog:zU}{w:jg}{A:js}{E:VSP}{s:zA}{C:Bool->zA->Prop}
def ig(hx:mD s.heap u q)(hy:mD s.heap u' q')(h:C (QB q q') s):zt (zI prog w) A (keyLt' (tuples' true) u u') C E s:=by
 obtain⟨a,t,t',rfl,o,ho,hc,n,hd⟩:=hx;obtain⟨b,v,v',rfl,o2,Nl,hc2,n2,hd2⟩:=hy;refine PySem.W.kat_lt ho hd Nl hd2 ?_;show PySem.W.KatLex prog w A true _ C [(.int q.1 t,.int q'.1 v),(.int q.2 t',.int q'.2 v')] 0 s;refine Ys (ZB (Xb (λe=>?_) λe=>?_))
 ·have e1:q.1=q'.1:=by simpa using e
  refine YF (Ys (ZB (Xb (λe=>?_) λe=>?_)))
  ·have e2:q.2=q'.2:=by simpa using e
   refine YF (PySem.W.kat_nil ?_);rw[show QB q q'=false from mE.mpr (by lia)]at h;exact h
  ·refine Xa (PySem.W.kat_one _ _ (PyProof.Rows.lt_int ?_));unfold QB at h;rw[if_pos e1]at h;exact h
 ·have e1:¬q.1=q'.1:=by simpa using e
  refine Xa ?_;show zt (zI prog w) A (oneLt' true _ _) C _ s;rw[<-keyLt'_oneType];refine PySem.W.kat_lt_int ?_;unfold QB at h;rw[if_neg e1]at h;exact h
end
section
variable{X:Cx}{Z:XC}{Li:PNS}{σ:St}{H:Hp}{s:zA}{F:List D->M D}{k:Nat}{f:Addr}{fd:xW}{ps:List Str}{μ:List Addr}{G:DH}
def Ca(rl:u0 (wc X) μ H l ws)(rv:u6 ws vs):
 ∃ws',u6 ws' ((i5 qs vs.length).map λi=>vs.getD i Value.none)/\u0 (wc X) μ H (iG qs l) ws'/\ws'.length=vs.length:=by
 have hlv:l.length=vs.length:=by rw[rl.length,rv.length]
 have hp:=(IN qs vs.length).1;have main:∀p:List Nat,(∀i∈p,i<vs.length)->∃ws',u6 ws' (p.map λi=>vs.getD i Value.none)/\u0 (wc X) μ H (p.map λi=>l.getD i .non) ws'/\ws'.length=p.length:=by
  intro p
  induction p with
  |nil=>exact λ_=>⟨[],.nil,rfl,rfl⟩
  |cons i r ih=>
    intro hi;obtain⟨ws',a1,a2,a3⟩:=ih λj hj=>hi j (ze _ hj);have li:=hi i (by simp);have gl:l[i]? =some (l.getD i .non):=by rw[zK,zD (by lia)];rfl
    obtain⟨v,e1,r1⟩:=rl.get (i:=i) gl;obtain⟨u,e2,r2⟩:=rv.get e1;refine⟨v::ws',?_,⟨v,ws',rfl,r1,a2⟩,by simp[a3]⟩;have:vs.getD i Value.none=u:=by rw[zK,e2];rfl
    rw[zT,this];exact .cons r2 a1
 obtain⟨ws',a1,a2,a3⟩:=main _ λi hi=>by simpa using hp.mem_iff.mp hi
 exact⟨ws',a1,by unfold iG;rw[hlv];exact a2,by rw[a3,hp.length_eq];simp⟩
end
section
variable{X:Cx}{Z:XC}{e:Expr}{fe:Fe}{p pf kp pos:Pos}{x:Str}{F:List D->M D}
end
section
variable{prog:zU}{w:jg}{A:js}{E:VSP}{s:zA}
end
section
variable{X:Cx}{Z:XC}{es:List Expr}{pos:Pos}
end
section
variable{X:Cx}{Z:XC}
end
section
variable{prog:zU}{w:jg}{A:js}{E:VSP}{s:zA}
end
def UA:Slot "set_iterator" "__next__" "set_iterator.__next__":=.of (owner:= "set_iterator") (n:= "__next__") (by rw[Xy,ZL];kernel_rfl) (by decide +kernel) (by decide +kernel) (by decide +kernel) (by first|exact .inl (by decide +kernel)|exact .inr (by decide +kernel)) (by rw[isSubtype_type];kernel_rfl)
def uR:Slot "set_iterator" "__iter__" "set_iterator.__iter__":=.of (owner:= "set_iterator") (n:= "__iter__") (by rw[Xy,ZL];kernel_rfl) (by decide +kernel) (by decide +kernel) (by decide +kernel) (by first|exact .inl (by decide +kernel)|exact .inr (by decide +kernel)) (by rw[isSubtype_type];kernel_rfl)
def wH:entryFor table "set_iterator.__next__" =some yC.«set_iterator.__next__»:=entryFor_of_tree (by kernel_rfl)
def Tq:entryFor table "set.__iter__" =some yC.«frozenset.__iter__»:=entryFor_alias (id':= "frozenset.__iter__") (by kernel_rfl) rfl (by decide +kernel) (by kernel_rfl)
def dI(a:zm):argsOk "set_iterator.__next__" ⟨[a], []⟩:=by unfold argsOk;kernel_rfl
def gw(a:zm):argsOk "set_iterator.__iter__" ⟨[a], []⟩:=by unfold argsOk;kernel_rfl
def vw:entryFor table "set_iterator.__iter__" =some yC.«dict_keyiterator.__iter__»:=entryFor_alias (id':= "dict_keyiterator.__iter__") (by kernel_rfl) rfl (by decide +kernel) (by kernel_rfl)
section
variable{prog:zU}{w:jg}{A:js}{E:VSP}{s:zA}
def oj(hT:s.TypeIs (.ref r) "set")(h:Q false s):zt (zI prog w) A (Zs (.ref r)) Q E s:=by
 unfold Zs;refine za (Xw hT PySem.F.slot_set_len.lookup ?_);generalize hq:("set.__len__" :String)=id1
 wp_delta
 rw[show splitId id1=some ("set", "__len__")from by subst hq;decide +kernel];subst hq;refine za (ZR (T:= "set") (b:=true) hT (by rw[isSubtype_type];kernel_rfl) ?_);refine yk (λz=>absurd z (by decide)) (λ_=>?_);refine yk (λ_=>?_) (λz=>absurd (by decide +kernel) z);exact za (Zy hT (zf h))
end
def OO:jp "set" =some (.type "set"):=by decide +kernel
section
variable{X:Cx}{Z:XC}{c:Wc}{μ:List Addr}{H:Hp}{G:DH}
end
section
variable{X:Cx}{Z:XC}{ea eb:Expr}{fa fb:Fe}{p p1 p2 q1 q2 q3 pos:Pos}
end
def sn(A:js)(s:zA)(y x:zm)(b:Bool):Prop:=
 ∀(prog:zU) (w:jg) (E:VSP) (Q:VSP),Q (.bool b) s->zt (zI prog w) A (richCompare .GtE y x) Q E s
inductive GeR(A:js)(s:zA):List zm->List zm->Bool->Prop
|nil:GeR A s [] [] true
|eq {x y xs ys b}:xk A s x y true->GeR A s xs ys b->GeR A s (x::xs) (y::ys) b
|ne {x y xs ys b}:xk A s x y false->sn A s x y b->GeR A s (x::xs) (y::ys) b
section
open PySem.SeqAt
open PySem.AutoSeq1 (wpAny_loadPart')
open PySem.MeetsSeq PySem.MeetsSeq2 PySem.MeetsSeq3
end
section
variable{X:Cx}{Z:XC}
end
section
end
section
variable{X:Cx}{Z:XC}{Li:PNS}{σ:St}{k:Nat}{f:Addr}{fd:xW}{ps:List Str}{F:List D->M D}{A:js}
end
section
variable{X:Cx}{Z:XC}{F:List D->M D}{x:Str}{e:Expr}{fe:Fe}{p pf kp pos:Pos}
end
section
variable{prog:zU}{w:jg}{A:js}{E:VSP}{s:zA}{K:Type}[DecidableEq K]{knd:KeyKind prog w K}
end
section
variable{X:Cx}{Z:XC}{ea:Expr}{fa:Fe}{p q1 ap pos:Pos}
end
inductive CdE(w:jg)(K:zo)(mg:Str->Option zm):List DictEntry->List (Str×D)->Prop
|nil:CdE w K mg [] []
|cons {z:Str} {t:Tok} {u:zm} {d:D} {es:List DictEntry} {tb:List (Str×D)} (h:CR K mg d u) (r:CdE w K mg es tb):CdE w K mg ({hash:=PyData.keyHash w.params z,key:=.str z t,val:=u}::es) ((z,d)::tb)
structure CdOk(w:jg)(K:zo)(mg:Str->Option zm)(x:Str)(tb:List (Str×D)):Prop where
 ex:∃a es n,mg x=some (.ref a)/\K.lookup a=some ⟨.type "dict",none,.dict (ya es) n, #[]⟩/\CdE w K mg es tb
 nd:(tb.map (·.1)).Nodup
section
variable{X:Cx}{Z:XC}{b:Expr}{fb:Fe}{x:Str}{tb:List (Str×D)}{p pos:Pos}
end
mutual
def pyD:D->PyData
| .non=>.none
| .bl b=>.bool b
| .int i=>.int i
| .str x=>.str x
| .tup l=>.tuple (pyL l)
| .ref _=>.none
| .fn _=>.none
| .ty _=>.none
def pyL:List D->List PyData
|[]=> []
|d::r=>pyD d::pyL r
end
mutual
def E2:D->Bool
| .non=>true
| .bl _=>true
| .int _=>true
| .str _=>true
| .tup l=>HB l
| .ref _=>false
| .fn _=>false
| .ty _=>false
def HB:List D->Bool
|[]=>true
|d::r=>E2 d&&HB r
end
mutual
def iq:∀d:D,(pyD d).hasDict=false
| .non=>rfl
| .bl _=>rfl
| .int _=>rfl
| .str _=>rfl
| .tup l=>by unfold pyD;exact QT l
| .ref _=>rfl
| .fn _=>rfl
| .ty _=>rfl
def QT:∀l:List D,PyData.hasDictAll (pyL l)=false
|[]=>rfl
|d::r=>by unfold pyL;show ((pyD d).hasDict||PyData.hasDictAll (pyL r))=false;rw[iq d,QT r];rfl
end
section
variable{X:Cx}{Z:XC}{Li:PNS}{σ:St}{H:Hp}{s:zA}
def Mq(I:Inv X Li σ H s)(q:SqT X.K H a vs):∃o Ll n,s.heap.get? a=some o/\o.cls= .type "tuple"/\o.data= .seq Ll n/\u6 vs Ll.toList:=by
 rcases q with q|⟨o,Ll,n,hl,hc,hd,_,hv⟩
 ·obtain⟨_,Ll,hv,o,e,c,n,d⟩:=(show T9 X.prog X.w H s.heap a (.tup vs)from UK I.hok q);exact⟨o,Ll.toArray,n,e,c,(xY d).1,by simpa using hv⟩
 ·exact⟨o,Ll,n,I.kIn _ _ hl,hc,(xY hd).1,hv⟩
mutual
theorem gk(I:Inv X Li σ H s):∀d {v} {u},E2 d=true->d9 (wc X) μ H d v->J1 v u->∃as,Reads s.heap u (pyD d) as
| .non,v,u,_,r,q=>by unfold d9 at r;subst r;cases q;exact⟨_,.none⟩
| .bl b,v,u,_,r,q=>by unfold d9 at r;subst r;cases q;exact⟨_,.bool b⟩
| .int i,v,u,_,r,q=>by unfold d9 at r;subst r;obtain⟨t,rfl⟩:=q;exact⟨_,.int i t⟩
| .str x,v,u,_,r,q=>by unfold d9 at r;subst r;obtain⟨t,rfl⟩:=q;exact⟨_,.str x t⟩
| .tup l,v,u,hd,r,q=>by
  unfold d9 at r;obtain⟨a,vs,rfl,sq,rl⟩:=r
  cases q
  obtain⟨o,Ll,n,e,c,d,hv⟩:=Mq I sq;obtain⟨as,ra⟩:=GP I l (by unfold E2 at hd;exact hd) rl hv;unfold pyD;exact⟨as,.tuple e c d ra⟩
| .ref _,v,u,hd,_,_=>by unfold E2 at hd;cases hd
| .fn _,v,u,hd,_,_=>by unfold E2 at hd;cases hd
| .ty _,v,u,hd,_,_=>by unfold E2 at hd;cases hd
theorem GP(I:Inv X Li σ H s):∀l {vs} {us},HB l=true->u0 (wc X) μ H l vs->u6 vs us->∃as,ReadsAll s.heap us (pyL l) as
|[],vs,us,_,r,q=>by unfold u0 at r;subst r;cases q;exact⟨_,.nil⟩
|d::l,vs,us,hd,r,q=>by
  unfold u0 at r;obtain⟨v,r',rfl,r1,r2⟩:=r;unfold HB at hd;rw[zy]at hd
  cases q with
  |cons q1 q2=>
    obtain⟨as,h1⟩:=gk I d hd.1 r1 q1;obtain⟨bs,h2⟩:=GP I l hd.2 r2 q2;unfold pyL;exact⟨_,.cons h1 h2⟩
end
end
section
variable{X:Cx}{Z:XC}
end
end DL
namespace W
open PySem PySem.Spec L2 DL
open PyProof.Rows hiding St
end W
namespace DL
open PySem PySem.Spec L2
open PyProof.Rows hiding St
section
variable{X:Cx}{Z:XC}{o:Expr}{fo:Fe}{name:Str}{id:String}{mm:D->List D->M D}{My Ly:Pos}
end
def sV:zm->Str
| .str x _=>x
|_=> ""
def byT(w:jg):Bool:=w.params.followText "set-order"
def TSet(prog:zU)(w:jg)(h:Heap)(a:Addr)(ss:List Str):Prop:=∃o es ep t,h.get? a=some o/\o.ExactSet/\o.data= .set es ep t/\ElemsOf (strKind prog w) es.toList/\(es.toList.map λe=>sV e.2).Perm ss/\es.size<YA/\t.fits es.size=true/\t.led= (!byT w)/\(0<es.size->t.plain=false)
def cg(t:SetTable)(n:Nat):(t.orStandIn n).led=t.led:=by unfold SetTable.orStandIn;split<;>rfl
def GY(t:SetTable)(es:Array (Int×zm))(h:Int)(x:zm):(layNew t es h x).2.1.led=t.led:=by
 unfold layNew;split
 ·exact cg _ _
 ·rfl
def As{led plain:Bool}(h:Xm m f v led plain hs=some (t,o)):t.led=led/\t.plain=plain:=by unfold Xm at h;simp only[Option.bind_eq_bind,Option.bind_eq_some_iff]at h;obtain⟨ow,_,h⟩:=h;have h:=jd h;injection h with h1 _;rw[<-h1];exact⟨rfl,rfl⟩
def ww(t:SetTable)(es:Array (Int×zm))(n:Nat):(XM t es n).2.1.led=t.led/\(t.plain=false->(XM t es n).2.1.plain=false):=by
 unfold XM;split
 ·rename_i t' o e;have:=As e;dsimp only;split
  ·exact⟨this.1,λz=>this.2.trans z⟩
  ·exact⟨rfl,λ_=>rfl⟩
 ·exact⟨rfl,λ_=>rfl⟩
section
variable{prog:zU}{w:jg}{A:js}{E:VSP}{s:zA}
def NN(h:(strKind prog w).is k v=true):∃t,v= .str k t:=Value.isStrOf_shape h
def Gj(h:ElemsOf (strKind prog w) es):k∈es.map (λe=>sV e.2)↔∃e∈es,(strKind prog w).is k e.2=true:=by
 rw[zk];constructor
 ·rintro⟨e,he,rfl⟩;obtain⟨⟨k,hk,_⟩,_⟩:=h e he;obtain⟨t,et⟩:=NN hk;refine⟨e,he,?_⟩;rw[et]at hk ⊢;exact hk
 ·rintro⟨e,he,hk⟩;obtain⟨t,et⟩:=NN hk;exact⟨e,he,by rw[et];rfl⟩
def uP(ho:s.heap.get? a=some o)(Nr:o.ExactSet)(hd:o.data= .set es ep t)(Oi:ElemsOf (strKind prog w) Oc.toList)(hp:(Oc.toList.map λe=>sV e.2).Perm ss)(hb:Oc.size<YA)(hf:t'.fits Oc.size=true)(hl:t'.led= (!byT w))(No:t'.plain=false):
 (s.heap.update a (xx Oc t')).get? a=some {o with data:=.set Oc (ep+1) t'}/\TSet prog w (s.heap.update a (xx Oc t')) a ss:=by
 have hg:(s.heap.update a (xx Oc t')).get? a=some {o with data:=.set Oc (ep+1) t'}:=by have:=jT (xx Oc t') ho (by rw[putSet_of Oc t' hd];rfl);rw[putSet_of Oc t' hd]at this;exact this
 exact⟨hg,_,Oc,ep+1,t',hg,Nr,rfl,Oi,hp,hb,hf,hl,λ_=>No⟩
def rO{g:Bool->Sem Unit}(hg:∀(b:Bool) (W1:zA) Q',Q' () W1->zt (zI prog w) A (g b) Q' E W1)
 {a:Addr} {o:Obj} {ep:Nat} {t:SetTable} (ho:s.heap.get? a=some o) (Nr:o.ExactSet) (hd:o.data= .set es ep t)
 {t2:SetTable} {ss:List Str} (hel1:ElemsOf (strKind prog w) Ob.toList) (hp1:(Ob.toList.map λe=>sV e.2).Perm ss)
 (hb1:Ob.size<YA) (hf2:t2.fits Ob.size=true) (hl:t2.led= (!byT w)) (No:t2.plain=false) {wasDummy:Bool}
 (h:∀h',jZ a s.heap h'->TSet prog w h' a ss->R (some true) {s with heap:=h'}):
 zt (zI prog w) A (do
  storeSet a Ob t2
  if (!wasDummy&&t2.tooFull)=true then do
   g (XM t2 Ob (yy Ob.size)).2.2
   storeSet a (XM t2 Ob (yy Ob.size)).1 (XM t2 Ob (yy Ob.size)).2.1
   pure (some true)
   else pure (some true)) R E s:=by
 refine za (YT ho hd ?_ (YW hb1));obtain⟨ho1,hS1⟩:=uP ho Nr hd hel1 hp1 hb1 hf2 hl No;have hsb1:=yc s.heap a (xx Ob t2);split
 ·have hp:=relayAll_perm t2 Ob (yy Ob.size);have hfr:=relayAll_fits t2 Ob (yy Ob.size);have hlr:=ww t2 Ob (yy Ob.size);generalize hRl:XM t2 Ob (yy Ob.size)=Rl at hp hfr hlr ⊢;obtain⟨es2,t3,gave2⟩:=Rl;dsimp only at hp hfr hlr ⊢;have hsz:es2.size=Ob.size:=by rw[<-zG,hp.length_eq,zG]
  have hb2:es2.size<YA:=by rw[hsz];exact hb1
  refine za (hg _ _ _ ?_);refine za (YT ho1 rfl ?_ (YW hb2));obtain⟨_,hS2⟩:=uP (s:={s with heap:=s.heap.update a (xx Ob t2)}) ho1 Nr rfl (hel1.perm hp) ((hp.map _).trans hp1) hb2 hfr (hlr.1.trans hl) (hlr.2 No);exact zf (h _ (hsb1.trans (yc _ a _)) hS2)
 ·exact zf (h _ hsb1 hS1)
def sf(hS:TSet prog w s.heap a ss)(hroom:ss.length+1<YA)
 (h:∀b h',jZ a s.heap h'->TSet prog w h' a (if k∈ss then ss else ss++[k])->Q b {s with heap:=h'}):
 zt (zI prog w) A (JB a (.str k tk) ((strKind prog w).hash k)) Q E s:=by
 obtain⟨o,es,ep,t,ho,Nr,hd,Oi,hpm,hb,hf,hl,No⟩:=hS;have hkey:(strKind prog w).is k (.str k tk)=true:=strKind_is prog w k tk;have hsc:(Value.str k tk).scannable=true:=rfl;have hn:es.size=ss.length:=by have:=hpm.length_eq;rw[zd,zG]at this;exact this
 unfold JB setAddHashedIn;refine jk (za (jw ho hd hf ?_));dsimp only;rw[byScan_of hsc hb Oi];simp only[↓reduceIte];unfold setAddByScan;refine za ?_;refine za (xT ?_);refine za (wpAny_setScan_of hkey ho hd hf Oi ?_);have mem:k∈ss↔∃e∈es.toList,(strKind prog w).is k e.2=true:=by rw[<-hpm.mem_iff];exact Gj Oi
 cases hr:List.findIdx? (λe=>(strKind prog w).is k e.2) es.toList with
 |some j=>
   dsimp only;obtain⟨hj,hpj,_⟩:=List.findIdx?_eq_some_iff_getElem.mp hr;have hk:k∈ss:=mem.mpr ⟨es.toList[j],YL hj,hpj⟩;refine zf (zf ?_);have e:s= {s with heap:=s.heap}:=by cases s;rfl
   have:=h false s.heap (Heap.SameBut.refl a s.heap) (by rw[if_pos hk];exact⟨o,es,ep,t,ho,Nr,hd,Oi,hpm,hb,hf,hl,No⟩);rw[e];exact this
 |none=>
   dsimp only;have hk:k∉ss:=λhk=>by obtain⟨e,he,hp⟩:=mem.mp hk;have:=List.findIdx?_eq_none_iff.mp hr e he;rw[hp]at this;exact Bool.noConfusion this
   have hgw:∀(b:Bool) {W1:zA} {Q':Unit->zA->Prop},Q' () W1->zt (zI prog w) A (match b with|true=>rule "set.scan.the-table-gave-way"|false=>pure ()) Q' E W1:=
    λb W1 Q' hq=>by cases b<;>first|exact zf hq|exact xT hq
   have hperm:=layNew_perm t es ((strKind prog w).hash k) (.str k tk);have hfits:=layNew_fits t es ((strKind prog w).hash k) (.str k tk);have hled:=GY t es ((strKind prog w).hash k) (.str k tk);generalize hL:layNew t es ((strKind prog w).hash k) (.str k tk)=L at hperm hfits hled ⊢;obtain⟨Ob,t1,wasDummy,gave⟩:=L;dsimp only at hperm hfits hled ⊢;rw[Array.toList_push]at hperm;have hel1:ElemsOf (strKind prog w) Ob.toList:=(Oi.push hkey hsc).perm hperm;have hp1:(Ob.toList.map λe=>sV e.2).Perm (ss++[k]):=by refine(hperm.map _).trans ?_;rw[jh];exact hpm.append_right _
   have hb1':Ob.size<YA:=by rw[<-zG,hperm.length_eq,zv,zG,hn];exact hroom
   refine za (hgw _ ?_);have hend:∀h',jZ a s.heap h'->TSet prog w h' a (ss++[k])->Q true {s with heap:=h'}:=by intro h' hsb Mt;exact h true h' hsb (by rw[if_neg hk];exact Mt)
   split
   ·refine za ?_;rw[hashByValue_scannable 8 hsc];refine zf ?_;refine rO ?_ ho Nr hd hel1 hp1 hb1' ?_ ?_ ?_ ?_
    ·intro b W1 Q' hq;cases b<;>first|exact zf hq|exact xT hq
    ·exact SetTable.fits_plain_off hfits
    ·exact hled.trans hl
    ·rfl
    ·intro h' hsb Mt;dsimp only;exact zf (hend h' hsb Mt)
   ·rename_i hpn;refine za (zf ?_);simp only[↓reduceIte];refine rO ?_ ho Nr hd hel1 hp1 hb1' hfits (hled.trans hl) (by simpa using hpn) ?_
    ·intro b W1 Q' hq;cases b<;>first|exact zf hq|exact xT hq
    ·intro h' hsb Mt;dsimp only;exact zf (hend h' hsb Mt)
end
def ddT(ss:List Str)(k:Str):List Str:=if k∈ss then ss else ss++[k]
theorem nH:∀(l ss:List Str),(l.foldl ddT ss).length<=ss.length+l.length
|[],ss=>by simp
|k::l,ss=>by rw[xi];refine zq (nH l _) ?_;unfold ddT;split<;>simp<;>omega
def TSet.congr(hS:TSet prog w h a ss)(e:∀o,h.get? a=some o->h'.get? a=some o):TSet prog w h' a ss:=by obtain⟨o,es,ep,t,ho,r⟩:=hS;exact⟨o,es,ep,t,e o ho,r⟩
theorem StrsAre.at:∀ {vs} {ss},StrsAre vs ss->∀(i:Nat) v,vs[i]? =some v->∃x t,ss[i]? =some x/\v= .str x t
|_,_,.nil,i,v,h=>by simp at h
|_,_,.cons x t hr,0,v,h=>by simp at h;exact⟨x,t,rfl,h.symm⟩
|_,_,.cons n t hr,i+1,v,h=>by simp only[ji]at h ⊢;exact StrsAre.at hr i v h
section
variable{prog:zU}{w:jg}{A:js}{R:Result->zA->Prop}{I:Addr}{fp wr:List Addr}{G:Array GenState->Array GenState->Prop}{n:Nat}{P:Nat->zm->Prop}{St:Nat->zA->Prop}
def bh(W:WalksS prog w A.in1 I fp wr G n P St)(S:Addr)(hSf:S∉fp)(xs:List Str)(hn:xs.length=n)(hval:∀i v,P i v->∃x t,xs[i]? =some x/\v= .str x t)(hb:n+1<YA):
 ∀k i (s:zA),n-i=k->i<=n->St i s->TSet prog w s.heap S ((xs.take i).foldl ddT [])->
  (∀s',Moved (S::wr) G s s'->TSet prog w s'.heap S (xs.foldl ddT [])->R (.ok (.ret .none)) s')->
  xZ (zI prog w) A (.builtin "set.update.loop" ⟨[.ref S,.ref I], []⟩) R s:=by
 have hSw:S∉wr:=λh=>hSf (W.sub _ h);have hsub:∀b∈wr,b∈S::wr:=λb hb=>ze _ hb;intro k
 induction k with
 |zero=>
   intro i s hk hi hst hS hR;have hin:i=n:=by omega
   subst hin;refine ym Zk ?_;rw[jM yU _];show zt _ A.in1 (yW (.ref I) >>= _) _ _ s;refine za (W.done s _ _ hst λs' hm=>?_);show zt _ A.in1 (ret Value.none) _ _ s';rw[xv (by omega)]at hS;exact zf (hR s' (hm.mono hsub) (hS.congr λo e=>hm.heap S _ hSw e))
 |succ k ih=>
   intro i s hk hi hst hS hR;have Lu:i<n:=by omega
   refine ym Zk ?_;rw[jM yU _];show zt _ A.in1 (yW (.ref I) >>= _) _ _ s;refine za (W.item i s _ _ Lu hst λv s' hP hst' hm=>?_);obtain⟨x,t,ex,rfl⟩:=hval i v hP;have Mt:=hS.congr (h':=s'.heap) λo e=>hm.heap S _ hSw e;show zt _ A.in1 (Yq [Value.str x t] (setAdd S (.str x t)) >>= _) _ _ s';refine za (jk ?_);unfold setAdd;refine jk ?_;refine za ((strKind prog w).pyHash (k:=x) (strKind_is _ _ _ _) ?_);have hl:=nH (xs.take i) [];rw[jW]at hl;refine sf (s:={s' with toks:=s'.toks+1}) Mt (by simp at hl;omega) λb h' hsb hS2=>?_;have e2:(xs.take (i+1)).foldl ddT []=ddT ((xs.take i).foldl ddT []) x:=by rw[List.take_succ,ex,List.foldl_append];rfl
   refine zf ⟨xc yU _,ih (i+1) _ (by omega) Lu (W.frame _ s' _ _ hst' (yX _) λb hb o e=>?_) (by rw[e2];exact hS2) λs'' hm'' hS''=>?_⟩
   ·rw[hsb.2 b (λh:b=S=>hSf (by rw[<-h];exact hb))];exact e
   ·refine hR s'' (Moved.trans W.gtrans ((hm.mono hsub).then_heap (yX _) λb o hb e=>?_) hm'') hS'';rw[hsb.2 b (λh:b=S=>hb (by rw[h];exact zg))];exact e
end
def Ih(e:h.get? a=some {cls:=.type "set",dict:=none,data:=.set #[] 0 (.fresh 0 0 (!byT w))}):TSet prog w h a []:=
 ⟨_, #[],0,_,e,⟨rfl,rfl,rfl⟩,rfl,(λ_ h=>by simp at h),.nil,by decide,by rfl,rfl,λh=>by simp at h⟩
section
def ph(a:zm)
 (h:Q₁ (.ref s.heap.objs.size) {s with heap:=s.heap.push {cls:=.type "set",dict:=none,data:=.set #[] 0 (.fresh 0 0 (!byT w))}}):
 xZ (zI prog w) A (.call (.builtin "set.__new__") ⟨[.type "set",a], []⟩) (wants Q₁ E) s:=by
 refine codeAny_of_tree ?_;show zt _ A.in1 (do checkBuiltinCall "set.__new__" ⟨[.type "set",a], []⟩;again (.builtin "set.__new__" ⟨[.type "set",a], []⟩)) _ _ s;refine za (wpAny_of_eq (F.newCall_set_1 a) (zf ⟨xc F.plain_set_new _,ym F.entry_set_new ?_⟩));rw[jM F.plain_set_new _];unfold yC.«set.__new__» Builtin.Frozenset.newClass;have hsub:=sub_set_self;obtain⟨hp,g,d,tk,os⟩:=s;dsimp only
 wp_walk
 refine Xl (zf ?_);dsimp only;simp only[newObj];refine za (wpAny_alloc (zf ?_));exact zf h
set_option maxHeartbeats 3200000 in
def kQ{l:Addr}{Z:Heap->Prop}
 (hh:A.handled=none) (hl:s.heap.IsList l items)
 (go:∀(A':js) (I:Addr) G St (s1:zA) R,A'.units<=A.units+4->s.heap.objs.size<I->WalksS prog w A'.in1 I [I,l] [I] G items.size (λi v=>items[i]? =some v) St->St 0 s1->s.heap.objs.size∉ [I,l]->s1.heap.get? s.heap.objs.size=some {cls:=.type "set",dict:=none,data:=.set #[] 0 (.fresh 0 0 (!byT w))}->(∀b o,s.heap.get? b=some o->s1.heap.get? b=some o)->(∀s',Moved [s.heap.objs.size,I] G s1 s'->Z s'.heap->R (.ok (.ret .none)) s')->xZ (zI prog w) A' (.builtin "set.update.loop" ⟨[.ref s.heap.objs.size,.ref I], []⟩) R s1)
 (h:∀(h':Heap) (tk:Nat),Z h'->(∀b o,s.heap.get? b=some o->h'.get? b=some o)->Q (.ref s.heap.objs.size) {s with heap:=h',toks:=tk}):
 zt (zI prog w) A (call (.type "set") [.ref l]) Q E s:=by
 obtain⟨c,tl,hmro⟩:=xX.mro;have hmade:=xX.made;have hsub:=xX.sub;refine wpAny_call (codeAny_of_tree ?_);show zt _ _ (callAny (.type "set") _) _ _ _;refine zf ⟨Code.quiet_builtin _ (by decide +kernel),ym F.entry_type_call ?_⟩;rw[Around.under_plain (weight_type_call_type "set" [.ref l] []) rfl];have h1:=xX.notType;have h2:=xX.canCreate;have hct:=F.typeCall_set_1 (.ref l)
 repeat (any_goals (first|assumption|wp_step))
 refine Yr (ph (.ref l) (E:=E) (Q₁:=λobj W1=>obj= .ref s.heap.objs.size/\W1= {s with heap:=s.heap.push {cls:=.type "set",dict:=none,data:=.set #[] 0 (.fresh 0 0 (!byT w))}}) ⟨rfl,rfl⟩) λr W1 hr=>?_;rcases r with e|fl
 ·exact hr
 rcases fl with _|ob|_|_<;>try exact hr.elim
 obtain⟨rfl,rfl⟩:=hr;generalize hbt:(!byT w)=led at go h ⊢;have hS:(s.heap.push {cls:=.type "set",dict:=none,data:=.set #[] 0 (.fresh 0 0 led)}).get? s.heap.objs.size=some {cls:=.type "set",dict:=none,data:=.set #[] 0 (.fresh 0 0 led)}:=zu _ rfl;have hT:Shared.TypeIs {s with heap:=s.heap.push {cls:=.type "set",dict:=none,data:=.set #[] 0 (.fresh 0 0 led)}} (.ref s.heap.objs.size) "set":=⟨_,hS,rfl⟩;have hli:=xX.init.lookup;have hbi:=xX.init.bind (.ref s.heap.objs.size)
 repeat (any_goals (first|assumption|wp_step))
 refine Yr (codeAny_call_builtin (R:=wants (λr s₂=>r= .none/\∃h' tk,s₂= {s with heap:=h',toks:=tk}/\Z h'/\(∀b o,s.heap.get? b=some o->h'.get? b=some o)) E) xX.init.plain F.entry_set_init (check_set_init_1 hT ?_)) λr₂ s₂ hr₂=>?_
 ·obtain⟨ol,hol,hcl,nl,hdl⟩:=hl;obtain⟨ocls,odict,odata,oslots⟩:=ol;simp only at hcl hdl;subst hcl;subst hdl;have hol':(s.heap.push {cls:=.type "set",dict:=none,data:=.set #[] 0 (.fresh 0 0 led)}).get? l=some {cls:=.type "list",dict:=odict,data:=.seq items nl,slots:=oslots}:=zc _ hol;have hsls:=F.sub_list_set;have hslf:=F.sub_list_frozenset;have Mo:(Value.type "list" == Value.type "dict")=false:=by decide
  have Ni:(s.heap.push {cls:=.type "set",dict:=none,data:=.set #[] 0 (.fresh 0 0 led)}).IsList l items:=⟨_,hol',rfl,nl,rfl⟩;unfold yC.«set.__init__» noKeywords Builtin.Frozenset.updateFrom;generalize hPI:Jo=PI
  wp_walk
  subst hPI;refine YU Ni ?_;refine za (wpAny_runValue ?_);have hlS:l<s.heap.objs.size:=zC hol;have hh3:A.in1.in1.in1.handled=none:=by simp[hh]
  have hneI:l≠(s.heap.push {cls:=.type "set",dict:=none,data:=.set #[] 0 (.fresh 0 0 led)}).objs.size:=by rw[jN];exact zQ (yp hlS)
  have hSf:s.heap.objs.size∉ [(s.heap.push {cls:=.type "set",dict:=none,data:=.set #[] 0 (.fresh 0 0 led)}).objs.size,l]:=by rw[jN];simp only[zn,zi,zF,or_false,not_or];exact⟨zQ (yZ _),Zr hlS⟩
  refine go _ _ _ _ _ _ (by simp only[Around.in1_units];omega) (by rw[jN];exact yZ _) ((Walks.list hh3 _ l hneI items).toS) ⟨⟨_,zu _ rfl,rfl,rfl⟩,(Ni.push _)⟩ hSf (zc _ hS) (λb o e=>zc _ (zc _ e)) ?hR
  case hR=>
   intro s' hm Mt;obtain⟨h',g',d',tk',os'⟩:=s';have eg:g'=s.gens:=hm.gens;have ed:d'=s.drawn:=hm.drawn;have eo:os'=s.os:=hm.os;subst eg;subst ed;subst eo;show zt _ _ _ _ _ _;refine zf ?_;show zt _ _ (ret Value.none) _ _ _;refine zf ⟨rfl,h',tk',rfl,Mt,λb o e=>?_⟩;have hb:=zC e;have hb1:b≠s.heap.objs.size:=zQ hb;have hb2:b≠(s.heap.push {cls:=.type "set",dict:=none,data:=.set #[] 0 (.fresh 0 0 led)}).objs.size:=by rw[jN];exact zQ (yp hb)
   exact hm.heap b o (by simp only[zn,zi,zF,or_false,not_or];exact⟨hb1,hb2⟩) (zc _ (zc _ e))
 ·rcases r₂ with e|fl
  ·exact hr₂
  rcases fl with _|ob|_|_<;>try exact hr₂.elim
  obtain⟨rfl,h',tk,rfl,Mt,Oj⟩:=hr₂
  repeat (any_goals (first|assumption|wp_step))
  exact h _ _ Mt Oj
def Ik{l:Addr}
 (hh:A.handled=none) (hl:s.heap.IsList l items) (hi:StrsAre items.toList xs) (hb:items.size+1<YA)
 (h:∀(h':Heap) (tk:Nat),TSet prog w h' s.heap.objs.size (xs.foldl ddT [])->(∀b o,s.heap.get? b=some o->h'.get? b=some o)->Q (.ref s.heap.objs.size) {s with heap:=h',toks:=tk}):
 zt (zI prog w) A (call (.type "set") [.ref l]) Q E s:=
 kQ (Z:=λh'=>TSet prog w h' s.heap.objs.size (xs.foldl ddT [])) hh hl (λA' I G St s1 R _ _ W st hn hS _ hR=>bh W _ hn xs (by rw[<-zG];exact(Jq hi).symm) (λi v hv=>StrsAre.at hi i v (by rw[zN];exact hv)) hb (items.size-0) 0 _ (by omega) (zO _) st (Ih hS) hR) h
end
theorem kM:∀(l:List α) i h,((l[i]'h)::l.eraseIdx i).Perm l
|x::r,0,_=>.refl _
|x::r,i+1,h=>by have ih:=kM r i (by simpa using h);show ((r[i]'(by simpa using h))::x::r.eraseIdx i).Perm (x::r);exact(List.Perm.swap ..).trans (.cons _ ih)
abbrev sO(es:Array (Int×zm))(ep:Nat)(t:SetTable):Obj:={cls:=.type "set",dict:=none,data:=.set es ep t,slots:= #[]}
abbrev sI(f:zm)(i:Nat)(a:Addr)(n ep:Nat):Obj:={cls:=.type "set_iterator",data:=.fields #[f,.int i 0,.ref a,.int n 0,.int ep 0]}
section
def Iq(hn:n≠0)(h:∀i d',i<n->Q i {s with drawn:=d'}):zt (zI prog w) A (choose src n) Q E s:=by intro Γ p _;unfold choose;rw[Sem.wp_choose];refine⟨hn,?_⟩;rw[Sem.wp_pure];exact h _ _ (xy _ (Nat.pos_of_ne_zero hn))
theorem gU:∀(xs:List α) s Q,(∀ys d',ys.Perm xs->Q ys {s with drawn:=d'})->zt (zI prog w) A (drawOrder xs.length xs) Q E s
 |[],s,Q,h=>zf (h [] s.drawn .nil)
 |x::r,s,Q,h=>by
   show zt _ _ (choose .order (x::r).length >>= λi=>match (x::r)[i]? with
    |some y=>(do return y::(<-drawOrder r.length ((x::r).eraseIdx i)))
    |none=>unsupported "internal:drawOrder") _ _ _
   refine za (Iq (by simp) λi d' hi=>?_);rw[zD hi];dsimp only;have hl:((x::r).eraseIdx i).length=r.length:=by rw[List.length_eraseIdx,if_pos hi];simp
   rw[<-hl];refine za (gU _ _ _ λys d2 hp=>zf ?_);refine h _ d2 ?_;exact(List.Perm.cons _ hp).trans (kM _ i hi)
termination_by xs=>xs.length
decreasing_by simp only[hl];simp
theorem FW(nx:Nat->Nat):∀f k (l:List α) out,f=l.length->(JC nx f k l out).toList.Perm (out.toList++l)
|0,k, [],out,_=>by unfold JC;simp
|f+1,k,x::r,out,hf=>by
  unfold JC;have hi:nx k % (x::r).length<(x::r).length:=xy _ (by simp);rw[zD hi];dsimp only;have hl:f= ((x::r).eraseIdx (nx k % (x::r).length)).length:=by rw[List.length_eraseIdx,if_pos hi];simpa using hf
  refine(FW nx f (k+1) _ _ hl).trans ?_;rw[Array.toList_push,Yz];exact(kM _ _ hi).append_left _
def nX(nx:Nat->Nat)(xs:Array α):(YB nx xs).toList.Perm xs.toList:=by have:=FW nx xs.size 0 xs.toList #[] (by simp);simpa [YB]using this
def NJ(hi:s.heap.get? I=some (sI f i a n ep))(h:Q (.ref I) s):zt (zI prog w) A (Jo (.ref I)) Q E s:=by have hT:s.TypeIs (.ref I) "set_iterator":=⟨_,hi,rfl⟩;refine wpAny_pyIter_slot hT uR (jn uR hT vw (show zt _ _ (ret (.ref I)) _ _ s from ?_) (gw _));exact zf ⟨_,rfl, "set_iterator",_,hT,UA.lookup,h⟩
def GL(h:Q (byT w) s):zt (zI prog w) A setsByText Q E s:=za (Xl (zf h))
def uU(hb:byT w=true)(ha:s.heap.get? a=some (sO es ep t))(hf:t.fits es.size=true)(h:Q (((YB (w.params.setOrder a ep) es)[i]?).map λe=>(e.2,slot)) s):zt (zI prog w) A (XU a slot i ep) Q E s:=by unfold XU;refine za (jw ha rfl hf ?_);refine za (GL ?_);refine yk (λ_=>?_) (λz=>absurd hb z);refine yk (λz=>absurd z (by simp)) (λ_=>?_);unfold setWalk;refine za (za (jw ha rfl hf ?_));refine za (GL ?_);refine yk (λ_=>?_) (λz=>absurd hb z);refine za (Xl (zf ?_));exact zf h
def nN(hb:byT w=false)(hl:t.led=true)(h1:¬((!t.plain&&decide (es.size>1))=true))(ha:s.heap.get? a=some (sO es ep t))(hf:t.fits es.size=true) (h:Q (match es[jc t.place slot]?,t.place[jc t.place slot]? with
 |some (_,x),some j=>some (x,j+1)
 |_,_=>none) s):zt (zI prog w) A (XU a slot i ep) Q E s:=by
 unfold XU;refine za (jw ha rfl hf ?_);refine za (GL ?_);refine yk (λz=>absurd (hb.symm.trans z) (by decide)) (λ_=>?_);refine yk (λz=>absurd z h1) (λ_=>?_);refine za (show zt _ _ (if (!t.led&&!es.isEmpty)=true then unsupported "set:maker-not-led" else pure ()) _ _ _ from ?_);rw[hl];exact zf (zf h)
set_option maxHeartbeats 3200000 in
def oV{I:Addr}{slot i n nx:Nat}{x:zm}(hi:s.heap.get? I=some (sI (.int slot 0) i a es.size ep))(ha:s.heap.get? a=some (sO es ep t))(hf:t.fits es.size=true)
 (hN:∀(A:js) E Q,Q (some (x,nx)) s->zt (zI prog w) A (XU a slot i ep) Q E s)
 (h:∀h',h'.get? I=some (sI (.int nx 0) (i+1) a es.size ep)->jZ I s.heap h'->Q (some x) {s with heap:=h'}):zt (zI prog w) A (yW (.ref I)) Q E s:=by
 have hT:s.TypeIs (.ref I) "set_iterator":=⟨_,hi,rfl⟩;unfold yW;refine za (xM (ju (name:=yh "__next__") hT UA (jn UA hT wH ?_ (dI _))));unfold yC.«set_iterator.__next__» Jn;generalize hNx:XU=N at hN ⊢
 wp_walk using jw ha rfl hf
 simp only[jR];refine hN _ _ _ ?_;dsimp only;refine za (ye hi (show 0<5 by decide) λh1 e1 k1=>?_);refine za (ye e1 (show 1<5 by decide) λh2 e2 k2=>?_);refine zf ⟨_,rfl,?_⟩;exact zf (h h2 e2 (k1.trans k2))
set_option maxHeartbeats 3200000 in
def LK{I:Addr}{slot i n nx:Nat}(hh:A.handled=none)(hi:s.heap.get? I=some (sI (.int slot 0) i a es.size ep))(ha:s.heap.get? a=some (sO es ep t))(hf:t.fits es.size=true)
 (hN:∀(A:js) E Q,Q none s->zt (zI prog w) A (XU a slot i ep) Q E s)
 (h:∀h',Jp I s.heap h'->Q none {s with heap:=h'}):zt (zI prog w) A (yW (.ref I)) Q E s:=by
 have hT:s.TypeIs (.ref I) "set_iterator":=⟨_,hi,rfl⟩;unfold yW;refine za (xM (ju (name:=yh "__next__") hT UA (jn UA hT wH ?_ (dI _))));unfold yC.«set_iterator.__next__» Jn;generalize hNx:XU=N at hN ⊢
 wp_walk using jw ha rfl hf
 simp only[jR];refine hN _ _ _ ?_;dsimp only
 wp_walk
 simp only[raiseNew];refine za (wpAny_handled ?_);rw[show A.in1.handled=none from hh];refine za (zf (wpAny_throw ?_));refine za (ZR (T:= "StopIteration") (b:=true) ⟨_,zu _ rfl,rfl⟩ XQ (zf ?_));exact h _ (((yc ..).extBut.push _).push _)
set_option maxHeartbeats 3200000 in
def Vz{I J:Addr}{ps:List Nat}(hi:s.heap.get? I=some (sI (.ref J) i a es.size ep))(ha:s.heap.get? a=some (sO es ep t))(hf:t.fits es.size=true)(hJ:s.heap.get? J=some {cls:=.type "tuple",data:=.seq (ps.map fun(i:Nat)=>yA i).toArray m})
 (hp:ps[i]? =some p) (he:es[p]? =some e)
 (h:∀h',h'.get? I=some (sI (.ref J) (i+1) a es.size ep)->jZ I s.heap h'->Q (some e.2) {s with heap:=h'}):zt (zI prog w) A (yW (.ref I)) Q E s:=by
 have hT:s.TypeIs (.ref I) "set_iterator":=⟨_,hi,rfl⟩;unfold yW;refine za (xM (ju (name:=yh "__next__") hT UA (jn UA hT wH ?_ (dI _))));unfold yC.«set_iterator.__next__» Jn
 wp_walk using jw ha rfl hf
 have eg:(ps.map fun(i:Nat)=>yA i).toArray[(i:Int).toNat]? =some (yA p):=by rw[jR,Xk,jl,hp];rfl
 rw[eg];show zt _ _ (setNextDrawn a (p:Int).toNat (ep:Int).toNat >>= λx=>setField (.ref I) 1 (yA (i+1)) >>= λ_=>ret x) _ _ _;simp only[jR];unfold setNextDrawn;refine za (za (jw ha rfl hf ?_));refine yk (λz=>absurd z (by simp)) (λ_=>?_);rw[he];refine zf ?_;refine za (ye hi (show 1<5 by decide) λh2 e2 k2=>?_);refine zf ⟨_,rfl,?_⟩;exact zf (h h2 e2 k2)
set_option maxHeartbeats 3200000 in
def Ht{ps:List Nat}(hh:A.handled=none)(hi:s.heap.get? I=some (sI (.ref J) ps.length a es.size ep))(ha:s.heap.get? a=some (sO es ep t))(hf:t.fits es.size=true)(hJ:s.heap.get? J=some {cls:=.type "tuple",data:=.seq (ps.map fun(i:Nat)=>yA i).toArray m})
 (h:∀h',Jp I s.heap h'->Q none {s with heap:=h'}):zt (zI prog w) A (yW (.ref I)) Q E s:=by
 have hT:s.TypeIs (.ref I) "set_iterator":=⟨_,hi,rfl⟩;unfold yW;refine za (xM (ju (name:=yh "__next__") hT UA (jn UA hT wH ?_ (dI _))));unfold yC.«set_iterator.__next__» Jn
 wp_walk using jw ha rfl hf
 have eg:(ps.map fun(i:Nat)=>yA i).toArray[(ps.length:Int).toNat]? =none:=by rw[jR,Xk,jl,jC (zh _)];rfl
 rw[eg]
 wp_walk
 simp only[raiseNew];refine za (wpAny_handled ?_);rw[show A.in1.handled=none from hh];refine za (zf (wpAny_throw ?_));refine za (ZR (T:= "StopIteration") (b:=true) ⟨_,zu _ rfl,rfl⟩ XQ (zf ?_));exact h _ ((((yc ..).trans (yc ..)).extBut.push _).push _)
end
def IA(w:jg)(h:Heap)(a:Addr)(vs:List zm):Prop:=∃o es ep t,h.get? a=some o/\o.ExactSet/\o.data= .set es ep t/\(es.toList.map (·.2)).Perm vs/\es.size<=zj/\t.fits es.size=true/\t.led= (!byT w)/\(1<es.size->t.plain=false)
def IA.congr(hS:IA w h a vs)(e:∀o,h.get? a=some o->h'.get? a=some o):IA w h' a vs:=by obtain⟨o,es,ep,t,ho,r⟩:=hS;exact⟨o,es,ep,t,e o ho,r⟩
def IA.type{s:zA}(hS:IA w s.heap a vs):s.TypeIs (.ref a) "set":=by obtain⟨o,es,ep,t,ho,⟨x1,_⟩,_⟩:=hS;exact⟨o,ho,x1⟩
structure dj(prog:zU)(w:jg)(A:js)(s:zA)(a:Addr)(vs:List zm)(I:Addr)(h':Heap):Prop where
 keep:∀b o,s.heap.get? b=some o->h'.get? b=some o
 new:s.heap.objs.size<=I
 walk:∃(J:Addr) (us:List zm) (St:Nat->Heap->Prop),s.heap.objs.size<=J/\us.Perm vs/\us.length<=zj/\Walks prog w A I [I,J,a] [I] us.length (λi v=>us[i]? =some v) St/\St 0 h'
section
def wkT(hh:A.handled=none)(hb:byT w=true)(hf:t.fits es.size=true)(Mo:a≠I)(J:Addr)(hJ:J≠I):
 Walks prog w A I [I,J,a] [I] ((YB (w.params.setOrder a ep) es).toList.map (·.2)).length (λi v=>((YB (w.params.setOrder a ep) es).toList.map (·.2))[i]? =some v) (λi h=>h.get? I=some (sI (.int 0 0) i a es.size ep)/\h.get? a=some (sO es ep t)) where
 sub:=λb hb=>by simp at hb;simp[hb]
 frame:=λi h h' st hk=>⟨hk I (by simp) _ st.1,hk a (by simp) _ st.2⟩
 item:=λi s Q E hi st hQ=>by
  rw[zd]at hi;have e:(YB (w.params.setOrder a ep) es)[i]? =some (YB (w.params.setOrder a ep) es).toList[i]:=by rw[<-zN,zD hi]
  refine oV (n:=0) (nx:=0) (x:=(YB (w.params.setOrder a ep) es).toList[i].2) st.1 st.2 hf (λA E Q hq=>uU hb st.2 hf (by rw[e];exact hq)) λh' hI hs=>?_;refine hQ _ h' s.toks (by rw[jl,zD hi];rfl) ⟨hI,?_⟩ λb o hb e=>?_
  ·rw[hs.2 a Mo];exact st.2
  ·rw[hs.2 b (by simpa using hb)];exact e
 done:=λs Q E st hQ=>by rw[zd]at st;refine LK (n:=0) (nx:=0) hh st.1 st.2 hf (λA E Q hq=>uU hb st.2 hf (by rw[<-zN,jC (zh _)];exact hq)) λh' he=>hQ h' s.toks λb o hb e=>he b o (λz=>hb (by simp[z])) e
 self:=λi s Q E st hQ=>NJ st.1 hQ
def wkD(hh:A.handled=none)(hf:t.fits es.size=true)(Mo:a≠I)(J:Addr)(hJ:J≠I){ps:List Nat}{vs:List zm}(hv:ps.map (λp=>es[p]?.map (·.2))=vs.map some):
 Walks prog w A I [I,J,a] [I] vs.length (λi v=>vs[i]? =some v) (λi h=>h.get? I=some (sI (.ref J) i a es.size ep)/\h.get? a=some (sO es ep t)/\∃m,h.get? J=some {cls:=.type "tuple",data:=.seq (ps.map fun(i:Nat)=>yA i).toArray m}) where
 sub:=λb hb=>by simp at hb;simp[hb]
 frame:=λi h h' st hk=>⟨hk I (by simp) _ st.1,hk a (by simp) _ st.2.1,let ⟨m,e⟩:=st.2.2;⟨m,hk J (by simp) _ e⟩⟩
 item:=λi s Q E hi st hQ=>by
  obtain⟨m,e⟩:=st.2.2;have hl:ps.length=vs.length:=by have:=congrArg Zf hv;simpa using this
  have g:=congrArg (·[i]?) hv;simp only[jl,zD hi,zD (show i<ps.length by omega),YO,zR]at g;obtain⟨q,eq,ev⟩:=Zg.mp g;refine Vz st.1 st.2.1 hf e (zD (show i<ps.length by omega)) eq λh' hI hs=>?_;refine hQ _ h' s.toks (by rw[zD hi,ev]) ⟨hI,?_,m,?_⟩ λb o hb e=>?_
  ·rw[hs.2 a Mo];exact st.2.1
  ·rw[hs.2 J hJ];exact e
  ·rw[hs.2 b (by simpa using hb)];exact e
 done:=λs Q E st hQ=>by
  obtain⟨m,e⟩:=st.2.2;have hl:ps.length=vs.length:=by have:=congrArg Zf hv;simpa using this
  rw[<-hl]at st;exact Ht hh st.1 st.2.1 hf e λh' he=>hQ h' s.toks λb o hb e=>he b o (λz=>hb (by simp[z])) e
 self:=λi s Q E st hQ=>NJ st.1 hQ
end
section
variable{prog:zU}{w:jg}{A:js}{E:VSP}{s:zA}{a I:Addr}{es:Array (Int×zm)}{ep:Nat}{t:SetTable}
def TZ(hh:A.handled=none)(hb:byT w=false)(hl:t.led=true)(he:es= #[])(hf:t.fits es.size=true)(Mo:a≠I)(J:Addr):
 Walks prog w A I [I,J,a] [I] 0 (λi v=>([]:List zm)[i]? =some v) (λi h=>h.get? I=some (sI (.int 0 0) i a es.size ep)/\h.get? a=some (sO es ep t)) where
 sub:=λb hb=>by simp at hb;simp[hb]
 frame:=λi h h' st hk=>⟨hk I (by simp) _ st.1,hk a (by simp) _ st.2⟩
 item:=λi s Q E hi st hQ=>absurd hi (yT _)
 done:=λs Q E st hQ=>LK (n:=0) (nx:=0) hh st.1 st.2 hf (λA E Q hq=>nN hb hl (by subst he;simp) st.2 hf (by subst he;simpa using hq)) λh' he=>hQ h' s.toks λb o hb e=>he b o (λz=>hb (by simp[z])) e
 self:=λi s Q E st hQ=>NJ st.1 hQ
def UO(p j:Nat):jc #[p] j=if p<j then 1 else 0:=by unfold jc;simp[xp]
def Bs(hh:A.handled=none)(hb:byT w=false)(hl:t.led=true)(he:es= #[e])(hp:t.place= #[p])(hf:t.fits es.size=true)(Mo:a≠I)(J:Addr):
 Walks prog w A I [I,J,a] [I] 1 (λi v=> [e.2][i]? =some v) (λi h=>h.get? I=some (sI (.int (if i=0 then (0:Nat)else p+1:Nat) 0) i a es.size ep)/\h.get? a=some (sO es ep t)) where
 sub:=λb hb=>by simp at hb;simp[hb]
 frame:=λi h h' st hk=>⟨hk I (by simp) _ st.1,hk a (by simp) _ st.2⟩
 item:=λi s Q E hi st hQ=>by
  obtain rfl:i=0:=by omega
  refine oV (n:=0) (nx:=p+1) (x:=e.2) st.1 st.2 hf (λA E Q hq=>nN hb hl (by subst he;simp) st.2 hf ?_) λh' hI hs=>?_
  ·rw[hp,UO,he];simpa using hq
  refine hQ _ h' s.toks rfl ⟨hI,?_⟩ λb o hb e=>?_
  ·rw[hs.2 a Mo];exact st.2
  ·rw[hs.2 b (by simpa using hb)];exact e
 done:=λs Q E st hQ=>LK (n:=0) (nx:=0) hh st.1 st.2 hf (λA E Q hq=>nN hb hl (by subst he;simp) st.2 hf (by rw[hp,UO,he];simpa using hq)) λh' he=>hQ h' s.toks λb o hb e=>he b o (λz=>hb (by simp[z])) e
 self:=λi s Q E st hQ=>NJ st.1 hQ
set_option maxHeartbeats 3200000 in
def QY(ha:s.heap.get? a=some (sO es ep t))(hf:t.fits es.size=true)
 (h1:(!byT w&&(!t.plain&&decide (es.size>1)))=true->∀(ps:List Nat) d',ps.Perm (zP es.size)->Q (.ref (s.heap.objs.size+1)) {s with heap:=(s.heap.push {cls:=.type "tuple",data:=.seq (ps.map fun(i:Nat)=>yA i).toArray}).push (sI (.ref s.heap.objs.size) 0 a es.size ep),drawn:=d'})
 (h2:¬((!byT w&&(!t.plain&&decide (es.size>1)))=true)->Q (.ref s.heap.objs.size) {s with heap:=s.heap.push (sI (.int 0 0) 0 a es.size ep)}) (hz:es.size<=zj):zt (zI prog w) A (Jo (.ref a)) Q E s:=by
 have hA:s.TypeIs (.ref a) "set":=⟨_,ha,rfl⟩;refine wpAny_pyIter_slot hA F.slot_set_iter (jn F.slot_set_iter hA Tq ?_ (F.args_set_iter_1 _));unfold yC.«frozenset.__iter__» Builtin.Frozenset.slot0 Builtin.Frozenset.sizeOf Jn setDrawn setEpoch
 wp_walk using jw ha rfl hf
 refine Xl (zf (zf ?_));have fin:∀(f:zm) (s1:zA),s1.heap.get? a=some (sO es ep t)->Q (.ref s1.heap.objs.size) {s1 with heap:=s1.heap.push (sI f 0 a es.size ep)}->zt (zI prog w) A.in1 (do
  let e <-(do
   let r <-setState a
   pure r.2.1)
  let v <-newFields "set_iterator" [f,yA 0,.ref a,yA (es.size:Nat),yA e]
  ret v) (λfin s'=>∃v,fin=Fin.done (Flow.ret v)/\∃T' r,s'.TypeIs v T'/\typeLookup (.type T') (yh "__next__")=pure (some r)/\Q v s') E s1:=by
  intro f s1 h1 hq;refine za (za (jw h1 rfl hf (zf ?_)))
  wp_walk
  exact⟨_,rfl, "set_iterator",_,⟨_,zu _ rfl,rfl⟩,UA.lookup,hq⟩
 refine yk (λz=>?_) (λz=>?_)
 ·have hr:(zP es.size).length=es.size:=zV;have wo:=gU (prog:=prog) (w:=w) (A:=A.in1) (E:=E) (zP es.size) s;rw[hr]at wo;refine za (wo _ λps d' hp=>?_);refine za (YD ?_ (by rw[zd,hp.length_eq,hr];exact hz));have q:=h1 z ps d' hp;refine fin _ _ (zc _ ha) ?_;have e:(s.heap.push {cls:=.type "tuple",data:=.seq (ps.map fun(i:Nat)=>yA i).toArray}).objs.size=s.heap.objs.size+1:=jN ..;dsimp only;rw[e];exact q
 ·exact za (zf (fin _ _ ha (h2 z)))
def si{ps:List Nat}(h:ps.Perm (zP es.size)):∃l:List (Int×zm),l.Perm es.toList/\ps.map (λp=>es[p]?.map (·.2))= (l.map (·.2)).map some:=by
 refine⟨ps.map λp=>es.toList.getD p (0,.none),?_,?_⟩
 ·refine(h.map _).trans ?_;have:(zP es.size).map (λp=>es.toList.getD p (0,.none))=es.toList:=by
   apply xQ
   ·simp
   ·intro i h1 h2;have h3:i<es.size:=by simpa using h2
    simp[zK,h3]
  rw[this]
 ·rw[jF,jF];refine yo λp hp=>?_;have h3:p<es.size:=jy.mp (h.mem_iff.mp hp);simp[zK,h3]
def FX{vs:List zm}{Q:VSP}(hh:A.handled=none)(hS:IA w s.heap a vs)(h:∀I h' d',dj prog w A s a vs I h'->Q (.ref I) {s with heap:=h',drawn:=d'}):zt (zI prog w) A (Jo (.ref a)) Q E s:=by
 obtain⟨o,es,ep,t,ho,⟨x1,x2,x3⟩,hd,hpm,hz,hf,hl,No⟩:=hS;obtain⟨oc,od,odt,os⟩:=o;obtain rfl:oc= .type "set":=x1;obtain rfl:od=none:=x2;obtain rfl:os= #[]:=x3;obtain rfl:odt= .set es ep t:=hd;have Lu:=zC ho;have Mo:a≠s.heap.objs.size:=zQ Lu;have hne2:a≠s.heap.objs.size+1:=zQ (yp Lu);have hne3:(s.heap.objs.size:Addr)≠s.heap.objs.size+1:=zQ (yZ _);have hu:∀us:List zm,us.Perm vs->us.length<=zj:=λus p=>by rw[p.length_eq,<-hpm.length_eq,zd,zG];exact hz
 refine QY ho hf (λz ps d' hp=>?_) (λz=>?_) hz
 ·refine h _ _ d' ⟨λb o e=>zc _ (zc _ e),yX _,?_⟩;obtain⟨l,Ni,Oa⟩:=si hp;refine⟨s.heap.objs.size,l.map (·.2),_,zh _,(Ni.map _).trans hpm,hu _ ((Ni.map _).trans hpm),wkD (ep:=ep) hh hf hne2 _ hne3 Oa,?_⟩;have e1:(s.heap.push {cls:=.type "tuple",data:=.seq (ps.map fun(i:Nat)=>yA i).toArray}).objs.size=s.heap.objs.size+1:=jN ..;refine⟨?_,zc _ (zc _ ho),0,zc _ (zu _ rfl)⟩;rw[<-e1];exact zu _ rfl
 ·refine h _ _ s.drawn ⟨λb o e=>zc _ e,zh _,?_⟩;rcases hbt:byT w with _|_
  ·have led:t.led=true:=by rw[hl,hbt];rfl
   have h1:¬(!t.plain&&decide (es.size>1))=true:=λq=>z (by rw[hbt,q];rfl);have hs:es.size<=1:=by
    rcases Ye 1 es.size with q|q
    ·exact absurd (by rw[No q,decide_eq_true q];rfl) h1
    ·exact q
   obtain⟨l⟩:=es;rcases l with _|⟨e,_|⟨_,_⟩⟩
   ·exact⟨s.heap.objs.size+1, [],_,by omega,hpm,hu _ hpm,TZ (t:=t) (ep:=ep) hh hbt led rfl hf Mo _,zu _ rfl,zc _ ho⟩
   ·have hp1:t.place.size=1:=by
     have:=hf;unfold Ju at this;rw[zy]at this;simpa using this.1
    obtain⟨p,ep1⟩:∃p,t.place= #[p]:=by
     rcases hq:t.place with⟨pl⟩;rcases pl with _|⟨p,_|⟨_,_⟩⟩
     ·rw[hq]at hp1;simp at hp1
     ·exact⟨p,rfl⟩
     ·rw[hq]at hp1;simp at hp1
    exact⟨s.heap.objs.size+1, [e.2],_,by omega,hpm,hu _ hpm,Bs (t:=t) (ep:=ep) hh hbt led rfl ep1 hf Mo _,zu _ rfl,zc _ ho⟩
   ·simp at hs
  ·have hp:=((nX (w.params.setOrder a ep) es).map (·.2)).trans hpm;refine⟨s.heap.objs.size+1,_,_,by omega,hp,hu _ hp,wkT (t:=t) hh hbt hf Mo _ hne3.symm,zu _ rfl,zc _ ho⟩
end
section
variable{prog:zU}{w:jg}{s:zA}{a I:Addr}{es:Array (Int×zm)}{ep:Nat}{t:SetTable}
def TSet.x(hS:TSet prog w h a ss):∃vs,IA w h a vs/\(∀v∈vs,∃x t,v= .str x t)/\(vs.map sV).Perm ss:=by obtain⟨o,es,ep,t,ho,hx,hd,Oi,hpm,hb,hf,hl,No⟩:=hS;refine⟨_,⟨o,es,ep,t,ho,hx,hd,.refl _,zq (yj hb) (by decide),hf,hl,λz=>No (by omega)⟩,λv hv=>?_,by rw[jF];exact hpm⟩;obtain⟨e,he,rfl⟩:=zk.mp hv;obtain⟨⟨k,hk,_⟩,_⟩:=Oi e he;obtain⟨t,et⟩:=NN hk;exact⟨k,t,et⟩
theorem VS:∀ {vs:List zm},(∀v∈vs,∃x t,v= .str x t)->StrsAre vs (vs.map sV)
|[],_=>.nil
|v::vs,h=>by obtain⟨x,t,rfl⟩:=h v (zg ..);exact .cons x t (VS λu hu=>h u (ze _ hu))
def TSet.type(hS:TSet prog w s.heap a ss):s.TypeIs (.ref a) "set":=by obtain⟨o,es,ep,t,ho,⟨x1,_⟩,_⟩:=hS;exact⟨o,ho,x1⟩
end
section
def KZ(hh:A.handled=none)(hS0:IA w s.heap a vs)(S:Addr)(hSr:S≠a)(res:zm)(c₀:Nat)(hS:s.heap.get? S=some {cls:=.type "list",data:=.seq #[] c₀})
 (hR:∀h' d' tk Ma c',(∀b o,b≠S->s.heap.get? b=some o->h'.get? b=some o)->h'.get? S=some {cls:=.type "list",dict:=none,data:=.seq Ma c',slots:= #[]}->Ma.toList.Perm vs->R (.ok (.ret res)) {s with heap:=h',drawn:=d',toks:=tk}):
 zt (zI prog w) A.in1 (jY (.ref S) (.ref a) res)
  (λfin s'=>match fin with| .done f=>R (.ok f) s'| .again c'=>c'.quiet=true/\xZ (zI prog w) A c' R s') (λe s'=>R (.error e) s') s:=by
 unfold jY;refine za (Zy (T:= "set") hS0.type ?_);have h1:xK (.ref S) (.ref a)=false:=by simp[xK,hSr]
 have h2:(Value.type "set" == Value.type "list")=false:=by decide
 have h3:(Value.type "set" == Value.type "tuple")=false:=by decide
 simp only[h1,h2,h3,Bool.or_false,zw,if_false];refine za (FX (A:=A.in1) hh hS0 λI h0 d0 ⟨keep,new,J,us,St,hJ,hp,hvl,W,st⟩=>?_);have hSlt:=zC hS;have halt:a<s.heap.objs.size:=by obtain⟨o,_,_,_,ho,_⟩:=hS0;exact zC ho
 have hSf:S∉ [I,J,a]:=by simp only[zn,zF,or_false,not_or];exact⟨zQ (zL hSlt new),zQ (zL hSlt hJ),hSr⟩
 have key:∀(h:Heap) (c₁ tk:Nat),St 0 h->(∀b o,b≠S->s.heap.get? b=some o->h.get? b=some o)->
  h.get? S=some {cls:=.type "list",data:=.seq #[] c₁}->xZ (zI prog w) A (.builtin "list.extend.loop" ⟨[.ref S,.ref I,res], []⟩) R {s with heap:=h,drawn:=d0,toks:=tk}:=by
  intro h c₁ tk hst hk hS₁;refine codeAny_extend_loopS W.toS hvl S hSf res us.length 0 _ #[] c₁ rfl (zO _) hst hS₁ (ItemsOf.nil _) λs' Ma c' hm Mt Og=>?_;rw[Moved.eq_with hm];refine hR s'.heap d0 s'.toks Ma c' (λb o hb e=>hm.heap b o (λhmem=>?_) (hk b o hb e)) Mt ?_
  ·rcases zn.mp hmem with e'|hmem
   ·exact hb e'
   ·have:=zC e;rw[zi.mp hmem]at this;exact absurd new (Nat.not_le.mpr this)
  ·have:Ma.toList=us:=by
    apply List.ext_getElem?;intro i;rcases Ye i Ma.size with q|q
    ·have:=Og.2 i Ma[i] (by simp[q]);rw[this,zN];simp[q]
    ·rw[jC (by simpa using q),jC (by rw[<-Og.1];exact q)]
   rw[this];exact hp
 have hS₁:=keep _ _ hS;refine za (jk (oj (s:={s with heap:=h0,drawn:=d0}) (IA.type (s:={s with heap:=h0,drawn:=d0}) (hS0.congr λo e=>keep _ _ e)) ?_));refine yk (λ_=>?_) (λ_=>zf ⟨xc xf _,key _ c₀ _ st (λb o _ e=>keep _ _ e) hS₁⟩);refine za (xT ?_);refine za ?_;show zt _ _ (XT S (·.push .none) >>= λ_=>XT S (·.pop)) _ _ _;refine za (Zh hS₁ rfl ?_);have hS₂:=jT (je (·.push Value.none)) hS₁ rfl;refine Zh (hz:=by seq_fits) hS₂ rfl ?_;have hS₃:=jT (je (·.pop)) hS₂ rfl;refine zf ⟨xc xf _,key _ _ _ ?_ (λb o hb e=>?_) hS₃⟩
 ·refine W.frame 0 _ _ st λb hb o e=>?_;have hbS:b≠S:=λh=>hSf (h▸hb);exact(jO _ _ (Ne.symm hbS)).trans ((jO _ _ (Ne.symm hbS)).trans e)
 ·exact(jO _ _ (Ne.symm hb)).trans ((jO _ _ (Ne.symm hb)).trans (keep _ _ e))
def NU(hh:A.handled=none)(hS0:IA w s.heap a vs)
 (h:∀h' d' tk us,(∀b o,s.heap.get? b=some o->h'.get? b=some o)->us.Perm vs->us.length<=zj->R us {s with heap:=h',drawn:=d',toks:=tk}):
 zt (zI prog w) A (collect (.ref a)) R E s:=by
 have halt:a<s.heap.objs.size:=by obtain⟨o,_,_,_,ho,_⟩:=hS0;exact zC ho
 have hu:∀us:List zm,us.Perm vs->us.length<=zj:=λus p=>by obtain⟨o,es,_,_,_,_,_,hpm,hz,_⟩:=hS0;rw[p.length_eq,<-hpm.length_eq,zd,zG];exact hz
 unfold collect;refine za (wpAny_runValue (ym entry_proto_collect' ?_));rw[jM PySem.F.plain_proto_collect _];show zt _ A.in1 (newList [] >>= λl=>again (.builtin "list.__iadd__" ⟨[l,.ref a], []⟩)) _ _ s;refine za (yV ?_);refine zf ⟨xc JM _,ym entry_list_iadd' ?_⟩;rw[jM JM _];have hS₁:(s.heap.push {cls:=.type "list",data:=.seq ([]:List zm).toArray}).get? s.heap.objs.size=some {cls:=.type "list",data:=.seq #[]}:=zu _ rfl;show zt _ A.in1 (jY (.ref s.heap.objs.size) (.ref a) (.ref s.heap.objs.size)) _ _ _;have key:=KZ (prog:=prog) (A:=A) (s:={s with heap:=s.heap.push {cls:=.type "list",data:=.seq ([]:List zm).toArray}})
  (R:=fun(q:Result) (s':zA)=>∃(h':Heap) (d':_) (tk:Nat) (Ma:Array zm) (c':Nat),q= .ok (.ret (.ref s.heap.objs.size))/\s'= {s with heap:=h',drawn:=d',toks:=tk}/\
    (∀b o,s.heap.get? b=some o->h'.get? b=some o)/\h'.get? s.heap.objs.size=some {cls:=.type "list",dict:=none,data:=.seq Ma c',slots:= #[]}/\Ma.toList.Perm vs)
  hh (hS0.congr λo e=>zc _ e) s.heap.objs.size (Zr halt) (.ref s.heap.objs.size) 0 hS₁
  (λh' d' tk Ma c' hk Mt hv=>⟨h',d',tk,Ma,c',rfl,rfl,λb o e=>hk b o (zQ (zC e)) (zc _ e),Mt,hv⟩)
 refine yg key (λfin s' x=>?_) λe s' x=>?_
 ·cases fin with
  |done f=>
    obtain⟨h',d',tk,Ma,c',e,rfl,hk,Mt,hv⟩:=x
    cases e
    show zt _ A (load s.heap.objs.size >>= _) _ _ _;refine za (wpAny_load Mt ?_);exact zf (h h' d' tk Ma.toList hk hv (hu _ hv))
  |again c₁=>
    refine⟨x.1,Yr x.2 λq s₂ y=>?_⟩;obtain⟨h',d',tk,Ma,c',rfl,rfl,hk,Mt,hv⟩:=y;show zt _ A (load s.heap.objs.size >>= _) _ _ _;refine za (wpAny_load Mt ?_);exact zf (h h' d' tk Ma.toList hk hv (hu _ hv))
 ·obtain⟨_,_,_,_,_,e',_⟩:=x
  cases e'
def Qb(hh:A.handled=none)(hS0:TSet prog w s.heap a ss)(hn:ss.length<64)
 (h:∀(h1 h':Heap) d' (tk e:Nat) out Of,(∀b o,s.heap.get? b=some o->h1.get? b=some o)->(∀b o,h1.get? b=some o->h'.get? b=some o)->h'.get? h1.objs.size=some (jQ "list" out.toArray e)->StrsAre out Of->Of.Perm ss->sortedS Of=true->Q (.ref h1.objs.size) {s with heap:=h',drawn:=d',toks:=tk}):
 zt (zI prog w) A (call (.builtin "sorted") [.ref a]) Q E s:=by
 obtain⟨vs0,hX,ha,hp0⟩:=hS0.x;refine yF YY Yv Yw (Yx _) ?_;unfold yC.«sorted»;refine za (m:=checkCount "sorted" 1 1 _) (zf ?_);refine za (NU (A:=A.in1) hh hX λh1 d' tk vs hk hp hz=>?_);have hS:=VS λv hv=>ha v (hp.mem_iff.mp hv);have hp1:=(hp.map sV).trans hp0;have hl:vs.length=ss.length:=by rw[Jq hS,hp1.length_eq]
 refine za (xL ?_ hz);have hoL:(h1.push (jQ "list" vs.toArray 0)).get? h1.objs.size=some (jQ "list" vs.toArray 0):=zu _ rfl;refine za (jk (jn ZE ⟨_,hoL,rfl⟩ Zj (list_sort_treeK strKind_oneLt hoL hS.keysOf (λv₁ v₂ rest e=>JF (by rw[<-e];exact hS)) (by rw[hl];exact hn) λMi a1 a2=>⟨_,rfl,?_⟩) (ZG _)));obtain⟨Of,b1,b2,b3⟩:=sorted_out_str hS a1 a2;obtain⟨e,he⟩:=Ji (vs:=vs) (out:=(Xn Mi).map (·.2)) hoL;refine zf ⟨_,rfl,h h1 _ d' tk e ((Xn Mi).map (·.2)).toList Of hk (λb o hb=>?_) (by rw[ZH];exact he) b1 (b2.trans hp1) b3⟩;have Lu:b<h1.objs.size:=zC hb;rw[XS (zQ Lu) (by rw[size_push'];exact yp Lu),Yt _ _ _ (zQ Lu)];exact hb
end
def cK:D->M D:=λd=>match d with
| .ref r=>do
  match <-O4 r with
  | .lst l=>do
    let ss <-D3 (c8 l)
    if ss.length<64 then N7 (.lst ((W5 (ss.foldl ddT [])).map .str))else M.stuck
  |_=>M.stuck
|_=>M.stuck
def mG(fa:Fe):Fe:=λσ=>fa σ >>= cK
section
def BP(I:Inv X Li σ H s):Inv X Li σ H {s with drawn:=d'}:=⟨I.ok,I.os,I.bare,I.base,I.loc,I.cell,I.free,I.freeC,I.pin,I.hok,I.len⟩
def qv(hc:X.calm=true)(Ol:BLs X.mg)(hg1:Gl X "sorted")(hg2:Gl X "set")(ha:DE X Z ea fa)(sa:V8 ea=true):DE X Z (.Call (.Name "sorted" p) [.Call (.Name "set" p1) [ea] [] q1] [] pos) (mG fa):=⟨by
 intro Li s σ H Q I h;refine yO (gA I hg1 (Ol.h _ (by decide +kernel)) GG ?_ (by decide) (by decide));refine h.elim λX9 μ G sr hr pp=>?_;refine callWith_builtin1 (xt ?_) rfl rfl;refine yO (gA I hg2 (Ol.h _ (by decide +kernel)) OO ?_ (by decide) (by decide));refine callWith_type1 ?_ (MB sa) rfl;rw[MB sa];have pa:=d7.bind pp;refine xt (thn (ha.h Li s σ H (λv H1=>∃x X0 G1,v5 (wc X) X0 G1 H1/\d9 (wc X) X0 H1 x v/\d7 (wc X) Z X0 H1 (cK x G1) λd X2 _ H'=>∀v,d9 (wc X) X2 H' d v->Q v H') I ⟨X9,μ,G,sr,hr,pa.mono λd X0 G1 H1 x1 h1 p1 v rv=>⟨d,X0,G1,h1,rv,p1⟩⟩) λu s1 hE=>hE.elim λv H1 I1 r1 q=>?_);obtain⟨x,X0,G1,hr1,rv1,pp1⟩:=q;obtain⟨i,rfl⟩:∃i,x= .ref i:=match x,pp1 with
  | .ref i,_=>⟨i,rfl⟩
 obtain⟨o,g,p2⟩:=K8 (show d7 (wc X) Z X0 H1 ((O4 i >>= λo=>match o with
  | .lst l => (do
    let ss <-D3 (c8 l)
    if ss.length<64 then N7 (.lst ((W5 (ss.foldl ddT [])).map .str))else M.stuck:M D)
  |_=>M.stuck) G1) _ from pp1)
 unfold d9 at rv1;obtain⟨a,m,rfl⟩:=rv1;have ro:=hr1.obj i o a g m;rcases o with l|l|l|l<;>try exact p2.elim
 obtain⟨vs,q,rl⟩:=ro;obtain⟨ss,es,p3⟩:=gC p2;split at p3
 case isFalse=>exact p3.elim
 rename_i Nn
 cases r1
 refine xG ?_;obtain⟨Ll,rv,pl,hz⟩:=I1.list (SqL.of q);have hS:=wM es rl rv;have hlen0:Ll.length=ss.length:=Jq hS;have hc1:X.A.handled=none:=I1.ok.hd hc;refine Ik (w:=X.w) hc1 (items:=Ll.toArray) pl.isList (by simpa using hS) (by rw[zr];exact zL (show Ll.length+1<66 by omega) (by decide)) λh1 tk1 hT k1=>?_;have I2:Inv X Li σ H1 {s1 with heap:=h1,toks:=tk1}:=I1.kept k1;refine xG ?_;have hdl:=nH ss [];refine Qb (s:={s1 with heap:=h1,toks:=tk1}) (I2.ok.hd hc) hT (by simp at hdl;omega) λh2 h' d' tk e out Of k2 k3 he Mt hp hs=>?_;have e2:=nM hp hs;subst e2;have I3:Inv X Li σ H1 {s1 with heap:=h2,drawn:=d',toks:=tk}:=BP (I2.kept (t':=tk) k2);obtain⟨ws,ew,rv',rl2⟩:=kI (c:=wc X) (μ:=X0) (H:=H1) Mt;have hf:=I3.hok.fresh (zh _);have Lr:ws.length<=zj:=by
  rw[ew,zd];have e3:(W5 (ss.foldl ddT [])).length= (ss.foldl ddT []).length:=(jL _ leS).length_eq;have:(64:Nat)<=zj:=by decide
  simp at hdl;omega
 exact⟨.ref h2.objs.size,upd H1 h2.objs.size (.lst ws),I3.laid (t':=tk) k3 (zh _) ⟨Lr,out,e,rv',he⟩,rfl,U6 hr1 rl2 p3 _ hf⟩⟩
end
end DL
namespace W
open PySem PySem.Spec L2 DL
open PyProof.Rows hiding St
end W
namespace DL
open PySem PySem.Spec L2
open PyProof.Rows hiding St
def lcg(m i:Nat):Nat:=(i*5+1) % (m+1)
def itr(m:Nat):Nat->Nat->Nat
|0,i=>i
|k+1,i=>itr m k (lcg m i)
def r9(m:Nat):Prop:=∀i≤m,∀j≤m,∃k≤m,itr m k i=j
def QV(m:Nat):Bool:=(zP (m+1)).all λi=>(zP (m+1)).all λj=>(zP (m+1)).any λk=>itr m k i==j
def PU(h:QV m=true):r9 m:=by intro i hi j hj;unfold QV at h;have h1:=zH.mp h i (jy.mpr (by omega));have h2:=zH.mp h1 j (jy.mpr (by omega));obtain⟨k,hk,e⟩:=Jl.mp h2;exact⟨k,by have:=jy.mp hk;omega,by simpa using e⟩
def im:r9 7:=PU (by decide +kernel)
def tq:r9 31:=PU (by decide +kernel)
def bJ(m:Nat):∀a b i,itr m (a+b) i=itr m a (itr m b i)
|a,0,i=>rfl
|a,b+1,i=>bJ m a b (lcg m i)
def pj(hp:itr m (m+1) 0=0)(h:((zP (m+1)).all λj=>(zP (m+1)).any λk=>itr m k 0==j)=true):r9 m:=by
 have one:∀j≤m,∃k≤m,itr m k 0=j:=λj hj=>by obtain⟨k,hk,e⟩:=Jl.mp (zH.mp h j (jy.mpr (by omega)));exact⟨k,by have:=jy.mp hk;omega,by simpa using e⟩
 intro i hi j hj;obtain⟨a,ha,ea⟩:=one i hi;obtain⟨b,hb,eb⟩:=one j hj;by_cases c:a<=b
 ·exact⟨b-a,by omega,by rw[<-ea,<-bJ,Nat.sub_add_cancel c];exact eb⟩
 ·refine⟨b+(m+1)-a,by omega,?_⟩;rw[<-ea,<-bJ,Nat.sub_add_cancel (by omega),bJ,hp];exact eb
def Kz:r9 127:=pj (by decide +kernel) (by decide +kernel)
def OF(owner:Array (Option Nat))(r:Option Nat):Prop:=∃j,r=some j/\owner[j]? =some none
def Dk{owner:Array (Option Nat)}(h:(zP n).find? (λk=>(owner.getD (i+k) (some 0)).isNone)=some k):owner[i+k]? =some none:=by
 have:=List.find?_some h;have e:owner.getD (i+k) (some 0)=none:=by simpa using this
 rw[jE]at e;rcases h2:owner[i+k]? with _|o
 ·rw[h2]at e;cases e
 ·rw[h2]at e;have:o=none:=e;rw[this]
def aq(h:owner[i]? =some none):OF owner (jq mask owner (f+1) i p):=by
 unfold jq;have hr:∃m,jB mask i+1-i=m+1:=by
  unfold jB;split
  ·exact⟨9,by omega⟩
  ·exact⟨0,by omega⟩
 obtain⟨m,hm⟩:=hr;have:((zP (jB mask i+1-i)).find? λk=>(owner.getD (i+k) (some 0)).isNone)=some 0:=by rw[hm,Zl,List.find?_cons_of_pos];rw[jE,Nat.add_zero,h];rfl
 rw[this];exact⟨i,by simp,h⟩
def SV{owner:Array (Option Nat)}(h:OF owner (jq mask owner f (jo mask i p).1 (jo mask i p).2)):OF owner (jq mask owner (f+1) i p):=by
 unfold jq;split
 ·rename_i k hk;exact⟨i+k,rfl,Dk hk⟩
 ·exact h
theorem qW(hj:owner[j]? =some none):∀k f i,k<f->itr mask k i=j->OF owner (jq mask owner f i 0)
|0,f+1,i,_,e=>by have e:i=j:=e;rw[<-e]at hj;exact aq hj
|k+1,f+1,i,hf,e=>by
  refine SV ?_;have e1:(jo mask i 0).1=lcg mask i:=by show (i*5+1+0 / 32) % (mask+1)=_;simp[lcg]
  have e2:(jo mask i 0).2=0:=by show 0 / 32=0;rfl
  rw[e1,e2];exact qW hj k f _ (by omega) e
theorem wL(hF:r9 mask)(hj:owner[j]? =some none)(hm:j<=mask):∀n f i p,p<32 ^ n->n+mask<f->i<=mask->OF owner (jq mask owner f i p)
|0,f,i,p,hp,hf,hi=>by
  obtain rfl:p=0:=by simpa using hp
  obtain⟨k,hk,e⟩:=hF i hi j hm;exact qW hj k f i (by omega) e
|n+1,f+1,i,p,hp,hf,hi=>by
  refine SV (wL hF hj hm n f _ _ ?_ (by omega) ?_)
  ·show p / 32<32 ^ n;rw[Nat.pow_succ]at hp;omega
  ·show (i*5+1+p / 32) % (mask+1)<=mask;have:=xy (i*5+1+p / 32) (show 0<mask+1 by omega);omega
structure bF(mask:Nat)(k:Nat)(owner:Array (Option Nat)):Prop where
 sz:owner.size=mask+1
 pm:(owner.toList.filterMap id).Perm (zP k)
theorem rT:∀ {l:List (Option α)} {j:Nat},l[j]? =some none->((l.set j (some x)).filterMap id).Perm (x::l.filterMap id)
|[],_,h=>by simp at h
|a::l,0,h=>by
  have:a=none:=by simpa using h
  subst this;simp
|a::l,j+1,h=>by
  have ih:=rT (x:=x) (l:=l) (j:=j) (by simpa using h);rw[yJ];rcases a with _|a
  ·simpa using ih
  ·show (a::JQ id (l.set j (some x))).Perm (x::a::JQ id l);exact(List.Perm.cons a ih).trans (List.Perm.swap ..)
theorem aM:∀ {l:List (Option Nat)},(l.filterMap id).length<l.length->∃j,j<l.length/\l[j]? =some none
|[],h=>by simp at h
|none::l,h=>⟨0,by simp,rfl⟩
|some a::l,h=>by obtain⟨j,h1,h2⟩:=aM (l:=l) (by simpa using h);exact⟨j+1,by simpa using h1,by simpa using h2⟩
def DK(h:Int):jb h<32 ^ 13:=by
 unfold jb;have h1:=xz h (show (0:Int)<2 ^ 64 by decide);have h2:=yt h (show (2 ^ 64:Int)≠0 by decide);have:(32:Nat) ^ 13=36893488147419103232:=by decide
 omega
def bF.step{owner:Array (Option Nat)}(hF:r9 mask)(I:bF mask k owner)(hk:k<=mask)(h:Int):∃j,jq mask owner (yn mask) (jb h % (mask+1)) (jb h)=some j/\bF mask (k+1) (owner.setIfInBounds j (some k)):=by
 have hl:(owner.toList.filterMap id).length=k:=by rw[I.pm.length_eq,zV]
 obtain⟨j0,hj0,e0⟩:=aM (l:=owner.toList) (by rw[hl,zG,I.sz];omega);rw[zN]at e0;have hm:j0<=mask:=by rw[zG,I.sz]at hj0;omega
 have hi:jb h % (mask+1)<=mask:=by have:=xy (jb h) (show 0<mask+1 by omega);omega
 obtain⟨j,e,ho⟩:=wL hF e0 hm 13 (yn mask) _ _ (DK h) (by unfold yn;omega) hi;refine⟨j,e,by simp[I.sz],?_⟩;rw[Array.toList_setIfInBounds];refine(rT (by rw[zN];exact ho)).trans ?_;rw[Xf];exact(List.Perm.cons k I.pm).trans (JP ..).symm
def Aw{owner:Array (Option Nat)}(hs:owner.size=mask+1):(((zP (mask+1)).filterMap λj=>(owner.getD j none).map (j, ·)).map (·.2))=owner.toList.filterMap id:=by
 rw[List.map_filterMap];have:owner.toList= (zP (mask+1)).map λj=>owner.getD j none:=by
  apply xQ
  ·simp[hs]
  ·intro i h1 h2;have h3:i<owner.size:=by simpa using h1
   simp[jE,h3]
 rw[this,Ym];congr 1;funext j;simp[Option.map_map,Yg]
def Dx{es:Array (Int×zm)}{order:Array Nat}(h:order.toList.Perm (zP es.size)):(order.filterMap (es[·]?)).toList.Perm es.toList:=by
 rw[Array.toList_filterMap];refine(h.filterMap _).trans ?_;have:(zP es.size).filterMap (es[·]?)=es.toList:=by
  have e:∀l:List (Int×zm),(zP l.length).filterMap (l[·]?)=l:=by
   intro l
   induction l with
   |nil=>rfl
   |cons a r ih=>
     rw[zM,Zl];show a::JQ _ (Xq _ _)=_;rw[Ym];congr 1
  have:=e es.toList;simpa using this
 rw[this]
section
variable{prog:zU}{w:jg}{A:js}{E:VSP}{s:zA}{a:Addr}
end
section
end
inductive tN(w:jg):List DictEntry->List Str->Prop
|nil:tN w [] []
|cons {e:DictEntry} {x:Str} {tk:Tok} {es:List DictEntry} {xs:List Str}:e.key= .str x tk->e.hash=hashStr w x->tN w es xs->tN w (e::es) (x::xs)
section
end
end DL
namespace W
open PySem PySem.Spec L2 DL
open PyProof.Rows hiding St
end W
namespace DL
open PySem PySem.Spec L2
open PyProof.Rows hiding St
structure Ev where
 P:zU
 w:jg
 K:zo
 mg:Str->Option zm
 base:Heap
structure EvX(E:Ev):Prop where
 ex:∃h:Heap,E.K.In h/\h.Ns jG E.mg
abbrev Ck(E:Ev)(F:List D->M D)(n:Nat)(x:Str)(k:Nat):Prop:=lD F n x E.P E.w E.K E.mg E.base k
def BA(x:Str)(st:Stmt)(ps:List Str):Prop:=∀(kV doc pm:zm) (an:Option Addr) (Ms ct:zm) (us:List zm),us.length=ps.length->bindArgs (yS x x (mB st) (P8 st) (K1 st) .none kV doc pm an Ms ct) ⟨us, []⟩=pure (ps.zip us)
section
variable{E:Ev}{x:Str}{st:Stmt}{k n m:Nat}{fb:Fs}
def Q3(N ps:List Str)(X:EvX E)(Y:FH E.K x st)(S:L9 N ps (K1 st))(b:BA x st ps)(hn:ps.length=n)(hm:N.length=m)
 (hb:L9 N ps (K1 st)->∀f Ms A outer s H Z,U1 k (A.deeper (Xd x (K1 st) s.heap.objs.size f Ms))->DB (OA CX0 E.P E.w E.K E.mg E.base N x (K1 st) f Ms A outer s H Z).nox ZF (P8 st) fb):Ck E (v7 m fb) n x (k+1):=by
 obtain⟨h,X,G⟩:=X.ex;obtain⟨f,fd,c⟩:=Y.ff X G b;exact lD.of c (wQ c S hn hm (hb S f))
def Hg(ps:List Str)(X:EvX E)(Y:FH E.K x st)(b:BA x st ps)(hn:ps.length=n):Ck E (λ_=>M.stuck) n x k:=by obtain⟨h,X,G⟩:=X.ex;obtain⟨f,fd,c⟩:=Y.ff X G b;exact lD.of c (uz hn)
end
def FHs(K:zo)(top:Nat->Stmt):List Str->List Nat->Prop
|x::r,i::s=>FH K x (top i)/\FHs K top r s
|_,_=>True
section
variable{K:zo}{top:Nat->Stmt}{x:Str}{i:Nat}{r:List Str}{s:List Nat}{mg:Str->Option zm}{d:D}{u:zm}{h:Heap}
def FHs.c(h:FH K x (top i))(t:FHs K top r s):FHs K top (x::r) (i::s):=⟨h,t⟩
structure CC(K:zo)(mg:Str->Option zm)(x:Str)(d:D):Prop where
 ex:∃u,ZK K jG x=some (some u)/\CR K mg d u
def CC.of(g:ZK K jG x=some (some u))(r:CR K mg d u):CC K mg x d:=⟨u,g,r⟩
def CC.ok(c:CC K mg x d)(X:K.In h)(G:h.Ns jG mg):WE K mg x d:=by obtain⟨u,g,r⟩:=c.ex;exact⟨u,Xo X G g,r⟩
def vZ{fa:Addr}{P:zU}{w:jg}{N:List Str}{k m:Nat}{fb:Fs}(X:K.In h)(G:h.Ns jG mg)(hfa:mg "law" =some (.ref fa))(Y:FH K "law" (top i))(b:BA "law" (top i) ["script"])(S:L9 N ["script"] (K1 (top i)))(hm:N.length=m)
 (hs:∀kV dc pm an cd ct (s:zA) (v:zm),Xt s (yS "law" "law" (mB (top i)) (P8 (top i)) (K1 (top i)) .none kV dc pm an cd ct) ⟨[v], []⟩ [("script",v)])
 (hb:∀base,L9 N ["script"] (K1 (top i))->∀Ms A outer s H Z,U1 k (A.deeper (Xd "law" (K1 (top i)) s.heap.objs.size fa Ms))->DB (OA CX0 P w K mg base N "law" (K1 (top i)) fa Ms A outer s H Z).nox ZF (P8 (top i)) fb)
 (pure:∀ns:List Int,ns.length<=63->∃G',v7 m fb [.ref 0] [.rol (ns.map D.int)]=some (.ok (.bl true),G')):
 ∃fd:xW,(∀(s:zA) (v:zm),Xt s fd ⟨[v], []⟩ [("script",v)])/\∀base:Heap,K.In base->base.Ns jG mg->F4 P w K mg base CX0 (k+1) fa fd ["script"] (RH K):=by
 obtain⟨f,od,an,sl,oc,kV,dc,pm,cd,ct,a,l,e,kp⟩:=Y;have q:=hfa.symm.trans (Xo X G a)
 cases q
 exact⟨_,hs kV dc pm an cd ct,λbase _ _=>bx (wQ ⟨sK l e kp,(sK l e kp).binds b,Xo X G a⟩ S rfl hm (hb base S)) pure⟩
def walk63{l:PySem.W.OpenLaw}{q:zU}{loose:List Str}{XP:(Str->Option zm)->Heap->Prop}{YP:jg->Heap->Prop}{d:DefRec}{K:Params->zo}(k:Nat)(hn:l.most=some 63)(hdf:d.params.defaults= [])(hr:U1 k XV)
 (hY:∀(w:jg) (h:Heap),YP w h->(K w.params).In h)
 (F:∀(w:jg) (mg:Str->Option zm) (fa:Addr) (h:Heap),(K w.params).In h->h.Ns jG mg->mg d.name=some (.ref fa)->
   ∃fd:xW,(∀(s:zA) (u:zm),Xt s fd ⟨[u], []⟩ [("script",u)])/\∀base:Heap,(K w.params).In base->base.Ns jG mg->F4 l.prog w (K w.params) mg base CX0 k fa fd ["script"] (RH (K w.params))):
 PySem.W.WalkO q loose XP YP l.row.toRowW d [] (λf vs=>PySem.call f vs):=
 L2.walk_of hn (by decide) hdf hr hY F (λ_ _ a ns hl hO hS=>⟨a,ns,rfl,hS,hO,hl,λ_=>rfl⟩) λ_ _ _ _ _ z=>z
end
section
variable{prog:zU}{w:jg}{A:js}{E:VSP}{s:zA}
end
section
end
section
variable{X:Cx}{Z:XC}{ea:Expr}{fa:Fe}{p q1 ap pos:Pos}
end
section
variable{prog:zU}{w:jg}{A:js}{E:VSP}{s:zA}
def Bd{vs:List zm}(hl:qs.length=vs.length)(Nn:vs.length<64)(ho:s.heap.get? a=some (jQ "list" vs.toArray n))(hp:∀(i:Nat) q,qs[i]? =some q->∃u,vs[i]? =some u/\mD s.heap u q)
 (h:∀(h':Heap) e,(∀b o,b≠a->s.heap.get? b=some o->h'.get? b=some o)->h'.get? a=some (jQ "list" (ya ((i5 qs vs.length).map λi=>vs.getD i .none)) e)->P (.done (.ret .none)) {s with heap:=h'}):
 zt (zI prog w) A (yC.«list.sort» ⟨[.ref a], []⟩) P E s:=by
 have ha:a<s.heap.objs.size:=zC ho;obtain⟨e1,ho1⟩:∃e1,(s.heap.update a (je λ_=>(#[]:Array zm))).get? a=some (jQ "list" #[] e1):=⟨_,Xz ho λ_=> #[]⟩;have k1:∀b o,b≠a->s.heap.get? b=some o->(s.heap.update a (je λ_=>(#[]:Array zm))).get? b=some o:=λb o hb e=>by rw[ZV _ _ _ _ hb];exact e
 rw[list_sort_plain];refine za (listItems_at ho rfl (za (ZZ ho rfl ?_ (by rw[zr,xU];lia) (zO _))));refine za (YX ho1 rfl (za (YD ?_ (by show vs.length<=_;rw[xU];lia))));refine za (xL ?_ (zO _));refine jk ?_;have Nl:(((s.heap.update a (je λ_=>(#[]:Array zm))).push (jQ "tuple" vs.toArray 0)).push (jQ "list" #[] 0)).get? a=some (jQ "list" #[] e1):=zc _ (zc _ ho1);have k2:∀b o,b≠a->s.heap.get? b=some o->(((s.heap.update a (je λ_=>(#[]:Array zm))).push (jQ "tuple" vs.toArray 0)).push (jQ "list" #[] 0)).get? b=some o:=λb o hb e=>zc _ (zc _ (k1 b o hb e));show zt (zI prog w) A _ P E {s with heap:=((s.heap.update a (je λ_=>(#[]:Array zm))).push (jQ "tuple" vs.toArray 0)).push (jQ "list" #[] 0)};generalize ((s.heap.update a (je λ_=>(#[]:Array zm))).push (jQ "tuple" vs.toArray 0)).push (jQ "list" #[] 0)=hh at Nl k2;dsimp only;have hp':∀(i:Nat) q,qs[i]? =some q->∃u,vs[i]? =some u/\mD hh u q:=λi x e=>by
  obtain⟨u,e1,b,t,t',rfl,o,hb,hc,n',hd⟩:=hp i x e;refine⟨_,e1,b,t,t',rfl,o,k2 b _ (λz=>?_) hb,hc,n',hd⟩;rw[z,ho]at hb
  cases hb
  simp[jQ]at hc
 have fin:∃e,(hh.update a (je λ_=>ya ((i5 qs vs.length).map λi=>vs.getD i .none))).get? a=some (jQ "list" (ya ((i5 qs vs.length).map λi=>vs.getD i .none)) e)/\P (.done (.ret .none)) {s with heap:=hh.update a (je λ_=>ya ((i5 qs vs.length).map λi=>vs.getD i .none))}:=by obtain⟨e,he⟩:∃e,(hh.update a (je λ_=>ya ((i5 qs vs.length).map λi=>vs.getD i .none))).get? a=some (jQ "list" (ya ((i5 qs vs.length).map λi=>vs.getD i .none)) e):=⟨_,Xz Nl λ_=>_⟩;exact⟨e,he,h _ e (λb o hb q=>by rw[ZV _ _ _ _ hb];exact k2 b o hb q) he⟩
 have pm:=(IN qs vs.length).1;have tail:(ya ((i5 qs vs.length).map λi=>vs.getD i Value.none)).size<=zj+1:=by rw[zr,zd,pm.length_eq,zV,xU];lia
 by_cases h2:vs.toArray.size<2
 ·rw[if_pos h2,if_pos h2];refine za (zf ?_);rw[StateT.run_pure];refine za (zf ?_);dsimp only;have hn:vs.length<2:=by simpa using h2
  have hv:(Xn (SortSt.mk' general' (vs.toArray.zip vs.toArray) #[] 7 none)).map (·.2)=ya ((i5 qs vs.length).map λi=>vs.getD i Value.none):=by
   rw[i5,if_pos hn];show (vs.toArray.zip vs.toArray).map (·.2)=_;apply Zx.mp;rw[Array.toList_map];apply xQ
   ·simp
   ·intro i hi hj;simp at hi hj ⊢;simp[hj]
  rw[hv];refine za (YX Nl rfl (za (ZZ Nl rfl ?_ (zO _) tail)));simp only[bne_self_eq_false,zw,if_false];exact zf (fin.elim λ_ h=>h.2)
 ·rw[if_neg h2,if_neg h2];have hn2:2<=vs.length:=by simpa using h2
  have gq:∀i,i<vs.length->qs[i]? =some (qs.getD i (0,0)):=λi hi=>by rw[zK,zD (by lia)];rfl
  obtain⟨fs,T,hfs,hT⟩:∃fs:List zm,YG hh vs fs/\0<fs.length/\∀v∈fs,∃n t,v= .int n t:=by
   have gen:∀(ku:List zm) (qs:List (Int×Int)),qs.length=ku.length->(∀(i:Nat) (q:Int×Int),qs[i]? =some q->∃u,ku[i]? =some u/\mD hh u q)->∃fs:List zm,YG hh ku fs/\fs.length=ku.length/\∀v∈fs,∃n t,v= .int n t:=by
    intro ku
    induction ku with
    |nil=>exact λqs _ _=>⟨[],trivial,rfl,λv hv=>by cases hv⟩
    |cons u r ih=>
      intro qs hl hk;rcases qs with _|⟨q,qr⟩
      ·simp at hl
      ·
        obtain⟨u',e1,ad,t,t',rfl,o,ho,hc,n,hd⟩:=hk 0 q rfl;simp at e1;subst e1;obtain⟨fs,f1,f2,f3⟩:=ih qr (by simpa using hl) λi q hq=>by simpa using hk (i+1) q (by simpa using hq)
        refine⟨.int q.1 t::fs,XY ho hc hd rfl f1,by simp[f2],λv hv=>?_⟩;rcases zn.mp hv with rfl|hv
        ·exact⟨_,_,rfl⟩
        ·exact f3 v hv
   obtain⟨fs,f1,f2,f3⟩:=gen vs qs hl hp';exact⟨fs,f1,by lia,f3⟩
  refine za (PySem.W.kat_kind (T:=.type "int") T hfs (λv hv=>?_) (by decide) ?_)
  ·obtain⟨n,t,rfl⟩:=hT v hv;exact Je rfl
  ·have run:=tOk.wp (s:={s with heap:=hh}) (cmp:=ZC prog w A (tuples' (Value.type "int" != Value.type "tuple")) vs) (λi j C hi hj hC=>by
    obtain⟨u,u1,u2⟩:=hp' i _ (gq i hi);obtain⟨v,v1,v2⟩:=hp' j _ (gq j hj);unfold ZC;rw[zK,zK,u1,v1];exact ig u2 v2 hC) _ (tOk.run _ (LQ (fP qs) hn2))
   refine za (yg (PySem.W.kat_run (Q:=λMi s'=>∃p:Array Nat,p.size=vs.length/\Xn Mi=p.map (PySem.W.kas_item (vs.toArray.zip vs.toArray))/\failedOf Mi=none/\s'= {s with heap:=hh}/\p=HC (ltP qs) (Zp vs.length)/\O1 p vs.length/\upW (ltP qs) p vs.length) rfl hn2 Nn (λp Mi s' a1 a2 a3 a4=>⟨p,a1,a2,a3,a4⟩) run) ?_ λ_ _ x=>x);rintro⟨⟨⟩,Mi⟩ s' ⟨p,hp,har,hf,rfl,rfl,P1,U⟩;dsimp only;have e9:i5 qs vs.length= (HC (ltP qs) (Zp vs.length)).toList:=by rw[i5,if_neg (by lia)]
   rw[PySem.W.kat_snds rfl har,<-e9];refine za (YX Nl rfl (za (ZZ Nl rfl ?_ (zO _) tail)));rw[hf];simp only[bne_self_eq_false,zw,if_false];exact zf (fin.elim λ_ h=>h.2)
def Fu{n:Nat}{vs:List zm}(ho:s.heap.get? a=some o)(hc:o.cls= .type "list")(hd:o.data= .seq vs.toArray n)(hl:qs.length=vs.length)(Nn:vs.length<64)(hp:∀(i:Nat) q,qs[i]? =some q->∃u,vs[i]? =some u/\mD s.heap u q)
 (h:∀(h1 h':Heap) (tk e:Nat),(∀b o,s.heap.get? b=some o->h1.get? b=some o)->(∀b o,h1.get? b=some o->h'.get? b=some o)->h'.get? h1.objs.size=some (jQ "list" (ya ((i5 qs vs.length).map λi=>vs.getD i .none)) e)->Q (.ref h1.objs.size) {s with heap:=h',toks:=tk}):
 zt (zI prog w) A (call (.builtin "sorted") [.ref a]) Q E s:=by
 have hz:vs.length<=zj:=zq (yj Nn) (by decide);refine yF YY Yv Yw (Yx _) ?_;unfold yC.«sorted»;refine za (zf ?_);refine za (JA a (.inl rfl) ho hc hd (λh1 hk=>?_) (by rw[zr];exact hz));refine za (xL ?_ hz);have hoL:(h1.push (jQ "list" vs.toArray 0)).get? h1.objs.size=some (jQ "list" vs.toArray 0):=zu _ rfl;refine za (jk (jn ZE ⟨_,hoL,rfl⟩ Zj (Bd hl Nn hoL (λi q e=>?_) λh' e k1 k2=>⟨_,rfl,?_⟩) (ZG _)))
 ·obtain⟨u,e1,b,t,t',rfl,o',hb,hc,n',hd⟩:=hp i q e;exact⟨_,e1,b,t,t',rfl,o',zc _ (hk _ _ hb),hc,n',hd⟩
 ·exact zf ⟨_,rfl,h h1 h' s.toks e hk (λb o hb=>k1 b o (zQ (zC hb)) (zc _ hb)) k2⟩
end
def EF(l:List D):M D:=if l.length<64 then (do
 let qs <-D3 (qC l)
 N7 (.lst (iG qs l)))else M.stuck
def bE:List D->M D:=λds=>match ds with
|[.ref r]=>do
  match <-O4 r with
  | .lst l=>EF l
  |_=>M.stuck
|_=>M.stuck
def om:W8 X Z (.builtin "sorted") bE:=⟨by
 intro Li s σ H xs us Q I r Lo;obtain⟨ds,μ,G,rl,hr,p⟩:=Lo;rcases ds with _|⟨_|_|_|_|l|i|_|_,_|⟨_,_⟩⟩<;>try exact p.elim
 delta bE at p;dsimp only at p;obtain⟨v,rfl,rv⟩:=D7 rl;obtain⟨u,rfl,ru⟩:=C9 r;have rv':=rv;unfold d9 at rv';obtain⟨a,m,rfl⟩:=rv'
 cases ru
 obtain⟨o,g,p1⟩:=K8 p;have ro:=hr.obj i o a g m;rcases o with l|l|l|l<;>try exact p1.elim
 obtain⟨vs,q,Mr⟩:=ro;obtain⟨Ll,rv,pl,hz⟩:=I.list (SqL.of q);obtain⟨o,h1,h2,n,h3⟩:=pl.isList;dsimp only at p1;unfold EF at p1;split at p1
 case isFalse=>exact p1.elim
 rename_i Nn;obtain⟨qs,eq,p2⟩:=gC p1;obtain⟨hl,hk⟩:=nQ I eq Mr rv;have hlv:l.length=Ll.length:=by rw[Mr.length,rv.length]
 obtain⟨ws,w1,w2,w3⟩:=Ca Mr rv;refine Fu h1 h2 h3 hl (by lia) hk λh1 h' tk e k1 k2 he=>?_;have I1:Inv X Li σ H {s with heap:=h1,toks:=tk}:=I.kept k1;have hf:=I1.hok.fresh (zh _);have Lr:ws.length<=zj:=zq (show ws.length<=64 by lia) (by decide);exact⟨.ref h1.objs.size,upd H h1.objs.size (.lst ws),I1.laid k2 (zh _) ⟨Lr,_,e,w1,he⟩,rfl,U6 hr w2 p2 _ hf⟩⟩
def Qc(h:X.calm=true):BD bE "sorted" X Z:=⟨.inl ⟨_,om,GG⟩⟩
section
variable{X:Cx}{Li:PNS}{σ:St}{H:Hp}{s:zA}
end
end DL
namespace DL
open PySem PySem.Spec L2
open PyProof.Rows hiding St
open SetTable (Probe)
def N4(m:Nat)(p:Probe):Probe:=if p.more>0 then {p with j:=p.j+1,more:=p.more-1}else {p with j:=(jo m p.i p.perturb).1,more:=jB m (jo m p.i p.perturb).1-(jo m p.i p.perturb).1,i:=(jo m p.i p.perturb).1,perturb:=(jo m p.i p.perturb).2}
def hV(t:SetTable)(p:Probe):t.advance p=N4 t.mask p:=rfl
def rs(m i pt:Nat):Probe:={j:=i,more:=jB m i-i,i,perturb:=pt,dummy:=none}
def rC(h:p.more=n+1):N4 m p= {p with j:=p.j+1,more:=n}:=by unfold N4;rw[if_pos (by lia),h];rfl
def HM(h:p.more=0):N4 m p= {p with j:=(jo m p.i p.perturb).1,more:=jB m (jo m p.i p.perturb).1-(jo m p.i p.perturb).1,i:=(jo m p.i p.perturb).1,perturb:=(jo m p.i p.perturb).2}:=by unfold N4;rw[if_neg (by lia)]
inductive Rch(lv:Nat->Prop)(m:Nat):Probe->Nat->Prop
|here {p:Probe}:Rch lv m p p.j
|step {p:Probe} {j:Nat} (h:lv p.j) (k:Rch lv m (N4 m p) j):Rch lv m p j
def Rch.mono(h:Rch lv m p j)(k:∀i,lv i->lv' i):Rch lv' m p j:=by
 induction h with
 |here=>exact .here
 |step h _ ih=>exact .step (k _ h) ih
def Wk(lv:Nat->Prop)(m:Nat):Nat->Probe->Prop
|0,p=>¬lv p.j
|n+1,p=>lv p.j/\Wk lv m n (N4 m p)
section
variable{lv:Nat->Prop}{m:Nat}
theorem VP:∀s p,p.more=s->(∃n≤s,Wk lv m n p)\/∀N,Wk lv m N (N4 m {p with j:=p.j+s,more:=0})->Wk lv m (N+s+1) p
|0,p,h=>by
  by_cases k:lv p.j
  ·refine .inr λN w=>⟨k,?_⟩;have e:({p with j:=p.j+0,more:=0}:Probe)=p:=by
    obtain⟨a,b,c,d,f⟩:=p;have h:b=0:=h;rw[h];rfl
   rw[e]at w;exact w
  ·exact .inl ⟨0,zh _,k⟩
|s+1,p,h=>by
  by_cases k:lv p.j
  ·have e:=rC (m:=m) h;rcases VP s (N4 m p) (by rw[e]) with⟨n,hn,w⟩|w
   ·exact .inl ⟨n+1,by lia,k,w⟩
   ·refine .inr λN w'=>⟨k,w N ?_⟩;rw[e];have e2:p.j+1+s=p.j+(s+1):=by lia
    show Wk lv m N (N4 m {p with j:=p.j+1+s,more:=0});rw[e2];exact w'
  ·exact .inl ⟨0,zO _,k⟩
def Iu(m i:Nat):jB m i-i<=9:=by unfold jB;split<;>lia
def mW(h:∃n<N,Wk lv m n (rs m (jo m i pt).1 (jo m i pt).2)):∃n<N+10,Wk lv m n (rs m i pt):=by
 obtain⟨n,hn,w⟩:=h;have:=Iu m i;rcases VP _ (rs m i pt) rfl with⟨k,hk,w'⟩|w'
 ·have hk:k<=jB m i-i:=hk;exact⟨k,by lia,w'⟩
 ·have w2:=w' n (by rw[HM rfl];exact w);exact⟨_,by show n+(jB m i-i)+1<_;lia,w2⟩
theorem iR(hj:¬lv j):∀k i,itr m k i=j->∃n<10*(k+1),Wk lv m n (rs m i 0)
|0,i,e=>⟨0,by lia,by
  have e:i=j:=e;show ¬lv i;rw[e];exact hj⟩
|k+1,i,e=>by
  have e1:(jo m i 0).1=lcg m i:=by show (i*5+1+0 / 32) % (m+1)=_;simp[lcg]
  have e2:(jo m i 0).2=0:=by show 0 / 32=0;rfl
  obtain⟨n,hn,w⟩:=mW (by rw[e1,e2];exact iR hj k _ e);exact⟨n,by lia,w⟩
theorem OP(hF:r9 m)(hj:¬lv j)(hm:j<=m):∀n i p,p<32 ^ n->i<=m->∃k<10*(n+m+1),Wk lv m k (rs m i p)
|0,i,p,hp,hi=>by
  obtain rfl:p=0:=by simpa using hp
  obtain⟨k,hk,e⟩:=hF i hi j hm;obtain⟨n,hn,w⟩:=iR hj k i e;exact⟨n,by lia,w⟩
|n+1,i,p,hp,hi=>by
  obtain⟨k,hk,w⟩:=mW (OP hF hj hm n (jo m i p).1 (jo m i p).2 (by
   show p / 32<32 ^ n;rw[Nat.pow_succ]at hp;lia) (by
   show (i*5+1+p / 32) % (m+1)<=m;have:=xy (i*5+1+p / 32) (show 0<m+1 by lia);lia))
  exact⟨k,by lia,w⟩
def Pc(hF:r9 m)(hj:¬lv j)(hm:j<=m)(h:Int):∃n<10*yn m,Wk lv m n (rs m (jb h % (m+1)) (jb h)):=by obtain⟨n,hn,w⟩:=OP hF hj hm 13 (jb h % (m+1)) (jb h) (DK h) (by have:=xy (jb h) (show 0<m+1 by lia);lia);exact⟨n,by unfold yn;lia,w⟩
end
abbrev lvT(t:SetTable)(j:Nat):Prop:=∃i,t.slot j= .live i
section
variable{t:SetTable}{ha:Nat->Int}{h:Int}
def Sw(e:t.slot p.j= .empty)(k:Rch (lvT t) t.mask p j):j=p.j:=by
 cases k with
 |here=>rfl
 |step h _=>
   obtain⟨i,h⟩:=h;rw[e]at h;cases h
theorem RT(nd:∀j,t.slot j≠ .dummy):∀n fuel p,Wk (lvT t) t.mask n p->n<fuel->
 (∃j,xO t ha h fuel p=some (.empty j p.dummy)/\t.slot j= .empty/\Rch (lvT t) t.mask p j/\∀j' i,Rch (lvT t) t.mask p j'->t.slot j'= .live i->ha i≠h)\/
 (∃j i nx n',xO t ha h fuel p=some (.candidate j i nx)/\t.slot j= .live i/\ha i=h/\Rch (lvT t) t.mask p j/\n'<n/\Wk (lvT t) t.mask n' nx/\nx.dummy=p.dummy/\(∀j' i',Rch (lvT t) t.mask p j'->t.slot j'= .live i'->ha i'=h->j'=j\/Rch (lvT t) t.mask nx j')/\∀j',Rch (lvT t) t.mask nx j'->Rch (lvT t) t.mask p j')
 |n,fuel+1,p,w,hf=>by
   have dm:(N4 t.mask p).dummy=p.dummy:=by unfold N4;split<;>rfl
   unfold xO;rcases es:t.slot p.j with _|_|i
   ·refine .inl ⟨p.j,rfl,es,.here,λj' i r e=>?_⟩;rw[Sw es r,es]at e;cases e
   ·exact absurd es (nd _)
   ·rcases n with _|n
    ·exact absurd ⟨i,es⟩ w
    ·obtain⟨_,w⟩:=w;have back:∀j',Rch (lvT t) t.mask (N4 t.mask p) j'->Rch (lvT t) t.mask p j':=λj' r=>.step ⟨i,es⟩ r;by_cases c:ha i=h
     ·refine .inr ⟨p.j,i,N4 t.mask p,n,by simp[c,hV],es,c,.here,by lia,w,dm,λj' i' r _ _=>?_,back⟩
      cases r with
      |here=>exact .inl rfl
      |step _ r=>exact .inr r
     ·have ce:(if ha i==h then some (SetTable.Met.candidate p.j i (t.advance p))else xO t ha h fuel (t.advance p))=xO t ha h fuel (N4 t.mask p):=by rw[if_neg (by simpa using c),hV]
      rcases RT nd n fuel (N4 t.mask p) w (by lia) with⟨j,e,e1,r,no⟩|⟨j,i2,nx,n',e,e1,e2,rj,hn,w2,d2,al,bk⟩
      ·refine .inl ⟨j,by dsimp only;rw[ce,e,dm],e1,back _ r,λj' i' r' e'=>?_⟩
       cases r' with
       |here=>rw[es]at e';cases e';exact c
       |step _ r'=>exact no _ _ r' e'
      ·refine .inr ⟨j,i2,nx,n',by dsimp only;rw[ce,e],e1,e2,back _ rj,by lia,w2,by rw[d2,dm],λj' i' r' e' c'=>?_,λj' r'=>back _ (bk _ r')⟩
       cases r' with
       |here=>rw[es]at e';cases e';exact absurd c' c
       |step _ r'=>exact al _ _ r' e' c'
end
section
variable{xs:Array Nat}{j:Nat}
def Up(xs:Array Nat):Prop:=∀i k a b:Nat,xs[i]? =some a->xs[k]? =some b->i<k->a<b
theorem cN(up:Up xs):∀fuel lo hi,hi-lo<=fuel->lo<=hi->hi<=xs.size->(∀i v,i<lo->xs[i]? =some v->v<j)->(∀i v,hi<=i->xs[i]? =some v->j<=v)->
 xp xs j fuel lo hi<=xs.size/\(∀i v,i<xp xs j fuel lo hi->xs[i]? =some v->v<j)/\∀i v,xp xs j fuel lo hi<=i->xs[i]? =some v->j<=v
 |0,lo,hi,hf,hl,hs,h1,h2=>by
   unfold xp;obtain rfl:lo=hi:=by lia
   exact⟨hs,h1,h2⟩
 |fuel+1,lo,hi,hf,hl,hs,h1,h2=>by
   unfold xp;by_cases c:lo<hi
   ·rw[if_pos c];have hm:(lo+hi) / 2<xs.size:=by lia
    have em:xs[(lo+hi) / 2]? =some xs[(lo+hi) / 2]:=zW hm;have eg:xs.getD ((lo+hi) / 2) j=xs[(lo+hi) / 2]:=by rw[jE,em];rfl
    dsimp only;rw[eg];by_cases d:xs[(lo+hi) / 2]<j
    ·rw[if_pos d];refine cN up fuel _ _ (by lia) (by lia) hs (λi v hi' e=>?_) h2;rcases Yo (Nat.lt_succ_iff.mp hi')with k|k
     ·have:=up i _ v _ e em k;lia
     ·subst k;rw[em]at e;cases e;exact d
    ·rw[if_neg d];refine cN up fuel _ _ (by lia) (by lia) (by lia) h1 (λi v hi' e=>?_);rcases Yo hi' with k|k
     ·have:=up _ i _ v em e k;lia
     ·subst k;rw[em]at e;cases e;lia
   ·rw[if_neg c];obtain rfl:lo=hi:=by lia
    exact⟨hs,h1,h2⟩
def bQ(up:Up xs):jc xs j<=xs.size/\(∀i v,i<jc xs j->xs[i]? =some v->v<j)/\∀i v,jc xs j<=i->xs[i]? =some v->j<=v:=
 cN up xs.size 0 xs.size (by lia) (zO _) (zh _) (λ_ _ h=>absurd h (yT _)) λi v h e=>by rw[YR h]at e;cases e
def FZ(up:Up xs)(e:xs[i]? =some j):jc xs j=i:=by
 obtain⟨h0,h1,h2⟩:=bQ up;have hi:i<xs.size:=(yB.mp e).1;rcases Nat.lt_trichotomy (jc xs j) i with k|k|k
 ·have eb:xs[jc xs j]? =some xs[jc xs j]:=zW (by lia);have:=up _ _ _ _ eb e k;have:=h2 _ _ (zh _) eb;lia
 ·exact k
 ·have:=h1 _ _ k e;lia
end
section
variable{t:SetTable}{j:Nat}
def HD(up:Up t.place)(dm:t.dummies= #[]):t.slot j= .live i↔t.place[i]? =some j:=by
 unfold SetTable.slot;dsimp only;constructor
 ·intro h;split at h
  ·rename_i c
   cases h
   simpa using c
  ·rw[dm]at h;split at h<;>cases h
 ·intro e;have:=FZ up e;rw[this,if_pos (by simp[e])]
def MU(j:Nat):¬JI #[] j=true:=by unfold JI;simp
def wg(dm:t.dummies= #[]):t.slot j= .empty\/∃i,t.slot j= .live i:=by
 unfold SetTable.slot;dsimp only;split
 ·exact .inr ⟨_,rfl⟩
 ·rw[dm,if_neg (MU j)];exact .inl rfl
def cx(dm:t.dummies= #[]):t.slot j≠ .dummy:=λh=>by rcases wg dm with e|⟨i,e⟩<;>rw[h]at e<;>cases e
end
def UD(xs:Array α)(p:Nat)(x:α):(jU xs p x).toList=xs.toList.take p++x::xs.toList.drop p:=by unfold jU;simp[List.extract_eq_drop_take];rw[xv (by simp)]
structure Tb(t:SetTable)(es:Array (Int×zm)):Prop where
 dm:t.dummies= #[]
 up:Up t.place
 sz:t.place.size=es.size
 le:∀j∈t.place.toList,j<=t.mask
 fu:r9 t.mask
 rch:∀q∈es.toList.zip t.place.toList,Rch (lvT t) t.mask (t.probeStart q.1.1) q.2
def OL:Up xs↔xs.toList.Pairwise (· < ·):=by
 rw[xS];constructor
 ·intro h i k hi hk c;exact h i k _ _ (zW (by simpa using hi)) (zW (by simpa using hk)) c
 ·intro h i k a b ea eb c;obtain⟨hi,rfl⟩:=yB.mp ea;obtain⟨hk,rfl⟩:=yB.mp eb;exact h i k (by simpa using hi) (by simpa using hk) c
def Tb.put(T:Tb t es)(hj:t.slot j= .empty)(hm:j<=t.mask)(r:Rch (lvT t) t.mask (t.probeStart h) j):
 Tb (t.put j).1 (jU es (t.put j).2 (h,x))/\(jU es (t.put j).2 (h,x)).toList.Perm ((h,x)::es.toList)/\(t.put j).1.mask=t.mask/\(t.put j).1.led=t.led/\(t.put j).1.plain=t.plain/\(t.put j).1.moves=t.moves:=by
 obtain⟨b0,b1,b2⟩:=bQ (j:=j) T.up;have e2:(t.put j).2=jc t.place j:=rfl;have ep:(t.put j).1.place=jU t.place (jc t.place j) j:=rfl;have ed:(t.put j).1.dummies= #[]:=by show (if JI t.dummies j then _ else t.dummies)=_;rw[T.dm,if_neg (MU j)]
 have nin:∀i:Nat,t.place[i]? ≠some j:=λi e=>by rw[(HD T.up T.dm).mpr e]at hj;cases hj
 have up':Up (t.put j).1.place:=by
  rw[OL,ep,UD];have u:=OL.mp T.up;refine ZI.mpr ⟨u.sublist (List.take_sublist ..),yK.mpr ⟨λa ha=>?_,u.sublist (List.drop_sublist ..)⟩,λa ha b hb=>?_⟩
  ·obtain⟨i,hi,rfl⟩:=xN.mp ha;have e:t.place[jc t.place j+i]? =some ((t.place.toList.drop (jc t.place j))[i]):=by
    rw[<-zN,<-XJ,zD hi]
   have h1:=b2 _ _ (by lia) e;have h2:((t.place.toList.drop (jc t.place j))[i])≠j:=λz=>nin _ (by rw[e,z]);lia
  ·obtain⟨i,hi,rfl⟩:=xN.mp ha;have hi':i<jc t.place j:=by rw[jW]at hi;lia
   have e:t.place[i]? =some ((t.place.toList.take (jc t.place j))[i]):=by rw[<-zN,<-List.getElem?_take_of_lt hi',zD hi]
   have h1:=b1 _ _ hi' e;rcases zn.mp hb with rfl|hb
   ·exact h1
   ·obtain⟨k,hk,rfl⟩:=xN.mp hb;have e':t.place[jc t.place j+k]? =some ((t.place.toList.drop (jc t.place j))[k]):=by
     rw[<-zN,<-XJ,zD hk]
    have:=b2 _ _ (by lia) e';lia
 have mem':∀k,k∈(t.put j).1.place.toList↔k=j\/k∈t.place.toList:=λk=>by
  rw[ep,UD,zB,zn];have:=Zu (jc t.place j) t.place.toList;constructor
  ·rintro(z|z|z)
   ·exact .inr (Xp z)
   ·exact .inl z
   ·exact .inr (ZJ z)
  ·rintro(z|z)
   ·exact .inr (.inl z)
   ·rw[<-this]at z;exact(zB.mp z).elim .inl λz=>.inr (.inr z)
 have lvm:∀k,lvT t k->lvT (t.put j).1 k:=λk ⟨i,e⟩=>by have e:=(HD T.up T.dm).mp e;have:k∈(t.put j).1.place.toList:=(mem' k).mpr (.inr (jz (by rw[zN];exact e)));obtain⟨i',e'⟩:=Xj.mp this;exact⟨i',(HD up' ed).mpr (by rw[<-zN];exact e')⟩
 have perm:(jU es (t.put j).2 (h,x)).toList.Perm ((h,x)::es.toList):=by rw[UD];refine List.perm_middle.trans ?_;rw[Zu]
 refine⟨⟨ed,up',?_,λk hk=>?_,T.fu,λq hq=>?_⟩,perm,rfl,rfl,rfl,rfl⟩
 ·rw[<-zG,<-zG,perm.length_eq,ep,UD,zv,zM,jW,xr,zM,zG,zG,T.sz];rw[T.sz]at b0;lia
 ·rcases (mem' k).mp hk with rfl|hk
  ·exact hm
  ·exact T.le k hk
 ·rw[UD,ep,UD,e2,List.zip_append (by rw[jW,jW,zG,zG,T.sz]),yH]at hq;have ez:=List.zip_append (l₁:=es.toList.take (jc t.place j)) (r₁:=es.toList.drop (jc t.place j)) (r₂:=t.place.toList.drop (jc t.place j)) (by rw[jW,jW,zG,zG,T.sz]);rw[Zu,Zu]at ez;rcases zB.mp hq with z|z
  ·exact(T.rch q (by rw[ez];exact jP _ z)).mono lvm
  ·rcases zn.mp z with rfl|z
   ·exact r.mono lvm
   ·exact(T.rch q (by rw[ez];exact zS _ z)).mono lvm
abbrev lvO(owner:Array (Option Nat))(j:Nat):Prop:=∃k,owner[j]? =some (some k)
section
variable{lv:Nat->Prop}{m:Nat}
theorem gS:∀k p,k<=p.more->(∀i<k,lv (p.j+i))->Rch lv m p (p.j+k)
|0,p,_,_=>.here
|k+1,p,h,hl=>by
  obtain⟨n,e⟩:∃n,p.more=n+1:=⟨p.more-1,by lia⟩;refine .step (hl 0 (by lia)) ?_;have:=gS k (N4 m p) (by rw[rC e];show k<=n;lia) λi hi=>by rw[rC e];show lv (p.j+1+i);rw[show p.j+1+i=p.j+(i+1) by lia];exact hl _ (by lia)
  rw[rC e]at this ⊢;rw[show p.j+(k+1)=p.j+1+k by lia];exact this
theorem BU:∀s p j,p.more=s->(∀i≤s,lv (p.j+i))->Rch lv m (N4 m {p with j:=p.j+s,more:=0}) j->Rch lv m p j
|0,p,j,h,hl,r=>by
  refine .step (hl 0 (zh _)) ?_;have e:({p with j:=p.j+0,more:=0}:Probe)=p:=by obtain⟨a,b,c,d,f⟩:=p;have h:b=0:=h;rw[h];rfl
  rw[e]at r;exact r
|s+1,p,j,h,hl,r=>by
  refine .step (hl 0 (by lia)) ?_;refine BU s (N4 m p) j (by rw[rC h]) (λi hi=>?_) ?_
  ·rw[rC h];show lv (p.j+1+i);rw[show p.j+1+i=p.j+(i+1) by lia];exact hl _ (by lia)
  ·rw[rC h];show Rch lv m (N4 m {p with j:=p.j+1+s,more:=0}) j;rw[show p.j+1+s=p.j+(s+1) by lia];exact r
end
def kO(h:i<=m):i<=jB m i/\jB m i<=m:=by unfold jB;split<;>lia
def RV(hj:j<owner.size)(h:¬(owner.getD j (some 0)).isNone=true):lvO owner j:=by
 rw[jE,zW hj]at h;rcases e:owner[j]with _|k
 ·rw[e]at h;exact absurd rfl h
 ·exact⟨k,by rw[zW hj,e]⟩
theorem fW(hs:owner.size=m+1):∀f i p,i<=m->jq m owner f i p=some j->Rch (lvO owner) m (rs m i p) j
|0,i,p,hi,h=>by unfold jq at h;cases h
|f+1,i,p,hi,h=>by
  unfold jq at h;obtain⟨r1,r2⟩:=kO hi;split at h
  ·rename_i k hk
   cases h
   obtain⟨_,hm,hb⟩:=List.find?_range_eq_some.mp hk;have hm:=jy.mp hm;exact gS k (rs m i p) (by show k<=jB m i-i;lia) λx hx=>RV (by show i+x<_;lia) (by
    have:=hb x hx;show ¬(owner.getD (i+x) (some 0)).isNone=true;intro z;rw[z]at this
    cases this)
  ·rename_i hk;have hk:=List.find?_eq_none.mp hk;refine BU (jB m i-i) (rs m i p) j rfl (λx hx=>RV (by show i+x<_;lia) (show ¬(owner.getD (i+x) (some 0)).isNone=true from hk x (jy.mpr (by lia)))) ?_;rw[HM rfl];refine fW hs f _ _ ?_ h;show (i*5+1+p / 32) % (m+1)<=m;have:=xy (i*5+1+p / 32) (show 0<m+1 by lia);lia
def OwR(m:Nat)(H:List Int)(k:Nat)(owner:Array (Option Nat)):Prop:=∀j k',owner[j]? =some (some k')->k'<k/\∃h,H[k']? =some h/\Rch (lvO owner) m (rs m (jb h % (m+1)) (jb h)) j
def Vj{owner:Array (Option Nat)}(h:(owner.setIfInBounds j (some k))[i]? =some o):(i=j/\o=some k)\/owner[i]? =some o:=by
 rw[Jt]at h;split at h
 ·rename_i e;split at h
  ·cases h;exact .inl ⟨e.symm,rfl⟩
  ·cases h
 ·exact .inr h
def OwR.step{owner:Array (Option Nat)}(hs:owner.size=m+1)(R:OwR m H k owner)(hh:H[k]? =some h)(hf:jq m owner (yn m) (jb h % (m+1)) (jb h)=some j)(hj:owner[j]? =some none):OwR m H (k+1) (owner.setIfInBounds j (some k)):=by
 have mono:∀i,lvO owner i->lvO (owner.setIfInBounds j (some k)) i:=λi ⟨x,e⟩=>⟨x,by
  rw[Jt,if_neg (λz=>by rw[z,e]at hj;cases hj)];exact e⟩
 intro i k' e;rcases Vj e with⟨rfl,z⟩|z
 ·cases z
  exact⟨by lia,h,hh,(fW hs _ _ _ (by have:=xy (jb h) (show 0<m+1 by lia);lia) hf).mono mono⟩
 ·obtain⟨h1,x,h2,r⟩:=R i k' z;exact⟨by lia,x,h2,r.mono mono⟩
theorem oP(hF:r9 m)(H:List Int):∀hs k owner,bF m k owner->OwR m H k owner->H.drop k=hs->H.length<=m+1->k<=H.length->
 ∃owner',(hs.foldl (fun(Ml:Option (Array (Option Nat)×Nat)) h=>do
  let (owner,k) <-Ml
  let j <-jq m owner (yn m) (jb h % (m+1)) (jb h)
  pure (owner.setIfInBounds j (some k),k+1)) (some (owner,k)))=some (owner',H.length)/\bF m H.length owner'/\OwR m H H.length owner'
 |[],k,owner,I,R,e,hl,hk=>by
   have:k=H.length:=by have:=congrArg Zf e;rw[xr]at this;simp at this;lia
   subst this;exact⟨owner,rfl,I,R⟩
 |h::hs,k,owner,I,R,e,hl,hk=>by
   have hk2:k<H.length:=by have:=congrArg Zf e;rw[xr]at this;simp at this;lia
   have hh:H[k]? =some h:=by have:=congrArg (·[0]?) e;simpa using this
   obtain⟨j,ef,I2⟩:=I.step hF (by lia) h;have hi:jb h % (m+1)<=m:=by have:=xy (jb h) (show 0<m+1 by lia);lia
   have hj:owner[j]? =some none:=by
    have hl':(owner.toList.filterMap id).length=k:=by rw[I.pm.length_eq,zV]
    obtain⟨j0,hj0,e0⟩:=aM (by rw[hl',zG,I.sz];lia);rw[zN]at e0;have hm:j0<=m:=by rw[zG,I.sz]at hj0;lia
    obtain⟨j',e',ho⟩:=wL hF e0 hm 13 (yn m) _ _ (DK h) (by unfold yn;lia) hi;rw[ef]at e'
    cases e'
    exact ho
   obtain⟨o',e2,I3,R3⟩:=oP hF H hs (k+1) _ I2 (R.step I.sz hh ef hj) (by rw[<-List.drop_drop,e];rfl) hl (by lia);refine⟨o',?_,I3,R3⟩;rw[xi,<-e2];simp[ef]
theorem MQ:∀l:List α,(∀x∈l,f x=some (g x))->l.filterMap f=l.map g
|[],_=>rfl
|x::r,h=>by rw[ZX,h x (zg ..),zT,MQ r λy hy=>h y (ze _ hy)]
def vj{led plain:Bool}(hF:r9 m)(es:Array (Int×zm))(hl:es.size<=m):∃t order,Xm m finger moves led plain (es.map (·.1))=some (t,order)/\Tb t (order.filterMap (es[·]?))/\(order.filterMap (es[·]?)).toList.Perm es.toList/\t.led=led/\t.plain=plain/\t.mask=m:=by
 have I0:bF m 0 (Array.replicate (m+1) none):=⟨by simp,by simp⟩;have R0:OwR m (es.map (·.1)).toList 0 (Array.replicate (m+1) none):=λj k' e=>by rw[Array.getElem?_replicate]at e;split at e<;>cases e
 have hz:(es.map (·.1)).toList.length=es.size:=by simp
 obtain⟨o,e,I,R⟩:=oP hF (es.map (·.1)).toList (es.map (·.1)).toList 0 _ I0 R0 rfl (by lia) (zO _);rw[hz]at I R;have el:SetTable.layClean m (es.map (·.1))=some o:=by unfold SetTable.layClean;rw[<-Array.foldl_toList,e];rfl
 have memL:∀q:Nat×Nat,q∈((zP (m+1)).filterMap λj=>(o.getD j none).map (j, ·))↔o[q.1]? =some (some q.2):=fun⟨j,k⟩=>by
  rw[Ze];constructor
  ·rintro⟨x,hx,e⟩;rw[jE]at e;rcases eo:o[x]? with _|_|v
   ·rw[eo]at e;cases e
   ·rw[eo]at e;cases e
   ·rw[eo]at e
    cases e
    exact eo
  ·intro e;have e:o[j]? =some (some k):=e;have hj:=(yB.mp e).1;exact⟨j,jy.mpr (by rw[I.sz]at hj;exact hj),by rw[jE,e];rfl⟩
 have lo:=Aw I.sz;have pwL:(((zP (m+1)).filterMap λj=>(o.getD j none).map (j, ·)).map (·.1)).Pairwise (· < ·):=by
  refine jv.mpr (List.pairwise_filterMap.mpr (List.pairwise_lt_range.imp λ{a b} h x hx y hy=>?_));rcases ea:o.getD a none with _|u
  ·rw[ea]at hx;cases hx
  ·rcases eb:o.getD b none with _|v
   ·rw[eb]at hy;cases hy
   ·rw[ea]at hx;rw[eb]at hy;cases hx;cases hy;exact h
 have leL:∀j∈(((zP (m+1)).filterMap λj=>(o.getD j none).map (j, ·)).map (·.1)),j<=m:=λj hj=>by obtain⟨q,hq,rfl⟩:=zk.mp hj;have:=(yB.mp ((memL q).mp hq)).1;rw[I.sz]at this;lia
 generalize eL:((zP (m+1)).filterMap λj=>(o.getD j none).map (j, ·))=L at *;have op:(L.map (·.2)).Perm (zP es.size):=by rw[lo];exact I.pm
 have eE:((L.map (·.2)).toArray.filterMap (es[·]?)).toList=L.map λq=>es.getD q.2 (0,.none):=by rw[Array.toList_filterMap,Ym];refine MQ L λq hq=>?_;have Lu:q.2<es.size:=jy.mp (op.mem_iff.mp (zk.mpr ⟨q,hq,rfl⟩));show es[q.2]? =_;rw[jE,zW Lu];rfl
 refine⟨{mask:=m,place:=(L.map (·.1)).toArray,dummies:= #[],finger,led,moves,plain},(L.map (·.2)).toArray,by unfold Xm;rw[el];show some _=some _;rw[eL],?_,Dx op,rfl,rfl,rfl⟩;have up:Up (L.map (·.1)).toArray:=OL.mpr pwL;refine⟨rfl,up,?_,leL,hF,λq hq=>?_⟩
 ·rw[<-zG,<-zG,eE,zd,zd]
 ·rw[eE]at hq;have hq:q∈(L.map λq=>es.getD q.2 (0,Value.none)).zip (L.map (·.1)):=hq;rw[List.zip_map']at hq;obtain⟨x,hx,rfl⟩:=zk.mp hq;obtain⟨hk,h,e1,r⟩:=R x.1 x.2 ((memL x).mp hx);have eh:(es.getD x.2 (0,Value.none)).1=h:=by
   rw[jE,zW hk];rw[zN,Array.getElem?_map,zW hk]at e1;exact jd e1
  show Rch _ m (rs m (jb (es.getD x.2 (0,Value.none)).1 % (m+1)) (jb (es.getD x.2 (0,Value.none)).1)) x.1;rw[eh];refine r.mono λi ⟨k,ek⟩=>?_;have:i∈L.map (·.1):=zk.mpr ⟨(i,k),(memL (i,k)).mpr ek,rfl⟩;obtain⟨n,en⟩:=Xj.mp this;exact⟨n,(HD up rfl).mpr (by show (L.map (·.1)).toArray[n]? =some i;rw[Xk];exact en)⟩
section
variable{prog:zU}{w:jg}{A:js}{E:VSP}{s:zA}{K:Type}[DecidableEq K]{knd:KeyKind prog w K}
def Dw(n:Nat)(h:carriedByValue v=true):YV n v=pure false:=by
 cases v with
 |ref a=>simp[carriedByValue]at h
 |_=>first|rfl|(unfold YV;rfl)
def ET(hk:yi knd s.heap ks a)(h:Q false s):zt (zI prog w) A (YV 8 (.ref a)) Q E s:=by
 have hT:=hk.typeIs;obtain⟨o,items,n,ho,_,hd,hi⟩:=hk;unfold YV;refine za (Zy hT ?_);dsimp only;refine za (zf ?_);simp only[xE,zw,if_false];refine za (yf ho hd ?_);dsimp only;refine za ?_;show zt _ _ (forIn items _ _) _ _ s;rw[<-Yi];refine JU _ (λrest r s'=>r.1=none/\s'=s/\∀v∈rest,carriedByValue v=true) _ ?_ ?_ _ _ ⟨rfl,rfl,hi.byValue⟩
 ·rintro v rest r s' ⟨hr,rfl,hall⟩;rw[Dw _ (hall v zg)];refine za (zf ?_);simp only[zw,if_false];exact zf ⟨rfl,rfl,λu hu'=>hall u (ze _ hu')⟩
 ·rintro⟨r1,r2⟩ s' ⟨hr,rfl,_⟩;simp only at hr;subst hr;exact zf h
def oN(knd:KeyKind prog w K)(h:Heap)(v:zm):Prop:=∃b ks,v= .ref b/\yi knd h ks b
def pZ{stored:List zm}(hk:yi knd s.heap ks b)(hs:∀y∈stored,oN knd s.heap y)(h:Q false s):zt (zI prog w) A (searchCouldBeSeen (.ref b) stored) Q E s:=by
 unfold searchCouldBeSeen;refine za ?_;refine JU _ (λrest r s'=>r.1=none/\s'=s/\∀y∈rest,oN knd s.heap y) _ ?_ ?_ _ _ ⟨rfl,rfl,hs⟩
 ·rintro v rest r s' ⟨hr,rfl,hall⟩;obtain⟨c,kc,rfl,hc⟩:=hall v zg;dsimp only;split
  ·exact zf ⟨rfl,rfl,λu hu=>hall u (ze _ hu)⟩
  ·refine za (wpAny_eqIsQuiet_tuple hk ?_);simp only[xE,zw,if_false];refine za (wpAny_eqIsQuiet_tuple hc ?_);simp only[xE,zw,if_false];refine za (ET hk ?_);simp only[zw,if_false];refine za (ET hc ?_);simp only[zw,if_false];exact zf ⟨rfl,rfl,λu hu=>hall u (ze _ hu)⟩
 ·rintro⟨r1,r2⟩ s' ⟨hr,rfl,_⟩;simp only at hr;subst hr;exact zf h
def elT(knd:KeyKind prog w K)(q:List K×Addr):Int×zm:=(jX knd q.1,.ref q.2)
structure TpS(knd:KeyKind prog w K)(h:Heap)(L:List (List K×Addr))(es:Array (Int×zm))(t:SetTable):Prop where
 tb:Tb t es
 pm:es.toList.Perm (L.map (elT knd))
 ks:∀q∈L,yi knd h q.1 q.2
 sm:t.mask=7\/t.mask=31\/t.mask=127
 fl:es.size*5<t.mask*3
def TpS.at{i:Nat}(T:TpS knd h L es t)(he:es[i]? =some e):∃q∈L,e=elT knd q:=by have:e∈es.toList:=jz (by rw[zN];exact he);obtain⟨q,hq,rfl⟩:=zk.mp (T.pm.mem_iff.mp this);exact⟨q,hq,rfl⟩
def TpS.fits(T:TpS knd h L es t):t.fits es.size=true:=by unfold Ju Jv;rw[T.tb.sz,T.tb.dm];have:=T.fl;simp;lia
def TpS.way(T:TpS knd h L es t):t.gaveWay=false:=by unfold SetTable.gaveWay;rcases T.sm with e|e|e<;>rw[e]<;>rfl
def oO(t:SetTable)(L:List (List K×Addr))(es:Array (Int×zm))(knd:KeyKind prog w K)(ks:List K)(p:Probe):Prop:=∃i j q,q∈L/\q.1=ks/\es[i]? =some (elT knd q)/\t.slot j= .live i/\Rch (lvT t) t.mask p j
def bu{a b:Addr}{o:Obj}{ep:Nat}{ks:List K}(hu:A.units<xF)(ho:s.heap.get? a=some o)(hd:o.data= .set es ep t)(T:TpS knd s.heap L es t)(hb:yi knd s.heap ks b):
 ∀(n fuel:Nat) (p:Probe) st,st.getD (t.probeStart (jX knd ks))=p->Wk (lvT t) t.mask n p->n<fuel->n<10*yn t.mask->p.dummy=none->
  (oO t L es knd ks p->Q (.there none) s)->(¬oO t L es knd ks p->∀j,t.slot j= .empty->Rch (lvT t) t.mask p j->Q (.free j false) s)->zt (zI prog w) A (Jc a (.ref b) (jX knd ks) true fuel st) Q E s:=by
 intro n
 induction n using Nat.strongRecOn with
 |_ n ih=>
 intro fuel p st est wk hf ht dm h1 h2;obtain⟨fuel,rfl⟩:∃f,fuel=f+1:=⟨fuel-1,by lia⟩;unfold Jc;refine za (jw ho hd T.fits ?_);dsimp only;rw[T.way];simp only[zw,if_false];rw[est];rcases RT (λj=>cx T.tb.dm) n (10*yn t.mask) p wk ht with⟨j,e,e1,r,no⟩|⟨j,i,nx,n',e,e1,e2,rj,hn,w2,d2,al,bk⟩
 ·have e':t.probe (λi=>(es[i]?.map (·.1)).getD 0) (jX knd ks) p=some (.empty j p.dummy):=e;erw [e'];rw[dm];dsimp only;refine zf (h2 (fun⟨i,j',q,hq,e3,e4,e5,e6⟩=>?_) j e1 r);refine no j' i e6 e5 ?_;show (es[i]?.map (·.1)).getD 0=_;rw[e4,<-e3];rfl
 ·have e':t.probe (λi=>(es[i]?.map (·.1)).getD 0) (jX knd ks) p=some (.candidate j i nx):=e;erw [e'];dsimp only;have ei:t.place[i]? =some j:=(HD T.tb.up T.tb.dm).mp e1;have hi:i<es.size:=by
   have:=(yB.mp ei).1;rw[T.tb.sz]at this;exact this
  have ee:es[i]? =some es[i]:=zW hi;obtain⟨q,hq,eq⟩:=T.at ee;rw[eq]at ee;have hstore:∀y∈(es.filter (·.1==jX knd ks)).toList.map (·.2),oN knd s.heap y:=λy hy=>by obtain⟨x,hx,rfl⟩:=zk.mp hy;rw[Array.toList_filter]at hx;have hx:=(Jw.mp hx).1;obtain⟨q,hq,rfl⟩:=zk.mp (T.pm.mem_iff.mp hx);exact⟨q.2,q.1,rfl,T.ks q hq⟩
  have rest:zt (zI prog w) A (do
   let some (_,y):=es[i]?|unsupported "internal:set-entry"
   let equal <-Yq [y] (eqBool y (.ref b))
   let (Oc,_,t') <-setState a
   if true&&equal then return .there none
   let some same:=t'.sameMemory t.moves t.mask|unsupported "set.changed-during-lookup:is-the-new-block-at-the-old-address"
   let still <-match (if same then t'.slot j else .empty) with
    | .live i'=>match Oc[i']? with
      |some (_,y')=>do pure (if <-isSame y' y then some i' else none)
      |none=>pure none
    |_=>pure none
   match still with
   |none=>rule "set.search.anew";Jc a (.ref b) (jX knd ks) true fuel none
   |some i'=>if equal then return .there (some i')else Jc a (.ref b) (jX knd ks) true fuel (some nx)) Q E s:=by
   rw[ee];dsimp only [elT];refine za (jk (wpAny_eqBool_tuple hu (T.ks q hq) hb ?_));refine za (jw ho hd T.fits ?_);dsimp only;by_cases c:q.1=ks
   ·rw[decide_eq_true c];simp only[yr,if_true];exact zf (h1 ⟨i,j,q,hq,c,ee,e1,rj⟩)
   ·rw[decide_eq_false c];simp only[jH,zw,if_false];rw[show t.sameMemory t.moves t.mask=some true by unfold SetTable.sameMemory;rw[if_pos (by simp)]];dsimp only;rw[if_pos rfl,e1];dsimp only;rw[ee];dsimp only [elT];refine za (wpAny_isSame_ref_self (za (zf ?_)));rw[if_pos rfl];dsimp only;refine ih n' hn fuel nx (some nx) rfl w2 (by lia) (by lia) (by rw[d2,dm]) (fun⟨i',j',q',g1,g2,g3,g4,g5⟩=>h1 ⟨i',j',q',g1,g2,g3,g4,bk _ g5⟩) λhno j' g1 g2=>h2 (fun⟨i',j2,q',k1,k2,k3,k4,k5⟩=>?_) j' g1 (bk _ g2);rcases al j2 i' k5 k4 (by show (es[i']?.map (·.1)).getD 0=_;rw[k3,<-k2];rfl)with rfl|k
    ·rw[e1]at k4
     cases k4
     rw[ee]at k3;have:=congrArg (λo=>o.map (·.2)) k3;have:q.2=q'.2:=by have:=jd this;injection this
     have h3:=T.ks q hq;rw[this]at h3;exact c ((h3.inj (T.ks q' k1)).trans k2)
    ·exact hno ⟨i',j2,q',k1,k2,k3,k4,k⟩
  split
  ·refine za (pZ hb hstore ?_);simp only[zw,if_false];exact rest
  ·exact rest
end
section
variable{prog:zU}{w:jg}{A:js}{E:VSP}{s:zA}{K:Type}[DecidableEq K]{knd:KeyKind prog w K}{a b:Addr}{o:Obj}{ep:Nat}{t t':SetTable}{es Oc:Array (Int×zm)}{L:List (List K×Addr)}{ks:List K}
def NL(x:yi knd h ks b)(ho:h.get? a=some o)(hd:o.data= .set es ep t)(hs:jZ a h h'):yi knd h' ks b:=by
 obtain⟨o',items,n,ho',hc,Od,hi⟩:=x;have Mo:b≠a:=by rintro rfl;obtain rfl:o'=o:=jd (ho'.symm.trans ho);rw[hd]at Od;exact nomatch Od
 exact⟨o',items,n,(hs.2 b Mo).trans ho',hc,Od,hi⟩
def RX(r:Rch lv m p j)(h:p.j+p.more<=m):j<=m:=by
 induction r with
 |here=>lia
 |@step p j hl k ih=>
   refine ih ?_;by_cases c:p.more>0
   ·obtain⟨n,e⟩:∃n,p.more=n+1:=⟨p.more-1,by lia⟩;rw[rC e];show p.j+1+n<=m;lia
   ·rw[HM (by lia)];have hi:(jo m p.i p.perturb).1<=m:=by
     show (p.i*5+1+p.perturb / 32) % (m+1)<=m;have:=xy (p.i*5+1+p.perturb / 32) (show 0<m+1 by lia);lia
    obtain⟨r1,r2⟩:=kO hi;show (jo m p.i p.perturb).1+(jB m (jo m p.i p.perturb).1-(jo m p.i p.perturb).1)<=m;lia
def Wg(t:SetTable)(h:Int):(t.probeStart h).j+(t.probeStart h).more<=t.mask:=by
 have hi:jb h % (t.mask+1)<=t.mask:=by have:=xy (jb h) (show 0<t.mask+1 by lia);lia
 obtain⟨r1,r2⟩:=kO hi;show jb h % (t.mask+1)+(jB t.mask (jb h % (t.mask+1))-jb h % (t.mask+1))<=t.mask;lia
def x9(knd:KeyKind prog w K)(h:Heap)(a:Addr)(L:List (List K×Addr)):Prop:=∃o es ep t,h.get? a=some o/\o.ExactSet/\o.data= .set es ep t/\TpS knd h L es t/\t.led= (!byT w)/\(0<es.size->t.plain=false)
def bM(ho:s.heap.get? a=some o)(hd:o.data= .set es ep t):(s.heap.update a (xx Oc t')).get? a=some {o with data:=.set Oc (ep+1) t'}:=by have:=jT (xx Oc t') ho (by rw[putSet_of Oc t' hd];rfl);rw[putSet_of Oc t' hd]at this;exact this
def Tb.plain(T:Tb t es):Tb {t with plain:=false} es:=⟨T.dm,T.up,T.sz,T.le,T.fu,T.rch⟩
def Br(ho:s.heap.get? a=some o)(Nr:o.ExactSet)(hd:o.data= .set es ep t)(tb:Tb t es)(pm:es.toList.Perm (L.map (elT knd)))(hk:∀q∈L,yi knd s.heap q.1 q.2)(hm:t.mask=7/\es.size=5\/t.mask=31/\es.size=19)(hl:t.led= (!byT w))(No:t.plain=false)
 (h:∀h',jZ a s.heap h'->x9 knd h' a L->R () {s with heap:=h'}):zt (zI prog w) A (setRelay a (yy es.size)) R E s:=by
 have hg:yy es.size=es.size*4:=by unfold yy;rw[if_neg (by lia)]
 have hsa:ZM (es.size*4)-1=31/\es.size=5\/ZM (es.size*4)-1=127/\es.size=19:=by
  rcases hm with⟨_,e⟩|⟨_,e⟩<;>rw[e]
  ·exact .inl ⟨by decide,rfl⟩
  ·exact .inr ⟨by decide,rfl⟩
 have hF:r9 (ZM (es.size*4)-1):=by
  rcases hsa with⟨e,_⟩|⟨e,_⟩<;>rw[e]
  ·exact tq
  ·exact Kz
 have hfit:t.fits es.size=true:=by unfold Ju Jv;rw[tb.sz,tb.dm];simp;lia
 obtain⟨t',order,el,T',hop,h1,h2,h3⟩:=vj hF es (by lia);have hos:(order.filterMap (es[·]?)).size=es.size:=by rw[<-zG,hop.length_eq,zG]
 rw[hg];unfold setRelay;refine za (jw ho hd hfit ?_);refine yk (λz=>absurd z (Nat.not_lt.mpr (zq (show ZM (es.size*4)<=128 by lia) (by decide)))) (λ_=>?_);refine za ?_;have er:t.relaid (es.map (·.1)) (es.size*4)=some (t',order):=el;rw[er];refine yk (λz=>absurd z (by rw[hos];simp)) (λ_=>zf ?_);refine YT ho hd ?_ (YW (by rw[hos];exact Nat.lt_of_le_of_lt (show es.size<=63 by lia) (by decide)));have sb:=yc s.heap a (xx (order.filterMap (es[·]?)) t');refine h _ sb ⟨_,_,_,t',bM ho hd,Nr,rfl,⟨T',hop.trans pm,λq hq=>NL (hk q hq) ho hd sb,?_,?_⟩,h1.trans hl,λ_=>h2.trans No⟩
 ·rw[h3];lia
 ·rw[h3,hos];lia
def TpS.len(T:TpS knd h L es t):es.size=L.length:=by have:=T.pm.length_eq;rw[zd,zG]at this;exact this
def OY(hu:A.units<xF)(hS:x9 knd s.heap a L)(hb:yi knd s.heap ks b)(hroom:L.length+1<64)(hv:∀ {R},R false s->zt (zI prog w) A (Yc 8 (.ref b)) R E s)
 (h:∀r h',jZ a s.heap h'->x9 knd h' a (if ks∈L.map (·.1)then L else L++[(ks,b)])->Q r {s with heap:=h'}):zt (zI prog w) A (JB a (.ref b) (jX knd ks)) Q E s:=by
 have Mt:=hS;obtain⟨o,es,ep,t,ho,Nr,hd,T,hl,No⟩:=hS;have hn:=T.len;have fl:=T.fl;have sm:=T.sm;unfold JB setAddHashedIn;refine jk (za (jw ho hd T.fits ?_));dsimp only;have hbs:byScan (.ref b) es=false:=rfl;rw[hbs];simp only[zw,if_false];obtain⟨j0,hj0,nj0⟩:∃j,j<=t.mask/\¬lvT t j:=by
  refine jJ λz=>?_;have all:∀j∈zP (t.mask+1),j∈t.place.toList:=λj hj=>by have hj:=jy.mp hj;obtain⟨i,e⟩:=jJ λy=>z ⟨j,by lia,y⟩;exact jz (by rw[zN];exact(HD T.tb.up T.tb.dm).mp e)
  have:=(Jj).length_le_of_subset all;rw[zV,zG,T.tb.sz]at this;lia
 obtain⟨n,hnn,wk⟩:=Pc T.tb.fu nj0 hj0 (jX knd ks);have on_iff:oO t L es knd ks (t.probeStart (jX knd ks))↔ks∈L.map (·.1):=by
  constructor
  ·rintro⟨i,j,q,hq,rfl,_⟩;exact zk.mpr ⟨q,hq,rfl⟩
  ·intro hm;obtain⟨q,hq,rfl⟩:=zk.mp hm;have:elT knd q∈es.toList:=T.pm.mem_iff.mpr (zk.mpr ⟨q,hq,rfl⟩);obtain⟨i,hi⟩:=Xj.mp this;have Lu:i<es.size:=by
    have:=(xh.mp hi).1;rw[zG]at this;exact this
   have ep:t.place.toList[i]? =some (t.place[i]'(by rw[T.tb.sz];exact Lu)):=by rw[zN,zW]
   refine⟨i,_,q,hq,rfl,by rw[<-zN];exact hi,(HD T.tb.up T.tb.dm).mpr (by rw[<-zN];exact ep),?_⟩;exact T.tb.rch (elT knd q,_) (jz (by rw[xg];exact⟨hi,ep⟩))
 refine za ?_;unfold setSearch;refine bu hu ho hd T hb n 100000 (t.probeStart (jX knd ks)) none rfl wk (zL hnn (by unfold yn;lia)) hnn rfl (λon=>?_) λno j ej rj=>?_
 ·have hk:=on_iff.mp on;dsimp only;refine zf ?_;have e:s= {s with heap:=s.heap}:=by cases s;rfl
  have:=h false s.heap (Heap.SameBut.refl a s.heap) (by rw[if_pos hk];exact Mt);rw[e];exact this
 ·have hk:ks∉L.map (·.1):=λz=>no (on_iff.mpr z);rw[if_neg hk]at h;dsimp only;refine za (jw ho hd T.fits ?_);dsimp only;have hjm:j<=t.mask:=RX rj (Wg t _);obtain⟨T1,p1,m1,l1,pl1,mv1⟩:=T.tb.put ej hjm rj;have pm1:(jU es (t.put j).2 (jX knd ks,Value.ref b)).toList.Perm ((L++[(ks,b)]).map (elT knd)):=by
   rw[jh];exact(p1.trans ((T.pm.cons _))).trans (JP ..).symm
  have sz1:(jU es (t.put j).2 (jX knd ks,Value.ref b)).size=es.size+1:=by rw[<-zG,p1.length_eq,zM,zG]
  have hk1:∀q∈L++[(ks,b)],yi knd s.heap q.1 q.2:=λq hq=>(zB.mp hq).elim (T.ks q) λz=>by rw[zi.mp z];exact hb
  have tail:∀t2:SetTable,Tb t2 (jU es (t.put j).2 (jX knd ks,Value.ref b))->t2.mask=t.mask->t2.led= (!byT w)->t2.plain=false->zt (zI prog w) A (do
   storeSet a (jU es (t.put j).2 (jX knd ks,Value.ref b)) t2
   if !false&&t2.tooFull then setRelay a (yy (es.size+1))
   return true) Q E s:=λt2 T2 m2 l2 q2=>by
   have sb:=yc s.heap a (xx (jU es (t.put j).2 (jX knd ks,Value.ref b)) t2);refine za (YT ho hd ?_ (YW (by rw[sz1];exact Nat.lt_of_le_of_lt (show es.size+1<=63 by lia) (by decide))));have tf:t2.tooFull=decide ((es.size+1)*5>=t.mask*3):=by unfold SetTable.tooFull Jv;rw[T2.sz,T2.dm,m2,sz1];rfl
   rw[tf];by_cases c:(es.size+1)*5>=t.mask*3
   ·rw[decide_eq_true c];simp only[Zn,jD,if_true];refine za ?_;have:=Br (s:={s with heap:=s.heap.update a (xx (jU es (t.put j).2 (jX knd ks,Value.ref b)) t2)}) (E:=E) (A:=A) (R:=λ_ s'=>zt (zI prog w) A (pure true) Q E s') (bM ho hd) Nr rfl T2 pm1 (λq hq=>NL (hk1 q hq) ho hd sb) (by rw[m2,sz1];lia) l2 q2 λh' sb' S'=>zf (h true h' (sb.trans sb') S');rw[sz1]at this;exact this
   ·rw[decide_eq_false c];simp only[Zn,jD,zw,if_false];refine zf (h true _ sb ⟨_,_,_,t2,bM ho hd,Nr,rfl,⟨T2,pm1,λq hq=>NL (hk1 q hq) ho hd sb,by rw[m2];exact sm,by rw[m2,sz1];lia⟩,l2,λ_=>q2⟩)
  rw[pl1];rcases hp:t.plain with _|_
  ·simp only[zw,if_false];refine za (zf ?_);simp only[if_true];exact tail _ T1 m1 (l1.trans hl) (pl1.trans hp)
  ·simp only[if_true];refine za (hv ?_);simp only[zw,if_false];exact tail _ T1.plain m1 (l1.trans hl) rfl
end
end DL
namespace DL
open PySem PySem.Spec L2
open PyProof.Rows hiding St
section
variable{K:Type}[DecidableEq K]
def ddP(L:List (List K×Addr))(q:List K×Addr):List (List K×Addr):=if q.1∈L.map (·.1)then L else L++[q]
theorem RL:∀(l L:List (List K×Addr)),(l.foldl ddP L).length<=L.length+l.length
|[],L=>zh _
|q::l,L=>by
  have:=RL l (ddP L q);rw[xi,zM];have h:(ddP L q).length<=L.length+1:=by unfold ddP;split<;>simp
  lia
theorem FM:∀(l L:List (List K×Addr)) q,q∈l.foldl ddP L->q∈L\/q∈l
|[],L,q,h=>.inl h
|x::l,L,q,h=>by
  rcases FM l (ddP L x) q h with h|h
  ·unfold ddP at h;split at h
   ·exact .inl h
   ·rcases zB.mp h with h|h
    ·exact .inl h
    ·exact .inr (by rw[zi.mp h];exact zg ..)
  ·exact .inr (ze _ h)
end
section
variable{prog:zU}{w:jg}{A:js}{R:Result->zA->Prop}{I:Addr}{fp wr:List Addr}{G:Array GenState->Array GenState->Prop}{n:Nat}{P:Nat->zm->Prop}{St:Nat->zA->Prop}{K:Type}[DecidableEq K]{knd:KeyKind prog w K}
def kH(x:yi knd h ks b)(k:∀o,h.get? b=some o->h'.get? b=some o):yi knd h' ks b:=by obtain⟨o,items,n,ho,r⟩:=x;exact⟨o,items,n,k o ho,r⟩
def x9.congr(hS:x9 knd h a L)(e:∀o,h.get? a=some o->h'.get? a=some o)(k:∀q∈L,∀o,h.get? q.2=some o->h'.get? q.2=some o):x9 knd h' a L:=by obtain⟨o,es,ep,t,ho,Nr,hd,T,r⟩:=hS;exact⟨o,es,ep,t,e o ho,Nr,hd,⟨T.tb,T.pm,λq hq=>kH (T.ks q hq) (k q hq),T.sm,T.fl⟩,r⟩
def VM(knd:KeyKind prog w K)(q:List K×Addr):Prop:=∀ {A:js} {E:VSP} {s:zA} {R:Bool->zA->Prop},yi knd s.heap q.1 q.2->R false s->zt (zI prog w) A (Yc 8 (.ref q.2)) R E s
def io(W:WalksS prog w A.in1 I fp wr G n P St)(S:Addr)(hSf:S∉fp)(xs:List (List K×Addr))(hn:xs.length=n)(hval:∀i v,P i v->∃q,xs[i]? =some q/\v= .ref q.2)(hb:n+1<64)(hu:A.units+8<xF)(hw:∀q∈xs,q.2∉S::wr)(hv:∀q∈xs,VM knd q):
 ∀k i (s:zA),n-i=k->i<=n->St i s->(∀q∈xs,yi knd s.heap q.1 q.2)->x9 knd s.heap S ((xs.take i).foldl ddP [])->
  (∀s',Moved (S::wr) G s s'->x9 knd s'.heap S (xs.foldl ddP [])->R (.ok (.ret .none)) s')->
  xZ (zI prog w) A (.builtin "set.update.loop" ⟨[.ref S,.ref I], []⟩) R s:=by
 have hSw:S∉wr:=λh=>hSf (W.sub _ h);have hsub:∀b∈wr,b∈S::wr:=λb hb=>ze _ hb;have sub:∀i,∀q∈(xs.take i).foldl ddP [],q∈xs:=λi q hq=>Xp ((FM _ _ q hq).resolve_left λh=>nomatch h);have nw:∀q∈xs,q.2∉wr:=λq hq z=>hw q hq (ze _ z);intro k
 induction k with
 |zero=>
   intro i s hk hi hst ht hS hR;have hin:i=n:=by omega
   subst hin;refine ym Zk ?_;rw[jM yU _];show zt _ A.in1 (yW (.ref I) >>= _) _ _ s;refine za (W.done s _ _ hst λs' hm=>?_);show zt _ A.in1 (ret Value.none) _ _ s';have sb:=sub i;rw[xv (by omega)]at hS sb;exact zf (hR s' (hm.mono hsub) (hS.congr (λo e=>hm.heap S _ hSw e) λq hq o e=>hm.heap _ _ (nw q (sb q hq)) e))
 |succ k ih=>
   intro i s hk hi hst ht hS hR;have Lu:i<n:=by omega
   refine ym Zk ?_;rw[jM yU _];show zt _ A.in1 (yW (.ref I) >>= _) _ _ s;refine za (W.item i s _ _ Lu hst λv s' hP hst' hm=>?_);obtain⟨q,ex,rfl⟩:=hval i v hP;have hq:q∈xs:=jz ex;have Mt:=hS.congr (λo e=>hm.heap S _ hSw e) λq hq o e=>hm.heap _ _ (nw q (sub i q hq)) e;have ht':∀q∈xs,yi knd s'.heap q.1 q.2:=λq hq=>kH (ht q hq) λo e=>hm.heap _ _ (nw q hq) e;show zt _ A.in1 (Yq [Value.ref q.2] (setAdd S (.ref q.2)) >>= _) _ _ s';refine za (jk ?_);unfold setAdd;refine jk ?_;have hu1:A.in1.units<xF:=by rw[Around.in1_units];omega
   refine za (wpAny_pyHash_tuple hu1 (ht' q hq) ?_);have hl:=RL (xs.take i) [];rw[jW]at hl;refine OY hu1 Mt (ht' q hq) (by simp at hl;omega) (λhr=>hv q hq (ht' q hq) hr) λb h' hsb hS2=>?_;have e2:(xs.take (i+1)).foldl ddP []=ddP ((xs.take i).foldl ddP []) q:=by rw[List.take_succ,ex,List.foldl_append];rfl
   refine zf ⟨xc yU _,ih (i+1) _ (by omega) Lu (W.frame _ s' _ _ hst' (by simp) λb hb o e=>?_) (λq hq=>kH (ht' q hq) λo e=>?_) (by rw[e2];exact hS2) λs'' hm'' hS''=>?_⟩
   ·rw[hsb.2 b (λh:b=S=>hSf (by rw[<-h];exact hb))];exact e
   ·rw[hsb.2 _ (λh=>hw q hq (by rw[h];exact zg ..))];exact e
   ·refine hR s'' (Moved.trans W.gtrans ((hm.mono hsub).then_heap (by simp) λb o hb e=>?_) hm'') hS'';rw[hsb.2 b (λh:b=S=>hb (by rw[h];exact zg))];exact e
end
def Du:Tb (Jf f m led) #[]:=⟨rfl,λi k a b ha=>by simp[Jf]at ha,rfl,λj hj=>by simp[Jf]at hj,im,λq hq=>by simp at hq⟩
def Qv{K:Type}[DecidableEq K]{knd:KeyKind prog w K}{a:Addr}(e:h.get? a=some {cls:=.type "set",dict:=none,data:=.set #[] 0 (.fresh 0 0 (!byT w))}):x9 knd h a []:=
 ⟨_, #[],0,_,e,⟨rfl,rfl,rfl⟩,rfl,⟨Du,.nil,λ_ h=>(nomatch h),.inl rfl,by show 0*5<7*3;decide⟩,rfl,λh=>by simp at h⟩
section
variable{prog:zU}{w:jg}{A:js}{E:VSP}{s:zA}{K:Type}[DecidableEq K]{knd:KeyKind prog w K}{items:Array zm}{xs:List (List K×Addr)}{Q:VSP}
def ah
 (hh:A.handled=none) (hl:s.heap.IsList l items) (hi:items.toList=xs.map λq=>Value.ref q.2) (ht:∀q∈xs,yi knd s.heap q.1 q.2) (hv:∀q∈xs,VM knd q) (hu:A.units+64<xF) (hb:items.size+1<64)
 (h:∀h' tk,x9 knd h' s.heap.objs.size (xs.foldl ddP [])->(∀b o,s.heap.get? b=some o->h'.get? b=some o)->Q (.ref s.heap.objs.size) {s with heap:=h',toks:=tk}):
 zt (zI prog w) A (call (.type "set") [.ref l]) Q E s:=
 kQ (Z:=λh'=>x9 knd h' s.heap.objs.size (xs.foldl ddP [])) hh hl (λA' I G St s1 R hA hI W st hn hS hk hR=>io W _ hn xs (by rw[<-zG,hi,zd]) (λi v hv=>by
  have hv:items[i]? =some v:=hv;rw[<-zN,hi,jl]at hv;obtain⟨q,e,rfl⟩:=Zg.mp hv;exact⟨q,e,rfl⟩) hb (by omega) (λq hq=>by
  obtain⟨o,_,_,ho,_⟩:=ht q hq;have:=zC ho;simp only[zn,zF,or_false,not_or];exact⟨zQ this,zQ (Xe this hI)⟩) hv (items.size-0) 0 _ (by omega) (zO _) st (λq hq=>kH (ht q hq) (hk _)) (Qv hS) hR) h
end
def Tk{l m:List β}(h:l.Perm m):∀ {L},m=L.map f->∃L':List α,l=L'.map f/\L'.Perm L:=by
 induction h with
 |nil=>exact λ{L} e=>⟨L,e,.refl _⟩
 |cons x h ih=>
   intro L e;rcases L with _|⟨q,L⟩
   ·cases e
   ·obtain⟨e1,e2⟩:=yw e;obtain⟨L',e3,p⟩:=ih e2;exact⟨q::L',by rw[zT,e1,e3],p.cons q⟩
 |swap x y l=>
   intro L e;rcases L with _|⟨q,_|⟨r,L⟩⟩
   ·cases e
   ·cases (yw e).2
   ·obtain⟨e1,e2⟩:=yw e;obtain⟨e3,e4⟩:=yw e2;exact⟨r::q::L,by rw[zT,zT,e1,e3,e4],.swap ..⟩
 |trans _ _ ih1 ih2=>
   intro L e;obtain⟨L1,e1,p1⟩:=ih2 e;obtain⟨L2,e2,p2⟩:=ih1 e1;exact⟨L2,e2,p2.trans p1⟩
section
variable{prog:zU}{w:jg}{A:js}{E:VSP}{s:zA}{a I:Addr}{K:Type}[DecidableEq K]{knd:KeyKind prog w K}{L:List (List K×Addr)}
def Bq(hh:A.handled=none)(hS0:x9 knd s.heap a L)
 (h:∀h' d' tk (Of:List (List K×Addr)),(∀b o,s.heap.get? b=some o->h'.get? b=some o)->Of.Perm L->R (Of.map λq=>Value.ref q.2) {s with heap:=h',drawn:=d',toks:=tk}):
 zt (zI prog w) A (collect (.ref a)) R E s:=by
 obtain⟨o,es,ep,t,ho,hx,hd,T,hl,No⟩:=hS0;have hpm:=T.pm.map (·.2);rw[jF]at hpm;have hb:es.size<100:=by have:=T.fl;have:=T.sm;lia
 refine NU hh ⟨o,es,ep,t,ho,hx,hd,hpm,zq (yj hb) (by decide),T.fits,hl,λz=>No (by omega)⟩ λh' d' tk us hk hp _=>?_;obtain⟨L',rfl,e2⟩:=Tk hp rfl;exact h h' d' tk L' hk e2
end
section
variable{prog:zU}{w:jg}{A:js}{E:VSP}{s:zA}
def Ka{n:Nat}{vs:List zm}{qs:List (Int×Str)}(hl:qs.length=vs.length)(Nn:vs.length<64)(ho:s.heap.get? a=some (jQ "list" vs.toArray n))(hp:∀(i:Nat) q,qs[i]? =some q->∃u,vs[i]? =some u/\kC s.heap u q)(nd:qs.Nodup)
 (h:∀(h':Heap) e (p:List Nat),p.Perm (zP vs.length)->p.Pairwise (λi j=>S2 (qs.getD i (0, "")) (qs.getD j (0, ""))=true)->(∀b o,b≠a->s.heap.get? b=some o->h'.get? b=some o)->h'.get? a=some (jQ "list" (ya (p.map λi=>vs.getD i .none)) e)->P (.done (.ret .none)) {s with heap:=h'}):
 zt (zI prog w) A (yC.«list.sort» ⟨[.ref a], []⟩) P E s:=by
 have ha:a<s.heap.objs.size:=zC ho;obtain⟨e1,ho1⟩:∃e1,(s.heap.update a (je λ_=>(#[]:Array zm))).get? a=some (jQ "list" #[] e1):=⟨_,Xz ho λ_=> #[]⟩;have k1:∀b o,b≠a->s.heap.get? b=some o->(s.heap.update a (je λ_=>(#[]:Array zm))).get? b=some o:=λb o hb e=>by rw[ZV _ _ _ _ hb];exact e
 rw[list_sort_plain];refine za (listItems_at ho rfl (za (ZZ ho rfl ?_ (by rw[zr,xU];lia) (zO _))));refine za (YX ho1 rfl (za (YD ?_ (by show vs.length<=_;rw[xU];lia))));refine za (xL ?_ (zO _));refine jk ?_;have Nl:(((s.heap.update a (je λ_=>(#[]:Array zm))).push (jQ "tuple" vs.toArray 0)).push (jQ "list" #[] 0)).get? a=some (jQ "list" #[] e1):=zc _ (zc _ ho1);have k2:∀b o,b≠a->s.heap.get? b=some o->(((s.heap.update a (je λ_=>(#[]:Array zm))).push (jQ "tuple" vs.toArray 0)).push (jQ "list" #[] 0)).get? b=some o:=λb o hb e=>zc _ (zc _ (k1 b o hb e));show zt (zI prog w) A _ P E {s with heap:=((s.heap.update a (je λ_=>(#[]:Array zm))).push (jQ "tuple" vs.toArray 0)).push (jQ "list" #[] 0)};generalize ((s.heap.update a (je λ_=>(#[]:Array zm))).push (jQ "tuple" vs.toArray 0)).push (jQ "list" #[] 0)=hh at Nl k2;dsimp only;have hp':∀(i:Nat) q,qs[i]? =some q->∃u,vs[i]? =some u/\kC hh u q:=λi x e=>by
  obtain⟨u,e1,b,t,t',rfl,o,hb,hc,n',hd⟩:=hp i x e;refine⟨_,e1,b,t,t',rfl,o,k2 b _ (λz=>?_) hb,hc,n',hd⟩;rw[z,ho]at hb
  cases hb
  simp[jQ]at hc
 have fin:∀p:List Nat,p.Perm (zP vs.length)->p.Pairwise (λi j=>S2 (qs.getD i (0, "")) (qs.getD j (0, ""))=true)->P (.done (.ret .none)) {s with heap:=hh.update a (je λ_=>ya (p.map λi=>vs.getD i .none))}:=λp pm pw=>by obtain⟨e,he⟩:∃e,(hh.update a (je λ_=>ya (p.map λi=>vs.getD i .none))).get? a=some (jQ "list" (ya (p.map λi=>vs.getD i .none)) e):=⟨_,Xz Nl λ_=>_⟩;exact h _ e p pm pw (λb o hb q=>by rw[ZV _ _ _ _ hb];exact k2 b o hb q) he
 have tail:∀p:List Nat,p.Perm (zP vs.length)->(ya (p.map λi=>vs.getD i Value.none)).size<=zj+1:=λp pm=>by rw[zr,zd,pm.length_eq,zV,xU];lia
 by_cases h2:vs.toArray.size<2
 ·rw[if_pos h2,if_pos h2];refine za (zf ?_);rw[StateT.run_pure];refine za (zf ?_);dsimp only;have hn:vs.length<2:=by simpa using h2
  have hv:(Xn (SortSt.mk' general' (vs.toArray.zip vs.toArray) #[] 7 none)).map (·.2)=ya ((zP vs.length).map λi=>vs.getD i Value.none):=by
   show (vs.toArray.zip vs.toArray).map (·.2)=_;apply Zx.mp;rw[Array.toList_map];apply xQ
   ·simp
   ·intro i hi hj;simp at hi hj ⊢;simp[hj]
  rw[hv];refine za (YX Nl rfl (za (ZZ Nl rfl ?_ (zO _) (tail _ (.refl _)))));simp only[bne_self_eq_false,zw,if_false];refine zf (fin _ (.refl _) ?_)
  match hn:vs.length,hn with
  |0,_=>simp
  |1,_=>simp[Xf]
 ·rw[if_neg h2,if_neg h2];have hn2:2<=vs.length:=by simpa using h2
  let lt:Nat->Nat->Bool:=λi j=>S2 (qs.getD i (0, "")) (qs.getD j (0, ""))
  have gq:∀i,i<vs.length->qs[i]? =some (qs.getD i (0, "")):=λi hi=>by rw[zK,zD (by lia)];rfl
  have O:dB lt vs.length:=⟨λi j k h1 h2=>AE h1 h2,λi j hi hj hij h=>gG (λee=>hij (by
   have e1:=gq i hi;have e2:=gq j hj;rw[ee]at e1;have li:i<qs.length:=by lia
   exact(List.getElem?_inj li nd).mp (e1.trans e2.symm))) h⟩
  obtain⟨kd,hkd,Lu⟩:=qc (s:={s with heap:=hh}) hl hn2 (.inl hp');refine za (hkd _ _ ?_);have run:=tOk.wp (λi j C hi hj hC=>Lu i j _ _ C (gq i hi) (gq j hj) hC) _ (Vc O hn2);refine za (yg (PySem.W.kat_run (Q:=λMi s'=>∃p:Array Nat,p.size=vs.length/\Xn Mi=p.map (PySem.W.kas_item (vs.toArray.zip vs.toArray))/\failedOf Mi=none/\s'= {s with heap:=hh}/\O1 p vs.length/\F9 lt p vs.length) rfl hn2 Nn (λp Mi s' a1 a2 a3 a4=>⟨p,a1,a2,a3,a4⟩) run) ?_ λ_ _ x=>x);rintro⟨⟨⟩,Mi⟩ s' ⟨p,hp,har,hf,rfl,P1,U⟩;dsimp only;rw[PySem.W.kat_snds rfl har];refine za (YX Nl rfl (za (ZZ Nl rfl ?_ (zO _) (tail _ P1.pm))));rw[hf];simp only[bne_self_eq_false,zw,if_false];refine zf (fin _ P1.pm ?_);rw[xS];intro i j hi hj hij;have hi':i<p.size:=by simpa using hi
  have hj':j<p.size:=by simpa using hj
  have:=U i j hij (by lia);simpa [YS,hi',hj',lt]using this
end
abbrev PK:=List Key×Addr
def isP(q:PK):Prop:=∃n z,q.1= [.inl n,.inr z]
def u4:PK->Int×Str
|([.inl n,.inr z],_)=>(n,z)
|_=>(0, "")
section
variable{prog:zU}{w:jg}{A:js}{E:VSP}{s:zA}
def SR(hq:isP q)(x:yi (N8 prog w) h q.1 q.2):kC h (.ref q.2) (u4 q):=by
 obtain⟨n,z,e⟩:=hq;obtain⟨o,items,m,ho,hc,hd,hi⟩:=x;obtain⟨ks,b⟩:=q;obtain rfl:ks= [.inl n,.inr z]:=e
 cases hi':items.toList with
 |nil=>rw[hi']at hi;cases hi
 |cons v1 r1=>
   rw[hi']at hi
   cases hi with
   |cons h1 hr=>
     cases hr with
     |cons h2 hr2=>
       cases hr2
       have h1:iB (.inl n) _=true:=h1;have h2:iB (.inr z) _=true:=h2;rcases M6 h1 with⟨i,t,e1,rfl⟩|⟨x,t,e1,rfl⟩
       ·cases e1
        rcases M6 h2 with⟨i,t',e2,rfl⟩|⟨x,t',e2,rfl⟩
        ·cases e2
        ·cases e2
         exact⟨b,t,t',rfl,o,ho,hc,m,by rw[hd];congr 1;exact Zx.mp hi'⟩
       ·cases e1
def Fw(hq:isP q):VM (N8 prog w) q:=λ{A E s R} x hr=>by
 have hT:=x.typeIs;obtain⟨b,t,t',e,o,ho,hc,m,hd⟩:=SR hq x
 cases e
 unfold Yc;refine za (Xw hT F.slot_tuple_hash.lookup ?_);dsimp only;refine za (yf ho hd ?_);refine za ?_;show zt _ _ (forIn #[Value.int _ t,Value.str _ t'] _ _) _ _ s;rw[<-Yi];simp only[Zb,Yl];have h1:∀i t,Yc 7 (.int i t)=pure true:=λi t=>by unfold Yc;rfl
 have h2:∀i t,Yc 7 (.str i t)=pure false:=λi t=>by unfold Yc;rfl
 simp only[h1,h2,pure_bind,xE,zw,if_false,Zn,if_true];exact zf (zf hr)
def UP(hq:isP q)(hr:isP r)(e:u4 q=u4 r):q.1=r.1:=by
 obtain⟨ks,b⟩:=q;obtain⟨ls,c⟩:=r;obtain⟨n,z,rfl⟩:=hq;obtain⟨m,y,rfl⟩:=hr
 cases e
 rfl
def Cg(hh:A.handled=none)(hS0:x9 (N8 prog w) s.heap a L)(hn:L.length<64)(hk:∀q∈L,isP q)(nd:(L.map (·.1)).Nodup)
 (h:∀(h1 h':Heap) d' (tk e:Nat) (L':List PK),(∀b o,s.heap.get? b=some o->h1.get? b=some o)->(∀b o,h1.get? b=some o->h'.get? b=some o)->h'.get? h1.objs.size=some (jQ "list" (L'.map λq=>Value.ref q.2).toArray e)->L'.Perm L->(L'.map u4).Pairwise (λx y=>S2 x y=true)->Q (.ref h1.objs.size) {s with heap:=h',drawn:=d',toks:=tk}):
 zt (zI prog w) A (call (.builtin "sorted") [.ref a]) Q E s:=by
 have hz:L.length<=zj:=zq (yj hn) (by decide);have hks:∀q∈L,yi (N8 prog w) s.heap q.1 q.2:=by obtain⟨o,es,ep,t,ho,Nr,hd,T,r⟩:=hS0;exact T.ks
 refine yF YY Yv Yw (Yx _) ?_;unfold yC.«sorted»;refine za (zf ?_);refine za (Bq hh hS0 λh1 d' tk L1 hkeep hp1=>?_);have hl:(L1.map λq=>Value.ref q.2).length=L.length:=by rw[zd,hp1.length_eq]
 refine za (xL ?_ (by rw[hl];exact hz));have hoL:(h1.push (jQ "list" (L1.map λq=>Value.ref q.2).toArray 0)).get? h1.objs.size=some (jQ "list" (L1.map λq=>Value.ref q.2).toArray 0):=zu _ rfl;have nd1:(L1.map u4).Nodup:=by have n1:(L1.map (·.1)).Nodup:=(hp1.map (·.1)).nodup_iff.mpr nd;rw[List.Nodup,jv]at n1 ⊢;exact n1.imp_of_mem λ{x y} hx hy Mo e=>Mo (UP (hk x (hp1.mem_iff.mp hx)) (hk y (hp1.mem_iff.mp hy)) e)
 refine za (jk (jn ZE ⟨_,hoL,rfl⟩ Zj (Ka (by rw[zd,zd]) (by rw[hl];exact hn) hoL (λi q e=>?_) nd1 λh' e p pm pw k1 k2=>⟨_,rfl,?_⟩) (ZG _)))
 ·rw[jl]at e;obtain⟨x,ex,rfl⟩:=Zg.mp e;have hx:=hp1.mem_iff.mp (jz ex);refine⟨.ref x.2,by rw[jl,ex];rfl,?_⟩;obtain⟨b,t,t',eb,o,ho,r⟩:=SR (hk x hx) (hks x hx);exact⟨b,t,t',eb,o,zc _ (hkeep _ _ ho),r⟩
 ·rw[zd]at pm;have lt:∀i∈p,i<L1.length:=λi hi=>jy.mp (pm.mem_iff.mp hi);have eo:(p.map λi=>(L1.map λq=>Value.ref q.2).getD i .none)= (p.map λi=>L1.getD i ([],0)).map λq=>Value.ref q.2:=by
   rw[jF];refine yo λi hi=>?_;have:=lt i hi;simp[zK,this]
  rw[eo]at k2;refine zf ⟨_,rfl,h h1 h' d' tk e (p.map λi=>L1.getD i ([],0)) hkeep (λb o hb=>k1 b o (zQ (zC hb)) (zc _ hb)) k2 ((oX pm rfl).trans hp1) ?_⟩;rw[jF,jv];refine pw.imp_of_mem λ{i j} hi hj Lu=>?_;have li:=lt i hi;have lj:=lt j hj;have ei:(L1.map u4).getD i (0, "")=u4 (L1.getD i ([],0)):=by simp[zK,li]
  have ej:(L1.map u4).getD j (0, "")=u4 (L1.getD j ([],0)):=by simp[zK,lj]
  rw[ei,ej]at Lu;exact Lu
end
def qD(q:Int×Str):D:=.tup [.int q.1,.str q.2]
def ddQ(us:List (Int×Str))(q:Int×Str):List (Int×Str):=if q∈us then us else us++[q]
theorem kN:∀(l us:List (Int×Str)),us.Nodup->(l.foldl ddQ us).Nodup
|[],us,h=>h
| q :: l, us, h => kN l (ddQ us q) (by
  unfold ddQ;split
  ·exact h
  ·rename_i k;exact Yy.mpr ⟨h,yQ.mpr ⟨λz=>(nomatch z),xa⟩,λa ha b hb e=>k (by rw[zi.mp hb]at e;rw[<-e];exact ha)⟩)
theorem HW:∀(l us:List (Int×Str)) q,q∈l.foldl ddQ us↔q∈us\/q∈l
|[],us,q=>by simp
|x::l,us,q=>by
  rw[xi,HW l (ddQ us x) q,zn];have:q∈ddQ us x↔q∈us\/q=x:=by
   unfold ddQ;split
   ·rename_i k;exact⟨.inl,λz=>z.elim id λz=>by rw[z];exact k⟩
   ·rw[zB,zi]
  rw[this,or_assoc]
theorem uQ:∀(xs L:List PK),(∀q∈xs,isP q)->(∀q∈L,isP q)->(L.map (·.1)).Nodup->((xs.foldl ddP L).map u4)= (xs.map u4).foldl ddQ (L.map u4)/\((xs.foldl ddP L).map (·.1)).Nodup
|[],L,_,_,nd=>⟨rfl,nd⟩
|q::xs,L,hx,hL,nd=>by
  have hq:=hx q (zg ..);have mem:q.1∈L.map (·.1)↔u4 q∈L.map u4:=by
   constructor
   ·intro h;obtain⟨r,hr,e⟩:=zk.mp h;refine zk.mpr ⟨r,hr,?_⟩;obtain⟨ks,b⟩:=q;obtain⟨ls,c⟩:=r;have e:ls=ks:=e;rw[e];obtain⟨n,z,e2⟩:=hq;have e2:ks=_:=e2;rw[e2];rfl
   ·intro h;obtain⟨r,hr,e⟩:=zk.mp h;exact zk.mpr ⟨r,hr,UP (hL r hr) hq e⟩
  have e1:(ddP L q).map u4=ddQ (L.map u4) (u4 q):=by
   unfold ddP ddQ;by_cases c:q.1∈L.map (·.1)
   ·rw[if_pos c,if_pos (mem.mp c)]
   ·rw[if_neg c,if_neg λz=>c (mem.mpr z),jh];rfl
  have nd2:((ddP L q).map (·.1)).Nodup:=by
   unfold ddP;split
   ·exact nd
   ·rename_i k;rw[jh];exact Yy.mpr ⟨nd,yQ.mpr ⟨λz=>(nomatch z),xa⟩,λa ha b hb e=>k (by have hb:b=q.1:=zi.mp hb;rw[<-hb,<-e];exact ha)⟩
  have hL2:∀r∈ddP L q,isP r:=λr hr=>by
   unfold ddP at hr;split at hr
   ·exact hL r hr
   ·rcases zB.mp hr with h|h
    ·exact hL r h
    ·rw[zi.mp h];exact hq
  have:=uQ xs (ddP L q) (λr hr=>hx r (ze _ hr)) hL2 nd2;rw[xi,zT,xi,<-e1];exact this
def IW{us zs:List (Int×Str)}(nd:us.Nodup)(hp:zs.Perm us)(pw:zs.Pairwise λx y=>S2 x y=true):zs.map qD=IB us (us.map qD):=by
 have ez:∀l:List (Int×Str),l.zip (l.map qD)=l.map λq=>(q,qD q):=λl=>by have:=List.zip_map' (f:=id) (g:=qD) (l:=l);rw[Js]at this;exact this
 have:=fT nd (z:=zs.map λq=>(q,qD q)) (by rw[ez];exact hp.map _) (by rw[jv];refine pw.imp λ{x y} h=>?_;show (!S2 y x)=true;rw[Zo];refine yP.mpr λh2=>?_;have:=AE h h2;rw[mH]at this;cases this)
 rw[jF]at this;exact this
def qL:D->M D:=λd=>match d with
| .ref r=>do
  match <-O4 r with
  | .lst l=>do
    let qs <-D3 (tB tF l)
    if qs.length<62 then N7 (.lst (IB (qs.foldl ddQ []) ((qs.foldl ddQ []).map qD)))else M.stuck
  |_=>M.stuck
|_=>M.stuck
def gK(fa:Fe):Fe:=λσ=>fa σ >>= qL
theorem IS:∀L:List PK,(∀q∈L,∃v,d9 c μ H (qD (u4 q)) v/\J1 v (.ref q.2))->∃ws,u6 ws (L.map λq=>Value.ref q.2)/\u0 c μ H ((L.map u4).map qD) ws/\ws.length=L.length
|[],_=>⟨[],.nil,rfl,rfl⟩
|q::r,h=>by obtain⟨v,h1,h2⟩:=h q (zg ..);obtain⟨ws,a1,a2,a3⟩:=IS r λx hx=>h x (ze _ hx);exact⟨v::ws,.cons h2 a1,⟨v,ws,rfl,h1,a2⟩,by simp[a3]⟩
def Ae(hu:X.A.units+64<xF)(hc:X.calm=true)(Ol:BLs X.mg)(hg1:Gl X "sorted")(hg2:Gl X "set")(ha:DE X Z ea fa)(sa:V8 ea=true):DE X Z (.Call (.Name "sorted" p) [.Call (.Name "set" p1) [ea] [] q1] [] pos) (gK fa):=⟨by
 intro Li s σ H Q I h;refine yO (gA I hg1 (Ol.h _ (by decide +kernel)) GG ?_ (by decide) (by decide));refine h.elim λX9 μ G sr hr pp=>?_;refine callWith_builtin1 (xt ?_) rfl rfl;refine yO (gA I hg2 (Ol.h _ (by decide +kernel)) OO ?_ (by decide) (by decide));refine callWith_type1 ?_ (MB sa) rfl;rw[MB sa];have pa:=d7.bind pp;refine xt (thn (ha.h Li s σ H (λv H1=>∃x X0 G1,v5 (wc X) X0 G1 H1/\d9 (wc X) X0 H1 x v/\d7 (wc X) Z X0 H1 (qL x G1) λd X2 _ H'=>∀v,d9 (wc X) X2 H' d v->Q v H') I ⟨X9,μ,G,sr,hr,pa.mono λd X0 G1 H1 x1 h1 p1 v rv=>⟨d,X0,G1,h1,rv,p1⟩⟩) λu s1 hE=>hE.elim λv H1 I1 r1 q=>?_);obtain⟨x,X0,G1,hr1,rv1,pp1⟩:=q;obtain⟨i,rfl⟩:∃i,x= .ref i:=match x,pp1 with
  | .ref i,_=>⟨i,rfl⟩
 obtain⟨o,g,p2⟩:=K8 (show d7 (wc X) Z X0 H1 ((O4 i >>= λo=>match o with
  | .lst l => (do
    let qs <-D3 (tB tF l)
    if qs.length<62 then N7 (.lst (IB (qs.foldl ddQ []) ((qs.foldl ddQ []).map qD)))else M.stuck:M D)
  |_=>M.stuck) G1) _ from pp1)
 unfold d9 at rv1;obtain⟨a,m,rfl⟩:=rv1;have ro:=hr1.obj i o a g m;rcases o with l|l|l|l<;>try exact p2.elim
 obtain⟨vs,q,rl⟩:=ro;obtain⟨qs,es,p3⟩:=gC p2;split at p3
 case isFalse=>exact p3.elim
 rename_i Nn
 cases r1
 refine xG ?_;obtain⟨Ll,rv,pl,hz⟩:=I1.list (SqL.of q);obtain⟨Lr,hall⟩:=vR (P:=λu q=>kC s1.heap u q/\∃v,d9 (wc X) X0 H1 (qD q) v/\J1 v u) (λd q v u h1 rd ru=>by
  unfold tF at h1;split at h1
  ·cases h1
   refine⟨?_,v,rd,ru⟩;unfold d9 at rd;obtain⟨ad,vs,rfl,q,rl⟩:=rd;obtain⟨v1,t1,rfl,e1,v2,t2,rfl,e2,e3⟩:=rl
   cases e3
   rw[C2 e1,P6 e2]at q
   cases ru
   obtain⟨Ll,rvs,tp,_⟩:=I1.tuple q
   cases rvs with
   |cons r1 rr1=>
     cases rr1 with
     |cons r2 rr2=>
       cases rr2
       obtain⟨t,rfl⟩:=r1;obtain⟨t',rfl⟩:=r2;exact⟨ad,t,t',rfl,tp⟩
  ·cases h1) es rl rv
 obtain⟨xs,exs,exk,hisP,htk,hrep⟩:∃xs:List PK,Ll=xs.map (λq=>Value.ref q.2)/\xs.map u4=qs/\(∀q∈xs,isP q)/\(∀q∈xs,yi (N8 X.prog X.w) s1.heap q.1 q.2)/\∀q∈xs,∃v,d9 (wc X) X0 H1 (qD (u4 q)) v/\J1 v (.ref q.2):=by
  clear es p3 Nn rl rv pl hz
  induction qs generalizing Ll with
  |nil=>
    obtain rfl:Ll= []:=List.length_eq_zero_iff.mp Lr.symm;exact⟨[],rfl,rfl,λ_ h=>(nomatch h),λ_ h=>(nomatch h),λ_ h=>nomatch h⟩
  |cons q qs ih=>
    rcases Ll with _|⟨u,Ll⟩
    ·cases Lr
    ·obtain⟨u',eu,⟨b,t,t',rfl,o,ho,hcl,n,hdt⟩,v,h1,h2⟩:=hall 0 q rfl
     cases eu
     obtain⟨xs,e1,e2,e3,e4,e5⟩:=ih Ll (by simpa using Lr) (λi q hq=>by simpa using hall (i+1) q (by simpa using hq));refine⟨([.inl q.1,.inr q.2],b)::xs,by rw[zT,e1],by rw[zT,e2];rfl,λx hx=>?_,λx hx=>?_,λx hx=>?_⟩
     ·rcases zn.mp hx with rfl|hx
      ·exact⟨q.1,q.2,rfl⟩
      ·exact e3 x hx
     ·rcases zn.mp hx with rfl|hx
      ·exact⟨o,_,n,ho,hcl,hdt,.cons (mQ ..) (.cons (NV ..) .nil)⟩
      ·exact e4 x hx
     ·rcases zn.mp hx with rfl|hx
      ·exact⟨v,h1,h2⟩
      ·exact e5 x hx
 have hlx:xs.length=qs.length:=by rw[<-exk,zd]
 have hc1:X.A.handled=none:=I1.ok.hd hc;refine ah hc1 pl.isList (by simpa using exs) htk (λq hq=>Fw (hisP q hq)) hu (by rw[zr,<-Lr];omega) λh1 tk1 hT k1=>?_;have I2:Inv X Li σ H1 {s1 with heap:=h1,toks:=tk1}:=I1.kept k1;refine xG ?_;obtain⟨ek,ndk⟩:=uQ xs [] hisP (λ_ h=>nomatch h) xa;have hdl:=RL xs [];have hsub:∀q∈xs.foldl ddP [],q∈xs:=λq hq=>(FM xs [] q hq).resolve_left λh=>nomatch h;refine Cg (I2.ok.hd hc) hT (by simp at hdl;omega) (λq hq=>hisP q (hsub q hq)) ndk λh2 h' d' tk e L' k2 k3 he hp pw=>?_;have eq1:(L'.map u4).map qD=IB (qs.foldl ddQ []) ((qs.foldl ddQ []).map qD):=by refine IW (kN _ _ xa) ?_ pw;have:=hp.map u4;rw[ek,exk]at this;exact this
 have I3:Inv X Li σ H1 {s1 with heap:=h2,drawn:=d',toks:=tk}:=BP (I2.kept k2);obtain⟨ws,rv',rl2,lw⟩:=IS (μ:=X0) L' λq hq=>hrep q (hsub q (hp.mem_iff.mp hq));rw[eq1]at rl2;have hf:=I3.hok.fresh (zh _);have hlw:ws.length<=zj:=by
  have:(64:Nat)<=zj:=by decide
  rw[lw,hp.length_eq];simp at hdl;omega
 exact⟨.ref h2.objs.size,upd H1 h2.objs.size (.lst ws),I3.laid k3 (zh _) ⟨hlw,_,e,rv',he⟩,rfl,U6 hr1 rl2 p3 _ hf⟩⟩
end DL
namespace W
open PySem PySem.Spec L2 DL
open PyProof.Rows hiding St
def Lb(ea:fa σ G=some (.ok (.ref r),G1))(e:G1[r]? =some (.lst l))(hs:tB tF l=some qs)(h62:qs.length<62)(q:Q (.ref G1.length) (G1++[.lst (IB (qs.foldl ddQ []) ((qs.foldl ddQ []).map qD))])):Wp (gK fa σ) G Q:=by refine m6.mpr (b8 ea ?_);unfold qL;simp only[m6,O8,e,O9,rA,hs,if_pos h62,U4];exact q
end W
namespace DL
open PySem PySem.Spec L2
open PyProof.Rows hiding St
section
def Dl{n:Nat}(ho:s.heap.get? a=some o)(hc:o.cls= .type "list")(hd:o.data= .seq vs.toArray n)(Nn:vs.length<64)(hI:IntsAre vs ns)
 (h:∀(h1 h':Heap) (tk e:Nat) out ns',(∀b o,s.heap.get? b=some o->h1.get? b=some o)->(∀b o,h1.get? b=some o->h'.get? b=some o)->h'.get? h1.objs.size=some (jQ "list" out.toArray e)->IntsAre out ns'->ns'.Perm ns->ns'.Pairwise (· <= ·)->Q (.ref h1.objs.size) {s with heap:=h',toks:=tk}):
 zt (zI prog w) A (call (.builtin "sorted") [.ref a]) Q E s:=by
 have hz:vs.length<=zj:=zq (yj Nn) (by decide);refine yF YY Yv Yw (Yx _) ?_;unfold yC.«sorted»;refine za (zf ?_);refine za (JA a (.inl rfl) ho hc hd (λh1 hk=>?_) (by rw[zr];exact hz));refine za (xL ?_ hz);have hoL:(h1.push (jQ "list" vs.toArray 0)).get? h1.objs.size=some (jQ "list" vs.toArray 0):=zu _ rfl;refine za (jk (jn ZE ⟨_,hoL,rfl⟩ Zj (list_sort_tree hoL hI Nn λout ns' a1 a2 a3=>⟨_,rfl,?_⟩) (ZG _)));obtain⟨e,he⟩:=Ji hoL;refine zf ⟨_,rfl,h h1 _ s.toks e out.toList ns' hk (λb o hb=>?_) (by rw[ZH];exact he) a1 a2 a3⟩;have Lu:b<h1.objs.size:=zC hb;rw[XS (zQ Lu) (by rw[size_push'];exact yp Lu),Yt _ _ _ (zQ Lu)];exact hb
end
def QE:List D->M D:=λds=>match ds with
|[.ref r]=>do
  match <-O4 r with
  | .lst l=>do
    let ns <-D3 (tD l)
    if ns.length<64 then N7 (.lst ((aE ns).map .int))else M.stuck
  |_=>M.stuck
|_=>M.stuck
section
variable{X:Cx}{Z:XC}{c:Wc}{μ:List Addr}{H:Hp}
def Il:W8 X Z (.builtin "sorted") QE:=⟨by
 intro Li s σ H xs us Q I r Lo;obtain⟨ds,μ,G,rl,hr,p⟩:=Lo;rcases ds with _|⟨_|_|_|_|l|i|_|_,_|⟨_,_⟩⟩<;>try exact p.elim
 delta QE at p;dsimp only at p;obtain⟨v,rfl,rv⟩:=D7 rl;obtain⟨u,rfl,ru⟩:=C9 r;have rv':=rv;unfold d9 at rv';obtain⟨a,m,rfl⟩:=rv'
 cases ru
 obtain⟨o,g,p1⟩:=K8 p;have ro:=hr.obj i o a g m;rcases o with l|l|l|l<;>try exact p1.elim
 obtain⟨vs,q,Mr⟩:=ro;obtain⟨Ll,rv,pl,hz⟩:=I.list (SqL.of q);obtain⟨o,h1,h2,n,h3⟩:=pl.isList;dsimp only at p1;obtain⟨ns,es,p2⟩:=gC p1;split at p2
 case isFalse=>exact p2.elim
 rename_i Nn;obtain⟨hl,hv⟩:=pU es Mr rv;have hI:IntsAre Ll ns:=CU hl hv;refine Dl h1 h2 h3 (by lia) hI λh1 h' tk e out ns' k1 k2 he hS hp hs=>?_;have e2:=Fj hp hs;subst e2;obtain⟨ws,ew,rv',rl2⟩:=EQ (μ:=μ) hS;have I1:Inv X Li σ H {s with heap:=h1,toks:=tk}:=I.kept k1;have hf:=I1.hok.fresh (zh _);have Lr:ws.length<=zj:=by rw[ew,zd,(AJ ns).length_eq];exact zq (yj Nn) (by decide)
 exact⟨.ref h1.objs.size,upd H h1.objs.size (.lst ws),I1.laid k2 (zh _) ⟨Lr,out,e,rv',he⟩,rfl,U6 hr rl2 p2 _ hf⟩⟩
def AY(h:X.calm=true):BD QE "sorted" X Z:=⟨.inl ⟨_,Il,GG⟩⟩
end
end DL
namespace W
open PySem PySem.Spec L2 DL
open PyProof.Rows hiding St
def Gx(e:G[r]? =some (.lst (ns.map D.int)))(Nn:ns.length<64):Wp (QE [.ref r]) G Q↔Q (.ref G.length) (G++[.lst ((aE ns).map .int)]):=by unfold QE;simp only[m6,O8,e,O9,rA,IP,if_pos Nn,U4]
end W
namespace DL
open PySem PySem.Spec L2
open PyProof.Rows hiding St
section
variable{s:zA}
variable{prog:zU}{w:jg}{A:js}{E:VSP}
end
section
variable{prog:zU}{w:jg}{A:js}{E:VSP}{s:zA}
end
section
variable{prog:zU}{w:jg}{A:js}{E:VSP}{s:zA}
variable{I l:Addr}{items:Array zm}{R:Except zm Flow->zA->Prop}
end
section
end
end DL
namespace W
open PySem PySem.Spec L2 DL
open PyProof.Rows hiding St
end W
namespace DL
open PySem PySem.Spec L2
open PyProof.Rows hiding St
section
variable{X:Cx}{Z:XC}{c:Wc}{μ:List Addr}{G:DH}{H:Hp}{q:Addr}
def kvS(ks:List Str)(vs:List V):List (Key×V):=(ks.zip vs).map λp=>(.inr p.1,p.2)
structure DP(X:Cx)(Z:XC)(keys:List (Option Expr))(vals:List Expr)(ks:List Str)(fs:DSt->M (List D)):Prop where
 ex:∃trs,(∀pos,PPs X pos keys vals trs)/\∀(X9:DSt) (σ:St) (μ:List Addr) (G:DH) (H:Hp) (K:List (V×V)->Hp->Prop),K5 (wc X) μ H X9 σ->v5 (wc X) μ G H->
  d7 (wc X) Z μ H (fs X9 G) (λds X0 _ H1=>∀vs,u0 (wc X) X0 H1 ds vs->K ((kvS ks vs).map λkv=>(kV kv.1,kv.2)) H1)->dL trs σ H K
inductive UHD{α:Type}(c:Wc)(q:Addr)(K:α->List Addr->DH->Hp->Prop)(a:α)(X2:List Addr)(G':DH)(H':Hp):Prop
|mk (e:H' q=some (.dK [])) (n:q∉X2) (h:v5 c X2 G' (DL.hide q H')) (k:K a X2 G' (DL.hide q H'))
end
def neW:D->D->M D:=λx y G=>match eqN 60 G x y with
|some b=>some (.ok (.bl (!b)),G)
|none=>none
def af(hu:X.A.units+64<xF):OpD X Z (jf .NotEq) neW:=⟨by
 intro Li s σ H x y v u Q I rx ry Lo;refine Lo.elim λdx dy μ G Nt Ny hr p=>?_;unfold neW at p;rcases e:eqN 60 G dx dy with _|b
 ·rw[e]at p;exact p.elim
 ·
   rw[e]at p;exact(aG I hr 60 X.A (by lia) Nt Ny rx ry e).2.1 X.prog X.w X.xe _ ⟨.bl (!b),H,I,rfl,d7.ok p hr _ ofB⟩⟩
end DL
namespace W
open PySem PySem.Spec L2 DL
open PyProof.Rows hiding St
def Ia{x y:D}{G:DH}{Q:DPP}:Wp (neW x y) G Q↔∃k,eqN 60 G x y=some k/\Q (.bl (!k)) G:=AH rfl
def D1:Fs:=(o6 (M3 (m9 P4 (m9 A5 (m9 P4 (m9 K4 (m9 K4 (T7 3) (m9 A5 (cE (.int 7919)) (T7 2))) (cE (.int 3))) (cE (.int 2147483647))) (cE (.int 48271))) (cE (.int 2147483647))) (A4 4)) (o6 (M3 (m9 P4 (m9 A5 (T7 4) (T7 4)) (cE (.int 2147483629))) (A4 4)) (o6 (d5 (mtE M4 U0 (T7 1) (A0 (m9 P4 (m9 w8 (T7 4) (cE (.int 16))) (cE (.int 1000))) (K0)))) (o6 (d5 (mtE M4 U0 (T7 1) (A0 (m9 P4 (m9 w8 (T7 4) (cE (.int 16000))) (cE (.int 1000))) (K0)))) (o6 (M3 (m9 P4 (m9 K4 (T7 4) (m9 A5 (cE (.int 40692)) (m9 K4 (T7 2) (cE (.int 7))))) (cE (.int 2147483587))) (A4 4)) (d5 (mtE M4 U0 (T7 1) (A0 (m9 P4 (m9 w8 (m9 P4 (m9 A5 (T7 4) (T7 4)) (cE (.int 2147483647))) (cE (.int 16))) (cE (.int 1000))) (K0)))))))))
def WT1:DSt->M Bool:=(B3 (sA (m9 geD (T7 3) (cE (.int 1000)))) (sA (m9 ltD (T7 5) (cE (.int 60)))))
def WB1:Fs:=(o6 (d5 (mtE M4 U0 (T7 1) (A0 (m9 P4 (T7 3) (cE (.int 1000))) (K0)))) (o6 (M3 (m9 w8 (T7 3) (cE (.int 1000))) (A4 3)) (M3 (m9 K4 (T7 5) (cE (.int 1))) (A4 5))))
def D2:Fs:=(o6 (M3 (cE (.int 0)) (A4 5)) (iA WT1 WB1))
def DB:Fs:=(o6 (M3 (P2 GE (A0 (m9 ixD (T7 0) (T7 2)) (K0))) (A4 3)) (ifS (sA (m9 ltD (T7 3) (m9 L6 (cE (.int 10)) (cE (.int 18))))) D1 D2))
abbrev A1(a:Fe):=A0 a (K0)
abbrev fD(a b:Fe):=A0 a (A0 b (K0))
abbrev SM(a b c:Fe):=A0 a (A0 b (A0 c (K0)))
abbrev nG(a b c d:Fe):=A0 a (A0 b (A0 c (A0 d (K0))))
abbrev S3(a b c d e:Fe):=A0 a (A0 b (A0 c (A0 d (A0 e (K0)))))
abbrev asQ(e:Fe)(g:D->DSt->M DSt)(r:Fs):Fs:=o6 (M3 e g) r
abbrev cBf:Fe:=cE (.bl false)
abbrev cBt:Fe:=cE (.bl true)
abbrev S0:Fe:=cE (.int 0)
abbrev B0:Fe:=cE (.int 1)
abbrev NA:Fe:=cE (.int 10)
abbrev SL:Fe:=cE (.int 11)
abbrev O0:Fe:=cE (.int 2)
abbrev B1:Fe:=cE (.int 3)
abbrev Q1:Fe:=cE (.int 4)
abbrev wA:Fe:=cE (.int 5)
abbrev dA:Fe:=cE (.int 6)
abbrev TL:Fe:=cE (.int 7)
abbrev y6:Fe:=cE (.int 8)
abbrev iX:Fe:=cE (.int 9)
abbrev cIn(i:Int):Fe:=cE (.int i)
abbrev E1:Fe:=cE .non
abbrev cSt(s:Str):Fe:=cE (.str s)
abbrev VE(F:List D->M D):Fe:=P2 (fnX 0 F) (K0)
abbrev D0(F:List D->M D)(a:Fe):Fe:=P2 (fnX 1 F) (A0 a (K0))
abbrev F0(F:List D->M D)(a b:Fe):Fe:=P2 (fnX 2 F) (A0 a (A0 b (K0)))
abbrev N0(F:List D->M D)(a:Fe):Fe:=P2 F (A0 a (K0))
abbrev U2(F:List D->M D)(a b:Fe):Fe:=P2 F (A0 a (A0 b (K0)))
abbrev gdQ(t:DSt->M Bool)(x:Fe)(r:Fs):Fs:=o6 (ifS t (u9 x) M7) r
abbrev ixE(a b:Fe):Fe:=m9 ixD a b
abbrev T0:=A4 0
abbrev i3:=A4 1
abbrev B2:=A4 2
abbrev m4:=A4 3
abbrev F5:=A4 4
abbrev L4:=A4 5
abbrev WG:=A4 6
abbrev sF:=A4 7
abbrev gM:=A4 8
abbrev sIi(i:Int):Option D:=some (D.int i)
abbrev sRf(r:Nat):Option D:=some (D.ref r)
abbrev tBn(o:D->D->M D)(a b:Fe):=sA (m9 o a b)
abbrev S1(a:Fe):=X4 (A0 a (K0))
abbrev H0(a b:Fe):=X4 (A0 a (A0 b (K0)))
abbrev y7(a b c:Fe):=X4 (A0 a (A0 b (A0 c (K0))))
abbrev g0:Fe:=T7 0
abbrev x0:Fe:=T7 1
abbrev C0:Fe:=T7 2
abbrev C1:Fe:=T7 3
abbrev L8:Fe:=T7 4
abbrev P3:Fe:=T7 5
abbrev dM:Fe:=T7 6
abbrev dN:Fe:=T7 7
abbrev Mm:Fe:=T7 8
def mN:Fs:=o6 (M3 (Q6 K0) i3) (o6 (C8 (T5 (A1 (U2 pE (N0 A2 g0) (cIn 80)))) B2 DB) (u9 (J3 x0 J6 (N5 (cIn 240)))))
def dF:List D->M D:=v7 6 mN
def tL:Fs:=o6 (ifS (tBn eqD g0 (Q6 K0)) (u9 S0) M7) (u9 (m9 P4 (mtE M4 oI g0 (A1 S0)) x0))
def j9:List D->M D:=v7 2 tL
def woL:Fs:=(M3 (m9 K4 L8 (ixE (cSt "abcdefghijklmnopqrstuvwxyz") (F0 j9 g0 (cIn 26)))) F5)
def woR:Fs:=(asQ (cSt "") F5 (o6 (C8 (T5 (A1 C1)) L4 woL) (u9 L8)))
def woA:Fs:=(ifS (tBn eqD x0 Q1) (asQ (Q6 (A0 (cSt "any") (A0 (cSt "nothing") (A0 (cSt "number") (A0 (cSt "text") (A0 (cSt "truth") (A0 (cSt "true") (A0 (cSt "false") (S3 (cSt "or") (cSt "but") (cSt "in") (cSt "only") (cSt "wish")))))))))) B2 (asQ (m9 K4 C0 (Q6 (nG (cSt "numbers") (cSt "texts") (cSt "anyone") (cSt "orb")))) B2 (u9 (ixE C0 (F0 j9 g0 (cIn 16)))))) M7)
def woB:Fs:=(ifS (tBn eqD x0 wA) (M3 (F0 j9 g0 (cIn 31)) m4) M7)
def KI:Fs:=o6 (M3 (F0 j9 g0 dA) i3) (o6 woA (asQ (F0 j9 g0 Q1) m4 (o6 woB woR)))
def oF:List D->M D:=v7 6 KI
def aO:Fs:=o6 (M3 (J3 (D0 oF g0) J6 (N5 y6)) i3) (gdQ (tBn eqD x0 (cSt "")) (cSt "a") (u9 x0))
def O6:List D->M D:=v7 2 aO
def ML:Fs:=u9 (N0 Z9 (J8 (T5 (A1 (ixE (Q6 (A0 B0 (A0 S0 (A0 O0 (S3 B1 Q1 B0 O0 B0))))) (F0 j9 g0 y6)))) [none,some 0] T0 J4 (D0 O6 x0)))
def Z8:List D->M D:=v7 1 ML
def oR:Fs:=u9 (X4 (S3 (X4 K0) (H0 (cSt "of") (X4 K0)) (X4 K0) E1 E1))
def O7:List D->M D:=v7 0 oR
def uM:Fs:=o6 (ifS (tBn eqD (y7 g0 x0 C0) (y7 (S1 (H0 E1 E1)) (H0 (cSt "but") (X4 K0)) (H0 cBf cBt))) (ifS (B3 (tBn eqD C1 (H0 (X4 K0) (cSt "any"))) (tBn eqD L8 (H0 (X4 K0) (cSt "any")))) (u9 (cSt "any")) M7) M7) (u9 (X4 (S3 g0 x0 C0 C1 L8)))
def LH:List D->M D:=v7 5 uM
def kS:Fs:=o6 (ifS (tBn eqD (N0 GE g0) (m9 L6 NA (cIn 30))) (u9 E1) M7) (u9 g0)
def qF:List D->M D:=v7 1 kS
def LB:Fs:=(ifS (B3 (tBn neD x0 (Q6 K0)) (tBn leD C0 (m9 K4 (ixE (ixE x0 (unE L7 B0)) B0) B0))) (M3 (H0 (ixE (ixE x0 (unE L7 B0)) S0) (U2 BK (ixE (ixE x0 (unE L7 B0)) B0) C1)) (AC x0 (unE L7 B0))) (d5 (mtE M4 U0 x0 (A1 (H0 C0 C1)))))
def LE:Fe:=(H0 (D0 qF g0) (D0 qF x0))
def RJ:Fs:=o6 (M3 (Q6 K0) i3) (o6 (C8 (itW (N0 bE g0)) (qA 2 (U5 B2 (U5 m4 (cA)))) LB) (u9 (N0 Z9 (J8 (itW x0) [none,none] (qA 2 (U5 T0 (U5 i3 (cA)))) J4 LE))))
def sG:List D->M D:=v7 4 RJ
def NB:Fs:=(M3 (m9 K4 (m9 A5 C1 (cIn 1000)) (F0 j9 g0 (cIn 1000))) m4)
def N1:Fs:=(ifS (tBn ltD x0 wA) (asQ (F0 j9 g0 (cIn 40)) B2 (u9 (m9 A5 (m9 w8 C0 O0) (m9 u8 B0 (m9 A5 O0 (m9 P4 C0 O0)))))) M7)
def N2:Fs:=(ifS (tBn eqD x0 wA) (u9 (ixE (Q6 (nG (m9 L6 NA (cIn 20)) (unE L7 (m9 L6 NA (cIn 20))) (m9 u8 (m9 L6 NA (cIn 20)) B0) (m9 L6 NA (cIn 18)))) (F0 j9 g0 Q1))) M7)
def N3:Fs:=(u9 (m9 A5 (m9 K4 (m9 A5 C1 (cIn 100)) (F0 j9 g0 (cIn 100))) (m9 u8 (cIn 13) (m9 A5 O0 x0))))
def QH:Fs:=o6 (M3 (F0 j9 g0 y6) i3) (o6 N1 (o6 N2 (asQ S0 m4 (o6 (C8 (T5 (A1 dA)) F5 NB) N3))))
def Q9:List D->M D:=v7 5 QH
def nuE:Fe:=(D0 Q9 x0)
def nuB:Fs:=(d5 (mtE M4 U0 C1 (A1 (H0 (ixE C0 (m9 A5 O0 L8)) (ixE C0 (m9 K4 (m9 A5 O0 L8) (F0 j9 g0 O0)))))))
def nuL:Fs:=(ifS (tBn inD P3 (H0 B0 B1)) (d5 (mtE M4 U0 C1 (A1 (H0 (unE L7 (m9 L6 NA (cIn 30))) (D0 Q9 g0))))) M7)
def nuH:Fs:=(ifS (tBn inD P3 (H0 O0 B1)) (d5 (mtE M4 U0 C1 (A1 (H0 (D0 Q9 g0) (m9 L6 NA (cIn 30)))))) M7)
def nuA:Fs:=(ifS (tBn eqD P3 Q1) (d5 (mtE M4 U0 C1 (A1 (H0 (unE L7 (m9 L6 NA (cIn 30))) (m9 L6 NA (cIn 30)))))) M7)
def nuM:Fs:=(M3 (ixE (Q6 (A0 B0 (A0 B0 (A0 O0 (S3 B1 S0 B0 dA O0))))) (F0 j9 g0 y6)) i3)
def nuS:Fs:=(M3 (N0 QE (J8 (T5 (A1 (m9 A5 O0 x0))) [none,some 0] T0 J4 nuE)) B2)
def bI:Fs:=o6 nuM (o6 nuS (asQ (Q6 K0) m4 (o6 (C8 (T5 (A1 x0)) F5 nuB) (asQ (F0 j9 g0 y6) L4 (o6 nuL (o6 nuH (o6 nuA (u9 (D0 sG C1)))))))))
def rK:List D->M D:=v7 6 bI
def rkC:Fe:=(J8 (itW g0) [none] T0 J4 (H0 (N0 A2 g0) g0))
def UI:Fs:=u9 (N0 Z9 (J8 (itW (gK rkC)) [none,none] (qA 2 (U5 T0 (U5 i3 (cA)))) J4 x0))
def cH:List D->M D:=v7 1 UI
def dtA:Fs:=(M3 (ixE (Q6 (A0 B0 (A0 S0 (A0 O0 (S3 B1 B0 O0 dA S0))))) (F0 j9 g0 y6)) i3)
def dtB:Fs:=(M3 (D0 cH (J8 (T5 (A1 x0)) [none,some 0] T0 J4 (D0 oF x0))) B2)
def dtC:Fs:=(u9 (H0 (ixE (Q6 (fD (cSt "of") (cSt "but"))) (m9 w8 (F0 j9 g0 B1) O0)) C0))
def II:Fs:=o6 dtA (o6 dtB dtC)
def bK:List D->M D:=v7 3 II
def gO(R:List D->M D):Fs:=o6 (M3 (F0 R g0 x0) B2) (gdQ (tBn eqD C0 (VE O7)) (X4 (S3 (X4 K0) (H0 (cSt "of") (X4 K0)) (S1 cBt) E1 E1)) (u9 C0))
def Q7(R:List D->M D):List D->M D:=v7 3 (gO R)
def rcM:Fs:=(M3 (ixE (Q6 (A0 S0 (A0 B0 (A0 O0 (S3 B0 B1 O0 dA B0))))) (F0 j9 g0 y6)) B2)
def uN(R:List D->M D):Fs:=o6 rcM (asQ (N0 Z9 (J8 (T5 (A1 C0)) [none,some 1,some 0] T0 J4 (F0 (Q7 R) C0 (m9 u8 x0 B0)))) m4 (u9 (H0 C1 (F0 R g0 (m9 u8 x0 B0)))))
def vF(R:List D->M D):List D->M D:=v7 4 (uN R)
def flT:DSt->M Bool:=(orT (J7 (ixE g0 B0)) (tBn neW (ixE g0 O0) x0))
def PH(R:List D->M D):Fs:=o6 rcM (asQ (wJ) m4 (o6 (C8 (T5 (A1 C0)) F5 (asQ (D0 O6 g0) L4 (ifS (tBn eqD (F0 j9 g0 O0) S0) (M3 (y7 P3 cBt (F0 (Q7 R) g0 (m9 u8 x0 B0))) (AC C1 P3)) (M3 (y7 P3 cBf (F0 R g0 (m9 u8 x0 B0))) (AC C1 P3))))) (asQ (F0 R g0 (m9 u8 x0 B0)) WG (asQ (J8 (itW (N0 B9 C1)) [none,some 3] T0 J4 (m9 ixG x0 g0)) sF (u9 (H0 (N0 Z9 (J8 (itW dN) [none,some 6] T0 flT g0)) dM))))))
def X8(R:List D->M D):List D->M D:=v7 8 (PH R)
def smD:Fs:=(ifS (tBn ltD x0 O0) (M3 (m9 K4 (m9 P4 C1 TL) B0) m4) M7)
def smN:Fs:=(ifS (tBn eqD (m9 P4 C1 O0) B0) (M3 (D0 rK g0) F5) M7)
def smT:Fs:=(ifS (tBn eqD (m9 P4 (m9 w8 C1 O0) O0) B0) (M3 (D0 bK g0) L4) M7)
def smB:Fs:=(ifS (tBn eqD (m9 P4 (m9 w8 C1 Q1) O0) B0) (M3 (ixE (Q6 (SM (S1 cBf) (S1 cBt) (H0 cBf cBt))) (F0 j9 g0 B1)) WG) M7)
def smL(R:List D->M D):Fs:=(ifS (tBn eqD (m9 P4 (m9 w8 C1 y6) O0) B0) (M3 (F0 (vF R) g0 x0) sF) M7)
def smK(R:List D->M D):Fs:=(ifS (tBn eqD (m9 w8 C1 (cIn 16)) B0) (M3 (F0 (X8 R) g0 x0) gM) M7)
def smV:Fs:=(u9 (P2 (fnX 5 LH) (S3 L8 P3 dM dN Mm)))
def IF(R:List D->M D):Fs:=o6 (M3 (F0 j9 g0 (cIn 13)) B2) (gdQ (tBn eqD C0 (cIn 12)) (cSt "any") (gdQ (tBn eqD C0 SL) (VE O7) (asQ (ixE (Q6 (A0 B0 (A0 y6 (A0 (cIn 16) (A0 O0 (A0 Q1 (A0 y6 (S3 (cIn 16) B1 (cIn 14) (cIn 21) (cIn 31))))))))) C0) m4 (o6 smD (asQ (VE O7) (qA 5 (U5 F5 (U5 L4 (U5 WG (U5 sF (U5 gM (cA))))))) (o6 smN (o6 smT (o6 smB (o6 (smL R) (o6 (smK R) smV))))))))))
def Z5:Nat->List D->M D
|0=>λ_=>M.stuck
|n+1=>v7 9 (IF (Z5 n))
def U7:List D->M D:=Z5 8
def RQ:List D->M D:=Q7 U7
def oT:List D->M D:=vF U7
def lW:List D->M D:=X8 U7
def naP:Fe:=(m9 K4 (ixE x0 (m9 P4 g0 (cIn 26))) (ixE x0 (m9 w8 g0 (cIn 26))))
def naQ:Fe:=(m9 K4 (m9 K4 (J3 C0 J6 (N5 x0)) g0) (J3 C0 (N5 x0) J6))
def naM:Fs:=(M3 (ixE (Q6 (A0 B0 (A0 S0 (A0 O0 (S3 B1 Q1 wA iX (cIn 60)))))) (F0 j9 g0 y6)) i3)
def TH:Fs:=o6 naM (gdQ (tBn ltD x0 wA) (N0 Z9 (mG (J8 (T5 (A1 x0)) [none,some 0] T0 J4 (D0 O6 x0)))) (asQ (J3 (D0 O6 g0) J6 (N5 dA)) B2 (asQ (F0 j9 g0 (m9 K4 (N0 A2 C0) B0)) m4 (asQ (cSt "abcdefghijklmnopqrstuvwxyz") F5 (asQ (J8 (T5 (A1 x0)) [none,some 4] T0 J4 naP) L4 (u9 (N0 Z9 (N0 B9 (J8 (itW P3) [none,some 3,some 2] T0 J4 naQ)))))))))
def IG:List D->M D:=v7 6 TH
def teN:Fe:=(ixE (Q6 (SM S0 S0 (D0 Q9 g0))) (F0 j9 g0 B1))
def tH:Fs:=o6 (M3 (F0 j9 g0 dA) i3) (asQ (D0 Z8 g0) B2 (gdQ (tBn ltD x0 O0) (y7 (cSt "in") C0 (F0 U7 g0 Q1)) (gdQ (tBn ltD x0 Q1) (X4 (nG (cSt "same") C0 (D0 Z8 g0) teN)) (gdQ (tBn eqD x0 Q1) (y7 (cSt "only") C0 (D0 IG g0)) (u9 (y7 (cSt "wish") C0 (F0 U7 g0 Q1)))))))
def pH:List D->M D:=v7 3 tH
def mM:Fs:=u9 (T3 (U2 v4 g0 (cE (.ty "tuple"))) (T3 (m9 eqD (N0 A2 g0) O0) (U2 v4 (ixE g0 S0) (cE (.ty "tuple")))))
def tG:List D->M D:=v7 1 mM
def lR:Fs:=u9 (kF (m9 WB g0 E1) (D0 tG g0))
def gJ:List D->M D:=v7 1 lR
def oJ:Fs:=u9 (N0 d6 (J8 (MD (fD g0 (J3 g0 (N5 B0) J6))) [none,none] (qA 2 (U5 T0 (U5 i3 (cA)))) J4 (m9 ltD g0 x0)))
def W2:List D->M D:=v7 1 oJ
def uH:Fs:=u9 (J8 (itW g0) [none] T0 J4 (ixE g0 S0))
def kJ:List D->M D:=v7 1 uH
def TM:Fs:=u9 (T3 (U2 v4 g0 (cE (.ty "str"))) (N0 d6 (J8 (itW g0) [none] T0 J4 (VJ leD leD (cSt "a") g0 (cSt "z")))))
def UC:List D->M D:=v7 1 TM
def eS:Fs:=u9 (T3 (D0 UC g0) (m9 gtD (N0 A2 g0) S0))
def fG:List D->M D:=v7 1 eS
def AM:Fs:=u9 (T3 (U2 v4 g0 (cE (.ty "tuple"))) (T3 (m9 eqD (N0 A2 g0) B1) (T3 (D0 fG (ixE g0 S0)) (U2 v4 (ixE g0 B0) (cE (.ty "bool"))))))
def mK:List D->M D:=v7 1 AM
def PN:Fs:=o6 (ifS (tBn WB g0 E1) (u9 cBt) M7) (gdQ (C3 (B3 (J7 (D0 tG g0)) (J7 (N0 d6 (J8 (itW (ixE g0 S0)) [none] T0 J4 (D0 mK g0)))))) cBf (u9 (D0 W2 (D0 kJ (ixE g0 S0)))))
def U9:List D->M D:=v7 1 PN
def gP:Fs:=u9 (T3 (m9 EB (ixE g0 B0) E1) (T3 (m9 EB (ixE x0 S0) E1) (m9 ltD (m9 K4 (ixE g0 B0) B0) (ixE x0 S0))))
def FJ:List D->M D:=v7 2 gP
def CQ:Fs:=u9 (T3 (m9 EB g0 E1) (T3 (m9 EB x0 E1) (m9 gtD g0 x0)))
def vK:List D->M D:=v7 2 CQ
def tU:Fs:=u9 (T3 (U2 v4 g0 (cE (.ty "int"))) (iD (U2 v4 g0 (cE (.ty "bool")))))
def pG:List D->M D:=v7 1 tU
def TU:Fs:=u9 (kF (m9 WB g0 E1) (D0 pG g0))
def WF:List D->M D:=v7 1 TU
def KM:Fs:=o6 (ifS (C3 (B3 (J7 (U2 v4 g0 (cE (.ty "tuple")))) (tBn eqD (N0 A2 g0) O0))) (u9 cBf) M7) (gdQ (C3 (B3 (J7 (D0 WF (ixE g0 S0))) (J7 (D0 WF (ixE g0 B0))))) cBf (u9 (iD (F0 vK (ixE g0 S0) (ixE g0 B0)))))
def sH:List D->M D:=v7 1 KM
def HN:Fs:=o6 (ifS (C3 (B3 (J7 (U2 v4 g0 (cE (.ty "tuple")))) (J7 (N0 d6 (J8 (itW g0) [none] T0 J4 (D0 sH g0)))))) (u9 cBf) M7) (u9 (N0 d6 (J8 (MD (fD g0 (J3 g0 (N5 B0) J6))) [none,none] (qA 2 (U5 T0 (U5 i3 (cA)))) J4 (F0 FJ g0 x0))))
def HJ:List D->M D:=v7 1 HN
def oM:Fs:=o6 (ifS (C3 (B3 (J7 (U2 v4 g0 (cE (.ty "tuple")))) (tBn eqD (N0 A2 g0) O0))) (u9 cBf) M7) (u9 (T3 (U2 v4 (ixE g0 S0) (cE (.ty "str"))) (T3 (m9 eqD (ixE g0 S0) x0) (U2 v4 (ixE g0 B0) (cE (.ty "tuple"))))))
def NE:List D->M D:=v7 2 oM
def NK:Fs:=u9 (H0 (N0 A2 g0) g0)
def V7:List D->M D:=v7 1 NK
def pN:Fs:=o6 (ifS (C3 (orT (J7 (F0 NE g0 (cSt "of"))) (J7 (F0 NE g0 (cSt "but"))))) (u9 cBf) M7) (gdQ (C3 (J7 (N0 d6 (J8 (itW (ixE g0 B0)) [none] T0 J4 (D0 UC g0))))) cBf (u9 (D0 W2 (J8 (itW (ixE g0 B0)) [none] T0 J4 (D0 V7 g0)))))
def MG:List D->M D:=v7 1 pN
def VL:Fs:=o6 (ifS (C3 (J7 (U2 v4 g0 (cE (.ty "tuple"))))) (u9 cBf) M7) (u9 (T3 (N0 d6 (J8 (itW g0) [none] T0 J4 (U2 v4 g0 (cE (.ty "bool"))))) (D0 W2 g0)))
def kG:List D->M D:=v7 1 VL
def lM:Fs:=o6 (ifS (J7 (U2 v4 g0 (cE (.ty "str")))) (u9 (m9 eqD g0 (cSt "any"))) M7) (gdQ (C3 (B3 (J7 (U2 v4 g0 (cE (.ty "tuple")))) (tBn eqD (N0 A2 g0) wA))) cBf (gdQ (C3 (B3 (J7 (D0 HJ (ixE g0 S0))) (B3 (J7 (D0 MG (ixE g0 B0))) (J7 (D0 kG (ixE g0 O0)))))) cBf (u9 (T3 (D0 gJ (ixE g0 B1)) (D0 U9 (ixE g0 Q1))))))
def iK:List D->M D:=v7 1 lM
def IL:Fs:=(ifS (tBn EB (ixE g0 B1) E1) (d5 (mtE M4 sC x0 (A1 (m9 K4 (N0 AB (ixE (ixE g0 B1) S0)) (Q6 (A1 (ixE (ixE g0 B1) B0))))))) M7)
def IR:Fs:=(ifS (tBn EB (ixE g0 Q1) E1) (d5 (mtE M4 sC x0 (A1 (m9 K4 (J8 (itW (ixE (ixE g0 Q1) S0)) [none] T0 J4 (ixE g0 O0)) (Q6 (A1 (ixE (ixE g0 Q1) B0))))))) M7)
def V5:Fs:=o6 (M3 (Q6 K0) i3) (gdQ (tBn eqD g0 (cSt "any")) x0 (o6 IL (o6 IR (u9 x0))))
def V9:List D->M D:=v7 2 V5
def sQ:Fs:=o6 (ifS (tBn eqD g0 (cSt "any")) (u9 (S1 (cSt "any"))) M7) (asQ (ifE (tBn WB (ixE g0 B1) E1) E1 (N0 A2 (ixE (ixE g0 B1) S0))) i3 (asQ (ifE (tBn WB (ixE g0 Q1) E1) E1 (J8 (itW (ixE (ixE g0 Q1) S0)) [none] T0 J4 (H0 (ixE g0 S0) (ixE g0 B0)))) B2 (u9 (X4 (S3 (ixE g0 S0) (ixE g0 B0) (ixE g0 O0) x0 C0)))))
def PF:List D->M D:=v7 3 sQ
def Z1:Fs:=(M3 (mtE M4 EI C0 K0) m4)
def Z2:Fs:=(ifS (tBn neD (D0 PF (ixE C1 S0)) (D0 PF (ixE C1 B0))) (u9 cBf) M7)
def Z3:Fs:=(d5 (mtE M4 sC C0 (A1 (U2 UB (D0 V9 (ixE C1 S0)) (D0 V9 (ixE C1 B0))))))
def KJ:Fs:=o6 (M3 (Q6 (A1 (H0 g0 x0))) B2) (o6 (iA (J7 C0) (o6 Z1 (o6 Z2 Z3))) (u9 cBt))
def dJ:List D->M D:=v7 4 KJ
def QL:Fs:=u9 (ifE (J7 (ixE g0 B0)) (m9 neD (ixE g0 O0) (cE (.tup [.tup [],.tup [.str ("of" :Str),.tup []],.tup [],.non,.non]))) (iD (F0 dJ (ixE g0 O0) x0)))
def QJ:List D->M D:=v7 2 QL
def OF1:Fs:=(ifS (tBn eqD g0 (cSt "any")) (u9 cBt) M7)
def OF2:Fs:=(ifS (B3 (tBn EB (ixE g0 B1) E1) (C3 (J7 (N0 d6 (J8 (itW (ixE (ixE g0 B1) S0)) [none] T0 J4 (m9 neD g0 (cE (.tup [.tup [],.tup [.str ("of" :Str),.tup []],.tup [],.non,.non])))))))) (u9 cBf) M7)
def OF3:Fs:=(ifS (B3 (tBn EB (ixE g0 Q1) E1) (C3 (J7 (N0 d6 (J8 (itW (ixE (ixE g0 Q1) S0)) [none,some 0] T0 J4 (F0 QJ g0 (ixE (ixE x0 Q1) B0))))))) (u9 cBf) M7)
def OF4:Fs:=(u9 (m9 neD g0 (cE (.tup [.tup [.tup [.non,.non]],.tup [.str ("but" :Str),.tup []],.tup [.bl false,.bl true],.tup [.tup [],.str ("any" :Str)],.tup [.tup [],.str ("any" :Str)]]))))
def LN:Fs:=o6 OF1 (o6 OF2 (o6 OF3 OF4))
def X5:List D->M D:=v7 1 LN
def V2:Fs:=(ifS (C3 (J7 (D0 iK C1))) (u9 cBf) M7)
def V3:Fs:=(d5 (mtE M4 U0 x0 (A1 C1)))
def V4:Fs:=(d5 (mtE M4 sC C0 (A1 (D0 V9 C1))))
def WH:Fs:=o6 (M3 (Q6 K0) i3) (asQ (Q6 (A1 g0)) B2 (o6 (iA (J7 C0) (o6 Z1 (o6 V2 (o6 V3 V4)))) (u9 (N0 d6 (J8 (itW x0) [none] T0 J4 (D0 X5 g0))))))
def QI:List D->M D:=v7 4 WH
def PP:Fs:=u9 (T3 (U2 v4 g0 (cE (.ty "tuple"))) (N0 d6 (J8 (itW g0) [none] T0 J4 (D0 fG g0))))
def S7:List D->M D:=v7 1 PP
def rS:Fs:=u9 (T3 (D0 S7 g0) (m9 leD (N0 A2 g0) Q1))
def NG:List D->M D:=v7 1 rS
def wG:Fs:=o6 (ifS (C3 (B3 (J7 (U2 v4 g0 (cE (.ty "tuple")))) (B3 (tBn inD (N0 A2 g0) (H0 B1 Q1)) (B3 (J7 (U2 v4 (ixE g0 S0) (cE (.ty "str")))) (J7 (D0 NG (ixE g0 B0))))))) (u9 cBf) M7) (gdQ (tBn eqD (ixE g0 S0) (cSt "same")) (T3 (m9 eqD (N0 A2 g0) Q1) (T3 (D0 NG (ixE g0 O0)) (D0 pG (ixE g0 B1)))) (gdQ (tBn eqD (N0 A2 g0) Q1) cBf (gdQ (tBn eqD (ixE g0 S0) (cSt "only")) (T3 (D0 S7 (ixE g0 O0)) (D0 W2 (ixE g0 O0))) (u9 (T3 (m9 inD (ixE g0 S0) (H0 (cSt "in") (cSt "wish"))) (D0 QI (ixE g0 O0)))))))
def O5:List D->M D:=v7 1 wG
def IK:Fs:=o6 (M3 (D0 O5 g0) B2) (u9 (T3 (U2 v4 C0 (cE (.ty "bool"))) (m9 eqD C0 x0)))
def X6:List D->M D:=v7 3 IK
def eN:Fs:=o6 (M3 (X4 (S3 (S1 (H0 E1 E1)) (H0 (cSt "but") (X4 K0)) (H0 cBf cBt) (H0 (X4 K0) (cSt "any")) (H0 (X4 K0) (cSt "any")))) i3) (asQ (VE O7) B2 (asQ (D0 Q9 g0) m4 (asQ (X4 (S3 (S1 (H0 B1 B1)) (H0 (cSt "of") (X4 K0)) (X4 K0) E1 E1)) F5 (asQ (Q6 (A0 x0 (A0 (J3 C0 J6 (N5 Q1)) (A0 (m9 K4 C0 (S1 E1)) (A0 (N0 AB C0) (S3 (cSt "nothing") (cSt "") E1 B1 cBt)))))) L4 (asQ (m9 K4 P3 (Q6 (SM (m9 K4 (S1 (S1 (H0 C1 (m9 u8 C1 B0)))) (J3 C0 (N5 B0) J6)) (m9 K4 (S1 (H0 (H0 B0 O0) (H0 B1 Q1))) (J3 C0 (N5 B0) J6)) (m9 K4 (S1 (S1 (H0 cBt cBt))) (J3 C0 (N5 B0) J6))))) L4 (asQ (m9 K4 P3 (Q6 (fD (m9 K4 (H0 (X4 K0) (H0 (cSt "of") (H0 (cSt "b") (cSt "a")))) (J3 C0 (N5 O0) J6)) (m9 K4 (H0 (X4 K0) (H0 (cSt "of") (S1 (cSt "A")))) (J3 C0 (N5 O0) J6))))) L4 (asQ (m9 K4 P3 (Q6 (A1 (m9 K4 (J3 C0 J6 (N5 O0)) (y7 (H0 cBt cBf) E1 E1))))) L4 (asQ (m9 K4 P3 (Q6 (fD (m9 K4 (J3 C0 J6 (N5 B1)) (H0 (H0 (S1 C0) (cSt "any")) E1)) (m9 K4 (J3 C0 J6 (N5 Q1)) (S1 (H0 (S1 (y7 (cSt "a") cBt C0)) (cSt "any"))))))) L4 (asQ (m9 K4 P3 (Q6 (A1 (m9 K4 (J3 C0 J6 (N5 Q1)) (S1 (H0 (S1 (y7 (cSt "a") cBf L8)) L8)))))) L4 (asQ (m9 K4 P3 (Q6 (A1 (m9 K4 (J3 C0 J6 (N5 Q1)) (S1 (H0 (H0 (y7 (cSt "b") cBt L8) (y7 (cSt "a") cBt L8)) C0)))))) L4 (u9 (ixE P3 (F0 j9 g0 (N0 A2 P3))))))))))))))
def NI:List D->M D:=v7 6 eN
def wF:Fs:=o6 (ifS (tBn eqD (ixE x0 S0) (cSt "same")) (u9 (ixE (Q6 (nG cBt (cSt "3") E1 (S1 B1))) (F0 j9 g0 Q1))) M7) (gdQ (tBn neD (ixE x0 S0) (cSt "only")) (D0 NI g0) (asQ (ixE x0 O0) B2 (u9 (ixE (Q6 (A0 (N0 AB C0) (A0 (m9 K4 C0 (S1 (cSt ""))) (S3 (H0 (cSt "b") (cSt "a")) (H0 (cSt "a") (cSt "a")) (m9 K4 C0 (S1 B1)) (cSt "a") E1)))) (F0 j9 g0 TL)))))
def Q0:List D->M D:=v7 3 wF
def BN:Fs:=o6 (M3 (Q6 (S3 (N0 AB x0) (m9 K4 x0 (X4 (S3 (cSt "a") (cSt "b") (cSt "c") (cSt "d") (cSt "e")))) (m9 K4 (J3 x0 J6 (N5 B1)) (S1 (cSt ""))) (m9 K4 (J3 x0 J6 (N5 B1)) (S1 (cSt "aB"))) (m9 K4 (J3 x0 J6 (N5 B1)) (S1 B1)))) B2) (asQ (m9 K4 C0 (Q6 (S3 (m9 K4 (J3 x0 J6 (N5 B1)) (S1 (S1 (cSt "a")))) (m9 K4 (S1 (cSt "a b")) (J3 x0 J6 (N5 B1))) E1 (cSt "a") (m9 K4 (J3 x0 J6 (N5 B1)) (S1 E1))))) B2 (u9 (ixE C0 (F0 j9 g0 (N0 A2 C0)))))
def N6:List D->M D:=v7 3 BN
def eI:Fs:=o6 (M3 (F0 j9 g0 y6) B2) (gdQ (tBn eqD C0 S0) (m9 K4 x0 (S1 (ixE x0 (unE L7 B0)))) (gdQ (tBn eqD C0 B0) (J3 x0 J6 (N5 (unE L7 B0))) (gdQ (tBn eqD C0 O0) (N0 AB x0) (gdQ (tBn eqD C0 B1) (m9 K4 (S1 (ixE (Q6 (A0 (cSt "out") (A0 (cSt "In") (S3 (cSt "") B1 E1 (cSt "sames") (S1 (cSt "in")))))) (F0 j9 g0 TL))) (J3 x0 (N5 B0) J6)) (gdQ (orT (tBn eqD C0 Q1) (B3 (tBn eqD C0 wA) (tBn neD (ixE x0 S0) (cSt "same")))) (m9 K4 (H0 (ixE x0 S0) (F0 N6 g0 (ixE x0 B0))) (J3 x0 (N5 O0) J6)) (gdQ (tBn eqD C0 wA) (m9 K4 (J3 x0 J6 (N5 O0)) (H0 (F0 N6 g0 (ixE x0 O0)) (ixE x0 B1))) (u9 (m9 K4 (J3 x0 J6 (N5 (unE L7 B0))) (S1 (F0 Q0 g0 x0))))))))))
def W3:List D->M D:=v7 3 eI
def laT:DSt->M Bool:=(orT (tBn eqD C1 S0) (B3 (tBn neD x0 (Q6 K0)) (tBn ltD C1 (cIn 12))))
def laI:DSt->M Bool:=(orT (C3 (J7 (F0 X6 P3 cBt))) (C3 (J7 (F0 X6 (F0 W3 x0 P3) cBf))))
def laB:Fs:=(asQ (ixE C0 (F0 j9 x0 SL)) F5 (asQ (D0 pH x0) L4 (gdQ laI cBf (gdQ (C3 (J7 (F0 X6 L8 cBf))) cBf (M3 (m9 K4 C1 B0) m4)))))
def laO:Fs:=(M3 (Q6 (A0 (X4 K0) (A0 E1 (A0 cBt (A0 S0 (A0 (cSt "") (A0 (cSt "in") (S3 (Q6 K0) (S1 (cSt "in")) (H0 (cSt "only") (X4 K0)) (y7 (cSt "same") (X4 K0) (X4 K0)) (wJ))))))))) B2)
def lK:Fs:=o6 (M3 (D0 dF g0) i3) (o6 laO (asQ S0 m4 (o6 (iA laT laB) (u9 cBt))))
def fM:List D->M D:=v7 6 lK
local macro_rules | `(tactic| walk_at "cl") => `(tactic| (refine ⟨?k, ?kk, ?a, ?b, ?c⟩; (case a => first | (dsimp only [Cx.nox, OA]; with_reducible assumption) | assumption); (case b => assumption); (case c => first | decide | omega)))
local macro_rules | `(tactic| walk_at "ck") => `(tactic| (refine ⟨?k, ?kk, ?kkk, ?a, ?b, ?c, ?d⟩; (case a => assumption); (case b => rfl); (case c => rfl); (case d => decide +kernel)))
local macro_rules | `(tactic| walk_at "od") => `(tactic| first
 |with_reducible exact AX
 |with_reducible exact mf
 |with_reducible exact Nh
 |with_reducible exact qi
 |with_reducible exact Ex
 |with_reducible exact Hw
 |with_reducible exact Hz
 |with_reducible exact cq
 |with_reducible exact Kb
 |with_reducible exact Pg
 |with_reducible exact bZ
 |((with_reducible refine Gf ?_);exact U1.units (by assumption))
 |((with_reducible refine kh ?_);exact U1.units (by assumption))
 |((with_reducible refine af ?_);exact U1.units (by assumption))
 |((with_reducible refine UY ?_);exact U1.units (by assumption))
 |((with_reducible refine qg ?_);exact U1.units (by assumption)))
local macro_rules | `(tactic| walk_at "bd") => `(tactic| first
 |with_reducible exact Ec
 |with_reducible exact tX
 |with_reducible exact uq
 |with_reducible exact Dt
 |with_reducible exact Md
 |with_reducible exact mY
 |with_reducible exact Au
 |with_reducible exact Ar
 |with_reducible exact bz
 |with_reducible exact Qc
 |with_reducible exact AY)
local macro_rules | `(tactic| walk_at "da") => `(tactic| first
 |with_reducible exact qq
 |((with_reducible refine Rj ?_ ?_ ?_);walk_at "de";walk_at "da";rfl))
local macro_rules | `(tactic| walk_at "do") => `(tactic| first
 |with_reducible exact Nq
 |((with_reducible refine Bj ?_);walk_at "de"))
local macro_rules | `(tactic| walk_at "pk") => `(tactic| first | exact Vw | ((apply Td); walk_at "pk"; walk_at "pk"; (unfold vA; decide); rfl) | ((apply RZ); walk_at "pk"; walk_at "pk"; rfl))
local macro_rules | `(tactic| walk_at "de") => `(tactic| first
 |with_reducible exact Wb
 |with_reducible exact qa
 |with_reducible exact iZ
 |with_reducible exact Pm
 |((with_reducible refine vk _ ?_ ?_ ?_ ?_);rfl;(first|exact Or.inl rfl|exact Or.inr (Or.inl rfl)|exact Or.inr (Or.inr rfl));decide;decide)
 |((with_reducible refine Pz ?_ ?_ ?_ ?_ ?_ ?_);assumption;decide;decide +kernel;rfl;decide;decide)
 |((with_reducible refine Tz ?_ ?_ ?_);assumption;rfl;decide)
 |((with_reducible refine cv ?_ ?_ ?_);walk_at "od";walk_at "de";walk_at "de")
 |((with_reducible refine Hs TX ?_);walk_at "de")
 |((with_reducible refine wj ?_);walk_at "de")
 |((with_reducible refine cw ?_ ?_ ?_ ?_);walk_at "od";walk_at "de";walk_at "de";with_unfolding_all rfl)
 |((with_reducible refine QX ?_ ?_ ?_ ?_ ?_ ?_);walk_at "od";walk_at "od";walk_at "de";walk_at "de";walk_at "de";with_unfolding_all rfl)
 |((with_reducible refine Mw ?_);walk_at "de")
 |((with_reducible refine Nx ?_ ?_);walk_at "de";walk_at "de")
 |((with_reducible refine Sg ?_ ?_);walk_at "de";walk_at "de")
 |((with_reducible refine nn ?_ ?_ ?_);walk_at "dt";walk_at "de";walk_at "de")
 |((with_reducible refine wu ?_);walk_at "da")
 |((with_reducible refine RY ?_);walk_at "da")
 |with_reducible exact Be
 |((with_reducible refine Sc ?_ ?_ ?_);walk_at "de";walk_at "do";walk_at "do")
 |((with_reducible refine df ?_ ?_ ?_);walk_at "de";walk_at "de";exact λ_ _=>rfl)
 |((with_reducible refine HX ?_ ?_ ?_);walk_at "de";walk_at "de";exact λ_ _=>rfl)
 |((with_reducible refine qj ?_ ?_ ?_ ?_ ?_ ?_ ?_);walk_at "da";rfl;assumption;rfl;rfl;rfl;rfl)
 |((with_reducible refine Mx ?_ ?_ ?_ ?_ ?_);walk_at "cl";rfl;walk_at "da";decide;rfl)
 |((with_reducible refine Ed ?_ ?_ ?_);walk_at "cl";rfl;decide)
 |((with_reducible refine Ae ?_ ?_ ?_ ?_ ?_ ?_ ?_);exact U1.units (by assumption);rfl;assumption;rfl;rfl;walk_at "de";rfl)
 |((with_reducible refine qv ?_ ?_ ?_ ?_ ?_ ?_);rfl;assumption;rfl;rfl;walk_at "de";rfl)
 |((with_reducible refine Ph ?_ ?_ ?_ ?_ ?_ ?_ ?_ ?_ ?_);rfl;walk_at "bd";assumption;decide +kernel;rfl;walk_at "da";decide;decide;rfl)
 |((with_reducible refine FN PySem.F.slot_list_append PySem.F.type_list_append eZ ?_ ?_ ?_ ?_ ?_ ?_ ?_);walk_at "de";walk_at "da";rfl;rfl;rfl;exact QA rfl;rfl)
 |((with_reducible refine FN PySem.F.slot_list_extend PySem.F.type_list_extend vq ?_ ?_ ?_ ?_ ?_ ?_ ?_);walk_at "de";walk_at "da";rfl;rfl;rfl;exact QA rfl;rfl)
 |((with_reducible refine FN Yj PySem.F.type_list_pop Qh ?_ ?_ ?_ ?_ ?_ ?_ ?_);walk_at "de";walk_at "da";rfl;rfl;rfl;exact QA rfl;rfl)
 |((with_reducible refine Ix Yj PySem.F.type_list_pop lh ?_ ?_ ?_);walk_at "de";rfl;rfl)
 |((with_reducible refine Dv ?_ ?_ ?_ ?_ ?_ ?_ ?_ ?_);rfl;walk_at "di";walk_at "ck";decide +kernel;(intro _ _ _ _ _;walk_at "dg");(intro _ _ _ _;walk_at "dts");(intro _ _ _ _;walk_at "de");exact λ_=>rfl))
local macro_rules | `(tactic| walk_at "dt") => `(tactic| first
 |((with_reducible refine DW.dt ?_);walk_at "dw")
 |((with_reducible refine vp ?_);walk_at "dt")
 |((with_reducible refine Fk ?_ ?_ ?_ ?_);walk_at "od";walk_at "de";walk_at "de";with_unfolding_all rfl)
 |((with_reducible refine mv ?_ ?_);walk_at "de";exact λ_=>rfl))
local macro_rules | `(tactic| walk_at "dw") => `(tactic| first
 |((with_reducible refine Cc ?_);walk_at "dt")
 |((with_reducible refine Gv ?_);walk_at "dt")
 |((with_reducible refine Qk ?_ ?_);walk_at "dt";walk_at "dw")
 |((with_reducible refine ag ?_ ?_);walk_at "dt";walk_at "dw"))
local macro_rules | `(tactic| walk_at "dts") => `(tactic| first
 |with_reducible exact td
 |((with_reducible refine du ?_);walk_at "dt"))
local macro_rules | `(tactic| walk_at "di") => `(tactic| first
 |((with_reducible refine lz ?_ ?_ ?_ ?_);assumption;rfl;walk_at "da";rfl)
 |((with_reducible refine Gy ?_ ?_ ?_ ?_ ?_);assumption;rfl;walk_at "da";rfl;rfl)
 |((with_reducible refine Rq ?_);walk_at "de"))
local macro_rules | `(tactic| walk_at "dg") => `(tactic| first
 |((with_reducible refine NY ?_ ?_ ?_ ?_);exact⟨_,_,_, ‹L9 _ _ _›,rfl⟩;rfl;(first|exact Or.inl rfl|exact Or.inr rfl);(first|exact .inl rfl|exact .inr rfl))
 |((with_reducible refine gT ?_ ?_ ?_ ?_);assumption;rfl;(first|exact Or.inl rfl|exact Or.inr rfl);(first|exact .inl rfl|exact .inr rfl))
 |((with_reducible refine Bt ?_ ?_ ?_ ?_);rfl;walk_at "dgs";rfl;rfl)
 |((with_reducible refine Bw ?_ ?_ ?_ ?_);exact U1.units (by assumption);walk_at "de";walk_at "de";exact λ_=>rfl))
local macro_rules | `(tactic| walk_at "dgs") => `(tactic| first
 |with_reducible exact Kj
 |((with_reducible refine Bz ?_ ?_ ?_);walk_at "dg";walk_at "dgs";rfl))
local macro_rules | `(tactic| walk_at "ds") => `(tactic| first
 |((with_reducible refine Ki ?_);walk_at "de")
 |((with_reducible refine Nb ?_ ?_ ?_);walk_at "dt";walk_at "db";walk_at "db")
 |((with_reducible refine Ii ?_ ?_ ?_ ?_ ?_ ?_ ?_ ?_ ?_ ?_);rfl;walk_at "di";walk_at "ck";decide +kernel;(intro _ _ _ _ _;walk_at "dg");(intro _ _ _ _;walk_at "dts");(intro _ _ _ _;walk_at "de");(exact λ_=>rfl);walk_at "dg";rfl)
 |((with_reducible refine aj ?_ ?_ ?_ ?_ ?_);walk_at "de";walk_at "dg";rfl;rfl;rfl)
 |((with_reducible refine dz ?_ ?_);walk_at "de";rfl)
 |((with_reducible refine pc ?_ ?_ ?_ ?_ ?_ ?_);exact PassesOwn.never;rfl;walk_at "di";walk_at "dg";walk_at "db";exact λ_=>rfl)
 |((with_reducible refine ql ?_ ?_ ?_);exact PassesOwn.never;walk_at "dt";walk_at "db"))
local macro_rules | `(tactic| walk_at "db") => `(tactic| first
 |with_reducible exact Kh
 |((with_reducible refine aP ?_);walk_at "ds")
 |((with_reducible refine nU ?_ ?_);walk_at "ds";walk_at "db"))
local macro_rules | `(tactic| walk_at "db0") => `(tactic| first
 |(refine aP ?_;walk_at "ds")
 |(refine nU ?_ ?_;walk_at "ds";walk_at "db"))
set_option maxHeartbeats 2000000
local macro_rules | `(tactic| walk_at "sc") => `(tactic| exact ⟨rfl, rfl, rfl, by decide +kernel, rfl, by decide +kernel, by decide +kernel⟩)
local macro_rules | `(tactic| walk_at "ba") => `(tactic| (intro _ _ _ _ _ _ us h; (repeat (have q := ar h; clear h; obtain ⟨_, _, e, h⟩ := q; subst e)); cases List.eq_nil_of_length_eq_zero h; rfl))
abbrev aQ:D:=.str ("any" :Str)
abbrev eQ:D:=.tup [.tup [],.tup [.str ("of" :Str),.tup []],.tup [],.non,.non]
abbrev kW:D:=.tup [.tup [.tup [.non,.non]],.tup [.str ("but" :Str),.tup []],.tup [.bl false,.bl true],.tup [.tup [],.str ("any" :Str)],.tup [.tup [],.str ("any" :Str)]]
abbrev qS:D:=.int 4
structure BC(K:zo)(mg:Str->Option zm):Prop where
 b:BLs mg
 c_ANY:WE K mg "ANY" aQ
 c_NOTHING:WE K mg "NOTHING" eQ
 c_ALL_PARTS:WE K mg "ALL_PARTS" kW
 c_MOST_NAMES:WE K mg "MOST_NAMES" qS
local macro_rules | `(tactic| walk_at "s1") => `(tactic| (walk_at "sc"; walk_at "ba"; (intro _ _ _ _ _ _ _ _ _; obtain ⟨_, _, _, _, _⟩ := (‹_› : BC _ _); skip)))
def top(i:Nat):Stmt:=PySem.Challenge.pw_allmeet_k49_what_is_a_telling.main.body.getD i (.Pass ⟨0,0,0,0⟩)
section
variable{E:Ev}(zx:EvX E)(zb:BC E.K E.mg)
include zx zb
def Pd(Y:FH E.K "_law_draws" (top 37)):Ck E dF 1 "_law_draws" 1:=by refine Q3 ["script", "draws", "k", "rest", "stir", "many"] ["script"] zx Y ?_ ?_ rfl rfl ?_;walk_at "s1";unfold mN;unfold DB D1 D2 WT1 WB1;walk_at "db0"
variable(k0:Ck E dF 1 "_law_draws" 1)
def sj(Y:FH E.K "_law_take" (top 38)):Ck E j9 2 "_law_take" 1:=by refine Q3 ["draws", "many"] ["draws", "many"] zx Y ?_ ?_ rfl rfl ?_;walk_at "s1";unfold tL;walk_at "db0"
variable(k1:Ck E j9 2 "_law_take" 1)
include k1 in
def NZ(Y:FH E.K "_law_word" (top 40)):Ck E oF 1 "_law_word" 2:=by refine Q3 ["draws", "way", "some", "size", "word", "k"] ["draws"] zx Y ?_ ?_ rfl rfl ?_;walk_at "s1";unfold KI;unfold woA woR woL woB;walk_at "db0"
variable(k2:Ck E oF 1 "_law_word" 2)
include k2 in
def Lz(Y:FH E.K "_law_name" (top 41)):Ck E O6 1 "_law_name" 3:=by refine Q3 ["draws", "word"] ["draws"] zx Y ?_ ?_ rfl rfl ?_;walk_at "s1";unfold aO;walk_at "db0"
variable(k3:Ck E O6 1 "_law_name" 3)
include k1 k3 in
def Ig(Y:FH E.K "_law_path" (top 53)):Ck E Z8 1 "_law_path" 4:=by refine Q3 ["draws"] ["draws"] zx Y ?_ ?_ rfl rfl ?_;walk_at "s1";unfold ML;walk_at "db0"
variable(k4:Ck E Z8 1 "_law_path" 4)
def uo(Y:FH E.K "_law_nothing" (top 47)):Ck E O7 0 "_law_nothing" 1:=by refine Q3 [] [] zx Y ?_ ?_ rfl rfl ?_;walk_at "s1";unfold oR;walk_at "db0"
variable(k5:Ck E O7 0 "_law_nothing" 1)
def Kg(Y:FH E.K "_law_made" (top 48)):Ck E LH 5 "_law_made" 1:=by refine Q3 ["numbers", "texts", "truths", "lists", "records"] ["numbers", "texts", "truths", "lists", "records"] zx Y ?_ ?_ rfl rfl ?_;walk_at "s1";unfold uM;walk_at "db0"
variable(k6:Ck E LH 5 "_law_made" 1)
def Nw(Y:FH E.K "_law_end" (top 42)):Ck E qF 1 "_law_end" 1:=by refine Q3 ["number"] ["number"] zx Y ?_ ?_ rfl rfl ?_;walk_at "s1";unfold kS;walk_at "db0"
variable(k7:Ck E qF 1 "_law_end" 1)
include k7 in
def rX(Y:FH E.K "_law_joined" (top 43)):Ck E sG 1 "_law_joined" 2:=by refine Q3 ["pairs", "found", "low", "high"] ["pairs"] zx Y ?_ ?_ rfl rfl ?_;walk_at "s1";unfold RJ;unfold LB LE;walk_at "db0"
variable(k8:Ck E sG 1 "_law_joined" 2)
include k1 in
def eX(Y:FH E.K "_law_number" (top 39)):Ck E Q9 1 "_law_number" 2:=by refine Q3 ["draws", "way", "small", "large", "k"] ["draws"] zx Y ?_ ?_ rfl rfl ?_;walk_at "s1";unfold QH;unfold N2 N1 N3 NB;walk_at "db0"
variable(k9:Ck E Q9 1 "_law_number" 2)
include k1 k8 k9 in
def fg(Y:FH E.K "_law_numbers" (top 44)):Ck E rK 1 "_law_numbers" 3:=by refine Q3 ["draws", "many", "ends", "pairs", "k", "way"] ["draws"] zx Y ?_ ?_ rfl rfl ?_;walk_at "s1";unfold bI;unfold nuM nuL nuH nuB nuA nuS nuE;walk_at "db0"
variable(k10:Ck E rK 1 "_law_numbers" 3)
def oz(Y:FH E.K "_law_ranked" (top 45)):Ck E cH 1 "_law_ranked" 1:=by refine Q3 ["words"] ["words"] zx Y ?_ ?_ rfl rfl ?_;walk_at "s1";unfold UI;unfold rkC;walk_at "db0"
variable(k11:Ck E cH 1 "_law_ranked" 1)
include k1 k2 k11 in
def bq(Y:FH E.K "_law_texts" (top 46)):Ck E bK 1 "_law_texts" 3:=by refine Q3 ["draws", "many", "some"] ["draws"] zx Y ?_ ?_ rfl rfl ?_;walk_at "s1";unfold II;unfold dtA dtC dtB;walk_at "db0"
variable(k12:Ck E bK 1 "_law_texts" 3)
include k5 in
def RW{R:List D->M D}{lv:Nat}(kR:Ck E R 2 "_law_some" lv)(h2:3<=lv)(Y:FH E.K "_law_front" (top 49)):Ck E (Q7 R) 2 "_law_front" (lv+1):=by refine Q3 ["draws", "deep", "some"] ["draws", "deep"] zx Y ?_ ?_ rfl rfl ?_;walk_at "s1";unfold gO;walk_at "db0"
include k1 in
def dW{R:List D->M D}{lv:Nat}(kR:Ck E R 2 "_law_some" lv)(h14:Ck E (Q7 R) 2 "_law_front" (lv+1))(h2:3<=lv)(Y:FH E.K "_law_lists" (top 50)):Ck E (vF R) 2 "_law_lists" (lv+2):=by refine Q3 ["draws", "deep", "many", "fronts"] ["draws", "deep"] zx Y ?_ ?_ rfl rfl ?_;walk_at "s1";unfold uN;unfold rcM;walk_at "db0"
include k1 k3 in
def eP{R:List D->M D}{lv:Nat}(kR:Ck E R 2 "_law_some" lv)(h14:Ck E (Q7 R) 2 "_law_front" (lv+1))(h2:3<=lv)(Y:FH E.K "_law_records" (top 51)):Ck E (X8 R) 2 "_law_records" (lv+2):=by refine Q3 ["draws", "deep", "many", "found", "k", "name", "more", "fields"] ["draws", "deep"] zx Y ?_ ?_ rfl rfl ?_;walk_at "s1";unfold PH;unfold rcM flT;walk_at "db0"
include k1 k5 k6 k10 k12 in
def UZ{R:List D->M D}{lv:Nat}(kR:Ck E R 2 "_law_some" lv)(h15:Ck E (vF R) 2 "_law_lists" (lv+2))(h16:Ck E (X8 R) 2 "_law_records" (lv+2))(h2:3<=lv)(Y:FH E.K "_law_some" (top 52)):Ck E (v7 9 (IF R)) 2 "_law_some" (lv+3):=by refine Q3 ["draws", "deep", "way", "mask", "numbers", "texts", "truths", "lists", "records"] ["draws", "deep"] zx Y ?_ ?_ rfl rfl ?_;walk_at "s1";unfold IF;unfold smB smL smK smT smN smV smD;walk_at "db0"
section
variable(Y:FH E.K "_law_some" (top 52))(Y14:FH E.K "_law_front" (top 49))(Y15:FH E.K "_law_lists" (top 50))(Y16:FH E.K "_law_records" (top 51))
include Y Y14 Y15 Y16 k1 k3 k5 k6 k10 k12
theorem NO:∀n,Ck E (Z5 n) 2 "_law_some" (3+3*n)
|0=>Hg ["draws", "deep"] zx Y (by walk_at "ba") rfl
|n+1=>by have kR:=NO n;have h14:=RW zx zb k5 kR (yx _ _) Y14;have h15:=dW zx zb k1 kR h14 (yx _ _) Y15;have h16:=eP zx zb k1 k3 kR h14 (yx _ _) Y16;exact UZ zx zb k1 k5 k6 k10 k12 kR h15 h16 (yx _ _) Y
end
include k1 k3 k5 k6 k10 k12 in
def Dj(Y:FH E.K "_law_some" (top 52))(Y14:FH E.K "_law_front" (top 49))(Y15:FH E.K "_law_lists" (top 50))(Y16:FH E.K "_law_records" (top 51)):Ck E U7 2 "_law_some" 27:=NO zx zb k1 k3 k5 k6 k10 k12 Y Y14 Y15 Y16 8
variable(k13:Ck E U7 2 "_law_some" 27)
include k5 k13 in
def uX(Y:FH E.K "_law_front" (top 49)):Ck E RQ 2 "_law_front" 28:=RW zx zb k5 k13 (by decide) Y
variable(k14:Ck E RQ 2 "_law_front" 28)
include k1 k13 k14 in
def Rm(Y:FH E.K "_law_lists" (top 50)):Ck E oT 2 "_law_lists" 29:=dW zx zb k1 k13 k14 (by decide) Y
variable(k15:Ck E oT 2 "_law_lists" 29)
include k1 k3 k13 k14 in
def kf(Y:FH E.K "_law_records" (top 51)):Ck E lW 2 "_law_records" 29:=eP zx zb k1 k3 k13 k14 (by decide) Y
variable(k16:Ck E lW 2 "_law_records" 29)
include k1 k3 in
def uw(Y:FH E.K "_law_names" (top 54)):Ck E IG 1 "_law_names" 4:=by refine Q3 ["draws", "many", "stem", "at", "letters", "pairs"] ["draws"] zx Y ?_ ?_ rfl rfl ?_;walk_at "s1";unfold TH;unfold naM naP naQ;walk_at "db0"
variable(k17:Ck E IG 1 "_law_names" 4)
include k1 k4 k9 k13 k17 in
def Mb(Y:FH E.K "_law_telling" (top 55)):Ck E pH 1 "_law_telling" 28:=by refine Q3 ["draws", "way", "path"] ["draws"] zx Y ?_ ?_ rfl rfl ?_;walk_at "s1";unfold tH;unfold teN;walk_at "db0"
variable(k18:Ck E pH 1 "_law_telling" 28)
def Tc(Y:FH E.K "is_couple" (top 20)):Ck E tG 1 "is_couple" 1:=by refine Q3 ["thing"] ["thing"] zx Y ?_ ?_ rfl rfl ?_;walk_at "s1";unfold mM;walk_at "db0"
variable(k19:Ck E tG 1 "is_couple" 1)
include k19 in
def mn(Y:FH E.K "has_lists_form" (top 22)):Ck E gJ 1 "has_lists_form" 2:=by refine Q3 ["thing"] ["thing"] zx Y ?_ ?_ rfl rfl ?_;walk_at "s1";unfold lR;walk_at "db0"
variable(k20:Ck E gJ 1 "has_lists_form" 2)
def Cz(Y:FH E.K "rising" (top 5)):Ck E W2 1 "rising" 1:=by refine Q3 ["keys"] ["keys"] zx Y ?_ ?_ rfl rfl ?_;walk_at "s1";unfold oJ;walk_at "db0"
variable(k21:Ck E W2 1 "rising" 1)
def ke(Y:FH E.K "names_of" (top 6)):Ck E kJ 1 "names_of" 1:=by refine Q3 ["pairs"] ["pairs"] zx Y ?_ ?_ rfl rfl ?_;walk_at "s1";unfold uH;walk_at "db0"
variable(k22:Ck E kJ 1 "names_of" 1)
def Hc(Y:FH E.K "is_text" (top 2)):Ck E UC 1 "is_text" 1:=by refine Q3 ["thing"] ["thing"] zx Y ?_ ?_ rfl rfl ?_;walk_at "s1";unfold TM;walk_at "db0"
variable(k23:Ck E UC 1 "is_text" 1)
include k23 in
def Lw(Y:FH E.K "is_name" (top 3)):Ck E fG 1 "is_name" 2:=by refine Q3 ["thing"] ["thing"] zx Y ?_ ?_ rfl rfl ?_;walk_at "s1";unfold eS;walk_at "db0"
variable(k24:Ck E fG 1 "is_name" 2)
include k24 in
def Ga(Y:FH E.K "is_field" (top 21)):Ck E mK 1 "is_field" 3:=by refine Q3 ["thing"] ["thing"] zx Y ?_ ?_ rfl rfl ?_;walk_at "s1";unfold AM;walk_at "db0"
variable(k25:Ck E mK 1 "is_field" 3)
include k19 k21 k22 k25 in
def Ky(Y:FH E.K "has_records_form" (top 23)):Ck E U9 1 "has_records_form" 4:=by refine Q3 ["thing"] ["thing"] zx Y ?_ ?_ rfl rfl ?_;walk_at "s1";unfold PN;walk_at "db0"
variable(k26:Ck E U9 1 "has_records_form" 4)
def au(Y:FH E.K "lies_clear" (top 12)):Ck E FJ 2 "lies_clear" 1:=by refine Q3 ["lower", "upper"] ["lower", "upper"] zx Y ?_ ?_ rfl rfl ?_;walk_at "s1";unfold gP;walk_at "db0"
variable(k27:Ck E FJ 2 "lies_clear" 1)
def Bb(Y:FH E.K "is_empty" (top 11)):Ck E vK 2 "is_empty" 1:=by refine Q3 ["low", "high"] ["low", "high"] zx Y ?_ ?_ rfl rfl ?_;walk_at "s1";unfold CQ;walk_at "db0"
variable(k28:Ck E vK 2 "is_empty" 1)
def LX(Y:FH E.K "is_whole" (top 1)):Ck E pG 1 "is_whole" 1:=by refine Q3 ["thing"] ["thing"] zx Y ?_ ?_ rfl rfl ?_;walk_at "s1";unfold tU;walk_at "db0"
variable(k29:Ck E pG 1 "is_whole" 1)
include k29 in
def Nd(Y:FH E.K "is_end" (top 9)):Ck E WF 1 "is_end" 2:=by refine Q3 ["thing"] ["thing"] zx Y ?_ ?_ rfl rfl ?_;walk_at "s1";unfold TU;walk_at "db0"
variable(k30:Ck E WF 1 "is_end" 2)
include k28 k30 in
def Rz(Y:FH E.K "is_stretch" (top 10)):Ck E sH 1 "is_stretch" 3:=by refine Q3 ["thing"] ["thing"] zx Y ?_ ?_ rfl rfl ?_;walk_at "s1";unfold KM;walk_at "db0"
variable(k31:Ck E sH 1 "is_stretch" 3)
include k27 k31 in
def An(Y:FH E.K "is_numbers" (top 13)):Ck E HJ 1 "is_numbers" 4:=by refine Q3 ["thing"] ["thing"] zx Y ?_ ?_ rfl rfl ?_;walk_at "s1";unfold HN;walk_at "db0"
variable(k32:Ck E HJ 1 "is_numbers" 4)
def Gu(Y:FH E.K "is_tagged" (top 4)):Ck E NE 2 "is_tagged" 1:=by refine Q3 ["thing", "word"] ["thing", "word"] zx Y ?_ ?_ rfl rfl ?_;walk_at "s1";unfold oM;walk_at "db0"
variable(k33:Ck E NE 2 "is_tagged" 1)
def Ba(Y:FH E.K "text_order" (top 7)):Ck E V7 1 "text_order" 1:=by refine Q3 ["text"] ["text"] zx Y ?_ ?_ rfl rfl ?_;walk_at "s1";unfold NK;walk_at "db0"
variable(k34:Ck E V7 1 "text_order" 1)
include k21 k23 k33 k34 in
def Qg(Y:FH E.K "is_texts" (top 14)):Ck E MG 1 "is_texts" 2:=by refine Q3 ["thing"] ["thing"] zx Y ?_ ?_ rfl rfl ?_;walk_at "s1";unfold pN;walk_at "db0"
variable(k35:Ck E MG 1 "is_texts" 2)
include k21 in
def Vv(Y:FH E.K "is_truths" (top 15)):Ck E kG 1 "is_truths" 2:=by refine Q3 ["thing"] ["thing"] zx Y ?_ ?_ rfl rfl ?_;walk_at "s1";unfold VL;walk_at "db0"
variable(k36:Ck E kG 1 "is_truths" 2)
include k20 k26 k32 k35 k36 in
def Lf(Y:FH E.K "has_set_form" (top 24)):Ck E iK 1 "has_set_form" 5:=by refine Q3 ["thing"] ["thing"] zx Y ?_ ?_ rfl rfl ?_;walk_at "s1";unfold lM;walk_at "db0"
variable(k37:Ck E iK 1 "has_set_form" 5)
def Wf(Y:FH E.K "inner_sets" (top 25)):Ck E V9 1 "inner_sets" 1:=by refine Q3 ["thing", "inner"] ["thing"] zx Y ?_ ?_ rfl rfl ?_;walk_at "s1";unfold V5;unfold IR IL;walk_at "db0"
variable(k38:Ck E V9 1 "inner_sets" 1)
def Vq(Y:FH E.K "outer_form" (top 26)):Ck E PF 1 "outer_form" 1:=by refine Q3 ["some", "fronts", "fields"] ["some"] zx Y ?_ ?_ rfl rfl ?_;walk_at "s1";unfold sQ;walk_at "db0"
variable(k39:Ck E PF 1 "outer_form" 1)
include k38 k39 in
def bm(Y:FH E.K "same_set" (top 27)):Ck E dJ 2 "same_set" 2:=by refine Q3 ["one", "other", "waiting", "pair"] ["one", "other"] zx Y ?_ ?_ rfl rfl ?_;walk_at "s1";unfold KJ;unfold Z3 Z2 Z1;walk_at "db0"
variable(k40:Ck E dJ 2 "same_set" 2)
include k40 in
def uh(Y:FH E.K "is_due" (top 28)):Ck E QJ 2 "is_due" 3:=by refine Q3 ["field", "more"] ["field", "more"] zx Y ?_ ?_ rfl rfl ?_;walk_at "s1";unfold QL;walk_at "db0"
variable(k41:Ck E QJ 2 "is_due" 3)
include k41 in
def ic(Y:FH E.K "has_one_form" (top 29)):Ck E X5 1 "has_one_form" 4:=by refine Q3 ["some"] ["some"] zx Y ?_ ?_ rfl rfl ?_;walk_at "s1";unfold LN;unfold OF3 OF2 OF4 OF1;walk_at "db0"
variable(k42:Ck E X5 1 "has_one_form" 4)
include k37 k38 k42 in
def qb(Y:FH E.K "is_set" (top 30)):Ck E QI 1 "is_set" 6:=by refine Q3 ["thing", "found", "waiting", "some"] ["thing"] zx Y ?_ ?_ rfl rfl ?_;walk_at "s1";unfold WH;unfold V4 V2 V3 Z1;walk_at "db0"
variable(k43:Ck E QI 1 "is_set" 6)
include k24 in
def Sf(Y:FH E.K "is_row_of_names" (top 33)):Ck E S7 1 "is_row_of_names" 3:=by refine Q3 ["thing"] ["thing"] zx Y ?_ ?_ rfl rfl ?_;walk_at "s1";unfold PP;walk_at "db0"
variable(k44:Ck E S7 1 "is_row_of_names" 3)
include k44 in
def Mv(Y:FH E.K "is_path" (top 34)):Ck E NG 1 "is_path" 4:=by refine Q3 ["thing"] ["thing"] zx Y ?_ ?_ rfl rfl ?_;walk_at "s1";unfold rS;walk_at "db0"
variable(k45:Ck E NG 1 "is_path" 4)
include k21 k29 k43 k44 k45 in
def Ey(Y:FH E.K "is_telling" (top 35)):Ck E O5 1 "is_telling" 7:=by refine Q3 ["thing"] ["thing"] zx Y ?_ ?_ rfl rfl ?_;walk_at "s1";unfold wG;walk_at "db0"
variable(k46:Ck E O5 1 "is_telling" 7)
include k46 in
def wd(Y:FH E.K "_law_told" (top 60)):Ck E X6 2 "_law_told" 8:=by refine Q3 ["thing", "due", "found"] ["thing", "due"] zx Y ?_ ?_ rfl rfl ?_;walk_at "s1";unfold IK;walk_at "db0"
variable(k47:Ck E X6 2 "_law_told" 8)
include k1 k5 k9 in
def Gg(Y:FH E.K "_law_bad_set" (top 56)):Ck E NI 1 "_law_bad_set" 3:=by refine Q3 ["draws", "full", "none", "number", "three", "some"] ["draws"] zx Y ?_ ?_ rfl rfl ?_;walk_at "s1";unfold eN;walk_at "db0"
variable(k48:Ck E NI 1 "_law_bad_set" 3)
include k1 k48 in
def VY(Y:FH E.K "_law_bad_end" (top 58)):Ck E Q0 2 "_law_bad_end" 4:=by refine Q3 ["draws", "telling", "names"] ["draws", "telling"] zx Y ?_ ?_ rfl rfl ?_;walk_at "s1";unfold wF;walk_at "db0"
variable(k49:Ck E Q0 2 "_law_bad_end" 4)
include k1 in
def nv(Y:FH E.K "_law_bad_path" (top 57)):Ck E N6 2 "_law_bad_path" 2:=by refine Q3 ["draws", "path", "some"] ["draws", "path"] zx Y ?_ ?_ rfl rfl ?_;walk_at "s1";unfold BN;walk_at "db0"
variable(k50:Ck E N6 2 "_law_bad_path" 2)
include k1 k49 k50 in
def gp(Y:FH E.K "_law_spoilt" (top 59)):Ck E W3 2 "_law_spoilt" 5:=by refine Q3 ["draws", "telling", "way"] ["draws", "telling"] zx Y ?_ ?_ rfl rfl ?_;walk_at "s1";unfold eI;walk_at "db0"
variable(k51:Ck E W3 2 "_law_spoilt" 5)
end
set_option maxHeartbeats 4000000 in
def all_mk{l:PySem.W.OpenLaw}{w:jg}{K:zo}{h:Heap}{mg:Str->Option zm}{fa:Addr}(X:K.In h)(G:h.Ns jG mg)(hfa:mg "law" =some (.ref fa))(Z0:FHs K top ["_law_draws", "_law_take", "_law_word", "_law_name", "_law_path", "_law_nothing", "_law_made", "_law_end", "_law_joined", "_law_number", "_law_numbers", "_law_ranked", "_law_texts", "_law_some", "_law_front", "_law_lists", "_law_records", "_law_names", "_law_telling", "is_couple", "has_lists_form", "rising", "names_of", "is_text", "is_name"] [37,38,40,41,53,47,48,42,43,39,44,45,46,52,49,50,51,54,55,20,22,5,6,2,3])(Z25:FHs K top ["is_field", "has_records_form", "lies_clear", "is_empty", "is_whole", "is_end", "is_stretch", "is_numbers", "is_tagged", "text_order", "is_texts", "is_truths", "has_set_form", "inner_sets", "outer_form", "same_set", "is_due", "has_one_form", "is_set", "is_row_of_names", "is_path", "is_telling", "_law_told", "_law_bad_set", "_law_bad_end"] [21,23,12,11,1,9,10,13,4,7,14,15,24,25,26,27,28,29,30,33,34,35,60,56,58])(Z50:FHs K top ["_law_bad_path", "_law_spoilt", "law"] [57,59,61])
 (g_ANY:CC K mg "ANY" aQ)
 (g_NOTHING:CC K mg "NOTHING" eQ)
 (g_ALL_PARTS:CC K mg "ALL_PARTS" kW)
 (g_MOST_NAMES:CC K mg "MOST_NAMES" qS)
 (z:∀b∈bltL,ZK K jG b=some none) (pure:∀ns:List Int,ns.length<=63->∃G',fM [.ref 0] [.rol (ns.map D.int)]=some (.ok (.bl true),G')):
 ∃fd:xW,(∀(s:zA) (v:zm),Xt s fd ⟨[v], []⟩ [("script",v)])/\∀base:Heap,K.In base->base.Ns jG mg->F4 l.prog w K mg base CX0 29 fa fd ["script"] (RH K):=by
 obtain⟨Y0,Y1,Y2,Y3,Y4,Y5,Y6,Y7,Y8,Y9,Y10,Y11,Y12,Y13,Y14,Y15,Y16,Y17,Y18,Y19,Y20,Y21,Y22,Y23,Y24,_⟩:=Z0;obtain⟨Y25,Y26,Y27,Y28,Y29,Y30,Y31,Y32,Y33,Y34,Y35,Y36,Y37,Y38,Y39,Y40,Y41,Y42,Y43,Y44,Y45,Y46,Y47,Y48,Y49,_⟩:=Z25;obtain⟨Y50,Y51,Y52,_⟩:=Z50;have zb:BC K mg:=⟨BLs.of X G z,g_ANY.ok X G,g_NOTHING.ok X G,g_ALL_PARTS.ok X G,g_MOST_NAMES.ok X G⟩;refine vZ (N:= ["script", "draws", "others", "many", "other", "telling"]) X G hfa Y52 (by walk_at "ba") (by walk_at "sc") rfl (λ_ _ _ _ _ _ s v=>.of_eq rfl) (λbase=>?_) pure;have zx:EvX ⟨l.prog,w,K,mg,base⟩:=⟨h,X,G⟩;have k0:=Pd zx zb Y0;have k1:=sj zx zb Y1;have k2:=NZ zx zb k1 Y2;have k3:=Lz zx zb k2 Y3;have k4:=Ig zx zb k1 k3 Y4;have k5:=uo zx zb Y5;have k6:=Kg zx zb Y6;have k7:=Nw zx zb Y7;have k8:=rX zx zb k7 Y8;have k9:=eX zx zb k1 Y9;have k10:=fg zx zb k1 k8 k9 Y10;have k11:=oz zx zb Y11;have k12:=bq zx zb k1 k2 k11 Y12;have k13:=Dj zx zb k1 k3 k5 k6 k10 k12 Y13 Y14 Y15 Y16;have k14:=uX zx zb k5 k13 Y14;have k15:=Rm zx zb k1 k13 k14 Y15;have k16:=kf zx zb k1 k3 k13 k14 Y16;have k17:=uw zx zb k1 k3 Y17;have k18:=Mb zx zb k1 k4 k9 k13 k17 Y18;have k19:=Tc zx zb Y19;have k20:=mn zx zb k19 Y20;have k21:=Cz zx zb Y21;have k22:=ke zx zb Y22;have k23:=Hc zx zb Y23;have k24:=Lw zx zb k23 Y24;have k25:=Ga zx zb k24 Y25;have k26:=Ky zx zb k19 k21 k22 k25 Y26;have k27:=au zx zb Y27;have k28:=Bb zx zb Y28;have k29:=LX zx zb Y29;have k30:=Nd zx zb k29 Y30;have k31:=Rz zx zb k28 k30 Y31;have k32:=An zx zb k27 k31 Y32;have k33:=Gu zx zb Y33;have k34:=Ba zx zb Y34;have k35:=Qg zx zb k21 k23 k33 k34 Y35;have k36:=Vv zx zb k21 Y36;have k37:=Lf zx zb k20 k26 k32 k35 k36 Y37;have k38:=Wf zx zb Y38;have k39:=Vq zx zb Y39;have k40:=bm zx zb k38 k39 Y40;have k41:=uh zx zb k40 Y41;have k42:=ic zx zb k41 Y42;have k43:=qb zx zb k37 k38 k42 Y43;have k44:=Sf zx zb k24 Y44;have k45:=Mv zx zb k44 Y45;have k46:=Ey zx zb k21 k29 k43 k44 k45 Y46;have k47:=wd zx zb k46 Y47;have k48:=Gg zx zb k1 k5 k9 Y48;have k49:=VY zx zb k1 k48 Y49;have k50:=nv zx zb k1 Y50;have k51:=gp zx zb k1 k49 k50 Y51;intro _ _ _ _ _ _ _ _;obtain⟨_,_,_,_,_⟩:=zb;unfold lK;unfold laB laI laO laT;walk_at "db0"
mutual
def szD:D->Nat
| .tup l=>1+szL l
| .str _=>1
| .ref _=>1
| .fn _=>1
| .ty _=>1
| .non=>1
| .bl _=>1
| .int _=>1
def szL:List D->Nat
|[]=>0
|d::r=>szD d+szL r
end
def UJ:∀d:D,1<=szD d:=λd=>by cases d<;>unfold szD<;>lia
def CA:∀l:List D,l.length<=szL l
|[]=>by simp[szL]
|d::r=>by have:=CA r;have:=UJ d;unfold szL;simp only[zM];lia
def W6:∀a b:List D,szL (a++b)=szL a+szL b
|[],b=>by simp[szL]
|d::r,b=>by have:=W6 r b;simp only[List.cons_append,szL];lia
theorem tO:∀ {l} {d},d∈l->szD d<=szL l
|[],_,h=>by cases h
|a::r,d,h=>by
  unfold szL;rcases zn.mp h with rfl|h
  ·lia
  ·have:=tO h;lia
def B5(w:Str):D->Bool
| .tup [.str a,.tup _]=>a==w
|_=>false
def bD:D->List D
| .tup [_,.tup l]=>l
|_=> []
def pR(h:B5 w d=true):∃l,d= .tup [.str w,.tup l]:=by
 unfold B5 at h;split at h
 ·rename_i a l;rw[beq_iff_eq]at h;subst h;exact⟨l,rfl⟩
 ·exact B7 h
def Ap(G G':DH):Prop:=∃t,G'=G++t
def Ap.refl:Ap G G:=⟨[],by simp⟩
def Ap.trans(h:Ap G G1)(k:Ap G1 G2):Ap G G2:=by obtain⟨t,rfl⟩:=h;obtain⟨u,rfl⟩:=k;exact⟨t++u,by simp⟩
def Ap.one:Ap G (G++[o]):=⟨_,rfl⟩
def Ap.at{p:Nat}(h:Ap G G')(e:G[p]? =some o):G'[p]? =some o:=by obtain⟨t,rfl⟩:=h;exact R8 e
def Ap.len(h:Ap G G'):G.length<=G'.length:=by obtain⟨t,rfl⟩:=h;simp
section
theorem nJ(J:DH->Prop)(S:DSt->Prop)(f:D->D)(Mn:∀G,J G->ck G=true):∀items σ G,S σ->J G->
 (∀d∈items,∀ σ G,S σ->J G->Wp (g d σ) G λWZ G1=>G1=G/\S WZ/\Wp (t WZ) G λb G2=>b=true/\G2=G/\Wp (e WZ) G λy G3=>J G3/\y=f d)->
 Wp (K7 g t e ck items σ) G λys G'=>J G'/\ys=items.map f
 |[],σ,G,s,j,_=>by rw[Z4];exact⟨Mn G j,j,rfl⟩
 |d::r,σ,G,s,j,step=>by rw[Z6];refine⟨Mn G j,Wp.mono (step d (by simp) σ G s j) λWZ G1 ⟨e1,s1,w1⟩=>?_⟩;subst e1;refine Wp.mono w1 λb G2 ⟨eb,e2,w2⟩=>?_;subst eb e2;rw[if_pos rfl];refine Wp.mono w2 λy G3 ⟨j3,py⟩=>?_;refine Wp.mono (nJ J S f Mn r WZ G3 s1 j3 λd hd=>step d (by simp[hd])) λys G4 ⟨j4,l4⟩=>⟨j4,by simp[l4,py]⟩
end
def Vk(e:G[p]? =some (.lst xs))(eq:G[q]? =some (.lst [])):Wp (eqD (.ref p) (.ref q)) G Q↔Q (.bl xs.isEmpty) G:=by
 have h:eqN 40 G (.ref p) (.ref q)=some xs.isEmpty:=by
  have h1:W9 G (.ref p)=some (false,xs):=by simp only[W9,e]
  have h2:W9 G (.ref q)=some (false, []):=by simp only[W9,eq]
  rw[P7,h1,h2]
  cases xs<;>rfl
 rw[LD,h];exact O9
def Kp{lo hi:Option Int}(e:G[p]? =some (.lst l)):Wp (slD (.ref p) lo hi) G Q↔Q (.ref G.length) (G++[.lst (DL.cutD l lo hi)]):=by
 have h:slD (.ref p) lo hi= (do
  let l <-O4 p >>= DL.listOf
  N7 (.lst (DL.cutD l lo hi))):=rfl
 rw[h];simp only[m6,O8,e,O9,DL.listOf,wp_pure,U4]
def big:1000000<zj:=by decide
section
def sB:Wp (S5 (n+1) t b σ) G P↔Wp (t σ) G λk G1=>if k=true then Wp (b σ) G1 λfl G2=>match fl with
 | .nx X1=>Wp (S5 n t b X1) G2 P
 | .ct X1=>Wp (S5 n t b X1) G2 P
 | .bk X1=>P (.nx X1) G2
 | .rt d=>P (.rt d) G2
 else P (.nx σ) G1:=by
 rw[S5];simp only[m6,oB,wp_pure];constructor
 ·rintro⟨k,G1,e,q⟩;refine⟨k,G1,e,?_⟩;rcases k with _|_
  ·exact q
  ·
    simp only[if_true]at q ⊢;obtain⟨fl,G2,e2,q⟩:=q;refine⟨fl,G2,e2,?_⟩
    cases fl<;>first
     |exact q
     |exact wp_pure.mp q
 ·rintro⟨k,G1,e,q⟩;refine⟨k,G1,e,?_⟩;rcases k with _|_
  ·exact q
  ·
    simp only[if_true]at q ⊢;obtain⟨fl,G2,e2,q⟩:=q;refine⟨fl,G2,e2,?_⟩
    cases fl<;>first
     |exact q
     |exact wp_pure.mpr q
def bH(h:Wp (S5 n t b σ) G P):Wp (iA t b σ) G P:=by obtain⟨a,G',e,q⟩:=h;refine⟨a,G',?_,q⟩;have hx:∃n,(S5 n t b σ G).isSome=true:=⟨n,by rw[e];rfl⟩;unfold iA;rw[dif_pos hx];have hs:=Classical.choose_spec hx;obtain⟨r,hr⟩:=JO.mp hs;rw[hr];have e1:=LS (JH n (XG hx)) e;have e2:=LS (Jr n (XG hx)) hr;rw[e1]at e2;exact e2.symm
end
def GM(h:G[r]? =some (.lst (l++[y]))):Wp (EI (.ref r) []) G Q↔Q y (G.set r (.lst l)):=by
 have e:EI (.ref r) []= (do
  let l <-lstM r
  match l.getLast? with
  |some y=>do
    let _ <-E7 r (.lst l.dropLast)
    pure y
  |none=>M.stuck):=rfl
 rw[e];unfold lstM;simp only[m6,O8,h,O9,wp_pure,List.getLast?_append,List.getLast?_singleton,Option.some_or,List.dropLast_concat,sE]
def eJ(h:G[r]? =some (.lst l))(hq:G[q]? =some (.lst k))(hl:l.length+k.length<=zj):Wp (sC (.ref r) [.ref q]) G Q↔Q .non (G.set r (.lst (l++k))):=by
 have e:sC (.ref r) [.ref q]= (do
  let l <-lstM r
  let k <-lstM q
  if l.length+k.length<=zj then do
   let _ <-E7 r (.lst (l++k))
   pure .non
  else M.stuck):=rfl
 rw[e];unfold lstM;simp only[m6,O8,h,hq,O9,wp_pure,if_pos hl,sE]
def uF(e:G[p]? =some (.lst xs)):Wp (F7 (.ref p)) G B↔B (!xs.isEmpty) G:=by unfold F7;simp only[m6,O8,e,O9,wp_pure]
def lt_of_get{G:DH}(e:G[p]? =some o):p<G.length:=by
 by_cases hi:p<G.length
 ·exact hi
 ·rw[jC (by lia)]at e;exact v8 e
section
variable{bd n:Nat}
end
def Lv(l:List D)(n:Nat):DL.cutD l none (some (n:Int))=l.take n:=by
 unfold DL.cutD;rw[HT.sIx_none,HT.sIx_nat,List.drop_zero,Nat.sub_zero];by_cases h:n<=l.length
 ·rw[Nat.min_eq_left h]
 ·rw[Nat.min_eq_right (by lia),xv (zh _),xv (by lia)]
section
variable{G:DH}{Q:DPP}
def B8:D->Bool
| .bl _=>true
|_=>false
def wS{d:D}(h:r6 G d):Wp (v4 [d,.ty "bool"]) G Q↔Q (.bl (B8 d)) G:=by obtain⟨k,h⟩:=h;rw[qJ Ad];simp only[h,O9];rw[EJ (B8) (λk=>k.is .bool) h (λ_=>⟨rfl,rfl⟩) rfl (λ_=>rfl) (λ_=>rfl) (λ_=>rfl) λ_=>rfl]
def QR{i:Int}:Wp (GE [.int i]) G Q↔Q (.int (if i<0 then -i else i)) G:=wp_pure
end
section
variable{α β:Type}{R S:α->β->Prop}
end
mutual
def AT(n:Nat):D->Prop
| .str z=>z.length<=1000
| .tup l=>ATL n l
| .ref i=>i<n
| .fn _=>False
| .ty _=>False
| .non=>True
| .bl _=>True
| .int _=>True
def ATL(n:Nat):List D->Prop
|[]=>True
|d::r=>AT n d/\ATL n r
end
theorem vS:∀ {l},ATL n l↔∀x∈l,AT n x
|[]=>by simp[ATL]
|d::r=>by unfold ATL;rw[vS];simp
def WC:AT n (.tup l)↔∀x∈l,AT n x:=by
 have e:AT n (.tup l)=ATL n l:=by rw[AT]
 rw[e];exact vS
mutual
theorem AT.le(h:n<=m):∀ {d},AT n d->AT m d
| .str z,a=>by unfold AT at *;exact a
| .tup l,a=>by unfold AT at *;exact ATL.le h a
| .ref i,a=>by unfold AT at *;omega
| .fn _,a=>by unfold AT at a;exact a.elim
| .ty _,a=>by unfold AT at a;exact a.elim
| .non,a=>by unfold AT;trivial
| .bl _,a=>by unfold AT;trivial
| .int _,a=>by unfold AT;trivial
theorem ATL.le(h:n<=m):∀ {l},ATL n l->ATL m l
|[],_=>by unfold ATL;trivial
|d::r,a=>by unfold ATL at *;exact⟨AT.le h a.1,ATL.le h a.2⟩
end
def AT.there(h:AT G.length d):r6 G d:=by
 cases d with
 |ref i=>
   unfold AT at h;have e:G[i]? =some G[i]:=zD h
   cases ho:G[i] with
   |lst l=>exact⟨.list,by simp only[D5,e,ho]⟩
   |rol l=>exact⟨.list,by simp only[D5,e,ho]⟩
   |dct l=>exact⟨.dict,by simp only[D5,e,ho]⟩
   |rod l=>exact⟨.dict,by simp only[D5,e,ho]⟩
 |fn _=>unfold AT at h;exact h.elim
 |ty _=>unfold AT at h;exact h.elim
 |_=>exact⟨_,rfl⟩
def wU:D->Bool
| .str s=>BG (s.cps.getD 0 0)
|_=>false
def D8:D->Bool
| .str z=>g9 z
|_=>false
def TY(z:Str):(KA z).all wU=g9 z:=by unfold KA g9;rw[Zm];rfl
def Kr(z:Str):(KA z).length=z.length:=by unfold KA;rw[zd];rfl
def Wv(h:d∈KA z):∃c,d= .str ⟨#[c]⟩:=by unfold KA at h;obtain⟨c,_,rfl⟩:=zk.mp h;exact⟨c,rfl⟩
def Fi:Wp (leD (.str ("a" :Str)) (.str ⟨#[c]⟩)) G Q↔Q (.bl (decide (97<=c))) G:=by rw[MW,ik]
def De:Wp (leD (.str ⟨#[c]⟩) (.str ("z" :Str))) G Q↔Q (.bl (decide (c<=122))) G:=by rw[MW,Lm]
def GX(c:Nat):wU (.str ⟨#[c]⟩)=BG c:=rfl
def SE(h:AT n (.str z)):z.length<=1000:=by unfold AT at h;exact h
def cU(h:AT G.length d):Wp (UC [d]) G λx G'=>x= .bl (D8 d)/\Ap G G':=by
 have bg:=big;unfold UC TM;have s0:([d].map some++jx (1 - [d].length) none:DSt)= [some d]:=rfl;simp only[HA,s0,nA,FG,U3,R5,o8,E4,R4,zR,exists_eq_left',zJ,LL h.there,S8]
 cases d with
 |str z=>
   have hz:=SE h;simp only[bB,if_true];rw[Aa (λσ=>σ.length=1) rfl (by show (KA z).length<=_;rw[Kr];omega) rfl rfl (λx hx σ WI=>?_)]
   ·rw[HE o4];exact⟨by rw[TY];rfl,Ap.one⟩
   ·obtain⟨c,rfl⟩:=Wv hx
    match σ,WI with
    |[u],_=>
      refine⟨[some (.str ⟨#[c]⟩)],rfl,rfl,rfl,W7 ?_⟩;simp only[Wd,E4,R4,zJ,zR,exists_eq_left',Fi,De,BE,GX,BG];by_cases h1:97<=c
      ·simp[h1]
      ·simp[h1]
 |_=>simp only[bB,zw,if_false];exact⟨rfl,Ap.refl⟩
def Ag(h:AT G.length d):Wp (NE [d,.str w]) G Q↔Q (.bl (B5 w d)) G:=by
 unfold NE oM;have s0:([d,.str w].map some++jx (2 - [d,.str w].length) none:DSt)= [some d,some (.str w)]:=rfl;simp only[HA,s0,d8,uC,RD,iH,lE,W0,nA,FG,y9,U3,R5,o8,E4,R4,t8,zR,exists_eq_left',zJ,ji,mJ h.there,S8,BE]
 cases d with
 |tup l=>
   rw[WC]at h
   match l,h with
   |[],_=>simp[V6,mF,P0,B5]
   |[a],_=>simp[V6,mF,P0,B5]
   |[a,b],h=>
     have ha:=h a (by simp);have hb:=h b (by simp);simp only[V6,if_true,mF,P0,BE,S8,zM,yE,ix_tup,at0,at1,zR,exists_eq_left',LL ha.there];simp only[show decide (((0+1+1:Nat):Int)=2)=true from rfl,xE,zw,if_false]
     cases a with
     |str z=>
       simp only[bB,if_true,OI,S8,mJ hb.there];by_cases hz:(z==w)=true
       ·simp only[hz,if_true]
        cases b<;>simp[V6,B5,hz]
       ·have hz':(z==w)=false:=by simpa using hz
        simp only[hz',zw,if_false]
        cases b<;>simp[B5,hz']
     |_=>simp only[bB,zw,if_false,B5]
   |a::b::c::r,_=>
     have n2:¬((r.length:Int)+1+1+1=2):=by omega
     simp[V6,mF,P0,B5,n2]
 |_=>simp[V6,B5]
def CL:Wp (MD fs σ) G R↔Wp (fs σ) G λxs G1=>Wp (match xs with
 |[a,b]=>do
   let s1 <-C4 a
   let s2 <-C4 b
   pure ⟨(s1.items.zip s2.items).map λp=>.tup [p.1,p.2],λG=>s1.ck G&&s2.ck G⟩
 |_=>M.stuck:M Src) G1 R:=by
 unfold MD;simp only[m6]<;>rfl
def Eu(ep:G[p]? =some (.lst k))(eq:G[q]? =some (.lst l)):Wp (match [D.ref p,D.ref q] with
 |[a,b]=>do
   let s1 <-C4 a
   let s2 <-C4 b
   pure ⟨(s1.items.zip s2.items).map λp=>.tup [p.1,p.2],λG=>s1.ck G&&s2.ck G⟩
 |_=>M.stuck:M Src) G R↔R ⟨(k.zip l).map λp=>.tup [p.1,p.2],λG=>ckO p (.lst k) G&&ckO q (.lst l) G⟩ G:=by
 show Wp (do
  let s1 <-C4 (.ref p)
  let s2 <-C4 (.ref q)
  pure ⟨(s1.items.zip s2.items).map λp=>.tup [p.1,p.2],λG=>s1.ck G&&s2.ck G⟩:M Src) G R↔_
 simp only[m6];rw[sL (σ:= []) ep,sL (σ:= []) eq];exact wp_pure
def FV:Wp (match [D.tup k,D.tup l] with
 |[a,b]=>do
   let s1 <-C4 a
   let s2 <-C4 b
   pure ⟨(s1.items.zip s2.items).map λp=>.tup [p.1,p.2],λG=>s1.ck G&&s2.ck G⟩
 |_=>M.stuck:M Src) G R↔R ⟨(k.zip l).map λp=>.tup [p.1,p.2],λ_=>true&&true⟩ G:=by
 show Wp (do
  let s1 <-C4 (.tup k)
  let s2 <-C4 (.tup l)
  pure ⟨(s1.items.zip s2.items).map λp=>.tup [p.1,p.2],λG=>s1.ck G&&s2.ck G⟩:M Src) G R↔_
 simp only[m6];exact Iff.trans (wp_pure) (Iff.trans (wp_pure) wp_pure)
def sT{lo hi:Option Int}(e:G[p]? =some (.lst l)):Wp (slT (.ref p) lo hi) G Q↔Q (.ref G.length) (G++[.lst (DL.cutD l lo hi)]):=Kp e
def prB(f:D->D->Bool):D->Bool
| .tup [a,b]=>f a b
|_=>false
def nB(xs:List D):List D:=(xs.zip (xs.drop 1)).map λp=>.tup [p.1,p.2]
def A3(f:D->D->Bool)(xs:List D):Bool:=(nB xs).all (prB f)
def cO(xs:List D):(nB xs).length<=xs.length:=by unfold nB;rw[zd,Za,xr];omega
def fQ(Mn:ck G=true)(Lu:∀a∈xs,∀b∈xs,ltN 40 G a b=some (f a b)):K7 (qA 2 (U5 T0 (U5 i3 cA))) J4 (m9 ltD g0 x0) ck (nB xs) (W4 [none,none] [some d]) G=some (.ok ((nB xs).map λx=>.bl (prB f x)),G):=by
 refine nE (I:=λσ=>σ.length=2) Mn _ _ rfl λd hd σ WI=>?_;obtain⟨q,hq,rfl⟩:=zk.mp hd
 match σ,WI with
 |[u,v],_=>
   refine⟨[some q.1,some q.2],rfl,rfl,rfl,W7 ?_⟩;simp only[y9,R4,zJ,ji,zR,exists_eq_left',nV];have h1:=xB hq;exact⟨_,Lu _ h1.1 _ (ZJ h1.2),rfl,trivial⟩
def uT{f:D->D->Bool}(e:G[p]? =some (.lst xs))(hl:xs.length<=zj)(Lu:∀G,∀a∈xs,∀b∈xs,ltN 40 G a b=some (f a b)):Wp (W2 [.ref p]) G λx G'=>x= .bl (A3 f xs)/\Ap G G':=by
 unfold W2 oJ;have s0:([D.ref p].map some++jx (1 - [D.ref p].length) none:DSt)= [sRf p]:=rfl;simp only[HA,s0,nA,U3,R5,o8,wp_comp,CL,pC,SN,qM,E4,R4,zR,exists_eq_left',zJ,UL,sT e];rw[Eu (R8 e) o4,PM];refine⟨zq (cO xs) hl,?_⟩;refine(AA (fQ ?_ (Lu _))).mpr ?_
 ·simp only[ckO,R8 e,o4];simp
 rw[HE o4];exact⟨rfl,Ap.one.trans Ap.one⟩
def EV(hl:xs.length<=zj)(Lu:∀G,∀a∈xs,∀b∈xs,ltN 40 G a b=some (f a b)):Wp (W2 [.tup xs]) G λx G'=>x= .bl (A3 f xs)/\Ap G G':=by unfold W2 oJ;have s0:([D.tup xs].map some++jx (1 - [D.tup xs].length) none:DSt)= [some (.tup xs)]:=rfl;simp only[HA,s0,nA,U3,R5,o8,wp_comp,CL,pC,SN,qM,E4,R4,zR,exists_eq_left',zJ,UL,TQ];rw[FV,PM];refine⟨zq (cO xs) hl,?_⟩;refine(AA (fQ rfl (Lu _))).mpr ?_;rw[HE o4];exact⟨rfl,Ap.one⟩
def uB:D->D
| .str z=>.tup [.int z.length,.str z]
|_=>.non
def txB(a b:Str):Bool:=if a.length=b.length then decide (a.cps.toList<b.cps.toList)else decide (a.length<b.length)
def tM:D->D->Bool
| .tup [_,.str a],.tup [_,.str b]=>txB a b
|_,_=>false
def txD:D->D->Bool
| .str a,.str b=>txB a b
|_,_=>false
def aD(h:D8 d=true):∃z,d= .str z:=by
 cases d with
 |str z=>exact⟨z,rfl⟩
 |_=>cases h
def Fy:ltN 40 G (uB (.str a)) (uB (.str b))=some (txB a b):=by
 show ltL (eqN 39 G) (ltN 39 G) [.int a.length,.str a] [.int b.length,.str b]=_;have e1:eqN 39 G (.int a.length) (.int b.length)=some (decide ((a.length:Int)=b.length)):=rfl;have e2:eqN 39 G (.str a) (.str b)=some (a==b):=rfl;unfold txB;unfold ltL;rw[e1];by_cases h:a.length=b.length
 ·have h':((a.length:Int)=b.length):=by omega
  rw[if_pos h];simp only[h',decide_true];unfold ltL;rw[e2];by_cases k:a=b
  ·subst k;simp[ltL,Xr]
  ·have k':(a==b)=false:=by simpa using k
   rw[k'];rfl
 ·have h':¬((a.length:Int)=b.length):=by omega
  rw[if_neg h];simp only[h',decide_false];show some (decide ((a.length:Int)<b.length))=_;congr 1;by_cases k:a.length<b.length
  ·rw[decide_eq_true k,decide_eq_true (by omega)]
  ·rw[decide_eq_false k,decide_eq_false (by omega)]
theorem kP:∀ {xs},xs.all D8=true->A3 tM (xs.map uB)=A3 txD xs
|[],_=>rfl
|[a],_=>by cases a<;>rfl
|a::b::r,h=>by have h1:=h;rw[jm,zy]at h1;have h2:=h1.2;rw[jm,zy]at h2;have ih:=kP h1.2;obtain⟨x,rfl⟩:=aD h1.1;obtain⟨y,rfl⟩:=aD h2.1;show (txB x y&&A3 tM ((.str y::r).map uB))= (txB x y&&A3 txD (.str y::r));rw[ih]
def Nj(h:z.length<=zj):Wp (V7 [.str z]) G Q↔Q (uB (.str z)) G:=by unfold V7 NK;have s0:([D.str z].map some++jx (1 - [D.str z].length) none:DSt)= [some (.str z)]:=rfl;simp only[HA,s0,nA,R7,U3,R5,o8,R4,zR,exists_eq_left',zJ,fH h];exact⟨λq=>q.2,λq=>⟨sz,q⟩⟩
abbrev wOf:Str:= "of"
abbrev fF:Str:= "but"
def A8(d:D):Bool:=(B5 wOf d||B5 fF d)&&((bD d).all D8&&A3 txD (bD d))
def gb{xs:List D}(h:xs.all D8=true):∀G:DH,∀a∈xs.map uB,∀b∈xs.map uB,ltN 40 G a b=some (tM a b):=by intro G a ha b hb;obtain⟨x,hx,rfl⟩:=zk.mp ha;obtain⟨y,hy,rfl⟩:=zk.mp hb;obtain⟨s,rfl⟩:=aD (zH.mp h x hx);obtain⟨t,rfl⟩:=aD (zH.mp h y hy);rw[Fy];rfl
def oW(h:(B5 wOf d||B5 fF d)=true):∃w l,d= .tup [.str w,.tup l]/\(w=wOf\/w=fF):=by
 rw[ZP]at h;rcases h with h|h
 ·obtain⟨l,rfl⟩:=pR h;exact⟨_,l,rfl,.inl rfl⟩
 ·obtain⟨l,rfl⟩:=pR h;exact⟨_,l,rfl,.inr rfl⟩
def He(h:AT n (.tup [.str w,.tup l])):∀x∈l,AT n x:=by rw[WC]at h;have h2:=h (.tup l) (by simp);rw[WC]at h2;exact h2
def Kw(h:AT G.length d)(hz:szD d<=zj):Wp (MG [d]) G λx G'=>x= .bl (A8 d)/\Ap G G':=by
 have bg:=big;unfold MG pN;have s0:([d].map some++jx (1 - [d].length) none:DSt)= [some d]:=rfl;simp only[HA,s0,d8,uC,RD,eU,W0,nA,y9,U3,R5,o8,E4,R4,V0,t8,zR,exists_eq_left',zJ,Ag h,S8,wp_comp,wp_itW];have key:∀b:Bool,b= (B5 wOf d||B5 fF d)->if (!b)=true then (D.bl false= .bl (A8 d)/\Ap G G)else Wp (ixD d (.int 1)) G λx G1=>Wp (ED x) G1 λs G1=>s.items.length<=zj/\Wp (K7 T0 J4 (D0 UC g0) s.ck s.items (W4 [none] [some d])) G1 λys G2=>Wp (d6 [.ref G2.length]) (G2++[.lst ys]) λx G1=>Wp (F7 x) G1 λb G1=>if (!b)=true then (D.bl false= .bl (A8 d)/\Ap G G1)else Wp (ixD d (.int 1)) G1 λx G1=>Wp (ED x) G1 λs G1=>s.items.length<=zj/\Wp (K7 T0 J4 (D0 V7 g0) s.ck s.items (W4 [none] [some d])) G1 λys G2=> [D.ref G2.length].length=1/\Wp (W2 [.ref G2.length]) (G2++[.lst ys]) λx G'=>x= .bl (A8 d)/\Ap G G':=by
  intro b hb
  cases b with
  |false=>
    simp only[Zn,if_true];refine⟨?_,Ap.refl⟩;unfold A8;rw[<-hb];rfl
  |true=>
    simp only[xE,zw,if_false];have ht:A8 d= ((bD d).all D8&&A3 txD (bD d)):=by unfold A8;rw[<-hb];rfl
    rw[ht];obtain⟨w,l,rfl,_⟩:=oW hb.symm;have hp:=He h;have hll:l.length<=zj:=by have:=CA l;simp only[szD,szL]at hz;omega
    simp only[ix_tup,at1,zR,exists_eq_left',srcW_tup,bD];refine⟨hll,?_⟩;refine Wp.mono (nJ (Ap G) (λσ=>σ.length=1) (λx=>.bl (D8 x)) (λ_ _=>rfl) l _ G rfl Ap.refl λx hx σ G2 WI j=>?_) λys G2 ⟨j2,ey⟩=>?_
    ·match σ,WI with
     |[u],_=>
       simp only[R6,yI,wp_trueT,U3,R5,o8,R4,zJ,zR,exists_eq_left',V0];exact⟨trivial,rfl,trivial,trivial,rfl,Wp.mono (cU ((hp x hx).le j.len)) λy G3 ⟨e,a⟩=>⟨j.trans a,e⟩⟩
    ·subst ey;rw[HE o4,S8];by_cases ha:l.all D8=true
     ·simp only[ha,xE,zw,if_false,jD];refine⟨hll,?_⟩;have j3:Ap G (G2++[DO.lst (l.map λx=>.bl (D8 x))]):=j2.trans Ap.one;generalize (G2++[DO.lst (l.map λx=>.bl (D8 x))])=G3 at j3 ⊢;have hc:K7 T0 J4 (D0 V7 g0) (λ_=>true) l (W4 [none] [some (.tup [.str w,.tup l])]) G3=some (.ok (l.map uB),G3):=by
       refine nE (I:=λσ=>σ.length=1) rfl _ _ rfl λx hx σ WI=>?_;obtain⟨z,rfl⟩:=aD (zH.mp ha x hx);have hzl:=SE (hp _ hx)
       match σ,WI with
       |[u],_=>
         refine⟨[some (.str z)],rfl,rfl,rfl,W7 ?_⟩;simp only[U3,R5,o8,R4,zJ,zR,exists_eq_left',V0];refine⟨rfl,?_⟩;rw[Nj (by omega)];exact⟨rfl,rfl⟩
      refine(AA hc).mpr ⟨rfl,?_⟩;refine Wp.mono (uT o4 (by rw[zd];exact hll) (gb ha)) λx G4 ⟨e,a⟩=>⟨?_,j3.trans (Ap.one.trans a)⟩;rw[e,kP ha]
     ·have ha':l.all D8=false:=by simpa using ha
      simp only[ha',Zn,if_true,yN];exact⟨trivial,j2.trans Ap.one⟩
 refine⟨rfl,?_⟩;by_cases h1:B5 wOf d=true
 ·have k:=key true (by rw[h1];rfl);simp only[h1,if_true]at k ⊢;exact k
 ·have h1':B5 wOf d=false:=by simpa using h1
  have k:=key (B5 fF d) (by rw[h1'];rfl);simp only[h1',zw,if_false]at k ⊢;exact⟨rfl,k⟩
def blD:D->D->Bool
| .bl a,.bl b=>decide (b2i a<b2i b)
|_,_=>false
def KC:D->Bool
| .tup l=>l.all B8&&A3 blD l
|_=>false
def vJ(h:B8 d=true):∃b,d= .bl b:=by
 cases d with
 |bl b=>exact⟨b,rfl⟩
 |_=>cases h
def fm{xs:List D}(h:xs.all B8=true):∀G:DH,∀a∈xs,∀b∈xs,ltN 40 G a b=some (blD a b):=by intro G a ha b hb;obtain⟨s,rfl⟩:=vJ (zH.mp h a ha);obtain⟨t,rfl⟩:=vJ (zH.mp h b hb);rfl
def Ww{G:DH}(h:AT G.length d)(hz:szD d<=zj):Wp (kG [d]) G λx G'=>x= .bl (KC d)/\Ap G G':=by
 unfold kG VL;have s0:([d].map some++jx (1 - [d].length) none:DSt)= [some d]:=rfl;simp only[HA,s0,d8,uC,RD,W0,nA,FG,U3,R5,o8,E4,R4,V0,t8,zR,exists_eq_left',zJ,mJ h.there,S8,wp_comp,wp_itW]
 cases d with
 |tup l=>
   rw[WC]at h;have hll:l.length<=zj:=by have:=CA l;simp only[szD]at hz;omega
   simp only[V6,xE,zw,if_false,srcW_tup];refine⟨hll,?_⟩;have hc:K7 T0 J4 (U2 v4 g0 (cE (.ty "bool"))) (λ_=>true) l (W4 [none] [some (.tup l)]) G=some (.ok (l.map λx=>.bl (B8 x)),G):=by
    refine nE (I:=λσ=>σ.length=1) rfl _ _ rfl λx hx σ WI=>?_
    match σ,WI with
    |[u],_=>
      refine⟨[some x],rfl,rfl,rfl,W7 ?_⟩;simp only[U3,R5,o8,R4,E4,zJ,zR,exists_eq_left',wS (h x hx).there];exact⟨trivial,trivial⟩
   refine(AA hc).mpr ?_;rw[HE o4,S8];by_cases ha:l.all B8=true
   ·simp only[ha,if_true];refine⟨rfl,Wp.mono (EV hll (fm ha)) λx G4 ⟨e,a⟩=>⟨?_,Ap.one.trans a⟩⟩;rw[e];simp only[KC,ha,jD]
   ·have ha':l.all B8=false:=by simpa using ha
    simp only[ha',zw,if_false];exact⟨by simp only[KC,ha',yN],Ap.one⟩
 |_=>simp only[V6,Zn,if_true];exact⟨rfl,Ap.refl⟩
theorem HQ(J:DH->Prop)(S:DSt->Prop)(rel:D->D->Prop)(Mn:∀G,J G->ck G=true):∀items σ G,S σ->J G->
 (∀d∈items,∀ σ G,S σ->J G->Wp (g d σ) G λWZ G1=>G1=G/\S WZ/\Wp (e WZ) G λy G3=>J G3/\rel d y)->
 Wp (K7 g J4 e ck items σ) G λys G'=>J G'/\∃zs:List (D×D),zs.map (·.1)=items/\ys=zs.map (·.2)/\∀z∈zs,rel z.1 z.2
 |[],σ,G,s,j,_=>Z4.mpr ⟨Mn G j,j, [],rfl,rfl,λ_ h=>nomatch h⟩
 |d::r,σ,G,s,j,step=>by
   refine Z6.mpr ⟨Mn G j,(step d (zg ..) σ G s j).mono λWZ G1 ⟨e1,s1,w1⟩=>?_⟩;subst e1;refine b8 rfl ?_;rw[if_pos rfl];refine w1.mono λy G3 ⟨j3,py⟩=>?_;refine(HQ J S rel Mn r WZ G3 s1 j3 λd hd=>step d (ze _ hd)).mono λys G4 ⟨j4,zs,h1,h2,h3⟩=>⟨j4,(d,y)::zs,by rw[zT,h1],by rw[zT,h2],λz hz=>?_⟩;rcases zn.mp hz with rfl|hz
   ·exact py
   ·exact h3 z hz
def Mz(e:G[p]? =some (.lst l)):ckO p (.lst l) G=true:=by simp only[ckO,e];simp
theorem FT:∀ {zs:List (D×D)},(∀z∈zs,z.2=f z.1)->zs.map (·.2)= (zs.map (·.1)).map f
|[],_=>rfl
|z::r,h=>by rw[zT,zT,zT,h z (zg ..),FT λy hy=>h y (ze _ hy)]
def bT(h:r6 G d)(j:Ap G G'):r6 G' d:=by
 obtain⟨k,h⟩:=h;refine⟨k,?_⟩
 cases d with
 |ref i=>
   simp only[D5]at h ⊢;rcases e:G[i]? with _|o
   ·rw[e]at h;cases h
   ·rw[e]at h;rw[j.at e];exact h
 |_=>exact h
def Ev(m:M D)(G:DH)(b:Bool):Prop:=∀Q:DPP,(∀G',Ap G G'->Q (.bl b) G')->Wp m G Q
def EvT(m:M Bool)(G:DH)(b:Bool):Prop:=∀Q:Bool->DH->Prop,(∀G',Ap G G'->Q b G')->Wp m G Q
section
variable{a b:Fe}{t u:DSt->M Bool}{σ:DSt}{G:DH}{x y:Bool}
def Ev.of(e:m G=some (.ok (.bl x),G)):Ev m G x:=λQ q=>b8 e (q G Ap.refl)
def EvT.of(e:m G=some (.ok x,G)):EvT m G x:=λQ q=>b8 e (q G Ap.refl)
def C5(h:Ev (a σ) G x):EvT (J7 a σ) G x:=λQ q=>W0.mpr<| h _ λG' j=>S8.mpr (q G' j)
def iF(h:Ev (a σ) G x):EvT (sA a σ) G x:=λQ q=>w6<| h _ λG' j=>⟨x,rfl,q G' j⟩
def rM(h:EvT (t σ) G x):EvT (C3 t σ) G (!x):=λQ q=>RD.mpr<| h _ λG' j=>q G' j
def C7(h:EvT (t σ) G x)(k:x=true->∀G',Ap G G'->EvT (u σ) G' y):EvT (B3 t u σ) G (x&&y):=λQ q=>qE<| h _ λG' j=>by
 cases x
 ·exact⟨λh=>(nomatch h),λ_=>q G' j⟩
 ·exact⟨λ_=>k rfl G' j _ λG2 j2=>q G2 (j.trans j2),λh=>(nomatch h)⟩
def i9(h:Ev (a σ) G x)(k:x=true->∀G',Ap G G'->Ev (b σ) G' y):Ev (T3 a b σ) G (x&&y):=λQ q=>FG.mpr<| h _ λG' j=>S8.mpr<| by
 cases x
 ·rw[if_neg (by decide)];exact q G' j
 ·rw[if_pos rfl];exact k rfl G' j _ λG2 j2=>q G2 (j.trans j2)
def NW(h:Ev (a σ) G x)(k:x=false->∀G',Ap G G'->Ev (b σ) G' y):Ev (kF a b σ) G (x||y):=λQ q=>wb.mpr<| h _ λG' j=>S8.mpr<| by
 cases x
 ·rw[if_neg (by decide)];exact k rfl G' j _ λG2 j2=>q G2 (j.trans j2)
 ·rw[if_pos rfl];exact q G' j
def gL(h:Ev (a σ) G x):Ev (iD a σ) G (!x):=λQ q=>Gs.mpr<| h _ λG' j=>⟨x,rfl,q G' j⟩
def EvS(S:Fs)(σ:DSt)(G:DH)(b:Bool):Prop:=∀Q:DPP,(∀G',Ap G G'->Q (.bl b) G')->Wp (S σ) G (PB Q)
def r8(h:Ev (a σ) G x):EvS (u9 a) σ G x:=λQ q=>w5<| h _ λG' j=>u5 (q G' j)
def GB(h:EvT (t σ) G x)(k:x=true->∀G',Ap G G'->EvS g σ G' y):EvS (gdQ (C3 t) cBf g) σ G (x&&y):=λQ q=>d8.mpr<| X3<| RD.mpr<| h _ λG' j=>by
 cases x
 ·exact⟨λ_=>w5<| E4.mpr<| u5 (q G' j),λh=>(nomatch h)⟩
 ·exact⟨λh=>(nomatch h),λ_=>t8.mpr<| k rfl G' j _ λG2 j2=>q G2 (j.trans j2)⟩
def rB(h:EvT (t σ) G x)(k:x=true->∀G',Ap G G'->Ev (a σ) G' z)(l:x=false->∀G',Ap G G'->EvS g σ G' z):EvS (gdQ t a g) σ G z:=λQ q=>d8.mpr<| X3<| h _ λG' j=>by
 cases x
 ·exact⟨λh=>(nomatch h),λ_=>t8.mpr<| l rfl G' j _ λG2 j2=>q G2 (j.trans j2)⟩
 ·exact⟨λ_=>w5<| k rfl G' j _ λG2 j2=>u5 (q G2 (j.trans j2)),λh=>(nomatch h)⟩
end
def Q2(e:fs σ G=some (.ok as,G))(hn:as.length=n)(h:Ev (F as) G x):Ev (P2 (fnX n F) fs σ) G x:=λQ q=>o7 e hn<| h Q q
def C6(h:EvS B (as.map some++jx (m-as.length) none) G x):Ev (v7 m B as) G x:=λQ q=>K3<| h Q q
section
variable{d:D}{σ:DSt}{G:DH}{fs:DSt->M (List D)}
def aF(e:fs σ G=some (.ok [d,.ty "tuple"],G))(h:r6 G d):Ev (P2 v4 fs σ) G (V6 d):=λQ q=>B6 e<| (mJ h).mpr (q G Ap.refl)
def wN(e:fs σ G=some (.ok [d,.ty "str"],G))(h:r6 G d):Ev (P2 v4 fs σ) G (bB d):=λQ q=>B6 e<| (LL h).mpr (q G Ap.refl)
def cf(e:fs σ G=some (.ok [d,.ty "int"],G))(h:r6 G d):Ev (P2 v4 fs σ) G (vH d):=λQ q=>B6 e<| (dZ h).mpr (q G Ap.refl)
def rV(e:fs σ G=some (.ok [d,.ty "bool"],G))(h:r6 G d):Ev (P2 v4 fs σ) G (B8 d):=λQ q=>B6 e<| (wS h).mpr (q G Ap.refl)
end
def wD{caps:List (Option Nat)}{g:Fg}{e:Fe}{G:DH}(S:DSt->Prop)(f:D->Bool)(hs:it σ G=some (.ok ⟨items,ck⟩,G))(Mn:∀G',Ap G G'->ck G'=true)(hl:items.length<=zj)(h0:S (W4 caps σ))
 (step:∀d∈items,∀ σ G1,S σ->Ap G G1->Wp (g d σ) G1 λWZ G2=>G2=G1/\S WZ/\Ev (e WZ) G1 (f d)):Ev (P2 d6 (A1 (J8 it caps g J4 e)) σ) G (items.all f):=λQ q=>by
 refine O2<| m5<| wp_comp.mpr<| b8 hs ⟨hl,(HQ (Ap G) S (λd y=>y= .bl (f d)) Mn items _ G h0 Ap.refl ?_).mono ?_⟩
 ·intro d hd σ G1 s j;exact(step d hd σ G1 s j).mono λWZ G2 ⟨e1,s1,w⟩=>⟨e1,s1,w _ λG3 j3=>⟨j.trans j3,rfl⟩⟩
 ·rintro _ G1 ⟨j1,zs,ez,rfl,hz⟩;rw[FT (f:=λd=>.bl (f d)) hz,ez];exact o8.mpr<| (HE o4).mpr (q _ (j1.trans Ap.one))
def RG(h:V6 d=true):∃l,d= .tup l:=by
 cases d<;>first|exact⟨_,rfl⟩|cases h
def CM(h:bB d=true):∃z,d= .str z:=by
 cases d<;>first|exact⟨_,rfl⟩|cases h
def pQ{k:Nat}{n:Int}{G:DH}(hn:n=k)(e:fs σ G=some (.ok [.tup l],G)):Ev (m9 eqD (P2 A2 fs) (cE (.int n)) σ) G (decide (l.length=k)):=by
 subst hn;exact λQ q=>m7<| B6 e<| mF.mpr<| b8 rfl<| P0.mpr (by
 have:decide ((l.length:Int)= (k:Int))=decide (l.length=k):=by
  by_cases h:l.length=k
  ·rw[decide_eq_true h,decide_eq_true (by lia)]
  ·rw[decide_eq_false h,decide_eq_false (by lia)]
 rw[this];exact q G Ap.refl)
def i7(d:D):Bool:=eB d||KD d
def QW(h:r6 G d):Ev (pG [d]) G (KD d):=C6<| r8<| by
 have:KD d= (vH d&&!B8 d):=by cases d<;>rfl
 rw[this];exact i9 (cf rfl h) λ_ G' j=>gL (rV rfl (bT h j))
def pL(e:a σ G=some (.ok d,G)):Ev (m9 WB a E1 σ) G (eB d):=λQ q=>m7<| b8 e<| b8 rfl<| um.mpr (q G Ap.refl)
def SQ(h:r6 G d):Ev (WF [d]) G (i7 d):=C6<| r8<| NW (pL rfl) λ_ G' j=>Q2 rfl rfl (QW (bT h j))
def QG:D->D->Bool
| .int x,.int y=>decide (x>y)
|_,_=>false
def QF(h:i7 d=true):d= .non\/∃i,d= .int i:=by
 cases d<;>first|exact .inl rfl|exact .inr ⟨_,rfl⟩|cases h
def Ha(ha:i7 a=true)(hb:i7 b=true):Ev (vK [a,b]) G (QG a b):=by rcases QF ha with rfl|⟨i,rfl⟩<;>rcases QF hb with rfl|⟨j,rfl⟩<;>exact Ev.of rfl
def D6:D->Bool
| .tup [a,b]=>i7 a&&(i7 b&&!QG a b)
|_=>false
def ix0(e:f σ G=some (.ok (.tup l),G))(h:atI l i=some a):(ixE f (cE (.int i))) σ G=some (.ok a,G):=W7<| m7<| b8 e<| b8 rfl<| ix_tup.mpr ⟨a,h,rfl,rfl⟩
def P5(e:f σ G=some (.ok a,G)):(A1 f) σ G=some (.ok [a],G):=W7<| m5<| b8 e<| o8.mpr ⟨rfl,rfl⟩
def EC(e:f σ G=some (.ok a,G))(e':g σ G=some (.ok b,G)):(fD f g) σ G=some (.ok [a,b],G):=W7<| m5<| b8 e<| m5<| b8 e'<| o8.mpr ⟨rfl,rfl⟩
def bL(h:l.length=2):∃a b,l= [a,b]:=by
 rcases l with _|⟨a,_|⟨b,_|⟨c,r⟩⟩⟩
 ·cases h
 ·cases h
 ·exact⟨a,b,rfl⟩
 ·rw[zM,zM,zM]at h;lia
def E6(k:Nat):D->Bool
| .tup l=>decide (l.length=k)
|_=>false
def TR{k:Nat}{n:Int}{d:D}{σ:DSt}{G:DH}(hn:n=k)(e:∀G,f σ G=some (.ok d,G))(h:r6 G d):EvT (B3 (J7 (U2 v4 f (cE (.ty "tuple")))) (tBn eqD (N0 A2 f) (cE (.int n))) σ) G (E6 k d):=by
 have:E6 k d= (V6 d&&E6 k d):=by cases d<;>rfl
 rw[this];refine C7 (C5 (aF (EC (e G) rfl) h)) λht G' j=>iF ?_;obtain⟨l,rfl⟩:=RG ht;exact pQ hn (P5 (e G'))
def F8(h:AT n (.tup l))(hx:x∈l):AT n x:=WC.mp h x hx
def nC(h:AT G.length d)(j:Ap G G'):r6 G' d:=(h.le j.len).there
def Lc(h:AT G.length d):Ev (sH [d]) G (D6 d):=C6<| by
 unfold KM;have:D6 d= (E6 2 d&&D6 d):=by
  rcases d with _|_|_|_|l|_|_|_<;>try rfl
  by_cases hl:l.length=2
  ·obtain⟨a,b,rfl⟩:=bL hl;rfl
  ·have e:E6 2 (.tup l)=false:=decide_eq_false hl;rw[e,yN];rcases l with _|⟨a,_|⟨b,_|⟨c,r⟩⟩⟩<;>first|rfl|exact absurd rfl hl
 rw[this];refine GB (TR rfl (λ_=>rfl) h.there) λhl G1 j1=>?_;obtain⟨l,rfl⟩:∃l,d= .tup l:=by rcases d with _|_|_|_|l|_|_|_<;>first|exact⟨_,rfl⟩|cases hl
 obtain⟨a,b,rfl⟩:=bL (of_decide_eq_true hl);have ha:=F8 h (zg ..);have hb:=F8 h (ze _ (zg ..));show EvS _ _ _ (i7 a&&(i7 b&&!QG a b));rw[<-JS];refine GB (C7 (C5 (Q2 (P5 (ix0 rfl rfl)) rfl (SQ (nC ha j1)))) λ_ G2 j2=>C5 (Q2 (P5 (ix0 rfl rfl)) rfl (SQ (nC hb (j1.trans j2))))) λhe G2 j2=>?_;rw[zy]at he;exact r8<| gL<| Q2 (EC (ix0 rfl rfl) (ix0 rfl rfl)) rfl (Ha he.1 he.2)
def DC:D->D->Bool
| .tup [_,.int y],.tup [.int z,_]=>decide (y+1<z)
|_,_=>false
def MH(h:D6 d=true):∃a b,d= .tup [a,b]/\i7 a=true/\i7 b=true:=by
 rcases d with _|_|_|_|l|_|_|_<;>try (cases h;done)
 rcases l with _|⟨a,_|⟨b,_|⟨c,r⟩⟩⟩<;>try (cases h;done)
 have h:(i7 a&&(i7 b&&!QG a b))=true:=h;rw[zy,zy]at h;exact⟨a,b,rfl,h.1,h.2.1⟩
def Hd(hp:D6 p=true)(hq:D6 q=true):Ev (FJ [p,q]) G (DC p q):=by obtain⟨a,b,rfl,ha,hb⟩:=MH hp;obtain⟨c,d,rfl,hc,hd⟩:=MH hq;rcases QF hb with rfl|⟨i,rfl⟩<;>rcases QF hc with rfl|⟨j,rfl⟩<;>exact Ev.of rfl
def NC:D->Bool
| .tup l=>l.all D6&&A3 DC l
|_=>false
def iJ(hz:szD (.tup l)<=zj):l.length<=zj:=by have:=CA l;simp only[szD]at hz;lia
def fv:MD (fD g0 (J3 g0 (N5 B0) J6)) (some (.tup l)::u) G=some (.ok ⟨nB l,λ_=>true&&true⟩,G):=by refine W7 ?_;rw[CL];refine MS rfl<| m5<| pC.mpr<| b8 rfl<| b8 rfl<| b8 rfl<| TQ.mpr<| o8.mpr<| FV.mpr ?_;rw[PM];exact⟨rfl,rfl⟩
def FY(h:d∈nB l):∃a b,d= .tup [a,b]/\a∈l/\b∈l:=by obtain⟨q,hq,rfl⟩:=zk.mp h;have h1:=xB hq;exact⟨q.1,q.2,rfl,h1.1,ZJ h1.2⟩
def Ef(h:AT G.length d)(hz:szD d<=zj):Ev (HJ [d]) G (NC d):=C6<| by
 unfold HN;have:NC d= ((V6 d&&(match d with| .tup l=>l.all D6|_=>false))&&NC d):=by
  rcases d with _|_|_|_|l|_|_|_<;>try rfl
  show (l.all D6&&A3 DC l)= ((true&&l.all D6)&&(l.all D6&&A3 DC l))
  cases l.all D6<;>rfl
 rw[this];refine GB (C7 (C5 (aF rfl h.there)) λht G1 j1=>C5 ?_) λha G1 j1=>r8 ?_
 ·obtain⟨l,rfl⟩:=RG ht;exact wD (λσ=>∃u,σ= [u]) D6 rfl (λ_ _=>rfl) (iJ hz) ⟨_,rfl⟩ λx hx σ G2 s j=>by obtain⟨u,rfl⟩:=s;exact R6.mpr ⟨rfl,⟨_,rfl⟩,Q2 rfl rfl (Lc ((F8 h hx).le (j1.trans j).len))⟩
 ·rw[zy]at ha;obtain⟨l,rfl⟩:=RG ha.1;have ha:=ha.2;show Ev _ _ (l.all D6&&A3 DC l);rw[show l.all D6=true from ha,jD];have hl:=iJ hz;have hp:=cO l;exact wD (λσ=>∃u v,σ= [u,v]) (prB DC) fv (λ_ _=>rfl) (by lia) ⟨_,_,rfl⟩ λx hx σ G2 s j=>by obtain⟨u,v,rfl⟩:=s;obtain⟨a,b,rfl,m1,m2⟩:=FY hx;exact b8 rfl ⟨rfl,⟨_,_,rfl⟩,Q2 rfl rfl (Hd (zH.mp ha a m1) (zH.mp ha b m2))⟩
abbrev D4:Str:= "any"
def Ev.mk(h:Wp m G λx G'=>x= .bl b/\Ap G G'):Ev m G b:=λQ q=>h.mono λx G' ⟨e,a⟩=>e▸q G' a
def A9:D->Bool
| .tup [.tup _,_]=>true
|_=>false
def uD(h:A9 d=true):∃l m,d= .tup [.tup l,m]:=by
 rcases d with _|_|_|_|l|_|_|_<;>try (cases h;done)
 rcases l with _|⟨a,_|⟨b,_|⟨c,r⟩⟩⟩<;>try (cases h;done)
 ·rcases a with _|_|_|_|l|_|_|_<;>try (cases h;done)
 ·rcases a with _|_|_|_|l|_|_|_<;>try (cases h;done)
  exact⟨l,b,rfl⟩
 ·rcases a with _|_|_|_|l|_|_|_<;>try (cases h;done)
def fK(h:E6 k d=true):∃l,d= .tup l/\l.length=k:=by
 rcases d with _|_|_|_|l|_|_|_<;>try (cases h;done)
 exact⟨l,rfl,of_decide_eq_true h⟩
def bX{k:Nat}{n:Int}{d:D}{G:DH}{f rest:Fe}(hn:n=k)(e:∀G,f σ G=some (.ok d,G))(h:r6 G d)(r:E6 k d=true->∀G',Ap G G'->Ev (rest σ) G' y):Ev (T3 (U2 v4 f (cE (.ty "tuple"))) (T3 (m9 eqD (N0 A2 f) (cE (.int n))) rest) σ) G (E6 k d&&y):=by
 have:(E6 k d&&y)= (V6 d&&(E6 k d&&y)):=by cases d<;>rfl
 rw[this];refine i9 (aF (EC (e G) rfl) h) λht G' j=>?_;obtain⟨l,rfl⟩:=RG ht;exact i9 (pQ hn (P5 (e G'))) λhl G2 j2=>r hl G2 (j.trans j2)
def UR(h:AT G.length d):Ev (tG [d]) G (A9 d):=C6<| by
 unfold mM;have:A9 d= (E6 2 d&&A9 d):=by
  by_cases c:A9 d=true
  ·obtain⟨l,m,rfl⟩:=uD c;rfl
  ·rw[yP.mpr c,jH]
 rw[this];refine r8<| bX rfl (λ_=>rfl) h.there λhl G1 j1=>?_;obtain⟨l,rfl,hk⟩:=fK hl;obtain⟨a,b,rfl⟩:=bL hk;have e:A9 (.tup [a,b])=V6 a:=by cases a<;>rfl
 rw[e];exact aF (EC (ix0 rfl rfl) rfl) (nC (F8 h (zg ..)) j1)
def R1:D->Bool
| .str z=>g9 z&&decide (0<z.length)
|_=>false
def sS(h:AT G.length d):Ev (fG [d]) G (R1 d):=C6<| by
 have:R1 d= (D8 d&&R1 d):=by
  rcases d with _|_|_|z|_|_|_|_<;>try rfl
  show (g9 z&&decide (0<z.length))= (g9 z&&(g9 z&&decide (0<z.length)))
  cases g9 z<;>rfl
 rw[this];refine r8<| i9 (Q2 rfl rfl (Ev.mk (cU h))) λht G1 j1=>?_;obtain⟨z,rfl⟩:=aD ht;have e:R1 (.str z)=decide ((z.length:Int)>0):=by
  show (g9 z&&decide (0<z.length))=_;rw[show g9 z=true from ht,jD];by_cases c:0<z.length
  ·rw[decide_eq_true c,decide_eq_true (by lia)]
  ·rw[decide_eq_false c,decide_eq_false (by lia)]
 rw[e];have bg:=big;have hz:=SE h;exact λQ q=>m7<| B6 rfl<| (fH (by lia)).mpr<| b8 rfl<| Ew.mpr (q G1 Ap.refl)
def D9:D->Bool
| .tup [a,b,_]=>R1 a&&B8 b
|_=>false
def ll(h:l.length=3):∃a b c,l= [a,b,c]:=by
 rcases l with _|⟨a,_|⟨b,_|⟨c,_|⟨e,r⟩⟩⟩⟩
 ·cases h
 ·cases h
 ·cases h
 ·exact⟨a,b,c,rfl⟩
 ·simp only[zM]at h;lia
def cG(h:D9 d=true):∃z k s,d= .tup [.str z,.bl k,s]/\R1 (.str z)=true:=by
 rcases d with _|_|_|_|l|_|_|_<;>try (cases h;done)
 rcases l with _|⟨a,_|⟨b,_|⟨c,_|⟨e,r⟩⟩⟩⟩<;>try (cases h;done)
 have h:(R1 a&&B8 b)=true:=h;rw[zy]at h;rcases a with _|_|_|z|_|_|_|_<;>try (cases h.1;done)
 obtain⟨k,rfl⟩:=vJ h.2;exact⟨z,k,c,rfl,h.1⟩
def Pw(h:AT G.length d):Ev (mK [d]) G (D9 d):=C6<| by
 unfold AM;have:D9 d= (E6 3 d&&D9 d):=by
  by_cases c:D9 d=true
  ·obtain⟨z,k,s,rfl,_⟩:=cG c;rfl
  ·rw[yP.mpr c,jH]
 rw[this];refine r8<| bX rfl (λ_=>rfl) h.there λhl G1 j1=>?_;obtain⟨l,rfl,hk⟩:=fK hl;obtain⟨a,b,c,rfl⟩:=ll hk;have ha:=(F8 h (zg ..)).le j1.len;have hb:=F8 h (ze _ (zg ..));exact i9 (Q2 (P5 (ix0 rfl rfl)) rfl (sS ha)) λ_ G2 j2=>rV (EC (ix0 rfl rfl) rfl) (nC hb (j1.trans j2))
def liB(d:D):Bool:=eB d||A9 d
def mZ(h:AT G.length d):Ev (gJ [d]) G (liB d):=C6<| r8<| NW (pL rfl) λ_ G1 j1=>Q2 rfl rfl (UR (h.le j1.len))
def hdD:D->D
| .tup (x::_)=>x
|_=>.non
def BH:D->List D
| .tup [.tup l,_]=>l
|_=> []
def nmD:D->D->Bool
| .str a,.str b=>decide (a.cps.toList<b.cps.toList)
|_,_=>false
def reB(d:D):Bool:=eB d||(A9 d&&((BH d).all D9&&A3 nmD ((BH d).map hdD)))
def Hf{rows:List D}(h:rows.all D9=true)(G:DH):∀a∈rows.map hdD,∀b∈rows.map hdD,ltN 40 G a b=some (nmD a b):=by intro a ha b hb;obtain⟨x,hx,rfl⟩:=zk.mp ha;obtain⟨y,hy,rfl⟩:=zk.mp hb;obtain⟨z,k,s,rfl,_⟩:=cG (zH.mp h x hx);obtain⟨z',k',s',rfl,_⟩:=cG (zH.mp h y hy);rfl
def Sv(h:l.all D9=true)(hl:l.length<=zj)(q:Q (.ref G.length) (G++[.lst (l.map hdD)])):Wp (kJ [.tup l]) G Q:=by refine K3 (show Wp (uH [some (.tup l)]) G _ from ?_);unfold uH;refine w5<| wp_comp.mpr<| wp_itW.mpr<| b8 rfl<| srcW_tup.mpr ⟨hl,?_⟩;refine b8 (nE (I:=λσ=>∃u,σ= [u]) rfl _ _ ⟨_,rfl⟩ λx hx σ WI=>?_) (u5 q);obtain⟨u,rfl⟩:=WI;obtain⟨z,k,s,rfl,_⟩:=cG (zH.mp h x hx);exact⟨[some (.tup [.str z,.bl k,s])],rfl,⟨_,rfl⟩,rfl,rfl⟩
def kZ(h:AT G.length d)(hz:szD d<=zj):Ev (U9 [d]) G (reB d):=C6<| by
 unfold PN;refine rB (iF (pL rfl)) (λhn G1 _=>?_) λhn G1 j1=>?_
 ·unfold reB;rw[hn];exact Ev.of rfl
 have:reB d= ((A9 d&&(BH d).all D9)&&A3 nmD ((BH d).map hdD)):=by unfold reB;rw[hn,Bool.false_or,JS]
 rw[this];refine GB (C7 (C5 (Q2 rfl rfl (UR (h.le j1.len)))) λhc G2 j2=>C5 ?_) λha G2 j2=>r8 ?_
 ·obtain⟨l,m,rfl⟩:=uD hc;have hl:AT G.length (.tup l):=F8 h (zg ..);have hlz:l.length<=zj:=by
   have:=CA l;simp only[szD,szL]at hz;lia
  refine wD (λσ=>∃u,σ= [u]) D9 (W7<| wp_itW.mpr<| b8 (ix0 rfl rfl)<| srcW_tup.mpr ⟨rfl,rfl⟩) (λ_ _=>rfl) hlz ⟨_,rfl⟩ λx hx σ G3 s j=>?_;obtain⟨u,rfl⟩:=s;exact R6.mpr ⟨rfl,⟨_,rfl⟩,Q2 rfl rfl (Pw ((F8 hl hx).le (j1.trans (j2.trans j)).len))⟩
 ·rw[zy]at ha;obtain⟨l,m,rfl⟩:=uD ha.1;have hlz:l.length<=zj:=by
   have:=CA l;simp only[szD,szL]at hz;lia
  have ha:=ha.2;exact λQ q=>O2<| m5<| o7 (P5 (ix0 rfl rfl)) rfl<| Sv ha hlz<| o8.mpr<| V0.mpr ⟨rfl,(uT o4 (by rw[zd];exact hlz) (Hf ha)).mono λx G' ⟨e,a⟩=>e▸q G' (Ap.one.trans a)⟩
def K2:D->Bool
| .str z=>z==D4
| .tup [a,b,c,l,r]=>(NC a&&(A8 b&&KC c))&&(liB l&&reB r)
|_=>false
def LM(h:l.length=5):∃a b c d e,l= [a,b,c,d,e]:=by
 rcases l with _|⟨a,_|⟨b,_|⟨c,_|⟨d,_|⟨e,_|⟨f,r⟩⟩⟩⟩⟩⟩
 ·cases h
 ·cases h
 ·cases h
 ·cases h
 ·cases h
 ·exact⟨a,b,c,d,e,rfl⟩
 ·simp only[zM]at h;lia
def kU(h:x∈l):szD x<=szD (.tup l):=by have:=tO h;simp only[szD];lia
def UX(h:AT G.length d)(hz:szD d<=zj):Ev (iK [d]) G (K2 d):=C6<| by
 unfold lM;refine rB (C5 (wN rfl h.there)) (λhs G1 _=>?_) λhs G1 j1=>?_
 ·obtain⟨z,rfl⟩:=CM hs;exact Ev.of rfl
 have:K2 d= (E6 5 d&&K2 d):=by
  rcases d with _|_|_|z|l|_|_|_<;>try rfl
  ·cases hs
  ·by_cases c:l.length=5
   ·rw[show E6 5 (.tup l)=true from decide_eq_true c,jD]
   ·rw[show E6 5 (.tup l)=false from decide_eq_false c,yN];rcases l with _|⟨a,_|⟨b,_|⟨c',_|⟨d,_|⟨e,_|⟨f,r⟩⟩⟩⟩⟩⟩<;>first|rfl|exact absurd rfl c
 rw[this];refine GB (TR rfl (λ_=>rfl) (nC h j1)) λhl G2 j2=>?_;obtain⟨l,rfl,hk⟩:=fK hl;obtain⟨a,b,c,li,re,rfl⟩:=LM hk;have ma:a∈ [a,b,c,li,re]:=zg ..;have mb:b∈ [a,b,c,li,re]:=ze _ (zg ..);have mc:c∈ [a,b,c,li,re]:=ze _ (ze _ (zg ..));have ml:li∈ [a,b,c,li,re]:=ze _ (ze _ (ze _ (zg ..)));have mr:re∈ [a,b,c,li,re]:=ze _ (ze _ (ze _ (ze _ (zg ..))));have g:∀ {x:D} {G':DH},x∈ [a,b,c,li,re]->Ap G2 G'->AT G'.length x:=λm j=>(F8 h m).le (j1.trans (j2.trans j)).len;have z:∀ {x:D},x∈ [a,b,c,li,re]->szD x<=zj:=λm=>zq (kU m) hz;refine GB (C7 (C5 (Q2 (P5 (ix0 rfl rfl)) rfl (Ef (g ma Ap.refl) (z ma)))) λ_ G3 j3=>C7 (C5 (Q2 (P5 (ix0 rfl rfl)) rfl (Ev.mk (Kw (g mb j3) (z mb))))) λ_ G4 j4=>C5 (Q2 (P5 (ix0 rfl rfl)) rfl (Ev.mk (Ww (g mc (j3.trans j4)) (z mc))))) λ_ G3 j3=>?_;exact r8<| i9 (Q2 (P5 (ix0 rfl rfl)) rfl (mZ (g ml j3))) λ_ G4 j4=>Q2 (P5 (ix0 rfl rfl)) rfl (kZ (g mr (j3.trans j4)) (z mr))
def stD(p:D×D):D:=.tup [p.1,p.2]
def fdD(f:Str×Bool×D):D:=.tup [.str f.1,.bl f.2.1,f.2.2]
def mkS(ns:List (D×D))(w:Str)(ts:List Str)(tr:List Bool)(li re:D):D:=.tup [.tup (ns.map stD),.tup [.str w,.tup (ts.map D.str)],.tup (tr.map D.bl),li,re]
def mC:D->Prop
| .non=>True
| .int _=>True
|_=>False
def FB(p:D×D):Prop:=mC p.1/\mC p.2/\True
def LiG(S:D->Prop)(li:D):Prop:=li= .non\/∃fs m,li= .tup [.tup fs,m]/\fs.length<=1000/\(∀x∈fs,S x)/\S m
def ReG(S:D->Prop)(re:D):Prop:=re= .non\/∃(fs:List (Str×Bool×D)) (m:D),re= .tup [.tup (fs.map fdD),m]/\fs.length<=1000/\(fs.map (·.1)).Nodup/\(∀f∈fs,f.1.length<=1000/\S f.2.2)/\S m
abbrev LiP:=LiG
abbrev ReP:=ReG
def SB:Nat->D->Prop
|0,_=>False
|n+1,d=>d= .str D4\/∃ns w ts tr li re,d=mkS ns w ts tr li re/\(∀p∈ns,FB p)/\ns.length<=10000000/\(∀z∈ts,z.length<=1000)/\ts.length<=10000000/\tr.length<=10000000/\LiP (SB n) li/\ReP (SB n) re
structure PtP(S:D->Prop)(ns:List (D×D))(w:Str)(ts:List Str)(tr:List Bool)(li re:D):Prop where
 st:∀p∈ns,FB p
 nl:ns.length<=10000000
 tx:∀z∈ts,z.length<=1000
 tl:ts.length<=10000000
 tr:tr.length<=10000000
 li:LiG S li
 re:ReG S re
def GS:Nat->D->Prop
|0,_=>False
|n+1,d=>d= .str D4\/∃ns w ts tr li re,d=mkS ns w ts tr li re/\PtP (GS n) ns w ts tr li re/\True
def trd:D->D
| .tup [_,_,x]=>x
|_=>.non
def RK(h:mC a):a= .non\/∃i,a= .int i:=match a,h with
| .non,_=>.inl rfl
| .int i,_=>.inr ⟨i,rfl⟩
def noS:D:=mkS [] wOf [] [] .non .non
def T8:Nat->D->Bool
|_,.non=>true
|_,.bl _=>true
|_,.int _=>true
|_,.str _=>true
|n+1,.tup l=>l.all (T8 n)
|_,_=>false
theorem fO:∀a b,(∀x∈a,∀y∈b,∃k,f x y=some k)->∃k,eqL f a b=some k
|[], [],_=>⟨_,rfl⟩
|[],_::_,_=>⟨_,rfl⟩
|_::_, [],_=>⟨_,rfl⟩
|x::xs,y::ys,h=>by obtain⟨k,e⟩:=h x (by simp) y (by simp);obtain⟨k',e'⟩:=fO xs ys λa ha b hb=>h a (by simp[ha]) b (by simp[hb]);exact⟨k&&k',by simp only[eqL,e,e']⟩
def Kn(hx:S4 x=true)(hy:S4 y=true):∃k,eqS x y=some k:=by rcases x with _|_|_|_|_|_|_|_<;>rcases y with _|_|_|_|_|_|_|_<;>first|cases hx;done|cases hy;done|exact⟨_,rfl⟩
theorem nF:∀n m x y,n<m->T8 n x=true->T8 n y=true->∃k,eqN m G x y=some k
|n,0,x,y,h,_,_=>by lia
|n,m+1,x,y,h,hx,hy=>by
  have sc:∀ {d:D},T8 n d=true->(∃l,d= .tup l/\∃k,n=k+1/\∀z∈l,T8 k z=true)\/(S4 d=true/\W9 G d=none):=λ{d} hd=>by
   rcases d with _|_|_|_|l|i|i|i<;>try (exact .inr ⟨rfl,rfl⟩;done)
   ·
     cases n with
     |zero=>exact B7 hd
     |succ k=>exact .inl ⟨l,rfl,k,rfl,λz hz=>zH.mp (show l.all (T8 k)=true from hd) z hz⟩
   ·cases n<;>exact B7 hd
   ·cases n<;>exact B7 hd
   ·cases n<;>exact B7 hd
  rcases sc hx with⟨l,rfl,k,rfl,hl⟩|⟨s1,q1⟩
  ·rcases sc hy with⟨l',rfl,k',e',hl'⟩|⟨s2,q2⟩
   ·have ek:k=k':=by lia
    subst ek;obtain⟨b,e⟩:=fO (f:=eqN m G) l l' λa ha b hb=>nF k m a b (by lia) (hl a ha) (hl' b hb);refine⟨b,?_⟩;show (if true=true then (if true=false/\l.length≠l'.length then some false else eqL (eqN m G) l l')else some false)=some b;simp[e]
   ·exact⟨false,by rw[P7];rw[q2];simp only[W9,s2,if_true]⟩
  ·rcases sc hy with⟨l',rfl,k',e',hl'⟩|⟨s2,q2⟩
   ·exact⟨false,by rw[P7];rw[q1];simp only[W9,s1,if_true]⟩
   ·obtain⟨b,e⟩:=Kn s1 s2;exact⟨b,by rw[P7];rw[q1,q2];exact e⟩
def vU(n:Nat)(ss:List Str):T8 (n+1) (.tup (ss.map D.str))=true:=by
 show (ss.map D.str).all (T8 n)=true;rw[Zm,zH];intro x _
 cases n<;>rfl
def eO(n:Nat)(bs:List Bool):T8 (n+1) (.tup (bs.map D.bl))=true:=by
 show (bs.map D.bl).all (T8 n)=true;rw[Zm,zH];intro x _
 cases n<;>rfl
def RM(n:Nat){ns:List (D×D)}(h:∀p∈ns,FB p):T8 (n+2) (.tup (ns.map stD))=true:=by
 show (ns.map stD).all (T8 (n+1))=true;rw[Zm,zH];intro p hp;have h1:=(h p hp).1;have h2:=(h p hp).2.1;have e:∀d,mC d->T8 n d=true:=λd hd=>by
  cases d<;>first|exact hd.elim|(cases n<;>rfl)
 show [p.1,p.2].all (T8 n)=true;simp[e _ h1,e _ h2]
def K9(h:eqL f (x::xs) (y::ys)=some true):f x y=some true/\eqL f xs ys=some true:=by
 unfold eqL at h;rcases e:f x y with _|a
 ·rw[e]at h;exact v8 h
 ·
   rcases e':eqL f xs ys with _|b
   ·rw[e,e']at h;exact v8 h
   ·
     rw[e,e']at h;rcases a with _|_<;>rcases b with _|_<;>first|(cases h;done)|exact⟨rfl,rfl⟩
theorem eqL_same:∀ {a b},eqL f a b=some true->(∀x∈a,∀y∈b,f x y=some true->x=y)->a=b
|[], [],_,_=>rfl
|[],_::_,h,_=>by cases h
|_::_, [],h,_=>by cases h
|x::xs,y::ys,h,k=>by have h':=K9 h;rw[k x (by simp) y (by simp) h'.1,eqL_same h'.2 λa ha b hb=>k a (by simp[ha]) b (by simp[hb])]
def VH:eqN (n+1) G (.tup a) (.tup b)=eqL (eqN n G) a b:=by show (if true=true then (if true=false/\a.length≠b.length then some false else eqL (eqN n G) a b)else some false)=_;simp
def eqT(h:eqN n G (.tup a) (.tup b)=some true):∃m,n=m+1/\eqL (eqN m G) a b=some true:=by
 cases n with
 |zero=>exact v8 h
 |succ m=>exact⟨m,rfl,by rw[<-VH];exact h⟩
def AG(h:eqN n G (.str a) (.str b)=some true):a=b:=by
 cases n with
 |zero=>exact v8 h
 |succ m=>exact YC (jd (show some (a==b)=some true from h))
def KN(h:eqN n G (.bl a) (.bl b)=some true):a=b:=by
 cases n with
 |zero=>exact v8 h
 |succ m=>exact YC (jd (show some (a==b)=some true from h))
def IV(ha:mC a)(hb:mC b)(h:eqN n G a b=some true):a=b:=by
 cases n with
 |zero=>exact v8 h
 |succ m=>
   rcases RK ha with rfl|⟨i,rfl⟩<;>rcases RK hb with rfl|⟨j,rfl⟩<;>first
    |rfl
    |(cases h;done)
    |skip
   rw[YC (jd (show some (i==j)=some true from h))]
def rW{ns ms:List (D×D)}(h1:∀p∈ns,FB p)(h2:∀p∈ms,FB p)(h:eqN n G (.tup (ns.map stD)) (.tup (ms.map stD))=some true):ns.map stD=ms.map stD:=by obtain⟨m,rfl,h⟩:=eqT h;refine eqL_same h λx hx y hy e=>?_;obtain⟨p,hp,rfl⟩:=zk.mp hx;obtain⟨q,hq,rfl⟩:=zk.mp hy;obtain⟨k,rfl,e⟩:=eqT e;have e1:=K9 e;have e2:=K9 e1.2;unfold stD;rw[IV (h1 p hp).1 (h2 q hq).1 e1.1,IV (h1 p hp).2.1 (h2 q hq).2.1 e2.1]
def CS{a b:List Str}(h:eqN n G (.tup (a.map D.str)) (.tup (b.map D.str))=some true):a.map D.str=b.map D.str:=by obtain⟨m,rfl,h⟩:=eqT h;refine eqL_same h λx hx y hy e=>?_;obtain⟨p,hp,rfl⟩:=zk.mp hx;obtain⟨q,hq,rfl⟩:=zk.mp hy;rw[AG e]
def RO{a b:List Bool}(h:eqN n G (.tup (a.map D.bl)) (.tup (b.map D.bl))=some true):a.map D.bl=b.map D.bl:=by obtain⟨m,rfl,h⟩:=eqT h;refine eqL_same h λx hx y hy e=>?_;obtain⟨p,hp,rfl⟩:=zk.mp hx;obtain⟨q,hq,rfl⟩:=zk.mp hy;rw[KN e]
def wP:eqN n G .non (.tup l)≠some true:=by
 cases n with
 |zero=>exact λh=>by exact v8 h
 |succ m=>exact λh=>by cases h
def MP:eqN n G (.tup l) .non≠some true:=by
 cases n with
 |zero=>exact λh=>by exact v8 h
 |succ m=>exact λh=>by cases h
def hZ:eqN n G (.str z) (.tup l)≠some true:=by
 cases n with
 |zero=>exact λh=>by exact v8 h
 |succ m=>exact λh=>by cases h
def ng:eqN n G (.tup l) (.str z)≠some true:=by
 cases n with
 |zero=>exact λh=>by exact v8 h
 |succ m=>exact λh=>by cases h
def EqS(S:D->Prop)(G:DH):Prop:=∀n x y,S x->S y->eqN n G x y=some true->x=y
def rz(ih:EqS S G)(ha:LiP S a)(hb:LiP S b)(h:eqN n G a b=some true):a=b:=by
 rcases ha with rfl|⟨fs,c,rfl,_,a2,a3⟩
 ·rcases hb with rfl|⟨_,_,rfl,_⟩
  ·rfl
  ·exact(wP h).elim
 ·rcases hb with rfl|⟨gs,d,rfl,_,b2,b3⟩
  ·exact(MP h).elim
  ·obtain⟨_,_,z⟩:=eqT h;have z1:=K9 z;obtain⟨_,_,z3⟩:=eqT z1.1;rw[eqL_same z3 λx hx y hy e=>ih _ _ _ (a2 x hx) (b2 y hy) e,ih _ _ _ a3 b3 (K9 z1.2).1]
def pX(ih:EqS S G)(hf:S f.2.2)(hg:S g.2.2)(h:eqN n G (fdD f) (fdD g)=some true):fdD f=fdD g:=by obtain⟨_,_,e⟩:=eqT h;have y1:=K9 e;have y2:=K9 y1.2;unfold fdD;rw[AG y1.1,KN y2.1,ih _ _ _ hf hg (K9 y2.2).1]
def fZ(ih:EqS S G)(ha:ReP S a)(hb:ReP S b)(h:eqN n G a b=some true):a=b:=by
 rcases ha with rfl|⟨fs,c,rfl,_,_,a2,a3⟩
 ·rcases hb with rfl|⟨_,_,rfl,_⟩
  ·rfl
  ·exact(wP h).elim
 ·rcases hb with rfl|⟨gs,d,rfl,_,_,b2,b3⟩
  ·exact(MP h).elim
  ·obtain⟨_,_,z⟩:=eqT h;have z1:=K9 z;obtain⟨_,_,z3⟩:=eqT z1.1;rw[eqL_same z3 ?_,ih _ _ _ a3 b3 (K9 z1.2).1];intro x hx y hy e;obtain⟨f,hf,rfl⟩:=zk.mp hx;obtain⟨g,hg,rfl⟩:=zk.mp hy;exact pX ih (a2 f hf).2 (b2 g hg).2 e
def az{n:Nat}{G:DH}{ns ns':List (D×D)}{w w':Str}(ih:EqS S G)(h1:∀p∈ns,FB p)(g1:∀p∈ns',FB p)(h6:LiP S li)(g6:LiP S li')(h7:ReP S re)(g7:ReP S re')(h:eqN n G (mkS ns w ts tr li re) (mkS ns' w' ts' tr' li' re')=some true):mkS ns w ts tr li re=mkS ns' w' ts' tr' li' re':=by obtain⟨_,_,h⟩:=eqT h;have e1:=K9 h;have e2:=K9 e1.2;have e3:=K9 e2.2;have e4:=K9 e3.2;obtain⟨_,_,t⟩:=eqT e2.1;have t1:=K9 t;unfold mkS;rw[rW h1 g1 e1.1,AG t1.1,CS (K9 t1.2).1,RO e3.1,rz ih h6 g6 e4.1,fZ ih h7 g7 (K9 e4.2).1]
theorem SB.eqs:∀ {k},EqS (SB k) G
|0=>λ_ _ _ h _ _=>h.elim
|k+1=>λn x y hx hy h=>by
  rcases hx with rfl|⟨ns,w,ts,tr,li,re,rfl,h1,_,_,_,_,h6,h7⟩
  ·rcases hy with rfl|⟨_,_,_,_,_,_,rfl,_⟩
   ·rfl
   ·exact(hZ h).elim
  ·rcases hy with rfl|⟨ns',w',ts',tr',li',re',rfl,g1,_,_,_,_,g6,g7⟩
   ·exact(ng h).elim
   ·exact az SB.eqs h1 g1 h6 g6 h7 g7 h
def lL(h:S4 x=true):eqS x x=some true:=by
 cases x<;>first|(cases h;done)|rfl|(simp[eqS])
theorem MN:∀ {l},(∀x∈l,f x x=some true)->eqL f l l=some true
|[],_=>rfl
|x::r,h=>by unfold eqL;rw[h x (by simp),MN λy hy=>h y (by simp[hy])];rfl
theorem dD:∀ {n m} {x},n<m->T8 n x=true->eqN m G x x=some true
|n,0,x,h,_=>by lia
|n,m+1,x,h,hx=>by
  rcases x with _|b|b|b|l|i|i|i
  ·rfl
  ·exact lL (x:=.bl b) rfl
  ·exact lL (x:=.int b) rfl
  ·exact lL (x:=.str b) rfl
  ·
    cases n with
    |zero=>simp[T8]at hx
    |succ k=>
      rw[VH];exact MN λx hx'=>dD (n:=k) (by lia) (zH.mp (by simpa [T8]using hx) x hx')
  ·cases n<;>simp[T8]at hx
  ·cases n<;>simp[T8]at hx
  ·cases n<;>simp[T8]at hx
def One(σ:DSt):Prop:=∃u,σ= [u]
def liK:D->List D
| .tup [.tup fs,m]=>fs++[m]
|_=> []
def reK:D->List D
| .tup [.tup fs,m]=>fs.map trd++[m]
|_=> []
def v6:D->List D
| .tup [_,_,_,li,re]=>liK li++reK re
|_=> []
def aJ:V5=o6 (M3 (Q6 K0) i3) (gdQ (tBn eqD g0 (cSt "any")) x0 (o6 IL (o6 IR (u9 x0)))):=rfl
def Ap.set(h:Ap G0 G)(hp:G0.length<=p):Ap G0 (G.set p o):=by obtain⟨t,rfl⟩:=h;exact⟨t.set (p-G0.length) o,List.set_append_right _ _ hp⟩
section
variable{S:D->Prop}{G G0:DH}{Q:DPP}{p:Nat}{ns:List (D×D)}{w:Str}{ts:List Str}{tr:List Bool}{li re:D}{l0:List D}
def hW{d:D}{a b:Fe}{fs:List D}{m:D}{G1:DH}{P:Fl->DH->Prop}(hA:Ap G0 G)(hp:G0.length<=p)(e:G[p]? =some (.lst l0))(hl:l0.length<=2000)(hf:fs.length<=2000)(ha:Wp (a [some d,sRf p]) G λx G1=>x= .ref G.length/\G1=G++[.lst fs])(hb:∀G,b [some d,sRf p] G=some (.ok m,G))(q:∀G',Ap G0 G'->G'[p]? =some (.lst (l0++(fs++[m])))->P (.nx [some d,sRf p]) G'):
 Wp (d5 (mtE M4 sC x0 (A1 (m9 K4 a (Q6 (A1 b))))) [some d,sRf p]) G P:=by
 have bg:=big;refine GA.mpr<| E8.mpr<| b8 rfl<| (O3 e).mpr<| m5<| m7<| ha.mono ?_;rintro _ _ ⟨rfl,rfl⟩;refine bC.mpr<| MS (hb _)<| o8.mpr ⟨sz,?_⟩;refine(uK (R8 o4) o4 (by show fs.length+1<=_;lia)).mpr<| o8.mpr ?_;have e3:(G++[DO.lst fs]++[DO.lst [m]]++[DO.lst (fs++[m])])[p]? =some (.lst l0):=R8 (R8 (R8 e));refine(eJ e3 o4 (by rw[zv];show l0.length+(fs.length+1)<=_;lia)).mpr ?_;exact q _ (Ap.set (((hA.trans Ap.one).trans Ap.one).trans Ap.one) hp) (zX (lt_of_get e3))
def dX(hA:Ap G0 G)(hp:G0.length<=p)(e:G[p]? =some (.lst l0))(hl:l0.length<=2000)(h:LiG S li)(q:∀G',Ap G0 G'->G'[p]? =some (.lst (l0++liK li))->P (.nx [some (mkS ns w ts tr li re),sRf p]) G'):
 Wp (IL [some (mkS ns w ts tr li re),sRf p]) G P:=by
 rcases h with rfl|⟨fs,m,rfl,hf,_⟩
 ·refine QD rfl<| t8.mpr (q G hA ?_);rw[show liK .non= []from rfl,Zc];exact e
 ·refine rE rfl ?_;exact hW (G1:=G) hA hp e hl (by lia) (b8 rfl ⟨rfl,rfl⟩) (λ_=>rfl) q
def bS(hA:Ap G0 G)(hp:G0.length<=p)(e:G[p]? =some (.lst l0))(hl:l0.length<=2000)(h:ReG S re)(q:∀G',Ap G0 G'->G'[p]? =some (.lst (l0++reK re))->P (.nx [some (mkS ns w ts tr li re),sRf p]) G'):
 Wp (IR [some (mkS ns w ts tr li re),sRf p]) G P:=by
 rcases h with rfl|⟨fs,m,rfl,hf,_⟩
 ·refine QD rfl<| t8.mpr (q G hA ?_);rw[show reK .non= []from rfl,Zc];exact e
 ·refine rE rfl ?_;refine hW (G1:=G) hA hp e hl (by rw[zd,zd];lia) ?_ (λ_=>rfl) q;refine cR rfl (by rw[zd];lia)<| (nJ (λG2=>G2=G) One trd (λ_ _=>rfl) _ _ G ⟨_,rfl⟩ rfl ?_).mono ?_
  ·rintro d hd _ _ ⟨u,rfl⟩ rfl;obtain⟨f,hf,rfl⟩:=zk.mp hd;exact AO ⟨_,rfl⟩ (b8 rfl ⟨rfl,rfl⟩)
  ·rintro _ _ ⟨rfl,rfl⟩;exact⟨rfl,rfl⟩
def BS(h:LiG S li):(liK li).length<=1001:=by
 rcases h with rfl|⟨fs,m,rfl,hf,_⟩
 ·exact zO _
 ·show (fs++[m]).length<=1001;rw[zv];show fs.length+1<=1001;lia
def SJ(h:GS n d)(q:∀p G',Ap G G'->G.length<=p->G'[p]? =some (.lst (v6 d))->Q (.ref p) G'):Wp (V9 [d]) G Q:=by
 cases n with
 |zero=>exact h.elim
 |succ n=>
   rcases h with rfl|⟨ns,w,ts,tr,li,re,rfl,h,_⟩
   ·refine K3 (show Wp (V5 [some (.str D4),none]) G _ from ?_);rw[aJ];exact Q8 (X1:= [some (.str D4),some (.ref G.length)]) rfl<| MT rfl (u5 (q _ _ Ap.one (zh _) o4))
   ·refine K3 (show Wp (V5 [some (mkS ns w ts tr li re),none]) G _ from ?_);rw[aJ];refine Q8 (X1:= [some (mkS ns w ts tr li re),some (.ref G.length)]) rfl<| Q8 (X1:= [some (mkS ns w ts tr li re),some (.ref G.length)]) rfl ?_;refine d8.mpr<| dX (Ap.one) (zh _) o4 (zO _) h.li λG1 a1 e1=>d8.mpr<| bS a1 (zh _) e1 (by have:=BS h.li;simpa using zq this (by decide)) h.re λG2 a2 e2=>?_;exact b8 rfl (u5 (q _ _ a2 (zh _) e2))
end
def frD:D->D
| .tup [.tup fs,_]=>.int fs.length
|_=>.non
def nmO:D->D
| .tup [a,b,_]=>.tup [a,b]
|_=>.non
def nmB(f:Str×Bool×D):D:=.tup [.str f.1,.bl f.2.1]
def RfP(G:DH)(re r:D):Prop:=(re= .non/\r= .non)\/∃(fs:List (Str×Bool×D)) (m:D) (p:Nat),re= .tup [.tup (fs.map fdD),m]/\r= .ref p/\G[p]? =some (.lst (fs.map nmB))
def cC(S:D->Prop)(G:DH)(d o:D):Prop:=(d= .str D4/\o= .tup [.str D4])\/∃ns w ts tr li re r,d=mkS ns w ts tr li re/\o= .tup [.tup (ns.map stD),.tup [.str w,.tup (ts.map D.str)],.tup (tr.map D.bl),frD li,r]/\RfP G re r/\PtP S ns w ts tr li re
def cC.up(h:cC S G d o)(a:Ap G G'):cC S G' d o:=by
 rcases h with h|⟨ns,w,ts,tr,li,re,r,e1,e2,h,p⟩
 ·exact .inl h
 ·refine .inr ⟨ns,w,ts,tr,li,re,r,e1,e2,?_,p⟩;rcases h with h|⟨fs,m,p,a1,a2,a3⟩
  ·exact .inl h
  ·exact .inr ⟨fs,m,p,a1,a2,a.at a3⟩
def lH(h:GS (n+1) d)(q:∀o G',Ap G G'->cC (GS n) G' d o->Q o G'):Wp (PF [d]) G Q:=by
 rcases h with rfl|⟨ns,w,ts,tr,li,re,rfl,h,_⟩
 ·exact Iv rfl (q _ G Ap.refl (.inl ⟨rfl,rfl⟩))
 ·refine K3<| Q8 (X1:= [some (mkS ns w ts tr li re),none,none]) rfl<| Q8 (X1:= [some (mkS ns w ts tr li re),some (frD li),none]) (G':=G) ?_ ?_
  ·rcases h.li with rfl|⟨fs,m,rfl,_⟩<;>rfl
  ·have fin:∀r G',Ap G G'->RfP G' re r->Wp (u9 (X4 (S3 (ixE g0 S0) (ixE g0 B0) (ixE g0 O0) x0 C0)) [some (mkS ns w ts tr li re),some (frD li),some r]) G' (PB Q):=λr G' a hr=>
    w5<| b8 rfl<| u5<| q _ G' a (.inr ⟨ns,w,ts,tr,li,re,r,rfl,rfl,hr,h⟩)
   rcases h.re with e|⟨fs,m,e,hf,_⟩
   ·refine Q8 (X1:= [some (mkS ns w ts tr li re),some (frD li),some .non]) ?_ (fin .non G Ap.refl (.inl ⟨e,rfl⟩));rw[e];rfl
   ·refine d8.mpr<| J5<| QP (by rw[e];rfl)<| cR (by rw[e];rfl) (by rw[zd];lia)<| (nJ (λG2=>G2=G) One nmO (λ_ _=>rfl) _ _ G ⟨_,rfl⟩ rfl ?_).mono ?_
    ·rintro d hd _ _ ⟨u,rfl⟩ rfl;obtain⟨f,hf,rfl⟩:=zk.mp hd;exact AO ⟨_,rfl⟩ (b8 rfl ⟨rfl,rfl⟩)
    ·rintro _ _ ⟨rfl,rfl⟩;exact fin (.ref _) _ Ap.one (.inr ⟨fs,m,_,e,rfl,by rw[o4,jF];rfl⟩)
def CJ(e:G[p]? =some (.lst l)):W9 G (.ref p)=some (false,l):=by
 show (match G[p]? with
  |some (.lst l)=>some (false,l)
  |some (.rol l)=>some (false,l)
  |_=>none)=_
 rw[e]
def iP(h1:f x1 y1=some b1)(h2:f x2 y2=some b2)(h3:f x3 y3=some b3)(h4:f x4 y4=some b4)(h5:f x5 y5=some b5):eqL f [x1,x2,x3,x4,x5] [y1,y2,y3,y4,y5]=some (b1&&(b2&&(b3&&(b4&&(b5&&true))))):=by rw[VA,h1,VA,h2,VA,h3,VA,h4,VA,h5];rfl
def Ek(h:LiG S li)(h':LiG S li'):∃b,eqN (n+1) G (frD li) (frD li')=some b/\(b=true->(liK li).length= (liK li').length/\(liK li=liK li'->li=li')):=by
 rcases h with rfl|⟨fs,m,rfl,_⟩<;>rcases h' with rfl|⟨fs',m',rfl,_⟩
 ·exact⟨true,rfl,λ_=>⟨rfl,λ_=>rfl⟩⟩
 ·exact⟨false,rfl,λz=>by exact B7 z⟩
 ·exact⟨false,rfl,λz=>by exact B7 z⟩
 ·refine⟨((fs.length:Int)==(fs'.length:Int)),rfl,λz=>⟨?_,λe=>?_⟩⟩
  ·have z:=YC z;show (fs++[m]).length= (fs'++[m']).length;simp only[zv,yq];lia
  ·have e:=YM (show fs++[m]=fs'++[m']from e) rfl;rw[e.1,(yw e.2).1]
def cz(h:nmB f=nmB g)(k:f.2.2=g.2.2):f=g:=by
 obtain⟨a,b,c⟩:=f;obtain⟨a',b',c'⟩:=g
 cases h;cases k;rfl
theorem bW:∀ {fs gs:List (Str×Bool×D)},fs.map nmB=gs.map nmB->(fs.map fdD).map trd= (gs.map fdD).map trd->fs=gs
|[], [],_,_=>rfl
|[],_::_,h,_=>by exact WD h
|_::_, [],h,_=>by exact lG h
|f::fs,g::gs,h,k=>by have h:=yw h;have k:=yw (show trd (fdD f)::(fs.map fdD).map trd=trd (fdD g)::(gs.map fdD).map trd from k);rw[cz h.1 k.1,bW h.2 k.2]
def HK(f:Str×Bool×D):T8 (n+2) (nmB f)=true:=by show [D.str f.1,.bl f.2.1].all (T8 (n+1))=true;rfl
def Gd{re re' r r':D}(hn:4<=n)(h:RfP G re r)(h':RfP G re' r'):∃b,eqN (n+1) G r r'=some b/\(b=true->(reK re).length= (reK re').length/\(reK re=reK re'->re=re')):=by
 rcases h with⟨rfl,rfl⟩|⟨fs,m,p,rfl,rfl,e⟩<;>rcases h' with⟨rfl,rfl⟩|⟨gs,m',p',rfl,rfl,e'⟩
 ·exact⟨true,rfl,λ_=>⟨rfl,λ_=>rfl⟩⟩
 ·refine⟨false,?_,λz=>by exact B7 z⟩;rw[P7,CJ e'];rfl
 ·refine⟨false,?_,λz=>by exact B7 z⟩;rw[P7,CJ e];rfl
 ·have hd:∀x∈fs.map nmB,∀y∈gs.map nmB,∃k,eqN n G x y=some k:=λx hx y hy=>by
   obtain⟨f,_,rfl⟩:=zk.mp hx;obtain⟨g,_,rfl⟩:=zk.mp hy;exact nF 2 n _ _ (by lia) (HK f) (HK g)
  obtain⟨k,hk⟩:=fO _ _ hd;have h0:eqN (n+1) G (.ref p) (.ref p')=if (fs.map nmB).length≠(gs.map nmB).length then some false else eqL (eqN n G) (fs.map nmB) (gs.map nmB):=by rw[P7,CJ e,CJ e'];simp
  rw[h0];by_cases hl:(fs.map nmB).length≠(gs.map nmB).length
  ·exact⟨false,if_pos hl,λz=>by exact B7 z⟩
  ·refine⟨k,by rw[if_neg hl];exact hk,λz=>?_⟩;subst z;have e0:fs.map nmB=gs.map nmB:=eqL_same hk λx hx y hy e=>by
    obtain⟨f,_,rfl⟩:=zk.mp hx;obtain⟨g,_,rfl⟩:=zk.mp hy;obtain⟨j,rfl,e⟩:=eqT e;have e1:=K9 e;have e2:=K9 e1.2;show D.tup [.str f.1,.bl f.2.1]=D.tup [.str g.1,.bl g.2.1];rw[AG e1.1,KN e2.1]
   refine⟨?_,λe=>?_⟩
   ·show ((fs.map fdD).map trd++[m]).length= ((gs.map fdD).map trd++[m']).length;have:=congrArg Zf e0;simp only[zv,zd,yq]at this ⊢;lia
   ·have e:=YM (show (fs.map fdD).map trd++[m]= (gs.map fdD).map trd++[m']from e) rfl;rw[bW e0 e.1,(yw e.2).1]
def Oeq(d e:D):Prop:=(v6 d).length= (v6 e).length/\(v6 d=v6 e->d=e)
def Ko(h:cC S G d o)(h':cC S G d' o'):∃b,eqN 40 G o o'=some b/\(b=true->Oeq d d'):=by
 rcases h with⟨rfl,rfl⟩|⟨ns,w,ts,tr,li,re,r,rfl,rfl,hr,hp⟩<;>rcases h' with⟨rfl,rfl⟩|⟨ns',w',ts',tr',li',re',r',rfl,rfl,hr',hp'⟩
 ·exact⟨true,rfl,λ_=>⟨rfl,λ_=>rfl⟩⟩
 ·exact⟨false,rfl,λz=>by exact B7 z⟩
 ·exact⟨false,rfl,λz=>by exact B7 z⟩
 ·have dt:∀(w:Str) (ts:List Str),T8 3 (.tup [.str w,.tup (ts.map D.str)])=true:=λw ts=>by
   have:=vU 1 ts;show ([D.str w,.tup (ts.map D.str)].all (T8 2))=true;simp only[jm,xj,this,yr];rfl
  obtain⟨b1,h1⟩:=nF 2 39 _ _ (by decide) (RM 0 hp.st) (RM 0 hp'.st);obtain⟨b2,h2⟩:=nF 3 39 _ _ (by decide) (dt w ts) (dt w' ts');obtain⟨b3,h3⟩:=nF 2 39 _ _ (by decide) (eO 1 tr) (eO 1 tr');obtain⟨b4,h4,k4⟩:=Ek hp.li hp'.li;obtain⟨b5,h5,k5⟩:=Gd (n:=38) (by decide) hr hr';refine⟨_,(VH).trans (iP h1 h2 h3 h4 h5),λz=>?_⟩;rw[yr]at z;simp only[zy]at z;obtain⟨rfl,rfl,rfl,rfl,rfl⟩:=z;have k4:=k4 rfl;have k5:=k5 rfl;refine⟨?_,λe=>?_⟩
  ·show (liK li++reK re).length= (liK li'++reK re').length;rw[zv,zv,k4.1,k5.1]
  ·have e:=List.append_inj (show liK li++reK re=liK li'++reK re' from e) k4.1;obtain⟨j,ej,h2⟩:=eqT h2;have e1:=K9 h2;have e2:=K9 e1.2;unfold mkS;rw[rW hp.st hp'.st h1,AG e1.1,CS e2.1,RO h3,k4.2 e.1,k5.2 e.2]
def LiG.mono(k:∀d,S d->T d)(h:LiG S li):LiG T li:=by
 rcases h with rfl|⟨fs,m,rfl,a,b,c⟩
 ·exact .inl rfl
 ·exact .inr ⟨fs,m,rfl,a,λx hx=>k _ (b x hx),k _ c⟩
def ReG.mono(k:∀d,S d->T d)(h:ReG S re):ReG T re:=by
 rcases h with rfl|⟨fs,m,rfl,a,n,b,c⟩
 ·exact .inl rfl
 ·exact .inr ⟨fs,m,rfl,a,n,λx hx=>⟨(b x hx).1,k _ (b x hx).2⟩,k _ c⟩
def PtP.mono(k:∀d,S d->T d){w:Str}{tr:List Bool}{li re:D}(h:PtP S ns w ts tr li re):PtP T ns w ts tr li re:=⟨h.st,h.nl,h.tx,h.tl,h.tr,h.li.mono k,h.re.mono k⟩
theorem GS.le:∀ {n m} {d},n<=m->GS n d->GS m d
|0,_,_,_,h=>h.elim
|n+1,0,_,hm,_=>absurd hm (by lia)
|n+1,m+1,d,hm,h=>by
  rcases h with rfl|⟨ns,w,ts,tr,li,re,e,h,r⟩
  ·exact .inl rfl
  ·exact .inr ⟨ns,w,ts,tr,li,re,e,h.mono λd hd=>GS.le (by lia) hd,r⟩
def GS.kids(h:GS (n+1) d):∀x∈v6 d,GS n x:=by
 rcases h with rfl|⟨ns,w,ts,tr,li,re,rfl,h,_⟩
 ·intro x hx;cases hx
 ·intro x hx;rcases zB.mp (show x∈liK li++reK re from hx)with hx|hx
  ·rcases h.li with e|⟨fs,m,e,a,b,c⟩<;>rw[e]at hx
   ·cases hx
   ·rcases zB.mp (show x∈fs++[m]from hx)with hx|hx
    ·exact b x hx
    ·rw[zi.mp hx];exact c
  ·rcases h.re with e|⟨fs,m,e,a,n,b,c⟩<;>rw[e]at hx
   ·cases hx
   ·rcases zB.mp (show x∈(fs.map fdD).map trd++[m]from hx)with hx|hx
    ·obtain⟨y,hy,rfl⟩:=zk.mp hx;obtain⟨f,hf,rfl⟩:=zk.mp hy;exact(b f hf).2
    ·rw[zi.mp hx];exact c
def Q4:szD (.tup l)=1+szL l:=by rw[szD]
def o5:szL (d::l)=szD d+szL l:=by rw[szL]
def J2:szL []=0:=by rw[szL]
theorem BL:∀(fs:List (Str×Bool×D)),szL ((fs.map fdD).map trd)+3*fs.length=szL (fs.map fdD)
|[]=>rfl
|f::fs=>by have ih:=BL fs;show szL (f.2.2::(fs.map fdD).map trd)+3*(fs.length+1)=szL (.tup [.str f.1,.bl f.2.1,f.2.2]::fs.map fdD);rw[o5,o5,Q4,o5,o5,o5,J2,show szD (.str f.1)=1 from by rw[szD],show szD (.bl f.2.1)=1 from by rw[szD]];lia
def GS.ksz{n:Nat}(h:GS n d):szL (v6 d)<szD d:=by
 cases n with
 |zero=>exact h.elim
 |succ n=>
   rcases h with rfl|⟨ns,w,ts,tr,li,re,rfl,h,_⟩
   ·show szL []<_;rw[J2];exact UJ _
   ·have h1:szL (liK li)<=szD li:=by
     rcases h.li with e|⟨fs,m,e,_⟩<;>rw[e]
     ·show szL []<=_;rw[J2];exact zO _
     ·show szL (fs++[m])<=_;rw[W6,Q4,o5,o5,J2,Q4,o5,J2];lia
    have h2:szL (reK re)<=szD re:=by
     rcases h.re with e|⟨fs,m,e,_⟩<;>rw[e]
     ·show szL []<=_;rw[J2];exact zO _
     ·show szL ((fs.map fdD).map trd++[m])<=_;have:=BL fs;rw[W6,Q4,o5,o5,J2,Q4,o5,J2];lia
    show szL (liK li++reK re)<szD (.tup [.tup (ns.map stD),.tup [.str w,.tup (ts.map D.str)],.tup (tr.map D.bl),li,re]);rw[W6,Q4,o5,o5,o5,o5,o5,J2];lia
theorem GS.sb:∀ {n} {d},GS n d->SB n d
|0,_,h=>h.elim
|n+1,d,h=>by
  rcases h with rfl|⟨ns,w,ts,tr,li,re,rfl,h,_⟩
  ·exact .inl rfl
  ·exact .inr ⟨ns,w,ts,tr,li,re,rfl,h.st,h.nl,h.tx,h.tl,h.tr,h.li.mono λd hd=>GS.sb hd,h.re.mono λd hd=>GS.sb hd⟩
def Hu(h:mkS ns w ts tr li re=mkS ns' w' ts' tr' li' re'):ns.map stD=ns'.map stD/\w=w'/\ts.map D.str=ts'.map D.str/\tr.map D.bl=tr'.map D.bl/\li=li'/\re=re':=by unfold mkS at h;simp only[D.tup.injEq,Zw,D.str.injEq,and_true]at h;exact⟨h.1,h.2.1.1,h.2.1.2,h.2.2.1,h.2.2.2.1,h.2.2.2.2⟩
def ii(h:fdD f=fdD g):f=g:=by obtain⟨a,b,c⟩:=f;obtain⟨a',b',c'⟩:=g;unfold fdD at h;simp only[D.tup.injEq,Zw,D.str.injEq,D.bl.injEq,and_true]at h;rw[h.1,h.2.1,h.2.2]
theorem lQ{f:α->β}(hf:∀a b,f a=f b->a=b):∀ {l k:List α},l.map f=k.map f->l=k
|[], [],_=>rfl
|[],_::_,h=>by exact WD h
|_::_, [],h=>by exact lG h
|a::l,b::k,h=>by rw[zT,zT,Zw]at h;rw[hf a b h.1,lQ hf h.2]
def Kc{fs gs:List (Str×Bool×D)}(h:fs.map fdD=gs.map fdD):fs=gs:=lQ (λ_ _=>ii) h
def LZ(ea:G[p]? =some (.lst a))(eb:G[q]? =some (.lst b))(hl:a.length=b.length):eqN (n+1) G (.ref p) (.ref q)=eqL (eqN n G) a b:=by
 have h1:W9 G (.ref p)=some (false,a):=by simp only[W9,ea]
 have h2:W9 G (.ref q)=some (false,b):=by simp only[W9,eb]
 rw[P7,h1,h2];show (if false=false then (if false=false/\a.length≠b.length then some false else eqL (eqN n G) a b)else some false)=_;rw[if_pos rfl,if_neg (λh=>h.2 hl)]
def bR(e:G[p]? =some (.lst l))(e':G[q]? =some (.lst m))(h:Q (.ref G.length) (G++[.lst ((l.zip m).map stD)])):Wp (UB [.ref p,.ref q]) G Q:=by
 have ee:UB [.ref p,.ref q]= (do
  let l <-O4 p >>= listOf
  let m <-O4 q >>= listOf
  N7 (.lst ((l.zip m).map λp=>.tup [p.1,p.2]))):=rfl
 have l1:Wp (O4 p >>= listOf) G λx G'=>x=l/\G'=G:=m6.mpr (O8.mpr (by rw[e];exact O9.mpr (wp_pure.mpr ⟨rfl,rfl⟩)));have l2:Wp (O4 q >>= listOf) G λx G'=>x=m/\G'=G:=m6.mpr (O8.mpr (by rw[e'];exact O9.mpr (wp_pure.mpr ⟨rfl,rfl⟩)));rw[ee];refine m6.mpr (l1.mono ?_);rintro _ _ ⟨rfl,rfl⟩;refine m6.mpr (l2.mono ?_);rintro _ _ ⟨rfl,rfl⟩;exact b8 rfl h
theorem CW:∀ {a b:List D},a.length=b.length->a≠b->∃p∈a.zip b,p.1≠p.2
|[], [],_,h=>(h rfl).elim
|[],_::_,h,_=>by cases h
|_::_, [],h,_=>by cases h
|x::a,y::b,h,k=>by
  by_cases e:x=y
  ·subst e;obtain⟨p,hp,q⟩:=CW (XA h) λe=>k (by rw[e]);exact⟨p,by rw[yH];exact ze _ hp,q⟩
  ·exact⟨(x,y),by rw[yH];exact zg,e⟩
def ZT:DSt->M Bool:=J7 C0
def Rf:KJ=o6 (M3 (Q6 (A1 (H0 g0 x0))) B2) (o6 (iA ZT (o6 Z1 (o6 Z2 Z3))) (u9 cBt)):=rfl
def Ws(n:Nat)(ws:List (D×D)):Prop:=∀q∈ws,GS (n+1) q.1/\GS (n+1) q.2
def OW(h:ws≠ []):∃(t:List (D×D)) (q:D×D),ws=t++[q]:=⟨ws.dropLast,ws.getLast h,(yR h).symm⟩
theorem pT{x y:Option D}(hp:G0.length<=p):∀(fuel:Nat) ws u (G:DH),Ap G0 G->G[p]? =some (.lst (ws.map stD))->szL (ws.map (·.1))<fuel->szL (ws.map (·.1))<=1000000->Ws n ws->(∃q∈ws,q.1≠q.2)->
 Wp (S5 fuel ZT (o6 Z1 (o6 Z2 Z3)) [x,y,sRf p,u]) G λfl G'=>fl= .rt (.bl false)/\Ap G0 G'
 |0,ws,u,G,_,_,hf,_,_,_=>absurd hf (yT _)
 |fuel+1,ws,u,G,hA,e,hf,hb,hw,hx=>by
   have bg:=big;have Mo:ws≠ []:=by rintro rfl;obtain⟨q,hq,_⟩:=hx;cases hq
   obtain⟨t,q,rfl⟩:=OW Mo;rw[jh]at e;refine sB.mpr<| W0.mpr<| b8 rfl<| (uF e).mpr ?_;rw[if_pos (by simp)];refine d8.mpr<| J5<| E8.mpr<| b8 rfl<| (O3 e).mpr<| o8.mpr<| (GM e).mpr ?_;have e1:(G.set p (.lst (t.map stD)))[p]? =some (.lst (t.map stD)):=zX (lt_of_get e);have a1:Ap G0 (G.set p (.lst (t.map stD))):=hA.set hp;have hq:=hw q (by simp);have hs:szL ((t++[q]).map (·.1))=szL (t.map (·.1))+szD q.1:=by rw[jh,W6];show _+szL [q.1]=_;rw[o5,J2];rfl
   rw[hs]at hf hb;refine d8.mpr<| X3<| w6<| m7<| o7 rfl rfl<| lH hq.1 λo1 G2 a2 h1=>o7 rfl rfl<| lH hq.2 λo2 G3 a3 h2=>?_;obtain⟨b,Oe,kb⟩:=Ko (h1.up a3) h2;have a13:=(a1.trans a2).trans a3;refine(AA (show neD o1 o2 G3=some (.ok (.bl (!b)),G3)from by unfold neD;rw[Oe])).mpr ⟨!b,rfl,λz=>?_,λz=>t8.mpr ?_⟩
   ·exact b8 rfl (show Fl.rt (.bl false)= .rt (.bl false)/\Ap G0 G3 from⟨rfl,a13⟩)
   ·have ho:=kb (by cases b<;>first|rfl|cases z);have e3:=a3.at (a2.at e1);refine GA.mpr<| E8.mpr<| b8 rfl<| (O3 e3).mpr<| m5<| O2<| m5<| o7 rfl rfl<| SJ hq.1 λp1 G4 a4 l4 e4=>m5<| o7 rfl rfl<| SJ hq.2 λp2 G5 a5 l5 e5=>o8.mpr<| bR (a5.at e4) e5<| o8.mpr ?_;have e6:(G5++[DO.lst (((v6 q.1).zip (v6 q.2)).map stD)])[p]? =some (.lst (t.map stD)):=R8 (a5.at (a4.at e3));have hk:=hq.1.ksz;have hz:((v6 q.1).zip (v6 q.2)).map (·.1)=v6 q.1:=List.map_fst_zip (xl ho.1);have hn:szL ((t++(v6 q.1).zip (v6 q.2)).map (·.1))=szL (t.map (·.1))+szL (v6 q.1):=by rw[jh,W6,hz]
    have Lr:=CA ((t++(v6 q.1).zip (v6 q.2)).map (·.1));rw[hn,zd,zv]at Lr;refine(eJ e6 o4 (by rw[zd,zd];lia)).mpr ?_;refine pT (n:=n) hp fuel (t++(v6 q.1).zip (v6 q.2)) _ _ (((a13.trans a4).trans a5).trans Ap.one |>.set hp) ?_ (by rw[hn];lia) (by rw[hn];lia) (λr hr=>?_) ?_
    ·rw[jh];exact zX (lt_of_get e6)
    ·rcases zB.mp hr with hr|hr
     ·exact hw r (by simp[hr])
     ·have hr':=xB hr;exact⟨(hq.1.kids _ hr'.1).le (yX _),(hq.2.kids _ hr'.2).le (yX _)⟩
    ·obtain⟨r,hr,nr⟩:=hx;rcases zB.mp hr with hr|hr
     ·exact⟨r,by simp[hr],nr⟩
     ·rw[zi]at hr;subst hr;obtain⟨s,hs,ns⟩:=CW ho.1 λz=>nr (ho.2 z);exact⟨s,by simp[hs],ns⟩
def Hv{S:D->Prop}(h:cC S G d o)(h':cC S G d o'):eqN 40 G o o'=some true:=by
 rcases h with⟨rfl,rfl⟩|⟨ns,w,ts,tr,li,re,r,rfl,rfl,hr,hp⟩<;>rcases h' with⟨e,rfl⟩|⟨ns',w',ts',tr',li',re',r',e,rfl,hr',hp'⟩
 ·rfl
 ·cases e
 ·cases e
 ·obtain⟨e1,rfl,e3,e4,rfl,rfl⟩:=Hu e;rw[<-e1,<-e3,<-e4];have dt:T8 3 (.tup [.str w,.tup (ts.map D.str)])=true:=by
   have:=vU 1 ts;show ([D.str w,.tup (ts.map D.str)].all (T8 2))=true;simp only[jm,xj,this,yr];rfl
  have h5:eqN 39 G r r'=some true:=by
   rcases hr with⟨rfl,rfl⟩|⟨fs,m,p,rfl,rfl,e5⟩
   ·rcases hr' with⟨_,rfl⟩|⟨_,_,_,e,_⟩
    ·rfl
    ·cases e
   ·rcases hr' with⟨e,_⟩|⟨fs',m',p',e,rfl,e6⟩
    ·cases e
    ·injection e with e;injection e with e7 _;injection e7 with e7;rw[<-Kc e7]at e6;exact(LZ e5 e6 rfl).trans (MN λx hx=>by obtain⟨f,_,rfl⟩:=zk.mp hx;exact dD (n:=2) (by decide) (HK f))
  have h4:eqN 39 G (frD li) (frD li)=some true:=dD (n:=1) (by decide) (by rcases hp.li with rfl|⟨fs,m,rfl,_⟩<;>rfl)
  exact(VH).trans (iP (dD (by decide) (RM 0 hp.st)) (dD (by decide) dt) (dD (by decide) (eO 1 tr)) h4 h5)
def sZ{l:List D}(h:r∈l.zip l):r.1=r.2:=by
 induction l with
 |nil=>cases h
 |cons x l ih=>
   rw[yH]at h;rcases zn.mp h with rfl|h
   ·rfl
   ·exact ih h
theorem LO{x y:Option D}(hp:G0.length<=p):∀(fuel:Nat) ws u (G:DH),Ap G0 G->G[p]? =some (.lst (ws.map stD))->szL (ws.map (·.1))<fuel->szL (ws.map (·.1))<=1000000->Ws n ws->(∀q∈ws,q.1=q.2)->
 Wp (S5 fuel ZT (o6 Z1 (o6 Z2 Z3)) [x,y,sRf p,u]) G λfl G'=>(∃u',fl= .nx [x,y,sRf p,u'])/\Ap G0 G'
 |0,ws,u,G,_,_,hf,_,_,_=>absurd hf (yT _)
 |fuel+1,ws,u,G,hA,e,hf,hb,hw,hx=>by
   have bg:=big;by_cases Mo:ws= []
   ·subst Mo;refine sB.mpr<| W0.mpr<| b8 rfl<| (uF e).mpr ?_;rw[if_neg (by simp)];exact⟨⟨u,rfl⟩,hA⟩
   obtain⟨t,q,rfl⟩:=OW Mo;rw[jh]at e;refine sB.mpr<| W0.mpr<| b8 rfl<| (uF e).mpr ?_;rw[if_pos (by simp)];refine d8.mpr<| J5<| E8.mpr<| b8 rfl<| (O3 e).mpr<| o8.mpr<| (GM e).mpr ?_;have e1:(G.set p (.lst (t.map stD)))[p]? =some (.lst (t.map stD)):=zX (lt_of_get e);have a1:Ap G0 (G.set p (.lst (t.map stD))):=hA.set hp;have hq:=hw q (by simp);have hs:szL ((t++[q]).map (·.1))=szL (t.map (·.1))+szD q.1:=by rw[jh,W6];show _+szL [q.1]=_;rw[o5,J2];rfl
   rw[hs]at hf hb;refine d8.mpr<| X3<| w6<| m7<| o7 rfl rfl<| lH hq.1 λo1 G2 a2 h1=>o7 rfl rfl<| lH hq.2 λo2 G3 a3 h2=>?_;have eqq:q.1=q.2:=hx q (by simp);have Oe:eqN 40 G3 o1 o2=some true:=Hv (h1.up a3) (eqq▸h2);have ho:(v6 q.1).length= (v6 q.2).length:=by rw[eqq]
   have a13:=(a1.trans a2).trans a3;refine iI.mpr ⟨true,Oe,false,rfl,λz=>(nomatch z),λ_=>t8.mpr ?_⟩
   ·have e3:=a3.at (a2.at e1);refine GA.mpr<| E8.mpr<| b8 rfl<| (O3 e3).mpr<| m5<| O2<| m5<| o7 rfl rfl<| SJ hq.1 λp1 G4 a4 l4 e4=>m5<| o7 rfl rfl<| SJ hq.2 λp2 G5 a5 l5 e5=>o8.mpr<| bR (a5.at e4) e5<| o8.mpr ?_;have e6:(G5++[DO.lst (((v6 q.1).zip (v6 q.2)).map stD)])[p]? =some (.lst (t.map stD)):=R8 (a5.at (a4.at e3));have hk:=hq.1.ksz;have hz:((v6 q.1).zip (v6 q.2)).map (·.1)=v6 q.1:=List.map_fst_zip (xl ho);have hn:szL ((t++(v6 q.1).zip (v6 q.2)).map (·.1))=szL (t.map (·.1))+szL (v6 q.1):=by rw[jh,W6,hz]
    have Lr:=CA ((t++(v6 q.1).zip (v6 q.2)).map (·.1));rw[hn,zd,zv]at Lr;refine(eJ e6 o4 (by rw[zd,zd];lia)).mpr ?_;refine LO (n:=n) hp fuel (t++(v6 q.1).zip (v6 q.2)) _ _ (((a13.trans a4).trans a5).trans Ap.one |>.set hp) ?_ (by rw[hn];lia) (by rw[hn];lia) (λr hr=>?_) (λr hr=>?_)
    ·rw[jh];exact zX (lt_of_get e6)
    ·rcases zB.mp hr with hr|hr
     ·exact hw r (by simp[hr])
     ·have hr':=xB hr;exact⟨(hq.1.kids _ hr'.1).le (yX _),(hq.2.kids _ hr'.2).le (yX _)⟩
    ·rcases zB.mp hr with hr|hr
     ·exact hx r (by simp[hr])
     ·rw[<-eqq]at hr;exact sZ hr
def d4(x y:D):Bool:= @decide (x=y) (Jy _)
def TF:d4 x y=true↔x=y:= @decide_eq_true_iff _ (Jy _)
def dk(hx:GS (n+1) x)(hy:GS (n+1) y)(hb:szD x<=1000000):Ev (dJ [x,y]) G (d4 x y):=λQ q=>by
 refine K3 (show Wp (KJ [some x,some y,none,none]) G _ from ?_);rw[Rf];have hs:szL ([(x,y)].map (·.1))=szD x:=by show szL [x]=_;rw[o5,J2];rfl
 by_cases e:x=y
 ·refine Q8 (X1:= [some x,some y,some (.ref G.length),none]) rfl<| d8.mpr<| bH<| (LO (zh _) (szD x+1) [(x,y)] none _ Ap.one o4 (by rw[hs];lia) (by rw[hs];lia) (λq hq=>by rw[zi.mp hq];exact⟨hx,hy⟩) (λq hq=>by rw[zi.mp hq];exact e)).mono ?_;rintro _ G' ⟨⟨u',rfl⟩,a⟩;rw[TF.mpr e]at q;exact w5<| E4.mpr<| u5 (q G' a)
 ·refine Q8 (X1:= [some x,some y,some (.ref G.length),none]) rfl<| d8.mpr<| bH<| (pT (zh _) (szD x+1) [(x,y)] none _ Ap.one o4 (by rw[hs];lia) (by rw[hs];lia) (λq hq=>by rw[zi.mp hq];exact⟨hx,hy⟩) ⟨(x,y),by simp,e⟩).mono ?_;rintro _ G' ⟨rfl,a⟩;rw[show d4 x y=false from yP.mpr λz=>e (TF.mp z)]at q;exact u5 (q G' a)
mutual
def dpD:D->Nat
| .tup l=>dpL l+1
| .non=>0
| .bl _=>0
| .int _=>0
| .str _=>0
| .ref _=>0
| .fn _=>0
| .ty _=>0
def dpL:List D->Nat
|[]=>0
|d::r=>max (dpD d) (dpL r)
end
mutual
def lwD:D->Bool
| .tup l=>decide (l.length<=1000)&&lwL l
| .non=>true
| .bl _=>true
| .int _=>true
| .str _=>true
| .ref _=>true
| .fn _=>true
| .ty _=>true
def lwL:List D->Bool
|[]=>true
|d::r=>lwD d&&lwL r
end
def DF:dpD (.tup l)=dpL l+1:=by rw[dpD]
def RN:dpL (d::l)=max (dpD d) (dpL l):=by rw[dpL]
def vP:∀ {l} {x},x∈l->dpD x<=dpL l
|d::r,x,h=>by
  rw[RN];rcases zn.mp h with rfl|h
  ·exact JH ..
  ·exact zq (vP h) (Jr ..)
theorem oS:∀ {l},lwL l=true↔∀x∈l,lwD x=true
|[]=>by simp[lwL]
|d::r=>by rw[lwL,zy,oS];simp
def mL:lwD (.tup l)=true↔l.length<=1000/\∀x∈l,lwD x=true:=by rw[lwD,zy,decide_eq_true_eq,oS]
structure Tg(n k:Nat)(d:D):Prop where
 at':AT n d
 lw:lwD d=true
 dp:dpD d<=k
 sz:szD d<=1000000
def Tg.mem(h:Tg n (k+1) (.tup l))(hx:x∈l):Tg n k x:=⟨F8 h.at' hx,(mL.mp h.lw).2 x hx,by have:=vP hx;have:=h.dp;rw[DF]at this;lia,zq (kU hx) h.sz⟩
def Tg.up(h:Tg n k d)(hn:n<=m)(hk:k<=j):Tg m j d:=⟨h.at'.le hn,h.lw,zq h.dp hk,h.sz⟩
def Tg.zl(h:Tg n k d):szD d<=zj:=zq h.sz (by decide)
def Tg.pos(h:Tg n k (.tup l)):∃j,k=j+1:=by have:=h.dp;rw[DF]at this;exact⟨k-1,by lia⟩
def Tg.len(h:Tg n k (.tup l)):l.length<=1000:=(mL.mp h.lw).1
def chk(f:D->Bool):Nat->D->Bool
|0,_=>false
|n+1,d=>f d&&(v6 d).all (chk f n)
def Lq(h:x∈liK li):∃fs m,li= .tup [.tup fs,m]/\(x∈fs\/x=m):=by
 by_cases c:A9 li=true
 ·obtain⟨fs,m,rfl⟩:=uD c;refine⟨fs,m,rfl,?_⟩;rcases zB.mp (show x∈fs++[m]from h)with h|h
  ·exact .inl h
  ·exact .inr (zi.mp h)
 ·have e:liK li= []:=by
   rcases li with _|_|_|_|l|_|_|_<;>try rfl
   rcases l with _|⟨a,_|⟨b,_|⟨c',r⟩⟩⟩<;>try rfl
   ·rcases a with _|_|_|_|l|_|_|_<;>rfl
   ·rcases a with _|_|_|_|l|_|_|_<;>first|rfl|exact absurd rfl c
   ·rcases a with _|_|_|_|l|_|_|_<;>rfl
  rw[e]at h;cases h
def Pk(h:x∈reK re):∃rows m,re= .tup [.tup rows,m]/\((∃r∈rows,x=trd r)\/x=m):=by
 by_cases c:A9 re=true
 ·obtain⟨fs,m,rfl⟩:=uD c;refine⟨fs,m,rfl,?_⟩;rcases zB.mp (show x∈fs.map trd++[m]from h)with h|h
  ·obtain⟨r,hr,e⟩:=zk.mp h;exact .inl ⟨r,hr,e.symm⟩
  ·exact .inr (zi.mp h)
 ·have e:reK re= []:=by
   rcases re with _|_|_|_|l|_|_|_<;>try rfl
   rcases l with _|⟨a,_|⟨b,_|⟨c',r⟩⟩⟩<;>try rfl
   ·rcases a with _|_|_|_|l|_|_|_<;>rfl
   ·rcases a with _|_|_|_|l|_|_|_<;>first|rfl|exact absurd rfl c
   ·rcases a with _|_|_|_|l|_|_|_<;>rfl
  rw[e]at h;cases h
def Hr(h:x∈v6 d):∃a b c li re,d= .tup [a,b,c,li,re]/\((∃fs m,li= .tup [.tup fs,m]/\(x∈fs\/x=m))\/∃rows m,re= .tup [.tup rows,m]/\((∃r∈rows,x=trd r)\/x=m)):=by
 by_cases c:E6 5 d=true
 ·obtain⟨l,rfl,hl⟩:=fK c;obtain⟨a,b,cc,li,re,rfl⟩:=LM hl;refine⟨a,b,cc,li,re,rfl,?_⟩;rcases zB.mp (show x∈liK li++reK re from h)with h|h
  ·exact .inl (Lq h)
  ·exact .inr (Pk h)
 ·have e:v6 d= []:=by
   rcases d with _|_|_|_|l|_|_|_<;>try rfl
   rcases l with _|⟨a,_|⟨b,_|⟨c',_|⟨d,_|⟨e,_|⟨f,r⟩⟩⟩⟩⟩⟩<;>first|rfl|exact absurd rfl c
  rw[e]at h;cases h
def Tg.non:Tg n k .non:=⟨by unfold AT;trivial,by rw[lwD],by rw[dpD];exact zO _,by rw[szD];decide⟩
def Qw(h:Tg n (k+1) r):Tg n k (trd r):=by
 unfold trd;split
 ·exact h.mem (ze _ (ze _ (zg ..)))
 ·exact Tg.non
def nI:li∈ [a,b,c,li,re]:=ze _ (ze _ (ze _ (zg ..)))
def wI:re∈ [a,b,c,li,re]:=ze _ (ze _ (ze _ (ze _ (zg ..))))
def Tg.kid(h:Tg n k d)(hx:x∈v6 d):∃j,k=j+2/\Tg n j x:=by
 obtain⟨a,b,c,li,re,rfl,⟨fs,m,rfl,hy⟩|⟨rows,m,rfl,hy⟩⟩:=Hr hx
 ·obtain⟨k,rfl⟩:=h.pos;have h1:=h.mem nI;obtain⟨k,rfl⟩:=h1.pos;refine⟨k,rfl,?_⟩;rcases hy with hy|rfl
  ·have h2:=h1.mem (zg ..);obtain⟨k,rfl⟩:=h2.pos;exact(h2.mem hy).up (zh _) (by lia)
  ·exact h1.mem (ze _ (zg ..))
 ·obtain⟨k,rfl⟩:=h.pos;have h1:=h.mem wI;obtain⟨k,rfl⟩:=h1.pos;refine⟨k,rfl,?_⟩;rcases hy with⟨r,hr,rfl⟩|rfl
  ·have h2:=h1.mem (zg ..);obtain⟨k,rfl⟩:=h2.pos;have h3:=h2.mem hr;exact(Qw (h3.up (zh _) (yX k))).up (zh _) (by lia)
  ·exact h1.mem (ze _ (zg ..))
theorem BW:∀ {i j k} {d},Tg n k d->k<i->k<j->chk f i d=chk f j d
|0,_,_,_,_,h,_=>absurd h (yT _)
|_+1,0,_,_,_,_,h=>absurd h (yT _)
|i+1,j+1,k,d,h,h1,h2=>by show (f d&&(v6 d).all (chk f i))= (f d&&(v6 d).all (chk f j));congr 1;rw[Jz,zH,zH];refine forall_congr' λx=>forall_congr' λhx=>?_;obtain⟨k',rfl,hk⟩:=h.kid hx;rw[BW (j:=j) hk (by lia) (by lia)]
theorem HS:∀ {n} {d},chk (λd=>f d&&g d) n d= (chk f n d&&chk g n d)
|0,_=>rfl
|n+1,d=>by
  show ((f d&&g d)&&(v6 d).all (chk (λd=>f d&&g d) n))= ((f d&&(v6 d).all (chk f n))&&(g d&&(v6 d).all (chk g n)));have e:(v6 d).all (chk (λd=>f d&&g d) n)= ((v6 d).all (chk f n)&&(v6 d).all (chk g n)):=by
   rw[show chk (λd=>f d&&g d) n=λd=>chk f n d&&chk g n d from funext λd=>HS]
   induction v6 d with
   |nil=>rfl
   |cons x l ih=>
     rw[jm,jm,jm,ih]
     cases chk f n x<;>cases chk g n x<;>cases l.all (chk f n)<;>rfl
  rw[e]
  cases f d<;>cases g d<;>cases (v6 d).all (chk f n)<;>rfl
def full(f:D->Bool)(d:D):Bool:=chk f 60 d
def NM(h:Tg n k d)(hk:k<=50):full f d= (f d&&(v6 d).all (full f)):=by show (f d&&(v6 d).all (chk f 59))= (f d&&(v6 d).all (chk f 60));congr 1;rw[Jz,zH,zH];refine forall_congr' λx=>forall_congr' λhx=>?_;obtain⟨k',rfl,Oj⟩:=h.kid hx;rw[BW (j:=60) Oj (by lia) (by lia)]
theorem SF{f:α->D}(h:∀d,p d=true->∃a,d=f a):∀ {l},l.all p=true->∃as:List α,l=as.map f
|[],_=>⟨[],rfl⟩
|d::r,q=>by rw[jm,zy]at q;obtain⟨a,rfl⟩:=h d q.1;obtain⟨as,rfl⟩:=SF h q.2;exact⟨a::as,rfl⟩
def PV(h:i7 d=true):mC d:=by rcases QF h with rfl|⟨i,rfl⟩<;>trivial
def nZ(h:NC d=true):∃ns:List (D×D),d= .tup (ns.map stD)/\∀p∈ns,FB p:=by
 rcases d with _|_|_|_|l|_|_|_<;>try (cases h;done)
 have h:(l.all D6&&A3 DC l)=true:=h;rw[zy]at h;obtain⟨ns,rfl⟩:=SF (f:=stD) (λd hd=>by obtain⟨a,b,rfl,_⟩:=MH hd;exact⟨(a,b),rfl⟩) h.1
 refine⟨ns,rfl,λp hp=>?_⟩;obtain⟨a,b,e,ha,hb⟩:=MH (zH.mp h.1 _ (zk.mpr ⟨p,hp,rfl⟩));unfold stD at e;injection e with e;injection e with e1 e;injection e with e2 _;rw[<-e1]at ha;rw[<-e2]at hb;exact⟨PV ha,PV hb,trivial⟩
def VX(h:A8 d=true):∃(w:Str) (ts:List Str),d= .tup [.str w,.tup (ts.map D.str)]:=by unfold A8 at h;rw[zy,zy]at h;obtain⟨w,l,rfl,_⟩:=oW h.1;obtain⟨ts,e⟩:=SF (λd hd=>aD hd) (l:=l) h.2.1;exact⟨w,ts,by rw[e]⟩
def kj(h:KC d=true):∃tr:List Bool,d= .tup (tr.map D.bl):=by
 rcases d with _|_|_|_|l|_|_|_<;>try (cases h;done)
 have h:(l.all B8&&A3 blD l)=true:=h;rw[zy]at h;obtain⟨tr,rfl⟩:=SF (λd hd=>vJ hd) h.1;exact⟨tr,rfl⟩
def Sd{fs:List (Str×Bool×D)}(h:A3 nmD ((fs.map fdD).map hdD)=true):(fs.map (·.1)).Nodup:=by
 have lt:∀ {l:List Str},A3 nmD (l.map D.str)=true->l.Pairwise λa b=>a.cps.toList<b.cps.toList:=by
  intro l
  induction l with
  |nil=>intro _;exact .nil
  |cons x l ih=>
    intro h;rcases l with _|⟨y,l⟩
    ·exact List.pairwise_singleton ..
    ·have h:(decide (x.cps.toList<y.cps.toList)&&A3 nmD ((y::l).map D.str))=true:=h;rw[zy]at h;have hp:=ih h.2;have hxy:=of_decide_eq_true h.1;refine yK.mpr ⟨λz hz=>?_,hp⟩;rcases zn.mp hz with rfl|hz
     ·exact hxy
     ·exact List.lt_trans hxy ((yK.mp hp).1 z hz)
 have e:(fs.map fdD).map hdD= (fs.map (·.1)).map D.str:=by rw[jF,jF];rfl
 rw[e]at h;exact(lt h).imp λ{a b} q e=>by subst e;exact Xr _ q
def cS(h:eB d=true):d= .non:=by cases d<;>first|rfl|cases h
def OQ(h:liB d=true):d= .non\/∃fs m,d= .tup [.tup fs,m]:=by
 unfold liB at h;rw[ZP]at h;rcases h with h|h
 ·exact .inl (cS h)
 ·exact .inr (uD h)
def UU{d:D}(h:reB d=true):d= .non\/∃(fs:List (Str×Bool×D)) (m:D),d= .tup [.tup (fs.map fdD),m]/\(fs.map (·.1)).Nodup:=by
 unfold reB at h;rw[ZP]at h;rcases h with h|h
 ·exact .inl (cS h)
 ·rw[zy,zy]at h;obtain⟨l,m,rfl⟩:=uD h.1;obtain⟨fs,e⟩:=SF (f:=fdD) (λd hd=>by
   obtain⟨z,k,s,rfl,_⟩:=cG hd;exact⟨(z,k,s),rfl⟩) h.2.1
  have h2:A3 nmD (l.map hdD)=true:=h.2.2;subst e;exact .inr ⟨fs,m,rfl,Sd h2⟩
def KQ(h:K2 d=true):d= .str D4\/∃ns w ts tr li re,d=mkS ns w ts tr li re/\(∀p∈ns,FB p)/\liB li=true/\reB re=true:=by
 rcases d with _|_|_|z|l|_|_|_<;>try (cases h;done)
 ·have h:(z==D4)=true:=h;rw[YC h];exact .inl rfl
 ·by_cases hl:l.length=5
  ·obtain⟨a,b,c,li,re,rfl⟩:=LM hl;have h:((NC a&&(A8 b&&KC c))&&(liB li&&reB re))=true:=h;simp only[zy]at h;obtain⟨ns,rfl,hn⟩:=nZ h.1.1;obtain⟨w,ts,rfl⟩:=VX h.1.2.1;obtain⟨tr,rfl⟩:=kj h.1.2.2;exact .inr ⟨ns,w,ts,tr,li,re,rfl,hn,h.2.1,h.2.2⟩
  ·rcases l with _|⟨a,_|⟨b,_|⟨c',_|⟨d,_|⟨e,_|⟨f,r⟩⟩⟩⟩⟩⟩<;>first|(cases h;done)|exact absurd rfl hl
theorem bU:∀ {n k} {d},Tg m k d->chk K2 n d=true->GS n d
|0,_,_,_,h=>by cases h
|n+1,k,d,ht,h=>by
  have h:(K2 d&&(v6 d).all (chk K2 n))=true:=h;rw[zy,zH]at h;have kid:∀x∈v6 d,GS n x:=λx hx=>by obtain⟨j,_,hj⟩:=ht.kid hx;exact bU hj (h.2 x hx)
  rcases KQ h.1 with rfl|⟨ns,w,ts,tr,li,re,rfl,hn,hl,hr⟩
  ·exact .inl rfl
  ·obtain⟨k,rfl⟩:=ht.pos;have b1:szD (.tup (ns.map stD))<=1000000:=(ht.mem (zg ..)).sz;have t2:=ht.mem (show D.tup [.str w,.tup (ts.map D.str)]∈_ from ze _ (zg ..));have t3:=ht.mem (show D.tup (tr.map D.bl)∈_ from ze _ (ze _ (zg ..)));have t1:=ht.mem (show D.tup (ns.map stD)∈_ from zg ..);obtain⟨k,rfl⟩:=t2.pos;have t4:=t2.mem (show D.tup (ts.map D.str)∈_ from ze _ (zg ..));have l1:=t1.len;have l3:=t3.len;have l4:=t4.len;rw[zd]at l1 l3 l4;refine .inr ⟨ns,w,ts,tr,li,re,rfl,⟨hn,by lia,λz hz=>SE (F8 t4.at' (zk.mpr ⟨z,hz,rfl⟩)),by lia,by lia,?_,?_⟩,trivial⟩
   ·rcases OQ hl with rfl|⟨fs,m,rfl⟩
    ·exact .inl rfl
    ·have t5:=ht.mem (show D.tup [.tup fs,m]∈_ from nI);refine .inr ⟨fs,m,rfl,(t5.mem (zg ..)).len,λx hx=>kid x ?_,kid m ?_⟩
     ·exact jP _ (jP _ hx)
     ·exact jP _ (zS _ (zg ..))
   ·rcases UU hr with rfl|⟨fs,m,rfl,nd⟩
    ·exact .inl rfl
    ·have t5:=ht.mem (show D.tup [.tup (fs.map fdD),m]∈_ from wI);have t6:=t5.mem (show D.tup (fs.map fdD)∈_ from zg ..);have l6:=t6.len;rw[zd]at l6;obtain⟨k,rfl⟩:=t6.pos;refine .inr ⟨fs,m,rfl,l6,nd,λf hf=>⟨?_,kid _ ?_⟩,kid m ?_⟩
     ·have t7:=t6.mem (zk.mpr ⟨f,hf,rfl⟩);exact SE (F8 t7.at' (zg ..))
     ·exact zS _ (jP _ (zk.mpr ⟨fdD f,zk.mpr ⟨f,hf,rfl⟩,rfl⟩))
     ·exact zS _ (zS _ (zg ..))
theorem QO:∀ {l},HB l=true↔∀x∈l,E2 x=true
|[]=>by simp[HB]
|d::r=>by rw[HB,zy,QO];simp
def eA:E2 (.tup l)=true↔∀x∈l,E2 x=true:=by rw[E2,QO]
mutual
theorem fJ:∀d {m},E2 d=true->dpD d<=m->T8 m d=true
| .non,m,_,_=>by cases m<;>rfl
| .bl _,m,_,_=>by cases m<;>rfl
| .int _,m,_,_=>by cases m<;>rfl
| .str _,m,_,_=>by cases m<;>rfl
| .tup l,0,_,h=>by rw[DF]at h;lia
| .tup l,m+1,h,k=>by rw[E2]at h;rw[DF]at k;exact IQ l h (by lia)
| .ref _,_,h,_=>by rw[E2]at h;cases h
| .fn _,_,h,_=>by rw[E2]at h;cases h
| .ty _,_,h,_=>by rw[E2]at h;cases h
theorem IQ:∀l {m},HB l=true->dpL l<=m->l.all (T8 m)=true
|[],_,_,_=>rfl
|d::r,m,h,k=>by rw[HB,zy]at h;rw[RN]at k;rw[jm,fJ d h.1 (zq (JH ..) k),IQ r h.2 (zq (Jr ..) k)];rfl
end
def VT(h:mC d):E2 d=true:=by rcases RK h with rfl|⟨i,rfl⟩<;>rw[E2]
theorem kD:∀ {n} {d},GS n d->E2 d=true
|0,_,h=>h.elim
|n+1,d,h=>by
  rcases h with rfl|⟨ns,w,ts,tr,li,re,rfl,h,_⟩
  ·rw[E2]
  ·have s:∀z:Str,E2 (.str z)=true:=λz=>by rw[E2]
   have b:∀k:Bool,E2 (.bl k)=true:=λz=>by rw[E2]
   have q1:E2 (.tup (ns.map stD))=true:=eA.mpr λx hx=>by
    obtain⟨p,hp,rfl⟩:=zk.mp hx;refine eA.mpr λy hy=>?_;rcases zn.mp hy with rfl|hy
    ·exact VT (h.st p hp).1
    ·rw[zi.mp hy];exact VT (h.st p hp).2.1
   have q2:E2 (.tup (ts.map D.str))=true:=eA.mpr λx hx=>by obtain⟨p,hp,rfl⟩:=zk.mp hx;exact s p
   have q3:E2 (.tup (tr.map D.bl))=true:=eA.mpr λx hx=>by obtain⟨p,hp,rfl⟩:=zk.mp hx;exact b p
   have q4:E2 li=true:=by
    rcases h.li with rfl|⟨fs,m,rfl,_,hf,hm⟩
    ·rw[E2]
    ·refine eA.mpr λy hy=>?_;rcases zn.mp hy with rfl|hy
     ·exact eA.mpr λx hx=>kD (hf x hx)
     ·rw[zi.mp hy];exact kD hm
   have q5:E2 re=true:=by
    rcases h.re with rfl|⟨fs,m,rfl,_,_,hf,hm⟩
    ·rw[E2]
    ·refine eA.mpr λy hy=>?_;rcases zn.mp hy with rfl|hy
     ·refine eA.mpr λx hx=>?_;obtain⟨f,hfm,rfl⟩:=zk.mp hx;refine eA.mpr λy hy=>?_;simp only[zn,zF,or_false]at hy;rcases hy with rfl|rfl|rfl
      ·exact s _
      ·exact b _
      ·exact kD (hf f hfm).2
     ·rw[zi.mp hy];exact kD hm
   refine eA.mpr λy hy=>?_;simp only[zn,zF,or_false]at hy;rcases hy with rfl|rfl|rfl|rfl|rfl
   ·exact q1
   ·refine eA.mpr λy hy=>?_;rcases zn.mp hy with rfl|hy
    ·exact s _
    ·rw[zi.mp hy];exact q2
   ·exact q3
   ·exact q4
   ·exact q5
def ub(hx:GS n x)(hy:GS n y)(dx:dpD x<=38)(dy:dpD y<=38):eqN 40 G x y=some (d4 x y):=by
 obtain⟨b,e⟩:=nF 38 40 x y (by decide) (fJ x (kD hx) dx) (fJ y (kD hy) dy);rw[e];congr 1;rw[Jz,TF];refine⟨λh=>?_,?_⟩
 ·subst h;exact SB.eqs _ _ _ hx.sb hy.sb e
 ·rintro rfl;rw[dD (by decide) (fJ x (kD hx) dx)]at e;exact(jd e).symm
def lO(ea:a σ G=some (.ok x,G))(eb:b σ G=some (.ok y,G))(hx:GS n x)(hy:GS n y)(dx:dpD x<=38)(dy:dpD y<=38):Ev (m9 neD a b σ) G (!d4 x y):=λQ q=>ae ea eb<| iI.mpr ⟨_,ub hx hy dx dy,q G Ap.refl⟩
def mU:GS (n+1) noS:=.inr ⟨[],wOf, [], [],.non,.non,rfl,⟨(λ_ h=>nomatch h),by decide,(λ_ h=>nomatch h),by decide,by decide,.inl rfl,.inl rfl⟩,trivial⟩
def evS:D:=mkS [(.non,.non)] ("but" :Str) [] [false,true] (.tup [.tup [],.str D4]) (.tup [.tup [],.str D4])
def iw:GS (n+2) evS:=.inr ⟨_,_,_,_,_,_,rfl,⟨(λp hp=>by rw[zi.mp hp];exact⟨trivial,trivial,trivial⟩),by decide,(λ_ h=>nomatch h),by decide,by decide,.inr ⟨[],_,rfl,by decide,(λ_ h=>nomatch h),.inl rfl⟩,.inr ⟨[],_,rfl,by decide,xa,(λ_ h=>nomatch h),.inl rfl⟩⟩,trivial⟩
def vO:dpD noS<=38:=by simp[noS,mkS,dpD,dpL]
def cj:dpD evS<=38:=by simp[evS,mkS,stD,dpD,dpL]
def OG:D->Bool
| .tup [.tup fs,_]=>fs.all λx=> !d4 x noS
|_=>true
def CH(m:D):D->Bool
| .tup [_,.bl k,s]=>if k then !d4 s noS else !d4 s m
|_=>false
def uE:D->Bool
| .tup [.tup rows,m]=>rows.all (CH m)
|_=>true
def v3(d:D):Bool:=match d with
| .tup [_,_,_,li,re]=>OG li&&(uE re&&!d4 d evS)
|_=>true
def Tp(hs:GS (n+1) f.2.2)(hm:GS (n+1) m)(ds:dpD f.2.2<=38)(sz:szD f.2.2<=1000000):Ev (QJ [fdD f,m]) G (CH m (fdD f)):=C6<| by
 obtain⟨z,k,s⟩:=f;unfold QL;refine r8 λQ q=>?_;rcases k with _|_
 ·exact QP rfl<| gL (Q2 rfl rfl (dk hs hm sz)) _ q
 ·exact ni rfl<| lO rfl rfl hs mU ds vO _ q
def mI(h:EvT (B3 t (C3 u) σ) G x)(k:x=false->∀G',Ap G G'->EvS g σ G' y):EvS (gdQ (B3 t (C3 u)) cBf g) σ G (!x&&y):=λQ q=>d8.mpr<| X3<| h _ λG' j=>by
 cases x
 ·exact⟨λh=>(nomatch h),λ_=>t8.mpr<| k rfl G' j _ λG2 j2=>q G2 (j.trans j2)⟩
 ·exact⟨λ_=>w5<| E4.mpr<| u5 (q G' j),λh=>(nomatch h)⟩
def ix2(e:f σ G=some (.ok (.tup l),G))(h:atI l i=some (.tup l'))(h':atI l' j=some a):(ixE (ixE f (cE (.int i))) (cE (.int j))) σ G=some (.ok a,G):=ix0 (ix0 e h) h'
def mT(e:b σ G=some (.ok (.tup l),G)):itW b σ G=some (.ok ⟨l,λ_=>true⟩,G):=W7<| wp_itW.mpr<| b8 e<| srcW_tup.mpr ⟨rfl,rfl⟩
def Ab:LN=o6 OF1 (o6 OF2 (o6 OF3 OF4)):=rfl
def Cy(h:GS (n+2) d)(ht:Tg m k d)(hk:k<=38):Ev (X5 [d]) G (v3 d):=C6<| by
 rw[Ab];rcases h with rfl|⟨ns,w,ts,tr,li,re,rfl,h,_⟩
 ·exact rB (iF (Ev.of rfl)) (λ_ _ _=>Ev.of rfl) λh=>(nomatch h)
 have hd:GS (n+2) (mkS ns w ts tr li re):=.inr ⟨ns,w,ts,tr,li,re,rfl,h,trivial⟩;refine rB (iF (Ev.of rfl)) (λh=>(nomatch h)) λ_ G1 j1=>?_;obtain⟨k,rfl⟩:=ht.pos;have bg:1000<=zj:=by decide
 show EvS _ _ _ (OG li&&(uE re&&!d4 (mkS ns w ts tr li re) evS));have last:∀G2,EvS OF4 ([mkS ns w ts tr li re].map some++jx (1 - [mkS ns w ts tr li re].length) none) G2 (!d4 (mkS ns w ts tr li re) evS):=λG2=>r8<| lO rfl rfl hd iw (by have:=ht.dp;lia) cj;have part2:∀G2,EvS (o6 OF3 OF4) ([mkS ns w ts tr li re].map some++jx (1 - [mkS ns w ts tr li re].length) none) G2 (uE re&&!d4 (mkS ns w ts tr li re) evS):=λG2=>by
  rcases h.re with e|⟨fs,mo,e,hl,_,hf,hm⟩
  ·subst e;exact mI (x:=false) (EvT.of rfl) λ_ G3 _=>last G3
  ·subst e;have t1:=ht.mem (show D.tup [.tup (fs.map fdD),mo]∈_ from wI);obtain⟨k,rfl⟩:=t1.pos;have t2:=t1.mem (show D.tup (fs.map fdD)∈_ from zg ..);obtain⟨k,rfl⟩:=t2.pos;have e:uE (.tup [.tup (fs.map fdD),mo])= !(true&&!(fs.map fdD).all (CH mo)):=by rw[jD,Bool.not_not];rfl
   rw[e];refine mI (C7 (EvT.of rfl) λ_ G3 j3=>rM<| C5 ?_) λ_ G3 _=>last G3;refine wD (λσ=>∃u,σ= [u,some (mkS ns w ts tr li (.tup [.tup (fs.map fdD),mo]))]) (CH mo) (mT (ix2 rfl rfl rfl)) (λ_ _=>rfl) (by rw[zd];lia) ⟨_,rfl⟩ λx hx σ G4 s j=>?_;obtain⟨u,rfl⟩:=s;obtain⟨f,hfm,rfl⟩:=zk.mp hx;have t3:=t2.mem hx;obtain⟨k,rfl⟩:=Tg.pos t3;have t4:=Tg.mem t3 (ze _ (ze _ (zg ..)));exact R6.mpr ⟨rfl,⟨_,rfl⟩,Q2 (EC rfl (ix2 rfl rfl rfl)) rfl (Tp (hf f hfm).2 hm (by have:=t4.dp;lia) t4.sz)⟩
 rcases h.li with e|⟨fs,mo,e,hl,hf,hm⟩
 ·subst e;exact mI (x:=false) (EvT.of rfl) λ_ G3 _=>part2 G3
 ·subst e;have t1:=ht.mem (show D.tup [.tup fs,mo]∈_ from nI);obtain⟨k,rfl⟩:=t1.pos;have t2:=t1.mem (show D.tup fs∈_ from zg ..);obtain⟨k,rfl⟩:=t2.pos;have e:OG (.tup [.tup fs,mo])= !(true&&!fs.all λx=> !d4 x noS):=by rw[jD,Bool.not_not];rfl
  rw[e];refine mI (C7 (EvT.of rfl) λ_ G3 j3=>rM<| C5 ?_) λ_ G3 _=>part2 G3;refine wD (λσ=>∃u,σ= [u]) (λx=> !d4 x noS) (mT (ix2 rfl rfl rfl)) (λ_ _=>rfl) (by lia) ⟨_,rfl⟩ λx hx σ G4 s j=>?_;obtain⟨u,rfl⟩:=s;exact R6.mpr ⟨rfl,⟨_,rfl⟩,lO rfl rfl (hf x hx) mU (by have:=(t2.mem hx).dp;lia) vO⟩
abbrev TT:D->Prop:=λ_=>True
def fk(h:K2 d=true)(ht:Tg m k d):d= .str D4\/∃ns w ts tr li re,d=mkS ns w ts tr li re/\LiG TT li/\ReG TT re:=by
 rcases KQ h with rfl|⟨ns,w,ts,tr,li,re,rfl,hn,hl,hr⟩
 ·exact .inl rfl
 ·obtain⟨k,rfl⟩:=ht.pos;refine .inr ⟨ns,w,ts,tr,li,re,rfl,?_,?_⟩
  ·rcases OQ hl with rfl|⟨fs,m,rfl⟩
   ·exact .inl rfl
   ·have t5:=ht.mem (show D.tup [.tup fs,m]∈_ from nI);obtain⟨k,rfl⟩:=t5.pos;exact .inr ⟨fs,m,rfl,(t5.mem (zg ..)).len,λ_ _=>trivial,trivial⟩
  ·rcases UU hr with rfl|⟨fs,m,rfl,nd⟩
   ·exact .inl rfl
   ·have t5:=ht.mem (show D.tup [.tup (fs.map fdD),m]∈_ from wI);obtain⟨k,rfl⟩:=t5.pos;have t6:=t5.mem (show D.tup (fs.map fdD)∈_ from zg ..);have l6:=t6.len;rw[zd]at l6;obtain⟨k,rfl⟩:=t6.pos;refine .inr ⟨fs,m,rfl,l6,nd,λf hf=>⟨?_,trivial⟩,trivial⟩;have t7:=t6.mem (zk.mpr ⟨f,hf,rfl⟩);exact SE (F8 t7.at' (zg ..))
def av(h:d= .str D4\/∃ns w ts tr li re,d=mkS ns w ts tr li re/\LiG TT li/\ReG TT re)(q:∀p G',Ap G G'->G.length<=p->G'[p]? =some (.lst (v6 d))->Q (.ref p) G'):Wp (V9 [d]) G Q:=by
 rcases h with rfl|⟨ns,w,ts,tr,li,re,rfl,hl,hr⟩
 ·refine K3 (show Wp (V5 [some (.str D4),none]) G _ from ?_);rw[aJ];exact Q8 (X1:= [some (.str D4),some (.ref G.length)]) rfl<| MT rfl (u5 (q _ _ Ap.one (zh _) o4))
 ·refine K3 (show Wp (V5 [some (mkS ns w ts tr li re),none]) G _ from ?_);rw[aJ];refine Q8 (X1:= [some (mkS ns w ts tr li re),some (.ref G.length)]) rfl<| Q8 (X1:= [some (mkS ns w ts tr li re),some (.ref G.length)]) rfl ?_;refine d8.mpr<| dX (Ap.one) (zh _) o4 (zO _) hl λG1 a1 e1=>d8.mpr<| bS a1 (zh _) e1 (by have:=BS hl;simpa using zq this (by decide)) hr λG2 a2 e2=>?_;exact b8 rfl (u5 (q _ _ a2 (zh _) e2))
def rZ(h:d= .str D4\/∃ns w ts tr li re,d=mkS ns w ts tr li re/\LiG TT li/\ReG TT re):szL (v6 d)<szD d:=by
 rcases h with rfl|⟨ns,w,ts,tr,li,re,rfl,hl,hr⟩
 ·show szL []<_;rw[J2];exact UJ _
 ·have h1:szL (liK li)<=szD li:=by
   rcases hl with e|⟨fs,m,e,_⟩<;>rw[e]
   ·show szL []<=_;rw[J2];exact zO _
   ·show szL (fs++[m])<=_;rw[W6,Q4,o5,o5,J2,Q4,o5,J2];lia
  have h2:szL (reK re)<=szD re:=by
   rcases hr with e|⟨fs,m,e,_⟩<;>rw[e]
   ·show szL []<=_;rw[J2];exact zO _
   ·show szL ((fs.map fdD).map trd++[m])<=_;have:=BL fs;rw[W6,Q4,o5,o5,J2,Q4,o5,J2];lia
  show szL (liK li++reK re)<szD (.tup [.tup (ns.map stD),.tup [.str w,.tup (ts.map D.str)],.tup (tr.map D.bl),li,re]);rw[W6,Q4,o5,o5,o5,o5,o5,J2];lia
def ux:WH=o6 (M3 (Q6 K0) i3) (asQ (Q6 (A1 g0)) B2 (o6 (iA ZT (o6 Z1 (o6 V2 (o6 V3 V4)))) (u9 (N0 d6 (J8 (itW x0) [none] T0 J4 (D0 X5 g0)))))):=rfl
def VQ(b:Bool)(fo:Bool)(m k:Nat)(x:Option D)(r p:Nat)(G0:DH)(fl:Fl)(G':DH):Prop:=Ap G0 G'/\((b=false/\fl= .rt (.bl false))\/(b=true/\∃u' fd',fl= .nx [x,sRf r,sRf p,u']/\G'[r]? =some (.lst fd')/\(∀d∈fd',Tg m k d/\full K2 d=true)/\fd'.length<=1100000/\fd'.all v3=fo))
theorem ES(hk:k<=38)(hp:G0.length<=p)(hr:G0.length<=r)(hpr:p≠r):∀fuel ws fd u G,Ap G0 G->G[p]? =some (.lst ws)->G[r]? =some (.lst fd)->szL ws<fuel->szL ws+fd.length<=1100000->(∀d∈ws,Tg G0.length k d)->(∀d∈fd,Tg G0.length k d)->(ws.all (full K2)=true->∀d∈fd,full K2 d=true)->
 Wp (S5 fuel ZT (o6 Z1 (o6 V2 (o6 V3 V4))) [x,sRf r,sRf p,u]) G (VQ (ws.all (full K2)) (fd.all v3&&ws.all (full v3)) G0.length k x r p G0)
 |0,ws,fd,u,G,_,_,_,hf,_,_,_,_=>absurd hf (yT _)
 |fuel+1,ws,fd,u,G,hA,e,er,hf,hb,hw,hd,hh=>by
   have bg:10000000<=zj:=by decide
   by_cases Mo:ws= []
   ·subst Mo;refine sB.mpr<| W0.mpr<| b8 rfl<| (uF e).mpr ?_;rw[if_neg (by simp)];exact⟨hA,.inr ⟨rfl,u,fd,rfl,er,λd m=>⟨hd d m,hh rfl d m⟩,by lia,by rw[xj,yr]⟩⟩
   ·obtain⟨t,q,rfl⟩:∃(t:List D) (q:D),ws=t++[q]:=⟨ws.dropLast,ws.getLast Mo,(yR Mo).symm⟩;refine sB.mpr<| W0.mpr<| b8 rfl<| (uF e).mpr ?_;rw[if_pos (by simp)];refine d8.mpr<| J5<| E8.mpr<| b8 rfl<| (O3 e).mpr<| o8.mpr<| (GM e).mpr ?_;have e1:(G.set p (.lst t))[p]? =some (.lst t):=zX (lt_of_get e);have er1:(G.set p (.lst t))[r]? =some (.lst fd):=by rw[jA hpr];exact er
    have a1:Ap G0 (G.set p (.lst t)):=hA.set hp;have hq:=hw q (by simp);have fq:full K2 q= (K2 q&&(v6 q).all (full K2)):=NM hq (by lia);have oq:full v3 q= (v3 q&&(v6 q).all (full v3)):=NM hq (by lia);have hs:szL (t++[q])=szL t+szD q:=by rw[W6,o5,J2];rfl
    rw[hs]at hf hb;have ta:(t++[q]).all (full K2)= (t.all (full K2)&&full K2 q):=by rw[Zd,jm,xj,yr]
    have oa:(t++[q]).all (full v3)= (t.all (full v3)&&full v3 q):=by rw[Zd,jm,xj,yr]
    refine d8.mpr<| X3<| rM (C5 (Q2 rfl rfl (UX (hq.at'.le a1.len) hq.zl))) _ λG2 a2=>?_;rcases hfq:K2 q with _|_
    ·refine⟨λ_=>b8 rfl ?_,λh=>(nomatch h)⟩;exact⟨a1.trans a2,.inl ⟨by rw[ta,fq,hfq,yN,jH],rfl⟩⟩
    refine⟨λh=>(nomatch h),λ_=>t8.mpr ?_⟩;have sh:=fk hfq hq;have hk:=rZ sh;have e2:=a2.at e1;have er2:=a2.at er1;refine d8.mpr<| GA.mpr<| E8.mpr<| b8 rfl<| (O3 er2).mpr<| b8 rfl<| (RF er2 (by lia)).mpr ?_;have e3:(G2.set r (.lst (fd++[q])))[p]? =some (.lst t):=by rw[jA (Ne.symm hpr)];exact e2
    have er3:(G2.set r (.lst (fd++[q])))[r]? =some (.lst (fd++[q])):=zX (lt_of_get er2);have a3:Ap G0 (G2.set r (.lst (fd++[q]))):=(a1.trans a2).set hr;refine GA.mpr<| E8.mpr<| b8 rfl<| (O3 e3).mpr<| m5<| o7 rfl rfl<| av sh λp4 G4 a4 l4 e4=>o8.mpr ?_;have e5:=a4.at e3;have er5:=a4.at er3;have Ni:=CA t;have Oa:=CA (v6 q);have ba:(t++v6 q).all (full K2)= (t++[q]).all (full K2):=by rw[ta,fq,hfq,jD,Zd]
    have fo:((fd++[q]).all v3&&(t++v6 q).all (full v3))= (fd.all v3&&(t++[q]).all (full v3)):=by
     rw[oa,oq,Zd,jm,xj,yr,Zd]
     cases fd.all v3<;>cases v3 q<;>cases t.all (full v3)<;>rfl
    refine(eJ e5 e4 (by lia)).mpr ?_;have w:=ES (x:=x) (k:=k) (by lia) hp hr hpr fuel (t++v6 q) (fd++[q]) (some q) _ ((a3.trans a4).set hp) (zX (lt_of_get e5)) (by rw[jA hpr];exact er5) (by rw[W6];lia) (by rw[W6,zv,yq];have:=UJ q;lia) (λd Od=>?_) (λd Od=>?_) (λOe d Od=>?_)
    ·rw[ba,fo]at w;exact w
    ·rcases zB.mp Od with Od|Od
     ·exact hw d (by simp[Od])
     ·obtain⟨j,ej,hj⟩:=hq.kid Od;exact hj.up (zh _) (by lia)
    ·rcases zB.mp Od with Od|Od
     ·exact hd d Od
     ·rw[zi.mp Od];exact hq
    ·rw[ba]at Oe;rcases zB.mp Od with Od|Od
     ·exact hh Oe d Od
     ·rw[zi.mp Od];rw[ta,zy]at Oe;exact Oe.2
def Bp(h:Tg G.length k d)(hk:k<=38):Ev (QI [d]) G (full K2 d&&full v3 d):=λQ q=>by
 refine K3 (show Wp (WH [some d,none,none,none]) G _ from ?_);rw[ux];have hd:=h.sz;have hs:szL [d]=szD d:=by rw[o5,J2];rfl
 refine Q8 (X1:= [some d,some (.ref G.length),none,none]) rfl<| Q8 (X1:= [some d,some (.ref G.length),some (.ref (G++[DO.lst []]).length),none]) rfl ?_;refine d8.mpr<| bH<| (ES hk (by simp) (zh _) (by simp) (szD d+1) [d] [] none _ (Ap.one.trans Ap.one) o4 (R8 o4) (by rw[hs];lia) (by rw[hs,yE];lia) (λx hx=>by rw[zi.mp hx];exact h) (λx hx=>by cases hx) (λ_ x hx=>by cases hx)).mono ?_;rintro fl G1 ⟨a1,⟨hb,rfl⟩|⟨hb,u',fd,rfl,e1,h1,hl,ho⟩⟩
 ·rw[jm,xj,yr]at hb;rw[hb,yN]at q;exact u5 (q G1 a1)
 ·rw[jm,xj,yr]at hb;rw[hb,jD]at q;have bg:10000000<=zj:=by decide
  rw[xj,jD,jm,xj,yr]at ho;rw[<-ho]at q;refine w5<| wD (λσ=>∃u,σ= [u]) v3 (W7<| wp_itW.mpr<| b8 rfl<| (aC e1).mpr ⟨rfl,rfl⟩) (λG' a=>Mz (a.at e1)) (by lia) ⟨_,rfl⟩ (λx hx σ G2 s j=>?_) _ λG2 a2=>u5 (q G2 (a1.trans a2));obtain⟨u,rfl⟩:=s;exact R6.mpr ⟨rfl,⟨_,rfl⟩,Q2 rfl rfl (Cy (bU (h1 x hx).1 (h1 x hx).2) (h1 x hx).1 hk)⟩
def okS(d:D):Bool:=full K2 d&&full v3 d
def wZ:(full λd=>K2 d&&v3 d)=okS:=funext λd=>HS
def gH(h:Tg n k d)(hk:k<=50):okS d= ((K2 d&&v3 d)&&(v6 d).all okS):=by rw[<-wZ];exact NM h hk
abbrev tl(z:Str):List Nat:=z.cps.toList
abbrev ofL(l:List Nat):Str:=⟨l.toArray⟩
def TV:Nat:=9999999999999999999999999999999999999999
def smI(i:Int):Prop:=i.natAbs<=TV
abbrev Rg:=Option Int×Option Int
def inR(p:Rg)(x:Int):Prop:=(∀a,p.1=some a->a<=x)/\∀b,p.2=some b->x<=b
def inS(l:List Rg)(x:Int):Prop:=∃p∈l,inR p x
def okR(p:Rg):Prop:=∀a b,p.1=some a->p.2=some b->a<=b
def OC(p q:Rg):Prop:=∃a b,p.2=some a/\q.1=some b/\a+1<b
def Can(l:List Rg):Prop:=(∀p∈l,okR p)/\l.Pairwise OC
def eG:inS (p::l) x↔inR p x\/inS l x:=by
 unfold inS;constructor
 ·rintro⟨q,hq,h⟩;rcases zn.mp hq with rfl|hq
  ·exact .inl h
  ·exact .inr ⟨q,hq,h⟩
 ·rintro(h|⟨q,hq,h⟩)
  ·exact⟨p,zg ..,h⟩
  ·exact⟨q,ze _ hq,h⟩
def aK:¬inS [] x:=fun⟨_,h,_⟩=>nomatch h
def bN:inS (l++m) x↔inS l x\/inS m x:=by
 unfold inS;constructor
 ·rintro⟨p,hp,h⟩;exact(zB.mp hp).elim (λk=>.inl ⟨p,k,h⟩) λk=>.inr ⟨p,k,h⟩
 ·rintro(⟨p,hp,h⟩|⟨p,hp,h⟩)
  ·exact⟨p,jP _ hp,h⟩
  ·exact⟨p,zS _ hp,h⟩
def Can.snoc(h:Can l)(ok:okR r)(c:∀p∈l,OC p r):Can (l++[r]):=
 ⟨λp hp=>(zB.mp hp).elim (h.1 p) λk=>by rw[zi.mp k];exact ok,
  ZI.mpr ⟨h.2,List.pairwise_singleton ..,λp hp q hq=>by rw[zi.mp hq];exact c p hp⟩⟩
def kle:Option Int->Option Int->Prop
|none,_=>True
|some _,none=>False
|some a,some b=>a<=b
def ut(h:kle (some a) b):∃c,b=some c/\a<=c:=match b,h with
|some c,h=>⟨c,rfl,h⟩
def FD:Option Int->Option Int->Option Int
|some a,some b=>some (max a b)
|_,_=>none
def DV(h:FD a b=some c):∃x y,a=some x/\b=some y/\x<=c/\y<=c:=match a,b,h with
|some x,some y,h=>⟨x,y,rfl,rfl,by cases h;lia,by cases h;lia⟩
def ci(k:kle e.1 p.1)(n:¬OC e p):inR (e.1,FD e.2 p.2) x↔inR e x\/inR p x:=by
 constructor
 ·rintro⟨lo,hi⟩;by_cases hx:inR e x
  ·exact .inl hx
  ·refine .inr ?_;obtain⟨c,ec,hc⟩:∃c,e.2=some c/\c<x:=jJ λz=>hx ⟨lo,λb eb=>Int.not_lt.mp λy=>z ⟨b,eb,y⟩⟩;refine⟨λd ed=>Int.not_lt.mp λy=>n ⟨c,d,ec,ed,by lia⟩,λb eb=>?_⟩;have:=hi (max c b) (by show FD e.2 p.2=_;rw[ec,eb];rfl);lia
 ·have hf:∀b,FD e.2 p.2=some b->∃c d,e.2=some c/\p.2=some d/\c<=b/\d<=b:=λb=>DV;rintro(h|h)
  ·refine⟨h.1,λb eb=>?_⟩;obtain⟨c,d,e1,e2,k1,k2⟩:=hf b eb;exact Xg (h.2 c e1) k1
  ·refine⟨λa ea=>?_,λb eb=>?_⟩
   ·rw[show e.1=some a from ea]at k;obtain⟨c,ec,hc⟩:=ut k;exact Xg hc (h.1 c ec)
   ·obtain⟨c,d,e1,e2,k1,k2⟩:=hf b eb;exact Xg (h.2 d e2) k2
structure Mg(ds Ml rest:List Rg):Prop where
 can:Can Ml
 ok:∀p∈rest,okR p
 ord:rest.Pairwise λp q=>kle p.1 q.1
 le:∀e∈Ml,∀p∈rest,kle e.1 p.1
 same:∀x,inS ds x↔inS Ml x\/inS rest x
 len:Ml.length+rest.length<=ds.length
def Mg.start(h:∀p∈ds,okR p)(pm:l.Perm ds)(o:l.Pairwise λp q=>kle p.1 q.1):Mg ds [] l:=
 ⟨⟨λ_ h=>(nomatch h),.nil⟩,λp hp=>h p (pm.mem_iff.mp hp),o,λ_ h=>(nomatch h),λx=>⟨fun⟨p,hp,k⟩=>.inr ⟨p,pm.mem_iff.mpr hp,k⟩,λz=>z.elim (λz=>absurd z aK) fun⟨p,hp,k⟩=>⟨p,pm.mem_iff.mp hp,k⟩⟩,by rw[pm.length_eq];simp⟩
def Mg.new{ds Ml rest:List Rg}(h:Mg ds Ml (p::rest))(c:∀t e,Ml=t++[e]->OC e p):Mg ds (Ml++[p]) rest:=by
 have o:=yK.mp h.ord;refine⟨h.can.snoc (h.ok p (zg ..)) λr hr=>?_,λq hq=>h.ok q (ze _ hq),o.2,λe he q hq=>?_,λx=>?_,?_⟩
 ·have Mo:Ml≠ []:=List.ne_nil_of_mem hr;obtain⟨t,e,rfl⟩:∃(t:List Rg) (e:Rg),Ml=t++[e]:=⟨_,_,(yR Mo).symm⟩;have ce:=c t e rfl;rcases zB.mp hr with k|k
  ·obtain⟨a,b,e1,e2,k1⟩:=(ZI.mp h.can.2).2.2 r k e (zi.mpr rfl);obtain⟨a',b',e3,e4,k2⟩:=ce;have:=h.can.1 e (zS _ (zi.mpr rfl)) b a' e2 e3;exact⟨a,b',e1,e4,by lia⟩
  ·rw[zi.mp k];exact ce
 ·rcases zB.mp he with k|k
  ·exact h.le e k q (ze _ hq)
  ·rw[zi.mp k];exact o.1 q hq
 ·rw[h.same x,bN,eG,eG];have n0:¬inS [] x:=aK;exact⟨λz=>z.elim (λz=>.inl (.inl z)) λz=>z.elim (λz=>.inl (.inr (.inl z))) .inr,λz=>z.elim (λz=>z.elim .inl λz=>z.elim (λz=>.inr (.inl z)) λz=>absurd z n0) λz=>.inr (.inr z)⟩
 ·have:=h.len;simp only[zM,zv,yE]at this ⊢;lia
def Mg.join{ds t rest:List Rg}(h:Mg ds (t++[e]) (p::rest))(n:¬OC e p):Mg ds (t++[(e.1,FD e.2 p.2)]) rest:=by
 have o:=yK.mp h.ord;have he:=zS t (zi.mpr (rfl:e=e));have pw:=ZI.mp h.can.2;refine⟨Can.snoc ⟨λq hq=>h.can.1 q (jP _ hq),pw.1⟩ (λa b ea eb=>?_) λr hr=>pw.2.2 r hr e (zi.mpr rfl),λq hq=>h.ok q (ze _ hq),o.2,λq hq r hr=>?_,λx=>?_,?_⟩
 ·obtain⟨c,d,e1,e2,k1,k2⟩:=DV eb;exact Xg (h.can.1 e he a c ea e1) k1
 ·rcases zB.mp hq with k|k
  ·exact h.le q (jP _ k) r (ze _ hr)
  ·rw[zi.mp k];exact h.le e he r (ze _ hr)
 ·rw[h.same x,bN,bN,eG,eG,eG,ci (h.le e he p (zg ..)) n];have n0:¬inS [] x:=aK;exact⟨λz=>z.elim (λz=>z.elim (λz=>.inl (.inl z)) λz=>z.elim (λz=>.inl (.inr (.inl (.inl z)))) λz=>absurd z n0) λz=>z.elim (λz=>.inl (.inr (.inl (.inr z)))) .inr,
   λz=>z.elim (λz=>z.elim (λz=>.inl (.inl z)) λz=>z.elim (λz=>z.elim (λz=>.inl (.inr (.inl z))) λz=>.inr (.inl z)) λz=>absurd z n0) λz=>.inr (.inr z)⟩
 ·have:=h.len;simp only[zM,zv,yE]at this ⊢;lia
def Gr.ap(h:Gr G G'):Ap G G':=by
 refine⟨G'.drop G.length,?_⟩;refine List.ext_getElem? λi=>?_;rcases Ye i G.length with c|c
 ·rw[zE c];exact h.2 i c
 ·rw[xb c,XJ];congr 1;lia
def cQ(e:G[p]? =some (.lst xs))(eq:G[q]? =some (.lst [])):Wp (neD (.ref p) (.ref q)) G Q↔Q (.bl (!xs.isEmpty)) G:=by
 have h:eqN 40 G (.ref p) (.ref q)=some xs.isEmpty:=by
  have h1:W9 G (.ref p)=some (false,xs):=by simp only[W9,e]
  have h2:W9 G (.ref q)=some (false, []):=by simp only[W9,eq]
  rw[P7];rw[h1,h2];rcases xs with _|⟨_,_⟩
  ·rfl
  ·rfl
 exact AA (show neD (.ref p) (.ref q) G=_ from by unfold neD;rw[h])
def SY(ha:a σ G=some (.ok (.ref r),G))(hb:b σ G=some (.ok (.int k),G))(e:G[r]? =some (.lst l))(hj:ixN l.length k=some j)(q:S σ (G.set r (.lst (l.set j d)))):Wp (AC a b d σ) G S:=pV.mpr (b8 ha (b8 hb ((El e hj).mpr q)))
def rD(p:Rg):D:=.tup [i8 p.1,i8 p.2]
def rsD(l:List Rg):List D:=l.map rD
section
variable{T:Str}{G:DH}{Q:DPP}
def dQ{pre rest:List Nat}(h:tl T=pre++c::rest)(hz:T.length<=zj)(q:Q (.str ⟨#[c]⟩) G):Wp (ixD (.str T) (.int (pre.length:Int))) G Q:=by
 have e:ixD (.str T) (.int (pre.length:Int))=if T.length<=zj then (do
  let c <-D3 (atI T.cps.toList (pre.length:Int))
  pure (.str ⟨#[c]⟩):M D)else M.stuck:=rfl
 rw[e,if_pos hz];refine m6.mpr<| rA.mpr ⟨c,?_,wp_pure.mpr q⟩;have hl:(tl T).length=pre.length+(c::rest).length:=by rw[h,zv]
 show atI (tl T) (pre.length:Int)=some c;unfold atI ixN;simp only[zM]at hl;rw[if_pos (by lia),if_pos (by lia)];simp only[jR,Option.bind_some,h];rw[xb (zh _),Nat.sub_self];rfl
end
def wC(e:G[p]? =some o):ckO p o G=true:=by unfold ckO;rw[e];simp
def Ks(l due:List Rg):Prop:=Can due/\∀x,inS due x↔inS l x
def Dr(G:DH)(r:Nat):Prop:=∃ns:List Nat,G[r]? =some (.lst (ns.map λn:Nat=>D.int (n:Int)))
def cnt(G:DH)(r:Nat):Nat:=match G[r]? with
|some (.lst l)=>l.length
|_=>0
def FI(e:G[r]? =some (.lst l)):cnt G r=l.length:=by unfold cnt;rw[e]
def lB(e:G'[r]? =G[r]?):cnt G' r=cnt G r:=by unfold cnt;rw[e]
structure Fd(r:Nat)(G G':DH):Prop where
 a:G.length<=G'.length
 b:(∀i,i≠r->i<G.length->G'[i]? =G[i]?)/\Dr G' r
 c:cnt G' r<=cnt G r
def Dr.lt(h:Dr G r):r<G.length:=by obtain⟨ns,hr⟩:=h;exact lt_of_get hr
def Dr.app(h:Dr G r):Dr (G++t) r:=by obtain⟨ns,hr⟩:=h;exact⟨ns,R8 hr⟩
def Fd.refl(h:Dr G r):Fd r G G:=⟨zh _,⟨λ_ _ _=>rfl,h⟩,zh _⟩
def Fd.trans(h:Fd r G G1)(k:Fd r G1 G2):Fd r G G2:=
 ⟨zq h.1 k.1,⟨λi hi hl=>by rw[k.2.1 i hi (by have:=h.1;lia),h.2.1 i hi hl],k.2.2⟩,zq k.c h.c⟩
def Fd.app(h:Dr G r):Fd r G (G++t):=⟨by simp,⟨λi _ hl=>zE hl,h.app⟩,xl (lB (zE h.lt))⟩
def Fd.at(h:Fd r G G')(hp:p≠r)(e:G[p]? =some o):G'[p]? =some o:=by rw[h.2.1 p hp (lt_of_get e)];exact e
def Dr.set(h:Dr G r)(hp:p≠r):Dr (G.set p o) r:=by obtain⟨ns,hr⟩:=h;exact⟨ns,by rw[jA hp];exact hr⟩
def rQ(h:Dr G r)(hm:0<m)(q:∀k:Int,0<=k->k<m->(cnt G r=0->k=0)->∀G',Fd r G G'->cnt G' r=cnt G r-1->Q (.int k) G'):Wp (j9 [.ref r,.int m]) G Q:=by
 have h':=h;obtain⟨ns,hr⟩:=h';have s0:([D.ref r,D.int m].map some++jx (2 - [D.ref r,D.int m].length) none:DSt)= [sRf r,some (.int m)]:=rfl;unfold j9 tL;simp only[HA,s0,d8,uC,lE,nA,y9,bC,E8,R5,o8,E4,R4,t8,zR,exists_eq_left',zJ,ji];refine⟨sz,?_⟩;have e1:=R8 (t:= [DO.lst []]) hr;rw[Vk e1 o4];refine⟨_,rfl,?_⟩
 cases ns with
 |nil=>
   simp only[xP,List.isEmpty_nil,if_true];have c0:cnt G r=0:=FI hr;refine q 0 (by lia) hm (λ_=>rfl) _ (Fd.app h) ?_;rw[lB (zE h.lt),c0]
 |cons n t=>
   simp only[zT,List.isEmpty_cons,zw,if_false];rw[O3 e1,ai e1,S9 hm];have c0:cnt G r=t.length+1:=by rw[FI hr,zd,zM]
   have c1:∀o:DO,o= .lst (t.map λn:Nat=>D.int (n:Int))->cnt ((G++[DO.lst []]).set r o) r=t.length:=λo ho=>by subst ho;rw[FI (zX (lt_of_get e1)),zd]
   refine q _ (yt _ (by lia)) (xz _ hm) (λz=>by rw[c0]at z;cases z) _ ⟨by simp,⟨λi hi hl=>?_,t,?_⟩,?_⟩ ?_
   ·rw[jA (Ne.symm hi),zE hl]
   ·rw[zX (lt_of_get e1)]
   ·rw[c0,c1 _ rfl];exact yX _
   ·rw[c0,c1 _ rfl];rfl
def T4(h:Dr G r)(hm:0<m)(q:∀k:Int,0<=k->k<m->∀G',Fd r G G'->Q (.int k) G'):Wp (j9 [.ref r,.int m]) G Q:=rQ h hm λk a b _ G' f _=>q k a b G' f
def CB(h:Dr G r)(hn:(ds.length:Int)=n)(h0:0<n)(q:∀d∈ds,∀G',Fd r G G'->Q d G'):
 Wp (j9 [.ref r,.int n]) (G++[.lst ds]) λy G2=>Wp (ixD (.ref G.length) y) G2 Q:=by
 refine T4 h.app h0 λk h3 h4 G2 f2=>?_;have Mo:G.length≠r:=by have:=h.lt;lia
 have hg:=f2.at Mo sP;rw[LA hg];obtain⟨d,hd,e⟩:=IE (l:=ds) h3 (by lia);exact⟨d,e,q d hd G2 ((Fd.app h).trans f2)⟩
def Fa:QH=o6 (M3 (F0 j9 g0 y6) i3) (o6 N1 (o6 N2 (asQ S0 m4 (o6 (C8 (T5 (A1 dA)) F5 NB) N3)))):=rfl
def F3(i:Int):Prop:= -100000000000000000000<=i/\i<=100000000000000000000
theorem qP:∀items l B v G,Dr G r->0<=l->l<B->
 Wp (L3 F5 NB (λ_=>true) items [sRf r,w,u,some (.int l),v]) G λfl G'=>Fd r G G'/\∃l' v',fl= .nx [sRf r,w,u,some (.int l'),v']/\0<=l'/\l'<B*1000 ^ items.length
 |[],l,B,v,G,h,h0,h1=>gF.mpr ⟨rfl,Fd.refl h,l,v,rfl,h0,by simpa using h1⟩
 |d::t,l,B,v,G,h,h0,h1=>by refine kE.mpr ⟨rfl,R6.mpr<| J5<| m7<| m7<| b8 rfl<| b8 rfl<| (V1 (Or.inr ⟨by lia,by lia⟩)).mpr<| o7 rfl rfl<| T4 h (by decide) λk k0 k1 G1 f1=>fB.mpr ?_⟩;refine Wp.mono (qP t (l*1000+k) (B*1000) (some d) G1 f1.2.2 (by lia) (by lia)) λfl G2 ⟨f2,l',v',e,q0,q1⟩=>⟨f1.trans f2,l',v',e,q0,?_⟩;rw[zM,Int.pow_succ,Int.mul_comm (1000 ^ _) 1000,<-Int.mul_assoc];exact q1
def VF(h:Dr G r):Wp (Q9 [.ref r]) G λx G'=>∃i,x= .int i/\F3 i/\Fd r G G':=by
 refine K3 (show Wp (QH [sRf r,none,none,none,none]) G _ from ?_);rw[Fa];refine d8.mpr<| J5<| o7 rfl rfl<| T4 h (by decide) λw w0 w1 G1 f1=>?_;refine d8.mpr<| X3<| w6<| m7<| b8 rfl<| b8 rfl<| lt_int.mpr ⟨_,rfl,λk=>?_,λk=>t8.mpr ?_⟩
 ·refine d8.mpr<| J5<| o7 rfl rfl<| T4 f1.2.2 (by decide) λk k0 k1 G2 f2=>?_;have b1:0<=k % 2:=yt _ (by lia);have b2:k % 2<2:=xz _ (by lia);refine w5<| m7<| m7<| b8 rfl<| b8 rfl<| (Z7 ⟨by decide,by decide⟩).mpr<| m7<| b8 rfl<| m7<| b8 rfl<| m7<| b8 rfl<| b8 rfl<| (S9 (by decide)).mpr<| (V1 (Or.inl ⟨by decide,by decide⟩)).mpr<| SK.mpr<| (V1 (Or.inr ⟨by lia,by lia⟩)).mpr<| u5 ⟨_,rfl,?_,f1.trans f2⟩;unfold F3;have c:k % 2=0\/k % 2=1:=by lia
  rcases c with c|c<;>rw[c]<;>constructor<;>lia
 ·have k:=of_decide_eq_false k;refine d8.mpr<| X3<| w6<| m7<| b8 rfl<| b8 rfl<| P0.mpr ⟨_,rfl,λk=>?_,λk=>t8.mpr ?_⟩
  ·simp only[nA,y9,HL,bC,U3,R5,o8,E4,R4,V0,ON (show vA 10 20 by decide),p18,TK,SK,zJ,ji,yJ,yI,zR,exists_eq_left'];refine⟨sz,rfl,CB f1.2.2 rfl (by decide) λd hd G2 f2=>u5 ?_⟩;simp only[zn,zF,or_false]at hd;rcases hd with rfl|rfl|rfl|rfl<;>exact⟨_,rfl,by unfold F3;lia,f1.trans f2⟩
  ·have k:=of_decide_eq_false k;refine d8.mpr<| J5<| b8 rfl<| d8.mpr<| fE.mpr<| fA.mpr<| b8 rfl<| (X7 ⟨by decide,by decide⟩).mpr ?_;refine Wp.mono (qP (J9 0 (6:Int).toNat) 0 1 none G1 f1.2.2 (by decide) (by decide)) λfl G2 ⟨f2,l,v,e2,q0,q1⟩=>?_;subst e2;have q1:l<1000000000000000000:=q1;refine w5<| m7<| m7<| m7<| b8 rfl<| b8 rfl<| (V1 (Or.inr ⟨by lia,by lia⟩)).mpr<| o7 rfl rfl<| T4 f2.2.2 (by decide) λk k0 k1 G3 f3=>fB.mpr<| m7<| b8 rfl<| m7<| b8 rfl<| b8 rfl<| (V1 (Or.inl ⟨by decide,by decide⟩)).mpr<| SK.mpr<| (V1 (Or.inr ⟨by lia,by lia⟩)).mpr<| u5 ⟨_,rfl,?_,(f1.trans f2).trans f3⟩;unfold F3;have c:w=6\/w=7:=by lia
   rcases c with rfl|rfl<;>constructor<;>lia
def DL'(G:DH)(q L:Nat):Prop:=∃ns:List Nat,G[q]? =some (.lst (ns.map λn:Nat=>D.int (n:Int)))/\ns.length<=L
def eK(h:DL' G q L)(hL:L<=100000)(hx:0<=x)(k:∀o,DL' (G.set q o) q (L+1)->Q .non (G.set q o)):Wp (U0 (.ref q) [.int x]) G Q:=by have bg:=big;obtain⟨ns,e,hl⟩:=h;rw[RF e (by rw[zd];lia)];refine k _ ⟨ns++[x.toNat],?_,by simp;lia⟩;rw[zX (lt_of_get e),jh];have ex:((x.toNat:Nat):Int)=x:=Int.toNat_of_nonneg hx;simp only[zT,xP,ex]
def wK(h:DL' G q L):Wp (M4 (.ref q)) G R↔R () G:=by obtain⟨ns,e,hl⟩:=h;exact O3 e
def iT:Wp (geD (.int i) (.int j)) G Q↔Q (.bl (decide (i>=j))) G:=wp_pure
def Wz(e:G[p]? =some (.rol l)):Wp (ixD (.ref p) (.int i)) G Q↔∃d,atI l i=some d/\Q d G:=by
 have h:ixD (.ref p) (.int i)= (do
  let l <-O4 p >>= DL.listOf
  D3 (atI l i)):=rfl
 rw[h];simp only[m6,O8,e,O9,DL.listOf,wp_pure,rA]
def Nk:mN=o6 (M3 (Q6 K0) i3) (o6 (C8 (T5 (A1 (U2 pE (N0 A2 g0) (cIn 80)))) B2 DB) (u9 (J3 x0 J6 (N5 (cIn 240))))):=rfl
section
variable{s:Option D}{q L:Nat}{k rest:Int}{u v:Option D}
def Fq(q:Nat)(G G':DH):Prop:=G.length<=G'.length/\∀i,i≠q->i<G.length->G'[i]? =G[i]?
def Fq.refl:Fq q G G:=⟨zh _,λ_ _ _=>rfl⟩
def Fq.trans(h:Fq q G G1)(k:Fq q G1 G2):Fq q G G2:=⟨zq h.1 k.1,λi hi hl=>by rw[k.2 i hi (by have:=h.1;lia),h.2 i hi hl]⟩
def Fq.set:Fq q G (G.set q o):=⟨by simp,λi hi hl=>by rw[jA (Ne.symm hi)]⟩
def cm(h:DL' G q L)(hL:L<=90000)(hk:0<=k/\k<100)(hr:0<=rest):
 Wp (D1 [s,sRf q,some (.int k),some (.int rest),u,v]) G λfl G'=>Fq q G G'/\DL' G' q (L+3)/\∃u',fl= .nx [s,sRf q,some (.int k),some (.int rest),u',v]:=by
 unfold D1;have m1:MA 7919 k:=Or.inl ⟨by lia,by lia⟩;have m3:MA 40692 (k+7):=Or.inl ⟨by lia,by lia⟩;simp only[d8,RB,R6,GA,E8,y9,R5,o8,E4,R4,yJ,yI,zJ,ji,zR,exists_eq_left',V1 m1,V1 m3,fB,S9 (show (0:Int)<2147483647 by decide)];have b1:0<=(rest+7919*k+3) % 2147483647:=yt _ (by lia);rw[V1 (Or.inr ⟨by decide,by decide⟩),S9 (by decide)];have b2:0<=(rest+7919*k+3) % 2147483647*48271 % 2147483647:=yt _ (by lia);have b3:(rest+7919*k+3) % 2147483647*48271 % 2147483647<2147483647:=xz _ (by lia);generalize (rest+7919*k+3) % 2147483647*48271 % 2147483647=a at *;rw[V1 (Or.inl ⟨by lia,by lia⟩),S9 (by decide)];have c1:0<=a*a % 2147483629:=yt _ (by lia);have c2:a*a % 2147483629<2147483629:=xz _ (by lia);generalize a*a % 2147483629=c at *;rw[wK h,Z7 ⟨by decide,by decide⟩,S9 (by decide)];refine eK h (by lia) (yt _ (by decide)) λo1 h1=>?_;rw[wK h1,Z7 ⟨by decide,by decide⟩,S9 (by decide)];refine eK h1 (by lia) (yt _ (by decide)) λo2 h2=>?_;rw[fB,S9 (by decide)];have d1:0<=(c+40692*(k+7)) % 2147483587:=yt _ (by lia);have d2:(c+40692*(k+7)) % 2147483587<2147483587:=xz _ (by lia);generalize (c+40692*(k+7)) % 2147483587=e at *;rw[wK h2,V1 (Or.inl ⟨by lia,by lia⟩),S9 (by decide),Z7 ⟨by decide,by decide⟩,S9 (by decide)];refine eK h2 (by lia) (yt _ (by decide)) λo3 h3=>?_;exact⟨(Fq.set.trans Fq.set).trans Fq.set,h3,_,rfl⟩
theorem bP:∀(j m:Nat) rest L G,m+j=60->0<=rest->DL' G q L->L+j<=90000->
 Wp (S5 (j+1) WT1 WB1 [s,sRf q,some (.int k),some (.int rest),u,some (.int m)]) G λfl G'=>Fq q G G'/\DL' G' q (L+j)/\∃r' m',fl= .nx [s,sRf q,some (.int k),some (.int r'),u,some (.int m')]
 |0,m,rest,L,G,hm,hr,h,hL=>by
   rw[sB];unfold WT1;have c:¬((m:Int)<60):=by lia
   simp only[iH,lE,y9,E4,R4,iT,lt_int,BE,zJ,ji,zR,exists_eq_left',c,decide_false];split
   ·simp only[zw,if_false];exact⟨Fq.refl,h,rest,m,rfl⟩
   ·simp only[zw,if_false];exact⟨Fq.refl,h,rest,m,rfl⟩
 |j+1,m,rest,L,G,hm,hr,h,hL=>by
   rw[sB];have c:((m:Int)<60):=by lia
   have et:Wp (WT1 [s,sRf q,some (.int k),some (.int rest),u,some (.int m)]) G λb G'=>b=decide (rest>=1000)/\G'=G:=by
    unfold WT1;simp only[iH,lE,y9,E4,R4,iT,lt_int,BE,zJ,ji,zR,exists_eq_left',c,decide_true];by_cases cr:rest>=1000
    ·simp[cr]
    ·simp[cr]
   refine Wp.mono et λb G1 ⟨eb,eg⟩=>?_;subst eb eg;by_cases cr:rest>=1000
   ·rw[if_pos (decide_eq_true cr)];unfold WB1;simp only[d8,RB,R6,GA,E8,y9,R5,o8,E4,R4,yJ,yI,zJ,ji,zR,exists_eq_left',wK h,S9 (show (0:Int)<1000 by decide),fB,Z7 (show (0:Int)<1000/\(1000:Int)<2 ^ 100 by decide)];refine eK h (by lia) (yt _ (by decide)) λo h1=>?_;refine Wp.mono (bP j (m+1) (rest / 1000) (L+1) (G1.set q o) (by lia) (by lia) h1 (by lia)) λfl G2 ⟨f2,h2,q2⟩=>⟨Fq.set.trans f2,?_,q2⟩;have e:L+(j+1)=L+1+j:=by lia
    rw[e];exact h2
   ·rw[if_neg (by simpa using cr)];obtain⟨ns,e,hl⟩:=h;exact⟨Fq.refl,⟨ns,e,by lia⟩,rest,m,rfl⟩
def tz{G:DH}(h:DL' G q L)(hL:L<=80000)(hr:0<=rest):
 Wp (D2 [s,sRf q,some (.int k),some (.int rest),u,v]) G λfl G'=>Fq q G G'/\DL' G' q (L+60)/\∃r' v',fl= .nx [s,sRf q,some (.int k),some (.int r'),u,v']:=by
 unfold D2;simp only[d8,RB,R6,E4,yJ,yI];refine bH (Wp.mono (bP 60 0 rest L G rfl hr h (by lia)) λfl G1 ⟨f1,h1,r',m',e⟩=>?_);exact⟨f1,h1,r',_,e⟩
def Nf{ns:List Int}(e:G[p]? =some (.rol (ns.map D.int)))(hi:i<ns.length)(hi2:i<100)(h:DL' G q L)(hL:L<=80000):
 Wp (DB [sRf p,sRf q,some (.int i),t,u,v]) G λfl G'=>Fq q G G'/\DL' G' q (L+60)/\∃t' u' v',fl= .nx [sRf p,sRf q,some (.int i),t',u',v']:=by
 have ei:atI (ns.map D.int) (i:Int)=some (.int ns[i]):=atI_nat (by rw[jl,zD hi];rfl);unfold DB;simp only[d8,RB,R6,U3,y9,R5,o8,E4,R4,yJ,yI,zJ,ji,zR,exists_eq_left',Wz e,ei,QR,uC,lE,p18,lt_int,BE];have hr:0<=(if ns[i]<0 then -ns[i]else ns[i]):=by split<;>lia
 generalize (if ns[i]<0 then -ns[i]else ns[i])=rest at *;split
 ·refine Wp.mono (cm h (by lia) ⟨by lia,by lia⟩ hr) λfl G1 ⟨f1,h1,u',ef⟩=>⟨f1,?_,_,_,_,ef⟩;obtain⟨ns,e,hl⟩:=h1;exact⟨ns,e,by lia⟩
 ·exact Wp.mono (tz h hL hr) λfl G1 ⟨f1,h1,r',v',ef⟩=>⟨f1,h1,_,_,_,ef⟩
theorem QS{ns:List Int}(Om:p≠q):∀(is:List Nat) L a t u v (G:DH),G[p]? =some (.rol (ns.map D.int))->DL' G q L->(∀i∈is,i<ns.length/\i<100)->L+60*is.length<=80000->
 Wp (L3 B2 DB (λ_=>true) (is.map λi:Nat=>D.int (i:Int)) [sRf p,sRf q,a,t,u,v]) G λfl G'=>Fq q G G'/\DL' G' q 80000/\∃a t u v,fl= .nx [sRf p,sRf q,a,t,u,v]
 |[],L,a,t,u,v,G,e,h,hi,hL=>by rw[xP,gF];obtain⟨ns,e,hl⟩:=h;exact⟨rfl,Fq.refl,⟨ns,e,by simp at hL;lia⟩,a,t,u,v,rfl⟩
 |i::r,L,a,t,u,v,G,e,h,hi,hL=>by
   simp only[zM]at hL;have hi0:=hi i (by simp);rw[zT,kE,R6];refine⟨rfl,?_⟩;simp only[yJ,yI];refine Wp.mono (Nf e hi0.1 hi0.2 h (by lia)) λfl G1 ⟨f1,h1,t',u',v',ef⟩=>?_;subst ef;have e1:G1[p]? =some (.rol (ns.map D.int)):=by rw[f1.2 p Om (lt_of_get e)];exact e
   exact Wp.mono (QS Om r (L+60) _ _ _ _ G1 e1 h1 (λj hj=>hi j (by simp[hj])) (by lia)) λfl G2 ⟨f2,q2⟩=>⟨f1.trans f2,q2⟩
end
def mR(n:Nat):J9 0 n= (zP n).map λi:Nat=>D.int (i:Int):=by unfold J9;apply yo;intro i _;simp
def oY(e:G[p]? =some (.rol l)):Wp (A2 [.ref p]) G Q↔Q (.int l.length) G:=by unfold A2;simp only[m6,O8,e,O9,wp_pure]
def Bo{p:Nat}{ns:List Int}(e:G[p]? =some (.rol (ns.map D.int)))(hn:ns.length<=63):Wp (dF [.ref p]) G λx G'=>∃r,x= .ref r/\Dr G' r/\cnt G' r<=240:=by
 unfold dF;rw[Nk];have hp:=lt_of_get e;have s0:([D.ref p].map some++jx (6 - [D.ref p].length) none:DSt)= [sRf p,none,none,none,none,none]:=rfl;simp only[HA,s0,d8,RB,R6,bC,fE,fA,U3,R5,o8,E4,R4,yJ,yI,zJ,ji,zR,exists_eq_left'];refine⟨sz,?_⟩;have e1:=R8 (t:= [DO.lst []]) e;rw[oY e1,CY];have hm:(if (80:Int)<((ns.map D.int).length:Int)then (80:Int)else ((ns.map D.int).length:Int))= (ns.length:Int):=by rw[zd,if_neg (by lia)]
 rw[hm,X7 ⟨by lia,by lia⟩,jR];show Wp (L3 B2 DB (λ_=>true) (J9 0 ns.length) [sRf p,some (.ref G.length),none,none,none,none]) (G++[DO.lst []]) _;rw[mR];refine Wp.mono (QS (show p≠G.length by lia) (zP ns.length) 0 none none none none _ e1 ⟨[],o4,by simp⟩ (λi hi=>⟨jy.mp hi,by have:=jy.mp hi;lia⟩) (by rw[zV];lia)) λfl G1 ⟨f1,h1,a,t,u,v,ef⟩=>?_;subst ef;obtain⟨ms,em,hl⟩:=h1;simp only[nA,pC,SN,qM,UL,E4,R4,zJ,ji,zR,exists_eq_left'];rw[sT em];have:=Lv (ms.map λn:Nat=>D.int (n:Int)) 240;have ee:∀M:DH,(M++[DO.lst (DL.cutD (ms.map λn:Nat=>D.int (n:Int)) none (some 240))])[M.length]? =some (.lst ((ms.take 240).map λn:Nat=>D.int (n:Int))):=λM=>by rw[o4,show (some (240:Int))=some ((240:Nat):Int)from rfl,this,List.map_take]
 exact⟨_,rfl,⟨ms.take 240,ee _⟩,by rw[FI (ee _),zd,jW];lia⟩
abbrev e30:Int:=1000000000000000000000000000000
def pD(p:Int×Int):D:=.tup [.int p.1,.int p.2]
structure E3(p:Int×Int):Prop where
 le:p.1<=p.2
 lo:F3 p.1\/p.1= -e30
 hi:F3 p.2\/p.2=e30
def p30:Wp (L6 (.int 10) (.int 30)) G Q↔Q (.int e30) G:=ON (show vA 10 30 by decide)
def t9(n:Int):Option Int:=if (if n<0 then -n else n)=e30 then none else some n
def l9(h:F3 n):t9 n=some n:=by unfold F3 at h;unfold t9;rw[if_neg (by split<;>lia)]
def BJ:t9 (-e30)=none:=by decide
def LG:t9 e30=none:=by decide
def rg(p:Int×Int):Rg:=(t9 p.1,t9 p.2)
def RS(q:Q (i8 (t9 n)) G):Wp (qF [.int n]) G Q:=by
 refine K3<| d8.mpr<| X3<| w6<| m7<| B6 rfl<| QR.mpr<| m7<| b8 rfl<| b8 rfl<| p30.mpr<| P0.mpr ⟨_,rfl,λk=>?_,λk=>?_⟩
 ·have k:=of_decide_eq_true k;rw[show t9 n=none from if_pos k]at q;exact w5<| b8 rfl<| u5 q
 ·have k:=of_decide_eq_false k;rw[show t9 n=some n from if_neg k]at q;exact t8.mpr<| w5<| b8 rfl<| u5 q
section
variable{a p:Int×Int}
def E3.ok(h:E3 p):okR (rg p):=by
 obtain⟨le,l,hh⟩:=h;intro x y ex ey;rcases l with l|l
 ·rcases hh with hh|hh
  ·rw[show (rg p).1=some p.1 from l9 l]at ex;rw[show (rg p).2=some p.2 from l9 hh]at ey
   cases ex;cases ey;exact le
  ·rw[show (rg p).2=none by unfold rg;rw[hh];exact LG]at ey
   cases ey
 ·rw[show (rg p).1=none by unfold rg;rw[l];exact BJ]at ex
  cases ex
def E3.far(ha:E3 a)(hp:E3 p):rg (a.1,if p.2>a.2 then p.2 else a.2)= ((rg a).1,FD (rg a).2 (rg p).2):=by
 have h1:=ha.hi;have h2:=hp.hi;unfold rg;refine Prod.ext rfl ?_;show t9 (if p.2>a.2 then p.2 else a.2)=FD (t9 a.2) (t9 p.2);rcases h1 with h1|h1
 ·rcases h2 with h2|h2
  ·rw[l9 h1,l9 h2,l9 (by split;exact h2;exact h1)];show _=some (max a.2 p.2);congr 1;split<;>lia
  ·unfold F3 at h1;rw[h2,if_pos (by lia),LG]
   cases t9 a.2<;>rfl
 ·rw[h1,if_neg (by unfold F3 at h2;lia),LG];rfl
def E3.join(ha:E3 a)(hp:E3 p):E3 (a.1,if p.2>a.2 then p.2 else a.2):=by
 refine⟨?_,ha.lo,?_⟩
 ·have:=ha.le;show a.1<=if p.2>a.2 then p.2 else a.2;split<;>lia
 ·show F3 (if p.2>a.2 then p.2 else a.2)\/(if p.2>a.2 then p.2 else a.2)=e30;split
  ·exact hp.hi
  ·exact ha.hi
def E3.clr(ha:E3 a)(hp:E3 p):OC (rg a) (rg p)↔¬p.1<=a.2+1:=by
 have h1:=ha.hi;have h2:=hp.lo;constructor
 ·rintro⟨x,y,ex,ey,k⟩;rcases h1 with h1|h1
  ·rcases h2 with h2|h2
   ·rw[show (rg a).2=some a.2 from l9 h1]at ex;rw[show (rg p).1=some p.1 from l9 h2]at ey
    cases ex;cases ey;lia
   ·rw[show (rg p).1=none by unfold rg;rw[h2];exact BJ]at ey
    cases ey
  ·rw[show (rg a).2=none by unfold rg;rw[h1];exact LG]at ex
   cases ex
 ·intro k;have s1:F3 a.2:=h1.resolve_right λz=>by unfold F3 at h2;lia
  have s2:F3 p.1:=h2.resolve_right λz=>by unfold F3 at s1;lia
  exact⟨a.2,p.1,l9 s1,l9 s2,by lia⟩
def E3.kle(ha:E3 a)(hp:E3 p)(h:a.1<=p.1):W.kle (rg a).1 (rg p).1:=by
 have h1:=ha.lo;have h2:=hp.lo;rcases h1 with h1|h1
 ·have s2:F3 p.1:=h2.resolve_right λz=>by unfold F3 at h1;lia
  rw[show (rg a).1=some a.1 from l9 h1,show (rg p).1=some p.1 from l9 s2];exact h
 ·rw[show (rg a).1=none by unfold rg;rw[h1];exact BJ];trivial
end
def iV:∀l:List (Int×Int),qC (l.map pD)=some l
|[]=>rfl
|p::r=>by show (match oK (pD p),qC (r.map pD) with|some a,some b=>some (a::b)|_,_=>none)=_;rw[iV r];rfl
def Iy(l:List (Int×Int)):∃l':List (Int×Int),iG l (l.map pD)=l'.map pD/\l'.Perm l/\l'.Pairwise λp q=>p.1<=q.1:=by
 obtain⟨pm,pw⟩:=IN l l.length;have lt:∀i∈i5 l l.length,i<l.length:=λi hi=>jy.mp (pm.mem_iff.mp hi);refine⟨(i5 l l.length).map λi=>l.getD i (0,0),?_,?_,?_⟩
 ·unfold iG;rw[zd,jF];refine yo λi hi=>?_;have:=lt i hi;simp[zK,this]
 ·have e:(zP l.length).map (λi=>l.getD i (0,0))=l:=by
   apply xQ
   ·simp
   ·intro i hi hj;simp[hj]
  have:=pm.map λi=>l.getD i ((0,0):Int×Int);rw[e]at this;exact this
 ·refine jv.mpr (pw.imp_of_mem λ{i j} hi hj h=>?_);unfold ltP at h;have:=mE.mp h;lia
def fY(e:G[a]? =some (.lst (l.map pD)))(hl:l.length<64)
 (q:∀l':List (Int×Int),l'.Perm l->(l'.Pairwise λp q=>p.1<=q.1)->Q (.ref G.length) (G++[.lst (l'.map pD)])):Wp (bE [.ref a]) G Q:=by
 obtain⟨l',e1,pm,pw⟩:=Iy l;refine b8 ?_ (q l' pm pw);show (do match <-O4 a with
  | .lst l=>EF l
  |_=>M.stuck:M D) G=_
 rw[M.bind_ok (show O4 a G=some (.ok (.lst (l.map pD)),G) by unfold O4;rw[e])];show EF (l.map pD) G=_;unfold EF;rw[if_pos (by rw[zd];exact hl),M.bind_ok (show D3 (qC (l.map pD)) G=some (.ok l,G) by rw[iV];rfl),e1];rfl
def leI:Wp (leD (.int i) (.int j)) G Q↔Q (.bl (decide (i<=j))) G:=wp_pure
abbrev g23:Fg:=(qA 2 (U5 B2 (U5 m4 (cA))))
abbrev g01:Fg:=(qA 2 (U5 T0 (U5 i3 (cA))))
def vh:RJ=o6 (M3 (Q6 K0) i3) (o6 (C8 (itW (N0 bE g0)) g23 LB) (u9 (N0 Z9 (J8 (itW x0) [none,none] g01 J4 LE)))):=rfl
structure MI(ds Ml rest:List (Int×Int)):Prop where
 mg:Mg (ds.map rg) (Ml.map rg) (rest.map rg)
 ok:∀p∈Ml,E3 p
 ok2:∀p∈rest,E3 p
def pI(l:List (Int×Int))(p:Int×Int):(l++[p]).map rg=l.map rg++[rg p]:=jh ..
section
variable{ds:List (Int×Int)}{c:Nat}{a0:Option D}
abbrev lS(a0:Option D)(c:Nat)(p:Int×Int):DSt:= [a0,sRf c,some (.int p.1),some (.int p.2)]
def rY{Ml rest:List (Int×Int)}(M:MI ds Ml (p::rest))(e:G[c]? =some (.lst (Ml.map pD)))(hl:ds.length<10000):
 Wp (LB (lS a0 c p)) G λfl G'=>fl= .nx (lS a0 c p)/\∃Ma,MI ds Ma rest/\G.length<=G'.length/\(∀i,i≠c->i<G.length->G'[i]? =G[i]?)/\G'[c]? =some (.lst (Ma.map pD)):=by
 have bg:=big;have okp:=M.ok2 p (zg ..);have ln:=M.mg.len;simp only[zT,zM,zd]at ln;have hG:(G++[DO.lst []])[c]? =some (.lst (Ml.map pD)):=R8 e;have hc:=lt_of_get e;have fr:∀ {o:DO} i,i≠c->i<G.length->((G++[DO.lst []]).set c o)[i]? =G[i]? :=λi hi h=>by rw[jA (Ne.symm hi),zE h]
 have new:(∀t e,Ml=t++[e]->OC (rg e) (rg p))->Wp ((d5 (mtE M4 U0 x0 (A1 (H0 C0 C1)))) (lS a0 c p)) (G++[.lst []]) λfl G'=>fl= .nx (lS a0 c p)/\∃Ma,MI ds Ma rest/\G.length<=G'.length/\(∀i,i≠c->i<G.length->G'[i]? =G[i]?)/\G'[c]? =some (.lst (Ma.map pD)):=λhcl=>by
  refine GA.mpr<| E8.mpr<| b8 rfl<| (O3 hG).mpr<| b8 rfl<| (RF hG (by rw[zd];lia)).mpr ⟨rfl,Ml++[p],⟨?_,λq hq=>(zB.mp hq).elim (M.ok q) λz=>by rw[zi.mp z];exact okp,λq hq=>M.ok2 q (ze _ hq)⟩,by simp,fr,?_⟩
  ·rw[pI];refine M.mg.new λt x z=>?_;have Mo:Ml≠ []:=by rintro rfl;cases t<;>cases z
   obtain⟨t',x',rfl⟩:∃(t:List (Int×Int)) (x:Int×Int),Ml=t++[x]:=⟨_,_,(yR Mo).symm⟩;rw[pI]at z;obtain⟨_,h2⟩:=YM z rfl;rw[<-(yw h2).1];exact hcl t' x' rfl
  ·rw[zX (lt_of_get hG),jh];rfl
 refine X3<| qE<| w6<| m7<| b8 rfl<| b8 rfl<| (cQ hG o4).mpr ⟨_,rfl,λh=>?_,λh=>⟨λz=>(nomatch z),λ_=>new λt x z=>?_⟩⟩
 ·have Mo:Ml≠ []:=by rintro rfl;cases h
  clear h;obtain⟨t,x,rfl⟩:∃(t:List (Int×Int)) (x:Int×Int),Ml=t++[x]:=⟨_,_,(yR Mo).symm⟩;have okx:=M.ok x (zS _ (zi.mpr rfl));have e':=hG;rw[jh]at e';have ix:∀ {Q:DPP},Q (pD x) (G++[.lst []])->Wp (m9 ixD x0 (unE L7 B0) (lS a0 c p)) (G++[.lst []]) Q:=λq=>m7<| b8 rfl<| b8 rfl<| (LA e').mpr ⟨_,Di _ _,q⟩;have ix1:∀ {Q:DPP},Q (.int x.2) (G++[.lst []])->Wp (m9 ixD (ixE x0 (unE L7 B0)) B0 (lS a0 c p)) (G++[.lst []]) Q:=λq=>m7<| ix<| b8 rfl<| (ix_tup).mpr ⟨_,rfl,q⟩;refine w6<| m7<| b8 rfl<| m7<| ix1<| b8 rfl<| fB.mpr<| leI.mpr ⟨_,rfl,λh=>?_,λh=>new λt' x' z=>?_⟩
  ·have nc:¬OC (rg x) (rg p):=λk=>(okx.clr okp).mp k (of_decide_eq_true h);refine RB.mpr<| R7.mpr<| m5<| m7<| ix<| b8 rfl<| (ix_tup).mpr ⟨.int x.1,rfl,m5<| O2<| m5<| ix1<| b8 rfl<| b8 rfl<| o8.mpr ⟨sz,?_⟩⟩;refine SY rfl rfl e' (j:=(t.map pD).length) ?_ ⟨rfl,t++[(x.1,if p.2>x.2 then p.2 else x.2)],⟨?_,λq hq=>(zB.mp hq).elim (λz=>M.ok q (jP _ z)) λz=>by rw[zi.mp z];exact okx.join okp,λq hq=>M.ok2 q (ze _ hq)⟩,by simp,fr,?_⟩
   ·unfold ixN;rw[if_neg (by lia),if_pos (by simp;lia)];congr 1;simp;lia
   ·rw[pI,okx.far okp];refine Mg.join ?_ nc;rw[<-pI];exact M.mg
   ·rw[zX (lt_of_get hG),jh,List.set_append_right _ _ (zh _),Nat.sub_self];rfl
  ·obtain⟨rfl,h2⟩:=YM z rfl
   cases h2
   exact(okx.clr okp).mpr (of_decide_eq_false h)
 ·rw[z]at h
  cases t<;>cases h
theorem HU(hq:q≠c):∀rest Ml u v G,MI ds Ml rest->G[c]? =some (.lst (Ml.map pD))->G[q]? =some (.lst L)->ds.length<10000->
 Wp (L3 g23 LB (ckO q (.lst L)) (rest.map pD) [a0,sRf c,u,v]) G λfl G'=>(∃u v,fl= .nx [a0,sRf c,u,v])/\∃Ma,MI ds Ma []/\G'[c]? =some (.lst (Ma.map pD))/\G.length<=G'.length/\∀i,i≠c->i<G.length->G'[i]? =G[i]?
 |[],Ml,u,v,G,M,e,eq,hl=>gF.mpr ⟨wC eq,⟨u,v,rfl⟩,Ml,M,e,zh _,λ_ _ _=>rfl⟩
 |p::r,Ml,u,v,G,M,e,eq,hl=>by refine kE.mpr ⟨wC eq,b8 rfl<| (rY M e hl).mono ?_⟩;rintro _ G1 ⟨rfl,Ma,M',l1,f1,e1⟩;refine(HU hq r Ma _ _ _ M' e1 (by rw[f1 q hq (lt_of_get eq)];exact eq) hl).mono ?_;rintro _ G2 ⟨⟨u,v,rfl⟩,acc2,M2,e2,l2,f2⟩;exact⟨⟨u,v,rfl⟩,acc2,M2,e2,by lia,λi hi h=>by rw[f2 i hi (by lia),f1 i hi h]⟩
end
theorem UN{mk:α->D×D}{e:Fe}{f:α->D}{G:DH}(Mn:ck G=true):∀(l:List α) u v,(∀x∈l,e [some (mk x).1,some (mk x).2] G=some (.ok (f x),G))->K7 g01 J4 e ck (l.map λx=>.tup [(mk x).1,(mk x).2]) [u,v] G=some (.ok (l.map f),G)
|[],u,v,h=>W7 (Z4.mpr ⟨Mn,rfl,rfl⟩)
| x :: r, u, v, h => W7 (Z6.mpr ⟨Mn, b8 rfl <| b8 rfl <| by
   rw[if_pos rfl];exact b8 (h x (zg ..))<| b8 (UN Mn r _ _ λy hy=>h y (ze _ hy)) ⟨rfl,rfl⟩⟩)
def Ej:LE [some (.int p.1),some (.int p.2)] G=some (.ok (rD (rg p)),G):=
 W7<| R7.mpr<| m5<| o7 rfl rfl<| RS<| m5<| o7 rfl rfl<| RS<| o8.mpr ⟨sz,rfl,rfl⟩
def gh{l:List (Int×Int)}(ok:∀p∈l,E3 p)(e:G[a]? =some (.lst (l.map pD)))(hl:l.length<64):
 Wp (sG [.ref a]) G λx G'=>∃due,x= .tup (rsD due)/\Ks (l.map rg) due/\due.length<=l.length/\(∀r∈due,∃p,E3 p/\r=rg p)/\Ap G G':=by
 refine K3 (show Wp (RJ [sRf a,none,none,none]) G _ from ?_);rw[vh];refine Q8 (X1:= [sRf a,some (.ref G.length),none,none]) rfl<| d8.mpr<| fE.mpr<| wp_itW.mpr<| B6 rfl<| fY (R8 e) hl λl' pm pw=>?_;have Mo:(G++[DO.lst []]).length≠G.length:=by simp
 have st:MI l [] l':=by refine⟨Mg.start (λr hr=>?_) (pm.map rg) (jv.mpr (pw.imp_of_mem λhi hj h=>(ok _ (pm.mem_iff.mp hi)).kle (ok _ (pm.mem_iff.mp hj)) h)),λ_ z=>(nomatch z),λp hp=>ok p (pm.mem_iff.mp hp)⟩;obtain⟨p,hp,rfl⟩:=zk.mp hr;exact(ok p hp).ok
 refine(aC o4).mpr<| (HU Mo l' [] none none _ st (R8 o4) o4 (by lia)).mono ?_;rintro _ G1 ⟨⟨u,v,rfl⟩,Ml,M,e1,l1,f1⟩;have ml:=M.mg.len;simp only[xP,zd,yE]at ml;refine w5<| O2<| m5<| wp_comp.mpr<| wp_itW.mpr<| b8 rfl<| (aC e1).mpr ⟨?_,b8 (UN (mk:=λp:Int×Int=>(.int p.1,.int p.2)) (wC e1) Ml none none λp _=>Ej)<| o8.mpr<| (eD o4).mpr<| u5 ⟨Ml.map rg,?_,⟨M.mg.can,λx=>?_⟩,by rw[zd];exact ml,λr hr=>?_,Gr.ap ⟨?_,λi hi=>?_⟩⟩⟩
 ·have:(64:Nat)<=zj:=by decide
  rw[zd];lia
 ·unfold rsD;rw[jF];rfl
 ·rw[M.mg.same x];exact⟨.inl,λz=>z.elim id λz=>absurd z aK⟩
 ·obtain⟨p,hp,rfl⟩:=zk.mp hr;exact⟨p,M.ok p hp,rfl⟩
 ·simp only[zv]at l1 ⊢;lia
 ·rw[zE (by simp at l1;lia),f1 i (by lia) (by simp;lia),Yz,zE hi]
def smR(r:Rg):Prop:=(∀a,r.1=some a->smI a)/\∀b,r.2=some b->smI b
def FR(h:F3 i):smI i:=by unfold F3 at h;unfold smI TV;lia
def E3.sm(h:E3 p):smR (rg p):=by
 refine⟨λa e=>?_,λb e=>?_⟩
 ·rcases h.lo with k|k
  ·rw[show (rg p).1=some p.1 from l9 k]at e
   cases e;exact FR k
  ·rw[show (rg p).1=none by unfold rg;rw[k];exact BJ]at e
   cases e
 ·rcases h.hi with k|k
  ·rw[show (rg p).2=some p.2 from l9 k]at e
   cases e;exact FR k
  ·rw[show (rg p).2=none by unfold rg;rw[k];exact LG]at e
   cases e
def Tx(z:Str):Prop:=g9 z=true/\z.length<=40
def Ris(s:List Str):Prop:=s.Pairwise λa b=>txB a b=true
def KY(h1:txB a b=true)(h2:txB b c=true):txB a c=true:=by have:= @AE ((a.length:Int),a) ((b.length:Int),b) ((c.length:Int),c);unfold S2 at this;unfold txB at *;simp only[Int.ofNat_inj,Int.ofNat_lt]at this;exact this h1 h2
def tV(a:Str):txB a a=false:=by unfold txB;rw[if_pos rfl,decide_eq_false (Xr _)]
def IJ(a b:Str):txB a b=S2 ((a.length:Int),a) ((b.length:Int),b):=by unfold txB S2;simp only[Int.ofNat_inj,Int.ofNat_lt]
abbrev wrd(b:Bool):Str:=if b then wOf else fF
def F6(b:Bool)(s:List Str):D:=.tup [.str (wrd b),.tup (s.map D.str)]
theorem US:∀s:List Str,tB tF (s.map λz=>uB (.str z))=some (s.map λz=>((z.length:Int),z))
|[]=>rfl
|a::r=>by simp only[zT,tB,US r];rfl
def Iw(nd:s.Nodup):∃m,IB (s.map λz=>((z.length:Int),z)) (s.map D.str)=m.map D.str/\Ris m/\m.Perm s:=by
 have hz:(s.map λz=>(((z.length:Int),z):Int×Str)).zip (s.map D.str)=s.map λz=>(((z.length:Int),z),D.str z):=by rw[List.zip_map']
 have nd2:(s.map λz=>(((z.length:Int),z):Int×Str)).Nodup:=by rw[List.Nodup,jv];exact nd.imp λ{a b} h e=>h (xY e).2
 let m:=s.mergeSort λa b=> !txB b a
 have hp:m.Perm s:=jL _ _;have hs:m.Pairwise λa b=>(!txB b a)=true:=xq (λa b c h1 h2=>by
  simp only[Zo]at *;refine yP.mpr λh=>?_;by_cases e:a=b
  ·subst e;rw[h]at h2;cases h2
  ·rw[IJ]at h h1 h2;have:=AE h (gG (λz=>e (xY z).2.symm) h1);rw[this]at h2;cases h2) (λa b=>by
  by_cases e:a=b
  ·subst e;rw[tV];rfl
  ·cases q:txB b a with
   |false=>rfl
   |true=>
     have:txB a b=false:=by refine yP.mpr λh=>?_;have:=KY q h;rw[tV]at this;cases this
     rw[this];rfl) _
 refine⟨m,?_,?_,hp⟩
 ·have e:=fT nd2 (z:=m.map λz=>(((z.length:Int),z),D.str z)) (by rw[hz];exact hp.map _) (by
   rw[jv];refine hs.imp λ{a b} h=>?_;unfold eC;rw[<-IJ];exact h)
  rw[<-e,jF];rfl
 ·have ndm:m.Nodup:=hp.nodup_iff.mpr nd;have:m.Pairwise λa b=>(!txB b a)=true/\a≠b:=JR hs ndm;refine this.imp λ{a b} h=>?_;have h1:=h.1;simp only[Zo]at h1;rw[IJ]at h1 ⊢;exact gG (λz=>h.2 (xY z).2.symm) h1
def inT(b:Bool)(s:List Str)(z:Str):Prop:=if b then z∈s else z∉s
structure Rw(s:List Str):Prop where
 ris:Ris s
 tx:∀z∈s,Tx z
 len:s.length<64
structure PS where
 ns:List Rg
 b:Bool
 ts:List Str
 f:Bool
 t:Bool
structure OkP(s:PS):Prop where
 can:Can s.ns
 rw:Rw s.ts
structure AllP(L:List PS)(m:PS):Prop where
 ok:OkP m
 ns:∀x,inS m.ns x↔∃s∈L,inS s.ns x
 b:m.b=L.all (·.b)
 ts:∀z,inT m.b m.ts z↔∃s∈L,inT s.b s.ts z
 f:m.f=L.any (·.f)
 t:m.t=L.any (·.t)
def TxL(z:Str):Prop:=(∀c∈tl z,97<=c/\c<=122)/\z.length<=40
theorem ER(Mn:ck G=true):∀(l:List α) u,(∀x∈l,e [some (mk x)] G=some (.ok (f x),G))->K7 T0 J4 e ck (l.map mk) [u] G=some (.ok (l.map f),G)
|[],u,h=>W7 (Z4.mpr ⟨Mn,rfl,rfl⟩)
| x :: r, u, h => W7 (Z6.mpr ⟨Mn, b8 rfl <| b8 rfl <| by
   rw[if_pos rfl];exact b8 (h x (zg ..))<| b8 (ER Mn r _ λy hy=>h y (ze _ hy)) ⟨rfl,rfl⟩⟩)
def aR(h:TxL z):Tx z:=⟨by
 unfold g9;rw[zH];intro c hc;have:=h.1 c hc;unfold BG;simp only[decide_eq_true_eq,zy];exact this,h.2⟩
def PDx:Nat->D->Prop
|0,_=>False
|n+1,d=>d= .non\/(∃k,d= .bl k)\/(∃i,d= .int i)\/(∃z,d= .str z)\/∃l,d= .tup l/\l.length<=1000/\∀x∈l,PDx n x
abbrev abc:Str:= "abcdefghijklmnopqrstuvwxyz"
def eV:∀n<26,tl abc= (tl abc).take n++(97+n)::(tl abc).drop (n+1)/\((tl abc).take n).length=n:=by decide
def ud(h0:0<=k)(h1:k<26)(q:∀c,97<=c->c<=122->Q (.str ⟨#[c]⟩) G):Wp (ixD (.str abc) (.int k)) G Q:=by obtain⟨n,rfl⟩:=yb h0;obtain⟨e,l⟩:=eV n (by lia);have:=dQ e (by decide) (q _ (by lia) (by lia));rw[l]at this;exact this
def Lt(z:Str):Prop:=∀c∈tl z,97<=c/\c<=122
def Lt.snoc(h:Lt z)(h0:97<=c)(h1:c<=122):Lt (z++⟨#[c]⟩):=λx hx=>by
 have e:tl (z++⟨#[c]⟩)=tl z++[c]:=ZQ;rw[e]at hx;rcases zB.mp hx with k|k
 ·exact h x k
 ·rw[zi.mp k];exact⟨h0,h1⟩
def Ai:KI=o6 (M3 (F0 j9 g0 dA) i3) (o6 woA (asQ (F0 j9 g0 Q1) m4 (o6 woB woR))):=rfl
section
variable{r:Nat}{a b c:Option D}
theorem IT:∀items z u G,Dr G r->Lt z->z.length+items.length<=40->
 Wp (L3 L4 woL (λ_=>true) items [sRf r,a,b,c,some (.str z),u]) G λfl G'=>Fd r G G'/\∃z' u',fl= .nx [sRf r,a,b,c,some (.str z'),u']/\TxL z'
 |[],z,u,G,h,hz,hl=>gF.mpr ⟨rfl,Fd.refl h,z,u,rfl,hz,by simp at hl;lia⟩
 |d::t,z,u,G,h,hz,hl=>by have bg:=big;simp only[zM]at hl;refine kE.mpr ⟨rfl,R6.mpr<| J5<| m7<| b8 rfl<| m7<| b8 rfl<| o7 rfl rfl<| T4 h (by decide) λk k0 k1 G1 f1=>ud k0 k1 λq q0 q1=>(rJ (by show z.length+1<=_;lia)).mpr ?_⟩;refine(IT t (z++⟨#[q]⟩) (some d) G1 f1.2.2 (hz.snoc q0 q1) (by rw[Str.length_append];show z.length+1+_<=_;lia)).mono ?_;rintro fl G2 ⟨f2,h2⟩;exact⟨f1.trans f2,h2⟩
def md(h:Dr G r):Wp (woA [sRf r,some (.int w),none,none,none,none]) G λfl G'=>Fd r G G'/\((∃z,fl= .rt (.str z)/\TxL z)\/fl= .nx [sRf r,some (.int w),none,none,none,none]):=by
 have hr:=h.lt;refine X3<| w6<| m7<| b8 rfl<| b8 rfl<| P0.mpr ⟨_,rfl,λ_=>?_,λ_=>t8.mpr ⟨Fd.refl h,.inr rfl⟩⟩;refine d8.mpr<| J5<| b8 rfl ?_;refine d8.mpr<| J5<| m7<| b8 rfl<| b8 (a:=.ref (G++[DO.lst (Xq D.str ["any", "nothing", "number", "text", "truth", "true", "false", "or", "but", "in", "only", "wish"])]).length) (G':=G++[.lst (Xq D.str ["any", "nothing", "number", "text", "truth", "true", "false", "or", "but", "in", "only", "wish"])]++[.lst (Xq D.str ["numbers", "texts", "anyone", "orb"])]) rfl ?_;refine(uK (R8 o4) o4 (by decide)).mpr ?_;generalize hL:Xq D.str ["any", "nothing", "number", "text", "truth", "true", "false", "or", "but", "in", "only", "wish"]=L;generalize hM:Xq D.str ["numbers", "texts", "anyone", "orb"]=M;refine w5<| m7<| b8 rfl<| o7 rfl rfl<| T4 h.app.app.app (by decide) λk k0 k1 G1 f1=>?_;have e1:=f1.at (by simp;lia) o4;have fd:=((Fd.app h).trans ((Fd.app h.app).trans (Fd.app h.app.app))).trans f1;obtain⟨d,hd,e⟩:=IE (l:=L++M) k0 (by subst hL hM;simp;lia);refine(LA e1).mpr ⟨d,e,fd,.inl ?_⟩;have tx:∀z∈(["any", "nothing", "number", "text", "truth", "true", "false", "or", "but", "in", "only", "wish", "numbers", "texts", "anyone", "orb"]:List Str),(∀c∈tl z,97<=c/\c<=122)/\z.length<=40:=by decide +kernel
 subst hL hM;rw[<-jh]at hd;obtain⟨z,hz,rfl⟩:=zk.mp hd;exact⟨z,rfl,tx z hz⟩
def KS(h:Dr G r):Wp (oF [.ref r]) G λx G'=>∃z,x= .str z/\TxL z/\Fd r G G':=by
 refine K3 (show Wp (KI [sRf r,none,none,none,none,none]) G _ from ?_);rw[Ai];refine d8.mpr<| J5<| o7 rfl rfl<| T4 h (by decide) λw w0 w1 G1 f1=>?_;refine d8.mpr<| (md f1.2.2).mono ?_;rintro fl G2 ⟨f2,k⟩;rcases k with⟨z,rfl,hz⟩|rfl
 ·exact u5 ⟨z,rfl,hz,f1.trans f2⟩
 have key:∀(m:Int) (G4:DH),0<=m->m<31->Fd r G G4->Wp (woR [sRf r,some (.int w),none,some (.int m),none,none]) G4 (PB λx G'=>∃z,x= .str z/\TxL z/\Fd r G G'):=by
  intro m G4 m0 m1 f4;refine d8.mpr<| J5<| b8 rfl<| d8.mpr<| fE.mpr<| fA.mpr<| b8 rfl<| (X7 ⟨by lia,by lia⟩).mpr<| (IT (J9 0 m.toNat) "" none G4 f4.2.2 (λ_ z=>nomatch z) ?_).mono ?_
  ·unfold J9;rw[zd,zV,show (("" :Str).length)=0 from rfl];lia
  ·rintro fl G5 ⟨f5,z,u,rfl,hz⟩;exact w5<| b8 rfl<| u5 ⟨z,rfl,hz,f4.trans f5⟩
 refine d8.mpr<| J5<| o7 rfl rfl<| T4 f2.2.2 (by decide) λk k0 k1 G3 f3=>?_;refine d8.mpr<| X3<| w6<| m7<| b8 rfl<| b8 rfl<| P0.mpr ⟨_,rfl,λ_=>?_,λ_=>t8.mpr<| key k G3 k0 (by lia) ((f1.trans f2).trans f3)⟩;refine J5<| o7 rfl rfl<| T4 f3.2.2 (by decide) λm m0 m1 G4 f4=>key m G4 m0 m1 (((f1.trans f2).trans f3).trans f4)
end
def prL(z:Str):Int×Str:=((z.length:Int),z)
theorem NQ:∀l us:List (Int×Str),(l.foldl ddQ us).length<=us.length+l.length
|[],us=>zh _
|q::l,us=>by
  have:=NQ l (ddQ us q);have h:(ddQ us q).length<=us.length+1:=by
   unfold ddQ;split
   ·lia
   ·rw[zv];exact zh _
  rw[xi,zM];lia
def Nv(ws:List Str):∃m:List Str,IB ((ws.map prL).foldl ddQ []) (((ws.map prL).foldl ddQ []).map qD)=m.map (λz=>.tup [.int z.length,.str z])/\Ris m/\(∀z,z∈m↔z∈ws)/\m.length<=ws.length:=by
 have nd:=kN (ws.map prL) [] xa;have mem:=HW (ws.map prL) [];have len:=NQ (ws.map prL) [];generalize (ws.map prL).foldl ddQ []=us at nd mem len;have hu:∀q∈us,q=prL q.2:=λq hq=>by
  rcases (mem q).mp hq with k|k
  ·cases k
  ·obtain⟨z,_,rfl⟩:=zk.mp k;rfl
 have e0:us= (us.map (·.2)).map prL:=by
  rw[jF]
  conv=>lhs;rw[<-Js us]
  exact yo λq hq=>hu q hq
 have nd0:(us.map (·.2)).Nodup:=by rw[e0]at nd;exact(jv.mp nd).imp λh z=>h (by rw[z])
 obtain⟨m,_,r,p⟩:=Iw nd0;have hp:(m.map prL).Perm us:=by rw[e0];exact p.map _
 have pw:(m.map prL).Pairwise λx y=>S2 x y=true:=jv.mpr (r.imp λ{a b} h=>by rw[IJ]at h;exact h);refine⟨m,?_,r,λz=>?_,?_⟩
 ·rw[<-IW nd hp pw,jF];rfl
 ·rw[p.mem_iff,zk];constructor
  ·rintro⟨q,hq,rfl⟩;rcases (mem q).mp hq with k|k
   ·cases k
   ·obtain⟨z,hz,rfl⟩:=zk.mp k;exact hz
  ·exact λhz=>⟨prL z,(mem _).mpr (.inr (zk.mpr ⟨z,hz,rfl⟩)),rfl⟩
 ·rw[p.length_eq,zd];rw[zd]at len;simpa using len
def Dq:UI=u9 (N0 Z9 (J8 (itW (gK rkC)) [none,none] g01 J4 x0)):=rfl
def Lh{ws:List Str}(e:G[c]? =some (.lst (ws.map D.str)))(tx:∀z∈ws,TxL z)(hl:ws.length<=6)(q:∀m G',Ris m->(∀z,z∈m↔z∈ws)->m.length<=6->Ap G G'->Q (.tup (m.map D.str)) G'):Wp (cH [.ref c]) G Q:=by
 have bg:=big;refine K3 (show Wp (UI [sRf c]) G _ from ?_);rw[Dq];obtain⟨m,em,r,mm,lm⟩:=Nv ws;have ea:rkC [sRf c] G=some (.ok (.ref G.length),G++[.lst (ws.map λz=>.tup [.int z.length,.str z])]):=by
  suffices w:Wp (rkC [sRf c]) G λx G'=>x= .ref G.length/\G'=G++[.lst (ws.map λz=>.tup [.int z.length,.str z])] by
   obtain⟨_,_,w,rfl,rfl⟩:=w;exact w
  refine wp_comp.mpr<| wp_itW.mpr<| b8 rfl<| (aC e).mpr ⟨by rw[zd];lia,?_⟩;refine b8 (ER (wC e) ws none λz hz=>W7<| R7.mpr<| m5<| B6 rfl<| (fH (zq (tx z hz).2 (by lia))).mpr<| b8 rfl ⟨sz,rfl,rfl⟩) ⟨rfl,rfl⟩
 refine w5<| O2<| m5<| wp_comp.mpr<| wp_itW.mpr<| Lb (qs:=ws.map prL) ea o4 (US ws) (by rw[zd];lia) ?_;rw[em];refine(aC o4).mpr ⟨by rw[zd];lia,b8 (UN (mk:=λz:Str=>(.int z.length,.str z)) (wC o4) m none none λz _=>rfl)<| o8.mpr<| (eD o4).mpr<| u5<| q m _ r mm (by lia) ((Ap.one.trans Ap.one).trans Ap.one)⟩
def Vx:bI=o6 nuM (o6 nuS (asQ (Q6 K0) m4 (o6 (C8 (T5 (A1 x0)) F5 nuB) (asQ (F0 j9 g0 y6) L4 (o6 nuL (o6 nuH (o6 nuA (u9 (D0 sG C1))))))))):=rfl
section
variable{r:Nat}
theorem AS:∀items u G,Dr G r->
 Wp (K7 T0 J4 nuE (λ_=>true) items [u,sRf r]) G λys G'=>∃ns:List Int,ys=ns.map D.int/\(∀n∈ns,F3 n)/\ns.length=items.length/\Fd r G G'
 |[],u,G,h=>Z4.mpr ⟨rfl, [],rfl,λ_ z=>(nomatch z),rfl,Fd.refl h⟩
 |d::t,u,G,h=>by refine Z6.mpr ⟨rfl,b8 rfl<| b8 rfl ?_⟩;rw[if_pos rfl];refine o7 rfl rfl<| (VF h).mono ?_;rintro _ G1 ⟨i,rfl,hi,f1⟩;refine(AS t _ G1 f1.2.2).mono ?_;rintro _ G2 ⟨ns,rfl,hn,hl,f2⟩;exact⟨i::ns,rfl,λn hm=>(zn.mp hm).elim (λe=>e▸hi) (hn n),by simp[hl],f1.trans f2⟩
end
section
variable{r:Nat}
variable{p q:Nat}{w:Option D}{S:List Int}
abbrev nuX(r p q:Nat)(m:Int)(u w:Option D):DSt:= [sRf r,some (.int m),sRf p,sRf q,u,w]
structure Nu(r q:Nat)(G G':DH)(prs:List (Int×Int)):Prop where
 ok:∀x∈prs,E3 x
 at_:G'[q]? =some (.lst (prs.map pD))
 dr:Dr G' r
 old:G.length<=G'.length/\∀i,i≠r->i≠q->i<G.length->G'[i]? =G[i]?
 cn:cnt G' r<=cnt G r
def Nu.more(hq:q≠r)(h:Nu r q G G1 prs)(f:Fd r G1 G2)(ok:E3 x):G2[q]? =some (.lst (prs.map pD))/\Nu r q G (G2.set q (.lst (prs.map pD++[pD x]))) (prs++[x]):=by
 have e2:=f.at hq h.at_;refine⟨e2,λy hy=>(zB.mp hy).elim (h.ok y) λz=>by rw[zi.mp z];exact ok,?_,f.2.2.set hq,⟨?_,λi hi hq' hl=>?_⟩,by rw[lB (jA hq)];exact zq f.c h.cn⟩
 ·rw[zX (lt_of_get e2),jh];rfl
 ·rw[Jx];exact zq h.old.1 f.1
 ·rw[jA (Ne.symm hq'),f.2.1 i hi (by have:=h.old.1;lia),h.old.2 i hi hq' hl]
def HV{l:List Int}(hk:k=n)(hn:n<l.length):atI (l.map D.int) k=some (.int l[n]):=by subst hk;exact atI_nat (by simp[hn])
theorem pP(hq:q≠r)(hp:p≠r)(Om:p≠q)(hS:S.Pairwise (· <= ·))(hs:∀n∈S,F3 n)(ep:G[p]? =some (.lst (S.map D.int)))(hL:S.length=2*n0):∀n k (prs:List (Int×Int)) u G1,k+n=n0->Nu r q G G1 prs->prs.length<=k->n0<=10->
 Wp (L3 F5 nuB (λ_=>true) ((List.range' k n).map λi:Nat=>D.int ((0:Int)+(i:Int))) (nuX r p q m u w)) G1 λfl G'=>(∃u,fl= .nx (nuX r p q m u w))/\∃prs',Nu r q G G' prs'/\prs'.length<=n0
 |0,k,prs,u,G1,hk,h,hl,h10=>gF.mpr ⟨rfl,⟨u,rfl⟩,prs,h,by lia⟩
 |n+1,k,prs,u,G1,hk,h,hl,h10=>by
   have bg:=big;have e1:G1[p]? =some (.lst (S.map D.int)):=by rw[h.old.2 p hp Om (lt_of_get ep)];exact ep
   rw[List.range'_succ,zT];refine kE.mpr ⟨rfl,R6.mpr<| GA.mpr<| E8.mpr<| b8 rfl<| (O3 h.at_).mpr<| m5<| R7.mpr<| m5<| m7<| b8 rfl<| m7<| b8 rfl<| b8 rfl<| (V1 (Or.inl ⟨by decide,by lia⟩)).mpr<| (LA e1).mpr ⟨.int S[2*k],HV (by lia) (by lia),?_⟩⟩;refine m5<| m7<| b8 rfl<| m7<| m7<| b8 rfl<| b8 rfl<| (V1 (Or.inl ⟨by decide,by lia⟩)).mpr<| o7 rfl rfl<| T4 h.dr (by decide) λt t0 t1 G2 f2=>fB.mpr ?_;obtain⟨t,rfl⟩:=yb t0;have ok:E3 (S[2*k],S[2*k+t]):=⟨by
    show S[2*k]<=S[2*k+t];rcases Nat.eq_zero_or_pos t with rfl|c
    ·exact Int.le_refl _
    ·exact xS.mp hS _ _ _ _ (by lia),.inl (hs _ (YL _)),.inl (hs _ (YL _))⟩
   obtain⟨e2,nu⟩:=h.more hq f2 ok;refine(LA (f2.at hp e1)).mpr ⟨.int S[2*k+t],HV (by lia) (by lia),o8.mpr ⟨sz,o8.mpr<| (RF e2 (by rw[zd];lia)).mpr ?_⟩⟩;refine pP hq hp Om hS hs ep hL n (k+1) _ _ _ (by lia) nu (by rw[zv,yq];lia) h10
end
section
variable{r p q:Nat}{m:Int}{u:Option D}{G G1:DH}{prs:List (Int×Int)}
def eT{a b w:Int}(w0:0<=w)(w1:w<8)(h:(a=1/\b=3)\/(a=2/\b=3)):∃k,sA (m9 inD P3 (H0 (cE (.int a)) (cE (.int b)))) (nuX r p q m u (some (.int w))) G=some (.ok k,G):=by
 have:w=0\/w=1\/w=2\/w=3\/w=4\/w=5\/w=6\/w=7:=by lia
 rcases h with⟨rfl,rfl⟩|⟨rfl,rfl⟩<;>rcases this with rfl|rfl|rfl|rfl|rfl|rfl|rfl|rfl<;>exact⟨_,rfl⟩
abbrev NuQ(r p q:Nat)(m:Int)(u:Option D)(w:Int)(G:DH)(n:Nat)(fl:Fl)(G':DH):Prop:=fl= .nx (nuX r p q m u (some (.int w)))/\∃prs',Nu r q G G' prs'/\prs'.length<=n+1
def CN{w:Int}{x:Int×Int}{G2:DH}{fs:DSt->M (List D)}{a:Fe}(hq:q≠r)(h:Nu r q G G1 prs)(hl:prs.length<=40)(ok:E3 x)(ew:Wp (a (nuX r p q m u (some (.int w)))) G1 λd G'=>d=pD x/\Fd r G1 G'):
 Wp (d5 (mtE M4 U0 C1 (A1 a)) (nuX r p q m u (some (.int w)))) G1 (NuQ r p q m u w G prs.length):=by
 have bg:=big;refine GA.mpr<| E8.mpr<| b8 rfl<| (O3 h.at_).mpr<| m5<| ew.mono ?_;rintro _ G2 ⟨rfl,f⟩;obtain⟨e2,nu⟩:=h.more hq f ok;exact o8.mpr<| (RF e2 (by rw[zd];lia)).mpr ⟨rfl,_,nu,by rw[zv,yq];lia⟩
def vI{σ:DSt}{R:DPP}(k:R (.int e30) G):Wp (m9 L6 NA (cIn 30) σ) G R:=m7<| b8 rfl<| b8 rfl<| p30.mpr k
def La(w0:0<=w)(w1:w<8)(hq:q≠r)(h:Nu r q G G1 prs)(hl:prs.length<=40):Wp (nuL (nuX r p q m u (some (.int w)))) G1 (NuQ r p q m u w G prs.length):=by obtain⟨k,ek⟩:=eT w0 w1 (.inl ⟨rfl,rfl⟩);refine uW ek (λ_=>?_) λ_=>t8.mpr ⟨rfl,prs,h,by lia⟩;obtain⟨i,G2,em,_⟩:=VF h.dr;obtain⟨i,rfl,hi,f⟩:= ‹∃j,i= .int j/\_›;refine CN (x:=(-e30,i)) (G2:=G1) (fs:=K0) hq h hl ⟨by unfold F3 at hi;show -e30<=i;lia,.inr rfl,.inl hi⟩ ?_;exact R7.mpr<| m5<| HL.mpr<| vI<| TK.mpr<| m5<| o7 rfl rfl<| b8 em<| o8.mpr ⟨sz,rfl,f⟩
def cY(w0:0<=w)(w1:w<8)(hq:q≠r)(h:Nu r q G G1 prs)(hl:prs.length<=40):Wp (nuH (nuX r p q m u (some (.int w)))) G1 (NuQ r p q m u w G prs.length):=by obtain⟨k,ek⟩:=eT w0 w1 (.inr ⟨rfl,rfl⟩);refine uW ek (λ_=>?_) λ_=>t8.mpr ⟨rfl,prs,h,by lia⟩;obtain⟨i,G2,em,_⟩:=VF h.dr;obtain⟨i,rfl,hi,f⟩:= ‹∃j,i= .int j/\_›;refine CN (x:=(i,e30)) (G2:=G1) (fs:=K0) hq h hl ⟨by unfold F3 at hi;show i<=e30;lia,.inl hi,.inr rfl⟩ ?_;exact R7.mpr<| m5<| o7 rfl rfl<| b8 em<| m5<| vI<| o8.mpr ⟨sz,rfl,f⟩
def Eg(hq:q≠r)(h:Nu r q G G1 prs)(hl:prs.length<=40):Wp (nuA (nuX r p q m u (some (.int w)))) G1 (NuQ r p q m u w G prs.length):=by refine X3<| w6<| m7<| b8 rfl<| b8 rfl<| P0.mpr ⟨_,rfl,λ_=>?_,λ_=>t8.mpr ⟨rfl,prs,h,by lia⟩⟩;refine CN (x:=(-e30,e30)) (G2:=G1) (fs:=K0) hq h hl ⟨by decide,.inr rfl,.inr rfl⟩ ?_;exact R7.mpr<| m5<| HL.mpr<| vI<| TK.mpr<| m5<| vI<| o8.mpr ⟨sz,rfl,Fd.refl h.dr⟩
def Qz(h:Dr G r):Wp (nuM [sRf r,none,none,none,none,none]) G λfl G'=>Fd r G G'/\∃n:Nat,n<=6/\fl= .nx [sRf r,some (.int n),none,none,none,none]:=by
 refine J5 ?_;refine m7 ?_;refine b8 rfl ?_;refine o7 rfl rfl ?_;refine CB h rfl (by decide) λd hd G2 f=>⟨f,?_⟩;simp only[zn,zF,or_false]at hd;rcases hd with rfl|rfl|rfl|rfl|rfl|rfl|rfl|rfl
 ·exact⟨1,by decide,rfl⟩
 ·exact⟨1,by decide,rfl⟩
 ·exact⟨2,by decide,rfl⟩
 ·exact⟨3,by decide,rfl⟩
 ·exact⟨0,by decide,rfl⟩
 ·exact⟨1,by decide,rfl⟩
 ·exact⟨6,by decide,rfl⟩
 ·exact⟨2,by decide,rfl⟩
def se{n:Nat}(hn:n<=6)(h:Dr G r):Wp (nuS [sRf r,some (.int n),none,none,none,none]) G λfl G'=>∃(S:List Int) (p:Nat),fl= .nx [sRf r,some (.int n),sRf p,none,none,none]/\S.Pairwise (· <= ·)/\(∀i∈S,F3 i)/\S.length=2*n/\G'[p]? =some (.lst (S.map D.int))/\G.length<=p/\Fd r G G':=by
 have bg:=big;have l0:(J9 0 ((2:Int)*n).toNat).length=2*n:=by unfold J9;rw[zd,zV];lia
 refine J5<| O2<| m5<| wp_comp.mpr<| fA.mpr<| m5<| m7<| b8 rfl<| b8 rfl<| (V1 (Or.inl ⟨by decide,by lia⟩)).mpr<| o8.mpr<| (X7 ⟨by lia,by lia⟩).mpr ⟨by rw[l0];lia,(AS (J9 0 ((2:Int)*n).toNat) none G h).mono ?_⟩;rintro _ G1 ⟨ns,rfl,hs,hl,f⟩;rw[l0]at hl;refine o8.mpr<| (Gx o4 (by lia)).mpr ⟨aE ns,_,rfl,LP ns,λi hi=>hs i ((AJ ns).mem_iff.mp hi),by rw[(AJ ns).length_eq];exact hl,o4,?_,(f.trans (Fd.app f.2.2)).trans (Fd.app f.2.2.app)⟩;have:=f.1;simp;lia
def Qd(h:Dr G r):Wp (rK [.ref r]) G λx G'=>∃due,x= .tup (rsD due)/\Can due/\due.length<=9/\(∀z∈due,smR z)/\Fd r G G':=by
 refine K3 (show Wp (bI [sRf r,none,none,none,none,none]) G _ from ?_);rw[Vx];refine d8.mpr<| (Qz h).mono ?_;rintro _ G1 ⟨f1,n,hn,rfl⟩;refine d8.mpr<| (se hn f1.2.2).mono ?_;rintro _ G2 ⟨S,p,rfl,pw,hs,hl,ep,lp,f2⟩;have f02:=f1.trans f2;have hr2:=f2.2.2.lt;have hr1:=f1.2.2.lt;have hpr:p≠r:=by lia
 have hp2:=lt_of_get ep;refine d8.mpr<| J5<| b8 rfl ?_;have hq:G2.length≠r:=by lia
 have nu0:Nu r G2.length (G2++[.lst []]) (G2++[.lst []]) []:=⟨λ_ z=>(nomatch z),o4,f2.2.2.app,⟨zh _,λ_ _ _ _=>rfl⟩,zh _⟩;refine d8.mpr<| fE.mpr<| fA.mpr<| b8 rfl<| (X7 ⟨by lia,by lia⟩).mpr ?_;have er:J9 0 (n:Int).toNat= (List.range' 0 n).map λi:Nat=>D.int ((0:Int)+(i:Int)):=by unfold J9;rw[List.range_eq_range',jR]
 show Wp (L3 F5 nuB (λ_=>true) (J9 0 (n:Int).toNat) (nuX r p G2.length n none none)) _ _;rw[er];refine(pP hq hpr (by lia) pw hs (R8 ep) hl n 0 [] none _ (by lia) nu0 (by simp) (by lia)).mono ?_;rintro _ G3 ⟨⟨u,rfl⟩,prs,nu,l3⟩;refine d8.mpr<| J5<| o7 rfl rfl<| T4 nu.dr (by decide) λw w0 w1 G4 f4=>?_;have nu4:Nu r G2.length (G2++[.lst []]) G4 prs:=⟨nu.ok,f4.at hq nu.at_,f4.2.2,⟨zq nu.old.1 f4.1,λi hi hj hk=>by rw[f4.2.1 i hi (by have:=nu.old.1;lia),nu.old.2 i hi hj hk]⟩,zq f4.c nu.cn⟩;refine d8.mpr<| (La w0 w1 hq nu4 (by lia)).mono ?_;rintro _ G5 ⟨rfl,prs5,nu5,l5⟩;refine d8.mpr<| (cY w0 w1 hq nu5 (by lia)).mono ?_;rintro _ G6 ⟨rfl,prs6,nu6,l6⟩;refine d8.mpr<| (Eg hq nu6 (by lia)).mono ?_;rintro _ G7 ⟨rfl,prs7,nu7,l7⟩;refine w5<| o7 rfl rfl<| (gh nu7.ok nu7.at_ (by lia)).mono ?_;rintro _ G8 ⟨due,rfl,s2,ld,hp,t,rfl⟩;refine u5 ⟨due,rfl,s2.1,by lia,λz hz=>?_,?_⟩
 ·obtain⟨x,ok,rfl⟩:=hp z hz;exact ok.sm
 ·have cc:cnt G7 r<=cnt G r:=zq nu7.cn (zq (Fd.app f2.2.2).c f02.c);refine⟨?_,⟨λi hi hl'=>?_,nu7.dr.app⟩,by rw[lB (zE nu7.dr.lt)];exact cc⟩
  ·have:=nu7.old.1;have:=f02.1;simp only[zv]at *;lia
  ·have o1:=nu7.old.1;have o2:=f02.1;simp only[zv]at o1;rw[zE (by lia),nu7.old.2 i hi (by lia) (by rw[zv];lia),zE (by lia),f02.2.1 i hi hl']
end
structure vB(s:PS):Prop where
 can:Can s.ns
 sm:∀r∈s.ns,smR r
 ln:s.ns.length<=9
 rs:Ris s.ts
 tx:∀z∈s.ts,TxL z
 lt:s.ts.length<=6
section
variable{G G':DH}{r:Nat}
theorem gW:∀(items:List D) (u:Option D) (G:DH),Dr G r->
 Wp (K7 T0 J4 (D0 oF x0) (λ_=>true) items [u,sRf r]) G λys G'=>∃ts:List Str,ys=ts.map D.str/\(∀z∈ts,TxL z)/\ts.length=items.length/\Fd r G G'
 |[],u,G,h=>Z4.mpr ⟨rfl, [],rfl,λ_ z=>(nomatch z),rfl,Fd.refl h⟩
 |d::l,u,G,h=>by refine Z6.mpr ⟨rfl,b8 rfl<| b8 rfl ?_⟩;rw[if_pos rfl];refine o7 rfl rfl<| (KS h).mono ?_;rintro _ G1 ⟨z,rfl,hz,f1⟩;refine(gW l _ G1 f1.2.2).mono ?_;rintro _ G2 ⟨ts,rfl,ht,hl,f2⟩;exact⟨z::ts,rfl,λy hm=>(zn.mp hm).elim (λe=>e▸hz) (ht y),by simp[hl],f1.trans f2⟩
def Vd:II=o6 dtA (o6 dtB dtC):=rfl
def EK{ds:List Int}{σ X1:Int->DSt}(h:Dr G r)(hl:ds.length=8)(hs:∀d∈ds,0<=d/\d<=6)(e0:ρ[0]? =some (some (.ref r)))(el:fe ρ G=some (.ok (.ref G.length),G++[.lst (ds.map D.int)])):
 Wp (M3 (ixE fe (F0 j9 g0 y6)) (A4 m) ρ) G λfl G'=>Fd r G G'/\∃n:Nat,n<=6/\fl= .nx (ρ.set m (some (.int n))):=by
 refine J5 ?_;refine m7 ?_;refine b8 el ?_;refine O2<| m5<| R4.mpr ⟨_,e0,b8 rfl<| V0.mpr ⟨rfl,?_⟩⟩;refine CB h (by rw[zd,hl];rfl) (by decide) λd hd G2 f=>⟨f,?_⟩;obtain⟨i,hi,rfl⟩:=zk.mp hd;obtain⟨a,b⟩:=hs i hi;obtain⟨n,rfl⟩:=yb a;exact⟨n,by lia,rfl⟩
def Km(h:Dr G r):Wp (bK [.ref r]) G λx G'=>∃b m,x=F6 b m/\Ris m/\(∀z∈m,TxL z)/\m.length<=6/\Fd r G G':=by
 have bg:=big;refine K3 (show Wp (II [sRf r,none,none]) G _ from ?_);rw[Vd];refine d8.mpr<| (EK (ds:= [1,0,2,3,1,2,6,0]) (σ:=λ_=> []) (X1:=λ_=> []) h rfl (by decide) rfl rfl).mono ?_;rintro _ G1 ⟨f1,n,hn,rfl⟩;have lr:(J9 0 ((n:Int)).toNat).length=n:=by unfold J9;rw[zd,zV];lia
 refine d8.mpr<| J5<| O2<| m5<| wp_comp.mpr<| fA.mpr<| b8 rfl<| (X7 ⟨by lia,by lia⟩).mpr ⟨by rw[lr];lia,(gW (J9 0 (n:Int).toNat) none G1 f1.2.2).mono ?_⟩;rintro _ G2 ⟨ts,rfl,ht,hl,f2⟩;rw[lr]at hl;refine o8.mpr<| V0.mpr ⟨rfl,Lh o4 ht (by lia) λm G3 rs mm lm a3=>?_⟩;obtain⟨t,rfl⟩:=a3;have f3:Fd r G (G2++[.lst (ts.map D.str)]++t):=((f1.trans f2).trans (Fd.app f2.2.2)).trans (Fd.app f2.2.2.app);refine w5<| R7.mpr<| m5<| m7<| b8 rfl<| m7<| o7 rfl rfl<| T4 f3.2.2.app (by decide) λk k0 k1 G4 f4=>b8 rfl<| (Z7 ⟨by decide,by decide⟩).mpr ?_;have e4:G4[(G2++[DO.lst (ts.map D.str)]++t).length]? =some (.lst [.str (wrd true),.str (wrd false)]):=f4.at (by have:=f3.2.2.lt;lia) o4;obtain⟨d,hd,ed⟩:=IE (l:= [.str (wrd true),.str (wrd false)]) (k:=k / 2) (by lia) (by show k / 2<2;lia);obtain⟨b,rfl⟩:∃b,d= .str (wrd b):=by
  simp only[zn,zF,or_false]at hd;rcases hd with rfl|rfl
  ·exact⟨true,rfl⟩
  ·exact⟨false,rfl⟩
 exact(LA e4).mpr ⟨_,ed,b8 rfl ⟨sz,u5 ⟨b,m,rfl,rs,λz hz=>ht z ((mm z).mp hz),lm,(f3.trans (Fd.app f3.2.2)).trans f4⟩⟩⟩
def nT(b n:Nat):Zt none (some (b:Int)) 1 n=zP (min b n):=by
 unfold Zt sliceRange;have e1:max 0 (min ((b:Int)) n)= (min b n:Nat):=by lia
 simp only[show (1:Int)>0 by decide,if_true,show ¬(b:Int)<0 by lia,if_false,e1];have e3:(if (0:Int)<((min b n:Nat):Int)then (((min b n:Nat):Int)-0+1-1) / 1 else 0).toNat=min b n:=by split<;>lia
 rw[e3];refine Eq.trans (yo λk _=>?_) (Js _);show ((0:Int)+1*(k:Int)).toNat=k;lia
def FO(z:Str)(b:Nat):(∀c∈tl (jK z none (some (b:Int))),c∈tl z)/\(jK z none (some (b:Int))).length<=z.length:=by
 unfold jK;rw[nT];split
 ·exact⟨λ_ h=>h,zh _⟩
 ·have e:∀l:List Nat,tl (ofL l)=l:=λ_=>rfl;refine⟨λc hc=>?_,?_⟩
  ·have hc:c∈(zP (min b z.length)).filterMap (λi=>z.cps[i]?):=hc;obtain⟨i,_,hi⟩:=Ze.mp hc;rw[<-zN]at hi;exact jz hi
  ·show ((zP (min b z.length)).filterMap (λi=>z.cps[i]?)).length<=_;refine zq (List.length_filterMap_le ..) ?_;rw[zV];lia
end
theorem NR:∀ {n d},PDx n d->PDx (n+1) d
|0,_,h=>h.elim
|n+1,d,h=>by
  rcases h with h|h|h|h|⟨l,e,hl,h⟩
  ·exact .inl h
  ·exact .inr (.inl h)
  ·exact .inr (.inr (.inl h))
  ·exact .inr (.inr (.inr (.inl h)))
  ·exact .inr (.inr (.inr (.inr ⟨l,e,hl,λx hx=>NR (h x hx)⟩)))
def MC(h:n<=m)(k:PDx n d):PDx m d:=by
 induction h with
 |refl=>exact k
 |step _ ih=>exact NR ih
section
variable{G:DH}
def LJ(h:PDx n d):(∃l,d= .tup l)\/W9 G d=none/\S4 d=true:=by
 cases n with
 |zero=>exact h.elim
 |succ n=>
   rcases h with rfl|⟨k,rfl⟩|⟨k,rfl⟩|⟨k,rfl⟩|⟨l,rfl,_⟩
   ·exact .inr ⟨rfl,rfl⟩
   ·exact .inr ⟨rfl,rfl⟩
   ·exact .inr ⟨rfl,rfl⟩
   ·exact .inr ⟨rfl,rfl⟩
   ·exact .inl ⟨l,rfl⟩
def Wh(hx:S4 x=true)(hy:S4 y=true):∃k,eqS x y=some k:=by
 cases x<;>first|(cases hx;done)|skip
 all_goals cases y<;>first|(cases hy;done)|exact⟨_,rfl⟩
def UM(h:PDx j (.tup l)):∃i,j=i+1/\∀x∈l,PDx i x:=by
 cases j with
 |zero=>exact h.elim
 |succ m=>
   rcases h with h|⟨_,h⟩|⟨_,h⟩|⟨_,h⟩|⟨_,h,_,h'⟩<;>first|(cases h;done)|skip
   cases h;exact⟨m,rfl,h'⟩
theorem ME:∀n {j m} {x y},PDx j x->PDx m y->j<=n\/m<=n->∃k,eqN n G x y=some k
|0,j,m,_,_,h,k,hn=>by
  rcases hn with hn|hn
  ·rw[Nat.le_zero.mp hn]at h;exact h.elim
  ·rw[Nat.le_zero.mp hn]at k;exact k.elim
|n+1,j,m,x,y,h,k,hn=>by
  rcases LJ h with⟨l,rfl⟩|⟨h1,h2⟩
  ·rcases LJ k with⟨l',rfl⟩|⟨k1,k2⟩
   ·obtain⟨j,rfl,hl⟩:=UM h;obtain⟨m,rfl,hk⟩:=UM k;have go:∀a b,(∀x∈a,PDx j x)->(∀x∈b,PDx m x)->∃k,eqL (eqN n G) a b=some k:=by
     intro a
     induction a with
     |nil=>intro b _ _;cases b<;>exact⟨_,rfl⟩
     |cons x a ih=>
       intro b ha hb;rcases b with _|⟨y,b⟩
       ·exact⟨_,rfl⟩
       obtain⟨k1,e1⟩:=ME n (ha x (zg ..)) (hb y (zg ..)) (by lia);obtain⟨k2,e2⟩:=ih b (λz hz=>ha z (ze _ hz)) (λz hz=>hb z (ze _ hz));exact⟨_,by rw[VA,e1,e2]⟩
    exact go l l' hl hk
   ·refine⟨false,?_⟩;rw[P7,k1];show (if S4 y=true then some false else none)=_;rw[if_pos k2]
  ·rcases LJ k with⟨l',rfl⟩|⟨k1,k2⟩
   ·refine⟨false,?_⟩;rw[P7,h1];show (if S4 x=true then some false else none)=_;rw[if_pos h2]
   ·rw[P7,h1,k1];exact Wh h2 k2
end
def kT(a:Option Int):PDx (n+1) (i8 a):=by
 cases a with
 |none=>exact .inl rfl
 |some i=>exact .inr (.inr (.inl ⟨i,rfl⟩))
def E9:PDx (n+1) (.str z):=.inr (.inr (.inr (.inl ⟨z,rfl⟩)))
def iC:PDx (n+1) (.bl k):=.inr (.inl ⟨k,rfl⟩)
def i4{P:D->Prop}(ha:P a)(hb:P b):∀x∈ [a,b],P x:=λx hx=>by
 rcases zn.mp hx with rfl|hx
 ·exact ha
 ·rw[zi.mp hx];exact hb
def all_cons{P:D->Prop}(ha:P a)(hb:∀x∈l,P x):∀x∈a::l,P x:=λx hx=>(zn.mp hx).elim (λe=>e▸ha) (hb x)
def rf(h:a.Perm l):∀F:List α,a=F.map g->∃F',F.Perm F'/\l=F'.map g:=by
 induction h with
 |nil=>
   intro F e;exact⟨F,.refl _,e⟩
 |cons x _ ih=>
   intro F e;rcases F with _|⟨f,F⟩
   ·cases e
   obtain⟨e1,e2⟩:=yw e;obtain⟨F',p,e3⟩:=ih F e2;exact⟨f::F',p.cons f,by rw[zT,<-e1,<-e3]⟩
 |swap x y l=>
   intro F e;rcases F with _|⟨f,_|⟨f',F⟩⟩
   ·cases e
   ·cases e
   obtain⟨e1,e2⟩:=yw e;obtain⟨e2,e3⟩:=yw e2;exact⟨f'::f::F,.swap ..,by rw[zT,zT,<-e1,<-e2,<-e3]⟩
 |trans _ _ ih1 ih2=>
   intro F e;obtain⟨F1,p1,e1⟩:=ih1 F e;obtain⟨F2,p2,e2⟩:=ih2 F1 e1;exact⟨F2,p1.trans p2,e2⟩
def SZ(h:G[r]? =some (.dct l))(hl:l.length<zj):Wp (cD (.ref r) (.str z) d) G R↔R () (G.set r (.dct (PC l (.inr z) d))):=by unfold cD;simp only[m6,O8,h,O9,iE,if_pos hl,sE]
abbrev noD:D:=.tup [.tup [],.tup [.str ("of" :Str),.tup []],.tup [],.non,.non]
def trD(f t:Bool):D:=.tup ((if f then [.bl false]else [])++if t then [.bl true]else [])
abbrev B4(s:PS)(L R:D):D:=.tup [.tup (rsD s.ns),F6 s.b s.ts,trD s.f s.t,L,R]
def Le(h:S4 d=true):eqS d d=some true:=by
 cases d<;>first|(cases h;done)|skip
 ·rfl
 ·exact congrArg some (beq_self_eq_true _)
 ·exact congrArg some (beq_self_eq_true _)
 ·exact congrArg some (beq_self_eq_true _)
theorem VD:∀n {j} {d},PDx j d->j<=n->eqN n G d d=some true
|0,j,_,h,hn=>by rw[Nat.le_zero.mp hn]at h;exact h.elim
|n+1,j,d,h,hn=>by
  rcases LJ h with⟨l,rfl⟩|⟨h1,h2⟩
  ·obtain⟨j,rfl,hl⟩:=UM h;have go:∀a,(∀x∈a,PDx j x)->eqL (eqN n G) a a=some true:=by
    intro a
    induction a with
    |nil=>intro _;rfl
    |cons x a ih=>
      intro ha;rw[VA,VD n (ha x (zg ..)) (by lia),ih λz hz=>ha z (ze _ hz)];rfl
   exact go l hl
  ·rw[P7,h1];exact Le h2
theorem dG:∀l:List D,(l.Pairwise λa b=>f a b=true)->A3 f l=true
|[],_=>rfl
|[a],_=>rfl
|a::b::r,h=>by obtain⟨h1,h2⟩:=yK.mp h;have ih:=dG (b::r) h2;show (prB f (.tup [a,b])&&(nB (b::r)).all (prB f))=true;rw[show (nB (b::r)).all (prB f)=true from ih,yr];exact h1 b (zg ..)
def BT(a:Option Int):i7 (i8 a)=true:=by cases a<;>rfl
def EX(h:Can l):NC (.tup (rsD l))=true:=by
 show ((rsD l).all D6&&A3 DC (rsD l))=true;rw[zy];constructor
 ·refine zH.mpr λx hx=>?_;obtain⟨p,hp,rfl⟩:=zk.mp hx;have ok:=h.1 p hp;obtain⟨a,b⟩:=p;show (i7 (i8 a)&&(i7 (i8 b)&&!QG (i8 a) (i8 b)))=true;rw[BT,BT];rcases a with _|a
  ·rfl
  ·rcases b with _|b
   ·rfl
   ·have:=ok a b rfl rfl;show (true&&(true&&!decide (a>b)))=true;rw[decide_eq_false (by lia)];rfl
 ·refine dG _ (jv.mpr (h.2.imp ?_));rintro⟨a,b⟩ ⟨c,d⟩ ⟨x,y,e1,e2,hxy⟩
  cases e1
  cases e2
  exact decide_eq_true hxy
def dn(rs:Ris ts)(tx:∀z∈ts,TxL z):A8 (F6 b ts)=true:=by
 have h1:(bD (F6 b ts)).all D8=true:=by show (ts.map D.str).all D8=true;refine zH.mpr λx hx=>?_;obtain⟨z,hz,rfl⟩:=zk.mp hx;exact(aR (tx z hz)).1
 have h2:A3 txD (bD (F6 b ts))=true:=dG (ts.map D.str) (jv.mpr (rs.imp λh=>h));unfold A8;rw[h1,h2]
 cases b<;>rfl
def tru_ok(f t:Bool):KC (trD f t)=true:=by cases f<;>cases t<;>decide
def vQ:∀ {l} {n},(∀x∈l,dpD x<=n)->dpL l<=n
|[],n,_=>by rw[dpL];exact zO _
|d::r,n,h=>by rw[RN];exact Nat.max_le.mpr ⟨h d (zg ..),vQ λx hx=>h x (ze _ hx)⟩
def M5(hl:l.length<=1000)(h:∀x∈l,PDx n x):PDx (n+1) (.tup l):=.inr (.inr (.inr (.inr ⟨_,rfl,hl,h⟩)))
def Os(n:Nat)(d:D):Prop:=okS d=true/\PDx (4*n) d/\AT 0 d
structure Fld where
 nm:Str
 must:Bool
 d:D
def fdE(f:Fld):D:=.tup [.str f.nm,.bl f.must,f.d]
structure FP(n:Nat)(f:Fld):Prop where
 tx:TxL f.nm
 ne:0<f.nm.length
 os:Os n f.d
 no:f.must=true->f.d≠noD
def LsO(n:Nat)(L:D):Prop:=L= .non\/∃(fs:List D) (m:D),L= .tup [.tup fs,m]/\fs.length<=20/\(∀f∈fs,Os n f/\f≠noD)/\Os n m
def RsO(n:Nat)(K':D):Prop:=K'= .non\/∃(fs:List Fld) (m:D),K'= .tup [.tup (fs.map fdE),m]/\fs.length<=20/\(fs.Pairwise λf g=>f.nm.cps.toList<g.nm.cps.toList)/\(∀f∈fs,FP n f/\(f.must=false->f.d≠m))/\Os n m
def u7:∀ {d},AT 0 d->∀n,AT n d:=λ{d} h n=>AT.le (zO n) h
theorem b9:∀ {j d},PDx j d->lwD d=true/\dpD d<=j
|0,_,h=>h.elim
|j+1,d,h=>by
  rcases h with rfl|⟨_,rfl⟩|⟨_,rfl⟩|⟨_,rfl⟩|⟨l,rfl,hl,h⟩
  ·exact⟨by rw[lwD],by rw[dpD];exact zO _⟩
  ·exact⟨by rw[lwD],by rw[dpD];exact zO _⟩
  ·exact⟨by rw[lwD],by rw[dpD];exact zO _⟩
  ·exact⟨by rw[lwD],by rw[dpD];exact zO _⟩
  ·exact⟨mL.mpr ⟨hl,λx hx=>(b9 (h x hx)).1⟩,by rw[DF];exact YQ (vQ λx hx=>(b9 (h x hx)).2)⟩
def Os.tg(h:Os n d)(hz:szD d<=1000000)(m:Nat):Tg m (4*n) d:=⟨u7 h.2.2 m,(b9 h.2.1).1,(b9 h.2.1).2,hz⟩
def Os.pos(h:Os n d):0<n:=by
 cases n with
 |zero=>exact h.2.1.elim
 |succ n=>exact Nat.succ_pos n
def IH(h:x≠y):(!d4 x y)=true:=by
 cases e:d4 x y with
 |false=>rfl
 |true=>exact absurd (TF.mp e) h
def IM(h:TxL z):AT 0 (.str z):=by rw[AT];exact zq h.2 (by decide)
def R9(h:∀x∈l,AT 0 x):AT 0 (.tup l):=WC.mpr h
def LsO.pd(h:LsO n L):PDx (4*n+3) L/\AT 0 L:=by
 rcases h with rfl|⟨fs,m,rfl,lf,hf,hm⟩
 ·exact⟨.inl rfl,by rw[AT];trivial⟩
 ·exact⟨M5 (by show 2<=1000;decide) (i4 (M5 (by lia) λx hx=>MC (by lia) (hf x hx).1.2.1) (MC (by lia) hm.2.1)),R9 (i4 (R9 λx hx=>(hf x hx).1.2.2) hm.2.2)⟩
def RsO.pd(h:RsO n L):PDx (4*n+3) L/\AT 0 L:=by
 rcases h with rfl|⟨fs,m,rfl,lf,pw,hf,hm⟩
 ·exact⟨.inl rfl,by rw[AT];trivial⟩
 have n0:=hm.pos;refine⟨M5 (by show 2<=1000;decide) (i4 (M5 (by rw[zd];lia) λx hx=>?_) (MC (by lia) hm.2.1)),R9 (i4 (R9 λx hx=>?_) hm.2.2)⟩
 ·obtain⟨f,hf',rfl⟩:=zk.mp hx;exact M5 (by show 3<=1000;decide) (all_cons (MC (n:=1) (by lia) E9) (i4 (MC (n:=1) (by lia) iC) (hf f hf').1.os.2.1))
 ·obtain⟨f,hf',rfl⟩:=zk.mp hx;exact R9 (all_cons (IM (hf f hf').1.tx) (i4 (by rw[AT];trivial) (hf f hf').1.os.2.2))
def pS(hl:vB s):(∀x∈ [D.tup (rsD s.ns),F6 s.b s.ts,trD s.f s.t],PDx 3 x/\AT 0 x):=by
 have hn:=hl.ln;have ht:=hl.lt;have an:AT 0 D.non:=by rw[AT];trivial
 have ao:∀a:Option Int,AT 0 (i8 a):=λa=>by cases a<;>(show AT 0 _;rw[i8,AT];trivial)
 have ab:∀b:Bool,AT 0 (.bl b):=λb=>by rw[AT];trivial
 refine all_cons ⟨?_,?_⟩ (i4 ⟨?_,?_⟩ ⟨?_,?_⟩)
 ·refine M5 (by unfold rsD;rw[zd];lia) λx hx=>?_;obtain⟨p,_,rfl⟩:=zk.mp hx;exact M5 (by show 2<=1000;decide) (i4 (kT _) (kT _))
 ·refine R9 λx hx=>?_;obtain⟨p,_,rfl⟩:=zk.mp hx;exact R9 (i4 (ao _) (ao _))
 ·refine M5 (by show 2<=1000;decide) (i4 E9 (M5 (by rw[zd];lia) λx hx=>?_));obtain⟨p,_,rfl⟩:=zk.mp hx;exact E9
 ·refine R9 (i4 (by rw[AT];cases s.b<;>decide) (R9 λx hx=>?_));obtain⟨z,hz,rfl⟩:=zk.mp hx;exact IM (hl.tx z hz)
 ·cases s.f<;>cases s.t
  ·exact M5 (by decide) λ_ h=>nomatch h
  ·exact M5 (by decide) (all_cons iC λ_ h=>nomatch h)
  ·exact M5 (by decide) (all_cons iC λ_ h=>nomatch h)
  ·exact M5 (by decide) (i4 iC iC)
 ·cases s.f<;>cases s.t
  ·exact R9 λ_ h=>nomatch h
  ·exact R9 (all_cons (ab _) λ_ h=>nomatch h)
  ·exact R9 (all_cons (ab _) λ_ h=>nomatch h)
  ·exact R9 (i4 (ab _) (ab _))
def UQ(h:TxL z)(hn:0<z.length):R1 (.str z)=true:=by show (g9 z&&decide (0<z.length))=true;rw[(aR h).1,decide_eq_true hn];rfl
def rN(hl:vB s)(hL:LsO n L)(hR:RsO n K')(hev:B4 s L K'≠evS)(hn:n<=11)(hz:szD (B4 s L K')<=1000000):Os (n+1) (B4 s L K'):=by
 have f3:=pS hl;have pd:PDx (4*(n+1)) (B4 s L K'):=by show PDx (4*n+3+1) _;refine M5 (by show 5<=1000;decide) (all_cons (MC (by lia) (f3 _ (by simp)).1) (all_cons (MC (by lia) (f3 _ (by simp)).1) (all_cons (MC (by lia) (f3 _ (by simp)).1) (i4 hL.pd.1 hR.pd.1))))
 have at0:AT 0 (B4 s L K'):=R9 (all_cons (f3 _ (by simp)).2 (all_cons (f3 _ (by simp)).2 (all_cons (f3 _ (by simp)).2 (i4 hL.pd.2 hR.pd.2))));refine⟨?_,pd,at0⟩;have tg:Tg 0 (4*(n+1)) (B4 s L K'):=⟨at0,(b9 pd).1,(b9 pd).2,hz⟩;rw[gH tg (by lia)];have h1:(liB L&&reB K')=true:=by
  rw[zy];constructor
  ·rcases hL with rfl|⟨fs,m,rfl,_⟩<;>rfl
  ·rcases hR with rfl|⟨fs,m,rfl,lf,pw,hf,hm⟩
   ·rfl
   have e1:(fs.map fdE).all D9=true:=zH.mpr λx hx=>by obtain⟨f,hf',rfl⟩:=zk.mp hx;show (R1 (.str f.nm)&&B8 (.bl f.must))=true;rw[UQ (hf f hf').1.tx (hf f hf').1.ne];rfl
   have e2:A3 nmD ((fs.map fdE).map hdD)=true:=by refine dG _ ?_;rw[jF];exact jv.mpr (pw.imp λh=>decide_eq_true h)
   show (eB (.tup _)||(A9 (.tup [.tup (fs.map fdE),m])&&((fs.map fdE).all D9&&A3 nmD ((fs.map fdE).map hdD))))=true;rw[e1,e2];rfl
 have h2:K2 (B4 s L K')=true:=by show ((NC (.tup (rsD s.ns))&&(A8 (F6 s.b s.ts)&&KC (trD s.f s.t)))&&(liB L&&reB K'))=true;rw[EX hl.can,dn hl.rs hl.tx,tru_ok,h1];rfl
 have h3:v3 (B4 s L K')=true:=by
  show (OG L&&(uE K'&&!d4 (B4 s L K') evS))=true;rw[IH hev];have a1:OG L=true:=by
   rcases hL with rfl|⟨fs,m,rfl,lf,hf,hm⟩
   ·rfl
   ·exact zH.mpr λx hx=>IH (hf x hx).2
  have a2:uE K'=true:=by
   rcases hR with rfl|⟨fs,m,rfl,lf,pw,hf,hm⟩
   ·rfl
   ·refine zH.mpr λx hx=>?_;obtain⟨f,hf',rfl⟩:=zk.mp hx;show (if f.must then !d4 f.d noS else !d4 f.d m)=true
    cases e:f.must
    ·exact IH ((hf f hf').2 e)
    ·exact IH ((hf f hf').1.no e)
  rw[a1,a2];rfl
 have h4:(v6 (B4 s L K')).all okS=true:=by
  show (liK L++reK K').all okS=true;rw[Zd,zy];constructor
  ·rcases hL with rfl|⟨fs,m,rfl,lf,hf,hm⟩
   ·rfl
   ·refine zH.mpr λx hx=>?_;rcases zB.mp hx with hx|hx
    ·exact(hf x hx).1.1
    ·rw[zi.mp hx];exact hm.1
  ·rcases hR with rfl|⟨fs,m,rfl,lf,pw,hf,hm⟩
   ·rfl
   ·refine zH.mpr λx hx=>?_;rcases zB.mp hx with hx|hx
    ·obtain⟨y,hy,rfl⟩:=zk.mp hx;obtain⟨f,hf',rfl⟩:=zk.mp hy;exact(hf f hf').1.os.1
    ·rw[zi.mp hx];exact hm.1
 rw[h2,h3,h4];rfl
def DnP(P:D->Prop)(R:List D->M D)(n:Nat):Prop:=∀(G:DH) (r:Nat) (k:Int),k=n->Dr G r->cnt G r<=240->Wp (R [.ref r,.int k]) G λx G'=>(Os n x/\P x)/\Fd r G G'/\(szD x+800*cnt G' r<=50+800*cnt G r/\cnt G' r<=cnt G r-1)
abbrev Dn(R:List D->M D)(n:Nat):Prop:=DnP (λ_=>True) R n
abbrev TN:D:=.tup [.tup [],.tup [.str ("of" :Str),.tup []],.tup [.bl true],.non,.non]
def vB.nil(f t:Bool):vB ⟨[],true, [],f,t⟩:=⟨⟨λ_ h=>(nomatch h),List.Pairwise.nil⟩,λ_ h=>(nomatch h),zO _,List.Pairwise.nil,λ_ h=>(nomatch h),zO _⟩
def lU:szD noD=8:=by simp[szD,szL]
def vT:szD TN=9:=by simp[szD,szL]
def DY:TN≠noD:=λz=>by cases z
def aw(hn:n<=11):Os (n+1) TN:=rN (s:=⟨[],true, [],false,true⟩) (vB.nil _ _) (.inl rfl) (.inl rfl) (λz=>by cases z) hn (by have:=vT;exact zq (xl this) (by decide))
def kY(hn:n<=11):Os (n+1) noD:=rN (s:=⟨[],true, [],false,false⟩) (vB.nil _ _) (.inl rfl) (.inl rfl) (λz=>by cases z) hn (by have:=lU;exact zq (xl this) (by decide))
def NT(n:Nat):Os (n+1) (.str D4):=by
 have a0:AT 0 (.str D4):=by rw[AT];decide
 refine⟨?_,E9,a0⟩;rw[gH ⟨a0,(b9 (E9 (n:=0))).1,by rw[dpD];exact zh _,by simp[szD]⟩ (by decide)];rfl
section
variable{R:List D->M D}{n r:Nat}{G:DH}
def aT:PDx 4 noD:=M5 (by decide) (all_cons (M5 (by decide) λ_ h=>nomatch h) (all_cons (M5 (by decide) (i4 E9 (M5 (by decide) λ_ h=>nomatch h))) (all_cons (M5 (by decide) λ_ h=>nomatch h) (i4 (.inl rfl) (.inl rfl)))))
def Os.eqno(h:Os n x):∃k,eqN 40 G x noD=some k/\(k=false->x≠noD):=by
 obtain⟨k,e⟩:=ME 40 h.2.1 aT (.inr (by decide));refine⟨k,e,λz h'=>?_⟩;rw[h',VD 40 aT (by decide),z]at e
 cases e
def tT(hD:Dn R n)(hn:n<=12):DnP (λx=>x≠noD) (Q7 R) n:=by intro G r k hk h hc;refine K3 (show Wp (gO R [sRf r,some (.int k),none]) G _ from ?_);refine d8.mpr<| J5<| o7 rfl rfl<| (hD G r k hk h hc).mono ?_;rintro x G1 ⟨⟨hx,_⟩,f1,b1⟩;obtain⟨m,rfl⟩:∃m,n=m+1:=⟨n-1,by have:=hx.pos;lia⟩;obtain⟨k,ek,hk⟩:=hx.eqno;have c1:=f1.c;refine d8.mpr<| X3<| w6<| m7<| b8 rfl<| b8 rfl<| LD.mpr ⟨k,ek,_,rfl,λ_=>w5<| b8 rfl<| u5 ⟨⟨aw (by lia),DY⟩,f1,?_,b1.2⟩,λz=>t8.mpr<| w5<| b8 rfl<| u5 ⟨⟨hx,hk z⟩,f1,b1⟩⟩;rw[vT];lia
abbrev frE(R:List D->M D):Fe:=(F0 (Q7 R) C0 (m9 u8 x0 B0))
theorem FQ(hD:Dn R n)(hn:n<=12){k:Int}(hk:k-1=n):∀items u G,Dr G r->cnt G r<=240->
 Wp (K7 T0 J4 (frE R) (λ_=>true) items [u,some (.int k),sRf r]) G λfs G'=>(∀f∈fs,Os n f/\f≠noD)/\fs.length=items.length/\Fd r G G'/\szL fs+800*cnt G' r<=50*items.length+800*cnt G r
 |[],u,G,h,hc=>Z4.mpr ⟨rfl,λ_ h=>(nomatch h),rfl,Fd.refl h,by rw[szL];show 0+_<=0+_;lia⟩
 |d::l,u,G,h,hc=>by refine Z6.mpr ⟨rfl,b8 rfl<| b8 rfl ?_⟩;rw[if_pos rfl];refine o7 rfl rfl<| (tT hD hn G r (k-1) hk h hc).mono ?_;rintro x G1 ⟨hx,f1,b1⟩;have c1:=f1.c;refine(FQ hD hn hk l _ G1 f1.2.2 (by lia)).mono ?_;rintro fs G2 ⟨hf,hl,f2,b2⟩;refine⟨all_cons hx hf,by simp[hl],f1.trans f2,?_⟩;rw[o5,zM];lia
def pq(hD:Dn R n)(hn:n<=12){k:Int}(hk:k-1=n)(h:Dr G r)(hc:cnt G r<=240):Wp (vF R [.ref r,.int k]) G λx G'=>LsO n x/\Fd r G G'/\szD x+800*cnt G' r<=352+800*cnt G r:=by
 have bg:=big;refine K3 (show Wp (uN R [sRf r,some (.int k),none,none]) G _ from ?_);refine d8.mpr<| (EK (ds:= [0,1,2,1,3,2,6,1]) (σ:=λ_=> []) (X1:=λ_=> []) h rfl (by decide) rfl rfl).mono ?_;rintro _ G1 ⟨f1,c,hn6,rfl⟩;have c1:=f1.c;have lr:(J9 0 ((c:Int)).toNat).length=c:=by unfold J9;rw[zd,zV];lia
 refine d8.mpr<| J5<| O2<| m5<| wp_comp.mpr<| fA.mpr<| b8 rfl<| (X7 ⟨by lia,by lia⟩).mpr ⟨by rw[lr];lia,(FQ hD hn hk (J9 0 (c:Int).toNat) none G1 f1.2.2 (by lia)).mono ?_⟩;rintro fs G2 ⟨hf,hl,f2,b2⟩;rw[lr]at hl b2;have c2:=f2.c;have f3:=(f1.trans f2).trans (Fd.app (t:= [.lst fs]) f2.2.2);have e3:cnt (G2++[DO.lst fs]) r=cnt G2 r:=lB (zE f2.2.2.lt);refine o8.mpr<| (eD o4).mpr<| w5<| R7.mpr<| m5<| b8 rfl<| m5<| o7 rfl rfl<| (hD _ r (k-1) hk f3.2.2 (by rw[e3];lia)).mono ?_;rintro m G4 ⟨⟨hm,_⟩,f4,b4⟩;rw[e3]at b4;refine o8.mpr ⟨sz,u5 ⟨.inr ⟨fs,m,rfl,by lia,hf,hm⟩,f3.trans f4,?_⟩⟩;rw[Q4,o5,o5,J2,Q4];lia
end
def uf(h:tl a=tl b):a=b:=by obtain⟨⟨a⟩⟩:=a;obtain⟨⟨b⟩⟩:=b;have h:a=b:=h;rw[h]
def MM(h:Dr G r):Wp (O6 [.ref r]) G λx G'=>∃z,x= .str z/\TxL z/\0<z.length/\Fd r G G':=by
 have bg:=big;refine K3 (show Wp (aO [sRf r,none]) G _ from ?_);refine d8.mpr<| J5<| pC.mpr<| o7 rfl rfl<| (KS h).mono ?_;rintro _ G1 ⟨z,rfl,hz,f1⟩;have h40:=hz.2;obtain⟨s1,s2⟩:=FO z 8;refine b8 rfl<| b8 rfl<| (DJ (by lia)).mpr ?_;refine d8.mpr<| X3<| w6<| m7<| b8 rfl<| b8 rfl<| OI.mpr ⟨_,rfl,λ_=>w5<| b8 rfl<| u5 ⟨_,rfl,?_,by decide,f1⟩,λe=>t8.mpr<| w5<| b8 rfl<| u5 ⟨_,rfl,⟨λc hc=>hz.1 c (s1 c hc),by exact zq s2 h40⟩,?_,f1⟩⟩
 ·exact⟨by decide,by decide⟩
 ·refine Nat.pos_of_ne_zero λl0=>?_;have:jK z none (some 8)= ("" :Str):=uf (List.length_eq_zero_iff.mp l0);rw[this]at e;exact absurd e (by decide)
def fL(h:ss.Nodup):(W5 ss).Pairwise λa b=>a.cps.toList<b.cps.toList:=by have h1:(W5 ss).Pairwise λa b=>leS a b=true:=xq VN MV ss;have h2:(W5 ss).Nodup:=(jL ss leS).nodup_iff.mpr h;refine(JR h1 h2).imp λ{a b} q=>?_;refine jJ λn=>q.2 (wT q.1 ?_);show (!decide (a.cps.toList<b.cps.toList))=true;rw[decide_eq_false (show ¬a.cps.toList<b.cps.toList from n)];rfl
def pK(F:List Fld):List (Key×D):=F.map λf=>(.inr f.nm,fdE f)
def putF(F:List Fld)(f:Fld):List Fld:=if F.any (λg=>decide (g.nm=f.nm))then F.map (λg=>if g.nm=f.nm then f else g)else F++[f]
def fw(F:List Fld):Nat:=(F.map λf=>szD f.d).sum
def MY(F:List Fld)(f:Fld):PC (pK F) (.inr f.nm) (fdE f)=pK (putF F f):=by
 unfold PC putF pK;have e:((F.map λf=>((.inr f.nm:Key),fdE f)).any λkv=>decide (kv.1= (.inr f.nm:Key)))=F.any λg=>decide (g.nm=f.nm):=by rw[List.any_map];congr 1;funext g;show decide ((Sum.inr g.nm:Key)= .inr f.nm)=_;simp
 rw[e];split
 ·rw[jF,jF];refine yo λg _=>?_;show (if (Sum.inr g.nm:Key)= .inr f.nm then _ else _)=_;by_cases k:g.nm=f.nm
  ·rw[if_pos (by rw[k])];show _= ((.inr (if g.nm=f.nm then f else g).nm:Key),fdE (if g.nm=f.nm then f else g));rw[if_pos k];show ((.inr g.nm:Key),fdE f)=_;rw[k]
  ·rw[if_neg λz=>k (Sum.inr.inj z)];show _= ((.inr (if g.nm=f.nm then f else g).nm:Key),fdE (if g.nm=f.nm then f else g));rw[if_neg k]
 ·rw[jh];rfl
abbrev nms(F:List Fld):List Str:=F.map Fld.nm
def Nz(F:List Fld)(f:Fld):nms (F.map λg=>if g.nm=f.nm then f else g)=nms F:=by
 unfold nms;rw[jF];refine yo λg _=>?_;show (if g.nm=f.nm then f else g).nm=_;split
 ·rename_i h;exact h.symm
 ·rfl
def uu(F:List Fld)(f:Fld)(h:f.nm∉nms F):F.map (λg=>if g.nm=f.nm then f else g)=F:=by refine Eq.trans (yo λg hg=>?_) (Js _);exact if_neg fun(e:g.nm=f.nm)=>h (e▸zk.mpr ⟨g,hg,rfl⟩)
theorem lV:∀F f,(nms F).Nodup->fw (F.map λg=>if g.nm=f.nm then f else g)<=fw F+szD f.d
|[],f,_=>zO _
|g::F,f,h=>by
  obtain⟨h1,h2⟩:=yQ.mp h;rw[zT];by_cases k:g.nm=f.nm
  ·rw[if_pos k,uu F f (k▸h1)];show szD f.d+fw F<=szD g.d+fw F+_;lia
  ·rw[if_neg k];have:=lV F f h2;show szD g.d+fw _<=szD g.d+fw F+_;lia
structure FOk(P:Fld->Prop)(F:List Fld):Prop where
 nd:(nms F).Nodup
 al:∀f∈F,P f
def Np:fw (F++E)=fw F+fw E:=by unfold fw;rw[jh,List.sum_append]
def FOk.put(h:FOk P F)(hf:P f):FOk P (putF F f)/\(putF F f).length<=F.length+1/\fw (putF F f)<=fw F+szD f.d:=by
 unfold putF;split
 ·refine⟨⟨by rw[Nz];exact h.nd,λg hg=>?_⟩,by rw[zd];exact yX _,lV F f h.nd⟩;obtain⟨g',hg',rfl⟩:=zk.mp hg;split
  ·exact hf
  ·exact h.al g' hg'
 ·rename_i k;refine⟨⟨?_,λg hg=>?_⟩,by rw[zv];exact zh _,by rw[Np];exact zh _⟩
  ·show (nms (F++[f])).Nodup;unfold nms;rw[jh];refine Yy.mpr ⟨h.nd,yQ.mpr ⟨λz=>(nomatch z),xa⟩,λa ha b hb e=>k ?_⟩;rw[zi.mp hb]at e;subst e;obtain⟨g,hg,e⟩:=zk.mp ha;exact Jl.mpr ⟨g,hg,decide_eq_true e⟩
  ·rcases zB.mp hg with hg|hg
   ·exact h.al g hg
   ·rw[zi.mp hg];exact hf
def wR:∀F:List Fld,h9 (pK F)=some (nms F)
|[]=>rfl
|f::F=>congrArg (Option.map (f.nm :: ·)) (wR F)
theorem GW:∀F,(nms F).Nodup->∀f∈F,l8 (pK F) (.inr f.nm)=some (fdE f)
|g::F,h,f,hf=>by
  obtain⟨h1,h2⟩:=yQ.mp h;have ih:=GW F h2;unfold l8 pK at ih ⊢;rw[zT,xC];rcases zn.mp hf with rfl|hf
  ·have:decide (((.inr f.nm:Key),fdE f).1= .inr f.nm)=true:=decide_eq_true rfl;rw[this];rfl
  ·have:decide (((.inr g.nm:Key),fdE g).1= .inr f.nm)=false:=decide_eq_false λe=>h1 (by
    have e:g.nm=f.nm:=Sum.inr.inj e;show g.nm∈nms F;rw[e];exact zk.mpr ⟨f,hf,rfl⟩)
   rw[this];exact ih f hf
def Bk(F:List Fld):∃F',F.Perm F'/\W5 (nms F)=nms F':=rf (jL (nms F) _).symm F rfl
def mh(h:F.Perm E):fw F=fw E:=(h.map _).sum_nat
def bw(nd:(nms F).Nodup):∃F',F.Perm F'/\W5 (nms F)=nms F'/\F'.Pairwise λf g=>f.nm.cps.toList<g.nm.cps.toList:=by obtain⟨F',p,e⟩:=Bk F;have:=fL nd;rw[e]at this;exact⟨F',p,e,(jv (R:=λa b:Str=>a.cps.toList<b.cps.toList)).mp this⟩
structure Rc(n r p j:Nat)(G0:DH)(F:List Fld)(G:DH):Prop where
 e:G[p]? =some (.dct (pK F))
 ok:FOk (FP n) F
 dr:Dr G r
 fr:G0.length<=G.length/\∀i,i≠r->i≠p->i<G0.length->G[i]? =G0[i]?
 w:fw F+800*cnt G r<=50*j+800*cnt G0 r
 l:F.length<=j
 c:cnt G r<=cnt G0 r
def rcP(H:List D->M D)(b:Bool):Fs:=(M3 (y7 P3 (cE (.bl b)) (F0 H g0 (m9 u8 x0 B0))) (AC C1 P3))
def rcB(R:List D->M D):Fs:=(asQ (D0 O6 g0) L4 (ifS (tBn eqD (F0 j9 g0 O0) S0) (rcP (Q7 R) true) (rcP R false)))
def Sz:PH R=o6 rcM (asQ (wJ) m4 (o6 (C8 (T5 (A1 C0)) F5 (rcB R)) (asQ (F0 R g0 (m9 u8 x0 B0)) WG (asQ (J8 (itW (N0 B9 C1)) [none,some 3] T0 J4 (m9 ixG x0 g0)) sF (u9 (H0 (N0 Z9 (J8 (itW dN) [none,some 6] T0 flT g0)) dM)))))):=rfl
section
variable{R H:List D->M D}{n r p j:Nat}{G G0:DH}{F:List Fld}{k:Int}
def Rc.fd(h:Rc n r p j G0 F G)(hp:p≠r)(f:Fd r G G1):G1[p]? =some (.dct (pK F))/\Dr G1 r/\(G0.length<=G1.length/\∀i,i≠r->i≠p->i<G0.length->G1[i]? =G0[i]?)/\cnt G1 r<=cnt G0 r:=
 ⟨f.at hp h.e,f.2.2,⟨zq h.fr.1 f.1,λi hi hj hk=>by rw[f.2.1 i hi (by have:=h.fr.1;lia),h.fr.2 i hi hj hk]⟩,zq f.c h.c⟩
def KW(hb:b=true->∀x,P x->x≠noD)(hD:DnP P H n)(hk:k-1=n)(hp:p≠r)(h:Rc n r p j G0 F G)(hc:cnt G0 r<=240)(hj:j<=30)(f1:Fd r G G1)(hz:TxL z)(z0:0<z.length):
 Wp (rcP H b [sRf r,some (.int k),m,sRf p,u,some (.str z),x,y]) G1 λfl G'=>fl= .nx [sRf r,some (.int k),m,sRf p,u,some (.str z),x,y]/\∃F',Rc n r p (j+1) G0 F' G':=by
 have bg:=big;have c1:=f1.c;have c0:=h.c;refine RB.mpr<| R7.mpr<| m5<| b8 rfl<| m5<| b8 rfl<| m5<| o7 rfl rfl<| (hD G1 r (k-1) hk f1.2.2 (by lia)).mono ?_;rintro d G2 ⟨⟨hd,pd⟩,f2,b2⟩;obtain⟨e2,dr2,fr2,c2⟩:=h.fd hp (f1.trans f2);obtain⟨ok,ln,wf⟩:=h.ok.put (f:=⟨z,b,d⟩) ⟨hz,z0,hd,λe=>hb e d pd⟩;have hl:=h.l;have hw:=h.w;have ep:=MY F ⟨z,b,d⟩;refine o8.mpr ⟨sz,pV.mpr<| b8 rfl<| b8 rfl<| (SZ e2 (by unfold pK;rw[zd];lia)).mpr ⟨rfl,putF F ⟨z,b,d⟩,?_⟩⟩;have wf:fw (putF F ⟨z,b,d⟩)<=fw F+szD d:=wf;have ec:∀o:DO,cnt (G2.set p o) r=cnt G2 r:=λo=>lB (jA hp);refine⟨?_,ok,dr2.set hp,⟨by rw[Jx];exact fr2.1,λi hi hj hk=>by rw[jA (Ne.symm hj)];exact fr2.2 i hi hj hk⟩,by rw[ec];lia,by lia,by rw[ec];exact c2⟩;rw[zX (lt_of_get e2)];exact congrArg (λl=>some (DO.dct l)) ep
def gn(hD:Dn R n)(hn:n<=12)(hk:k-1=n)(hp:p≠r)(h:Rc n r p j G0 F G)(hc:cnt G0 r<=240)(hj:j<=30):
 Wp (rcB R [sRf r,some (.int k),m,sRf p,u,v,x,y]) G λfl G'=>(∃v,fl= .nx [sRf r,some (.int k),m,sRf p,u,v,x,y])/\∃F',Rc n r p (j+1) G0 F' G':=by
 refine d8.mpr<| J5<| o7 rfl rfl<| (MM h.dr).mono ?_;rintro _ G1 ⟨z,rfl,hz,z0,f1⟩;refine X3<| w6<| m7<| o7 rfl rfl<| T4 f1.2.2 (by decide) λw w0 w1 G2 f2=>b8 rfl<| P0.mpr ⟨_,rfl,λ_=>?_,λ_=>?_⟩
 ·exact(KW (λ_ _ q=>q) (tT hD hn) hk hp h hc hj (f1.trans f2) hz z0).mono λ_ _ ⟨e,q⟩=>⟨⟨_,e⟩,q⟩
 ·exact(KW (b:=false) (λe=>nomatch e) hD hk hp h hc hj (f1.trans f2) hz z0).mono λ_ _ ⟨e,q⟩=>⟨⟨_,e⟩,q⟩
theorem UW(hD:Dn R n)(hn:n<=12)(hk:k-1=n)(hp:p≠r)(hc:cnt G0 r<=240):∀items j F u v G,Rc n r p j G0 F G->j+items.length<=30->
 Wp (L3 F5 (rcB R) (λ_=>true) items [sRf r,some (.int k),m,sRf p,u,v,x,y]) G λfl G'=>(∃u v,fl= .nx [sRf r,some (.int k),m,sRf p,u,v,x,y])/\∃F',Rc n r p (j+items.length) G0 F' G'
 |[],j,F,u,v,G,h,hj=>gF.mpr ⟨rfl,⟨u,v,rfl⟩,F,h⟩
 |d::l,j,F,u,v,G,h,hj=>by rw[zM]at hj;refine kE.mpr ⟨rfl,b8 rfl<| (gn hD hn hk hp h hc (by lia)).mono ?_⟩;rintro _ G1 ⟨⟨v,rfl⟩,F1,h1⟩;refine(UW hD hn hk hp hc l (j+1) F1 _ _ G1 h1 (by lia)).mono ?_;rintro _ G2 ⟨q,F2,h2⟩;refine⟨q,F2,?_⟩;rw[zM,show j+(l.length+1)=j+1+l.length by lia];exact h2
theorem HR(Mn:ck G=true)(nd:(nms F).Nodup)(e:G[p]? =some (.dct (pK F))):∀(l:List Fld) u,(∀f∈l,f∈F)->K7 T0 J4 (m9 ixG x0 g0) ck (l.map λf=>D.str f.nm) [u,sRf p] G=some (.ok (l.map fdE),G)
|[],u,h=>W7 (Z4.mpr ⟨Mn,rfl,rfl⟩)
| f :: l, u, h => W7 (Z6.mpr ⟨Mn, b8 rfl <| b8 rfl <| by
   rw[if_pos rfl];exact m7<| b8 rfl<| b8 rfl<| (Ez e (GW F nd f (h f (zg ..)))).mpr<| b8 (HR Mn nd e l _ λg hg=>h g (ze _ hg)) ⟨rfl,rfl⟩⟩)
theorem EU(Mn:ck G=true)(hn:n<=14)(hm:Os n m):∀l u,(∀f∈l,FP n f)->Wp (K7 T0 flT g0 ck (l.map fdE) [u,some m]) G λys G'=>G'=G/\∃l',List.Sublist l' l/\ys=l'.map fdE/\∀f∈l',f.must=false->f.d≠m
|[],u,h=>Z4.mpr ⟨Mn,rfl, [],List.Sublist.refl _,rfl,λ_ h=>(nomatch h)⟩
|f::l,u,h=>by
  have ih:=EU Mn hn hm l (some (fdE f)) λg hg=>h g (ze _ hg);have yes:(f.must=false->f.d≠m)->Wp (T7 0 [some (fdE f),some m]) G λy G3=>Wp (K7 T0 flT g0 ck (l.map fdE) [some (fdE f),some m]) G3 λys G4=>G4=G/\∃l',List.Sublist l' (f::l)/\y::ys=l'.map fdE/\∀f∈l',f.must=false->f.d≠m:=λhf=>b8 rfl<| ih.mono λ_ _ ⟨e,l',s,q,a⟩=>⟨e,f::l',s.cons_cons f,by rw[q];rfl,λg hg=>(zn.mp hg).elim (λe=>e▸hf) (a g)⟩;have nay:Wp (K7 T0 flT g0 ck (l.map fdE) [some (fdE f),some m]) G λys G4=>G4=G/\∃l',List.Sublist l' (f::l)/\ys=l'.map fdE/\∀f∈l',f.must=false->f.d≠m:=ih.mono λ_ _ ⟨e,l',s,q,a⟩=>⟨e,l',s.cons f,q,a⟩;refine Z6.mpr ⟨Mn,b8 rfl<| NF<| W0.mpr<| b8 rfl<| S8.mpr ⟨λe=>?_,λ_=>?_⟩⟩
  ·rw[if_pos rfl];exact yes λe'=>by rw[e]at e';cases e'
  have fo:=(h f (zg ..)).os;obtain⟨k,ek⟩:=ME 60 fo.2.1 hm.2.1 (.inl (by lia));refine w6<| m7<| b8 rfl<| b8 rfl<| Ia.mpr ⟨k,ek,_,rfl,?_⟩
  cases k
  ·rw[if_pos (show (!false)=true from rfl)];refine yes λ_ e=>?_;rw[e,VD 60 hm.2.1 (by lia)]at ek
   cases ek
  ·rw[if_neg (show ¬(!true)=true by decide)];exact nay
def Eo(h:List.Sublist F E):fw F<=fw E:=by
 induction h with
 |slnil=>exact zh _
 |cons f _ ih=>exact zq ih (Nat.le_add_left ..)
 |cons_cons f _ ih=>exact Nat.add_le_add_left ih _
theorem VU:∀F:List Fld,szL (F.map fdE)=fw F+3*F.length
|[]=>by rw[xP,J2];rfl
|f::F=>by have:=VU F;rw[zT,o5,this,zM];show szD (.tup [.str f.nm,.bl f.must,f.d])+_=szD f.d+fw F+_;rw[Q4,o5,o5,o5,J2,show szD (.str f.nm)=1 by rw[szD],show szD (.bl f.must)=1 by rw[szD]];lia
def Cl{Pf:Fld->Prop}(ok:FOk Pf F)(e:G[p]? =some (.dct (pK F)))(hl:F.length<60)(h3:σ[a]? =some (some (.ref p)))(q:∀F' G',F.Perm F'->(F'.Pairwise λf g=>f.nm.cps.toList<g.nm.cps.toList)->Ap G G'->G'[G.length+1]? =some (.lst (F'.map fdE))->Q (.ref (G.length+1)) G'):
 Wp (J8 (itW (N0 B9 (T7 a))) [none,some a] T0 J4 (m9 ixG x0 g0) σ) G Q:=by
 have bg:=big;obtain⟨F',pm,es,pw⟩:=bw ok.nd;have va:T7 a σ G=some (.ok (.ref p),G):=W7 (R4.mpr ⟨_,h3,rfl,rfl⟩);refine wp_comp.mpr<| wp_itW.mpr<| O2<| m5<| b8 va<| o8.mpr<| (Bl e (wR F) (by rw[zd];lia)).mpr<| (aC o4).mpr ?_;rw[es];have ei:(nms F').map D.str=F'.map λf=>D.str f.nm:=by unfold nms;rw[jF];rfl
 have ec:W4 [none,some a] σ= [none,sRf p]:=by unfold W4;simp[h3]
 rw[ei];refine⟨by rw[zd,<-pm.length_eq];lia,b8 (by rw[ec];exact HR (wC (by rw[o4])) ok.nd (R8 e) F' none λf hf=>pm.mem_iff.mpr hf) ?_⟩;have:=q F' (G++[.lst (F'.map λf=>D.str f.nm)]++[.lst (F'.map fdE)]) pm pw (Ap.one.trans Ap.one) (by rw[show G.length+1= (G++[DO.lst (F'.map λf=>D.str f.nm)]).length by simp,o4])
 rw[show (G++[DO.lst (F'.map λf=>D.str f.nm)]).length=G.length+1 by simp];exact this
def Ie(hD:Dn R n)(hn:n<=12)(hk:k-1=n)(h:Dr G r)(hc:cnt G r<=240):Wp (X8 R [.ref r,.int k]) G λx G'=>RsO n x/\Fd r G G'/\szD x+800*cnt G' r<=370+800*cnt G r:=by
 have bg:=big;refine K3 (show Wp (PH R [sRf r,some (.int k),none,none,none,none,none,none]) G _ from ?_);rw[Sz];refine d8.mpr<| (EK (ds:= [0,1,2,1,3,2,6,1]) (σ:=λ_=> []) (X1:=λ_=> []) h rfl (by decide) rfl rfl).mono ?_;rintro _ G1 ⟨f1,c,hn6,rfl⟩;have c1:=f1.c;have lr:(J9 0 ((c:Int)).toNat).length=c:=by unfold J9;rw[zd,zV];lia
 refine Q8 (X1:= [sRf r,some (.int k),sIi c,some (.ref G1.length),none,none,none,none]) rfl ?_;have hp:G1.length≠r:=by have:=f1.2.2.lt;lia
 have e0:cnt (G1++[.dct []]) r=cnt G1 r:=lB (zE f1.2.2.lt);have st:Rc n r G1.length 0 (G1++[.dct []]) [] (G1++[.dct []]):=⟨o4,⟨xa,λ_ h=>(nomatch h)⟩,f1.2.2.app,⟨zh _,λ_ _ _ _=>rfl⟩,by show 0+_<=_;lia,zh _,zh _⟩;refine d8.mpr<| fE.mpr<| fA.mpr<| b8 rfl<| (X7 ⟨by lia,by lia⟩).mpr<| (UW hD hn hk hp (by lia) (J9 0 (c:Int).toNat) 0 [] none none _ st (by rw[lr];lia)).mono ?_;rintro _ G2 ⟨⟨u,v,rfl⟩,F,h2⟩;rw[lr,Nat.zero_add]at h2;have w2:=h2.w;have l2:=h2.l;have c2:=h2.c;have f2:Fd r G1 G2:=⟨zq (by simp) h2.fr.1,⟨λi hi hl=>by rw[h2.fr.2 i hi (by lia) (by simp;lia),zE hl],h2.dr⟩,by lia⟩;refine d8.mpr<| J5<| o7 rfl rfl<| (hD G2 r (k-1) hk h2.dr (by lia)).mono ?_;rintro m G3 ⟨⟨hm,_⟩,f3,b3⟩;have e3:=f3.at hp h2.e;refine d8.mpr<| J5<| Cl h2.ok e3 (by lia) rfl λF' G4 pm pw a4 e4=>?_;have al:∀f∈F',FP n f:=λf hf=>h2.ok.al f (pm.mem_iff.mpr hf);refine w5<| R7.mpr<| m5<| O2<| m5<| wp_comp.mpr<| wp_itW.mpr<| b8 rfl<| (aC e4).mpr ⟨by rw[zd,<-pm.length_eq];lia,(EU (wC e4) (by lia) hm F' none al).mono ?_⟩;rintro _ _ ⟨rfl,F2,sb,rfl,due⟩;refine o8.mpr<| (eD o4).mpr<| b8 rfl ?_;have s1:=Eo sb;rw[<-mh pm]at s1;have s2:=sb.length_le;rw[<-pm.length_eq]at s2;obtain⟨t,rfl⟩:=a4;have f5:Fd r G3 (G3++t++[.lst (F2.map fdE)]):=(Fd.app f3.2.2).trans (Fd.app f3.2.2.app);have e5:cnt (G3++t++[.lst (F2.map fdE)]) r=cnt G3 r:=by rw[Yz];exact lB (zE f3.2.2.lt)
 refine⟨sz,u5 ⟨.inr ⟨F2,m,rfl,by lia,pw.sublist sb,λf hf=>⟨al f (sb.subset hf),due f hf⟩,hm⟩,((f1.trans f2).trans f3).trans f5,?_⟩⟩;rw[e5,Q4,o5,o5,J2,Q4,VU];lia
end
abbrev qH:List D:= [.int 1,.int 8,.int 16,.int 2,.int 4,.int 8,.int 16,.int 3,.int 14,.int 21,.int 31]
def Dp:IF R=o6 (M3 (F0 j9 g0 (cIn 13)) B2) (gdQ (tBn eqD C0 (cIn 12)) (cSt "any") (gdQ (tBn eqD C0 SL) (VE O7) (asQ (ixE (Q6 (A0 B0 (A0 y6 (A0 (cIn 16) (A0 O0 (A0 Q1 (A0 y6 (S3 (cIn 16) B1 (cIn 14) (cIn 21) (cIn 31))))))))) C0) m4 (o6 smD (asQ (VE O7) (qA 5 (U5 F5 (U5 L4 (U5 WG (U5 sF (U5 gM (cA))))))) (o6 smN (o6 smT (o6 smB (o6 (smL R) (o6 (smK R) smV)))))))))):=rfl
abbrev smS(r:Nat)(k w m:Int)(A B C L E5:D):DSt:= [sRf r,some (.int k),some (.int w),some (.int m),some A,some B,some C,some L,some E5]
section
variable{R:List D->M D}{n r:Nat}{G:DH}{k w m:Int}
def Wj(h:Dr G r):Wp (smN (smS r k w m (.tup []) B C L E5)) G λfl G'=>∃ns,fl= .nx (smS r k w m (.tup (rsD ns)) B C L E5)/\Can ns/\(∀z∈ns,smR z)/\ns.length<=9/\Fd r G G':=by refine X3<| w6<| m7<| m7<| b8 rfl<| b8 rfl<| (S9 (by decide)).mpr<| b8 rfl<| P0.mpr ⟨_,rfl,λ_=>J5<| o7 rfl rfl<| (Qd h).mono ?_,λ_=>t8.mpr ⟨[],rfl,⟨λ_ h=>(nomatch h),List.Pairwise.nil⟩,λ_ h=>(nomatch h),zO _,Fd.refl h⟩⟩;rintro _ G1 ⟨ns,rfl,a,b,c,f⟩;exact⟨ns,rfl,a,c,b,f⟩
def Bh(h:Dr G r):Wp (smT (smS r k w m A (F6 true []) C L E5)) G λfl G'=>∃b ts,fl= .nx (smS r k w m A (F6 b ts) C L E5)/\Ris ts/\(∀z∈ts,TxL z)/\ts.length<=6/\Fd r G G':=by refine X3<| w6<| m7<| m7<| m7<| b8 rfl<| b8 rfl<| (Z7 ⟨by decide,by decide⟩).mpr<| b8 rfl<| (S9 (by decide)).mpr<| b8 rfl<| P0.mpr ⟨_,rfl,λ_=>J5<| o7 rfl rfl<| (Km h).mono ?_,λ_=>t8.mpr ⟨true, [],rfl,List.Pairwise.nil,λ_ h=>(nomatch h),zO _,Fd.refl h⟩⟩;rintro _ G1 ⟨b,ts,rfl,q⟩;exact⟨b,ts,rfl,q⟩
def Hx(h:Dr G r):Wp (smB (smS r k w m A B (trD false false) L E5)) G λfl G'=>∃f t,fl= .nx (smS r k w m A B (trD f t) L E5)/\Fd r G G':=by
 refine X3<| w6<| m7<| m7<| m7<| b8 rfl<| b8 rfl<| (Z7 ⟨by decide,by decide⟩).mpr<| b8 rfl<| (S9 (by decide)).mpr<| b8 rfl<| P0.mpr ⟨_,rfl,λ_=>J5<| m7<| b8 (G':=G++[.lst [trD true false,trD false true,trD true true]]) rfl ?_,λ_=>t8.mpr ⟨false,false,rfl,Fd.refl h⟩⟩;refine O2<| m5<| b8 rfl<| b8 rfl<| V0.mpr ⟨rfl,?_⟩;refine CB h rfl (by decide) λd hd G2 f=>?_;simp only[zn,zF,or_false]at hd;rcases hd with rfl|rfl|rfl
 ·exact⟨_,_,rfl,f⟩
 ·exact⟨_,_,rfl,f⟩
 ·exact⟨_,_,rfl,f⟩
def MX(hn:n<=12)(hD:8<=m->Dn R n)(hk:k-1=n)(hm:0<=m)(hy:352<=c\/m<8)(h:Dr G r)(hc:cnt G r<=240):Wp (smL R (smS r k w m A B C .non E5)) G λfl G'=>∃L,fl= .nx (smS r k w m A B C L E5)/\LsO n L/\Fd r G G'/\szD L+800*cnt G' r<=c+1+800*cnt G r:=by
 refine X3<| w6<| m7<| m7<| m7<| b8 rfl<| b8 rfl<| (Z7 ⟨by decide,by decide⟩).mpr<| b8 rfl<| (S9 (by decide)).mpr<| b8 rfl<| P0.mpr ⟨_,rfl,λz=>J5<| o7 rfl rfl ?_,λ_=>t8.mpr ⟨.non,rfl,.inl rfl,Fd.refl h,by rw[szD];lia⟩⟩;have z:=of_decide_eq_true z;have m8:8<=m:=by lia
 refine(pq (hD m8) hn hk h hc).mono ?_;rintro x G1 ⟨a,b,q⟩;exact⟨x,rfl,a,b,by lia⟩
def bi(hD:8<=m->Dn R n)(hn:n<=12)(hk:k-1=n)(hm:0<=m)(hy:370<=c\/m<8)(h:Dr G r)(hc:cnt G r<=240):Wp (smK R (smS r k w m A B C L .non)) G λfl G'=>∃E5,fl= .nx (smS r k w m A B C L E5)/\RsO n E5/\Fd r G G'/\szD E5+800*cnt G' r<=c+1+800*cnt G r:=by
 refine X3<| w6<| m7<| m7<| b8 rfl<| b8 rfl<| (Z7 ⟨by decide,by decide⟩).mpr<| b8 rfl<| P0.mpr ⟨_,rfl,λz=>J5<| o7 rfl rfl ?_,λ_=>t8.mpr ⟨.non,rfl,.inl rfl,Fd.refl h,by rw[szD];lia⟩⟩;have z:=of_decide_eq_true z;have m8:8<=m:=by lia
 refine(Ie (hD m8) hn hk h hc).mono ?_;rintro x G1 ⟨a,b,q⟩;exact⟨x,rfl,a,b,by lia⟩
abbrev HG:D:=.tup [.tup [],.str ("any" :Str)]
abbrev BV:D:=.tup [.tup [.tup [.non,.non]],.tup [.str ("but" :Str),.tup []],.tup [.bl false,.bl true]]
def DN(h:B4 s L E5=evS):D.tup [.tup (rsD s.ns),F6 s.b s.ts,trD s.f s.t]=BV/\L=HG/\E5=HG:=by have h:B4 s L E5= .tup [.tup [.tup [.non,.non]],.tup [.str ("but" :Str),.tup []],.tup [.bl false,.bl true],HG,HG]:=h;simp only[B4,D.tup.injEq,Zw]at h;obtain⟨a,b,c,d,e,_⟩:=h;exact⟨by rw[a,b,c],d,e⟩
def Cm(hl:vB s)(hL:PDx i L)(hK:PDx j E5):Wp (LH [.tup (rsD s.ns),F6 s.b s.ts,trD s.f s.t,L,E5]) G λx G'=>(x= .str D4\/x=B4 s L E5/\B4 s L E5≠evS)/\G'=G:=by
 refine K3 (show Wp (uM [some (.tup (rsD s.ns)),some (F6 s.b s.ts),some (trD s.f s.t),some L,some E5]) G _ from ?_);have no:B4 s L E5≠evS->Wp (u9 (X4 (S3 g0 x0 C0 C1 L8)) [some (.tup (rsD s.ns)),some (F6 s.b s.ts),some (trD s.f s.t),some L,some E5]) G (PB λx G'=>(x= .str D4\/x=B4 s L E5/\B4 s L E5≠evS)/\G'=G):=λh=>w5<| b8 rfl<| u5 ⟨.inr ⟨rfl,h⟩,rfl⟩;have anyE:PDx 2 HG:=M5 (by decide) (i4 (M5 (by decide) λ_ h=>nomatch h) E9);have allE:PDx 4 BV:=M5 (by decide) (all_cons (M5 (by decide) (all_cons (M5 (by decide) (i4 (.inl rfl) (.inl rfl))) λ_ h=>nomatch h)) (i4 (M5 (by decide) (i4 E9 (M5 (by decide) λ_ h=>nomatch h))) (M5 (by decide) (i4 iC iC))));obtain⟨k1,e1⟩:=ME (G:=G) 40 (M5 (by show 3<=1000;decide) λx hx=>(pS hl x hx).1) allE (.inl (by decide));obtain⟨k2,e2⟩:=ME (G:=G) 40 hL anyE (.inr (by decide));obtain⟨k3,e3⟩:=ME (G:=G) 40 hK anyE (.inr (by decide));have n1:k1=false->B4 s L E5≠evS:=λz h=>by rw[(DN h).1,VD 40 allE (by decide),z]at e1;cases e1
 have n2:k2=false->B4 s L E5≠evS:=λz h=>by rw[(DN h).2.1,VD 40 anyE (by decide),z]at e2;cases e2
 have n3:k3=false->B4 s L E5≠evS:=λz h=>by rw[(DN h).2.2,VD 40 anyE (by decide),z]at e3;cases e3
 refine d8.mpr<| X3<| w6<| m7<| b8 rfl<| b8 rfl<| LD.mpr ⟨k1,e1,_,rfl,λ_=>?_,λz=>t8.mpr (no (n1 z))⟩;exact X3<| qE<| w6<| m7<| b8 rfl<| b8 rfl<| LD.mpr ⟨k2,e2,_,rfl,λ_=>w6<| m7<| b8 rfl<| b8 rfl<| LD.mpr ⟨k3,e3,_,rfl,λ_=>w5<| b8 rfl<| u5 ⟨.inl rfl,rfl⟩,λz=>t8.mpr (no (n3 z))⟩,λz=>⟨λz=>(nomatch z),λ_=>t8.mpr (no (n2 z))⟩⟩
def Af(w0:0<=w)(w1:w<=10):∃m:Int,atI qH w=some (.int m)/\0<=m/\m<=31/\(w=0->m=1):=by
 obtain⟨n,rfl⟩:=yb w0;have:n=0\/n=1\/n=2\/n=3\/n=4\/n=5\/n=6\/n=7\/n=8\/n=9\/n=10:=by lia
 rcases this with rfl|rfl|rfl|rfl|rfl|rfl|rfl|rfl|rfl|rfl|rfl<;>exact⟨_,rfl,by decide,by decide,by decide⟩
def PX(h0:0<=m)(h1:m<=31)(hw:w=0->m=1):Wp (smD [sRf r,some (.int k),some (.int w),some (.int m),a,b,c,d,e]) G λfl G'=>G'=G/\∃m',fl= .nx [sRf r,some (.int k),some (.int w),some (.int m'),a,b,c,d,e]/\0<=m'/\(8<=m'->2<=k/\w≠0):=by refine X3<| w6<| m7<| b8 rfl<| b8 rfl<| lt_int.mpr ⟨_,rfl,λz=>J5<| m7<| m7<| b8 rfl<| b8 rfl<| (S9 (by decide)).mpr<| b8 rfl<| fB.mpr ⟨rfl,_,rfl,by lia,λz=>by lia⟩,λz=>t8.mpr ⟨rfl,m,rfl,h0,λz'=>?_⟩⟩;have z:=of_decide_eq_false z;exact⟨by lia,λe=>by have:=hw e;lia⟩
end
theorem KF:∀ {l},(∀x∈l,szD x<=b)->szL l<=b*l.length
|[],_=>by rw[szL];exact zO _
|d::l,h=>by have:=KF λx hx=>h x (ze _ hx);have:=h d (zg ..);rw[o5,zM,Nat.mul_succ];lia
def su(hl:vB s):szD (.tup (rsD s.ns))+szD (F6 s.b s.ts)+szD (trD s.f s.t)<=47:=by
 have hn:=hl.ln;have ht:=hl.lt;have so:∀a:Option Int,szD (i8 a)=1:=λa=>by cases a<;>(show szD _=1;rw[i8,szD])
 have h1:szD (.tup (rsD s.ns))<=28:=by
  rw[Q4];have:=KF (l:=rsD s.ns) λx hx=>by obtain⟨p,_,rfl⟩:=zk.mp hx;show szD (.tup [i8 p.1,i8 p.2])<=3;rw[Q4,o5,o5,J2,so,so];exact zh _
  have e:(rsD s.ns).length=s.ns.length:=zd ..;lia
 have h2:szD (F6 s.b s.ts)<=9:=by
  show szD (.tup [.str (wrd s.b),.tup (s.ts.map D.str)])<=9;have:=KF (l:=s.ts.map D.str) λx hx=>by obtain⟨p,_,rfl⟩:=zk.mp hx;rw[szD];exact zh _
  rw[zd]at this;rw[Q4,o5,o5,J2,Q4,show szD (.str (wrd s.b))=1 by rw[szD]];lia
 have h3:szD (trD s.f s.t)<=3:=by
  cases s.f<;>cases s.t<;>simp[trD,szD,szL]
 lia
theorem VW:∀n N,n<=N->n<=12->1<=n->Dn (Z5 N) n
|0,_,_,_,h=>(by lia)
|n+1,0,hN,_,_=>(by lia)
|n+1,N+1,hN,h13,_=>λG r k hk h hc=>by
  have ih:1<=n->Dn (Z5 N) n:=VW n N (by lia) (by lia);refine K3 (show Wp (IF (Z5 N) [sRf r,some (.int k),none,none,none,none,none,none,none]) G _ from ?_);rw[Dp];refine d8.mpr<| J5<| o7 rfl rfl<| rQ h (by decide) λw w0 w1 wz G1 f1 e1=>?_;have a1:szD (.str D4)=1:=by rw[szD]
  have a8:=lU;refine d8.mpr<| X3<| w6<| m7<| b8 rfl<| b8 rfl<| P0.mpr ⟨_,rfl,λ_=>w5<| b8 rfl<| u5 ⟨⟨NT n,trivial⟩,f1,by lia,by lia⟩,λz=>t8.mpr ?_⟩;have z:=of_decide_eq_false z;refine d8.mpr<| X3<| w6<| m7<| b8 rfl<| b8 rfl<| P0.mpr ⟨_,rfl,λ_=>w5<| b8 rfl<| u5 ⟨⟨kY (by lia),trivial⟩,f1,by lia,by lia⟩,λz=>t8.mpr ?_⟩;have z:=of_decide_eq_false z;obtain⟨m,em,m0,m1,mw⟩:=Af w0 (by lia);have f2:=f1.trans (Fd.app (t:= [.lst qH]) f1.2.2);have e2:cnt (G1++[.lst qH]) r=cnt G r-1:=(lB (zE f1.2.2.lt)).trans e1;refine d8.mpr<| J5<| m7<| b8 rfl<| b8 rfl<| (LA o4).mpr ⟨_,em,?_⟩;generalize G1++[DO.lst qH]=G2 at f2 e2 ⊢;refine d8.mpr<| (PX m0 m1 mw).mono ?_;rintro _ _ ⟨rfl,M,rfl,M0,M8⟩;refine Q8 (X1:=smS r k w M (.tup []) (F6 true []) (.tup []) .non .non) rfl ?_;refine d8.mpr<| (Wj f2.2.2).mono ?_;rintro _ G3 ⟨ns,rfl,can,sm,ln,f3⟩;refine d8.mpr<| (Bh f3.2.2).mono ?_;rintro _ G4 ⟨b,ts,rfl,rs,tx,lt,f4⟩;refine d8.mpr<| Wp.mono (Hx f4.2.2) ?_;rintro _ G5 ⟨f,t,rfl,f5⟩;have c3:=f3.c;have c4:=f4.c;have c5:=f5.c;obtain⟨c1,c2,k1,k2,k3⟩:∃c1 c2:Nat,(352<=c1\/M<8)/\(370<=c2\/M<8)/\c1+c2+800*(cnt G r-1)<=800*cnt G r:=by
   by_cases q:8<=M
   ·have:=(M8 q).2;have:cnt G r≠0:=λe=>this (wz e);exact⟨352,370,.inl (zh _),.inl (zh _),by lia⟩
   ·exact⟨0,0,.inr (by lia),.inr (by lia),by lia⟩
  have hD:8<=M->Dn (Z5 N) n:=λq=>ih (by have:=(M8 q).1;lia);have Oj:k-1=n:=by lia
  have hl:vB ⟨ns,b,ts,f,t⟩:=⟨can,sm,ln,rs,tx,lt⟩;refine d8.mpr<| (MX (by lia) hD Oj M0 k1 f5.2.2 (by lia)).mono ?_;rintro _ G6 ⟨L,rfl,hL,f6,b6⟩;have c6:=f6.c;refine d8.mpr<| (bi hD (by lia) Oj M0 k2 f6.2.2 (by lia)).mono ?_;rintro _ G7 ⟨K',rfl,hK,f7,b7⟩;have c7:=f7.c;refine w5<| o7 rfl rfl<| (Cm hl hL.pd.1 hK.pd.1).mono ?_;have ff:=((((f2.trans f3).trans f4).trans f5).trans f6).trans f7;have wf:=su hl;have wa:szD (B4 ⟨ns,b,ts,f,t⟩ L K')<=48+szD L+szD K':=by rw[Q4,o5,o5,o5,o5,o5,J2];lia
  rintro _ _ ⟨rfl|⟨rfl,ev⟩,rfl⟩
  ·exact u5 ⟨⟨NT n,trivial⟩,ff,by lia,by lia⟩
  ·exact u5 ⟨⟨rN hl hL hK ev (by lia) (by lia),trivial⟩,ff,by lia,by lia⟩
section
variable{G:DH}{d a p x y:D}
def aA:D->Bool
| .tup l=>l.all R1
|_=>false
def LV(h:AT G.length d)(hz:szD d<=zj):Ev (S7 [d]) G (aA d):=C6<| r8<| by
 have:aA d= (V6 d&&aA d):=by cases d<;>rfl
 rw[this];refine i9 (aF rfl h.there) λht G1 j1=>?_;obtain⟨l,rfl⟩:=RG ht;exact wD (λσ=>∃u,σ= [u]) R1 rfl (λ_ _=>rfl) (iJ hz) ⟨_,rfl⟩ λx hx σ G2 s j=>by obtain⟨u,rfl⟩:=s;exact R6.mpr ⟨rfl,⟨_,rfl⟩,Q2 rfl rfl (sS ((F8 h hx).le (j1.trans j).len))⟩
def M9:D->Bool
| .tup l=>l.all R1&&decide (l.length<=4)
|_=>false
def gN(h:AT G.length d)(hz:szD d<=zj):Ev (NG [d]) G (M9 d):=C6<| r8<| by
 have:M9 d= (aA d&&M9 d):=by
  cases d<;>try rfl
  rename_i l;show (l.all R1&&decide (l.length<=4))= (l.all R1&&(l.all R1&&decide (l.length<=4)))
  cases l.all R1<;>rfl
 rw[this];refine i9 (Q2 rfl rfl (LV h hz)) λha G1 j1 Q q=>?_;obtain⟨l,rfl⟩:∃l,d= .tup l:=by
  cases d with
  |tup l=>exact⟨l,rfl⟩
  |_=>cases ha
 refine m7<| B6 rfl<| mF.mpr<| b8 rfl<| leI.mpr ?_;have e:M9 (.tup l)=decide ((l.length:Int)<=4):=by show (l.all R1&&decide (l.length<=4))=_;rw[show l.all R1=true from ha,jD];exact decide_eq_decide.mpr (by lia)
 rw[e]at q;exact q G1 Ap.refl
def QC:D->Bool
| .tup l=>A3 nmD l
|_=>false
def sw{l:List D}(h:l.all R1=true)(G:DH):∀a∈l,∀b∈l,ltN 40 G a b=some (nmD a b):=by
 intro a ha b hb;have st:∀ {c:D},R1 c=true->∃z,c= .str z:=λ{c} h=>by
  cases c with
  |str z=>exact⟨z,rfl⟩
  |_=>cases h
 obtain⟨z,rfl⟩:=st (zH.mp h a ha);obtain⟨z',rfl⟩:=st (zH.mp h b hb);rfl
def Hm(h:aA d=true)(hz:szD d<=zj):Ev (W2 [d]) G (QC d):=by
 obtain⟨l,rfl⟩:∃l,d= .tup l:=by
  cases d with
  |tup l=>exact⟨l,rfl⟩
  |_=>cases h
 exact Ev.mk (EV (iJ hz) (sw h))
def t3(w:Str)(x:D):Bool:=if w==("same" :Str)then false else if w==("only" :Str)then aA x&&QC x else ((w==("in" :Str))||(w==("wish" :Str)))&&okS x
def LC:D->D->D->Bool
| .str w,p,x=>M9 p&&t3 w x
|_,_,_=>false
def RC:D->D->D->D->Bool
| .str w,p,x,y=>M9 p&&(w==("same" :Str)&&(M9 x&&KD y))
|_,_,_,_=>false
def nR(h:V6 d=false)(ht:r6 G d):Ev (O5 [d]) G false:=C6<| by
 unfold wG;have t:EvT (J7 (U2 v4 g0 (cE (.ty "tuple"))) [some d]) G false:=h▸C5 (aF rfl ht);exact GB (x:=false&&true) (y:=true) (C7 t λz=>nomatch z) λz=>nomatch z
def AF(ha:AT G.length a)(hp:AT G.length p)(zp:szD p<=zj)(hx:Tg G.length 38 x):Ev (O5 [.tup [a,p,x]]) G (LC a p x):=C6<| by
 have bg:=big;have zx:szD x<=zj:=zq hx.sz (by lia);unfold wG;have e:LC a p x= ((true&&(true&&(bB a&&M9 p)))&&LC a p x):=by
  cases a<;>try rfl
  show (M9 p&&t3 _ x)= ((M9 p)&&(M9 p&&t3 _ x))
  cases M9 p<;>rfl
 rw[e];refine GB (C7 (EvT.of rfl) λ_ G1 j1=>C7 (EvT.of rfl) λ_ G2 j2=>C7 (C5 (wN (EC (ix0 rfl rfl) rfl) (nC ha (j1.trans j2)))) λhs G3 j3=>C5 (Q2 (P5 (ix0 rfl rfl)) rfl (gN (hp.le (j1.trans (j2.trans j3)).len) zp))) λha G4 j4=>?_;rw[jD,jD,zy]at ha;obtain⟨w,rfl⟩:=CM ha.1;have jj:=j4;have et:LC (.str w) p x=t3 w x:=by show (M9 p&&t3 w x)=_;rw[ha.2,jD]
 rw[et];have eqw:∀(z:Str) (G':DH),EvT (sA (m9 eqD (ixE g0 S0) (cE (.str z))) [some (.tup [.str w,p,x])]) G' (w==z):=λz G'=>iF λQ q=>m7<| b8 rfl<| b8 rfl<| OI.mpr (q G' Ap.refl);refine rB (eqw _ _) (λe G5 j5=>?_) λe G5 j5=>?_
 ·have:t3 w x= (false&&true):=by unfold t3;rw[if_pos e];rfl
  rw[this];exact i9 (Ev.of rfl) λz=>nomatch z
 refine rB (EvT.of rfl) (λz=>nomatch z) λ_ G6 j6=>?_;refine rB (eqw _ _) (λe' G7 j7=>?_) λe' G7 j7=>?_
 ·have:t3 w x= (aA x&&QC x):=by unfold t3;rw[if_neg (by rw[e];exact zZ),if_pos e']
  rw[this];exact i9 (Q2 (P5 (ix0 rfl rfl)) rfl (LV (hx.at'.le (jj.trans (j5.trans (j6.trans j7))).len) zx)) λhr G8 j8=>Q2 (P5 (ix0 rfl rfl)) rfl (Hm hr zx)
 ·have:t3 w x= ((w==("in" :Str)||w==("wish" :Str))&&okS x):=by unfold t3;rw[if_neg (by rw[e];exact zZ),if_neg (by rw[e'];exact zZ)]
  rw[this];refine r8 (i9 ?_ λ_ G8 j8=>Q2 (P5 (ix0 rfl rfl)) rfl (Bp (hx.up (jj.trans (j5.trans (j6.trans (j7.trans j8)))).len (zh _)) (by decide)));refine λQ q=>m7<| b8 rfl<| b8 rfl<| b8 (a:=.bl (inV (toV (.str w)) [toV (.str ("in" :Str)),toV (.str ("wish" :Str))])) rfl ?_;have:inV (toV (.str w)) [toV (.str ("in" :Str)),toV (.str ("wish" :Str))]= (w==("in" :Str)||w==("wish" :Str)):=by show ((("in" :Str)==w)||((("wish" :Str)==w)||false))=_;rw[Bool.or_false,BEq.comm,BEq.comm (a:=("wish" :Str))]
  rw[this];exact q G7 Ap.refl
def fN(ha:AT G.length a)(hp:AT G.length p)(zp:szD p<=zj)(hx:AT G.length x)(zx:szD x<=zj)(hy:AT G.length y):Ev (O5 [.tup [a,p,x,y]]) G (RC a p x y):=C6<| by
 have bg:=big;unfold wG;have e:RC a p x y= ((true&&(true&&(bB a&&M9 p)))&&RC a p x y):=by
  cases a<;>try rfl
  show (M9 p&&_)= ((M9 p)&&(M9 p&&_))
  cases M9 p<;>rfl
 rw[e];refine GB (C7 (EvT.of rfl) λ_ G1 j1=>C7 (EvT.of rfl) λ_ G2 j2=>C7 (C5 (wN (EC (ix0 rfl rfl) rfl) (nC ha (j1.trans j2)))) λhs G3 j3=>C5 (Q2 (P5 (ix0 rfl rfl)) rfl (gN (hp.le (j1.trans (j2.trans j3)).len) zp))) λha G4 j4=>?_;rw[jD,jD,zy]at ha;obtain⟨w,rfl⟩:=CM ha.1;have et:RC (.str w) p x y= (w==("same" :Str)&&(M9 x&&KD y)):=by show (M9 p&&_)=_;rw[ha.2,jD]
 rw[et];refine rB (iF λQ q=>m7<| b8 rfl<| b8 rfl<| OI.mpr (q G4 Ap.refl)) (λe G5 j5=>?_) λe G5 j5=>?_
 ·rw[e];exact i9 (Ev.of rfl) λ_ G6 j6=>i9 (Q2 (P5 (ix0 rfl rfl)) rfl (gN (hx.le (j4.trans (j5.trans j6)).len) zx)) λ_ G7 j7=>Q2 (P5 (ix0 rfl rfl)) rfl (QW (nC hy (j4.trans (j5.trans (j6.trans j7)))))
 ·rw[e];exact λQ q=>(rB (x:=true) (EvT.of rfl) (λ_ G6 j6=>Ev.of rfl) λz=>nomatch z) Q q
end
section
variable{G:DH}{r:Nat}
def NmP(z:Str):Prop:=TxL z/\0<z.length
def fV(h:NmP z):R1 (.str z)=true:=UQ h.1 h.2
theorem MK:∀items u G,Dr G r->
 Wp (K7 T0 J4 (D0 O6 x0) (λ_=>true) items [u,sRf r]) G λys G'=>∃zs:List Str,ys=zs.map D.str/\(∀z∈zs,NmP z)/\zs.length=items.length/\Fd r G G'
 |[],u,G,h=>Z4.mpr ⟨rfl, [],rfl,λ_ h=>(nomatch h),rfl,Fd.refl h⟩
 |d::l,u,G,h=>by refine Z6.mpr ⟨rfl,b8 rfl<| b8 rfl ?_⟩;rw[if_pos rfl];refine o7 rfl rfl<| (MM h).mono ?_;rintro _ G1 ⟨z,rfl,hz,z0,f1⟩;refine(MK l _ G1 f1.2.2).mono ?_;rintro _ G2 ⟨zs,rfl,hs,hl,f2⟩;exact⟨z::zs,rfl,λy hm=>(zn.mp hm).elim (λe=>e▸⟨hz,z0⟩) (hs y),by simp[hl],f1.trans f2⟩
def gR(h:Dr G r):Wp (Z8 [.ref r]) G λx G'=>∃zs:List Str,x= .tup (zs.map D.str)/\(∀z∈zs,NmP z)/\zs.length<=4/\Fd r G G':=by
 have bg:=big;refine K3 (show Wp (ML [sRf r]) G _ from ?_);refine w5<| O2<| m5<| wp_comp.mpr<| fA.mpr<| m5<| m7<| b8 (G':=G++[.lst ([1,0,2,3,4,1,2,1].map D.int)]) rfl<| O2<| m5<| b8 rfl<| b8 rfl<| V0.mpr ⟨rfl,?_⟩;refine CB h rfl (by decide) λd hd G1 f1=>?_;obtain⟨i,hi,rfl⟩:=zk.mp hd;have hb:0<=i/\i<=4:=by
  have:∀i∈ [(1:Int),0,2,3,4,1,2,1],0<=i/\i<=4:=by decide
  exact this i hi
 obtain⟨c,rfl⟩:=yb hb.1;have lr:(J9 0 ((c:Int)).toNat).length=c:=by unfold J9;rw[zd,zV];lia
 refine o8.mpr<| (X7 ⟨by lia,by lia⟩).mpr ⟨by rw[lr];lia,(MK (J9 0 (c:Int).toNat) none G1 f1.2.2).mono ?_⟩;rintro _ G2 ⟨zs,rfl,hs,hl,f2⟩;rw[lr]at hl;exact o8.mpr<| (eD o4).mpr<| u5 ⟨zs,rfl,hs,by lia,(f1.trans f2).trans (Fd.app f2.2.2)⟩
def BI{zs:List Str}(h:∀z∈zs,NmP z)(hl:zs.length<=4):M9 (.tup (zs.map D.str))=true:=by show ((zs.map D.str).all R1&&decide ((zs.map D.str).length<=4))=true;rw[zd,decide_eq_true hl,yr];refine zH.mpr λx hx=>?_;obtain⟨z,hz,rfl⟩:=zk.mp hx;exact fV (h z hz)
def uj{zs:List Str}(h:∀z∈zs,NmP z):aA (.tup (zs.map D.str))=true:=by refine zH.mpr λx hx=>?_;obtain⟨z,hz,rfl⟩:=zk.mp hx;exact fV (h z hz)
def BY{zs:List Str}(h:zs.Pairwise λa b=>a.cps.toList<b.cps.toList):QC (.tup (zs.map D.str))=true:=
 dG _ (jv.mpr (h.imp λh=>decide_eq_true h))
def EN:∀zs:List Str,c8 (zs.map D.str)=some zs
|[]=>rfl
|z::zs=>congrArg (Option.map (z :: ·)) (EN zs)
end
theorem DR:∀(l ss:List Str),ss.Nodup->(l.foldl ddT ss).Nodup/\∀z∈l.foldl ddT ss,z∈ss\/z∈l
|[],ss,h=>⟨h,λz hz=>.inl hz⟩
|k::l,ss,h=>by
  rw[xi];have h1:(ddT ss k).Nodup/\∀z∈ddT ss k,z∈ss\/z=k:=by
   unfold ddT;split
   ·exact⟨h,λz hz=>.inl hz⟩
   ·rename_i c;refine⟨Yy.mpr ⟨h,by simp,λa ha b hb e=>c ?_⟩,λz hz=>(zB.mp hz).imp id λh=>zi.mp h⟩;rw[zi.mp hb]at e;exact e▸ha
  obtain⟨n1,n2⟩:=DR l _ h1.1;refine⟨n1,λz hz=>?_⟩;rcases n2 z hz with h|h
  ·rcases h1.2 z h with h|rfl
   ·exact .inl h
   ·exact .inr (zg ..)
  ·exact .inr (ze _ h)
section
variable{G:DH}{r:Nat}{Q:DPP}
def Rx(e:G[r]? =some (.lst l))(hs:c8 l=some ss)(Nn:ss.length<64)(q:Q (.ref G.length) (G++[.lst ((W5 (ss.foldl ddT [])).map .str)])):Wp (cK (.ref r)) G Q:=by unfold cK;simp only[m6,O8,e,O9,rA,hs,if_pos Nn,U4];exact q
structure CD(zs:List Str):Prop where
 nm:∀z∈zs,NmP z
 pw:zs.Pairwise λa b=>a.cps.toList<b.cps.toList
 l:zs.length<=60
def OS:z∈W5 ss↔z∈ss:=(jL ss leS).mem_iff
def bV:(W5 ss).length=ss.length:=(jL ss leS).length_eq
def CD.set{zs:List Str}(h:∀z∈zs,NmP z)(hl:zs.length<=60):CD (W5 (zs.foldl ddT [])):=by
 obtain⟨n1,n2⟩:=DR zs [] xa;refine⟨λz hz=>?_,fL n1,?_⟩
 ·rcases n2 z (OS.mp hz)with h'|h'
  ·cases h'
  ·exact h z h'
 ·have:=nH zs [];rw[bV];simp only[yE]at this;lia
def KU{lo hi:Option Int}(h:c∈tl (jK z lo hi)):c∈tl z:=by
 unfold jK at h;split at h
 ·exact h
 ·have h:c∈(Zt lo hi 1 z.length).filterMap (λi=>z.cps[i]?):=h;obtain⟨i,_,hi⟩:=Ze.mp h;rw[<-zN]at hi;exact jz hi
def prS(i:Nat):Str:=ofL [97+i % 26,97+i / 26]
def gB(P S:Str)(i:Nat):Str:=P++prS i++S
def FK(P S:Str)(i:Nat):tl (gB P S i)=tl P++[97+i % 26,97+i / 26]++tl S:=by unfold gB;rw[show tl (P++prS i++S)=tl (P++prS i)++tl S from ZQ,show tl (P++prS i)=tl P++tl (prS i)from ZQ];rfl
def wy(h:gB P S i=gB P S j):i=j:=by have h:=congrArg tl h;rw[FK,FK]at h;have h:=List.append_cancel_left (List.append_cancel_right h);simp only[Zw,and_true]at h;lia
def Sk(hP:TxL P)(hS:TxL S)(l:P.length+S.length<=38)(hi:i<60):NmP (gB P S i):=by
 have e:=FK P S i;have el:(gB P S i).length=P.length+2+S.length:=by have:=congrArg Zf e;rw[zv,zv]at this;exact this
 refine⟨⟨λc hc=>?_,by lia⟩,by lia⟩;rw[e]at hc;rcases zB.mp hc with hc|hc
 ·rcases zB.mp hc with hc|hc
  ·exact hP.1 c hc
  ·simp only[zn,zF,or_false]at hc;rcases hc with rfl|rfl<;>lia
 ·exact hS.1 c hc
def fR(h0:0<=k)(h1:k<26)(q:Q (.str ⟨#[97+k.toNat]⟩) G):Wp (ixD (.str abc) (.int k)) G Q:=by obtain⟨n,rfl⟩:=yb h0;obtain⟨e,l⟩:=eV n (by lia);have:=dQ e (by decide) q;rw[l]at this;exact this
def Al{i:Nat}(hi:i<60):naP [some (.int i),some (.str abc)] G=some (.ok (.str (prS i)),G):=W7<| m7<| m7<| b8 rfl<| m7<| b8 rfl<| b8 rfl<| (S9 (by decide)).mpr<| fR (by lia) (by lia)<| m7<| b8 rfl<| m7<| b8 rfl<| b8 rfl<| (Z7 ⟨by decide,by decide⟩).mpr<| fR (by lia) (by lia)<| (rJ (zq (by decide:2<=1000000) (yj big))).mpr ⟨by
 have e1:((i:Int) % 26).toNat=i % 26:=by lia
 have e2:((i:Int) / 26).toNat=i / 26:=by lia
 rw[e1,e2];rfl,rfl⟩
theorem vM{e:Fe}(Mn:ck G=true):∀(l:List α) u,(∀x∈l,e (some (mk x)::b) G=some (.ok (f x),G))->K7 T0 J4 e ck (l.map mk) (u::b) G=some (.ok (l.map f),G)
|[],u,h=>W7 (Z4.mpr ⟨Mn,rfl,rfl⟩)
| x :: r, u, h => W7 (Z6.mpr ⟨Mn, b8 rfl <| b8 rfl <| by
   rw[if_pos rfl];exact b8 (h x (zg ..))<| b8 (vM Mn r _ λy hy=>h y (ze _ hy)) ⟨rfl,rfl⟩⟩)
def mz:TH=o6 naM (gdQ (tBn ltD x0 wA) (N0 Z9 (mG (J8 (T5 (A1 x0)) [none,some 0] T0 J4 (D0 O6 x0)))) (asQ (J3 (D0 O6 g0) J6 (N5 dA)) B2 (asQ (F0 j9 g0 (m9 K4 (N0 A2 C0) B0)) m4 (asQ (cE (.str abc)) F5 (asQ (J8 (T5 (A1 x0)) [none,some 4] T0 J4 naP) L4 (u9 (N0 Z9 (N0 B9 (J8 (itW P3) [none,some 3,some 2] T0 J4 naQ))))))))):=rfl
def Vg(hz:z.length<=8):naQ [some (.str (prS i)),some (.int a),some (.str z)] G=some (.ok (.str (gB (jK z none (some a)) (jK z (some a) none) i)),G):=by
 have bg:=big;have l1:=pJ (z:=z) (lo:=none) (hi:=some a);have l2:=pJ (z:=z) (lo:=some a) (hi:=none);have lp:(prS i).length=2:=rfl;have e1:(jK z none (some a)++prS i).length= (jK z none (some a)).length+2:=by have:=congrArg Zf (show tl (jK z none (some a)++prS i)=tl (jK z none (some a))++tl (prS i)from ZQ);rw[zv]at this;exact this
 refine W7<| m7<| m7<| pC.mpr<| b8 rfl<| b8 rfl<| b8 rfl<| (DJ (by lia)).mpr<| b8 rfl<| (rJ (by lia)).mpr<| pC.mpr<| b8 rfl<| b8 rfl<| b8 rfl<| (DJ (by lia)).mpr<| (rJ (by rw[e1];lia)).mpr ⟨rfl,rfl⟩
def Cj(h:Dr G r):Wp (IG [.ref r]) G λx G'=>∃zs,x= .tup (zs.map D.str)/\CD zs/\Fd r G G':=by
 have bg:=big;refine K3 (show Wp (TH [sRf r,none,none,none,none,none]) G _ from ?_);rw[mz];refine d8.mpr<| J5<| m7<| b8 (G':=G++[.lst ([1,0,2,3,4,5,9,60].map D.int)]) rfl<| O2<| m5<| b8 rfl<| b8 rfl<| V0.mpr ⟨rfl,?_⟩;refine CB h rfl (by decide) λd hd G1 f1=>?_;obtain⟨i,hi,rfl⟩:=zk.mp hd;have hb:0<=i/\i<=60:=by
  have:∀i∈ [(1:Int),0,2,3,4,5,9,60],0<=i/\i<=60:=by decide
  exact this i hi
 obtain⟨c,rfl⟩:=yb hb.1;have lr:(J9 0 ((c:Int)).toNat).length=c:=by unfold J9;rw[zd,zV];lia
 refine d8.mpr<| X3<| w6<| m7<| b8 rfl<| b8 rfl<| lt_int.mpr ⟨_,rfl,λ_=>?_,λ_=>t8.mpr ?_⟩
 ·refine w5<| O2<| m5<| (show Wp (mG _ _) G1 _ from ?_);unfold mG;refine m6.mpr<| wp_comp.mpr<| fA.mpr<| b8 rfl<| (X7 ⟨by lia,by lia⟩).mpr ⟨by rw[lr];lia,(MK (J9 0 (c:Int).toNat) none G1 f1.2.2).mono ?_⟩;rintro _ G2 ⟨zs,rfl,hs,hl,f2⟩;rw[lr]at hl;exact Rx o4 (EN zs) (by lia)<| o8.mpr<| (eD o4).mpr<| u5 ⟨_,rfl,CD.set hs (by lia),((f1.trans f2).trans (Fd.app f2.2.2)).trans (Fd.app f2.2.2.app)⟩
 refine d8.mpr<| J5<| pC.mpr<| o7 rfl rfl<| (MM f1.2.2).mono ?_;rintro _ G2 ⟨z,rfl,hz,z0,f2⟩;have h40:=hz.2;obtain⟨s1,s2⟩:=FO z 6;have s6:(jK z none (some 6)).length<=6:=by
  have:(jK z none (some ((6:Nat):Int))).length<=6:=by
   unfold jK;rw[nT];split
   ·rename_i e;rw[zy]at e;have e:=YC e.2;rw[zV]at e;lia
   ·show ((zP (min 6 z.length)).filterMap (λi=>z.cps[i]?)).length<=_;refine zq (List.length_filterMap_le ..) ?_;rw[zV];lia
  exact this
 refine b8 rfl<| b8 rfl<| (DJ (by lia)).mpr ?_;have tx:TxL (jK z none (some 6)):=⟨λc hc=>hz.1 c (s1 c hc),zq s6 (by decide)⟩;generalize jK z none (some 6)=y at tx s6;refine d8.mpr<| J5<| O2<| m5<| b8 rfl<| m5<| m7<| B6 rfl<| (fH (by lia)).mpr<| b8 rfl<| fB.mpr<| o8.mpr<| V0.mpr ⟨rfl,T4 f2.2.2 (by lia) λa a0 a1 G3 f3=>?_⟩;have f03:=(f1.trans f2).trans f3;refine Q8 (X1:= [sRf r,sIi c,some (.str y),some (.int a),some (.str abc),none]) rfl ?_;refine d8.mpr<| J5<| wp_comp.mpr<| fA.mpr<| b8 rfl<| (X7 ⟨by lia,by lia⟩).mpr ⟨by rw[lr];lia,?_⟩;rw[jR,mR];refine b8 (vM rfl (zP c) none λi hi=>Al (by have:=jy.mp hi;lia)) ?_;refine w5<| O2<| m5<| O2<| m5<| wp_comp.mpr<| wp_itW.mpr<| b8 rfl<| (aC o4).mpr ⟨by rw[zd,zV];lia,?_⟩;refine b8 (vM (wC o4) (zP c) none λi hi=>Vg (by lia)) ?_;have l1:=pJ (z:=y) (lo:=none) (hi:=some a);have l2:=pJ (z:=y) (lo:=some a) (hi:=none);have tP:TxL (jK y none (some a)):=⟨λc hc=>tx.1 c (KU hc),by lia⟩;have tS:TxL (jK y (some a) none):=⟨λc hc=>tx.1 c (KU hc),by lia⟩;generalize jK y none (some a)=P at tP l1 ⊢;generalize jK y (some a) none=S at tS l2 ⊢;have es:c8 ((zP c).map λi=>D.str (gB P S i))=some ((zP c).map (gB P S)):=by have:=EN ((zP c).map (gB P S));rw[jF]at this;exact this
 refine o8.mpr<| (vm o4 es (by rw[zd,zV];lia)).mpr<| o8.mpr<| (eD o4).mpr<| u5 ⟨_,rfl,⟨λx hx=>?_,fL ?_,by rw[bV,zd,zV];lia⟩,(f03.trans (Fd.app f03.2.2)).trans ((Fd.app f03.2.2.app).trans (Fd.app f03.2.2.app.app))⟩
 ·obtain⟨i,hi,rfl⟩:=zk.mp (OS.mp hx);exact Sk tP tS (by lia) (by have:=jy.mp hi;lia)
 ·exact jv.mpr (Jj.imp λh e=>h (wy e))
end
structure uA(zs:List Str):Prop where
 nm:∀z∈zs,NmP z
 l:zs.length<=4
abbrev K6(zs:List Str):D:=.tup (zs.map D.str)
inductive ID:D->Prop
|set (w:Str) (zs:List Str) (x:D):w= ("in" :Str)\/w= ("wish" :Str)->uA zs->Os 4 x->szD x<=200000->ID (.tup [.str w,K6 zs,x])
|same (zs ys:List Str) (n:Int):uA zs->uA ys->ID (.tup [.str ("same" :Str),K6 zs,K6 ys,.int n])
|only (zs ns:List Str):uA zs->CD ns->ID (.tup [.str ("only" :Str),K6 zs,K6 ns])
section
variable{G:DH}{r:Nat}{Q:DPP}
def teS(w:Str):Fs:=(u9 (y7 (cE (.str w)) C0 (F0 U7 g0 Q1)))
def cb:tH=o6 (M3 (F0 j9 g0 dA) i3) (asQ (D0 Z8 g0) B2 (o6 (ifS (tBn ltD x0 O0) (teS "in") M7) (gdQ (tBn ltD x0 Q1) (X4 (nG (cSt "same") C0 (D0 Z8 g0) teN)) (gdQ (tBn eqD x0 Q1) (y7 (cSt "only") C0 (D0 IG g0)) (teS "wish"))))):=rfl
def FU(hw:w= ("in" :Str)\/w= ("wish" :Str))(hp:uA zs)(h:Dr G r)(hc:cnt G r<=240)(q:∀x G',ID x->Fd r G G'->P (.rt x) G'):Wp (teS w [sRf r,some (.int k),some (K6 zs)]) G P:=by refine w5<| R7.mpr<| m5<| b8 rfl<| m5<| b8 rfl<| m5<| o7 rfl rfl<| (VW 4 8 (by decide) (by decide) (by decide) G r 4 rfl h hc).mono ?_;rintro x G1 ⟨⟨hx,_⟩,f1,b1⟩;exact o8.mpr ⟨sz,q _ _ (.set w zs x hw hp hx (by lia)) f1⟩
def kr(h:Dr G r)(hc:cnt G r<=240):Wp (pH [.ref r]) G λx G'=>ID x/\Fd r G G':=by
 refine K3 (show Wp (tH [sRf r,none,none]) G _ from ?_);rw[cb];refine d8.mpr<| J5<| o7 rfl rfl<| T4 h (by decide) λk k0 k1 G1 f1=>?_;have c1:=f1.c;refine d8.mpr<| J5<| o7 rfl rfl<| (gR f1.2.2).mono ?_;rintro _ G2 ⟨zs,rfl,hs,hl,f2⟩;have c2:=f2.c;have hp:uA zs:=⟨hs,hl⟩;refine d8.mpr<| X3<| w6<| m7<| b8 rfl<| b8 rfl<| lt_int.mpr ⟨_,rfl,λ_=>FU (.inl rfl) hp f2.2.2 (by lia) λx G' a b=>u5 ⟨a,(f1.trans f2).trans b⟩,λ_=>t8.mpr ?_⟩;refine d8.mpr<| X3<| w6<| m7<| b8 rfl<| b8 rfl<| lt_int.mpr ⟨_,rfl,λ_=>?_,λ_=>t8.mpr ?_⟩
 ·refine w5<| R7.mpr<| m5<| b8 rfl<| m5<| b8 rfl<| m5<| o7 rfl rfl<| (gR f2.2.2).mono ?_;rintro _ G3 ⟨ys,rfl,hs',hl',f3⟩;refine m5<| m7<| bC.mpr<| m5<| b8 rfl<| m5<| b8 rfl<| m5<| o7 rfl rfl<| (VF f3.2.2).mono ?_;rintro _ G4 ⟨i,rfl,_,f4⟩;refine o8.mpr ⟨sz,O2<| m5<| b8 rfl<| b8 rfl<| V0.mpr ⟨rfl,?_⟩⟩;refine CB f4.2.2 rfl (by decide) λd hd G5 f5=>?_;obtain⟨n,rfl⟩:∃n,d= .int n:=by
   simp only[zn,zF,or_false]at hd;rcases hd with rfl|rfl|rfl
   ·exact⟨_,rfl⟩
   ·exact⟨_,rfl⟩
   ·exact⟨_,rfl⟩
  exact o8.mpr ⟨sz,u5 ⟨.same zs ys n hp ⟨hs',hl'⟩,(((f1.trans f2).trans f3).trans f4).trans f5⟩⟩
 refine d8.mpr<| X3<| w6<| m7<| b8 rfl<| b8 rfl<| P0.mpr ⟨_,rfl,λ_=>?_,λ_=>t8.mpr (FU (.inr rfl) hp f2.2.2 (by lia) λx G' a b=>u5 ⟨a,(f1.trans f2).trans b⟩)⟩;refine w5<| R7.mpr<| m5<| b8 rfl<| m5<| b8 rfl<| m5<| o7 rfl rfl<| (Cj f2.2.2).mono ?_;rintro _ G3 ⟨ns,rfl,hn,f3⟩;exact o8.mpr ⟨sz,u5 ⟨.only zs ns hp hn,(f1.trans f2).trans f3⟩⟩
def VB(h:∀z∈zs,NmP z):AT 0 (K6 zs):=R9 λx hx=>by obtain⟨z,hz,rfl⟩:=zk.mp hx;exact IM (h z hz).1
def lC(zs:List Str):szD (K6 zs)=1+zs.length:=by
 show szD (.tup (zs.map D.str))=_;rw[Q4];congr 1
 induction zs with
 |nil=>rw[xP,J2];rfl
 |cons z l ih=>rw[zT,o5,ih,szD,zM,Nat.add_comm]
def GU(zs:List Str)(hl:zs.length<=1000):PDx 2 (K6 zs):=M5 (by rw[zd];exact hl) λx hx=>by obtain⟨z,hz,rfl⟩:=zk.mp hx;exact E9
def iO(h:∀z∈zs,NmP z)(hl:zs.length<=1000)(m:Nat):Tg m 38 (K6 zs):=⟨u7 (VB h) m,(b9 (GU zs hl)).1,zq (b9 (GU zs hl)).2 (by decide),by rw[lC];lia⟩
def A6(z:Str)(hz:z.length<=1000)(n:Nat):AT n (.str z):=by rw[AT];exact hz
def Os.tg4(h:Os 4 x)(hz:szD x<=200000)(m:Nat):Tg m 38 x:=(h.tg (by lia) m).up (zh _) (by decide)
def Go(h:ID d):Ev (O5 [d]) G true:=by
 have bg:=big
 cases h with
 |set w zs x hw hp hx hz=>
   have e:=AF (G:=G) (A6 w (by rcases hw with rfl|rfl<;>decide) _) (u7 (VB hp.nm) _) (by rw[lC];have:=hp.l;lia) (hx.tg4 hz _);have:LC (.str w) (K6 zs) x=true:=by
    show (M9 (K6 zs)&&t3 w x)=true;rw[BI hp.nm hp.l,jD];rcases hw with rfl|rfl
    ·show (true&&okS x)=true;rw[hx.1];rfl
    ·show (true&&okS x)=true;rw[hx.1];rfl
   rw[this]at e;exact e
 |same zs ys n hp hy=>
   have e:=fN (a:=.str ("same" :Str)) (y:=.int n) (G:=G) (A6 _ (by decide) _) (u7 (VB hp.nm) _) (by rw[lC];have:=hp.l;lia) (u7 (VB hy.nm) _) (by rw[lC];have:=hy.l;lia) (by rw[AT];trivial);have:RC (.str ("same" :Str)) (K6 zs) (K6 ys) (.int n)=true:=by show (M9 (K6 zs)&&(true&&(M9 (K6 ys)&&true)))=true;rw[BI hp.nm hp.l,BI hy.nm hy.l];rfl
   rw[this]at e;exact e
 |only zs ns hp hn=>
   have e:=AF (a:=.str ("only" :Str)) (G:=G) (A6 _ (by decide) _) (u7 (VB hp.nm) _) (by rw[lC];have:=hp.l;lia) (iO hn.nm (by have:=hn.l;lia) _);have:LC (.str ("only" :Str)) (K6 zs) (K6 ns)=true:=by show (M9 (K6 zs)&&(aA (K6 ns)&&QC (K6 ns)))=true;rw[BI hp.nm hp.l,uj hn.nm,BY hn.pw];rfl
   rw[this]at e;exact e
def oA(h1:C.length<=100)(h2:B.length<=100)(e1:f σ G=some (.ok (.tup C),G))(e2:g σ G=some (.ok (.tup B),G))(q:Q (.tup (C++B)) G):Wp (m9 K4 f g σ) G Q:=by have bg:=big;exact m7<| b8 e1<| b8 e2<| (TB (by lia)).mpr q
abbrev c3(zs:List Str):List D:=DL.cutD (zs.map D.str) none (some 3)
def bpA(a:Nat)(zs:List Str):List D:= [.ref a,.tup (zs.map D.str++[.str "a",.str "b",.str "c",.str "d",.str "e"]),.tup (c3 zs++[.str ""]),.tup (c3 zs++[.str "aB"]),.tup (c3 zs++[.int 3])]
def bpB(zs:List Str):List D:= [.tup (c3 zs++[.tup [.str "a"]]),.tup (.str "a b" :: c3 zs),.non,.str "a",.tup (c3 zs++[.non])]
def cV(zs:List Str):(c3 zs).length<=zs.length:=zq (bY ..) (by rw[zd];exact zh _)
def qd(h:x∈c3 zs):∃z∈zs,x= .str z:=by have h:x∈zs.map D.str:=ZJ (Xp h);obtain⟨z,hz,rfl⟩:=zk.mp h;exact⟨z,hz,rfl⟩
structure nK(x:D)(n:Nat):Prop where
 no:M9 x=false
 at':AT n x
 sz:szD x<=100
def dP(hx:x∈l)(h:R1 x=false):M9 (.tup l)=false:=by
 show (l.all R1&&_)=false;have:l.all R1=false:=by
  cases e:l.all R1 with
  |false=>rfl
  |true=>rw[zH.mp e x hx]at h;cases h
 rw[this];rfl
def pv(h:∀x∈l,szD x<=5):szL l<=5*l.length:=KF h
def cM(hl:l.length<=19)(h:∀x∈l,AT n x/\szD x<=5)(no:M9 (.tup l)=false):nK (.tup l) n:=⟨no,WC.mpr λx hx=>(h x hx).1,by
 have:=pv λx hx=>(h x hx).2;rw[Q4];lia⟩
def OD(h:z.length<=1000):AT n (.str z)/\szD (.str z)<=5:=⟨A6 z h n,by rw[szD];decide⟩
def kg(hp:uA zs)(ha:a<n):∀x∈bpA a zs++bpB zs,nK x n:=by
 have hl:=hp.l;have l3:=cV zs;have m3:∀x∈c3 zs,AT n x/\szD x<=5:=λx hx=>by obtain⟨z,hz,rfl⟩:=qd hx;exact OD (zq (hp.nm z hz).1.2 (by decide))
 have tail:∀y:D,AT n y/\szD y<=5->R1 y=false->nK (.tup (c3 zs++[y])) n:=λy hy hn=>cM (by rw[zv];show _+1<=_;lia) (λx hx=>(zB.mp hx).elim (m3 x) λh=>zi.mp h▸hy) (dP (zS _ (List.mem_singleton_self y)) hn);have n5:AT n D.non/\szD D.non<=5:=⟨by rw[AT];trivial,by rw[szD];decide⟩;intro x hx;simp only[bpA,bpB,List.cons_append,List.nil_append,zn,zF,or_false]at hx;rcases hx with rfl|rfl|rfl|rfl|rfl|rfl|rfl|rfl|rfl|rfl
 ·exact⟨rfl,by rw[AT];exact ha,by rw[szD];decide⟩
 ·refine cM (by rw[zv,zd];show _+5<=_;lia) (λx hx=>(zB.mp hx).elim (λh=>?_) λh=>?_) ?_
  ·obtain⟨z,hz,rfl⟩:=zk.mp h;exact OD (zq (hp.nm z hz).1.2 (by decide))
  ·simp only[zn,zF,or_false]at h;rcases h with rfl|rfl|rfl|rfl|rfl<;>exact OD (by decide)
  ·show (_&&decide _)=false;rw[decide_eq_false (by rw[zv];show ¬_+5<=4;lia),jH]
 ·exact tail _ (OD (by decide)) (by decide)
 ·exact tail _ (OD (by decide)) (by decide)
 ·exact tail _ ⟨by rw[AT];trivial,by rw[szD];decide⟩ rfl
 ·exact tail _ ⟨u7 (R9 λx hx=>zi.mp hx▸A6 "a" (by decide) 0) n,by rw[Q4,o5,J2,szD];decide⟩ rfl
 ·exact cM (by rw[zM];lia) (λx hx=>(zn.mp hx).elim (λh=>h▸OD (by decide)) (m3 x)) (dP (zg ..) (by decide))
 ·exact⟨rfl,n5.1,by have:=n5.2;lia⟩
 ·exact⟨rfl,(OD (by decide)).1,by rw[szD];decide⟩
 ·exact tail _ n5 rfl
def cJ(hp:uA zs)(h:Dr G r):Wp (N6 [.ref r,K6 zs]) G λx G'=>nK x G'.length/\Fd r G G':=by
 have bg:=big;have hl:=hp.l;have l3:=cV zs;have l100:(c3 zs).length<=100:=by lia
 have hr:=h.lt;refine K3 (show Wp (BN [sRf r,some (K6 zs),none]) G _ from ?_);refine d8.mpr<| J5<| bC.mpr<| m5<| B6 rfl<| OJ.mpr<| m5<| oA (by rw[zd];lia) (by decide) rfl rfl<| m5<| oA l100 (by decide) rfl rfl<| m5<| oA l100 (by decide) rfl rfl<| m5<| oA l100 (by decide) rfl rfl<| o8.mpr ⟨sz,?_⟩;have f1:Fd r G (G++[.lst (zs.map D.str)]):=Fd.app h;refine d8.mpr<| J5<| m7<| b8 (G':=G++[.lst (zs.map D.str)]++[.lst (bpA G.length zs)]) rfl<| bC.mpr<| m5<| oA l100 (by decide) rfl rfl<| m5<| oA (by decide) l100 rfl rfl<| m5<| b8 rfl<| m5<| b8 rfl<| m5<| oA l100 (by decide) rfl rfl<| o8.mpr ⟨sz,?_⟩;have f2:=f1.trans (Fd.app (t:= [.lst (bpA G.length zs)]) f1.2.2);have e2:(G++[DO.lst (zs.map D.str)]++[.lst (bpA G.length zs)])[(G++[DO.lst (zs.map D.str)]).length]? =some (.lst (bpA G.length zs)):=o4;have lg:G.length<(G++[DO.lst (zs.map D.str)]++[DO.lst (bpA G.length zs)]).length:=by simp
 generalize (G++[DO.lst (zs.map D.str)]++[.lst (bpA G.length zs)])=G2 at f2 e2 lg ⊢;have f3:=f2.trans (Fd.app (t:= [.lst (bpB zs)]) f2.2.2);refine(uK (R8 e2) (b:=bpB zs) o4 (sz2)).mpr ?_;have f4:=f3.trans (Fd.app (t:= [.lst (bpA G.length zs++bpB zs)]) f3.2.2);have e4:∀M:DH,(M++[DO.lst (bpA G.length zs++bpB zs)])[M.length]? =some (.lst (bpA G.length zs++bpB zs)):=λM=>o4;have Mo:(G2++[DO.lst (bpB zs)]).length≠r:=by have:=f3.2.2.lt;lia
 have le:=e4 (G2++[DO.lst (bpB zs)]);generalize hM:G2++[DO.lst (bpB zs)]++[DO.lst (bpA G.length zs++bpB zs)]=G4 at f4 le ⊢;have lg4:G.length<G4.length:=by rw[<-hM];simp only[zv];lia
 refine w5<| m7<| b8 rfl<| O2<| m5<| b8 rfl<| m5<| B6 rfl<| (len_l le).mpr<| o8.mpr<| V0.mpr ⟨rfl,T4 f4.2.2 (by show (0:Int)<10;decide) λk k0 k1 G5 f5=>?_⟩;obtain⟨d,hd,ed⟩:=IE k0 k1;exact(LA (f5.at Mo le)).mpr ⟨d,ed,u5 ⟨kg hp (zL lg4 f5.1) d hd,f4.trans f5⟩⟩
where
 len_l {p:Nat} {l:List D} {Q:DPP} {G:DH} (e:G[p]? =some (.lst l)):Wp (A2 [.ref p]) G Q↔Q (.int l.length) G:=by unfold A2;simp only[m6,O8,e,O9,wp_pure]
end
abbrev thD:D:=.tup [.tup [.tup [.int 3,.int 3]],.tup [.str ("of" :Str),.tup []],.tup [],.non,.non]
abbrev UF:D:=.tup [.tup [.tup [.non,.non]],.tup [.str ("but" :Str),.tup []],.tup [.bl false,.bl true],.tup [.tup [],.str ("any" :Str)],.tup [.tup [],.str ("any" :Str)]]
abbrev o0:D:=.tup [.str ("of" :Str),.tup []]
def bsA(a:Nat):List D:= [UF,.tup [.tup [],o0,.tup [],.non],.tup [.tup [],o0,.tup [],.non,.non,.non],.ref a,.str ("nothing" :Str),.str ("" :Str),.non,.int 3,.bl true]
def bsB(i:Int):List D:= [.tup [.tup [.tup [.int i,.int (i-1)]],o0,.tup [],.non,.non],.tup [.tup [.tup [.int 1,.int 2],.tup [.int 3,.int 4]],o0,.tup [],.non,.non],.tup [.tup [.tup [.bl true,.bl true]],o0,.tup [],.non,.non]]
def bsC:List D:= [.tup [.tup [],.tup [.str ("of" :Str),.tup [.str ("b" :Str),.str ("a" :Str)]],.tup [],.non,.non],.tup [.tup [],.tup [.str ("of" :Str),.tup [.str ("A" :Str)]],.tup [],.non,.non]]
def bsD:List D:= [.tup [.tup [],o0,.tup [.bl true,.bl false],.non,.non]]
def bsE:List D:= [.tup [.tup [],o0,.tup [],.tup [.tup [noD],.str ("any" :Str)],.non],.tup [.tup [],o0,.tup [],.non,.tup [.tup [.tup [.str ("a" :Str),.bl true,noD]],.str ("any" :Str)]]]
def bsF:List D:= [.tup [.tup [],o0,.tup [],.non,.tup [.tup [.tup [.str ("a" :Str),.bl false,thD]],thD]]]
def bsG:List D:= [.tup [.tup [],o0,.tup [],.non,.tup [.tup [.tup [.str ("b" :Str),.bl true,thD],.tup [.str ("a" :Str),.bl true,thD]],noD]]]
def atB:Nat->D->Bool
|_,.non=>true
|_,.bl _=>true
|_,.int _=>true
|_,.str z=>decide (z.length<=1000)
|n+1,.tup l=>decide (l.length<=1000)&&l.all (atB n)
|_,_=>false
theorem UT:∀n {d},atB n d=true->PDx (n+1) d/\AT 0 d
|n,.non,_=>⟨.inl rfl,by rw[AT];trivial⟩
|n,.bl _,_=>⟨iC,by rw[AT];trivial⟩
|n,.int _,_=>⟨.inr (.inr (.inl ⟨_,rfl⟩)),by rw[AT];trivial⟩
|0,.str z,h=>⟨E9,by rw[AT];exact of_decide_eq_true h⟩
|n+1,.str z,h=>⟨E9,by rw[AT];exact of_decide_eq_true h⟩
|n+1,.tup l,h=>by have h:(decide (l.length<=1000)&&l.all (atB n))=true:=h;rw[zy]at h;have k:=λx hx=>UT n (zH.mp h.2 x hx);exact⟨M5 (of_decide_eq_true h.1) λx hx=>(k x hx).1,R9 λx hx=>(k x hx).2⟩
|0,.tup _,h=>nomatch h
|0,.ref _,h=>nomatch h
|0,.fn _,h=>nomatch h
|0,.ty _,h=>nomatch h
|n+1,.ref _,h=>nomatch h
|n+1,.fn _,h=>nomatch h
|n+1,.ty _,h=>nomatch h
structure pA(x:D)(n:Nat):Prop where
 no:okS x=false
 tg:Tg n 38 x
def i6(h:atB 8 d=true)(hz:szD d<=1000)(no:(K2 d&&v3 d)=false):pA d n:=by obtain⟨pd,a0⟩:=UT 8 h;have tg:Tg n 38 d:=⟨u7 a0 n,(b9 pd).1,zq (b9 pd).2 (by decide),by lia⟩;exact⟨by rw[gH tg (by decide),no];rfl,tg⟩
def y8(h:K2 d=false):(K2 d&&v3 d)=false:=by rw[h];rfl
def AI(h:v3 d=false):(K2 d&&v3 d)=false:=by rw[h,jH]
def EH(x:D):(!d4 x x)=false:=by rw[TF.mpr rfl];rfl
def qw:∀x∈bsB i,pA x n:=by
 intro x hx;simp only[bsB,zn,zF,or_false]at hx;rcases hx with rfl|rfl|rfl
 ·refine i6 rfl (by simp[szD,szL]) (y8 ?_);show (((((true&&(true&&!decide (i>i-1)))&&true)&&_)&&_)&&_)=false;rw[decide_eq_true (by lia)];rfl
 ·exact i6 rfl (by simp[szD,szL]) (y8 (by decide))
 ·exact i6 rfl (by simp[szD,szL]) (y8 (by decide))
def uc:∀x∈bsC,pA x n:=by
 intro x hx;simp only[bsC,zn,zF,or_false]at hx;rcases hx with rfl|rfl
 ·exact i6 (by decide) (by simp[szD,szL]) (y8 (by decide))
 ·exact i6 (by decide) (by simp[szD,szL]) (y8 (by decide))
def nY:∀x∈bsD,pA x n:=by intro x hx;rw[zi.mp hx];exact i6 (by decide) (by simp[szD,szL]) (y8 (by decide))
def Mp:∀x∈bsE,pA x n:=by
 intro x hx;simp only[bsE,zn,zF,or_false]at hx;rcases hx with rfl|rfl
 ·refine i6 (by decide) (by simp[szD,szL]) (AI ?_);show ((!d4 noS noS&&true)&&_)=false;rw[EH];rfl
 ·refine i6 (by decide) (by simp[szD,szL]) (AI ?_);show (true&&((!d4 noS noS&&true)&&_))=false;rw[EH];rfl
def bb:∀x∈bsF,pA x n:=by intro x hx;rw[zi.mp hx];refine i6 (by decide) (by simp[szD,szL]) (AI ?_);show (true&&((!d4 thD thD&&true)&&_))=false;rw[EH];rfl
def Rh:∀x∈bsG,pA x n:=by intro x hx;rw[zi.mp hx];exact i6 (by decide) (by simp[szD,szL]) (y8 (by decide))
def ve(ha:a<n):∀x∈bsA a,pA x n:=by
 intro x hx;simp only[bsA,zn,zF,or_false]at hx;rcases hx with rfl|rfl|rfl|rfl|rfl|rfl|rfl|rfl|rfl
 ·refine i6 (by decide) (by simp[szD,szL]) (AI ?_);show (true&&(true&&!d4 evS evS))=false;rw[EH];rfl
 ·exact i6 (by decide) (by simp[szD,szL]) (y8 (by decide))
 ·exact i6 (by decide) (by simp[szD,szL]) (y8 (by decide))
 ·have tg:Tg n 38 (.ref a):=⟨by rw[AT];exact ha,by rw[lwD],by rw[dpD];exact zO _,by rw[szD];decide⟩;exact⟨by rw[gH tg (by decide)];rfl,tg⟩
 ·exact i6 (by decide) (by simp[szD]) (y8 (by decide))
 ·exact i6 (by decide) (by simp[szD]) (y8 (by decide))
 ·exact i6 (by decide) (by simp[szD]) (y8 (by decide))
 ·exact i6 (by decide) (by simp[szD]) (y8 (by decide))
 ·exact i6 (by decide) (by simp[szD]) (y8 (by decide))
def bsL(a:Nat)(i:Int):List D:=((((((bsA a++bsB i)++bsC)++bsD)++bsE)++bsF)++bsG)
def Dy(ha:a<n):∀x∈bsL a i,pA x n:=by
 intro x hx;unfold bsL at hx;rcases zB.mp hx with hx|hx
 ·rcases zB.mp hx with hx|hx
  ·rcases zB.mp hx with hx|hx
   ·rcases zB.mp hx with hx|hx
    ·rcases zB.mp hx with hx|hx
     ·rcases zB.mp hx with hx|hx
      ·exact ve ha x hx
      ·exact qw x hx
     ·exact uc x hx
    ·exact nY x hx
   ·exact Mp x hx
  ·exact bb x hx
 ·exact Rh x hx
section
variable{G:DH}{r:Nat}
def OE(hv:∀G,T7 5 σ G=some (.ok (.ref p),G))(h:Dr G r)(e:G[p]? =some (.lst l))(hl:l.length+m.length<=100)(ef:f σ G=some (.ok (.ref G.length),G++[.lst m]))
 (q:∀p' G',p'≠r->G'[p']? =some (.lst (l++m))->Fd r G G'->P (.nx (σ.set 5 (some (.ref p')))) G'):Wp (M3 (m9 K4 P3 f) L4 σ) G P:=by
 have bg:=big;have hr:=h.lt;refine J5<| m7<| b8 (hv G)<| b8 ef<| (uK (R8 e) o4 (by lia)).mpr<| q _ _ (by simp;lia) o4 ((Fd.app h).trans (Fd.app h.app))
def qQ(h:Dr G r):Wp (NI [.ref r]) G λx G'=>pA x G'.length/\Fd r G G':=by
 have hr:=h.lt;refine K3 (show Wp (eN [sRf r,none,none,none,none,none]) G _ from ?_);refine Q8 (X1:= [sRf r,some UF,none,none,none,none]) rfl<| Q8 (X1:= [sRf r,some UF,some noD,none,none,none]) rfl ?_;refine d8.mpr<| J5<| o7 rfl rfl<| (VF h).mono ?_;rintro _ G1 ⟨i,rfl,_,f1⟩;have h1:=f1.2.2;have hr1:=h1.lt;refine Q8 (X1:= [sRf r,some UF,some noD,some (.int i),some thD,none]) rfl ?_
 let L0:List D:= [.tup [],o0,.tup [],.non,.non]
 refine Q8 (X1:= [sRf r,some UF,some noD,some (.int i),some thD,some (.ref (G1.length+1))]) (G':=G1++[.lst L0]++[.lst (bsA G1.length)]) (by
  have:(G1++[DO.lst L0]).length=G1.length+1:=by simp
  rw[<-this];rfl) ?_
 have f2:Fd r G1 (G1++[.lst L0]++[.lst (bsA G1.length)]):=(Fd.app h1).trans (Fd.app h1.app);have e2:(G1++[DO.lst L0]++[.lst (bsA G1.length)])[G1.length+1]? =some (.lst (bsA G1.length)):=by rw[show G1.length+1= (G1++[DO.lst L0]).length by simp];exact o4
 have g2:G1.length<(G1++[DO.lst L0]++[DO.lst (bsA G1.length)]).length:=by simp
 generalize (G1++[DO.lst L0]++[DO.lst (bsA G1.length)])=G2 at f2 e2 g2 ⊢;refine d8.mpr<| OE (λ_=>rfl) f2.2.2 e2 (jt rfl) rfl λp3 G3 n3 e3 f3=>?_;refine d8.mpr<| OE (λ_=>rfl) f3.2.2 e3 (jt rfl) rfl λp4 G4 n4 e4 f4=>?_;refine d8.mpr<| OE (λ_=>rfl) f4.2.2 e4 (jt rfl) rfl λp5 G5 n5 e5 f5=>?_;refine d8.mpr<| OE (λ_=>rfl) f5.2.2 e5 (jt rfl) rfl λp6 G6 n6 e6 f6=>?_;refine d8.mpr<| OE (λ_=>rfl) f6.2.2 e6 (jt rfl) rfl λp7 G7 n7 e7 f7=>?_;refine d8.mpr<| OE (λ_=>rfl) f7.2.2 e7 (jt rfl) rfl λp8 G8 n8 e8 f8=>?_;have ff:=((((((f1.trans f2).trans f3).trans f4).trans f5).trans f6).trans f7).trans f8;have g8:G1.length<G8.length:=by have:=((((((f3.trans f4).trans f5).trans f6).trans f7).trans f8)).1;lia
 refine w5<| m7<| b8 rfl<| O2<| m5<| b8 rfl<| m5<| B6 rfl<| (cJ.len_l e8).mpr<| o8.mpr<| V0.mpr ⟨rfl,T4 f8.2.2 (by show (0:Int)<19;decide) λk k0 k1 G9 f9=>?_⟩;obtain⟨d,hd,ed⟩:=IE k0 k1;exact(LA (f9.at n8 e8)).mpr ⟨d,ed,u5 ⟨Dy (zL g8 f9.1) d hd,ff.trans f9⟩⟩
def lN(hl:(L.length:Int)=n)(h0:0<n)(hv:∀G,T7 0 σ G=some (.ok (.ref r),G))(h:Dr H r)(el:fe σ G=some (.ok (.ref H.length),H++[.lst L]))(q:∀d∈L,∀G',Fd r H G'->Q d G'):Wp (m9 ixD fe (F0 j9 g0 (cE (.int n))) σ) G Q:=
 m7<| b8 el<| O2<| m5<| b8 (hv _)<| b8 rfl<| V0.mpr ⟨rfl,CB h hl h0 q⟩
def Gz(h:Dr G r):Wp (Q0 [.ref r,.tup [.str ("same" :Str),K6 zs,K6 ys,.int n]]) G λx G'=>(KD x=false/\AT 0 x)/\Fd r G G':=by
 refine K3 (show Wp (wF [sRf r,some (.tup [.str ("same" :Str),K6 zs,K6 ys,.int n]),none]) G _ from ?_);refine d8.mpr<| rE rfl<| w5<| lN rfl (by decide) (λ_=>rfl) h rfl λd hd G1 f1=>u5 ⟨?_,f1⟩;simp only[zn,zF,or_false]at hd;rcases hd with rfl|rfl|rfl|rfl
 ·exact⟨rfl,by rw[AT];trivial⟩
 ·exact⟨rfl,A6 _ (by decide) 0⟩
 ·exact⟨rfl,by rw[AT];trivial⟩
 ·exact⟨rfl,R9 λx hx=>zi.mp hx▸by rw[AT];trivial⟩
def Tw(hw:w= ("in" :Str)\/w= ("wish" :Str))(h:Dr G r):Wp (Q0 [.ref r,.tup [.str w,p,x]]) G λx G'=>pA x G'.length/\Fd r G G':=by
 refine K3 (show Wp (wF [sRf r,some (.tup [.str w,p,x]),none]) G _ from ?_);rcases hw with rfl|rfl
 ·refine d8.mpr<| QD rfl<| t8.mpr<| d8.mpr<| rE rfl<| w5<| o7 rfl rfl<| (qQ h).mono λ_ _ q=>u5 q
 ·refine d8.mpr<| QD rfl<| t8.mpr<| d8.mpr<| rE rfl<| w5<| o7 rfl rfl<| (qQ h).mono λ_ _ q=>u5 q
structure QM(x:D)(n:Nat):Prop where
 no:(aA x&&QC x)=false
 tg:Tg n 38 x
def bnL(a:Nat)(ns:List Str):List D:= [.ref a,.tup (ns.map D.str++[.str ("" :Str)]),.tup [.str ("b" :Str),.str ("a" :Str)],.tup [.str ("a" :Str),.str ("a" :Str)],.tup (ns.map D.str++[.int 3]),.str ("a" :Str),.non]
def Ei(hx:x∈l)(h:R1 x=false):(aA (.tup l)&&QC (.tup l))=false:=by
 have:aA (.tup l)=false:=by
  show l.all R1=false
  cases e:l.all R1 with
  |false=>rfl
  |true=>rw[zH.mp e x hx]at h;cases h
 rw[this];rfl
def qN(hl:l.length<=70)(h:∀x∈l,PDx 1 x/\AT 0 x/\szD x=1):Tg n 38 (.tup l):=by have pd:PDx 2 (.tup l):=M5 (by lia) λx hx=>(h x hx).1;refine⟨u7 (R9 λx hx=>(h x hx).2.1) n,(b9 pd).1,zq (b9 pd).2 (by decide),?_⟩;have:=KF λx hx=>xl (h x hx).2.2;rw[Q4];lia
def pe(hn:CD ns)(ha:a<n):∀x∈bnL a ns,QM x n:=by
 have hl:=hn.l;have st:∀z:Str,z.length<=1000->PDx 1 (.str z)/\AT 0 (.str z)/\szD (.str z)=1:=λz hz=>⟨E9,A6 z hz 0,by rw[szD]⟩;have tail:∀y:D,(PDx 1 y/\AT 0 y/\szD y=1)->R1 y=false->QM (.tup (ns.map D.str++[y])) n:=λy hy hb=>⟨Ei (zS _ (List.mem_singleton_self y)) hb,qN (by rw[zv,zd];show _+1<=_;lia) λx hx=>(zB.mp hx).elim (λh=>by obtain⟨z,hz,rfl⟩:=zk.mp h;exact st z (zq (hn.nm z hz).1.2 (by decide))) λh=>zi.mp h▸hy⟩
 have two:∀u v:Str,u.length<=1000->v.length<=1000->Tg n 38 (.tup [.str u,.str v]):=λu v hu hv=>qN (by show 2<=70;decide) (i4 (st u hu) (st v hv));intro x hx;simp only[bnL,zn,zF,or_false]at hx;rcases hx with rfl|rfl|rfl|rfl|rfl|rfl|rfl
 ·exact⟨rfl,by rw[AT];exact ha,by rw[lwD],by rw[dpD];exact zO _,by rw[szD];decide⟩
 ·exact tail _ (st _ (by decide)) (by decide)
 ·exact⟨by decide,two _ _ (by decide) (by decide)⟩
 ·exact⟨by decide,two _ _ (by decide) (by decide)⟩
 ·exact tail _ ⟨.inr (.inr (.inl ⟨_,rfl⟩)),by rw[AT];trivial,by rw[szD]⟩ rfl
 ·exact⟨rfl,A6 _ (by decide) n,by rw[lwD],by rw[dpD];exact zO _,by rw[szD];decide⟩
 ·exact⟨rfl,by rw[AT];trivial,by rw[lwD],by rw[dpD];exact zO _,by rw[szD];decide⟩
def Lg(hn:CD ns)(h:Dr G r):Wp (Q0 [.ref r,.tup [.str ("only" :Str),p,K6 ns]]) G λx G'=>QM x G'.length/\Fd r G G':=by
 have bg:=big;have hl:=hn.l;have h1:((ns.map D.str).length+1)<=100:=by rw[zd];lia
 refine K3 (show Wp (wF [sRf r,some (.tup [.str ("only" :Str),p,K6 ns]),none]) G _ from ?_);refine d8.mpr<| QD rfl<| t8.mpr<| d8.mpr<| QD rfl<| t8.mpr<| Q8 (X1:= [sRf r,some (.tup [.str ("only" :Str),p,K6 ns]),some (K6 ns)]) rfl ?_;refine w5<| m7<| bC.mpr<| m5<| B6 rfl<| OJ.mpr<| m5<| oA (by lia) (by decide) rfl rfl<| m5<| b8 rfl<| m5<| b8 rfl<| m5<| oA (by lia) (by decide) rfl rfl<| b8 rfl ⟨sz,?_⟩;have f1:Fd r G (G++[.lst (ns.map D.str)]):=Fd.app h;refine O2<| m5<| b8 rfl<| b8 rfl<| V0.mpr ⟨rfl,CB f1.2.2 rfl (by decide) λd hd G1 f2=>u5 ⟨pe hn (zL (by simp) f2.1) d hd,f1.trans f2⟩⟩
abbrev Bad(x:D)(G:DH):Prop:=Ev (O5 [x]) G false
def KH(h:i<G.length):Bad (.ref i) G:=nR rfl (AT.there (by rw[AT];exact h))
def uS:Bad (.tup [a,p]) G:=Ev.of rfl
def Bf:Bad (.tup [a,b,c,d,e]) G:=Ev.of rfl
abbrev spW:List D:= [.str ("out" :Str),.str ("In" :Str),.str ("" :Str),.int 3,.non,.str ("sames" :Str),.tup [.str ("in" :Str)]]
structure am(w:Str)(zs:List Str)(x:D):Prop where
 ns:(w==("same" :Str))=false
 wl:w.length<=1000
 hp:uA zs
 tg:∀n,Tg n 38 x
 en:∀(G:DH) (r:Nat),Dr G r->Wp (Q0 [.ref r,.tup [.str w,K6 zs,x]]) G λy G'=>(t3 w y=false/\Tg G'.length 38 y)/\Fd r G G'
def kB(hv:T7 2 σ G=some (.ok (.int w),G))(h1:Wp (S σ) G P)(h2:P (.nx σ) G):Wp (ifS (tBn eqD C0 (cE (.int k))) S M7 σ) G P:=
 X3<| w6<| m7<| b8 hv<| b8 rfl<| P0.mpr ⟨_,rfl,λ_=>h1,λ_=>t8.mpr h2⟩
def tW(T:am w zs x)(h:Dr G r):Wp (W3 [.ref r,.tup [.str w,K6 zs,x]]) G λy G'=>Bad y G'/\Fd r G G':=by
 have bg:=big;have hp:=T.hp;have p0:∀n,AT n (K6 zs):=u7 (VB hp.nm);have pz:szD (K6 zs)<=zj:=by rw[lC];have:=hp.l;lia
 have w0:∀n,AT n (.str w):=A6 w T.wl;have bad3:∀ {a p y:D} {G:DH},AT G.length a->AT G.length p->szD p<=zj->Tg G.length 38 y->LC a p y=false->Bad (.tup [a,p,y]) G:=λha hp zp hy e=>by have:=AF ha hp zp hy;rw[e]at this;exact this
 refine K3 (show Wp (eI [sRf r,some (.tup [.str w,K6 zs,x]),none]) G _ from ?_);refine d8.mpr<| J5<| o7 rfl rfl<| T4 h (by decide) λk k0 k1 G1 f1=>?_;have h1:=f1.2.2;refine d8.mpr<| kB rfl (w5<| oA (jt rfl) (jt rfl) rfl rfl<| u5 ⟨?_,f1⟩) ?_
 ·have:=fN (w0 _) (p0 _) pz (T.tg _).at' (T.tg 0).zl (T.tg G1.length).at';have e:RC (.str w) (K6 zs) x x=false:=by
   show (M9 (K6 zs)&&(w==("same" :Str)&&_))=false;rw[T.ns,yN,jH]
  rw[e]at this;exact this
 refine d8.mpr<| kB rfl (w5<| b8 rfl<| u5 ⟨uS,f1⟩) ?_;refine d8.mpr<| kB rfl (w5<| B6 rfl<| OJ.mpr<| u5 ⟨KH (by simp),f1.trans (Fd.app h1)⟩) ?_;refine d8.mpr<| kB rfl (w5<| m7<| R7.mpr<| m5<| lN rfl (by decide) (λ_=>rfl) h1 rfl λa ha G2 f2=>o8.mpr ⟨sz,b8 rfl<| (TB sz2).mpr<| u5 ⟨?_,f1.trans f2⟩⟩) ?_
 ·simp only[spW,zn,zF,or_false]at ha;have tf:∀v:Str,v.length<=1000->t3 v x=false->Bad (.tup ([.str v]++[K6 zs,x])) G2:=λv hv e=>bad3 (A6 v hv _) (p0 _) pz (T.tg _) (by show (M9 (K6 zs)&&t3 v x)=false;rw[e,jH]);rcases ha with rfl|rfl|rfl|rfl|rfl|rfl|rfl
  ·exact tf _ (by decide) rfl
  ·exact tf _ (by decide) rfl
  ·exact tf _ (by decide) rfl
  ·exact bad3 (by rw[AT];trivial) (p0 _) pz (T.tg _) rfl
  ·exact bad3 (by rw[AT];trivial) (p0 _) pz (T.tg _) rfl
  ·exact tf _ (by decide) rfl
  ·exact bad3 (u7 (R9 λx hx=>zi.mp hx▸A6 _ (by decide) 0) _) (p0 _) pz (T.tg _) rfl
 have go:∀ {P:Fl->DH->Prop},(∀y G',Bad y G'->Fd r G G'->P (.rt y) G')->Wp (u9 (m9 K4 (H0 (ixE x0 S0) (F0 N6 g0 (ixE x0 B0))) (J3 x0 (N5 O0) J6)) [sRf r,some (.tup [.str w,K6 zs,x]),some (.int k)]) G1 P:=λ{P} q=>by refine w5<| m7<| R7.mpr<| m5<| b8 rfl<| m5<| o7 rfl rfl<| (cJ hp h1).mono ?_;rintro y G2 ⟨b,f2⟩;have bsz:=b.sz;exact o8.mpr ⟨sz,b8 rfl<| (TB sz2).mpr<| q _ _ (bad3 (w0 _) b.at' (by lia) (T.tg _) (by show (M9 y&&_)=false;rw[b.no];rfl)) (f1.trans f2)⟩
 refine d8.mpr<| X3<| NF<| w6<| m7<| b8 rfl<| b8 rfl<| P0.mpr ⟨_,rfl,λ_=>⟨λ_=>go λy G' a b=>u5 ⟨a,b⟩,λz=>(nomatch z)⟩,λ_=>?_⟩;refine qE<| w6<| m7<| b8 rfl<| b8 rfl<| P0.mpr ⟨_,rfl,λ_=>?_,λz5=>⟨λz=>(nomatch z),λ_=>t8.mpr ?_⟩⟩
 ·refine w6<| m7<| b8 rfl<| b8 rfl<| iI.mpr ⟨w==("same" :Str),rfl,_,rfl,λ_=>go λy G' a b=>u5 ⟨a,b⟩,λz=>?_⟩;rw[T.ns]at z
  cases z
 refine d8.mpr<| X3<| w6<| m7<| b8 rfl<| b8 rfl<| P0.mpr ⟨_,rfl,λz=>?_,λ_=>t8.mpr ?_⟩
 ·rw[z5]at z;cases z
 refine w5<| m7<| b8 rfl<| R7.mpr<| m5<| o7 rfl rfl<| (T.en G1 r h1).mono ?_;rintro y G2 ⟨⟨e,ty⟩,f2⟩;exact o8.mpr ⟨sz,(TB sz2).mpr<| u5 ⟨bad3 (w0 _) (p0 _) pz ty (by show (M9 (K6 zs)&&t3 w y)=false;rw[e,jH]),f1.trans f2⟩⟩
def EZ(hp:uA zs)(hy:uA ys)(h:Dr G r):Wp (W3 [.ref r,.tup [.str ("same" :Str),K6 zs,K6 ys,.int n]]) G λy G'=>Bad y G'/\Fd r G G':=by
 have bg:=big;have p0:∀n,AT n (K6 zs):=u7 (VB hp.nm);have y0:∀n,AT n (K6 ys):=u7 (VB hy.nm);have i0:∀m,AT m (.int n):=λm=>by rw[AT];trivial
 have pz:szD (K6 zs)<=zj:=by rw[lC];have:=hp.l;lia
 have yz:szD (K6 ys)<=zj:=by rw[lC];have:=hy.l;lia
 have w0:∀n,AT n (.str ("same" :Str)):=A6 _ (by decide);have bad4:∀ {a p x y:D} {G:DH},AT G.length a->AT G.length p->szD p<=zj->AT G.length x->szD x<=zj->AT G.length y->RC a p x y=false->Bad (.tup [a,p,x,y]) G:=λha hp zp hx zx hy e=>by have:=fN ha hp zp hx zx hy;rw[e]at this;exact this
 refine K3 (show Wp (eI [sRf r,some (.tup [.str ("same" :Str),K6 zs,K6 ys,.int n]),none]) G _ from ?_);refine d8.mpr<| J5<| o7 rfl rfl<| T4 h (by decide) λk k0 k1 G1 f1=>?_;have h1:=f1.2.2;refine d8.mpr<| kB rfl (w5<| oA (jt rfl) (jt rfl) rfl rfl<| u5 ⟨Bf,f1⟩) ?_;refine d8.mpr<| kB rfl (w5<| b8 rfl<| u5 ⟨?_,f1⟩) ?_
 ·have:=AF (G:=G1) (w0 _) (p0 _) pz (iO hy.nm (by have:=hy.l;lia) _);have e:LC (.str ("same" :Str)) (K6 zs) (K6 ys)=false:=by
   show (M9 (K6 zs)&&false)=false;rw[jH]
  rw[e]at this;exact this
 refine d8.mpr<| kB rfl (w5<| B6 rfl<| OJ.mpr<| u5 ⟨KH (by simp),f1.trans (Fd.app h1)⟩) ?_;refine d8.mpr<| kB rfl (w5<| m7<| R7.mpr<| m5<| lN rfl (by decide) (λ_=>rfl) h1 rfl λa ha G2 f2=>o8.mpr ⟨sz,b8 rfl<| (TB sz2).mpr<| u5 ⟨?_,f1.trans f2⟩⟩) ?_
 ·simp only[spW,zn,zF,or_false]at ha;have tf:∀v:Str,v.length<=1000->(v==("same" :Str))=false->Bad (.tup ([.str v]++[K6 zs,K6 ys,.int n])) G2:=λv hv e=>bad4 (A6 v hv _) (p0 _) pz (y0 _) yz (i0 _) (by show (M9 (K6 zs)&&(v==("same" :Str)&&_))=false;rw[e,yN,jH]);rcases ha with rfl|rfl|rfl|rfl|rfl|rfl|rfl
  ·exact tf _ (by decide) rfl
  ·exact tf _ (by decide) rfl
  ·exact tf _ (by decide) rfl
  ·exact bad4 (by rw[AT];trivial) (p0 _) pz (y0 _) yz (i0 _) rfl
  ·exact bad4 (by rw[AT];trivial) (p0 _) pz (y0 _) yz (i0 _) rfl
  ·exact tf _ (by decide) rfl
  ·exact bad4 (u7 (R9 λx hx=>zi.mp hx▸A6 _ (by decide) 0) _) (p0 _) pz (y0 _) yz (i0 _) rfl
 have go:∀ {P:Fl->DH->Prop},(∀y G',Bad y G'->Fd r G G'->P (.rt y) G')->Wp (u9 (m9 K4 (H0 (ixE x0 S0) (F0 N6 g0 (ixE x0 B0))) (J3 x0 (N5 O0) J6)) [sRf r,some (.tup [.str ("same" :Str),K6 zs,K6 ys,.int n]),some (.int k)]) G1 P:=λ{P} q=>by refine w5<| m7<| R7.mpr<| m5<| b8 rfl<| m5<| o7 rfl rfl<| (cJ hp h1).mono ?_;rintro y G2 ⟨b,f2⟩;have bsz:=b.sz;exact o8.mpr ⟨sz,b8 rfl<| (TB sz2).mpr<| q _ _ (bad4 (w0 _) b.at' (by lia) (y0 _) yz (i0 _) (by show (M9 y&&_)=false;rw[b.no];rfl)) (f1.trans f2)⟩
 refine d8.mpr<| X3<| NF<| w6<| m7<| b8 rfl<| b8 rfl<| P0.mpr ⟨_,rfl,λ_=>⟨λ_=>go λy G' a b=>u5 ⟨a,b⟩,λz=>(nomatch z)⟩,λ_=>?_⟩;have five:∀ {P:Fl->DH->Prop},(∀y G',Bad y G'->Fd r G G'->P (.rt y) G')->P (.nx [sRf r,some (.tup [.str ("same" :Str),K6 zs,K6 ys,.int n]),some (.int k)]) G1->Wp (ifS (tBn eqD C0 wA) (u9 (m9 K4 (J3 x0 J6 (N5 O0)) (H0 (F0 N6 g0 (ixE x0 O0)) (ixE x0 B1)))) M7 [sRf r,some (.tup [.str ("same" :Str),K6 zs,K6 ys,.int n]),some (.int k)]) G1 P:=λ{P} q q2=>by refine kB rfl ?_ q2;refine w5<| m7<| b8 rfl<| R7.mpr<| m5<| o7 rfl rfl<| (cJ hy h1).mono ?_;rintro y G2 ⟨b,f2⟩;have bsz:=b.sz;exact b8 rfl ⟨sz,(TB sz2).mpr<| q _ _ (bad4 (w0 _) (p0 _) pz b.at' (by lia) (i0 _) (by show (M9 (K6 zs)&&(true&&(M9 y&&_)))=false;rw[b.no,yN,jH,jH])) (f1.trans f2)⟩
 have last:Wp (u9 (m9 K4 (J3 x0 J6 (N5 (unE L7 B0))) (S1 (F0 Q0 g0 x0))) [sRf r,some (.tup [.str ("same" :Str),K6 zs,K6 ys,.int n]),some (.int k)]) G1 (PB λy G'=>Bad y G'/\Fd r G G'):=by refine w5<| m7<| b8 rfl<| R7.mpr<| m5<| o7 rfl rfl<| (Gz h1).mono ?_;rintro y G2 ⟨⟨e,ty⟩,f2⟩;exact o8.mpr ⟨sz,(TB sz2).mpr<| u5 ⟨bad4 (w0 _) (p0 _) pz (y0 _) yz (u7 ty _) (by show (M9 (K6 zs)&&(true&&(M9 (K6 ys)&&KD y)))=false;rw[e,jH,jH,jH]),f1.trans f2⟩⟩
 have rest:=d8.mpr (five (λy G' a b=>u5 ⟨a,b⟩) last);refine qE<| w6<| m7<| b8 rfl<| b8 rfl<| P0.mpr ⟨_,rfl,λ_=>?_,λz5=>⟨λz=>(nomatch z),λ_=>t8.mpr rest⟩⟩;exact w6<| m7<| b8 rfl<| b8 rfl<| iI.mpr ⟨true,rfl,_,rfl,λz=>(nomatch z),λ_=>t8.mpr rest⟩
def Rp(h:ID d)(hd:Dr G r):Wp (W3 [.ref r,d]) G λy G'=>Bad y G'/\Fd r G G':=by
 cases h with
 |set w zs x hw hp hx hz=>
   refine tW ⟨by rcases hw with rfl|rfl<;>rfl,by rcases hw with rfl|rfl<;>decide,hp,λn=>hx.tg4 hz n,λG r h=>(Tw hw h).mono λy G' ⟨b,f⟩=>⟨⟨?_,b.tg⟩,f⟩⟩ hd;rcases hw with rfl|rfl
   ·show (true&&okS y)=false;rw[b.no];rfl
   ·show (true&&okS y)=false;rw[b.no];rfl
 |same zs ys n hp hy=>exact EZ hp hy hd
 |only zs ns hp hn=>exact tW ⟨rfl,by decide,hp,iO hn.nm (by have:=hn.l;lia),λG r h=>(Lg hn h).mono λy G' ⟨b,f⟩=>⟨⟨b.no,b.tg⟩,f⟩⟩ hd
def NP(h:Ev (O5 [x]) G e):Ev (X6 [x,.bl e]) G true:=λQ q=>by
 refine K3 (show Wp (IK [some x,some (.bl e),none]) G _ from ?_);refine d8.mpr<| J5<| o7 rfl rfl<| h _ λG1 j1=>?_;refine w5<| FG.mpr<| b8 rfl<| b8 (a:=true) rfl ?_;rw[if_pos rfl]
 cases e
 ·exact b8 rfl<| u5 (q G1 j1)
 ·exact b8 rfl<| u5 (q G1 j1)
end
def rm:lK=o6 (M3 (D0 dF g0) i3) (o6 laO (asQ S0 m4 (o6 (iA laT laB) (u9 cBt)))):=rfl
def TD(a b:Nat):List D:= [.tup [],.non,.bl true,.int 0,.str ("" :Str),.str ("in" :Str),.ref a,.tup [.str ("in" :Str)],.tup [.str ("only" :Str),.tup []],.tup [.str ("same" :Str),.tup [],.tup []],.ref b]
section
variable{G:DH}{r o a b:Nat}
def gY(ha:a<G.length)(hb:b<G.length)(h:x∈TD a b):Bad x G:=by
 have no:∀ {d:D},V6 d=false->AT G.length d->Bad d G:=λh t=>nR h t.there;simp only[TD,zn,zF,or_false]at h;rcases h with rfl|rfl|rfl|rfl|rfl|rfl|rfl|rfl|rfl|rfl|rfl
 ·exact Ev.of rfl
 ·exact no rfl (by rw[AT];trivial)
 ·exact no rfl (by rw[AT];trivial)
 ·exact no rfl (by rw[AT];trivial)
 ·exact no rfl (A6 _ (by decide) _)
 ·exact no rfl (A6 _ (by decide) _)
 ·exact KH ha
 ·exact Ev.of rfl
 ·exact uS
 ·have e0:AT 0 (.tup []):=R9 λ_ h=>nomatch h;have t0:Tg G.length 38 (.tup []):=qN (by decide) λ_ h=>nomatch h;have:=AF (A6 ("same" :Str) (by decide) _) (u7 e0 _) t0.zl t0;exact this
 ·exact KH hb
def Ap.fd(h:Dr G r)(j:Ap G G'):Fd r G G':=by obtain⟨t,rfl⟩:=j;exact Fd.app h
abbrev laS(s:D)(r o:Nat)(m:Int)(u v:Option D):DSt:= [some s,sRf r,sRf o,some (.int m),u,v]
def rR(h:Dr G r)(m0:0<=m):Wp (laT (laS s r o m u v)) G λk G'=>Fd r G G'/\(k=true->m<12):=by obtain⟨ns,hr⟩:=id h;refine NF<| w6<| m7<| b8 rfl<| b8 rfl<| P0.mpr ⟨_,rfl,λz=>⟨Fd.refl h,λ_=>by have:=of_decide_eq_true z;lia⟩,λ_=>?_⟩;refine qE<| w6<| m7<| b8 rfl<| b8 rfl<| (cQ (R8 hr) o4).mpr ⟨_,rfl,λ_=>?_,λ_=>⟨Fd.app h,λz=>(nomatch z)⟩⟩;exact w6<| m7<| b8 rfl<| b8 rfl<| lt_int.mpr ⟨_,rfl,Fd.app h,λz=>of_decide_eq_true z⟩
def Fn(h:Dr G r)(hc:cnt G r<=240)(ho:o≠r)(e:G[o]? =some (.lst (TD a b)))(ha:a<G.length)(hb:b<G.length):Wp (laB (laS s r o m u v)) G λfl G'=>(∃u v,fl= .nx (laS s r o (m+1) u v))/\Fd r G G':=by refine d8.mpr<| J5<| m7<| b8 rfl<| o7 rfl rfl<| T4 h (by decide) λk k0 k1 G1 f1=>?_;obtain⟨x,hx,ex⟩:=IE (l:=TD a b) k0 k1;refine(LA (f1.at ho e)).mpr ⟨x,ex,?_⟩;have c1:=f1.c;refine d8.mpr<| J5<| o7 rfl rfl<| (kr f1.2.2 (by lia)).mono ?_;rintro d G2 ⟨hd,f2⟩;have tt:∀ {Q:Bool->DH->Prop} {x:D} {e:Bool} {fs:DSt->M (List D)} {σ:DSt} {G:DH},fs σ G=some (.ok [x,.bl e],G)->Ev (O5 [x]) G e->(∀G',Ap G G'->Q false G')->Wp (C3 (J7 (P2 (fnX 2 X6) fs)) σ) G Q:=λef h q=>RD.mpr<| W0.mpr<| o7 ef rfl<| NP h _ λG' j=>S8.mpr (q G' j);refine d8.mpr<| X3<| NF<| tt rfl (Go hd) λG3 j3=>⟨λz=>(nomatch z),λ_=>?_⟩;have f3:=f2.trans (Ap.fd f2.2.2 j3);refine RD.mpr<| W0.mpr<| O2<| m5<| o7 rfl rfl<| (Rp hd f3.2.2).mono ?_;rintro y G4 ⟨by',f4⟩;refine b8 rfl<| V0.mpr ⟨rfl,NP by' _ λG5 j5=>S8.mpr ⟨λz=>(nomatch z),λ_=>t8.mpr ?_⟩⟩;have f5:=((f1.trans f3).trans f4).trans (Ap.fd f4.2.2 j5);refine d8.mpr<| X3<| tt rfl (gY (zL ha f5.1) (zL hb f5.1) hx) λG6 j6=>⟨λz=>(nomatch z),λ_=>t8.mpr ?_⟩;exact J5<| m7<| b8 rfl<| b8 rfl<| fB.mpr ⟨⟨_,_,rfl⟩,f5.trans (Ap.fd f5.2.2 j6)⟩
def vf(ho:o≠r):∀(j:Nat) (m:Int) u v G,m+j=12->0<=m->Dr G r->cnt G r<=240->G[o]? =some (.lst (TD a b))->a<G.length->b<G.length->Wp (S5 (j+1) laT laB (laS s r o m u v)) G λfl _=>∃m u v,fl= .nx (laS s r o m u v):=by
 intro j
 induction j with
 |zero=>
   intro m u v G hm m0 h hc e ha hb;refine sB.mpr<| (rR h m0).mono λk G1 ⟨f1,hk⟩=>?_
   cases k
   ·rw[if_neg zZ];exact⟨m,u,v,rfl⟩
   ·exact absurd (hk rfl) (by lia)
 |succ j ih=>
   intro m u v G hm m0 h hc e ha hb;refine sB.mpr<| (rR h m0).mono λk G1 ⟨f1,hk⟩=>?_
   cases k
   ·rw[if_neg zZ];exact⟨m,u,v,rfl⟩
   rw[if_pos rfl];have c1:=f1.c;refine(Fn f1.2.2 (by lia) ho (f1.at ho e) (zL ha f1.1) (zL hb f1.1)).mono ?_;rintro _ G2 ⟨⟨u,v,rfl⟩,f2⟩;have c2:=f2.c;have f:=f1.trans f2;exact ih (m+1) u v G2 (by lia) (by lia) f.2.2 (by lia) (f.at ho e) (zL ha f.1) (zL hb f.1)
end
def Dg(ns:List Int)(hn:ns.length<=63):Wp (fM [.ref 0]) [.rol (ns.map D.int)] λd _=>d= .bl true:=by have e0:([.rol (ns.map D.int)]:DH)[0]? =some (.rol (ns.map D.int)):=rfl;generalize ([.rol (ns.map D.int)]:DH)=G at e0;refine K3 (show Wp (lK [sRf 0,none,none,none,none,none]) G _ from ?_);rw[rm];refine d8.mpr<| J5<| o7 rfl rfl<| (Bo e0 hn).mono ?_;rintro _ G1 ⟨r,rfl,h1,hc⟩;have hr:=h1.lt;refine Q8 (X1:= [sRf 0,sRf r,some (.ref (G1++[DO.lst []]++[DO.dct []]).length),none,none,none]) rfl ?_;have f1:Fd r G1 (G1++[.lst []]++[DO.dct []]++[.lst (TD G1.length (G1++[DO.lst []]).length)]):=((Fd.app h1).trans (Fd.app h1.app)).trans (Fd.app h1.app.app);have c1:=f1.c;refine Q8 (X1:=laS (.ref 0) r (G1++[DO.lst []]++[DO.dct []]).length 0 none none) rfl ?_;refine d8.mpr<| bH<| (vf (by simp only[zv];lia) 12 0 none none _ (by decide) (by decide) f1.2.2 (by lia) o4 (by simp only[zv];show _<_+1+1+1;lia) (by simp)).mono ?_;rintro _ G2 ⟨m,u,v,rfl⟩;exact w5<| b8 rfl<| u5 rfl
def pure_law:∀ns:List Int,ns.length<=63->∃G',fM [.ref 0] [.rol (ns.map D.int)]=some (.ok (.bl true),G'):=λns hn=>by obtain⟨d,G',e,rfl⟩:=Dg ns hn;exact⟨G',e⟩
end W
namespace PySem.W.Fast
def tw9975584308428131904:=()
def tw7377941877050464756:=()
def tw13624267674032858309:=()
def tw3573313623247905471:=()
def tw7340151645730397577:=()
def tw8224606693189612932:=()
def tw16254843570880008066:=()
def tw12105834234029251608:=()
def tw9600666474581274908:=()
def tw2313631204127697530:=()
def tw14571518186625457850:=()
def tw2957486762911875893:=()
def tw16644082962756757471:=()
def tw3592581336927788329:=()
def tw4909369641132147882:=()
def tw10663651715013161061:=()
def tw5359939183507834518:=()
def tw859596237771203265:=()
def tw16000546571861965006:=()
def tw358612474093892752:=()
def tw14643900977366830636:=()
def tw9697252751782455663:=()
def tw6516019698935640455:=()
def tw5968760373683071692:=()
def tw9013093038227152700:=()
def tw3789121141081335267:=()
def tw15909421493915366334:=()
def tw515613909061082711:=()
def tw12706844959944555491:=()
def tw15712944515809306473:=()
def tw7787128937235981665:=()
def tw17605670497220629587:=()
def tw6514554208038971093:=()
def tw11293489443897956429:=()
def tw6035215542421888940:=()
def tw4249858054771435548:=()
def tw909144570169351477:=()
def tw3371768495980851506:=()
def tw8019443832320548580:=()
def tw342641939944512276:=()
def tw17437037904513773716:=()
def tw13926890590336287477:=()
def tw14107937639007977316:=()
def tw6763161935582032918:=()
def tw8119143931249915688:=()
def tw6921021401311678890:=()
def tw15419047386860572844:=()
def tw7406119410248156839:=()
def tw7745543901714123241:=()
def tw15115080784959393506:=()
def tw500322260111723177:=()
def tw1047211668567234894:=()
def tw13867302668468859229:=()
def tw11403516510946819198:=()
def tw3125644062022220223:=()
def tw7572483683617227591:=()
def tw16910261907788777827:=()
def tw14631443304929862327:=()
def tw7412689579690470198:=()
def tw13905581657613226366:=()
def tw131778354992129887:=()
def tw482787662951141895:=()
def tw8819473891192969449:=()
def tw4636509669184296653:=()
def tw2044599637040959987:=()
def tw3417019855196402291:=()
def tw11038593128065712589:=()
def tw17435815271129898028:=()
def tw397867920817841406:=()
def tw16907470633461595616:=()
def tw15314768499434946505:=()
def tw13031634998501239194:=()
def tw460305944573359792:=()
def tw902729650549145015:=()
def tw15241235779752399276:=()
def tw15491533841850807168:=()
def tw15331948279829442946:=()
def tw3247046537916295289:=()
def tw12815849107592669738:=()
def tw7780677573379788323:=()
def tw898536784620737604:=()
def tw16455296264395756085:=()
def tw11336062500252120719:=()
def tw11206173764689910948:=()
def tw10899539155099220850:=()
def tw11890251709619478061:=()
def tw11958880511570848163:=()
def tw15983450422966840763:=()
def tw14799934323919500257:=()
def tw16501736109521760906:=()
def tw9891100494821625107:=()
def tw9441299561881509667:=()
def tw16518700917982657370:=()
def tw13535363403092392967:=()
def tw18326243302477199203:=()
def tw17590976794048396808:=()
def tw3370322779812305001:=()
def tw14990540027673642461:=()
def tw12592183689644688070:=()
def tw10419572787268662389:=()
def tw8201914235132630133:=()
def tw9253374517508619021:=()
def tw1697833129819209870:=()
def tw1911363977644534491:=()
def tw16779380688736743223:=()
def tw11738055335078924195:=()
def tw15985515904344528852:=()
def tw11601645170954784630:=()
def tw15518867017629775204:=()
def tw5875634273303029928:=()
def tw14727554473989674525:=()
def tw5989346585815568004:=()
def tw10544713922808498319:=()
def tw3712764888576427200:=()
def tw12719332152255097867:=()
def tw16953438669998174974:=()
def tw9272316244907968265:=()
def tw5476429984994947880:=()
end PySem.W.Fast
local macro_rules | `(tactic| walk_at "fh") => `(tactic| first | exact trivial | (refine DL.FHs.c ?q ?b; (case q => refine' DL.FH.of ?a ?l ?e ?k; (case a => k_is); (case l => k_is); (case e => k_is); (case k => k_is)); (case b => walk_at "fh")))
local macro_rules | `(tactic| walk_at "cr") => `(tactic| first | exact DL.cr_str | exact DL.cr_int | exact DL.cr_bl | exact DL.cr_non | (refine' DL.cr_tup ?l ?z ?h; (case l => k_is); (case z => rfl); (case h => walk_at "cs")))
local macro_rules | `(tactic| walk_at "cs") => `(tactic| first | exact DL.crl_nil | (refine' DL.crl_cons ?a ?b; (case a => walk_at "cr"); (case b => walk_at "cs")))
set_option maxRecDepth 100000 in
set_option maxHeartbeats 0 in
theorem PySem.Challenge.cw_allmeet_k49_what_is_a_telling_holds : PySem.Challenge.rw_allmeet_k49_what_is_a_telling.Holds := by
 w_on;o_law;k_head;(case hw=>w_witness2)
 k_fill
 refine DL.walk63 (l := PySem.Challenge.rw_allmeet_k49_what_is_a_telling) 29 rfl rfl ⟨rfl, by decide, by decide, rfl⟩ (fun w h Y => PySem.W.kIn_of Y) ?F
 case F=>
  intro w mg fa h KX G hmg;refine' W.all_mk KX G hmg ?Y0 ?Y25 ?Y50 ?_ ?_ ?_ ?_ ?z W.pure_law
  (case z=>intro b hb;simp only[DL.bltL,zn,zF,or_false]at hb;rcases hb with rfl|rfl|rfl|rfl|rfl|rfl|rfl|rfl|rfl|rfl|rfl|rfl|rfl|rfl|rfl|rfl|rfl|rfl|rfl|rfl<;>k_is)
  (case Y0=>walk_at "fh")
  (case Y25=>walk_at "fh")
  (case Y50=>walk_at "fh")
  all_goals (refine' DL.CC.of ?g ?r;(case g=>k_is);(case r=>walk_at "cr"))
