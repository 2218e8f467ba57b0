import PyProof.Rows.All
import Wide.All
import OpenK.AllK
import Wide.FinOn
import Lean
import PyProof.EqAt
import PyProof.EqKinds
import PyProof.TupleCall
import PyProof.NeKinds
import PyProof.ZipIter
import PyProof.EnumFor
import PyProof.EnumMake
import PyProof.EnumStmt
import PyProof.Draws
import KE.KDictSum
import PyProof.Rows.SortStr
import PyProof.StrWalks
import KE.KRevIter
import KE.KDictList
import PyProof.CollectIter
import PyProof.SliceStr2
import PyProof.StrBlockI
import KE.KListMore
import PyProof.DictWalks
import PyProof.TupleOfSeq
import PyProof.AttrMissHeap
import PyProof.AttrMissSeq
import KE.KDictOf
import PyProof.WalksMore
import KE.KSortTup
import KE.KSortKey
import PyProof.Rows.StrJoin2
import PyProof.ListMulRoad
import PyProof.FactsAll.tuple_2
import PyProof.Rows.SortShell
import PyProof.WalkInts
import KE.KMinBuiltin
import KE.KIntText
import PyProof.CallStr
import PyProof.PureStr
import PyProof.Rows.SetFrom
import KE.KMinKey
import PyProof.DictItems
import PyProof.DictItemsLoops
import PyProof.ReprRoads
import PyProof.WalksS
import PyProof.MeetsSeq2
import KE.KItemsList
import PyProof.TupleKey
import PyProof.IsRules
import PySem.Challenge.RW_allmeet_k44_words_joined
set_option Elab.async false
set_option linter.all false
set_option maxRecDepth 100000
open PySem renaming wpAny_bind→za,wpAny_pure→ze,Value→zh,sizeLine→zk,wpAny→zq,Shared→zv,model→zC,Program→zS,starEach→zX,compareOp→zZ,bootBuiltins→je,World→jg,Around→jn,sizeLine_eq→ju,wpAny_setState_of→jx,wpAny_holding→jy,mainGlobals→jz,wpAny_loadPart'→jD,wpAny_mono→jF,wpAny_callSpecial?_slot→jH,wpAny_call_entry→jK,tupleKeyHash→jQ,IsTupleKey→jZ,wpAny_ite_split→ya,wpAny_setField_rec→yo,wpAny_field→yq,Builtin→yt,wpAny_seqItems→yx,binaryOp→yy,codeAny_builtin→yA,wpAny_newObj_type→yI,IsPair→yP,sliceBounds→yR,wpAny_Call_Name_kw→yT,cLine→yU,mem_of_lookup→yY,foldedSetIterable→xa,plainId_quiet→xh,rawInt→xk,sysModules→xu,pyNext→xv,backTo→xw,assignEach→xx,wpAny_newList→xC,wpAny_attempt→xD,wpAny_truthy_bool→xG,FuncData→xP,wpAny_typeOf→xS,letOwnedTupleGo→xX,wpAny_pyIter_list→Zf,wpAny_newTuple→Zg,wpAny_eqBool_int→Zh,wpAny_rule→Zr,strIterType→Zu,hashByValue→Zv,wpAny_execs_nil→ZG,IsZip→ZN,codeAny_mono→ZP,codeAny→ZQ,pickOrder→ZX,ofAClassStatement→Yh,keywordEach→Yi,holding→Yj,wpAny_standAt→Yp,attributeBase→Yq,wpAny_isInstance→YB,wpAny_askSetting→YC,valueAt→YJ,assign→YK,BindsTo→YL,builtinLookup_eq_fast→YT,wpAny_updateSeq_pair→Xi,setNext→Xp,callerA→Xq,wpAny_onRaise→XA,setSearchFrom→XB,behindInMarks→XD,MulOk→XF,tupleKind_room_in1→XL,setEntries→XM,pyIter→XO,wpAny_collect_seq→Jb,slot_list_getitem→Jc,getItem→Je,backToKw→Jf,wpAny_forIn_list→Ju,tupleKind→Jv,noFill_tuple_add→Jw,merged→Jx,wpAny_letGo→JL,unsupported→JM,typeLookup_type→JV
open PySem.Heap renaming get?_push_of_some→zc,get?_push_size→zp,lt_size→zw,get?_update_ne→jM,size_push→jS,SameBut→yC,get?_update_other→yJ,get?_update_self→xt,get?_push_ne→xy,ExtBut→XQ
open List renaming length_append→zd,length_map→zf,mem_cons_of_mem→zi,size_toArray→zl,mem_singleton→zm,getD_eq_getElem?_getD→zn,getElem?_eq_getElem→zo,length_cons→zr,mem_cons_self→zt,mem_cons→zu,append_assoc→zA,getElem?_append_left→zE,range→zF,getElem?_cons_zero→zH,toArray→zJ,map_cons→zK,mem_append→zM,mem_append_right→zO,getElem?_cons_succ→zU,mem_map→zW,map_append→zY,not_mem_nil→ja,getElem?_set_ne→jd,getElem?_eq_none→jf,any_cons→jj,getElem?_set_self→jk,mem_range→jo,getElem?_map→jp,map_map→jv,mem_of_getElem?→jB,pairwise_map→jC,length_singleton→jE,filterMap_cons→jG,replicate→jJ,all_cons→jL,getElem?_append_right→jP,append_nil→jT,length_take→jU,length_range→jV,append_cancel_left→jW,set_cons_succ→jY,map_congr_left→ye,length_nil→yh,set_cons_zero→yj,filterMap_map→yk,mem_append_left→ym,ext_getElem→yn,mem_filter→yF,find?_cons→yG,take_of_length_le→yK,range_succ_eq_map→yL,lookup_cons→yN,pairwise_cons→yO,getElem?_eq_some_iff→yS,nodup_cons→yV,length_drop→xf,cons_ne_nil→xg,length_set→xp,foldl_cons→xq,dropLast_concat_getLast→xr,mem_iff_getElem→xE,length→xF,all_eq_true→xI,pairwise_iff_getElem→xN,zip_cons_cons→xT,map_nil→xY,take_append_drop→Zd,any_eq_true→Ze,pairwise_append→Zm,nil_append→Zo,forIn_cons→Zp,nodup_nil→ZD,map→ZE,drop_eq_getElem_cons→ZO,nodup_append→ZW,pairwise_singleton→Yd,drop_eq_nil_of_le→Yn,range_succ→Yv,mem_iff_getElem?→Yy,length_filter_le→Yz,getElem?_toArray→YA,forIn_nil→YH,filterMap→YI,mergeSort_perm→YQ,length_pos_iff→YR,mem_filterMap→Xf,getElem?_drop→Xg,append_ne_nil_of_right_ne_nil→Xh,getElem?_set→Xt,eraseIdx_eq_take_drop_succ→Xy,prefix_refl→XH,getElem_inj→XI,append_inj'→XJ,eq_nil_of_length_eq_zero→XR,of_mem_zip→XZ,any_append→Ja,perm_append_singleton→Jr,getElem?_zip_eq_some→JJ,extract_eq_drop_take→JK,zip_map'→JS,getElem?_take_of_lt→JT,pairwise_mergeSort→JX,getElem?_replicate→JY
open Nat renaming le_refl→zg,zero_le→zD,ne_of_lt→zG,le_trans→zQ,lt_of_lt_of_le→zV,lt_succ_of_lt→jR,le_succ_of_le→yf,lt_irrefl→yD,mod_lt→yQ,le_of_lt→xm,ne_of_gt→xK,lt_succ_self→xL,le_add_right→xM,add_sub_cancel_left→xV,lt_trans→Za,succ_le_succ→Zk,lt_or_ge→Zx,lt_or_eq_of_le→ZM,sub_succ_lt_self→YM,le_succ→YN,lt_of_le_of_lt→Xn,eq_zero_or_pos→Xo,toDigits→Xw,le_of_eq→Xx
open PySem.W renaming Frag→zj,fnOf→yH,keepIn→yM,kas_ask→xi,kas_sort→xB,KatTups→xO,nsIn→xU,findIn→Zs,codeIn→Zt,mg_of→ZH,kat_snds→ZR,kat_cons→ZS,kas_item→ZT,kat_yes→Ya,kat_run→Yb,kat_no→Yr,kat_go→Ys,methodObj→YU,kat_kind→Xj,cellsFrom_some→Jy
open Bool renaming false_eq_true→zy,false_ne_true→zN,or_false→jw,and_eq_true→jI,not_eq_true'→yE,eq_false_iff→yW,and_true→yX,or_true→Yo,not_true→Xc,not_false→Js,and_false→Jt
open List.cons renaming inj→zB
open Array renaming length_toList→zI,getElem?_toList→zL,getElem?_eq_getElem→ji,getD_eq_getD_getElem?→jA,getElem?_eq_some_iff→yr,toList_inj→xc,forIn_toList→xj,toList_append→Zq,perm_iff_toList_perm→Zy,getD→Zz,toList_map→ZZ,getElem?_setIfInBounds→XS,toList_filterMap→JZ
open Option.some renaming injEq→zP,inj→jr
open PyProof.Rows renaming seqObj→zR,slot_tuple_getitem→jO,listUpdate_at→yw,get?_update_seq→yZ,seqEpoch_at→xR,kindOf→xZ,callWith_type1→Zc,subscriptTail_builtinR→Zj,listItems_at→ZV,arrOf→Yl,Keyed→Ym,envOfC→Yt,failedOf→YE,IsTup→YF,entry_list_sort→YO,slot_list_sort→Xm,AllBare→Xs,plain_sorted→Ji,entry_sorted→Jj,kind_sorted→JR
open PySem.Obj renaming mapSeq→zT,putSet→Xk
open Classical renaming byContradiction→jb,choose→Xb
open PySem.SetTable renaming bits→jc,below→jh,leap→jl,runEnd→jt,insertAt→jN,turns→yd,sizeAbove→Zn,grown→Yk,fresh→XE,fits→XT,fill→XU,has→Jk
open PySem.SetTable.layClean renaming free→jm
open PySem.Str renaming ofString→jq
open PySem.Builtin.SmallTypes renaming nextOf→js,ownedTupleIsFree→yz,ownedTupleHandOut→ZC
open PySem.Around renaming under_plainId→jX
open PySem.SeqAt renaming EqAt→yb,RcNeAt→Yf,RcAt→YV,ne_of_list_tuple→JW
open False renaming elim→yc
open Int renaming toNat_natCast→yg,emod_nonneg→yi,emod_lt_of_pos→xn,le_refl→xW,le_trans→Xz
open PySem.PyData renaming keyHash→yp
open PySem.Heap.SameBut renaming update→yB
open PySem.SetTable.below renaming go→xb
open PySem.Paired renaming length→xl
open PySem.Builtin.Slice renaming slicePlaces→xo,sliceAdjust→Zi,sliceApplied→YZ
open PySem.Builtin.Tuple renaming tupleExact→xz,tupleItemsOf→YY
open Prod.mk renaming inj→xA
open PySem.SetTable.probe renaming go→xH
open PySem.F renaming slot_tuple_iterator_next→xJ,called_set→xQ,args_tuple_add_2→ZK,entry_tuple_add→ZU,slot_tuple_add→ZY,slot_list_getattribute→Yg,slot_zip_next→YG,slot_dict_getitem→XW,plain_extend_loop→XX,plain_list_iadd→Jo,args_tuple_iterator_next_1→JI,slot_str_startswith→JP,entry_tuple_iterator_next→JQ
open PySem.Builtin.List renaming listExtendWith→Zb,listLengthHint→Xa,listSameRef→Xr
open Option renaming map_some→Zl,isSome_map→ZL,map_eq_some_iff→Yc,isSome_iff_exists→Jq
open PySem.Builtin.Str renaming occurrences→Zw,subAt→YD,strSliceIndices→Xe
open PySem.Txt renaming slice→ZB,join→Xu
open PySem.W.Looks renaming of_pure→ZI
open PySem.W.KatTups renaming cons→ZJ
open StateT renaming run_pure→Ye
open PyProof.Rows.F renaming plain_set_update_loop→Yu
open PySem.SeqAt.EqAt renaming str_int→Yw,int_str→Yx,same→Xd,none_bool→Jl,bool_none→Jm,bool_bool→Jn,str_none→Jz,str_bool→JA,none_str→JC,none_int→JD,int_none→JE,int_bool→JF,bool_str→JG,bool_int→JH,str_str→JN,int_int→JO
open Function renaming comp_def→YS
open PySem.NumText renaming digitsVal→YW
open PySem.Calls renaming spliced_cons→YX,spliced_nil→Xl,Name_function_global→Jh,call_function_entry→Jp
open PySem.Builtin.Dict renaming updateFrom→Xv,pairItems→XG
open PySem.Heap.IsSliceOf renaming new→XV
open PyProof.Rows.SortSt renaming mk'→XY
open PySem.pickOrder renaming go→Jd
open PySem.W.KIN renaming val_back→Jg
open Sum.inr renaming inj→JU
noncomputable section
abbrev VSP:=zh->zv->Prop
abbrev PNS:=List (PySem.Addr×PySem.Obj)
namespace L2
open PySem PySem.Spec PyProof.Rows
theorem v6{a:α}{P:Prop}(h:none=some a):P:=nomatch h
theorem dD{a:α}{P:Prop}(h:some a=none):P:=nomatch h
theorem cG{P:Prop}(h:false=true):P:=nomatch h
theorem tG{a:α}{l:List α}{P:Prop}(h: []=a::l):P:=nomatch h
theorem iH{a:α}{l:List α}{P:Prop}(h:a::l= []):P:=nomatch h
abbrev Key:=Sum Int Str
def h9:Key->zh->Bool
 | .inl k,v=>Value.isInt k v
 | .inr x,v=>Value.isStrOf x v
def kq(w:jg):Key->Int
 | .inl k=>hashInt k
 | .inr x=>hashStr w x
theorem J0:∀ {k} {v},h9 k v=true->(∃i t,k=Sum.inl i/\v=Value.int i t)\/(∃x t,k=Sum.inr x/\v=Value.str x t)
 | .inl i,v,h=>by obtain⟨t,e⟩:=Value.isInt_shape (k:=i) (v:=v) h;exact .inl ⟨i,t,rfl,e⟩
 | .inr x,v,h=>by obtain⟨t,e⟩:=Value.isStrOf_shape (x:=x) (v:=v) h;exact .inr ⟨x,t,rfl,e⟩
theorem dl(i:Int)(t:Tok):h9 (.inl i) (.int i t)=true:=by simp[h9,Value.isInt]
theorem rJ(x:Str)(t:Tok):h9 (.inr x) (.str x t)=true:=by simp[h9,Value.isStrOf]
theorem qk(a b:Int):decide ((Sum.inl a:Key)=Sum.inl b)= (a==b):=by
 by_cases e:a=b
 ·subst e;simp
 ·have h:¬(Sum.inl a:Key)=Sum.inl b:=λq=>e (Sum.inl.inj q);rw[decide_eq_false h];exact(beq_eq_false_iff_ne.mpr e).symm
theorem qw(a b:Str):decide ((Sum.inr a:Key)=Sum.inr b)=decide (a=b):=by
 by_cases e:a=b
 ·subst e;simp
 ·have h:¬(Sum.inr a:Key)=Sum.inr b:=λq=>e (JU q);rw[decide_eq_false h,decide_eq_false e]
theorem tV(a:Int)(b:Str):decide ((Sum.inl a:Key)=Sum.inr b)=false:=decide_eq_false (λq=>nomatch q)
theorem eV(a:Str)(b:Int):decide ((Sum.inr a:Key)=Sum.inl b)=false:=decide_eq_false (λq=>nomatch q)
def u5(prog:zS)(w:jg):PySem.KeyKind prog w Key where
 is:=h9
 hash:=kq w
 inj:=λv a b ha hb=>by
  rcases J0 ha with⟨i,t,rfl,rfl⟩|⟨x,t,rfl,rfl⟩
  · rcases J0 hb with⟨j,u,rfl,e⟩|⟨y,u,rfl,e⟩
    ·injection e with e1 _;rw[e1]
    ·exact nomatch e
  · rcases J0 hb with⟨j,u,rfl,e⟩|⟨y,u,rfl,e⟩
    ·exact nomatch e
    ·injection e with e1 _;rw[e1]
 byValue:=λk v h=>by rcases J0 h with⟨i,t,rfl,rfl⟩|⟨x,t,rfl,rfl⟩<;>rfl
 pyHash:=λhv h=>by
  rcases J0 hv with⟨i,t,rfl,rfl⟩|⟨x,t,rfl,rfl⟩
  ·exact wpAny_pyHash_int h
  ·exact wpAny_pyHash_str h
 eqBool:=λhu hv h=>by
  rcases J0 hu with⟨i,t,rfl,rfl⟩|⟨x,t,rfl,rfl⟩
  · rcases J0 hv with⟨j,u,rfl,rfl⟩|⟨y,u,rfl,rfl⟩
    ·rw[qk]at h;exact Zh h
    ·rw[tV]at h;exact Yx i t y u _ _ _ _ h
  · rcases J0 hv with⟨j,u,rfl,rfl⟩|⟨y,u,rfl,rfl⟩
    ·rw[eV]at h;exact Yw x t j u _ _ _ _ h
    ·rw[qw]at h;exact wpAny_eqBool_str h
 «strs»:=λk x t v h=>by
  rcases J0 h with⟨i,u,rfl,e⟩|⟨y,u,rfl,e⟩
  ·exact nomatch e
  · injection e with e1 _;subst e1
    cases v<;>rfl
theorem MP(prog:zS)(w:jg)(i:Int)(t:Tok):(u5 prog w).is (.inl i) (.int i t)=true:=dl i t
theorem LQ(prog:zS)(w:jg)(x:Str)(t:Tok):(u5 prog w).is (.inr x) (.str x t)=true:=rJ x t
inductive V where
 |non|bl (b:Bool)|int (i:Int)|str (x:Str)|byt (b:Array UInt8)|flt (b:UInt64)|ref (a:Addr)|ty (n:String)
 deriving DecidableEq
def t6:V->zh->Prop
 | .non,u=>u=Value.none
 | .bl b,u=>u=Value.bool b
 | .int i,u=>∃t,u=Value.int i t
 | .str x,u=>∃t,u=Value.str x t
 | .byt b,u=>∃t,u=Value.bytes b t
 | .flt b,u=>∃t,u=Value.float b t
 | .ref a,u=>u=Value.ref a
 | .ty n,u=>u=Value.type n
abbrev m9:List V->List zh->Prop:=Paired t6
theorem m9.length(r:m9 xs us):xs.length=us.length:=xl r
theorem m9.get:∀ {xs} {us} {i:Nat} {x:V},m9 xs us->xs[i]? =some x->∃u,us[i]? =some u/\t6 x u
 |_,_,_,_,.nil,e=>by simp at e
 |_,_,0,_,.cons r _,e=>by simp at e;subst e;exact⟨_,rfl,r⟩
 |_,_,i+1,x,.cons _ t,e=>by obtain⟨u,h1,h2⟩:=m9.get (i:=i) (x:=x) t (by simpa using e);exact⟨u,by simpa using h1,h2⟩
theorem m9.set(r:t6 x u):∀ {xs} {us} i,m9 xs us->m9 (xs.set i x) (us.set i u)
 |_,_,_,.nil=>.nil
 |_,_,0,.cons _ t=>.cons r t
 |_,_,i+1,.cons q t=>.cons q (m9.set r i t)
theorem m9.append(h:m9 xs us)(k:m9 ys ws):m9 (xs++ys) (us++ws):=by
 induction h with
 |nil=>exact k
 |cons r t ih=>exact .cons r ih
theorem m9.take:∀ {xs} {us} n,m9 xs us->m9 (xs.take n) (us.take n)
 |_,_,0,_=>.nil
 |_,_,_+1,.nil=>.nil
 |_,_,n+1,.cons r t=>.cons r (m9.take n t)
theorem m9.drop:∀ {xs} {us} n,m9 xs us->m9 (xs.drop n) (us.drop n)
 |_,_,0,r=>r
 |_,_,_+1,.nil=>.nil
 |_,_,n+1,.cons _ t=>m9.drop n t
def D8:Option V->Option zh->Prop
 |some v,some u=>t6 v u
 |none,none=>True
 |_,_=>False
def KV{κ:Type}:List (κ×V)->List (κ×zh)->Prop:=Paired fun(p:κ×V) (q:κ×zh)=>p.1=q.1/\t6 p.2 q.2
def kV:Key->V
 | .inl i=>.int i
 | .inr x=>.str x
inductive HO where
 /-- a list -/
 |lst (xs:List V)
 /-- a tuple (never changes) -/
 |tup (xs:List V)
 /-- a dict whose keys are ints and texts;one whose keys are tuples of ints and texts (the empty one is both) -/
 |dK (iz:List (Key×V))|dT (iz:List (List Key×V))
 /-- a set of ints:ka members,ka size -/
 |set (S:Int->Bool) (n:Nat)
 /-- an instance of the class at C,ka dict at dx,ka attributes -/
 |ins (C dx:Addr) (fs:List (Str×V))
 /-- the dict of the instance at x -/
 |own (x:Addr)
 /-- the dict of an exception -/
 |xd (fs:List (Str×V))
 /-- a bound method,f of x -/
 |met (f x:Addr)
 /-- a range object lo,lo+1,.. below hi -/
 |rng (lo hi:Int)
 /-- a thing that is known to the object (the script;a dict while a loop walks it):read,never written while it is so -/
 |frz (o:Obj) (u:HO)
 /-- a code object's table -/
 |tbl (ps:Array zh)
 /-- any other thing,by what is true of ka one object (a def of one's own:SetO a S n:=HO.ext λh=>..) -/
 |ext (φ:Heap->Prop)
abbrev Hp:=Addr->Option HO
def upd(H:Hp)(a:Addr)(o:HO):Hp:=λb=>if b=a then some o else H b
theorem w5:upd H a o a=some o:=by unfold upd;rw[if_pos rfl]
theorem m8(h:b≠a):upd H a o b=H b:=by unfold upd;rw[if_neg h]
theorem gn{H:Hp}(h:H a=some o)(h':H b=some u)(d:o≠u):a≠b:=by intro e;subst e;rw[h]at h';exact d (jr h')
theorem o4{H:Hp}{o:HO}(h:H a=some o)(h':H b=none):a≠b:=by intro e;subst e;rw[h]at h';cases h'
section
variable(P:zS)(w:jg)
def x5(h:Heap)(a:Addr)(items:Array zh):Prop:=∃o,h.get? a=some o/\o.cls= .type "tuple"/\∃n,(o.data,o.dict)= (Data.seq items n,none)
theorem x5.tup(x:x5 h a items):YF h a items:=by obtain⟨o,e,c,n,d⟩:=x;exact⟨o,e,c,n,(xA d).1⟩
theorem x5.new(h:Heap)(items:Array zh):x5 (h.push {cls:=.type "tuple",data:=.seq items}) h.objs.size items:=⟨_,zp _ rfl,rfl,_,rfl⟩
def N7(H:Hp)(h:Heap)(a:Addr):HO->Prop
 | .lst xs=>xs.length<=zk/\∃(ka:List zh) (n:Nat),m9 xs ka/\h.get? a=some {cls:=.type "list",data:=.seq ka.toArray n}
 | .tup xs=>xs.length<=zk/\∃ka:List zh,m9 xs ka/\x5 h a ka.toArray
 | .dK iz=>iz.length<=zk/\(a==xu)=false/\∃vs,KV iz vs/\h.DictOf (u5 P w) a vs
 | .dT iz=>iz.length<=zk/\(a==xu)=false/\∃xs:List (List Key×Addr×zh),
    Paired (fun(p:List Key×V) (q:List Key×Addr×zh)=>p.1=q.1/\H q.2.1=some (.tup (p.1.map kV))/\t6 p.2 q.2.2) iz xs/\
    ∃o es ep,h.get? a=some o/\o.ExactDict/\o.data= .dict es ep/\es.toList=xs.map (entryOfKey (Jv (u5 P w)))/\(xs.map (·.1)).Nodup
 | .set S n=>h.SetOf (intKind P w) a S n
 | .ins C dx fs=>H dx=some (.own a)/\fs.length<=1000/\dx≠a/\h.get? a=some (PySem.W.instObj C dx)/\
    ∃mA,h.Ns1 dx mA/\(∀f,D8 (fs.lookup f) (mA f))/\PySem.Within mA (fs.map (·.1))
 | .own _=>∃o,h.get? a=some o
 | .xd fs=>∃mA,h.Ns1 a mA/\∀f,D8 (fs.lookup f) (mA f)
 | .rng lo hi=>∃t u v,h.get? a=some {cls:=.type "range",data:=.fields #[.int lo t,.int hi u,.int 1 v]}
 | .frz o u=>h.get? a=some o/\N7 H h a u
 | .tbl ps=>h.get? a=some {cls:=.none,data:=.fields ps}
 | .met f x=>h.get? a=some (YU (.ref f) (.ref x))
 | .ext φ=>φ h/\(∃o,h.get? a=some o)/\∀h1 h2:Heap,φ h1->(∀o,h1.get? a=some o->h2.get? a=some o)->φ h2
def HOk(H:Hp)(h:Heap):Prop:=∀a o,H a=some o->N7 P w H h a o
end
section
theorem N7.lt(x:N7 P w H h a o):a<h.objs.size:=by
 cases o with
 |lst xs=>obtain⟨_,_,_,_,e⟩:=x;exact zw e
 |tup xs=>obtain⟨_,_,_,p⟩:=x;exact(x5.tup p).lt
 |dK iz=>obtain⟨_,_,_,_,o,_,_,e,_⟩:=x;exact zw e
 |dT iz=>obtain⟨_,_,_,_,o,_,_,e,_⟩:=x;exact zw e
 |set S n=>obtain⟨o,_,_,_,e,_⟩:=x;exact zw e
 |ins C dx fs=>obtain⟨_,_,_,e,_⟩:=x;exact zw e
 |own y=>obtain⟨_,e⟩:=x;exact zw e
 |xd fs=>obtain⟨_,⟨_,_,_,e,_⟩,_⟩:=x;exact zw e
 |rng lo hi=>obtain⟨_,_,_,e⟩:=x;exact zw e
 |frz ob u=>obtain⟨e,_⟩:=x;exact zw e
 |tbl ps=>exact zw (show h.get? a=some _ from x)
 |met f y=>exact zw (show h.get? a=some _ from x)
 |ext φ=>obtain⟨_,⟨_,e⟩,_⟩:=x;exact zw e
theorem Paired.mapP(h:Paired F l₁ l₂)(f:∀a b,F a b->G a b):Paired G l₁ l₂:=by
 induction h with
 |nil=>exact .nil
 |cons r t ih=>exact .cons (f _ _ r) ih
theorem N7.stay(x:N7 P w H h a o)(k:∀b u,(b=a\/H b=some (.own a))->h.get? b=some u->h'.get? b=some u)
 (ho:∀b,H b=some (.own a)->H' b=some (.own a)) (ht:∀b xs,H b=some (.tup xs)->H' b=some (.tup xs)):N7 P w H' h' a o:=by
 induction o with
 |lst xs=>obtain⟨z,ka,n,r,e⟩:=x;exact⟨z,ka,n,r,k _ _ (.inl rfl) e⟩
 |tup xs=>obtain⟨z,ka,r,ob,e,c⟩:=x;exact⟨z,ka,r,ob,k _ _ (.inl rfl) e,c⟩
 |dK iz=>obtain⟨z,y,vs,r,ob,es,ep,e,c⟩:=x;exact⟨z,y,vs,r,ob,es,ep,k _ _ (.inl rfl) e,c⟩
 |dT iz=>
   obtain⟨z,y,xs,r,ob,es,ep,e,c⟩:=x;exact⟨z,y,xs,Paired.mapP r λp q z=>⟨z.1,ht _ _ z.2.1,z.2.2⟩,ob,es,ep,k _ _ (.inl rfl) e,c⟩
 |set S n=>obtain⟨ob,es,ep,t,e,c⟩:=x;exact⟨ob,es,ep,t,k _ _ (.inl rfl) e,c⟩
 |ins C dx fs=>
   obtain⟨d,z,ne,e,mA,⟨od,es,ep,e2,c⟩,r⟩:=x;exact⟨ho _ d,z,ne,k _ _ (.inl rfl) e,mA,⟨od,es,ep,k _ _ (.inr d) e2,c⟩,r⟩
 |own y=>obtain⟨ob,e⟩:=x;exact⟨ob,k _ _ (.inl rfl) e⟩
 |xd fs=>obtain⟨mA,⟨od,es,ep,e,c⟩,r⟩:=x;exact⟨mA,⟨od,es,ep,k _ _ (.inl rfl) e,c⟩,r⟩
 |rng lo hi=>obtain⟨t,u,v,e⟩:=x;exact⟨t,u,v,k _ _ (.inl rfl) e⟩
 |frz ob u ih=>obtain⟨e,q⟩:=x;exact⟨k _ _ (.inl rfl) e,ih q⟩
 |tbl ps=>
   have e:h.get? a=some {cls:=.none,data:=.fields ps}:=x;show h'.get? a=some {cls:=.none,data:=.fields ps};exact k a _ (.inl rfl) e
 |met f y=>
   have e:h.get? a=some (YU (.ref f) (.ref y)):=x;show h'.get? a=some (YU (.ref f) (.ref y));exact k a _ (.inl rfl) e
 |ext φ=>obtain⟨p,⟨o,e⟩,st⟩:=x;exact⟨st _ _ p λo q=>k _ _ (.inl rfl) q,⟨o,k _ _ (.inl rfl) e⟩,st⟩
theorem HOk.lt(x:HOk P w H h)(e:H a=some o):a<h.objs.size:=(x a o e).lt
theorem HOk.fresh(x:HOk P w H h)(e:h.objs.size<=a):H a=none:=by
 cases q:H a with
 |none=>rfl
 |some u=>exact absurd (zV (x.lt q) e) (yD _)
theorem HOk.kept(x:HOk P w H h)(k:∀b u,h.get? b=some u->h'.get? b=some u):HOk P w H h':=λa o e=>
 (x a o e).stay (λb u _ q=>k b u q) (λ_ q=>q) λ_ _ q=>q
theorem HOk.laid(x:HOk P w H h)(k:∀b u,h.get? b=some u->h'.get? b=some u)(hp:h.objs.size<=a)(new:N7 P w (upd H a o) h' a o):HOk P w (upd H a o) h':=λb u e=>by
 have hn:=x.fresh hp;by_cases hb:b=a
 ·subst hb;rw[w5]at e;cases e;exact new
 ·rw[m8 hb]at e;exact(x b u e).stay (λc v _ q=>k c v q) (λc q=>by rw[m8 (o4 q hn)];exact q) λc xs q=>by rw[m8 (o4 q hn)];exact q
end
def Rd(H:Hp)(a:Addr)(u:HO):Prop:=H a=some u\/∃o,H a=some (.frz o u)
theorem Rd.ok(r:Rd H a u)(x:HOk P w H h):N7 P w H h a u:=by
 rcases r with r|⟨o,r⟩
 ·exact x a u r
 ·obtain⟨_,q⟩:=x a _ r;exact q
def Mut:Option HO->Prop
 |some (.lst _)=>True
 |some (.dK _)=>True
 |some (.dT _)=>True
 |some (.set _ _)=>True
 |some (.ins _ _ _)=>True
 |some (.ext _)=>True
 |_=>False
section
theorem HOk.write(ok:HOk P w H h)(mu:Mut (H x))(he:e=x\/H e=some (.own x))(k:∀b u,b≠e->h.get? b=some u->h'.get? b=some u)(heo:∃u,h'.get? e=some u)
 (new:N7 P w (upd H x o') h' x o'):HOk P w (upd H x o') h':=λb u q=>by
 have nown:∀c y,H c=some (.own y)->c≠x:=λc y r z=>by subst z;rw[r]at mu;exact mu
 have ntup:∀c xs,H c=some (.tup xs)->c≠x:=λc xs r z=>by subst z;rw[r]at mu;exact mu
 by_cases hb:b=x
 ·subst hb;rw[w5]at q;cases q;exact new
 · rw[m8 hb]at q;by_cases hbe:b=e
   · have q':H b=some (.own x):=by
      rcases he with z|z
      ·exact absurd (hbe.trans z) hb
      ·rw[hbe];exact z
     rw[q]at q';cases q';obtain⟨v,hv⟩:=heo;exact⟨v,by rw[hbe];exact hv⟩
   · refine(ok b u q).stay (λc v hc r=>k c v ?_ r) (λc r=>by rw[m8 (nown c b r)];exact r) λc xs r=>by rw[m8 (ntup c xs r)];exact r
     rcases hc with rfl|hc
     ·exact hbe
     · rintro rfl;rcases he with z|z
       ·exact nown c b hc z
       ·rw[hc]at z;cases z;exact hb rfl
end
structure Un(fs ex:List Addr)(H H':Hp)(h h':Heap):Prop where
 keep:∀b o,h.get? b=some o->H b=none->b∉fs->b∉ex->h'.get? b=some o
 slot:∀b o,h.get? b=some o->H b=none->b∈fs->b∉ex->∃sl,h'.get? b=some {o with slots:=sl}
 free:∀b o,h.get? b=some o->H b=none->b∉ex->H' b=none
 there:∀b o,h.get? b=some o->b∉ex->∃o',h'.get? b=some o'
 tups:∀b xs,H b=some (.tup xs)->H' b=some (.tup xs)
 frzs:∀b o u,H b=some (.frz o u)->H' b=some (.frz o u)
 tbls:∀b ps,H b=some (.tbl ps)->∃more,H' b=some (.tbl (ps++more))
section
theorem Un.any(u:Un fs ex H H1 h h1)(q:h.get? b=some ob)(n:H b=none)(hx:b∉ex):∃sl,h1.get? b=some {ob with slots:=sl}:=by
 by_cases hb:b∈fs
 ·exact u.slot b ob q n hb hx
 ·exact⟨ob.slots,u.keep b ob q n hb hx⟩
theorem Un.kept(k:∀b u,h.get? b=some u->h'.get? b=some u):Un fs ex H H h h':=
 ⟨λb ob q _ _ _=>k b ob q,λb ob q _ _ _=>⟨ob.slots,k b ob q⟩,λ_ _ _ n _=>n,λb ob q _=>⟨ob,k b ob q⟩,λ_ _ q=>q,λ_ _ _ q=>q,λ_ ps q=>⟨#[],by rw[q];simp⟩⟩
theorem Un.refl:Un fs ex H H h h:=Un.kept λ_ _ q=>q
theorem Un.laid(k:∀b u,h.get? b=some u->h'.get? b=some u)(hp:h.objs.size<=a)(hn:H a=none):Un fs ex H (upd H a o) h h' where
 keep:=λb u q _ _ _=>k b u q
 slot:=λb u q _ _ _=>⟨u.slots,k b u q⟩
 free:=λb u q n _=>by rw[m8 (zG (zV (zw q) hp))];exact n
 there:=λb u q _=>⟨u,k b u q⟩
 tups:=λb xs q=>by rw[m8 (o4 q hn)];exact q
 frzs:=λb u xs q=>by rw[m8 (o4 q hn)];exact q
 tbls:=λb ps q=>⟨#[],by rw[m8 (o4 q hn),q];simp⟩
theorem Un.write(mu:Mut (H x))(he:e=x\/H e=some (.own x))(k:∀b u,b≠e->h.get? b=some u->h'.get? b=some u)(heo:∃u,h'.get? e=some u):Un fs ex H (upd H x o) h h':=by
 have hx:∀b,H b=none->b≠x:=λb n z=>by subst z;rw[n]at mu;exact mu
 have hb:∀b,H b=none->b≠e:=λb n z=>by
  subst z;rcases he with r|r
  ·exact hx b n r
  ·rw[n]at r;cases r
 have hm:∀b u,H b=some u->¬Mut (some u)->b≠x:=λb u q nm z=>by subst z;rw[q]at mu;exact nm mu
 refine⟨λb u q n _ _=>k b u (hb b n) q,λb u q n _ _=>⟨u.slots,k b u (hb b n) q⟩,λb u q n _=>by rw[m8 (hx b n)];exact n,λb u q _=>?_,
  λb xs q=>by rw[m8 (hm b _ q λz=>z)];exact q,λb u xs q=>by rw[m8 (hm b _ q λz=>z)];exact q,λb ps q=>⟨#[],by rw[m8 (hm b _ q λz=>z),q];simp⟩⟩
 by_cases hbe:b=e
 ·subst hbe;exact heo
 ·exact⟨u,k b u hbe q⟩
end
def trk(h:Heap)(H:Hp):List Addr:=(zF h.objs.size).filter λa=>(H a).isSome
def P8(h:Heap)(H:Hp):Heap:=PySem.W.hideAll h (trk h H)
theorem AS(h:Heap)(H:Hp):(P8 h H).objs.size=h.objs.size:=PySem.W.hideAll_size _ _
theorem aa(e:h.get? b=some o)(n:H b=none):(P8 h H).get? b=some o:=
 PySem.W.hideAll_get _ e λhm=>by have q:(H b).isSome=true:=(yF.mp hm).2;rw[n]at q;simp at q
theorem Gh(e:(P8 h H).get? b=some o):h.get? b=some o/\H b=none:=by
 have e':h.get? b=some o:=PySem.W.of_hideAll (trk h H) e;refine⟨e',?_⟩
 cases q:H b with
 |none=>rfl
 |some x=>
   have hm:b∈trk h H:=yF.mpr ⟨jo.mpr (zw e'),by simp[q]⟩;have z:(P8 h H).get? b=none:=PySem.W.hideAll_none (trk h H) hm;rw[z]at e;cases e
def Rm(g h:Heap)(L:Addr):PNS:=(zF h.objs.size).filterMap λa=>if a=L\/(g.get? a).isSome=true then none else (h.get? a).map λo=>(a,o)
def rest(g h:Heap)(L d:Addr):PNS:=(Rm g h L).filter λp=>decide (p.1≠d)
structure Mod(K:zj)(mg:Str->Option zh)(base:Heap):Prop where
 kin:K.In base
 glob:base.Ns jz mg
 blt:∃mb,base.Ns builtinsNs mb/\∀x:Str,x≠ "__name__"->mb x=je x
 nolimit:base.NoLimit
structure Cx where
 prog:zS
 w:jg
 K:zj
 mg:Str->Option zh
 base:Heap
 A:jn
 N:List Str
 WW:zv
 H₀:Hp
 env:Env
 outer:List Env
 stack:List Env
 ex:List Addr
 fn:Str->Bool
 calm:Bool
 pn:PNS
 xe:VSP
def frs(l:List Env):List Addr:=l.filterMap (·.frame)
abbrev Cx.fs(X:Cx):List Addr:=frs X.outer
def Vis(sc:Scope)(x:Str):Prop:=sc.names.lookup x=some .local\/sc.names.lookup x=some .cell\/sc.names.lookup x=some .free
def Loc(sc:Scope)(x:Str):Prop:=sc.names.lookup x=some .local\/sc.names.lookup x=some .cell
def RW(env:Env)(h:Heap)(m:Str->Option zh)(x:Str)(u:zh):Prop:=
 (env.kindOf x=some .local/\m x=some u)\/((env.kindOf x=some .cell\/env.kindOf x=some .free)/\∃c,env.cells.lookup x=some c/\h.IsCell c (some u))
structure Cx.Ok(X:Cx):Prop where
 mod:Mod X.K X.mg X.base
 kind:X.env.scope.kind= .function
 glob:X.env.globals=jz
 blt:X.env.builtins=builtinsNs
 above:X.WW.heap.objs.size<=X.env.locals
 inj:∀x y c,X.env.cells.lookup x=some c->X.env.cells.lookup y=some c->x=y
 has:∀x,(X.env.kindOf x=some .cell\/X.env.kindOf x=some .free)->∃c,X.env.cells.lookup x=some c
 cab:∀x c,X.fn x=true->X.env.cells.lookup x=some c->X.WW.heap.objs.size<=c
 hd:X.calm=true->X.A.handled=none
 frames:X.A.frames=some X.stack
 stk:X.stack=X.outer\/(X.stack=X.env::X.outer/\X.env.frame=some X.env.locals)
 exf:∀b∈X.ex,b≠X.env.locals/\∀x c,X.env.cells.lookup x=some c->c≠b
 bs:∀b o,X.base.get? b=some o->X.WW.heap.get? b=some o/\X.H₀ b=none
 bsz:X.base.objs.size<=X.WW.heap.objs.size
 noex:∀b o,X.base.get? b=some o->b∉X.ex
 exfs:∀b∈X.ex,b∉X.fs
 funs:X.WW.heap.FunFrames X.base X.outer
 frf:∀b∈X.fs,X.H₀ b=none
 gd:X.A.guards=some []
structure Inv(X:Cx)(pins:PNS)(σ:List (Option V))(H:Hp)(s:zv):Prop where
 ok:X.Ok
 os:s.os=X.WW.os
 bare:Xs s.gens
 base:Un X.fs X.ex X.H₀ H X.WW.heap s.heap
 loc:∃m,s.heap.Ns X.env.locals m/\∀(i:Nat) (x:Str) (v:V),X.N[i]? =some x->σ[i]? =some (some v)->Vis X.env.scope x->∃u,t6 v u/\RW X.env s.heap m x u
 cell:∀x c,X.env.cells.lookup x=some c->∃v,s.heap.IsCell c v
 free:H X.env.locals=none
 freeC:∀x c,X.env.cells.lookup x=some c->H c=none
 pin:∀p∈X.pn++pins,s.heap.get? p.1=some p.2/\H p.1=none/\p.1≠X.env.locals/\p.1∉X.fs/\∀v,p.2.data≠ .cell v
 hok:HOk X.prog X.w H s.heap
 len:σ.length=X.N.length
section
variable{X:Cx}{pins:PNS}{σ:List (Option V)}{H H':Hp}{s:zv}
theorem Cx.Ok.nofr(ok:X.Ok)(e:X.base.get? b=some o):b∉X.fs:=λhb=>by have:=(ok.funs.mem hb).1;rw[e]at this;cases this
theorem Inv.bs(I:Inv X pins σ H s):∀b o,X.base.get? b=some o->s.heap.get? b=some o/\H b=none:=λb o e=>
 ⟨I.base.keep b o (I.ok.bs b o e).1 (I.ok.bs b o e).2 (I.ok.nofr e) (I.ok.noex b o e),I.base.free b o (I.ok.bs b o e).1 (I.ok.bs b o e).2 (I.ok.noex b o e)⟩
theorem Inv.bk(I:Inv X pins σ H s):∀b o,X.base.get? b=some o->s.heap.get? b=some o:=λb o e=>(I.bs b o e).1
theorem Inv.mod(I:Inv X pins σ H s):Mod X.K X.mg X.base:=I.ok.mod
theorem Inv.kIn(I:Inv X pins σ H s):X.K.In s.heap:=I.ok.mod.kin.keeps I.bk
theorem Inv.lt(I:Inv X pins σ H s):X.env.locals<s.heap.objs.size:=let ⟨_,hn,_⟩:=I.loc;hn.lt
theorem Inv.sz(I:Inv X pins σ H s):X.WW.heap.objs.size<=s.heap.objs.size:=zQ I.ok.above (xm I.lt)
theorem Inv.nofs(I:Inv X pins σ H s)(h:s.heap.objs.size<=a):a∉X.fs:=λhb=>by obtain⟨_,o,ho,_⟩:=I.ok.funs.mem hb;exact absurd (zV (zw ho) (zQ I.sz h)) (yD _)
theorem Inv.cne(I:Inv X pins σ H s):∀x c,X.env.cells.lookup x=some c->c≠X.env.locals:=λx c e z=>by obtain⟨v,o,ho,hd⟩:=I.cell x c e;obtain⟨m,⟨o',es,ep,ho',oi,_⟩,_⟩:=I.loc;rw[z,ho']at ho;cases ho;rw[oi]at hd;cases hd
theorem Inv.funs(I:Inv X pins σ H s):s.heap.FunFrames X.base X.outer:=by
 have all:∀(l:List Env),(∀b∈frs l,b∈X.fs)->X.WW.heap.FunFrames X.base l->s.heap.FunFrames X.base l:=by
  intro l
  induction l with
  |nil=>intro _ _;trivial
  |cons env r ih=>
    intro hs hl;obtain⟨hk,⟨L,o,hf,hn,ho,hd⟩,hr⟩:=hl;have hL:L∈X.fs:=hs L (by unfold frs;rw[jG,hf];exact zt);obtain⟨sl,e⟩:=I.base.slot L o ho (I.ok.frf L hL) hL λz=>I.ok.exfs L z hL;exact⟨hk,⟨L,_,hf,hn,e,hd⟩,ih (λb hb=>hs b (by unfold frs;rw[jG,hf];exact zi _ hb)) hr⟩
 exact all X.outer (λ_ hb=>hb) I.ok.funs
theorem Inv.stack(I:Inv X pins σ H s):s.heap.FunFrames X.base X.stack:=by
 rcases I.ok.stk with e|⟨e,hf⟩
 ·rw[e];exact I.funs
 ·rw[e];obtain⟨m,hn,_⟩:=I.loc;refine .cons (by rw[I.ok.kind];decide) hf hn ?_ I.funs;exact Heap.get?_none_of_le (zQ I.ok.bsz I.ok.above)
theorem Inv.stkSub(I:Inv X pins σ H s):∀b∈frs X.stack,b∈X.env.locals::X.fs:=λb hb=>by
 rcases I.ok.stk with e|⟨e,hf⟩
 ·rw[e]at hb;exact zi _ hb
 ·rw[e]at hb;unfold frs at hb;rw[jG,hf]at hb;exact hb
theorem Inv.stkFree(I:Inv X pins σ H s):∀b∈frs X.stack,H b=none:=λb hb=>by
 rcases zu.mp (I.stkSub b hb)with e|hb
 ·rw[e];exact I.free
 ·obtain⟨_,o,ho,_⟩:=I.ok.funs.mem hb;exact I.base.free b o ho (I.ok.frf b hb) λz=>I.ok.exfs b z hb
theorem Inv.step{t':Nat}{d':Drawn}{ch:List Addr}(I:Inv X pins σ H s)
 (hch:∀b∈ch,(b∈X.ex\/X.WW.heap.objs.size<=b)/\b≠X.env.locals/\(∀x c,X.env.cells.lookup x=some c->c≠b)/\∀p∈X.pn++pins,p.1≠b)
 (keep:∀b o,b≠X.env.locals->b∉X.fs->b∉ch->s.heap.get? b=some o->H b=none->h'.get? b=some o)
 (slot:∀b o,b≠X.env.locals->b∈X.fs->b∉ch->s.heap.get? b=some o->H b=none->∃sl,h'.get? b=some {o with slots:=sl}) (free:∀b o,b∉ch->s.heap.get? b=some o->H b=none->H' b=none)
 (there:∀b o,b∉ch->s.heap.get? b=some o->∃o',h'.get? b=some o')
 (tups:∀b xs,H b=some (.tup xs)->H' b=some (.tup xs)) (frzs:∀b o u,H b=some (.frz o u)->H' b=some (.frz o u)) (tbls:∀b ps,H b=some (.tbl ps)->∃more,H' b=some (.tbl (ps++more)))
 (ns:∀m,s.heap.Ns X.env.locals m->h'.Ns X.env.locals m) (hok:HOk X.prog X.w H' h') (hg:Xs g'):
 Inv X pins σ H' {s with heap:=h',gens:=g',drawn:=d',toks:=t'}:=by
 have neL:∀b o,X.WW.heap.get? b=some o->b≠X.env.locals:=λb o e=>zG (zV (zw e) I.ok.above);have neC:∀b o,X.WW.heap.get? b=some o->b∉X.ex->b∉ch:=λb o e hx hb=>by
  rcases (hch b hb).1 with z|z
  ·exact hx z
  ·exact absurd (zV (zw e) z) (yD _)
 have cellK:∀x c,X.env.cells.lookup x=some c->∀v,s.heap.IsCell c v->h'.IsCell c v:=λx c e v ⟨o,ho,hd⟩=>by
  have nch:c∉ch:=λz=>(hch c z).2.2.1 x c e rfl;by_cases hc:c∈X.fs
  ·obtain⟨sl,q⟩:=slot c o (I.cne x c e) hc nch ho (I.freeC x c e);exact⟨_,q,hd⟩
  ·exact⟨o,keep c o (I.cne x c e) hc nch ho (I.freeC x c e),hd⟩
 refine⟨I.ok,I.os,hg,⟨λb o e n hb hx=>?_,λb o e n hb hx=>?_,λb o e n hx=>?_,λb o e hx=>?_,λb xs e=>tups b xs (I.base.tups b xs e),λb o xs e=>frzs b o xs (I.base.frzs b o xs e),λb ps e=>?_⟩,?_,λx c e=>?_,?_,λx c e=>?_,λp hp=>?_,hok,I.len⟩
 ·exact keep b o (neL b o e) hb (neC b o e hx) (I.base.keep b o e n hb hx) (I.base.free b o e n hx)
 ·obtain⟨sl,e1⟩:=I.base.slot b o e n hb hx;obtain⟨sl',e2⟩:=slot b _ (neL b o e) hb (neC b o e hx) e1 (I.base.free b o e n hx);exact⟨sl',e2⟩
 ·obtain⟨o',e1⟩:=I.base.there b o e hx;exact free b o' (neC b o e hx) e1 (I.base.free b o e n hx)
 ·obtain⟨o',e1⟩:=I.base.there b o e hx;exact there b o' (neC b o e hx) e1
 ·obtain⟨m1,e1⟩:=I.base.tbls b ps e;obtain⟨m2,e2⟩:=tbls b _ e1;exact⟨m1++m2,by rw[e2,Array.append_assoc]⟩
 · obtain⟨m,hn,hl⟩:=I.loc;refine⟨m,ns m hn,λi x v e1 e2 e3=>?_⟩;obtain⟨u,r,l⟩:=hl i x v e1 e2 e3;refine⟨u,r,?_⟩;rcases l with l|⟨k,c,e,z⟩
   ·exact .inl l
   ·exact .inr ⟨k,c,e,cellK x c e _ z⟩
 ·obtain⟨v,z⟩:=I.cell x c e;exact⟨v,cellK x c e v z⟩
 ·obtain⟨m,⟨o,_,_,ho,_⟩,_⟩:=I.loc;exact free _ o (λz=>(hch _ z).2.1 rfl) ho I.free
 ·obtain⟨v,o,ho,hd⟩:=I.cell x c e;exact free c o (λz=>(hch c z).2.2.1 x c e rfl) ho (I.freeC x c e)
 ·obtain⟨e,n,ne,nf,d⟩:=I.pin p hp;have nch:p.1∉ch:=λz=>(hch p.1 z).2.2.2 p hp rfl;exact⟨keep p.1 p.2 ne nf nch e n,free p.1 p.2 nch e n,ne,nf,d⟩
theorem Inv.un(I:Inv X pins σ H s)(u:Un X.fs [] H H' s.heap h')(hok:HOk X.prog X.w H' h'):Inv X pins σ H' {s with heap:=h',toks:=t'}:=by
 obtain⟨m,⟨o,es,ep,ho,r⟩,_⟩:=id I.loc;obtain⟨sl,hL⟩:=u.any ho I.free (by simp);exact I.step (g':=s.gens) (d':=s.drawn) (ch:= []) (λ_ z=>nomatch z) (λb o _ hb _ e n=>u.keep b o e n hb (by simp)) (λb o _ hb _ e n=>u.slot b o e n hb (by simp)) (λb o _ e n=>u.free b o e n (by simp)) (λb o _ e=>u.there b o e (by simp)) u.tups u.frzs u.tbls (λm' hm=>by obtain⟨o',oh,ep',ho',r'⟩:=hm;rw[ho]at ho';cases ho';exact⟨_,oh,ep',hL,r'⟩) hok I.bare
theorem Inv.call{t':Nat}{d':Drawn}{ch:List Addr}(I:Inv X pins σ H s)(u:Un (frs X.stack) ch H H' s.heap h')(hok:HOk X.prog X.w H' h')(hg:Xs g')
 (hch:∀b∈ch,(b∈X.ex\/X.WW.heap.objs.size<=b)/\b≠X.env.locals/\(∀x c,X.env.cells.lookup x=some c->c≠b)/\∀p∈X.pn++pins,p.1≠b):
 Inv X pins σ H' {s with heap:=h',gens:=g',drawn:=d',toks:=t'}:=by
 obtain⟨m,⟨o,es,ep,ho,r⟩,_⟩:=id I.loc;obtain⟨sl,hL⟩:=u.any ho I.free λz=>(hch _ z).2.1 rfl;exact I.step (ch:=ch) hch (λb o hL hb hc e n=>u.keep b o e n (λz=>(zu.mp (I.stkSub b z)).elim hL hb) hc) (λb o _ _ hc e n=>u.any e n hc) (λb o hc e n=>u.free b o e n hc) (λb o hc e=>u.there b o e hc) u.tups u.frzs u.tbls (λm' hm=>by obtain⟨o',oh,ep',ho',r'⟩:=hm;rw[ho]at ho';cases ho';exact⟨_,oh,ep',hL,r'⟩) hok hg
theorem Inv.turned{t':Nat}(I:Inv X pins σ H s)(k:∀b o,b≠it->s.heap.get? b=some o->h'.get? b=some o)(hn:H it=none)(hL:it≠X.env.locals)
 (h1:it∈X.ex\/X.WW.heap.objs.size<=it) (h2:∀x c,X.env.cells.lookup x=some c->c≠it) (h3:∀p∈X.pn++pins,p.1≠it):Inv X pins σ H {s with heap:=h',toks:=t'}:=by
 have nit:∀b u,H b=some u->b≠it:=λb u e z=>by rw[z,hn]at e;cases e
 refine I.step (g':=s.gens) (d':=s.drawn) (ch:= [it]) (λb hb=>?_) (λb o _ _ hc e _=>k b o (λz=>hc (by simp[z])) e) (λb o _ _ hc e _=>⟨o.slots,k b o (λz=>hc (by simp[z])) e⟩) (λ_ _ _ _ n=>n)
  (λb o hc e=>⟨o,k b o (λz=>hc (by simp[z])) e⟩) (λ_ _ e=>e) (λ_ _ _ e=>e) (λb ps e=>⟨#[],by rw[e];simp⟩) (λm hm=>?_) (λb u e=>?_) I.bare
 · have e:b=it:=by simpa using hb
   subst e;exact⟨h1,hL,h2,h3⟩
 ·obtain⟨o,es,ep,ho,r⟩:=hm;exact⟨o,es,ep,k _ o (Ne.symm hL) ho,r⟩
 · refine(I.hok b u e).stay (λc v hc q=>k c v ?_ q) (λ_ q=>q) λ_ _ q=>q;rcases hc with z|z
   ·rw[z];exact nit b u e
   ·exact nit c _ z
theorem Inv.tok(I:Inv X pins σ H s)(t:Nat):Inv X pins σ H {s with toks:=t}:=I.un (h':=s.heap) (t':=t) Un.refl I.hok
theorem Inv.kept(I:Inv X pins σ H s)(k:∀b u,s.heap.get? b=some u->h'.get? b=some u):Inv X pins σ H {s with heap:=h',toks:=t'}:=I.un (Un.kept k) (I.hok.kept k)
theorem Inv.laid(I:Inv X pins σ H s)(k:∀b u,s.heap.get? b=some u->h'.get? b=some u)(hp:s.heap.objs.size<=a)(new:N7 X.prog X.w (upd H a o) h' a o):
 Inv X pins σ (upd H a o) {s with heap:=h',toks:=t'}:=I.un (Un.laid k hp (I.hok.fresh hp)) (I.hok.laid k hp new)
theorem Inv.write(I:Inv X pins σ H s)(mu:Mut (H x))(he:e=x\/H e=some (.own x))(k:∀b u,b≠e->s.heap.get? b=some u->h'.get? b=some u)(heo:∃u,h'.get? e=some u)
 (new:N7 X.prog X.w (upd H x o) h' x o):Inv X pins σ (upd H x o) {s with heap:=h',toks:=t'}:=I.un (Un.write mu he k heo) (I.hok.write mu he k heo new)
theorem Inv.pins_of(I:Inv X pins σ H s)(h:∀p∈pins',s.heap.get? p.1=some p.2/\H p.1=none/\p.1≠X.env.locals/\p.1∉X.fs/\∀v,p.2.data≠ .cell v):Inv X pins' σ H s:=
 ⟨I.ok,I.os,I.bare,I.base,I.loc,I.cell,I.free,I.freeC,λp hp=>(zM.mp hp).elim (λz=>I.pin p (ym _ z)) (h p),I.hok,I.len⟩
theorem uP{N:List Str}(hN:N.Nodup){i j:Nat}{x:Str}(a:N[i]? =some x)(b:N[j]? =some x):i=j:=by obtain⟨h1,e1⟩:=yS.mp a;obtain⟨h2,e2⟩:=yS.mp b;exact(XI hN).mp (e1.trans e2.symm)
theorem Pf{M:Model}{A:jn}{E:VSP}{i:Nat}{x:Str}{v:V}{u:zh}{Q:Unit->zv->Prop}(I:Inv X pins σ H s)(hN:X.N.Nodup)(hi:X.N[i]? =some x)(hx:Loc X.env.scope x)(r:t6 v u)
 (h:∀s',Inv X pins (σ.set i (some v)) H s'->(∃a,yC a s.heap s'.heap/\(a=X.env.locals\/X.env.cells.lookup x=some a))->Q () s') (hf:X.fn x=true\/X.env.scope.names.lookup x=some .local):zq M A (storeName X.env x u) Q E s:=by
 obtain⟨m,hn,hl⟩:=id I.loc;have hcls:(X.env.scope.kind == .class||(X.env.scope.kind == .module&&X.env.locals != X.env.globals))=false:=by rw[I.ok.kind];rfl
 have hiσ:i<σ.length:=by rw[I.len];exact(yS.mp hi).1
 have cne:=I.cne;have tracked:∀ {a:Addr} {h':Heap},(∃o,s.heap.get? a=some o/\H a=none)->yC a s.heap h'->HOk X.prog X.w H h':=λ{a h'} ha hs b ob e=>by
  obtain⟨_,_,hfree⟩:=ha;refine(I.hok b ob e).stay (λc w' hc q=>(hs.2 c ?_).trans q) (λ_ q=>q) λ_ _ q=>q;rintro rfl;rcases hc with rfl|hc
  ·rw[hfree]at e;cases e
  ·rw[hfree]at hc;cases hc
 rcases hx with hk|hk
 · refine wpAny_storeName_local hk hn (λh' hn' hs=>?_) hcls;obtain⟨oL,_,_,hoL,_⟩:=id hn;refine h _ ⟨I.ok,I.os,I.bare,⟨λb o e n hb hx=>?_,λb o e n hb hx=>?_,I.base.free,λb o e hx=>?_,I.base.tups,I.base.frzs,I.base.tbls⟩,⟨_,hn',λj y v' e1 e2 e3=>?_⟩,λy c e=>?_,I.free,I.freeC,λp hp=>?_,tracked ⟨oL,hoL,I.free⟩ hs,by simpa using I.len⟩ ⟨_,hs,.inl rfl⟩
   ·exact(hs.2 b (zG (zV (zw e) I.ok.above))).trans (I.base.keep b o e n hb hx)
   ·obtain⟨sl,e1⟩:=I.base.slot b o e n hb hx;exact⟨sl,(hs.2 b (zG (zV (zw e) I.ok.above))).trans e1⟩
   ·obtain⟨o',e1⟩:=I.base.there b o e hx;exact⟨o',(hs.2 b (zG (zV (zw e) I.ok.above))).trans e1⟩
   · by_cases hj:j=i
     · subst hj;rw[hi]at e1;cases e1;rw[jk hiσ]at e2
       cases e2
       exact⟨u,r,.inl ⟨hk,by simp⟩⟩
     · rw[jd (Ne.symm hj)]at e2;obtain⟨u',r',q⟩:=hl j y v' e1 e2 e3;refine⟨u',r',?_⟩;rcases q with⟨k,e⟩|⟨k,c,e,z⟩
       ·refine .inl ⟨k,?_⟩;have:y≠x:=λe=>hj (uP hN e1 (e▸hi));simp[this,e]
       ·exact .inr ⟨k,c,e,z.sameBut hs (cne y c e)⟩
   ·obtain⟨w',z⟩:=I.cell y c e;exact⟨w',z.sameBut hs (cne y c e)⟩
   ·obtain⟨e,n,ne,nf,d⟩:=I.pin p hp;exact⟨(hs.2 p.1 ne).trans e,n,ne,nf,d⟩
 · have hfn:X.fn x=true:=by
    rcases hf with z|z
    ·exact z
    ·rw[z]at hk;cases hk
   obtain⟨c,hc⟩:=I.ok.has x (.inl hk);obtain⟨w',z⟩:=I.cell x c hc;refine wpAny_storeName_cell I.ok.kind hk hc z (λh' hc' hs=>?_);obtain⟨oc,hoc,hocd⟩:=id z;refine h {s with heap:=h'} ⟨I.ok,I.os,I.bare,⟨λb o e n hb hx=>?_,λb o e n hb hx=>?_,I.base.free,λb o e hx=>?_,I.base.tups,I.base.frzs,I.base.tbls⟩,⟨m,hn.sameBut hs (Ne.symm (cne x c hc)),λj y v' e1 e2 e3=>?_⟩,λy c' e=>?_,I.free,I.freeC,λp hp=>?_,tracked ⟨oc,hoc,I.freeC x c hc⟩ hs,by simpa using I.len⟩ ⟨c,hs,.inr hc⟩
   ·exact(hs.2 b (zG (zV (zw e) (I.ok.cab x c hfn hc)))).trans (I.base.keep b o e n hb hx)
   ·obtain⟨sl,e1⟩:=I.base.slot b o e n hb hx;exact⟨sl,(hs.2 b (zG (zV (zw e) (I.ok.cab x c hfn hc)))).trans e1⟩
   ·obtain⟨o',e1⟩:=I.base.there b o e hx;exact⟨o',(hs.2 b (zG (zV (zw e) (I.ok.cab x c hfn hc)))).trans e1⟩
   · by_cases hj:j=i
     · subst hj;rw[hi]at e1;cases e1;rw[jk hiσ]at e2
       cases e2
       exact⟨u,r,.inr ⟨.inl hk,c,hc,hc'⟩⟩
     · rw[jd (Ne.symm hj)]at e2;obtain⟨u',r',q⟩:=hl j y v' e1 e2 e3;refine⟨u',r',?_⟩;rcases q with q|⟨k,c',e,z'⟩
       ·exact .inl q
       ·refine .inr ⟨k,c',e,z'.sameBut hs ?_⟩;rintro rfl;exact hj (uP hN e1 (I.ok.inj _ _ _ e hc▸hi))
   · by_cases hcc:c'=c
     ·subst hcc;exact⟨_,hc'⟩
     ·obtain⟨w2,z2⟩:=I.cell y c' e;exact⟨w2,z2.sameBut hs hcc⟩
   ·obtain⟨e,n,ne,nf,d⟩:=I.pin p hp;refine⟨(hs.2 p.1 ?_).trans e,n,ne,nf,d⟩;intro q;rw[q,hoc]at e;have q':oc=p.2:=jr e;exact d w' (by rw[<-q'];exact hocd)
theorem Tj(I:Inv X pins σ H s)(hN:X.N.Nodup)(hi:X.N[i]? =some x)(hx:Loc X.env.scope x)(r:t6 v u)
 (h:∀s',Inv X pins (σ.set i (some v)) H s'->Q () s') (hf:X.fn x=true\/X.env.scope.names.lookup x=some .local):zq M A (storeName X.env x u) Q E s:=
 Pf I hN hi hx r (λs' I' _=>h s' I') hf
end
abbrev XK:=zh->Option Addr->Hp->Prop
abbrev St:=List (Option V)
abbrev VK:=V->Hp->Prop
abbrev TE:=St->Hp->VK->Prop
abbrev TT:=St->Hp->(Bool->Hp->Prop)->Prop
abbrev TA:=St->Hp->(List V->Hp->Prop)->Prop
structure gA where
 nx:St->Hp->Prop
 rt:VK
 bk:St->Hp->Prop:=λ_ _=>False
 ct:St->Hp->Prop:=λ_ _=>False
abbrev TS:=gA->St->Hp->Prop
def EP(X:Cx)(pins:PNS)(σ:St)(Q:VK)(u:zh)(s':zv):Prop:=∃v H',Inv X pins σ H' s'/\t6 v u/\Q v H'
def TP(X:Cx)(pins:PNS)(σ:St)(Q:Bool->Hp->Prop)(b:Bool)(s':zv):Prop:=∃H',Inv X pins σ H' s'/\Q b H'
def AP(X:Cx)(pins:PNS)(σ:St)(Q:List V->Hp->Prop)(us:List zh)(s':zv):Prop:=∃vs H',Inv X pins σ H' s'/\m9 vs us/\Q vs H'
theorem EP.elim{X:Cx}{σ:St}{Q:VK}{u:zh}{P:Prop}(h:EP X pins σ Q u s)(k:∀v H,Inv X pins σ H s->t6 v u->Q v H->P):P:=by obtain⟨a,b,c,d,e⟩:=h;exact k a b c d e
theorem TP.elim{X:Cx}{σ:St}{u:Bool}{s:zv}{P:Prop}(h:TP X pins σ Q u s)(k:∀H,Inv X pins σ H s->Q u H->P):P:=by obtain⟨b,c,e⟩:=h;exact k b c e
theorem AP.elim{X:Cx}{σ:St}{u:List zh}{s:zv}{P:Prop}(h:AP X pins σ Q u s)(k:∀v H,Inv X pins σ H s->m9 v u->Q v H->P):P:=by obtain⟨a,b,c,d,e⟩:=h;exact k a b c d e
def SP(X:Cx)(pins:PNS)(D:gA)(f:Flow)(s':zv):Prop:=
 match f with
 | .next=>∃ X1 H',Inv X pins X1 H' s'/\D.nx X1 H'
 | .brk=>∃ X1 H',Inv X pins X1 H' s'/\D.bk X1 H'
 | .cont=>∃ X1 H',Inv X pins X1 H' s'/\D.ct X1 H'
 | .ret u=>∃v X1 H',Inv X pins X1 H' s'/\t6 v u/\D.rt v H'
def PE(X:Cx)(e:Expr)(t:TE):Prop:=
 ∀(pins:PNS) (s:zv) (σ:St) (H:Hp) (Q:VK),Inv X pins σ H s->t σ H Q->zq (zC X.prog X.w) X.A (eval e X.env) (EP X pins σ Q) X.xe s
def PT(X:Cx)(e:Expr)(t:TT):Prop:=
 ∀(pins:PNS) (s:zv) (σ:St) (H:Hp) (Q:Bool->Hp->Prop),Inv X pins σ H s->t σ H Q->zq (zC X.prog X.w) X.A (isTrue e X.env (eval e X.env)) (TP X pins σ Q) X.xe s
def PW(X:Cx)(e:Expr)(t:TT):Prop:=
 ∀(whole:Sem zh) (pins:PNS) (s:zv) (σ:St) (H:Hp) (Q:Bool->Hp->Prop),Inv X pins σ H s->t σ H Q->zq (zC X.prog X.w) X.A (isTrue e X.env whole) (TP X pins σ Q) X.xe s
def PA(X:Cx)(es:List Expr)(t:TA):Prop:=
 ∀(pos:Pos) (pins:PNS) (s:zv) (σ:St) (H:Hp) (Q:List V->Hp->Prop),Inv X pins σ H s->t σ H Q->zq (zC X.prog X.w) X.A (spliced (xw pos (zX es X.env))) (AP X pins σ Q) X.xe s
def PS(X:Cx)(st:Stmt)(t:TS):Prop:=
 ∀(pins:PNS) (s:zv) (σ:St) (H:Hp) (D:gA),Inv X pins σ H s->t D σ H->zq (zC X.prog X.w) X.A (exec st X.env) (SP X pins D) X.xe s
def PSs(X:Cx)(st:List Stmt)(t:TS):Prop:=
 ∀(pins:PNS) (s:zv) (σ:St) (H:Hp) (D:gA),Inv X pins σ H s->t D σ H->zq (zC X.prog X.w) X.A (execs st X.env) (SP X pins D) X.xe s
theorem thn(h:zq M A t Q E s)(hQ:∀a s,Q a s->Q' a s):zq M A t Q' E s:=jF h hQ λ_ _ x=>x
section
variable{X:Cx}
def CH(i:Nat):TE:=λσ H Q=>∃v,σ[i]? =some (some v)/\Q v H
def tC(v:V):TE:=λ_ H Q=>Q v H
theorem EM(hN:X.N[i]? =some x)(hv:Vis X.env.scope x)(hd:(x==("__debug__" :Str))=false)(hcd:(x==("__classdict__" :Str))=false):PE X (.Name x pos) (CH i):=by
 intro pins s σ H Q I h;obtain⟨v,e,h⟩:=h;obtain⟨m,hn,hl⟩:=I.loc;obtain⟨u,r,l⟩:=hl i x v hN e hv;have fin:EP X pins σ Q u s:=⟨v,H,I,r,h⟩;rcases l with⟨hk,hm⟩|⟨hk,c,hc,hcell⟩
 ·exact wpAny_Name (wpAny_loadName_local I.ok.kind hk hn hm fin) hd
 · rcases hk with hk|hk
   ·exact wpAny_Name (wpAny_loadName_cell I.ok.kind hk hc hcell fin) hd
   ·exact wpAny_Name (wpAny_loadName_free I.ok.kind hk hc hcell fin hcd) hd
theorem mL{i j pos}:PE X (.Constant (.int i) j pos) (tC (.int i)):=λ_ _ _ H _ I h=>wpAny_Constant_int ⟨.int i,H,I.tok _,⟨_,rfl⟩,h⟩
theorem wV{b j pos}:PE X (.Constant (.bool b) j pos) (tC (.bl b)):=λ_ _ _ H _ I h=>Constant_bool ⟨.bl b,H,I,rfl,h⟩
theorem aW{j pos}:PE X (.Constant .none j pos) (tC .non):=λ_ _ _ H _ I h=>Constant_none ⟨.non,H,I,rfl,h⟩
theorem GO{x j pos}:PE X (.Constant (.str x) j pos) (tC (.str x)):=λ_ _ _ H _ I h=>Calls.Constant_str ⟨.str x,H,I.tok _,⟨_,rfl⟩,h⟩
def Gl(X:Cx)(x:Str):Prop:=X.env.kindOf x=some .globalImplicit
theorem MD(I:Inv X pins σ H s)(hg:Gl X x)(hm:X.mg x=some u)(h:Q u s)
 (hd:(x==("__debug__" :Str))=false):zq (zC X.prog X.w) X.A (eval (.Name x pos) X.env) Q E s:=
 Jh I.ok.kind hg (Calls.loadGlobal_global (by rw[I.ok.glob];exact I.mod.glob.keeps I.bk) hm h) hd
theorem y9(I:Inv X pins σ H s)(hg:Gl X x)(hm:X.mg x=none)(hv:je x=some u)(h:Q u s)
 (hn:x≠ "__name__":=by decide) (hd:(x==("__debug__" :Str))=false:=by decide):zq (zC X.prog X.w) X.A (eval (.Name x pos) X.env) Q E s:=by
 obtain⟨mb,h1,h2⟩:=I.mod.blt;exact Jh I.ok.kind hg (Calls.loadGlobal_builtin (by rw[I.ok.glob];exact I.mod.glob.keeps I.bk) hm (by rw[I.ok.blt];exact h1.keeps I.bk) ((h2 x hn).trans hv) h) hd
theorem gX(hg:Gl X x)(hm:X.mg x=none)(hv:je x=some u)(r:t6 v u)(hn:x≠ "__name__")(hd:(x==("__debug__" :Str))=false):PE X (.Name x pos) (tC v):=
 λ_ _ _ H _ I h=>y9 I hg hm hv ⟨v,H,I,r,h⟩ hn hd
variable{a b:Expr}{ta tb:TE}{pos:Pos}
variable{tA tB':TT}{rest:List Expr}
def vU(t u:TT):TT:=λσ H Q=>t σ H λc H1=>if c=true then u σ H1 Q else Q false H1
def tOr(t u:TT):TT:=λσ H Q=>t σ H λc H1=>if c=true then Q true H1 else u σ H1 Q
def Tq(t:TT):TT:=λσ H Q=>t σ H λc H1=>Q (!c) H1
theorem Qb(ha:PT X a tA):PW X (.BoolOp .And [a] pos) tA:=by
 intro wh pins s σ H Q I h;refine isTrue_and (thn (ha pins s σ H Q I h) λc s1 e=>?_)
 cases c with
 |true=>exact isTrue_and_nil e
 |false=>exact e
theorem dz(ha:PT X a tA):PW X (.BoolOp .Or [a] pos) tA:=by
 intro wh pins s σ H Q I h;refine isTrue_or (thn (ha pins s σ H Q I h) λc s1 e=>?_)
 cases c with
 |false=>exact isTrue_or_nil e
 |true=>exact e
theorem Qp(ha:PT X a tA)(hb:PW X (.BoolOp .And (b::rest) pos) tB'):PW X (.BoolOp .And (a::b::rest) pos) (vU tA tB'):=by
 intro wh pins s σ H Q I h;refine isTrue_and (thn (ha pins s σ H _ I h) λc s1 lu=>lu.elim λH1 I1 q1=>?_)
 cases c with
 |true=>exact hb wh pins s1 σ H1 Q I1 q1
 |false=>exact⟨H1,I1,q1⟩
theorem Vx(ha:PT X a tA)(hb:PW X (.BoolOp .Or (b::rest) pos) tB'):PW X (.BoolOp .Or (a::b::rest) pos) (tOr tA tB'):=by
 intro wh pins s σ H Q I h;refine isTrue_or (thn (ha pins s σ H _ I h) λc s1 lu=>lu.elim λH1 I1 q1=>?_)
 cases c with
 |true=>exact⟨H1,I1,q1⟩
 |false=>exact hb wh pins s1 σ H1 Q I1 q1
theorem Mv(ha:PT X a tA):PT X (.UnaryOp .Not a pos) (Tq tA):=by intro pins s σ H Q I h;exact isTrue_not (ha pins s σ H (λc H1=>Q (!c) H1) I h)
def oX(ta:TE):TE:=λσ H Q=>ta σ H λx H1=>∃c,x= .bl c/\Q (.bl (!c)) H1
theorem bo{op}(h:PE X a t):PE X (.BoolOp op [a] pos) t:=λpins s σ H Q I hw=>BoolOp_one (h pins s σ H Q I hw)
theorem Lh(ha:PE X a ta):PE X (.UnaryOp .Not a pos) (oX ta):=by
 intro pins s σ H Q I h;refine UnaryOp_ (thn (ha pins s σ H _ I h) λv s1 lu=>lu.elim λx H1 I1 r1 q1=>?_);obtain⟨c,rfl,q1⟩:=q1
 cases r1
 exact not_of (xG ⟨.bl (!c),H1,I1,rfl,q1⟩)
def tIf(t:TT)(ta tb:TE):TE:=λσ H Q=>t σ H λc H1=>if c=true then ta σ H1 Q else tb σ H1 Q
theorem MX(hc:PT X c tA)(ha:PE X a ta)(hb:PE X b tb):PE X (.IfExp c a b pos) (tIf tA ta tb):=by
 intro pins s σ H Q I h;refine wpAny_IfExp (thn (hc pins s σ H _ I h) λd s1 lu=>lu.elim λH1 I1 q1=>?_)
 cases d with
 |true=>exact ha pins s1 σ H1 Q I1 q1
 |false=>exact hb pins s1 σ H1 Q I1 q1
end
def SqL(K:zj)(H:Hp)(a:Addr)(xs:List V):Prop:=
 Rd H a (.lst xs)\/
  ∃(o:Obj) (ka:Array zh) (n:Nat),K.lookup a=some o/\o.cls= .type "list"/\o.dict=none/\o.data= .seq ka n/\ka.size<=zk/\m9 xs ka.toList
def SqT(K:zj)(H:Hp)(a:Addr)(xs:List V):Prop:=
 Rd H a (.tup xs)\/
  ∃(o:Obj) (ka:Array zh) (n:Nat),K.lookup a=some o/\o.cls= .type "tuple"/\(o.data,o.dict)= (Data.seq ka n,none)/\ka.size<=zk/\m9 xs ka.toList
def qZ:zh->Option V
 | .none=>some .non
 | .bool b=>some (.bl b)
 | .int i _=>some (.int i)
 | .str x _=>some (.str x)
 | .bytes b _=>some (.byt b)
 | .float b _=>some (.flt b)
 | .ref a=>some (.ref a)
 | .type n=>some (.ty n)
 |_=>none
theorem t6.abs(r:t6 x u):qZ u=some x:=by
 cases x with
 |non=>cases r;rfl
 |bl _=>cases r;rfl
 |int _=>obtain⟨t,rfl⟩:=r;rfl
 |str _=>obtain⟨t,rfl⟩:=r;rfl
 |byt _=>obtain⟨t,rfl⟩:=r;rfl
 |flt _=>obtain⟨t,rfl⟩:=r;rfl
 |ref _=>cases r;rfl
 |ty _=>cases r;rfl
theorem t6.inj(r:t6 x u)(q:t6 y u):x=y:=jr (r.abs.symm.trans q.abs)
theorem m9.inj(h:m9 xs us)(k:m9 ys us):xs=ys:=by
 induction h generalizing ys with
 |nil=>cases k;rfl
 |cons r t ih=>cases k with
   |cons r' t'=>rw[r.inj r',ih t']
section
theorem SqL.of{K:zj}(h:H a=some (.lst xs)):SqL K H a xs:=.inl (.inl h)
theorem SqT.of{K:zj}(h:H a=some (.tup xs)):SqT K H a xs:=.inl (.inl h)
theorem Inv.list(I:Inv X pins σ H s)(h:SqL X.K H a xs):∃ka:List zh,m9 xs ka/\PlainL s.heap a ka.toArray/\xs.length<=zk:=by
 rcases h with h|⟨o,ka,n,hk,hc,hd,hs,hz,r⟩
 ·obtain⟨z,ka,n,r,e⟩:=h.ok I.hok;exact⟨ka,r,⟨_,n,e,rfl,rfl,rfl⟩,z⟩
 ·refine⟨ka.toList,r,⟨o,n,I.kIn a o hk,hc,hd,by simpa using hs⟩,?_⟩;have e:=r.length;simp only[zI]at e;lia
theorem Inv.tuple(I:Inv X pins σ H s)(h:SqT X.K H a xs):∃ka:List zh,m9 xs ka/\YF s.heap a ka.toArray/\xs.length<=zk:=by
 rcases h with h|⟨o,ka,n,hk,hc,hs,hz,r⟩
 ·obtain⟨z,ka,r,p⟩:=h.ok I.hok;exact⟨ka,r,x5.tup p,z⟩
 ·refine⟨ka.toList,r,⟨o,I.kIn a o hk,hc,n,by simpa using (xA hs).1⟩,?_⟩;have e:=r.length;simp only[zI]at e;lia
theorem Inv.list_inj(I:Inv X pins σ H s)(h:SqL X.K H a xs)(h':SqL X.K H a ys):xs=ys:=by
 obtain⟨ka,r,⟨o,n,e,_,_,d⟩,_⟩:=I.list h;obtain⟨its',r',⟨o',n',e',_,_,d'⟩,_⟩:=I.list h';rw[e]at e';cases e';rw[d]at d';injection d' with d1 _;have:ka=its':=by simpa using congrArg Array.toList d1
 subst this;exact r.inj r'
theorem Inv.tuple_inj(I:Inv X pins σ H s)(h:SqT X.K H a xs)(h':SqT X.K H a ys):xs=ys:=by
 obtain⟨ka,r,⟨o,e,_,n,d⟩,_⟩:=I.tuple h;obtain⟨its',r',⟨o',e',_,n',d'⟩,_⟩:=I.tuple h';rw[e]at e';cases e';rw[d]at d';injection d' with d1 _;have:ka=its':=by simpa using congrArg Array.toList d1
 subst this;exact r.inj r'
end
abbrev Cx.wish(X:Cx)(E:VSP):Cx:={X with xe:=E}
abbrev Cx.nox(X:Cx):Cx:=X.wish λ_ _=>False
theorem Cx.Ok.wish{X:Cx}(ok:X.Ok)(E:VSP):(X.wish E).Ok:=
 ⟨ok.mod,ok.kind,ok.glob,ok.blt,ok.above,ok.inj,ok.has,ok.cab,ok.hd,ok.frames,ok.stk,ok.exf,ok.bs,ok.bsz,ok.noex,ok.exfs,ok.funs,ok.frf,ok.gd⟩
theorem Cx.Ok.unwish{X:Cx}(ok:(X.wish E).Ok):X.Ok:=
 ⟨ok.mod,ok.kind,ok.glob,ok.blt,ok.above,ok.inj,ok.has,ok.cab,ok.hd,ok.frames,ok.stk,ok.exf,ok.bs,ok.bsz,ok.noex,ok.exfs,ok.funs,ok.frf,ok.gd⟩
section
theorem Inv.wish(I:Inv X pins σ H s)(E:VSP):Inv (X.wish E) pins σ H s:=⟨I.ok.wish E,I.os,I.bare,I.base,I.loc,I.cell,I.free,I.freeC,I.pin,I.hok,I.len⟩
theorem Inv.unwish(I:Inv (X.wish E) pins σ H s):Inv X pins σ H s:=⟨I.ok.unwish,I.os,I.bare,I.base,I.loc,I.cell,I.free,I.freeC,I.pin,I.hok,I.len⟩
theorem SP.unwish(h:SP (X.wish E) pins D f s'):SP X pins D f s':=by
 cases f with
 |next=>obtain⟨X1,H',I,q⟩:=h;exact⟨X1,H',I.unwish,q⟩
 |brk=>obtain⟨X1,H',I,q⟩:=h;exact⟨X1,H',I.unwish,q⟩
 |cont=>obtain⟨X1,H',I,q⟩:=h;exact⟨X1,H',I.unwish,q⟩
 |ret u=>obtain⟨v,X1,H',I,r,q⟩:=h;exact⟨v,X1,H',I.unwish,r,q⟩
theorem PSs.nox{st:List Stmt}(h:PSs X.nox st t):PSs X st t:=λpins s σ H D I hw=>
 jF (h pins s σ H D (I.wish _) hw) (λ_ _ q=>q.unwish) λ_ _ z=>yc z
end
section
variable{X:Cx}{st:Stmt}{rest:List Stmt}{t u:TS}
def VU:TS:=λD σ H=>D.nx σ H
def KU(t u:TS):TS:=λD σ H=>t {D with nx:=u D} σ H
theorem ah:PSs X [] VU:=λ_ _ σ H _ I h=>ZG ⟨σ,H,I,h⟩
theorem Qx(h1:PS X st t)(h2:PSs X rest u):PSs X (st::rest) (KU t u):=by
 intro pins s σ H D I h;refine wpAny_execs_cons (thn (h1 pins s σ H {D with nx:=u D} I h) λf s1 q=>?_)
 cases f with
 |next=>
   obtain⟨X1,H',I',q⟩:=q;exact h2 pins s1 X1 H' D I' q
 |ret v=>exact q
 |brk=>exact q
 |cont=>exact q
theorem wf(h1:PS X st t):PSs X [st] t:=by
 intro pins s σ H D I h;refine wpAny_execs_cons (thn (h1 pins s σ H D I h) λf s1 q=>?_)
 cases f with
 |next=>exact ZG q
 |ret v=>exact q
 |brk=>exact q
 |cont=>exact q
theorem Inv.quiet(I:Inv X pins σ H s):interactive X.env=false:=by simp[interactive,I.ok.kind]
def Wx(te:TE):TS:=λD σ H=>te σ H λ_ H1=>D.nx σ H1
theorem qh(he:PE X e te)(hs:swapsWith e none pos.line X.env=pure false):PS X (.Expr e pos) (Wx te):=by intro pins s σ H D I h;exact wpAny_Expr_any (thn (he pins s σ H _ I h) λv s1 lu=>lu.elim λx H1 I1 r1 q1=>⟨σ,H1,I1,q1⟩) I.quiet hs
def KW(te:TE):TS:=λD σ H=>te σ H D.rt
theorem Rc(he:PE X e te):PS X (.Return (some e) pos) (KW te):=by intro pins s σ H D I h;exact wpAny_Return_some (thn (he pins s σ H _ I h) λv s1 lu=>lu.elim λx H1 I1 r1 q1=>⟨x,σ,H1,I1,r1,q1⟩)
def CS(c:TT)(t u:TS):TS:=λD σ H=>c σ H λb H1=>if b=true then t D σ H1 else u D σ H1
theorem dS{tc:TT}(hc:PT X c tc)(ha:PSs X a t)(hb:PSs X b u):PS X (.If c a b pos) (CS tc t u):=by
 intro pins s σ H D I h;refine wpAny_If (thn (hc pins s σ H _ I h) λd s1 lu=>lu.elim λH1 I1 q1=>?_)
 cases d with
 |true=>exact ha pins s1 σ H1 D I1 q1
 |false=>exact hb pins s1 σ H1 D I1 q1
end
abbrev TG:=V->St->Hp->(St->Hp->Prop)->Prop
abbrev TGs:=List V->St->Hp->(St->Hp->Prop)->Prop
def PG(X:Cx)(target:Expr)(t:TG):Prop:=
 ∀(pins:PNS) (s:zv) (σ:St) (H:Hp) (v:V) (u:zh) (Q:St->Hp->Prop),Inv X pins σ H s->t6 v u->t v σ H Q->
  zq (zC X.prog X.w) X.A (YK target X.env u) (λ_ s'=>∃ X1 H',Inv X pins X1 H' s'/\Q X1 H') X.xe s
def PGs(X:Cx)(ts:List Expr)(t:TGs):Prop:=
 ∀(pins:PNS) (s:zv) (σ:St) (H:Hp) (vs:List V) (us:List zh) (Q:St->Hp->Prop),Inv X pins σ H s->m9 vs us->t vs σ H Q->
  zq (zC X.prog X.w) X.A (assignInOrder ((xx ts X.env).map (·.2)) us) (λ_ s'=>∃ X1 H',Inv X pins X1 H' s'/\Q X1 H') X.xe s
abbrev TSet:=V->V->V->Hp->(Hp->Prop)->Prop
def dJ(X:Cx)(t:TSet):Prop:=
 ∀(pins:PNS) (s:zv) (σ:St) (H:Hp) (o i v:V) (ov iv u:zh) (Q:Hp->Prop),Inv X pins σ H s->t6 o ov->t6 i iv->t6 v u->t o i v H Q->
  zq (zC X.prog X.w) X.A (setItem ov iv u) (λ_ s'=>∃H',Inv X pins σ H' s'/\Q H') X.xe s
section
def tT(i:Nat):TG:=λv σ H Q=>Q (σ.set i (some v)) H
theorem gW(hN:X.N.Nodup)(hi:X.N[i]? =some x)(hx:Loc X.env.scope x)(hf:X.fn x=true\/X.env.scope.names.lookup x=some .local):PG X (.Name x pos) (tT i):=by intro pins s σ H v u Q I r h;exact wpAny_assign_Name (Tj I hN hi hx r (λs' I'=>⟨_,H,I',h⟩) hf)
def Wv:TGs:=λvs σ H Q=>vs= []/\Q σ H
def ig(t:TG)(u:TGs):TGs:=λvs σ H Q=>∃v r,vs=v::r/\t v σ H λX1 H'=>u r X1 H' Q
theorem Vq:PGs X [] Wv:=by
 intro pins s σ H vs us Q I r h;obtain⟨e,h⟩:=h;subst e
 cases r
 exact assignInOrder_nil ⟨σ,H,I,h⟩
theorem Sh(h1:PG X e t)(h2:PGs X es u)
 (hs:(xx (e::es) X.env).map (·.2)=YK e X.env::(xx es X.env).map (·.2)):PGs X (e::es) (ig t u):=by
 intro pins s σ H vs us Q I r h;obtain⟨v,vr,e1,h⟩:=h;subst e1
 cases r with
 |cons r rr=>
   rw[hs];refine assignInOrder_cons (thn (h1 pins s σ H _ _ _ I r h) λ_ s1 ⟨WY,H1,I1,q1⟩=>?_);exact h2 pins s1 WY H1 _ _ Q I1 rr q1
def wm(K:zj)(n:Nat)(t:TGs):TG:=λv σ H Q=>∃a xs,v= .ref a/\SqT K H a xs/\xs.length=n/\t xs σ H Q
theorem rX(hc:X.calm=true)(h:PGs X es t)
 (hn:(xx es X.env).length=n) (hst:(xx es X.env).findIdx? (·.1)=none):PG X (.Tuple es k pos) (wm X.K n t):=by
 intro pins s σ H v u Q I r hw;obtain⟨a,xs,e1,hq,hl,hw⟩:=hw;subst e1
 cases r
 obtain⟨ka,rv,ht,hz⟩:=I.tuple hq;refine assign_Tuple_tuple (I.ok.hd hc) ht (by simp[hn,<-hl,rv.length]) hst λh' hx=>?_;have I1:Inv X pins σ H {s with heap:=h'}:=I.kept (t':=s.toks) λb o e=>hx b o (zG (zw e)) e;exact h pins _ σ H xs _ Q I1 (by simpa using rv) hw
def wX(to ti:TE)(t:TSet):TG:=λv σ H Q=>to σ H λo H1=>ti σ H1 λi H2=>t o i v H2 λH3=>Q σ H3
theorem ab(ho:PE X o to)(hi:PE X i ti)(hs:dJ X t)
 (ha:∀v,YK (.Subscript o i pos) X.env v= (do
   let ov <-Yj [v] (eval o X.env)
   let iv <-Yj [v,ov] (eval i X.env)
   standAt pos
   Yj [v,ov,iv] (setItem ov iv v)
   release [v,ov,iv] [])):PG X (.Subscript o i pos) (wX to ti t):=by
 intro pins s σ H v u Q I r h;rw[ha];refine za (jy (thn (ho pins s σ H _ I h) λov s1 ⟨x,H1,I1,r1,q1⟩=>?_));refine za (jy (thn (hi pins s1 σ H1 _ I1 q1) λiv s2 ⟨y,H2,I2,r2,q2⟩=>?_));refine za (Yp (za (jy (thn (hs pins s2 σ H2 x y v ov iv u _ I2 r1 r2 r q2) λ_ s3 ⟨H3,I3,q3⟩=>?_))));exact wpAny_release ⟨σ,H3,I3,q3⟩
def Dg(te:TE)(g:TG):TS:=λD σ H=>te σ H λx H1=>g x σ H1 D.nx
theorem sS{g:TG}(he:PE X e te)(hg:PG X tg g)(hs:swapsWithSole [tg] e pos.line X.env=pure false)(hw:swappedStores [tg] e X.env=pure none)
 (h1:(xx [tg] X.env).map (·.2)= [YK tg X.env]):PS X (.Assign [tg] e pos) (Dg te g):=by
 intro pins s σ H D I h;refine wpAny_Assign_stores (thn (he pins s σ H _ I h) λv s1 lu=>lu.elim λx H1 I1 r1 q1=>?_) hs hw;rw[h1];exact thn (hg pins s1 σ H1 x v _ I1 r1 q1) λ_ s2 q=>q
end
section
def HS(c:TT)(tb:TS):TS:=λD σ H=>∃W:Nat->St->Hp->Prop,(∃m,W m σ H)/\∀m σ H,W m σ H->
 c σ H λb H1=>if b=true then ∃N:St->Hp->Prop,(∀ X1 H',N X1 H'->∃m',m'<m/\W m' X1 H')/\tb {D with nx:=N,ct:=N,bk:=D.nx} σ H1 else D.nx σ H1
theorem BS{tc:TT}{tb:TS}(hp:PassesOwn (zC X.prog X.w) X.A X.env X.xe)(hc:PT X c tc)(hb:PSs X body tb):PS X (.While c body [] pos) (HS tc tb):=by
 intro pins s σ H D I h;obtain⟨W,⟨m0,w0⟩,turn⟩:=h;refine wpAny_While (codeAny_whileLoop (λn s'=>∃ X1 H',Inv X pins X1 H' s'/\W n X1 H') ?_ m0 ⟨σ,H,I,w0⟩);rintro n s1 ⟨WY,H1,I1,w1⟩;refine wpAny_passesOwn hp (thn (hc pins s1 WY H1 _ I1 (turn n WY H1 w1)) λb s2 lu=>lu.elim λH2 I2 q2=>?_)
 cases b with
 |true=>
   obtain⟨N,hN,q2⟩:=q2;rw[if_pos rfl];refine wpAny_passesOwn hp (thn (hb pins s2 WY H2 _ I2 q2) λf s3 q3=>?_)
   cases f with
   |next=>
     obtain⟨WJ,H3,I3,n3⟩:=q3;obtain⟨m',hm,w3⟩:=hN WJ H3 n3;exact⟨m',hm,WJ,H3,I3,w3⟩
   |cont=>
     obtain⟨WJ,H3,I3,n3⟩:=q3;obtain⟨m',hm,w3⟩:=hN WJ H3 n3;exact⟨m',hm,WJ,H3,I3,w3⟩
   |brk=>exact q3
   |ret v=>exact q3
 |false=>
   rw[if_neg zN];exact ZG ⟨WY,H2,I2,q2⟩
end
structure It where
 go:Nat->Hp->Prop
 yld:Nat->Hp->V->Hp->Prop
 stop:Nat->Hp->Prop
def B1(X:Cx)(pins:PNS)(H:Hp)(b:Addr):Prop:=
 H b=none/\b≠X.env.locals/\b∉X.fs/\(b∈X.ex\/X.WW.heap.objs.size<=b)/\(∀x c,X.env.cells.lookup x=some c->c≠b)/\∀p∈X.pn++pins,p.1≠b
theorem Inv.fpOk(I:Inv X pins σ H s)(hb:s.heap.objs.size<=b)(hn:H' b=none):B1 X pins H' b:=by
 refine⟨hn,xK (zV I.lt hb),I.nofs hb,.inr (zQ I.sz hb),λx c e z=>?_,λp hp z=>?_⟩
 ·obtain⟨v,q⟩:=I.cell x c e;exact absurd (zV q.lt (by rw[z];exact hb)) (yD _)
 ·exact absurd (zV (zw (I.pin p hp).1) (by rw[z];exact hb)) (yD _)
inductive TIt(X:Cx)(pins:PNS)(σ:St)(J:It)(fp:List Addr)(tn:Nat->Heap->Prop)(i:Nat)(H:Hp)(u:zh)(s2:zv):Prop
 |mk (x:V) (H':Hp) (I:Inv X pins σ H' s2) (r:t6 x u) (y:J.yld i H x H') (st:tn (i+1) s2.heap) (fr:∀b∈fp,H' b=none)
structure u8(P:zS)(w:jg)(K:zj)(tg:Expr)(J:It)(fp:List Addr)(it:Addr)(tn:Nat->Heap->Prop):Prop where
 mem:it∈fp
 obj:∀i h,tn i h->∀b∈fp,∃o,h.get? b=some o/\∀v,o.data≠ .cell v
 keep:∀i h h',tn i h->(∀b∈fp,∀o,h.get? b=some o->h'.get? b=some o)->tn i h'
 item:∀(X:Cx),X.prog=P->X.w=w->X.K=K->X.calm=true->∀(i:Nat) (pins:PNS) (s:zv) (σ:St) (H:Hp) (E:VSP),Inv X pins σ H s->(∀b∈fp,B1 X pins H b)->tn i s.heap->J.go i H->
  zq (zC P w) X.A (xv (.ref it)) (λr s1=>∃u,r=some u/\
   zq (zC P w) X.A (xX tg (.ref it) u) (λ_ s2=>TIt X pins σ J fp tn i H u s2) E s1) E s
 done:∀(X:Cx),X.prog=P->X.w=w->X.K=K->X.calm=true->∀(i:Nat) (pins:PNS) (s:zv) (σ:St) (H:Hp) (E:VSP),Inv X pins σ H s->(∀b∈fp,B1 X pins H b)->tn i s.heap->J.stop i H->
  zq (zC P w) X.A (xv (.ref it)) (λr s1=>r=none/\Inv X pins σ H s1) E s
 self:∀(A:jn) (i:Nat) (s:zv) (Q:VSP) (E:VSP),tn i s.heap->Q (.ref it) s->zq (zC P w) A (XO (.ref it)) Q E s
abbrev TI:=St->Hp->(It->Hp->Prop)->Prop
inductive PIE(X:Cx)(pins:PNS)(σ:St)(tg:Expr)(R:It->Hp->Prop)(itv:zh)(s2:zv):Prop
 |mk (it:Addr) (fp:List Addr) (tn:Nat->Heap->Prop) (J:It) (H':Hp) (e:itv= .ref it) (I:Inv X pins σ H' s2) (T:u8 X.prog X.w X.K tg J fp it tn) (st:tn 0 s2.heap) (f:∀b∈fp,B1 X pins H' b) (r:R J H')
def PI(X:Cx)(tg iter:Expr)(wi:TI):Prop:=
 ∀(pins:PNS) (s:zv) (σ:St) (H:Hp) (R:It->Hp->Prop),Inv X pins σ H s->wi σ H R->
  zq (zC X.prog X.w) X.A (eval iter X.env) (λv s1=>zq (zC X.prog X.w) X.A (XO v) (PIE X pins σ tg R) X.xe s1) X.xe s
theorem qB(ho:s.heap.get? it=some o)(hc:o.cls= .type n)(hd:o.data= .fields vs)
 (hn: ["enumerate", "zip", "dict_itemiterator", "dict_reverseitemiterator", "odict_iterator", "itertools.zip_longest", "itertools.pairwise"].contains n=false) (hQ:Q () s):zq M A (xX tg (.ref it) u) Q E s:=by
 unfold xX
 cases tg<;>first
  |exact ze hQ
  | (cases u <;> first
      |exact ze hQ
      | (refine za (wpAny_load ho ?_)
         rw[hc,hd];show zq M A (if (["enumerate", "zip", "dict_itemiterator", "dict_reverseitemiterator", "odict_iterator", "itertools.zip_longest", "itertools.pairwise"].contains n&&vs[0]? == some (xk _))=true then _ else _) Q E s;rw[if_neg (by intro h;rw[hn,Bool.false_and]at h;cases h)];exact ze hQ))
def Itl(K:zj)(a:Addr):It:=
 ⟨λi H=>∃xs x,SqL K H a xs/\xs[i]? =some x,λi H x H'=>H'=H/\∀xs,SqL K H a xs->xs[i]? =some x,λi H=>∃xs,SqL K H a xs/\xs.length<=i⟩
def Itt(K:zj)(a:Addr):It:=
 ⟨λi H=>∃xs x,SqT K H a xs/\xs[i]? =some x,λi H x H'=>H'=H/\∀xs,SqT K H a xs->xs[i]? =some x,λi H=>∃xs,SqT K H a xs/\xs.length<=i⟩
def Itr(lo:Int)(n:Nat):It:=⟨λi _=>i<n,λi H x H'=>H'=H/\x= .int (lo+i),λi _=>n<=i⟩
theorem Gk{w:jg}{K:zj}{tg:Expr}(a it:Addr):u8 P w K tg (Itl K a) [it] it (λi h=>h.IsListIter it a i) where
 mem:=by simp
 obj:=λi h st b hb=>by
  have e:b=it:=by simpa using hb
  subst e;obtain⟨o,e,c,d⟩:=st;exact⟨o,e,λv z=>by rw[d]at z;cases z⟩
 keep:=λi h h' st k=>st.at λo e=>k it (by simp) o e
 item:=by intro X hP hw hK hc i pins s σ H E I hf st hg;subst hP hw hK;obtain⟨xs,x,hq,hx⟩:=hg;obtain⟨ka,rv,p,hz⟩:=I.list hq;obtain⟨u,hu,ru⟩:=rv.get hx;obtain⟨f0,f1,f2,f3,f4,f5⟩:=hf it (by simp);refine wpAny_pyNext_list_item st p.isList (x:=u) (by simpa using hu) λh' ma sb=>?_;have I1:Inv X pins σ H {s with heap:=h'}:=I.turned (t':=s.toks) (λb o hb e=>(sb.2 b hb).trans e) f0 f1 f3 f4 f5;obtain⟨o,e,c,d⟩:=id ma;exact⟨u,rfl,qB (s:={s with heap:=h'}) e c d (by decide) ⟨x,H,I1,ru,⟨rfl,λys hy=>by rw[I.list_inj hy hq];exact hx⟩,ma,λb hb=>(hf b hb).1⟩⟩
 done:=by intro X hP hw hK hc i pins s σ H E I hf st hg;subst hP hw hK;obtain⟨xs,hq,hx⟩:=hg;obtain⟨ka,rv,p,hz⟩:=I.list hq;obtain⟨f0,f1,f2,f3,f4,f5⟩:=hf it (by simp);have hl:=rv.length;exact wpAny_pyNext_list_end (I.ok.hd hc) st p.isList (by simp;lia) λh' eb=>⟨rfl,I.turned (t':=s.toks) (λb o hb e=>eb b o hb e) f0 f1 f3 f4 f5⟩
 self:=λ_ _ _ _ _ st h=>wpAny_pyIter_listiter st h
theorem ak{w:jg}{K:zj}{tg:Expr}(a it:Addr):u8 P w K tg (Itt K a) [it] it (λi h=>h.IsTupleIter it a i) where
 mem:=by simp
 obj:=λi h st b hb=>by
  have e:b=it:=by simpa using hb
  subst e;obtain⟨o,e,c,d⟩:=st;exact⟨o,e,λv z=>by rw[d]at z;cases z⟩
 keep:=λi h h' st k=>st.at λo e=>k it (by simp) o e
 item:=by intro X hP hw hK hc i pins s σ H E I hf st hg;subst hP hw hK;obtain⟨xs,x,hq,hx⟩:=hg;obtain⟨ka,rv,p,hz⟩:=I.tuple hq;obtain⟨u,hu,ru⟩:=rv.get hx;obtain⟨f0,f1,f2,f3,f4,f5⟩:=hf it (by simp);refine wpAny_pyNext_tuple_item st (show s.heap.IsTuple a ka.toArray from p) (x:=u) (by simpa using hu) λh' ma sb=>?_;have I1:Inv X pins σ H {s with heap:=h'}:=I.turned (t':=s.toks) (λb o hb e=>(sb.2 b hb).trans e) f0 f1 f3 f4 f5;obtain⟨o,e,c,d⟩:=id ma;exact⟨u,rfl,qB (s:={s with heap:=h'}) e c d (by decide) ⟨x,H,I1,ru,⟨rfl,λys hy=>by rw[I.tuple_inj hy hq];exact hx⟩,ma,λb hb=>(hf b hb).1⟩⟩
 done:=by intro X hP hw hK hc i pins s σ H E I hf st hg;subst hP hw hK;obtain⟨xs,hq,hx⟩:=hg;obtain⟨ka,rv,p,hz⟩:=I.tuple hq;obtain⟨f0,f1,f2,f3,f4,f5⟩:=hf it (by simp);have hl:=rv.length;exact wpAny_pyNext_tuple_end (I.ok.hd hc) st (show s.heap.IsTuple a ka.toArray from p) (by simp;lia) λh' eb=>⟨rfl,I.turned (t':=s.toks) (λb o hb e=>eb b o hb e) f0 f1 f3 f4 f5⟩
 self:=λ_ _ _ _ _ st h=>wpAny_pyIter_tupleiter st h
theorem az{w:jg}{K:zj}{tg:Expr}(it:Addr)(lo:Int)(n:Nat):u8 P w K tg (Itr lo n) [it] it (λi h=>IsRangeIter h it (lo+(i:Nat)*1) ((n:Int)-(i:Nat)) 1) where
 mem:=by simp
 obj:=λi h st b hb=>by
  have e:b=it:=by simpa using hb
  subst e;exact⟨_,st,λv z=>by
   have z':Data.fields _=Data.cell v:=z
   cases z'⟩
 keep:=λi h h' st k=>k it (by simp) _ st
 item:=by intro X hP hw hK hc i pins s σ H E I hf st hg;subst hP hw hK;obtain⟨f0,f1,f2,f3,f4,f5⟩:=hf it (by simp);have W:=Walks.range (prog:=X.prog) (w:=X.w) (I.ok.hd hc) it lo 1 n;refine W.item i s _ _ hg st λv h' tk hv ma kk=>?_;obtain⟨t,rfl⟩:=hv;have I1:Inv X pins σ H {s with heap:=h',toks:=tk}:=I.turned (λb o hb e=>kk b o (by simpa using hb) e) f0 f1 f3 f4 f5;refine⟨_,rfl,qB (s:={s with heap:=h',toks:=tk}) (n:= "range_iterator") ma rfl rfl (by decide) ⟨.int (lo+i),H,I1,⟨t,?_⟩,⟨rfl,rfl⟩,ma,λb hb=>(hf b hb).1⟩⟩;rw[Int.mul_one]
 done:=by intro X hP hw hK hc i pins s σ H E I hf st hg;subst hP hw hK;obtain⟨f0,f1,f2,f3,f4,f5⟩:=hf it (by simp);exact wpAny_pyNext_range_end (I.ok.hd hc) st (by have:n<=i:=hg;lia) λh' eb=>⟨rfl,I.turned (t':=s.toks) (λb o hb e=>eb b o hb e) f0 f1 f3 f4 f5⟩
 self:=λ_ _ _ _ _ st h=>wpAny_pyIter_rangeiter st h
section
theorem Gm{σ:St}{H:Hp}{s:zv}{R:It->Hp->Prop}{lo hi:Int}{t u v:Tok}{tk:Nat}(I:Inv X pins σ H s)(h1: -(2 ^ 62)<=lo)(h2:lo<2 ^ 62)(h3: -(2 ^ 62)<=hi)(h4:hi<2 ^ 62)
 (q:R (Itr lo (hi-lo).toNat) H):zq (zC X.prog X.w) X.A (XO (.ref s.heap.objs.size)) (PIE X pins σ tg R) E {s with heap:=s.heap.push {cls:=.type "range",data:=.fields #[.int lo t,.int hi u,.int 1 v]},toks:=tk}:=by
 refine wpAny_pyIter_range (IsRange.new ..) (small_one h1 h2 h3 h4) ?_;have I1:Inv X pins σ H {s with heap:=s.heap.push {cls:=.type "range",data:=.fields #[.int lo t,.int hi u,.int 1 v]},toks:=tk}:=I.kept λb o e=>zc _ e;refine⟨(s.heap.push {cls:=.type "range",data:=.fields #[.int lo t,.int hi u,.int 1 v]}).objs.size, [(s.heap.push {cls:=.type "range",data:=.fields #[.int lo t,.int hi u,.int 1 v]}).objs.size],_,_,H,rfl,
  I1.kept (t':=tk) λb o e=>zc _ e,az _ lo (hi-lo).toNat,?_,λb hb=>?_,q⟩
 · have e1:lo+((0:Nat):Int)*1=lo:=by simp
   have e2:(((hi-lo).toNat:Nat):Int)-((0:Nat):Int)=Builtin.Range.rangeSize lo hi 1:=by rw[rangeSize_one];split<;>lia
   show IsRangeIter _ _ (lo+((0:Nat):Int)*1) ((((hi-lo).toNat:Nat):Int)-((0:Nat):Int)) 1;rw[e1,e2];exact zp _ rfl
 · have e:b= (s.heap.push {cls:=.type "range",data:=.fields #[.int lo t,.int hi u,.int 1 v]}).objs.size:=by simpa using hb
   subst e;exact I1.fpOk (zg _) (I1.hok.fresh (zg _))
def GT(ta:TA):TI:=λσ H R=>ta σ H λvs H1=>∃j:Int,vs= [.int j]/\ -(2 ^ 62)<=j/\j<2 ^ 62/\R (Itr 0 j.toNat) H1
theorem Cp{ta:TA}(hg:Gl X "range")(hm:X.mg "range" =none)(ha:PA X [a] ta)(hs:zX [a] X.env= [(false,eval a X.env)]):PI X tg (.Call (.Name "range" p) [a] [] pos) (GT ta):=by
 intro pins s σ H R I h;refine Call_ (y9 I hg hm boot_range (Zc (thn (ha pos pins s σ H _ I h) λus s1 lu=>lu.elim λvs H1 I1 r1 q1=>?_) hs rfl));obtain⟨j,e,q1,q2,q⟩:=q1;subst e
 cases r1 with
 |cons r rr=>
   cases rr
   obtain⟨t,rfl⟩:=r;exact call_range_1 (Gm I1 (by lia) (by lia) q1 q2 (by simpa using q))
def TW(wi:TI)(g:TG)(tb:TS):TS:=λD σ H=>wi σ H λJ H1=>∃W:Nat->Nat->St->Hp->Prop,(∃m,W 0 m σ H1)/\∀i m σ H,W i m σ H->
 (J.stop i H/\D.nx σ H)\/(J.go i H/\∃N:St->Hp->Prop,(∀ X1 H',N X1 H'->∃m',m'<m/\W (i+1) m' X1 H')/\∀x H',J.yld i H x H'->g x σ H' λσ2 H2=>tb {D with nx:=N,ct:=N,bk:=D.nx} σ2 H2)
def LC(fp:List Addr)(h:Heap):PNS:=fp.filterMap λb=>(h.get? b).map λo=>(b,o)
theorem V7(hb:b∈fp)(e:h.get? b=some o):(b,o)∈LC fp h:=Xf.mpr ⟨b,hb,by rw[e];rfl⟩
theorem kU(hp:p∈LC fp h):p.1∈fp/\h.get? p.1=some p.2:=by
 obtain⟨b,hb,e⟩:=Xf.mp hp
 cases q:h.get? b with
 |none=>rw[q]at e;cases e
 |some o=>
   rw[q]at e;have e':(b,o)=p:=jr e;subst e';exact⟨hb,q⟩
theorem Inv.pinned(I:Inv X pins σ H s)(hf:∀b∈fp,B1 X pins H b)(ho:∀b∈fp,∃o,s.heap.get? b=some o/\∀v,o.data≠ .cell v):Inv X (pins++LC fp s.heap) σ H s:=
 I.pins_of λp hp=>(zM.mp hp).elim (λz=>I.pin p (zO _ z)) λz=>by obtain⟨hb,e⟩:=kU z;obtain⟨f0,f1,f2,_⟩:=hf p.1 hb;obtain⟨o,e',d⟩:=ho p.1 hb;rw[e]at e';cases e';exact⟨e,f0,f1,f2,d⟩
theorem Inv.unpinned(I:Inv X (pins++pl) σ H s):Inv X pins σ H s:=I.pins_of λp hp=>I.pin p (zO _ (ym _ hp))
inductive EI(X:Cx)(pins:PNS)(fp:List Addr)(tn:Nat->Heap->Prop)(W:Nat->Nat->St->Hp->Prop)(n:Nat)(s':zv):Prop
 |mk (i:Nat) (X1:St) (H':Hp) (I:Inv X pins X1 H' s') (st:tn i s'.heap) (fr:∀b∈fp,H' b=none) (w:W i n X1 H')
theorem LY{body:List Stmt}{g:TG}{tb:TS}{pins:PNS}{D:gA}{it:Addr}{fp:List Addr}{tn:Nat->Heap->Prop}{J:It}(hp:∀e s,X.xe e s->EE e s)(hc:X.calm=true)(hg:PG X tg g)(hb:PSs X body tb)
 (T:u8 X.prog X.w X.K tg J fp it tn) (stat:∀ {H':Hp},(∀b∈fp,H' b=none)->∀b∈fp,B1 X pins H' b)
 (turn:∀i m σ H,W i m σ H->
 (J.stop i H/\D.nx σ H)\/(J.go i H/\∃N:St->Hp->Prop,(∀ X1 H',N X1 H'->∃m',m'<m/\W (i+1) m' X1 H')/\∀x H',J.yld i H x H'->g x σ H' λσ2 H2=>tb {D with nx:=N,ct:=N,bk:=D.nx} σ2 H2))
   {n:Nat} {s3:zv} (h3:EI X pins fp tn W n s3) {NX:zv->Prop} (nx:∀m s,m<n->EI X pins fp tn W m s->NX s):
   zq (zC X.prog X.w) X.A (xv (.ref it)) (λr s1=>match r with
    |none=>zq (zC X.prog X.w) X.A (execs [] X.env) (λf s2=>SP X pins D f s2) EE s1
    | some v => zq (zC X.prog X.w) X.A (xX tg (.ref it) v) (λ_ s2 => zq (zC X.prog X.w) X.A (YK tg X.env v) (λ_ s4 => zq (zC X.prog X.w) X.A (execs body X.env) (λf s5 => match f with
       | .next| .cont=>NX s5
       | .brk=>SP X pins D .next s5
       | .ret v=>SP X pins D (.ret v) s5) EE s4) EE s2) EE s1) EE s3:=by
 obtain⟨i,WJ,H3,I3,st3,fr3,w3⟩:=h3;rcases turn i n WJ H3 w3 with⟨stop,qn⟩|⟨go,N,hN,step⟩
 ·refine jF (T.done X rfl rfl rfl hc i pins s3 WJ H3 X.xe I3 (stat fr3) st3 stop) (λr s4 z1=>?_) hp;obtain⟨hr,I4⟩:=z1;subst hr;exact ZG ⟨WJ,H3,I4,qn⟩
 · refine jF (T.item X rfl rfl rfl hc i pins s3 WJ H3 X.xe I3 (stat fr3) st3 go) (λr s4 z2=>?_) hp;obtain⟨u,hr,h4⟩:=z2;subst hr;refine jF h4 (λ_ s5 z3=>?_) hp;obtain⟨x,H5,I5,r5,y5,st5,fr5⟩:=z3;have I5':=I5.pinned (stat fr5) (T.obj _ _ st5);refine jF (hg _ s5 WJ H5 x u _ I5' r5 (step x H5 y5)) (λ_ s6 z4=>?_) hp;obtain⟨WQ,H6,I6,q6⟩:=z4;refine jF (hb _ s6 WQ H6 _ I6 q6) (λf s7 q7=>?_) hp;have again:∀ {WP:St} {H7:Hp},Inv X (pins++LC fp s5.heap) WP H7 s7->N WP H7->NX s7:=λ{WP H7} I7 n7=>by
    obtain⟨m',hm,w7⟩:=hN WP H7 n7;refine nx m' _ hm ⟨i+1,WP,H7,I7.unpinned,T.keep _ _ _ st5 λb hb o e=>(I7.pin (b,o) (zO _ (zO _ (V7 hb e)))).1,λb hb=>?_,w7⟩;obtain⟨o,e,d⟩:=T.obj _ _ st5 b hb;exact(I7.pin (b,o) (zO _ (zO _ (V7 hb e)))).2.1
   cases f with
   |next=>obtain⟨WP,H7,I7,n7⟩:=q7;exact again I7 n7
   |cont=>obtain⟨WP,H7,I7,n7⟩:=q7;exact again I7 n7
   |brk=>obtain⟨WP,H7,I7,q7⟩:=q7;exact⟨WP,H7,I7.unpinned,q7⟩
   |ret v=>obtain⟨x7,WP,H7,I7,r7,q7⟩:=q7;exact⟨x7,WP,H7,I7.unpinned,r7,q7⟩
theorem wx(hp:PassesOwn (zC X.prog X.w) X.A X.env X.xe)(hc:X.calm=true)(hi:PI X tg iter wi)(hg:PG X tg g)(hb:PSs X body tb)
 (hs:∀x,xa iter X.env x=pure x):PS X (.For tg iter body [] pos) (TW wi g tb):=by
 intro pins s σ H D I h;refine wpAny_For (thn (hi pins s σ H _ I h) λv s1 h1=>thn h1 λitv s2 h2=>?_) hs;obtain⟨it,fp,tn,J,H2,e,I2,T,st2,f2,W,⟨m0,w0⟩,turn⟩:=h2;subst e
 -- what stays true of the iterator's objects through the loop
 have stat:∀ {H':Hp},(∀b∈fp,H' b=none)->∀b∈fp,B1 X pins H' b:=λhn b hb=>⟨hn b hb,(f2 b hb).2⟩;exact codeAny_forLoop_any (EI X pins fp tn W) (λn s3 h3=>LY hp hc hg hb T stat turn h3 λm s h1 h2=>⟨m,h1,h2⟩) m0 ⟨0,σ,H2,I2,st2,λb hb=>(f2 b hb).1,w0⟩
end
abbrev R2:=V->V->Hp->VK->Prop
def OpR(X:Cx)(f:zh->zh->Sem zh)(r:R2):Prop:=
 ∀(pins:PNS) (s:zv) (σ:St) (H:Hp) (x y:V) (v u:zh) (Q:VK),Inv X pins σ H s->t6 x v->t6 y u->r x y H Q->
  zq (zC X.prog X.w) X.A (f v u) (EP X pins σ Q) X.xe s
def UnR(X:Cx)(f:zh->Sem zh)(r:V->Hp->VK->Prop):Prop:=
 ∀(pins:PNS) (s:zv) (σ:St) (H:Hp) (x:V) (v:zh) (Q:VK),Inv X pins σ H s->t6 x v->r x H Q->
  zq (zC X.prog X.w) X.A (f v) (EP X pins σ Q) X.xe s
def S9(X:Cx)(f:zh)(r:List V->Hp->VK->Prop):Prop:=
 ∀(pins:PNS) (s:zv) (σ:St) (H:Hp) (xs:List V) (us:List zh) (Q:VK),Inv X pins σ H s->m9 xs us->r xs H Q->
  zq (zC X.prog X.w) X.A (call f us) (EP X pins σ Q) X.xe s
def OY(X:Cx)(r:V->Hp->(Bool->Hp->Prop)->Prop):Prop:=
 ∀(pins:PNS) (s:zv) (σ:St) (H:Hp) (x:V) (v:zh) (Q:Bool->Hp->Prop),Inv X pins σ H s->t6 x v->r x H Q->
  zq (zC X.prog X.w) X.A (truthy v) (TP X pins σ Q) X.xe s
def tOp(r:R2)(ta tb:TE):TE:=λσ H Q=>ta σ H λx H1=>tb σ H1 λy H2=>r x y H2 Q
def tUn(r:V->Hp->VK->Prop)(ta:TE):TE:=λσ H Q=>ta σ H λx H1=>r x H1 Q
def rI(C:Int->Int->Prop)(g:Int->Int->V):R2:=λx y H Q=>∃i j,x= .int i/\y= .int j/\C i j/\Q (g i j) H
def A9(g:Int->Int->V):R2:=λx y H Q=>∃i j,x= .int i/\y= .int j/\Q (g i j) H
def rU(g:Int->V):V->Hp->VK->Prop:=λx H Q=>∃i,x= .int i/\Q (g i) H
section
theorem dH(ha:PE X a ta)(hb:PE X b tb){pins:PNS}{s:zv}{σ:St}{H:Hp}{R:V->V->Hp->Prop}(I:Inv X pins σ H s)
 (h:ta σ H λx H1=>tb σ H1 λy H2=>R x y H2) {f:zh->zh->Sem zh}
 (hf:∀v u s2 x y H2,Inv X pins σ H2 s2->t6 x v->t6 y u->R x y H2->zq (zC X.prog X.w) X.A (f v u) Q X.xe s2):
 zq (zC X.prog X.w) X.A (eval a X.env) (λv W1=>zq (zC X.prog X.w) X.A (eval b X.env) (λu s₂=>zq (zC X.prog X.w) X.A (f v u) Q X.xe s₂) X.xe W1) X.xe s:=by
 refine thn (ha pins s σ H _ I h) λv s1 lu=>lu.elim λx H1 I1 r1 q1=>?_;refine thn (hb pins s1 σ H1 _ I1 q1) λu s2 lu=>lu.elim λy H2 I2 r2 q2=>?_;exact hf v u s2 x y H2 I2 r1 r2 q2
theorem tJ(ho:OpR X (yy op) r)(ha:PE X a ta)(hb:PE X b tb):PE X (.BinOp a op b pos) (tOp r ta tb):=by intro pins s σ H Q I h;exact wpAny_BinOp (dH ha hb I h λv u s2 x y H2 I2 rx ry q=>ho pins s2 σ H2 x y v u Q I2 rx ry q)
theorem iY(ho:UnR X (unaryOp op) r)(ha:PE X a ta):PE X (.UnaryOp op a pos) (tUn r ta):=by intro pins s σ H Q I h;exact UnaryOp_ (thn (ha pins s σ H _ I h) λv s1 lu=>lu.elim λx H1 I1 r1 q1=>ho pins s1 σ H1 x v Q I1 r1 q1)
theorem opI{C:Int->Int->Prop}{g:Int->Int->Int}
 (rule:∀(i j:Int) (t u:Tok) (s:zv) Q (E:VSP),C i j->Q (.int (g i j) s.toks) {s with toks:=s.toks+1}->zq (zC X.prog X.w) X.A (f (.int i t) (.int j u)) Q E s):
 OpR X f (rI C λi j=>.int (g i j)):=by
 intro pins s σ H x y v u Q I rx ry h;obtain⟨i,j,rfl,rfl,hc,q⟩:=h;obtain⟨t,rfl⟩:=rx;obtain⟨t',rfl⟩:=ry;exact rule i j t t' s _ _ hc ⟨.int (g i j),H,I.tok _,⟨_,rfl⟩,q⟩
theorem CQ{g:Int->Int->Int}
 (rule:∀(i j:Int) (t u:Tok) (s:zv) Q (E:VSP),Q (.int (g i j) s.toks) {s with toks:=s.toks+1}->zq (zC X.prog X.w) X.A (f (.int i t) (.int j u)) Q E s):
 OpR X f (A9 λi j=>.int (g i j)):=by
 intro pins s σ H x y v u Q I rx ry h;obtain⟨i,j,rfl,rfl,q⟩:=h;obtain⟨t,rfl⟩:=rx;obtain⟨t',rfl⟩:=ry;exact rule i j t t' s _ _ ⟨.int (g i j),H,I.tok _,⟨_,rfl⟩,q⟩
theorem QJ{g:Int->Int->Bool}
 (rule:∀(i j:Int) (t u:Tok) (s:zv) Q (E:VSP),Q (.bool (g i j)) s->zq (zC X.prog X.w) X.A (f (.int i t) (.int j u)) Q E s):
 OpR X f (A9 λi j=>.bl (g i j)):=by
 intro pins s σ H x y v u Q I rx ry h;obtain⟨i,j,rfl,rfl,q⟩:=h;obtain⟨t,rfl⟩:=rx;obtain⟨t',rfl⟩:=ry;exact rule i j t t' s _ _ ⟨.bl (g i j),H,I,rfl,q⟩
def g6(i j:Int):Prop:=0<=j/\j<=1000000/\i.natAbs<2 ^ 64
def i8(i j:Int):Prop:=(-(2 ^ 64)<i/\i<2 ^ 64)\/(-(2 ^ 64)<j/\j<2 ^ 64)
theorem i8.ok(h:i8 i j):IntMulOk i j:=by
 rcases h with⟨h1,h2⟩|⟨h1,h2⟩
 ·exact .of_left (intBits_le_64 h1 h2)
 ·exact .of_right (intBits_le_64 h1 h2)
theorem Km:OpR X (yy .Add) (A9 λi j=>.int (i+j)):=CQ λ_ _ _ _ _ _ _ q=>add_int q
theorem fL:OpR X (yy .Sub) (A9 λi j=>.int (i-j)):=CQ λ_ _ _ _ _ _ _ q=>sub_int q
theorem Bg:OpR X (yy .Mult) (rI i8 λi j=>.int (i*j)):=opI λ_ _ _ _ _ _ _ hc q=>mul_int q hc.ok
theorem fT:OpR X (yy .Mod) (rI (λ_ j=>0<j) λi j=>.int (i % j)):=opI λi j _ _ _ _ _ hc q=>by have h1:(0:Int)<j:=hc;exact mod_int' (by lia) (by rw[Int.fmod_eq_emod_of_nonneg i (by lia)];exact q)
theorem RK:OpR X (yy .Pow) (rI g6 λi j=>.int (i ^ j.toNat)):=opI λ_ _ _ _ _ _ _ hc q=>pow_int_small hc.1 hc.2.1 hc.2.2 q
theorem unI{f:zh->Sem zh}{g:Int->Int}
 (rule:∀(i:Int) (t:Tok) (s:zv) Q E,Q (.int (g i) s.toks) {s with toks:=s.toks+1}->zq (zC X.prog X.w) X.A (f (.int i t)) Q E s):
 UnR X f (rU λi=>.int (g i)):=by
 intro pins s σ H x v Q I rx h;obtain⟨i,rfl,q⟩:=h;obtain⟨t,rfl⟩:=rx;exact rule i t s _ _ ⟨.int (g i),H,I.tok _,⟨_,rfl⟩,q⟩
theorem Fz:UnR X (unaryOp .USub) (rU λi=>.int (-i)):=unI λ_ _ _ _ _ q=>neg_int q
end
section
theorem cJ(I:Inv X pins σ H s)(q:Q (.bl k) H)(e:k=k'):EP X pins σ Q (.bool k') s:=by subst e;exact⟨.bl k,H,I,rfl,q⟩
theorem hW:OpR X (zZ .LtE) (A9 λi j=>.bl (decide (i<=j))):=QJ λ_ _ _ _ _ _ _ q=>le_int q
theorem IW:OpR X (zZ .Gt) (A9 λi j=>.bl (decide (j<i))):=QJ λ_ _ _ _ _ _ _ q=>gt_int q
theorem cZ:OpR X (zZ .GtE) (A9 λi j=>.bl (decide (j<=i))):=QJ λ_ _ _ _ _ _ _ q=>ge_int q
theorem wj:OpR X (zZ .In) (λx y H Q=>∃i j,x= .str i/\y= .str j/\Q (.bl (!(Zw j i 0 j.length 1).isEmpty)) H):=by intro pins s σ H x y v u Q I rx ry h;obtain⟨i,j,rfl,rfl,q⟩:=h;obtain⟨t,rfl⟩:=rx;obtain⟨t',rfl⟩:=ry;exact in_str (cJ I q rfl)
theorem Hw:OpR X (zZ .Is) (λx y H Q=>y= .non/\Q (.bl (decide (x= .non))) H):=by
 intro pins s σ H x y v u Q I rx ry h;obtain⟨rfl,q⟩:=h
 cases ry
 refine is_none_gen (cJ I q ?_)
 cases x<;>first
  |(cases rx;rfl)
  |(obtain⟨t,rfl⟩:=rx;rfl)
theorem OW:OpR X (zZ .IsNot) (λx y H Q=>y= .non/\Q (.bl (!decide (x= .non))) H):=by
 intro pins s σ H x y v u Q I rx ry h;obtain⟨rfl,q⟩:=h
 cases ry
 refine isnot_none_gen (cJ I q ?_)
 cases x<;>first
  |(cases rx;rfl)
  |(obtain⟨t,rfl⟩:=rx;rfl)
theorem OpR.or(h:OpR X f r)(h':OpR X f r'):OpR X f (λx y H Q=>r x y H Q\/r' x y H Q):=by
 intro pins s σ H x y v u Q I rx ry q;rcases q with q|q
 ·exact h pins s σ H x y v u Q I rx ry q
 ·exact h' pins s σ H x y v u Q I rx ry q
theorem nZ(ho:OpR X (zZ op) r)(ha:PE X a ta)(hb:PE X b tb)(hm:XD op b=false):PE X (.Compare a [op] [b] pos) (tOp r ta tb):=by intro pins s σ H Q I h;exact wpAny_Compare1 (dH ha hb I h λv u s2 x y H2 I2 rx ry q=>ho pins s2 σ H2 x y v u Q I2 rx ry q) hm
def HM(t:TE):TT:=λσ H Q=>t σ H λx H'=>∃k,x= .bl k/\Q k H'
theorem cU(ho:OpR X (zZ op) r)(ha:PE X a ta)(hb:PE X b tb)(hm:XD op b=false):PT X (.Compare a [op] [b] pos) (HM (tOp r ta tb)):=by
 intro pins s σ H Q I h;refine wpAny_isTrue_Compare1 (thn (ha pins s σ H _ I h) λv s1 lu=>lu.elim λx H1 I1 r1 q1=>thn (hb pins s1 σ H1 _ I1 q1) λu s2 lu=>lu.elim λy H2 I2 r2 q2=>
  thn (ho pins s2 σ H2 x y v u _ I2 r1 r2 q2) λc s3 ⟨z,H3,I3,r3,k,e,q3⟩=>?_) hm
 subst e
 cases r3
 exact xG ⟨H3,I3,q3⟩
def aQ(r r':R2)(ta tb tc:TE):TE:=λσ H Q=>ta σ H λx H1=>tb σ H1 λy H2=>r x y H2 λz H3=>∃k,z= .bl k/\
 (if k=true then tc σ H3 λw' H4=>r' y w' H4 Q else Q (.bl false) H3)
theorem Mq(ho:OpR X (zZ op) r)(ho':OpR X (zZ op') r')(ha:PE X a ta)(hb:PE X b tb)(hc:PE X c tc)
 (hm:lastMarks [op,op'] [b,c]=false):PT X (.Compare a [op,op'] [b,c] pos) (HM (aQ r r' ta tb tc)):=by
 intro pins s σ H Q I h;refine isTrue_chain (thn (ha pins s σ H _ I h) λv s1 lu=>lu.elim λx H1 I1 r1 q1=>test_link (thn (hb pins s1 σ H1 _ I1 q1) λu s2 lu=>lu.elim λy H2 I2 r2 q2=>
  thn (ho pins s2 σ H2 x y v u _ I2 r1 r2 q2) λd s3 ⟨z,H3,I3,r3,k,e,q3⟩=>?_)) hm
 subst e
 cases r3
 refine xG ?_
 cases k with
 |false=>
   obtain⟨k',e',q'⟩:=q3
   cases e'
   exact ite_ff ⟨H3,I3,q'⟩
 |true=>
   refine ite_tt (test_last (thn (hc pins s3 σ H3 _ I3 q3) λw' s4 ⟨z',H4,I4,r4,q4⟩=>thn (ho' pins s4 σ H4 y z' u w' _ I4 r2 r4 q4) λd' s5 ⟨z2,H5,I5,r5,k2,e2,q5⟩=>?_));subst e2
   cases r5
   exact xG ⟨H5,I5,q5⟩
def bI(K:zj)(x:V)(H:Hp)(k:Bool):Prop:=
 match x with
 | .non=>k=false
 | .bl b=>k=b
 | .int i=>k= (i != 0)
 | .str y=>y.length<=zk/\k= ((y.length:Int) != 0)
 | .byt y=>y.size<=zk/\k= ((y.size:Int) != 0)
 | .ref p=>(∃xs,SqL K H p xs/\k= !xs.isEmpty)\/(∃xs,SqT K H p xs/\k= !xs.isEmpty)\/∃iz,H p=some (.dK iz)/\k= !iz.isEmpty
 |_=>False
theorem gU(r:KV iz vs):(!vs.isEmpty)= !iz.isEmpty:=by
 cases r<;>rfl
theorem iQ(r:m9 xs ka):(!ka.toArray.isEmpty)= !xs.isEmpty:=by
 cases r<;>simp
theorem LA:(zk:Nat)<2 ^ 63:=by rw[ju];decide
theorem IH:OY X (λx H Q=>∃k,bI X.K x H k/\Q k H):=by
 intro pins s σ H x v Q I rx h;obtain⟨k,e,q⟩:=h;have hl:=LA;have hs:zk=16777216:=ju
 cases x with
 |non=>
   cases rx
   have e':k=false:=e;subst e';exact truthy_none ⟨H,I,q⟩
 |bl b=>
   cases rx
   have e':k=b:=e;subst e';exact xG ⟨H,I,q⟩
 |int i=>
   obtain⟨t,rfl⟩:=rx;have e':k= (i != 0):=e;subst e';exact PySem.P.truthy_int ⟨H,I,q⟩
 |str y=>
   obtain⟨t,rfl⟩:=rx;obtain⟨hy,e'⟩:y.length<=zk/\k= ((y.length:Int) != 0):=e;subst e';exact PySem.P.truthy_str (by lia) ⟨H,I.tok _,q⟩
 |byt y=>
   obtain⟨t,rfl⟩:=rx;obtain⟨hy,e'⟩:y.size<=zk/\k= ((y.size:Int) != 0):=e;subst e';exact PySem.W.truthy_bytes (by lia) ⟨H,I.tok _,q⟩
 |ref p=>
   cases rx
   have e':(∃xs,SqL X.K H p xs/\k= !xs.isEmpty)\/(∃xs,SqT X.K H p xs/\k= !xs.isEmpty)\/∃iz,H p=some (.dK iz)/\k= !iz.isEmpty:=e;rcases e' with⟨xs,hx,e'⟩|⟨xs,hx,e'⟩|⟨iz,hx,e'⟩
   ·subst e';obtain⟨ka,r,pl,hz⟩:=I.list hx;have kl:=r.length;exact wpAny_truthy_list pl.isList (by simp only[zl];lia) ⟨H,I.tok _,by rw[iQ r];exact q⟩
   ·subst e';obtain⟨ka,r,pl,hz⟩:=I.tuple hx;have kl:=r.length;exact truthy_tuple pl (by simp only[zl];lia) ⟨H,I.tok _,by rw[iQ r];exact q⟩
   ·subst e';obtain⟨hz,hS,vs,r,m⟩:iz.length<=zk/\(p==xu)=false/\∃vs,KV iz vs/\s.heap.DictOf (u5 X.prog X.w) p vs:=I.hok p _ hx;have kl:iz.length=vs.length:=xl r;exact wpAny_truthy_dict hS m (by lia) ⟨H,I.tok _,by rw[gU r];exact q⟩
 |_=>exact(show False from e).elim
theorem Fp(ha:PE X a ta)(he:∀whole,isTrue a X.env whole= (do let v <-whole;standAt a.pos;Yj [v] (truthy v))):
 PT X a (λσ H Q=>ta σ H λx H'=>∃k,bI X.K x H' k/\Q k H'):=by
 intro pins s σ H Q I h;exact isTrue_plain (thn (ha pins s σ H _ I h) λv s1 lu=>lu.elim λx H1 I1 r1 q1=>IH pins s1 σ H1 x v Q I1 r1 q1) (he _)
theorem rT:OpR X (yy .Add) (λx y H Q=>∃i j,x= .str i/\y= .str j/\i.length+j.length<=zk/\Q (.str (i++j)) H):=by intro pins s σ H x y v u Q I rx ry h;obtain⟨i,j,rfl,rfl,hz,q⟩:=h;obtain⟨t,rfl⟩:=rx;obtain⟨t',rfl⟩:=ry;exact add_str (λt' tk=>⟨.str (i++j),H,I.tok _,⟨_,rfl⟩,q⟩) hz
theorem C3(r:m9 [x] us):∃u,us= [u]/\t6 x u:=by
 cases r with
 |cons r1 r2=>cases r2;exact⟨_,rfl,r1⟩
theorem vC(r:m9 [x,y] us):∃u w',us= [u,w']/\t6 x u/\t6 y w':=by
 cases r with
 |cons r1 r2=>
   cases r2 with
   |cons r3 r4=>cases r4;exact⟨_,_,rfl,r1,r3⟩
theorem nX:S9 X (.builtin "abs") (λxs H Q=>∃i,xs= [.int i]/\Q (.int (if i<0 then -i else i)) H):=by intro pins s σ H xs us Q I r h;obtain⟨i,rfl,q⟩:=h;obtain⟨u,rfl,t,rfl⟩:=C3 r;exact call_abs_int λu tk=>⟨.int (if i<0 then -i else i),H,I.tok _,⟨_,rfl⟩,q⟩
theorem LS(hc:X.calm=true):S9 X (.builtin "max") (λxs H Q=>∃i j,xs= [.int i,.int j]/\Q (.int (if j>i then j else i)) H):=by
 intro pins s σ H xs us Q I r h;obtain⟨i,j,rfl,q⟩:=h;obtain⟨u,w',rfl,⟨t,rfl⟩,⟨t',rfl⟩⟩:=vC r;refine max_two_ints (I.ok.hd hc) λh' tk k=>⟨_,H,I.kept k,?_,q⟩;by_cases hj:j>i
 ·rw[if_pos hj,if_pos hj];exact⟨_,rfl⟩
 ·rw[if_neg hj,if_neg hj];exact⟨_,rfl⟩
theorem gm(hc:X.calm=true):S9 X (.builtin "min") (λxs H Q=>∃i j,xs= [.int i,.int j]/\Q (.int (if j<i then j else i)) H):=by
 intro pins s σ H xs us Q I r h;obtain⟨i,j,rfl,q⟩:=h;obtain⟨u,w',rfl,⟨t,rfl⟩,⟨t',rfl⟩⟩:=vC r;refine min_two_ints (I.ok.hd hc) λh' tk k=>⟨_,H,I.kept k,?_,q⟩;by_cases hj:j<i
 ·rw[if_pos hj,if_pos hj];exact⟨_,rfl⟩
 ·rw[if_neg hj,if_neg hj];exact⟨_,rfl⟩
theorem Gx:S9 X (.type "int") (λxs H Q=>(∃i,xs= [.int i]/\Q (.int i) H)\/∃k,xs= [.bl k]/\Q (.int (if k then 1 else 0)) H):=by
 intro pins s σ H xs us Q I r h;rcases h with⟨i,rfl,q⟩|⟨k,rfl,q⟩
 ·obtain⟨u,rfl,t,rfl⟩:=C3 r;exact call_int_int ⟨.int i,H,I,⟨_,rfl⟩,q⟩
 · obtain⟨u,rfl,r1⟩:=C3 r
   cases r1
   exact call_int_bool ⟨.int (if k then 1 else 0),H,I.tok _,⟨_,rfl⟩,q⟩
end
structure ObjM(h:Heap)(x dx C:Addr)(mA:Str->Option zh):Prop where
 obj:h.get? x=some (PySem.W.instObj C dx)
 ns:h.Ns1 dx mA
 ne:dx≠x
section
variable{prog:zS}{w:jg}{A:jn}{E:VSP}{s:zv}{K:zj}{x dx C f:Addr}{mA:Str->Option zh}{name:Str}{v:zh}
end
theorem D8.some_of(r:D8 (some v) o):∃u,o=some u/\t6 v u:=by
 cases o with
 |none=>exact(show False from r).elim
 |some u=>exact⟨u,rfl,r⟩
section
end
structure Cls(K:zj)(C:Addr):Prop where
 pg:PySem.W.plainGet K C Str.empty=true
 hd:PySem.W.hasDictIn K C=true
 po:PySem.W.plainOver K C=true
 sa:Zs K (.ref C) "__setattr__" =some (some (.builtin "object.__setattr__"))
structure Con(K:zj)(C:Addr)(f:Str)(v:V)(u:zh):Prop where
 at_:Zs K (.ref C) f=some (some u)
 rel:t6 v u
 get:PySem.W.specialIn K u "__get__" =some none
 cp:PySem.W.copiedNames.contains f=false
structure Meth(K:zj)(C:Addr)(m:Str)(f:Addr):Prop where
 at_:Zs K (.ref C) m=some (some (.ref f))
 fn:PySem.W.isFn K (.ref f)=true
 kp:yM K (.ref f)=true
section
end
section
end
section
inductive r6(K:zj)(H:Hp):V->zh->Prop where
 |non:r6 K H .non (.type "NoneType")
 |bl (x:Bool):r6 K H (.bl x) (.type "bool")
 |int (i:Int):r6 K H (.int i) (.type "int")
 |str (x:Str):r6 K H (.str x) (.type "str")
 |flt (x:UInt64):r6 K H (.flt x) (.type "float")
 |lst {a:Addr} {xs:List V} (e:H a=some (.lst xs)):r6 K H (.ref a) (.type "list")
 |frz {a:Addr} {o:Obj} {xs:List V} (e:H a=some (.frz o (.lst xs))):r6 K H (.ref a) (.type "list")
 |tup {a:Addr} {xs:List V} (e:H a=some (.tup xs)):r6 K H (.ref a) (.type "tuple")
 |dK {a:Addr} {iz:List (Key×V)} (e:H a=some (.dK iz)):r6 K H (.ref a) (.type "dict")
 |dT {a:Addr} {iz:List (List Key×V)} (e:H a=some (.dT iz)):r6 K H (.ref a) (.type "dict")
 |ins {a C dx:Addr} {fs:List (Str×V)} (e:H a=some (.ins C dx fs)) (cl:Cls K C) (ha:Zs K (.ref C) "__class__" =some (some (.builtin "object.__class__")))
    (hn:PySem.W.specialIn K (.builtin "object.__class__") "__get__" =some (some (.builtin "getset_descriptor.__get__"))) (htk:PySem.W.takesIn K (.builtin "object.__class__")=some true)
    (hm:PySem.W.mroIn K C (.type "object")=some true):r6 K H (.ref a) (.ref C)
end
structure O3(k:Nat)(A:jn):Prop where
 hd:A.handled=none
 dp:A.depth+3*k+5<recursionLimit
 un:A.units+16*k+200<yU
 gd:A.guards=some []
theorem O3.mono(r:O3 k A)(h:j<=k):O3 j A:=⟨r.hd,by have:=r.dp;lia,by have:=r.un;lia,r.gd⟩
theorem O3.deeper(r:O3 (k+1) A)(env:Env):O3 k (A.deeper env):=
 ⟨r.hd,by have:=r.dp;show A.depth+1+3*k+5<_;lia,by have:=r.un;show A.units+3+16*k+200<_;lia,r.gd⟩
theorem O3.in1(r:O3 (k+1) A):O3 k A.in1:=
 ⟨r.hd,by have:=r.dp;show A.depth+3*k+5<_;lia,by have:=r.un;show A.units+1+16*k+200<_;lia,r.gd⟩
theorem O3.depth(r:O3 k A):A.depth<recursionLimit:=by have:=r.dp;lia
theorem O3.units(r:O3 k A):A.units+64<yU:=by have:=r.un;lia
def iX:TA:=λ_ H Q=>Q [] H
def GW(ta:TE)(tr:TA):TA:=λσ H Q=>ta σ H λx H1=>tr σ H1 λxs H2=>Q (x::xs) H2
section
theorem FZ:PA X [] iX:=λ_ _ _ _ H Q I h=>Xl ⟨[],H,I,.nil,h⟩
theorem RV(ha:PE X e te)(hr:PA X es t)(hs:zX (e::es) X.env= (false,eval e X.env)::zX es X.env):PA X (e::es) (GW te t):=by intro pos pins s σ H Q I h;rw[hs];show zq _ _ (spliced ((false,eval e X.env)::xw pos (zX es X.env))) _ _ s;refine YX (thn (ha pins s σ H _ I h) λu s1 lu=>lu.elim λx H1 I1 r1 q1=>?_);exact thn (hr pos pins s1 σ H1 _ I1 q1) λus s2 lu=>lu.elim λxs H2 I2 r2 q2=>⟨x::xs,H2,I2,.cons r1 r2,q2⟩
def QS(t:TA):TE:=λσ H Q=>t σ H λxs H1=>xs.length<=zk/\∀p,H1 p=none->Q (.ref p) (upd H1 p (.tup xs))
def BT(t:TA):TE:=λσ H Q=>t σ H λxs H1=>xs.length<=zk/\∀p,H1 p=none->Q (.ref p) (upd H1 p (.lst xs))
theorem lV{x1}(h:PA X es t):PE X (.Tuple es x1 pos) (QS t):=by intro pins s σ H Q I hq;refine wpAny_Tuple_spliced (thn (h pos pins s σ H _ I hq) λus s1 ⟨xs,H1,I1,r,z,q⟩=>⟨by rw[<-r.length];exact z,?_⟩);have hf:H1 s1.heap.objs.size=none:=I1.hok.fresh (zg _);refine⟨.ref s1.heap.objs.size,upd H1 s1.heap.objs.size (.tup xs),I1.laid (t':=s1.toks) (λb u e=>zc _ e) (zg _) ?_,rfl,q _ hf⟩;exact⟨z,us,r,⟨_,zp _ rfl,rfl,_,rfl⟩⟩
theorem Lf(h:PA X es t):PE X (.List es pos) (BT t):=by intro pins s σ H Q I hq;refine wpAny_List_spliced (thn (h pos pins s σ H _ I hq) λus s1 ⟨xs,H1,I1,r,z,q⟩=>⟨by rw[<-r.length];exact z,?_⟩);have hf:H1 s1.heap.objs.size=none:=I1.hok.fresh (zg _);refine⟨.ref s1.heap.objs.size,upd H1 s1.heap.objs.size (.lst xs),I1.laid (t':=s1.toks) (λb u e=>zc _ e) (zg _) ?_,rfl,q _ hf⟩;exact⟨z,us,0,r,zp _ rfl⟩
end
abbrev Sp:=List V->Hp->VK->XK->Prop
abbrev CXT:=List Env->Hp->zv->XK->VSP
structure lG(P:zS)(w:jg)(K:zj)(mg:Str->Option zh)(base:Heap)(A:jn)(outer:List Env)(s:zv)(H:Hp):Prop where
 frames:A.frames=some outer
 mod:Mod K mg base
 bs:∀b o,base.get? b=some o->s.heap.get? b=some o/\H b=none
 bsz:base.objs.size<=s.heap.objs.size
 funs:s.heap.FunFrames base outer
 frf:∀b∈frs outer,H b=none
 hok:HOk P w H s.heap
 bare:Xs s.gens
def CE(outer:List Env)(P:zS)(w:jg)(H:Hp)(s:zv)(Q:VK)(u:zh)(s':zv):Prop:=
 ∃v H',s'.os=s.os/\Xs s'.gens/\Un (frs outer) [] H H' s.heap s'.heap/\HOk P w H' s'.heap/\t6 v u/\Q v H'
def CR(CX:CXT)(outer:List Env)(P:zS)(w:jg)(H:Hp)(s:zv)(Q:VK)(E:XK)(r:Result)(s':zv):Prop:=
 match r with
 | .ok (.ret u)=>CE outer P w H s Q u s'
 | .ok _=>False
 | .error e=>CX outer H s E e s'
structure E2(P:zS)(w:jg)(K:zj)(mg:Str->Option zh)(base:Heap)(CX:CXT)(k:Nat)(f:Addr)(fd:xP)(ps:List Str)(sp:Sp):Prop where
 len:∀vs H Q E,sp vs H Q E->vs.length=ps.length
 run:∀(A:jn) (outer:List Env) (s:zv) (H:Hp) (args:Args) (us:List zh) (vs:List V) (Q:VK) (E:XK),O3 k A->lG P w K mg base A outer s H->YL s fd args (ps.zip us)->m9 vs us->sp vs H Q E->
  ZQ (zC P w) A (.call (.ref f) args) (CR CX outer P w H s Q E) s
theorem E2.imp{P:zS}{w:jg}{K:zj}{base:Heap}{CX:CXT}{k:Nat}{f:Addr}{fd:xP}{ps:List Str}{sp sp':Sp}(F:E2 P w K mg base CX k f fd ps sp)
 (h:∀vs H Q E,sp' vs H Q E->sp vs H Q E):E2 P w K mg base CX k f fd ps sp':=
 ⟨λvs H Q E q=>F.len vs H Q E (h _ _ _ _ q),λA outer s H args us vs Q E hr he hb hv hs=>F.run A outer s H args us vs Q E hr he hb hv (h _ _ _ _ hs)⟩
section
theorem Inv.env0(I:Inv X pins σ H s):lG X.prog X.w X.K X.mg X.base X.A X.stack s H:=
 ⟨I.ok.frames,I.ok.mod,I.bs,zQ I.ok.bsz I.sz,I.stack,I.stkFree,I.hok,I.bare⟩
theorem Inv.after(I:Inv X pins σ H s)(h:CE X.stack X.prog X.w H s Q u s'):EP X pins σ Q u s':=by obtain⟨v,H',os,bare,un,hok,r,q⟩:=h;obtain⟨hh,g,d,t,os'⟩:=s';obtain rfl:os'=s.os:=os;exact⟨v,H',I.call (h':=hh) (g':=g) (d':=d) (t':=t) (ch:= []) un hok bare (λb z=>absurd z (by simp)),r,q⟩
end
def Hj(sp:Sp)(dvs:List V)(E:XK)(t:TA):TE:=λσ H Q=>t σ H λvs H1=>sp (vs++dvs) H1 Q E
def A4(K:zj)(fd:xP)(ps:List Str)(ds:List zh):Prop:=
 ∀(s:zv) (us:List zh),K.In s.heap->(us++ds).length=ps.length->YL s fd ⟨us, []⟩ (ps.zip (us++ds))
theorem A4.all{K:zj}{ps:List Str}(h:∀us:List zh,us.length=ps.length->bindArgs fd ⟨us, []⟩=pure (ps.zip us)):A4 K fd ps []:=λs us _ hl=>by rw[jT]at hl ⊢;exact .of_eq (h us hl)
def PH(CX:CXT)(X:Cx)(E:XK):Prop:=∀(pins:PNS) (σ:St) (H:Hp) (s:zv) (e:zh) (s':zv),Inv X pins σ H s->CX X.stack H s E e s'->X.xe e s'
section
theorem aN(F:E2 X.prog X.w X.K X.mg X.base CX k f fd ps sp)(hr:O3 k X.A)(hb:A4 X.K fd ps ds)(hd:m9 dvs ds)(hx:PH CX X E)
 (I:Inv X pins σ H s) (r:m9 vs us) (h:sp (vs++dvs) H Q E):zq (zC X.prog X.w) X.A (call (.ref f) us) (EP X pins σ Q) X.xe s:=by
 have r2:m9 (vs++dvs) (us++ds):=r.append hd;have hl:(us++ds).length=ps.length:=by rw[<-r2.length];exact F.len _ _ _ _ h
 refine wpAny_call (ZP (F.run X.A X.stack s H ⟨us, []⟩ (us++ds) (vs++dvs) Q E hr I.env0 (hb s us I.kIn hl) r2 h) λr s' hq=>?_)
 cases r with
 |error e=>exact hx pins σ H s e s' I hq
 |ok fl=>
   cases fl with
   |ret u=>exact I.after hq
   |next=>exact yc hq
   |brk=>exact yc hq
   |cont=>exact yc hq
theorem DZ(F:E2 X.prog X.w X.K X.mg X.base CX k f fd ps sp)(hr:O3 k X.A)(hg:Gl X x)(hm:X.mg x=some (.ref f))(hk:yM X.K (.ref f)=true)(hb:A4 X.K fd ps ds)(hd:m9 dvs ds)(hx:PH CX X E)
 (ha:PA X (e::es) t) (hdb:(x==("__debug__" :Str))=false) (he:zX (e::es) X.env= (false,eval e X.env)::zX es X.env) (nz:(xw pos (zX es X.env)).any (·.1)=false):
 PE X (.Call (.Name x p) (e::es) [] pos) (Hj sp dvs E t):=by
 intro pins s σ H Q I h;refine yT (MD I hg hm ?_ hdb);refine PySem.W.callWith_K (h₀:=X.base) I.ok.mod.kin hk (thn (ha pos pins s σ H _ I h) λus s1 lu=>lu.elim λvs H1 I1 r q=>⟨I1.kIn,?_⟩) he nz;exact aN F hr hb hd hx I1 r q
structure Mk(K:zj)(C f:Addr):Prop where
 makes:PySem.W.makesIn K C=true
 init:Zs K (.ref C) "__init__" =some (some (.ref f))
 fn:PySem.W.isFn K (.ref f)=true
 kp:yM K (.ref C)=true
end
def PK(X:Cx)(kws:List Keyword)(t:TA):Prop:=
 ∀(pos:Pos) (pins:PNS) (s:zv) (σ:St) (H:Hp) (Q:List V->Hp->Prop),Inv X pins σ H s->t σ H Q->zq (zC X.prog X.w) X.A (evalAll ((Jf pos (Yi kws X.env)).map (·.2))) (AP X pins σ Q) X.xe s
section
structure KBinds(K:zj)(fd:xP)(ps ks:List Str)(g:List zh->List zh->List zh)(gV:List V->List V->List V):Prop where
 to:∀(s:zv) (us ws:List zh),K.In s.heap->(g us ws).length=ps.length->YL s fd ⟨us,ks.zip ws⟩ (ps.zip (g us ws))
 rel:∀ {vs:List V} {us:List zh} {zs:List V} {ws:List zh},m9 vs us->m9 zs ws->m9 (gV vs zs) (g us ws)
end
structure V2(N P:List Str)(sc:Scope):Prop where
 kind:sc.kind= .function
 co:sc.isCoroutine=false
 gen:sc.isGenerator=false
 nd:N.Nodup
 pre:N.take P.length=P
 par:∀x∈P,sc.names.lookup x=some .local\/sc.names.lookup x=some .cell
 nofree:∀y∈sc.names,y.2≠ .free
theorem BM{xZ:Str->Option NameKind}{x:Str}:∀ {binds} {m:Str->Option zh},(∀v,(x,v)∉binds)->bindL xZ binds m x=m x
 |[],_,_=>rfl
 |(n,v)::r,m,h=>by
  unfold bindL;rw[BM λw hw=>h w (zi _ hw)];split
  · have:x≠n:=by rintro rfl;exact h v zt
    simp[this]
  ·rfl
theorem dN{xZ:Str->Option NameKind}{x:Str}:∀ {binds} {m:Str->Option zh},(∀v,(x,v)∉binds)->bindC xZ binds m x=m x
 |[],_,_=>rfl
 |(n,v)::r,m,h=>by
  unfold bindC;rw[dN λw hw=>h w (zi _ hw)];split
  ·rfl
  · have:x≠n:=by rintro rfl;exact h v zt
    simp[this]
theorem TR{xZ:Str->Option NameKind}{x:Str}{v:zh}:∀ {P:List Str} {vs:List zh} {i:Nat} {m},P.Nodup->P[i]? =some x->vs[i]? =some v->xZ x=some .local->
 bindL xZ (P.zip vs) m x=some v
 |[],_,_,_,_,h,_,_=>by simp at h
 |_::_, [],_,_,_,_,h,_=>by simp at h
 |p::P,w::vs,0,m,nd,h1,h2,hk=>by simp at h1 h2;subst h1;subst h2;show bindL xZ ((p,w)::P.zip vs) m p=_;unfold bindL;rw[BM λv hv=>(yV.mp nd).1 (XZ hv).1,if_pos hk];simp
 |p::P,w::vs,i+1,m,nd,h1,h2,hk=>by show bindL xZ ((p,w)::P.zip vs) m x=_;unfold bindL;exact TR (i:=i) (yV.mp nd).2 (by simpa using h1) (by simpa using h2) hk
theorem tQ{xZ:Str->Option NameKind}{x:Str}{v:zh}:∀ {P:List Str} {vs:List zh} {i:Nat} {m},P.Nodup->P[i]? =some x->vs[i]? =some v->xZ x≠some .local->
 bindC xZ (P.zip vs) m x=some v
 |[],_,_,_,_,h,_,_=>by simp at h
 |_::_, [],_,_,_,_,h,_=>by simp at h
 |p::P,w::vs,0,m,nd,h1,h2,hk=>by simp at h1 h2;subst h1;subst h2;show bindC xZ ((p,w)::P.zip vs) m p=_;unfold bindC;rw[dN λv hv=>(yV.mp nd).1 (XZ hv).1,if_neg hk];simp
 |p::P,w::vs,i+1,m,nd,h1,h2,hk=>by show bindC xZ ((p,w)::P.zip vs) m x=_;unfold bindC;exact tQ (i:=i) (yV.mp nd).2 (by simpa using h1) (by simpa using h2) hk
def start(N:List Str)(vs:List V):St:=vs.map some++jJ (N.length-vs.length) none
def C7(CX:CXT)(P:zS)(w:jg)(K:zj)(mg:Str->Option zh)(base:Heap)(N:List Str)(qual:Str)(scope:Scope)(f:Addr)(cd:zh)(A:jn)(outer:List Env)(s:zv)(H:Hp)(E:XK):Cx where
 prog:=P
 w:=w
 K:=K
 mg:=mg
 base:=base
 A:=A.deeper (Yt qual scope s.heap.objs.size f cd)
 N:=N
 WW:=s
 H₀:=H
 env:=Yt qual scope s.heap.objs.size f cd
 outer:=outer
 stack:=Yt qual scope s.heap.objs.size f cd::outer
 ex:= []
 calm:=true
 fn:=λ_=>true
 pn:= []
 xe:=λe s'=>zq (zC P w) (A.deeper (Yt qual scope s.heap.objs.size f cd)) (leaving (Yt qual scope s.heap.objs.size f cd) e) (λ_ s''=>CX outer H s E e s'') (λe' s''=>CX outer H s E e' s'') s'
theorem CL{sc:Scope}{x:Str}(h:sc.names.lookup x=some .cell):∃c,(cellsFrom n sc.names []).lookup x=some c:=by have q:=Jy sc.names n [] (.inl h);exact Jq.mp q
theorem wY{CX:CXT}{P:zS}{w:jg}{K:zj}{mg:Str->Option zh}{base:Heap}{N ps:List Str}{qual:Str}{scope:Scope}{f:Addr}{cd:zh}{A:jn}{outer:List Env}{s s1:zv}{H:Hp}{E:XK}{us:List zh}{vs:List V}
 (S:V2 N ps scope) (hd:A.handled=none) (gd:A.guards=some []) (e0:lG P w K mg base A outer s H) (hl:vs.length=ps.length) (r:m9 vs us)
 (x:InCallC s s.heap.objs.size (bindL (Yt qual scope s.heap.objs.size f cd).kindOf (ps.zip us) λ_=>none) (cellsFrom (s.heap.objs.size+1) scope.names []) (bindC (Yt qual scope s.heap.objs.size f cd).kindOf (ps.zip us) λ_=>none) s1):
 Inv (C7 CX P w K mg base N qual scope f cd A outer s H E) [] (start N vs) H s1:=by
 have nz:ps.length<=N.length:=by have:=congrArg xF S.pre;rw[jU]at this;lia
 obtain⟨h1,tk,rfl,hk⟩:=x.done;have noA:∀b:Addr,b∉(C7 CX P w K mg base N qual scope f cd A outer s H E).ex:=λb z=>absurd (show b∈([]:List Addr)from z) (by simp);refine⟨⟨e0.mod,S.kind,rfl,rfl,zg _,λy z c h1 h2=>?_,λy hy=>?_,λy c _ h=>?_,λ_=>hd,Around.frames_deeper e0.frames,.inr ⟨rfl,rfl⟩,λb z=>absurd z (noA b),e0.bs,e0.bsz,λb _ _=>noA b,λb z=>absurd z (noA b),e0.funs,e0.frf,gd⟩,
  rfl,e0.bare,Un.kept hk,⟨_,x.toInCall.ns,λi y v h1 h2 h3=>?_⟩,λy c h=>⟨_,x.cell y c h⟩,e0.hok.fresh (zg _),λy c h=>?_,λp hp=>absurd (show p∈([]:PNS)from hp) (by simp),e0.hok.kept hk,?_⟩
 ·exact name_of_addr x.apart (yY h1) (yY h2)
 · have hy:scope.names.lookup y=some .cell\/scope.names.lookup y=some .free:=hy;rcases hy with hy|hy
   ·exact CL hy
   ·exact absurd rfl (S.nofree _ (yY hy))
 ·exact xm (x.above y c (yY h))
 · have hi:i<vs.length:=by
    unfold start at h2;by_cases hi:i<vs.length
    ·exact hi
    ·rw[jP (by simpa using hi)]at h2;rw[JY]at h2;split at h2<;>cases h2
   have ha:vs[i]? =some v:=by
    unfold start at h2;rw[zE (by simpa using hi),jp]at h2
    cases e:vs[i]? with
    |none=>rw[e]at h2;cases h2
    |some a=>rw[e]at h2;cases h2;rfl
   obtain⟨u,hu,rv⟩:=r.get ha;have hp:ps[i]? =some y:=by rw[<-S.pre,JT (by lia)];exact h1
   have ndP:ps.Nodup:=by rw[<-S.pre];exact S.nd.sublist (List.take_sublist _ _)
   refine⟨u,rv,?_⟩;rcases S.par y (jB hp)with k|k
   ·exact .inl ⟨k,TR ndP hp hu k⟩
   ·obtain⟨c,e⟩:=CL (n:=s.heap.objs.size+1) k;refine .inr ⟨.inl k,c,e,?_⟩;have q:=x.cell y c e;rw[tQ ndP hp hu (by show scope.names.lookup y≠_;rw[k];decide)]at q;exact q
 ·exact e0.hok.fresh (xm (x.above y c (yY h)))
 ·unfold start;show _=N.length;rw[zd,zf,List.length_replicate];lia
theorem cY{CX:CXT}{P:zS}{w:jg}{K:zj}{mg:Str->Option zh}{base:Heap}{k:Nat}{f:Addr}{name qual:Str}{params:Arguments}{body:List Stmt}{scope:Scope}{dV kV doc pm mn ct oc:zh}{an od:Option Addr}
 {N ps:List Str} {sp:Sp} (lk:K.lookup f=some ⟨oc,od,.func (yH name qual params body scope dV kV doc pm an mn ct),osl⟩) (hcd:Zt K mn qual=true) (S:V2 N ps scope)
 (len:∀vs H Q E,sp vs H Q E->vs.length=ps.length)
 (hbody:∀(A:jn) (outer:List Env) (s:zv) (H:Hp) (vs:List V) (Q:VK) (E:XK),O3 k (A.deeper (Yt qual scope s.heap.objs.size f mn))->sp vs H Q E->
   ∃t,PSs (C7 CX P w K mg base N qual scope f mn A outer s H E) body t/\t {nx:=λ_ H'=>Q .non H',rt:=Q} (start N vs) H):
 E2 P w K mg base CX (k+1) f (yH name qual params body scope dV kV doc pm an mn ct) ps sp:=by
 refine⟨len,λA outer s H args us vs Q E hr e0 hb r hsp=>?_⟩;have hl:=len _ _ _ _ hsp;have KX:K.In s.heap:=e0.mod.kin.keeps λb o e=>(e0.bs b o e).1;have lim:s.heap.NoLimit:=e0.mod.nolimit.keeps λb o e=>(e0.bs b o e).1;have hkind:∀y∈ps.zip us,scope.names.lookup y.1=some .local\/(scope.names.lookup y.1=some .cell/\((cellsFrom (s.heap.objs.size+1) scope.names []).lookup y.1).isSome=true):=fun⟨n,v⟩ hy=>by
  rcases S.par n (XZ hy).1 with q|q
  ·exact .inl q
  ·exact .inr ⟨q,Jy _ _ _ (.inl q)⟩
 refine codeAny_call_function hr.depth (KX _ _ lk) rfl S.co S.gen rfl (PySem.W.codeRec_of KX hcd) (hb _ _ _ _ ?_);refine wpAny_newFunctionEnv_cells S.kind hkind λenv he s1 x=>?_;subst he;refine⟨lim.keeps x.toInCall.keep,codeAny_func ?_⟩;obtain⟨t,ht,hq⟩:=hbody A outer s H vs Q E (hr.deeper _) hsp;have I:Inv (C7 CX P w K mg base N qual scope f mn A outer s H E) [] (start N vs) H s1:=wY S hr.hd hr.gd e0 hl r x;refine jF (ht [] s1 (start N vs) H _ I hq) (λfl s' hs=>?_) λe s' hs=>hs;have fin:∀ {X1:St} {H':Hp} {v:V} {u:zh},Inv (C7 CX P w K mg base N qual scope f mn A outer s H E) [] X1 H' s'->t6 v u->Q v H'->CE outer P w H s Q u s':=
  λ{X1 H' v u} J rv q=>⟨v,H',J.os,J.bare,J.base,J.hok,rv,q⟩
 cases fl with
 |ret u=>
   obtain⟨v,X1,H',J,rv,q⟩:=hs;exact fin J rv q
 |next=>
   obtain⟨X1,H',J,q⟩:=hs;exact fin (v:=V.non) (u:=Value.none) J rfl q
 |brk=>
   obtain⟨_,_,_,q⟩:=hs;exact yc q
 |cont=>
   obtain⟨_,_,_,q⟩:=hs;exact yc q
section
variable{X:Cx}{x:Str}{p pos:Pos}{e:Expr}{es:List Expr}{t:TA}{id T:String}{r:List V->Hp->VK->Prop}
def tCB(r:List V->Hp->VK->Prop)(t:TA):TE:=λσ H Q=>t σ H λvs H1=>r vs H1 Q
theorem gS(hc:S9 X (.builtin id) r)(hg:Gl X x)(hm:X.mg x=none)(hv:je x=some (.builtin id))(ha:PA X (e::es) t)(hn:x≠ "__name__")(hdb:(x==("__debug__" :Str))=false)
 (he:zX (e::es) X.env= (false,eval e X.env)::zX es X.env) (nz:(xw pos (zX es X.env)).any (·.1)=false):PE X (.Call (.Name x p) (e::es) [] pos) (tCB r t):=by
 intro pins s σ H Q I h;refine yT (y9 I hg hm hv ?_ hn hdb);exact PyProof.Rows.callWith_builtin1 (thn (ha pos pins s σ H _ I h) λus s1 lu=>lu.elim λvs H1 I1 r1 q1=>hc pins s1 σ H1 vs us Q I1 r1 q1) he nz
theorem bx(hc:S9 X (.type T) r)(hg:Gl X x)(hm:X.mg x=none)(hv:je x=some (.type T))(ha:PA X (e::es) t)(hn:x≠ "__name__")(hdb:(x==("__debug__" :Str))=false)
 (he:zX (e::es) X.env= (false,eval e X.env)::zX es X.env) (nz:(xw pos (zX es X.env)).any (·.1)=false):PE X (.Call (.Name x p) (e::es) [] pos) (tCB r t):=by
 intro pins s σ H Q I h;refine yT (y9 I hg hm hv ?_ hn hdb);exact Zc (thn (ha pos pins s σ H _ I h) λus s1 lu=>lu.elim λvs H1 I1 r1 q1=>hc pins s1 σ H1 vs us Q I1 r1 q1) he nz
end
end L2
namespace HT
open PySem PyProof.Rows
section
open PySem.SeqAt
open PySem.AutoSeq1 (wpAny_loadPart')
open PySem.MeetsSeq PySem.MeetsSeq2 PySem.MeetsSeq3
end
section
theorem cat_tup(ht:YF s.heap t vs.toArray)(hb:YF s.heap b ws.toArray)(hv:vs≠ [])
 (h1:ws= []->Q (.ref t) s) (h2:ws≠ []->Q (.ref s.heap.objs.size) {s with heap:=s.heap.push {cls:=.type "tuple",data:=.seq (vs++ws).toArray}})
 (hsz:vs.length+ws.length<=zk):zq (zC prog w) A (yy .Add (.ref t) (.ref b)) Q E s:=by
 obtain⟨⟨cls,dd,data,sl⟩,ho,hc,n,hd⟩:=id ht;obtain⟨⟨cls2,dd2,data2,sl2⟩,mo,hc2,n2,hd2⟩:=id hb;simp only at hc hd hc2 hd2;subst hc hd hc2 hd2;have e:vs.toArray++ws.toArray= (vs++ws).toArray:=by simp
 by_cases hw:ws= []
 · exact concat_meets ⟨_,ho,rfl⟩ ⟨_,mo,rfl⟩ Jw seq_tuple_add ZY ZU (ZK _ _)
    (tuple_addW1 t b vs.toArray ws.toArray n n2 dd dd2 sl sl2 (by simpa using hv) (by simp[hw])) ⟨ho,mo,h1 hw⟩
 · refine concat_meets ⟨_,ho,rfl⟩ ⟨_,mo,rfl⟩ Jw seq_tuple_add ZY ZU (ZK _ _)
    (tuple_addW2 t b vs.toArray ws.toArray n n2 dd dd2 sl sl2 (by simpa using hv) (by simpa using hw) (by rw[zl,zl];exact hsz)) ⟨ho,mo,?_⟩
   rw[e];exact h2 hw
def sIx(n d:Nat):Option Int->Nat
 |none=>d
 |some v=>if v<0 then (v+(n:Int)).toNat else min v.toNat n
theorem sIx_none(n d:Nat):sIx n d none=d:=rfl
theorem sIx_nat(n d k:Nat):sIx n d (some (k:Int))=min k n:=by show (if (k:Int)<0 then ((k:Int)+(n:Int)).toNat else min (k:Int).toNat n)=min k n;rw[if_neg (by lia),yg]
theorem kh(n d:Nat)(hd:d<=n)(o:Option Int):sIx n d o<=n:=by
 cases o with
 |none=>exact hd
 |some v=>
   show (if v<0 then (v+(n:Int)).toNat else min v.toNat n)<=n;by_cases hv:v<0
   ·rw[if_pos hv];lia
   ·rw[if_neg hv];exact Nat.min_le_right _ _
theorem aL(v:Int)(n d:Nat):(if v<0 then max (v+(n:Int)) 0 else min v (n:Int))= ((sIx n d (some v):Nat):Int):=by
 show (if v<0 then max (v+(n:Int)) 0 else min v (n:Int))= (((if v<0 then (v+(n:Int)).toNat else min v.toNat n):Nat):Int);by_cases hv:v<0
 ·simp only[if_pos hv];lia
 ·simp only[if_neg hv];lia
theorem Np(lo hi:Option Int)(n:Nat):Zi lo hi 1 (n:Int)= (((sIx n 0 lo:Nat):Int),((sIx n n hi:Nat):Int)):=by
 have h1:¬((1:Int)<0):=by lia
 unfold Zi;simp only[h1,if_false];refine Prod.ext ?_ ?_
 · cases lo with
   |none=>rfl
   |some v=>exact aL v n 0
 · cases hi with
   |none=>rfl
   |some v=>exact aL v n n
theorem tW(i j:Nat):xo (i:Int) (j:Int) 1=j-i:=by
 unfold xo;have h1:(1:Int)>0:=by lia
 simp only[h1,if_true,Int.ediv_one];split<;>lia
theorem SO(p:IsPart v o)(h:Q o s):zq (zC prog w) A (Builtin.Slice.slicePartIndex v) Q E s:=by
 cases p with
 |none=>exact slicePart_none h
 |int i t=>exact slicePart_int h
theorem sliceApplied_gen{sl:Addr}{vl vu:zh}{lo hi:Option Int}{n:Nat}(hs:s.heap.IsSliceOf sl vl vu .none)(pl:IsPart vl lo)(pu:IsPart vu hi)
 (h:Q (((sIx n 0 lo:Nat):Int),1,sIx n n hi-sIx n 0 lo) s):zq (zC prog w) A (YZ (.ref sl) (pure (n:Int))) Q E s:=by
 obtain⟨os,hos,hcs,hds⟩:=id hs;unfold YZ Builtin.Slice.sliceFields;refine za (za (yq hos hds (x:=vl) rfl (za (yq hos hds (x:=vu) rfl (za (yq hos hds (x:=.none) rfl (ze ?_)))))));refine za (slicePart_none ?_);show zq _ _ (if ((1:Int)==0)=true then _ else _) _ _ s;rw[if_neg (by decide)];refine za (SO pl (za (SO pu (za (ze ?_)))));show zq _ _ (match Zi lo hi 1 (n:Int) with|(lo,hi)=>pure (lo,(1:Int),xo lo hi 1)) _ _ s;rw[Np lo hi n];show zq _ _ (pure (((sIx n 0 lo:Nat):Int),(1:Int),xo ((sIx n 0 lo:Nat):Int) ((sIx n n hi:Nat):Int) 1)) _ _ s;rw[tW];exact ze h
theorem fV(xs:Array zh)(i k:Nat):((zF k).filterMap fun(m:Nat)=>xs[((i:Int)+(m:Int)*1).toNat]?).toArray= ((xs.toList.drop i).take k).toArray:=by
 have e:(fun(m:Nat)=>xs[((i:Int)+(m:Int)*1).toNat]?)=λm=>xs[i+m]? :=by
  funext m;have:((i:Int)+(m:Int)*1).toNat=i+m:=by lia
  rw[this]
 rw[e];have:=pick_run xs i k;rw[yk]at this;have e2:((λx=>xs[x]?)∘λx=>i+x)=λm=>xs[i+m]? :=rfl;rw[e2]at this;rw[this]
theorem getItem_tuple_cut{t sl:Addr}{vl vu:zh}{lo hi:Option Int}(ht:YF s.heap t items)(hs:s.heap.IsSliceOf sl vl vu .none)(pl:IsPart vl lo)(pu:IsPart vu hi)
 (hw:¬(sIx items.size 0 lo=0/\sIx items.size items.size hi=items.size))
 (h:Q (.ref s.heap.objs.size) {s with heap:=s.heap.push {cls:=.type "tuple",data:=.seq ((items.toList.drop (sIx items.size 0 lo)).take (sIx items.size items.size hi-sIx items.size 0 lo)).toArray}})
 (hsz:items.size<=zk):zq (zC prog w) A (Je (.ref t) (.ref sl)) Q E s:=by
 have htake:sizeOk (.seq ((items.toList.drop (sIx items.size 0 lo)).take (sIx items.size items.size hi-sIx items.size 0 lo)).toArray):=by show ((items.toList.drop (sIx items.size 0 lo)).take (sIx items.size items.size hi-sIx items.size 0 lo)).toArray.size<=zk;rw[zl,jU,xf,zI];lia
 have hj:sIx items.size items.size hi<=items.size:=kh _ _ (zg _) hi;obtain⟨os,hos,hcs,hds⟩:=id hs;have hTs:s.TypeIs (.ref sl) "slice":=⟨os,hos,hcs⟩;unfold Je
 try with_reducible refine jy ?_
 first|refine za (ze ?_)|skip
 refine za (wpAny_sequenceKey ht.typeIs (by decide) ?_);refine za (jH (name:=jq "__getitem__") ht.typeIs jO
  (jK jO ht.typeIs entry_tuple_getitem ?_ (args_tuple_getitem _ _)))
 show zq _ _ (YY (.ref t) >>= _) _ _ s;refine za (tupleItemsOf_ ht ?_);refine za (xS hTs ?_);rw[if_pos (by decide)];refine za (sliceApplied_gen hs pl pu ?_);have hno:¬((((sIx items.size 0 lo:Nat):Int)==0&&(1:Int)==1&&(sIx items.size items.size hi-sIx items.size 0 lo)==items.size)=true):=by intro q;rw[jI,jI]at q;have q1:((sIx items.size 0 lo:Nat):Int)=0:=eq_of_beq q.1.1;have q2:sIx items.size items.size hi-sIx items.size 0 lo=items.size:=eq_of_beq q.2;exact hw ⟨by lia,by lia⟩
 show zq _ _ (if (((sIx items.size 0 lo:Nat):Int)==0&&(1:Int)==1&&(sIx items.size items.size hi-sIx items.size 0 lo)==items.size)=true then _ else _) _ _ s;rw[if_neg hno,fV]
 first
  |exact za (m:=xz _) (yI (ze ⟨_,rfl,ze h⟩) htake)
  |exact za (m:=xz _) (yI (za (ze (ze ⟨_,rfl,ze h⟩))) htake)
  |exact za (za (m:=xz _) (yI (ze (ze ⟨_,rfl,ze h⟩)) htake))
  |exact za (za (m:=xz _) (yI (ze ⟨_,rfl,ze h⟩) htake))
end
end HT
namespace L2
open PySem PySem.Spec PyProof.Rows
abbrev TO:=St->Hp->(Option Int->Hp->Prop)->Prop
def PO(X:Cx)(e:Option Expr)(t:TO):Prop:=
 ∀(pins:PNS) (s:zv) (σ:St) (H:Hp) (Q:Option Int->Hp->Prop),Inv X pins σ H s->t σ H Q->
  zq (zC X.prog X.w) X.A (evalPart e X.env) (λu s'=>∃o H',Inv X pins σ H' s'/\IsPart u o/\Q o H') X.xe s
def KS:TO:=λ_ H Q=>Q none H
def pX(t:TE):TO:=λσ H Q=>t σ H λx H1=>∃i,x= .int i/\Q (some i) H1
section
variable{X:Cx}{e:Expr}{te:TE}{lo hi:Option Expr}{tl th:TO}{pos p2:Pos}
theorem qm:PO X none KS:=by intro pins s σ H Q I h;rw[evalPart_none];exact ze ⟨none,H,I,.none,h⟩
theorem Rp(h:PE X e te):PO X (some e) (pX te):=by intro pins s σ H Q I hw;rw[evalPart_some];refine thn (h pins s σ H _ I hw) λu s1 lu=>lu.elim λx H1 I1 r1 q1=>?_;obtain⟨i,rfl,q⟩:=q1;obtain⟨t,rfl⟩:=r1;exact⟨some i,H1,I1,.int i t,q⟩
def SlR(X:Cx)(r:V->Option Int->Option Int->Hp->VK->Prop):Prop:=
 ∀(pins:PNS) (s:zv) (σ:St) (H:Hp) (x:V) (v vl vu:zh) (lo hi:Option Int) (sl:Addr) (Q:VK),Inv X pins σ H s->t6 x v->s.heap.IsSliceOf sl vl vu .none->IsPart vl lo->IsPart vu hi->r x lo hi H Q->
  ∃T id,typeLookup (.type T) "__getitem__" =pure (some (.builtin id))/\s.TypeIs v T/\zq (zC X.prog X.w) X.A (Je v (.ref sl)) (EP X pins σ Q) X.xe s
theorem SlR.or(h:SlR X r)(h':SlR X r'):SlR X (λx lo hi H Q=>r x lo hi H Q\/r' x lo hi H Q):=by
 intro pins s σ H x v vl vu lo hi sl Q I rx hs pl pu q;rcases q with q|q
 ·exact h pins s σ H x v vl vu lo hi sl Q I rx hs pl pu q
 ·exact h' pins s σ H x v vl vu lo hi sl Q I rx hs pl pu q
def tSl(r:V->Option Int->Option Int->Hp->VK->Prop)(te:TE)(tl th:TO):TE:=λσ H Q=>te σ H λx H1=>tl σ H1 λl H2=>th σ H2 λu H3=>r x l u H3 Q
theorem MZ(hr:SlR X r)(he:PE X e te)(hl:PO X lo tl)(hu:PO X hi th):PE X (.Subscript e (.Slice lo hi none p2) pos) (tSl r te tl th):=by intro pins s σ H Q I h;refine Subscript_ (thn (he pins s σ H _ I h) λv s1 lu=>lu.elim λx H1 I1 r1 q1=>?_);refine wpAny_Slice (thn (hl pins s1 σ H1 _ I1 q1) λvl s2 ⟨l,H2,I2,pl,q2⟩=>thn (hu pins s2 σ H2 _ I2 q2) λvu s3 ⟨u,H3,I3,pu,q3⟩=>?_);rw[evalPart_none];refine ze ?_;have I4:Inv X pins σ H3 {s3 with heap:=s3.heap.push {cls:=.type "slice",data:=.fields #[vl,vu,.none]}}:=I3.kept (t':=s3.toks) λb ob q=>zc _ q;obtain⟨T,id,hT,ht,hg⟩:=hr pins {s3 with heap:=s3.heap.push {cls:=.type "slice",data:=.fields #[vl,vu,.none]}} σ H3 x v vl vu l u s3.heap.objs.size Q I4 r1 (XV ..) pl pu q3;show zq (zC X.prog X.w) X.A (subscriptTail e (.Slice lo hi none p2) v (.ref s3.heap.objs.size)) (EP X pins σ Q) X.xe {s3 with heap:=s3.heap.push {cls:=.type "slice",data:=.fields #[vl,vu,.none]}};exact tail_any (ops:= [.ref s3.heap.objs.size,v]) ht hT hg (by with_unfolding_all rfl)
def y7(xs:List V)(lo hi:Option Int):List V:=(xs.drop (HT.sIx xs.length 0 lo)).take (HT.sIx xs.length xs.length hi-HT.sIx xs.length 0 lo)
theorem FO(xs:List V)(lo hi:Option Int):(y7 xs lo hi).length<=xs.length:=by unfold y7;rw[jU,xf];lia
def hZ(K:zj):V->Option Int->Option Int->Hp->VK->Prop:=λx lo hi H Q=>∃a xs,x= .ref a/\SqT K H a xs/\
 ¬(HT.sIx xs.length 0 lo=0/\HT.sIx xs.length xs.length hi=xs.length)/\∀p,H p=none->Q (.ref p) (upd H p (.tup (y7 xs lo hi)))
theorem sl_tup:SlR X (hZ X.K):=by
 intro pins s σ H x v vl vu lo hi sl Q I rx hs pl pu h;obtain⟨a,xs,rfl,hx,hw,q⟩:=h
 cases rx
 obtain⟨ka,r,ht,hz⟩:=I.tuple hx;have kl:ka.toArray.size=xs.length:=by rw[zl];exact r.length.symm
 refine⟨"tuple",_,jO.lookup,ht.typeIs,?_⟩;refine HT.getItem_tuple_cut ht hs pl pu (by rw[kl];exact hw) ?_ (by rw[kl];exact hz);rw[kl];refine⟨.ref s.heap.objs.size,_,I.laid (t':=s.toks) (o:=.tup (y7 xs lo hi)) (λb ob q=>zc _ q) (zg _) ?_,rfl,q _ (I.hok.fresh (zg _))⟩;exact⟨zQ (FO xs lo hi) hz,_,(r.drop (HT.sIx xs.length 0 lo)).take (HT.sIx xs.length xs.length hi-HT.sIx xs.length 0 lo),x5.new _ _⟩
def HV(K:zj):R2:=λx y H Q=>∃a b xs ys,x= .ref a/\y= .ref b/\SqT K H a xs/\SqT K H b ys/\xs≠ []/\xs.length+ys.length<=zk/\
 (ys= []->Q (.ref a) H)/\(ys≠ []->∀p,H p=none->Q (.ref p) (upd H p (.tup (xs++ys))))
theorem m9.nil_iff(r:m9 xs us):us= []↔xs= []:=by
 cases r with
 |nil=>simp
 |cons _ _=>simp
theorem oZ:OpR X (yy .Add) (HV X.K):=by
 intro pins s σ H x y v u Q I rx ry h;obtain⟨a,b,xs,ys,rfl,rfl,ha,hb,hx,hz,q1,q2⟩:=h
 cases rx
 cases ry
 obtain⟨ka,r1,p1,_⟩:=I.tuple ha;obtain⟨og,r2,p2,_⟩:=I.tuple hb;refine HT.cat_tup p1 p2 (λz=>hx (r1.nil_iff.mp z)) (λz=>⟨.ref a,H,I,rfl,q1 (r2.nil_iff.mp z)⟩) (λz=>?_) (by rw[<-r1.length,<-r2.length];exact hz);refine⟨.ref s.heap.objs.size,_,I.laid (t':=s.toks) (o:=.tup (xs++ys)) (λb ob q=>zc _ q) (zg _) ?_,rfl,q2 (λw=>z (r2.nil_iff.mpr w)) _ (I.hok.fresh (zg _))⟩;exact⟨by rw[zd];exact hz,_,r1.append r2,x5.new _ _⟩
end
def ixN(n:Nat)(i:Int):Option Nat:=if 0<=i then (if i<n then some i.toNat else none)else if -(n:Int)<=i then some (i+n).toNat else none
def atI{α:Type}(xs:List α)(i:Int):Option α:=(ixN xs.length i).bind λj=>xs[j]?
theorem OM(h:ixN n i=some j):seqIndex? i n=some j/\j<n/\ -(n:Int)<=i/\i<n:=by
 unfold ixN at h;by_cases h0:0<=i
 · rw[if_pos h0]at h;by_cases h1:i<n
   ·rw[if_pos h1]at h;have e:i.toNat=j:=jr h;exact⟨by rw[seqIndex_of h0 h1,e],by lia,by lia,h1⟩
   ·rw[if_neg h1]at h;cases h
 · rw[if_neg h0]at h;by_cases h1: -(n:Int)<=i
   ·rw[if_pos h1]at h;have e:(i+n).toNat=j:=jr h;exact⟨by rw[seqIndex_neg (by lia) h1,e],by lia,h1,by lia⟩
   ·rw[if_neg h1]at h;cases h
theorem TH(h:atI xs i=some v):∃j,seqIndex? i xs.length=some j/\xs[j]? =some v/\j<xs.length/\ -(xs.length:Int)<=i/\i<xs.length:=by
 unfold atI at h
 cases e:ixN xs.length i with
 |none=>rw[e]at h;cases h
 |some j=>
   rw[e]at h;obtain⟨h1,h2,h3,h4⟩:=OM e;exact⟨j,h1,h,h2,h3,h4⟩
theorem atI_nat{xs:List α}{j:Nat}{v:α}(h:xs[j]? =some v):atI xs (j:Int)=some v:=by
 have hj:j<xs.length:=(yS.mp h).1;have e:ixN xs.length (j:Int)=some j:=by unfold ixN;rw[if_pos (by lia),if_pos (by lia)];simp
 unfold atI;rw[e];exact h
theorem iO(xs:List α)(v:α):atI (xs++[v]) (-1)=some v:=by
 have hl:(xs++[v]).length=xs.length+1:=by simp
 have e:ixN (xs++[v]).length (-1)=some xs.length:=by unfold ixN;rw[hl,if_neg (by decide),if_pos (by lia)];congr 1;lia
 unfold atI;rw[e];show (xs++[v])[xs.length]? =some v;simp
def gD(b:Expr):Prop:=∀o i,subscripted b false o i=operate [o,i] (Je o i)
def IxR(X:Cx)(r:R2):Prop:=
 ∀(value slice:Expr) (pins:PNS) (s:zv) (σ:St) (H:Hp) (x y:V) (v u:zh) (Q:VK),Inv X pins σ H s->t6 x v->t6 y u->r x y H Q->
  subscripted slice false v u=operate [v,u] (Je v u)->zq (zC X.prog X.w) X.A (subscriptTail value slice v u) (EP X pins σ Q) X.xe s
def MtR(X:Cx)(id:String)(r:V->List V->Hp->VK->Prop):Prop:=
 ∀(pins:PNS) (s:zv) (σ:St) (H:Hp) (x:V) (xs:List V) (v:zh) (us:List zh) (Q:VK),Inv X pins σ H s->t6 x v->m9 xs us->r x xs H Q->
  zq (zC X.prog X.w) X.A (call (.builtin id) (v::us)) (EP X pins σ Q) X.xe s
section
variable{X:Cx}
theorem IxR.or(h:IxR X r)(h':IxR X r'):IxR X (λx y H Q=>r x y H Q\/r' x y H Q):=by
 intro value slice pins s σ H x y v u Q I rx ry q hs;rcases q with q|q
 ·exact h value slice pins s σ H x y v u Q I rx ry q hs
 ·exact h' value slice pins s σ H x y v u Q I rx ry q hs
theorem EU(hr:IxR X r)(ha:PE X a ta)(hb:PE X b tb)(hs:gD b):PE X (.Subscript a b pos) (tOp r ta tb):=by intro pins s σ H Q I h;exact Subscript_ (dH ha hb I h λv u s2 x y H2 I2 rx ry q=>hr a b pins s2 σ H2 x y v u Q I2 rx ry q (hs _ _))
def bV(K:zj):R2:=λx y H Q=>∃p xs i v,x= .ref p/\y= .int i/\SqL K H p xs/\atI xs i=some v/\Q v H
def Nm(K:zj):R2:=λx y H Q=>∃p xs i v,x= .ref p/\y= .int i/\SqT K H p xs/\atI xs i=some v/\Q v H
def FY:R2:=λx y H Q=>∃z i c,x= .str z/\y= .int i/\z.length<=zk/\atI z.cps.toList i=some c/\Q (.str ⟨#[c]⟩) H
theorem br:IxR X (bV X.K):=by
 intro value slice pins s σ H x y v u Q I rx ry h hs;obtain⟨p,xs,i,z,rfl,rfl,hq,he,q⟩:=h
 cases rx
 obtain⟨t,rfl⟩:=ry;obtain⟨ka,r,pl,hz⟩:=I.list hq;obtain⟨j,h1,h2,h3,h4,h5⟩:=TH he;obtain⟨w,ew,rw'⟩:=r.get h2;have hl:=r.length;have hn:=LA;have fin:EP X pins σ Q w s:=⟨z,H,I,rw',q⟩;by_cases h0:0<=i
 · have hj:i.toNat=j:=by
    rw[seqIndex_of h0 h5]at h1;exact jr h1
   exact item_listR pl.isList h0 (by lia) (by rw[hj];simpa using ew) fin hs
 · have hj:(i+(ka.toArray.size:Int)).toNat=j:=by
    rw[seqIndex_neg (by lia) h4]at h1;rw[zl,<-hl];exact jr h1
   exact Zj (x:=w) pl.isList.typeIs Jc.lookup
    (wpAny_getItem_list_neg (Q:=λr s'=>r=w/\EP X pins σ Q r s') pl.isList (by lia) (by rw[zl]<;>lia) (by lia) (by rw[hj];simpa using ew) ⟨rfl,fin⟩) hs
theorem ix_tup:IxR X (Nm X.K):=by
 intro value slice pins s σ H x y v u Q I rx ry h hs;obtain⟨p,xs,i,z,rfl,rfl,hq,he,q⟩:=h
 cases rx
 obtain⟨t,rfl⟩:=ry;obtain⟨ka,r,pl,hz⟩:=I.tuple hq;obtain⟨j,h1,h2,h3,h4,h5⟩:=TH he;obtain⟨w,ew,rw'⟩:=r.get h2;have hl:=r.length;have hn:=LA;have fin:EP X pins σ Q w s:=⟨z,H,I,rw',q⟩;exact Zj (x:=w) pl.typeIs jO.lookup
  (getItem_tuple (j:=j) (Q:=λr s'=>r=w/\EP X pins σ Q r s') pl (by lia) (by lia) (by rw[zl,<-hl];exact h1) (by simpa using ew) ⟨rfl,fin⟩) hs
theorem GY:IxR X FY:=by
 intro value slice pins s σ H x y v u Q I rx ry h hs;obtain⟨z,i,c,rfl,rfl,hz,he,q⟩:=h;obtain⟨t,rfl⟩:=rx;obtain⟨t',rfl⟩:=ry;obtain⟨j,h1,h2,h3,h4,h5⟩:=TH he;have hl:z.cps.toList.length=z.length:=by simp[Str.length]
 rw[hl]at h1 h4 h5;have hn:=LA;exact tail_any (typeIs_str s z t) slot_str_getitem.lookup (getItem_str (c:=c) (by have e1:decide (i < -(2 ^ 63:Int))=false:=decide_eq_false (by lia);have e2:decide (i>=2 ^ 63)=false:=decide_eq_false (by lia);rw[e1,e2,jw]) (by rw[h1];simpa using h2) ⟨.str ⟨#[c]⟩,H,I.tok _,⟨_,rfl⟩,q⟩) hs
theorem fZ(ka:List zh)(n j:Nat)(u:zh):zT (·.setIfInBounds j u) {cls:=.type "list",data:=.seq ka.toArray n}= {cls:=.type "list",data:=.seq (ka.set j u).toArray n}:=by simp[zT]
theorem Inv.lst(I:Inv X pins σ H s)(h:H p=some (.lst xs)):
 ∃(ka:List zh) (n:Nat),m9 xs ka/\s.heap.get? p=some {cls:=.type "list",data:=.seq ka.toArray n}/\xs.length<=zk:=by
 obtain⟨z,ka,n,r,e⟩:=I.hok p _ h;exact⟨ka,n,r,e,z⟩
theorem Inv.lstUpd{σ:St}{H:Hp}{s:zv}{p:Addr}{xs ys:List V}{ka its':List zh}{n n':Nat}{f:Obj->Obj}(I:Inv X pins σ H s)(h:H p=some (.lst xs))
 (ho:s.heap.get? p=some {cls:=.type "list",data:=.seq ka.toArray n}) (hf:f {cls:=.type "list",data:=.seq ka.toArray n}= {cls:=.type "list",data:=.seq its'.toArray n'}) (r:m9 ys its') (hz:ys.length<=zk) (t:Nat):
 Inv X pins σ (upd H p (.lst ys)) {s with heap:=s.heap.update p f,toks:=t}:=by
 have e:(s.heap.update p f).get? p=some {cls:=.type "list",data:=.seq its'.toArray n'}:=by rw[xt f ho (by rw[hf]<;>rfl),hf]
 refine I.write (x:=p) (e:=p) (by rw[h];trivial) (.inl rfl) (λb u hb q=>(yJ _ _ (Ne.symm hb)).trans q) ⟨_,e⟩ ?_;exact⟨hz,its',n',r,e⟩
def wU:V->V->V->Hp->(Hp->Prop)->Prop:=λo i v H Q=>∃p xs k j,o= .ref p/\i= .int k/\H p=some (.lst xs)/\ixN xs.length k=some j/\Q (upd H p (.lst (xs.set j v)))
theorem Sf:dJ X wU:=by
 intro pins s σ H o i v ov iv u Q I ro ri rv h;obtain⟨p,xs,k,j,rfl,rfl,hp,hj,q⟩:=h
 cases ro
 obtain⟨t,rfl⟩:=ri;obtain⟨ka,n,r,ho,hz⟩:=I.lst hp;obtain⟨h1,h2,h3,h4⟩:=OM hj;have hl:=r.length;have hn:=LA;have I':Inv X pins σ (upd H p (.lst (xs.set j v))) {s with heap:=s.heap.update p (zT (·.setIfInBounds j u))}:=
  I.lstUpd hp ho (fZ ka n j u) (r.set rv j) (by rw[xp];exact hz) s.toks
 by_cases h0:0<=k
 · have hk:k.toNat=j:=by
    rw[seqIndex_of h0 h4]at h1;exact jr h1
   exact PySem.W.ki_setAt ho h0 (by lia) (by rw[zl,<-hl];exact h4) (by rw[hk];exact⟨_,I',q⟩)
 · have hk:(k+(ka.toArray.size:Int)).toNat=j:=by
    rw[seqIndex_neg (by lia) h3]at h1;rw[zl,<-hl];exact jr h1
   exact PySem.W.ki_setBack ho (by lia) (by rw[zl,<-hl];exact h3) (by lia) (by rw[hk];exact⟨_,I',q⟩)
theorem Pv(lo hi:Option Int)(n:Nat):(yR lo hi none n).1= ((HT.sIx n 0 lo:Nat):Int)/\(yR lo hi none n).2.1= ((HT.sIx n n hi:Nat):Int)/\(yR lo hi none n).2.2=1:=by
 refine⟨?_,?_,rfl⟩
 · cases lo with
   |none=>simp[yR,HT.sIx]
   |some i=>
     simp only[yR,HT.sIx,Option.getD_none,show (1:Int)>0 by decide,if_true];by_cases h:i<0
     ·simp only[h,if_true]<;>lia
     ·simp only[h,if_false]<;>lia
 · cases hi with
   |none=>simp[yR,HT.sIx]
   |some i=>
     simp only[yR,HT.sIx,Option.getD_none,show (1:Int)>0 by decide,if_true];by_cases h:i<0
     ·simp only[h,if_true]<;>lia
     ·simp only[h,if_false]<;>lia
theorem Bz(ka:List zh)(lo hi:Option Int):slicePick ka.toArray lo hi none= ((ka.drop (HT.sIx ka.length 0 lo)).take (HT.sIx ka.length ka.length hi-HT.sIx ka.length 0 lo)).toArray:=by obtain⟨h1,h2,h3⟩:=Pv lo hi ka.toArray.size;unfold slicePick;rw[h1,h2,h3];simp only[sliceRange_one,pick_run,zl]<;>rfl
def kZ(K:zj):V->Option Int->Option Int->Hp->VK->Prop:=λx lo hi H Q=>∃a xs,x= .ref a/\SqL K H a xs/\∀p,H p=none->Q (.ref p) (upd H p (.lst (y7 xs lo hi)))
theorem cW:SlR X (kZ X.K):=by
 intro pins s σ H x v vl vu lo hi sl Q I rx hs pl pu h;obtain⟨a,xs,rfl,hx,q⟩:=h
 cases rx
 obtain⟨ka,r,ht,hz⟩:=I.list hx;have kl:=r.length;refine⟨"list",_,Jc.lookup,ht.isList.typeIs,?_⟩;refine wpAny_getItem_list_slice ht.isList hs pl pu .none (by simp) ?_ (by rw[zl]<;>lia);rw[Bz,<-kl];refine⟨.ref s.heap.objs.size,_,I.laid (t':=s.toks) (o:=.lst (y7 xs lo hi)) (λb ob q=>zc _ q) (zg _) ?_,rfl,q _ (I.hok.fresh (zg _))⟩;exact⟨zQ (FO xs lo hi) hz,_,0,(r.drop (HT.sIx xs.length 0 lo)).take (HT.sIx xs.length xs.length hi-HT.sIx xs.length 0 lo),zp _ rfl⟩
def f7:V->Bool
 | .non=>true
 | .bl _=>true
 | .int _=>true
 | .str _=>true
 |_=>false
def eqV:V->V->Bool
 | .non,.non=>true
 | .bl a,.bl b=>a==b
 | .bl a,.int b=>(if a then 1 else 0)==b
 | .int a,.bl b=>a==(if b then 1 else 0)
 | .int a,.int b=>a==b
 | .str a,.str b=>a==b
 |_,_=>false
theorem LZ(ry:t6 y u)(rx:t6 x v)(fy:f7 y=true)(fx:f7 x=true):yb A s u v (eqV y x):=by
 cases y with
 |non=>
   cases ry
   cases x with
   |non=>cases rx;exact Xd _
   |bl b=>cases rx;exact Jl b
   |int b=>obtain⟨t,rfl⟩:=rx;exact JD b t
   |str b=>obtain⟨t,rfl⟩:=rx;exact JC b t
   |_=>exact absurd (show false=true from fx) zN
 |bl a=>
   cases ry
   cases x with
   |non=>cases rx;exact Jm a
   |bl b=>cases rx;exact Jn a b
   |int b=>obtain⟨t,rfl⟩:=rx;exact JH a b t
   |str b=>obtain⟨t,rfl⟩:=rx;exact JG a b t
   |_=>exact absurd (show false=true from fx) zN
 |int a=>
   obtain⟨t',rfl⟩:=ry
   cases x with
   |non=>cases rx;exact JE a t'
   |bl b=>cases rx;exact JF a t' b
   |int b=>obtain⟨t,rfl⟩:=rx;exact JO a t' b t
   |str b=>obtain⟨t,rfl⟩:=rx;exact Yx a t' b t
   |_=>exact absurd (show false=true from fx) zN
 |str a=>
   obtain⟨t',rfl⟩:=ry
   cases x with
   |non=>cases rx;exact Jz a t'
   |bl b=>cases rx;exact JA a t' b
   |int b=>obtain⟨t,rfl⟩:=rx;exact Yw a t' b t
   |str b=>obtain⟨t,rfl⟩:=rx;exact JN a t' b t
   |_=>exact absurd (show false=true from fx) zN
 |_=>exact absurd (show false=true from fy) zN
def eqU(x:V)(u:zh):Bool:=match u with
 | .none=>eqV .non x
 | .bool b=>eqV (.bl b) x
 | .int i _=>eqV (.int i) x
 | .str z _=>eqV (.str z) x
 |_=>false
theorem nR(r:t6 y u)(f:f7 y=true):eqU x u=eqV y x:=by
 cases y with
 |non=>cases r;rfl
 |bl b=>cases r;rfl
 |int i=>obtain⟨t,rfl⟩:=r;rfl
 |str z=>obtain⟨t,rfl⟩:=r;rfl
 |_=>exact absurd (show false=true from f) zN
theorem nG(h:m9 xs us)(f:xs.all f7=true):us.any (eqU x)=xs.any λy=>eqV y x:=by
 induction h with
 |nil=>rfl
 |cons r t ih=>
   rw[jL,jI]at f;rw[jj,jj,nR r f.1,ih f.2]
theorem oD(rx:t6 x v)(fx:f7 x=true):∀ {xs} {us},m9 xs us->xs.all f7=true->∀u∈us,yb A s u v (eqU x u)
 |_,_,.nil,_=>λu hu=>by cases hu
 |y::xs,u::us,.cons r t,f=>λu' hu=>by
   rw[jL,jI]at f;rcases zu.mp hu with rfl|hu
   ·rw[nR r f.1];exact LZ r rx f.1 fx
   ·exact oD rx fx t f.2 u' hu
def inV(x:V)(xs:List V):Bool:=xs.any λy=>eqV y x
def rIn(K:zj)(neg:Bool):R2:=λx y H Q=>∃p xs,y= .ref p/\(SqL K H p xs\/SqT K H p xs)/\f7 x=true/\xs.all f7=true/\Q (.bl (if neg then !inV x xs else inV x xs)) H
theorem Qz:OpR X (zZ .In) (rIn X.K false):=by
 intro pins s σ H x y v u Q I rx ry h;obtain⟨p,xs,rfl,hq,fx,fs,q⟩:=h
 cases ry
 rcases hq with hq|hq
 ·obtain⟨ka,r,pl,hz⟩:=I.list hq;refine SeqAt.in_listAt (eqU x) pl.isList (λw hw=>oD rx fx r fs w (by simpa using hw)) ⟨.bl _,H,I,rfl,?_⟩;rw[show ka.toArray.any (eqU x)=ka.any (eqU x) by simp,nG r fs];exact q
 ·obtain⟨ka,r,pl,hz⟩:=I.tuple hq;refine SeqAt.in_tupleAt (eqU x) pl (λw hw=>oD rx fx r fs w (by simpa using hw)) ⟨.bl _,H,I,rfl,?_⟩;rw[show ka.toArray.any (eqU x)=ka.any (eqU x) by simp,nG r fs];exact q
theorem Hb:OpR X (zZ .NotIn) (rIn X.K true):=by
 intro pins s σ H x y v u Q I rx ry h;obtain⟨p,xs,rfl,hq,fx,fs,q⟩:=h
 cases ry
 rcases hq with hq|hq
 ·obtain⟨ka,r,pl,hz⟩:=I.list hq;refine SeqAt.notIn_listAt (eqU x) pl.isList (λw hw=>oD rx fx r fs w (by simpa using hw)) ⟨.bl _,H,I,rfl,?_⟩;rw[show ka.toArray.any (eqU x)=ka.any (eqU x) by simp,nG r fs];exact q
 ·obtain⟨ka,r,pl,hz⟩:=I.tuple hq;refine SeqAt.notIn_tupleAt (eqU x) pl (λw hw=>oD rx fx r fs w (by simpa using hw)) ⟨.bl _,H,I,rfl,?_⟩;rw[show ka.toArray.any (eqU x)=ka.any (eqU x) by simp,nG r fs];exact q
theorem Bp:OpR X (zZ .NotIn) (λx y H Q=>∃i j,x= .str i/\y= .str j/\Q (.bl (!(!(Zw j i 0 j.length 1).isEmpty))) H):=by intro pins s σ H x y v u Q I rx ry h;obtain⟨i,j,rfl,rfl,q⟩:=h;obtain⟨t,rfl⟩:=rx;obtain⟨t',rfl⟩:=ry;exact notIn_str ⟨.bl _,H,I,rfl,q⟩
theorem Kh:S9 X (.builtin "len") (λxs H Q=>∃p ys,xs= [.ref p]/\(SqL X.K H p ys\/SqT X.K H p ys)/\Q (.int ys.length) H):=by
 intro pins s σ H xs us Q I r h;obtain⟨p,ys,rfl,hq,q⟩:=h;obtain⟨u,rfl,rx⟩:=C3 r
 cases rx
 have hn:=LA;rcases hq with hq|hq
 ·obtain⟨ka,r',pl,hz⟩:=I.list hq;have kl:=r'.length;exact Calls.call_len_list pl.isList (by simp only[zl]<;>lia) ⟨.int ys.length,H,I.tok _,⟨s.toks+1,by rw[zl,kl]⟩,q⟩
 ·obtain⟨ka,r',pl,hz⟩:=I.tuple hq;have kl:=r'.length;exact len_tuple pl (by simp only[zl]<;>lia) ⟨.int ys.length,H,I.tok _,⟨s.toks+1,by rw[zl,kl]⟩,q⟩
theorem PY:S9 X (.builtin "len") (λxs H Q=>∃z,xs= [.str z]/\z.length<=zk/\Q (.int z.length) H):=by intro pins s σ H xs us Q I r h;obtain⟨z,rfl,hz,q⟩:=h;obtain⟨u,rfl,t,rfl⟩:=C3 r;have hn:=LA;exact len_str (by lia) ⟨.int z.length,H,I.tok _,⟨_,rfl⟩,q⟩
theorem S9.or(h:S9 X f r)(h':S9 X f r'):S9 X f (λxs H Q=>r xs H Q\/r' xs H Q):=by
 intro pins s σ H xs us Q I rs q;rcases q with q|q
 ·exact h pins s σ H xs us Q I rs q
 ·exact h' pins s σ H xs us Q I rs q
theorem sW:S9 X (.type "list") (λxs H Q=>∃p ys,xs= [.ref p]/\(SqL X.K H p ys\/SqT X.K H p ys)/\∀l,H l=none->Q (.ref l) (upd H l (.lst ys))):=by
 intro pins s σ H xs us Q I r h;obtain⟨p,ys,rfl,hq,q⟩:=h;obtain⟨u,rfl,rx⟩:=C3 r
 cases rx
 have fin:∀(ka:List zh),m9 ys ka->ys.length<=zk->∀(h':Heap) (c':Nat),(∀b o',s.heap.get? b=some o'->h'.get? b=some o')->
  h'.get? s.heap.objs.size=some {cls:=.type "list",dict:=none,data:=.seq ka.toArray c',slots:= #[]}->EP X pins σ Q (.ref s.heap.objs.size) {s with heap:=h'}:=λka r' hz h' c' kp e=>
  ⟨.ref s.heap.objs.size,_,I.laid (t':=s.toks) kp (zg _) (show N7 X.prog X.w _ h' _ (.lst ys) from⟨hz,ka,c',r',e⟩),rfl,q _ (I.hok.fresh (zg _))⟩
 rcases hq with hq|hq
 ·obtain⟨ka,r',pl,hz⟩:=I.list hq;have kl:=r'.length;obtain⟨o,ho,hc,n,hd⟩:=pl.isList;exact call_list_seq p (.inl rfl) ho hc hd (λh' c' kp e=>fin ka r' hz h' c' kp e) (by simp only[zl]<;>lia)
 ·obtain⟨ka,r',pl,hz⟩:=I.tuple hq;have kl:=r'.length;obtain⟨o,ho,hc,n,hd⟩:=pl;exact call_list_seq p (.inr rfl) ho hc hd (λh' c' kp e=>fin ka r' hz h' c' kp e) (by simp only[zl]<;>lia)
theorem Wg:S9 X (.type "tuple") (λxs H Q=>∃p ys,xs= [.ref p]/\((SqL X.K H p ys/\∀l,H l=none->Q (.ref l) (upd H l (.tup ys)))\/(SqT X.K H p ys/\Q (.ref p) H))):=by
 intro pins s σ H xs us Q I r h;obtain⟨p,ys,rfl,h⟩:=h;obtain⟨u,rfl,rx⟩:=C3 r
 cases rx
 rcases h with⟨hq,q⟩|⟨hq,q⟩
 · obtain⟨ka,r',pl,hz⟩:=I.list hq;have kl:=r'.length;refine call_tuple_list pl.isList (λh' kp=>?_) (by simp only[zl]<;>lia);have I1:Inv X pins σ H {s with heap:=h'}:=I.kept (t':=s.toks) kp;have I2:Inv X pins σ (upd H h'.objs.size (.tup ys)) {s with heap:=h'.push {cls:=.type "tuple",data:=.seq ka.toArray}}:=
    I1.laid (t':=s.toks) (λb o e=>zc _ e) (zg _) (show N7 X.prog X.w _ _ _ (.tup ys) from⟨hz,ka,r',x5.new _ _⟩)
   exact⟨.ref h'.objs.size,_,I2,rfl,q _ (I1.hok.fresh (zg _))⟩
 ·obtain⟨ka,r',pl,hz⟩:=I.tuple hq;exact call_tuple_same pl ⟨.ref p,H,I,rfl,q⟩
def tyV(K:zj)(T:String)(x:V)(H:Hp):Prop:=match x with
 | .str _=>T= "str"
 | .int _=>T= "int"
 | .ref p=>(T= "list"/\∃xs,SqL K H p xs)\/(T= "tuple"/\∃o,K.lookup p=some o/\o.cls= .type "tuple"/\o.dict=none)\/
    (T= "dict"/\((∃iz,H p=some (.dK iz))\/∃iz,H p=some (.dT iz)))\/(T= "set"/\∃S n,H p=some (.set S n))
 |_=>False
theorem Ld(I:Inv X pins σ H s)(r:t6 x v)(ty:tyV X.K T x H):
 s.TypeIs v T/\∀a,v= .ref a->∃ob,s.heap.get? a=some ob/\ob.dict=none:=by
 cases x with
 |str z=>
   obtain⟨t,rfl⟩:=r
   cases (show T= "str" from ty)
   exact⟨typeIs_str s z t,λ_ e=>nomatch e⟩
 |int i=>
   obtain⟨t,rfl⟩:=r
   cases (show T= "int" from ty)
   exact⟨typeIs_int s i t,λ_ e=>nomatch e⟩
 |ref p=>
   cases r
   rcases ty with⟨rfl,xs,hq⟩|⟨rfl,o,hk,hc,hd⟩|⟨rfl,hk⟩|⟨rfl,S,n,hk⟩
   · obtain⟨ka,_,pl,_⟩:=I.list hq;refine⟨pl.isList.typeIs,λa e=>?_⟩
     cases e
     obtain⟨o,n,e,c,hd,_⟩:=pl;exact⟨o,e,hd⟩
   · refine⟨⟨o,I.kIn p o hk,hc⟩,λa e=>?_⟩
     cases e
     exact⟨o,I.kIn _ o hk,hd⟩
   · have z:∃o,s.heap.get? p=some o/\o.ExactDict:=by
      rcases hk with⟨iz,hk⟩|⟨iz,hk⟩
      ·obtain⟨_,_,_,_,o,_,_,e,ex,_⟩:=I.hok p _ hk;exact⟨o,e,ex⟩
      ·obtain⟨_,_,_,_,o,_,_,e,ex,_⟩:=I.hok p _ hk;exact⟨o,e,ex⟩
     obtain⟨o,e,ex⟩:=z;refine⟨⟨o,e,ex.1⟩,λa e2=>?_⟩
     cases e2
     exact⟨o,e,ex.2.1⟩
   · obtain⟨o,_,_,_,e,ex,_⟩:=I.hok p _ hk;refine⟨⟨o,e,ex.1⟩,λa e2=>?_⟩
     cases e2
     exact⟨o,e,ex.2.1⟩
 |_=>exact yc ty
def tBM(K:zj)(T:String)(r:V->List V->Hp->VK->Prop)(to:TE)(t:TA):TE:=λσ H Q=>to σ H λx H1=>tyV K T x H1/\t σ H1 λxs H2=>r x xs H2 Q
variable{o e:Expr}{es:List Expr}{to:TE}{t:TA}{name:Str}{mw lg:Pos}{T id:String}{r:V->List V->Hp->VK->Prop}
theorem tL(pa:PlainAttrs T)(slot:Slot T name id)(hty:typeOf (.builtin id)=pure (.type "method_descriptor"))(hm:MtR X id r)(ho:PE X o to)(ha:PA X (e::es) t)
 (hbase:Yq o name X.env (eval o X.env)=eval o X.env)
 (hfew:((xw lg (zX (e::es) X.env)).all (λx=> !x.1)&&(Jf lg (Yi [] X.env)).all (λx=>x.1.isSome)
   && decide ((e::es).length+([]:List Keyword).length+(if ([]:List Keyword).isEmpty then 0 else 1)<30))=true)
 (hline:(mw.endLine==lg.line)=true) (hs:zX (e::es) X.env= (false,eval e X.env)::zX es X.env) (ni:(xw lg (zX es X.env)).any (·.1)=false):
 PE X (.Call (.Attribute o name mw) (e::es) [] lg) (tBM X.K T r to t):=by
 intro pins s σ H Q I h;refine wpAny_Call_method_late hbase hfew hline rfl (thn (ho pins s σ H _ I h) λv s1 ⟨x,H1,I1,r1,ty,q1⟩=>?_);obtain⟨h1,h2⟩:=Ld I1 r1 ty;refine⟨T,id,pa,slot,hty,h1,h2,?_⟩;have hA:=ha lg pins s1 σ H1 _ I1 q1;rw[hs]at hA ⊢;refine Calls.callWith_builtin (by show (false||(xw lg (zX es X.env)).any (·.1))=false;rw[ni]<;>rfl) (Calls.evalArgs_plain ?_);exact thn hA λus s2 lu=>lu.elim λvs H2 I2 r2 q2=>hm pins s2 σ H2 x vs v us Q I2 r1 r2 q2
end
def MtM(X:Cx)(id:String)(r:V->List V->Hp->VK->Prop):Prop:=
 ∀(pins:PNS) (s:zv) (σ:St) (H:Hp) (x:V) (xs:List V) (v:zh) (us:List zh) (Q:VK),Inv X pins σ H s->t6 x v->m9 xs us->r x xs H Q->
  zq (zC X.prog X.w) X.A (call (.builtin id) (v::us)) (EP X pins σ Q) X.xe s
theorem m9.one(h:m9 [x] us):∃u,us= [u]/\t6 x u:=by
 cases h with
 |cons r t=>cases t;exact⟨_,rfl,r⟩
theorem m9.eraseIdx:∀ {xs} {us} i,m9 xs us->m9 (xs.eraseIdx i) (us.eraseIdx i)
 |_,_,_,.nil=>.nil
 |_,_,0,.cons _ t=>t
 |_,_,i+1,.cons r t=>.cons r (m9.eraseIdx i t)
theorem UN:∀(l:List α) (i:Nat),(l.eraseIdx i).length<=l.length
 |[],_=>zg _
 |_::_,0=>YN _
 |_::r,i+1=>Zk (UN r i)
section
theorem Inv.lset{ka its':List zh}{n:Nat}{t':Nat}(I:Inv X pins σ H s)(hH:H l=some (.lst xs))
 (e:s.heap.get? l=some {cls:=.type "list",data:=.seq ka.toArray n}) (hf:f ka.toArray=its'.toArray) (hv:m9 ys its') (hz:ys.length<=zk):
 Inv X pins σ (upd H l (.lst ys)) {s with heap:=s.heap.update l (zT f),toks:=t'}:=by
 have q:=PySem.IsL.update e f;rw[hf]at q;refine I.write (x:=l) (e:=l) (by rw[hH];exact trivial) (.inl rfl) (λb' u hb hu=>(yJ s.heap (zT f) (Ne.symm hb)).trans hu) ⟨_,q⟩ ?_;exact⟨hz,its',_,hv,q⟩
theorem Inv.lnew(I:Inv X pins σ H s)(hv:m9 ys ka)(hz:ys.length<=zk):
 Inv X pins σ (upd H s.heap.objs.size (.lst ys)) {s with heap:=s.heap.push {cls:=.type "list",data:=.seq ka.toArray},toks:=t'}:=
 I.laid (λ_ _ q=>zc _ q) (zg _) ⟨hz,ka,0,hv,zp _ rfl⟩
theorem Inv.fresh(I:Inv X pins σ H s):H s.heap.objs.size=none:=I.hok.fresh (zg _)
theorem Inv.lstM(I:Inv X pins σ H s)(hH:H l=some (.lst xs)):xs.length<=zk/\∃(ka:List zh) (n:Nat),m9 xs ka/\xs.length=ka.length/\s.heap.get? l=some {cls:=.type "list",data:=.seq ka.toArray n}:=by obtain⟨z,ka,n,r,e⟩:=I.hok l _ hH;exact⟨z,ka,n,r,r.length,e⟩
end
section
def Sz:V->List V->Hp->VK->Prop:=λx vs H Q=>∃l xs y,x= .ref l/\vs= [y]/\H l=some (.lst xs)/\xs.length<zk/\Q .non (upd H l (.lst (xs++[y])))
theorem DN:MtM X "list.append" Sz:=by
 intro pins s σ H x vs v us Q I rx rv h;obtain⟨l,xs,y,rfl,rfl,hH,hz,q⟩:=h
 cases rx
 obtain⟨u,rfl,ru⟩:=rv.one;obtain⟨z,ka,n,r,hl,e⟩:=I.lstM hH;refine call_meets F.slot_list_append ⟨_,e,rfl⟩ F.entry_list_append (F.args_list_append_2 _ _) (PySem.list_append l ka.toArray n u (by rw[zl];lia)) ⟨e,?_⟩;refine⟨.non,_,I.lset (its':=ka++[u]) hH e (by simp) (r.append (.cons ru .nil)) ?_,rfl,q⟩;rw[zd,jE];lia
def gh:V->List V->Hp->VK->Prop:=λx vs H Q=>∃l xs i k y,x= .ref l/\vs= [.int i]/\H l=some (.lst xs)/\ -(2 ^ 63)<=i/\i<2 ^ 63/\seqIndex? i xs.length=some k/\xs[k]? =some y/\Q y (upd H l (.lst (xs.eraseIdx k)))
theorem SY:MtM X "list.pop" gh:=by
 intro pins s σ H x vs v us Q I rx rv h;obtain⟨l,xs,i,k,y,rfl,rfl,hH,h1,h2,hk,hy,q⟩:=h
 cases rx
 obtain⟨u,rfl,ru⟩:=rv.one;obtain⟨t,rfl⟩:=ru;obtain⟨z,ka,n,r,hl,e⟩:=I.lstM hH;obtain⟨w,hw,rw'⟩:=r.get hy;refine call_meets F.slot_list_pop ⟨_,e,rfl⟩ F.entry_list_pop (F.args_list_pop_2 _ _)
  (MeetsSeq.list_pop_at l ka.toArray n i t k w (fitsIndex_both h1 h2) (by rw[zl,<-hl];exact hk) (by rw[<-zL];exact hw) (by rw[zl];lia)) ⟨e,?_⟩
 refine⟨y,_,I.lset (its':=ka.eraseIdx k) hH e ?_ (r.eraseIdx k) ?_,rw',q⟩
 ·show ka.toArray.eraseIdxIfInBounds k= (ka.eraseIdx k).toArray;rw[List.eraseIdxIfInBounds_toArray]
 ·have:=UN xs k;lia
def km:R2:=λx y H Q=>∃l b xs zs,x= .ref l/\y= .ref b/\H l=some (.lst xs)/\H b=some (.lst zs)/\xs.length+zs.length<=zk/\∀p,H p=none->Q (.ref p) (upd H p (.lst (xs++zs)))
theorem Dp:OpR X (yy .Add) km:=by
 intro pins s σ H x y v u Q I rx ry h;obtain⟨l,b,xs,zs,rfl,rfl,hH,hB,hz,q⟩:=h
 cases rx
 cases ry
 obtain⟨z,ka,n,r,hl,e⟩:=I.lstM hH;obtain⟨z2,og,n2,r2,nj,e2⟩:=I.lstM hB;refine PySem.P.add_list e e2 ?_ (by rw[zl,zl];lia);have ea:ka.toArray++og.toArray= (ka++og).toArray:=by simp
 rw[ea];exact⟨.ref _,_,I.lnew (t':=s.toks) (r.append r2) (by rw[zd];lia),rfl,q _ I.fresh⟩
end
section
end
section
end
end L2
namespace Att
open PySem PySem.W PySem.Calls PyProof.Rows
theorem Nd:∀ns vs,WellAll P h vs (ns.map WData.int)->IntsAre vs ns:=by
 intro ns
 induction ns with
 |nil=>
   intro vs w;rw[xY]at w
   cases w
   exact .nil
 |cons n ns ih=>
   intro vs w;rw[zK]at w
   cases w with
   |cons a b=>
     cases a
     exact .cons _ _ (ih _ b)
theorem gp{l:OpenLaw}{n:Nat}(hn:l.most=some n){P:Params}{h:Heap}
 (hpre:l.row.toRowW.claim.pre args=true) (hwl:WellAll P h vals args):
 ∃a vs ns,vals= [Value.ref a]/\args= [WData.list (ns.map WData.int)]/\h.get? a=some {cls:=.type "list",data:=.seq vs.toArray}/\IntsAre vs ns/\ns.length<=n:=by
 have hsh:WShape.hasAll [] args [.list .int]=true:=(pre_splitW hpre).1;have hc:l.pre.holds [] {args:=args}=true:=(pre_splitW hpre).2;obtain⟨d,r,rfl,h1,h2⟩:=hasAllW_cons hsh;obtain rfl:=hasAllW_nil h2;obtain⟨xs,rfl,h3⟩:=hasW_list h1;obtain⟨ns,rfl⟩:=items_int h3;have kl:ns.length<=n:=by
  unfold OpenLaw.pre at hc;have h4:(WTm.not (.lt (.lit (.int (n:Int))) (.len (.arg 0)))).holds [] {args:= [.list (ns.map .int)]}=true:=by have h4:=(holds_andW hc).1;rw[hn]at h4;exact h4
  have h5:=condW_of h4 (w_not (w_lt w_lit (w_len_list (w_arg rfl))));rw[zf]at h5;refine Nat.le_of_not_lt λq=>?_;have q':(n:Int)<((ns.length:Nat):Int):=by lia
  first
   |(rw[decide_eq_true q']at h5;exact absurd h5 (by decide))
   |(simp at h5;lia)
 cases hwl with
 |cons w1 w2=>
   cases w2
   cases w1 with
   |list ho hall=>exact⟨_,_,ns,rfl,rfl,ho,Nd ns _ hall,kl⟩
theorem UX(l:OpenLaw)(args:List WData):l.row.toRowW.claim.post args (.bool true) args=true:=
 postW_of (r:=l.row.toRowW) (X:=(true==true))
  (show WShape.has [] (.bool true) .bool=true by first|rfl|decide|simp[WShape.has,WShape.arms,WShape.armsAll])
  (show (WTm.eq .res (.lit (.bool true))).value [] {args:=args,res:=some (.bool true),after:=args}=some (.bool (true==true))from w_eq_bool (w_res rfl) w_lit) rfl
theorem attach_call{l:OpenLaw}{n:Nat}{q:zS}{loose:List Str}{d:DefRec}
 (hn:l.most=some n) (hdf:d.params.defaults= [])
 (call:∀(w:jg) (WW W1:zv) (mg mb:Str->Option zh) (fa:Addr) (o:Obj) (pm cd doc:zh) (a:Addr) (vs:List zh) (ns:List Int),
   Ground q loose [] XP w WW mg mb W1.heap->YP w W1.heap->
   W1.heap.get? fa=some o->o.data= .func (docDef d.name d.params d.body d.scope pm cd doc)->W1.heap.CodeRec cd d.name->mg d.name=some (.ref fa)->
   W1.heap.get? a=some {cls:=.type "list",data:=.seq vs.toArray}->IntsAre vs ns->ns.length<=n->W1.gens= #[]->
   ZQ (zC l.prog w) Xq (.call (.ref fa) ⟨[.ref a], []⟩) (λr s'=>r= .ok (.ret (.bool true))/\OldK W1.heap s'.heap/\s'.os=W1.os/\Xs s'.gens) W1):
 WalkO q loose XP YP l.row.toRowW d [] (λf vs=>PySem.call f vs):=by
 intro w WW W1 mg mb G Y fa o pm cd doc dV kV ho hd hcd hD hmg hg args vals as hpre hlay hrd hwl hlo;obtain rfl:dV= .none:=Dflts.none hD hdf;obtain rfl:kV= .none:=Dflts.noKw hD;obtain⟨a,vs,ns,rfl,rfl,hobj,hints,kl⟩:=gp hn hpre hwl;refine enter_call (ZP (call w WW W1 mg mb fa o pm cd doc a vs ns G Y ho (fd_plain hd) hcd hmg hobj hints kl hg) λr s' hq=>?_);obtain⟨rfl,h2,h3,h4⟩:=hq;exact⟨.inl ⟨.bool true,.bool true, [],rfl,λ_=>rfl,.bool true,UX l _,λ_=>⟨List.Pairwise.nil,λ_ hm=>(nomatch hm)⟩⟩,h2,h3,h4⟩
section
variable{prog:zS}{w:jg}{A:jn}{s:zv}{K:Frag}
end
end Att
namespace L2
open PySem PySem.Spec PyProof.Rows
theorem OL:∀ {vs} {ns},IntsAre vs ns->m9 (ns.map V.int) vs
 |_,_,.nil=>.nil
 |_,_,.cons n t h=>.cons ⟨t,rfl⟩ (OL h)
def LF(H:Hp):Prop:=∀b,H b=none\/∃o xs,H b=some (.frz o (.lst xs))
theorem OV{P:zS}{w:jg}{K:zj}{CX:CXT}{k:Nat}{fa a:Addr}{fd:xP}{x:Str}{sp:Sp}{W1:zv}{vs:List zh}{ns:List Int}
 (KX:K.In W1.heap) (hns:W1.heap.Ns jz mg) (hb:W1.heap.Ns builtinsNs mb) (hbb:∀x:Str,x≠ "__name__"->mb x=je x) (hlim:W1.heap.NoLimit) (hg:W1.gens= #[])
 (ha:W1.heap.get? a=some {cls:=.type "list",data:=.seq vs.toArray}) (hi:IntsAre vs ns) (hl:ns.length<=zk) (hr:O3 k Xq)
 (F:∀base:Heap,K.In base->base.Ns jz mg->E2 P w K mg base CX k fa fd [x] sp) (hbind:∀(s:zv) (u:zh),YL s fd ⟨[u], []⟩ [(x,u)])
 (hsp:∀H:Hp,LF H->SqL K H a (ns.map V.int)->sp [.ref a] H (λv _=>v= .bl true) λ_ _ _=>False)
 (hCX:∀H e s',CX [] H W1 (λ_ _ _=>False) e s'->False):
 ZQ (zC P w) Xq (.call (.ref fa) ⟨[.ref a], []⟩) (λr s'=>r= .ok (.ret (.bool true))/\OldK W1.heap s'.heap/\s'.os=W1.os/\Xs s'.gens) W1:=by
 have rv:=OL hi;have lenV:=hi.length
 -- from an abstract heap in which nothing but the script may be tracked
 have core:∀H:Hp,LF H->SqL K H a (ns.map V.int)->HOk P w H W1.heap->(∀b,H b≠none->b=a)->(H a≠none->K.lookup a=none)->
  ZQ (zC P w) Xq (.call (.ref fa) ⟨[.ref a], []⟩) (λr s'=>r= .ok (.ret (.bool true))/\OldK W1.heap s'.heap/\s'.os=W1.os/\Xs s'.gens) W1:=by
  intro H hO hS hok hA hK;have base_of:∀ {b:Addr} {o:Obj},W1.heap.get? b=some o->H b=none->(P8 W1.heap H).get? b=some o:=λe n=>aa e n;have noA:∀ {b:Addr} {o:Obj} {es:Array DictEntry} {ep:Nat},W1.heap.get? b=some o->o.data= .dict es ep->H b=none:=λ{b o es ep} e d=>by
   cases q:H b with
   |none=>rfl
   |some u=>
     have e':b=a:=hA b (by rw[q];simp);subst e';rw[ha]at e;cases e;have d':Data.seq vs.toArray _=Data.dict es ep:=d
     cases d'
  have nsK:∀ {b:Addr} {m:Str->Option zh},W1.heap.Ns b m->(P8 W1.heap H).Ns b m:=λ{b m} ⟨o,es,ep,e,d,r⟩=>⟨o,es,ep,base_of e (noA e d),d,r⟩;have hKb:K.In (P8 W1.heap H):=λb o e=>base_of (KX b o e) (by
   cases q:H b with
   |none=>rfl
   |some u=>
     have e':b=a:=hA b (by rw[q];simp);subst e';rw[hK (by rw[q];simp)]at e;cases e)
  have hM:Mod K mg (P8 W1.heap H):=⟨hKb,nsK hns,⟨mb,nsK hb,hbb⟩,let ⟨mc,h1,h2⟩:=hlim;⟨mc,nsK h1,h2⟩⟩;have e0:lG P w K mg (P8 W1.heap H) Xq [] W1 H:=⟨rfl,hM,λb o e=>Gh e,Xx (AS _ _),trivial,λb hb=>absurd (show b∈([]:List Addr)from hb) (by simp),hok,.of_eq hg⟩;refine ZP ((F _ hKb (nsK hns)).run Xq [] W1 H ⟨[.ref a], []⟩ [.ref a] [.ref a] _ _ hr e0 (hbind W1 (.ref a)) (.cons rfl .nil) (hsp H hO hS)) λr s' h=>?_
  cases r with
  |error e=>exact(hCX H e s' h).elim
  |ok fl=>
    cases fl with
    |next=>exact yc h
    |brk=>exact yc h
    |cont=>exact yc h
    |ret u=>
      obtain⟨v,H',os,bare,un,hok',r',q⟩:=h;have q':v= .bl true:=q;subst q';obtain rfl:u=Value.bool true:=r';refine⟨rfl,OldK.of_keep λb o e=>?_,os,bare⟩
      cases q:H b with
      |none=>exact un.keep b o e q (by intro z;exact absurd (show b∈([]:List Addr)from z) (by simp)) (by simp)
      |some u=>
        rcases hO b with z|⟨ob,xs,z⟩
        ·rw[q]at z;cases z
        ·have z2:=un.frzs b ob _ z;obtain⟨e1,_⟩:=hok b _ z;obtain⟨e2,_⟩:=hok' b _ z2;rw[e]at e1;cases e1;exact e2
 cases hk:K.lookup a with
 |some o=>
   -- the script is one of the module's own objects
   have e:=KX a o hk;rw[ha]at e
   cases e
   refine core (λ_=>none) (λ_=>.inl rfl) (.inr ⟨_,vs.toArray,_,hk,rfl,rfl,rfl,by rw[zl,lenV];exact hl,by simpa using rv⟩) (λb u z=>by have z':(none:Option HO)=some u:=z;cases z') (λb z=>absurd rfl z) λz=>absurd rfl z
 |none=>
   refine core (λb=>if b=a then some (.frz {cls:=.type "list",data:=.seq vs.toArray} (.lst (ns.map V.int)))else none) (λb=>?_) (.inl (.inr ⟨{cls:=.type "list",data:=.seq vs.toArray},if_pos rfl⟩)) (λb u z=>?_) (λb z=>?_) λ_=>hk
   · by_cases hb:b=a
     ·exact .inr ⟨_,_,if_pos hb⟩
     ·exact .inl (if_neg hb)
   · by_cases hb:b=a
     · have z':=(if_pos hb).symm.trans z
       cases z'
       subst hb;exact⟨ha,by rw[zf];exact hl,vs,_,rv,ha⟩
     · have z':=(if_neg hb).symm.trans z
       cases z'
   · by_cases hb:b=a
     ·exact hb
     ·exact absurd (if_neg hb) z
theorem walk_of{l:PySem.W.OpenLaw}{n k:Nat}{q:zS}{loose:List Str}{YP:jg->Heap->Prop}{d:DefRec}{K:Params->zj}{CX:jg->CXT}{sp:jg->Sp}{x:Str}
 (hn:l.most=some n) (hn2:n<=zk) (hdf:d.params.defaults= []) (hr:O3 k Xq)
 (hY:∀(w:jg) (h:Heap),YP w h->(K w.params).In h)
 (F:∀(w:jg) (mg:Str->Option zh) (fa:Addr) (h:Heap),(K w.params).In h->h.Ns jz mg->mg d.name=some (.ref fa)->
   ∃fd:xP,(∀(s:zv) (u:zh),YL s fd ⟨[u], []⟩ [(x,u)])/\
    ∀base:Heap,(K w.params).In base->base.Ns jz mg->E2 l.prog w (K w.params) mg base (CX w) k fa fd [x] (sp w))
 (hsp:∀(w:jg) (H:Hp) (a:Addr) (ns:List Int),ns.length<=n->LF H->SqL (K w.params) H a (ns.map V.int)->sp w [.ref a] H (λv _=>v= .bl true) λ_ _ _=>False)
 (hCX:∀(w:jg) (H:Hp) (s:zv) (e:zh) (s':zv),CX w [] H s (λ_ _ _=>False) e s'->False):
 PySem.W.WalkO q loose XP YP l.row.toRowW d [] (λf vs=>PySem.call f vs):=by
 refine Att.attach_call hn hdf λw WW W1 mg mb fa o pm cd doc a vs ns G Y ho hd hcd hmg hobj hints kl hg=>?_;have KX:=hY w _ Y;obtain⟨fd,hb,hF⟩:=F w mg fa _ KX G.T.g hmg;exact OV KX G.T.g G.T.b G.T.builtins G.T.nolimit hg hobj hints (zQ kl hn2) hr hF hb (λH hO hS=>hsp w H a ns kl hO hS) λH e s'=>hCX w H W1 e s'
def L8(s:Stmt):Arguments:=match s with
 | .FunctionDef _ a _ _ _ _ _ _ _ _=>a
 |_=>{posonlyargs:= [],args:= [],vararg:=none,kwonlyargs:= [],kw_defaults:= [],kwarg:=none,defaults:= []}
def U4(s:Stmt):List Stmt:=match s with
 | .FunctionDef _ _ b _ _ _ _ _ _ _=>b
 |_=> []
def v5(s:Stmt):Scope:=match s with
 | .FunctionDef _ _ _ _ _ _ sc _ _ _=>sc
 |_=>{kind:=.function,names:= [],isGenerator:=false,isCoroutine:=false}
abbrev CX0:CXT:=λ_ _ _ _ _ _=>False
abbrev E0:XK:=λ_ _ _=>False
theorem lL:PH CX0 X E0:=λ_ _ _ _ _ _ _ h=>h.elim
structure Fun(K:zj)(x qual:Str)(st:Stmt)(f:Addr)(fd:xP):Prop where
 ex:∃(oc:zh) (od:Option Addr) (kV doc pm:zh) (an:Option Addr) (mn ct:zh) (osl:Array (Option zh)),
  fd=yH x qual (L8 st) (U4 st) (v5 st) .none kV doc pm an mn ct/\K.lookup f=some ⟨oc,od,.func fd,osl⟩/\Zt K mn qual=true
 kp:yM K (.ref f)=true
section
variable{P:zS}{w:jg}{K:zj}{mg:Str->Option zh}{base:Heap}
theorem Fun.ok{x qual:Str}{st:Stmt}{f:Addr}{k:Nat}{sp:Sp}(F:Fun K x qual st f fd)(S:V2 N ps (v5 st))(len:∀vs H Q E,sp vs H Q E->vs.length=ps.length)
 (hbody:∀(mn:zh) (A:jn) (outer:List Env) (s:zv) (H:Hp) (vs:List V) (Q:VK) (E:XK),O3 k (A.deeper (Yt qual (v5 st) s.heap.objs.size f mn))->sp vs H Q E->
   ∃t,PSs (C7 CX0 P w K mg base N qual (v5 st) f mn A outer s H E).nox (U4 st) t/\t {nx:=λ_ H'=>Q .non H',rt:=Q} (start N vs) H):E2 P w K mg base CX0 (k+1) f fd ps sp:=by
 obtain⟨oc,od,kV,doc,pm,an,mn,ct,osl,rfl,lk,hcd⟩:=F.ex;refine cY lk hcd S len λA outer s H vs Q E hr hsp=>?_;obtain⟨t,h,q⟩:=hbody mn A outer s H vs Q E hr hsp;exact⟨t,h.nox,q⟩
theorem Fun.binds{x qual:Str}{st:Stmt}{f:Addr}(F:Fun K x qual st f fd)
 (h:∀(kV doc pm:zh) (an:Option Addr) (mn ct:zh) (us:List zh),us.length=ps.length->bindArgs (yH x qual (L8 st) (U4 st) (v5 st) .none kV doc pm an mn ct) ⟨us, []⟩=pure (ps.zip us)):A4 K fd ps []:=by
 obtain⟨oc,od,kV,doc,pm,an,mn,ct,osl,rfl,lk,hcd⟩:=F.ex;exact .all (h kV doc pm an mn ct)
theorem IF{x qual:Str}{st:Stmt}{f:Addr}{oc:zh}{od an:Option Addr}{kV doc pm mn ct:zh}(l:K.lookup f=some ⟨oc,od,.func (yH x qual (L8 st) (U4 st) (v5 st) .none kV doc pm an mn ct),osl⟩)
 (c:Zt K mn qual=true) (k:yM K (.ref f)=true):Fun K x qual st f (yH x qual (L8 st) (U4 st) (v5 st) .none kV doc pm an mn ct):=⟨⟨oc,od,kV,doc,pm,an,mn,ct,osl,rfl,l,c⟩,k⟩
end
section
theorem pv(i:Nat)(hN:X.N[i]? =some x)(hv:Vis X.env.scope x)(hd:(x==("__debug__" :Str))=false)
 (hcd:(x==("__classdict__" :Str))=false):PE X (.Name x pos) (CH i):=EM hN hv hd hcd
end
section
variable[DecidableEq κ]
def d4(iz:List (κ×V))(k:κ):Option V:=(iz.find? λkv=>decide (kv.1=k)).map (·.2)
def Q1(iz:List (κ×V))(k:κ)(v:V):List (κ×V):=
 if (iz.any λkv=>decide (kv.1=k))=true then iz.map (λkv=>if kv.1=k then (kv.1,v)else kv)else iz++[(k,v)]
theorem iF{k:κ}(e:p.1=k):d4 (p::r) k=some p.2:=by simp[d4,yG,e]
theorem OE{k:κ}(e:¬p.1=k):d4 (p::r) k=d4 r k:=by simp[d4,yG,e]
theorem RM(k:κ):∀iz:List (κ×V),(iz.any λkv=>decide (kv.1=k))= (d4 iz k).isSome
 |[]=>rfl
 |p::r=>by
   rw[jj];by_cases e:p.1=k
   ·simp only[iF e,decide_eq_true e,Bool.true_or,Option.isSome_some]
   ·rw[OE e,decide_eq_false e,Bool.false_or];exact RM k r
theorem eK(iz:List (κ×V))(k:κ)(v:V):(Q1 iz k v).length<=iz.length+1:=by
 unfold Q1;split
 ·rw[zf];lia
 ·rw[zd,zr,yh];lia
theorem D8.isSome_eq(r:D8 o u):o.isSome=u.isSome:=by
 cases o with
 |none=>cases u with
   |none=>rfl
   |some _=>exact(show False from r).elim
 |some _=>cases u with
   |none=>exact(show False from r).elim
   |some _=>rfl
theorem KV.val(r:KV iz vs)(k:κ):D8 (d4 iz k) (YJ vs k):=by
 unfold KV at r
 induction r with
 |nil=>exact True.intro
 |@cons p q ps qs h t ih=>
   obtain⟨h1,h2⟩:=h;by_cases e:p.1=k
   · have e':q.1=k:=h1.symm.trans e;have b:YJ (q::qs) k=some q.2:=by simp[YJ,yG,e']
     rw[iF e,b];exact h2
   · have e':¬q.1=k:=λz=>e (h1.trans z);have b:YJ (q::qs) k=YJ qs k:=by simp[YJ,yG,e']
     rw[OE e,b];exact ih
theorem KV.any(r:KV iz vs)(k:κ):(iz.any λkv=>decide (kv.1=k))=vs.any λkv=>decide (kv.1=k):=by
 unfold KV at r
 induction r with
 |nil=>rfl
 |cons h t ih=>rw[jj,jj,ih,h.1]
theorem KV.repl(r:KV iz vs)(k:κ)(ry:t6 y u):
 KV (iz.map λkv=>if kv.1=k then (kv.1,y)else kv) (vs.map λkv=>if kv.1=k then (kv.1,u)else kv):=by
 unfold KV at r ⊢
 induction r with
 |nil=>exact .nil
 |@cons p q ps qs h t ih=>
   rw[zK,zK];refine .cons ?_ ih;obtain⟨h1,h2⟩:=h;by_cases e:p.1=k
   ·rw[if_pos e,if_pos (h1.symm.trans e)];exact⟨h1,ry⟩
   ·rw[if_neg e,if_neg (λz=>e (h1.trans z))];exact⟨h1,h2⟩
theorem KV.put(r:KV iz vs)(k:κ)(ry:t6 y u):KV (Q1 iz k y) (stored vs k u):=by
 unfold Q1 stored;rw[r.any k];by_cases e:(vs.any λkv=>decide (kv.1=k))=true
 ·rw[if_pos e,if_pos e];exact r.repl k ry
 ·rw[if_neg e,if_neg e];exact Paired.snoc r ⟨rfl,ry⟩
theorem KV.length(r:KV iz vs):iz.length=vs.length:=xl r
end
theorem fA(r:t6 (kV k) u):(u5 P w).is k u=true:=by
 cases k with
 |inl i=>obtain⟨t,e⟩:=(show ∃t,u=Value.int i t from r);subst e;exact MP P w i t
 |inr x=>obtain⟨t,e⟩:=(show ∃t,u=Value.str x t from r);subst e;exact LQ P w x t
theorem qP:∀ {ks} {us},m9 (ks.map kV) us->ItemsAre (u5 P w) ks us
 |[],_,r=>by rw[xY]at r;cases r;exact .nil
 |k::ks,_,r=>by
   rw[zK]at r
   cases r with
   |cons h t=>exact .cons (fA h) (qP t)
abbrev KT(H:Hp):List (List Key×V)->List (List Key×Addr×zh)->Prop:=Paired λp q=>p.1=q.1/\H q.2.1=some (.tup (p.1.map kV))/\t6 p.2 q.2.2
theorem KT.val{H:Hp}(r:KT H iz xs)(k:List Key):D8 (d4 iz k) ((atKey xs k).map (·.2)):=by
 induction r with
 |nil=>exact True.intro
 |@cons p q ps qs h t ih=>
   obtain⟨h1,_,h2⟩:=h;by_cases e:p.1=k
   · have e':q.1=k:=h1.symm.trans e;have b:atKey (q::qs) k=some q.2:=by simp[atKey,yG,e']
     rw[iF e,b];exact h2
   · have e':¬q.1=k:=λz=>e (h1.trans z);have b:atKey (q::qs) k=atKey qs k:=by simp[atKey,yG,e']
     rw[OE e,b];exact ih
theorem KT.repl(r:KT H iz xs)(k:List Key)(ry:t6 y u):
 KT H (iz.map λkv=>if kv.1=k then (kv.1,y)else kv) (xs.map (putAt k u)):=by
 induction r with
 |nil=>exact .nil
 |@cons p q ps qs h t ih=>
   rw[zK,zK];refine .cons ?_ ih;obtain⟨h1,h2,h3⟩:=h;unfold putAt;by_cases e:p.1=k
   ·rw[if_pos e,if_pos (h1.symm.trans e)];exact⟨h1,h2,ry⟩
   ·rw[if_neg e,if_neg (λz=>e (h1.trans z))];exact⟨h1,h2,h3⟩
theorem KT.put(r:KT H iz xs)(k:List Key)(hb:H b=some (.tup (k.map kV)))(ry:t6 y u):
 KT H (Q1 iz k y) (storedH xs k b u):=by
 have e:(iz.any λkv=>decide (kv.1=k))= (atKey xs k).isSome:=by rw[RM,(r.val k).isSome_eq,ZL]
 unfold Q1 storedH;rw[e];by_cases q:(atKey xs k).isSome=true
 ·rw[if_pos q,if_pos q];exact r.repl k ry
 ·rw[if_neg q,if_neg q];exact Paired.snoc r ⟨rfl,hb,ry⟩
theorem KT.keeps(r:KT H iz xs)(ht:∀b ys,H b=some (.tup ys)->H' b=some (.tup ys)):KT H' iz xs:=
 Paired.mapP r λ_ _ z=>⟨z.1,ht _ _ z.2.1,z.2.2⟩
section
theorem cH(ok:HOk P w H h)(e:Rd H a u):N7 P w H h a u:=e.ok ok
theorem KF(ok:HOk P w H h)(e:Rd H a (.dK iz)):iz.length<=zk/\(a==xu)=false/\∃vs,KV iz vs/\h.DictOf (u5 P w) a vs:=
 show N7 P w H h a (.dK iz)from cH ok e
theorem ID(ok:HOk P w H h)(e:H a=some (.dK iz)):iz.length<=zk/\(a==xu)=false/\∃vs,KV iz vs/\h.DictOf (u5 P w) a vs:=KF ok (.inl e)
theorem nF(ok:HOk P w H h)(e:H a=some (.tup (ks.map kV))):(Jv (u5 P w)).is h ks a:=by obtain⟨_,ka,r,o,h1,h2,n,h3⟩:=(show N7 P w H h a (.tup (ks.map kV))from ok a _ e);exact⟨o,ka.toArray,n,h1,h2,(xA h3).1,by simpa using qP r⟩
theorem RI(ok:HOk P w H h)(e:Rd H a (.dT iz)):iz.length<=zk/\(a==xu)=false/\
 ∃xs,KT H iz xs/\h.DictOfH (Jv (u5 P w)) a xs:=by
 obtain⟨z,y,xs,r,o,es,ep,h1,h2,h3,h4,h5⟩:=(show N7 P w H h a (.dT iz)from cH ok e);refine⟨z,y,xs,r,o,es,ep,h1,h2,h3,h4,λx hx=>?_,h5⟩;have all:∀ {l:List (List Key×V)} {m:List (List Key×Addr×zh)},KT H l m->∀x∈m,(Jv (u5 P w)).is h x.1 x.2.1:=by
  intro l m q
  induction q with
  |nil=>intro x hx;exact nomatch hx
  |@cons p q ps qs hq t ih=>
    intro x hx;rcases zu.mp hx with e|hx
    ·subst e;exact nF ok (by rw[<-hq.1];exact hq.2.1)
    ·exact ih x hx
 exact all r x hx
theorem LV(ok:HOk P w H h)(e:H a=some (.dT iz)):iz.length<=zk/\(a==xu)=false/\
 ∃xs,KT H iz xs/\h.DictOfH (Jv (u5 P w)) a xs:=RI ok (.inl e)
end
def mC(H:Hp)(a:Addr)(y:V)(r:Option V):Prop:=
 (∃iz k,Rd H a (.dK iz)/\y=kV k/\r=d4 iz k)\/∃iz k b,Rd H a (.dT iz)/\y= .ref b/\H b=some (.tup (k.map kV))/\r=d4 iz k
def wG(H:Hp)(a:Addr)(y v:V)(H':Hp):Prop:=
 (∃iz k,H a=some (.dK iz)/\y=kV k/\iz.length<zk/\H'=upd H a (.dK (Q1 iz k v)))\/
 ∃iz k b,H a=some (.dT iz)/\y= .ref b/\H b=some (.tup (k.map kV))/\iz.length<zk/\H'=upd H a (.dT (Q1 iz k v))
theorem mC.k{k:Key}(e:H a=some (.dK iz)):mC H a (kV k) (d4 iz k):=.inl ⟨iz,k,.inl e,rfl,rfl⟩
theorem wG.k{k:Key}(e:H a=some (.dK iz))(hl:iz.length<zk):wG H a (kV k) v (upd H a (.dK (Q1 iz k v))):=.inl ⟨iz,k,e,rfl,hl,rfl⟩
section
theorem Inv.big(I:Inv X pins σ H s):xu<s.heap.objs.size:=by have h:jz<s.heap.objs.size:=(I.mod.glob.keeps I.bk).lt;exact Za (by decide) h
theorem Nw(hu:A.units+1<yU)(I:Inv X pins σ H s)(g:mC H a y o)(ry:t6 y u)(h:∀s',Inv X pins σ H s'->Q (.bool o.isSome) s'):
 zq (zC X.prog X.w) A (zZ .In u (.ref a)) Q E s:=by
 rcases g with⟨iz,k,e,ey,l⟩|⟨iz,k,b,e,ey,eb,l⟩
 ·subst ey;obtain⟨z,hd,vs,rel,dd⟩:=KF I.hok e;refine wpAny_in_of (fA ry) hd dd.mapOf ?_;rw[<-(rel.val k).isSome_eq,<-l];exact h _ (I.tok _)
 · subst ey
   cases (show u=Value.ref b from ry)
   obtain⟨z,hd,xs,rel,dd⟩:=RI I.hok e;refine wpAny_in_heap (XL hu) (nF I.hok eb) hd dd ?_;have q:=(rel.val k).isSome_eq;rw[ZL]at q;rw[<-q,<-l];exact h _ (I.tok _)
theorem TX(hu:A.units+1<yU)(I:Inv X pins σ H s)(g:mC H a y o)(ry:t6 y u)(h:∀s',Inv X pins σ H s'->Q (.bool (!o.isSome)) s'):
 zq (zC X.prog X.w) A (zZ .NotIn u (.ref a)) Q E s:=by
 rcases g with⟨iz,k,e,ey,l⟩|⟨iz,k,b,e,ey,eb,l⟩
 ·subst ey;obtain⟨z,hd,vs,rel,dd⟩:=KF I.hok e;refine wpAny_notIn_of (fA ry) hd dd.mapOf ?_;rw[<-(rel.val k).isSome_eq,<-l];exact h _ (I.tok _)
 · subst ey
   cases (show u=Value.ref b from ry)
   obtain⟨z,hd,xs,rel,dd⟩:=RI I.hok e;refine wpAny_notIn_heap (XL hu) (nF I.hok eb) hd dd ?_;have q:=(rel.val k).isSome_eq;rw[ZL]at q;rw[<-q,<-l];exact h _ (I.tok _)
theorem FJ(I:Inv X pins σ H s)(mu:Mut (H a))(hs:yC a s.heap h')(he:∃q,h'.get? a=some q)(new:N7 X.prog X.w (upd H a ob) h' a ob):
 Inv X pins σ (upd H a ob) {s with heap:=h',toks:=t'}:=
 I.write mu (.inl rfl) (λb q hb z=>(hs.2 b hb).trans z) he new
theorem vI(z:iz.length<=zk)(hd:(a==xu)=false)(rel:KV iz vs)(dd:h'.DictOf (u5 P w) a vs):
 N7 P w H' h' a (.dK iz):=⟨z,hd,vs,rel,dd⟩
theorem Pp(hu:A.units+1<yU)(I:Inv X pins σ H s)(g:wG H a y v H')(ry:t6 y u)(rv:t6 v r)(h:∀s',Inv X pins σ H' s'->Q () s'):
 zq (zC X.prog X.w) A (setItem (.ref a) u r) Q E s:=by
 rcases g with⟨iz,k,e,ey,l,eH⟩|⟨iz,k,b,e,ey,eb,l,eH⟩
 · subst ey eH;obtain⟨z,hd,vs,rel,dd⟩:=ID I.hok e;have hz:vs.length<=zk:=by rw[<-rel.length];exact z
   have hl:(Q1 iz k v).length<=zk:=by have:=eK iz k v;lia
   refine wpAny_setItem_pairs (fA ry) dd λh' dd' hs=>h _ ?_;have he:∃q,h'.get? a=some q:=let ⟨q,_,_,hq,_⟩:=dd';⟨q,hq⟩;exact FJ I (by rw[e];exact True.intro) hs he (vI hl hd (rel.put k rv) dd')
 · subst ey eH
   cases (show u=Value.ref b from ry)
   obtain⟨z,hd,xs,rel,dd⟩:=LV I.hok e;have hz:xs.length<=zk:=by rw[<-xl rel];exact z
   have hl:(Q1 iz k v).length<=zk:=by have:=eK iz k v;lia
   refine wpAny_setItem_heap (XL hu) (nF I.hok eb) dd λh' dd' hs=>h _ ?_;obtain⟨q,es,ep,hq,h2,h3,h4,_,h5⟩:=dd';refine FJ I (by rw[e];exact True.intro) hs ⟨q,hq⟩ ⟨hl,hd,_,(rel.put k eb rv).keeps λc ys ec=>?_,q,es,ep,hq,h2,h3,h4,h5⟩;rw[m8 (gn ec e (λz=>nomatch z))];exact ec
end
section
theorem Wq(I:Inv X pins σ H s)(e:Rd H a (.dK iz))(h:∀t s',Inv X pins σ H s'->Q (.int iz.length t) s'):zq (zC X.prog X.w) A (call (.builtin "len") [.ref a]) Q E s:=by obtain⟨z,hd,vs,rel,dd⟩:=KF I.hok e;refine call_len_dict hd dd (by rw[<-rel.length];rw[ju]at z;lia) ?_;rw[<-rel.length];exact h _ _ (I.tok _)
end
section
end
theorem Tv(h:Heap)(hb:xu<h.objs.size):N7 P w H (h.push {cls:=.type "dict",data:=.dict #[]}) h.objs.size (.dK []):=
 ⟨zD _,beq_eq_false_iff_ne.mpr (Ne.symm (zG hb)), [],.nil,Heap.DictOf.new h⟩
section
end
def fK:List (TE×TE)->St->Hp->(List (V×V)->Hp->Prop)->Prop
 |[],_,H,Q=>Q [] H
 |(tk,tv)::r,σ,H,Q=>tk σ H λx H1=>tv σ H1 λy H2=>fK r σ H2 λps H3=>Q ((x,y)::ps) H3
abbrev VV:List (V×V)->List (zh×zh)->Prop:=Paired λp q=>t6 p.1 q.1/\t6 p.2 q.2
def PPs(X:Cx)(pos:Pos)(keys:List (Option Expr))(values:List Expr)(trs:List (TE×TE)):Prop:=
 ∀(pins:PNS) (s:zv) (σ:St) (H:Hp) (Q:List (V×V)->Hp->Prop),Inv X pins σ H s->fK trs σ H Q->
  zq (zC X.prog X.w) X.A (evalPairs (pairTrees keys values X.env pos)) (λvs s'=>∃ps H',Inv X pins σ H' s'/\VV ps vs/\Q ps H') X.xe s
theorem Nx:PPs X pos [] [] []:=λpins s σ H Q I h=>pairTrees_nil_walk ⟨[],H,I,.nil,h⟩
theorem oU(hk:PE X k tk)(hv:PE X v tv)(hr:PPs X pos ks vs trs):
 PPs X pos (some k::ks) (v::vs) ((tk,tv)::trs):=λpins s σ H Q I h=>
 pairTrees_cons_walk (thn (hk pins s σ H _ I h) λu s1 lu=>lu.elim λx H1 I1 rx q1=>thn (hv pins s1 σ H1 _ I1 q1) λw2 s2 lu=>lu.elim λy H2 I2 ry q2=>
  thn (hr pins s2 σ H2 _ I2 q2) λws s3 ⟨ps,H3,I3,rel,q3⟩=>⟨(x,y)::ps,H3,I3,.cons ⟨rx,ry⟩ rel,q3⟩)
def EA(iz more:List (Key×V)):List (Key×V):=more.foldl (λkr kv=>Q1 kr kv.1 kv.2) iz
theorem KV.merge:∀ {more} {rs} {iz} {vs},KV more rs->KV iz vs->KV (EA iz more) (Jx vs rs):=by
 intro more rs iz vs r;unfold KV at r
 induction r generalizing iz vs with
 |nil=>intro q;exact q
 |@cons p q ps qs h t ih=>
   intro r0;have e:KV (Q1 iz p.1 p.2) (stored vs q.1 q.2):=by have:=r0.put p.1 h.2;rw[<-h.1];exact this
   exact ih e
theorem oN:∀more iz,(EA iz more).length<=iz.length+more.length
 |[],iz=>by show iz.length<=iz.length+0;lia
 |p::r,iz=>by have h1:=oN r (Q1 iz p.1 p.2);have h2:=eK iz p.1 p.2;show (EA (Q1 iz p.1 p.2) r).length<=_;rw[zr];lia
theorem MQ:∀ {iz} {ws},VV (iz.map λkv=>(kV kv.1,kv.2)) ws->∃rs,Carries (u5 P w) ws rs/\KV iz rs
 |[],_,r=>by rw[xY]at r;cases r;exact⟨[],True.intro,.nil⟩
 |p::iz,_,r=>by
   rw[zK]at r
   cases r with
   |@cons a b as bs h t=>
     obtain⟨rs,c,q⟩:=MQ t;obtain⟨b1,b2⟩:=b;exact⟨(p.1,b2)::rs,⟨fA h.1,rfl,c⟩,.cons ⟨rfl,h.2⟩ q⟩
structure M1(X:Cx)(o:Expr)(m:Str)(mw:Pos)(e:Expr)(lg:Pos):Prop where
 base:Yq o m X.env (eval o X.env)=eval o X.env
 few:((xw lg (zX [e] X.env)).all (λx=> !x.1)&&(Jf lg (Yi [] X.env)).all (λx=>x.1.isSome)
  && decide (([e]:List Expr).length+([]:List Keyword).length+(if ([]:List Keyword).isEmpty then 0 else 1)<30))=true
 line:(mw.endLine==lg.line)=true
 trees:xw lg (zX [e] X.env)= [(false,eval e X.env)]
structure M2(X:Cx)(o:Expr)(m:Str)(mw:Pos)(e f:Expr)(lg:Pos):Prop where
 base:Yq o m X.env (eval o X.env)=eval o X.env
 few:((xw lg (zX [e,f] X.env)).all (λx=> !x.1)&&(Jf lg (Yi [] X.env)).all (λx=>x.1.isSome)
  && decide (([e,f]:List Expr).length+([]:List Keyword).length+(if ([]:List Keyword).isEmpty then 0 else 1)<30))=true
 line:(mw.endLine==lg.line)=true
 trees:xw lg (zX [e,f] X.env)= [(false,eval e X.env),(false,eval f X.env)]
section
end
section
end
section
end
section
end
section
theorem Nc:S9 X (.builtin "len") (λxs H Q=>∃a iz,xs= [V.ref a]/\H a=some (.dK iz)/\Q (.int iz.length) H):=by
 intro pins s σ H xs us Q I r h;obtain⟨a,iz,rfl,ha,q⟩:=h;obtain⟨u,rfl,ru⟩:=C3 r
 cases ru
 exact Wq I (.inl ha) λt s' I'=>⟨.int iz.length,H,I',⟨t,rfl⟩,q⟩
end
section
variable[DecidableEq κ]
end
end L2
namespace DL
open PySem PySem.Spec L2
open PyProof.Rows hiding St
inductive D where
 |non|bl (b:Bool)|int (i:Int)|str (x:Str)|tup (l:List D)|ref (i:Nat)|fn (x:Str)|ty (n:String)
inductive DO where
 |lst (l:List D)|rol (l:List D)|dct (l:List (Key×D))|rod (l:List (Key×D))
abbrev DH:=List DO
abbrev DPP:=D->DH->Prop
abbrev DSt:=List (Option D)
structure Wc where
 K:zj
 mg:Str->Option zh
abbrev wc(X:Cx):Wc:=⟨X.K,X.mg⟩
mutual
def d7(c:Wc)(μ:List Addr)(H:Hp):D->V->Prop
 | .non,v=>v= .non
 | .bl b,v=>v= .bl b
 | .int i,v=>v= .int i
 | .str x,v=>v= .str x
 | .ty n,v=>v= .ty n
 | .fn x,v=>∃a,c.mg x=some (.ref a)/\v= .ref a
 | .ref i,v=>∃a,μ[i]? =some a/\v= .ref a
 | .tup l,v=>∃a vs,v= .ref a/\SqT c.K H a vs/\j9 c μ H l vs
def j9(c:Wc)(μ:List Addr)(H:Hp):List D->List V->Prop
 |[],vs=>vs= []
 |d::ds,vs=>∃v r,vs=v::r/\d7 c μ H d v/\j9 c μ H ds r
end
def S8(c:Wc)(μ:List Addr)(H:Hp):List (Key×D)->List (Key×V)->Prop
 |[],iz=>iz= []
 |(k,d)::r,iz=>∃v t,iz= (k,v)::t/\d7 c μ H d v/\S8 c μ H r t
structure Ext(μ:List Addr)(H:Hp)(X9:List Addr)(H':Hp):Prop where
 pre:μ <+:X9
 new:∀a∈X9,a∉μ->H a=none
 oth:∀b o,H b=some o->b∉μ->H' b=some o
 tup:∀b xs,H b=some (.tup xs)->H' b=some (.tup xs)
 frz:∀b o u,H b=some (.frz o u)->H' b=some (.frz o u)
theorem Ext.refl(μ:List Addr)(H:Hp):Ext μ H μ H:=⟨XH _,λa h n=>absurd h n,λ_ _ h _=>h,λ_ _ h=>h,λ_ _ _ h=>h⟩
theorem Ext.trans(a:Ext μ H X0 H1)(b:Ext X0 H1 WX H2):Ext μ H WX H2 where
 pre:=a.pre.trans b.pre
 new:=λx h n=>by
  by_cases h1:x∈X0
  ·exact a.new x h1 n
  · have e1:=b.new x h h1;rcases e:H x with _|o
    ·rfl
    ·rw[a.oth x o e n]at e1;exact dD e1
 oth:=λx o e n=>by refine b.oth x o (a.oth x o e n) λh1=>?_;have:=a.new x h1 n;rw[e]at this;exact dD this
 tup:=λx xs e=>b.tup x xs (a.tup x xs e)
 frz:=λx o u e=>b.frz x o u (a.frz x o u e)
theorem Ext.lay(h:H p=none)(o:HO):Ext μ H μ (upd H p o):=
 ⟨XH _,λa h n=>absurd h n,λb o' q _=>by rw[m8 (o4 q h)];exact q,λb xs q=>by rw[m8 (o4 q h)];exact q,λb o' u q=>by rw[m8 (o4 q h)];exact q⟩
theorem Ext.add(h:H p=none)(o:HO):Ext μ H (μ++[p]) (upd H p o):=
 ⟨List.prefix_append _ _,λa ha n=>by
  rcases zM.mp ha with z|z
  ·exact absurd z n
  ·rw[zm.mp z];exact h,λb o' q _=>by rw[m8 (o4 q h)];exact q,λb xs q=>by rw[m8 (o4 q h)];exact q,λb o' u q=>by rw[m8 (o4 q h)];exact q⟩
theorem Ext.mut(hp:p∈μ)(h:H p=some o')(n1:∀xs,o'≠ .tup xs)(n2:∀o u,o'≠ .frz o u)(o:HO):Ext μ H μ (upd H p o):=
 ⟨XH _,λa h n=>absurd h n,λb o2 q n=>by rw[m8 (λe=>n (by rw[e];exact hp))];exact q,λb xs q=>by
  rw[m8 (λe=>by subst e;rw[h]at q;cases q;exact n1 _ rfl)];exact q,
  λb oo u q=>by rw[m8 (λe=>by subst e;rw[h]at q;cases q;exact n2 _ _ rfl)];exact q⟩
theorem Ext.sqT{K:zj}(k:Ext μ H X9 H')(h:SqT K H a xs):SqT K H' a xs:=by
 rcases h with(h|⟨o,h⟩)|h
 ·exact .inl (.inl (k.tup _ _ h))
 ·exact .inl (.inr ⟨o,k.frz _ _ _ h⟩)
 ·exact .inr h
def RoL(K:zj)(H:Hp)(a:Addr)(xs:List V):Prop:=(∃o,H a=some (.frz o (.lst xs)))\/(SqL K (λ_=>none) a xs)
theorem Gb{K:zj}(h:SqL K (λ_=>none) a xs):SqL K H a xs:=by
 rcases h with(h|⟨o,h⟩)|h
 ·exact v6 h
 ·exact v6 h
 ·exact .inr h
theorem RoL.sq{K:zj}(h:RoL K H a xs):SqL K H a xs:=by
 rcases h with⟨o,h⟩|h
 ·exact .inl (.inr ⟨o,h⟩)
 ·exact Gb h
theorem Ext.roL{K:zj}(k:Ext μ H X9 H')(h:RoL K H a xs):RoL K H' a xs:=by
 rcases h with⟨o,h⟩|h
 ·exact .inl ⟨o,k.frz _ _ _ h⟩
 ·exact .inr h
section
variable{μ X9:List Addr}
theorem BK(h:μ <+:X9){i:Nat}(e:μ[i]? =some a):X9[i]? =some a:=by
 obtain⟨t,rfl⟩:=h;have:i<μ.length:=by
  rcases Zx i μ.length with q|q
  ·exact q
  ·rw[jf q]at e;exact v6 e
 rw[zE this];exact e
mutual
theorem d7.mono(x:Ext μ H X9 H'):∀ {d} {v},d7 c μ H d v->d7 c X9 H' d v
 | .non,_,h=>h
 | .bl _,_,h=>h
 | .int _,_,h=>h
 | .str _,_,h=>h
 | .ty _,_,h=>h
 | .fn _,_,h=>h
 | .ref i,v,h=>by unfold d7 at h ⊢;obtain⟨a,e,r⟩:=h;exact⟨a,BK x.pre e,r⟩
 | .tup l,v,h=>by unfold d7 at h ⊢;obtain⟨a,vs,e,q,r⟩:=h;exact⟨a,vs,e,x.sqT q,j9.mono x r⟩
theorem j9.mono(x:Ext μ H X9 H'):∀ {l} {vs},j9 c μ H l vs->j9 c X9 H' l vs
 |[],_,h=>h
 |d::ds,vs,h=>by unfold j9 at h ⊢;obtain⟨v,r,e,q,t⟩:=h;exact⟨v,r,e,d7.mono x q,j9.mono x t⟩
end
theorem S8.mono(x:Ext μ H X9 H'):∀ {l} {vs},S8 c μ H l vs->S8 c X9 H' l vs
 |[],_,h=>h
 |(_,d)::ds,vs,h=>by obtain⟨v,r,e,q,t⟩:=h;exact⟨v,r,e,d7.mono x q,S8.mono x t⟩
theorem j9.nil:j9 c μ H [] []:=rfl
theorem j9.cons(h:d7 c μ H d v)(t:j9 c μ H ds vs):j9 c μ H (d::ds) (v::vs):=⟨v,vs,rfl,h,t⟩
theorem j9.length:∀ {l} {vs},j9 c μ H l vs->l.length=vs.length
 |[],_,h=>by cases h;rfl
 |_::_,_,h=>by obtain⟨v,r,rfl,_,t⟩:=h;simp[j9.length t]
theorem j9.get:∀ {l} {vs} {i:Nat} {d},j9 c μ H l vs->l[i]? =some d->∃v,vs[i]? =some v/\d7 c μ H d v
 |[],_,_,_,_,e=>by simp at e
 |_::_,_,0,_,h,e=>by obtain⟨v,r,rfl,q,t⟩:=h;simp at e;subst e;exact⟨v,rfl,q⟩
 |_::_,_,i+1,_,h,e=>by obtain⟨v,r,rfl,q,t⟩:=h;simp at e;obtain⟨w,h1,h2⟩:=j9.get t e;exact⟨w,by simpa using h1,h2⟩
theorem j9.append:∀ {l l'} {vs mv},j9 c μ H l vs->j9 c μ H l' mv->j9 c μ H (l++l') (vs++mv)
 |[],_,_,_,h,t=>by cases h;exact t
 |_::_,_,_,_,h,t=>by obtain⟨v,r,rfl,q,u⟩:=h;exact⟨v,r++_,rfl,q,j9.append u t⟩
theorem j9.take:∀n {l} {vs},j9 c μ H l vs->j9 c μ H (l.take n) (vs.take n)
 |0,_,_,_=>rfl
 |_+1, [],_,h=>by cases h;rfl
 |n+1,_::_,_,h=>by obtain⟨v,r,rfl,q,u⟩:=h;exact⟨v,r.take n,rfl,q,j9.take n u⟩
theorem j9.drop:∀n {l} {vs},j9 c μ H l vs->j9 c μ H (l.drop n) (vs.drop n)
 |0,_,_,h=>h
 |_+1, [],_,h=>by cases h;rfl
 |n+1,_::_,_,h=>by obtain⟨v,r,rfl,q,u⟩:=h;exact j9.drop n u
theorem j9.set(hv:d7 c μ H d v):∀n {l} {vs},j9 c μ H l vs->j9 c μ H (l.set n d) (vs.set n v)
 |_, [],_,h=>by cases h;rfl
 |0,_::_,_,h=>by obtain⟨w,r,rfl,q,u⟩:=h;exact⟨v,r,rfl,hv,u⟩
 |n+1,_::_,_,h=>by obtain⟨w,r,rfl,q,u⟩:=h;exact⟨w,r.set n v,rfl,q,j9.set hv n u⟩
def L4:Option DO->Prop
 |some (.rol _)=>True
 |some (.rod _)=>True
 |_=>False
def l7(c:Wc)(μ:List Addr)(H:Hp)(a:Addr):DO->Prop
 | .lst l=>∃vs,H a=some (.lst vs)/\j9 c μ H l vs
 | .rol l=>∃vs,RoL c.K H a vs/\j9 c μ H l vs
 | .dct l=>∃iz,H a=some (.dK iz)/\S8 c μ H l iz
 | .rod l=>∃iz o,H a=some (.frz o (.dK iz))/\S8 c μ H l iz
structure m6(c:Wc)(μ:List Addr)(G:DH)(H:Hp):Prop where
 len:μ.length=G.length
 inj:∀(i j:Nat) (a:Addr),μ[i]? =some a->μ[j]? =some a->i=j\/L4 G[i]? \/L4 G[j]?
 obj:∀(i:Nat) (o:DO) (a:Addr),G[i]? =some o->μ[i]? =some a->l7 c μ H a o
theorem lt_of_get{α:Type}{l:List α}{x:α}(e:l[i]? =some x):i<l.length:=by
 rcases Zx i l.length with q|q
 ·exact q
 ·rw[jf q]at e;exact v6 e
theorem l7.mono(x:Ext μ H X9 H')(h:l7 c μ H a o)(e:H' a=H a\/L4 (some o)):l7 c X9 H' a o:=by
 rcases o with l|l|l|l
 ·
   obtain⟨vs,q,r⟩:=h;rcases e with e|e
   ·exact⟨vs,e.trans q,r.mono x⟩
   ·exact e.elim
 ·obtain⟨vs,q,r⟩:=h;exact⟨vs,x.roL q,r.mono x⟩
 ·
   obtain⟨vs,q,r⟩:=h;rcases e with e|e
   ·exact⟨vs,e.trans q,r.mono x⟩
   ·exact e.elim
 ·obtain⟨vs,o,q,r⟩:=h;exact⟨vs,o,x.frz _ _ _ q,r.mono x⟩
theorem l7.some_of(h:l7 c μ H a o)(n:¬L4 (some o)):∃u,H a=some u/\(∀xs,u≠ .tup xs)/\∀o' u',u≠ .frz o' u':=by
 rcases o with l|l|l|l
 ·obtain⟨vs,q,_⟩:=h;exact⟨_,q,(λ_ z=>nomatch z),(λ_ _ z=>nomatch z)⟩
 ·exact(n trivial).elim
 ·obtain⟨vs,q,_⟩:=h;exact⟨_,q,(λ_ z=>nomatch z),(λ_ _ z=>nomatch z)⟩
 ·exact(n trivial).elim
theorem m6.same(h:m6 c μ G H)(k:Ext μ H μ H')(e:∀a o,H a=some o->(∀xs,o≠ .tup xs)->H' a=some o):m6 c μ G H':=
 ⟨h.len,h.inj,λi o a g m=>by
  have q:=h.obj i o a g m;by_cases hr:L4 (some o)
  ·exact q.mono k (.inr hr)
  ·obtain⟨u,e1,n1,n2⟩:=q.some_of hr;exact q.mono k (.inl ((e a u e1 n1).trans e1.symm))⟩
theorem m6.new{p:Addr}(h:m6 c μ G H)(hp:H p=none)(ho:l7 c (μ++[p]) (upd H p u) p o):m6 c (μ++[p]) (G++[o]) (upd H p u):=by
 have k:Ext μ H (μ++[p]) (upd H p u):=Ext.add hp u;have old:∀(i:Nat) (a:Addr),i<μ.length->(μ++[p])[i]? =some a->μ[i]? =some a:=λi a hi e=>by rw[zE hi]at e;exact e
 refine⟨by simp[h.len],λi j a ei ej=>?_,λi o' a g m=>?_⟩
 · have li:=lt_of_get ei;have lj:=lt_of_get ej;simp only[zd,jE]at li lj;by_cases hi:i<μ.length
   · have mi:=old i a hi ei;have gi:(G++[o])[i]? =G[i]? :=zE (by rw[<-h.len];exact hi);by_cases hj:j<μ.length
     ·have mj:=old j a hj ej;have gj:(G++[o])[j]? =G[j]? :=zE (by rw[<-h.len];exact hj);rw[gi,gj];exact h.inj i j a mi mj
     · -- j is the new one:a=p
       have ej':j=μ.length:=by lia
       subst ej';have ea:a=p:=by simpa using ej.symm
       subst ea;right;left;rw[gi];have hg:i<G.length:=by rw[<-h.len];exact hi
       have q:=h.obj i G[i] a (zo hg) mi;rw[zo hg];refine jb λn=>?_;obtain⟨u',e1,_⟩:=q.some_of n;rw[hp]at e1;exact v6 e1
   · have ei':i=μ.length:=by lia
     by_cases hj:j<μ.length
     · have mj:=old j a hj ej;have gj:(G++[o])[j]? =G[j]? :=zE (by rw[<-h.len];exact hj);subst ei';have ea:a=p:=by simpa using ei.symm
       subst ea;right;right;rw[gj];have hg:j<G.length:=by rw[<-h.len];exact hj
       have q:=h.obj j G[j] a (zo hg) mj;rw[zo hg];refine jb λn=>?_;obtain⟨u',e1,_⟩:=q.some_of n;rw[hp]at e1;exact v6 e1
     ·left;lia
 · have li:=lt_of_get m;simp only[zd,jE]at li;by_cases hi:i<μ.length
   · have mi:=old i a hi m;rw[zE (by rw[<-h.len];exact hi)]at g;have q:=h.obj i o' a g mi;by_cases hr:L4 (some o')
     ·exact q.mono k (.inr hr)
     ·obtain⟨u',e1,_⟩:=q.some_of hr;exact q.mono k (.inl (m8 (o4 e1 hp)))
   · have ei':i=μ.length:=by lia
     subst ei';have ea:a=p:=by simpa using m.symm
     subst ea;rw[h.len]at g;have eo:o'=o:=by simpa using g.symm
     subst eo;exact ho
theorem m6.set{o o':DO}{u:HO}(h:m6 c μ G H)(g:G[i]? =some o)(n:¬L4 (some o))(m:μ[i]? =some a)(k:Ext μ H μ (upd H a u))(n':¬L4 (some o'))(ho:l7 c μ (upd H a u) a o'):m6 c μ (G.set i o') (upd H a u):=by
 have hi:i<G.length:=lt_of_get g;have get:∀j,(G.set i o')[j]? =if i=j then some o' else G[j]? :=λj=>by
  rw[Xt];by_cases e:i=j
  ·subst e;simp[hi]
  ·simp[e]
 refine⟨by simp[h.len],λj l b ej el=>?_,λj o2 b gj mj=>?_⟩
 · rcases h.inj j l b ej el with e|e|e
   ·exact .inl e
   · by_cases ij:i=j
     ·subst ij;rw[g]at e;exact(n e).elim
     ·right;left;rw[get,if_neg ij];exact e
   · by_cases ij:i=l
     ·subst ij;rw[g]at e;exact(n e).elim
     ·right;right;rw[get,if_neg ij];exact e
 · rw[get]at gj;by_cases ij:i=j
   · subst ij;rw[if_pos rfl]at gj
     cases gj
     rw[m]at mj
     cases mj
     exact ho
   · rw[if_neg ij]at gj;have q:=h.obj j o2 b gj mj;by_cases hr:L4 (some o2)
     ·exact q.mono k (.inr hr)
     · have nb:b≠a:=λe=>by
        subst e;rcases h.inj i j b m mj with e|e|e
        ·exact ij e
        ·rw[g]at e;exact n e
        ·rw[gj]at e;exact hr e
       exact q.mono k (.inl (m8 nb))
def u9(c:Wc)(μ:List Addr)(H:Hp)(X2:DSt)(σ:St):Prop:=X2.length=σ.length/\∀(i:Nat) (d:D),X2[i]? =some (some d)->∃v,σ[i]? =some (some v)/\d7 c μ H d v
theorem u9.mono(x:Ext μ H X9 H')(h:u9 c μ H X2 σ):u9 c X9 H' X2 σ:=
 ⟨h.1,λi d e=>let ⟨v,a,b⟩:=h.2 i d e;⟨v,a,b.mono x⟩⟩
theorem u9.put(h:u9 c μ H X2 σ)(r:d7 c μ H d v)(i:Nat):u9 c μ H (X2.set i (some d)) (σ.set i (some v)):=by
 refine⟨by simp[h.1],λj d' e=>?_⟩;rw[Xt]at e ⊢;by_cases ij:i=j
 · subst ij;rw[if_pos rfl]at e ⊢;rw[<-h.1];split at e
   · rename_i hl;rw[if_pos hl]
     cases e
     exact⟨v,rfl,r⟩
   ·exact v6 e
 ·rw[if_neg ij]at e ⊢;exact h.2 j d' e
end
def M(α:Type):=DH->Option (Except Str α×DH)
namespace M
def pure{α:Type}(a:α):M α:=λG=>some (.ok a,G)
def bind{α β:Type}(m:M α)(f:α->M β):M β:=λG=>match m G with
 |none=>none
 |some (.ok a,G1)=>f a G1
 |some (.error x,G1)=>some (.error x,G1)
def stuck{α:Type}:M α:=λ_=>none
end M
instance:Monad M:={pure:=M.pure,bind:=M.bind}
theorem M.bind_eq(m:M α)(f:α->M β)(G:DH):(m >>= f) G=match m G with
 |none=>none
 |some (.ok a,G1)=>f a G1
 |some (.error x,G1)=>some (.error x,G1):=rfl
theorem M.bind_ok{f:α->M β}(h:m G=some (.ok a,G1)):(m >>= f) G=f a G1:=by rw[M.bind_eq,h]
theorem M.bind_assoc(m:M α)(f:α->M β)(g:β->M γ):((m >>= f) >>= g)= (m >>= λa=>f a >>= g):=by
 funext G;simp only[M.bind_eq];rcases m G with _|p
 ·rfl
 ·obtain⟨r,G1⟩:=p;cases r<;>rfl
abbrev XC:=Str->List Addr->DH->Hp->Prop
def ZF:XC:=λ_ _ _ _=>False
def c7{α:Type}(c:Wc)(Z:XC)(μ:List Addr)(H:Hp)(r:Option (Except Str α×DH))(K:α->List Addr->DH->Hp->Prop):Prop:=
 match r with
 |none=>False
 |some (.ok a,G')=>∀ X9 H',Ext μ H X9 H'->m6 c X9 G' H'->K a X9 G' H'
 |some (.error x,G')=>∀ X9 H',Ext μ H X9 H'->m6 c X9 G' H'->Z x X9 G' H'
section
theorem c7.mono{K K':α->List Addr->DH->Hp->Prop}(h:c7 c Z μ H r K)
 (k:∀a X9 G' H',Ext μ H X9 H'->m6 c X9 G' H'->K a X9 G' H'->K' a X9 G' H'):c7 c Z μ H r K':=by
 match r,h with
 |some (.ok a,G'),h=>exact λX9 H' p e=>k a X9 G' H' p e (h X9 H' p e)
 |some (.error x,G'),h=>exact h
theorem c7.from{K:α->List Addr->DH->Hp->Prop}(h:c7 c Z μ H r K)(p:Ext μ H X9 H'):c7 c Z X9 H' r K:=by
 match r,h with
 |some (.ok a,G'),h=>exact λWX H2 p2 e=>h WX H2 (p.trans p2) e
 |some (.error x,G'),h=>exact λWX H2 p2 e=>h WX H2 (p.trans p2) e
theorem c7.bind{m:M α}{K:β->List Addr->DH->Hp->Prop}(h:c7 c Z μ H ((m >>= f) G) K):
 c7 c Z μ H (m G) (λa X9 G' H'=>c7 c Z X9 H' (f a G') K):=by
 rw[M.bind_eq]at h
 match m G,h with
 |some (.ok a,G'),h=>exact λX9 H' p e=>c7.from h p
 |some (.error x,G'),h=>exact h
theorem c7.ok{K:α->List Addr->DH->Hp->Prop}(h:c7 c Z μ H (some (.ok a,G)) K)(e:m6 c μ G H):K a μ G H:=h μ H (Ext.refl _ _) e
end
inductive Fl where
 |nx (σ:DSt)|rt (d:D)|bk (σ:DSt)|ct (σ:DSt)
section
variable(c:Wc)(Z:XC)
def d5(f:DSt->M D):TE:=λσ H Q=>∃X2 μ G,u9 c μ H X2 σ/\m6 c μ G H/\c7 c Z μ H (f X2 G) λd X9 _ H'=>∀v,d7 c X9 H' d v->Q v H'
def QA(f:DSt->M Bool):TT:=λσ H Q=>∃X2 μ G,u9 c μ H X2 σ/\m6 c μ G H/\c7 c Z μ H (f X2 G) λb X9 _ H'=>Q b H'
def nE(f:DSt->M (List D)):TA:=λσ H Q=>∃X2 μ G,u9 c μ H X2 σ/\m6 c μ G H/\c7 c Z μ H (f X2 G) λds X9 _ H'=>∀vs,j9 c X9 H' ds vs->Q vs H'
def fB(E:gA)(fl:Fl)(μ:List Addr)(H:Hp):Prop:=match fl with
 | .nx X2=>∀ σ,u9 c μ H X2 σ->E.nx σ H
 | .rt d=>∀v,d7 c μ H d v->E.rt v H
 | .bk X2=>∀ σ,u9 c μ H X2 σ->E.bk σ H
 | .ct X2=>∀ σ,u9 c μ H X2 σ->E.ct σ H
def KA(f:DSt->M Fl):TS:=λE σ H=>∃X2 μ G,u9 c μ H X2 σ/\m6 c μ G H/\c7 c Z μ H (f X2 G) λfl X9 _ H'=>fB c E fl X9 H'
end
theorem d5.elim{P:Prop}{H:Hp}{Q:VK}(h:d5 c Z f σ H Q)(k:∀X2 μ G,u9 c μ H X2 σ->m6 c μ G H->c7 c Z μ H (f X2 G) (λd X9 _ H'=>∀v,d7 c X9 H' d v->Q v H')->P):P:=by obtain⟨e0,e1,e2,e3,e4,e5⟩:=h;exact k e0 e1 e2 e3 e4 e5
theorem QA.elim{P:Prop}{σ:St}{H:Hp}(h:QA c Z f σ H Q)(k:∀X2 μ G,u9 c μ H X2 σ->m6 c μ G H->c7 c Z μ H (f X2 G) (λb X9 _ H'=>Q b H')->P):P:=by obtain⟨e0,e1,e2,e3,e4,e5⟩:=h;exact k e0 e1 e2 e3 e4 e5
theorem nE.elim{P:Prop}{σ:St}{H:Hp}(h:nE c Z f σ H Q)(k:∀X2 μ G,u9 c μ H X2 σ->m6 c μ G H->c7 c Z μ H (f X2 G) (λds X9 _ H'=>∀vs,j9 c X9 H' ds vs->Q vs H')->P):P:=by obtain⟨e0,e1,e2,e3,e4,e5⟩:=h;exact k e0 e1 e2 e3 e4 e5
theorem KA.elim{P:Prop}{σ:St}{H:Hp}(h:KA c Z f E σ H)(k:∀X2 μ G,u9 c μ H X2 σ->m6 c μ G H->c7 c Z μ H (f X2 G) (λfl X9 _ H'=>fB c E fl X9 H')->P):P:=by obtain⟨e0,e1,e2,e3,e4,e5⟩:=h;exact k e0 e1 e2 e3 e4 e5
structure DE(X:Cx)(Z:XC)(e:Expr)(f:DSt->M D):Prop where
 h:PE X e (d5 (wc X) Z f)
structure DT(X:Cx)(Z:XC)(e:Expr)(f:DSt->M Bool):Prop where
 h:PT X e (QA (wc X) Z f)
structure DA(X:Cx)(Z:XC)(e:List Expr)(f:DSt->M (List D)):Prop where
 h:PA X e (nE (wc X) Z f)
structure DS(X:Cx)(Z:XC)(e:Stmt)(f:DSt->M Fl):Prop where
 h:PS X e (KA (wc X) Z f)
structure DB(X:Cx)(Z:XC)(e:List Stmt)(f:DSt->M Fl):Prop where
 h:PSs X e (KA (wc X) Z f)
theorem PE.mono(h:PE X e t)(k:∀ σ H Q,t' σ H Q->t σ H Q):PE X e t':=λpins s σ H Q I q=>h pins s σ H Q I (k σ H Q q)
theorem PT.mono(h:PT X e t)(k:∀ σ H Q,t' σ H Q->t σ H Q):PT X e t':=λpins s σ H Q I q=>h pins s σ H Q I (k σ H Q q)
theorem PW.mono(h:PW X e t)(k:∀ σ H Q,t' σ H Q->t σ H Q):PW X e t':=λwh pins s σ H Q I q=>h wh pins s σ H Q I (k σ H Q q)
theorem PA.mono(h:PA X e t)(k:∀ σ H Q,t' σ H Q->t σ H Q):PA X e t':=λpos pins s σ H Q I q=>h pos pins s σ H Q I (k σ H Q q)
theorem PS.mono(h:PS X e t)(k:∀E σ H,t' E σ H->t E σ H):PS X e t':=λpins s σ H E I q=>h pins s σ H E I (k E σ H q)
theorem PSs.mono(h:PSs X e t)(k:∀E σ H,t' E σ H->t E σ H):PSs X e t':=λpins s σ H E I q=>h pins s σ H E I (k E σ H q)
theorem DE.of(h:PE X e t)(k:∀ σ H Q,d5 (wc X) Z f σ H Q->t σ H Q):DE X Z e f:=⟨PE.mono h k⟩
theorem DT.of(h:PT X e t)(k:∀ σ H Q,QA (wc X) Z f σ H Q->t σ H Q):DT X Z e f:=⟨PT.mono h k⟩
theorem DA.of(h:PA X e t)(k:∀ σ H Q,nE (wc X) Z f σ H Q->t σ H Q):DA X Z e f:=⟨PA.mono h k⟩
theorem DS.of(h:PS X e t)(k:∀E σ H,KA (wc X) Z f E σ H->t E σ H):DS X Z e f:=⟨PS.mono h k⟩
theorem DB.of(h:PSs X e t)(k:∀E σ H,KA (wc X) Z f E σ H->t E σ H):DB X Z e f:=⟨PSs.mono h k⟩
end DL
namespace DL
open PySem PySem.Spec L2
open PyProof.Rows hiding St
def S5:Expr->Bool
 | .Starred ..=>false
 |_=>true
theorem l6(h:S5 e=true):zX (e::es) env= (false,eval e env)::zX es env:=by
 cases e<;>first
  |rfl
  |exact cG h
theorem gB(h:S5 e=true):zX [e] env= [(false,eval e env)]:=l6 h
theorem lU(h:S5 a=true)(h':S5 b=true):zX [a,b] env= [(false,eval a env),(false,eval b env)]:=by rw[l6 h,gB h']
abbrev Fe:=DSt->M D
def U0(i:Nat):Fe:=λσ G=>match σ[i]? with
 |some (some d)=>some (.ok d,G)
 |_=>none
def cE(d:D):Fe:=λ_=>pure d
def binE(o:D->D->M D)(a b:Fe):Fe:=λσ=>do o (<-a σ) (<-b σ)
def unE(o:D->M D)(a:Fe):Fe:=λσ=>do o (<-a σ)
def o0:DSt->M (List D):=λ_=>pure []
def B0(a:Fe)(r:DSt->M (List D)):DSt->M (List D):=λσ=>do
 let x <-a σ
 let xs <-r σ
 pure (x::xs)
def P2(F:List D->M D)(a:DSt->M (List D)):Fe:=λσ=>do F (<-a σ)
def CD:D->M Bool
 | .bl b=>pure b
 |_=>M.stuck
def gI(a:Fe):Fe:=λσ=>do pure (.bl (!(<-CD (<-a σ))))
def ifE(t:DSt->M Bool)(a b:Fe):Fe:=λσ=>do if <-t σ then a σ else b σ
section
variable(c:Wc)(Z:XC)
def CA(o:D->D->M D):R2:=λx y H Q=>∃dx dy μ G,d7 c μ H dx x/\d7 c μ H dy y/\m6 c μ G H/\c7 c Z μ H (o dx dy G) λd X9 _ H'=>∀v,d7 c X9 H' d v->Q v H'
def iJ(o:D->M D):V->Hp->VK->Prop:=λx H Q=>∃dx μ G,d7 c μ H dx x/\m6 c μ G H/\c7 c Z μ H (o dx G) λd X9 _ H'=>∀v,d7 c X9 H' d v->Q v H'
def KC(F:List D->M D):List V->Hp->VK->Prop:=λxs H Q=>∃ds μ G,j9 c μ H ds xs/\m6 c μ G H/\c7 c Z μ H (F ds G) λd X9 _ H'=>∀v,d7 c X9 H' d v->Q v H'
end
theorem CA.elim{P:Prop}{x:V}{y:V}{Q:VK}(h:CA c Z o x y H Q)(k:∀dx dy μ G,d7 c μ H dx x->d7 c μ H dy y->m6 c μ G H->c7 c Z μ H (o dx dy G) (λd X9 _ H'=>∀v,d7 c X9 H' d v->Q v H')->P):P:=by obtain⟨e0,e1,e2,e3,e4,e5,e6,e7⟩:=h;exact k e0 e1 e2 e3 e4 e5 e6 e7
theorem iJ.elim{P:Prop}{x:V}{Q:VK}(h:iJ c Z o x H Q)(k:∀dx μ G,d7 c μ H dx x->m6 c μ G H->c7 c Z μ H (o dx G) (λd X9 _ H'=>∀v,d7 c X9 H' d v->Q v H')->P):P:=by obtain⟨e0,e1,e2,e3,e4,e5⟩:=h;exact k e0 e1 e2 e3 e4 e5
theorem KC.elim{P:Prop}{H:Hp}{Q:VK}(h:KC c Z F xs H Q)(k:∀ds μ G,j9 c μ H ds xs->m6 c μ G H->c7 c Z μ H (F ds G) (λd X9 _ H'=>∀v,d7 c X9 H' d v->Q v H')->P):P:=by obtain⟨e0,e1,e2,e3,e4,e5⟩:=h;exact k e0 e1 e2 e3 e4 e5
structure OpD(X:Cx)(Z:XC)(f:zh->zh->Sem zh)(o:D->D->M D):Prop where
 h:OpR X f (CA (wc X) Z o)
structure UnD(X:Cx)(Z:XC)(f:zh->Sem zh)(o:D->M D):Prop where
 h:UnR X f (iJ (wc X) Z o)
structure O8(X:Cx)(Z:XC)(f:zh)(F:List D->M D):Prop where
 h:S9 X f (KC (wc X) Z F)
theorem OpR.mono(h:OpR X f r)(k:∀x y H Q,r' x y H Q->r x y H Q):OpR X f r':=λpins s σ H x y v u Q I rx ry q=>h pins s σ H x y v u Q I rx ry (k x y H Q q)
theorem S9.mono(h:S9 X f r)(k:∀xs H Q,r' xs H Q->r xs H Q):S9 X f r':=λpins s σ H xs us Q I rx q=>h pins s σ H xs us Q I rx (k xs H Q q)
theorem OpD.of(h:OpR X f r)(k:∀x y H Q,CA (wc X) Z o x y H Q->r x y H Q):OpD X Z f o:=⟨OpR.mono h k⟩
theorem O8.of(h:S9 X f r)(k:∀xs H Q,KC (wc X) Z F xs H Q->r xs H Q):O8 X Z f F:=⟨S9.mono h k⟩
section
variable{X:Cx}{Z:XC}{a b c e:Expr}{pos:Pos}
theorem lF(σ:St)(H:Hp)(Q:VK)(h:d5 cc Z (binE o fa fb) σ H Q):tOp (CA cc Z o) (d5 cc Z fa) (d5 cc Z fb) σ H Q:=by obtain⟨X2,μ,G,s,h,p⟩:=h;exact⟨X2,μ,G,s,h,(c7.bind p).mono λx X0 G1 H1 x' h1 p1 v rv=>⟨X2,X0,G1,s.mono x',h1,(c7.bind p1).mono λy WX G2 H2 x2 h2 p2 u ru=>⟨x,y,WX,G2,rv.mono x2,ru,h2,p2⟩⟩⟩
theorem gY(h:PE X e (CH i)):DE X Z e (U0 i):=DE.of h λσ H Q ki=>ki.elim λX2 μ G s h p=>by
 delta U0 at p;rcases he:X2[i]? with _|_|d
 ·rw[he]at p;exact p.elim
 ·rw[he]at p;exact p.elim
 ·rw[he]at p;obtain⟨v,e1,r⟩:=s.2 i d he;exact⟨v,e1,c7.ok p h v r⟩
theorem KD(h:PE X e (tC v))(r:∀ μ H,d7 (wc X) μ H d v):DE X Z e (cE d):=DE.of h λσ H Q ki=>ki.elim λX2 μ G s h p=>c7.ok p h v (r _ _)
theorem vh{i j pos}:DE X Z (.Constant (.int i) j pos) (cE (.int i)):=KD mL λ_ _=>by unfold d7;rfl
theorem uY{i j pos}:DE X Z (.Constant (.bool i) j pos) (cE (.bl i)):=KD wV λ_ _=>by unfold d7;rfl
theorem gv{j pos}:DE X Z (.Constant .none j pos) (cE .non):=KD aW λ_ _=>by unfold d7;rfl
theorem nY{i j pos}:DE X Z (.Constant (.str i) j pos) (cE (.str i)):=KD GO λ_ _=>by unfold d7;rfl
theorem bT(i:Nat)(hN:X.N[i]? =some x)(hv:Vis X.env.scope x)(hd:(x==("__debug__" :Str))=false)
 (hcd:(x==("__classdict__" :Str))=false):DE X Z (.Name x pos) (U0 i):=gY (EM hN hv hd hcd)
theorem wZ(ho:OpD X Z (yy op) o)(ha:DE X Z a fa)(hb:DE X Z b fb):DE X Z (.BinOp a op b pos) (binE o fa fb):=
 DE.of (tJ ho.h ha.h hb.h) lF
theorem Nh(ho:OpD X Z (zZ op) o)(ha:DE X Z a fa)(hb:DE X Z b fb)(hm:XD op b=false):DE X Z (.Compare a [op] [b] pos) (binE o fa fb):=
 DE.of (nZ ho.h ha.h hb.h hm) lF
theorem Tw(ho:UnD X Z (unaryOp op) o)(ha:DE X Z a fa):DE X Z (.UnaryOp op a pos) (unE o fa):=
 DE.of (iY ho.h ha.h) λσ H Q ki=>ki.elim λX2 μ G s h p=>⟨X2,μ,G,s,h,(c7.bind p).mono λx X0 G1 H1 x' h1 p1 v rv=>⟨x,X0,G1,rv,h1,p1⟩⟩
theorem EN{H:Hp}{d:D}{f:Bool->M α}{G:DH}{K:α->List Addr->DH->Hp->Prop}(p:c7 cc Z μ H ((CD d >>= f) G) K):∃k,d= .bl k/\c7 cc Z μ H (f k G) K:=by
 cases d with
 |bl k=>exact⟨k,rfl,p⟩
 |_=>exact p.elim
theorem Cg{op}(h:DE X Z a f):DE X Z (.BoolOp op [a] pos) f:=⟨bo h.h⟩
theorem Tz(ha:DE X Z a fa):DE X Z (.UnaryOp .Not a pos) (gI fa):=
 DE.of (Lh ha.h) λσ H Q ki=>ki.elim λX2 μ G s h p=>⟨X2,μ,G,s,h,(c7.bind p).mono λx X0 G1 H1 x' h1 p1 v rv=>by obtain⟨k',rfl,p2⟩:=EN p1;unfold d7 at rv;exact⟨k',rv,c7.ok p2 h1 _ (by unfold d7;rfl)⟩⟩
def l5(f:Fe):DSt->M Bool:=λσ=>do CD (<-f σ)
def Q2(a b:DSt->M Bool):DSt->M Bool:=λσ=>do if <-a σ then b σ else pure false
def orT(a b:DSt->M Bool):DSt->M Bool:=λσ=>do if <-a σ then pure true else b σ
def A6(a:DSt->M Bool):DSt->M Bool:=λσ=>do pure (!(<-a σ))
structure DW(X:Cx)(Z:XC)(e:Expr)(f:DSt->M Bool):Prop where
 h:PW X e (QA (wc X) Z f)
theorem DW.of(h:PW X e t)(k:∀ σ H Q,QA (wc X) Z f σ H Q->t σ H Q):DW X Z e f:=⟨PW.mono h k⟩
variable{ta tb:DSt->M Bool}{rest:List Expr}
theorem DW.dt(h:DW X Z a ta):DT X Z a ta:=⟨λpins s σ H Q I q=>h.h _ pins s σ H Q I q⟩
theorem bj(ho:OpD X Z (zZ op) o)(ha:DE X Z a fa)(hb:DE X Z b fb)(hm:XD op b=false):DT X Z (.Compare a [op] [b] pos) (l5 (binE o fa fb)):=
 DT.of (cU ho.h ha.h hb.h hm) λσ H Q ki=>ki.elim λX2 μ G s h p=>lF σ H _ ⟨X2,μ,G,s,h,(c7.bind p).mono λx X0 G1 H1 x' h1 p1 v rv=>by
  cases x with
  |bl k'=>unfold d7 at rv;exact⟨k',rv,c7.ok p1 h1⟩
  |_=>exact p1.elim⟩
theorem fX(ha:DT X Z a ta):DW X Z (.BoolOp .And [a] pos) ta:=⟨Qb ha.h⟩
theorem sT(ha:DT X Z a ta):DW X Z (.BoolOp .Or [a] pos) ta:=⟨dz ha.h⟩
theorem gw(ha:DT X Z a ta)(hb:DW X Z (.BoolOp .And (b::rest) pos) tb):DW X Z (.BoolOp .And (a::b::rest) pos) (Q2 ta tb):=
 DW.of (Qp ha.h hb.h) λσ H Q ki=>ki.elim λX2 μ G s h p=>⟨X2,μ,G,s,h,(c7.bind p).mono λx X0 G1 H1 x' h1 p1=>by
  cases x with
  |true=>exact⟨X2,X0,G1,s.mono x',h1,p1⟩
  |false=>exact c7.ok p1 h1⟩
theorem Pw(ha:DT X Z a ta)(hb:DW X Z (.BoolOp .Or (b::rest) pos) tb):DW X Z (.BoolOp .Or (a::b::rest) pos) (orT ta tb):=
 DW.of (Vx ha.h hb.h) λσ H Q ki=>ki.elim λX2 μ G s h p=>⟨X2,μ,G,s,h,(c7.bind p).mono λx X0 G1 H1 x' h1 p1=>by
  cases x with
  |false=>exact⟨X2,X0,G1,s.mono x',h1,p1⟩
  |true=>exact c7.ok p1 h1⟩
theorem Bv(ha:DT X Z a ta):DT X Z (.UnaryOp .Not a pos) (A6 ta):=
 DT.of (Mv ha.h) λσ H Q ki=>ki.elim λX2 μ G s h p=>⟨X2,μ,G,s,h,(c7.bind p).mono λx X0 G1 H1 x' h1 p1=>c7.ok p1 h1⟩
theorem dh(hc:DT X Z c ta)(ha:DE X Z a fa)(hb:DE X Z b fb):DE X Z (.IfExp c a b pos) (ifE ta fa fb):=
 DE.of (MX hc.h ha.h hb.h) λσ H Q ki=>ki.elim λX2 μ G s h p=>⟨X2,μ,G,s,h,(c7.bind p).mono λx X0 G1 H1 x' h1 p1=>by
  cases x with
  |true=>exact⟨X2,X0,G1,s.mono x',h1,p1⟩
  |false=>exact⟨X2,X0,G1,s.mono x',h1,p1⟩⟩
theorem pJ:DA X Z [] o0:=DA.of FZ λσ H Q ki=>ki.elim λX2 μ G s h p=>c7.ok p h [] rfl
theorem mH(ha:DE X Z e fa)(hr:DA X Z es fs)(hs:zX (e::es) X.env= (false,eval e X.env)::zX es X.env):DA X Z (e::es) (B0 fa fs):=
 DA.of (RV ha.h hr.h hs) λσ H Q ki=>ki.elim λX2 μ G s h p=>⟨X2,μ,G,s,h,(c7.bind p).mono λx X0 G1 H1 x' h1 p1 v rv=>
  ⟨X2,X0,G1,s.mono x',h1,(c7.bind p1).mono λxs WX G2 H2 x2 h2 p2 vs rvs=>c7.ok p2 h2 (v::vs) ⟨v,vs,rfl,rv.mono x2,rvs⟩⟩⟩
def t3(fs:DSt->M (List D)):Fe:=λσ=>do
 let xs <-fs σ
 if xs.length<=zk then pure (.tup xs)else M.stuck
def J8(o:DO):M D:=λG=>some (.ok (.ref G.length),G++[o])
def S7(fs:DSt->M (List D)):Fe:=λσ=>do
 let xs <-fs σ
 if xs.length<=zk then J8 (.lst xs)else M.stuck
theorem eF{G:DH}{Q:VK}(h:m6 cc μ G H)(r:j9 cc μ H xs vs)
 (p:c7 cc Z μ H (some (Except.ok (.tup xs),G)) λd X9 _ H'=>∀v,d7 cc X9 H' d v->Q v H') (q:Addr) (hq:H q=none):Q (.ref q) (upd H q (.tup vs)):=by
 have k:Ext μ H μ (upd H q (.tup vs)):=Ext.lay hq _;refine p μ _ k (h.same k λa o e n=>?_) _ ?_
 ·rw[m8 (o4 e hq)];exact e
 ·unfold d7;exact⟨q,vs,rfl,SqT.of w5,r.mono k⟩
theorem T7{G:DH}{Q:VK}(h:m6 cc μ G H)(r:j9 cc μ H xs vs)
 (p:c7 cc Z μ H (J8 (.lst xs) G) λd X9 _ H'=>∀v,d7 cc X9 H' d v->Q v H') (q:Addr) (hq:H q=none):Q (.ref q) (upd H q (.lst vs)):=by
 have k:Ext μ H (μ++[q]) (upd H q (.lst vs)):=Ext.add hq _;refine p (μ++[q]) _ k (h.new hq ⟨vs,w5,r.mono k⟩) _ ?_;unfold d7;exact⟨q,by rw[<-h.len];simp,rfl⟩
theorem aT{x1}(h:DA X Z es fs):DE X Z (.Tuple es x1 pos) (t3 fs):=
 DE.of (lV h.h) λσ H Q ki=>ki.elim λX2 μ G s h p=>⟨X2,μ,G,s,h,(c7.bind p).mono λxs X0 G1 H1 x' h1 p1 vs rv=>by
  split at p1
  ·rename_i hz;exact⟨by rw[<-rv.length];exact hz,λq hq=>eF h1 rv p1 q hq⟩
  ·exact p1.elim⟩
theorem Fv(h:DA X Z es fs):DE X Z (.List es pos) (S7 fs):=
 DE.of (Lf h.h) λσ H Q ki=>ki.elim λX2 μ G s h p=>⟨X2,μ,G,s,h,(c7.bind p).mono λxs X0 G1 H1 x' h1 p1 vs rv=>by
  split at p1
  ·rename_i hz;exact⟨by rw[<-rv.length];exact hz,λq hq=>T7 h1 rv p1 q hq⟩
  ·exact p1.elim⟩
theorem iM(σ:St)(H:Hp)(Q:VK)(h:d5 cc Z (P2 F fs) σ H Q):tCB (KC cc Z F) (nE cc Z fs) σ H Q:=by obtain⟨X2,μ,G,s,h,p⟩:=h;exact⟨X2,μ,G,s,h,(c7.bind p).mono λx X0 G1 H1 x' h1 p1 vs rv=>⟨x,X0,G1,rv,h1,p1⟩⟩
theorem Sx{id:String}(hc:O8 X Z (.builtin id) F)(hg:Gl X x)(hm:X.mg x=none)(hv:je x=some (.builtin id))(ha:DA X Z (e::es) fs)(hn:x≠ "__name__")(hdb:(x==("__debug__" :Str))=false)
 (he:zX (e::es) X.env= (false,eval e X.env)::zX es X.env) (nz:(xw pos (zX es X.env)).any (·.1)=false):DE X Z (.Call (.Name x p) (e::es) [] pos) (P2 F fs):=
 DE.of (gS hc.h hg hm hv ha.h hn hdb he nz) iM
theorem Cw(hc:O8 X Z (.type T) F)(hg:Gl X x)(hm:X.mg x=none)(hv:je x=some (.type T))(ha:DA X Z (e::es) fs)(hn:x≠ "__name__")(hdb:(x==("__debug__" :Str))=false)
 (he:zX (e::es) X.env= (false,eval e X.env)::zX es X.env) (nz:(xw pos (zX es X.env)).any (·.1)=false):DE X Z (.Call (.Name x p) (e::es) [] pos) (P2 F fs):=
 DE.of (bx hc.h hg hm hv ha.h hn hdb he nz) iM
def spD(c:Wc)(n:Nat)(F:List D->M D):Sp:=λvs H Q _=>vs.length=n/\∃ds μ G,j9 c μ H ds vs/\m6 c μ G H/\c7 c ZF μ H (F ds G) λd X9 _ H'=>∀v,d7 c X9 H' d v->Q v H'
def noX{α:Type}(m:M α):M α:=λG=>match m G with
 |some (.ok a,G1)=>some (.ok a,G1)
 |_=>none
theorem PJ{H:Hp}{G:DH}{K:α->List Addr->DH->Hp->Prop}(p:c7 cc Z μ H (noX m G) K):c7 cc ZF μ H (m G) K:=by
 unfold noX at p
 match m G,p with
 |some (.ok a,G1),p=>exact p
 |some (.error x,G1),p=>exact p.elim
 |none,p=>exact p.elim
def fnX(n:Nat)(F:List D->M D):List D->M D:=λds=>if ds.length=n then noX (F ds)else M.stuck
theorem nT{H:Hp}{n:Nat}{G:DH}{K:D->List Addr->DH->Hp->Prop}(p:c7 cc Z μ H (fnX n F ds G) K):ds.length=n/\c7 cc ZF μ H (F ds G) K:=by
 unfold fnX at p;split at p
 ·rename_i h;exact⟨h,PJ p⟩
 ·exact p.elim
theorem vm(hF:E2 X.prog X.w X.K X.mg X.base CX0 k f fd ps (spD (wc X) n F))(hr:O3 k X.A)(hg:Gl X x)(hm:X.mg x=some (.ref f))(hk:yM X.K (.ref f)=true)(hb:A4 X.K fd ps [])
 (ha:DA X Z (e::es) fs)
 (hdb:(x==("__debug__" :Str))=false) (he:zX (e::es) X.env= (false,eval e X.env)::zX es X.env) (nz:(xw pos (zX es X.env)).any (·.1)=false):
 DE X Z (.Call (.Name x p) (e::es) [] pos) (P2 (fnX n F) fs):=
 DE.of (DZ hF hr hg hm hk hb .nil lL ha.h hdb he nz) λσ H Q ki=>ki.elim λX2 μ G s h p=>by refine⟨X2,μ,G,s,h,(c7.bind p).mono λds' X0 G1 H1 x' h1 p1 vs rv=>?_⟩;obtain⟨hl,p2⟩:=nT p1;show spD (wc X) n F (vs++[]) H1 Q E0;rw[jT];exact⟨by rw[<-rv.length];exact hl,ds',X0,G1,rv,h1,p2⟩
end
abbrev Fs:=DSt->M Fl
def u0:Fs:=λσ=>pure (.nx σ)
def f9(a b:Fs):Fs:=λσ=>do
 match <-a σ with
 | .nx X1=>b X1
 |r=>pure r
def t7(f:Fe):Fs:=λσ=>do pure (.rt (<-f σ))
def T4(f:Fe):Fs:=λσ=>do
 let _ <-f σ
 pure (.nx σ)
def ifS(t:DSt->M Bool)(a b:Fs):Fs:=λσ=>do if <-t σ then a σ else b σ
abbrev Fg:=D->DSt->M DSt
abbrev Fgs:=List D->DSt->M DSt
def D3(i:Nat):Fg:=λd σ=>pure (σ.set i (some d))
def w8:Fgs:=λds σ=>match ds with
 |[]=>pure σ
 |_=>M.stuck
def X8(g:Fg)(r:Fgs):Fgs:=λds σ=>match ds with
 |d::t=>do r t (<-g d σ)
 |[]=>M.stuck
def C8(n:Nat)(g:Fgs):Fg:=λd σ=>match d with
 | .tup l=>if l.length=n then g l σ else M.stuck
 |_=>M.stuck
def v7(f:Fe)(g:Fg):Fs:=λσ=>do
 let d <-f σ
 let X1 <-g d σ
 pure (.nx X1)
section
variable(c:Wc)(Z:XC)
def BB(g:Fg):TG:=λv σ H Q=>∃d X2 μ G,d7 c μ H d v/\u9 c μ H X2 σ/\m6 c μ G H/\c7 c Z μ H (g d X2 G) λWV X9 _ H'=>∀ X1,u9 c X9 H' WV X1->Q X1 H'
def NE(g:Fgs):TGs:=λvs σ H Q=>∃ds X2 μ G,j9 c μ H ds vs/\u9 c μ H X2 σ/\m6 c μ G H/\c7 c Z μ H (g ds X2 G) λWV X9 _ H'=>∀ X1,u9 c X9 H' WV X1->Q X1 H'
end
theorem BB.elim{P:Prop}{v:V}{σ:St}{H:Hp}(h:BB c Z g v σ H Q)(k:∀d X2 μ G,d7 c μ H d v->u9 c μ H X2 σ->m6 c μ G H->c7 c Z μ H (g d X2 G) (λWV X9 _ H'=>∀ X1,u9 c X9 H' WV X1->Q X1 H')->P):P:=by obtain⟨e0,e1,e2,e3,e4,e5,e6,e7⟩:=h;exact k e0 e1 e2 e3 e4 e5 e6 e7
theorem NE.elim{Z:XC}{P:Prop}{σ:St}{H:Hp}(h:NE c Z g vs σ H Q)(k:∀ds X2 μ G,j9 c μ H ds vs->u9 c μ H X2 σ->m6 c μ G H->c7 c Z μ H (g ds X2 G) (λWV X9 _ H'=>∀ X1,u9 c X9 H' WV X1->Q X1 H')->P):P:=by obtain⟨e0,e1,e2,e3,e4,e5,e6,e7⟩:=h;exact k e0 e1 e2 e3 e4 e5 e6 e7
structure DG(X:Cx)(Z:XC)(tg:Expr)(g:Fg):Prop where
 h:PG X tg (BB (wc X) Z g)
structure DGs(X:Cx)(Z:XC)(tgs:List Expr)(g:Fgs):Prop where
 h:PGs X tgs (NE (wc X) Z g)
theorem PG.mono(h:PG X e t)(k:∀v σ H Q,t' v σ H Q->t v σ H Q):PG X e t':=λpins s σ H v u Q I r q=>h pins s σ H v u Q I r (k v σ H Q q)
theorem PGs.mono(h:PGs X e t)(k:∀v σ H Q,t' v σ H Q->t v σ H Q):PGs X e t':=λpins s σ H v u Q I r q=>h pins s σ H v u Q I r (k v σ H Q q)
theorem DG.of(h:PG X e t)(k:∀v σ H Q,BB (wc X) Z g v σ H Q->t v σ H Q):DG X Z e g:=⟨PG.mono h k⟩
theorem DGs.of(h:PGs X e t)(k:∀v σ H Q,NE (wc X) Z g v σ H Q->t v σ H Q):DGs X Z e g:=⟨PGs.mono h k⟩
section
variable{X:Cx}{Z:XC}{st:Stmt}{rest sa sb:List Stmt}{f g:Fs}
theorem iS:DB X Z [] u0:=DB.of ah λE σ H ki=>ki.elim λX2 μ G s h p=>c7.ok p h σ s
theorem pW(h:m6 cc μ G H)
 (p:c7 cc Z μ H ((match fl with| .nx X1=>g X1|r=>pure r:M Fl) G) λfl X9 _ H'=>fB cc E fl X9 H'):fB cc {E with nx:=KA cc Z g E} fl μ H:=by
 cases fl with
 |nx X2=>exact λσ s=>⟨X2,μ,G,s,h,p⟩
 |rt d=>exact c7.ok p h
 |bk X2=>exact c7.ok p h
 |ct X2=>exact c7.ok p h
theorem kP(h1:DS X Z st f)(h2:DB X Z rest g):DB X Z (st::rest) (f9 f g):=
 DB.of (Qx h1.h h2.h) λE σ H ki=>ki.elim λX2 μ G s h p=>⟨X2,μ,G,s,h,(c7.bind p).mono λfl X0 G1 H1 x' h1 p1=>pW h1 p1⟩
theorem VP(h1:DS X Z st f):DB X Z [st] f:=⟨wf h1.h⟩
theorem Mm(he:DE X Z e fa)(hs:swapsWith e none pos.line X.env=pure false):DS X Z (.Expr e pos) (T4 fa):=
 DS.of (qh he.h hs) λE σ H ki=>ki.elim λX2 μ G s h p=>⟨X2,μ,G,s,h,(c7.bind p).mono λd X0 G1 H1 x' h1 p1 v rv=>c7.ok p1 h1 σ (s.mono x')⟩
theorem dZ(he:DE X Z e fa):DS X Z (.Return (some e) pos) (t7 fa):=
 DS.of (Rc he.h) λE σ H ki=>ki.elim λX2 μ G s h p=>⟨X2,μ,G,s,h,(c7.bind p).mono λd X0 G1 H1 x' h1 p1 v rv=>c7.ok p1 h1 v rv⟩
theorem lT(hc:DT X Z c t)(ha:DB X Z sa f)(hb:DB X Z sb g):DS X Z (.If c sa sb pos) (ifS t f g):=
 DS.of (dS hc.h ha.h hb.h) λE σ H ki=>ki.elim λX2 μ G s h p=>⟨X2,μ,G,s,h,(c7.bind p).mono λx X0 G1 H1 x' h1 p1=>by
  cases x with
  |true=>exact⟨X2,X0,G1,s.mono x',h1,p1⟩
  |false=>exact⟨X2,X0,G1,s.mono x',h1,p1⟩⟩
theorem bR{x:Str}(hN:X.N.Nodup)(hi:X.N[i]? =some x)(hx:Loc X.env.scope x)(hf:X.fn x=true\/X.env.scope.names.lookup x=some .local):DG X Z (.Name x pos) (D3 i):=
 DG.of (gW hN hi hx hf) λv σ H Q ki=>ki.elim λd X2 μ G r s h p=>c7.ok p h _ (s.put r i)
theorem Db:DGs X Z [] w8:=DGs.of Vq λvs σ H Q ki=>ki.elim λds X2 μ G r s h p=>by
 cases ds with
 |nil=>cases r;exact⟨rfl,c7.ok p h _ s⟩
 |cons _ _=>exact p.elim
theorem vX(h1:DG X Z e gg)(h2:DGs X Z es gr)(hs:(xx (e::es) X.env).map (·.2)=YK e X.env::(xx es X.env).map (·.2)):DGs X Z (e::es) (X8 gg gr):=
 DGs.of (Sh h1.h h2.h hs) λvs σ H Q ki=>ki.elim λds X2 μ G r s h p=>by
  cases ds with
  |nil=>exact p.elim
  |cons d t=>
    obtain⟨v,vr,rfl,rv,rt⟩:=r;exact⟨v,vr,rfl,d,X2,μ,G,rv,s,h,(c7.bind p).mono λdσ1 X0 G1 H1 x' h1 p1 WY s1=>⟨t,dσ1,X0,G1,rt.mono x',s1,h1,p1⟩⟩
theorem Mw{gs:Fgs}(hc:X.calm=true)(h:DGs X Z es gs)(hn:(xx es X.env).length=n)(hst:(xx es X.env).findIdx? (·.1)=none):DG X Z (.Tuple es k pos) (C8 n gs):=
 DG.of (rX hc h.h hn hst) λv σ H Q ki=>ki.elim λd X2 μ G r s h p=>by
  cases d with
  |tup l=>
    unfold d7 at r;obtain⟨a,vs,rfl,q,rl⟩:=r;have p':c7 (wc X) Z μ H ((if l.length=n then gs l X2 else M.stuck:M DSt) G) λWV X9 _ H'=>∀ X1,u9 (wc X) X9 H' WV X1->Q X1 H':=p;split at p'
    ·rename_i hl;exact⟨a,vs,rfl,q,by rw[<-rl.length];exact hl,l,X2,μ,G,rl,s,h,p'⟩
    ·exact p'.elim
  |_=>exact p.elim
theorem aS(he:DE X Z e fa)(hg:DG X Z tg gg)(hs:swapsWithSole [tg] e pos.line X.env=pure false)(hw:swappedStores [tg] e X.env=pure none)
 (h1:(xx [tg] X.env).map (·.2)= [YK tg X.env]):DS X Z (.Assign [tg] e pos) (v7 fa gg):=
 DS.of (sS he.h hg.h hs hw h1) λE σ H ki=>ki.elim λX2 μ G s h p=>⟨X2,μ,G,s,h,(c7.bind p).mono λd X0 G1 H1 x' h1 p1 v rv=>
  ⟨d,X2,X0,G1,rv,s.mono x',h1,(c7.bind p1).mono λdσ2 WX G2 H2 x2 h2 p2 σ2 s2=>c7.ok p2 h2 σ2 s2⟩⟩
end
def K9:Nat->(DSt->M Bool)->Fs->Fs
 |0,_,_=>λ_=>M.stuck
 |n+1,t,b=>λσ=>do
   if <-t σ then
    match <-b σ with
    | .nx X1=>K9 n t b X1
    | .ct X1=>K9 n t b X1
    | .bk X1=>pure (.nx X1)
    | .rt d=>pure (.rt d)
   else pure (.nx σ)
open Classical in
def V6(t:DSt->M Bool)(b:Fs):Fs:=λσ G=>if h:∃n,(K9 n t b σ G).isSome=true then K9 (Xb h) t b σ G else none
theorem M.bind_mono{f g:α->M β}{r:Except Str β×DH}(h:(m >>= f) G=some r)(k:∀a G',f a G'=some r->g a G'=some r):(m >>= g) G=some r:=by
 rw[M.bind_eq]at h ⊢
 match m G,h with
 |some (.ok a,G'),h=>exact k a G' h
 |some (.error x,G'),h=>exact h
theorem aK{t:DSt->M Bool}:∀ {n} {σ} {G:DH} {r:Except Str Fl×DH},K9 n t b σ G=some r->K9 (n+1) t b σ G=some r
 |0,_,_,_,h=>by exact v6 h
 |n+1,σ,G,r,h=>by
   unfold K9 at h ⊢;refine M.bind_mono h λc G1 h1=>?_
   cases c with
   |true=>
     refine M.bind_mono h1 λfl G2 h2=>?_
     cases fl with
     |nx X1=>exact aK h2
     |ct X1=>exact aK h2
     |bk X1=>exact h2
     |rt d=>exact h2
   |false=>exact h1
theorem wO(hm:n<=m)(h:K9 n t b σ G=some r):K9 m t b σ G=some r:=by
 induction hm with
 |refl=>exact h
 |step _ ih=>exact aK ih
section
theorem ae(hp:PassesOwn (zC X.prog X.w) X.A X.env X.xe)(hc:DT X Z c t)(hb:DB X Z body f):DS X Z (.While c body [] pos) (V6 t f):=
 DS.of (BS hp hc.h hb.h) λE σ H ki=>ki.elim λX2 μ G s h p=>by
  unfold V6 at p;split at p
  · rename_i ex;refine⟨λm σ H=>∃X2 μ G,u9 (wc X) μ H X2 σ/\m6 (wc X) μ G H/\c7 (wc X) Z μ H (K9 m t f X2 G) λfl X9 _ H'=>fB (wc X) E fl X9 H',⟨_,X2,μ,G,s,h,p⟩,?_⟩;rintro m σ H ⟨X2,μ,G,s,h,p⟩
    cases m with
    |zero=>exact p.elim
    |succ m=>
      refine⟨X2,μ,G,s,h,(c7.bind p).mono λx X0 G1 H1 x' h1 p1=>?_⟩
      cases x with
      |false=>exact c7.ok p1 h1 σ (s.mono x')
      |true=>
        refine⟨λX1 H'=>∃X2 μ G,u9 (wc X) μ H' X2 X1/\m6 (wc X) μ G H'/\c7 (wc X) Z μ H' (K9 m t f X2 G) λfl X9 _ H'=>fB (wc X) E fl X9 H',λX1 H' w=>⟨m,xL _,w⟩,X2,X0,G1,s.mono x',h1,(c7.bind p1).mono λfl WX G2 H2 x2 h2 p2=>?_⟩
        cases fl with
        |nx WV=>exact λX1 s'=>⟨WV,WX,G2,s',h2,p2⟩
        |ct WV=>exact λX1 s'=>⟨WV,WX,G2,s',h2,p2⟩
        |bk WV=>exact λX1 s'=>c7.ok p2 h2 X1 s'
        |rt d=>exact λv r=>c7.ok p2 h2 v r
  ·exact p.elim
end
def B2(g:Fg)(b:Fs)(ck:DH->Bool):List D->Fs
 |[]=>λσ G=>if ck G then some (.ok (.nx σ),G)else none
 | d :: r => λσ G => if ck G then (do
    match <-b (<-g d σ) with
    | .nx X1=>B2 g b ck r X1
    | .ct X1=>B2 g b ck r X1
    | .bk X1=>pure (.nx X1)
    | .rt d=>pure (.rt d):M Fl) G else none
structure Src where
 items:List D
 ck:DH->Bool
def S3(it:DSt->M Src)(g:Fg)(b:Fs):Fs:=λσ=>do
 let s <-it σ
 B2 g b s.ck s.items σ
def ItD(c:Wc)(μ:List Addr)(H:Hp)(J:It)(s:Src):Prop:=∀ X9 G' H',Ext μ H X9 H'->m6 c X9 G' H'->s.ck G'=true->∀i:Nat,
 (∀d,s.items[i]? =some d->J.go i H'/\∀x H2,J.yld i H' x H2->Ext X9 H' X9 H2/\m6 c X9 G' H2/\d7 c X9 H2 d x)/\(s.items.length<=i->J.stop i H')
def aG(c:Wc)(Z:XC)(it:DSt->M Src):TI:=λσ H R=>∃X2 μ G,u9 c μ H X2 σ/\m6 c μ G H/\c7 c Z μ H (it X2 G) λs X9 _ H'=>∀J,ItD c X9 H' J s->R J H'
theorem aG.elim{P:Prop}{σ:St}{H:Hp}(h:aG c Z it σ H R)(k:∀X2 μ G,u9 c μ H X2 σ->m6 c μ G H->c7 c Z μ H (it X2 G) (λs X9 _ H'=>∀J,ItD c X9 H' J s->R J H')->P):P:=by obtain⟨e0,e1,e2,e3,e4,e5⟩:=h;exact k e0 e1 e2 e3 e4 e5
structure DI(X:Cx)(Z:XC)(tg e:Expr)(it:DSt->M Src):Prop where
 h:PI X tg e (aG (wc X) Z it)
theorem PI.mono(h:PI X tg e t)(k:∀ σ H R,t' σ H R->t σ H R):PI X tg e t':=λpins s σ H R I q=>h pins s σ H R I (k σ H R q)
theorem DI.of(h:PI X tg e t)(k:∀ σ H R,aG (wc X) Z it σ H R->t σ H R):DI X Z tg e it:=⟨PI.mono h k⟩
section
def dW(c:Wc)(E:gA)(fl:Fl)(μ:List Addr)(_:DH)(H:Hp):Prop:=fB c E fl μ H
inductive IN(c:Wc)(Z:XC)(gg:Fg)(f:Fs)(sr:Src)(E:gA)(X0:List Addr)(H1:Hp)(i:Nat)(σ:St)(H:Hp):Prop
 |mk (X2:DSt) (μ:List Addr) (G:DH) (k:Ext X0 H1 μ H) (s:u9 c μ H X2 σ) (h:m6 c μ G H) (p:c7 c Z μ H (B2 gg f sr.ck (sr.items.drop i) X2 G) (dW c E))
theorem SX(hp:PassesOwn (zC X.prog X.w) X.A X.env X.xe)(hc:X.calm=true)(hi:DI X Z tg iter it)(hg:DG X Z tg gg)(hb:DB X Z body f)(hs:∀x,xa iter X.env x=pure x):
 DS X Z (.For tg iter body [] pos) (S3 it gg f):=
 DS.of (wx hp hc hi.h hg.h hb.h hs) λE σ H ki=>ki.elim λX2 μ G s h p=>⟨X2,μ,G,s,h,(c7.bind p).mono λsr X0 G1 H1 x' h1 p1 J hJ=>by
  refine⟨λi m X1 H'=>m=sr.items.length-i/\i<=sr.items.length/\IN (wc X) Z gg f sr E X0 H1 i X1 H',
   ⟨sr.items.length,rfl,zD _,X2,X0,G1,Ext.refl _ _,s.mono x',h1,p1⟩,?_⟩
  rintro i m X1 H' ⟨rfl,hi',WV,X9,G',k',s',h',p'⟩;by_cases ky:i<sr.items.length
  · rw[ZO ky]at p';unfold B2 at p';split at p'
    · rename_i ck;obtain⟨q1,_⟩:=hJ X9 G' H' k' h' ck i;obtain⟨go,yl⟩:=q1 _ (zo ky);refine .inr ⟨go,λσ2 H2=>IN (wc X) Z gg f sr E X0 H1 (i+1) σ2 H2,λσ2 H2 w=>⟨sr.items.length-(i+1),YM _ _ ky,rfl,ky,w⟩,λx H2 y=>?_⟩;obtain⟨k2,h2,rx⟩:=yl x H2 y;have p2:=c7.bind (p'.from k2);refine⟨_,WV,X9,G',rx,s'.mono k2,h2,p2.mono λdσ3 WN G3 H3 x3 h3 p3 WJ s3=>?_⟩;refine⟨dσ3,WN,G3,s3,h3,(c7.bind p3).mono λfl WI G4 H4 x4 h4 p4=>?_⟩
      cases fl with
      |nx dσ4=>exact λσ4 s4=>⟨dσ4,WI,G4,k'.trans (k2.trans (x3.trans x4)),s4,h4,p4⟩
      |ct dσ4=>exact λσ4 s4=>⟨dσ4,WI,G4,k'.trans (k2.trans (x3.trans x4)),s4,h4,p4⟩
      |bk dσ4=>exact λσ4 s4=>c7.ok p4 h4 σ4 s4
      |rt d=>exact λv r=>c7.ok p4 h4 v r
    ·exact p'.elim
  · have e:i=sr.items.length:=Nat.le_antisymm hi' (Nat.le_of_not_lt ky);subst e;rw[List.drop_length]at p';unfold B2 at p';split at p'
    ·rename_i ck;obtain⟨_,q2⟩:=hJ X9 G' H' k' h' ck sr.items.length;exact .inl ⟨q2 (zg _),c7.ok p' h' X1 s'⟩
    ·exact p'.elim⟩
end
def S4(env:Env):List (Str×NameKind)->List (Str×Addr)->List (Str×Addr)
 |[],cs=>cs
 |(n,k)::r,cs=>S4 env r (if k == .free then (match env.cells.lookup n with|some c=>(n,c)::cs|none=>cs)else cs)
theorem mN:∀l cs,(∀p∈l,p.2= .free->∃c,env.cells.lookup p.1=some c)->
 (forIn l cs (fun(x:Str×NameKind) (cs:List (Str×Addr))=>(match x with|(name,kind)=>if (kind==NameKind.free)=true then do let c <-cellOf env name;pure (ForInStep.yield ((name,c)::cs))else pure (ForInStep.yield cs):Sem (ForInStep (List (Str×Addr))))):Sem (List (Str×Addr)))=pure (S4 env l cs)
 |[],cs,_=>rfl
 |(n,k)::r,cs,h=>by
  have ih:=λcs'=>mN r cs' λp hp=>h p (zi _ hp);rw[Zp];unfold S4;rcases hk:(k==NameKind.free)with _|_
  ·
    have e:(match ((n,k):Str×NameKind) with|(name,kind)=>if (kind==NameKind.free)=true then do let c <-cellOf env name;pure (ForInStep.yield ((name,c)::cs))else pure (ForInStep.yield cs):Sem (ForInStep (List (Str×Addr))))=pure (ForInStep.yield cs):=by show (if (k==NameKind.free)=true then _ else _)=_;rw[hk];rfl
    rw[e];exact ih cs
  ·
    obtain⟨c,hc⟩:=h (n,k) zt (by simpa using hk);have hcell:cellOf env n=pure c:=by unfold cellOf;rw[hc]
    have e:(match ((n,k):Str×NameKind) with|(name,kind)=>if (kind==NameKind.free)=true then do let c <-cellOf env name;pure (ForInStep.yield ((name,c)::cs))else pure (ForInStep.yield cs):Sem (ForInStep (List (Str×Addr))))=pure (ForInStep.yield ((n,c)::cs)):=by show (if (k==NameKind.free)=true then (do let c <-cellOf env n;pure (ForInStep.yield ((n,c)::cs)))else _)=_;rw[hk,hcell];rfl
    rw[e,hc];exact ih ((n,c)::cs)
theorem RU(h:∀p∈scope.names,p.2= .free->∃c,env.cells.lookup p.1=some c):closureFor scope env=pure (S4 env scope.names []):=by have q:=mN scope.names [] h;unfold closureFor;dsimp only;rw[q];rfl
theorem GL:∀l cs,(cs.lookup x=some c->env.cells.lookup x=some c)->(S4 env l cs).lookup x=some c->env.cells.lookup x=some c
 |[],cs,h,e=>h e
 |(n,k)::r,cs,h,e=>by
  unfold S4 at e;refine GL r _ (λe1=>?_) e;split at e1
  · split at e1
    · rename_i c' hc;rw[yN]at e1;split at e1
      · rename_i hx;have hx':x=n:=by simpa using hx
        subst hx'
        cases e1
        exact hc
      ·exact h e1
    ·exact h e1
  ·exact h e1
theorem T5(h:(S4 env l []).lookup x=some c):env.cells.lookup x=some c:=GL l [] (λz=>by exact v6 z) h
theorem eP:∀l cs,(∃c,cs.lookup x=some c)->∃c,(S4 env l cs).lookup x=some c
 |[],cs,h=>h
 |(n,k)::r,cs,h=>by
  unfold S4;refine eP r _ ?_;split
  · split
    · rename_i c' hc;rw[yN];split
      ·exact⟨_,rfl⟩
      ·exact h
    ·exact h
  ·exact h
theorem oH(hc:env.cells.lookup x=some c):∀l cs,(x,NameKind.free)∈l->∃c,(S4 env l cs).lookup x=some c
 |[],cs,h=>by simp at h
 |(n,k)::r,cs,h=>by
  unfold S4;rcases zu.mp h with e|h
  · cases e
    refine eP r _ ?_;rw[hc];simp
  ·exact oH hc r _ h
section
theorem fz(I:Nat->zv->Prop)
 (turn:∀n s,I n s->zq (zC prog w) A (xv it) (λr W1=>match r with
   |none=>R (.ok .next) W1
   | some v => zq (zC prog w) A (xX target it v) (λ_ s₁' => zq (zC prog w) A (YK target env v) (λ_ s₂ =>
      zq (zC prog w) A (forIn ifs true λc r=>if r=true then do let ok <-isTrue c env (eval c env);pure (ForInStep.yield ok)else pure (ForInStep.yield r)) (λok s₃=>
       if ok=true then zq (zC prog w) A (eval elt env) (λx s₄=>
        zq (zC prog w) A (call (.builtin "list.append") [kr,x]) (λ_ s₅=>∃m,m<n/\I m s₅) (λ_ _=>False) s₄) (λ_ _=>False) s₃
       else ∃m,m<n/\I m s₃) (λ_ _=>False) s₂) (λ_ _=>False) s₁') (λ_ _=>False) W1) (λ_ _=>False) s)
 (n:Nat) (h:I n s):
 ZQ (zC prog w) A (.compLoop (.ListComp elt [⟨target,iter,ifs,0⟩] scope pos) 0 it kr env) R s:=by
 refine codeAny_loop rfl I (λn s hI=>?_) n h;show zq _ A ((compTurn (.ListComp elt [⟨target,iter,ifs,0⟩] scope pos) 0 it kr env).onRaise (λx=>do noteFrame x env;theTreesLotGoes x)) _ _ s;refine wpAny_noted ?_;rw[compTurn_list];refine za (Yp (za (jF (turn n s hI) (λr W1 h₁=>?_) λ_ _ h'=>h'.elim)));rcases r with _|v
 ·exact ze h₁
 ·
   refine za (jF h₁ (λ_ s₁' h₁'=>?_) λ_ _ h'=>h'.elim);refine za (jF h₁' (λ_ s₂ h₂=>za (jF h₂ (λok s₃ h₃=>?_) λ_ _ h'=>h'.elim)) λ_ _ h'=>h'.elim);rcases ok with _|_
   ·
     exact ze ⟨rfl,h₃⟩
   ·
     exact za (za (jF h₃ (λx s₄ h₄=>za (jF h₄ (λ_ s₅ h₅=>ze (ze ⟨rfl,h₅⟩)) λ_ _ h'=>h'.elim)) λ_ _ h'=>h'.elim))
end
def N5(X:Cx)(scope:Scope)(N:List Str)(C:Addr)(s:zv)(H:Hp)(ex:List Addr):Cx where
 prog:=X.prog
 w:=X.w
 K:=X.K
 mg:=X.mg
 base:=X.base
 A:=X.A
 N:=N
 WW:=s
 H₀:=H
 env:=compEnvC scope (S4 X.env scope.names []) C X.env
 outer:=X.stack
 stack:=X.stack
 ex:=ex
 fn:=λ_=>false
 calm:=X.calm
 pn:= []
 xe:=λ_ _=>False
structure Z3(X:Cx)(scope:Scope)(N:List Str)(caps:List (Option Nat)):Prop where
 kind:scope.kind= .function
 cell:∀y∈scope.names,y.2≠ .cell
 names:∀y∈scope.names,y.2= .local->scope.names.lookup y.1=some .local
 free:∀y∈scope.names,y.2= .free->X.env.kindOf y.1=some .cell\/X.env.kindOf y.1=some .free
 frees:∀y∈scope.names,y.2= .free->scope.names.lookup y.1=some .free
 len:caps.length=N.length
 caps:∀(i j:Nat),caps[i]? =some (some j)->∃x,N[i]? =some x/\X.N[j]? =some x/\(x,NameKind.free)∈scope.names
def X7{α:Type}(caps:List (Option Nat))(σ:List (Option α)):List (Option α):=caps.map λo=>o.bind λj=>(σ[j]?).join
theorem fI{env:Env}:∀names:List (Str×NameKind),(names.map fun(n,k)=>if (k==NameKind.free&&env.scope.kind == .function&&env.kindOf n==some .cell)then (n,NameKind.cell)else (n,k)).lookup x=
 (names.lookup x).map λk=>if (k==NameKind.free&&env.scope.kind == .function&&env.kindOf x==some .cell)then NameKind.cell else k
 |[]=>rfl
 |(n,k)::r=>by
  have ih:=fI (env:=env) (x:=x) r;rw[zK];by_cases hx:x=n
  · subst hx;dsimp only;split
    ·rename_i h;simp[yN];simp at h;simp[h]
    ·rename_i h;simp[yN];simp at h;intro a b c;exact absurd c (h a b)
  · have hb:(x==n)=false:=by simpa using hx
    dsimp only;split
    ·rw[yN,yN,hb];exact ih
    ·rw[yN,yN,hb];exact ih
section
variable{X:Cx}{scope:Scope}{N:List Str}{caps:List (Option Nat)}
theorem Z3.isFree(k:Z3 X scope N caps){x:Str}(h:(relabel scope X.env).names.lookup x=some .cell\/(relabel scope X.env).names.lookup x=some .free):(x,NameKind.free)∈scope.names:=by
 have e:(relabel scope X.env).names.lookup x= (scope.names.lookup x).map λk=>if (k==NameKind.free&&X.env.scope.kind == .function&&X.env.kindOf x==some .cell)then NameKind.cell else k:=fI scope.names;rw[e]at h;rcases hl:scope.names.lookup x with _|kd
 ·rw[hl]at h;rcases h with h|h<;>exact v6 h
 ·
   rw[hl]at h;have hm:=yY hl;have hn:=k.cell _ hm;simp only[Zl]at h
   cases kd with
   |free=>exact hm
   |cell=>exact absurd rfl hn
   |_=>rcases h with h|h<;>simp at h
theorem Z3.cells(k:Z3 X scope N caps)(ok:X.Ok):∀p∈scope.names,p.2= .free->∃c,X.env.cells.lookup p.1=some c:=λp hp e=>ok.has p.1 (k.free p hp e)
theorem CY(I:Inv X pins σ H s)(k:Z3 X scope N caps)(hC:s.heap.objs.size<=C)(nu:∀b∈ex,B1 X pins H b)(ky:∀b∈ex,b<s.heap.objs.size):(N5 X scope N C s H ex).Ok where
 mod:=I.ok.mod
 kind:=k.kind
 glob:=I.ok.glob
 blt:=I.ok.blt
 above:=hC
 inj:=λx y c h1 h2=>I.ok.inj x y c (T5 h1) (T5 h2)
 has:=λx hx=>by have hm:=k.isFree hx;obtain⟨c,hc⟩:=k.cells I.ok _ hm rfl;exact oH hc _ _ hm
 cab:=λx c h=>by exact cG h
 hd:=I.ok.hd
 frames:=I.ok.frames
 stk:=.inl rfl
 exf:=λb hb=>⟨zG (zV (ky b hb) hC),λx c e=>(nu b hb).2.2.2.2.1 x c (T5 e)⟩
 bs:=I.bs
 bsz:=zQ I.ok.bsz I.sz
 noex:=λb o e hb=>by
  rcases (nu b hb).2.2.2.1 with z|z
  ·exact I.ok.noex b o e z
  ·exact absurd (zV (zw (I.ok.bs b o e).1) z) (yD _)
 exfs:=λb hb z=>by
  rcases zu.mp (I.stkSub b z)with e|e
  ·exact(nu b hb).2.1 e
  ·exact(nu b hb).2.2.1 e
 funs:=I.stack
 frf:=I.stkFree
 gd:=I.ok.gd
theorem dM{σ:List (Option α)}{i:Nat}(h:(X7 caps σ)[i]? =some (some v)):∃j,caps[i]? =some (some j)/\σ[j]? =some (some v):=by
 unfold X7 at h;rw[jp]at h;rcases e:caps[i]? with _|o
 ·rw[e]at h;exact v6 h
 ·
   rw[e]at h;rcases o with _|j
   ·cases h
   ·
     refine⟨j,rfl,?_⟩;simp only[Zl,Option.bind_some,zP]at h;rcases e2:σ[j]? with _|w
     ·rw[e2]at h;exact v6 h
     ·rw[e2]at h;simp at h;rw[h]
theorem Rf{h₁:Heap}{tk:Nat}(I:Inv X pins σ H s)(k:Z3 X scope N caps)(hC:s.heap.objs.size<C)(nu:∀b∈ex,B1 X pins H b)(ky:∀b∈ex,b<s.heap.objs.size)
 (old:∀b o,s.heap.get? b=some o->h₁.get? b=some o) (hns:h₁.Ns C λ_=>none) (nq:h₁.get? s.heap.objs.size=some {cls:=.type "list",data:=.seq ([]:List zh).toArray 0}):
 Inv (N5 X scope N C s H ex) [] (X7 caps σ) (upd H s.heap.objs.size (.lst [])) {s with heap:=h₁,toks:=tk}:=by
 have hD:H s.heap.objs.size=none:=I.hok.fresh (zg _);refine⟨CY I k (xm hC) nu ky,rfl,I.bare,Un.laid old (zg _) hD,⟨_,hns,λi x v h1 h2 h3=>?_⟩,λx c e=>?_,?_,λx c e=>?_,λp hp=>absurd (show p∈([]:PNS)from hp) (by simp),?_,?_⟩
 · obtain⟨j,e1,e2⟩:=dM h2;obtain⟨y,e3,e4,e5⟩:=k.caps i j e1;have exy:y=x:=by
    have:some y=some x:=e3.symm.trans h1;exact jr this
   subst exy;have hk:=k.free _ e5 rfl;obtain⟨m,hn,hl⟩:=I.loc;obtain⟨u,r,l⟩:=hl j y v e4 e2 (by rcases hk with z|z;exact .inr (.inl z);exact .inr (.inr z));refine⟨u,r,.inr ?_⟩;rcases l with⟨z,_⟩|⟨_,c,ec,hc⟩
   ·rcases hk with z'|z'<;>(rw[z]at z';cases z')
   · refine⟨?_,c,?_,?_⟩
     · rcases h3 with h3|h3|h3
       ·exfalso;have e:(relabel scope X.env).names.lookup y= (scope.names.lookup y).map λk=>if (k==NameKind.free&&X.env.scope.kind == .function&&X.env.kindOf y==some .cell)then NameKind.cell else k:=fI scope.names;have h3':(relabel scope X.env).names.lookup y=some .local:=h3;rw[e]at h3';rw[k.frees _ e5 rfl]at h3';simp only[Zl]at h3';split at h3'<;>cases h3'
       ·exact .inl h3
       ·exact .inr h3
     · obtain⟨c',ec'⟩:=oH ec scope.names [] e5;have:=T5 ec';rw[ec]at this
       cases this
       exact ec'
     ·obtain⟨o,ho,hd⟩:=hc;exact⟨o,old _ _ ho,hd⟩
 ·obtain⟨v,o,ho,hd⟩:=I.cell x c (T5 e);exact⟨v,o,old _ _ ho,hd⟩
 ·show upd H s.heap.objs.size (.lst []) C=none;rw[m8 (xK hC)];exact I.hok.fresh (xm hC)
 ·obtain⟨v,o,ho,hd⟩:=I.cell x c (T5 e);rw[m8 (zG (zw ho))];exact I.freeC x c (T5 e)
 ·exact I.hok.laid old (zg _) ⟨zD _, [],0,.nil,nq⟩
 ·show (X7 caps σ).length=N.length;unfold X7;rw[zf];exact k.len
theorem vg(I:Inv X pins σ H s)(nu:∀b∈ex,B1 X pins H b)(hC:s.heap.objs.size<C)
 (I':Inv (N5 X scope N C s H ex) pins' X1 H' s') (sb:yC C s'.heap h'):Inv X pins σ H' {s' with heap:=h'}:=by
 have hos:s'.os=s.os:=I'.os;have hfree:H' C=none:=I'.free;have neC:∀b o,s.heap.get? b=some o->b≠C:=λb o e z=>by have:=zw e;rw[z]at this;exact absurd (Za hC this) (yD _)
 have hun:Un (frs X.stack) ex H H' s.heap s'.heap:=I'.base;have hun2:Un (frs X.stack) ex H H' s.heap h':=by
  refine⟨λb o e n hb hx=>(sb.2 b (neC b o e)).trans (hun.keep b o e n hb hx),λb o e n hb hx=>?_,hun.free,λb o e hx=>?_,hun.tups,hun.frzs,hun.tbls⟩
  ·obtain⟨sl,q⟩:=hun.slot b o e n hb hx;exact⟨sl,(sb.2 b (neC b o e)).trans q⟩
  ·obtain⟨o',q⟩:=hun.there b o e hx;exact⟨o',(sb.2 b (neC b o e)).trans q⟩
 have hok2:HOk X.prog X.w H' h':=λa o e=>by
  have nc:∀c u,H' c=some u->c≠C:=λc u q z=>by rw[z,hfree]at q;exact v6 q
  refine(I'.hok a o e).stay (λb u hb q=>?_) (λ_ q=>q) λ_ _ q=>q;rcases hb with rfl|hb
  ·exact(sb.2 b (nc b o e)).trans q
  ·exact(sb.2 b (nc b _ hb)).trans q
 obtain⟨hh,g,d,t,os'⟩:=s';obtain rfl:os'=s.os:=hos;have fin:=I.call (d':=d) (t':=t) hun2 hok2 I'.bare λb hb=>⟨(nu b hb).2.2.2.1,(nu b hb).2.1,(nu b hb).2.2.2.2.1,(nu b hb).2.2.2.2.2⟩;exact fin
end
def hide(q:Addr)(H:Hp):Hp:=λb=>if b=q then none else H b
theorem U9:hide q H q=none:=by unfold hide;rw[if_pos rfl]
theorem v8(h:b≠q):hide q H b=H b:=by unfold hide;rw[if_neg h]
theorem J9(h:hide q H b=some o):b≠q/\H b=some o:=by
 by_cases e:b=q
 ·rw[e,U9]at h;exact v6 h
 ·rw[v8 e]at h;exact⟨e,h⟩
theorem gb(h:H q=some o):upd (hide q H) q o=H:=by
 funext b;by_cases e:b=q
 ·rw[e,w5,h]
 ·rw[m8 e,v8 e]
theorem EB:hide q (upd H q o)=hide q H:=by
 funext b;by_cases e:b=q
 ·rw[e,U9,U9]
 ·rw[v8 e,v8 e,m8 e]
theorem bE(h:H q=none):hide q H=H:=by
 funext b;by_cases e:b=q
 ·rw[e,U9,h]
 ·rw[v8 e]
section
mutual
theorem d7.sq(k:∀a xs,SqT c.K H a xs->SqT c.K H' a xs):∀ {d} {v},d7 c μ H d v->d7 c μ H' d v
 | .non,_,h=>h
 | .bl _,_,h=>h
 | .int _,_,h=>h
 | .str _,_,h=>h
 | .ty _,_,h=>h
 | .fn _,_,h=>h
 | .ref i,v,h=>by unfold d7 at h ⊢;exact h
 | .tup l,v,h=>by unfold d7 at h ⊢;obtain⟨a,vs,e,q,r⟩:=h;exact⟨a,vs,e,k _ _ q,j9.sq k r⟩
theorem j9.sq(k:∀a xs,SqT c.K H a xs->SqT c.K H' a xs):∀ {l} {vs},j9 c μ H l vs->j9 c μ H' l vs
 |[],_,h=>h
 |d::ds,vs,h=>by unfold j9 at h ⊢;obtain⟨v,r,e,q,t⟩:=h;exact⟨v,r,e,d7.sq k q,j9.sq k t⟩
end
theorem S8.sq(k:∀a xs,SqT c.K H a xs->SqT c.K H' a xs):∀ {l} {vs},S8 c μ H l vs->S8 c μ H' l vs
 |[],_,h=>h
 |(_,d)::ds,vs,h=>by obtain⟨v,r,e,q,t⟩:=h;exact⟨v,r,e,d7.sq k q,S8.sq k t⟩
theorem SA(hq:H q=some (.lst vs)){K:zj}(a:Addr)(xs:List V)(h:SqT K H a xs):SqT K (hide q H) a xs:=by
 rcases h with(h|⟨o,h⟩)|h
 ·exact .inl (.inl (by rw[v8 (λe=>by rw[e,hq]at h;cases h)];exact h))
 ·exact .inl (.inr ⟨o,by rw[v8 (λe=>by rw[e,hq]at h;cases h)];exact h⟩)
 ·exact .inr h
theorem LD{K:zj}(a:Addr)(xs:List V)(h:SqT K (hide q H) a xs):SqT K H a xs:=by
 rcases h with(h|⟨o,h⟩)|h
 ·exact .inl (.inl (J9 h).2)
 ·exact .inl (.inr ⟨o,(J9 h).2⟩)
 ·exact .inr h
theorem u9.sq(k:∀a xs,SqT c.K H a xs->SqT c.K H' a xs)(h:u9 c μ H X2 σ):u9 c μ H' X2 σ:=⟨h.1,λi d e=>let ⟨v,a,b⟩:=h.2 i d e;⟨v,a,b.sq k⟩⟩
theorem Ext.hide(x:Ext μ H X9 H')(n:q∉μ)(hq:H q=some (.lst vs)):H' q=some (.lst vs)/\q∉X9/\Ext μ (DL.hide q H) X9 (DL.hide q H'):=by
 refine⟨x.oth q _ hq n,λh=>?_,x.pre,λa h1 h2=>?_,λb o e nb=>?_,λb xs e=>?_,λb o u e=>?_⟩
 ·have:=x.new q h n;rw[hq]at this;exact dD this
 · by_cases e:a=q
   ·rw[e,U9]
   ·rw[v8 e];exact x.new a h1 h2
 ·obtain⟨e1,e2⟩:=J9 e;rw[v8 e1];exact x.oth b o e2 nb
 ·obtain⟨e1,e2⟩:=J9 e;rw[v8 e1];exact x.tup b xs e2
 ·obtain⟨e1,e2⟩:=J9 e;rw[v8 e1];exact x.frz b o u e2
theorem Ext.unhide(x:Ext μ H X9 (DL.hide q H')):Ext μ H X9 H':=
 ⟨x.pre,x.new,λb o e n=>(J9 (x.oth b o e n)).2,λb xs e=>(J9 (x.tup b xs e)).2,λb o u e=>(J9 (x.frz b o u e)).2⟩
theorem m6.hide(h:m6 c μ G H)(n:q∉μ)(hq:H q=some (.lst vs)):m6 c μ G (DL.hide q H):=
 ⟨h.len,h.inj,λi o a g m=>by
  have na:a≠q:=λe=>n (by rw[<-e];exact jB m);have r:=h.obj i o a g m
  cases o with
  |lst l=>obtain⟨ws,e,r⟩:=r;exact⟨ws,by rw[v8 na];exact e,r.sq (SA hq)⟩
  |dct l=>obtain⟨ws,e,r⟩:=r;exact⟨ws,by rw[v8 na];exact e,r.sq (SA hq)⟩
  |rod l=>obtain⟨ws,o,e,r⟩:=r;exact⟨ws,o,by rw[v8 na];exact e,r.sq (SA hq)⟩
  |rol l=>
    obtain⟨ws,e,r⟩:=r;refine⟨ws,?_,r.sq (SA hq)⟩;rcases e with⟨o,e⟩|e
    ·exact .inl ⟨o,by rw[v8 na];exact e⟩
    ·exact .inr e⟩
theorem m6.unhide(h:m6 c μ G (DL.hide q H)):m6 c μ G H:=
 ⟨h.len,h.inj,λi o a g m=>by
  have r:=h.obj i o a g m
  cases o with
  |lst l=>obtain⟨ws,e,r⟩:=r;exact⟨ws,(J9 e).2,r.sq LD⟩
  |dct l=>obtain⟨ws,e,r⟩:=r;exact⟨ws,(J9 e).2,r.sq LD⟩
  |rod l=>obtain⟨ws,o,e,r⟩:=r;exact⟨ws,o,(J9 e).2,r.sq LD⟩
  |rol l=>
    obtain⟨ws,e,r⟩:=r;refine⟨ws,?_,r.sq LD⟩;rcases e with⟨o,e⟩|e
    ·exact .inl ⟨o,(J9 e).2⟩
    ·exact .inr e⟩
inductive UH{α:Type}(c:Wc)(q:Addr)(vs:List V)(μ:List Addr)(H:Hp)(K:α->List Addr->DH->Hp->Prop)(a:α)(X9:List Addr)(G':DH)(H':Hp):Prop
 |mk (e:H' q=some (.lst vs)) (n:q∉X9) (h:m6 c X9 G' (DL.hide q H')) (x:Ext μ (DL.hide q H) X9 (DL.hide q H')) (k:K a X9 G' (DL.hide q H'))
theorem c7.unhide{r:Option (Except Str α×DH)}{K:α->List Addr->DH->Hp->Prop}(n:q∉μ)(hq:H q=some (.lst vs))(p:c7 c ZF μ (DL.hide q H) r K):
 c7 c Z μ H r (UH c q vs μ H K):=by
 match r,p with
 |some (.ok a,G'),p=>
   intro X9 H' x h;obtain⟨e1,e2,e3⟩:=x.hide n hq;have h2:=h.hide e2 e1;exact⟨e1,e2,h2,e3,p X9 _ e3 h2⟩
 |some (.error z,G'),p=>
   intro X9 H' x h;obtain⟨e1,e2,e3⟩:=x.hide n hq;exact(p X9 _ e3 (h.hide e2 e1)).elim
theorem m6.mem_lt(I:Inv X pins σ H s)(h:m6 (wc X) μ G H)(ha:a∈μ):a<s.heap.objs.size:=by
 obtain⟨i,hi⟩:=List.getElem?_of_mem ha;have hl:i<G.length:=by rw[<-h.len];exact lt_of_get hi
 have r:=h.obj i G[i] a (zo hl) hi;rcases e:G[i]with l|l|l|l
 ·rw[e]at r;obtain⟨_,e,_⟩:=r;exact I.hok.lt e
 ·
   rw[e]at r;obtain⟨ws,e,_⟩:=r;rcases e with⟨o,e⟩|e
   ·exact I.hok.lt e
   · rcases e with(e|⟨o,e⟩)|⟨o,ka,n,e,_⟩
     ·exact v6 e
     ·exact v6 e
     ·exact zw (I.kIn a o e)
 ·rw[e]at r;obtain⟨_,e,_⟩:=r;exact I.hok.lt e
 ·rw[e]at r;obtain⟨_,_,e,_⟩:=r;exact I.hok.lt e
end
def PTs(X:Cx)(ifs:List Expr)(t:TT):Prop:=
 ∀(pins:PNS) (s:zv) (σ:St) (H:Hp) (Q:Bool->Hp->Prop),Inv X pins σ H s->t σ H Q->
  zq (zC X.prog X.w) X.A (forIn ifs true λc r=>if r=true then do let ok <-isTrue c X.env (eval c X.env);pure (ForInStep.yield ok)else pure (ForInStep.yield r)) (TP X pins σ Q) X.xe s
structure DTs(X:Cx)(Z:XC)(ifs:List Expr)(f:DSt->M Bool):Prop where
 h:PTs X ifs (QA (wc X) Z f)
def m4:DSt->M Bool:=λ_=>pure true
theorem Fj:DTs X Z [] m4:=⟨λpins s σ H Q I ki=>ki.elim λX2 μ G sr h p=>wpAny_tests_nil ⟨H,I,c7.ok p h⟩⟩
theorem Wh(h:DT X Z c t):DTs X Z [c] t:=⟨λpins s σ H Q I q=>wpAny_tests_one (h.h pins s σ H Q I q)⟩
def J6(g:Fg)(t:DSt->M Bool)(e:Fe)(ck:DH->Bool):List D->DSt->M (List D)
 |[]=>λ_ G=>if ck G then some (.ok [],G)else none
 | d :: r => λσ G => if ck G then (do
    let WY <-g d σ
    if <-t WY then do
     let y <-e WY
     let ys <-J6 g t e ck r WY
     pure (y::ys)
    else J6 g t e ck r WY:M (List D)) G else none
def O4(it:DSt->M Src)(caps:List (Option Nat))(g:Fg)(t:DSt->M Bool)(e:Fe):Fe:=λσ=>do
 let s <-it σ
 if s.items.length<=zk then do
  let ys <-noX (J6 g t e s.ck s.items (X7 caps σ))
  J8 (.lst ys)
 else M.stuck
theorem pU(h:u9 c μ H X2 σ):u9 c μ H (X7 caps X2) (X7 caps σ):=by refine⟨by simp[X7],λi d e=>?_⟩;obtain⟨j,e1,e2⟩:=dM e;obtain⟨v,e3,r⟩:=h.2 j d e2;refine⟨v,?_,r⟩;unfold X7;rw[jp,e1];simp[e3]
section
set_option maxHeartbeats 1000000 in
def CKV(c:Wc)(Q:VK)(d:D)(X9:List Addr)(_:DH)(H':Hp):Prop:=∀v,d7 c X9 H' d v->Q v H'
def CKR(c:Wc)(Z:XC)(Q:VK)(ys rest:List D)(μ:List Addr)(G:DH)(H:Hp):Prop:=c7 c Z μ H (J8 (.lst (ys++rest)) G) (CKV c Q)
def NK(gg:Fg)(tt:DSt->M Bool)(fe:Fe)(ck:DH->Bool)(items:List D)(σ:DSt)(y:D):M (List D):=do let ys <-J6 gg tt fe ck items σ;pure (y::ys)
def sL(gg:Fg)(tt:DSt->M Bool)(fe:Fe)(ck:DH->Bool)(items:List D)(σ:DSt)(b:Bool):M (List D):=if b=true then (do let y <-fe σ;let ys <-J6 gg tt fe ck items σ;pure (y::ys))else J6 gg tt fe ck items σ
def cj(gg:Fg)(tt:DSt->M Bool)(fe:Fe)(ck:DH->Bool)(items:List D)(σ:DSt):M (List D):=do if <-tt σ then do {let y <-fe σ;let ys <-J6 gg tt fe ck items σ;pure (y::ys)}else J6 gg tt fe ck items σ
inductive CG(X:Cx)(Z:XC)(Q:VK)(vs:List V)(DD:Addr)(ys:List D)(X9:List Addr)(H5:Hp)(m:DSt->M (List D))(WQ:St)(H6:Hp):Prop
 |mk (WT:DSt) (μ6:List Addr) (G6:DH) (s:u9 (wc X) μ6 H6 WT WQ) (h:m6 (wc X) μ6 G6 H6) (u:UH (wc X) DD vs X9 H5 (λX2 μ G H=>c7 (wc X) ZF μ H (m X2 G) (CKR (wc X) Z Q ys)) WT μ6 G6 H6)
inductive CT(X:Cx)(Z:XC)(Q:VK)(vs:List V)(DD:Addr)(ys:List D)(WT:DSt)(WQ:St)(μ6:List Addr)(H6:Hp)(m:Bool->M (List D))(b:Bool)(H7:Hp):Prop
 |mk (WM:List Addr) (G7:DH) (s:u9 (wc X) WM H7 WT WQ) (h:m6 (wc X) WM G7 H7) (u:UH (wc X) DD vs μ6 H6 (λb μ G H=>c7 (wc X) ZF μ H (m b G) (CKR (wc X) Z Q ys)) b WM G7 H7)
inductive CE(X:Cx)(Z:XC)(Q:VK)(vs:List V)(DD:Addr)(ys:List D)(WT:DSt)(WQ:St)(WM:List Addr)(H7:Hp)(m:D->M (List D))(v:V)(H8:Hp):Prop
 |mk (y:D) (μ8:List Addr) (G8:DH) (r:d7 (wc X) μ8 H8 y v) (s:u9 (wc X) μ8 H8 WT WQ) (h:m6 (wc X) μ8 G8 H8) (u:UH (wc X) DD vs WM H7 (λy μ G H=>c7 (wc X) ZF μ H (m y G) (CKR (wc X) Z Q ys)) y μ8 G8 H8)
inductive GH(Y:Cx)(Z:XC)(Q:VK)(gg:Fg)(tt:DSt->M Bool)(fe:Fe)(src:Src)(fp:List Addr)(tn:Nat->Heap->Prop)(DD:Addr)(WX:List Addr)(H2:Hp)(n:Nat)(s':zv):Prop
 |mk (i:Nat) (ys:List D) (vs:List V) (X1:St) (H':Hp) (WV:DSt) (X9:List Addr) (G':DH) (e:n=src.items.length-i) (hi:i<=src.items.length) (hv:vs.length<=i)
    (I:Inv Y [] X1 H' s') (st:tn i s'.heap) (fr:∀b∈fp,H' b=none) (hs:H' DD=some (.lst vs)) (nD:DD∉X9)
    (x:Ext WX H2 X9 (hide DD H')) (h:m6 (wc Y) X9 G' (hide DD H')) (sr:u9 (wc Y) X9 (hide DD H') WV X1) (rl:j9 (wc Y) X9 (hide DD H') ys vs)
    (p:c7 (wc Y) ZF X9 (hide DD H') (J6 gg tt fe src.ck (src.items.drop i) WV G') (CKR (wc Y) Z Q ys))
theorem Cb{Y:Cx}{Q:VK}{src:Src}{tn:Nat->Heap->Prop}{DD it:Addr}{H2:Hp}{J:It}{R:Result->zv->Prop}(hcX:Y.calm=true)(hg:DG Y ZF tg gg)(ht:DTs Y ZF ifs tt)(he:DE Y ZF elt fe)(T:u8 Y.prog Y.w Y.K tg J fp it tn)
 (fpX:∀(H':Hp) (b:Addr),b∈fp->H' b=none->B1 Y [] H' b) (hJ:ItD (wc Y) WX H2 J src) (kl:src.items.length<=zk) (fin:∀(H':Hp) (X1:St) (s4:zv),Inv Y [] X1 H' s4->Q (.ref DD) H'->R (.ok .next) s4) (n:Nat) (s':zv) (h:GH Y Z Q gg tt fe src fp tn DD WX H2 n s') {NX:zv->Prop} (nx:∀m s,m<n->GH Y Z Q gg tt fe src fp tn DD WX H2 m s->NX s):
 zq (zC Y.prog Y.w) Y.A (xv (.ref it)) (λr W1=>match r with
  |none=>R (.ok .next) W1
  | some v => zq (zC Y.prog Y.w) Y.A (xX tg (.ref it) v) (λ_ s₁' => zq (zC Y.prog Y.w) Y.A (YK tg Y.env v) (λ_ s₂ =>
     zq (zC Y.prog Y.w) Y.A (forIn ifs true λc r=>if r=true then do let ok <-isTrue c Y.env (eval c Y.env);pure (ForInStep.yield ok)else pure (ForInStep.yield r)) (λok s₃=>
      if ok=true then zq (zC Y.prog Y.w) Y.A (eval elt Y.env) (λx s₄=>
       zq (zC Y.prog Y.w) Y.A (call (.builtin "list.append") [.ref DD,x]) (λ_ s₅=>NX s₅) Y.xe s₄) Y.xe s₃
      else NX s₃) Y.xe s₂) Y.xe s₁') Y.xe W1) Y.xe s':=by
 obtain⟨i,ys,vs,X1,H',WV,X9,G',rfl,hi',hvl,I',ma,fr',hvs,nD',x',h',sr',rl,p'⟩:=h;by_cases ky:i<src.items.length
 · rw[ZO ky]at p';unfold J6 at p';split at p'
   case isFalse=>exact p'.elim
   rename_i ck;obtain⟨q1,_⟩:=hJ X9 G' H' x'.unhide h'.unhide ck i;obtain⟨go,yl⟩:=q1 _ (zo ky);refine thn (T.item (Y) rfl rfl rfl hcX i [] s' X1 H' Y.xe I' (λb hb=>fpX H' b hb (fr' b hb)) ma go) λr s4 z4=>?_;obtain⟨u,rfl,h4⟩:=z4;refine thn h4 λ_ s5 z5=>?_;obtain⟨x,H5,I5,r5,y5,st5,fr5⟩:=z5;obtain⟨k5,h5,rx5⟩:=yl x H5 y5;obtain⟨e5,n5,k5'⟩:=k5.hide nD' hvs;have I5':=I5.pinned (λb hb=>fpX H5 b hb (fr5 b hb)) (T.obj _ _ st5);have keepIt:∀ {WP:St} {H7:Hp} {s7:zv},Inv (Y) ([]++LC fp s5.heap) WP H7 s7->Inv (Y) [] WP H7 s7/\tn (i+1) s7.heap/\∀b∈fp,H7 b=none:=λ{WP H7 s7} I7=>by refine⟨I7.unpinned,T.keep _ _ _ st5 λb hb o e=>(I7.pin (b,o) (zO _ (zO _ (V7 hb e)))).1,λb hb=>?_⟩;obtain⟨o,e,d⟩:=T.obj _ _ st5 b hb;exact(I7.pin (b,o) (zO _ (zO _ (V7 hb e)))).2.1
   have p5:=c7.unhide (Z:=ZF) n5 e5 (c7.bind (p'.from k5'));refine thn (hg.h _ s5 X1 H5 x u _ I5' r5 ⟨_,WV,X9,G',rx5,(sr'.mono k5').sq LD,h5,p5.mono λWT μ6 G6 H6 x6 h6 q6 WQ sr6=>(⟨WT,μ6,G6,sr6,h6,q6⟩:CG Y Z Q vs DD ys X9 H5 (cj gg tt fe src.ck (src.items.drop (i+1))) WQ H6)⟩) λ_ s6 z6=>?_;obtain⟨WQ,H6,I6,WT,μ6,G6,sr6,h6,e6,n6,hh6,x6,p6⟩:=z6;have p6':=c7.unhide (Z:=ZF) n6 e6 (c7.bind p6);refine thn (ht.h _ s6 WQ H6 (CT Y Z Q vs DD ys WT WQ μ6 H6 (sL gg tt fe src.ck (src.items.drop (i+1)) WT)) I6 ⟨WT,μ6,G6,sr6,h6,p6'.mono λb WM G7 H7 x7 h7 q7=>⟨WM,G7,sr6.mono x7,h7,q7⟩⟩) λb s7 z7=>?_;obtain⟨H7,I7,WM,G7,sr7,h7,e7,n7,hh7,x7,p7⟩:=z7;unfold sL at p7;have x27:Ext WX H2 WM (hide DD H7):=x'.trans (k5'.trans (x6.trans x7));have rl7:j9 (wc Y) WM (hide DD H7) ys vs:=rl.mono (k5'.trans (x6.trans x7));rcases b with _|_
   ·
     rw[if_neg zN]at p7 ⊢;obtain⟨I8,st8,fr8⟩:=keepIt I7;exact nx _ _ (YM _ _ ky) ⟨i+1,ys,vs,WQ,H7,WT,WM,G7,rfl,ky,yf hvl,I8,st8,fr8,e7,n7,x27,hh7,sr7.sq (SA e7),rl7,p7⟩
   ·
     rw[if_pos rfl]at p7 ⊢;have p7':=c7.unhide (Z:=ZF) n7 e7 (c7.bind p7);refine thn (he.h _ s7 WQ H7 (CE Y Z Q vs DD ys WT WQ WM H7 (NK gg tt fe src.ck (src.items.drop (i+1)) WT)) I7 ⟨WT,WM,G7,sr7,h7,p7'.mono λy μ8 G8 H8 x8 h8 q8 v rv=>⟨y,μ8,G8,rv,sr7.mono x8,h8,q8⟩⟩) λyu s8 z8=>?_;obtain⟨yv,H8,I8,ry,y,μ8,G8,ryd,sr8,h8,e8,n8,hh8,x8,p8⟩:=z8;unfold NK at p8;refine thn (DN _ s8 WQ H8 (.ref DD) [yv] (.ref DD) [yu] (λ_ H9=>H9=upd H8 DD (.lst (vs++[yv]))) I8 rfl (.cons ry .nil) ⟨DD,vs,yv,rfl,rfl,e8,by lia,rfl⟩) λ_ s9 z9=>?_;obtain⟨_,H9,I9,_,rfl⟩:=z9;obtain⟨I10,st10,fr10⟩:=keepIt I9;have hd9:hide DD (upd H8 DD (.lst (vs++[yv])))=hide DD H8:=EB;refine nx _ _ (YM _ _ ky) ⟨i+1,ys++[y],vs++[yv],WQ,_,WT,μ8,G8,rfl,ky,by rw[zd];exact Zk hvl,I10,st10,fr10,w5,n8,?_,?_,?_,?_,?_⟩
     ·rw[hd9];exact x27.trans x8
     ·rw[hd9];exact hh8
     ·rw[hd9];exact sr8.sq (SA e8)
     ·rw[hd9];exact(rl7.mono x8).append ⟨yv, [],rfl,ryd.sq (SA e8),rfl⟩
     ·rw[hd9];refine(c7.bind p8).mono λrest μ'' G'' H'' x'' h'' q''=>?_;have q3:=c7.ok q'' h'';show c7 (wc Y) Z μ'' H'' (J8 (.lst (ys++[y]++rest)) G'') (CKV (wc Y) Q);rw[zA];exact q3
 · have e:i=src.items.length:=by lia
   subst e;rw[List.drop_length]at p';unfold J6 at p';split at p'
   case isFalse=>exact p'.elim
   rename_i ck;obtain⟨_,q2⟩:=hJ X9 G' H' x'.unhide h'.unhide ck src.items.length;refine thn (T.done (Y) rfl rfl rfl hcX src.items.length [] s' X1 H' Y.xe I' (λb hb=>fpX H' b hb (fr' b hb)) ma (q2 (zg _))) λr s4 ⟨hr,I4⟩=>?_;subst hr;have p9:c7 (wc Y) Z X9 (hide DD H') (J8 (.lst (ys++[])) G') (CKV (wc Y) Q):=c7.ok p' h';rw[jT]at p9;have q9:=T7 (q:=DD) h' rl p9 U9;rw[gb hvs]at q9;exact fin H' X1 s4 I4 q9
theorem pR{use:Option (zh->Sem Unit)}{Q:VK}{ps:Pos}{pins:PNS}{s:zv}{σ:St}{H:Hp}{X2:DSt}{G:DH}(hc:X.calm=true)(hi:DI X Z tg iter it)(k:Z3 X scope N caps)
 (hg:∀C s H ex,DG (N5 X scope N C s H ex) ZF tg gg) (ht:∀C s H ex,DTs (N5 X scope N C s H ex) ZF ifs tt) (he:∀C s H ex,DE (N5 X scope N C s H ex) ZF elt fe)
 (hs:∀x,xa iter X.env x=pure x) (I:Inv X pins σ H s) (sr:u9 (wc X) μ H X2 σ) (hr:m6 (wc X) μ G H) (p:c7 (wc X) Z μ H (O4 it caps gg tt fe X2 G) λd X9 _ H'=>∀v,d7 (wc X) X9 H' d v->Q v H')
 (fin:∀(DD C:Addr) (s4:zv) (H':Hp) m (o:Flow),s4.heap.Ns C m->(∀h'',yC C s4.heap h''->Inv X pins σ H' {s4 with heap:=h''})->H' C=none->(∀H9:Hp,H9 C=none->B1 X pins H9 C)->Q (.ref DD) H'->compPost (zC X.prog X.w) X.A X.xe use PQ (.ref DD) C (.ok o) s4):
 zq (zC X.prog X.w) X.A (comprehension (.ListComp elt [⟨tg,iter,ifs,0⟩] scope pos) scope X.env ps (newList []) false (eval iter X.env) use) PQ X.xe s:=by
 replace p:c7 (wc X) Z μ H (O4 it caps gg tt fe X2 G) (CKV (wc X) Q):=p;have p1:=c7.bind p;refine wpAny_comprehension_free rfl hs (RU (k.cells I.ok)) k.kind k.names ?_;refine thn (hi.h pins s σ H (λJ H1=>∃src X0 G1,Ext μ H X0 H1/\m6 (wc X) X0 G1 H1/\ItD (wc X) X0 H1 J src/\
  c7 (wc X) Z X0 H1 ((if src.items.length<=zk then (do let ys <-noX (J6 gg tt fe src.ck src.items (X7 caps X2));J8 (.lst ys))else M.stuck:M D) G1) (CKV (wc X) Q))
  I ⟨X2,μ,G,sr,hr,p1.mono λsrc X0 G1 H1 x1 h1 p1 J hJ=>⟨src,X0,G1,x1,h1,hJ,p1⟩⟩) λv s1 q1=>thn q1 λitv s2 q2=>?_
 obtain⟨itA,fp,tn,J,H2,rfl,I2,T,st2,f2,src,WX,G2,x2,h2,hJ,p2⟩:=q2;split at p2
 case isFalse=>exact p2.elim
 rename_i kl;have hfp:∀b∈fp,b<s2.heap.objs.size:=λb hb=>by obtain⟨o,e,_⟩:=T.obj _ _ st2 b hb;exact zw e
 refine yI (wpAny_newFunctionEnv k.cell (by intro y hy;simp at hy) (λh₁ hns₁ hsb₁=>?_) k.kind);dsimp only at hns₁ hsb₁ ⊢;generalize hHP:s2.heap.push {cls:=.type "list",dict:=none,data:=.seq ([]:List zh).toArray}=HP at hns₁ hsb₁ ⊢;have hC:HP.objs.size=s2.heap.objs.size+1:=by rw[<-hHP,jS]
 have hCl:s2.heap.objs.size<HP.objs.size:=by rw[hC];exact xL _
 have hDC:s2.heap.objs.size≠HP.objs.size:=zG hCl;have old:∀b o,s2.heap.get? b=some o->h₁.get? b=some o:=λb o e=>hsb₁.extBut b o (by have:=zw e;exact zG (Za this hCl)) (zc _ (hHP▸zc _ e));have nq:h₁.get? s2.heap.objs.size=some {cls:=.type "list",data:=.seq ([]:List zh).toArray 0}:=hsb₁.extBut _ _ hDC (zc _ (hHP▸zp _ rfl));have hD:H2 s2.heap.objs.size=none:=I2.hok.fresh (zg _);have nD:s2.heap.objs.size∉WX:=λz=>yD _ (h2.mem_lt I2 z);have st1:tn 0 h₁:=T.keep _ _ _ st2 λb _ o e=>old b o e;have fpX:∀(H':Hp) (b:Addr),b∈fp->H' b=none->B1 (N5 X scope N HP.objs.size s2 H2 fp) [] H' b:=λH' b hb hn=>
  ⟨hn,zG (Za (hfp b hb) hCl),λz=>by
   rcases zu.mp (I2.stkSub b z)with e|e
   ·exact(f2 b hb).2.1 e
   ·exact(f2 b hb).2.2.1 e,.inl hb,λx c e=>(f2 b hb).2.2.2.2.1 x c (T5 e),λp hp=>absurd (show p∈([]:PNS)from hp) (by simp)⟩
 have hcX:(N5 X scope N HP.objs.size s2 H2 fp).calm=true:=hc;have p3:=PJ (c7.bind p2);generalize hDD:s2.heap.objs.size=DD at *;have loop:∀s₃:zv,s₃= {s2 with heap:=h₁,toks:=s2.toks+([]:List (Str×zh)).length}->
  ZQ (zC X.prog X.w) X.A (.compLoop (.ListComp elt [⟨tg,iter,ifs,0⟩] scope pos) 0 (.ref itA) (.ref DD) (compEnvC scope (S4 X.env scope.names []) HP.objs.size X.env))
   (compPost (zC X.prog X.w) X.A X.xe use PQ (.ref DD) HP.objs.size) s₃:=by
  rintro s₃ rfl;refine fz (GH (N5 X scope N HP.objs.size s2 H2 fp) Z Q gg tt fe src fp tn DD WX H2) (λn s' h=>Cb hcX (hg _ _ _ _) (ht _ _ _ _) (he _ _ _ _) T fpX hJ kl (λH' X1 s4 I4 q9=>?_) n s' h λm s h1 h2=>⟨m,h1,h2⟩) src.items.length
   ⟨0, [], [],X7 caps σ,upd H2 DD (.lst []),X7 caps X2,WX,G2,rfl,zD _,zg _,?_,st1,λb hb=>?_,w5,nD,?_,?_,?_,rfl,?_⟩
  ·obtain⟨m,hn,_⟩:=I4.loc;exact fin DD HP.objs.size s4 H' m _ hn (λh'' sb=>vg I2 (λb hb=>f2 b hb) (by rw[hDD];exact hCl) I4 sb) I4.free (λH9 hn9=>I2.fpOk (by rw[hDD];exact xm hCl) hn9) q9
  ·have:=Rf (tk:=s2.toks+([]:List (Str×zh)).length) I2 k (by rw[hDD];exact hCl) f2 (λb hb=>by rw[hDD];exact hfp b hb) old hns₁ (by rw[hDD];exact nq);rw[hDD]at this;exact this
  ·rw[m8 (zG (hfp b hb))];exact(f2 b hb).1
  ·rw[EB,bE hD];exact Ext.refl _ _
  ·rw[EB,bE hD];exact h2
  ·rw[EB,bE hD];exact pU (sr.mono x2)
  ·rw[EB,bE hD,List.drop_zero];exact p3
 exact codeAny_compStart_list (loop _ rfl) (T.self _ 0 _ _ _ st1 (loop _ rfl))
theorem Tk(hc:X.calm=true)(hi:DI X Z tg iter it)(k:Z3 X scope N caps)
 (hg:∀C s H ex,DG (N5 X scope N C s H ex) ZF tg gg) (ht:∀C s H ex,DTs (N5 X scope N C s H ex) ZF ifs tt) (he:∀C s H ex,DE (N5 X scope N C s H ex) ZF elt fe)
 (hs:∀x,xa iter X.env x=pure x):DE X Z (.ListComp elt [⟨tg,iter,ifs,0⟩] scope pos) (O4 it caps gg tt fe):=⟨by
 intro pins s σ H Q I ki;refine ki.elim λX2 μ G sr hr p=>?_;rw[eval_ListComp];exact pR hc hi k hg ht he hs I sr hr p λDD C s4 H' m o hn fin _ _ q9=>⟨m,hn,λh'' sb=>⟨.ref DD,H',fin h'' sb,rfl,q9⟩⟩⟩
end
def K4(r:Nat):M DO:=λG=>match G[r]? with
 |some o=>some (.ok o,G)
 |none=>none
def listOf:DO->M (List D)
 | .lst l=>pure l
 | .rol l=>pure l
 | .dct _=>M.stuck
 | .rod _=>M.stuck
def iw:D->M (List D)
 | .tup l=>pure l
 | .ref r=>K4 r >>= listOf
 |_=>M.stuck
def C1{α:Type}:Option α->M α
 |some a=>pure a
 |none=>M.stuck
section
theorem IxR.mono(h:IxR X r)(k:∀x y H Q,r' x y H Q->r x y H Q):IxR X r':=λva sl pins s σ H x y v u Q I rx ry q hs=>h va sl pins s σ H x y v u Q I rx ry (k x y H Q q) hs
theorem G9{f:DO->M α}{K:α->List Addr->DH->Hp->Prop}(p:c7 c Z μ H ((K4 r >>= f) G) K):∃o,G[r]? =some o/\c7 c Z μ H (f o G) K:=by
 rw[M.bind_eq]at p;unfold K4 at p;rcases e:G[r]? with _|o
 ·rw[e]at p;exact p.elim
 ·rw[e]at p;exact⟨o,rfl,p⟩
theorem R1{r:Option β}{f:β->M α}{K:α->List Addr->DH->Hp->Prop}(p:c7 c Z μ H ((C1 r >>= f) G) K):∃o,r=some o/\c7 c Z μ H (f o G) K:=by
 rcases r with _|o
 ·exact p.elim
 ·exact⟨o,rfl,p⟩
theorem NF{f:List D->M α}{K:α->List Addr->DH->Hp->Prop}(h:m6 c μ G H)(r:d7 c μ H d v)(p:c7 c Z μ H ((iw d >>= f) G) K):
 ∃l a vs,v= .ref a/\j9 c μ H l vs/\c7 c Z μ H (f l G) K/\((d= .tup l/\SqT c.K H a vs)\/(∃i,d= .ref i/\μ[i]? =some a/\((G[i]? =some (.lst l)/\H a=some (.lst vs))\/(G[i]? =some (.rol l)/\RoL c.K H a vs)))):=by
 rcases d with _|_|_|_|l|i|_|_<;>try (exact p.elim;done)
 ·
   unfold d7 at r;obtain⟨a,vs,e,q,rl⟩:=r;exact⟨l,a,vs,e,rl,p,.inl ⟨rfl,q⟩⟩
 ·
   unfold d7 at r;obtain⟨a,m,e⟩:=r;have p':c7 c Z μ H ((K4 i >>= λo=>listOf o >>= f) G) K:=by rw[<-M.bind_assoc];exact p
   obtain⟨o,g,p2⟩:=G9 p';have ro:=h.obj i o a g m;rcases o with l|l|l|l
   ·obtain⟨vs,q,rl⟩:=ro;exact⟨l,a,vs,e,rl,p2,.inr ⟨i,rfl,m,.inl ⟨g,q⟩⟩⟩
   ·obtain⟨vs,q,rl⟩:=ro;exact⟨l,a,vs,e,rl,p2,.inr ⟨i,rfl,m,.inr ⟨g,q⟩⟩⟩
   ·exact p2.elim
   ·exact p2.elim
theorem U3(r:d7 c μ H (.int i) v):v= .int i:=by unfold d7 at r;exact r
theorem U1(r:d7 c μ H (.str i) v):v= .str i:=by unfold d7 at r;exact r
theorem D7(r:d7 c μ H (.bl i) v):v= .bl i:=by unfold d7 at r;exact r
theorem OD(r:d7 c μ H .non v):v= .non:=by unfold d7 at r;exact r
theorem ofI:d7 c μ H (.int i) (.int i):=by unfold d7;rfl
theorem ofS:d7 c μ H (.str i) (.str i):=by unfold d7;rfl
theorem ofB:d7 c μ H (.bl i) (.bl i):=by unfold d7;rfl
theorem ofN:d7 c μ H .non .non:=by unfold d7;rfl
def dB(g:Int->Int->M D):D->D->M D:=λx y=>match x,y with
 | .int i,.int j=>g i j
 |_,_=>M.stuck
theorem oI[∀i j,Decidable (C i j)]{g:Int->Int->Int}(h:OpR X f (rI C λi j=>.int (g i j))):OpD X Z f (dB λi j=>if C i j then pure (.int (g i j))else M.stuck):=
 OpD.of h λx y H Q ki=>ki.elim λdx dy μ G rx ry hr p=>by
  rcases dx with _|_|_|_|_|_|_|_<;>rcases dy with _|_|_|_|_|_|_|_<;>first
   |exact p.elim
   |skip
  rename_i i j;unfold dB at p;dsimp only at p;split at p
  ·rename_i hc;exact⟨i,j,U3 rx,U3 ry,hc,c7.ok p hr _ ofI⟩
  ·exact p.elim
theorem Lq{g:Int->Int->Int}(h:OpR X f (A9 λi j=>.int (g i j))):OpD X Z f (dB λi j=>pure (.int (g i j))):=
 OpD.of h λx y H Q ki=>ki.elim λdx dy μ G rx ry hr p=>by
  rcases dx with _|_|_|_|_|_|_|_<;>rcases dy with _|_|_|_|_|_|_|_<;>first
   |exact p.elim
   |exact⟨_,_,U3 rx,U3 ry,c7.ok p hr _ ofI⟩
def F9:D->D->M D:=dB λi j=>pure (.int (i-j))
theorem fg:OpD X Z (yy .Sub) F9:=Lq fL
instance (i j:Int):Decidable (i8 i j):=by unfold i8;infer_instance
def HB(_ j:Int):Prop:=0<j/\j<2 ^ 100
instance (i j:Int):Decidable (HB i j):=by unfold HB;infer_instance
theorem Ch:OpR X (yy .FloorDiv) (rI HB λi j=>.int (i / j)):=opI λi j _ _ _ _ _ hc q=>by
 have h1:(0:Int)<j:=hc.1;have h2:j<2 ^ 100:=hc.2;refine floordiv_int (by lia) (by rw[Int.fdiv_eq_ediv_of_nonneg i (by lia)];exact q) (.inl (PyProof.noPylong_of_log2 ?_));have h3:j.natAbs<2 ^ 100:=by lia
 have h4:j.natAbs≠0:=by lia
 have:=(Nat.log2_lt h4).mpr h3;lia
def aA:D->D->M D:=dB λi j=>if HB i j then pure (.int (i / j))else M.stuck
theorem QW:OpD X Z (yy .FloorDiv) aA:=oI Ch
def u4:D->D->M D:=dB λi j=>if 0<j then pure (.int (i % j))else M.stuck
theorem Mf:OpD X Z (yy .Mod) u4:=oI fT
instance (i j:Int):Decidable (g6 i j):=by unfold g6;infer_instance
def y3:D->D->M D:=dB λi j=>if g6 i j then pure (.int (i ^ j.toNat))else M.stuck
theorem vq:OpD X Z (yy .Pow) y3:=oI RK
theorem Kz{w:jg}{s:zv}{t b:Addr}{ws:List zh}(ht:YF s.heap t #[])(hb:YF s.heap b ws.toArray)
 (h1:Q (.ref b) s):zq (zC prog w) A (yy .Add (.ref t) (.ref b)) Q E s:=by
 obtain⟨⟨cls,dd,data,sl⟩,ho,hc,n,hd⟩:=id ht;obtain⟨⟨cls2,dd2,data2,sl2⟩,mo,hc2,n2,hd2⟩:=id hb;simp only at hc hd hc2 hd2;subst hc hd hc2 hd2;exact concat_meets ⟨_,ho,rfl⟩ ⟨_,mo,rfl⟩ Jw seq_tuple_add ZY ZU (ZK _ _)
  (tuple_addW0 t b #[] ws.toArray n n2 dd dd2 sl sl2 (by simp)) ⟨ho,mo,h1⟩
def qS(K:zj):R2:=λx y H Q=>∃a b ys,x= .ref a/\y= .ref b/\SqT K H a []/\SqT K H b ys/\Q (.ref b) H
theorem tZ:OpR X (yy .Add) (qS X.K):=by
 intro pins s σ H x y v u Q I rx ry h;obtain⟨a,b,ys,rfl,rfl,ha,hb,q⟩:=h
 cases rx
 cases ry
 obtain⟨ka,r,p,_⟩:=I.tuple ha;obtain⟨og,r2,p2,_⟩:=I.tuple hb
 cases r
 exact Kz p p2 ⟨.ref b,H,I,rfl,q⟩
def addD:D->D->M D:=λx y=>match x,y with
 | .int i,.int j=>pure (.int (i+j))
 | .str a,.str b=>if a.length+b.length<=zk then pure (.str (a++b))else M.stuck
 | .tup a,.tup b=>if a.length+b.length<=zk then pure (.tup (a++b))else M.stuck
 | .ref i,.ref j=>do
   match <-K4 i,<-K4 j with
   | .lst a,.lst b=>if a.length+b.length<=zk then J8 (.lst (a++b))else M.stuck
   |_,_=>M.stuck
 |_,_=>M.stuck
theorem lH{Q:VK}(h:m6 c μ G H)(q:SqT c.K H a vs)(r:j9 c μ H xs vs)
 (p:c7 c Z μ H (some (Except.ok (.tup xs),G)) λd X9 _ H'=>∀v,d7 c X9 H' d v->Q v H'):Q (.ref a) H:=c7.ok p h _ (by unfold d7;exact⟨a,vs,rfl,q,r⟩)
theorem kb:OpD X Z (yy .Add) addD:=
 OpD.of (OpR.or Km (OpR.or rT (OpR.or oZ (OpR.or tZ Dp)))) λx y H Q ki=>ki.elim λdx dy μ G rx ry hr p=>by
  rcases dx with _|_|_|_|_|_|_|_<;>rcases dy with _|_|_|_|_|_|_|_<;>first
   |exact p.elim
   |skip
  ·exact .inl ⟨_,_,U3 rx,U3 ry,c7.ok p hr _ ofI⟩
  · rename_i a b;refine .inr (.inl ?_);unfold addD at p;dsimp only at p;split at p
    ·rename_i hz;exact⟨a,b,U1 rx,U1 ry,hz,c7.ok p hr _ ofS⟩
    ·exact p.elim
  · rename_i a b;unfold d7 at rx ry;obtain⟨ax,vx,rfl,qx,lx⟩:=rx;obtain⟨ay,vy,rfl,qy,ly⟩:=ry;unfold addD at p;dsimp only at p;split at p
    · rename_i hz;by_cases hv:vx= []
      · subst hv;rcases a with _|⟨_,_⟩
        ·exact .inr (.inr (.inr (.inl ⟨ax,ay,vy,rfl,rfl,qx,qy,lH hr qy ly p⟩)))
        ·obtain⟨_,_,z,_⟩:=lx;cases z
      · refine .inr (.inr (.inl ⟨ax,ay,vx,vy,rfl,rfl,qx,qy,hv,by rw[<-lx.length,<-ly.length];exact hz,?_⟩));refine⟨λhy=>?_,λhy q hq=>eF hr (lx.append ly) p q hq⟩;subst hy;refine lH hr qx ?_ p;rcases b with _|⟨_,_⟩
        ·rw[jT];exact lx
        ·obtain⟨_,_,z,_⟩:=ly;cases z
    ·exact p.elim
  · rename_i i j;unfold d7 at rx ry;obtain⟨ax,mx,rfl⟩:=rx;obtain⟨ay,my,rfl⟩:=ry;obtain⟨ox,gx,p⟩:=G9 p;obtain⟨oy,gy,p⟩:=G9 p;have hx:=hr.obj i ox ax gx mx;have hy:=hr.obj j oy ay gy my;rcases ox with _|_|_|_<;>rcases oy with _|_|_|_<;>first
     |exact p.elim
     |skip
    obtain⟨vx,ex,lx⟩:=hx;obtain⟨vy,ey,ly⟩:=hy;dsimp only at p;split at p
    ·rename_i hz;exact .inr (.inr (.inr (.inr ⟨ax,ay,vx,vy,rfl,rfl,ex,ey,by rw[<-lx.length,<-ly.length];exact hz,λq hq=>T7 hr (lx.append ly) p q hq⟩)))
    ·exact p.elim
end
def Z7(G:DH):D->Option (Bool×List D)
 | .tup l=>some (true,l)
 | .ref i=>match G[i]? with
   |some (.lst l)=>some (false,l)
   |some (.rol l)=>some (false,l)
   |_=>none
 |_=>none
def u7:D->Bool
 | .non=>true
 | .bl _=>true
 | .int _=>true
 | .str _=>true
 |_=>false
def eqS:D->D->Option Bool
 | .non,.non=>some true
 | .bl a,.bl b=>some (a==b)
 | .int a,.int b=>some (a==b)
 | .str a,.str b=>some (a==b)
 | .bl a,.int b=>some ((if a then (1:Int)else 0)==b)
 | .int a,.bl b=>some (a==(if b then (1:Int)else 0))
 |x,y=>if u7 x&&u7 y then some false else none
def eqL(f:D->D->Option Bool):List D->List D->Option Bool
 |[], []=>some true
 |[],_::_=>some false
 |_::_, []=>some false
 |x::xs,y::ys=>match f x y,eqL f xs ys with
   |some e,some r=>some (e&&r)
   |_,_=>none
def eqN:Nat->DH->D->D->Option Bool
 |0,_,_,_=>none
 |n+1,G,x,y=>match Z7 G x,Z7 G y with
   |some (k1,a),some (k2,b)=>if k1=k2 then (if k1=false/\a.length≠b.length then some false else eqL (eqN n G) a b)else some false
   |some _,none=>if u7 y then some false else none
   |none,some _=>if u7 x then some false else none
   |none,none=>eqS x y
theorem rG:eqN (n+1) G x y=match Z7 G x,Z7 G y with
 |some (k1,a),some (k2,b)=>if k1=k2 then (if k1=false/\a.length≠b.length then some false else eqL (eqN n G) a b)else some false
 |some _,none=>if u7 y then some false else none
 |none,some _=>if u7 x then some false else none
 |none,none=>eqS x y:=rfl
theorem GB:eqL f (x::xs) (y::ys)=match f x y,eqL f xs ys with
 |some e,some r=>some (e&&r)
 |_,_=>none:=rfl
theorem nM:∀a b r,eqL f a b=some r->(∀j x y,a[j]? =some x->b[j]? =some y->f x y=some (e j))->r= ((zF (min a.length b.length)).all e&&a.length==b.length)
 |[], [],r,h,_=>by cases h;rfl
 |[],_::_,r,h,_=>by cases h;simp
 |_::_, [],r,h,_=>by cases h;simp
 |x::xs,y::ys,r,h,he=>by
   rw[GB]at h;have h0:=he 0 x y rfl rfl;rw[h0]at h;rcases hr:eqL f xs ys with _|r'
   ·rw[hr]at h;exact v6 h
   ·
     rw[hr]at h;have ih:=nM xs ys r' hr λj x' y' h1 h2=>he (j+1) x' y' (by simpa using h1) (by simpa using h2)
     cases h
     rw[ih];have:min (x::xs).length (y::ys).length=min xs.length ys.length+1:=by simp only[zr];lia
     rw[this,yL,jL,List.all_map];simp[Bool.and_assoc,YS]
theorem nH:∀a b r,eqL f a b=some r->∀(j:Nat) x y,a[j]? =some x->b[j]? =some y->∃e,f x y=some e
 |[],_,_,_,_,_,_,h,_=>by simp at h
 |_::_, [],_,_,_,_,_,_,h=>by simp at h
 |x::xs,y::ys,r,h,j,x',y',h1,h2=>by
   rw[GB]at h;rcases hf:f x y with _|e
   ·rw[hf]at h;exact v6 h
   ·
     rcases hr:eqL f xs ys with _|r'
     ·rw[hf,hr]at h;exact v6 h
     ·
       cases j with
       |zero=>simp at h1 h2;subst h1 h2;exact⟨e,hf⟩
       |succ j=>exact nH xs ys r' hr j x' y' (by simpa using h1) (by simpa using h2)
section
def rE(s:zv)(k:Bool)(a:Addr)(ka:List zh):Prop:=if k then s.heap.IsTuple a ka.toArray else s.heap.IsList a ka.toArray
theorem r9(I:Inv X pins σ H s)(h:m6 (wc X) μ G H)(e:Z7 G d=some (k,l))(r:d7 (wc X) μ H d x)(rv:t6 x v):
 ∃a vs ka,x= .ref a/\v= .ref a/\j9 (wc X) μ H l vs/\m9 vs ka/\rE s k a ka/\(if k then SqT X.K H a vs else SqL X.K H a vs):=by
 rcases d with _|_|_|_|l'|i|_|_<;>try (cases e;done)
 ·
   unfold Z7 at e
   cases e
   unfold d7 at r;obtain⟨a,vs,rfl,q,rl⟩:=r;obtain⟨ka,rr,p,_⟩:=I.tuple q;exact⟨a,vs,ka,rfl,rv,rl,rr,p,q⟩
 ·
   have e':(match G[i]? with|some (.lst l)=>some (false,l)|some (.rol l)=>some (false,l)|_=>none)=some (k,l):=e;unfold d7 at r;obtain⟨a,m,rfl⟩:=r;have key:∀vs,SqL X.K H a vs->j9 (wc X) μ H l vs->k=false->∃a' vs ka,V.ref a= .ref a'/\v= .ref a'/\j9 (wc X) μ H l vs/\m9 vs ka/\rE s k a' ka/\(if k then SqT X.K H a' vs else SqL X.K H a' vs):=λvs q rl hk=>by subst hk;obtain⟨ka,rr,p,_⟩:=I.list q;exact⟨a,vs,ka,rfl,rv,rl,rr,p.isList,q⟩
   generalize g:G[i]? =o at e';rcases o with _|l'|l'|_|_<;>cases e'
   ·obtain⟨vs,q,rl⟩:=h.obj i _ a g m;exact key vs (SqL.of q) rl rfl
   ·obtain⟨vs,q,rl⟩:=h.obj i _ a g m;exact key vs q.sq rl rfl
theorem pL(hs:u7 d=true)(r:d7 c μ H d (.ref a)):False:=by
 cases d<;>first
  |exact absurd (show false=true from hs) zN
  |(unfold d7 at r;cases r)
theorem AL(h:eqS x y=some b):u7 x=true/\u7 y=true:=by
 rcases x with _|_|_|_|_|_|_|_<;>rcases y with _|_|_|_|_|_|_|_<;>first
  |exact⟨rfl,rfl⟩
  |(cases h;done)
theorem Pd(h:eqS x y=some b)(rx:d7 c μ H x v)(ry:d7 c μ H y v):b=true:=by
 obtain⟨s1,s2⟩:=AL h;rcases x with _|_|_|_|_|_|_|_<;>rcases y with _|_|_|_|_|_|_|_<;>first
  |(cases s1;done)
  |(cases s2;done)
  |(unfold d7 at rx ry;rw[rx]at ry;cases ry;done)
  |(unfold d7 at rx ry;rw[rx]at ry;cases ry;cases h;first|rfl|simp)
theorem rZ(I:Inv X pins σ H s)(h1:rE s k a ka)(h2:rE s k' a its'):k=k':=by
 cases k<;>cases k'<;>first
  |rfl
  |exact absurd rfl (JW h1 h2)
  |exact absurd rfl (JW h2 h1)
theorem NQ:∀l l' vs b,j9 c μ H l vs->j9 c μ H l' vs->(∀d d' v b,v∈vs->d7 c μ H d v->d7 c μ H d' v->f d d'=some b->b=true)->eqL f l l'=some b->b=true
 |[], [],_,b,_,_,_,e=>by cases e;rfl
 |[],_::_,vs,b,r1,r2,_,_=>by cases r1;obtain⟨_,_,z,_⟩:=r2;exact tG z
 |_::_, [],vs,b,r1,r2,_,_=>by cases r2;obtain⟨_,_,z,_⟩:=r1;cases z
 |d::ds,d'::ds',vs,b,r1,r2,k,e=>by
   obtain⟨v0,vr,rfl,q0,t0⟩:=r1;obtain⟨v1,vr',e1,q1,t1⟩:=r2
   cases e1
   rw[GB]at e;rcases hf:f d d' with _|e0
   ·rw[hf]at e;exact v6 e
   ·
     rcases hr:eqL f ds ds' with _|r'
     ·rw[hf,hr]at e;exact v6 e
     ·
       rw[hf,hr]at e
       cases e
       have z1:=k d d' v0 e0 zt q0 q1 hf;have z2:=NQ ds ds' vr r' t0 t1 (λa a' v b hm=>k a a' v b (zi _ hm)) hr;rw[z1,z2];rfl
theorem FL(I:Inv X pins σ H s)(h:m6 (wc X) μ G H):∀n {dx dy} {x} {v} {b},d7 (wc X) μ H dx x->d7 (wc X) μ H dy x->t6 x v->eqN n G dx dy=some b->b=true
 |0,_,_,_,_,_,_,_,_,e=>by exact v6 e
 |n+1,dx,dy,x,v,b,rx,ry,rv,e=>by
   rw[rG]at e;rcases hx:Z7 G dx with _|p
   ·
     rw[hx]at e;rcases hy:Z7 G dy with _|p
     ·rw[hy]at e;exact Pd e rx ry
     ·
       obtain⟨k,l⟩:=p;rw[hy]at e;dsimp only at e;split at e
       ·rename_i hs;obtain⟨a,_,_,rfl,_⟩:=r9 I h hy ry rv;exact(pL hs rx).elim
       ·exact v6 e
   ·
     obtain⟨k,l⟩:=p;rw[hx]at e;rcases hy:Z7 G dy with _|p'
     ·
       rw[hy]at e;dsimp only at e;split at e
       ·rename_i hs;obtain⟨a,_,_,rfl,_⟩:=r9 I h hx rx rv;exact(pL hs ry).elim
       ·exact v6 e
     ·
       obtain⟨k',l'⟩:=p';rw[hy]at e;dsimp only at e;obtain⟨a,vs,ka,rfl,rfl,rl,rr,sq,q⟩:=r9 I h hx rx rv;obtain⟨a',mv,its',ea,_,mf,rr',sq',q'⟩:=r9 I h hy ry rv
       cases ea
       have hk:k=k':=rZ I sq sq';subst hk;have hvs:vs=mv:=by
        rcases k with _|_
        ·exact I.list_inj q q'
        ·exact I.tuple_inj q q'
       subst hvs;rw[if_pos rfl,if_neg (by rw[rl.length,mf.length];simp)]at e;have hv:∀v∈vs,∃u,t6 v u:=λv hv=>by obtain⟨i,hi⟩:=List.getElem?_of_mem hv;obtain⟨u,_,ru⟩:=rr.get hi;exact⟨u,ru⟩
       exact NQ l l' vs b rl mf (λd d' v b hm r1 r2 ef=>by obtain⟨u,ru⟩:=hv v hm;exact FL I h n r1 r2 ru ef) e
theorem bc(rx:d7 c μ H dx x)(ry:d7 c μ H dy y)(rv:t6 x v)(ru:t6 y u)(e:eqS dx dy=some b):
 YV A s v u b/\Yf A s v u (!b)/\yb A s v u b:=by
 obtain⟨s1,s2⟩:=AL e;rcases dx with _|i|i|i|_|_|_|_<;>try (cases s1;done)
 ·
   unfold d7 at rx;subst rx;cases rv;rcases dy with _|j|j|j|_|_|_|_<;>try (cases s2;done)
   ·unfold d7 at ry;subst ry;cases ru;cases e;exact⟨SeqAt.RcAt.none_none,SeqAt.RcNeAt.none_none,Xd _⟩
   ·unfold d7 at ry;subst ry;cases ru;cases e;exact⟨SeqAt.RcAt.none_bool _,SeqAt.RcNeAt.none_bool _,Jl _⟩
   ·unfold d7 at ry;subst ry;obtain⟨t,rfl⟩:=ru;cases e;exact⟨SeqAt.RcAt.none_int _ _,SeqAt.RcNeAt.none_int _ _,JD _ _⟩
   ·unfold d7 at ry;subst ry;obtain⟨t,rfl⟩:=ru;cases e;exact⟨SeqAt.RcAt.none_str _ _,SeqAt.RcNeAt.none_str _ _,JC _ _⟩
 ·
   unfold d7 at rx;subst rx;cases rv;rcases dy with _|j|j|j|_|_|_|_<;>try (cases s2;done)
   ·unfold d7 at ry;subst ry;cases ru;cases e;exact⟨SeqAt.RcAt.bool_none _,SeqAt.RcNeAt.bool_none _,Jm _⟩
   ·unfold d7 at ry;subst ry;cases ru;cases e;exact⟨SeqAt.RcAt.bool_bool _ _,SeqAt.RcNeAt.bool_bool _ _,Jn _ _⟩
   ·unfold d7 at ry;subst ry;obtain⟨t,rfl⟩:=ru;cases e;exact⟨SeqAt.RcAt.bool_int _ _ _,SeqAt.RcNeAt.bool_int _ _ _,JH _ _ _⟩
   ·unfold d7 at ry;subst ry;obtain⟨t,rfl⟩:=ru;cases e;exact⟨SeqAt.RcAt.bool_str _ _ _,SeqAt.RcNeAt.bool_str _ _ _,JG _ _ _⟩
 ·
   unfold d7 at rx;subst rx;obtain⟨t,rfl⟩:=rv;rcases dy with _|j|j|j|_|_|_|_<;>try (cases s2;done)
   ·unfold d7 at ry;subst ry;cases ru;cases e;exact⟨SeqAt.RcAt.int_none _ _,SeqAt.RcNeAt.int_none _ _,JE _ _⟩
   ·unfold d7 at ry;subst ry;cases ru;cases e;exact⟨SeqAt.RcAt.int_bool _ _ _,SeqAt.RcNeAt.int_bool _ _ _,JF _ _ _⟩
   ·unfold d7 at ry;subst ry;obtain⟨t,rfl⟩:=ru;cases e;exact⟨SeqAt.RcAt.int_int _ _ _ _,SeqAt.RcNeAt.int_int _ _ _ _,JO _ _ _ _⟩
   ·unfold d7 at ry;subst ry;obtain⟨t,rfl⟩:=ru;cases e;exact⟨SeqAt.RcAt.int_str _ _ _ _,SeqAt.RcNeAt.int_str _ _ _ _,Yx _ _ _ _⟩
 ·
   unfold d7 at rx;subst rx;obtain⟨t,rfl⟩:=rv;rcases dy with _|j|j|j|_|_|_|_<;>try (cases s2;done)
   ·unfold d7 at ry;subst ry;cases ru;cases e;exact⟨SeqAt.RcAt.str_none _ _,SeqAt.RcNeAt.str_none _ _,Jz _ _⟩
   ·unfold d7 at ry;subst ry;cases ru;cases e;exact⟨SeqAt.RcAt.str_bool _ _ _,SeqAt.RcNeAt.str_bool _ _ _,JA _ _ _⟩
   ·unfold d7 at ry;subst ry;obtain⟨t,rfl⟩:=ru;cases e;exact⟨SeqAt.RcAt.str_int _ _ _ _,SeqAt.RcNeAt.str_int _ _ _ _,Yw _ _ _ _⟩
   ·unfold d7 at ry;subst ry;obtain⟨t,rfl⟩:=ru;cases e;exact⟨SeqAt.RcAt.str_str _ _ _ _,SeqAt.RcNeAt.str_str _ _ _ _,JN _ _ _ _⟩
theorem cL(hu:A.units<yU)(sq:rE s k a ka)(ry:d7 c μ H dy y)(ru:t6 y u)(hs:u7 dy=true):
 (YV A s (.ref a) u false/\Yf A s (.ref a) u true/\yb A s (.ref a) u false)/\(YV A s u (.ref a) false/\Yf A s u (.ref a) true/\yb A s u (.ref a) false):=by
 rcases k with _|_
 ·
   rcases dy with _|j|j|j|_|_|_|_<;>try (cases hs;done)
   ·unfold d7 at ry;subst ry;cases ru;exact⟨⟨.list_none sq hu,.list_none sq hu,.list_none sq hu⟩,.none_list sq hu,.none_list sq hu,.none_list sq hu⟩
   ·unfold d7 at ry;subst ry;cases ru;exact⟨⟨.list_bool _ sq hu,.list_bool _ sq hu,.list_bool _ sq hu⟩,.bool_list _ sq hu,.bool_list _ sq hu,.bool_list _ sq hu⟩
   ·unfold d7 at ry;subst ry;obtain⟨t,rfl⟩:=ru;exact⟨⟨.list_int _ _ sq hu,.list_int _ _ sq hu,.list_int _ _ sq hu⟩,.int_list _ _ sq hu,.int_list _ _ sq hu,.int_list _ _ sq hu⟩
   ·unfold d7 at ry;subst ry;obtain⟨t,rfl⟩:=ru;exact⟨⟨.list_str _ _ sq hu,.list_str _ _ sq hu,.list_str _ _ sq hu⟩,.str_list _ _ sq hu,.str_list _ _ sq hu,.str_list _ _ sq hu⟩
 ·
   rcases dy with _|j|j|j|_|_|_|_<;>try (cases hs;done)
   ·unfold d7 at ry;subst ry;cases ru;exact⟨⟨.tuple_none sq hu,.tuple_none sq hu,.tuple_none sq hu⟩,.none_tuple sq hu,.none_tuple sq hu,.none_tuple sq hu⟩
   ·unfold d7 at ry;subst ry;cases ru;exact⟨⟨.tuple_bool _ sq hu,.tuple_bool _ sq hu,.tuple_bool _ sq hu⟩,.bool_tuple _ sq hu,.bool_tuple _ sq hu,.bool_tuple _ sq hu⟩
   ·unfold d7 at ry;subst ry;obtain⟨t,rfl⟩:=ru;exact⟨⟨.tuple_int _ _ sq hu,.tuple_int _ _ sq hu,.tuple_int _ _ sq hu⟩,.int_tuple _ _ sq hu,.int_tuple _ _ sq hu,.int_tuple _ _ sq hu⟩
   ·unfold d7 at ry;subst ry;obtain⟨t,rfl⟩:=ru;exact⟨⟨.tuple_str _ _ sq hu,.tuple_str _ _ sq hu,.tuple_str _ _ sq hu⟩,.str_tuple _ _ sq hu,.str_tuple _ _ sq hu,.str_tuple _ _ sq hu⟩
theorem qE(I:Inv X pins σ H s)(h:m6 (wc X) μ G H):∀n A,A.units+n<yU->∀ {dx dy} {x y:V} {v u} {b:Bool},d7 (wc X) μ H dx x->d7 (wc X) μ H dy y->t6 x v->t6 y u->eqN n G dx dy=some b->
 YV A s v u b/\Yf A s v u (!b)/\yb A s v u b
 |0,_,_,_,_,_,_,_,_,_,_,_,_,_,e=>by exact v6 e
 |n+1,A,hu,dx,dy,x,y,v,u,b,rx,ry,rv,ru,e=>by
   have hu0:A.units<yU:=by lia
   have hu1:A.in1.units+n<yU:=by show A.units+1+n<yU;lia
   have e0:=e;rw[rG]at e;rcases hx:Z7 G dx with _|p
   ·
     rw[hx]at e;rcases hy:Z7 G dy with _|p
     ·rw[hy]at e;exact bc rx ry rv ru e
     ·
       obtain⟨k,l⟩:=p;rw[hy]at e;dsimp only at e;split at e
       · rename_i hs
         cases e
         obtain⟨a,vs,ka,rfl,rfl,_,_,sq,_⟩:=r9 I h hy ry ru;exact(cL hu0 sq rx rv hs).2
       ·exact v6 e
   ·
     obtain⟨k,l⟩:=p;rw[hx]at e;obtain⟨a,vs,ka,rfl,rfl,rl,rr,sq,q⟩:=r9 I h hx rx rv;rcases hy:Z7 G dy with _|p'
     ·
       rw[hy]at e;dsimp only at e;split at e
       · rename_i hs
         cases e
         exact(cL hu0 sq ry ru hs).1
       ·exact v6 e
     ·
       obtain⟨k',l'⟩:=p';rw[hy]at e;dsimp only at e;obtain⟨a',mv,its',rfl,rfl,mf,rr',sq',q'⟩:=r9 I h hy ry ru
       -- the two at one place
       have main:YV A s (.ref a) (.ref a') b/\Yf A s (.ref a) (.ref a') (!b):=by
        have len1:ka.toArray.size=l.length:=by rw[zl,<-rr.length,rl.length]
        have len2:its'.toArray.size=l'.length:=by rw[zl,<-rr'.length,mf.length]
        by_cases hk:k=k'
        · subst hk;rw[if_pos rfl]at e;by_cases kl:k=false/\l.length≠l'.length
          · rw[if_pos kl]at e
            cases e
            obtain⟨rfl,md⟩:=kl;have hz:(ka.toArray.size != its'.toArray.size)=true:=by rw[len1,len2];simpa using md
            exact⟨SeqAt.RcAt.lists_lengths sq sq' hz hu0,SeqAt.RcNeAt.lists_lengths sq sq' hz hu0⟩
          · rw[if_neg kl]at e;have items:∀j (h1:j<ka.toArray.size) (h2:j<its'.toArray.size),∃e,eqN n G (l.getD j .non) (l'.getD j .non)=some e/\yb A.in1 s ka.toArray[j] its'.toArray[j] e:=λj h1 h2=>by
             have j1:j<l.length:=by rw[<-len1];exact h1
             have j2:j<l'.length:=by rw[<-len2];exact h2
             have g1:l[j]? =some l[j]:=zo j1;have g2:l'[j]? =some l'[j]:=zo j2;obtain⟨e1,he1⟩:=nH l l' b e j _ _ g1 g2;obtain⟨v1,hv1,r1⟩:=rl.get g1;obtain⟨v2,hv2,r2⟩:=mf.get g2;obtain⟨u1,hu1',ru1⟩:=rr.get hv1;obtain⟨u2,hu2',ru2⟩:=rr'.get hv2;have w1:ka.toArray[j]=u1:=by
              have:ka.toArray[j]? =some u1:=by simpa using hu1'
              rw[ji h1]at this;exact jr this
             have w2:its'.toArray[j]=u2:=by
              have:its'.toArray[j]? =some u2:=by simpa using hu2'
              rw[ji h2]at this;exact jr this
             rw[w1,w2];refine⟨e1,?_,(qE I h n A.in1 hu1 r1 r2 ru1 ru2 he1).2.2⟩;rw[zn,zn,g1,g2];exact he1
            have hr:=nM (e:=λj=>(eqN n G (l.getD j .non) (l'.getD j .non)).getD false) l l' b e λj x y g1 g2=>by obtain⟨e1,he1⟩:=nH l l' b e j x y g1 g2;rw[zn,zn,g1,g2];simp only[Option.getD_some];rw[he1];rfl
            have he:∀j (h1:j<ka.toArray.size) (h2:j<its'.toArray.size),yb A.in1 s ka.toArray[j] its'.toArray[j] ((eqN n G (l.getD j .non) (l'.getD j .non)).getD false):=λj h1 h2=>by obtain⟨e1,he1,hh⟩:=items j h1 h2;rw[he1];exact hh
            rcases k with _|_
            ·
              have hl:l.length=l'.length:=jb λz=>kl ⟨rfl,z⟩;have hsz:ka.toArray.size=its'.toArray.size:=by rw[len1,len2,hl]
              have z1:=SeqAt.RcAt.lists sq sq' hsz hu0 he;have z2:=SeqAt.RcNeAt.lists sq sq' hsz hu0 he;have hr2:b= (zF ka.toArray.size).all λj=>(eqN n G (l.getD j .non) (l'.getD j .non)).getD false:=by rw[hr,len1,hl];simp
              rw[<-hr2]at z1 z2;exact⟨z1,z2⟩
            ·
              have z1:=SeqAt.RcAt.tuples sq sq' hu0 he;have z2:=SeqAt.RcNeAt.tuples sq sq' hu0 he;rw[len1,len2,<-hr]at z1 z2;exact⟨z1,z2⟩
        · rw[if_neg hk]at e
          cases e
          cases k<;>cases k'<;>first
           |exact absurd rfl hk
           |exact⟨SeqAt.RcAt.list_tuple sq sq' hu0,SeqAt.RcNeAt.list_tuple sq sq' hu0⟩
           |exact⟨SeqAt.RcAt.tuple_list sq sq' hu0,SeqAt.RcNeAt.tuple_list sq sq' hu0⟩
       refine⟨main.1,main.2,?_⟩;by_cases ha:a=a'
       ·subst ha;have:b=true:=FL I h (n+1) rx ry rv e0;rw[this];exact Xd _
       ·exact SeqAt.EqAt.of_refs ha main.1
end
section
def eqD:D->D->M D:=λx y G=>match eqN 40 G x y with
 |some b=>some (.ok (.bl b),G)
 |none=>none
def neD:D->D->M D:=λx y G=>match eqN 40 G x y with
 |some b=>some (.ok (.bl (!b)),G)
 |none=>none
theorem Bh(hu:X.A.units+64<yU):OpD X Z (zZ .Eq) eqD:=⟨by
 intro pins s σ H x y v u Q I rx ry ki;refine ki.elim λdx dy μ G mh mq hr p=>?_;unfold eqD at p;rcases e:eqN 40 G dx dy with _|b
 ·rw[e]at p;exact p.elim
 ·
   rw[e]at p;exact(qE I hr 40 X.A (by lia) mh mq rx ry e).1 X.prog X.w X.xe _ ⟨.bl b,H,I,rfl,c7.ok p hr _ ofB⟩⟩
theorem Hx(hu:X.A.units+64<yU):OpD X Z (zZ .NotEq) neD:=⟨by
 intro pins s σ H x y v u Q I rx ry ki;refine ki.elim λdx dy μ G mh mq hr p=>?_;unfold neD at p;rcases e:eqN 40 G dx dy with _|b
 ·rw[e]at p;exact p.elim
 ·
   rw[e]at p;exact(qE I hr 40 X.A (by lia) mh mq rx ry e).2.1 X.prog X.w X.xe _ ⟨.bl (!b),H,I,rfl,c7.ok p hr _ ofB⟩⟩
def leD:D->D->M D:=λx y=>match x,y with
 | .int i,.int j=>pure (.bl (decide (i<=j)))
 | .str i,.str j=>pure (.bl (!decide (j.cps.toList<i.cps.toList)))
 |_,_=>M.stuck
def gtD:D->D->M D:=λx y=>match x,y with
 | .int i,.int j=>pure (.bl (decide (j<i)))
 | .str i,.str j=>pure (.bl (decide (j.cps.toList<i.cps.toList)))
 |_,_=>M.stuck
def geD:D->D->M D:=λx y=>match x,y with
 | .int i,.int j=>pure (.bl (decide (j<=i)))
 | .str i,.str j=>pure (.bl (!decide (i.cps.toList<j.cps.toList)))
 |_,_=>M.stuck
theorem sJ{op:CmpOp}{fi:Int->Int->Bool}{fs:Str->Str->Bool}(hi:OpR X (zZ op) (A9 λi j=>.bl (fi i j)))
 (hs:∀(i j:Str) (t u:Tok) (s:zv) Q E,Q (.bool (fs i j)) s->zq (zC X.prog X.w) X.A (zZ op (.str i t) (.str j u)) Q E s)
 (h1:∀i j,o (.int i) (.int j)=pure (.bl (fi i j))) (h2:∀i j,o (.str i) (.str j)=pure (.bl (fs i j)))
 (h3:∀x y,(∀i j,¬(x= .int i/\y= .int j))->(∀i j,¬(x= .str i/\y= .str j))->o x y=M.stuck):OpD X Z (zZ op) o:=⟨by
 intro pins s σ H x y v u Q I rx ry ki;refine ki.elim λdx dy μ G mh mq hr p=>?_;by_cases c1:∃i j,dx= .int i/\dy= .int j
 ·obtain⟨i,j,rfl,rfl⟩:=c1;rw[h1]at p;exact hi pins s σ H x y v u Q I rx ry ⟨i,j,U3 mh,U3 mq,c7.ok p hr _ ofB⟩
 · by_cases c2:∃i j,dx= .str i/\dy= .str j
   ·obtain⟨i,j,rfl,rfl⟩:=c2;rw[h2]at p;have e1:=U1 mh;have e2:=U1 mq;subst e1 e2;obtain⟨t,rfl⟩:=rx;obtain⟨t',rfl⟩:=ry;exact hs i j t t' s _ _ ⟨.bl (fs i j),H,I,rfl,c7.ok p hr _ ofB⟩
   ·rw[h3 dx dy (λi j z=>c1 ⟨i,j,z⟩) (λi j z=>c2 ⟨i,j,z⟩)]at p;exact p.elim⟩
theorem Kg:OpD X Z (zZ .LtE) leD:=sJ hW (λ_ _ _ _ _ _ _ q=>PySem.P.le_str q) (λ_ _=>rfl) (λ_ _=>rfl) λx y n1 n2=>by
 rcases x with _|_|_|_|_|_|_|_<;>rcases y with _|_|_|_|_|_|_|_<;>first
  |rfl
  |exact absurd ⟨rfl,rfl⟩ (n1 _ _)
  |exact absurd ⟨rfl,rfl⟩ (n2 _ _)
theorem Vp:OpD X Z (zZ .Gt) gtD:=sJ IW (λ_ _ _ _ _ _ _ q=>PySem.P.gt_str q) (λ_ _=>rfl) (λ_ _=>rfl) λx y n1 n2=>by
 rcases x with _|_|_|_|_|_|_|_<;>rcases y with _|_|_|_|_|_|_|_<;>first
  |rfl
  |exact absurd ⟨rfl,rfl⟩ (n1 _ _)
  |exact absurd ⟨rfl,rfl⟩ (n2 _ _)
theorem GS:OpD X Z (zZ .GtE) geD:=sJ cZ (λ_ _ _ _ _ _ _ q=>PySem.P.ge_str q) (λ_ _=>rfl) (λ_ _=>rfl) λx y n1 n2=>by
 rcases x with _|_|_|_|_|_|_|_<;>rcases y with _|_|_|_|_|_|_|_<;>first
  |rfl
  |exact absurd ⟨rfl,rfl⟩ (n1 _ _)
  |exact absurd ⟨rfl,rfl⟩ (n2 _ _)
def lJ:D->Bool
 | .non=>true
 |_=>false
theorem UO(r:d7 c μ H d v):decide (v= .non)=lJ d:=by
 cases d with
 |non=>rw[OD r];rfl
 |tup l=>unfold d7 at r;obtain⟨a,_,rfl,_⟩:=r;rfl
 |ref l=>unfold d7 at r;obtain⟨a,_,rfl⟩:=r;rfl
 |fn l=>unfold d7 at r;obtain⟨a,_,rfl⟩:=r;rfl
 |_=>unfold d7 at r;subst r;rfl
def j4:D->M D:=λx=>match x with
 | .int i=>pure (.int (-i))
 |_=>M.stuck
theorem vz:UnD X Z (unaryOp .USub) j4:=⟨by
 intro pins s σ H x v Q I rx ki;refine ki.elim λdx μ G mh hr p=>?_
 cases dx<;>first
  |exact p.elim
  |exact Fz pins s σ H x v Q I rx ⟨_,U3 mh,c7.ok p hr _ ofI⟩⟩
instance (x:Str) (n:Int):Decidable (XF x n):=by unfold XF;infer_instance
def v3:D->D->M D:=λx y=>match x,y with
 | .int i,.int j=>if i8 i j then pure (.int (i*j))else M.stuck
 | .str x,.int n=>if XF x n then pure (.str (Txt.mul x n))else M.stuck
 |_,_=>M.stuck
theorem TU:OpR X (yy .Mult) (λx y H Q=>∃z n,x= .str z/\y= .int n/\XF z n/\Q (.str (Txt.mul z n)) H):=by intro pins s σ H x y v u Q I rx ry h;obtain⟨z,n,rfl,rfl,hk,q⟩:=h;obtain⟨t,rfl⟩:=rx;obtain⟨t',rfl⟩:=ry;exact PySem.SB.mul hk λt' k=>⟨.str _,H,I.tok _,⟨_,rfl⟩,q⟩
theorem Rv:OpD X Z (yy .Mult) v3:=
 OpD.of (OpR.or Bg TU) λx y H Q ki=>ki.elim λdx dy μ G mh mq hr p=>by
  rcases dx with _|_|_|_|_|_|_|_<;>rcases dy with _|_|_|_|_|_|_|_<;>first
   |exact p.elim
   |skip
  · unfold v3 at p;dsimp only at p;split at p
    ·rename_i hc;exact .inl ⟨_,_,U3 mh,U3 mq,hc,c7.ok p hr _ ofI⟩
    ·exact p.elim
  · unfold v3 at p;dsimp only at p;split at p
    ·rename_i hc;exact .inr ⟨_,_,U1 mh,U3 mq,hc,c7.ok p hr _ ofS⟩
    ·exact p.elim
end
def AJ(A:jn)(s:zv)(y x:zh)(b:Bool):Prop:=
 ∀(prog:zS) (w:jg) (E:VSP) (Q:VSP),Q (.bool b) s->zq (zC prog w) A (richCompare .Lt y x) Q E s
inductive LtR(A:jn)(s:zv):List zh->List zh->Bool->Prop
 |nil:LtR A s [] [] false
 |nilc {y ys}:LtR A s [] (y::ys) true
 |cnil {x xs}:LtR A s (x::xs) [] false
 |eq {x y xs ys b}:yb A s x y true->LtR A s xs ys b->LtR A s (x::xs) (y::ys) b
 |ne {x y xs ys b}:yb A s x y false->AJ A s x y b->LtR A s (x::xs) (y::ys) b
section
open PySem.SeqAt
open PySem.AutoSeq1 (wpAny_loadPart')
open PySem.MeetsSeq PySem.MeetsSeq2 PySem.MeetsSeq3
theorem wd(l b:Addr)(items kn:Array zh)(n n2:Nat)(dd dd2:Option Addr)(sl sl2:Array (Option zh))(k:Bool):
 Meets (yt.«tuple.__lt__» ⟨[.ref l,.ref b], []⟩)
  (λA R s=>s.heap.get? l=some {cls:=.type "tuple",dict:=dd,data:=.seq items n,slots:=sl}/\s.heap.get? b=some {cls:=.type "tuple",dict:=dd2,data:=.seq kn n2,slots:=sl2}/\
    LtR A.in1 s items.toList kn.toList k/\R (.ok (.ret (.bool k))) s):=
 .of_wp λprog w A R s h=>by
  obtain⟨hp,g,d,tk,os⟩:=s;obtain⟨hl,hb,hk,h⟩:=h;have f2:=AutoSeq1.sub_tuple_tuple
  wp_walk using jD hl,jD hb,Ju _ (λrest b s'=>b.1=none/\s'= ⟨hp,g,d,tk,os⟩/\∃(vs ws:List zh),rest=vs.zip ws/\
   vs.length+kn.size=ws.length+items.size/\LtR A.in1 ⟨hp,g,d,tk,os⟩ vs ws k) _
  case turn=>
   rintro⟨y,x⟩ rest b s' ⟨nv,rfl,vs,ws,hz,kl,hR⟩
   cases hR with
   |nil=>exact iH hz
   |nilc=>exact iH hz
   |cnil=>exact iH hz
   |eq he hR'=>
     rw[xT]at hz;injection hz with hyx hrest;injection hyx with hy hx;subst hy hx;refine za (he prog w _ _ ?_)
     wp_walk
     simp only[zr]at kl;exact⟨rfl,rfl,_,_,hrest,by lia,hR'⟩
   |ne he hc=>
     rw[xT]at hz;injection hz with hyx hrest;injection hyx with hy hx;subst hy hx;refine za (he prog w _ _ ?_);have hri:=hc prog w
     wp_walk using hri
     exact⟨_,rfl,h⟩
  case fin=>
   rintro⟨b1,b2⟩ s' ⟨nv,rfl,vs,ws,hz,kl,hR⟩;simp only at nv;subst nv;have hv:k=decide (items.size<kn.size):=by
    cases hR with
    |nil=>simp only[yh]at kl;exact(decide_eq_false (by lia)).symm
    |nilc=>simp only[yh,zr]at kl;exact(decide_eq_true (by lia)).symm
    |cnil=>simp only[yh,zr]at kl;exact(decide_eq_false (by lia)).symm
    |eq _ _=>rw[xT]at hz;exact tG hz
    |ne _ _=>rw[xT]at hz;exact tG hz
   rw[hv]at h
   wp_walk
   exact⟨_,rfl,by simpa [Builtin.Tuple.tupleCompareSizes]using h⟩
  case h=>
   exact⟨rfl,rfl,items.toList,kn.toList,rfl,by simp;lia,hk⟩
theorem NS(l b:Addr)(items kn:Array zh)(n n2:Nat)(dd dd2:Option Addr)(sl sl2:Array (Option zh))(k:Bool):∀vs ws i,items.toList.drop i=vs->kn.toList.drop i=ws->i<=items.size->i<=kn.size->
 Meets (yt.«list.__eq__.loop» ⟨[.ref l,.ref b,xk i,xk 0], []⟩)
  (λA R s=>s.heap.get? l=some {cls:=.type "list",dict:=dd,data:=.seq items n,slots:=sl}/\s.heap.get? b=some {cls:=.type "list",dict:=dd2,data:=.seq kn n2,slots:=sl2}/\
    LtR A.in1 s vs ws k/\R (.ok (.ret (.bool k))) s):=by
 have dropn:∀(a:Array zh) (i:Nat),a.toList.drop i= []->i<=a.size->i=a.size:=λa i e hi=>by have:=List.drop_eq_nil_iff.mp e;simp at this;lia
 have dropc:∀(a:Array zh) (i:Nat) (v:zh) (r:List zh),a.toList.drop i=v::r->i<a.size/\a[((i:Nat):Int).toNat]? =some v/\a.toList.drop (i+1)=r:=λa i v r e=>by
  have ky:i<a.toList.length:=by
   rcases Zx i a.toList.length with q|q
   ·exact q
   ·rw[Yn q]at e;exact tG e
  rw[ZO ky]at e;injection e with e1 e2;refine⟨by simpa using ky,?_,e2⟩;simp at ky;simp[ky];simpa using e1
 intro vs
 induction vs with
 |nil=>
   intro ws i hv hw hi hi2 prog w A R s h;obtain⟨hp,g,d,tk,os⟩:=s;obtain⟨hl,hb,he,h⟩:=h;have e1:=dropn items i hv hi
   wp_walk using jD hl,jD hb
   have hi1:items[((i:Nat):Int).toNat]? =none:=by simp;lia
   rw[hi1];rcases ws with _|⟨y,ys⟩
   ·
     have e2:=dropn kn i hw hi2
     cases he
     wp_walk using jD hl,jD hb
     show R (.ok (.ret (.bool (decide (items.size<kn.size))))) _;rw[decide_eq_false (by lia)];exact h
   ·
     obtain⟨ky,_,_⟩:=dropc kn i y ys hw
     cases he
     wp_walk using jD hl,jD hb
     show R (.ok (.ret (.bool (decide (items.size<kn.size))))) _;rw[decide_eq_true (by lia)];exact h
 |cons x xs ih=>
   intro ws i hv hw hi hi2 prog w A R s h;obtain⟨hp,g,d,tk,os⟩:=s;obtain⟨hl,hb,he,h⟩:=h;obtain⟨ky,g1,d1⟩:=dropc items i x xs hv
   wp_walk using jD hl,jD hb
   rcases ws with _|⟨y,ys⟩
   ·
     have e2:=dropn kn i hw hi2;have hi2':kn[((i:Nat):Int).toNat]? =none:=by simp;lia
     rw[g1,hi2']
     cases he
     wp_walk using jD hl,jD hb
     show R (.ok (.ret (.bool (decide (items.size<kn.size))))) _;rw[decide_eq_false (by lia)];exact h
   ·
     obtain⟨hlt2,g2,d2⟩:=dropc kn i y ys hw;have hc:((i:Int)+1)= ((i+1:Nat):Int):=by push_cast;rfl
     rw[g1,g2]
     cases he with
     |eq he he'=>
       refine za (he prog w _ _ ?_)
       wp_walk
       rw[hc];exact⟨xh plain_eq_loop _,yA entry_eq_loop (by rw[jX plain_eq_loop _];exact ih ys (i+1) d1 d2 (by lia) (by lia) prog w A R _ ⟨hl,hb,he',h⟩)⟩
     |ne he hcmp=>
       refine za (he prog w _ _ ?_);have hri:=hcmp prog w
       wp_walk using jD hl,jD hb
       rw[g1,g2]
       wp_walk using hri
       exact h
theorem Gd(l b:Addr)(items kn:Array zh)(n n2:Nat)(dd dd2:Option Addr)(sl sl2:Array (Option zh))(k:Bool):
 Meets (yt.«list.__lt__» ⟨[.ref l,.ref b], []⟩)
  (λA R s=>s.heap.get? l=some {cls:=.type "list",dict:=dd,data:=.seq items n,slots:=sl}/\s.heap.get? b=some {cls:=.type "list",dict:=dd2,data:=.seq kn n2,slots:=sl2}/\
    LtR A.in1 s items.toList kn.toList k/\R (.ok (.ret (.bool k))) s):=by
 intro prog w A R s h;obtain⟨hp,g,d,tk,os⟩:=s;obtain⟨hl,hb,he,h⟩:=h;have f3:=AutoSeq1.sub_list_list
 wp_walk using jD hl,jD hb
 exact⟨xh plain_eq_loop _,yA entry_eq_loop (by rw[jX plain_eq_loop _];exact NS l b items kn n n2 dd dd2 sl sl2 k items.toList kn.toList 0 rfl rfl (zD _) (zD _) prog w A R _ ⟨hl,hb,he,h⟩)⟩
end
def ltS:D->D->Option Bool
 | .int a,.int b=>some (decide (a<b))
 | .str a,.str b=>some (decide (a.cps.toList<b.cps.toList))
 | .bl a,.bl b=>some (decide (b2i a<b2i b))
 |_,_=>none
def ltL(eq lt:D->D->Option Bool):List D->List D->Option Bool
 |[], []=>some false
 |[],_::_=>some true
 |_::_, []=>some false
 |x::xs,y::ys=>match eq x y with
   |some true=>ltL eq lt xs ys
   |some false=>lt x y
   |none=>none
def ltN:Nat->DH->D->D->Option Bool
 |0,_,_,_=>none
 |n+1,G,x,y=>match Z7 G x,Z7 G y with
   |some (k1,a),some (k2,b)=>if k1=k2 then ltL (eqN n G) (ltN n G) a b else none
   |none,none=>ltS x y
   |_,_=>none
theorem Hf:ltN (n+1) G x y=match Z7 G x,Z7 G y with
 |some (k1,a),some (k2,b)=>if k1=k2 then ltL (eqN n G) (ltN n G) a b else none
 |none,none=>ltS x y
 |_,_=>none:=rfl
section
theorem Sd(rx:d7 c μ H dx x)(ry:d7 c μ H dy y)(rv:t6 x v)(ru:t6 y u)(e:ltS dx dy=some b):AJ A s v u b:=by
 intro prog w E Q hq;rcases dx with _|_|_|_|_|_|_|_<;>rcases dy with _|_|_|_|_|_|_|_<;>first
  |(cases e;done)
  |skip
 · cases e
   unfold d7 at rx ry;subst rx ry;cases rv;cases ru;exact(lt_bool hq:zq (zC prog w) A (zZ .Lt _ _) Q E s)
 · cases e
   unfold d7 at rx ry;subst rx ry;obtain⟨t,rfl⟩:=rv;obtain⟨t',rfl⟩:=ru;exact(lt_int hq:zq (zC prog w) A (zZ .Lt _ _) Q E s)
 · cases e
   unfold d7 at rx ry;subst rx ry;obtain⟨t,rfl⟩:=rv;obtain⟨t',rfl⟩:=ru;exact(lt_str hq:zq (zC prog w) A (zZ .Lt _ _) Q E s)
theorem FN(I:Inv X pins σ H s)(h:m6 (wc X) μ G H):∀n A,A.units+n<yU->∀ {dx dy} {x y} {v u} {b},d7 (wc X) μ H dx x->d7 (wc X) μ H dy y->t6 x v->t6 y u->ltN n G dx dy=some b->AJ A s v u b
 |0,_,_,_,_,_,_,_,_,_,_,_,_,_,e=>by exact v6 e
 |n+1,A,hu,dx,dy,x,y,v,u,b,rx,ry,rv,ru,e=>by
   have hu0:A.units<yU:=by lia
   have hu1:A.in1.units+n<yU:=by show A.units+1+n<yU;lia
   rw[Hf]at e;rcases hx:Z7 G dx with _|p
   ·
     rw[hx]at e;rcases hy:Z7 G dy with _|p
     ·rw[hy]at e;exact Sd rx ry rv ru e
     ·rw[hy]at e;exact v6 e
   ·
     obtain⟨k,l⟩:=p;rw[hx]at e;rcases hy:Z7 G dy with _|p'
     ·rw[hy]at e;exact v6 e
     ·
       obtain⟨k',l'⟩:=p';rw[hy]at e;dsimp only at e;split at e
       case isFalse=>exact v6 e
       rename_i hk;subst hk;obtain⟨a,vs,ka,rfl,rfl,rl,rr,sq,q⟩:=r9 I h hx rx rv;obtain⟨a',mv,its',rfl,rfl,mf,rr',sq',q'⟩:=r9 I h hy ry ru;have main:∀(l l':List D) (vs mv:List V) (ka its':List zh),j9 (wc X) μ H l vs->j9 (wc X) μ H l' mv->m9 vs ka->m9 mv its'->ltL (eqN n G) (ltN n G) l l'=some b->LtR A.in1 s ka its' b:=by
        intro l
        induction l with
        |nil=>
          intro l' vs mv ka its' r r' q q' e
          cases r;cases q
          rcases l' with _|⟨_,_⟩
          ·cases r';cases q';cases e;exact .nil
          ·
            obtain⟨_,_,rfl,_,_⟩:=r'
            cases q'
            cases e
            exact .nilc
        |cons d ds ih=>
          intro l' vs mv ka its' r r' q q' e;obtain⟨v0,vr,rfl,r0,rt⟩:=r
          cases q with
          |cons q0 qt=>
            rcases l' with _|⟨d',ds'⟩
            ·cases r';cases q';cases e;exact .cnil
            ·
              obtain⟨v1,vr',rfl,r1,rt'⟩:=r'
              cases q' with
              |cons q1 qt'=>
                unfold ltL at e;rcases he:eqN n G d d' with _|b0
                ·rw[he]at e;exact v6 e
                ·
                  rw[he]at e;have hE:=(qE I h n A.in1 hu1 r0 r1 q0 q1 he).2.2;rcases b0 with _|_
                  ·exact .ne hE (FN I h n A.in1 hu1 r0 r1 q0 q1 e)
                  ·exact .eq hE (ih ds' vr vr' _ _ rt rt' qt qt' e)
       have hR:=main l l' vs mv ka its' rl mf rr rr' e;intro prog w E Q hq;rcases k with _|_
       ·
         obtain⟨⟨cls,dd,data,sl⟩,ho,hc,m,hd⟩:=id sq;obtain⟨⟨cls2,dd2,data2,sl2⟩,mo,hc2,m2,hd2⟩:=id sq';simp only at hc hd hc2 hd2;subst hc hd hc2 hd2;exact richCompare_meets_room ⟨_,ho,rfl⟩ ⟨_,mo,rfl⟩ PySem.F.slot_list_lt PySem.F.entry_list_lt (PySem.F.args_list_lt_2 _ _) (Gd a a' ka.toArray its'.toArray m m2 dd dd2 sl sl2 b)
          ⟨ho,mo,hR,show Value.bool b≠Value.notImplemented/\Q (.bool b) s from⟨(λx=>nomatch x),hq⟩⟩ hu0
       ·
         obtain⟨⟨cls,dd,data,sl⟩,ho,hc,m,hd⟩:=id sq;obtain⟨⟨cls2,dd2,data2,sl2⟩,mo,hc2,m2,hd2⟩:=id sq';simp only at hc hd hc2 hd2;subst hc hd hc2 hd2;exact richCompare_meets_room ⟨_,ho,rfl⟩ ⟨_,mo,rfl⟩ PySem.F.slot_tuple_lt PySem.F.entry_tuple_lt (PySem.F.args_tuple_lt_2 _ _) (wd a a' ka.toArray its'.toArray m m2 dd dd2 sl sl2 b)
          ⟨ho,mo,hR,show Value.bool b≠Value.notImplemented/\Q (.bool b) s from⟨(λx=>nomatch x),hq⟩⟩ hu0
def ltD:D->D->M D:=λx y G=>match ltN 40 G x y with
 |some b=>some (.ok (.bl b),G)
 |none=>none
theorem vw(hu:X.A.units+64<yU):OpD X Z (zZ .Lt) ltD:=⟨by
 intro pins s σ H x y v u Q I rx ry ki;refine ki.elim λdx dy μ G mh mq hr p=>?_;unfold ltD at p;rcases e:ltN 40 G dx dy with _|b
 ·rw[e]at p;exact p.elim
 ·
   rw[e]at p;exact FN I hr 40 X.A (by lia) mh mq rx ry e X.prog X.w X.xe _ ⟨.bl b,H,I,rfl,c7.ok p hr _ ofB⟩⟩
end
def C4:D->Bool
 | .non=>true
 | .bl _=>true
 | .int _=>true
 | .str _=>true
 |_=>false
def toV:D->V
 | .bl b=>.bl b
 | .int i=>.int i
 | .str x=>.str x
 |_=>.non
def f8:D->Option Key
 | .int i=>some (.inl i)
 | .str x=>some (.inr x)
 |_=>none
def L3(l:List (Key×D))(k:Key):Option D:=(l.find? λkv=>decide (kv.1=k)).map (·.2)
def inB(x y:D)(G:DH):Option Bool:=match y with
 | .str j=>match x with
   | .str i=>some (!(Zw j i 0 j.length 1).isEmpty)
   |_=>none
 | .ref r=>match G[r]? with
   |some (.dct l)=>(f8 x).map λk=>(L3 l k).isSome
   |some (.rod _)=>none
   |some (.lst l)=>if C4 x&&l.all C4 then some (inV (toV x) (l.map toV))else none
   |some (.rol l)=>if C4 x&&l.all C4 then some (inV (toV x) (l.map toV))else none
   |none=>none
 | .tup l=>if C4 x&&l.all C4 then some (inV (toV x) (l.map toV))else none
 |_=>none
def inD:D->D->M D:=λx y G=>match inB x y G with
 |some b=>some (.ok (.bl b),G)
 |none=>none
def nA:D->D->M D:=λx y G=>match inB x y G with
 |some b=>some (.ok (.bl (!b)),G)
 |none=>none
section
theorem EL(f:C4 d=true)(r:d7 c μ H d v):v=toV d/\f7 v=true:=by
 cases d<;>first
  |exact absurd (show false=true from f) zN
  |(unfold d7 at r;subst r;exact⟨rfl,rfl⟩)
theorem pN:∀ {l} {vs},l.all C4=true->j9 c μ H l vs->vs=l.map toV/\vs.all f7=true
 |[],_,_,r=>by cases r;exact⟨rfl,rfl⟩
 |d::ds,_,f,r=>by obtain⟨v,t,rfl,q,rt⟩:=r;rw[jL,jI]at f;obtain⟨e1,e2⟩:=EL f.1 q;obtain⟨e3,e4⟩:=pN f.2 rt;refine⟨by rw[zK,<-e1,<-e3],?_⟩;rw[jL,e2,e4];rfl
theorem KH(e:f8 d=some k)(r:d7 c μ H d v):v=kV k:=by
 cases d<;>first
  |(cases e;unfold d7 at r;exact r)
  |exact v6 e
theorem uH:∀ {l} {iz},S8 c μ H l iz->match L3 l k with|some d=>∃v,d4 iz k=some v/\d7 c μ H d v|none=>d4 iz k=none
 |[],_,r=>by cases r;exact rfl
 |(k',d)::t,_,r=>by
  obtain⟨v,kt,rfl,q,rt⟩:=r;by_cases e:k'=k
  · have h1:L3 ((k',d)::t) k=some d:=by unfold L3;simp[e]
    rw[h1];exact⟨v,iF e,q⟩
  · have h1:L3 ((k',d)::t) k=L3 t k:=by unfold L3;simp[e]
    rw[h1];have ih:=uH (k:=k) rt;rw[OE e];exact ih
theorem IY(r:S8 c μ H l iz):(L3 l k).isSome= (d4 iz k).isSome:=by
 have q:=uH (k:=k) r;rcases e:L3 l k with _|d
 ·rw[e]at q;rw[q];rfl
 ·rw[e]at q;obtain⟨v,q,_⟩:=q;rw[q];rfl
theorem bL(hu:X.A.units+64<yU)(I:Inv X pins σ H s)(hr:m6 (wc X) μ G H)(mh:d7 (wc X) μ H dx x)(mq:d7 (wc X) μ H dy y)(rx:t6 x v)(ry:t6 y u)
 (e:inB dx dy G=some b):
 (Q (.bl b) H->zq (zC X.prog X.w) X.A (zZ .In v u) (EP X pins σ Q) X.xe s)/\(Q (.bl (!b)) H->zq (zC X.prog X.w) X.A (zZ .NotIn v u) (EP X pins σ Q) X.xe s):=by
 have seq:∀(p:Addr) (l:List D) (vs:List V),y= .ref p->(SqL X.K H p vs\/SqT X.K H p vs)->j9 (wc X) μ H l vs->(if (C4 dx&&l.all C4)=true then some (inV (toV dx) (l.map toV))else none)=some b->
  (Q (.bl b) H->zq (zC X.prog X.w) X.A (zZ .In v u) (EP X pins σ Q) X.xe s)/\(Q (.bl (!b)) H->zq (zC X.prog X.w) X.A (zZ .NotIn v u) (EP X pins σ Q) X.xe s):=by
  intro p l vs hy hq rl e;split at e
  · rename_i hf;rw[jI]at hf
    cases e
    obtain⟨e1,e2⟩:=EL hf.1 mh;obtain⟨e3,e4⟩:=pN hf.2 rl;rw[<-e1,<-e3];exact⟨λq=>Qz pins s σ H x y v u Q I rx ry ⟨p,vs,hy,hq,e2,e4,q⟩,λq=>Hb pins s σ H x y v u Q I rx ry ⟨p,vs,hy,hq,e2,e4,q⟩⟩
  ·exact v6 e
 rcases dy with _|_|_|j|l|i|_|_<;>try (cases e;done)
 ·
   rcases dx with _|_|_|i|_|_|_|_<;>try (cases e;done)
   ·
     cases e
     have e1:=U1 mh;have e2:=U1 mq;exact⟨λq=>wj pins s σ H x y v u Q I rx ry ⟨i,j,e1,e2,q⟩,λq=>Bp pins s σ H x y v u Q I rx ry ⟨i,j,e1,e2,q⟩⟩
 ·
   unfold d7 at mq;obtain⟨a,vs,hy,q,rl⟩:=mq;exact seq a l vs hy (.inr q) rl e
 ·
   unfold d7 at mq;obtain⟨a,m,hy⟩:=mq;rcases g:G[i]? with _|o
   ·unfold inB at e;simp only[g]at e;exact v6 e
   ·
     have ro:=hr.obj i o a g m;rcases o with l|l|l|l
     ·
       obtain⟨vs,q,rl⟩:=ro;unfold inB at e;simp only[g]at e;exact seq a l vs hy (.inl (SqL.of q)) rl e
     ·
       obtain⟨vs,q,rl⟩:=ro;unfold inB at e;simp only[g]at e;exact seq a l vs hy (.inl q.sq) rl e
     ·
       obtain⟨iz,q,rk⟩:=ro;unfold inB at e;simp only[g]at e;rcases hk:f8 dx with _|k
       ·rw[hk]at e;exact v6 e
       ·
         rw[hk]at e
         cases e
         have ek:=KH hk mh;have dg:mC H a x (d4 iz k):=by rw[ek];exact mC.k q
         subst hy
         cases ry
         dsimp only;rw[IY rk];exact⟨λq=>Nw (by lia) I dg rx λs' I'=>⟨.bl _,H,I',rfl,q⟩,λq=>TX (by lia) I dg rx λs' I'=>⟨.bl _,H,I',rfl,q⟩⟩
     ·unfold inB at e;simp only[g]at e;exact v6 e
theorem Kv(hu:X.A.units+64<yU):OpD X Z (zZ .In) inD:=⟨by
 intro pins s σ H x y v u Q I rx ry ki;refine ki.elim λdx dy μ G mh mq hr p=>?_;unfold inD at p;rcases e:inB dx dy G with _|b
 ·rw[e]at p;exact p.elim
 ·rw[e]at p;exact(bL hu I hr mh mq rx ry e).1 (c7.ok p hr _ ofB)⟩
theorem qU(hu:X.A.units+64<yU):OpD X Z (zZ .NotIn) nA:=⟨by
 intro pins s σ H x y v u Q I rx ry ki;refine ki.elim λdx dy μ G mh mq hr p=>?_;unfold nA at p;rcases e:inB dx dy G with _|b
 ·rw[e]at p;exact p.elim
 ·rw[e]at p;exact(bL hu I hr mh mq rx ry e).2 (c7.ok p hr _ ofB)⟩
inductive Ty where
 |int|bool|str|tuple|list|dict
 deriving DecidableEq
def Ty.name:Ty->String
 | .int=> "int"| .bool=> "bool"| .str=> "str"| .tuple=> "tuple"| .list=> "list"| .dict=> "dict"
def Ty.of(n:String):Option Ty:=if n= "int" then some .int else if n= "bool" then some .bool else if n= "str" then some .str else if n= "tuple" then some .tuple else if n= "list" then some .list else if n= "dict" then some .dict else none
theorem Ty.of_name{n:String}{T:Ty}(h:Ty.of n=some T):n=T.name:=by
 unfold Ty.of at h;split at h
 ·rename_i e;cases h;exact e
 split at h
 ·rename_i e;cases h;exact e
 split at h
 ·rename_i e;cases h;exact e
 split at h
 ·rename_i e;cases h;exact e
 split at h
 ·rename_i e;cases h;exact e
 split at h
 ·rename_i e;cases h;exact e
 ·exact v6 h
inductive Kd where
 |non|bool|int|str|tuple|list|dict
def Kd.is:Kd->Ty->Bool
 | .bool,.int=>true
 | .bool,.bool=>true
 | .int,.int=>true
 | .str,.str=>true
 | .tuple,.tuple=>true
 | .list,.list=>true
 | .dict,.dict=>true
 |_,_=>false
def Kd.name:Kd->String
 | .non=> "NoneType"| .bool=> "bool"| .int=> "int"| .str=> "str"| .tuple=> "tuple"| .list=> "list"| .dict=> "dict"
def vB(G:DH):D->Option Kd
 | .non=>some .non
 | .bl _=>some .bool
 | .int _=>some .int
 | .str _=>some .str
 | .tup _=>some .tuple
 | .ref i=>match G[i]? with
   |some (.lst _)=>some .list
   |some (.rol _)=>some .list
   |some (.dct _)=>some .dict
   |some (.rod _)=>some .dict
   |none=>none
 |_=>none
def gC:List D->Option (List Ty)
 |[]=>some []
 | .ty n::r=>match Ty.of n,gC r with
   |some T,some Ts=>some (T::Ts)
   |_,_=>none
 |_=>none
def O1:List D->M D:=λds G=>match ds with
 |[d,.ty n]=>match vB G d,Ty.of n with
   |some k,some T=>some (.ok (.bl (k.is T)),G)
   |_,_=>none
 |[d,.tup l]=>match vB G d,gC l with
   |some k,some Ts=>some (.ok (.bl (Ts.any k.is)),G)
   |_,_=>none
 |_=>none
theorem cf(K:zj)(k:Kd)(T:Ty):PySem.W.kitOne K (.type k.name) (.type T.name)=some (k.is T):=by
 cases k<;>cases T<;>rfl
theorem qN{A:jn}{E:VSP}{pins:PNS}{σ:St}{s:zv}{d:D}{x:V}{v:zh}{k:Kd}(I:Inv X pins σ H s)(hr:m6 (wc X) μ G H)(r:d7 (wc X) μ H d x)(rv:t6 x v)(e:vB G d=some k):
 ∃HH:Heap->Prop,PySem.W.KitX X.K v (.type k.name) HH/\HH s.heap/\v≠ .builtin "__main__.__loader__#opaque":=by
 rcases d with _|b|b|b|l|i|_|_<;>try (cases e;done)
 ·cases e;unfold d7 at r;subst r;cases rv;exact⟨_,PySem.W.kitx_none,True.intro,λz=>nomatch z⟩
 ·cases e;unfold d7 at r;subst r;cases rv;exact⟨_,PySem.W.kitx_bool,True.intro,λz=>nomatch z⟩
 ·cases e;unfold d7 at r;subst r;obtain⟨t,rfl⟩:=rv;exact⟨_,PySem.W.kitx_int,True.intro,λz=>nomatch z⟩
 ·cases e;unfold d7 at r;subst r;obtain⟨t,rfl⟩:=rv;exact⟨_,PySem.W.kitx_str,True.intro,λz=>nomatch z⟩
 ·
   cases e
   unfold d7 at r;obtain⟨a,vs,rfl,q,_⟩:=r
   cases rv
   obtain⟨ka,_,⟨o,h1,h2,_⟩,_⟩:=I.tuple q;exact⟨_,PySem.W.kitx_tuple,⟨o,h1,h2⟩,λz=>nomatch z⟩
 ·
   unfold d7 at r;obtain⟨a,m,rfl⟩:=r
   cases rv
   unfold vB at e;rcases g:G[i]? with _|o
   ·simp only[g]at e;exact v6 e
   ·
     have ro:=hr.obj i o a g m;simp only[g]at e;rcases o with l|l|l|l
     ·
       cases e
       obtain⟨vs,q,_⟩:=ro;obtain⟨ka,_,⟨o,n,h1,h2,_⟩,_⟩:=I.list (SqL.of q);exact⟨_,PySem.W.kitx_list,⟨o,h1,h2⟩,λz=>nomatch z⟩
     ·
       cases e
       obtain⟨vs,q,_⟩:=ro;obtain⟨ka,_,⟨o,n,h1,h2,_⟩,_⟩:=I.list q.sq;exact⟨_,PySem.W.kitx_list,⟨o,h1,h2⟩,λz=>nomatch z⟩
     ·
       cases e
       obtain⟨iz,q,_⟩:=ro;obtain⟨_,_,vs,_,o,es,ep,h1,h2,_⟩:=(show N7 X.prog X.w H s.heap a (.dK iz)from I.hok a _ q);exact⟨_,PySem.W.kitx_dict,⟨o,h1,h2.1⟩,λz=>nomatch z⟩
     ·
       cases e
       obtain⟨iz,ob,q,_⟩:=ro;obtain⟨_,_,_,vs,_,o,es,ep,h1,h2,_⟩:=(show N7 X.prog X.w H s.heap a (.frz ob (.dK iz))from I.hok a _ q);exact⟨_,PySem.W.kitx_dict,⟨o,h1,h2.1⟩,λz=>nomatch z⟩
theorem UL:∀ {l:List D} {vs:List V} {us:List zh} {Ts:List Ty},gC l=some Ts->j9 c μ H l vs->m9 vs us->us=Ts.map λT=>.type T.name
 |[],_,_,_,e,r,q=>by cases e;cases r;cases q;rfl
 |d::ds,_,_,Ts,e,r,q=>by
   obtain⟨v,t,rfl,r0,rt⟩:=r
   cases q with
   |cons q0 qt=>
     rcases d with _|_|_|_|_|_|_|n<;>try (cases e;done)
     ·
       replace e:(match Ty.of n,gC ds with|some T,some Ts=>some (T::Ts)|_,_=>none)=some Ts:=e;rcases h1:Ty.of n with _|T
       ·rw[h1]at e;exact v6 e
       ·
         rcases h2:gC ds with _|Ts'
         ·rw[h1,h2]at e;exact v6 e
         ·
           rw[h1,h2]at e
           cases e
           unfold d7 at r0;subst r0;rw[UL h2 rt qt,zK,show _=Value.type n from q0,Ty.of_name h1]
theorem wM(K:zj)(k:Kd):∀Ts:List Ty,PySem.W.kitAny K (.type k.name) (Ts.map λT=>.type T.name)=some (Ts.any k.is)
 |[]=>rfl
 |T::Ts=>by
   have ih:=wM K k Ts
   cases k<;>cases T<;>first
    |rfl
    |exact ih
theorem Tc:O8 X Z (.builtin "isinstance") O1:=⟨by
 intro pins s σ H xs us Q I r ki;obtain⟨ds,μ,G,rl,hr,p⟩:=ki;rcases ds with _|⟨d,_|⟨_|_|_|_|l|_|_|n,_|⟨_,_⟩⟩⟩<;>try exact p.elim
 all_goals (delta O1 at p;dsimp only at p)
 · obtain⟨v,t,rfl,r0,v1,t1,rfl,r1,e⟩:=rl
   cases e
   obtain⟨u,u',rfl,ru,ru'⟩:=vC r;unfold d7 at r1;obtain⟨a,vs,rfl,q,rll⟩:=r1
   cases ru'
   rcases hk:vB G d with _|k
   ·rw[hk]at p;exact p.elim
   ·
     rcases hT:gC l with _|Ts
     ·rw[hk,hT]at p;exact p.elim
     ·
       rw[hk,hT]at p;obtain⟨HH,kx,hh,md⟩:=qN (A:=X.A) (E:=X.xe) I hr r0 ru hk;obtain⟨ka,rr,⟨⟨cls,dd,data,sl⟩,h1,h2,n,h3⟩,_⟩:=I.tuple q;simp only at h2 h3;subst h2 h3;exact PySem.W.kia_tup kx I.kIn hh h1 (by rw[UL hT rll rr];exact wM X.K k Ts) md λtk=>⟨.bl _,H,I.tok tk,rfl,c7.ok p hr _ ofB⟩
 · obtain⟨v,t,rfl,r0,v1,t1,rfl,r1,e⟩:=rl
   cases e
   obtain⟨u,u',rfl,ru,ru'⟩:=vC r;unfold d7 at r1;subst r1
   cases ru'
   rcases hk:vB G d with _|k
   ·rw[hk]at p;exact p.elim
   ·
     rcases hT:Ty.of n with _|T
     ·rw[hk,hT]at p;exact p.elim
     ·
       rw[hk,hT]at p;rw[Ty.of_name hT];obtain⟨HH,kx,hh,md⟩:=qN (A:=X.A) (E:=X.xe) I hr r0 ru hk;exact PySem.W.kia_one kx I.kIn hh (cf X.K k T) md λtk=>⟨.bl _,H,I.tok tk,rfl,c7.ok p hr _ ofB⟩⟩
end
theorem RO{c:Wc}{μ:List Addr}{H:Hp}{l:List D}{vs:List V}{i:Int}{d:D}(r:j9 c μ H l vs)(e:atI l i=some d):∃v,atI vs i=some v/\d7 c μ H d v:=by
 unfold atI at e ⊢;rw[<-r.length]
 cases h:ixN l.length i with
 |none=>rw[h]at e;cases e
 |some j=>
   rw[h]at e;obtain⟨v,h1,h2⟩:=r.get e;exact⟨v,h1,h2⟩
def ixD:D->D->M D:=λx y=>match x,y with
 | .tup l,.int i=>C1 (atI l i)
 | .str z,.int i=>if z.length<=zk then do
    let c <-C1 (atI z.cps.toList i)
    pure (.str ⟨#[c]⟩)
   else M.stuck
 | .ref r,.int i=>do
   let l <-K4 r >>= listOf
   C1 (atI l i)
 |_,_=>M.stuck
section
variable{X:Cx}{Z:XC}{a b e:Expr}{fa fb:Fe}{pos:Pos}
def IxD(X:Cx)(Z:XC)(o:D->D->M D):Prop:=IxR X (CA (wc X) Z o)
theorem RH{o:D->D->M D}(ho:IxD X Z o)(ha:DE X Z a fa)(hb:DE X Z b fb)(hs:gD b):DE X Z (.Subscript a b pos) (binE o fa fb):=DE.of (EU ho ha.h hb.h hs) lF
theorem qF{c:Wc}{μ:List Addr}{H:Hp}{G:DH}{r:Option D}{K:D->List Addr->DH->Hp->Prop}(h:m6 c μ G H)(p:c7 c Z μ H (C1 r G) K):∃d,r=some d/\K d μ G H:=by
 cases r with
 |none=>exact p.elim
 |some d=>exact⟨d,rfl,c7.ok p h⟩
theorem vP:IxD X Z ixD:=IxR.mono (br.or (ix_tup.or GY)) λx y H Q ki=>ki.elim λdx dy μ G rx ry hr p=>by
 rcases dx with _|_|_|_|_|_|_|_<;>rcases dy with _|_|_|_|_|_|_|_<;>first
  |exact p.elim
  |skip
 · rename_i z i;refine .inr (.inr ?_);unfold ixD at p;dsimp only at p;split at p
   ·rename_i hz;obtain⟨c,ec,p2⟩:=R1 p;exact⟨z,i,c,U1 rx,U3 ry,hz,ec,c7.ok p2 hr _ ofS⟩
   ·exact p.elim
 ·rename_i l i;refine .inr (.inl ?_);unfold d7 at rx;obtain⟨a,vs,rfl,q,rl⟩:=rx;obtain⟨d,ed,k⟩:=qF hr p;obtain⟨v,ev,rv⟩:=RO rl ed;exact⟨a,vs,i,v,rfl,U3 ry,q,ev,k v rv⟩
 · rename_i r i;refine .inl ?_;obtain⟨l,a,vs,rfl,rl,p2,hq⟩:=NF hr rx p;obtain⟨d,ed,k⟩:=qF hr p2;obtain⟨v,ev,rv⟩:=RO rl ed;rcases hq with⟨z,_⟩|⟨_,_,_,⟨_,q⟩|⟨_,q⟩⟩
   ·cases z
   ·exact⟨a,vs,i,v,rfl,U3 ry,SqL.of q,ev,k v rv⟩
   ·exact⟨a,vs,i,v,rfl,U3 ry,q.sq,ev,k v rv⟩
theorem bW(ha:DE X Z a fa)(hb:DE X Z b fb)(hs:gD b):DE X Z (.Subscript a b pos) (binE ixD fa fb):=RH vP ha hb hs
def cutD(xs:List D)(lo hi:Option Int):List D:=(xs.drop (HT.sIx xs.length 0 lo)).take (HT.sIx xs.length xs.length hi-HT.sIx xs.length 0 lo)
abbrev Fo:=DSt->M (Option Int)
def F7:Fo:=λ_=>pure none
def T6(f:Fe):Fo:=λσ=>do
 match <-f σ with
 | .int i=>pure (some i)
 |_=>M.stuck
def FE(c:Wc)(Z:XC)(f:Fo):TO:=λσ H Q=>∃X2 μ G,u9 c μ H X2 σ/\m6 c μ G H/\c7 c Z μ H (f X2 G) λo _ _ H'=>Q o H'
theorem FE.elim{c:Wc}{Z:XC}{P:Prop}{f:Fo}{σ:St}{H:Hp}{Q:Option Int->Hp->Prop}(h:FE c Z f σ H Q)(k:∀X2 μ G,u9 c μ H X2 σ->m6 c μ G H->c7 c Z μ H (f X2 G) (λo _ _ H'=>Q o H')->P):P:=by obtain⟨e0,e1,e2,e3,e4,e5⟩:=h;exact k e0 e1 e2 e3 e4 e5
structure DOp(X:Cx)(Z:XC)(e:Option Expr)(f:Fo):Prop where
 h:PO X e (FE (wc X) Z f)
theorem PO.mono{e:Option Expr}{t t':TO}(h:PO X e t)(k:∀ σ H Q,t' σ H Q->t σ H Q):PO X e t':=λpins s σ H Q I q=>h pins s σ H Q I (k σ H Q q)
theorem DOp.of{e:Option Expr}{f:Fo}{t:TO}(h:PO X e t)(k:∀ σ H Q,FE (wc X) Z f σ H Q->t σ H Q):DOp X Z e f:=⟨PO.mono h k⟩
theorem bm:DOp X Z none F7:=DOp.of qm λσ H Q ki=>ki.elim λX2 μ G s h p=>c7.ok p h
theorem Pc(h:DE X Z e fa):DOp X Z (some e) (T6 fa):=DOp.of (Rp h.h) λσ H Q ki=>ki.elim λX2 μ G s h p=>⟨X2,μ,G,s,h,(c7.bind p).mono λd X0 G1 H1 x1 h1 p1 v rv=>by
 cases d with
 |int i=>exact⟨i,U3 rv,c7.ok p1 h1⟩
 |_=>exact p1.elim⟩
def slD:D->Option Int->Option Int->M D:=λx lo hi=>match x with
 | .tup l=>pure (.tup (cutD l lo hi))
 | .ref r=>do
   let l <-K4 r >>= listOf
   J8 (.lst (cutD l lo hi))
 |_=>M.stuck
def SlD(X:Cx)(Z:XC)(o:D->Option Int->Option Int->M D):Prop:=
 SlR X λx lo hi H Q=>∃dx μ G,d7 (wc X) μ H dx x/\m6 (wc X) μ G H/\c7 (wc X) Z μ H (o dx lo hi G) λd X9 _ H'=>∀v,d7 (wc X) X9 H' d v->Q v H'
theorem SlR.mono{r r':V->Option Int->Option Int->Hp->VK->Prop}(h:SlR X r)(k:∀x lo hi H Q,r' x lo hi H Q->r x lo hi H Q):SlR X r':=λpins s σ H x v vl vu lo hi sl Q I rx hs pl pu q=>h pins s σ H x v vl vu lo hi sl Q I rx hs pl pu (k x lo hi H Q q)
theorem Pm{prog:zS}{w:jg}{A:jn}{E:VSP}{s:zv}{t sl:Addr}{items:Array zh}{vl vu:zh}{lo hi:Option Int}{Q:VSP}(ht:YF s.heap t items)(hs:s.heap.IsSliceOf sl vl vu .none)(pl:IsPart vl lo)(pu:IsPart vu hi)
 (hw:HT.sIx items.size 0 lo=0/\HT.sIx items.size items.size hi=items.size) (h:Q (.ref t) s):zq (zC prog w) A (Je (.ref t) (.ref sl)) Q E s:=by
 obtain⟨os,hos,hcs,hds⟩:=id hs;have hTs:s.TypeIs (.ref sl) "slice":=⟨os,hos,hcs⟩;unfold Je
 try with_reducible refine jy ?_
 first|refine za (ze ?_)|skip
 refine za (wpAny_sequenceKey ht.typeIs (by decide) ?_);refine za (jH ht.typeIs jO
  (jK jO ht.typeIs entry_tuple_getitem ?_ (args_tuple_getitem _ _)))
 show zq _ _ (YY (.ref t) >>= _) _ _ s;refine za (tupleItemsOf_ ht ?_);refine za (xS hTs ?_);rw[if_pos (by decide)];refine za (HT.sliceApplied_gen hs pl pu ?_);have hyes:(((HT.sIx items.size 0 lo:Nat):Int)==0&&(1:Int)==1&&(HT.sIx items.size items.size hi-HT.sIx items.size 0 lo)==items.size)=true:=by rw[hw.1,hw.2];simp
 show zq _ _ (if (((HT.sIx items.size 0 lo:Nat):Int)==0&&(1:Int)==1&&(HT.sIx items.size items.size hi-HT.sIx items.size 0 lo)==items.size)=true then _ else _) _ _ s;rw[if_pos hyes];unfold Builtin.Tuple.tupleIsExact;refine za (za (xS ht.typeIs (ze ?_)));rw[if_pos (by decide)];exact za (Zr (ze ⟨_,rfl,ze h⟩))
def Sc(K:zj):V->Option Int->Option Int->Hp->VK->Prop:=λx lo hi H Q=>∃a xs,x= .ref a/\SqT K H a xs/\(HT.sIx xs.length 0 lo=0/\HT.sIx xs.length xs.length hi=xs.length)/\Q (.ref a) H
theorem SU:SlR X (Sc X.K):=by
 intro pins s σ H x v vl vu lo hi sl Q I rx hs pl pu h;obtain⟨a,xs,rfl,hx,hw,q⟩:=h
 cases rx
 obtain⟨ka,r,ht,hz⟩:=I.tuple hx;have kl:ka.toArray.size=xs.length:=by rw[zl];exact r.length.symm
 exact⟨"tuple",_,jO.lookup,ht.typeIs,Pm ht hs pl pu (by rw[kl];exact hw) ⟨.ref a,H,I,rfl,q⟩⟩
theorem FI{c:Wc}{μ:List Addr}{H:Hp}{l:List D}{vs:List V}(r:j9 c μ H l vs)(lo hi:Option Int):j9 c μ H (cutD l lo hi) (y7 vs lo hi):=by unfold cutD y7;rw[r.length];exact(r.drop _).take _
theorem uZ:SlD X Z slD:=SlR.mono (sl_tup.or (SU.or cW)) λx lo hi H Q ⟨dx,μ,G,rx,hr,p⟩=>by
 rcases dx with _|_|_|_|l|r|_|_<;>try (exact p.elim;done)
 ·
   unfold d7 at rx;obtain⟨a,vs,rfl,q,rl⟩:=rx;by_cases hw:HT.sIx vs.length 0 lo=0/\HT.sIx vs.length vs.length hi=vs.length
   · refine .inr (.inl ⟨a,vs,rfl,q,hw,lH hr q ?_ p⟩);have e:y7 vs lo hi=vs:=by unfold y7;rw[hw.1,hw.2];simp
     have:=FI rl lo hi;rw[e]at this;exact this
   ·exact .inl ⟨a,vs,rfl,q,hw,λp' hp=>eF hr (FI rl lo hi) p p' hp⟩
 ·
   obtain⟨l,a,vs,rfl,rl,p2,hq⟩:=NF hr rx p;have hs:SqL (wc X).K H a vs:=by
    rcases hq with⟨z,_⟩|⟨_,_,_,⟨_,q⟩|⟨_,q⟩⟩
    ·cases z
    ·exact SqL.of q
    ·exact q.sq
   exact .inr (.inr ⟨a,vs,rfl,hs,λp' hp=>T7 hr (FI rl lo hi) p2 p' hp⟩)
variable{lo hi:Option Expr}{fl fh:Fo}{p2:Pos}
end
def B6(r:Nat)(o:DO):M Unit:=λG=>some (.ok (),G.set r o)
def cB(l:List (Key×D))(k:Key)(d:D):List (Key×D):=if l.any (λkv=>decide (kv.1=k))then l.map (λkv=>if kv.1=k then (kv.1,d)else kv)else l++[(k,d)]
def OC:D->D->D->M Unit:=λo i d=>match o with
 | .ref r=>do
   match <-K4 r with
   | .lst l=>match i with
     | .int k=>match ixN l.length k with
       |some j=>B6 r (.lst (l.set j d))
       |none=>M.stuck
     |_=>M.stuck
   | .dct l=>match f8 i with
     |some k=>if l.length<zk then B6 r (.dct (cB l k d))else M.stuck
     |none=>M.stuck
   | .rol _=>M.stuck
   | .rod _=>M.stuck
 |_=>M.stuck
def AB(fo fi:Fe):Fg:=λd σ=>do
 let o <-fo σ
 let i <-fi σ
 let _ <-OC o i d
 pure σ
section
variable{X:Cx}{Z:XC}{μ:List Addr}{H:Hp}{G:DH}
theorem LK(rv:d7 c μ H d v):∀ {l} {iz},S8 c μ H l iz->S8 c μ H (cB l k d) (Q1 iz k v):=by
 have any_eq:∀ {l:List (Key×D)} {iz:List (Key×V)},S8 c μ H l iz->(l.any λkv=>decide (kv.1=k))= (iz.any λkv=>decide (kv.1=k)):=by
  intro l
  induction l with
  |nil=>intro iz r;cases r;rfl
  |cons p t ih=>
    intro iz r;obtain⟨v',kt,rfl,_,rt⟩:=r;rw[jj,jj,ih rt]
 have map_eq:∀ {l:List (Key×D)} {iz:List (Key×V)},S8 c μ H l iz->S8 c μ H (l.map λkv=>if kv.1=k then (kv.1,d)else kv) (iz.map λkv=>if kv.1=k then (kv.1,v)else kv):=by
  intro l
  induction l with
  |nil=>intro iz r;cases r;rfl
  |cons p t ih=>
    intro iz r;obtain⟨k',d'⟩:=p;obtain⟨v',kt,rfl,q,rt⟩:=r;rw[zK,zK];by_cases e:k'=k
    ·simp only[e,if_true];exact⟨v,_,rfl,rv,ih rt⟩
    ·simp only[e,if_false];exact⟨v',_,rfl,q,ih rt⟩
 have app_eq:∀ {l:List (Key×D)} {iz:List (Key×V)},S8 c μ H l iz->S8 c μ H (l++[(k,d)]) (iz++[(k,v)]):=by
  intro l
  induction l with
  |nil=>intro iz r;cases r;exact⟨v, [],rfl,rv,rfl⟩
  |cons p t ih=>
    intro iz r;obtain⟨v',kt,rfl,q,rt⟩:=r;exact⟨v',_,rfl,q,ih rt⟩
 intro l iz r;unfold cB Q1;rw[any_eq r];split
 ·exact map_eq r
 ·exact app_eq r
theorem S8.length:∀ {l} {iz},S8 c μ H l iz->l.length=iz.length
 |[],_,r=>by cases r;rfl
 |_::_,_,r=>by obtain⟨_,_,rfl,_,t⟩:=r;simp[S8.length t]
theorem LP{Q:List Addr->DH->Hp->Prop}(h:m6 c μ G H)(g:G[r]? =some o)(n:¬L4 (some o))(m:μ[r]? =some a)(n':¬L4 (some o'))(ho:∀x:Ext μ H μ (upd H a u),l7 c μ (upd H a u) a o')
 (p:c7 c Z μ H (B6 r o' G) λ_ X9 G' H'=>Q X9 G' H'):Q μ (G.set r o') (upd H a u):=by
 obtain⟨u',e,n1,n2⟩:=(h.obj r o a g m).some_of n;have x:Ext μ H μ (upd H a u):=Ext.mut (jB m) e n1 n2 u;exact p μ _ x (h.set g n m x n' (ho x))
def UU(c:Wc)(Z:XC)(f:D->D->D->M Unit):TSet:=λo i v H Q=>∃d1 d2 d3 μ G,d7 c μ H d1 o/\d7 c μ H d2 i/\d7 c μ H d3 v/\m6 c μ G H/\c7 c Z μ H (f d1 d2 d3 G) λ_ _ _ H'=>Q H'
theorem oV(hu:X.A.units+64<yU):dJ X (UU (wc X) Z OC):=by
 intro pins s σ H o i v ov iv u Q I ro ri rv ki;obtain⟨d1,d2,d3,μ,G,r1,r2,r3,hr,p⟩:=ki;rcases d1 with _|_|_|_|_|r|_|_<;>try (exact p.elim;done)
 ·
   unfold d7 at r1;obtain⟨a,m,rfl⟩:=r1;obtain⟨ob,g,p1⟩:=G9 p;have rob:=hr.obj r ob a g m;rcases ob with l|l|l|l
   ·
     obtain⟨vs,ea,rl⟩:=rob;rcases d2 with _|_|k|_|_|_|_|_<;>try (exact p1.elim;done)
     ·
       dsimp only at p1;rcases hk:ixN l.length k with _|j
       ·simp only[hk]at p1;exact p1.elim
       ·
         simp only[hk]at p1;exact Sf pins s σ H (.ref a) i v ov iv u Q I ro ri rv ⟨a,vs,k,j,rfl,U3 r2,ea,by rw[<-rl.length];exact hk,LP (o':=.lst (l.set j d3)) hr g (λz=>z) m (λz=>z) (λx=>⟨_,w5,(rl.mono x).set (r3.mono x) j⟩) p1⟩
   ·exact p1.elim
   ·
     obtain⟨iz,ea,rk⟩:=rob;dsimp only at p1;rcases hk:f8 d2 with _|k
     ·simp only[hk]at p1;exact p1.elim
     ·
       simp only[hk]at p1;split at p1
       · rename_i hz;have ei:=KH hk r2;subst ei
         cases ro
         refine Pp (by lia) I (wG.k ea (by rw[<-rk.length];exact hz)) ri rv λs' I'=>⟨_,I',?_⟩;exact LP (o':=.dct (cB l k d3)) hr g (λz=>z) m (λz=>z) (λx=>⟨_,w5,LK (r3.mono x) (rk.mono x)⟩) p1
       ·exact p1.elim
   ·exact p1.elim
variable{a b e o i:Expr}{fa fb fo fi:Fe}
theorem Tg(hu:X.A.units+64<yU)(ho:DE X Z o fo)(hi:DE X Z i fi)
 (ha:∀v,YK (.Subscript o i pos) X.env v= (do
   let ov <-Yj [v] (eval o X.env)
   let iv <-Yj [v,ov] (eval i X.env)
   standAt pos
   Yj [v,ov,iv] (setItem ov iv v)
   release [v,ov,iv] [])):DG X Z (.Subscript o i pos) (AB fo fi):=
 DG.of (ab ho.h hi.h (oV hu) ha) λv σ H Q ki=>ki.elim λd X2 μ G r s h p=>⟨X2,μ,G,s,h,(c7.bind p).mono λd1 X0 G1 H1 x1 h1 p1 v1 r1=>
  ⟨X2,X0,G1,s.mono x1,h1,(c7.bind p1).mono λd2 WX G2 H2 x2 h2 p2 v2 r2=>⟨d1,d2,d,WX,G2,r1.mono x2,r2,r.mono (x1.trans x2),h2,(c7.bind p2).mono λ_ WN G3 H3 x3 h3 p3=>c7.ok p3 h3 σ (s.mono (x1.trans (x2.trans x3)))⟩⟩⟩
def v9:D->M Unit:=λx=>match x with
 | .ref r=>do
   match <-K4 r with
   | .lst _=>pure ()
   |_=>M.stuck
 |_=>M.stuck
def mtE(t:D->M Unit)(m:D->List D->M D)(fo:Fe)(fs:DSt->M (List D)):Fe:=λσ=>do
 let x <-fo σ
 let _ <-t x
 let xs <-fs σ
 m x xs
def lstM(r:Nat):M (List D):=do
 match <-K4 r with
 | .lst l=>pure l
 |_=>M.stuck
def J1:D->List D->M D:=λx xs=>match x,xs with
 | .ref r, [y]=>do
   let l <-lstM r
   if l.length<zk then do
    let _ <-B6 r (.lst (l++[y]))
    pure .non
   else M.stuck
 |_,_=>M.stuck
theorem nO{a:Addr}{f:List D->M α}{K:α->List Addr->DH->Hp->Prop}(h:m6 c μ G H)(m:μ[r]? =some a)(p:c7 c Z μ H ((lstM r >>= f) G) K):
 ∃l vs,G[r]? =some (.lst l)/\H a=some (.lst vs)/\j9 c μ H l vs/\c7 c Z μ H (f l G) K:=by
 have p':c7 c Z μ H ((K4 r >>= λo=>(match o with| .lst l=>pure l|_=>M.stuck:M (List D)) >>= f) G) K:=by rw[<-M.bind_assoc];exact p
 obtain⟨o,g,p2⟩:=G9 p';have ro:=h.obj r o a g m;rcases o with l|_|_|_<;>try (exact p2.elim;done)
 ·obtain⟨vs,e,rl⟩:=ro;exact⟨l,vs,g,e,rl,p2⟩
def MtD(X:Cx)(Z:XC)(id:String)(m:D->List D->M D):Prop:=
 MtR X id λx xs H Q=>∃d ds μ G,d7 (wc X) μ H d x/\j9 (wc X) μ H ds xs/\m6 (wc X) μ G H/\c7 (wc X) Z μ H (m d ds G) λd X9 _ H'=>∀v,d7 (wc X) X9 H' d v->Q v H'
theorem cP{r:Nat}{a:Addr}{f:M α}{K:α->List Addr->DH->Hp->Prop}(h:m6 c μ G H)(g:G[r]? =some (.lst l))(m:μ[r]? =some a)(rl:∀x:Ext μ H μ (upd H a (.lst mv)),j9 c μ (upd H a (.lst mv)) l' mv)
 (p:c7 c Z μ H ((B6 r (.lst l') >>= λ_=>f) G) K):Ext μ H μ (upd H a (.lst mv))/\m6 c μ (G.set r (.lst l')) (upd H a (.lst mv))/\c7 c Z μ (upd H a (.lst mv)) (f (G.set r (.lst l'))) K:=by
 obtain⟨u',e,n1,n2⟩:=(h.obj r _ a g m).some_of (λz=>z);have x:Ext μ H μ (upd H a (.lst mv)):=Ext.mut (jB m) e n1 n2 _;have h':m6 c μ (G.set r (.lst l')) (upd H a (.lst mv)):=h.set g (λz=>z) m x (λz=>z) ⟨mv,w5,rl x⟩;exact⟨x,h',c7.from p x⟩
theorem Cz:MtD X Z "list.append" J1:=by
 intro pins s σ H x xs v us Q I rx rs ki;obtain⟨d,ds,μ,G,rd,rds,hr,p⟩:=ki;rcases d with _|_|_|_|_|r|_|_<;>try (exact p.elim;done)
 ·
   unfold d7 at rd;obtain⟨a,m,rfl⟩:=rd;rcases ds with _|⟨y,t⟩
   ·exact p.elim
   ·
     rcases t with _|⟨_,_⟩
     ·
       obtain⟨yv,tv,rfl,ry,e⟩:=rds
       cases e
       obtain⟨l,vs,g,ea,rl,p1⟩:=nO hr m p;split at p1
       ·rename_i hz;obtain⟨x1,h1,p2⟩:=cP hr g m (λx=>(rl.mono x).append (j9.cons (ry.mono x) j9.nil)) p1;exact DN pins s σ H (.ref a) [yv] v us Q I rx rs ⟨a,vs,yv,rfl,rfl,ea,by rw[<-rl.length];exact hz,c7.ok p2 h1 _ ofN⟩
       ·exact p1.elim
     ·exact p.elim
variable{es:List Expr}{fs:DSt->M (List D)}{name:Str}{mw lg:Pos}{id:String}{mm:D->List D->M D}
theorem Pj{f:Unit->M α}{K:α->List Addr->DH->Hp->Prop}(h:m6 c μ G H)(r:d7 c μ H d v)(p:c7 c Z μ H ((v9 d >>= f) G) K):tyV c.K "list" v H/\c7 c Z μ H (f () G) K:=by
 rcases d with _|_|_|_|_|i|_|_<;>try (exact p.elim;done)
 ·
   unfold d7 at r;obtain⟨a,m,rfl⟩:=r;have p':c7 c Z μ H ((K4 i >>= λo=>(match o with| .lst _=>pure ()|_=>M.stuck:M Unit) >>= f) G) K:=by rw[<-M.bind_assoc];exact p
   obtain⟨o,g,p2⟩:=G9 p';have ro:=h.obj i o a g m;rcases o with l|_|_|_<;>try (exact p2.elim;done)
   ·obtain⟨vs,e,rl⟩:=ro;exact⟨.inl ⟨rfl,vs,SqL.of e⟩,p2⟩
theorem AO(slot:Slot "list" name id)(hty:typeOf (.builtin id)=pure (.type "method_descriptor"))(hm:MtD X Z id mm)(ho:DE X Z o fo)(ha:DA X Z (e::es) fs)
 (hbase:Yq o name X.env (eval o X.env)=eval o X.env)
 (hfew:((xw lg (zX (e::es) X.env)).all (λx=> !x.1)&&(Jf lg (Yi [] X.env)).all (λx=>x.1.isSome)
   && decide ((e::es).length+([]:List Keyword).length+(if ([]:List Keyword).isEmpty then 0 else 1)<30))=true)
 (hline:(mw.endLine==lg.line)=true) (hs:zX (e::es) X.env= (false,eval e X.env)::zX es X.env) (ni:(xw lg (zX es X.env)).any (·.1)=false):
 DE X Z (.Call (.Attribute o name mw) (e::es) [] lg) (mtE v9 mm fo fs):=
 DE.of (tL PySem.F.plainAttrs_list slot hty hm ho.h ha.h hbase hfew hline hs ni) λσ H Q ki=>ki.elim λX2 μ G s h p=>⟨X2,μ,G,s,h,(c7.bind p).mono λd X0 G1 H1 x1 h1 p1 v rv=>by obtain⟨ty,p2⟩:=Pj h1 rv p1;exact⟨ty,X2,X0,G1,s.mono x1,h1,(c7.bind p2).mono λds WX G2 H2 x2 h2 p3 vs rvs=>⟨d,ds,WX,G2,rv.mono x2,rvs,h2,p3⟩⟩⟩
end
def SI(k:Bool)(h:Heap)(it a:Addr)(i:Nat):Prop:=if k then h.IsTupleIter it a i else h.IsListIter it a i
def SC(k:Bool)(h:Heap)(a:Addr)(items:Array zh):Prop:=if k then h.IsTuple a items else h.IsList a items
section
variable{prog:zS}{w:jg}{A:jn}{E:VSP}{s:zv}
theorem SI.keep(x:SI k h it a i)(q:∀o,h.get? it=some o->h'.get? it=some o):SI k h' it a i:=by
 rcases k with _|_
 ·exact Heap.IsListIter.at (show h.IsListIter it a i from x) q
 ·exact Heap.IsTupleIter.at (show h.IsTupleIter it a i from x) q
theorem SC.keep(x:SC k h a ka)(q:∀o,h.get? a=some o->h'.get? a=some o):SC k h' a ka:=by
 rcases k with _|_
 ·obtain⟨o,e,r⟩:=(show h.IsList a ka from x);exact⟨o,q o e,r⟩
 ·obtain⟨o,e,r⟩:=(show h.IsTuple a ka from x);exact⟨o,q o e,r⟩
theorem SI.there(x:SI k h it a i):∃o,h.get? it=some o/\∀v,o.data≠ .cell v:=by
 rcases k with _|_
 ·obtain⟨o,e,c,d⟩:=(show h.IsListIter it a i from x);exact⟨o,e,λv z=>by rw[d]at z;cases z⟩
 ·obtain⟨o,e,c,d⟩:=(show h.IsTupleIter it a i from x);exact⟨o,e,λv z=>by rw[d]at z;cases z⟩
theorem NW(hit:s.heap.IsTupleIter it t i)(ht:s.heap.IsTuple t items)(hx:items[i]? =some x)
 (hQ:∀h',h'.IsTupleIter it t (i+1)->yC it s.heap h'->Q x {s with heap:=h'}):zq (zC prog w) A (js (.ref it)) Q E s:=by
 obtain⟨ob,hob,hcls,ng⟩:=id hit;obtain⟨ot,hot,_,nt,hdt⟩:=ht;unfold js;refine za (jH hit.typeIs xJ (jK xJ hit.typeIs JQ ?_ (JI _)));show zq _ _ (field (.ref it) 0 >>= _) _ _ s;refine za (yq hob ng rfl ?_);show zq _ _ (if (Value.ref t==Value.none)=true then _ else _) _ _ s;rw[if_neg (show ¬((Value.ref t==Value.none)=true)from zN)];show zq _ _ (field (.ref it) 1 >>= _) _ _ s;refine za (yq hob ng rfl ?_);show zq _ _ (seqItems? (.ref t) >>= _) _ _ s;refine za (yx hot hdt ?_);simp only[yg,hx];refine za (wpAny_setField hob ng (by simp) (ze ⟨x,rfl,ze (hQ _ ?_ (yB ..))⟩));exact⟨_,xt _ hob (Obj.isFreed_of_fields (Obj.data_mapFields ng _)),(Obj.cls_mapFields ..).trans hcls,by rw[Obj.data_mapFields ng];simp[xk]⟩
theorem cq(hh:A.handled=none)(hit:s.heap.IsTupleIter it t i)(ht:s.heap.IsTuple t items)(hx:items[i]? =none)
 (hE:∀h' e,XQ it s.heap h'->(∃o,h'.get? e=some o/\o.cls= .type "StopIteration")->E (.ref e) {s with heap:=h'}):zq (zC prog w) A (js (.ref it)) Q E s:=by
 obtain⟨ob,hob,hcls,ng⟩:=id hit;obtain⟨ot,hot,_,nt,hdt⟩:=ht;unfold js;refine za (jH hit.typeIs xJ (jK xJ hit.typeIs JQ ?_ (JI _)));show zq _ _ (field (.ref it) 0 >>= _) _ _ s;refine za (yq hob ng rfl ?_);show zq _ _ (if (Value.ref t==Value.none)=true then _ else _) _ _ s;rw[if_neg (show ¬((Value.ref t==Value.none)=true)from zN)];show zq _ _ (field (.ref it) 1 >>= _) _ _ s;refine za (yq hob ng rfl ?_);show zq _ _ (seqItems? (.ref t) >>= _) _ _ s;refine za (yx hot hdt ?_);simp only[yg,hx];refine za (Zr (za (wpAny_setField hob ng (by simp) ?_)));show zq _ _ (newExc (.type "StopIteration") [] >>= _) _ _ _;refine za ?_;simp only[newExc,newTuple];refine za (yI ?_ (by size_fits));refine za (wpAny_of_eq (by first|rfl|(simp only[firstArgMember];rfl)) ?_);refine yI ?_ (by size_fits);delta raiseNew;dsimp only;refine za (wpAny_handled ?_)
 first|rw[show A.in1.handled=none from hh]|rw[hh]
 refine za (ze (wpAny_throw ?_));exact hE _ _ (((yB ..).extBut.push _).push _) ⟨_,zp _ rfl,rfl⟩
theorem WG(hit:SI k s.heap it a i)(hl:SC k s.heap a items)(hx:items[i]? =some x)
 (hQ:∀h',SI k h' it a (i+1)->yC it s.heap h'->Q x {s with heap:=h'}):zq (zC prog w) A (js (.ref it)) Q E s:=by
 rcases k with _|_
 ·exact wpAny_nextOf_list_item hit hl hx hQ
 ·exact NW hit hl hx hQ
theorem VM(hh:A.handled=none)(hit:SI k s.heap it a i)(hl:SC k s.heap a items)(hx:items[i]? =none)
 (hE:∀h' e,XQ it s.heap h'->(∃o,h'.get? e=some o/\o.cls= .type "StopIteration")->E (.ref e) {s with heap:=h'}):zq (zC prog w) A (js (.ref it)) Q E s:=by
 rcases k with _|_
 ·exact wpAny_nextOf_list_end hh hit hl hx hE
 ·exact cq hh hit hl hx hE
structure ZA(z TI TO i1 i2:Addr):Prop where
 TIz:TI≠z
 TOz:TO≠z
 i1z:i1≠z
 i2z:i2≠z
 TITO:TI≠TO
 TIi1:TI≠i1
 TIi2:TI≠i2
 TOi1:TO≠i1
 TOi2:TO≠i2
 i12:i1≠i2
theorem Sv(n:Nat):ZA (n+4:Nat) (n+2:Nat) (n+3:Nat) n (n+1:Nat):=⟨(by show @Ne Nat _ _;lia),(by show @Ne Nat _ _;lia),(by show @Ne Nat _ _;lia),(by show @Ne Nat _ _;lia),(by show @Ne Nat _ _;lia),(by show @Ne Nat _ _;lia),(by show @Ne Nat _ _;lia),(by show @Ne Nat _ _;lia),(by show @Ne Nat _ _;lia),(by show @Ne Nat _ _;lia)⟩
theorem QK(h:l<n):¬ @Membership.mem Addr (List Addr) List.instMembership [(n+4:Nat),(n+3:Nat),n,(n+1:Nat)] l:=by simp only[zu,ja,or_false,not_or];exact⟨(by show ¬ @Eq Nat _ _;lia),(by show ¬ @Eq Nat _ _;lia),(by show ¬ @Eq Nat _ _;lia),(by show ¬ @Eq Nat _ _;lia)⟩
theorem vY(hb: @Membership.mem Addr (List Addr) List.instMembership [(n+4:Nat),(n+2:Nat),(n+3:Nat),n,(n+1:Nat)] b): @LE.le Nat instLENat n b:=by simp only[zu,ja,or_false]at hb;rcases hb with rfl|rfl|rfl|rfl|rfl<;>(show @LE.le Nat instLENat _ _;lia)
variable{z TI TO i1 i2 l1 l2:Addr}{xs ys:Array zh}{k1 k2:Bool}{i:Nat}
theorem EW{Q:VSP}(Ap:ZA z TI TO i1 i2)(n1:l1∉ [z,TO,i1,i2])(n2:l2∉ [z,TO,i1,i2])
 (hz:ZN s.heap z TI TO .none) (hTI:yP s.heap TI (.ref i1) (.ref i2)) (hTO:yP s.heap TO a b)
 (h1:SI k1 s.heap i1 l1 i) (h2:SI k2 s.heap i2 l2 i) (nh:SC k1 s.heap l1 xs) (nj:SC k2 s.heap l2 ys) (hx:xs[i]? =some x) (hy:ys[i]? =some y)
 (hQ:∀h',ZN h' z TI TO (xk s.heap.objs.size)->yP h' TO x y->SI k1 h' i1 l1 (i+1)->SI k2 h' i2 l2 (i+1)->yP h' s.heap.objs.size x y->h'.objs.size=s.heap.objs.size+1->
   (∀c o,c≠z->c≠TO->c≠i1->c≠i2->s.heap.get? c=some o->h'.get? c=some o)->Q (.ref s.heap.objs.size) {s with heap:=h'}):
 zq (zC prog w) A (yt.«zip.__next__» ⟨[.ref z], []⟩) (λfin s'=>∃v,fin= .done (.ret v)/\Q v s') E s:=by
 simp only[zu,ja,or_false,not_or]at n1 n2;show zq _ _ (field (.ref z) 2 >>= _) _ _ _;refine za (yq hz rfl rfl ?_);show zq _ _ (field (.ref z) 3 >>= _) _ _ _;refine za (yq hz rfl rfl ?_);refine za (yx hTI rfl ?_);show zq _ _ (yz (.ref z) >>= _) _ _ _;refine za ?_;unfold yz;refine za (yq hz rfl rfl (ze ?_));simp only[if_true];refine za (Zr ?_);refine za (yq hz rfl rfl ?_);refine za (yo hz (by simp) λg₁ hz₁ WU=>?_);replace hz₁:ZN g₁ z TI TO .ellipsis:=hz₁;refine za ?_;simp only[List.zipIdx_cons,List.zipIdx_nil,Zp,YH];refine za (za (XA ?_));show zq _ _ (js (.ref i1) >>= _) _ _ _;refine za (WG (h1.keep λo e=>WU.extBut _ _ Ap.i1z e) (nh.keep λo e=>WU.extBut _ _ n1.1 e) hx λg₂ h1₂ WR=>ze ?_);have hTO₂:yP g₂ TO a b:=WR.extBut _ _ Ap.TOi1 (WU.extBut _ _ Ap.TOz hTO);refine za (yx hTO₂ rfl ?_);refine za (Xi hTO₂ λg₃ hTO₃ hs₃=>?_);replace hTO₃:yP g₃ TO x b:=hTO₃;refine za (JL (ze ?_));refine za (za (XA ?_));show zq _ _ (js (.ref i2) >>= _) _ _ _;have up3:∀c o,c≠z->c≠TO->c≠i1->s.heap.get? c=some o->g₃.get? c=some o:=λc o c1 c2 c3 e=>hs₃.extBut _ _ c2 (WR.extBut _ _ c3 (WU.extBut _ _ c1 e));refine za (WG (h2.keep λo e=>up3 _ _ Ap.i2z Ap.TOi2.symm Ap.i12.symm e) (nj.keep λo e=>up3 _ _ n2.1 n2.2.1 n2.2.2.1 e) hy λg₄ h2₄ hs₄=>ze ?_);have hTO₄:yP g₄ TO x b:=hs₄.extBut _ _ Ap.TOi2 hTO₃;refine za (yx hTO₄ rfl ?_);refine za (Xi hTO₄ λWS hTO₅ hs₅=>?_);replace hTO₅:yP WS TO x y:=hTO₅;refine za (JL (ze (ze ?_)));refine za (yx hTO₅ rfl ?_);refine za (Zg ?_);have hsz:WS.objs.size=s.heap.objs.size:=by rw[hs₅.1,hs₄.1,hs₃.1,WR.1,WU.1]
 have hz₅:ZN WS z TI TO .ellipsis:=hs₅.extBut _ _ Ap.TOz.symm (hs₄.extBut _ _ Ap.i2z.symm (hs₃.extBut _ _ Ap.TOz.symm (WR.extBut _ _ Ap.i1z.symm hz₁)));have hk₅:∀c o,c≠z->c≠TO->c≠i1->c≠i2->s.heap.get? c=some o->WS.get? c=some o:=λc o c1 c2 c3 c4 e=>hs₅.extBut _ _ c2 (hs₄.extBut _ _ c4 (up3 c o c1 c2 c3 e));have h1₅:SI k1 WS i1 l1 (i+1):=h1₂.keep λo e=>hs₅.extBut _ _ Ap.TOi1.symm (hs₄.extBut _ _ Ap.i12 (hs₃.extBut _ _ Ap.TOi1.symm e));have h2₅:SI k2 WS i2 l2 (i+1):=h2₄.keep λo e=>hs₅.extBut _ _ Ap.TOi2.symm e;have hzlt:z<WS.objs.size:=zw hz₅;show zq _ _ (ZC (.ref z) (.ref WS.objs.size) >>= _) _ _ _;refine za ?_;unfold ZC;have hz₆:ZN (WS.push {cls:=.type "tuple",data:=.seq #[x,y]}) z TI TO .ellipsis:=zc _ hz₅;refine za (yo hz₆ (by simp) λg₇ hz₇ hs₇=>?_);replace hz₇:ZN g₇ z TI TO (xk WS.objs.size):=hz₇;refine yo hz₇ (by simp) λg₈ hz₈ hs₈=>?_;replace hz₈:ZN g₈ z TI TO (xk WS.objs.size):=hz₈;have up:∀c o,c≠z->WS.get? c=some o->g₈.get? c=some o:=λc o c1 e=>hs₈.extBut _ _ c1 (hs₇.extBut _ _ c1 (zc _ e));have hT₈:yP g₈ WS.objs.size x y:=hs₈.extBut _ _ (xK hzlt) (hs₇.extBut _ _ (xK hzlt) (zp _ rfl));have hz8:g₈.objs.size=WS.objs.size+1:=by rw[hs₈.1,hs₇.1,jS]
 rw[hsz]at hz₈ hT₈ hz8;refine ze ⟨_,rfl,?_⟩;show Q (.ref WS.objs.size) _;rw[hsz];exact hQ g₈ hz₈ (up _ _ Ap.TOz hTO₅) (h1₅.keep λo e=>up _ o Ap.i1z e) (h2₅.keep λo e=>up _ o Ap.i2z e) hT₈ hz8 λc o c1 c2 c3 c4 e=>up c o c1 (hk₅ c o c1 c2 c3 c4 e)
theorem Cc(hh:A.handled=none)(Ap:ZA z TI TO i1 i2)(n1:l1∉ [z,TO,i1,i2])(n2:l2∉ [z,TO,i1,i2])
 (hz:ZN s.heap z TI TO .none) (hTI:yP s.heap TI (.ref i1) (.ref i2)) (hTO:yP s.heap TO a b)
 (h1:SI k1 s.heap i1 l1 i) (h2:SI k2 s.heap i2 l2 i) (nh:SC k1 s.heap l1 xs) (nj:SC k2 s.heap l2 ys) (hend:xs[i]? =none\/ys[i]? =none)
 (hE:∀h' e,(∀c o,c≠z->c≠TO->c≠i1->c≠i2->s.heap.get? c=some o->h'.get? c=some o)->(∃o,h'.get? e=some o/\o.cls= .type "StopIteration")->E (.ref e) {s with heap:=h'}):
 zq (zC prog w) A (yt.«zip.__next__» ⟨[.ref z], []⟩) Q E s:=by
 simp only[zu,ja,or_false,not_or]at n1 n2;show zq _ _ (field (.ref z) 2 >>= _) _ _ _;refine za (yq hz rfl rfl ?_);show zq _ _ (field (.ref z) 3 >>= _) _ _ _;refine za (yq hz rfl rfl ?_);refine za (yx hTI rfl ?_);show zq _ _ (yz (.ref z) >>= _) _ _ _;refine za ?_;unfold yz;refine za (yq hz rfl rfl (ze ?_));simp only[if_true];refine za (Zr ?_);refine za (yq hz rfl rfl ?_);refine za (yo hz (by simp) λg₁ hz₁ WU=>?_);replace hz₁:ZN g₁ z TI TO .ellipsis:=hz₁;refine za ?_;simp only[List.zipIdx_cons,List.zipIdx_nil,Zp,YH];refine za (za (XA ?_));show zq _ _ (js (.ref i1) >>= _) _ _ _;rcases hx:xs[i]? with _|x
 ·
   refine za (VM hh (h1.keep λo e=>WU.extBut _ _ Ap.i1z e) (nh.keep λo e=>WU.extBut _ _ n1.1 e) hx λg₂ e WR he=>?_);obtain⟨oe,hoe,hce⟩:=he;have hz₂:ZN g₂ z TI TO .ellipsis:=WR _ _ Ap.i1z.symm hz₁;have hez:e≠z:=λq=>by subst q;rw[hz₂]at hoe;cases hoe;simp at hce
   exact yo hz₂ (by simp) λg₃ _ hs₃=>hE g₃ e (λc o c1 _ c3 _ q=>hs₃.extBut _ _ c1 (WR _ _ c3 (WU.extBut _ _ c1 q))) ⟨oe,hs₃.extBut _ _ hez hoe,hce⟩
 ·
   have hy:ys[i]? =none:=by
    rcases hend with h|h
    ·rw[hx]at h;exact dD h
    ·exact h
   refine za (WG (h1.keep λo e=>WU.extBut _ _ Ap.i1z e) (nh.keep λo e=>WU.extBut _ _ n1.1 e) hx λg₂ h1₂ WR=>ze ?_);have hTO₂:yP g₂ TO a b:=WR.extBut _ _ Ap.TOi1 (WU.extBut _ _ Ap.TOz hTO);refine za (yx hTO₂ rfl ?_);refine za (Xi hTO₂ λg₃ hTO₃ hs₃=>?_);refine za (JL (ze ?_));refine za (za (XA ?_));show zq _ _ (js (.ref i2) >>= _) _ _ _;have up3:∀c o,c≠z->c≠TO->c≠i1->s.heap.get? c=some o->g₃.get? c=some o:=λc o c1 c2 c3 e=>hs₃.extBut _ _ c2 (WR.extBut _ _ c3 (WU.extBut _ _ c1 e));refine za (VM hh (h2.keep λo e=>up3 _ _ Ap.i2z Ap.TOi2.symm Ap.i12.symm e) (nj.keep λo e=>up3 _ _ n2.1 n2.2.1 n2.2.2.1 e) hy λg₄ e hs₄ he=>?_);obtain⟨oe,hoe,hce⟩:=he;have hz₄:ZN g₄ z TI TO .ellipsis:=hs₄ _ _ Ap.i2z.symm (hs₃.extBut _ _ Ap.TOz.symm (WR.extBut _ _ Ap.i1z.symm hz₁));have hez:e≠z:=λq=>by subst q;rw[hz₄]at hoe;cases hoe;simp at hce
   exact yo hz₄ (by simp) λWS _ hs₅=>hE WS e (λc o c1 c2 c3 c4 q=>hs₅.extBut _ _ c1 (hs₄ _ _ c4 (up3 c o c1 c2 c3 q))) ⟨oe,hs₅.extBut _ _ hez hoe,hce⟩
theorem BZ(Ap:ZA z TI TO i1 i2)(n1:l1∉ [z,TO,i1,i2])(n2:l2∉ [z,TO,i1,i2])
 (hz:ZN s.heap z TI TO .none) (hTI:yP s.heap TI (.ref i1) (.ref i2)) (hTO:yP s.heap TO a b)
 (h1:SI k1 s.heap i1 l1 i) (h2:SI k2 s.heap i2 l2 i) (nh:SC k1 s.heap l1 xs) (nj:SC k2 s.heap l2 ys) (hx:xs[i]? =some x) (hy:ys[i]? =some y)
 (hQ:∀h',ZN h' z TI TO (xk s.heap.objs.size)->yP h' TO x y->SI k1 h' i1 l1 (i+1)->SI k2 h' i2 l2 (i+1)->yP h' s.heap.objs.size x y->h'.objs.size=s.heap.objs.size+1->
   (∀c o,c≠z->c≠TO->c≠i1->c≠i2->s.heap.get? c=some o->h'.get? c=some o)->Q (some (.ref s.heap.objs.size)) {s with heap:=h'}):
 zq (zC prog w) A (xv (.ref z)) Q E s:=by
 have hT:s.TypeIs (.ref z) "zip":=⟨_,hz,rfl⟩;unfold xv;exact za (xD (jH hT YG (jK YG hT F.entry_zip_next
  (EW Ap n1 n2 hz hTI hTO h1 h2 nh nj hx hy λh' a1 a2 a3 a4 a5 a6 a7=>ze (hQ h' a1 a2 a3 a4 a5 a6 a7)) (F.args_zip_next_1 _))))
theorem Mj(hh:A.handled=none)(Ap:ZA z TI TO i1 i2)(n1:l1∉ [z,TO,i1,i2])(n2:l2∉ [z,TO,i1,i2])
 (hz:ZN s.heap z TI TO .none) (hTI:yP s.heap TI (.ref i1) (.ref i2)) (hTO:yP s.heap TO a b)
 (h1:SI k1 s.heap i1 l1 i) (h2:SI k2 s.heap i2 l2 i) (nh:SC k1 s.heap l1 xs) (nj:SC k2 s.heap l2 ys) (hend:xs[i]? =none\/ys[i]? =none)
 (hQ:∀h',(∀c o,c≠z->c≠TO->c≠i1->c≠i2->s.heap.get? c=some o->h'.get? c=some o)->Q none {s with heap:=h'}):zq (zC prog w) A (xv (.ref z)) Q E s:=by
 have hT:s.TypeIs (.ref z) "zip":=⟨_,hz,rfl⟩;unfold xv;refine za (xD (jH hT YG (jK YG hT F.entry_zip_next
  (Cc hh Ap n1 n2 hz hTI hTO h1 h2 nh nj hend λh' e hk he=>?_) (F.args_zip_next_1 _))))
 obtain⟨o,ho,hc⟩:=he;exact za (YB ⟨o,ho,hc⟩ isSubtype_stop (ze (hQ _ hk)))
end
def AC(k:Bool)(a:Addr):Obj:={cls:=.type (if k then "tuple_iterator" else "list_iterator"),data:=.fields #[.ref a,.int 0 0]}
abbrev zh1(k1:Bool)(h:Heap)(l1:Addr):Heap:=h.push (AC k1 l1)
abbrev zh2(k1 k2:Bool)(h:Heap)(l1 l2:Addr):Heap:=(zh1 k1 h l1).push (AC k2 l2)
abbrev zh3(k1 k2:Bool)(h:Heap)(l1 l2:Addr):Heap:=(zh2 k1 k2 h l1 l2).push {cls:=.type "tuple",data:=.seq #[.ref h.objs.size,.ref (zh1 k1 h l1).objs.size]}
abbrev zh4(k1 k2:Bool)(h:Heap)(l1 l2:Addr):Heap:=(zh3 k1 k2 h l1 l2).push {cls:=.type "tuple",data:=.seq #[.none,.none]}
abbrev zh5(k1 k2:Bool)(h:Heap)(l1 l2:Addr):Heap:=(zh4 k1 k2 h l1 l2).push {cls:=.type "zip",data:=.fields #[.none,.bool false,.bool false,.ref (zh2 k1 k2 h l1 l2).objs.size,.ref (zh3 k1 k2 h l1 l2).objs.size]}
theorem PM(hl:SC k s.heap a items)(h:Q (.ref s.heap.objs.size) {s with heap:=s.heap.push (AC k a)}):zq (zC prog w) A (XO (.ref a)) Q E s:=by
 rcases k with _|_
 ·exact Zf hl h
 ·exact wpAny_pyIter_tuple hl h
theorem io(k1 k2:Bool)(l1 l2:Addr)(xs ys:Array zh):
 Meets (yt.«zip.__new__» ⟨[.type "zip",.ref l1,.ref l2], []⟩) (λ_ R s=>SC k1 s.heap l1 xs/\SC k2 s.heap l2 ys/\R (.ok (.ret (.ref (zh4 k1 k2 s.heap l1 l2).objs.size))) {s with heap:=zh5 k1 k2 s.heap l1 l2}):=
 .of_wp λprog w A R s h=>by
  obtain⟨hp,g,d,tk,os⟩:=s;obtain⟨nh,nj,h⟩:=h;have hsub:=sub_zip;have hL1:SC k1 (Shared.heap ⟨hp,g,d,tk,os⟩) l1 xs:=nh;have hL2:SC k2 (Shared.heap ⟨hp.push (AC k1 l1),g,d,tk,os⟩) l2 ys:=nj.keep λo e=>zc _ e
  wp_walk using PM hL1,PM hL2
  exact⟨_,rfl,h⟩
section
theorem af{ch:List Addr}(I:Inv X pins σ H s)(hf:∀b∈ch,B1 X pins H b)(k:∀b o,b∉ch->s.heap.get? b=some o->h'.get? b=some o)
 (hz:vs.length<=zk) (rv:m9 vs us) (ht:x5 h' s.heap.objs.size us.toArray):Inv X pins σ (upd H s.heap.objs.size (.tup vs)) {s with heap:=h',toks:=t'}:=by
 have hq:H s.heap.objs.size=none:=I.hok.fresh (zg _);have neq:∀b o,s.heap.get? b=some o->b≠s.heap.objs.size:=λb o e=>zG (zw e);have nch:∀b u,H b=some u->b∉ch:=λb u e z=>by rw[(hf b z).1]at e;cases e
 refine I.step (λb hb=>⟨(hf b hb).2.2.2.1,(hf b hb).2.1,(hf b hb).2.2.2.2.1,(hf b hb).2.2.2.2.2⟩) (λb o _ _ hc e _=>k b o hc e) (λb o _ _ hc e _=>⟨o.slots,k b o hc e⟩)
  (λb o _ e n=>by rw[m8 (neq b o e)];exact n) (λb o hc e=>⟨o,k b o hc e⟩) (λb xs e=>by rw[m8 (o4 e hq)];exact e) (λb o u e=>by rw[m8 (o4 e hq)];exact e)
  (λb ps e=>⟨#[],by rw[m8 (o4 e hq),e];simp⟩) (λm hm=>?_) (λb u e=>?_) I.bare
 ·obtain⟨o,es,ep,ho,r⟩:=hm;exact⟨o,es,ep,k _ o (λz=>(hf _ z).2.1 rfl) ho,r⟩
 · by_cases hb:b=s.heap.objs.size
   · subst hb;rw[w5]at e
     cases e
     exact⟨hz,us,rv,ht⟩
   · rw[m8 hb]at e;refine(I.hok b u e).stay (λc v hc q=>k c v ?_ q) (λc q=>by rw[m8 (o4 q hq)];exact q) λc xs q=>by rw[m8 (o4 q hq)];exact q
     rcases hc with z|z
     ·rw[z];exact nch b u e
     ·exact nch c _ z
theorem vK{ch:List Addr}(I:Inv X pins σ H s)(hf:∀b∈ch,B1 X pins H b)(k:∀b o,b∉ch->s.heap.get? b=some o->h'.get? b=some o):Inv X pins σ H {s with heap:=h',toks:=t'}:=by
 have nch:∀b u,H b=some u->b∉ch:=λb u e z=>by rw[(hf b z).1]at e;cases e
 refine I.step (λb hb=>⟨(hf b hb).2.2.2.1,(hf b hb).2.1,(hf b hb).2.2.2.2.1,(hf b hb).2.2.2.2.2⟩) (λb o _ _ hc e _=>k b o hc e) (λb o _ _ hc e _=>⟨o.slots,k b o hc e⟩)
  (λ_ _ _ _ n=>n) (λb o hc e=>⟨o,k b o hc e⟩) (λ_ _ e=>e) (λ_ _ _ e=>e) (λb ps e=>⟨#[],by rw[e];simp⟩) (λm hm=>?_) (λb u e=>?_) I.bare
 ·obtain⟨o,es,ep,ho,r⟩:=hm;exact⟨o,es,ep,k _ o (λz=>(hf _ z).2.1 rfl) ho,r⟩
 · refine(I.hok b u e).stay (λc v hc q=>k c v ?_ q) (λ_ q=>q) λ_ _ q=>q;rcases hc with z|z
   ·rw[z];exact nch b u e
   ·exact nch c _ z
end
def Sq(K:zj)(k:Bool)(H:Hp)(a:Addr)(vs:List V):Prop:=if k then SqT K H a vs else SqL K H a vs
theorem WB(I:Inv X pins σ H s)(h:Sq X.K k H a vs):∃ka:List zh,m9 vs ka/\SC k s.heap a ka.toArray/\vs.length<=zk:=by
 rcases k with _|_
 ·obtain⟨ka,r,p,z⟩:=I.list h;exact⟨ka,r,p.isList,z⟩
 ·obtain⟨ka,r,p,z⟩:=I.tuple h;exact⟨ka,r,p,z⟩
theorem RQ(I:Inv X pins σ H s)(h:Sq X.K k H a vs)(h':Sq X.K k H a ws):vs=ws:=by
 rcases k with _|_
 ·exact I.list_inj h h'
 ·exact I.tuple_inj h h'
def Itz(K:zj)(k1 k2:Bool)(a b:Addr):It:=
 ⟨λi H=>∃xs ys x y,Sq K k1 H a xs/\Sq K k2 H b ys/\xs[i]? =some x/\ys[i]? =some y,
  λi H v H'=>∃q x y,H q=none/\v= .ref q/\H'=upd H q (.tup [x,y])/\(∀xs,Sq K k1 H a xs->xs[i]? =some x)/\∀ys,Sq K k2 H b ys->ys[i]? =some y,
  λi H=>∃xs ys,Sq K k1 H a xs/\Sq K k2 H b ys/\(xs.length<=i\/ys.length<=i)⟩
theorem aO(r:m9 vs ka){i:Nat}(h:vs[i]? =some x):∃u,ka.toArray[i]? =some u/\t6 x u:=by obtain⟨u,e,ru⟩:=r.get h;exact⟨u,by simpa using e,ru⟩
theorem qg{w:jg}{K:zj}{es:List Expr}{x1:Nat}{tp:Pos}{l1 l2 z TI TO i1 i2:Addr}(Ap:ZA z TI TO i1 i2)(n1:l1∉ [z,TO,i1,i2])(n2:l2∉ [z,TO,i1,i2]):
 u8 P w K (.Tuple es x1 tp) (Itz K k1 k2 l1 l2) [z,TI,TO,i1,i2] z (λi h=>ZN h z TI TO .none/\yP h TI (.ref i1) (.ref i2)/\(∃a b,yP h TO a b)/\SI k1 h i1 l1 i/\SI k2 h i2 l2 i) where
 mem:=by simp
 obj:=λi h st b hb=>by
  obtain⟨s1,s2,⟨a,c,s3⟩,s4,s5⟩:=st;simp only[zu,ja,or_false]at hb;rcases hb with rfl|rfl|rfl|rfl|rfl
  ·exact⟨_,s1,λv z=>nomatch z⟩
  ·exact⟨_,s2,λv z=>nomatch z⟩
  ·exact⟨_,s3,λv z=>nomatch z⟩
  ·exact s4.there
  ·exact s5.there
 keep:=λi h h' st k=>by obtain⟨s1,s2,⟨a,c,s3⟩,s4,s5⟩:=st;exact⟨k _ (by simp) _ s1,k _ (by simp) _ s2,⟨a,c,k _ (by simp) _ s3⟩,s4.keep (k _ (by simp)),s5.keep (k _ (by simp))⟩
 item:=by
  intro X hP hw hK hc i pins s σ H E I hf st hg;subst hP hw hK;obtain⟨xs,ys,x,y,q1,q2,hx,hy⟩:=hg;obtain⟨its1,r1,c1,z1⟩:=WB I q1;obtain⟨og,r2,c2,z2⟩:=WB I q2;obtain⟨u1,e1,ru1⟩:=aO r1 hx;obtain⟨u2,e2,ru2⟩:=aO r2 hy;obtain⟨s1,s2,⟨a,c,s3⟩,s4,s5⟩:=st;refine BZ Ap n1 n2 s1 s2 s3 s4 s5 c1 c2 e1 e2 λg b1 b2 b3 b4 b5 b6 b7=>⟨_,rfl,?_⟩;refine wpAny_letOwnedTupleGo_zip b1 λg2 c1' sb=>?_;have keep:∀b o,b∉ [z,TI,TO,i1,i2]->s.heap.get? b=some o->g2.get? b=some o:=λb o hb e=>by simp only[zu,ja,or_false,not_or]at hb;exact(sb.2 b hb.1).trans (b7 b o hb.1 hb.2.2.1 hb.2.2.2.1 hb.2.2.2.2 e)
  have zlt:z<s.heap.objs.size:=zw s1;have hnew:x5 g2 s.heap.objs.size [u1,u2].toArray:=⟨_,(sb.2 _ (xK zlt)).trans b5,rfl,_,rfl⟩;have hq:H s.heap.objs.size=none:=I.hok.fresh (zg _);refine⟨.ref s.heap.objs.size,upd H s.heap.objs.size (.tup [x,y]),af I hf keep (by show 2<=zk;decide) (.cons ru1 (.cons ru2 .nil)) hnew,rfl,⟨_,x,y,hq,rfl,rfl,λxs' h=>by rw[RQ I h q1];exact hx,λys' h=>by rw[RQ I h q2];exact hy⟩,?_,λb hb=>?_⟩
  ·refine⟨c1',?_,⟨_,_,(sb.2 _ Ap.TOz).trans b2⟩,b3.keep λo e=>(sb.2 _ Ap.i1z).trans e,b4.keep λo e=>(sb.2 _ Ap.i2z).trans e⟩;exact(sb.2 _ Ap.TIz).trans (b7 TI _ Ap.TIz Ap.TITO Ap.TIi1 Ap.TIi2 s2)
  · have nv:b<s.heap.objs.size:=by
     simp only[zu,ja,or_false]at hb;rcases hb with rfl|rfl|rfl|rfl|rfl
     ·exact zlt
     ·exact zw s2
     ·exact zw s3
     ·obtain⟨_,e,_⟩:=s4.there;exact zw e
     ·obtain⟨_,e,_⟩:=s5.there;exact zw e
    rw[m8 (zG nv)];exact(hf b hb).1
 done:=by intro X hP hw hK hc i pins s σ H E I hf st hg;subst hP hw hK;obtain⟨xs,ys,q1,q2,hend⟩:=hg;obtain⟨its1,r1,c1,z1⟩:=WB I q1;obtain⟨og,r2,c2,z2⟩:=WB I q2;obtain⟨s1,s2,⟨a,c,s3⟩,s4,s5⟩:=st;have nh:=r1.length;have nj:=r2.length;refine Mj (I.ok.hd hc) Ap n1 n2 s1 s2 s3 s4 s5 c1 c2 (by rcases hend with h|h;left;simp;lia;right;simp;lia) λg b7=>⟨rfl,vK I hf λb o hb e=>?_⟩;simp only[zu,ja,or_false,not_or]at hb;exact b7 b o hb.1 hb.2.2.1 hb.2.2.2.1 hb.2.2.2.2 e
 self:=λ_ _ _ _ _ st h=>wpAny_pyIter_zip st.1 h
def QT(K:zj)(ta:TA):TI:=λσ H R=>ta σ H λvs H1=>∃k1 k2 a b xs ys,vs= [.ref a,.ref b]/\Sq K k1 H1 a xs/\Sq K k2 H1 b ys/\R (Itz K k1 k2 a b) H1
section
theorem FU(nh:SC k1 s.heap l1 xs)(nj:SC k2 s.heap l2 ys)
 (h:Q (.ref (zh4 k1 k2 s.heap l1 l2).objs.size) {s with heap:=zh5 k1 k2 s.heap l1 l2}):zq (zC prog w) A (call (.type "zip") [.ref l1,.ref l2]) Q E s:=by
 refine callType_new F.called_zip (by decide) (F.typeCall_zip_2 _ _) (F.newCall_zip_2 _ _) (λobj=>F.args_object_init_3 obj _ _) F.entry_zip_new (io k1 k2 l1 l2 xs ys) ⟨nh,nj,?_⟩;exact⟨⟨_,zp _ rfl,rfl⟩,h⟩
structure ZMk(k1 k2:Bool)(h h5:Heap)(l1 l2:Addr)(n:Nat):Prop where
 keep:∀b o,h.get? b=some o->h5.get? b=some o
 sz:h5.objs.size=n+5
 g5:ZN h5 (n+4:Nat) (n+2:Nat) (n+3:Nat) .none
 g4:yP h5 (n+3:Nat) .none .none
 g3:yP h5 (n+2:Nat) (.ref n) (.ref (n+1:Nat))
 s1:SI k1 h5 n l1 0
 s2:SI k2 h5 (n+1:Nat) l2 0
theorem zmk:(zh4 k1 k2 h l1 l2).objs.size=h.objs.size+4/\ZMk k1 k2 h (zh5 k1 k2 h l1 l2) l1 l2 h.objs.size:=by
 have z1:(zh1 k1 h l1).objs.size=h.objs.size+1:=jS ..;have z2:(zh2 k1 k2 h l1 l2).objs.size=h.objs.size+2:=by rw[jS,z1]
 have z3:(zh3 k1 k2 h l1 l2).objs.size=h.objs.size+3:=by rw[jS,z2]
 have z4:(zh4 k1 k2 h l1 l2).objs.size=h.objs.size+4:=by rw[jS,z3]
 have z5:(zh5 k1 k2 h l1 l2).objs.size=h.objs.size+5:=by rw[jS,z4]
 have g5:ZN (zh5 k1 k2 h l1 l2) (zh4 k1 k2 h l1 l2).objs.size (zh2 k1 k2 h l1 l2).objs.size (zh3 k1 k2 h l1 l2).objs.size .none:=zp _ rfl;have g4:yP (zh5 k1 k2 h l1 l2) (zh3 k1 k2 h l1 l2).objs.size .none .none:=zc _ (zp _ rfl);have g3:yP (zh5 k1 k2 h l1 l2) (zh2 k1 k2 h l1 l2).objs.size (.ref h.objs.size) (.ref (zh1 k1 h l1).objs.size):=zc _ (zc _ (zp _ rfl));have g2:(zh5 k1 k2 h l1 l2).get? (zh1 k1 h l1).objs.size=some (AC k2 l2):=zc _ (zc _ (zc _ (zp _ (by cases k2<;>rfl))));have g1:(zh5 k1 k2 h l1 l2).get? h.objs.size=some (AC k1 l1):=zc _ (zc _ (zc _ (zc _ (zp _ (by cases k1<;>rfl)))));rw[z4,z2,z3]at g5;rw[z3]at g4;rw[z2,z1]at g3;rw[z1]at g2;refine⟨z4,λb o e=>zc _ (zc _ (zc _ (zc _ (zc _ e)))),z5,g5,g4,g3,?_,?_⟩
 · rcases k1 with _|_
   ·exact⟨_,g1,rfl,rfl⟩
   ·exact⟨_,g1,rfl,rfl⟩
 · rcases k2 with _|_
   ·exact⟨_,g2,rfl,rfl⟩
   ·exact⟨_,g2,rfl,rfl⟩
theorem SC.lt(c:SC k h a xs): @LT.lt Nat instLTNat a h.objs.size:=by
 rcases k with _|_
 ·obtain⟨o,e,_⟩:=(show h.IsList a _ from c);exact zw e
 ·obtain⟨o,e,_⟩:=(show h.IsTuple a _ from c);exact zw e
theorem AW(nh:SC k1 s.heap l1 xs)(nj:SC k2 s.heap l2 ys)
 (h:∀h5 n,n=s.heap.objs.size->ZMk k1 k2 s.heap h5 l1 l2 n->Q (.ref (n+4:Nat)) {s with heap:=h5}):zq (zC prog w) A (call (.type "zip") [.ref l1,.ref l2]) Q E s:=by
 refine FU nh nj ?_;have:=zmk (k1:=k1) (k2:=k2) (h:=s.heap) (l1:=l1) (l2:=l2);rw[this.1];exact h _ _ rfl this.2
theorem sY{es:List Expr}{ta:TA}{p pos:Pos}(hg:Gl X "zip")(hm:X.mg "zip" =none)(ha:PA X [a,b] ta)(hs:zX [a,b] X.env= [(false,eval a X.env),(false,eval b X.env)])(hs2:zX [b] X.env= [(false,eval b X.env)])(hbt:je "zip" =some (.type "zip")):
 PI X (.Tuple es x1 tp) (.Call (.Name "zip" p) [a,b] [] pos) (QT X.K ta):=by
 intro pins s σ H R I h;refine Call_ (y9 I hg hm hbt (Zc (thn (ha pos pins s σ H _ I h) λus s1 lu=>lu.elim λvs H1 I1 r1 q1=>?_) (by rw[hs,hs2]) (by rw[hs2];rfl)));obtain⟨k1,k2,l1,l2,xs,ys,rfl,q1,q2,q⟩:=q1;obtain⟨u1,u2,rfl,ru1,ru2⟩:=vC r1
 cases ru1
 cases ru2
 obtain⟨its1,rr1,c1,z1⟩:=WB I1 q1;obtain⟨og,rr2,c2,z2⟩:=WB I1 q2;refine AW c1 c2 λh5 n en Z=>?_;have n1:=QK (en▸c1.lt);have n2:=QK (en▸c2.lt);refine wpAny_pyIter_zip Z.g5 ?_;refine⟨(n+4:Nat),_,_,Itz X.K k1 k2 l1 l2,H1,rfl,I1.kept Z.keep,qg (Sv n) n1 n2,⟨Z.g5,Z.g3,⟨_,_,Z.g4⟩,Z.s1,Z.s2⟩,λb hb=>?_,q⟩;have nv:s1.heap.objs.size<=b:=en▸vY hb;exact I1.fpOk nv (I1.hok.fresh nv)
end
section
open Classical in
def ckO(r:Nat)(o:DO):DH->Bool:=λG=>decide (G[r]? =some o)
def L5:D->M Src:=λx=>match x with
 | .tup l=>pure ⟨l,λ_=>true⟩
 | .ref r=>do
   let o <-K4 r
   let l <-listOf o
   pure ⟨l,ckO r o⟩
 |_=>M.stuck
def sX(c:Wc)(μ:List Addr)(H:Hp)(k:Bool)(a:Addr)(s:Src):Prop:=∀ X9 G' H',Ext μ H X9 H'->m6 c X9 G' H'->s.ck G'=true->∃vs,Sq c.K k H' a vs/\j9 c X9 H' s.items vs
theorem aI{H:Hp}{G:DH}{d:D}{v:V}{f:Src->M α}{K:α->List Addr->DH->Hp->Prop}(h:m6 c μ G H)(r:d7 c μ H d v)(p:c7 c Z μ H ((L5 d >>= f) G) K):
 ∃s k a vs,v= .ref a/\Sq c.K k H a vs/\j9 c μ H s.items vs/\sX c μ H k a s/\s.ck G=true/\(∀i,d= .ref i->k=false)/\c7 c Z μ H (f s G) K:=by
 rcases d with _|_|_|_|l|i|_|_<;>try (exact p.elim;done)
 ·
   unfold d7 at r;obtain⟨a,vs,rfl,q,rl⟩:=r;exact⟨⟨l,λ_=>true⟩,true,a,vs,rfl,q,rl,λX9 G' H' x h' _=>⟨vs,x.sqT q,rl.mono x⟩,rfl,(λi z=>nomatch z),p⟩
 ·
   unfold d7 at r;obtain⟨a,m,rfl⟩:=r;have p':c7 c Z μ H ((K4 i >>= λo=>(listOf o >>= λl=>(pure ⟨l,ckO i o⟩:M Src)) >>= f) G) K:=by rw[<-M.bind_assoc];exact p
   obtain⟨o,g,p2⟩:=G9 p';have ro:=h.obj i o a g m;have ck:ckO i o G=true:=by unfold ckO;simp[g]
   cases o with
   |lst l=>
     obtain⟨vs,q,rl⟩:=ro;refine⟨⟨l,ckO i (.lst l)⟩,false,a,vs,rfl,SqL.of q,rl,λX9 G' H' x h' mr=>?_,ck,(λ_ _=>rfl),p2⟩;have g':G'[i]? =some (.lst l):=by unfold ckO at mr;simpa using mr
     obtain⟨mv,q',mf⟩:=h'.obj i _ a g' (BK x.pre m);exact⟨mv,SqL.of q',mf⟩
   |rol l=>
     obtain⟨vs,q,rl⟩:=ro;refine⟨⟨l,ckO i (.rol l)⟩,false,a,vs,rfl,q.sq,rl,λX9 G' H' x h' mr=>?_,ck,(λ_ _=>rfl),p2⟩;have g':G'[i]? =some (.rol l):=by unfold ckO at mr;simpa using mr
     obtain⟨mv,q',mf⟩:=h'.obj i _ a g' (BK x.pre m);exact⟨mv,q'.sq,mf⟩
   |dct l=>exact p2.elim
   |rod l=>exact p2.elim
theorem nP{H:Hp}{i:Nat}{d:D}{x:V}(r:j9 c μ H l vs)(h:l[i]? =some d)(hx:vs[i]? =some x):d7 c μ H d x:=by
 obtain⟨v,e,q⟩:=r.get h;rw[hx]at e
 cases e
 exact q
def R7(lo:Int)(n:Nat):List D:=(zF n).map fun(i:Nat)=>D.int (lo+(i:Int))
def A7(fs:DSt->M (List D)):DSt->M Src:=λσ=>do
 match <-fs σ with
 |[.int j]=>if -(2 ^ 62)<=j/\j<2 ^ 62 then pure ⟨R7 0 j.toNat,λ_=>true⟩else M.stuck
 |_=>M.stuck
theorem Cv(lo:Int)(n:Nat):ItD c μ H (Itr lo n) ⟨R7 lo n,λ_=>true⟩:=λX9 G' H' x' h' _ i=>by
 refine⟨λd hd=>?_,λhi=>?_⟩
 · have hi:i<n:=by have:=lt_of_get hd;simpa [R7]using this
   have e:d= .int (lo+i):=by unfold R7 at hd;rw[jp,List.getElem?_range hi]at hd;simp at hd;exact hd.symm
   subst e;exact⟨hi,λx H2 ⟨e1,e2⟩=>by subst e1 e2;exact⟨Ext.refl _ _,h',ofI⟩⟩
 ·show n<=i;simpa [R7]using hi
theorem MY(hg:Gl X "range")(hm:X.mg "range" =none)(ha:DA X Z [a] fs)(hs:zX [a] X.env= [(false,eval a X.env)]):DI X Z tg (.Call (.Name "range" p) [a] [] pos) (A7 fs):=
 DI.of (Cp hg hm ha.h hs) λσ H R ki=>ki.elim λX2 μ G s h p=>⟨X2,μ,G,s,h,(c7.bind p).mono λds X0 G1 H1 x1 h1 p1 vs rv=>by
  rcases ds with _|⟨_|_|j|_|_|_|_|_,_|⟨_,_⟩⟩<;>dsimp only at p1<;>try exact p1.elim
  · split at p1
    · rename_i hj;obtain⟨v,t,rfl,r0,e⟩:=rv
      cases e
      exact⟨j,by rw[U3 r0],hj.1,hj.2,c7.ok p1 h1 _ (Cv 0 _)⟩
    ·exact p1.elim⟩
def x9(fs:DSt->M (List D)):DSt->M Src:=λσ=>do
 match <-fs σ with
 |[a,b]=>do
   let s1 <-L5 a
   let s2 <-L5 b
   pure ⟨(s1.items.zip s2.items).map λp=>.tup [p.1,p.2],λG=>s1.ck G&&s2.ck G⟩
 |_=>M.stuck
theorem cz(h:m6 c μ G H)(hq:H q=none)(r:j9 c μ H ds vs):Ext μ H μ (upd H q (.tup vs))/\m6 c μ G (upd H q (.tup vs))/\d7 c μ (upd H q (.tup vs)) (.tup ds) (.ref q):=by have k:Ext μ H μ (upd H q (.tup vs)):=Ext.lay hq _;refine⟨k,h.same k λa o e n=>by rw[m8 (o4 e hq)];exact e,?_⟩;unfold d7;exact⟨q,vs,rfl,SqT.of w5,r.mono k⟩
theorem hV{tp:Pos}{p pos:Pos}(hg:Gl X "zip")(hm:X.mg "zip" =none)(ha:DA X Z [a,b] fs)(hs:zX [a,b] X.env= [(false,eval a X.env),(false,eval b X.env)])(hs2:zX [b] X.env= [(false,eval b X.env)])(hbt:je "zip" =some (.type "zip")):
 DI X Z (.Tuple es x1 tp) (.Call (.Name "zip" p) [a,b] [] pos) (x9 fs):=
 DI.of (sY hg hm ha.h hs hs2 hbt) λσ H R ki=>ki.elim λX2 μ G s h p=>⟨X2,μ,G,s,h,(c7.bind p).mono λds X0 G1 H1 x1 h1 p1 vs rv=>by
  rcases ds with _|⟨d1,_|⟨d2,_|⟨_,_⟩⟩⟩<;>dsimp only at p1<;>try exact p1.elim
  · obtain⟨v1,t1,rfl,r1,v2,t2,rfl,r2,e⟩:=rv
    cases e
    obtain⟨s1,k1,a1,w1,rfl,q1,l1,is1,ck1,_,p2⟩:=aI h1 r1 p1;obtain⟨s2,k2,a2,w2,rfl,q2,l2,is2,ck2,_,p3⟩:=aI h1 r2 p2;refine⟨k1,k2,a1,a2,w1,w2,rfl,q1,q2,c7.ok p3 h1 _ λX9 G' H' x' h' ck' i=>?_⟩;have ck'':s1.ck G'=true/\s2.ck G'=true:=by simpa using ck'
    obtain⟨u1,q1',l1'⟩:=is1 X9 G' H' x' h' ck''.1;obtain⟨u2,q2',l2'⟩:=is2 X9 G' H' x' h' ck''.2;refine⟨λd hd=>?_,λhi=>?_⟩
    · rw[jp]at hd;rcases hz:(s1.items.zip s2.items)[i]? with _|pr
      ·rw[hz]at hd;cases hd
      ·
        rw[hz]at hd;obtain⟨e1,e2⟩:=pr;have oi:d= .tup [e1,e2]:=by simpa using hd.symm
        subst oi;rw[JJ]at hz;obtain⟨y1,hy1,ry1⟩:=l1'.get hz.1;obtain⟨y2,hy2,ry2⟩:=l2'.get hz.2;refine⟨⟨u1,u2,y1,y2,q1',q2',hy1,hy2⟩,λx H2 ⟨q,z1,z2,hq,ex,eH,f1,f2⟩=>?_⟩;subst ex eH;have g1:=f1 u1 q1';have g2:=f2 u2 q2';rw[hy1]at g1;rw[hy2]at g2
        cases g1
        cases g2
        exact cz h' hq ⟨y1,_,rfl,ry1,y2,_,rfl,ry2,rfl⟩
    ·refine⟨u1,u2,q1',q2',?_⟩;rw[<-l1'.length,<-l2'.length];simp at hi;lia⟩
end
def lenF:List D->M D:=λds=>match ds with
 |[.str z]=>if z.length<=zk then pure (.int z.length)else M.stuck
 |[.tup l]=>pure (.int l.length)
 |[.ref r]=>do
   match <-K4 r with
   | .lst l=>pure (.int l.length)
   | .rol l=>pure (.int l.length)
   | .dct l=>pure (.int l.length)
   | .rod _=>M.stuck
 |_=>M.stuck
def V8:List D->M D:=λds=>match ds with
 |[.tup l]=>pure (.tup l)
 |[.ref r]=>do
   let l <-K4 r >>= listOf
   pure (.tup l)
 |_=>M.stuck
def eA:List D->M D:=λds=>match ds with
 |[.tup l]=>J8 (.lst l)
 |[.ref r]=>do
   let l <-K4 r >>= listOf
   J8 (.lst l)
 |_=>M.stuck
def bB:List D->M D:=λds=>match ds with
 |[.int i,.int j]=>pure (.int (if j<i then j else i))
 |_=>M.stuck
def bC:List D->M D:=λds=>match ds with
 |[.int i,.int j]=>pure (.int (if j>i then j else i))
 |_=>M.stuck
def TB:List D->M D:=λds=>match ds with
 |[.int i]=>pure (.int (if i<0 then -i else i))
 |_=>M.stuck
def aP:List D->M D:=λds=>match ds with
 |[.int i]=>pure (.int i)
 |[.bl k]=>pure (.int (if k then 1 else 0))
 |_=>M.stuck
def uD:List D->Option (List Bool)
 |[]=>some []
 | .bl b::r=>(uD r).map (b :: ·)
 |_=>none
def B5:List D->M D:=λds=>match ds with
 |[.ref r]=>do
   let l <-K4 r >>= listOf
   let bs <-C1 (uD l)
   pure (.bl (bs.any id))
 |_=>M.stuck
theorem vj{F:List D->M α}{c:Wc}{Z:XC}{H:Hp}{G:DH}{K:α->List Addr->DH->Hp->Prop}(p:c7 c Z μ H (F ds G) K)(h0:F []=M.stuck)(h2:∀a b t,F (a::b::t)=M.stuck)(hn:F [.non]=M.stuck)(hb:∀b,F [.bl b]=M.stuck)(hi:∀b,F [.int b]=M.stuck)(hs:∀b,F [.str b]=M.stuck)(ht:∀b,F [.tup b]=M.stuck)(hf:∀b,F [.fn b]=M.stuck)(hy:∀b,F [.ty b]=M.stuck):∃r,ds= [.ref r]:=by
 rcases ds with _|⟨d,_|⟨_,_⟩⟩
 ·rw[h0]at p;exact p.elim
 · rcases d with _|b|b|b|b|b|b|b
   ·rw[hn]at p;exact p.elim
   ·rw[hb]at p;exact p.elim
   ·rw[hi]at p;exact p.elim
   ·rw[hs]at p;exact p.elim
   ·rw[ht]at p;exact p.elim
   ·exact⟨b,rfl⟩
   ·rw[hf]at p;exact p.elim
   ·rw[hy]at p;exact p.elim
 ·rw[h2]at p;exact p.elim
section
theorem U2(r:j9 c μ H [d] vs):∃v,vs= [v]/\d7 c μ H d v:=by
 obtain⟨v,t,rfl,q,e⟩:=r
 cases e
 exact⟨v,rfl,q⟩
theorem PF(r:j9 c μ H [d,e] vs):∃v w,vs= [v,w]/\d7 c μ H d v/\d7 c μ H e w:=by
 obtain⟨v,t,rfl,q,v',t',rfl,q',z⟩:=r
 cases z
 exact⟨v,v',rfl,q,q'⟩
theorem QZ:O8 X Z (.builtin "len") lenF:=O8.of (S9.or Kh (S9.or PY Nc)) λxs H Q ki=>ki.elim λds μ G rl hr p=>by
 rcases ds with _|⟨_|_|_|z|l|i|_|_,_|⟨_,_⟩⟩<;>try exact p.elim
 all_goals (delta lenF at p;dsimp only at p)
 · obtain⟨v,rfl,r⟩:=U2 rl;split at p
   ·rename_i hz;exact .inr (.inl ⟨z,by rw[U1 r],hz,c7.ok p hr _ ofI⟩)
   ·exact p.elim
 ·obtain⟨v,rfl,r⟩:=U2 rl;unfold d7 at r;obtain⟨a,vs,rfl,q,mf⟩:=r;exact .inl ⟨a,vs,rfl,.inr q,by rw[<-mf.length];exact c7.ok p hr _ ofI⟩
 · obtain⟨v,rfl,r⟩:=U2 rl;unfold d7 at r;obtain⟨a,m,rfl⟩:=r;obtain⟨o,g,p1⟩:=G9 p;have ro:=hr.obj i o a g m;rcases o with l|l|l|l
   ·obtain⟨vs,q,mf⟩:=ro;exact .inl ⟨a,vs,rfl,.inl (SqL.of q),by rw[<-mf.length];exact c7.ok p1 hr _ ofI⟩
   ·obtain⟨vs,q,mf⟩:=ro;exact .inl ⟨a,vs,rfl,.inl q.sq,by rw[<-mf.length];exact c7.ok p1 hr _ ofI⟩
   ·obtain⟨iz,q,rk⟩:=ro;exact .inr (.inr ⟨a,iz,rfl,q,by rw[<-rk.length];exact c7.ok p1 hr _ ofI⟩)
   ·exact p1.elim
theorem bG{f:List D->M α}{K:α->List Addr->DH->Hp->Prop}(h:m6 c μ G H)(rv:d7 c μ H (.ref r) v)(p:c7 c Z μ H (((K4 r >>= listOf) >>= f) G) K):
 ∃l a vs,v= .ref a/\j9 c μ H l vs/\SqL c.K H a vs/\c7 c Z μ H (f l G) K:=by
 obtain⟨l,a,vs,rfl,rl,p2,hq⟩:=NF h rv p;refine⟨l,a,vs,rfl,rl,?_,p2⟩;rcases hq with⟨z,_⟩|⟨_,_,_,⟨_,q⟩|⟨_,q⟩⟩
 ·cases z
 ·exact SqL.of q
 ·exact q.sq
theorem dq:O8 X Z (.type "tuple") V8:=O8.of Wg λxs H Q ki=>ki.elim λds μ G rl hr p=>by
 rcases ds with _|⟨_|_|_|_|l|i|_|_,_|⟨_,_⟩⟩<;>try exact p.elim
 all_goals (delta V8 at p;dsimp only at p)
 ·obtain⟨v,rfl,r⟩:=U2 rl;have r':=r;unfold d7 at r';obtain⟨a,vs,rfl,q,mf⟩:=r';exact⟨a,vs,rfl,.inr ⟨q,c7.ok p hr _ r⟩⟩
 ·obtain⟨v,rfl,r⟩:=U2 rl;obtain⟨l,a,vs,rfl,mf,q,p2⟩:=bG hr r p;exact⟨a,vs,rfl,.inl ⟨q,λl' hl=>eF hr mf p2 l' hl⟩⟩
theorem hX:O8 X Z (.type "list") eA:=O8.of sW λxs H Q ki=>ki.elim λds μ G rl hr p=>by
 rcases ds with _|⟨_|_|_|_|l|i|_|_,_|⟨_,_⟩⟩<;>try exact p.elim
 all_goals (delta eA at p;dsimp only at p)
 ·obtain⟨v,rfl,r⟩:=U2 rl;unfold d7 at r;obtain⟨a,vs,rfl,q,mf⟩:=r;exact⟨a,vs,rfl,.inr q,λl' hl=>T7 hr mf p l' hl⟩
 ·obtain⟨v,rfl,r⟩:=U2 rl;obtain⟨l,a,vs,rfl,mf,q,p2⟩:=bG hr r p;exact⟨a,vs,rfl,.inl q,λl' hl=>T7 hr mf p2 l' hl⟩
theorem Sg(hc:X.calm=true):O8 X Z (.builtin "min") bB:=O8.of (gm hc) λxs H Q ki=>ki.elim λds μ G rl hr p=>by
 delta bB at p;rcases ds with _|⟨_|_|i|_|_|_|_|_,t⟩<;>try exact p.elim
 rcases t with _|⟨_|_|j|_|_|_|_|_,_|⟨_,_⟩⟩<;>try exact p.elim
 obtain⟨v,w,rfl,r,r'⟩:=PF rl;exact⟨_,_,by rw[U3 r,U3 r'],c7.ok p hr _ ofI⟩
theorem rV(hc:X.calm=true):O8 X Z (.builtin "max") bC:=O8.of (LS hc) λxs H Q ki=>ki.elim λds μ G rl hr p=>by
 delta bC at p;rcases ds with _|⟨_|_|i|_|_|_|_|_,t⟩<;>try exact p.elim
 rcases t with _|⟨_|_|j|_|_|_|_|_,_|⟨_,_⟩⟩<;>try exact p.elim
 obtain⟨v,w,rfl,r,r'⟩:=PF rl;exact⟨_,_,by rw[U3 r,U3 r'],c7.ok p hr _ ofI⟩
theorem Fx:O8 X Z (.builtin "abs") TB:=O8.of nX λxs H Q ki=>ki.elim λds μ G rl hr p=>by
 rcases ds with _|⟨_|_|_|_|_|_|_|_,_|⟨_,_⟩⟩<;>try exact p.elim
 all_goals (delta TB at p;dsimp only at p)
 ·obtain⟨v,rfl,r⟩:=U2 rl;exact⟨_,by rw[U3 r],c7.ok p hr _ ofI⟩
theorem lR:O8 X Z (.type "int") aP:=O8.of Gx λxs H Q ki=>ki.elim λds μ G rl hr p=>by
 rcases ds with _|⟨_|_|_|_|_|_|_|_,_|⟨_,_⟩⟩<;>try exact p.elim
 all_goals (delta aP at p;dsimp only at p)
 ·obtain⟨v,rfl,r⟩:=U2 rl;exact .inr ⟨_,by rw[D7 r],c7.ok p hr _ ofI⟩
 ·obtain⟨v,rfl,r⟩:=U2 rl;exact .inl ⟨_,by rw[U3 r],c7.ok p hr _ ofI⟩
theorem OP:∀ {l} {bs} {vs} {us},uD l=some bs->j9 c μ H l vs->m9 vs us->us.length=bs.length/\∀i u,us[i]? =some u->u=Value.bool (bs.getD i false)
 |[],_,_,_,e,r,q=>by cases e;cases r;cases q;exact⟨rfl,λi u h=>by simp at h⟩
 |d::ds,ns,_,_,e,r,q=>by
   obtain⟨v,t,rfl,r0,rt⟩:=r
   cases q with
   |cons q0 qt=>
     rcases d with _|n|_|_|_|_|_|_<;>try (cases e;done)
     ·
       replace e:(uD ds).map (n :: ·)=some ns:=e;rcases h:uD ds with _|ms
       ·rw[h]at e;exact v6 e
       ·
         rw[h]at e
         cases e
         obtain⟨h1,h2⟩:=OP h rt qt;refine⟨by simp[h1],λi u hu=>?_⟩
         cases i with
         |zero=>
           simp at hu;subst hu;rw[D7 r0]at q0;exact q0
         |succ i=>simpa using h2 i u (by simpa using hu)
theorem Hv(bs:List Bool):((zF bs.length).any λi=>bs.getD i false)=bs.any id:=by
 induction bs with
 |nil=>rfl
 |cons b t ih=>rw[zr,yL,jj,List.any_map,jj];simp[YS];rw[<-ih];simp
theorem uX{σ:St}{a:Addr}{ka:List zh}(hc:X.calm=true)(I:Inv X pins σ H s)(hl:s.heap.IsList a ka.toArray)
 (h:Walks X.prog X.w X.A.in1 s.heap.objs.size [s.heap.objs.size,a] [s.heap.objs.size] ka.toArray.size (λi v=>ka.toArray[i]? =some v) (λi h=>h.IsListIter s.heap.objs.size a i/\h.IsList a ka.toArray)->
   ∀h2:Heap,(h2.IsListIter s.heap.objs.size a 0/\h2.IsList a ka.toArray)->(∀b∈ [s.heap.objs.size,a],b<h2.objs.size)->(∀h' tk,(∀b o,b∉ [s.heap.objs.size]->h2.get? b=some o->h'.get? b=some o)->Inv X pins σ H {s with heap:=h',toks:=tk})->Q (.ref s.heap.objs.size) {s with heap:=h2}):
 zq (zC X.prog X.w) X.A.in1 (XO (.ref a)) Q E s:=by
 have ky:a<s.heap.objs.size:=by obtain⟨_,e,_⟩:=hl;exact zw e
 refine Zf hl ?_;have hh:X.A.in1.handled=none:=I.ok.hd hc;refine h (Walks.list hh s.heap.objs.size a (zG ky) ka.toArray) _ ⟨⟨_,zp _ rfl,rfl,rfl⟩,hl.push _⟩ (λb hb=>?_) λh' tk k=>?_
 · rw[jS];simp only[zu,ja,or_false]at hb;rcases hb with rfl|rfl
   ·exact xL _
   ·exact jR ky
 ·exact I.kept λb o e=>k b o (by simp only[zm];exact zG (zw e)) (zc _ e)
theorem Dh(hc:X.calm=true):O8 X Z (.builtin "any") B5:=⟨by
 intro pins s σ H xs us Q I r ki;obtain⟨ds,μ,G,rl,hr,p⟩:=ki;obtain⟨i,rfl⟩:=vj p rfl (λa _ _=>by cases a<;>rfl) rfl (λ_=>rfl) (λ_=>rfl) (λ_=>rfl) (λ_=>rfl) (λ_=>rfl) λ_=>rfl
 · obtain⟨v,rfl,rv⟩:=U2 rl;obtain⟨u,rfl,ru⟩:=C3 r;obtain⟨l,a,vs,rfl,mf,q,p2⟩:=bG hr rv p
   cases ru
   obtain⟨bs,en,p3⟩:=R1 p2;obtain⟨ka,rr,pl,hz⟩:=I.list q;obtain⟨h1,h2⟩:=OP en mf rr;refine call_any_walk (uX hc I pl.isList λW g hg hb hk=>⟨_,_,_,_,_,_,λi=>bs.getD i false,rfl,W,hg,λi v s' Q' E' hv hq=>?_,λh' tk k=>?_⟩)
   ·rw[h2 i v (by simpa using hv)];exact xG hq
   · refine⟨.bl (bs.any id),H,hk h' tk k,?_,c7.ok p3 hr _ ofB⟩;have e:ka.toArray.size=bs.length:=by rw[zl];exact h1
     rw[e,Hv];rfl⟩
theorem Kw(hg:Gl X x)(hm:X.mg x=none)(hv:je x=some (.type n))(hn:x≠ "__name__")(hd:(x==("__debug__" :Str))=false):DE X Z (.Name x pos) (cE (.ty n)):=
 KD (v:=.ty n) (gX hg hm hv rfl hn hd) λ_ _=>by unfold d7;rfl
end
def W9:D->M Bool:=λx=>match x with
 | .non=>pure false
 | .bl b=>pure b
 | .int i=>pure (i != 0)
 | .str y=>if y.length<=zk then pure ((y.length:Int) != 0)else M.stuck
 | .tup l=>pure (!l.isEmpty)
 | .ref r=>do
   match <-K4 r with
   | .lst l=>pure (!l.isEmpty)
   | .rol l=>pure (!l.isEmpty)
   | .dct l=>pure (!l.isEmpty)
   | .rod _=>M.stuck
 |_=>M.stuck
def truthE(f:Fe):DSt->M Bool:=λσ=>do W9 (<-f σ)
section
theorem Z4(r:j9 cc μ H l vs):vs.isEmpty=l.isEmpty:=by
 cases l with
 |nil=>cases r;rfl
 |cons _ _=>obtain⟨_,_,rfl,_⟩:=r;rfl
theorem uQ(r:S8 cc μ H l vs):vs.isEmpty=l.isEmpty:=by
 cases l with
 |nil=>cases r;rfl
 |cons _ _=>obtain⟨_,_,rfl,_⟩:=r;rfl
theorem DY(ha:DE X Z a fa)(he:∀whole,isTrue a X.env whole= (do let v <-whole;standAt a.pos;Yj [v] (truthy v))):DT X Z a (truthE fa):=
 DT.of (Fp ha.h he) λσ H Q ki=>ki.elim λX2 μ G s h p=>⟨X2,μ,G,s,h,(c7.bind p).mono λd X0 G1 H1 x1 h1 p1 v rv=>by
  cases d with
  |non=>rw[OD rv];exact⟨false,rfl,c7.ok p1 h1⟩
  |bl b=>rw[D7 rv];exact⟨b,rfl,c7.ok p1 h1⟩
  |int b=>rw[U3 rv];exact⟨_,rfl,c7.ok p1 h1⟩
  |str y=>
    rw[U1 rv];unfold W9 at p1;dsimp only at p1;split at p1
    ·rename_i hz;exact⟨_,⟨hz,rfl⟩,c7.ok p1 h1⟩
    ·exact p1.elim
  |tup l=>
    unfold d7 at rv;obtain⟨a,vs,rfl,q,rl⟩:=rv;exact⟨!vs.isEmpty,.inr (.inl ⟨vs,q,rfl⟩),by rw[Z4 rl];exact c7.ok p1 h1⟩
  |ref r=>
    unfold d7 at rv;obtain⟨a,m,rfl⟩:=rv;obtain⟨o,g,p2⟩:=G9 p1;have ro:=h1.obj r o a g m
    cases o with
    |lst l=>obtain⟨vs,q,rl⟩:=ro;exact⟨!vs.isEmpty,.inl ⟨vs,SqL.of q,rfl⟩,by rw[Z4 rl];exact c7.ok p2 h1⟩
    |rol l=>obtain⟨vs,q,rl⟩:=ro;exact⟨!vs.isEmpty,.inl ⟨vs,q.sq,rfl⟩,by rw[Z4 rl];exact c7.ok p2 h1⟩
    |dct l=>obtain⟨vs,q,rl⟩:=ro;exact⟨!vs.isEmpty,.inr (.inr ⟨vs,q,rfl⟩),by rw[uQ rl];exact c7.ok p2 h1⟩
    |rod l=>exact p2.elim
  |_=>exact p1.elim⟩
def lE(o o':D->D->M D)(fa fb fc:Fe):Fe:=λσ=>do
 let x <-fa σ
 let y <-fb σ
 if <-CD (<-o x y)then o' y (<-fc σ)else pure (.bl false)
end
def MG(osc scope:Scope)(N XN:List Str)(caps:List (Option Nat)):Bool:=
 decide (scope.kind= .function)&&scope.names.all (λy=>decide (y.2≠ .cell))&&scope.names.all (λy=>decide (y.2= .local->scope.names.lookup y.1=some .local)) &&
 scope.names.all (λy=>decide (y.2= .free->(osc.names.lookup y.1=some .cell\/osc.names.lookup y.1=some .free)))&&scope.names.all (λy=>decide (y.2= .free->scope.names.lookup y.1=some .free)) &&
 decide (caps.length=N.length)&&(zF caps.length).all λi=>match caps[i]? with
  |some (some j)=>match N[i]?,XN[j]? with
    |some x,some y=>decide (x=y)&&decide ((x,NameKind.free)∈scope.names)
    |_,_=>false
  |_=>true
theorem Z3.of{caps:List (Option Nat)}(h:MG osc scope N XN caps=true)(hs:X.env.scope=osc)(hN:X.N=XN):Z3 X scope N caps:=by
 unfold MG at h;simp only[jI,decide_eq_true_eq,xI]at h;obtain⟨⟨⟨⟨⟨⟨h1,h2⟩,h3⟩,h4⟩,h5⟩,h6⟩,h7⟩:=h;refine⟨h1,h2,h3,λy hy e=>?_,h5,h6,λi j e=>?_⟩
 ·have:=h4 y hy e;show X.env.scope.names.lookup y.1=_\/X.env.scope.names.lookup y.1=_;rw[hs];exact this
 · have hi:i∈zF caps.length:=by rw[jo];exact lt_of_get e
   have q:=h7 i hi;simp only[e]at q;rw[hN];split at q
   ·rename_i x y e1 e2;simp only[jI,decide_eq_true_eq]at q;exact⟨x,e1,by rw[e2,q.1],q.2⟩
   ·exact cG q
def o9(m:Nat)(fb:Fs):List D->M D:=λds=>do
 match <-fb (ds.map some++jJ (m-ds.length) none) with
 | .nx _=>pure .non
 | .rt d=>pure d
 |_=>M.stuck
structure FF(K:zj)(mg:Str->Option zh)(x:Str)(st:Stmt)(ps:List Str)(f:Addr)(fd:xP):Prop where
 F:Fun K x x st f fd
 b:A4 K fd ps []
 m:mg x=some (.ref f)
theorem LU(r:j9 c μ H ds vs):u9 c μ H (ds.map some++jJ (N.length-ds.length) none) (L2.start N vs):=by
 unfold L2.start;rw[r.length];refine⟨by simp[r.length],λi d e=>?_⟩;by_cases hi:i<ds.length
 · rw[zE (by simpa using hi),jp]at e;have hd:ds[i]? =some d:=by
    cases h:ds[i]? with
    |none=>rw[h]at e;exact v6 e
    |some d'=>rw[h]at e;simpa using e
   obtain⟨v,hv,rv⟩:=r.get hd;refine⟨v,?_,rv⟩;rw[zE (by simp;rw[<-r.length];exact hi),jp,hv];rfl
 ·rw[jP (by simpa using hi),JY]at e;split at e<;>cases e
theorem PN{w:jg}{K:zj}{base:Heap}{x:Str}{st:Stmt}{f:Addr}{k n m:Nat}{fb:Fs}(F:FF K mg x st ps f fd)(S:V2 N ps (v5 st))(hn:ps.length=n)(hm:N.length=m)
 (hbody:∀(mn:zh) (A:jn) (outer:List Env) (s:zv) (H:Hp) (E:XK),O3 k (A.deeper (Yt x (v5 st) s.heap.objs.size f mn))->DB (C7 CX0 P w K mg base N x (v5 st) f mn A outer s H E).nox ZF (U4 st) fb):
 E2 P w K mg base CX0 (k+1) f fd ps (spD ⟨K,mg⟩ n (o9 m fb)):=by
 refine F.F.ok S (λvs H Q E h=>by rw[hn];exact h.1) λmn A outer s H vs Q E hr h=>⟨_,(hbody mn A outer s H E hr).h,?_⟩;obtain⟨hl,ds,μ,G,rl,hG,p⟩:=h;subst hm;refine⟨_,μ,G,LU rl,hG,(c7.bind p).mono λfl X0 G1 H1 x1 h1 p1=>?_⟩
 cases fl with
 |nx X2=>exact λσ _=>c7.ok p1 h1 _ ofN
 |rt d=>exact λv rv=>c7.ok p1 h1 v rv
 |bk _=>exact p1.elim
 |ct _=>exact p1.elim
def dG(K:zj):Sp:=λvs H Q _=>∃(a:Addr) (ns:List Int),vs= [.ref a]/\SqL K H a (ns.map V.int)/\LF H/\ns.length<=63/\∀H',Q (.bl true) H'
theorem UK:∀ns:List Int,j9 c μ H (ns.map D.int) (ns.map V.int)
 |[]=>rfl
 |n::t=>⟨.int n,_,rfl,ofI,UK t⟩
theorem qj{w:jg}{K:zj}{base:Heap}{f:Addr}{k:Nat}(hF:E2 P w K mg base CX0 k f fd ["script"] (spD ⟨K,mg⟩ 1 F))
 (pure:∀ns:List Int,ns.length<=63->∃G',F [.ref 0] [.rol (ns.map D.int)]=some (.ok (.bl true),G')):E2 P w K mg base CX0 k f fd ["script"] (dG K):=
 hF.imp λvs H Q E h=>by
  obtain⟨a,ns,rfl,hS,hO,hl,q⟩:=h;obtain⟨G',e⟩:=pure ns hl;refine⟨rfl, [.ref 0], [a], [.rol (ns.map D.int)],⟨.ref a, [],rfl,by unfold d7;exact⟨a,rfl,rfl⟩,rfl⟩,⟨rfl,λi j b e1 e2=>?_,λi o b e1 e2=>?_⟩,?_⟩
  ·have h1:=lt_of_get e1;have h2:=lt_of_get e2;simp at h1 h2;left;lia
  · have h1:=lt_of_get e2;simp at h1;subst h1;have e1':o= .rol (ns.map D.int):=by simpa using e1.symm
    have e2':b=a:=by simpa using e2.symm
    subst e1' e2';refine⟨ns.map V.int,?_,UK ns⟩;rcases hS with(hS|⟨o,hS⟩)|hS
    · rcases hO b with z|⟨o,xs,z⟩
      ·rw[z]at hS;exact v6 hS
      ·rw[z]at hS;cases hS
    ·exact .inl ⟨o,hS⟩
    ·exact .inr (.inr hS)
  ·rw[e];exact λX9 H' _ _ v rv=>by rw[D7 rv];exact q H'
theorem gz:je "len" =some (.builtin "len"):=by decide +kernel
theorem AZ:je "isinstance" =some (.builtin "isinstance"):=by decide +kernel
theorem Lb:je "any" =some (.builtin "any"):=by decide +kernel
theorem mU:je "min" =some (.builtin "min"):=by decide +kernel
theorem OU:je "max" =some (.builtin "max"):=by decide +kernel
theorem Cj:je "abs" =some (.builtin "abs"):=by decide +kernel
theorem wE:je "sorted" =some (.builtin "sorted"):=by decide +kernel
theorem IT:je "tuple" =some (.type "tuple"):=by decide +kernel
theorem Gc:je "list" =some (.type "list"):=by decide +kernel
theorem Px:je "int" =some (.type "int"):=by decide +kernel
theorem Fw:je "str" =some (.type "str"):=by decide +kernel
theorem RZ:je "dict" =some (.type "dict"):=by decide +kernel
theorem wv:je "zip" =some (.type "zip"):=by decide +kernel
end DL
namespace DL
open PySem L2
def Wp{α:Type}(m:M α)(G:DH)(Q:α->DH->Prop):Prop:=∃a G',m G=some (.ok a,G')/\Q a G'
section
theorem Wp.mono(h:Wp m G Q)(k:∀a G',Q a G'->Q' a G'):Wp m G Q':=let ⟨a,G',e,q⟩:=h;⟨a,G',e,k a G' q⟩
theorem wp_pure:Wp (pure a) G Q↔Q a G:=by
 constructor
 · rintro⟨b,G',e,q⟩
   cases e
   exact q
 ·exact λq=>⟨a,G,rfl,q⟩
theorem pB:Wp (M.stuck:M α) G Q↔False:=by
 constructor
 ·rintro⟨b,G',e,q⟩;exact v6 e
 ·exact yc
theorem d9:Wp (m >>= f) G Q↔Wp m G λa G1=>Wp (f a) G1 Q:=by
 constructor
 · rintro⟨a,G',e,q⟩;rw[M.bind_eq]at e
   match h:m G,e with
   |some (.ok b,G1),e=>exact⟨b,G1,h,a,G',e,q⟩
 ·rintro⟨b,G1,e,a,G',e',q⟩;exact⟨a,G',by rw[M.bind_ok e];exact e',q⟩
theorem N9(h:m G=some (.ok a,G')):Wp m G Q↔Q a G':=⟨fun⟨b,G2,e,q⟩=>by rw[h]at e;cases e;exact q,λq=>⟨a,G',h,q⟩⟩
theorem l9:Wp (C1 o) G Q↔∃a,o=some a/\Q a G:=by
 rcases o with _|a
 ·
   constructor
   ·rintro⟨_,_,e,_⟩;exact v6 e
   ·rintro⟨_,e,_⟩;exact v6 e
 ·
   constructor
   · rintro⟨_,_,e,q⟩
     cases e
     exact⟨_,rfl,q⟩
   · rintro⟨_,e,q⟩
     cases e
     exact⟨_,_,rfl,q⟩
theorem M6{Q:DO->DH->Prop}:Wp (K4 r) G Q↔∃o,G[r]? =some o/\Q o G:=by
 constructor
 · rintro⟨a,G',e,q⟩;delta K4 at e;rcases h:G[r]? with _|o
   ·rw[h]at e;exact v6 e
   ·rw[h]at e;cases e;exact⟨_,rfl,q⟩
 ·rintro⟨o,e,q⟩;refine⟨o,G,?_,q⟩;delta K4;rw[e]
theorem O5{Q:DPP}:Wp (J8 o) G Q↔Q (.ref G.length) (G++[o]):=N9 rfl
theorem bH{Q:Unit->DH->Prop}:Wp (B6 r o) G Q↔Q () (G.set r o):=N9 rfl
end
section
theorem N6:Wp (U0 i σ) G Q↔∃d,σ[i]? =some (some d)/\Q d G:=by
 constructor
 · rintro⟨d,G',e,q⟩;delta U0 at e;rcases h:σ[i]? with _|o
   ·rw[h]at e;exact v6 e
   ·
     rw[h]at e;rcases o with _|d'
     ·exact v6 e
     ·cases e;exact⟨_,rfl,q⟩
 ·rintro⟨d,h,q⟩;exact⟨d,G,by delta U0;rw[h],q⟩
theorem E5:Wp (cE d σ) G Q↔Q d G:=wp_pure
theorem Z9:Wp (binE o a b σ) G Q↔Wp (a σ) G λx G1=>Wp (b σ) G1 λy G2=>Wp (o x y) G2 Q:=by unfold binE;simp only[d9]
theorem mJ:Wp (unE o a σ) G Q↔Wp (a σ) G λx G1=>Wp (o x) G1 Q:=by unfold unE;simp only[d9]
theorem y8:Wp (if k=true then m else n) G R↔if k=true then Wp m G R else Wp n G R:=by cases k<;>exact Iff.rfl
theorem DQ:Wp (CD d) G B↔∃k,d= .bl k/\B k G:=by
 constructor
 · rintro⟨k,G',e,q⟩;rcases d with _|b|_|_|_|_|_|_<;>try (cases e;done)
   ·cases e;exact⟨_,rfl,q⟩
 ·rintro⟨k,e,q⟩;subst e;exact⟨k,G,rfl,q⟩
theorem fD:Wp (ifE t a b σ) G Q↔Wp (t σ) G λk G1=>if k=true then Wp (a σ) G1 Q else Wp (b σ) G1 Q:=by unfold ifE;simp only[d9,y8]
theorem rA:Wp (l5 a σ) G B↔Wp (a σ) G λx G1=>∃k,x= .bl k/\B k G1:=by unfold l5;simp only[d9,DQ]
theorem T3:Wp (truthE a σ) G B↔Wp (a σ) G λx G1=>Wp (W9 x) G1 B:=by unfold truthE;simp only[d9]
theorem tE:Wp (Q2 t u σ) G B↔Wp (t σ) G λk G1=>if k=true then Wp (u σ) G1 B else B false G1:=by unfold Q2;simp only[d9,y8,wp_pure]
theorem DX:Wp (orT t u σ) G B↔Wp (t σ) G λk G1=>if k=true then B true G1 else Wp (u σ) G1 B:=by unfold orT;simp only[d9,y8,wp_pure]
theorem C9:Wp (A6 t σ) G B↔Wp (t σ) G λk G1=>B (!k) G1:=by unfold A6;simp only[d9,wp_pure]
theorem o7:Wp (o0 σ) G R↔R [] G:=wp_pure
theorem N8:Wp (B0 a fs σ) G R↔Wp (a σ) G λx G1=>Wp (fs σ) G1 λxs G2=>R (x::xs) G2:=by unfold B0;simp only[d9,wp_pure]
theorem U5:Wp (P2 F fs σ) G Q↔Wp (fs σ) G λds G1=>Wp (F ds) G1 Q:=by unfold P2;simp only[d9]
theorem wC{α:Type}{m:M α}{R:α->DH->Prop}:Wp (noX m) G R↔Wp m G R:=by
 constructor
 · rintro⟨x,G',e,q⟩;delta noX at e;rcases h:m G with _|p
   ·rw[h]at e;exact v6 e
   ·
     rw[h]at e;obtain⟨_|y,G1⟩:=p
     ·exact v6 e
     ·cases e;exact⟨_,_,h,q⟩
 ·rintro⟨x,G',e,q⟩;exact⟨x,G',by delta noX;rw[e],q⟩
theorem O2:Wp (fnX n F ds) G Q↔ds.length=n/\Wp (F ds) G Q:=by
 unfold fnX;by_cases h:ds.length=n
 ·rw[if_pos h,wC];exact⟨λq=>⟨h,q⟩,λq=>q.2⟩
 ·rw[if_neg h];exact⟨λq=>(pB.mp q).elim,λq=>(h q.1).elim⟩
theorem M8:Wp (t3 fs σ) G Q↔Wp (fs σ) G λxs G1=>xs.length<=zk/\Q (.tup xs) G1:=by
 unfold t3;simp only[d9];constructor
 · rintro⟨xs,G1,e,q⟩;refine⟨xs,G1,e,?_⟩;by_cases h:xs.length<=zk
   ·rw[if_pos h]at q;exact⟨h,wp_pure.mp q⟩
   ·rw[if_neg h]at q;exact(pB.mp q).elim
 ·rintro⟨xs,G1,e,h,q⟩;exact⟨xs,G1,e,by dsimp only;rw[if_pos h];exact wp_pure.mpr q⟩
theorem AG:Wp (S7 fs σ) G Q↔Wp (fs σ) G λxs G1=>xs.length<=zk/\Q (.ref G1.length) (G1++[.lst xs]):=by
 unfold S7;simp only[d9];constructor
 · rintro⟨xs,G1,e,q⟩;refine⟨xs,G1,e,?_⟩;by_cases h:xs.length<=zk
   ·rw[if_pos h]at q;exact⟨h,O5.mp q⟩
   ·rw[if_neg h]at q;exact(pB.mp q).elim
 ·rintro⟨xs,G1,e,h,q⟩;exact⟨xs,G1,e,by dsimp only;rw[if_pos h];exact O5.mpr q⟩
theorem o8:Wp (u0 σ) G P↔P (.nx σ) G:=wp_pure
theorem d8:Wp (f9 f g σ) G P↔Wp (f σ) G λfl G1=>match fl with
 | .nx X1=>Wp (g X1) G1 P
 |r=>P r G1:=by
 delta f9;refine Iff.trans d9 ?_;constructor
 · rintro⟨fl,G1,e,q⟩;refine⟨fl,G1,e,?_⟩
   cases fl<;>first
    |exact q
    |exact wp_pure.mp q
 · rintro⟨fl,G1,e,q⟩;refine⟨fl,G1,e,?_⟩
   cases fl<;>first
    |exact q
    |exact wp_pure.mpr q
theorem P5:Wp (t7 a σ) G P↔Wp (a σ) G λd G1=>P (.rt d) G1:=by unfold t7;simp only[d9,wp_pure]
theorem E7:Wp (T4 a σ) G P↔Wp (a σ) G λ_ G1=>P (.nx σ) G1:=by unfold T4;simp only[d9,wp_pure]
theorem tD:Wp (ifS t f g σ) G P↔Wp (t σ) G λk G1=>if k=true then Wp (f σ) G1 P else Wp (g σ) G1 P:=by unfold ifS;simp only[d9,y8]
theorem c8:Wp (v7 a gg σ) G P↔Wp (a σ) G λd G1=>Wp (gg d σ) G1 λX1 G2=>P (.nx X1) G2:=by unfold v7;simp only[d9,wp_pure]
theorem K7:Wp (D3 i d σ) G S↔S (σ.set i (some d)) G:=wp_pure
theorem L7:Wp (o9 m f ds) G Q↔Wp (f (ds.map some++jJ (m-ds.length) none)) G λfl G1=>match fl with
 | .nx _=>Q .non G1
 | .rt d=>Q d G1
 |_=>False:=by
 delta o9;refine Iff.trans d9 ?_;constructor
 · rintro⟨fl,G1,e,q⟩;refine⟨fl,G1,e,?_⟩
   cases fl<;>first
    |exact wp_pure.mp q
    |exact pB.mp q
 · rintro⟨fl,G1,e,q⟩;refine⟨fl,G1,e,?_⟩
   cases fl<;>first
    |exact wp_pure.mpr q
    |exact pB.mpr q
def DJ(o:Option Bool)(g:Bool->Bool)(G:DH):Option (Except Str D×DH):=match o with
 |some b=>some (.ok (.bl (g b)),G)
 |none=>none
theorem AD{g:Bool->Bool}(h:m G=DJ o g G):Wp m G Q↔∃k,o=some k/\Q (.bl (g k)) G:=by
 unfold Wp;rw[h];rcases o with _|k
 ·
   constructor
   ·rintro⟨_,_,e,_⟩;exact v6 e
   ·rintro⟨_,e,_⟩;exact v6 e
 ·
   constructor
   · rintro⟨_,_,e,q⟩
     cases e
     exact⟨_,rfl,q⟩
   · rintro⟨_,e,q⟩
     cases e
     exact⟨_,_,rfl,q⟩
theorem aE:Wp (eqD x y) G Q↔∃k,eqN 40 G x y=some k/\Q (.bl k) G:=AD rfl
theorem tM:Wp (neD x y) G Q↔∃k,eqN 40 G x y=some k/\Q (.bl (!k)) G:=AD rfl
theorem Fh:Wp (ltD x y) G Q↔∃k,ltN 40 G x y=some k/\Q (.bl k) G:=AD rfl
end
end DL
namespace DL
open PySem PySem.Spec L2
open PyProof.Rows hiding St
section
theorem Qd(hc:X.calm=true)(hi:DI X Z tg iter it)(k:Z3 X scope N caps)
 (hg:∀C s H ex,DG (N5 X scope N C s H ex) ZF tg gg) (ht:∀C s H ex,DTs (N5 X scope N C s H ex) ZF ifs tt) (he:∀C s H ex,DE (N5 X scope N C s H ex) ZF elt fe)
 (hs:∀x,xa iter X.env x=pure x) (hgo:DG X Z (.Name y py) g2) (hsw:swapsWith (.ListComp elt [⟨tg,iter,ifs,0⟩] scope pos) (some (.Name y py)) spos.line X.env=pure true):
 DS X Z (.Assign [.Name y py] (.ListComp elt [⟨tg,iter,ifs,0⟩] scope pos) spos) (v7 (O4 it caps gg tt fe) g2):=by
 refine⟨?_⟩;intro pins s σ H En I ki;refine ki.elim λX2 μ G sr hr p0=>?_;obtain⟨Q,hQ,p⟩:∃Q:VK,(∀v H',Q v H'->BB (wc X) Z g2 v σ H' En.nx)/\c7 (wc X) Z μ H (O4 it caps gg tt fe X2 G) λd X9 _ H'=>∀v,d7 (wc X) X9 H' d v->Q v H':=
  ⟨λv H'=>BB (wc X) Z g2 v σ H' En.nx,λ_ _ z=>z,(c7.bind p0).mono λd X0 G1 H1 x' h1 p1 v rv=>⟨d,X2,X0,G1,rv,sr.mono x',h1,(c7.bind p1).mono λdσ2 WX G2 H2 x2 h2 p2 σ2 s2=>c7.ok p2 h2 σ2 s2⟩⟩
 rw[exec_Assign_Name_used _ _ _ _ hsw];refine za (Yp (za ?_));show zq _ X.A (do let _ <-comprehension (.ListComp elt [⟨tg,iter,ifs,0⟩] scope pos) scope X.env _ (newList []) false (eval iter X.env) (some (YK (.Name y py) X.env))) _ _ s;refine za (jF (pR hc hi k hg ht he hs I sr hr p λDD C s4 H' m o hn fin hCn hf q9=>?_) (λ_ s' hq=>ze (ze hq)) λ_ _ e=>e);have fC:∀ {H9:Hp},H9 C=none->∀b∈ [C],B1 X pins H9 b:=λ{H9} hn9 b hb=>by rw[zm]at hb;subst hb;exact hf H9 hn9
 obtain⟨oC,zC1,zC2,hoC,zC3⟩:=id hn;have I5:=(fin s4.heap ⟨rfl,λ_ _=>rfl⟩).pinned (fC hCn) (λb hb=>by rw[zm]at hb;subst hb;exact⟨oC,hoC,λv z=>by first|(rw[zC3.1]at z;cases z)|(rw[zC3.2.1]at z;cases z)⟩)
 refine thn (hgo.h _ s4 σ H' (.ref DD) (.ref DD) _ I5 rfl (hQ _ _ q9)) λ_ s5 ⟨σ5,H5,I6,q6⟩=>?_;obtain⟨g5,g5n,_⟩:=I6.pin (C,oC) (zO _ (zO _ (V7 (by simp) hoC)));refine⟨m,hn.at' (λo e=>by rw[hoC]at e;cases e;exact g5),λh'' sb=>⟨σ5,H5,vK I6.unpinned (fC g5n) λb o hb e=>(sb.2 b (by simpa using hb)).trans e,q6⟩⟩
end
def uA:List D->Option (List Str)
 |[]=>some []
 | .str x::r=>(uA r).map (x :: ·)
 |_=>none
def J2:List (Key×D)->Option (List Str)
 |[]=>some []
 |(.inr x,_)::r=>(J2 r).map (x :: ·)
 |_=>none
section
end
section
theorem AR:∀ {l} {ss},J2 l=some ss->ss.length=l.length
 |[],_,e=>by cases e;rfl
 |(.inr x,_)::r,ss,e=>by
  replace e:=show (J2 r).map (_ :: ·)=some _ from e;rcases h:J2 r with _|t
  ·rw[h]at e;cases e
  ·rw[h]at e;cases e;simp[AR h]
 |(.inl _,_)::_,_,e=>by cases e
theorem FP{w:jg}:∀ {l} {ss:List Str} {iz} {xs} {vs},J2 l=some ss->S8 c μ H l iz->KV iz xs->vs.length=xs.length->
 (∀(j:Nat) (v:zh),vs[j]? =some v->∃k x,xs[j]? =some (k,x)/\(u5 P w).is k v=true)->StrsAre vs ss
 |[],_,_,xs,vs,e,r,kv,hl,hv=>by
   cases e;cases r;cases kv
   rcases vs with _|⟨_,_⟩
   ·exact .nil
   ·simp at hl
 |(.inr x,d)::t,ss,iz,xs,vs,e,r,kv,hl,hv=>by
  replace e:=show (J2 t).map (_ :: ·)=some _ from e;rcases h:J2 t with _|q
  ·rw[h]at e;cases e
  ·
    rw[h]at e
    cases e
    obtain⟨v0,tl,rfl,r0,rt⟩:=r
    cases kv with
    |cons hk ht=>
      cases vs with
      |nil=>simp at hl
      |cons u us=>
        obtain⟨k,y,e1,e2⟩:=hv 0 u rfl;simp only[zH,zP]at e1;have hk1:(Sum.inr x:Key)=_:=hk.1;rw[e1]at hk1;have e3:h9 (.inr x) u=true:=by rw[hk1];exact e2
        rcases J0 e3 with⟨_,_,z,_⟩|⟨x',t',z,eu⟩
        ·cases z
        · cases z
          subst eu;exact .cons _ _ (FP h rt ht (by simpa using hl) λj v hj=>by simpa using hv (j+1) v (by simpa using hj))
 |(.inl _,_)::_,_,_,_,_,e,_,_,_,_=>by cases e
theorem kN:∀ {out} {ss},StrsAre out ss->∃vs,vs=ss.map V.str/\m9 vs out/\j9 c μ H (ss.map D.str) vs
 |_,_,.nil=>⟨[],rfl,.nil,rfl⟩
 |_,_,.cons x t q=>by obtain⟨vs,e,h1,h2⟩:=kN q;subst e;exact⟨_,rfl,.cons ⟨t,rfl⟩ h1,_,_,rfl,by unfold d7;rfl,h2⟩
end
def Its(z:Str):It:=⟨λi _=>∃c,z.cps[i]? =some c,λi H x H'=>H'=H/\∃c,z.cps[i]? =some c/\x= .str ⟨#[c]⟩,λi _=>z.cps[i]? =none⟩
theorem mV{K:zj}(z:Str)(t:Tok)(it:Addr):u8 P w K tg (Its z) [it] it (λi h=>h.IsStrIter it "str_ascii_iterator" z t i) where
 mem:=by simp
 obj:=λi h st b hb=>by
  have e:b=it:=by simpa using hb
  subst e;obtain⟨o,e,c,d⟩:=st;exact⟨o,e,λv z=>by rw[d]at z;cases z⟩
 keep:=λi h h' st k=>let ⟨o,ho,r⟩:=st;⟨o,k it (by simp) o ho,r⟩
 item:=by intro X hP hw hK hc i pins s σ H E I hf st hg;subst hP hw hK;obtain⟨c,hx⟩:=hg;obtain⟨f0,f1,f2,f3,f4,f5⟩:=hf it (by simp);refine wpAny_pyNext_ascii_item st hx λh' ma sb=>?_;have I1:Inv X pins σ H {s with heap:=h',toks:=s.toks+1}:=I.turned (λb o hb e=>(sb.2 b hb).trans e) f0 f1 f3 f4 f5;obtain⟨o,e,cc,d⟩:=id ma;exact⟨_,rfl,qB e cc d (by decide) ⟨.str ⟨#[c]⟩,H,I1,⟨_,rfl⟩,⟨rfl,c,hx,rfl⟩,ma,λb hb=>(hf b hb).1⟩⟩
 done:=by intro X hP hw hK hc i pins s σ H E I hf st hg;subst hP hw hK;obtain⟨f0,f1,f2,f3,f4,f5⟩:=hf it (by simp);exact wpAny_pyNext_ascii_end (I.ok.hd hc) st hg λh' eb=>⟨rfl,I.turned (λb o hb e=>eb b o hb e) f0 f1 f3 f4 f5⟩
 self:=λ_ _ _ _ _ st h=>wpAny_pyIter_striter_ascii st h
theorem cu{K:zj}(z:Str)(t:Tok)(it:Addr):u8 P w K tg (Its z) [it] it (λi h=>h.IsStrIter it "str_iterator" z t i) where
 mem:=by simp
 obj:=λi h st b hb=>by
  have e:b=it:=by simpa using hb
  subst e;obtain⟨o,e,c,d⟩:=st;exact⟨o,e,λv z=>by rw[d]at z;cases z⟩
 keep:=λi h h' st k=>let ⟨o,ho,r⟩:=st;⟨o,k it (by simp) o ho,r⟩
 item:=by intro X hP hw hK hc i pins s σ H E I hf st hg;subst hP hw hK;obtain⟨c,hx⟩:=hg;obtain⟨f0,f1,f2,f3,f4,f5⟩:=hf it (by simp);refine wpAny_pyNext_wide_item st hx λh' ma sb=>?_;have I1:Inv X pins σ H {s with heap:=h',toks:=s.toks+1}:=I.turned (λb o hb e=>(sb.2 b hb).trans e) f0 f1 f3 f4 f5;obtain⟨o,e,cc,d⟩:=id ma;exact⟨_,rfl,qB e cc d (by decide) ⟨.str ⟨#[c]⟩,H,I1,⟨_,rfl⟩,⟨rfl,c,hx,rfl⟩,ma,λb hb=>(hf b hb).1⟩⟩
 done:=by intro X hP hw hK hc i pins s σ H E I hf st hg;subst hP hw hK;obtain⟨f0,f1,f2,f3,f4,f5⟩:=hf it (by simp);exact wpAny_pyNext_wide_end (I.ok.hd hc) st hg λh' eb=>⟨rfl,I.turned (λb o hb e=>eb b o hb e) f0 f1 f3 f4 f5⟩
 self:=λ_ _ _ _ _ st h=>wpAny_pyIter_striter_wide st h
section
def RJ(z:Str):List D:=z.cps.toList.map λc=>.str ⟨#[c]⟩
def IG:D->M Src:=λx=>match x with
 | .str z=>pure ⟨RJ z,λ_=>true⟩
 | .tup l=>L5 (.tup l)
 | .ref r=>L5 (.ref r)
 |_=>M.stuck
end
section
end
theorem mY{w:jg}{K:zj}{base:Heap}{CX:CXT}{k n:Nat}{f:Addr}(hn:ps.length=n):E2 P w K mg base CX k f fd ps (spD ⟨K,mg⟩ n λ_=>M.stuck):=
 ⟨λvs H Q E h=>by rw[hn];exact h.1,λA outer s H args us vs Q E hr=>by
  intros;rename_i h
  first
   |exact h.2.elim
   |(obtain⟨_,_,_,_,_,_,z⟩:=h;exact z.elim)⟩
end DL
namespace W
open PySem PySem.Spec L2 DL
open PyProof.Rows hiding St
theorem st1:([d].map some++jJ n none:DSt)[0]? =some (some d):=by rfl
theorem tB{P:Bool->Prop}:(∃k,D.bl b= .bl k/\P k)↔P b:=⟨fun⟨k,e,p⟩=>by cases e;exact p,λp=>⟨b,rfl,p⟩⟩
theorem S6{P:α->Prop}:(∃k,some b=some k/\P k)↔P b:=⟨fun⟨k,e,p⟩=>by cases e;exact p,λp=>⟨b,rfl,p⟩⟩
theorem QC:Wp (gtD (.int i) (.int j)) G Q↔Q (.bl (decide (j<i))) G:=wp_pure
theorem ix_tup:Wp (ixD (.tup l) (.int i)) G Q↔∃d,atI l i=some d/\Q d G:=l9
theorem O6:Wp (W9 (.bl b)) G B↔B b G:=wp_pure
theorem KN:Wp (lenF [.tup l]) G Q↔Q (.int l.length) G:=wp_pure
theorem i6:Wp (eqD (.int i) (.int j)) G Q↔Q (.bl (decide (i=j))) G:=by
 have e:eqN 40 G (.int i) (.int j)=some (decide (i=j)):=by rfl
 rw[aE,e];exact S6
theorem E3(h:Wp m G λa G'=>a=x/\G'=G):m G=some (.ok x,G):=by obtain⟨a,G',e,e1,e2⟩:=h;subst e1 e2;exact e
theorem VQ{g:Fg}{e:Fe}{G:DH}{I:DSt->Prop}(mr:ck G=true):∀items (σ:DSt),I σ->
 (∀d∈items,∀ σ,I σ->∃ WY,g d σ G=some (.ok WY,G)/\I WY/\t WY G=some (.ok true,G)/\e WY G=some (.ok (f d),G))->J6 g t e ck items σ G=some (.ok (items.map f),G)
 |[],σ,_,_=>by unfold J6;simp only[mr,if_true,ZE]
 |d::r,σ,i,h=>by obtain⟨WY,h1,i1,h2,h3⟩:=h d (by simp) σ i;have h4:=VQ mr r WY i1 λd hd=>h d (by simp[hd]);unfold J6;simp only[mr,if_true];rw[M.bind_ok h1,M.bind_ok h2,if_pos rfl,M.bind_ok h3,M.bind_ok h4];rfl
theorem eX{it:DSt->M Src}{g:Fg}{e:Fe}{G:DH}{σ:DSt}{s:Src}(I:DSt->Prop)(hs:it σ G=some (.ok s,G))(hn:s.items.length<=zk)(mr:s.ck G=true)(hi:I (X7 caps σ))
 (h:∀d∈s.items,∀ σ,I σ->∃ WY,g d σ G=some (.ok WY,G)/\I WY/\t WY G=some (.ok true,G)/\e WY G=some (.ok (f d),G)):
 Wp (O4 it caps g t e σ) G Q↔Q (.ref G.length) (G++[.lst (s.items.map f)]):=by
 unfold O4;simp only[d9];rw[N9 hs,if_pos hn];simp only[d9,wC];rw[N9 (VQ mr s.items _ hi h),O5]
theorem lt_int:Wp (ltD (.int i) (.int j)) G Q↔Q (.bl (decide (i<j))) G:=by
 have e:ltN 40 G (.int i) (.int j)=some (decide (i<j)):=by rfl
 rw[Fh,e];exact S6
theorem n9:Wp (addD (.int i) (.int j)) G Q↔Q (.int (i+j)) G:=wp_pure
theorem at0:atI [a,b] 0=some a:=by rfl
theorem at1:atI [a,b] 1=some b:=by rfl
section
theorem wA:Wp (B2 g b ck [] σ) G P↔ck G=true/\P (.nx σ) G:=by
 unfold B2;constructor
 · rintro⟨a,G',e,q⟩;by_cases h:ck G=true
   ·simp only[h,if_true]at e;cases e;exact⟨h,q⟩
   ·simp only[h]at e;exact v6 e
 ·rintro⟨h,q⟩;exact⟨_,G,by simp only[h,if_true],q⟩
theorem R8:Wp (B2 g b ck (d::r) σ) G P↔ck G=true/\Wp (g d σ) G λWY G1=>Wp (b WY) G1 λfl G2=>match fl with
 | .nx X1=>Wp (B2 g b ck r X1) G2 P
 | .ct X1=>Wp (B2 g b ck r X1) G2 P
 | .bk X1=>P (.nx X1) G2
 | .rt d=>P (.rt d) G2:=by
 have e:Wp (B2 g b ck (d::r) σ) G P↔ck G=true/\Wp (do
  match <-b (<-g d σ) with
  | .nx X1=>B2 g b ck r X1
  | .ct X1=>B2 g b ck r X1
  | .bk X1=>pure (.nx X1)
  | .rt d=>pure (.rt d):M Fl) G P:=by
  rw[B2];constructor
  · rintro⟨a,G',e,q⟩;by_cases h:ck G=true
    ·simp only[h,if_true]at e;exact⟨h,a,G',e,q⟩
    ·simp only[h]at e;exact v6 e
  ·rintro⟨h,a,G',e,q⟩;exact⟨a,G',by simp only[h,if_true];exact e,q⟩
 rw[e];simp only[d9];refine and_congr_right λ_=>?_;constructor
 · rintro⟨WY,G1,e1,fl,G2,e2,q⟩;refine⟨WY,G1,e1,fl,G2,e2,?_⟩
   cases fl<;>first
    |exact q
    |exact wp_pure.mp q
 · rintro⟨WY,G1,e1,fl,G2,e2,q⟩;refine⟨WY,G1,e1,fl,G2,e2,?_⟩
   cases fl<;>first
    |exact q
    |exact wp_pure.mpr q
theorem P7:Wp (S3 it g b σ) G P↔Wp (it σ) G λs G1=>Wp (B2 g b s.ck s.items σ) G1 P:=by unfold S3;simp only[d9]
end
theorem WD:Wp (F9 (.int i) (.int j)) G Q↔Q (.int (i-j)) G:=wp_pure
theorem atI_nat{k:Nat}(h:l[k]? =some s):atI l (k:Int)=some s:=by
 have hk:k<l.length:=by
  by_cases hk:k<l.length
  ·exact hk
  ·rw[jf (by omega)]at h;exact v6 h
 unfold atI ixN;rw[if_pos (by omega),if_pos (by omega)];simpa using h
section
theorem W8(h:0<j):Wp (u4 (.int i) (.int j)) G Q↔Q (.int (i % j)) G:=by have e:u4 (.int i) (.int j)=if 0<j then pure (.int (i % j))else M.stuck:=rfl;rw[e,if_pos h];exact wp_pure
theorem lD(h:0<j/\j<2 ^ 100):Wp (aA (.int i) (.int j)) G Q↔Q (.int (i / j)) G:=by have e:aA (.int i) (.int j)=if HB i j then pure (.int (i / j))else M.stuck:=rfl;rw[e,if_pos (show HB i j from h)];exact wp_pure
theorem U8(h:i8 i j):Wp (v3 (.int i) (.int j)) G Q↔Q (.int (i*j)) G:=by have e:v3 (.int i) (.int j)=if i8 i j then pure (.int (i*j))else M.stuck:=rfl;rw[e,if_pos h];exact wp_pure
theorem VA{l:List D}(h:G[r]? =some (.lst l)):Wp (ixD (.ref r) (.int i)) G Q↔∃d,atI l i=some d/\Q d G:=by
 have e:ixD (.ref r) (.int i)= (do
  let l <-K4 r >>= DL.listOf
  C1 (atI l i)):=rfl
 rw[e];simp only[d9,M6,h,S6,DL.listOf,wp_pure,l9]
theorem Dv{d:D}{R:Unit->DH->Prop}(h:G[r]? =some (.lst l))(hj:ixN l.length k=some j):Wp (OC (.ref r) (.int k) d) G R↔R () (G.set r (.lst (l.set j d))):=by unfold OC;simp only[d9,M6,h,S6,hj,bH]
theorem EX:Wp (AB fo fi d σ) G S↔Wp (fo σ) G λo G1=>Wp (fi σ) G1 λi G2=>Wp (OC o i d) G2 λ_ G3=>S σ G3:=by unfold AB;simp only[d9,wp_pure]
end
theorem EF(h:g6 i j):Wp (y3 (.int i) (.int j)) G Q↔Q (.int (i ^ j.toNat)) G:=by have e:y3 (.int i) (.int j)=if g6 i j then pure (.int (i ^ j.toNat))else M.stuck:=rfl;rw[e,if_pos h];exact wp_pure
theorem p18:Wp (y3 (.int 10) (.int 18)) G Q↔Q (.int 1000000000000000000) G:=by rw[EF (by decide)];exact Iff.rfl
theorem BJ:Wp (j4 (.int i)) G Q↔Q (.int (-i)) G:=wp_pure
theorem qJ{l:List D}{k:Int}(h0:0<=k)(h1:k<l.length):∃d,d∈l/\atI l k=some d:=by
 obtain⟨n,rfl⟩:=Int.eq_ofNat_of_zero_le h0;have hn:n<l.length:=by omega
 exact⟨l[n],List.getElem_mem hn,atI_nat (zo hn)⟩
theorem sz{l:List D}(h:Nat.ble l.length 100=true:=by rfl):l.length<=zk:=zQ (Nat.le_of_ble_eq_true h) (by decide)
theorem SS{G t:DH}:(G++t)[G.length+k]? =t[k]? :=by rw[jP (by omega)];congr 1;omega
theorem CN{G t:DH}:(G++t)[G.length]? =t[0]? :=SS (k:=0)
section
theorem gR:Wp (bB [.int i,.int j]) G Q↔Q (.int (if j<i then j else i)) G:=wp_pure
theorem y4:Wp (mtE t m fo fs σ) G Q↔Wp (fo σ) G λx G1=>Wp (t x) G1 λ_ G2=>Wp (fs σ) G2 λxs G3=>Wp (m x xs) G3 Q:=by unfold mtE;simp only[d9]
theorem M9(h:G[r]? =some (.lst l)):Wp (v9 (.ref r)) G R↔R () G:=by delta v9;exact d9.trans ((M6.trans (by rw[h];exact S6)).trans wp_pure)
theorem Q3{l:List D}(h:G[r]? =some (.lst l))(hl:l.length<zk):Wp (J1 (.ref r) [y]) G Q↔Q .non (G.set r (.lst (l++[y]))):=by
 have e:J1 (.ref r) [y]= (do
  let l <-lstM r
  if l.length<zk then do
   let _ <-B6 r (.lst (l++[y]))
   pure .non
  else M.stuck):=rfl
 rw[e];unfold lstM;simp only[d9,M6,h,S6,wp_pure,hl,if_true,bH]
theorem W5{l:List D}(h:G[r]? =some (.lst l)):Wp (V8 [.ref r]) G Q↔Q (.tup l) G:=by
 have e:V8 [.ref r]= (do
  let l <-K4 r >>= DL.listOf
  pure (.tup l)):=rfl
 rw[e];simp only[d9,M6,h,S6,DL.listOf,wp_pure]
theorem aZ:Wp (eA [.tup l]) G Q↔Q (.ref G.length) (G++[.lst l]):=O5
theorem WF:Wp (A7 fs σ) G R↔Wp (fs σ) G λxs G1=>Wp (match xs with
 |[.int j]=>if -(2 ^ 62)<=j/\j<2 ^ 62 then pure ⟨R7 0 j.toNat,λ_=>true⟩else M.stuck
 |_=>M.stuck:M Src) G1 R:=by
 delta A7;exact d9
theorem sF(h: -(2 ^ 62)<=j/\j<2 ^ 62):Wp (match [D.int j] with
 |[.int j]=>if -(2 ^ 62)<=j/\j<2 ^ 62 then pure ⟨R7 0 j.toNat,λ_=>true⟩else M.stuck
 |_=>M.stuck:M Src) G R↔R ⟨R7 0 j.toNat,λ_=>true⟩ G:=by
 show Wp (if -(2 ^ 62)<=j/\j<2 ^ 62 then pure ⟨R7 0 j.toNat,λ_=>true⟩else M.stuck:M Src) G R↔_;rw[if_pos h];exact wp_pure
theorem vH{a b:List D}(ha:G[i]? =some (.lst a))(hb:G[j]? =some (.lst b))(hl:a.length+b.length<=zk):Wp (addD (.ref i) (.ref j)) G Q↔Q (.ref G.length) (G++[.lst (a++b)]):=by
 have e:addD (.ref i) (.ref j)= (do
  match <-K4 i,<-K4 j with
  | .lst a,.lst b=>if a.length+b.length<=zk then J8 (.lst (a++b))else M.stuck
  |_,_=>M.stuck):=rfl
 rw[e];simp only[d9,M6,ha,hb,S6,if_pos hl,O5]
theorem HE(hl:a.length+b.length<=zk):Wp (addD (.tup a) (.tup b)) G Q↔Q (.tup (a++b)) G:=by have e:addD (.tup a) (.tup b)=if a.length+b.length<=zk then pure (.tup (a++b))else M.stuck:=rfl;rw[e,if_pos hl];exact wp_pure
theorem dL:Wp (F7 σ) G R↔R none G:=wp_pure
theorem sM:Wp (T6 f σ) G R↔Wp (f σ) G λx G1=>∃i,x= .int i/\R (some i) G1:=by
 delta T6;refine Iff.trans d9 ?_;constructor
 · rintro⟨x,G1,e,q⟩;refine⟨x,G1,e,?_⟩;rcases x with _|_|i|_|_|_|_|_<;>try (exact(pB.mp q).elim;done)
   ·exact⟨i,rfl,wp_pure.mp q⟩
 ·rintro⟨x,G1,e,i,rfl,q⟩;exact⟨_,G1,e,wp_pure.mpr q⟩
theorem sl_tup{lo hi:Option Int}:Wp (slD (.tup l) lo hi) G Q↔Q (.tup (DL.cutD l lo hi)) G:=wp_pure
theorem Kc{P:Int->Prop}:(∃k,D.int i= .int k/\P k)↔P i:=⟨fun⟨k,e,p⟩=>by cases e;exact p,λp=>⟨i,rfl,p⟩⟩
end
theorem m5{G:DH}:(G++[o])[G.length]? =some o:=CN
theorem t8{G t:DH}{p:Nat}(e:G[p]? =some o):(G++t)[p]? =some o:=by
 have ky:p<G.length:=by
  by_cases hi:p<G.length
  ·exact hi
  ·rw[jf (by omega)]at e;exact v6 e
 rw[zE ky];exact e
def okD:D->Bool
 | .non=>true
 | .bl _=>true
 | .int _=>true
 | .str _=>true
 | .tup _=>true
 |_=>false
def Gr(G G':DH):Prop:=G.length<=G'.length/\∀i,i<G.length->G'[i]? =G[i]?
theorem cx{σ:DSt}{l:List D}{R:Src->DH->Prop}(e:G[p]? =some (.lst l)):Wp (L5 (.ref p)) G R↔R ⟨l,ckO p (.lst l)⟩ G:=by
 have h:L5 (.ref p)= (do
  let o <-K4 p
  let l <-DL.listOf o
  pure ⟨l,ckO p o⟩):=rfl
 rw[h];simp only[d9,M6,e,S6,DL.listOf,wp_pure]
def ok1:D->Bool
 | .tup l=>l.all okD
 |d=>okD d
def ok2:D->Bool
 | .tup l=>l.all ok1&&decide (l.length<=40)
 |d=>okD d
section
theorem TK:Wp (lE o o' a b c σ) G Q↔Wp (a σ) G λx G1=>Wp (b σ) G1 λy G2=>Wp (o x y) G2 λz G3=>∃k,z= .bl k/\if k=true then Wp (c σ) G3 λw G4=>Wp (o' y w) G4 Q else Q (.bl false) G3:=by unfold lE;simp only[d9,DQ,y8,wp_pure]
theorem VB:Wp (J6 g t e ck [] σ) G R↔ck G=true/\R [] G:=by
 unfold J6;constructor
 · rintro⟨a,G',e,q⟩;by_cases h:ck G=true
   ·simp only[h,if_true]at e;cases e;exact⟨h,q⟩
   ·simp only[h]at e;exact v6 e
 ·rintro⟨h,q⟩;exact⟨_,G,by simp only[h,if_true],q⟩
theorem UD:Wp (J6 g t e ck (d::r) σ) G R↔ck G=true/\Wp (g d σ) G λWY G1=>Wp (t WY) G1 λb G2=>if b=true then Wp (e WY) G2 λy G3=>Wp (J6 g t e ck r WY) G3 λys G4=>R (y::ys) G4 else Wp (J6 g t e ck r WY) G2 R:=by
 have h0:Wp (J6 g t e ck (d::r) σ) G R↔ck G=true/\Wp (do
  let WY <-g d σ
  if <-t WY then do
   let y <-e WY
   let ys <-J6 g t e ck r WY
   pure (y::ys)
  else J6 g t e ck r WY:M (List D)) G R:=by
  rw[J6];constructor
  · rintro⟨a,G',e,q⟩;by_cases h:ck G=true
    ·simp only[h,if_true]at e;exact⟨h,a,G',e,q⟩
    ·simp only[h]at e;exact v6 e
  ·rintro⟨h,a,G',e,q⟩;exact⟨a,G',by simp only[h,if_true];exact e,q⟩
 rw[h0];simp only[d9,y8,wp_pure]
theorem wp_comp:Wp (O4 it caps g t e σ) G Q↔Wp (it σ) G λs G1=>s.items.length<=zk/\Wp (J6 g t e s.ck s.items (X7 caps σ)) G1 λys G2=>Q (.ref G2.length) (G2++[.lst ys]):=by
 unfold O4;simp only[d9];constructor
 · rintro⟨s,G1,e1,q⟩;refine⟨s,G1,e1,?_⟩;by_cases h:s.items.length<=zk
   ·rw[if_pos h]at q;simp only[d9,wC,O5]at q;exact⟨h,q⟩
   ·rw[if_neg h]at q;exact(pB.mp q).elim
 ·rintro⟨s,G1,e1,h,q⟩;refine⟨s,G1,e1,?_⟩;dsimp only;rw[if_pos h];simp only[d9,wC,O5];exact q
theorem rK(mr:ck G=true)(S:DSt->Prop):∀items σ,S σ->
 (∀d∈items,∀ σ,S σ->∃ WY,g d σ G=some (.ok WY,G)/\S WY/\t WY G=some (.ok (p d),G)/\e WY G=some (.ok d,G))->J6 g t e ck items σ G=some (.ok (items.filter p),G)
 |[],σ,_,_=>by unfold J6;simp only[mr,if_true,List.filter_nil]
 |d::r,σ,i,h=>by
   obtain⟨WY,h1,i1,h2,h3⟩:=h d (by simp) σ i;have h4:=rK mr S r WY i1 λd hd=>h d (by simp[hd]);unfold J6;simp only[mr,if_true];rw[M.bind_ok h1,M.bind_ok h2];by_cases hp:p d=true
   ·rw[if_pos hp,M.bind_ok h3,M.bind_ok h4,List.filter_cons_of_pos hp];rfl
   ·rw[if_neg hp,h4,List.filter_cons_of_neg hp]
end
section
theorem UP:Wp (eqD (.str a) (.str b)) G Q↔Q (.bl (a==b)) G:=by
 have e:eqN 40 G (.str a) (.str b)=some (a==b):=by rfl
 rw[aE,e];exact S6
theorem Dj:Wp (leD (.str a) (.str b)) G Q↔Q (.bl (!decide (b.cps.toList<a.cps.toList))) G:=wp_pure
theorem bK(h:a.length+b.length<=zk):Wp (addD (.str a) (.str b)) G Q↔Q (.str (a++b)) G:=by have e:addD (.str a) (.str b)=if a.length+b.length<=zk then pure (.str (a++b))else M.stuck:=rfl;rw[e,if_pos h];exact wp_pure
theorem nC(h:z.length<=zk):Wp (lenF [.str z]) G Q↔Q (.int z.length) G:=by have e:lenF [.str z]=if z.length<=zk then pure (.int z.length)else M.stuck:=rfl;rw[e,if_pos h];exact wp_pure
theorem LH:Wp (nA x y) G Q↔∃k,inB x y G=some k/\Q (.bl (!k)) G:=AD (by unfold nA DJ;cases inB x y G<;>rfl)
theorem KZ:Wp (inD x y) G Q↔∃k,inB x y G=some k/\Q (.bl k) G:=AD (by unfold inD DJ;cases inB x y G<;>rfl)
theorem Bm(e:G[p]? =some (.lst l)):Wp (IG (.ref p)) G R↔R ⟨l,ckO p (.lst l)⟩ G:=cx (σ:= []) e
end
def SK(c:Nat):Bool:=decide (97<=c)&&decide (c<=122)
def LO(z:Str):Bool:=z.cps.toList.all SK
end W
namespace DL
open PySem PySem.Spec L2
open PyProof.Rows hiding St
section
end
section
end
end DL
namespace DL
open PySem PySem.Spec L2 Builtin Builtin.Str
open PyProof.Rows hiding St
section
variable{X:Cx}{Z:XC}{e:Expr}{fa:Fe}{p2 pos:Pos}{lo hi:Option Expr}{fl fh:Fo}
theorem AM(p:IsPart v o):∃l:Option (Int×Tok),v=partValue l/\l.map (·.1)=o:=by
 cases p with
 |none=>exact⟨none,rfl,rfl⟩
 |int i t=>exact⟨some (i,t),rfl,rfl⟩
theorem pZ:SlR X (λx lo hi H Q=>∃z,x= .str z/\z.length<=zk/\Q (.str (ZB z lo hi)) H):=by
 intro pins s σ H x v vl vu lo hi sl Q I rx hs pl pu h;obtain⟨z,rfl,hz,q⟩:=h;obtain⟨t,rfl⟩:=rx;obtain⟨l,el,eml⟩:=AM pl;obtain⟨u,eu,emu⟩:=AM pu;subst el eu eml emu;refine⟨"str",_,PySem.F.slot_str_getitem.lookup,typeIs_str _ z t,?_⟩;refine wpAny_getItem_str_slice (st:=none) (let ⟨o,h1,h2,h3⟩:=hs;⟨o,h1,h2,h3⟩) rfl ?_;unfold sliceMade;unfold ZB at q;unfold slicePicked;have e1:((Option.map (λx:Int×Tok=>x.1) none).getD 1)= (1:Int):=rfl;simp only[e1];by_cases hc:((1:Int)==1&&(strSliceIndices (l.map (·.1)) (u.map (·.1)) 1 z.length).length==z.length)=true
 ·rw[if_pos hc]at q;rw[if_pos hc];exact⟨.str z,H,I,⟨t,rfl⟩,q⟩
 ·rw[if_neg hc]at q;rw[if_neg hc];refine⟨?_,.str _,H,I.tok _,⟨_,rfl⟩,q⟩;have hle:=Txt.slice_le z (l.map (·.1)) (u.map (·.1));unfold ZB at hle;rw[if_neg hc]at hle;exact zQ hle hz
def slT:D->Option Int->Option Int->M D:=λx lo hi=>match x with
 | .str z=>if z.length<=zk then pure (.str (ZB z lo hi))else M.stuck
 | .tup l=>slD (.tup l) lo hi
 | .ref r=>slD (.ref r) lo hi
 |_=>M.stuck
def L6(f:Fe)(lo hi:Fo):Fe:=λσ=>do
 let x <-f σ
 let l <-lo σ
 let h <-hi σ
 slT x l h
theorem mX:SlD X Z slT:=SlR.mono (pZ.or (uZ)) λx lo hi H Q ⟨dx,μ,G,rx,hr,p⟩=>by
 rcases dx with _|_|_|z|l|r|_|_<;>try (exact p.elim;done)
 ·
   unfold slT at p;dsimp only at p;split at p
   ·rename_i hz;exact .inl ⟨z,U1 rx,hz,c7.ok p hr _ (by unfold d7;rfl)⟩
   ·exact p.elim
 ·exact .inr ⟨.tup l,μ,G,rx,hr,p⟩
 ·exact .inr ⟨.ref r,μ,G,rx,hr,p⟩
theorem vc(he:DE X Z e fa)(hl:DOp X Z lo fl)(hu:DOp X Z hi fh):DE X Z (.Subscript e (.Slice lo hi none p2) pos) (L6 fa fl fh):=
 DE.of (MZ mX he.h hl.h hu.h) λσ H Q ki=>ki.elim λX2 μ G s h p=>⟨X2,μ,G,s,h,(c7.bind p).mono λd X0 G1 H1 x1 h1 p1 v rv=>
  ⟨X2,X0,G1,s.mono x1,h1,(c7.bind p1).mono λl WX G2 H2 x2 h2 p2=>⟨X2,WX,G2,s.mono (x1.trans x2),h2,(c7.bind p2).mono λu WN G3 H3 x3 h3 p3=>⟨d,WN,G3,rv.mono (x2.trans x3),h3,p3⟩⟩⟩⟩
end
section
end
end DL
namespace W
open PySem PySem.Spec L2 DL Builtin Builtin.Str
open PyProof.Rows hiding St
section
theorem vE{lo hi:Fo}:Wp (L6 f lo hi σ) G Q↔Wp (f σ) G λx G1=>Wp (lo σ) G1 λl G2=>Wp (hi σ) G2 λh G3=>Wp (slT x l h) G3 Q:=by unfold L6;simp only[d9]
theorem FQ{lo hi:Option Int}(h:z.length<=zk):Wp (slT (.str z) lo hi) G Q↔Q (.str (ZB z lo hi)) G:=by have e:slT (.str z) lo hi=if z.length<=zk then pure (.str (ZB z lo hi))else M.stuck:=rfl;rw[e,if_pos h];exact wp_pure
end
end W
namespace DL
open PySem PySem.Spec L2
open PyProof.Rows hiding St
def A3:D->D->M D:=λx y=>match y with
 | .non=>pure (.bl (lJ x))
 | .bl c=>match x with
   | .bl d=>pure (.bl (d==c))
   |_=>M.stuck
 |_=>M.stuck
def F8:D->D->M D:=λx y=>match y with
 | .non=>pure (.bl (!lJ x))
 | .bl c=>match x with
   | .bl d=>pure (.bl (d != c))
   |_=>M.stuck
 |_=>M.stuck
def LG(a b:Fe):Fe:=λσ=>do
 let x <-a σ
 if <-W9 x then pure x else b σ
def B4(a b:Fe):Fe:=λσ=>do
 let x <-a σ
 if <-W9 x then b σ else pure x
section
theorem eY:OpR X (zZ .Is) (λx y H Q=>(y= .non/\Q (.bl (decide (x= .non))) H)\/∃c d,x= .bl c/\y= .bl d/\Q (.bl (c==d)) H):=by
 intro pins s σ H x y v u Q I rx ry h;rcases h with h|⟨c,d,rfl,rfl,q⟩
 ·exact Hw pins s σ H x y v u Q I rx ry h
 · cases rx
   cases ry
   exact is_bool ⟨.bl (c==d),H,I,rfl,q⟩
theorem Bk:OpR X (zZ .IsNot) (λx y H Q=>(y= .non/\Q (.bl (!decide (x= .non))) H)\/∃c d,x= .bl c/\y= .bl d/\Q (.bl (c != d)) H):=by
 intro pins s σ H x y v u Q I rx ry h;rcases h with h|⟨c,d,rfl,rfl,q⟩
 ·exact OW pins s σ H x y v u Q I rx ry h
 · cases rx
   cases ry
   exact isnot_bool ⟨.bl (c != d),H,I,rfl,q⟩
theorem Rb:OpD X Z (zZ .Is) A3:=OpD.of eY λx y H Q ki=>ki.elim λdx dy μ G mh mq hr p=>by
 rcases dy with _|d|_|_|_|_|_|_<;>try (exact p.elim;done)
 ·exact .inl ⟨OD mq,by rw[UO mh];exact c7.ok p hr _ ofB⟩
 ·
   rcases dx with _|c|_|_|_|_|_|_<;>try (exact p.elim;done)
   ·exact .inr ⟨c,d,D7 mh,D7 mq,c7.ok p hr _ ofB⟩
theorem kg:OpD X Z (zZ .IsNot) F8:=OpD.of Bk λx y H Q ki=>ki.elim λdx dy μ G mh mq hr p=>by
 rcases dy with _|d|_|_|_|_|_|_<;>try (exact p.elim;done)
 ·exact .inl ⟨OD mq,by rw[UO mh];exact c7.ok p hr _ ofB⟩
 ·
   rcases dx with _|c|_|_|_|_|_|_<;>try (exact p.elim;done)
   ·exact .inr ⟨c,d,D7 mh,D7 mq,c7.ok p hr _ ofB⟩
theorem kO{G:DH}{d:D}{v:V}{f:Bool->M α}{K:α->List Addr->DH->Hp->Prop}(h:m6 (wc X) μ G H)(rv:d7 (wc X) μ H d v)(p:c7 (wc X) Z μ H ((W9 d >>= f) G) K):
 ∃k,bI X.K v H k/\c7 (wc X) Z μ H (f k G) K:=by
 have p1:=c7.bind p;rcases d with _|b|b|y|l|r|_|_<;>try (exact p1.elim;done)
 ·rw[OD rv];exact⟨false,rfl,c7.ok p1 h⟩
 ·rw[D7 rv];exact⟨b,rfl,c7.ok p1 h⟩
 ·rw[U3 rv];exact⟨_,rfl,c7.ok p1 h⟩
 ·
   rw[U1 rv];unfold W9 at p1;dsimp only at p1;split at p1
   ·rename_i hz;exact⟨_,⟨hz,rfl⟩,c7.ok p1 h⟩
   ·exact p1.elim
 ·
   unfold d7 at rv;obtain⟨a,vs,rfl,q,rl⟩:=rv;exact⟨!vs.isEmpty,.inr (.inl ⟨vs,q,rfl⟩),by rw[Z4 rl];exact c7.ok p1 h⟩
 ·
   unfold d7 at rv;obtain⟨a,m,rfl⟩:=rv;obtain⟨o,g,p2⟩:=G9 p1;have ro:=h.obj r o a g m;rcases o with l|l|l|l
   ·obtain⟨vs,q,rl⟩:=ro;exact⟨!vs.isEmpty,.inl ⟨vs,SqL.of q,rfl⟩,by rw[Z4 rl];exact c7.ok p2 h⟩
   ·obtain⟨vs,q,rl⟩:=ro;exact⟨!vs.isEmpty,.inl ⟨vs,q.sq,rfl⟩,by rw[Z4 rl];exact c7.ok p2 h⟩
   ·obtain⟨vs,q,rl⟩:=ro;exact⟨!vs.isEmpty,.inr (.inr ⟨vs,q,rfl⟩),by rw[uQ rl];exact c7.ok p2 h⟩
   ·exact p2.elim
theorem wz{rest:List Expr}(ha:DE X Z a fa)(hb:DE X Z (.BoolOp .Or (b::rest) pos) fb):DE X Z (.BoolOp .Or (a::b::rest) pos) (LG fa fb):=by
 refine⟨?_⟩;intro pins s σ H Q I ki;refine ki.elim λX2 μ G sr h p=>?_;refine BoolOp_or (thn (ha.h pins s σ H _ I ⟨X2,μ,G,sr,h,(c7.bind p).mono λd X0 G1 H1 x1 h1 p1 v rv=>(⟨d,X0,G1,x1,rv,h1,p1⟩:∃d X0 G1,Ext μ H X0 H1/\d7 (wc X) X0 H1 d v/\m6 (wc X) X0 G1 H1/\c7 (wc X) Z X0 H1 ((W9 d >>= λk=>if k=true then pure d else fb X2) G1) λd X9 _ H'=>∀v,d7 (wc X) X9 H' d v->Q v H')⟩) λv s1 ⟨x,H1,I1,r1,d,X0,G1,x1,rd,h1,p1⟩=>?_);obtain⟨k,tk,p2⟩:=kO h1 rd p1;refine thn (IH pins s1 σ H1 x v (λc H'=>c=k/\H'=H1) I1 r1 ⟨k,tk,rfl,rfl⟩) λc s2 ⟨H2,I2,e1,e2⟩=>?_;subst e1 e2;rcases c with _|_
 ·exact hb.h pins s2 σ H2 Q I2 ⟨X2,X0,G1,sr.mono x1,h1,p2⟩
 ·exact⟨x,H2,I2,r1,c7.ok p2 h1 _ rd⟩
theorem UR{rest:List Expr}(ha:DE X Z a fa)(hb:DE X Z (.BoolOp .And (b::rest) pos) fb):DE X Z (.BoolOp .And (a::b::rest) pos) (B4 fa fb):=by
 refine⟨?_⟩;intro pins s σ H Q I ki;refine ki.elim λX2 μ G sr h p=>?_;refine BoolOp_and (thn (ha.h pins s σ H _ I ⟨X2,μ,G,sr,h,(c7.bind p).mono λd X0 G1 H1 x1 h1 p1 v rv=>(⟨d,X0,G1,x1,rv,h1,p1⟩:∃d X0 G1,Ext μ H X0 H1/\d7 (wc X) X0 H1 d v/\m6 (wc X) X0 G1 H1/\c7 (wc X) Z X0 H1 ((W9 d >>= λk=>if k=true then fb X2 else pure d) G1) λd X9 _ H'=>∀v,d7 (wc X) X9 H' d v->Q v H')⟩) λv s1 ⟨x,H1,I1,r1,d,X0,G1,x1,rd,h1,p1⟩=>?_);obtain⟨k,tk,p2⟩:=kO h1 rd p1;refine thn (IH pins s1 σ H1 x v (λc H'=>c=k/\H'=H1) I1 r1 ⟨k,tk,rfl,rfl⟩) λc s2 ⟨H2,I2,e1,e2⟩=>?_;subst e1 e2;rcases c with _|_
 ·exact⟨x,H2,I2,r1,c7.ok p2 h1 _ rd⟩
 ·exact hb.h pins s2 σ H2 Q I2 ⟨X2,X0,G1,sr.mono x1,h1,p2⟩
end
end DL
namespace W
open PySem PySem.Spec L2 DL
open PyProof.Rows hiding St
section
theorem sQ:Wp (LG a b σ) G Q↔Wp (a σ) G λx G1=>Wp (W9 x) G1 λk G2=>if k=true then Q x G2 else Wp (b σ) G2 Q:=by unfold LG;simp only[d9,y8,wp_pure]
theorem cm:Wp (B4 a b σ) G Q↔Wp (a σ) G λx G1=>Wp (W9 x) G1 λk G2=>if k=true then Wp (b σ) G2 Q else Q x G2:=by unfold B4;simp only[d9,y8,wp_pure]
end
end W
namespace DL
open PySem PySem.Spec L2
open PyProof.Rows hiding St
structure lA(F:List D->M D)(n:Nat)(x:Str)(P:zS)(w:jg)(K:zj)(mg:Str->Option zh)(base:Heap)(k:Nat):Prop where
 ex:∃f fd ps,E2 P w K mg base CX0 k f fd ps (spD ⟨K,mg⟩ n F)/\mg x=some (.ref f)/\yM K (.ref f)=true/\A4 K fd ps []
theorem lA.of{P:zS}{w:jg}{K:zj}{base:Heap}{k n:Nat}{x:Str}{st:Stmt}{f:Addr}(c:FF K mg x st ps f fd)(h:E2 P w K mg base CX0 k f fd ps (spD ⟨K,mg⟩ n F)):lA F n x P w K mg base k:=
 ⟨f,fd,ps,h,c.m,c.F.kp,c.b⟩
def bltL:List Str:= ["len", "isinstance", "all", "any", "sum", "min", "max", "abs", "sorted", "tuple", "list", "int", "str", "bool", "dict", "zip", "enumerate", "range", "reversed", "set"]
structure BLs(mg:Str->Option zh):Prop where
 h:∀b∈bltL,mg b=none
theorem HC:(xw p l).any (·.1)=l.any (·.1):=by unfold xw;rw[List.any_map];rfl
theorem cC:∀ {es},es.all S5=true->(zX es env).any (·.1)=false
 |[],_=>rfl
 |e::es,h=>by rw[jL,jI]at h;rw[l6 h.1,jj,cC h.2];rfl
section
theorem MS(hN:∃N ps sc,V2 N ps sc/\X.N=N)(hi:X.N[i]? =some x)(hx:Loc X.env.scope x)(hf:X.fn x=true\/X.env.scope.names.lookup x=some .local):DG X Z (.Name x pos) (D3 i):=by obtain⟨N,ps,sc,S,e⟩:=hN;exact bR (by rw[e];exact S.nd) hi hx hf
theorem Cf(ha:DE X Z e fa)(hr:DA X Z es fs)(hs:S5 e=true):DA X Z (e::es) (B0 fa fs):=mH ha hr (l6 hs)
theorem Tf(hF:∃k kk,lA F n x X.prog X.w X.K X.mg X.base k/\O3 kk X.A/\k<=kk)(hg:Gl X x)(ha:DA X Z (e::es) fs)(hdb:(x==("__debug__" :Str))=false)(hs:(e::es).all S5=true):
 DE X Z (.Call (.Name x p) (e::es) [] pos) (P2 (fnX n F) fs):=by
 obtain⟨k,kk,hF,hr,hk⟩:=hF;obtain⟨f,fd,ps,h1,h2,h3,h4⟩:=hF.ex;rw[jL,jI]at hs;exact vm h1 (hr.mono hk) hg h2 h3 h4 ha hdb (l6 hs.1) (by rw[HC];exact cC hs.2)
structure BD(F:List D->M D)(x:Str)(X:Cx)(Z:XC):Prop where
 ex:(∃id,O8 X Z (.builtin id) F/\je x=some (.builtin id))\/(∃T,O8 X Z (.type T) F/\je x=some (.type T))
theorem Pq(hc:X.calm=true)(hF:X.calm=true->BD F x X Z)(hb:BLs X.mg)(hx:bltL.elem x=true)(hg:Gl X x)(ha:DA X Z (e::es) fs)(hn:x≠ "__name__")(hdb:(x==("__debug__" :Str))=false)(hs:(e::es).all S5=true):
 DE X Z (.Call (.Name x p) (e::es) [] pos) (P2 F fs):=by
 have hm:=hb.h x (List.elem_iff.mp hx);rw[jL,jI]at hs;rcases (hF hc).ex with⟨id,h1,h2⟩|⟨T,h1,h2⟩
 ·exact Sx h1 hg hm h2 ha hn hdb (l6 hs.1) (by rw[HC];exact cC hs.2)
 ·exact Cw h1 hg hm h2 ha hn hdb (l6 hs.1) (by rw[HC];exact cC hs.2)
theorem fW(_:X.calm=true):BD lenF "len" X Z:=⟨.inl ⟨_,QZ,gz⟩⟩
theorem GX(_:X.calm=true):BD O1 "isinstance" X Z:=⟨.inl ⟨_,Tc,AZ⟩⟩
theorem LX(h:X.calm=true):BD B5 "any" X Z:=⟨.inl ⟨_,Dh h,Lb⟩⟩
theorem BU(h:X.calm=true):BD bB "min" X Z:=⟨.inl ⟨_,Sg h,mU⟩⟩
theorem Lz(h:X.calm=true):BD bC "max" X Z:=⟨.inl ⟨_,rV h,OU⟩⟩
theorem iU(_:X.calm=true):BD TB "abs" X Z:=⟨.inl ⟨_,Fx,Cj⟩⟩
theorem gT(_:X.calm=true):BD V8 "tuple" X Z:=⟨.inr ⟨_,dq,IT⟩⟩
theorem oS(_:X.calm=true):BD eA "list" X Z:=⟨.inr ⟨_,hX,Gc⟩⟩
theorem Dz:∀n∈ ["int", "bool", "str", "tuple", "list", "dict"],je (jq n)=some (.type n):=by decide +kernel
theorem aj(hb:BLs X.mg)(hn:n∈ ["int", "bool", "str", "tuple", "list", "dict"])(hx:bltL.elem (jq n)=true)(hg:Gl X (jq n))(hnn:jq n≠ "__name__")(hd:(jq n==("__debug__" :Str))=false):DE X Z (.Name (jq n) pos) (cE (.ty n)):=
 Kw hg (hb.h _ (List.elem_iff.mp hx)) (Dz n hn) hnn hd
theorem bU(hb:BLs X.mg)(hg:Gl X "range")(ha:DA X Z [a] fs)(hs:S5 a=true):DI X Z tg (.Call (.Name "range" p) [a] [] pos) (A7 fs):=MY hg (hb.h _ (by decide +kernel)) ha (gB hs)
theorem Df(hb:BLs X.mg)(hg:Gl X "zip")(ha:DA X Z [a,b] fs)(hs:S5 a=true)(hs2:S5 b=true):DI X Z (.Tuple es1 x1 tp) (.Call (.Name "zip" p) [a,b] [] pos) (x9 fs):=hV hg (hb.h _ (by decide +kernel)) ha (lU hs hs2) (gB hs2) wv
def D5(sc:Scope):List Str:=(sc.names.filterMap λy=>if y.2 == .local&&y.1 != (".0" :Str)then some y.1 else none)++(sc.names.filterMap λy=>if y.2 == .free then some y.1 else none)
theorem Th(hc:X.calm=true)(hi:DI X Z tg iter it)(k:∃XN ps osc,V2 XN ps osc/\X.env.scope=osc/\X.N=XN/\MG osc scope (D5 scope) XN caps=true)(nd:(D5 scope).Nodup)
 (hg:(D5 scope).Nodup->∀C s H ex,DG (N5 X scope (D5 scope) C s H ex) ZF tg gg) (ht:∀C s H ex,DTs (N5 X scope (D5 scope) C s H ex) ZF ifs tt) (he:∀C s H ex,DE (N5 X scope (D5 scope) C s H ex) ZF elt fe)
 (hf:∀x,xa iter X.env x=pure x):DE X Z (.ListComp elt [⟨tg,iter,ifs,0⟩] scope pos) (O4 it caps gg tt fe):=let ⟨_,_,_,_,hs,hN,k⟩:=k;Tk hc hi (Z3.of k hs hN) (hg nd) ht he hf
theorem vp(hc:X.calm=true)(hi:DI X Z tg iter it)(k:∃XN ps osc,V2 XN ps osc/\X.env.scope=osc/\X.N=XN/\MG osc scope (D5 scope) XN caps=true)(nd:(D5 scope).Nodup)
 (hg:(D5 scope).Nodup->∀C s H ex,DG (N5 X scope (D5 scope) C s H ex) ZF tg gg) (ht:∀C s H ex,DTs (N5 X scope (D5 scope) C s H ex) ZF ifs tt) (he:∀C s H ex,DE (N5 X scope (D5 scope) C s H ex) ZF elt fe)
 (hf:∀x,xa iter X.env x=pure x) (hgo:DG X Z (.Name y py) g2) (hsw:swapsWith (.ListComp elt [⟨tg,iter,ifs,0⟩] scope pos) (some (.Name y py)) spos.line X.env=pure true):
 DS X Z (.Assign [.Name y py] (.ListComp elt [⟨tg,iter,ifs,0⟩] scope pos) spos) (v7 (O4 it caps gg tt fe) g2):=let ⟨_,_,_,_,hs,hN,k⟩:=k;Qd hc hi (Z3.of k hs hN) (hg nd) ht he hf hgo hsw
end
section
end
end DL
namespace W
open PySem PySem.Spec L2 DL
open PyProof.Rows hiding St
section
end
end W
namespace DL
open PySem PySem.Spec L2
open PyProof.Rows hiding St
def Itd(a:Addr)(o:Obj)(iz:List (Key×V)):It:=
 ⟨λi H=>H a=some (.frz o (.dK iz))/\∃kv,iz[i]? =some kv,λi H x H'=>H'=H/\∃kv,iz[i]? =some kv/\x=kV kv.1,λi H=>H a=some (.frz o (.dK iz))/\iz.length<=i⟩
theorem eR:∀ {iz} {vs} {i:Nat} {kv:κ×V},KV iz vs->iz[i]? =some kv->∃v,vs[i]? =some (kv.1,v)
 |_,_,_,_,.nil,e=>by simp at e
 |_,_,0,_,.cons h t,e=>by simp only[zH,zP]at e;subst e;exact⟨_,by rw[zH,h.1]⟩
 |_,_,i+1,_,.cons h t,e=>by simp only[zU]at e ⊢;exact eR t e
theorem vf(h:(u5 P w).is k u=true):t6 (kV k) u:=by
 rcases J0 h with⟨i,t,rfl,rfl⟩|⟨x,t,rfl,rfl⟩
 ·exact⟨t,rfl⟩
 ·exact⟨t,rfl⟩
theorem dR(I:Inv X pins σ H s)(ho:o.data= .dict es ep)(e:H a=some (.frz o (.dK iz))):
 (a==xu)=false/\∃vs,KV iz vs/\s.heap.DictAt (u5 X.prog X.w) a vs ep:=by
 obtain⟨hget,hz,hS,vs,r,m⟩:=(show N7 X.prog X.w H s.heap a (.frz o (.dK iz))from I.hok a _ e);obtain⟨ep',dat⟩:=m.dictAt;have hep:ep'=ep:=by
  obtain⟨o',oh,h1,_,h3,_⟩:=id dat;rw[hget]at h1
  cases h1
  rw[ho]at h3
  cases h3
  rfl
 subst hep;exact⟨hS,vs,r,dat⟩
theorem qM{P:zS}{w:jg}{K:zj}{tg:Expr}{a:Addr}{o:Obj}{ep:Nat}(ho:o.data= .dict es ep)(it:Addr):u8 P w K tg (Itd a o iz) [it] it (λi h=>h.IsKeyIter it a i iz.length ep) where
 mem:=by simp
 obj:=λi h st b hb=>by
  have e:b=it:=by simpa using hb
  subst e;obtain⟨o,e,c,d⟩:=st;exact⟨o,e,λv z=>by rw[d]at z;cases z⟩
 keep:=λi h h' st k=>let ⟨o,ho,r⟩:=st;⟨o,k it (by simp) o ho,r⟩
 item:=by intro X hP hw hK hc i pins s σ H E I hf st hg;subst hP hw hK;obtain⟨hfr,kv,hx⟩:=hg;obtain⟨f0,f1,f2,f3,f4,f5⟩:=hf it (by simp);obtain⟨hS,vs,rel,dat⟩:=dR I ho hfr;obtain⟨v,hv⟩:=eR rel hx;have kl:iz.length=vs.length:=xl rel;rw[kl]at st;refine wpAny_pyNext_dict_item st dat hv λkey h' hk ma sb=>?_;have I1:Inv X pins σ H {s with heap:=h'}:=I.turned (λb o hb e=>(sb.2 b hb).trans e) f0 f1 f3 f4 f5;obtain⟨o',e,cc,d⟩:=id ma;refine⟨_,rfl,qB e cc d (by decide) ⟨kV kv.1,H,I1,vf hk,⟨rfl,kv,hx,rfl⟩,by rw[kl];exact ma,λb hb=>(hf b hb).1⟩⟩
 done:=by intro X hP hw hK hc i pins s σ H E I hf st hg;subst hP hw hK;obtain⟨hfr,hi⟩:=hg;obtain⟨f0,f1,f2,f3,f4,f5⟩:=hf it (by simp);obtain⟨hS,vs,rel,dat⟩:=dR I ho hfr;have kl:iz.length=vs.length:=xl rel;rw[kl]at st hi;exact wpAny_pyNext_dict_end (I.ok.hd hc) st dat (jf hi) λh' eb=>⟨rfl,I.turned (λb o hb e=>eb b o hb e) f0 f1 f3 f4 f5⟩
 self:=λ_ _ _ _ _ st h=>wpAny_pyIter_keyiter st h
theorem m6.setR(h:m6 c μ G H)(g:G[i]? =some o)(n:¬L4 (some o))(m:μ[i]? =some a)(k:Ext μ H μ (upd H a u))(ho:l7 c μ (upd H a u) a o'):m6 c μ (G.set i o') (upd H a u):=by
 have hi:i<G.length:=lt_of_get g;have get:∀j,(G.set i o')[j]? =if i=j then some o' else G[j]? :=λj=>by
  rw[Xt];by_cases e:i=j
  ·subst e;simp[hi]
  ·simp[e]
 refine⟨by simp[h.len],λj l b ej el=>?_,λj o2 b gj mj=>?_⟩
 · rcases h.inj j l b ej el with e|e|e
   ·exact .inl e
   · by_cases ij:i=j
     ·subst ij;rw[g]at e;exact(n e).elim
     ·right;left;rw[get,if_neg ij];exact e
   · by_cases ij:i=l
     ·subst ij;rw[g]at e;exact(n e).elim
     ·right;right;rw[get,if_neg ij];exact e
 · rw[get]at gj;by_cases ij:i=j
   · subst ij;rw[if_pos rfl]at gj
     cases gj
     rw[m]at mj
     cases mj
     exact ho
   · rw[if_neg ij]at gj;have q:=h.obj j o2 b gj mj;by_cases hr:L4 (some o2)
     ·exact q.mono k (.inr hr)
     · have nb:b≠a:=λe=>by
        subst e;rcases h.inj i j b m mj with e|e|e
        ·exact ij e
        ·rw[g]at e;exact n e
        ·rw[gj]at e;exact hr e
       exact q.mono k (.inl (m8 nb))
section
theorem Inv.freeze(I:Inv X pins σ H s)(e:H a=some (.dK iz))(ho:s.heap.get? a=some o):Inv X pins σ (upd H a (.frz o (.dK iz))) s:=by have q:N7 X.prog X.w H s.heap a (.dK iz):=I.hok a _ e;exact I.write (by rw[e];exact trivial) (.inl rfl) (λb u _ z=>z) ⟨o,ho⟩ ⟨ho,q⟩
def iW(K:zj)(tl:TE):TI:=λσ H R=>tl σ H λx H1=>((∃z,x= .str z/\R (Its z) H1)\/(∃k a xs,x= .ref a/\Sq K k H1 a xs/\R (if k=true then Itt K a else Itl K a) H1))\/
 (∃a iz,x= .ref a/\H1 a=some (.dK iz)/\∀o,R (Itd a o iz) (upd H1 a (.frz o (.dK iz))))\/(∃a o iz,x= .ref a/\H1 a=some (.frz o (.dK iz))/\R (Itd a o iz) H1)
theorem Gf(hl:PE X e tl):PI X tg e (iW X.K tl):=by
 intro pins s σ H R I h;refine thn (hl pins s σ H _ I h) λv s1 lu=>lu.elim λx H1 I1 r1 q1=>?_;have fpo:∀b∈ [s1.heap.objs.size],B1 X pins H1 b:=λb hb=>by
  have z:b=s1.heap.objs.size:=by simpa using hb
  subst z;exact I1.fpOk (zg _) (I1.hok.fresh (zg _))
 rcases q1 with(⟨z,rfl,q⟩|⟨k,a,xs,rfl,hq,q⟩)|⟨a,iz,rfl,hq,q⟩|⟨a,o,iz,rfl,hq,q⟩
 · obtain⟨t,rfl⟩:=(show ∃t,v=Value.str z t from r1);refine wpAny_pyIter_strU ?_;have I2:Inv X pins σ H1 {s1 with heap:=s1.heap.push {cls:=.type (Zu z),data:=.fields #[.str z t,.int 0 0]}}:=I1.kept λb o z=>zc _ z;have hg:(s1.heap.push {cls:=.type (Zu z),data:=.fields #[.str z t,.int 0 0]}).get? s1.heap.objs.size=some {cls:=.type (Zu z),data:=.fields #[.str z t,.int 0 0]}:=zp _ rfl;by_cases ha:z.cps.all (· < 128)=true
   · have e:Zu z= "str_ascii_iterator":=by unfold Zu;rw[if_pos ha]
     refine⟨s1.heap.objs.size, [s1.heap.objs.size],_,_,H1,rfl,I2,mV z t _,?_,fpo,q⟩;rw[e]at hg ⊢;exact⟨_,hg,rfl,rfl⟩
   · have e:Zu z= "str_iterator":=by unfold Zu;rw[if_neg ha]
     refine⟨s1.heap.objs.size, [s1.heap.objs.size],_,_,H1,rfl,I2,cu z t _,?_,fpo,q⟩;rw[e]at hg ⊢;exact⟨_,hg,rfl,rfl⟩
 · cases r1
   rcases k with _|_
   ·
     obtain⟨ka,rv,p,hz⟩:=I1.list hq;exact Zf p.isList ⟨s1.heap.objs.size, [s1.heap.objs.size],_,_,H1,rfl,I1.kept λb o z=>zc _ z,Gk a _,⟨_,zp _ rfl,rfl,rfl⟩,fpo,q⟩
   ·
     obtain⟨ka,rv,p,hz⟩:=I1.tuple hq;exact wpAny_pyIter_tuple (show s1.heap.IsTuple a ka.toArray from p) ⟨s1.heap.objs.size, [s1.heap.objs.size],_,_,H1,rfl,I1.kept λb o z=>zc _ z,ak a _,⟨_,zp _ rfl,rfl,rfl⟩,fpo,q⟩
 · cases r1
   obtain⟨hz,hS,vs,rel,dd⟩:=ID I1.hok hq;obtain⟨ep,dat⟩:=dd.dictAt;obtain⟨o,es,h1,h2,h3,h4⟩:=id dat;have kl:iz.length=vs.length:=xl rel;have I2:=DL.Inv.freeze I1 hq h1;have fpo2:∀b∈ [s1.heap.objs.size],B1 X pins (upd H1 a (.frz o (.dK iz))) b:=λb hb=>by
    have z:b=s1.heap.objs.size:=by simpa using hb
    subst z;exact I2.fpOk (zg _) (I2.hok.fresh (zg _))
   refine wpAny_pyIter_dict hS dat ⟨s1.heap.objs.size, [s1.heap.objs.size],_,_,upd H1 a (.frz o (.dK iz)),rfl,I2.kept λb o z=>zc _ z,qM h3 _,?_,fpo2,q o⟩;rw[kl];exact⟨_,zp _ rfl,rfl,rfl⟩
 · cases r1
   obtain⟨hget,hz,hS,vs,rel,dd⟩:=(show N7 X.prog X.w H1 s1.heap a (.frz o (.dK iz))from I1.hok a _ hq);obtain⟨ep,dat⟩:=dd.dictAt;obtain⟨o',es,h1,h2,h3,h4⟩:=id dat;rw[hget]at h1
   cases h1
   have kl:iz.length=vs.length:=xl rel;refine wpAny_pyIter_dict hS dat ⟨s1.heap.objs.size, [s1.heap.objs.size],_,_,H1,rfl,I1.kept λb o z=>zc _ z,qM h3 _,?_,fpo,q⟩;rw[kl];exact⟨_,zp _ rfl,rfl,rfl⟩
def VJ:Key->D
 | .inl i=>.int i
 | .inr x=>.str x
def cD(l:List (Key×D)):List D:=l.map λkv=>VJ kv.1
def oE:D->M Src:=λx=>match x with
 | .ref r=>do
   match <-K4 r with
   | .dct l=>do
     let _ <-B6 r (.rod l)
     pure ⟨cD l,λ_=>true⟩
   | .rod l=>pure ⟨cD l,λ_=>true⟩
   |_=>IG (.ref r)
 |d=>IG d
def itW(f:Fe):DSt->M Src:=λσ=>do oE (<-f σ)
theorem gJ{v:V}{R:It->Hp->Prop}(h1:m6 (wc X) X0 G1 H1)(rv:d7 (wc X) X0 H1 d v)(p1:c7 (wc X) Z X0 H1 (IG d G1) λs X9 _ H'=>∀J,ItD (wc X) X9 H' J s->R J H'):
 (∃z,v= .str z/\R (Its z) H1)\/(∃k a xs,v= .ref a/\Sq X.K k H1 a xs/\R (if k=true then Itt X.K a else Itl X.K a) H1):=by
 have main:∀dd:D,(∀z,dd≠ .str z)->d7 (wc X) X0 H1 dd v->c7 (wc X) Z X0 H1 (L5 dd G1) (λs X9 _ H'=>∀J,ItD (wc X) X9 H' J s->R J H')->(∃z,v= .str z/\R (Its z) H1)\/(∃k a xs,v= .ref a/\Sq X.K k H1 a xs/\R (if k=true then Itt X.K a else Itl X.K a) H1):=by
  intro dd _ rv p1;have p1':c7 (wc X) Z X0 H1 ((L5 dd >>= λs=>(pure s:M Src)) G1) λs X9 _ H'=>∀J,ItD (wc X) X9 H' J s->R J H':=by
   have e:(L5 dd >>= λs=>(pure s:M Src))=L5 dd:=by
    funext G;rw[M.bind_eq];rcases L5 dd G with _|q
    ·rfl
    ·obtain⟨r,G'⟩:=q;cases r<;>rfl
   rw[e];exact p1
  obtain⟨sr,k,a,vs,rfl,q,rl,is,ck,_,p2⟩:=aI h1 rv p1';refine .inr ⟨k,a,vs,rfl,q,c7.ok p2 h1 _ λX9 G' H' x' h' ck' i=>?_⟩;obtain⟨mv,q',mf⟩:=is X9 G' H' x' h' ck';refine⟨λd hd=>?_,λhi=>?_⟩
  · obtain⟨y,hy,ry⟩:=mf.get hd
    cases k with
    |true=>
      rw[if_pos rfl];exact⟨⟨mv,y,q',hy⟩,λx H2 ⟨e1,e2⟩=>by subst e1;exact⟨Ext.refl _ _,h',nP mf hd (e2 mv q')⟩⟩
    |false=>
      rw[if_neg zN];exact⟨⟨mv,y,q',hy⟩,λx H2 ⟨e1,e2⟩=>by subst e1;exact⟨Ext.refl _ _,h',nP mf hd (e2 mv q')⟩⟩
  · cases k with
    |true=>rw[if_pos rfl];exact⟨mv,q',by rw[<-mf.length];exact hi⟩
    |false=>rw[if_neg zN];exact⟨mv,q',by rw[<-mf.length];exact hi⟩
 cases d with
 |str z=>
   refine .inl ⟨z,U1 rv,c7.ok p1 h1 _ λX9 G' H' x' h' ck' i=>⟨λd hd=>?_,λhi=>?_⟩⟩
   · simp only[RJ,jp]at hd
     cases hc:z.cps.toList[i]? with
     |none=>rw[hc]at hd;cases hd
     |some c=>
       rw[hc]at hd
       cases hd
       have hc':z.cps[i]? =some c:=by rw[<-zL];exact hc
       exact⟨⟨c,hc'⟩,λx H2 ⟨e1,c2,e2,e3⟩=>by
        subst e1;rw[hc']at e2
        cases e2
        exact⟨Ext.refl _ _,h',by rw[e3];unfold d7;rfl⟩⟩
   ·simp only[RJ,zf]at hi;show z.cps[i]? =none;rw[<-zL];exact jf hi
 |tup l=>exact main (.tup l) (λz q=>nomatch q) rv p1
 |ref r=>exact main (.ref r) (λz q=>nomatch q) rv p1
 |_=>exact p1.elim
theorem pP{H:Hp}:∀ {l} {iz} {i:Nat} {kd},S8 c μ H l iz->l[i]? =some kd->∃v,iz[i]? =some (kd.1,v)
 |[],_,_,_,_,e=>by simp at e
 |(k,d)::r,_,0,_,h,e=>by obtain⟨v,t,rfl,_,_⟩:=h;simp only[zH,zP]at e;subst e;exact⟨v,rfl⟩
 |(k,d)::r,_,i+1,_,h,e=>by obtain⟨v,t,rfl,_,ht⟩:=h;simp only[zU]at e ⊢;exact pP ht e
theorem Rk(k:Key):d7 c μ H (VJ k) (kV k):=by
 cases k<;>(unfold VJ d7;rfl)
theorem MO{c:Wc}{H:Hp}(e:H a=some (.frz o (.dK iz)))(rk:S8 c μ H l iz):ItD c μ H (Itd a o iz) ⟨cD l,λ_=>true⟩:=by
 intro X9 G' H' x h' _ i;have e':=x.frz _ _ _ e;refine⟨λd hd=>?_,λhi=>⟨e',by rw[<-rk.length];simpa [cD]using hi⟩⟩;simp only[cD,jp]at hd
 cases hl:l[i]? with
 |none=>rw[hl]at hd;cases hd
 |some kd=>
   rw[hl]at hd
   cases hd
   obtain⟨v,hv⟩:=pP rk hl;exact⟨⟨e',_,hv⟩,λy H2 ⟨e1,kv,e2,e3⟩=>by
    subst e1;rw[hv]at e2
    cases e2
    exact⟨Ext.refl _ _,h',by rw[e3];exact Rk _⟩⟩
theorem pT(he:DE X Z e f):DI X Z tg e (itW f):=
 DI.of (Gf he.h) λσ H R ki=>ki.elim λX2 μ G s h p=>⟨X2,μ,G,s,h,(c7.bind p).mono λd X0 G1 H1 x1 h1 p1 v rv=>by
  cases d with
  |ref r=>
    have rv':=rv;unfold d7 at rv';obtain⟨a,m,rfl⟩:=rv';obtain⟨o,g,p2⟩:=G9 p1;have ro:=h1.obj r o a g m;rcases o with l|l|l|l
    ·exact .inl (gJ h1 rv p2)
    ·exact .inl (gJ h1 rv p2)
    ·
      obtain⟨iz,q,rk⟩:=ro;refine .inr (.inl ⟨a,iz,rfl,q,λo=>?_⟩);have x:Ext X0 H1 X0 (upd H1 a (.frz o (.dK iz))):=Ext.mut (jB m) q (λ_ z=>nomatch z) (λ_ _ z=>nomatch z) _;have oj:=rk.mono x;have h2:m6 (wc X) X0 (G1.set r (.rod l)) (upd H1 a (.frz o (.dK iz))):=h1.setR g (λz=>z) m x ⟨iz,o,w5,oj⟩;have p3:=c7.from p2 x;exact c7.ok p3 h2 _ (MO w5 oj)
    ·
      obtain⟨iz,o,q,rk⟩:=ro;exact .inr (.inr ⟨a,o,iz,rfl,q,c7.ok p2 h1 _ (MO q rk)⟩)
  |_=>exact .inl (gJ h1 rv p1)⟩
end
end DL
namespace W
open PySem PySem.Spec L2 DL
open PyProof.Rows hiding St
section
theorem wp_itW:Wp (itW f σ) G R↔Wp (f σ) G λx G1=>Wp (oE x) G1 R:=by unfold itW;simp only[d9]
theorem srcW_tup:Wp (oE (.tup l)) G R↔R ⟨l,λ_=>true⟩ G:=wp_pure
theorem W7(e:G[p]? =some (.lst l)):Wp (oE (.ref p)) G R↔R ⟨l,ckO p (.lst l)⟩ G:=by unfold oE;simp only[d9,M6,e,S6];exact Bm e
end
end W
namespace DL
open PySem PySem.Spec L2
open PyProof.Rows hiding St
section
end
section
theorem CI:∀ {l} {ss} {vs} {us},uA l=some ss->j9 c μ H l vs->m9 vs us->StrsAre us ss
 |[],_,_,_,e,r,v=>by cases e;cases r;cases v;exact .nil
 | .str x::t,ss,_,_,e,r,v=>by
   replace e:=show (uA t).map (_ :: ·)=some _ from e;rcases h:uA t with _|q
   ·rw[h]at e;exact v6 e
   ·
     rw[h]at e
     cases e
     obtain⟨v0,tl,rfl,r0,rt⟩:=r
     cases v with
     |cons ru rt2=>
       rw[U1 r0]at ru;obtain⟨tk,rfl⟩:=ru;exact .cons _ _ (CI h rt rt2)
 | .non::_,_,_,_,e,_,_=>by exact v6 e
 | .bl _::_,_,_,_,e,_,_=>by exact v6 e
 | .int _::_,_,_,_,e,_,_=>by exact v6 e
 | .tup _::_,_,_,_,e,_,_=>by exact v6 e
 | .ref _::_,_,_,_,e,_,_=>by exact v6 e
 | .fn _::_,_,_,_,e,_,_=>by exact v6 e
 | .ty _::_,_,_,_,e,_,_=>by exact v6 e
end
end DL
namespace W
open PySem PySem.Spec L2 DL
open PyProof.Rows hiding St
section
end
end W
namespace DL
open PySem
theorem KY:typeLookup (.type "list") "keys" =pure none:=by rw[JV,YT];kernel_rfl
section
theorem cw{h:Heap}{t:Nat}{os:OsState}{a:Addr}{o:Obj}{k:Nat}
 (hx:h.get? a=some o) (hc:o.cls= .type "list") (ng:o.data= .seq xs k) (hd:o.dict=none) (hA:A.handled=none)
 (hq:∀h' tk,(∀b ob,h.get? b=some ob->h'.get? b=some ob)->Q none ⟨h',g,d,tk,os⟩):
 zq (zC prog w) A (getAttr? (.ref a) "keys") Q E ⟨h,g,d,t,os⟩:=by
 obtain⟨c,dct,dat,sl⟩:=o;simp only at hc ng hd;subst hc ng hd;have hT:∀tk',(⟨h,g,d,tk',os⟩:zv).TypeIs (.ref a) "list":=λ_=>⟨_,hx,rfl⟩;have f1:=sub_AttributeError;have f3:=Yg.lookup;have f4:=Yg.bind (.ref a);have f5:=am_list_getattr_none;unfold getAttr? getAttrBy? getAttrBy
 repeat (any_goals (first|assumption|exact hT _|((with_reducible show zq _ _ (call (Value.builtin "list.__getattribute__") _ _) _ _ _);refine call_meets Yg (hT _) am_entry_list_getattribute (F.args_list_getattribute_2 _ _) (meets_getattribute_miss_list a xs k sl "keys" _ KY (by decide +kernel) (by decide +kernel)) ⟨hx,hA,λh' tk' e hx'=>?_⟩)|wp_step))
 obtain⟨t',u',he⟩:=hx'.there;have hTe:∀tk'',(⟨h',g,d,tk'',os⟩:zv).TypeIs (.ref e) "AttributeError":=λ_=>⟨_,he,rfl⟩;show zq _ _ (getattributeRaised _ _ _ _ _ _ _) _ _ _;unfold getattributeRaised
 repeat (any_goals (first|assumption|exact hTe _|wp_step))
 exact hq _ _ hx'.keeps
end
end DL
namespace DL
open PySem
open PyProof.Rows (IsTup)
theorem FR:entryFor table "dict.update.loop" =some yt.«dict.update.loop»:=entryFor_of_tree (by kernel_rfl)
theorem V3:plainId "dict.update.loop" =true:=by decide +kernel
section
variable{prog:zS}{w:jg}{A:jn}{R:Result->zv->Prop}{I:Addr}{fp wr:List Addr}{n:Nat}{P:Nat->zh->Prop}{St:Nat->Heap->Prop}{K:Type}[DecidableEq K]{knd:KeyKind prog w K}
theorem bY(h:YF s.heap ta #[x,y])(q:Q [x,y] s):zq (zC prog w) A (XG (.ref ta)) Q E s:=by obtain⟨o,ho,hc,m,hd⟩:=h;have hT:s.TypeIs (.ref ta) "tuple":=⟨_,ho,hc⟩;unfold XG;refine za (xS hT ?_);rw[if_pos (by decide)];exact za (yx ho hd (ze q))
theorem qY(W:Walks prog w A.in1 I fp wr n P St)(S:Addr)(hSf:S∉fp)(h0:Heap)(ps:List (K×zh))(hn:ps.length=n)
 (hval:∀i v,P i v->∃ta key kv,v= .ref ta/\ps[i]? =some kv/\YF h0 ta #[key,kv.2]/\knd.is kv.1 key=true/\ta≠S/\ta∉wr) (hsz:n<=zk):
 ∀k i s m tk,n-i=k->i<=n->St i s.heap->s.heap.DictOf knd S (Jx [] (ps.take i))->(∀b o,b≠S->b∉wr->h0.get? b=some o->s.heap.get? b=some o)->
  (∀h' tk',h'.DictOf knd S (Jx [] ps)->(∀b o,b≠S->b∉wr->h0.get? b=some o->h'.get? b=some o)->R (.ok (.ret .none)) {s with heap:=h',toks:=tk'})->
  ZQ (zC prog w) A (.builtin "dict.update.loop" ⟨[.ref S,.ref I,.int m tk,.none], []⟩) R s:=by
 have hSw:S∉wr:=λh=>hSf (W.sub _ h);intro k
 induction k with
 |zero=>
   intro i s m tk hk hi hst hS hh hR;have hin:i=n:=by lia
   subst hin;refine yA FR ?_;rw[jX V3 _];show zq _ A.in1 (xv (.ref I) >>= _) _ _ s;refine za (W.done s _ _ hst λh' tk' hm=>?_);show zq _ A.in1 (Builtin.Dict.addKeywords S [] >>= _) _ _ _;refine za (ze ?_);refine ze (hR h' tk' ?_ λb o hb nv e=>hm b o nv (hh b o hb nv e));rw[yK (by lia)]at hS;obtain⟨o,es,ep,ho,rest⟩:=hS;exact⟨o,es,ep,hm S _ hSw ho,rest⟩
 |succ k ih=>
   intro i s m tk hk hi hst hS hh hR;have ky:i<n:=by lia
   refine yA FR ?_;rw[jX V3 _];show zq _ A.in1 (xv (.ref I) >>= _) _ _ s;refine za (W.item i s _ _ ky hst λv h' tk' hP hst' hm=>?_);obtain⟨ta,key,kv,rfl,hkv,⟨ot,hot,hct,mt,hdt⟩,hkey,md,hnw⟩:=hval i v hP;have ny:h'.DictOf knd S (Jx [] (ps.take i)):=by obtain⟨o,es,ep,ho,rest⟩:=hS;exact⟨o,es,ep,hm S _ hSw ho,rest⟩
   have ht':YF h' ta #[key,kv.2]:=⟨ot,hm ta _ hnw (hh ta _ md hnw hot),hct,mt,hdt⟩;refine za (jy ?_);refine za (wpAny_tryCatch (bY ht' ?_));refine jy ?_;have kl:(Jx [] (ps.take i)).length<=zk:=by have:=merged_length_le [] (ps.take i);rw[jU,yh]at this;lia
   refine wpAny_dictSet_pairs hkey ny λh'' hd'' hsb=>?_;refine ze ⟨xh V3 _,ih (i+1) _ _ _ (by lia) ky (W.frame _ _ _ hst' λb hb o e=>?_) ?_ (λb o hb nv e=>?_) λh3 tk3 hd3 hk3=>hR h3 tk3 hd3 hk3⟩
   ·rw[hsb.2 b (λh:b=S=>hSf (by rw[<-h];exact hb))];exact e
   ·rw[merged_take_succ [] ps i kv hkv];exact hd''
   ·rw[hsb.2 b hb];exact hm b o nv (hh b o hb nv e)
end
section
variable{prog:zS}{w:jg}{A:jn}{E:VSP}{s:zv}{K:Type}[DecidableEq K]{knd:KeyKind prog w K}
theorem Bq{m:Nat}(hx:s.heap.get? src=some o)(hc:o.cls= .type "list")(hd:o.data= .seq items m)(hdict:o.dict=none)(hA:A.handled=none)
 (hn:ps.length=items.size) (hsz:items.size<=zk) (hval:∀(i:Nat) (v:zh),items[i]? =some v->∃(ta:Addr) (key:zh) (kv:K×zh),v= .ref ta/\ps[i]? =some kv/\YF s.heap ta #[key,kv.2]/\knd.is kv.1 key=true)
 (h:∀h' tk,h'.DictOf knd s.heap.objs.size (Jx [] ps)->(∀b o,s.heap.get? b=some o->h'.get? b=some o)->Q (.ref s.heap.objs.size) {s with heap:=h',toks:=tk}):
 zq (zC prog w) A (call (.type "dict") [.ref src]) Q E s:=by
 refine callType_codes (Q₁:=λobj W1=>obj= .ref s.heap.objs.size/\W1= {s with heap:=s.heap.push {cls:=.type "dict",data:=.dict #[]}}) F.kt_called_dict (F.kt_typeCall_dict_1 _) F.entry_dict_init (kt_code_dict_new _ ⟨rfl,rfl⟩) ?_;rintro obj W1 ⟨rfl,rfl⟩;have hnew:(s.heap.push {cls:=.type "dict",data:=.dict #[]}).DictOf knd s.heap.objs.size []:=Heap.DictOf.new s.heap;have ky:src<s.heap.objs.size:=zw hx;have hx1:(s.heap.push {cls:=.type "dict",data:=.dict #[]}).get? src=some o:=zc _ hx;have hT1:Shared.TypeIs {s with heap:=s.heap.push {cls:=.type "dict",data:=.dict #[]}} (.ref src) "list":=⟨_,hx1,hc⟩;refine⟨hnew.typeIs,F.args_dict_init_2 _ _,?_⟩;unfold yt.«dict.__init__»;refine za ?_;unfold Builtin.Dict.selfAndRest;refine za (wpAny_notOrdered_dict hnew.typeIs ?_);show zq _ _ (pure (s.heap.objs.size, [Value.ref src])) _ _ _;refine ze ?_;show zq _ _ (Xv "dict.__init__" s.heap.objs.size (.ref src) [] .none) _ _ _;unfold Xv;refine za (xS hT1 ?_);rw[if_pos (by decide)];have hA2:A.in1.in1.handled=none:=by simp[hA]
 refine za (cw hx1 hc hd hdict hA2 λh2 tk2 k2=>?_);simp only[Option.isNone_none,if_true];refine za (Zr ?_);have hx2:h2.get? src=some o:=k2 _ _ hx1;have nj:h2.IsList src items:=⟨o,hx2,hc,m,hd⟩;have hS2:h2.DictOf knd s.heap.objs.size []:=by obtain⟨o,es,ep,ho,rest⟩:=hnew;exact⟨o,es,ep,k2 _ _ ho,rest⟩
 have hlt2:s.heap.objs.size<h2.objs.size:=by obtain⟨o,es,ep,ho,rest⟩:=hS2;exact zw ho
 refine za (Zf nj ?_);have hA1:A.in1.in1.handled=none:=hA2;refine ze ⟨xh V3 _,?_⟩;have hkeep:∀b ob,s.heap.get? b=some ob->h2.get? b=some ob:=λb ob e=>k2 _ _ (zc _ e);refine qY (knd:=knd) (Walks.list hA1 h2.objs.size src (zG (Za ky hlt2)) items) s.heap.objs.size ?_ s.heap ps hn ?_ hsz items.size 0 _ _ _ (by lia) (zD _) ?_ ?_ ?_ ?_
 ·simp only[zu,ja,or_false,not_or];exact⟨zG hlt2,xK ky⟩
 · intro i v hv;obtain⟨ta,key,kv,e1,e2,e3,e4⟩:=hval i v hv;have hta:ta<s.heap.objs.size:=by obtain⟨_,e,_⟩:=e3;exact zw e
   exact⟨ta,key,kv,e1,e2,e3,e4,zG hta,by simp only[zu,ja,or_false];exact zG (Za hta hlt2)⟩
 ·exact⟨⟨_,zp _ rfl,rfl,rfl⟩,nj.push _⟩
 ·show Heap.DictOf knd (h2.push _) _ _;exact hS2.push _
 ·intro b ob hb nv e;exact zc _ (hkeep b ob e)
 · intro h' tk' oi oj;refine⟨rfl,h h' tk' oi λb ob e=>oj b ob ?_ ?_ e⟩
   ·exact zG (zw e)
   ·simp only[zu,ja,or_false];exact zG (Za (zw e) hlt2)
end
end DL
namespace DL
open PySem PySem.Spec L2
open PyProof.Rows hiding St
def aC:D->Option (Key×D)
 | .tup [k,v]=>match f8 k with
   |some q=>some (q,v)
   |none=>none
 |_=>none
def pA:List D->Option (List (Key×D))
 |[]=>some []
 |d::r=>match aC d,pA r with
   |some p,some ps=>some (p::ps)
   |_,_=>none
def IB(kr:List (Key×D))(l:List (Key×D)):List (Key×D):=l.foldl (λkr kv=>cB kr kv.1 kv.2) kr
def UA:List D->M D:=λds=>match ds with
 |[.ref r]=>do
   let l <-K4 r >>= listOf
   let ps <-C1 (pA l)
   J8 (.dct (IB [] ps))
 |_=>M.stuck
section
variable{X:Cx}{Z:XC}{μ:List Addr}{H:Hp}{G:DH}
theorem Gz(h:aC d=some p):∃k,d= .tup [k,p.2]/\f8 k=some p.1:=by
 rcases d with _|_|_|_|l|_|_|_<;>try (cases h;done)
 rcases l with _|⟨k,_|⟨v,_|⟨_,_⟩⟩⟩<;>try (cases h;done)
 delta aC at h;dsimp only at h;rcases e:f8 k with _|q
 ·rw[e]at h;cases h
 ·rw[e]at h;cases h;exact⟨k,rfl,e⟩
theorem BQ{σ:St}(I:Inv X pins σ H s):∀ {l:List D} {ps} {vs:List V} {ka},pA l=some ps->j9 (wc X) μ H l vs->m9 vs ka->
 ∃(iz:List (Key×V)) (ws:List (Key×zh)),S8 (wc X) μ H ps iz/\KV iz ws/\ws.length=ka.length/\∀(i:Nat) v,ka[i]? =some v->∃(ta:Addr) (key:zh) (kv:Key×zh),v= .ref ta/\ws[i]? =some kv/\YF s.heap ta #[key,kv.2]/\(u5 X.prog X.w).is kv.1 key=true
 |[],ps,vs,ka,e,rl,rv=>by
   cases e;cases rl;cases rv
   exact⟨[], [],rfl,.nil,rfl,λi v h=>by simp at h⟩
 |d::r,ps,vs,ka,e,rl,rv=>by
   replace e:(match aC d,pA r with|some p,some ps=>some (p::ps)|_,_=>none)=some ps:=e;rcases e1:aC d with _|p
   ·rw[e1]at e;cases e
   ·
     rcases e2:pA r with _|qs
     ·rw[e1,e2]at e;cases e
     ·
       rw[e1,e2]at e
       cases e
       obtain⟨v,t,rfl,r0,rt⟩:=rl
       cases rv with
       |cons q0 qt=>
         obtain⟨iz,ws,h1,h2,h3,h4⟩:=BQ I e2 rt qt;obtain⟨k,rfl,hk⟩:=Gz e1;unfold d7 at r0;obtain⟨a,us,rfl,hq,ru⟩:=r0;obtain⟨x,y,rfl,rx,ry⟩:=PF ru;obtain⟨og,rr,ht,_⟩:=I.tuple hq;obtain⟨p1,p2⟩:=p
         cases rr with
         |cons rr0 rr1=>
           cases rr1 with
           |cons rr2 rr3=>
             cases rr3
             rename_i w0 w1;have ex:=KH hk rx;subst ex
             cases (show _=Value.ref a from q0)
             refine⟨(p1,y)::iz,(p1,w1)::ws,⟨y,iz,rfl,ry,h1⟩,.cons ⟨rfl,rr2⟩ h2,by simp[h3],λi v hv=>?_⟩
             cases i with
             |zero=>
               simp only[zH,zP]at hv;subst hv;exact⟨a,w0,(p1,w1),rfl,rfl,ht,fA rr0⟩
             |succ i=>exact h4 i v (by simpa using hv)
theorem rP:∀ {ps} {iz} {kr} {ko},S8 c μ H ps iz->S8 c μ H kr ko->S8 c μ H (IB kr ps) (iz.foldl (λkr kv=>Q1 kr kv.1 kv.2) ko)
 |[],_,_,_,r,q=>by cases r;exact q
 |(k,d)::t,_,_,_,r,q=>by obtain⟨v,kt,rfl,rv,rt⟩:=r;have z:=rP rt (LK (k:=k) rv q);exact z
theorem DR:∀ {iz} {ws} {kr:List (Key×V)} {ko},KV iz ws->KV kr ko->KV (iz.foldl (λkr kv=>Q1 kr kv.1 kv.2) kr) (Jx ko ws)
 |_,_,_,_,.nil,q=>q
 |_,_,_,_,.cons (a:=p) (b:=r) ⟨e,rv⟩ t,q=>by
   obtain⟨k,v⟩:=p;obtain⟨k',u⟩:=r
   cases (show k=k' from e)
   have z:=DR t (q.put k rv);exact z
theorem cg{σ:St}{Q:VK}{ps:List (Key×D)}{h':Heap}{tk:Nat}(I:Inv X pins σ H s)(hr:m6 (wc X) μ G H)(h1:S8 (wc X) μ H ps iz)(h2:KV iz ws)(hz:ws.length<=zk)
 (p:c7 (wc X) Z μ H (J8 (.dct (IB [] ps)) G) λd X9 _ H'=>∀v,d7 (wc X) X9 H' d v->Q v H')
 (hd:h'.DictOf (u5 X.prog X.w) s.heap.objs.size (Jx [] ws)) (hk:∀b o,s.heap.get? b=some o->h'.get? b=some o):EP X pins σ Q (.ref s.heap.objs.size) {s with heap:=h',toks:=tk}:=by
 have k3:=DR h2 (.nil:KV [] []);have hl:(iz.foldl (λkr kv=>Q1 kr kv.1 kv.2) []).length<=zk:=by rw[k3.length];have:=merged_length_le [] ws;rw[yh]at this;lia
 have hq:H s.heap.objs.size=none:=I.hok.fresh (zg _);refine⟨.ref s.heap.objs.size,_,I.laid hk (zg _) (vI hl (beq_eq_false_iff_ne.mpr (Ne.symm (zG I.big))) k3 hd),rfl,?_⟩;have k:Ext μ H (μ++[s.heap.objs.size]) (upd H s.heap.objs.size (.dK (iz.foldl (λkr kv=>Q1 kr kv.1 kv.2) []))):=Ext.add hq _;have e0:S8 (wc X) μ H (IB [] ps) (iz.foldl (λkr kv=>Q1 kr kv.1 kv.2) []):=rP h1 rfl;refine p (μ++[s.heap.objs.size]) _ k (hr.new hq ⟨_,w5,e0.mono k⟩) _ ?_;unfold d7;exact⟨s.heap.objs.size,by rw[<-hr.len];simp,rfl⟩
theorem LW(hc:X.calm=true):O8 X Z (.type "dict") UA:=⟨by
 intro pins s σ H xs us Q I r ki;obtain⟨ds,μ,G,rl,hr,p⟩:=ki;have hh:X.A.handled=none:=I.ok.hd hc;rcases ds with _|⟨_|_|_|_|l|i|_|_,_|⟨_,_⟩⟩<;>try exact p.elim
 all_goals (delta UA at p;dsimp only at p)
 · obtain⟨v,rfl,rv⟩:=U2 rl;obtain⟨u,rfl,ru⟩:=C3 r;obtain⟨l,a,vs,rfl,mf,q,p1⟩:=bG hr rv p
   cases ru
   obtain⟨ps,eps,p2⟩:=R1 p1;obtain⟨ka,rr,⟨o,n,g1,g2,g3,g4⟩,hz⟩:=I.list q;obtain⟨iz,ws,h1,h2,h3,h4⟩:=BQ I eps mf rr;have kl:=rr.length;exact Bq g1 g2 g4 g3 hh (by simpa using h3) (by simp only[zl];lia) (λi v hv=>h4 i v (by simpa using hv)) λh' tk hd hk=>cg I hr h1 h2 (by lia) p2 hd hk⟩
theorem Lk(h:X.calm=true):BD UA "dict" X Z:=⟨.inr ⟨_,LW h,RZ⟩⟩
end
def dF:D->List D->M D:=λx xs=>match x,xs with
 | .ref r, [.int k]=>do
   let l <-lstM r
   match l[k.toNat]? with
   |some y=>
     if 0<=k/\k<2 ^ 62 then do
      let _ <-B6 r (.lst (l.eraseIdx k.toNat))
      pure y
     else M.stuck
   |none=>M.stuck
 |_,_=>M.stuck
section
theorem j9.eraseIdx(n:Nat)(h:j9 c μ H l vs):j9 c μ H (l.eraseIdx n) (vs.eraseIdx n):=by rw[Xy,Xy];exact(j9.take _ h).append (j9.drop _ h)
theorem Kj:MtD X Z "list.pop" dF:=by
 intro pins s σ H x xs v us Q I rx rs ki;obtain⟨d,ds,μ,G,rd,rds,hr,p⟩:=ki;rcases d with _|_|_|_|_|r|_|_<;>try (exact p.elim;done)
 ·
   unfold d7 at rd;obtain⟨a,m,rfl⟩:=rd;rcases ds with _|⟨kd,t⟩
   ·exact p.elim
   ·
     rcases t with _|⟨_,_⟩
     ·
       rcases kd with _|_|k|_|_|_|_|_<;>try (exact p.elim;done)
       ·
         obtain⟨kv,rfl,rk⟩:=U2 rds;have ek:=U3 rk;subst ek;obtain⟨l,vs,g,ea,rl,p1⟩:=nO hr m p;rcases hy:l[k.toNat]? with _|y
         ·simp only[hy]at p1;exact p1.elim
         ·
           simp only[hy]at p1;split at p1
           · rename_i hz;obtain⟨x1,h1,p2⟩:=cP hr g m (λx=>(rl.mono x).eraseIdx _) p1;obtain⟨yv,e1,ry⟩:=rl.get hy;have ky:k.toNat<vs.length:=by
              by_cases q:k.toNat<vs.length
              ·exact q
              ·rw[jf (by lia)]at e1;exact v6 e1
             refine SY pins s σ H (.ref a) [.int k] v us Q I rx rs ⟨a,vs,k,k.toNat,yv,rfl,rfl,ea,by lia,by lia,?_,e1,c7.ok p2 h1 _ (ry.mono x1)⟩;unfold seqIndex?;have h0:¬k<0:=by lia
             have h2:(0<=k&&k<(vs.length:Int))=true:=by simp;lia
             simp only[if_neg h0,h2,if_true]
           ·exact p1.elim
     ·cases kd<;>exact p.elim
end
end DL
namespace W
open PySem PySem.Spec L2 DL
open PyProof.Rows hiding St
theorem OX(h:G[r]? =some (.lst (y::l))):Wp (dF (.ref r) [.int 0]) G Q↔Q y (G.set r (.lst l)):=by
 have e:dF (.ref r) [.int 0]= (do
  let l <-lstM r
  match l[(0:Int).toNat]? with
  |some y=>
    if 0<=(0:Int)/\(0:Int)<2 ^ 62 then do
     let _ <-B6 r (.lst (l.eraseIdx (0:Int).toNat))
     pure y
    else M.stuck
  |none=>M.stuck):=rfl
 rw[e];unfold lstM;simp only[d9,M6,h,S6,wp_pure];show Wp (if 0<=(0:Int)/\(0:Int)<2 ^ 62 then (do let _ <-B6 r (.lst l);pure y)else M.stuck) G Q↔_;rw[if_pos (by decide)];simp only[d9,wp_pure,bH]
end W
namespace DL
open PySem PySem.Spec L2
open PyProof.Rows hiding St
def ixG:D->D->M D:=λx y=>match x,y with
 | .ref r,.str z=>do
   match <-K4 r with
   | .dct l=>C1 (L3 l (.inr z))
   |_=>M.stuck
 |_,_=>ixD x y
section
theorem Qv:IxR X (λx y H Q=>∃a iz k v,x= .ref a/\y=kV k/\H a=some (.dK iz)/\d4 iz k=some v/\Q v H):=by
 intro value slice pins s σ H x y v u Q I rx ry h hs;obtain⟨a,iz,k,z,rfl,rfl,e,l,q⟩:=h
 cases rx
 obtain⟨zz,hd,vs,rel,dd⟩:=ID I.hok e;obtain⟨w',hw,rw'⟩:=D8.some_of (by rw[<-l];exact rel.val k);exact Zj dd.typeIs XW.lookup (wpAny_getItem_of (fA ry) dd.mapOf hw ⟨rfl,z,H,I.tok _,rw',q⟩) hs
theorem FS:IxD X Z ixG:=IxR.mono (Qv.or vP) λx y H Q ki=>ki.elim λdx dy μ G rx ry hr p=>by
 by_cases c:∃r z,dx= .ref r/\dy= .str z
 · obtain⟨r,z,rfl,rfl⟩:=c;refine .inl ?_;unfold d7 at rx;obtain⟨a,m,rfl⟩:=rx;have p':c7 (wc X) Z μ H ((K4 r >>= λo=>match o with| .dct l=>C1 (L3 l (.inr z))|_=>M.stuck:M D) G) λd X9 _ H'=>∀v,d7 (wc X) X9 H' d v->Q v H':=p;obtain⟨o,g,p1⟩:=G9 p';have ro:=hr.obj r o a g m;rcases o with _|_|l|_<;>try (exact p1.elim;done)
   ·
     obtain⟨iz,q,rk⟩:=ro;obtain⟨d,ed,k⟩:=qF hr p1;have z1:=uH (k:=.inr z) rk;rw[ed]at z1;obtain⟨v,ev,rv⟩:=z1;exact⟨a,iz,.inr z,v,rfl,U1 ry,q,ev,k v rv⟩
 · refine .inr ⟨dx,dy,μ,G,rx,ry,hr,?_⟩;have e:ixG dx dy=ixD dx dy:=by
    rcases dx with _|_|_|_|_|r|_|_<;>try (rfl;done)
    ·
      rcases dy with _|_|_|z|_|_|_|_<;>try (rfl;done)
      ·exact absurd ⟨r,z,rfl,rfl⟩ c
   rw[<-e];exact p
theorem Qw(ha:DE X Z a fa)(hb:DE X Z b fb)(hs:gD b):DE X Z (.Subscript a b pos) (binE ixG fa fb):=RH FS ha hb hs
end
end DL
namespace W
open PySem PySem.Spec L2 DL
open PyProof.Rows hiding St
theorem VI(h:G[r]? =some (.dct l))(k:L3 l (.inr z)=some d):Wp (ixG (.ref r) (.str z)) G Q↔Q d G:=by have e:ixG (.ref r) (.str z)= (K4 r >>= λo=>match o with| .dct l=>C1 (L3 l (.inr z))|_=>M.stuck:M D):=rfl;rw[e];simp only[d9,M6,h,S6,l9,k,zP,exists_eq_left']
end W
namespace DL
open PySem PySem.W
open PyProof.Rows hiding St
def tOk{α:Type}(lt:Nat->Nat->Bool)(n:Nat):KasT α->(α->Prop)->Prop
 | .ret a,Q=>Q a
 | .ask i j k,Q=>i<n/\j<n/\tOk lt n (k (lt i j)) Q
section
theorem tOk.bind:∀t,tOk lt n t (λa=>tOk lt n (f a) Q)->tOk lt n (t.bind f) Q
 | .ret _,h=>h
 | .ask i j k,h=>⟨h.1,h.2.1,tOk.bind (k (lt i j)) h.2.2⟩
theorem tOk.mono(hq:∀a,Q a->Q' a):∀t,tOk lt n t Q->tOk lt n t Q'
 | .ret a,h=>hq a h
 | .ask i j k,h=>⟨h.1,h.2.1,tOk.mono hq (k (lt i j)) h.2.2⟩
theorem tOk.wp(hc:∀i j C,i<n->j<n->C (lt i j) s->cmp i j C s):∀t,tOk lt n t Q->t.kasWp cmp (λa s'=>s'=s/\Q a) s
 | .ret a,h=>⟨rfl,h⟩
 | .ask i j k,h=>hc i j _ h.1 h.2.1 (tOk.wp hc (k (lt i j)) h.2.2)
end
structure D6(lt:Nat->Nat->Bool)(n:Nat):Prop where
 tr:∀i j k,lt i j=true->lt j k=true->lt i k=true
 tot:∀i j,i<n->j<n->i≠j->lt i j=false->lt j i=true
structure J4(p:Array Nat)(n:Nat):Prop where
 pm:p.toList.Perm (zF n)
section
theorem J4.size(h:J4 p n):p.size=n:=by have:=h.pm.length_eq;simpa using this
theorem J4.bd(h:J4 p n)(hk:k<n):p.getD k 0<n:=by
 have hs:=h.size;have e:p.getD k 0=p[k]'(by lia):=by simp[Zz,hs,hk]
 rw[e];have:p[k]'(by lia)∈p.toList:=by simp
 have:=h.pm.mem_iff.mp this;simpa using this
theorem J4.ne(h:J4 p n)(hi:i<n)(hj:j<n)(hij:i≠j):p.getD i 0≠p.getD j 0:=by
 have hs:=h.size;have nd:p.toList.Nodup:=h.pm.nodup_iff.mpr List.nodup_range;have e1:p.getD i 0=p.toList[i]'(by simp;lia):=by simp[Zz,hs,hi]
 have e2:p.getD j 0=p.toList[j]'(by simp;lia):=by simp[Zz,hs,hj]
 rw[e1,e2];intro e;exact hij ((XI nd).mp e)
def P4(lt:Nat->Nat->Bool)(p:Array Nat)(m:Nat):Prop:=∀i j,i<j->j<m->lt (p.getD i 0) (p.getD j 0)=true
def uC(lt:Nat->Nat->Bool)(p:Array Nat)(m:Nat):Prop:=∀i j,i<j->j<m->lt (p.getD j 0) (p.getD i 0)=true
theorem bh(O:D6 lt n)(hk:1<=k)(h:P4 lt p k)(hl:lt (p.getD (k-1) 0) (p.getD k 0)=true):P4 lt p (k+1):=by
 intro i j hij hj;by_cases hj':j<k
 ·exact h i j hij hj'
 · have ej:j=k:=by lia
   subst ej;by_cases hi:i=j-1
   ·rw[hi];exact hl
   ·exact O.tr _ _ _ (h i (j-1) (by lia) (by lia)) hl
theorem qf(O:D6 lt n)(hk:1<=k)(h:uC lt p k)(hl:lt (p.getD k 0) (p.getD (k-1) 0)=true):uC lt p (k+1):=by
 intro i j hij hj;by_cases hj':j<k
 ·exact h i j hij hj'
 · have ej:j=k:=by lia
   subst ej;by_cases hi:i=j-1
   ·rw[hi];exact hl
   ·exact O.tr _ _ _ hl (h i (j-1) (by lia) (by lia))
theorem HJ(O:D6 lt n)(P:J4 p n):∀f k,1<=k->k+f<=n->P4 lt p k->tOk lt n (kas_asc p f k) (λm=>k<=m/\m<=k+f/\P4 lt p m/\(m<k+f->lt (p.getD m 0) (p.getD (m-1) 0)=true))
 |0,k,h1,h2,u=>⟨zg _,zg _,u,λz=>by lia⟩
 |f+1,k,h1,h2,u=>by
   unfold kas_asc;refine⟨P.bd (by lia),P.bd (by lia),?_⟩;rcases e:lt (p.getD k 0) (p.getD (k-1) 0)with _|_
   ·
     have hl:=O.tot _ _ (P.bd (show k<n by lia)) (P.bd (show k-1<n by lia)) (P.ne (by lia) (by lia) (by lia)) e;simp only[zy,if_false];exact(HJ O P f (k+1) (by lia) (by lia) (bh O h1 u hl)).mono λm ⟨a,b,c,d⟩=>⟨by lia,by lia,c,λz=>d (by lia)⟩
   ·exact⟨zg _,by lia,u,λ_=>e⟩
theorem iN(O:D6 lt n)(P:J4 p n):∀f k,1<=k->k+f<=n->uC lt p k->tOk lt n (kas_desc f p k 0) (λr=>r.1=p/\r.2.2=0/\k<=r.2.1/\r.2.1<=k+f/\uC lt p r.2.1)
 |0,k,h1,h2,u=>⟨rfl,rfl,zg _,zg _,u⟩
 |f+1,k,h1,h2,u=>by
   unfold kas_desc;refine⟨P.bd (by lia),P.bd (by lia),?_⟩;rcases e:lt (p.getD k 0) (p.getD (k-1) 0)with _|_
   ·
     have hl:=O.tot _ _ (P.bd (show k<n by lia)) (P.bd (show k-1<n by lia)) (P.ne (by lia) (by lia) (by lia)) e;simp only[zy,if_false];refine⟨P.bd (by lia),P.bd (by lia),?_⟩;rw[hl];exact⟨rfl,rfl,zg _,xM _ _,u⟩
   ·
     simp only[if_true,yD,if_false,gt_iff_lt];exact(iN O P f (k+1) (by lia) (by lia) (qf O h1 u e)).mono λr ⟨a,b,c,d,g⟩=>⟨a,b,by lia,by lia,g⟩
theorem V1(p:Array Nat)(k:Nat):p.getD k 0= (p[k]?).getD 0:=by by_cases h:k<p.size<;>simp[Zz,h]
theorem WA(P:J4 p n):J4 (kas_rev p i j) n:=⟨(Zy.mp (mirror_perm p i j _)).trans P.pm⟩
theorem rW(P:J4 p n)(hm:m<=n)(d:uC lt p m):P4 lt (kas_rev p 0 m) m:=by
 intro i j hij hj;have hs:=P.size;have e:∀k,k<m->(kas_rev p 0 m).getD k 0=p.getD (m-1-k) 0:=λk hk=>by rw[V1,V1];unfold kas_rev;rw[getElem?_mirror_all (by lia),if_pos ⟨zD _,hk⟩,Nat.zero_add]
 rw[e i (by lia),e j hj];exact d (m-1-j) (m-1-i) (by lia) (by lia)
theorem CU(O:D6 lt n)(P:J4 p n)(h2:2<=n)(d:uC lt p 2):tOk lt n (kas_descPart 1 n p) (λr=>J4 r.2 n/\1<=r.1/\r.1<=n/\P4 lt r.2 r.1):=by unfold kas_descPart;refine tOk.bind _ ((iN O P (n-(1+1)) (1+1) (by lia) (by lia) d).mono λr ⟨a,b,c,e,g⟩=>?_);obtain⟨r1,r2,r3⟩:=r;dsimp only at a b c e g ⊢;subst a b;rw[if_neg (yD 0)];unfold kas_tail3;refine tOk.bind _ ((HJ O (WA P) (n-r2) r2 (by lia) (by lia) (rW P (by lia) g)).mono λm ⟨a1,a2,a3,_⟩=>?_);exact⟨WA P,by lia,by lia,a3⟩
theorem hU(O:D6 lt n)(P:J4 p n)(h2:2<=n):tOk lt n (kas_count n p) (λr=>J4 r.2 n/\1<=r.1/\r.1<=n/\P4 lt r.2 r.1):=by
 unfold kas_count;refine tOk.bind _ ((HJ O P (n-1) 1 (zg _) (by lia) (λi j _ _=>by lia)).mono λm ⟨a1,a2,a3,a4⟩=>?_);by_cases hm:m=n
 ·rw[if_pos (by simpa using hm)];exact⟨P,a1,by lia,a3⟩
 · rw[if_neg (by simpa using hm)];by_cases h1:m>1
   ·rw[if_pos h1];refine⟨P.bd (by lia),P.bd (by lia),?_⟩;rw[a3 0 (m-1) (by lia) (by lia)];exact⟨P,a1,by lia,a3⟩
   · rw[if_neg h1];have em:m=1:=by lia
     subst em;refine CU O P h2 λi j hij hj=>?_;have e1:i=0:=by lia
     have e2:j=1:=by lia
     subst e1 e2;exact a4 (by lia)
theorem NI(O:D6 lt n)(P:J4 p n)(hk:k<n)(u:P4 lt p k):∀f l r,l<=r->r<=k->r-l<=f->(∀i,i<l->lt (p.getD i 0) (p.getD k 0)=true)->(∀i,r<=i->i<k->lt (p.getD k 0) (p.getD i 0)=true)->
 tOk lt n (kas_place p k f l r) (λL=>L<=k/\(∀i,i<L->lt (p.getD i 0) (p.getD k 0)=true)/\∀i,L<=i->i<k->lt (p.getD k 0) (p.getD i 0)=true)
 |0,l,r,h1,h2,h3,a,b=>⟨by lia,a,λi hi=>b i (by lia)⟩
 |f+1,l,r,h1,h2,h3,a,b=>by
   unfold kas_place;by_cases h:l>=r
   ·rw[if_pos h];exact⟨by lia,a,λi hi=>b i (by lia)⟩
   · rw[if_neg h];have hm1:l<=(l+r) / 2:=by lia
     have hm2:(l+r) / 2<r:=by lia
     refine⟨P.bd hk,P.bd (by lia),?_⟩;rcases e:lt (p.getD k 0) (p.getD ((l+r) / 2) 0)with _|_
     ·
       simp only[zy,if_false];have hl:=O.tot _ _ (P.bd hk) (P.bd (show (l+r) / 2<n by lia)) (P.ne hk (by lia) (by lia)) e;refine NI O P hk u f _ r (by lia) h2 (by lia) (λi hi=>?_) b;by_cases ei:i= (l+r) / 2
       ·rw[ei];exact hl
       ·exact O.tr _ _ _ (u i ((l+r) / 2) (by lia) (by lia)) hl
     ·
       simp only[if_true];refine NI O P hk u f l _ hm1 (by lia) (by lia) a λi hi hik=>?_;by_cases ei:i= (l+r) / 2
       ·rw[ei];exact e
       ·exact O.tr _ _ _ e (u _ i (by lia) hik)
theorem tO(O:D6 lt n):∀f k p,J4 p n->k+f=n->P4 lt p k->tOk lt n (kas_bin f p k) (λq=>J4 q n/\P4 lt q n)
 |0,k,p,P,h,u=>⟨P,by rw[<-h];exact u⟩
 |f+1,k,p,P,h,u=>by
   unfold kas_bin;refine tOk.bind _ ((NI O P (show k<n by lia) u k 0 k (zD _) (zg _) (by lia) (λi hi=>by lia) (λi h1 h2=>by lia)).mono λL ⟨hL,a,b⟩=>?_);have hs:=P.size;refine tO O f (k+1) _ ⟨(Zy.mp (bubble_perm p k (k-L))).trans P.pm⟩ (by lia) ?_;have e:∀i,(bubble p k (k-L)).getD i 0=if i=L then p.getD k 0 else if L<i/\i<=k then p.getD (i-1) 0 else p.getD i 0:=λi=>by
    rw[V1,getElem?_bubble (by lia) _ (by lia),show k-(k-L)=L by lia];split
    ·rw[<-V1]
    ·split<;>rw[<-V1]
   intro i j hij hj;rw[e i,e j];by_cases h1:i=L
   ·rw[if_pos h1,if_neg (by lia),if_pos (by lia)];exact b (j-1) (by lia) (by lia)
   · rw[if_neg h1];by_cases h2:j=L
     ·rw[if_pos h2,if_neg (by lia)];exact a i (by lia)
     · rw[if_neg h2];by_cases h3:L<i
       ·rw[if_pos (by lia),if_pos (by lia)];exact u _ _ (by lia) (by lia)
       · rw[if_neg (by lia)];by_cases h4:L<j
         · rw[if_pos (by lia)];by_cases h5:i<j-1
           ·exact u _ _ h5 (by lia)
           ·lia
         ·rw[if_neg (by lia)];exact u _ _ hij (by lia)
theorem AN(O:D6 lt n)(h2:2<=n):tOk lt n (kas_sort n) (λq=>J4 q n/\P4 lt q n):=by
 unfold kas_sort;refine tOk.bind _ ((hU O ⟨by simp⟩ h2).mono λr ⟨a,b,c,d⟩=>?_);by_cases h:r.1<n
 ·rw[if_pos h,show max r.1 1=r.1 by lia];exact tO O _ _ _ a (by lia) d
 ·rw[if_neg h];exact⟨a,by rw[show n=r.1 by lia];exact d⟩
end
end DL
namespace DL
open PySem PySem.Spec L2
open PyProof.Rows hiding St
def Q7(F:List D->M D):List D->M (List D)
 |[]=>pure []
 |d::r=>do
   let k <-noX (F [d])
   let ks <-Q7 F r
   pure (k::ks)
def oA:D->Option (Int×Str)
 | .tup [.int a,.str x]=>some (a,x)
 |_=>none
def Hg:D->Option (Int×Str)
 | .str x=>some (0,x)
 |_=>none
def F5(f:D->Option (Int×Str)):List D->Option (List (Int×Str))
 |[]=>some []
 |d::r=>match f d,F5 f r with
   |some a,some b=>some (a::b)
   |_,_=>none
def iC(l:List D):Option (List (Int×Str)):=match F5 oA l with
 |some q=>some q
 |none=>F5 Hg l
def V9(p q:Int×Str):Bool:=if p.1=q.1 then decide (p.2.cps.toList<q.2.cps.toList)else decide (p.1<q.1)
def w9(p q:(Int×Str)×D):Bool:= !V9 q.1 p.1
def t5(qs:List (Int×Str))(l:List D):List D:=((qs.zip l).mergeSort w9).map (·.2)
def eB(F:List D->M D)(l:List D):M D:=do
 let ks <-Q7 F l
 let qs <-C1 (iC ks)
 if qs.Nodup then J8 (.lst (t5 qs l))else M.stuck
def oB(F:List D->M D):D->M D
 | .tup l=>if l.length<64 then eB F l else M.stuck
 | .ref r=>do
   match <-K4 r with
   | .lst l=>if l.length<64 then eB F l else M.stuck
   | .dct l=>do
     let ss <-C1 (J2 l)
     if ss.length<64 then eB F (ss.map .str)else M.stuck
   |_=>M.stuck
 |_=>M.stuck
def VC(F:List D->M D)(f:Fe):Fe:=λσ=>do
 let x <-f σ
 oB F x
theorem GC(p:Int×Str):V9 p p=false:=by unfold V9;rw[if_pos rfl,decide_eq_false];exact List.lt_irrefl _
theorem kA(h1:V9 p q=true)(h2:V9 q r=true):V9 p r=true:=by
 unfold V9 at *;by_cases e1:p.1=q.1
 · rw[if_pos e1]at h1;by_cases e2:q.1=r.1
   ·rw[if_pos e2]at h2;rw[if_pos (e1.trans e2)];simp only[decide_eq_true_eq]at *;exact List.lt_trans h1 h2
   ·rw[if_neg e2]at h2;rw[if_neg (by rw[e1];exact e2),e1];exact h2
 · rw[if_neg e1]at h1;simp only[decide_eq_true_eq]at h1;by_cases e2:q.1=r.1
   ·rw[if_pos e2]at h2;rw[if_neg (by rw[<-e2];exact e1),<-e2];exact decide_eq_true h1
   ·rw[if_neg e2]at h2;simp only[decide_eq_true_eq]at h2;rw[if_neg (by lia)];exact decide_eq_true (by lia)
theorem eC(h:p≠q)(h1:V9 p q=false):V9 q p=true:=by
 unfold V9 at *;by_cases e1:p.1=q.1
 · rw[if_pos e1]at h1;rw[if_pos e1.symm];simp only[decide_eq_false_iff_not,decide_eq_true_eq]at *;have hle:q.2.cps.toList<=p.2.cps.toList:=h1;refine jb λn=>h ?_;have hle2:p.2.cps.toList<=q.2.cps.toList:=n;have e:=List.le_antisymm hle2 hle
   cases p with|mk a x=>cases q with|mk b y=>
   dsimp only at e1 e;subst e1;congr 1
   cases x;cases y
   congr 1;exact xc.mp e
 ·rw[if_neg e1]at h1;rw[if_neg (λe=>e1 e.symm)];simp only[decide_eq_false_iff_not,decide_eq_true_eq]at *;lia
theorem eZ{qs:List (Int×Str)}(nd:qs.Nodup):∀a∈qs.zip l,∀b∈qs.zip l,a.1=b.1->a=b:=by intro a ha b hb e;obtain⟨i,hi,rfl⟩:=xE.mp ha;obtain⟨j,hj,rfl⟩:=xE.mp hb;simp only[List.getElem_zip]at e ⊢;have:=(XI nd).mp e;subst this;rfl
theorem gK(nd:qs.Nodup){z:List ((Int×Str)×D)}(hp:z.Perm (qs.zip l))(hs:z.Pairwise λa b=>w9 a b=true):z.map (·.2)=t5 qs l:=by
 unfold t5;congr 1;have h2:((qs.zip l).mergeSort w9).Pairwise λa b=>w9 a b=true:=JX (λa b c h1 h2=>by
  unfold w9 at *;simp only[yE]at *;refine yW.mpr λh=>?_;by_cases e:a.1=b.1
  ·rw[e]at h;rw[h]at h2;cases h2
  ·have:=kA h (eC (λz=>e z.symm) h1);rw[this]at h2;cases h2) (λa b=>by
  unfold w9;by_cases e:a.1=b.1
  ·rw[e,GC];rfl
  · cases q:V9 b.1 a.1 with
    |false=>rfl
    |true=>
      have:V9 a.1 b.1=false:=by refine yW.mpr λh=>?_;have:=kA q h;rw[GC]at this;cases this
      rw[this];rfl) _
 refine List.Perm.eq_of_pairwise (λa b ha hb h1 h2=>?_) hs h2 (hp.trans (YQ _ _).symm);refine eZ nd a (hp.mem_iff.mp ha) b ((YQ _ _).mem_iff.mp hb) (jb λn=>?_);unfold w9 at *;simp only[yE]at *;have:=eC (λz=>n z.symm) h1;rw[this]at h2;cases h2
def Cx.rm(X:Cx)(A:jn):Cx:={X with A:=A,xe:=λ_ _=>False}
section
theorem Hk(I:Inv X pins σ H s)(h1:A.handled=X.A.handled)(h2:A.frames=X.A.frames/\A.guards=X.A.guards):Inv (Cx.rm X A) pins σ H s:=
 ⟨⟨I.ok.mod,I.ok.kind,I.ok.glob,I.ok.blt,I.ok.above,I.ok.inj,I.ok.has,I.ok.cab,λc=>h1.trans (I.ok.hd c),h2.1.trans I.ok.frames,I.ok.stk,I.ok.exf,I.ok.bs,I.ok.bsz,I.ok.noex,I.ok.exfs,I.ok.funs,I.ok.frf,h2.2.trans I.ok.gd⟩,I.os,I.bare,I.base,I.loc,I.cell,I.free,I.freeC,I.pin,I.hok,I.len⟩
theorem gu(I:Inv (Cx.rm X A) pins σ H s)(h1:A.handled=X.A.handled)(h2:A.frames=X.A.frames/\A.guards=X.A.guards):Inv X pins σ H s:=
 ⟨⟨I.ok.mod,I.ok.kind,I.ok.glob,I.ok.blt,I.ok.above,I.ok.inj,I.ok.has,I.ok.cab,λc=>h1.symm.trans (I.ok.hd c),h2.1.symm.trans I.ok.frames,I.ok.stk,I.ok.exf,I.ok.bs,I.ok.bsz,I.ok.noex,I.ok.exfs,I.ok.funs,I.ok.frf,h2.2.symm.trans I.ok.gd⟩,I.os,I.bare,I.base,I.loc,I.cell,I.free,I.freeC,I.pin,I.hok,I.len⟩
end
section
theorem GJ(hF:E2 X.prog X.w X.K X.mg X.base CX0 k f fd ps (spD (wc X) 1 F))(hb:A4 X.K fd ps [])(hA:O3 k A)(h1:A.handled=X.A.handled)(h2:A.frames=X.A.frames/\A.guards=X.A.guards){a kS:Addr}{e1:Nat}
 (fa:∀H':Hp,H' a=none->B1 X pins H' a) (fk:∀H':Hp,H' kS=none->B1 X pins H' kS) (ne:a≠kS) {R:zv->Prop}
 (hbd:∀x s (R:zv->Prop),zq (zC X.prog X.w) A (call (.ref f) [x]) (λk s'=>∃ks e,xF ks<64/\s'.heap.get? kS=some (zR "list" (zJ ks) e)/\R {s' with heap:=s'.heap.update kS (zT (·.push k))}) (λ_ _=>False) s->
   zq (zC X.prog X.w) A (body x ⟨⟩) (λr s'=>r= .yield ⟨⟩/\R s') E s):∀(r:List D) (rv:List V) ru (dn:List D) (dv:List V) (du:List zh) (e:Nat) (μ:List Addr) (G:DH) (H:Hp) (s:zv),
   j9 (wc X) μ H r rv->m9 rv ru->j9 (wc X) μ H dn dv->m9 dv du->m6 (wc X) μ G H->Inv X pins σ H s->s.heap.get? kS=some (zR "list" (zJ du) e)->s.heap.get? a=some (zR "list" #[] e1)->H a=none->H kS=none->du.length+ru.length<64->
   c7 (wc X) ZF μ H (Q7 F r G) (λks X9 G' H'=>∀(s':zv) (kv:List V) (ku:List zh) (e':Nat),Ext μ H X9 H'->m6 (wc X) X9 G' H'->j9 (wc X) X9 H' (dn++ks) kv->m9 kv ku->Inv X pins σ H' s'->s'.heap.get? kS=some (zR "list" (zJ ku) e')->s'.heap.get? a=some (zR "list" #[] e1)->H' a=none->H' kS=none->R s')->
   zq (zC X.prog X.w) A (forIn ru PUnit.unit body) (λ_ s'=>R s') E s
 |[],_,_,dn,dv,du,e,μ,G,H,s,r1,r2,q1,q2,hr,I,g1,g2,n1,n2,hl,p=>by
   cases r1;cases r2
   rw[YH];exact ze (c7.ok p hr s dv du e (Ext.refl _ _) hr (by rw[jT];exact q1) q2 I g1 g2 n1 n2)
 |d::r,_,_,dn,dv,du,e,μ,G,H,s,r1,r2,q1,q2,hr,I,g1,g2,n1,n2,hl,p=>by
   obtain⟨v,rv,rfl,rd,rr⟩:=r1
   cases r2 with
   |cons ru rur=>
   rename_i u ur;rw[Zp];have hfp:∀b∈ [a,kS],B1 X pins H b:=λb hb=>by
    rcases zu.mp hb with rfl|hb
    ·exact fa H n1
    ·rw[zm]at hb;subst hb;exact fk H n2
   have IX:=Hk (I.pinned hfp (λb hb=>by
    rcases zu.mp hb with rfl|hb
    ·exact⟨_,g2,λv z=>by cases z⟩
    ·rw[zm]at hb;subst hb;exact⟨_,g1,λv z=>by cases z⟩)) h1 h2
   have pb:=PJ (c7.bind p);have call:=aN (X:=Cx.rm X A) (Q:=λv' H'=>∃k X0 G1,Ext μ H X0 H'/\m6 (wc X) X0 G1 H'/\d7 (wc X) X0 H' k v'/\c7 (wc X) ZF X0 H' ((Q7 F r >>= λks=>pure (k::ks)) G1) _) hF hA hb .nil lL IX (show m9 [v] [u]from .cons ru .nil)
    (⟨rfl, [d],μ,G,⟨v, [],rfl,rd,rfl⟩,hr,pb.mono λk X0 G1 H1 x1 hr1 p1 v' rv'=>⟨k,X0,G1,x1,hr1,rv',p1⟩⟩)
   refine za (jF (hbd u s (λs'=>zq (zC X.prog X.w) A (forIn ur PUnit.unit body) (λ_ s'=>R s') E s') (jF call (λkv s' hk=>?_) λ_ _ z=>z)) (λq s' hq=>?_) λ_ _ z=>z)
   · obtain⟨v',H',I',rv',k0,X0,G1,x1,hr1,rk,p1⟩:=hk;have I2:=gu I' h1 h2;obtain⟨g1',n2',_⟩:=I2.pin (kS,zR "list" (zJ du) e) (zO _ (zO _ (V7 (by simp) g1)));obtain⟨g2',n1',_⟩:=I2.pin (a,zR "list" #[] e1) (zO _ (zO _ (V7 (by simp) g2)));rw[zr]at hl;refine⟨du,e,by lia,g1',?_⟩;have ea:(zJ du).push kv=zJ (du++[kv]):=by simp
     obtain⟨c2,hc2⟩:∃c2,(s'.heap.update kS (zT (·.push kv))).get? kS=some (zR "list" (zJ (du++[kv])) c2):=⟨_,by rw[<-ea];exact yZ g1' (·.push kv)⟩;have I3:=vK (h':=s'.heap.update kS (zT (·.push kv))) (t':=s'.toks) I2.unpinned (λb hb=>by rw[zm]at hb;subst hb;exact fk H' n2') (λb o hb e=>by rw[zm]at hb;rw[jM _ _ _ _ hb];exact e)
     refine GJ hF hb hA h1 h2 fa fk ne hbd r rv ur (dn++[k0]) (dv++[v']) (du++[kv]) c2 X0 G1 H' _ (rr.mono x1) rur (j9.append (q1.mono x1) ⟨v', [],rfl,rk,rfl⟩) (q2.append (show m9 [v'] [kv]from .cons rv' .nil)) hr1 I3 hc2 (by rw[jM _ _ _ _ ne];exact g2') n1' n2' (by rw[zd,jE];lia) ?_;refine(c7.bind p1).mono λks WX G2 H2 x2 hr2 p2 s3 kv2 ku2 e2 x2' hr2' a1 a2 a3 a4 a5 a6 a7=>?_;exact c7.ok p2 hr2 s3 kv2 ku2 e2 (x1.trans x2) hr2 (by rw[zA]at a1;exact a1) a2 a3 a4 a5 a6 a7
   ·obtain⟨rfl,hq⟩:=hq;exact hq
end
section
theorem TM{ch:List Addr}(I:Inv X pins σ H s)(hf:∀b∈ch,B1 X pins H b)(ha:a∈ch)(k:∀b o,b∉ch->s.heap.get? b=some o->h'.get? b=some o)
 (new:N7 X.prog X.w (upd H a (.lst ws)) h' a (.lst ws)):Inv X pins σ (upd H a (.lst ws)) {s with heap:=h',toks:=t'}:=by
 have hq:H a=none:=(hf a ha).1;have nch:∀b u,H b=some u->b∉ch:=λb u e z=>by rw[(hf b z).1]at e;cases e
 refine I.step (λb hb=>⟨(hf b hb).2.2.2.1,(hf b hb).2.1,(hf b hb).2.2.2.2.1,(hf b hb).2.2.2.2.2⟩) (λb o _ _ hc e _=>k b o hc e) (λb o _ _ hc e _=>⟨o.slots,k b o hc e⟩)
  (λb o hc e n=>by rw[m8 (λz=>hc (by rw[z];exact ha))];exact n) (λb o hc e=>⟨o,k b o hc e⟩) (λb xs e=>by rw[m8 (o4 e hq)];exact e) (λb o u e=>by rw[m8 (o4 e hq)];exact e)
  (λb ps e=>⟨#[],by rw[m8 (o4 e hq),e];simp⟩) (λm hm=>?_) (λb u e=>?_) I.bare
 ·obtain⟨o,es,ep,ho,r⟩:=hm;exact⟨o,es,ep,k _ o (λz=>(hf _ z).2.1 rfl) ho,r⟩
 · by_cases hb:b=a
   · subst hb;rw[w5]at e
     cases e
     exact new
   · rw[m8 hb]at e;refine(I.hok b u e).stay (λc v hc q=>k c v ?_ q) (λc q=>by rw[m8 (o4 q hq)];exact q) λc xs q=>by rw[m8 (o4 q hq)];exact q
     rcases hc with z|z
     ·rw[z];exact nch b u e
     ·exact nch c _ z
def d6(h:Heap)(u:zh)(q:Int×Str):Prop:=∃a t t',u= .ref a/\YF h a #[.int q.1 t,.str q.2 t']
def MA(u:zh)(q:Int×Str):Prop:=∃t,q.1=0/\u= .str q.2 t
def t9(P:zh->Int×Str->Prop)(ku:List zh)(qs:List (Int×Str)):Prop:=∀(i:Nat) (q:Int×Str),qs[i]? =some q->∃u,ku[i]? =some u/\P u q
theorem vF{g:D->Option (Int×Str)}{P:zh->Int×Str->Prop}(hg:∀d q v u,g d=some q->d7 (wc X) μ H d v->t6 v u->P u q):∀ {ks qs kv ku},F5 g ks=some qs->j9 (wc X) μ H ks kv->m9 kv ku->qs.length=ku.length/\t9 P ku qs
 |[],qs,kv,ku,e,r,rv=>by
   cases e;cases r;cases rv
   exact⟨rfl,λi q z=>by simp at z⟩
 |d::r,qs,kv,ku,e,rr,rv=>by
   obtain⟨v,tl,rfl,rd,rt⟩:=rr
   cases rv with
   |cons ru rur=>
   rename_i u ur;unfold F5 at e;rcases h1:g d with _|a
   ·rw[h1]at e;cases e
   rcases h2:F5 g r with _|b
   ·rw[h1,h2]at e;cases e
   rw[h1,h2]at e
   cases e
   obtain⟨hl,hk⟩:=vF hg h2 rt rur;refine⟨by simp[hl],λi q z=>?_⟩
   cases i with
   |succ i=>simpa using hk i q (by simpa using z)
   |zero=>
     simp at z;subst z;exact⟨u,rfl,hg d a v u h1 rd ru⟩
theorem bZ(I:Inv X pins σ H s){ks qs kv ku}(e:iC ks=some qs)(rr:j9 (wc X) μ H ks kv)(rv:m9 kv ku):qs.length=ku.length/\(t9 (d6 s.heap) ku qs\/t9 MA ku qs):=by
 unfold iC at e;rcases h:F5 oA ks with _|q
 · rw[h]at e;have:=vF (P:=MA) (λd q v u h1 rd ru=>by
    rcases d with _|_|_|x|_|_|_|_<;>try (cases h1;done)
    cases h1
    rw[U1 rd]at ru;obtain⟨t,rfl⟩:=ru;exact⟨t,rfl,rfl⟩) e rr rv
   exact⟨this.1,.inr this.2⟩
 · rw[h]at e
   cases e
   have:=vF (P:=d6 s.heap) (λd q v u h1 rd ru=>by
    unfold oA at h1;split at h1
    · cases h1
      unfold d7 at rd;obtain⟨ad,vs,rfl,q,rl⟩:=rd;obtain⟨v1,t1,rfl,e1,v2,t2,rfl,e2,e3⟩:=rl
      cases e3
      rw[U3 e1,U1 e2]at q
      cases ru
      obtain⟨ka,rvs,tp,_⟩:=I.tuple q
      cases rvs with
      |cons r1 rr1=>
        cases rr1 with
        |cons r2 rr2=>
          cases rr2
          obtain⟨t,rfl⟩:=r1;obtain⟨t',rfl⟩:=r2;exact⟨ad,t,t',rfl,tp⟩
    ·cases h1) h rr rv
   exact⟨this.1,.inl this.2⟩
end
section
theorem PV(hx:MA u q)(hy:MA u' q')(h:C (V9 q q') s):zq (zC prog w) A (keyLt' oneType' u u') C E s:=by obtain⟨t,e,rfl⟩:=hx;obtain⟨t',e',rfl⟩:=hy;rw[keyLt'_oneType];unfold V9 at h;rw[if_pos (e.trans e'.symm)]at h;exact oneLt_str h
theorem TY(hx:d6 s.heap u q)(hy:d6 s.heap u' q')(h:C (V9 q q') s):zq (zC prog w) A (keyLt' (tuples' true) u u') C E s:=by
 obtain⟨a,t,t',rfl,o,ho,hc,n,hd⟩:=hx;obtain⟨b,v,v',rfl,o2,mo,hc2,n2,hd2⟩:=hy;refine PySem.W.kat_lt ho hd mo hd2 ?_;show PySem.W.KatLex prog w A true _ C [(.int q.1 t,.int q'.1 v),(.str q.2 t',.str q'.2 v')] 0 s;refine ZS (Zh (Ys (λe=>?_) λe=>?_))
 · have e1:q.1=q'.1:=by simpa using e
   refine Ya (ZS (eqBool_str (Ys (λe=>?_) λe=>?_)))
   · have e2:q.2=q'.2:=by simpa using e
     have eq:q=q':=Prod.ext e1 e2;refine Ya (PySem.W.kat_nil ?_);rw[eq,GC]at h;exact h
   ·refine Yr (PySem.W.kat_one _ _ (PySem.P.lt_str ?_));unfold V9 at h;rw[if_pos e1]at h;exact h
 · have e1:¬q.1=q'.1:=by simpa using e
   refine Yr ?_;show zq (zC prog w) A (oneLt' true _ _) C _ s;rw[<-keyLt'_oneType];refine PySem.W.kat_lt_int ?_;unfold V9 at h;rw[if_neg e1]at h;exact h
theorem FG{st:SortSt}(hout:(Yl st).map (·.2)=zJ out)(hz:out.length<64)(hkz:ku.length<64)(hf:YE st=none)(ho1:s.heap.get? kS=some (zR "list" (zJ ku) e))(mo:s.heap.get? a=some (zR "list" #[] e1))(ne:a≠kS)
 (h:∀(h':Heap) (e':Nat),(∀b o,b∉ [a,kS]->s.heap.get? b=some o->h'.get? b=some o)->h'.get? a=some (zR "list" (zJ out) e')->P (.done (.ret .none)) {s with heap:=h'}):zq (zC prog w) A (ksk_tail a false e1 (.ref kS) st) P E s:=by
 have na:(s.heap.update kS (zT λ_=>(#[]:Array zh))).get? a=some (zR "list" #[] e1):=by rw[jM _ _ _ _ ne];exact mo
 obtain⟨c2,hc2⟩:∃c2,((s.heap.update kS (zT λ_=>(#[]:Array zh))).update a (zT λ_=>zJ out)).get? a=some (zR "list" (zJ out) c2):=⟨_,yZ na λ_=>zJ out⟩;unfold ksk_tail
 try dsimp only
 rw[hout];refine za (yw ho1 rfl ?_ (by rw[zl,ju];lia) (zD _));refine za (JL ?_);refine za (xR na rfl ?_);refine za (yw na rfl ?_ (zD _) (zQ (Xx (zl ..)) (by rw[ju];lia)));rw[hf];simp only[bne_self_eq_false,zy,if_false];refine ze (h _ c2 (λb o hb eo=>?_) hc2);have nv:b≠a/\b≠kS:=by simpa using hb
 rw[jM _ _ _ _ nv.1,jM _ _ _ _ nv.2];exact eo
theorem SQ{qs:List (Int×Str)}{ku:List zh}(hq:qs.length=ku.length)(h2:2<=ku.length)(hk:t9 (d6 s.heap) ku qs\/t9 MA ku qs):∃kd,(∀(Q:SortKind->zv->Prop) (E:VSP),Q kd s->zq (zC prog w) A (keyKind' ku.toArray) Q E s)/\∀(i j:Nat) q q' C,qs[i]? =some q->qs[j]? =some q'->C (V9 q q') s->xi prog w A kd ku i j C s:=by
 rcases hk with hk|hk
 · obtain⟨fs,T,hfs,hT⟩:∃fs:List zh,xO s.heap ku fs/\0<fs.length/\∀v∈fs,∃n t,v= .int n t:=by
    have gen:∀(ku:List zh) (qs:List (Int×Str)),qs.length=ku.length->t9 (d6 s.heap) ku qs->∃fs:List zh,xO s.heap ku fs/\fs.length=ku.length/\∀v∈fs,∃n t,v= .int n t:=by
     intro ku
     induction ku with
     |nil=>exact λqs _ _=>⟨[],trivial,rfl,λv hv=>by cases hv⟩
     |cons u r ih=>
       intro qs hl hk;rcases qs with _|⟨q,qr⟩
       ·simp at hl
       obtain⟨u',e1,ad,t,t',rfl,o,ho,hc,n,hd⟩:=hk 0 q rfl;simp at e1;subst e1;obtain⟨fs,f1,f2,f3⟩:=ih qr (by simpa using hl) λi q hq=>by simpa using hk (i+1) q (by simpa using hq)
       refine⟨.int q.1 t::fs,ZJ ho hc hd rfl f1,by simp[f2],λv hv=>?_⟩;rcases zu.mp hv with rfl|hv
       ·exact⟨_,_,rfl⟩
       ·exact f3 v hv
    obtain⟨fs,f1,f2,f3⟩:=gen ku qs hq hk;exact⟨fs,f1,by lia,f3⟩
   refine⟨_,λQ E h=>Xj (T:=.type "int") T hfs (λv hv=>?_) (by decide) h,λi j q q' C e1 e2 hC=>?_⟩
   ·obtain⟨n,t,rfl⟩:=hT v hv;exact ZI rfl
   ·obtain⟨u,u1,u2⟩:=hk i _ e1;obtain⟨v,v1,v2⟩:=hk j _ e2;unfold xi;rw[zn,zn,u1,v1];exact TY u2 v2 hC
 · have gen:∀(ku:List zh) (qs:List (Int×Str)),qs.length=ku.length->t9 MA ku qs->StrsAre ku (qs.map (·.2)):=by
    intro ku
    induction ku with
    |nil=>
      intro qs hl _;rcases qs with _|⟨q,r⟩
      ·exact .nil
      ·simp at hl
    |cons u r ih=>
      intro qs hl hk;rcases qs with _|⟨q,qr⟩
      ·simp at hl
      obtain⟨u',e1,t,_,rfl⟩:=hk 0 q rfl;simp at e1;subst e1;exact .cons q.2 t (ih qr (by simpa using hl) λi q hq=>by simpa using hk (i+1) q (by simpa using hq))
   have hS:=gen ku qs hq hk;refine⟨oneType',λQ E h=>?_,λi j q q' C e1 e2 hC=>?_⟩
   · rcases ku with _|⟨v1,_|⟨v2,vr⟩⟩
     ·simp at h2
     ·simp at h2
     ·rw[keyKind_strs hS];exact ze h
   ·obtain⟨u,u1,u2⟩:=hk i _ e1;obtain⟨v,v1,v2⟩:=hk j _ e2;unfold xi;rw[zn,zn,u1,v1];exact PV u2 v2 hC
theorem Cd{e e1:Nat}{ku vs:List zh}{qs:List (Int×Str)}(hl:ku.length=vs.length)(mz:vs.length<64)(hq:qs.length=ku.length)(hk:t9 (d6 s.heap) ku qs\/t9 MA ku qs)(nd:qs.Nodup)
 (ho1:s.heap.get? kS=some (zR "list" (zJ ku) e)) (mo:s.heap.get? a=some (zR "list" #[] e1)) (ne:a≠kS)
 (h:∀(h':Heap) (e':Nat) (p:List Nat),p.Perm (zF vs.length)->p.Pairwise (λi j=>V9 (qs.getD i (0, "")) (qs.getD j (0, ""))=true)->(∀b o,b∉ [a,kS]->s.heap.get? b=some o->h'.get? b=some o)->h'.get? a=some (zR "list" (zJ (p.map λi=>vs.getD i Value.none)) e')->P (.done (.ret .none)) {s with heap:=h'}):
 zq (zC prog w) A (ksk_end a false vs.toArray e1 (.ref kS) (zJ ku)) P E s:=by
 unfold ksk_end
 try dsimp only
 simp only[zy,if_false];by_cases h2:vs.toArray.size<2
 · rw[if_pos h2,if_pos h2];refine za (ze ?_);rw[Ye];refine za (ze ?_);dsimp only;have hv:(Yl (XY general' ((zJ ku).zip vs.toArray) #[] 7 none)).map (·.2)=zJ ((zF vs.length).map λi=>vs.getD i Value.none):=by
    show ((zJ ku).zip vs.toArray).map (·.2)=_;apply xc.mp;rw[ZZ];apply yn
    ·simp[hl]
    ·intro i hi hj;simp at hi hj ⊢;simp[hj]
   refine FG hv (by simp;lia) (by lia) rfl ho1 mo ne λh' e' k1 k2=>h h' e' _ (List.Perm.refl _) ?_ k1 k2;have:vs.length<2:=by simpa using h2
   match hn:vs.length,this with
   |0,_=>simp
   |1,_=>simp[Yv]
 · rw[if_neg h2,if_neg h2];have hn2:2<=vs.length:=by simpa using h2
   let lt:Nat->Nat->Bool:=λi j=>V9 (qs.getD i (0, "")) (qs.getD j (0, ""))
   have gq:∀i,i<vs.length->qs[i]? =some (qs.getD i (0, "")):=λi hi=>by rw[zn,zo (by lia)];rfl
   have O:D6 lt vs.length:=⟨λi j k h1 h2=>kA h1 h2,λi j hi hj hij h=>eC (λee=>hij ?_) h⟩
   case refine_1=>
    have e1:=gq i hi;have e2:=gq j hj;rw[ee]at e1;have li:i<qs.length:=by lia
    exact(List.getElem?_inj li nd).mp (e1.trans e2.symm)
   obtain⟨kd,hkd,ky⟩:=SQ hq (by lia) hk;refine za (hkd _ _ ?_)
   · have run:=tOk.wp (λi j C hi hj hC=>ky i j _ _ C (gq i hi) (gq j hj) hC) _ (AN O hn2);refine za (jF (Yb (Q:=λma s'=>∃p:Array Nat,p.size=vs.length/\Yl ma=p.map (ZT ((zJ ku).zip vs.toArray))/\YE ma=none/\s'=s/\J4 p vs.length/\P4 lt p vs.length) hl hn2 mz (λp ma s' a1 a2 a3 a4=>⟨p,a1,a2,a3,a4⟩) run) ?_ λ_ _ x=>x);rintro⟨⟨⟩,ma⟩ s' ⟨p,hp,har,hf,rfl,P1,U⟩
     try dsimp only
     refine FG (ZR hl har) (by rw[zf,zI,hp];exact mz) (by lia) hf ho1 mo ne λh' e' k1 k2=>h h' e' p.toList P1.pm ?_ k1 k2;rw[xN];intro i j hi hj hij;have hi':i<p.size:=by simpa using hi
     have hj':j<p.size:=by simpa using hj
     have:=U i j hij (by lia);simpa [Zz,hi',hj',lt]using this
end
section
theorem pQ{p:List Nat}{l:List α}(h:p.Perm (zF n))(hn:l.length=n):(p.map λi=>l.getD i d).Perm l:=by
 have e:(zF n).map (λi=>l.getD i d)=l:=by
  apply yn
  ·simp[hn]
  ·intro i hi hj;simp[hj]
 have:=h.map λi=>l.getD i d;rw[e]at this;exact this
theorem iK{qs:List (Int×Str)}{l:List D}(h1:i<qs.length)(h2:i<l.length):(qs.zip l).getD i ((0, ""),.non)= (qs[i],l[i]):=by rw[zn,zo (by simp;lia),List.getElem_zip];rfl
theorem SW{qs:List (Int×Str)}{vs:List zh}{p:List Nat}(hl:qs.length=l.length)(rl:j9 (wc X) μ H l ws)(rv:m9 ws vs)(nd:qs.Nodup)(hp:p.Perm (zF vs.length))(hs:p.Pairwise (λi j=>V9 (qs.getD i (0, "")) (qs.getD j (0, ""))=true)):
 ∃ws',m9 ws' (p.map λi=>vs.getD i Value.none)/\j9 (wc X) μ H (t5 qs l) ws'/\ws'.length=vs.length:=by
 have hlv:l.length=vs.length:=by rw[rl.length,rv.length]
 have hz:(qs.zip l).length=vs.length:=by simp[hl,hlv]
 have e:=gK nd (pQ hp hz) (by
  rw[jC];refine hs.imp_of_mem λ{i j} hi hj h=>?_;have li:i<vs.length:=by simpa using hp.mem_iff.mp hi
  have lj:j<vs.length:=by simpa using hp.mem_iff.mp hj
  have ei:((qs.zip l).getD i ((0, ""),.non)).1=qs.getD i (0, ""):=by rw[iK (by lia) (by lia),zn,zo (by lia)];rfl
  have ej:((qs.zip l).getD j ((0, ""),.non)).1=qs.getD j (0, ""):=by rw[iK (by lia) (by lia),zn,zo (by lia)];rfl
  unfold w9;rw[ei,ej];simp only[yE];refine yW.mpr λh2=>?_;have:=kA h h2;rw[GC]at this;cases this)
 rw[jv]at e;have main:∀p:List Nat,(∀i∈p,i<vs.length)->∃ws',m9 ws' (p.map λi=>vs.getD i Value.none)/\j9 (wc X) μ H (p.map λi=>((qs.zip l).getD i ((0, ""),.non)).2) ws'/\ws'.length=p.length:=by
  intro p
  induction p with
  |nil=>exact λ_=>⟨[],.nil,rfl,rfl⟩
  |cons i r ih=>
    intro hi;obtain⟨ws',a1,a2,a3⟩:=ih λj hj=>hi j (zi _ hj);have li:=hi i (by simp);obtain⟨v,e1,r1⟩:=rl.get (d:=l[i]'(by lia)) (zo (by lia));obtain⟨u,e2,r2⟩:=rv.get e1;refine⟨v::ws',?_,⟨v,ws',rfl,?_,a2⟩,by simp[a3]⟩
    · have:vs.getD i Value.none=u:=by rw[zn,e2];rfl
      rw[zK,this];exact .cons r2 a1
    · have:((qs.zip l).getD i ((0, ""),.non)).2=l[i]'(by lia):=by rw[iK (by lia) (by lia)]
      show d7 (wc X) μ H (((qs.zip l).getD i ((0, ""),.non)).2) v;rw[this];exact r1
 obtain⟨ws',a1,a2,a3⟩:=main p λi hi=>by simpa using hp.mem_iff.mp hi
 exact⟨ws',a1,by rw[<-e];exact a2,by rw[a3,hp.length_eq];simp⟩
theorem GQ(hF:E2 X.prog X.w X.K X.mg X.base CX0 k f fd ps (spD (wc X) 1 F))(hb:A4 X.K fd ps [])(hrm:O3 (k+2) X.A)(I:Inv X pins σ H s)(hr:m6 (wc X) μ G H)(mz:l.length<64)
 (hcol:∀Q',(∀h1 tk vs ws,(∀b o,s.heap.get? b=some o->h1.get? b=some o)->m9 ws vs->j9 (wc X) μ H l ws->Q' vs {s with heap:=h1,toks:=tk})->zq (zC X.prog X.w) X.A.in1 (collect u) Q' X.xe s)
 (p:c7 (wc X) Z μ H (eB F l G) (λd X9 _ H'=>∀v,d7 (wc X) X9 H' d v->Q v H')):zq (zC X.prog X.w) X.A (call (.builtin "sorted") [u] [(jq "key",.ref f)]) (EP X pins σ Q) X.xe s:=by
 refine call_function_entry_kw JR Ji Jj (ksk_s1 _ _) ?_;unfold yt.«sorted»;refine za (ze ?_);refine za (hcol _ λh1 tk vs ws k1 rv rl=>?_);have hlv:l.length=vs.length:=by rw[rl.length,rv.length]
 refine za (xC ?_ (by rw[ju];lia));have I1:Inv X pins σ H {s with heap:=h1,toks:=tk}:=I.kept k1;have hoL:(h1.push (zR "list" vs.toArray 0)).get? h1.objs.size=some (zR "list" vs.toArray 0):=zp _ rfl;refine za (jy (wpAny_call_entry_kw Xm ⟨_,hoL,rfl⟩ YO ?_ (ksk_l1 _ _)));show zq (zC X.prog X.w) X.A.in1.in1 (yt.«list.sort» ⟨[.ref h1.objs.size], [(jq "key",.ref f)]⟩) _ _ _;rw[ksk_t1];unfold ksk_tree;refine za (ZV hoL rfl ?_);refine za (yw hoL rfl ?_ (by rw[zl,ju];lia) (zD _));obtain⟨e1,ho1⟩:∃e1,((h1.push (zR "list" vs.toArray 0)).update h1.objs.size (zT λ_=>(#[]:Array zh))).get? h1.objs.size=some (zR "list" #[] e1):=⟨_,yZ hoL λ_=> #[]⟩;refine za (xR ho1 rfl ?_);refine za (Zg ?_ (by show vs.length<=_;rw[ju];lia));refine za (xC ?_ (zD _));refine jy ?_;have hsz:((h1.push (zR "list" vs.toArray 0)).update h1.objs.size (zT λ_=>(#[]:Array zh))).objs.size=h1.objs.size+1:=by rw[Heap.size_update,size_push']
 have hkS:(((h1.push (zR "list" vs.toArray 0)).update h1.objs.size (zT λ_=>(#[]:Array zh))).push (zR "tuple" vs.toArray 0)).objs.size=h1.objs.size+2:=by rw[size_push',hsz]
 have keep:∀b o,h1.get? b=some o->((((h1.push (zR "list" vs.toArray 0)).update h1.objs.size (zT λ_=>(#[]:Array zh))).push (zR "tuple" vs.toArray 0)).push (zR "list" #[] 0)).get? b=some o:=λb o q=>by have ky:b<h1.objs.size:=zw q;rw[xy _ _ _ (by rw[hkS];exact zG (jR (jR ky))),xy _ _ _ (by rw[hsz];exact zG (jR ky)),jM _ _ _ _ (zG ky),xy _ _ _ (zG ky)];exact q
 have I2:Inv X pins σ H {s with heap:=(((h1.push (zR "list" vs.toArray 0)).update h1.objs.size (zT λ_=>(#[]:Array zh))).push (zR "tuple" vs.toArray 0)).push (zR "list" #[] 0),toks:=tk}:=I1.kept keep;have na:H h1.objs.size=none:=I1.hok.fresh (zg _);have nk:H (h1.objs.size+2)=none:=I1.hok.fresh (xM _ _);have ga:((((h1.push (zR "list" vs.toArray 0)).update h1.objs.size (zT λ_=>(#[]:Array zh))).push (zR "tuple" vs.toArray 0)).push (zR "list" #[] 0)).get? h1.objs.size=some (zR "list" #[] e1):=zc _ (zc _ ho1);have gk:((((h1.push (zR "list" vs.toArray 0)).update h1.objs.size (zT λ_=>(#[]:Array zh))).push (zR "tuple" vs.toArray 0)).push (zR "list" #[] 0)).get? (h1.objs.size+2)=some (zR "list" (zJ []) 0):=by rw[<-hkS];exact zp _ rfl
 have fa:∀H':Hp,H' h1.objs.size=none->B1 X pins H' h1.objs.size:=λH' hn=>I1.fpOk (zg _) hn;have fk:∀H':Hp,H' (h1.objs.size+2)=none->B1 X pins H' (h1.objs.size+2):=λH' hn=>I1.fpOk (xM _ _) hn;have ne:h1.objs.size≠h1.objs.size+2:=by lia
 unfold eB at p;have pk:c7 (wc X) ZF μ H (Q7 F l G) (λks X9 G' H'=>ks.length=l.length/\c7 (wc X) Z X9 H' ((C1 (iC ks) >>= λqs=>if qs.Nodup then J8 (.lst (t5 qs l))else M.stuck) G') (λd X9 _ H'=>∀v,d7 (wc X) X9 H' d v->Q v H')):=by
  have q:=c7.bind p;have hkl:∀(l:List D) (G:DH) (ks:List D) (G':DH),Q7 F l G=some (.ok ks,G')->ks.length=l.length:=by
   intro l
   induction l with
   |nil=>intro G ks G' z;cases z;rfl
   |cons d r ih=>
     intro G ks G' z;unfold Q7 at z;rw[M.bind_eq]at z
     match h:noX (F [d]) G,z with
     |some (.ok kk,G1),z=>
       dsimp only at z;rw[M.bind_eq]at z
       match h2:Q7 F r G1,z with
       |some (.ok ks,G2),z=>
         cases z
         simp[ih _ _ _ h2]
  have kne:∀(l:List D) (G:DH) (x:Str) (G':DH),Q7 F l G≠some (.error x,G'):=by
   intro l
   induction l with
   |nil=>intro G x G' z;cases z
   |cons d r ih=>
     intro G x G' z;unfold Q7 at z;rw[M.bind_eq]at z;have nx:∀x G',noX (F [d]) G≠some (.error x,G'):=λx G' z=>by
      unfold noX at z
      try dsimp only at z
      split at z<;>cases z
     match h:noX (F [d]) G,z with
     |some (.error y,G1),z=>exact nx _ _ h
     |some (.ok kk,G1),z=>
       dsimp only at z;rw[M.bind_eq]at z
       match h2:Q7 F r G1,z with
       |some (.error y,G2),z=>exact ih _ _ _ h2
       |some (.ok ks,G2),z=>cases z
  match hh:Q7 F l G,q with
  |some (.ok ks,G1),q=>exact λX9 H' x h=>⟨hkl _ _ _ _ hh,q X9 H' x h⟩
  |some (.error x,G1),q=>exact(kne _ _ _ _ hh).elim
 rw[hkS];show zq (zC X.prog X.w) X.A.in1.in1 (ksk_rest h1.objs.size (.ref f) false vs.toArray e1 (.ref (h1.objs.size+2))) _ _ _;unfold ksk_rest;refine za (Zr ?_)
 first
  |rw[List.forIn_toArray]
  |(rw[<-xj];simp only[List.toList_toArray])
  |rw[<-xj]
 refine za (GJ (σ:=σ) hF hb hrm.in1.in1 rfl ⟨rfl,rfl⟩ fa fk ne (λx s0 R hx=>?_) l ws vs [] [] [] 0 μ G H _ rl rv rfl .nil hr I2 gk ga na nk (by simp;lia) ?_)
 · refine za (xD (jF hx (λkv s'' hk=>?_) λ_ _ hF=>hF.elim));obtain⟨ks,e,hks,g,hR⟩:=hk
   try dsimp only
   refine za (yw g rfl ?_ (by rw[zl,ju];lia) (zQ (Xx (Array.size_push ..)) (by rw[zl,ju];lia)));exact ze ⟨rfl,hR⟩
 · refine pk.mono λks X9 G' H' x1 hr1 ⟨hks,p1⟩ s' kv ku e' _ _ q1 q2 I' g1 g2 n1 n2=>?_;rw[Zo]at q1;obtain⟨qs,eq,p2⟩:=R1 p1;split at p2
   case isFalse=>exact p2.elim
   rename_i nd;obtain⟨nh,hk1⟩:=bZ I' eq q1 q2
   try dsimp only
   refine za (ZV g1 rfl ?_);have hkv:ku.length=vs.length:=by rw[<-q2.length,<-q1.length,hks,hlv]
   refine Cd hkv (by lia) nh hk1 nd g1 g2 ne λh' e2 pp hp hs keep2 gg=>?_;have mf:j9 (wc X) X9 H' l ws:=rl.mono x1;obtain⟨ws',a1,a2,a3⟩:=SW (by rw[nh,hkv,hlv]) mf rv nd hp hs;refine⟨_,rfl,ze ⟨_,rfl,.ref h1.objs.size,upd H' h1.objs.size (.lst ws'),TM I' (λb hb=>?_) (by simp) keep2 ⟨by rw[a3,ju];lia,_,e2,a1,gg⟩,rfl,T7 hr1 a2 p2 _ n1⟩⟩;rcases zu.mp hb with rfl|hb
   ·exact fa _ n1
   ·rw[zm]at hb;subst hb;exact fk _ n2
theorem lY(hc:X.calm=true)(hF:E2 X.prog X.w X.K X.mg X.base CX0 k f fd ps (spD (wc X) 1 F))(hb:A4 X.K fd ps [])(hrm:O3 (k+2) X.A)(I:Inv X pins σ H s)(hr:m6 (wc X) μ G H)(rd:d7 (wc X) μ H d v)(ru:t6 v u)
 (p:c7 (wc X) Z μ H (oB F d G) (λd X9 _ H'=>∀v,d7 (wc X) X9 H' d v->Q v H')):zq (zC X.prog X.w) X.A (call (.builtin "sorted") [u] [(jq "key",.ref f)]) (EP X pins σ Q) X.xe s:=by
 have seq:∀ {a:Addr} {T:String} {o:Obj} {ka:List zh} {vs:List V} {n:Nat} {l:List D},(T= "list"\/T= "tuple")->s.heap.get? a=some o->o.cls= .type T->o.data= .seq ka.toArray n->m9 vs ka->j9 (wc X) μ H l vs->vs.length<=zk->
  c7 (wc X) Z μ H ((if l.length<64 then eB F l else M.stuck:M D) G) (λd X9 _ H'=>∀v,d7 (wc X) X9 H' d v->Q v H')->zq (zC X.prog X.w) X.A (call (.builtin "sorted") [.ref a] [(jq "key",.ref f)]) (EP X pins σ Q) X.xe s:=by
  intro a T o ka vs n l hT h1 h2 h3 rv rl hz p;split at p
  case isFalse=>exact p.elim
  rename_i mz;refine GQ hF hb hrm I hr mz (λQ' hQ=>Jb a hT h1 h2 h3 (λh' kk=>?_) (by rw[zl,<-rv.length];exact hz)) p;exact hQ h' s.toks ka vs kk rv rl
 unfold oB at p;split at p
 · rename_i l;unfold d7 at rd;obtain⟨a,vs,rfl,q,rl⟩:=rd
   cases ru
   obtain⟨ka,rv,⟨o,h1,h2,n,h3⟩,hz⟩:=I.tuple q;exact seq (.inr rfl) h1 h2 h3 rv rl hz p
 · rename_i i;unfold d7 at rd;obtain⟨a,m,rfl⟩:=rd
   cases ru
   obtain⟨o,g,p1⟩:=G9 p;have ro:=hr.obj i o a g m;rcases o with l|l|l|l
   ·
     obtain⟨vs,q,rl⟩:=ro;obtain⟨ka,rv,pl,hz⟩:=I.list (SqL.of q);obtain⟨o,h1,h2,n,h3⟩:=pl.isList;exact seq (.inl rfl) h1 h2 h3 rv rl hz p1
   ·exact p1.elim
   ·
     obtain⟨iz,q,rk⟩:=ro;obtain⟨ss,es,p2⟩:=R1 p1;split at p2
     case isFalse=>exact p2.elim
     rename_i mz;obtain⟨z,hd,vs,rel,dd⟩:=ID I.hok q;obtain⟨ep,hat⟩:=dd.dictAt;have hn:vs.length=ss.length:=by rw[AR es,<-rel.length,<-rk.length]
     refine GQ hF hb hrm I hr (by simpa using mz) (λQ' hQ=>PySem.W.kdu_collect (PySem.W.kdl_dict hd) (I.ok.hd hc) hat (by rw[ju];omega) λh1 tk kr hk nq=>?_) p2;have hS:StrsAre kr.toList ss:=FP es rk rel (by rw[zI];exact nq.1) λj v e=>nq.2 j v (by rw[<-zL];exact e);obtain⟨ws,ew,rv,rl2⟩:=kN (μ:=μ) hS;exact hQ h1 tk kr.toList ws hk rv rl2
   ·exact p1.elim
 ·exact p.elim
end
section
theorem NY(hc:X.calm=true)(hF:∃k kk,lA F 1 x X.prog X.w X.K X.mg X.base k/\O3 kk X.A/\k+2<=kk)(om:BLs X.mg)(hgs:Gl X "sorted")(hg:Gl X x)(he:DE X Z e fe)(hs:S5 e=true)(hdb:(x==("__debug__" :Str))=false):
 DE X Z (.Call (.Name "sorted" p) [e] [⟨some "key",.Name x pf,kp⟩] pos) (VC F fe):=⟨by
 intro pins s σ H Q I h;obtain⟨k,kk,hF,hrm,hk⟩:=hF;obtain⟨f,fd,ps,f1,f2,f3,f4⟩:=hF.ex;have hbs:je ("sorted" :Str)=some (.builtin "sorted"):=wE;refine yT (y9 I hgs (om.h _ (by decide +kernel)) hbs ?_ (by decide) (by decide));obtain⟨X2,μ,G,sr,hr,pp⟩:=h;unfold VC at pp;have pa:=c7.bind pp;have hst:zX [e] X.env= (false,eval e X.env)::zX [] X.env:=gB hs;refine callWith_builtin_kwB (by rw[HC];exact cC (by rw[jL,hs];rfl)) rfl (evalArgs_kw2 rfl ?_ hst);have ha:DA X Z [e] (B0 fe o0):=mH he pJ hst;refine thn (ha.h pos pins s σ H (λvs H1=>∃v d X0 G1,vs= [v]/\d7 (wc X) X0 H1 d v/\m6 (wc X) X0 G1 H1/\c7 (wc X) Z X0 H1 (oB F d G1) (λd X9 _ H'=>∀v,d7 (wc X) X9 H' d v->Q v H')) I ?_) λus s1 ⟨vs,H1,I1,r1,v,d,X0,G1,e1,rd,hr1,p1⟩=>?_
 · refine⟨X2,μ,G,sr,hr,?_⟩;show c7 (wc X) Z μ H ((fe X2 >>= λy=>(pure [y]:M (List D))) G) _
   match hm:fe X2 G,pa with
   |some (.ok y,G1),pa=>
     rw[M.bind_ok hm];intro X9 H' x1 h1 vs rv;obtain⟨v,ev,rv2⟩:=U2 rv;subst ev;exact⟨v,y,X9,G1,rfl,rv2,h1,pa X9 H' x1 h1⟩
   |some (.error y,G1),pa=>
     rw[M.bind_eq,hm];exact pa
 ·subst e1;obtain⟨u,rfl,ru⟩:=C3 r1;show zq _ _ (evalAll [(do let v <-eval (.Name x pf) X.env;standAt pos;pure v)]) _ _ s1;refine wpAny_evalAll_cons (za (MD I1 hg f2 (za (Yp (ze (wpAny_evalAll_nil ?_)))) hdb));exact lY hc f1 f4 (hrm.mono hk) I1 hr1 rd ru p1⟩
end
def CR(K:zj)(mg:Str->Option zh)(d:D)(u:zh):Prop:=∃v,t6 v u/\∀ μ H,d7 ⟨K,mg⟩ μ H d v
def CRL(K:zj)(mg:Str->Option zh)(l:List D)(us:List zh):Prop:=∃vs,m9 vs us/\∀ μ H,j9 ⟨K,mg⟩ μ H l vs
section
variable{K:zj}{mg:Str->Option zh}
theorem cr_str:CR K mg (.str x) (.str x t):=⟨.str x,⟨t,rfl⟩,λμ H=>by unfold d7;rfl⟩
theorem cr_int:CR K mg (.int i) (.int i t):=⟨.int i,⟨t,rfl⟩,λμ H=>by unfold d7;rfl⟩
theorem cr_bl:CR K mg (.bl b) (.bool b):=⟨.bl b,rfl,λμ H=>by unfold d7;rfl⟩
theorem cr_non:CR K mg .non .none:=⟨.non,rfl,λμ H=>by unfold d7;rfl⟩
theorem crl_nil:CRL K mg [] []:=⟨[],.nil,λ_ _=>rfl⟩
theorem crl_cons(h:CR K mg d u)(t:CRL K mg l us):CRL K mg (d::l) (u::us):=by obtain⟨v,r,h⟩:=h;obtain⟨vs,rs,t⟩:=t;exact⟨v::vs,.cons r rs,λμ H=>⟨v,vs,rfl,h μ H,t μ H⟩⟩
theorem cr_tup(hl:K.lookup a=some ⟨.type "tuple",none,.seq us.toArray n,sl⟩)(hz:Nat.ble us.length 100=true)(h:CRL K mg l us):CR K mg (.tup l) (.ref a):=by obtain⟨vs,rs,t⟩:=h;refine⟨.ref a,rfl,λμ H=>?_⟩;unfold d7;refine⟨a,vs,rfl,.inr ⟨_,us.toArray,n,hl,rfl,rfl,?_,rs⟩,t μ H⟩;rw[zl];exact zQ (Nat.le_of_ble_eq_true hz) (by decide)
end
structure OA(K:zj)(mg:Str->Option zh)(x:Str)(d:D):Prop where
 ex:∃u,mg x=some u/\CR K mg d u
section
theorem CW(hc:OA X.K X.mg x d)(hg:Gl X x)(hdb:(x==("__debug__" :Str))=false):DE X Z (.Name x pos) (cE d):=⟨by
 intro pins s σ H Q I ki;refine ki.elim λX2 μ G sr hr p=>?_;obtain⟨u,hm,v,ru,rv⟩:=hc.ex;exact MD I hg hm ⟨v,H,I,ru,c7.ok p hr v (rv μ H)⟩ hdb⟩
end
def isStrM:D->M Unit:=λx=>match x with
 | .str _=>pure ()
 |_=>M.stuck
section
variable{X:Cx}{Z:XC}{o e:Expr}{es:List Expr}{fo:Fe}{fs:DSt->M (List D)}{name:Str}{id:String}{mm:D->List D->M D}{mw lg:Pos}
theorem Vg{H:Hp}{G:DH}{d:D}{v:V}{f:Unit->M α}{K:α->List Addr->DH->Hp->Prop}(r:d7 c μ H d v)(p:c7 c Z μ H ((isStrM d >>= f) G) K):tyV c.K "str" v H/\c7 c Z μ H (f () G) K:=by
 rcases d with _|_|_|x|_|_|_|_<;>try (exact p.elim;done)
 ·rw[U1 r];exact⟨rfl,p⟩
theorem AQ(slot:Slot "str" name id)(hty:typeOf (.builtin id)=pure (.type "method_descriptor"))(hm:MtD X Z id mm)(ho:DE X Z o fo)(ha:DA X Z (e::es) fs)
 (hbase:Yq o name X.env (eval o X.env)=eval o X.env)
 (hfew:((xw lg (zX (e::es) X.env)).all (λx=> !x.1)&&(Jf lg (Yi [] X.env)).all (λx=>x.1.isSome)
   && decide ((e::es).length+([]:List Keyword).length+(if ([]:List Keyword).isEmpty then 0 else 1)<30))=true)
 (hline:(mw.endLine==lg.line)=true) (hs:zX (e::es) X.env= (false,eval e X.env)::zX es X.env) (ni:(xw lg (zX es X.env)).any (·.1)=false):
 DE X Z (.Call (.Attribute o name mw) (e::es) [] lg) (mtE isStrM mm fo fs):=
 DE.of (tL PySem.F.plainAttrs_str slot hty hm ho.h ha.h hbase hfew hline hs ni) λσ H Q ki=>ki.elim λX2 μ G s h p=>⟨X2,μ,G,s,h,(c7.bind p).mono λd X0 G1 H1 x1 h1 p1 v rv=>by obtain⟨ty,p2⟩:=Vg rv p1;exact⟨ty,X2,X0,G1,s.mono x1,h1,(c7.bind p2).mono λds WX G2 H2 x2 h2 p3 vs rvs=>⟨d,ds,WX,G2,rv.mono x2,rvs,h2,p3⟩⟩⟩
end
def pC(sep:Str)(l:List D):M D:=do
 let ss <-C1 (uA l)
 if (ss.map (·.length)).sum+ss.length*sep.length<=16777216 then pure (.str (Xu sep ss))else M.stuck
def GA:D->List D->M D:=λx ds=>match x,ds with
 | .str sep, [.tup l]=>pC sep l
 | .str sep, [.ref r]=>do
   match <-K4 r with
   | .lst l=>pC sep l
   |_=>M.stuck
 |_,_=>M.stuck
section
theorem gZ:MtD X Z "str.join" GA:=by
 intro pins s σ H x xs v us Q I rx rvs ki;obtain⟨d,ds,μ,G,rd,rl,hr,p⟩:=ki;unfold GA at p;split at p
 · rename_i sep l;rw[U1 rd]at rx;obtain⟨t,rfl⟩:=rx;obtain⟨v1,rfl,rv1⟩:=U2 rl;obtain⟨u,rfl,ru⟩:=C3 rvs;unfold d7 at rv1;obtain⟨a,vs,rfl,q,mf⟩:=rv1
   cases ru
   obtain⟨ka,rv,tp,hz⟩:=I.tuple q;unfold pC at p;obtain⟨ss,es,p2⟩:=R1 p;split at p2
   case isFalse=>exact p2.elim
   rename_i hok;exact join_tuple tp (CI es mf rv) hok λt' k=>⟨.str (Xu sep ss),H,I.tok k,⟨t',rfl⟩,c7.ok p2 hr _ (by unfold d7;rfl)⟩
 · rename_i sep r;rw[U1 rd]at rx;obtain⟨t,rfl⟩:=rx;obtain⟨v1,rfl,rv1⟩:=U2 rl;obtain⟨u,rfl,ru⟩:=C3 rvs;unfold d7 at rv1;obtain⟨a,m,rfl⟩:=rv1
   cases ru
   obtain⟨o,g,p1⟩:=G9 p;have ro:=hr.obj r o a g m;rcases o with l|l|l|l
   ·
     obtain⟨vs,q,mf⟩:=ro;obtain⟨ka,rv,pl,hz⟩:=I.list (SqL.of q);unfold pC at p1;obtain⟨ss,es,p2⟩:=R1 p1;split at p2
     case isFalse=>exact p2.elim
     rename_i hok;exact join_list pl.isList (CI es mf rv) hok λt' k=>⟨.str (Xu sep ss),H,I.tok k,⟨t',rfl⟩,c7.ok p2 hr _ (by unfold d7;rfl)⟩
   ·exact p1.elim
   ·exact p1.elim
   ·exact p1.elim
 ·exact p.elim
end
end DL
namespace W
open PySem PySem.Spec L2 DL
open PyProof.Rows hiding St
section
theorem lI:Wp (isStrM (.str z)) G R↔R () G:=wp_pure
theorem rS(e:G[r]? =some (.lst l))(hs:uA l=some ss)(hok:(ss.map (·.length)).sum+ss.length*sep.length<=16777216):Wp (GA (.str sep) [.ref r]) G Q↔Q (.str (Xu sep ss)) G:=by
 have h:GA (.str sep) [.ref r]= (do
  match <-K4 r with
  | .lst l=>pC sep l
  |_=>M.stuck):=rfl
 rw[h];simp only[d9,M6,e,S6,pC,l9,hs,if_pos hok,wp_pure]
end
end W
namespace DL
open PySem PySem.Spec L2
open PyProof.Rows hiding St
def r8(n:Nat)(lo hi st:Option Int):List Nat:=sliceRange (yR lo hi st n).1 (yR lo hi st n).2.1 (yR lo hi st n).2.2
def cA(l:List D)(lo hi st:Option Int):List D:=(r8 l.length lo hi st).filterMap (l[·]?)
def L9:D->Option Int->Option Int->Option Int->M D:=λx lo hi st=>match x with
 | .ref r=>do
   let l <-K4 r >>= listOf
   if st=some 0 then M.stuck else J8 (.lst (cA l lo hi st))
 |_=>M.stuck
def IA(f:Fe)(lo hi st:Fo):Fe:=λσ=>do
 let x <-f σ
 let l <-lo σ
 let h <-hi σ
 let s <-st σ
 L9 x l h s
section
variable{X:Cx}{Z:XC}{μ:List Addr}{H:Hp}
theorem j9.pick(h:j9 c μ H l vs):∀is:List Nat,j9 c μ H (is.filterMap (l[·]?)) (is.filterMap (vs[·]?))
 |[]=>rfl
 |i::r=>by
   have ih:=j9.pick h r;rw[jG,jG];by_cases hi:i<l.length
   ·have e:l[i]? =some l[i]:=zo hi;obtain⟨v,e2,r2⟩:=h.get e;rw[e,e2];exact⟨v,_,rfl,r2,ih⟩
   · have hi2:vs.length<=i:=by rw[<-h.length];lia
     rw[jf (by lia),jf hi2];exact ih
theorem pK(h:m9 vs us):∀is:List Nat,m9 (is.filterMap (vs[·]?)) (is.filterMap (us[·]?))
 |[]=>.nil
 |i::r=>by
   have ih:=pK h r;rw[jG,jG];by_cases hi:i<vs.length
   ·have e:vs[i]? =some vs[i]:=zo hi;obtain⟨v,e2,r2⟩:=h.get e;rw[e,e2];exact .cons r2 ih
   · have hi2:us.length<=i:=by rw[<-h.length];lia
     rw[jf (by lia),jf hi2];exact ih
variable{e t:Expr}{lo hi:Option Expr}{fa:Fe}{fl fh ft:Fo}{p2 pos:Pos}
theorem RS(he:DE X Z e fa)(hl:DOp X Z lo fl)(hu:DOp X Z hi fh)(ht:DOp X Z (some t) ft):DE X Z (.Subscript e (.Slice lo hi (some t) p2) pos) (IA fa fl fh ft):=⟨by
 intro pins s σ H Q I ki;refine ki.elim λX2 μ G sr h p=>?_;have p0:=c7.bind p;refine Subscript_ (thn (he.h pins s σ H (λv H1=>∃d X0 G1,d7 (wc X) X0 H1 d v/\m6 (wc X) X0 G1 H1/\u9 (wc X) X0 H1 X2 σ/\c7 (wc X) Z X0 H1 ((fl X2 >>= λl=>fh X2 >>= λh=>ft X2 >>= λs=>L9 d l h s) G1) (λd X9 _ H'=>∀v,d7 (wc X) X9 H' d v->Q v H')) I ⟨X2,μ,G,sr,h,p0.mono λd X0 G1 H1 x1 h1 p1 v rv=>⟨d,X0,G1,rv,h1,sr.mono x1,p1⟩⟩) λv s1 ⟨x,H1,I1,r1,d,X0,G1,rd,h1,sr1,p1⟩=>?_);refine wpAny_Slice ?_;refine thn (hl.h pins s1 σ H1 (λl H2=>∃ WX G2,d7 (wc X) WX H2 d x/\m6 (wc X) WX G2 H2/\u9 (wc X) WX H2 X2 σ/\c7 (wc X) Z WX H2 ((fh X2 >>= λh=>ft X2 >>= λs=>L9 d l h s) G2) (λd X9 _ H'=>∀v,d7 (wc X) X9 H' d v->Q v H')) I1 ⟨X2,X0,G1,sr1,h1,(c7.bind p1).mono λl WX G2 H2 x2 h2 p2=>⟨WX,G2,rd.mono x2,h2,sr1.mono x2,p2⟩⟩) λvl s2 ⟨l,H2,I2,pl,WX,G2,rd2,h2,sr2,p2⟩=>?_;refine thn (hu.h pins s2 σ H2 (λu H3=>∃ WN G3,d7 (wc X) WN H3 d x/\m6 (wc X) WN G3 H3/\u9 (wc X) WN H3 X2 σ/\c7 (wc X) Z WN H3 ((ft X2 >>= λs=>L9 d l u s) G3) (λd X9 _ H'=>∀v,d7 (wc X) X9 H' d v->Q v H')) I2 ⟨X2,WX,G2,sr2,h2,(c7.bind p2).mono λu WN G3 H3 x3 h3 p3=>⟨WN,G3,rd2.mono x3,h3,sr2.mono x3,p3⟩⟩) λvu s3 ⟨u,H3,I3,pu,WN,G3,rd3,h3,sr3,p3⟩=>?_;refine thn (ht.h pins s3 σ H3 (λk H4=>∃ WI G4,d7 (wc X) WI H4 d x/\m6 (wc X) WI G4 H4/\c7 (wc X) Z WI H4 (L9 d l u k G4) (λd X9 _ H'=>∀v,d7 (wc X) X9 H' d v->Q v H')) I3 ⟨X2,WN,G3,sr3,h3,(c7.bind p3).mono λk WI G4 H4 x4 h4 p4=>⟨WI,G4,rd3.mono x4,h4,p4⟩⟩) λvk s4 ⟨k,H4,I4,pk,WI,G4,rd4,h4,p4⟩=>?_;have I5:Inv X pins σ H4 {s4 with heap:=s4.heap.push {cls:=.type "slice",data:=.fields #[vl,vu,vk]}}:=I4.kept λb ob q=>zc _ q;have hsl:Heap.IsSliceOf (s4.heap.push {cls:=.type "slice",data:=.fields #[vl,vu,vk]}) s4.heap.objs.size vl vu vk:=XV ..
 cases d with
 |ref r=>
   obtain⟨ls,a,vs,rfl,rl,p5,hq⟩:=NF h4 rd4 p4
   cases r1
   split at p5
   case isTrue=>exact p5.elim
   rename_i hk0;have hs:SqL X.K H4 a vs:=by
    rcases hq with⟨z,_⟩|⟨_,_,_,⟨_,q⟩|⟨_,q⟩⟩
    ·cases z
    ·exact SqL.of q
    ·exact q.sq
   obtain⟨ka,rr,ht,hz⟩:=I5.list hs;refine tail_any ht.isList.typeIs Jc.lookup (wpAny_getItem_list_slice ht.isList hsl pl pu pk hk0 ?_ (by rw[zl,<-rr.length];exact hz)) (by with_unfolding_all rfl);have hf:=I5.hok.fresh (zg _);have en:ka.toArray.size=vs.length:=by rw[zl,rr.length]
   have ep:slicePick ka.toArray l u k=zJ ((r8 ls.length l u k).filterMap (ka[·]?)):=by unfold slicePick r8;rw[rl.length,en];congr 1;congr 1;funext i;simp
   have kl:((r8 ls.length l u k).filterMap (vs[·]?)).length<=zk:=by have h1:=slicePick_size_le ka.toArray l u k;rw[ep,zl,zl]at h1;have h2:=(pK rr (r8 ls.length l u k)).length;have h3:=rr.length;lia
   rw[ep];refine⟨.ref _,upd H4 _ (.lst ((r8 ls.length l u k).filterMap (vs[·]?))),I5.laid (λb u e=>zc _ e) (zg _) ?_,rfl,T7 h4 (rl.pick _) p5 _ hf⟩;exact⟨kl,_,0,pK rr _,zp _ rfl⟩
 |_=>exact p4.elim⟩
end
end DL
namespace W
open PySem PySem.Spec L2 DL
open PyProof.Rows hiding St
section
theorem PL{lo hi st:Fo}:Wp (IA f lo hi st σ) G Q↔Wp (f σ) G λx G1=>Wp (lo σ) G1 λl G2=>Wp (hi σ) G2 λh G3=>Wp (st σ) G3 λk G4=>Wp (L9 x l h k) G4 Q:=by unfold IA;simp only[d9]
theorem cR{lo hi st:Option Int}(e:G[p]? =some (.lst l))(h:st≠some 0):Wp (L9 (.ref p) lo hi st) G Q↔Q (.ref G.length) (G++[.lst (cA l lo hi st)]):=by
 have h0:L9 (.ref p) lo hi st= (do
  let l <-K4 p >>= DL.listOf
  if st=some 0 then M.stuck else J8 (.lst (cA l lo hi st))):=rfl
 rw[h0];simp only[d9,M6,e,S6,DL.listOf,wp_pure,if_neg h,O5]
end
end W
namespace DL
open PySem PySem.Spec L2
open PyProof.Rows hiding St
section
theorem FV(σ:St)(H:Hp)(Q:VK)(h:d5 (wc X) Z (lE o o' fa fb fc) σ H Q):aQ (CA (wc X) Z o) (CA (wc X) Z o') (d5 (wc X) Z fa) (d5 (wc X) Z fb) (d5 (wc X) Z fc) σ H Q:=by
 obtain⟨X2,μ,G,s,h,p⟩:=h;exact⟨X2,μ,G,s,h,(c7.bind p).mono λx X0 G1 H1 x1 h1 p1 v rv=>
  ⟨X2,X0,G1,s.mono x1,h1,(c7.bind p1).mono λy WX G2 H2 x2 h2 p2 u ru=>⟨x,y,WX,G2,rv.mono x2,ru,h2,(c7.bind p2).mono λz WN G3 H3 x3 h3 p3 w rw'=>by
   obtain⟨k,rfl,p4⟩:=EN p3;refine⟨k,D7 rw',?_⟩
   cases k with
   |true=>exact⟨X2,WN,G3,s.mono (x1.trans (x2.trans x3)),h3,(c7.bind p4).mono λt WI G4 H4 x4 h4 p5 q rq=>⟨y,t,WI,G4,ru.mono (x3.trans x4),rq,h4,p5⟩⟩
   |false=>exact c7.ok p4 h3 _ ofB⟩⟩⟩
theorem MV(ho:OpD X Z (zZ op) o)(ho':OpD X Z (zZ op') o')(ha:DE X Z a fa)(hb:DE X Z b fb)(hc:DE X Z c fc)
 (hm:lastMarks [op,op'] [b,c]=false):DT X Z (.Compare a [op,op'] [b,c] pos) (l5 (lE o o' fa fb fc)):=
 DT.of (Mq ho.h ho'.h ha.h hb.h hc.h hm) λσ H Q ki=>ki.elim λX2 μ G s h p=>FV σ H _ ⟨X2,μ,G,s,h,(c7.bind p).mono λx X0 G1 H1 x' h1 p1 v rv=>by
  cases x with
  |bl k'=>unfold d7 at rv;exact⟨k',rv,c7.ok p1 h1⟩
  |_=>exact p1.elim⟩
end
section
end
end DL
namespace W
open PySem PySem.Spec L2 DL
open PyProof.Rows hiding St
end W
namespace DL
open PySem PySem.Spec L2
open PyProof.Rows hiding St
section
variable{X:Cx}{Z:XC}{o e:Expr}{es:List Expr}{fo:Fe}{fs:DSt->M (List D)}{name:Str}{id:String}{mm:D->List D->M D}{mw lg:Pos}
end
section
end
def g7(G:DH)(x:D):List D->Option Bool
 |[]=>some false
 |d::t=>match eqN 40 G d x,g7 G x t with
   |some a,some b=>some (a||b)
   |_,_=>none
theorem bu:g7 G x (d::t)=match eqN 40 G d x,g7 G x t with
 |some a,some b=>some (a||b)
 |_,_=>none:=rfl
def kB(x y:D)(G:DH):Option Bool:=match y with
 | .tup l=>g7 G x l
 | .ref r=>match G[r]? with
   |some (.lst l)=>g7 G x l
   |some (.rol l)=>g7 G x l
   |_=>none
 |_=>none
def inX:D->D->M D:=λx y G=>match kB x y G with
 |some b=>some (.ok (.bl b),G)
 |none=>none
section
theorem eW(hu:X.A.units+64<yU)(I:Inv X pins σ H s)(hr:m6 (wc X) μ G H)(mh:d7 (wc X) μ H dx x)(rx:t6 x v):
 ∀ {l} {vs} {us} {b},j9 (wc X) μ H l vs->m9 vs us->g7 G dx l=some b->
  (∀u∈us,∃c,yb X.A.in1 s u v c)/\(b=true->∃u∈us,yb X.A.in1 s u v true)/\(b=false->∀u∈us,yb X.A.in1 s u v false):=by
 intro l
 induction l with
 |nil=>
   intro vs us b rl rv e
   cases rl
   cases rv
   cases e
   exact⟨λu hu=>(by cases hu),λz=>absurd z zN,λ_ u hu=>(by cases hu)⟩
 |cons d t ih=>
   intro vs us b rl rv e;obtain⟨w,tv,rfl,q,rt⟩:=rl
   cases rv with
   |cons r1 rs=>
   rename_i u us1;rw[bu]at e;rcases e1:eqN 40 G d dx with _|a
   ·rw[e1]at e;cases e
   ·
     rcases e2:g7 G dx t with _|b2
     ·rw[e1,e2]at e;cases e
     ·
       rw[e1,e2]at e
       cases e
       have h1:=(qE I hr 40 X.A.in1 (by show X.A.units+1+40<yU;lia) q mh r1 rx e1).2.2;obtain⟨k1,k2,k3⟩:=ih rt rs e2;refine⟨λu' hu'=>?_,λz=>?_,λz u' hu'=>?_⟩
       · rcases zu.mp hu' with rfl|hu'
         ·exact⟨a,h1⟩
         ·exact k1 u' hu'
       · rcases a with _|_
         ·
           obtain⟨u',h3,h4⟩:=k2 z;exact⟨u',zi _ h3,h4⟩
         ·exact⟨u,zt,h1⟩
       · rcases a with _|_
         ·
           rcases zu.mp hu' with rfl|hu'
           ·exact h1
           ·exact k3 z u' hu'
         ·cases z
open Classical in
theorem rR(hu:X.A.units+64<yU)(I:Inv X pins σ H s)(hr:m6 (wc X) μ G H)(mh:d7 (wc X) μ H dx x)(rx:t6 x v)
 (rl:j9 (wc X) μ H l vs) (rv:m9 vs us) (e:g7 G dx l=some b):
   ∃f:zh->Bool,(∀u∈us,yb X.A.in1 s u v (f u))/\us.any f=b:=by
 obtain⟨k1,k2,k3⟩:=eW hu I hr mh rx rl rv e;rcases b with _|_
 ·exact⟨λ_=>false,λu hu=>k3 rfl u hu,by simp⟩
 ·
   refine⟨λu=>decide (yb X.A.in1 s u v true),λu hu=>?_,?_⟩
   · dsimp only;by_cases c:yb X.A.in1 s u v true
     ·rw[decide_eq_true c];exact c
     · rw[decide_eq_false c];obtain⟨c',hc⟩:=k1 u hu;rcases c' with _|_
       ·exact hc
       ·exact absurd hc c
   ·obtain⟨u,hu,h⟩:=k2 rfl;exact Ze.mpr ⟨u,hu,decide_eq_true h⟩
theorem bS(hu:X.A.units+64<yU)(I:Inv X pins σ H s)(hr:m6 (wc X) μ G H)(mh:d7 (wc X) μ H dx x)(mq:d7 (wc X) μ H dy y)(rx:t6 x v)(ry:t6 y u)
 (e:kB dx dy G=some b):
 (Q (.bl b) H->zq (zC X.prog X.w) X.A (zZ .In v u) (EP X pins σ Q) X.xe s)/\(Q (.bl (!b)) H->zq (zC X.prog X.w) X.A (zZ .NotIn v u) (EP X pins σ Q) X.xe s):=by
 have seq:∀(p:Addr) (l:List D) (vs:List V),y= .ref p->(SqL X.K H p vs\/SqT X.K H p vs)->j9 (wc X) μ H l vs->g7 G dx l=some b->
  (Q (.bl b) H->zq (zC X.prog X.w) X.A (zZ .In v u) (EP X pins σ Q) X.xe s)/\(Q (.bl (!b)) H->zq (zC X.prog X.w) X.A (zZ .NotIn v u) (EP X pins σ Q) X.xe s):=by
  intro p l vs hy hq rl e;subst hy
  cases ry
  rcases hq with hq|hq
  · obtain⟨ka,r,pl,hz⟩:=I.list hq;obtain⟨f,h1,h2⟩:=rR hu I hr mh rx rl r e;have h3:ka.toArray.any f=b:=by rw[<-h2];simp
    exact⟨λq=>SeqAt.in_listAt f pl.isList (λw hw=>h1 w (by simpa using hw)) ⟨.bl _,H,I,rfl,by rw[h3];exact q⟩,λq=>SeqAt.notIn_listAt f pl.isList (λw hw=>h1 w (by simpa using hw)) ⟨.bl _,H,I,rfl,by rw[h3];exact q⟩⟩
  · obtain⟨ka,r,pl,hz⟩:=I.tuple hq;obtain⟨f,h1,h2⟩:=rR hu I hr mh rx rl r e;have h3:ka.toArray.any f=b:=by rw[<-h2];simp
    exact⟨λq=>SeqAt.in_tupleAt f pl (λw hw=>h1 w (by simpa using hw)) ⟨.bl _,H,I,rfl,by rw[h3];exact q⟩,λq=>SeqAt.notIn_tupleAt f pl (λw hw=>h1 w (by simpa using hw)) ⟨.bl _,H,I,rfl,by rw[h3];exact q⟩⟩
 rcases dy with _|_|_|_|l|i|_|_<;>try (cases e;done)
 ·
   unfold d7 at mq;obtain⟨a,vs,hy,q,rl⟩:=mq;exact seq a l vs hy (.inr q) rl e
 ·
   unfold d7 at mq;obtain⟨a,m,hy⟩:=mq;rcases g:G[i]? with _|o
   ·unfold kB at e;simp only[g]at e;cases e
   ·
     have ro:=hr.obj i o a g m;rcases o with l|l|_|_<;>try (unfold kB at e;simp only[g]at e;cases e;done)
     ·
       obtain⟨vs,q,rl⟩:=ro;unfold kB at e;simp only[g]at e;exact seq a l vs hy (.inl (SqL.of q)) rl e
     ·
       obtain⟨vs,q,rl⟩:=ro;unfold kB at e;simp only[g]at e;exact seq a l vs hy (.inl q.sq) rl e
theorem MU(hu:X.A.units+64<yU):OpD X Z (zZ .In) inX:=⟨by
 intro pins s σ H x y v u Q I rx ry ki;refine ki.elim λdx dy μ G mh mq hr p=>?_;unfold inX at p;rcases e:kB dx dy G with _|b
 ·rw[e]at p;exact p.elim
 ·rw[e]at p;exact(bS hu I hr mh mq rx ry e).1 (c7.ok p hr _ ofB)⟩
end
section
end
end DL
namespace W
open PySem PySem.Spec L2 DL
open PyProof.Rows hiding St
end W
namespace DL
open PySem PySem.Spec L2
open PyProof.Rows hiding St
section
end
section
end
end DL
namespace W
open PySem PySem.Spec L2 DL
open PyProof.Rows hiding St
end W
namespace DL
open PySem PySem.Spec L2
open PyProof.Rows hiding St
theorem b8(e:m G=some (.ok a,G'))(q:Q a G'):Wp m G Q:=⟨a,G',e,q⟩
def PB(Q:DPP):Fl->DH->Prop
 | .nx _,G=>Q .non G
 | .rt d,G=>Q d G
 |_,_=>False
section
variable{m:Nat}{f S g:Fs}{ds as:List D}{d:D}{G G':DH}{Q:DPP}{P A:Fl->DH->Prop}{σ X1:DSt}{e:Fe}
theorem o5(w:Wp (f (ds.map some++jJ (m-ds.length) none)) G (PB Q)):Wp (o9 m f ds) G Q:=
 L7.mpr (w.mono λfl G1 h=>match fl,h with
  | .nx _,h=>h
  | .rt _,h=>h
  | .bk _,h=>h.elim
  | .ct _,h=>h.elim)
theorem m7(q:Q d G):PB Q (.rt d) G:=q
theorem P9(e:f (ds.map some++jJ (m-ds.length) none) G=some (.ok (.rt d),G'))(q:Q d G'):Wp (o9 m f ds) G Q:=o5 (b8 e q)
theorem j8(e:S σ G=some (.ok (.nx X1),G'))(w:Wp (g X1) G' P):Wp (f9 S g σ) G P:=d8.mpr (b8 e w)
end
section
variable{a b c:Fe}{d x y z:D}{G G1 G2:DH}{R:List D->DH->Prop}{σ:DSt}
theorem bD(e:t σ G=some (.ok true,G1))(w:Wp (f σ) G1 P):Wp (ifS t f g σ) G P:=tD.mpr (b8 e w)
theorem M7(w:Wp (t σ) G λk G1=>(k=true->Wp (f σ) G1 P)/\(k=false->Wp (g σ) G1 P)):Wp (ifS t f g σ) G P:=
 tD.mpr (w.mono λk G1 h=>by cases k with|true=>exact h.1 rfl|false=>exact h.2 rfl)
theorem t4(w:Wp (t σ) G λk G1=>(k=true->Wp (u σ) G1 B)/\(k=false->B false G1)):Wp (Q2 t u σ) G B:=
 tE.mpr (w.mono λk G1 h=>by cases k with|true=>exact h.1 rfl|false=>exact h.2 rfl)
theorem ER(w:Wp (t σ) G λk G1=>(k=true->B true G1)/\(k=false->Wp (u σ) G1 B)):Wp (orT t u σ) G B:=
 DX.mpr (w.mono λk G1 h=>by cases k with|true=>exact h.1 rfl|false=>exact h.2 rfl)
theorem Gj{g:Fg}(e:b σ G=some (.ok (.tup l),G1))(h:l.length<=10000)(w:Wp (J6 g t a (λ_=>true) l (X7 caps σ)) G1 λys G2=>Q (.ref G2.length) (G2++[.lst ys])):Wp (O4 (itW b) caps g t a σ) G Q:=
 W.wp_comp.mpr (W.wp_itW.mpr (b8 e (W.srcW_tup.mpr ⟨zQ h (show 10000<=zk by decide),w⟩)))
theorem wW(e:t σ G=some (.ok false,G1))(w:Wp (b σ) G1 Q):Wp (ifE t a b σ) G Q:=fD.mpr (b8 e w)
theorem u6(w:Wp (a σ) G λd G1=>P (.nx (σ.set i (some d))) G1):Wp (v7 a (D3 i) σ) G P:=c8.mpr (w.mono λ_ _ h=>K7.mpr h)
theorem o6(w:Wp (a σ) G λd G1=>P (.rt d) G1):Wp (t7 a σ) G P:=P5.mpr w
theorem g8(e:fs σ G=some (.ok as,G1))(h:as.length=n)(w:Wp (F as) G1 Q):Wp (P2 (fnX n F) fs σ) G Q:=U5.mpr (b8 e (O2.mpr ⟨h,w⟩))
theorem V0(e:fs σ G=some (.ok as,G1))(w:Wp (F as) G1 Q):Wp (P2 F fs σ) G Q:=U5.mpr (b8 e w)
theorem M5(w:Wp (fs σ) G λas G1=>Wp (F as) G1 Q):Wp (P2 F fs σ) G Q:=U5.mpr w
theorem Vh(ea:a σ G=some (.ok x,G1))(eb:b σ G1=some (.ok y,G2))(w:Wp (o x y) G2 Q):Wp (binE o a b σ) G Q:=Z9.mpr (b8 ea (b8 eb w))
theorem j5(w:Wp (a σ) G λx G1=>Wp (b σ) G1 λy G2=>Wp (o x y) G2 Q):Wp (binE o a b σ) G Q:=Z9.mpr w
theorem HN(e:a σ G=some (.ok x,G1))(w:Wp (fs σ) G1 λxs G2=>R (x::xs) G2):Wp (B0 a fs σ) G R:=N8.mpr (b8 e w)
theorem j7(w:Wp (a σ) G λx G1=>Wp (fs σ) G1 λxs G2=>R (x::xs) G2):Wp (B0 a fs σ) G R:=N8.mpr w
theorem v4(w:Wp (a σ) G λx G1=>∃k,x= .bl k/\B k G1):Wp (l5 a σ) G B:=rA.mpr w
end
def FH(K:zj)(x:Str)(st:Stmt):Prop:=∃(f:Addr) (od an:Option Addr) (sl:Array (Option zh)) (oc kV dc pm cd ct:zh),xU K jz x=some (some (.ref f))/\
 K.lookup f=some ⟨oc,od,.func (yH x x (L8 st) (U4 st) (v5 st) .none kV dc pm an cd ct),sl⟩/\Zt K cd x=true/\yM K (.ref f)=true
section
variable{K:zj}{h:Heap}{mg:Str->Option zh}{x:Str}{st:Stmt}
theorem FH.of{oc kV dc pm cd ct:zh}(a:xU K jz x=some (some (.ref f)))
 (l:K.lookup f=some ⟨oc,od,.func (yH x x (L8 st) (U4 st) (v5 st) .none kV dc pm an cd ct),sl⟩) (e:Zt K cd x=true) (k:yM K (.ref f)=true):FH K x st:=
 ⟨f,od,an,sl,oc,kV,dc,pm,cd,ct,a,l,e,k⟩
variable{ps:List Str}
theorem FH.ff(H:FH K x st)(X:K.In h)(G:h.Ns jz mg)(b:∀kV doc pm an mn ct us,us.length=ps.length->bindArgs (yH x x (L8 st) (U4 st) (v5 st) .none kV doc pm an mn ct) ⟨us, []⟩=pure (ps.zip us)):∃f fd,FF K mg x st ps f fd:=by obtain⟨f,od,an,sl,oc,kV,dc,pm,cd,ct,a,l,e,k⟩:=H;exact⟨_,_,IF l e k,(IF l e k).binds b,ZH X G a⟩
theorem CZ(h:us.length=n+1):∃a t,us=a::t/\t.length=n:=by
 rcases us with _|⟨a,t⟩
 ·cases h
 ·exact⟨a,t,rfl,Nat.succ.inj h⟩
theorem BLs.of(X:K.In h)(G:h.Ns jz mg)(z:∀b∈bltL,xU K jz b=some none):BLs mg:=⟨λb hb=>PySem.W.mg_none_of X G (z b hb)⟩
end
abbrev CV(h:Heap)(z TI TO:Addr)(f0:zh)(b:Bool):Prop:=
 h.get? z=some {cls:=.type "zip",dict:=none,data:=.fields #[f0,.bool b,.bool false,.ref TI,.ref TO],slots:= #[]}
section
variable{prog:zS}{w:jg}{A:jn}{E:VSP}{s:zv}{k1 k2:Bool}{i:Nat}{z TI TO i1 i2 l1 l2 T:Addr}{xs ys:Array zh}{b:Bool}
structure ZSt(k1 k2:Bool)(z TI TO i1 i2 l1 l2:Addr)(xs ys:Array zh)(n0 i:Nat)(h:Heap):Prop where
 hz:(ZN h z TI TO .none/\∃a b,yP h TO a b)\/∃T b,CV h z TI TO (xk ((n0+T:Nat):Int)) b/\T<i
 hTI:yP h TI (.ref i1) (.ref i2)
 h1:SI k1 h i1 l1 i
 h2:SI k2 h i2 l2 i
 c1:SC k1 h l1 xs
 c2:SC k2 h l2 ys
end
section
variable{H:Hp}{n0:Nat}{ws:List (V×V)}
end
section
variable{X:Cx}{Z:XC}{a b:Expr}{fs:DSt->M (List D)}{p1 p2 pos1 pos2:Pos}
end
end DL
namespace TS
open PySem PyProof.Rows
section
variable{prog:zS}{w:jg}{A:jn}{E:VSP}{s:zv}
def kz(p:Ym):Int:=numOf p.1
end
def leK(x y:Ym):Prop:=kz x<=kz y
def Srt(l:List Ym):Prop:=l.Pairwise leK
structure MI(L out A B:List Ym):Prop where
 perm:(out++(A++B)).Perm L
 so:Srt out
 oa:∀x∈out,∀y∈A,leK x y
 ob:∀x∈out,∀y∈B,leK x y
 sa:Srt A
 sb:Srt B
structure MJ(L A B S:List Ym):Prop where
 perm:(A++(B++S)).Perm L
 ss:Srt S
 as:∀x∈A,∀y∈S,leK x y
 bs:∀x∈B,∀y∈S,leK x y
 sa:Srt A
 sb:Srt B
structure LI(a b:Array Ym)(out:Array Ym)(ia ib:Nat):Prop where
 mi:MI (a.toList++b.toList) out.toList (a.toList.drop ia) (b.toList.drop ib)
 ha:ia+1<a.size
 hb:ib<b.size
 sz:out.size=ia+ib
section
variable{a b out:Array Ym}{ia ib:Nat}
end
section
variable{prog:zS}{w:jg}{A:jn}{E:VSP}{s:zv}
end
section
variable{prog:zS}{w:jg}{A:jn}{E:VSP}{s:zv}
end
structure HI(a b:Array Ym)(out:Array Ym)(na nb:Nat):Prop where
 mj:MJ (a.toList++b.toList) (a.toList.take na) (b.toList.take nb) out.toList.reverse
 ha:0<na
 hb:1<nb
 la:na<=a.size
 lb:nb<=b.size
 sz:out.size+na+nb=a.size+b.size
section
variable{a b out:Array Ym}{na nb:Nat}
end
section
variable{prog:zS}{w:jg}{A:jn}{E:VSP}{s:zv}
end
section
variable{prog:zS}{w:jg}{A:jn}{E:VSP}{s:zv}
structure Aft(st ma:SortSt)(l:List Ym)(p:Array (Nat×Nat×Nat)):Prop where
 kind:xZ ma=oneType'
 arr:(Yl ma).toList=l
 pend:pendingOf ma=p
 fail:YE ma=none
end
structure Run(lo:Nat)(st ma:SortSt):Prop where
 kind:xZ ma=oneType'
 pend:pendingOf ma=pendingOf st
 fail:YE ma=none
 perm:(Yl ma).Perm (Yl st)
 low:∀i,i<lo->(Yl ma)[i]? = (Yl st)[i]?
section
variable{prog:zS}{w:jg}{A:jn}{E:VSP}{s:zv}
end
section
variable{prog:zS}{w:jg}{A:jn}{E:VSP}{s:zv}
end
def lay:Nat->List (List Ym)->List Nat->List (Nat×Nat×Nat)
 |o,r::rs,p::ps=>(o,r.length,p)::lay (o+r.length) rs ps
 |_,_,_=> []
structure GI(a0:List Ym)(st:SortSt)(rs:List (List Ym))(ps:List Nat)(T:List Ym):Prop where
 kind:xZ st=oneType'
 fail:YE st=none
 arr:(Yl st).toList=rs.flatten++T
 perm:(Yl st).toList.Perm a0
 len:rs.length=ps.length
 pend:pendingOf st= (lay 0 rs ps).toArray
 ok:∀r∈rs,0<r.length/\Srt r
section
variable{prog:zS}{w:jg}{A:jn}{E:VSP}{s:zv}
end
section
variable{prog:zS}{w:jg}{A:jn}{E:VSP}{s:zv}
end
section
variable{prog:zS}{w:jg}{A:jn}{E:VSP}{s:zv}
end
end TS
namespace DL
open PySem PySem.Spec L2
open PyProof.Rows hiding St
section
variable{prog:zS}{w:jg}{A:jn}{E:VSP}{s:zv}{T:String}{r d:Addr}{n:Nat}{P:Nat->zh->Prop}{OK:Heap->Prop}{Q:VSP}
end
section
variable{X:Cx}{Z:XC}{c:Wc}{μ:List Addr}{H:Hp}{G:DH}
end
section
variable{prog:zS}{w:jg}{A:jn}{E:VSP}
end
def F1(r:Option Int):D:=match r with
 |none=>.non
 |some b=>.int b
section
end
section
end
structure lB(X:Cx)(e:Expr)(k:Int):Prop where
 h:PE X e (tC (.int k))
section
variable{X:Cx}{Z:XC}{pos:Pos}{e f:Expr}{i j k:Int}
theorem QX{m pos}:lB X (.Constant (.int i) m pos) i:=⟨mL⟩
theorem Mb(he:lB X e i)(hf:lB X f j)(hc:g6 i j)(hk:i ^ j.toNat=k):lB X (.BinOp e .Pow f pos) k:=⟨by
 subst hk;exact PE.mono (tJ RK he.h hf.h) λσ H Q q=>⟨i,j,rfl,rfl,hc,q⟩⟩
theorem Kp(he:lB X e i)(hf:lB X f j)(hk:i-j=k):lB X (.BinOp e .Sub f pos) k:=⟨by
 subst hk;exact PE.mono (tJ fL he.h hf.h) λσ H Q q=>⟨i,j,rfl,rfl,q⟩⟩
end
end DL
namespace DL
open PySem PySem.W
open PyProof.Rows hiding St
structure WO(lt:Nat->Nat->Bool):Prop where
 tr:∀i j k,lt j i=false->lt k j=false->lt k i=false
 as:∀i j,lt i j=true->lt j i=false
section
theorem WO.ir(O:WO lt)(i:Nat):lt i i=false:=by
 rcases e:lt i i with _|_
 ·rfl
 ·exact(O.as i i e).symm.trans e |>.symm▸rfl
def upW(lt:Nat->Nat->Bool)(p:Array Nat)(m:Nat):Prop:=∀i j,i<j->j<m->lt (p.getD j 0) (p.getD i 0)=false
def dnW(lt:Nat->Nat->Bool)(p:Array Nat)(m:Nat):Prop:=∀i j,i<j->j<m->lt (p.getD i 0) (p.getD j 0)=false
theorem rF(O:WO lt)(h:upW lt p m)(hij:i<=j)(hj:j<m):lt (p.getD j 0) (p.getD i 0)=false:=by
 rcases ZM hij with k|k
 ·exact h i j k hj
 ·rw[k];exact O.ir _
theorem fH(O:WO lt)(h:dnW lt p m)(hij:i<=j)(hj:j<m):lt (p.getD i 0) (p.getD j 0)=false:=by
 rcases ZM hij with k|k
 ·exact h i j k hj
 ·rw[k];exact O.ir _
theorem Dw(O:WO lt)(hk:1<=k)(h:upW lt p k)(hl:lt (p.getD k 0) (p.getD (k-1) 0)=false):upW lt p (k+1):=by
 intro i j hij hj;by_cases hj':j<k
 ·exact h i j hij hj'
 · have ej:j=k:=by lia
   subst ej;exact O.tr _ _ _ (rF O h (show i<=j-1 by lia) (by lia)) hl
theorem vN(O:WO lt)(hk:1<=k)(h:dnW lt p k)(hl:lt (p.getD (k-1) 0) (p.getD k 0)=false):dnW lt p (k+1):=by
 intro i j hij hj;by_cases hj':j<k
 ·exact h i j hij hj'
 · have ej:j=k:=by lia
   subst ej;exact O.tr _ _ _ hl (fH O h (show i<=j-1 by lia) (by lia))
theorem BH(O:WO lt)(P:J4 p n):∀f k,1<=k->k+f<=n->upW lt p k->tOk lt n (kas_asc p f k) (λm=>k<=m/\m<=k+f/\upW lt p m/\(m<k+f->lt (p.getD m 0) (p.getD (m-1) 0)=true))
 |0,k,h1,h2,u=>⟨zg _,zg _,u,λz=>by lia⟩
 |f+1,k,h1,h2,u=>by
   unfold kas_asc;refine⟨P.bd (by lia),P.bd (by lia),?_⟩;rcases e:lt (p.getD k 0) (p.getD (k-1) 0)with _|_
   ·simp only[zy,if_false];exact(BH O P f (k+1) (by lia) (by lia) (Dw O h1 u e)).mono λm ⟨a,b,c,d⟩=>⟨by lia,by lia,c,λz=>d (by lia)⟩
   ·exact⟨zg _,by lia,u,λ_=>e⟩
theorem AA(P:J4 p n)(hb:b<=n)(i:Nat):(kas_rev p a b).getD i 0=if a<=i/\i<b then p.getD (a+b-1-i) 0 else p.getD i 0:=by have hs:=P.size;rw[V1];unfold kas_rev;rw[getElem?_mirror_all (by lia)];split<;>rw[<-V1]
def eqB(lt:Nat->Nat->Bool)(p:Array Nat)(a b:Nat):Prop:=∀i j,a<=i->i<b->a<=j->j<b->lt (p.getD i 0) (p.getD j 0)=false
theorem rN(O:WO lt)(P:J4 p n)(hk:k<=n)(h:dnW lt p k)(e:eqB lt p a k):dnW lt (kas_rev p a k) k:=by
 intro i j hij hj;rw[AA P hk,AA P hk];by_cases h1:a<=i
 ·rw[if_pos ⟨h1,by lia⟩,if_pos ⟨by lia,hj⟩];exact e _ _ (by lia) (by lia) (by lia) (by lia)
 · rw[if_neg (by lia)];by_cases h2:a<=j
   ·rw[if_pos ⟨h2,hj⟩];exact h i _ (by lia) (by lia)
   ·rw[if_neg (by lia)];exact h i j hij hj
theorem kF(O:WO lt):∀f k q p,J4 p n->1<=k->k+f<=n->q+1<=k->dnW lt p k->eqB lt p (k-(q+1)) k->tOk lt n (kas_desc f p k q) (λr=>J4 r.1 n/\k<=r.2.1/\r.2.1<=k+f/\r.2.2+1<=r.2.1/\dnW lt r.1 r.2.1/\eqB lt r.1 (r.2.1-(r.2.2+1)) r.2.1)
 |0,k,q,p,P,h1,h2,h3,d,e=>⟨P,zg _,zg _,h3,d,e⟩
 |f+1,k,q,p,P,h1,h2,h3,d,e=>by
   unfold kas_desc;have one:∀(p:Array Nat),eqB lt p (k+1-(0+1)) (k+1):=λp i j a1 a2 a3 a4=>by rw[show i=j by lia];exact O.ir _
   refine⟨P.bd (by lia),P.bd (by lia),?_⟩;rcases c:lt (p.getD k 0) (p.getD (k-1) 0)with _|_
   · simp only[zy,if_false];refine⟨P.bd (by lia),P.bd (by lia),?_⟩;rcases c2:lt (p.getD (k-1) 0) (p.getD k 0)with _|_
     · simp only[zy,if_false];refine(kF O f (k+1) (q+1) p P (by lia) (by lia) (by lia) (vN O h1 d c2) λi j a1 a2 a3 a4=>?_).mono λr ⟨a,b,c,d,g⟩=>⟨a,by lia,by lia,d,g⟩;have el:∀i,k-(q+1)<=i->i<k+1->lt (p.getD i 0) (p.getD k 0)=false/\lt (p.getD k 0) (p.getD i 0)=false:=λi x y=>by
        by_cases z:i=k
        ·rw[z];exact⟨O.ir _,O.ir _⟩
        ·exact⟨O.tr _ _ _ c2 (e i (k-1) x (by lia) (by lia) (by lia)),O.tr _ _ _ (e (k-1) i (by lia) (by lia) x (by lia)) c⟩
       exact O.tr _ _ _ (el j (by lia) a4).2 (el i (by lia) a2).1
     ·exact⟨P,zg _,by lia,h3,d,e⟩
   · simp only[if_true];have c':=O.as _ _ c;split
     · have rp:J4 (kas_rev p (k-(q+1)) k) n:=WA P;refine(kF O f (k+1) 0 _ rp (by lia) (by lia) (by lia) (λi j hij hj=>?_) (one _)).mono λr ⟨a,b,c,d,g⟩=>⟨a,by lia,by lia,d,g⟩;by_cases hj':j<k
       ·exact rN O P (by lia) d e i j hij hj'
       · have ej:j=k:=by lia
         subst ej;rw[AA P (by lia),AA P (by lia),if_neg (show ¬(j-(q+1)<=j/\j<j) by lia)];split
         ·exact O.tr _ _ _ c' (fH O d (by lia) (by lia))
         ·exact O.tr _ _ _ c' (fH O d (by lia) (by lia))
     ·exact(kF O f (k+1) 0 p P (by lia) (by lia) (by lia) (vN O h1 d c') (one p)).mono λr ⟨a,b,c,d,g⟩=>⟨a,by lia,by lia,d,g⟩
theorem oR(O:WO lt)(P:J4 p n)(h1:1<=k)(hk:k<=n)(d:dnW lt p k):tOk lt n (kas_tail3 k n p) (λr=>J4 r.2 n/\1<=r.1/\r.1<=n/\upW lt r.2 r.1):=by
 unfold kas_tail3;have u:upW lt (kas_rev p 0 k) k:=λi j hij hj=>by rw[AA P hk,AA P hk,if_pos ⟨zD _,hj⟩,if_pos ⟨zD _,by lia⟩];exact d _ _ (by lia) (by lia)
 exact tOk.bind _ ((BH O (WA P) (n-k) k h1 (by lia) u).mono λm ⟨a1,a2,a3,_⟩=>⟨WA P,by lia,by lia,a3⟩)
theorem dP(O:WO lt)(P:J4 p n)(h1:1<=k)(hk:k<n)(d:dnW lt p (k+1)):tOk lt n (kas_descPart k n p) (λr=>J4 r.2 n/\1<=r.1/\r.1<=n/\upW lt r.2 r.1):=by
 unfold kas_descPart;refine tOk.bind _ ((kF O (n-(k+1)) (k+1) 0 p P (by lia) (by lia) (by lia) d λi j a1 a2 a3 a4=>by rw[show i=j by lia];exact O.ir _).mono λr ⟨a,b,c,e,g,h⟩=>?_);split
 ·exact oR O (WA a) (by lia) (by lia) (rN O a (by lia) g h)
 ·exact oR O a (by lia) (by lia) g
theorem Vv(O:WO lt)(P:J4 p n)(h2:2<=n):tOk lt n (kas_count n p) (λr=>J4 r.2 n/\1<=r.1/\r.1<=n/\upW lt r.2 r.1):=by
 unfold kas_count;refine tOk.bind _ ((BH O P (n-1) 1 (zg _) (by lia) (λi j _ _=>by lia)).mono λm ⟨a1,a2,a3,a4⟩=>?_);by_cases hm:m=n
 ·rw[if_pos (by simpa using hm)];exact⟨P,a1,by lia,a3⟩
 · rw[if_neg (by simpa using hm)];have a5:=O.as _ _ (a4 (by lia));by_cases h1:m>1
   · rw[if_pos h1];refine⟨P.bd (by lia),P.bd (by lia),?_⟩;rcases c:lt (p.getD 0 0) (p.getD (m-1) 0)with _|_
     · simp only[zy,if_false];refine dP O (WA P) (by lia) (by lia) λi j hij hj=>?_;rw[AA P (by lia),AA P (by lia),if_pos ⟨zD _,by lia⟩];by_cases hj':j<m
       ·rw[if_pos ⟨zD _,hj'⟩];exact a3 _ _ (by lia) (by lia)
       ·rw[if_neg (by lia),show j=m by lia];exact O.tr _ _ _ a5 (O.tr _ _ _ c (rF O a3 (zD _) (by lia)))
     ·exact⟨P,a1,by lia,a3⟩
   · rw[if_neg h1];have em:m=1:=by lia
     subst em;refine dP O P (zg _) (by lia) λi j hij hj=>?_;have e1:i=0:=by lia
     have e2:j=1:=by lia
     subst e1 e2;exact a5
theorem sK(O:WO lt)(P:J4 p n)(hk:k<n)(u:upW lt p k):∀f l r,l<=r->r<=k->r-l<=f->(∀i,i<l->lt (p.getD k 0) (p.getD i 0)=false)->(∀i,r<=i->i<k->lt (p.getD i 0) (p.getD k 0)=false)->
 tOk lt n (kas_place p k f l r) (λL=>L<=k/\(∀i,i<L->lt (p.getD k 0) (p.getD i 0)=false)/\∀i,L<=i->i<k->lt (p.getD i 0) (p.getD k 0)=false)
 |0,l,r,h1,h2,h3,a,b=>⟨by lia,a,λi hi=>b i (by lia)⟩
 |f+1,l,r,h1,h2,h3,a,b=>by
   unfold kas_place;by_cases h:l>=r
   ·rw[if_pos h];exact⟨by lia,a,λi hi=>b i (by lia)⟩
   · rw[if_neg h];have hm1:l<=(l+r) / 2:=by lia
     have hm2:(l+r) / 2<r:=by lia
     refine⟨P.bd hk,P.bd (by lia),?_⟩;rcases e:lt (p.getD k 0) (p.getD ((l+r) / 2) 0)with _|_
     ·simp only[zy,if_false];exact sK O P hk u f _ r (by lia) h2 (by lia) (λi hi=>O.tr _ _ _ (rF O u (show i<=(l+r) / 2 by lia) (by lia)) e) b
     ·simp only[if_true];exact sK O P hk u f l _ hm1 (by lia) (by lia) a λi hi hik=>O.tr _ _ _ (O.as _ _ e) (rF O u hi hik)
theorem oM(O:WO lt):∀f k p,J4 p n->k+f=n->upW lt p k->tOk lt n (kas_bin f p k) (λq=>J4 q n/\upW lt q n)
 |0,k,p,P,h,u=>⟨P,by rw[<-h];exact u⟩
 |f+1,k,p,P,h,u=>by
   unfold kas_bin;refine tOk.bind _ ((sK O P (show k<n by lia) u k 0 k (zD _) (zg _) (by lia) (λi hi=>by lia) (λi h1 h2=>by lia)).mono λL ⟨hL,a,b⟩=>?_);have hs:=P.size;refine oM O f (k+1) _ ⟨(Zy.mp (bubble_perm p k (k-L))).trans P.pm⟩ (by lia) ?_;have e:∀i,(bubble p k (k-L)).getD i 0=if i=L then p.getD k 0 else if L<i/\i<=k then p.getD (i-1) 0 else p.getD i 0:=λi=>by
    rw[V1,getElem?_bubble (by lia) _ (by lia),show k-(k-L)=L by lia];split
    ·rw[<-V1]
    ·split<;>rw[<-V1]
   intro i j hij hj;rw[e i,e j];by_cases h1:i=L
   ·rw[if_pos h1,if_neg (show ¬j=L by lia),if_pos (show L<j/\j<=k by lia)];exact b (j-1) (by lia) (by lia)
   · rw[if_neg h1];by_cases h2:j=L
     ·rw[if_pos h2,if_neg (show ¬(L<i/\i<=k) by lia)];exact a i (by lia)
     · rw[if_neg h2];by_cases h3:L<i
       ·rw[if_pos (show L<i/\i<=k by lia),if_pos (show L<j/\j<=k by lia)];exact u _ _ (by lia) (by lia)
       · rw[if_neg (show ¬(L<i/\i<=k) by lia)];by_cases h4:L<j
         ·rw[if_pos (show L<j/\j<=k by lia)];exact u i (j-1) (by lia) (by lia)
         ·rw[if_neg (show ¬(L<j/\j<=k) by lia)];exact u _ _ hij (by lia)
theorem QH(O:WO lt)(h2:2<=n):tOk lt n (kas_sort n) (λq=>J4 q n/\upW lt q n):=by
 unfold kas_sort;refine tOk.bind _ ((Vv O ⟨by simp⟩ h2).mono λr ⟨a,b,c,d⟩=>?_);by_cases h:r.1<n
 ·rw[if_pos h,show max r.1 1=r.1 by lia];exact oM O _ _ _ a (by lia) d
 ·rw[if_neg h];exact⟨a,by rw[show n=r.1 by lia];exact d⟩
def B8{α:Type}(lt:Nat->Nat->Bool):KasT α->α
 | .ret a=>a
 | .ask i j k=>B8 lt (k (lt i j))
theorem tOk.run:∀t,tOk lt n t Q->tOk lt n t (λa=>a=B8 lt t/\Q a)
 | .ret a,h=>⟨rfl,h⟩
 | .ask i j k,h=>⟨h.1,h.2.1,tOk.run (k (lt i j)) h.2.2⟩
theorem tOk.is:∀t,tOk lt n t Q->Q (B8 lt t)
 | .ret a,h=>h
 | .ask i j k,h=>tOk.is (k (lt i j)) h.2.2
end
end DL
namespace DL
open PySem PySem.Spec L2
open PyProof.Rows hiding St
def pE:D->Option (Int×Int)
 | .tup [.int a,.int x]=>some (a,x)
 |_=>none
def Z2:List D->Option (List (Int×Int))
 |[]=>some []
 |d::r=>match pE d,Z2 r with
   |some a,some b=>some (a::b)
   |_,_=>none
def D9(p q:Int×Int):Bool:=if p.1=q.1 then decide (p.2<q.2)else decide (p.1<q.1)
def ltP(qs:List (Int×Int))(i j:Nat):Bool:=D9 (qs.getD i (0,0)) (qs.getD j (0,0))
def R9(qs:List (Int×Int))(n:Nat):List Nat:=if n<2 then zF n else (B8 (ltP qs) (xB n)).toList
def A8(qs:List (Int×Int))(l:List D):List D:=(R9 qs l.length).map λi=>l.getD i .non
def iA(F:List D->M D)(l:List D):M D:=do
 let ks <-Q7 F l
 let qs <-C1 (Z2 ks)
 J8 (.lst (A8 qs l))
def iE(F:List D->M D):D->M D
 | .tup l=>if l.length<64 then iA F l else M.stuck
 | .ref r=>do
   match <-K4 r with
   | .lst l=>if l.length<64 then iA F l else M.stuck
   |_=>M.stuck
 |_=>M.stuck
def WC(F:List D->M D)(f:Fe):Fe:=λσ=>do
 let x <-f σ
 iE F x
theorem QO:D9 p q=true↔p.1<q.1\/(p.1=q.1/\p.2<q.2):=by
 unfold D9;by_cases e:p.1=q.1
 ·rw[if_pos e,decide_eq_true_iff];lia
 ·rw[if_neg e,decide_eq_true_iff];lia
theorem HA:D9 p q=false↔q.1<p.1\/(q.1=p.1/\q.2<=p.2):=by rw[<-Bool.not_eq_true,QO];lia
theorem NH(qs:List (Int×Int)):WO (ltP qs):=⟨λi j k h1 h2=>HA.mpr (by
 have h1:=HA.mp h1;have h2:=HA.mp h2;lia),λi j h=>HA.mpr (by
 have h:=QO.mp h;lia)⟩
theorem QF(qs:List (Int×Int))(n:Nat):(R9 qs n).Perm (zF n)/\(R9 qs n).Pairwise (λi j=>ltP qs j i=false):=by
 unfold R9;by_cases h:n<2
 · rw[if_pos h];refine⟨List.Perm.refl _,?_⟩
   match n,h with
   |0,_=>simp
   |1,_=>simp[Yv]
 · rw[if_neg h];obtain⟨P,U⟩:=tOk.is _ (QH (NH qs) (show 2<=n by lia));refine⟨P.pm,?_⟩;rw[xN];intro i j hi hj hij;have hs:=P.size;have hi':i<(B8 (ltP qs) (xB n)).size:=by simpa using hi
   have hj':j<(B8 (ltP qs) (xB n)).size:=by simpa using hj
   have:=U i j hij (by lia);simpa [Zz,hi',hj']using this
section
variable{X:Cx}{pins:PNS}{σ:St}{H:Hp}{s:zv}
def E8(h:Heap)(u:zh)(q:Int×Int):Prop:=∃a t t',u= .ref a/\YF h a #[.int q.1 t,.int q.2 t']
theorem cI(I:Inv X pins σ H s):∀ {ks} {qs} {kv:List V} {ku},Z2 ks=some qs->j9 (wc X) μ H ks kv->m9 kv ku->qs.length=ku.length/\∀(i:Nat) q,qs[i]? =some q->∃u,ku[i]? =some u/\E8 s.heap u q
 |[],qs,kv,ku,e,r,rv=>by
   cases e;cases r;cases rv
   exact⟨rfl,λi q z=>by simp at z⟩
 |d::r,qs,kv,ku,e,rr,rv=>by
   obtain⟨v,tl,rfl,rd,rt⟩:=rr
   cases rv with
   |cons ru rur=>
   rename_i u ur;unfold Z2 at e;rcases h1:pE d with _|a
   ·rw[h1]at e;cases e
   ·
     rcases h2:Z2 r with _|b
     ·rw[h1,h2]at e;cases e
     ·
       rw[h1,h2]at e
       cases e
       obtain⟨hl,hk⟩:=cI I h2 rt rur;refine⟨by simp[hl],λi q z=>?_⟩
       cases i with
       |succ i=>simpa using hk i q (by simpa using z)
       |zero=>
         simp at z;subst z;refine⟨u,rfl,?_⟩;unfold pE at h1;split at h1
         · rename_i n x
           cases h1
           unfold d7 at rd;obtain⟨ad,vs,rfl,q,rl⟩:=rd;obtain⟨v1,t1,rfl,e1,v2,t2,rfl,e2,e3⟩:=rl
           cases e3
           rw[U3 e1,U3 e2]at q
           cases ru
           obtain⟨ka,rvs,tp,_⟩:=I.tuple q
           cases rvs with
           |cons r1 rr1=>
             cases rr1 with
             |cons r2 rr2=>
               cases rr2
               obtain⟨t,rfl⟩:=r1;obtain⟨t',rfl⟩:=r2;exact⟨ad,t,t',rfl,tp⟩
         ·cases h1
end
section
variable{prog:zS}{w:jg}{A:jn}{E:VSP}{s:zv}{C:Bool->zv->Prop}
theorem iL(hx:E8 s.heap u q)(hy:E8 s.heap u' q')(h:C (D9 q q') s):zq (zC prog w) A (keyLt' (tuples' true) u u') C E s:=by
 obtain⟨a,t,t',rfl,o,ho,hc,n,hd⟩:=hx;obtain⟨b,v,v',rfl,o2,mo,hc2,n2,hd2⟩:=hy;refine PySem.W.kat_lt ho hd mo hd2 ?_;show PySem.W.KatLex prog w A true _ C [(.int q.1 t,.int q'.1 v),(.int q.2 t',.int q'.2 v')] 0 s;refine ZS (Zh (Ys (λe=>?_) λe=>?_))
 · have e1:q.1=q'.1:=by simpa using e
   refine Ya (ZS (Zh (Ys (λe=>?_) λe=>?_)))
   · have e2:q.2=q'.2:=by simpa using e
     refine Ya (PySem.W.kat_nil ?_);rw[show D9 q q'=false from HA.mpr (by lia)]at h;exact h
   ·refine Yr (PySem.W.kat_one _ _ (PyProof.Rows.lt_int ?_));unfold D9 at h;rw[if_pos e1]at h;exact h
 · have e1:¬q.1=q'.1:=by simpa using e
   refine Yr ?_;show zq (zC prog w) A (oneLt' true _ _) C _ s;rw[<-keyLt'_oneType];refine PySem.W.kat_lt_int ?_;unfold D9 at h;rw[if_neg e1]at h;exact h
theorem Mh{e e1:Nat}{ku vs:List zh}(hl:ku.length=vs.length)(mz:vs.length<64)(hq:qs.length=ku.length)(hk:∀(i:Nat) q,qs[i]? =some q->∃u,ku[i]? =some u/\E8 s.heap u q)
 (ho1:s.heap.get? kS=some (zR "list" (zJ ku) e)) (mo:s.heap.get? a=some (zR "list" #[] e1)) (ne:a≠kS)
 (h:∀(h':Heap) (e':Nat),(∀b o,b∉ [a,kS]->s.heap.get? b=some o->h'.get? b=some o)->h'.get? a=some (zR "list" (zJ ((R9 qs vs.length).map λi=>vs.getD i Value.none)) e')->P (.done (.ret .none)) {s with heap:=h'}):
 zq (zC prog w) A (ksk_end a false vs.toArray e1 (.ref kS) (zJ ku)) P E s:=by
 unfold ksk_end
 try dsimp only
 simp only[zy,if_false];by_cases h2:vs.toArray.size<2
 · rw[if_pos h2,if_pos h2];refine za (ze ?_);rw[Ye];refine za (ze ?_);dsimp only;have hv:(Yl (XY general' ((zJ ku).zip vs.toArray) #[] 7 none)).map (·.2)=zJ ((zF vs.length).map λi=>vs.getD i Value.none):=by
    show ((zJ ku).zip vs.toArray).map (·.2)=_;apply xc.mp;rw[ZZ];apply yn
    ·simp[hl]
    ·intro i hi hj;simp at hi hj ⊢;simp[hj]
   have:vs.length<2:=by simpa using h2
   refine FG hv (by simp;lia) (by lia) rfl ho1 mo ne λh' e' k1 k2=>h h' e' k1 (by rw[R9,if_pos this];exact k2)
 · rw[if_neg h2,if_neg h2];have hn2:2<=vs.length:=by simpa using h2
   have gq:∀i,i<vs.length->qs[i]? =some (qs.getD i (0,0)):=λi hi=>by rw[zn,zo (by lia)];rfl
   obtain⟨fs,T,hfs,hT⟩:∃fs:List zh,xO s.heap ku fs/\0<fs.length/\∀v∈fs,∃n t,v= .int n t:=by
    have gen:∀(ku:List zh) (qs:List (Int×Int)),qs.length=ku.length->(∀(i:Nat) (q:Int×Int),qs[i]? =some q->∃u,ku[i]? =some u/\E8 s.heap u q)->∃fs:List zh,xO s.heap ku fs/\fs.length=ku.length/\∀v∈fs,∃n t,v= .int n t:=by
     intro ku
     induction ku with
     |nil=>exact λqs _ _=>⟨[],trivial,rfl,λv hv=>by cases hv⟩
     |cons u r ih=>
       intro qs hl hk;rcases qs with _|⟨q,qr⟩
       ·simp at hl
       ·
         obtain⟨u',e1,ad,t,t',rfl,o,ho,hc,n,hd⟩:=hk 0 q rfl;simp at e1;subst e1;obtain⟨fs,f1,f2,f3⟩:=ih qr (by simpa using hl) λi q hq=>by simpa using hk (i+1) q (by simpa using hq)
         refine⟨.int q.1 t::fs,ZJ ho hc hd rfl f1,by simp[f2],λv hv=>?_⟩;rcases zu.mp hv with rfl|hv
         ·exact⟨_,_,rfl⟩
         ·exact f3 v hv
    obtain⟨fs,f1,f2,f3⟩:=gen ku qs hq hk;exact⟨fs,f1,by lia,f3⟩
   refine za (Xj (T:=.type "int") T hfs (λv hv=>?_) (by decide) ?_)
   ·obtain⟨n,t,rfl⟩:=hT v hv;exact ZI rfl
   · have run:=tOk.wp (s:=s) (cmp:=xi prog w A (tuples' (Value.type "int" != Value.type "tuple")) ku) (λi j C hi hj hC=>by
      obtain⟨u,u1,u2⟩:=hk i _ (gq i hi);obtain⟨v,v1,v2⟩:=hk j _ (gq j hj);unfold xi;rw[zn,zn,u1,v1];exact iL u2 v2 hC) _ (tOk.run _ (QH (NH qs) hn2))
     refine za (jF (Yb (Q:=λma s'=>∃p:Array Nat,p.size=vs.length/\Yl ma=p.map (ZT ((zJ ku).zip vs.toArray))/\YE ma=none/\s'=s/\p=B8 (ltP qs) (xB vs.length)/\J4 p vs.length/\upW (ltP qs) p vs.length) hl hn2 mz (λp ma s' a1 a2 a3 a4=>⟨p,a1,a2,a3,a4⟩) run) ?_ λ_ _ x=>x);rintro⟨⟨⟩,ma⟩ s' ⟨p,hp,har,hf,rfl,rfl,P1,U⟩
     try dsimp only
     exact FG (ZR hl har) (by rw[zf,zI,hp];exact mz) (by lia) hf ho1 mo ne λh' e' k1 k2=>h h' e' k1 (by rw[R9,if_neg (by lia)];exact k2)
end
section
variable{X:Cx}{Z:XC}{pins:PNS}{σ:St}{H:Hp}{s:zv}{F:List D->M D}{k:Nat}{f:Addr}{fd:xP}{ps:List Str}{μ:List Addr}{G:DH}
theorem NR(rl:j9 (wc X) μ H l ws)(rv:m9 ws vs):
 ∃ws',m9 ws' ((R9 qs vs.length).map λi=>vs.getD i Value.none)/\j9 (wc X) μ H (A8 qs l) ws'/\ws'.length=vs.length:=by
 have hlv:l.length=vs.length:=by rw[rl.length,rv.length]
 have hp:=(QF qs vs.length).1;have main:∀p:List Nat,(∀i∈p,i<vs.length)->∃ws',m9 ws' (p.map λi=>vs.getD i Value.none)/\j9 (wc X) μ H (p.map λi=>l.getD i .non) ws'/\ws'.length=p.length:=by
  intro p
  induction p with
  |nil=>exact λ_=>⟨[],.nil,rfl,rfl⟩
  |cons i r ih=>
    intro hi;obtain⟨ws',a1,a2,a3⟩:=ih λj hj=>hi j (zi _ hj);have li:=hi i (by simp);have gl:l[i]? =some (l.getD i .non):=by rw[zn,zo (by lia)];rfl
    obtain⟨v,e1,r1⟩:=rl.get (i:=i) gl;obtain⟨u,e2,r2⟩:=rv.get e1;refine⟨v::ws',?_,⟨v,ws',rfl,r1,a2⟩,by simp[a3]⟩;have:vs.getD i Value.none=u:=by rw[zn,e2];rfl
    rw[zK,this];exact .cons r2 a1
 obtain⟨ws',a1,a2,a3⟩:=main _ λi hi=>by simpa using hp.mem_iff.mp hi
 exact⟨ws',a1,by unfold A8;rw[hlv];exact a2,by rw[a3,hp.length_eq];simp⟩
theorem FX{Q:VK}(hF:E2 X.prog X.w X.K X.mg X.base CX0 k f fd ps (spD (wc X) 1 F))(hb:A4 X.K fd ps [])(hrm:O3 (k+2) X.A)(I:Inv X pins σ H s)(hr:m6 (wc X) μ G H)(mz:l.length<64)
 (hcol:∀Q',(∀(h1:Heap) (tk:Nat) vs ws,(∀b o,s.heap.get? b=some o->h1.get? b=some o)->m9 ws vs->j9 (wc X) μ H l ws->Q' vs {s with heap:=h1,toks:=tk})->zq (zC X.prog X.w) X.A.in1 (collect u) Q' X.xe s)
 (p:c7 (wc X) Z μ H (iA F l G) (λd X9 _ H'=>∀v,d7 (wc X) X9 H' d v->Q v H')):zq (zC X.prog X.w) X.A (call (.builtin "sorted") [u] [(jq "key",.ref f)]) (EP X pins σ Q) X.xe s:=by
 refine call_function_entry_kw JR Ji Jj (ksk_s1 _ _) ?_;unfold yt.«sorted»;refine za (m:=checkCount "sorted" 1 1 _) (ze ?_);refine za (hcol _ λh1 tk vs ws k1 rv rl=>?_);have hlv:l.length=vs.length:=by rw[rl.length,rv.length]
 refine za (xC ?_ (by rw[ju];lia));have I1:Inv X pins σ H {s with heap:=h1,toks:=tk}:=I.kept k1;have hoL:(h1.push (zR "list" vs.toArray 0)).get? h1.objs.size=some (zR "list" vs.toArray 0):=zp _ rfl;refine za (jy (wpAny_call_entry_kw Xm ⟨_,hoL,rfl⟩ YO ?_ (ksk_l1 _ _)));show zq (zC X.prog X.w) X.A.in1.in1 (yt.«list.sort» ⟨[.ref h1.objs.size], [(jq "key",.ref f)]⟩) _ _ _;rw[ksk_t1];unfold ksk_tree;refine za (ZV hoL rfl ?_);refine za (yw hoL rfl ?_ (by rw[zl,ju];lia) (zD _));obtain⟨e1,ho1⟩:∃e1,((h1.push (zR "list" vs.toArray 0)).update h1.objs.size (zT λ_=>(#[]:Array zh))).get? h1.objs.size=some (zR "list" #[] e1):=⟨_,yZ hoL λ_=> #[]⟩;refine za (xR ho1 rfl ?_);refine za (Zg ?_ (by show vs.length<=_;rw[ju];lia));refine za (xC ?_ (zD _));refine jy ?_;have hsz:((h1.push (zR "list" vs.toArray 0)).update h1.objs.size (zT λ_=>(#[]:Array zh))).objs.size=h1.objs.size+1:=by rw[Heap.size_update,size_push']
 have hkS:(((h1.push (zR "list" vs.toArray 0)).update h1.objs.size (zT λ_=>(#[]:Array zh))).push (zR "tuple" vs.toArray 0)).objs.size=h1.objs.size+2:=by rw[size_push',hsz]
 have keep:∀b o,h1.get? b=some o->((((h1.push (zR "list" vs.toArray 0)).update h1.objs.size (zT λ_=>(#[]:Array zh))).push (zR "tuple" vs.toArray 0)).push (zR "list" #[] 0)).get? b=some o:=λb o q=>by have ky:b<h1.objs.size:=zw q;rw[xy _ _ _ (by rw[hkS];exact zG (jR (jR ky))),xy _ _ _ (by rw[hsz];exact zG (jR ky)),jM _ _ _ _ (zG ky),xy _ _ _ (zG ky)];exact q
 have I2:Inv X pins σ H {s with heap:=(((h1.push (zR "list" vs.toArray 0)).update h1.objs.size (zT λ_=>(#[]:Array zh))).push (zR "tuple" vs.toArray 0)).push (zR "list" #[] 0),toks:=tk}:=I1.kept keep;have na:H h1.objs.size=none:=I1.hok.fresh (zg _);have nk:H (h1.objs.size+2)=none:=I1.hok.fresh (xM _ _);have ga:((((h1.push (zR "list" vs.toArray 0)).update h1.objs.size (zT λ_=>(#[]:Array zh))).push (zR "tuple" vs.toArray 0)).push (zR "list" #[] 0)).get? h1.objs.size=some (zR "list" #[] e1):=zc _ (zc _ ho1);have gk:((((h1.push (zR "list" vs.toArray 0)).update h1.objs.size (zT λ_=>(#[]:Array zh))).push (zR "tuple" vs.toArray 0)).push (zR "list" #[] 0)).get? (h1.objs.size+2)=some (zR "list" (zJ []) 0):=by rw[<-hkS];exact zp _ rfl
 have fa:∀H':Hp,H' h1.objs.size=none->B1 X pins H' h1.objs.size:=λH' hn=>I1.fpOk (zg _) hn;have fk:∀H':Hp,H' (h1.objs.size+2)=none->B1 X pins H' (h1.objs.size+2):=λH' hn=>I1.fpOk (xM _ _) hn;have ne:h1.objs.size≠h1.objs.size+2:=by lia
 unfold iA at p;have pk:c7 (wc X) ZF μ H (Q7 F l G) (λks X9 G' H'=>ks.length=l.length/\c7 (wc X) Z X9 H' ((C1 (Z2 ks) >>= λqs=>J8 (.lst (A8 qs l))) G') (λd X9 _ H'=>∀v,d7 (wc X) X9 H' d v->Q v H')):=by
  have q:=c7.bind p;have hkl:∀(l:List D) (G:DH) (ks:List D) (G':DH),Q7 F l G=some (.ok ks,G')->ks.length=l.length:=by
   intro l
   induction l with
   |nil=>intro G ks G' z;cases z;rfl
   |cons d r ih=>
     intro G ks G' z;unfold Q7 at z;rw[M.bind_eq]at z
     match h:noX (F [d]) G,z with
     |some (.ok kk,G1),z=>
       dsimp only at z;rw[M.bind_eq]at z
       match h2:Q7 F r G1,z with
       |some (.ok ks,G2),z=>
         cases z
         simp[ih _ _ _ h2]
  have kne:∀(l:List D) (G:DH) (x:Str) (G':DH),Q7 F l G≠some (.error x,G'):=by
   intro l
   induction l with
   |nil=>intro G x G' z;cases z
   |cons d r ih=>
     intro G x G' z;unfold Q7 at z;rw[M.bind_eq]at z;have nx:∀x G',noX (F [d]) G≠some (.error x,G'):=λx G' z=>by
      unfold noX at z
      try dsimp only at z
      split at z<;>cases z
     match h:noX (F [d]) G,z with
     |some (.error y,G1),z=>exact nx _ _ h
     |some (.ok kk,G1),z=>
       dsimp only at z;rw[M.bind_eq]at z
       match h2:Q7 F r G1,z with
       |some (.error y,G2),z=>exact ih _ _ _ h2
       |some (.ok ks,G2),z=>cases z
  match hh:Q7 F l G,q with
  |some (.ok ks,G1),q=>exact λX9 H' x h=>⟨hkl _ _ _ _ hh,q X9 H' x h⟩
  |some (.error x,G1),q=>exact(kne _ _ _ _ hh).elim
 rw[hkS];show zq (zC X.prog X.w) X.A.in1.in1 (ksk_rest h1.objs.size (.ref f) false vs.toArray e1 (.ref (h1.objs.size+2))) _ _ _;unfold ksk_rest;refine za (Zr ?_)
 first
  |rw[List.forIn_toArray]
  |(rw[<-xj];simp only[List.toList_toArray])
  |rw[<-xj]
 refine za (GJ (X:=X) (pins:=pins) (σ:=σ) (A:=X.A.in1.in1) hF hb hrm.in1.in1 rfl ⟨rfl,rfl⟩ fa fk ne (λx s0 R hx=>?_) l ws vs [] [] [] 0 μ G H _ rl rv rfl .nil hr I2 gk ga na nk (by simp;lia) ?_)
 · refine za (xD (jF hx (λkv s'' hk=>?_) λ_ _ hF=>hF.elim));obtain⟨ks,e,hks,g,hR⟩:=hk
   try dsimp only
   refine za (yw g rfl ?_ (by rw[zl,ju];lia) (zQ (Xx (Array.size_push ..)) (by rw[zl,ju];lia)));exact ze ⟨rfl,hR⟩
 · refine pk.mono λks X9 G' H' x1 hr1 ⟨hks,p1⟩ s' kv ku e' _ _ q1 q2 I' g1 g2 n1 n2=>?_;rw[Zo]at q1;obtain⟨qs,eq,p2⟩:=R1 p1;obtain⟨nh,hk1⟩:=cI I' eq q1 q2
   try dsimp only
   refine za (ZV g1 rfl ?_);have hkv:ku.length=vs.length:=by rw[<-q2.length,<-q1.length,hks,hlv]
   refine Mh hkv (by lia) nh hk1 g1 g2 ne λh' e2 keep2 gg=>?_;have mf:j9 (wc X) X9 H' l ws:=rl.mono x1;obtain⟨ws',a1,a2,a3⟩:=NR (qs:=qs) mf rv;refine⟨_,rfl,ze ⟨_,rfl,.ref h1.objs.size,upd H' h1.objs.size (.lst ws'),TM (t':=s'.toks) (ch:= [h1.objs.size,h1.objs.size+2]) I' (λb hb=>?_) (by simp) keep2 ⟨by rw[a3,ju];lia,_,e2,a1,gg⟩,rfl,T7 hr1 a2 p2 _ n1⟩⟩;rcases zu.mp hb with rfl|hb
   ·exact fa _ n1
   ·rw[zm]at hb;subst hb;exact fk _ n2
theorem bf(hc:X.calm=true)(hF:E2 X.prog X.w X.K X.mg X.base CX0 k f fd ps (spD (wc X) 1 F))(hb:A4 X.K fd ps [])(hrm:O3 (k+2) X.A)(I:Inv X pins σ H s)(hr:m6 (wc X) μ G H)(rd:d7 (wc X) μ H d v)(ru:t6 v u)
 (p:c7 (wc X) Z μ H (iE F d G) (λd X9 _ H'=>∀v,d7 (wc X) X9 H' d v->Q v H')):zq (zC X.prog X.w) X.A (call (.builtin "sorted") [u] [(jq "key",.ref f)]) (EP X pins σ Q) X.xe s:=by
 have seq:∀ {a:Addr} {T:String} {o:Obj} {ka:List zh} {vs:List V} {n:Nat} {l:List D},(T= "list"\/T= "tuple")->s.heap.get? a=some o->o.cls= .type T->o.data= .seq ka.toArray n->m9 vs ka->j9 (wc X) μ H l vs->vs.length<=zk->
  c7 (wc X) Z μ H ((if l.length<64 then iA F l else M.stuck:M D) G) (λd X9 _ H'=>∀v,d7 (wc X) X9 H' d v->Q v H')->zq (zC X.prog X.w) X.A (call (.builtin "sorted") [.ref a] [(jq "key",.ref f)]) (EP X pins σ Q) X.xe s:=by
  intro a T o ka vs n l hT h1 h2 h3 rv rl hz p;split at p
  case isFalse=>exact p.elim
  rename_i mz;refine FX hF hb hrm I hr mz (λQ' hQ=>Jb a hT h1 h2 h3 (λh' kk=>?_) (by rw[zl,<-rv.length];exact hz)) p;exact hQ h' s.toks ka vs kk rv rl
 unfold iE at p;split at p
 · rename_i l;unfold d7 at rd;obtain⟨a,vs,rfl,q,rl⟩:=rd
   cases ru
   obtain⟨ka,rv,⟨o,h1,h2,n,h3⟩,hz⟩:=I.tuple q;exact seq (.inr rfl) h1 h2 h3 rv rl hz p
 · rename_i i;unfold d7 at rd;obtain⟨a,m,rfl⟩:=rd
   cases ru
   obtain⟨o,g,p1⟩:=G9 p;have ro:=hr.obj i o a g m;rcases o with l|l|l|l
   ·
     obtain⟨vs,q,rl⟩:=ro;obtain⟨ka,rv,pl,hz⟩:=I.list (SqL.of q);obtain⟨o,h1,h2,n,h3⟩:=pl.isList;exact seq (.inl rfl) h1 h2 h3 rv rl hz p1
   ·exact p1.elim
   ·exact p1.elim
   ·exact p1.elim
 ·exact p.elim
end
section
variable{X:Cx}{Z:XC}{e:Expr}{fe:Fe}{p pf kp pos:Pos}{x:Str}{F:List D->M D}
theorem DU(hc:X.calm=true)(hF:∃k kk,lA F 1 x X.prog X.w X.K X.mg X.base k/\O3 kk X.A/\k+2<=kk)(om:BLs X.mg)(hgs:Gl X "sorted")(hg:Gl X x)(he:DE X Z e fe)(hs:S5 e=true)(hdb:(x==("__debug__" :Str))=false):
 DE X Z (.Call (.Name "sorted" p) [e] [⟨some "key",.Name x pf,kp⟩] pos) (WC F fe):=⟨by
 intro pins s σ H Q I h;obtain⟨k,kk,hF,hrm,hk⟩:=hF;obtain⟨f,fd,ps,f1,f2,f3,f4⟩:=hF.ex;have hbs:je ("sorted" :Str)=some (.builtin "sorted"):=wE;refine yT (y9 I hgs (om.h _ (by decide +kernel)) hbs ?_ (by decide) (by decide));obtain⟨X2,μ,G,sr,hr,pp⟩:=h;unfold WC at pp;have pa:=c7.bind pp;have hst:zX [e] X.env= (false,eval e X.env)::zX [] X.env:=gB hs;refine callWith_builtin_kwB (by rw[HC];exact cC (by rw[jL,hs];rfl)) rfl (evalArgs_kw2 rfl ?_ hst);have ha:DA X Z [e] (B0 fe o0):=mH he pJ hst;refine thn (ha.h pos pins s σ H (λvs H1=>∃v d X0 G1,vs= [v]/\d7 (wc X) X0 H1 d v/\m6 (wc X) X0 G1 H1/\c7 (wc X) Z X0 H1 (iE F d G1) (λd X9 _ H'=>∀v,d7 (wc X) X9 H' d v->Q v H')) I ?_) λus s1 ⟨vs,H1,I1,r1,v,d,X0,G1,e1,rd,hr1,p1⟩=>?_
 · refine⟨X2,μ,G,sr,hr,?_⟩;show c7 (wc X) Z μ H ((fe X2 >>= λy=>(pure [y]:M (List D))) G) _
   match hm:fe X2 G,pa with
   |some (.ok y,G1),pa=>
     rw[M.bind_ok hm];intro X9 H' x1 h1 vs rv;obtain⟨v,ev,rv2⟩:=U2 rv;subst ev;exact⟨v,y,X9,G1,rfl,rv2,h1,pa X9 H' x1 h1⟩
   |some (.error y,G1),pa=>
     rw[M.bind_eq,hm];exact pa
 ·subst e1;obtain⟨u,rfl,ru⟩:=C3 r1;show zq _ _ (evalAll [(do let v <-eval (.Name x pf) X.env;standAt pos;pure v)]) _ _ s1;refine wpAny_evalAll_cons (za (MD I1 hg f2 (za (Yp (ze (wpAny_evalAll_nil ?_)))) hdb));exact bf hc f1 f4 (hrm.mono hk) I1 hr1 rd ru p1⟩
end
section
variable{prog:zS}{w:jg}{A:jn}{E:VSP}{s:zv}
end
section
variable{X:Cx}{Z:XC}{es:List Expr}{pos:Pos}
end
section
variable{X:Cx}{Z:XC}
end
def P6:List D->M D:=λds=>match ds with
 |[.int n]=>if n.natAbs.log2<1920 then pure (.str (jq (toString n)))else M.stuck
 |_=>M.stuck
def iB:List D->M D:=λds=>match ds with
 |[.int i]=>pure (.int i)
 |[.bl k]=>pure (.int (if k then 1 else 0))
 |[.str z]=>match intText? z with
   |some n=>if z.length<=640 then pure (.int n)else M.stuck
   |none=>M.stuck
 |_=>M.stuck
def Z1(z p:Str)(i:Int):Bool:=decide (fromIndex z.length i+p.length<=z.length)&&YD z p (fromIndex z.length i)
def startsD:D->List D->M D:=λx ds=>match x,ds with
 | .str z, [.str p,.int i]=>pure (.bl (Z1 z p i))
 |_,_=>M.stuck
def K5:Fs:=λ_=>M.stuck
section
variable{X:Cx}{Z:XC}
theorem Dk:O8 X Z (.type "str") P6:=⟨by
 intro pins s σ H xs us Q I r ki;obtain⟨ds,μ,G,rl,hr,p⟩:=ki;rcases ds with _|⟨_|_|n|_|_|_|_|_,_|⟨_,_⟩⟩<;>try exact p.elim
 obtain⟨v,rfl,rv⟩:=U2 rl;obtain⟨u,rfl,ru⟩:=C3 r;rw[U3 rv]at ru;obtain⟨t,rfl⟩:=ru;have p:c7 (wc X) Z μ H ((if n.natAbs.log2<1920 then pure (.str (jq (toString n)))else M.stuck:M D) G) _:=p;split at p
 case isFalse=>exact p.elim
 rename_i hn;exact PySem.P.str_of_int hn ⟨.str (jq (toString n)),H,I.tok _,⟨_,rfl⟩,c7.ok p hr _ (by unfold d7;rfl)⟩⟩
theorem HU:O8 X Z (.type "int") iB:=⟨by
 intro pins s σ H xs us Q I r ki;have hE:=ki;obtain⟨ds,μ,G,rl,hr,p⟩:=ki;rcases ds with _|⟨_|b|n|z|_|_|_|_,_|⟨_,_⟩⟩<;>try exact p.elim
 ·exact(lR (X:=X) (Z:=Z)).h pins s σ H xs us Q I r ⟨_,μ,G,rl,hr,p⟩
 ·exact(lR (X:=X) (Z:=Z)).h pins s σ H xs us Q I r ⟨_,μ,G,rl,hr,p⟩
 · obtain⟨v,rfl,rv⟩:=U2 rl;obtain⟨u,rfl,ru⟩:=C3 r;rw[U1 rv]at ru;obtain⟨t,rfl⟩:=ru;have p:c7 (wc X) Z μ H ((match intText? z with|some n=>if z.length<=640 then pure (.int n)else M.stuck|none=>M.stuck:M D) G) _:=p;rcases hz:intText? z with _|n
   ·rw[hz]at p;exact p.elim
   · rw[hz]at p;have p:c7 (wc X) Z μ H ((if z.length<=640 then pure (.int n)else M.stuck:M D) G) _:=p;split at p
     case isFalse=>exact p.elim
     rename_i hl;exact PySem.W.KIN.call_text hz hl ⟨.int n,H,I.tok _,⟨_,rfl⟩,c7.ok p hr _ ofI⟩⟩
theorem Hz(_:X.calm=true):BD P6 "str" X Z:=⟨.inr ⟨_,Dk,Fw⟩⟩
theorem dk(_:X.calm=true):BD iB "int" X Z:=⟨.inr ⟨_,HU,Px⟩⟩
theorem BV:MtD X Z "str.startswith" startsD:=by
 intro pins s σ H x xs v us Q I rx rvs ki;obtain⟨d,ds,μ,G,rd,rl,hr,p⟩:=ki;unfold startsD at p;split at p
 ·rename_i z q i;rw[U1 rd]at rx;obtain⟨t,rfl⟩:=rx;obtain⟨v1,v2,rfl,r1,r2⟩:=PF rl;obtain⟨u1,u2,rfl,s1,s2⟩:=vC rvs;rw[U1 r1]at s1;rw[U3 r2]at s2;obtain⟨t1,rfl⟩:=s1;obtain⟨t2,rfl⟩:=s2;exact call_gives JP (typeIs_str _ _ _) F.entry_str_startswith (F.args_str_startswith_3 _ _ _) (gives_str_startswith_from z q i t t1 t2) (show (PySem.Made.val _).post _ s from⟨.bl (Z1 z q i),H,I,rfl,c7.ok p hr _ (by unfold d7;rfl)⟩)
 ·exact p.elim
theorem SZ{st:Stmt}:DS X Z st K5:=⟨by
 intro pins s σ H E I ki;obtain⟨X2,μ,G,sr,hr,p⟩:=ki;exact p.elim⟩
end
section
variable{prog:zS}{w:jg}{A:jn}{E:VSP}{s:zv}
end
section
variable{prog:zS}{w:jg}{A:jn}{E:VSP}{s:zv}
end
theorem l8:Slot "set_iterator" "__next__" "set_iterator.__next__":=.of (owner:= "set_iterator") (n:= "__next__") (by rw[JV,YT];kernel_rfl) (by decide +kernel) (by decide +kernel) (by decide +kernel) (by first|exact .inl (by decide +kernel)|exact .inr (by decide +kernel)) (by rw[isSubtype_type];kernel_rfl)
theorem lO:Slot "set_iterator" "__iter__" "set_iterator.__iter__":=.of (owner:= "set_iterator") (n:= "__iter__") (by rw[JV,YT];kernel_rfl) (by decide +kernel) (by decide +kernel) (by decide +kernel) (by first|exact .inl (by decide +kernel)|exact .inr (by decide +kernel)) (by rw[isSubtype_type];kernel_rfl)
theorem IE:entryFor table "set_iterator.__next__" =some yt.«set_iterator.__next__»:=entryFor_of_tree (by kernel_rfl)
theorem mT:entryFor table "set.__iter__" =some yt.«frozenset.__iter__»:=entryFor_alias (id':= "frozenset.__iter__") (by kernel_rfl) rfl (by decide +kernel) (by kernel_rfl)
theorem AF(a:zh):argsOk "set_iterator.__next__" ⟨[a], []⟩:=by unfold argsOk;kernel_rfl
theorem AY(a:zh):argsOk "set_iterator.__iter__" ⟨[a], []⟩:=by unfold argsOk;kernel_rfl
theorem Qj:entryFor table "set_iterator.__iter__" =some yt.«dict_keyiterator.__iter__»:=entryFor_alias (id':= "dict_keyiterator.__iter__") (by kernel_rfl) rfl (by decide +kernel) (by kernel_rfl)
section
variable{prog:zS}{w:jg}{A:jn}{E:VSP}{s:zv}
theorem Nq(hT:s.TypeIs (.ref r) "set")(h:Q false s):zq (zC prog w) A (Xa (.ref r)) Q E s:=by
 unfold Xa;refine za (wpAny_specialOf hT PySem.F.slot_set_len.lookup ?_);generalize hq:("set.__len__" :String)=id1
 wp_delta
 rw[show splitId id1=some ("set", "__len__")from by subst hq;decide +kernel];subst hq;refine za (YB (T:= "set") (b:=true) hT (by rw[isSubtype_type];kernel_rfl) ?_);refine ya (λz=>absurd z (by decide)) (λ_=>?_);refine ya (λ_=>?_) (λz=>absurd (by decide +kernel) z);exact za (xS hT (ze h))
end
theorem nW:je "set" =some (.type "set"):=by decide +kernel
section
variable{X:Cx}{Z:XC}{c:Wc}{μ:List Addr}{H:Hp}{G:DH}
end
section
variable{X:Cx}{Z:XC}{ea eb:Expr}{fa fb:Fe}{p p1 p2 q1 q2 q3 pos:Pos}
end
def cy(A:jn)(s:zv)(y x:zh)(b:Bool):Prop:=
 ∀(prog:zS) (w:jg) (E:VSP) (Q:VSP),Q (.bool b) s->zq (zC prog w) A (richCompare .GtE y x) Q E s
inductive GeR(A:jn)(s:zv):List zh->List zh->Bool->Prop
 |nil:GeR A s [] [] true
 |eq {x y xs ys b}:yb A s x y true->GeR A s xs ys b->GeR A s (x::xs) (y::ys) b
 |ne {x y xs ys b}:yb A s x y false->cy A s x y b->GeR A s (x::xs) (y::ys) b
section
open PySem.SeqAt
open PySem.AutoSeq1 (wpAny_loadPart')
open PySem.MeetsSeq PySem.MeetsSeq2 PySem.MeetsSeq3
end
section
variable{X:Cx}{Z:XC}
end
def oP:Fe:=λ_=>M.stuck
section
theorem tS:DE X Z e oP:=⟨by
 intro pins s σ H Q I ki;obtain⟨X2,μ,G,sr,hr,p⟩:=ki;exact p.elim⟩
end
section
variable{X:Cx}{Z:XC}{pins:PNS}{σ:St}{k:Nat}{f:Addr}{fd:xP}{ps:List Str}{F:List D->M D}{A:jn}
end
section
variable{X:Cx}{Z:XC}{F:List D->M D}{x:Str}{e:Expr}{fe:Fe}{p pf kp pos:Pos}
end
section
variable{prog:zS}{w:jg}{A:jn}{E:VSP}{s:zv}{K:Type}[DecidableEq K]{knd:KeyKind prog w K}
end
section
variable{X:Cx}{Z:XC}{ea:Expr}{fa:Fe}{p q1 ap pos:Pos}
end
inductive CdE(w:jg)(K:zj)(mg:Str->Option zh):List DictEntry->List (Str×D)->Prop
 |nil:CdE w K mg [] []
 |cons {z:Str} {t:Tok} {u:zh} {d:D} {es:List DictEntry} {tb:List (Str×D)} (h:CR K mg d u) (r:CdE w K mg es tb):CdE w K mg ({hash:=yp w.params z,key:=.str z t,val:=u}::es) ((z,d)::tb)
structure uI(w:jg)(K:zj)(mg:Str->Option zh)(x:Str)(tb:List (Str×D)):Prop where
 ex:∃a es n,mg x=some (.ref a)/\K.lookup a=some ⟨.type "dict",none,.dict (zJ es) n, #[]⟩/\CdE w K mg es tb
 nd:(tb.map (·.1)).Nodup
def GF:List (Str×D)->Str->Option D
 |[],_=>none
 |(y,d)::r,z=>if y=z then some d else GF r z
def ixC(x:Str)(tb:List (Str×D)):D->D->M D:=λa b=>match a,b with
 | .fn y,.str z=>if y=x then C1 (GF tb z)else M.stuck
 |_,_=>M.stuck
theorem CdE.kv{w:jg}{K:zj}(h:CdE w K mg es tb):∃iz:List (Key×zh),Pairs (u5 P w) es iz/\(∀e∈es,∃k,(u5 P w).is k e.key=true/\e.hash= (u5 P w).hash k)/\iz.map (·.1)=tb.map (λp=>(.inr p.1:Key))/\∀z d,GF tb z=some d->∃u,YJ iz (.inr z)=some u/\CR K mg d u:=by
 induction h with
 |nil=>exact⟨[],.nil,λ_ h=>(nomatch h),rfl,λ_ _ h=>by cases h⟩
 |@cons z t u d es tb h r ih=>
   obtain⟨iz,h1,h2,h3,h4⟩:=ih;refine⟨(.inr z,u)::iz,.cons (rJ z t) rfl h1,λe he=>?_,by rw[zK,zK,h3],λy d' e=>?_⟩
   · rcases zu.mp he with rfl|he
     ·exact⟨.inr z,rJ z t,rfl⟩
     ·exact h2 e he
   · unfold GF at e;by_cases c:z=y
     · rw[if_pos c]at e
       cases e
       refine⟨u,?_,h⟩;subst c;simp[YJ]
     ·rw[if_neg c]at e;obtain⟨u',e1,e2⟩:=h4 y d' e;refine⟨u',?_,e2⟩;have:¬(Sum.inr z:Key)=Sum.inr y:=λq=>c (JU q);simp only[YJ,yG,this,decide_false]at e1 ⊢;exact e1
section
variable{X:Cx}{Z:XC}{b:Expr}{fb:Fe}{x:Str}{tb:List (Str×D)}{p pos:Pos}
theorem gc(hc:uI X.w X.K X.mg x tb):IxD X Z (ixC x tb):=by
 intro value slice pins s σ H vx vy v u Q I rx ry h hs;obtain⟨dx,dy,μ,G,mh,mq,hr,pp⟩:=h;unfold ixC at pp;split at pp
 · rename_i y z;split at pp
   · rename_i e;subst e;obtain⟨d,ed,k⟩:=qF hr pp;unfold d7 at mh;obtain⟨a',em,rfl⟩:=mh;obtain⟨a,es,n,hm,hl,ce⟩:=hc.ex;have ea:a'=a:=by
      have:=em.symm.trans hm;injection this with this;injection this
     subst ea;obtain⟨iz,h1,h2,h3,h4⟩:=ce.kv (P:=X.prog);obtain⟨w',e1,v',rv',rp⟩:=h4 z d ed
     cases rx
     have dd:s.heap.DictOf (u5 X.prog X.w) a' iz:=⟨_,_,_,I.kIn _ _ hl,⟨rfl,rfl,rfl⟩,rfl,λe he=>h2 e (by simpa using he),by simpa using h1,by
      rw[h3];have:tb.map (λp=>(.inr p.1:Key))= (tb.map (·.1)).map Sum.inr:=by rw[jv];rfl
      rw[this];exact List.Pairwise.map Sum.inr (λa b h e=>h (JU e)) hc.nd⟩
     rw[U1 mq]at ry;exact Zj (x:=w') dd.typeIs XW.lookup (wpAny_getItem_of (Q:=λr s'=>r=w'/\EP X pins σ Q r s') (fA (k:=.inr z) ry) dd.mapOf e1 ⟨rfl,v',H,I.tok _,rv',k v' (rp μ H)⟩) hs
   ·exact pp.elim
 ·exact pp.elim
theorem Pb(hc:uI X.w X.K X.mg x tb)(hg:Gl X x)(hdb:(x==("__debug__" :Str))=false)(hb:DE X Z b fb)(hs:gD b):DE X Z (.Subscript (.Name x p) b pos) (binE (ixC x tb) (cE (.fn x)) fb):=
 RH (gc hc) ⟨by
  intro pins s σ H Q I h;obtain⟨a,_,_,hm,_,_⟩:=hc.ex;obtain⟨X2,μ,G,sr,hr,pp⟩:=h;exact MD I hg hm ⟨.ref a,H,I,rfl,c7.ok pp hr _ ⟨a,hm,rfl⟩⟩ hdb⟩ hb hs
end
mutual
def pyD:D->PyData
 | .non=>.none
 | .bl b=>.bool b
 | .int i=>.int i
 | .str x=>.str x
 | .tup l=>.tuple (pyL l)
 | .ref _=>.none
 | .fn _=>.none
 | .ty _=>.none
def pyL:List D->List PyData
 |[]=> []
 |d::r=>pyD d::pyL r
end
mutual
def rC:D->Bool
 | .non=>true
 | .bl _=>true
 | .int _=>true
 | .str _=>true
 | .tup l=>fF l
 | .ref _=>false
 | .fn _=>false
 | .ty _=>false
def fF:List D->Bool
 |[]=>true
 |d::r=>rC d&&fF r
end
mutual
theorem iZ:∀d:D,(pyD d).hasDict=false
 | .non=>rfl
 | .bl _=>rfl
 | .int _=>rfl
 | .str _=>rfl
 | .tup l=>by unfold pyD;exact HQ l
 | .ref _=>rfl
 | .fn _=>rfl
 | .ty _=>rfl
theorem HQ:∀l:List D,PyData.hasDictAll (pyL l)=false
 |[]=>rfl
 |d::r=>by unfold pyL;show ((pyD d).hasDict||PyData.hasDictAll (pyL r))=false;rw[iZ d,HQ r];rfl
end
section
variable{X:Cx}{Z:XC}{pins:PNS}{σ:St}{H:Hp}{s:zv}
theorem tX(I:Inv X pins σ H s)(q:SqT X.K H a vs):∃o ka n,s.heap.get? a=some o/\o.cls= .type "tuple"/\o.data= .seq ka n/\m9 vs ka.toList:=by
 rcases q with q|⟨o,ka,n,hl,hc,hd,_,hv⟩
 ·obtain⟨_,ka,hv,o,e,c,n,d⟩:=(show N7 X.prog X.w H s.heap a (.tup vs)from cH I.hok q);exact⟨o,ka.toArray,n,e,c,(xA d).1,by simpa using hv⟩
 ·exact⟨o,ka,n,I.kIn _ _ hl,hc,(xA hd).1,hv⟩
mutual
theorem eT(I:Inv X pins σ H s):∀d {v} {u},rC d=true->d7 (wc X) μ H d v->t6 v u->∃as,Reads s.heap u (pyD d) as
 | .non,v,u,_,r,q=>by unfold d7 at r;subst r;cases q;exact⟨_,.none⟩
 | .bl b,v,u,_,r,q=>by unfold d7 at r;subst r;cases q;exact⟨_,.bool b⟩
 | .int i,v,u,_,r,q=>by unfold d7 at r;subst r;obtain⟨t,rfl⟩:=q;exact⟨_,.int i t⟩
 | .str x,v,u,_,r,q=>by unfold d7 at r;subst r;obtain⟨t,rfl⟩:=q;exact⟨_,.str x t⟩
 | .tup l,v,u,hd,r,q=>by
   unfold d7 at r;obtain⟨a,vs,rfl,sq,rl⟩:=r
   cases q
   obtain⟨o,ka,n,e,c,d,hv⟩:=tX I sq;obtain⟨as,ra⟩:=BR I l (by unfold rC at hd;exact hd) rl hv;unfold pyD;exact⟨as,.tuple e c d ra⟩
 | .ref _,v,u,hd,_,_=>by unfold rC at hd;cases hd
 | .fn _,v,u,hd,_,_=>by unfold rC at hd;cases hd
 | .ty _,v,u,hd,_,_=>by unfold rC at hd;cases hd
theorem BR(I:Inv X pins σ H s):∀l {vs} {us},fF l=true->j9 (wc X) μ H l vs->m9 vs us->∃as,ReadsAll s.heap us (pyL l) as
 |[],vs,us,_,r,q=>by unfold j9 at r;subst r;cases q;exact⟨_,.nil⟩
 |d::l,vs,us,hd,r,q=>by
   unfold j9 at r;obtain⟨v,r',rfl,r1,r2⟩:=r;unfold fF at hd;rw[jI]at hd
   cases q with
   |cons q1 q2=>
     obtain⟨as,h1⟩:=eT I d hd.1 r1 q1;obtain⟨bs,h2⟩:=BR I l hd.2 r2 q2;unfold pyL;exact⟨_,.cons h1 h2⟩
end
end
section
variable{X:Cx}{Z:XC}
end
end DL
namespace W
open PySem PySem.Spec L2 DL
open PyProof.Rows hiding St
end W
namespace DL
open PySem PySem.Spec L2
open PyProof.Rows hiding St
section
variable{X:Cx}{Z:XC}{o:Expr}{fo:Fe}{name:Str}{id:String}{mm:D->List D->M D}{mw lg:Pos}
end
def sV:zh->Str
 | .str x _=>x
 |_=> ""
def byT(w:jg):Bool:=w.params.followText "set-order"
def TSet(prog:zS)(w:jg)(h:Heap)(a:Addr)(ss:List Str):Prop:=∃o es ep t,h.get? a=some o/\o.ExactSet/\o.data= .set es ep t/\ElemsOf (strKind prog w) es.toList/\(es.toList.map λe=>sV e.2).Perm ss/\es.size<scanBound/\t.fits es.size=true/\t.led= (!byT w)/\(0<es.size->t.plain=false)
section
variable{prog:zS}{w:jg}{A:jn}{E:VSP}{s:zv}
end
section
variable{prog:zS}{w:jg}{A:jn}{R:Result->zv->Prop}{I:Addr}{fp wr:List Addr}{G:Array GenState->Array GenState->Prop}{n:Nat}{P:Nat->zh->Prop}{St:Nat->zv->Prop}
end
section
theorem bq(a:zh)
 (h:Q₁ (.ref s.heap.objs.size) {s with heap:=s.heap.push {cls:=.type "set",dict:=none,data:=.set #[] 0 (.fresh 0 0 (!byT w))}}):
 ZQ (zC prog w) A (.call (.builtin "set.__new__") ⟨[.type "set",a], []⟩) (wants Q₁ E) s:=by
 refine codeAny_of_tree ?_;show zq _ A.in1 (do checkBuiltinCall "set.__new__" ⟨[.type "set",a], []⟩;again (.builtin "set.__new__" ⟨[.type "set",a], []⟩)) _ _ s;refine za (wpAny_of_eq (F.newCall_set_1 a) (ze ⟨xh F.plain_set_new _,yA F.entry_set_new ?_⟩));rw[jX F.plain_set_new _];unfold yt.«set.__new__» Builtin.Frozenset.newClass;have hsub:=sub_set_self;obtain⟨hp,g,d,tk,os⟩:=s;dsimp only
 wp_walk
 refine YC (ze ?_);dsimp only;simp only[newObj];refine za (wpAny_alloc (ze ?_));exact ze h
end
theorem KI:∀(l:List α) i h,((l[i]'h)::l.eraseIdx i).Perm l
 |x::r,0,_=>.refl _
 |x::r,i+1,h=>by have ih:=KI r i (by simpa using h);show ((r[i]'(by simpa using h))::x::r.eraseIdx i).Perm (x::r);exact(List.Perm.swap ..).trans (.cons _ ih)
abbrev sO(es:Array (Int×zh))(ep:Nat)(t:SetTable):Obj:={cls:=.type "set",dict:=none,data:=.set es ep t,slots:= #[]}
abbrev sI(f:zh)(i:Nat)(a:Addr)(n ep:Nat):Obj:={cls:=.type "set_iterator",data:=.fields #[f,.int i 0,.ref a,.int n 0,.int ep 0]}
section
theorem ik(hn:n≠0)(h:∀i d',i<n->Q i {s with drawn:=d'}):zq (zC prog w) A (choose src n) Q E s:=by intro Γ p _;unfold choose;rw[Sem.wp_choose];refine⟨hn,?_⟩;rw[Sem.wp_pure];exact h _ _ (yQ _ (Nat.pos_of_ne_zero hn))
theorem bP:∀(xs:List α) s Q,(∀ys d',ys.Perm xs->Q ys {s with drawn:=d'})->zq (zC prog w) A (drawOrder xs.length xs) Q E s
 |[],s,Q,h=>ze (h [] s.drawn .nil)
 |x::r,s,Q,h=>by
   show zq _ _ (choose .order (x::r).length >>= λi=>match (x::r)[i]? with
    |some y=>(do return y::(<-drawOrder r.length ((x::r).eraseIdx i)))
    |none=>JM "internal:drawOrder") _ _ _
   refine za (ik (by simp) λi d' hi=>?_);rw[zo hi];dsimp only;have hl:((x::r).eraseIdx i).length=r.length:=by rw[List.length_eraseIdx,if_pos hi];simp
   rw[<-hl];refine za (bP _ _ _ λys d2 hp=>ze ?_);refine h _ d2 ?_;exact(List.Perm.cons _ hp).trans (KI _ i hi)
termination_by xs=>xs.length
decreasing_by simp only[hl];simp
theorem PR(nx:Nat->Nat):∀f k (l:List α) out,f=l.length->(Jd nx f k l out).toList.Perm (out.toList++l)
 |0,k, [],out,_=>by unfold Jd;simp
 |f+1,k,x::r,out,hf=>by
   unfold Jd;have hi:nx k % (x::r).length<(x::r).length:=yQ _ (by simp);rw[zo hi];dsimp only;have hl:f= ((x::r).eraseIdx (nx k % (x::r).length)).length:=by rw[List.length_eraseIdx,if_pos hi];simpa using hf
   refine(PR nx f (k+1) _ _ hl).trans ?_;rw[Array.toList_push,zA];exact(KI _ _ hi).append_left _
theorem AX(nx:Nat->Nat)(xs:Array α):(ZX nx xs).toList.Perm xs.toList:=by have:=PR nx xs.size 0 xs.toList #[] (by simp);simpa [ZX]using this
theorem ME(hi:s.heap.get? I=some (sI f i a n ep))(h:Q (.ref I) s):zq (zC prog w) A (XO (.ref I)) Q E s:=by have hT:s.TypeIs (.ref I) "set_iterator":=⟨_,hi,rfl⟩;refine wpAny_pyIter_slot hT lO (jK lO hT Qj (show zq _ _ (ret (.ref I)) _ _ s from ?_) (AY _));exact ze ⟨_,rfl, "set_iterator",_,hT,l8.lookup,h⟩
end
section
theorem tI(h:Q (byT w) s):zq (zC prog w) A setsByText Q E s:=za (YC (ze h))
theorem BN(hb:byT w=true)(ha:s.heap.get? a=some (sO es ep t))(hf:t.fits es.size=true)(h:Q (((ZX (w.params.setOrder a ep) es)[i]?).map λe=>(e.2,slot)) s):zq (zC prog w) A (Xp a slot i ep) Q E s:=by unfold Xp;refine za (jx ha rfl hf ?_);refine za (tI ?_);refine ya (λ_=>?_) (λz=>absurd hb z);refine ya (λz=>absurd z (by simp)) (λ_=>?_);unfold setWalk;refine za (za (jx ha rfl hf ?_));refine za (tI ?_);refine ya (λ_=>?_) (λz=>absurd hb z);refine za (YC (ze ?_));exact ze h
theorem wK(hb:byT w=false)(hl:t.led=true)(h1:¬((!t.plain&&decide (es.size>1))=true))(ha:s.heap.get? a=some (sO es ep t))(hf:t.fits es.size=true) (h:Q (match es[jh t.place slot]?,t.place[jh t.place slot]? with
 |some (_,x),some j=>some (x,j+1)
 |_,_=>none) s):zq (zC prog w) A (Xp a slot i ep) Q E s:=by
 unfold Xp;refine za (jx ha rfl hf ?_);refine za (tI ?_);refine ya (λz=>absurd (hb.symm.trans z) (by decide)) (λ_=>?_);refine ya (λz=>absurd z h1) (λ_=>?_);refine za (show zq _ _ (if (!t.led&&!es.isEmpty)=true then JM "set:maker-not-led" else pure ()) _ _ _ from ?_);rw[hl];exact ze (ze h)
set_option maxHeartbeats 3200000 in
theorem QP{I:Addr}{slot i n nx:Nat}{x:zh}(hi:s.heap.get? I=some (sI (.int slot 0) i a es.size ep))(ha:s.heap.get? a=some (sO es ep t))(hf:t.fits es.size=true)
 (hN:∀(A:jn) E Q,Q (some (x,nx)) s->zq (zC prog w) A (Xp a slot i ep) Q E s)
 (h:∀h',h'.get? I=some (sI (.int nx 0) (i+1) a es.size ep)->yC I s.heap h'->Q (some x) {s with heap:=h'}):zq (zC prog w) A (xv (.ref I)) Q E s:=by
 have hT:s.TypeIs (.ref I) "set_iterator":=⟨_,hi,rfl⟩;unfold xv;refine za (xD (jH (name:=jq "__next__") hT l8 (jK l8 hT IE ?_ (AF _))));unfold yt.«set_iterator.__next__» XM;generalize hNx:Xp=N at hN ⊢
 wp_walk using jx ha rfl hf
 simp only[yg];refine hN _ _ _ ?_;dsimp only;refine za (yo hi (show 0<5 by decide) λh1 e1 k1=>?_);refine za (yo e1 (show 1<5 by decide) λh2 e2 k2=>?_);refine ze ⟨_,rfl,?_⟩;exact ze (h h2 e2 (k1.trans k2))
set_option maxHeartbeats 3200000 in
theorem KJ{I:Addr}{slot i n nx:Nat}(hh:A.handled=none)(hi:s.heap.get? I=some (sI (.int slot 0) i a es.size ep))(ha:s.heap.get? a=some (sO es ep t))(hf:t.fits es.size=true)
 (hN:∀(A:jn) E Q,Q none s->zq (zC prog w) A (Xp a slot i ep) Q E s)
 (h:∀h',XQ I s.heap h'->Q none {s with heap:=h'}):zq (zC prog w) A (xv (.ref I)) Q E s:=by
 have hT:s.TypeIs (.ref I) "set_iterator":=⟨_,hi,rfl⟩;unfold xv;refine za (xD (jH (name:=jq "__next__") hT l8 (jK l8 hT IE ?_ (AF _))));unfold yt.«set_iterator.__next__» XM;generalize hNx:Xp=N at hN ⊢
 wp_walk using jx ha rfl hf
 simp only[yg];refine hN _ _ _ ?_;dsimp only
 wp_walk
 simp only[raiseNew];refine za (wpAny_handled ?_);rw[show A.in1.handled=none from hh];refine za (ze (wpAny_throw ?_));refine za (YB (T:= "StopIteration") (b:=true) ⟨_,zp _ rfl,rfl⟩ isSubtype_stop (ze ?_));exact h _ (((yB ..).extBut.push _).push _)
set_option maxHeartbeats 3200000 in
theorem SV{I J:Addr}{ps:List Nat}(hi:s.heap.get? I=some (sI (.ref J) i a es.size ep))(ha:s.heap.get? a=some (sO es ep t))(hf:t.fits es.size=true)(hJ:s.heap.get? J=some {cls:=.type "tuple",data:=.seq (ps.map fun(i:Nat)=>xk i).toArray m})
 (hp:ps[i]? =some p) (he:es[p]? =some e)
 (h:∀h',h'.get? I=some (sI (.ref J) (i+1) a es.size ep)->yC I s.heap h'->Q (some e.2) {s with heap:=h'}):zq (zC prog w) A (xv (.ref I)) Q E s:=by
 have hT:s.TypeIs (.ref I) "set_iterator":=⟨_,hi,rfl⟩;unfold xv;refine za (xD (jH (name:=jq "__next__") hT l8 (jK l8 hT IE ?_ (AF _))));unfold yt.«set_iterator.__next__» XM
 wp_walk using jx ha rfl hf
 have eg:(ps.map fun(i:Nat)=>xk i).toArray[(i:Int).toNat]? =some (xk p):=by rw[yg,YA,jp,hp];rfl
 rw[eg];show zq _ _ (setNextDrawn a (p:Int).toNat (ep:Int).toNat >>= λx=>setField (.ref I) 1 (xk (i+1)) >>= λ_=>ret x) _ _ _;simp only[yg];unfold setNextDrawn;refine za (za (jx ha rfl hf ?_));refine ya (λz=>absurd z (by simp)) (λ_=>?_);rw[he];refine ze ?_;refine za (yo hi (show 1<5 by decide) λh2 e2 k2=>?_);refine ze ⟨_,rfl,?_⟩;exact ze (h h2 e2 k2)
set_option maxHeartbeats 3200000 in
theorem fS{ps:List Nat}(hh:A.handled=none)(hi:s.heap.get? I=some (sI (.ref J) ps.length a es.size ep))(ha:s.heap.get? a=some (sO es ep t))(hf:t.fits es.size=true)(hJ:s.heap.get? J=some {cls:=.type "tuple",data:=.seq (ps.map fun(i:Nat)=>xk i).toArray m})
 (h:∀h',XQ I s.heap h'->Q none {s with heap:=h'}):zq (zC prog w) A (xv (.ref I)) Q E s:=by
 have hT:s.TypeIs (.ref I) "set_iterator":=⟨_,hi,rfl⟩;unfold xv;refine za (xD (jH (name:=jq "__next__") hT l8 (jK l8 hT IE ?_ (AF _))));unfold yt.«set_iterator.__next__» XM
 wp_walk using jx ha rfl hf
 have eg:(ps.map fun(i:Nat)=>xk i).toArray[(ps.length:Int).toNat]? =none:=by rw[yg,YA,jp,jf (zg _)];rfl
 rw[eg]
 wp_walk
 simp only[raiseNew];refine za (wpAny_handled ?_);rw[show A.in1.handled=none from hh];refine za (ze (wpAny_throw ?_));refine za (YB (T:= "StopIteration") (b:=true) ⟨_,zp _ rfl,rfl⟩ isSubtype_stop (ze ?_));exact h _ ((((yB ..).trans (yB ..)).extBut.push _).push _)
end
structure SWalk(prog:zS)(w:jg)(A:jn)(s:zv)(a:Addr)(ss:List Str)(I:Addr)(h':Heap):Prop where
 keep:∀b o,s.heap.get? b=some o->h'.get? b=some o
 new:s.heap.objs.size<=I
 walk:∃(J:Addr) (vs:List zh) (nn:List Str) (St:Nat->Heap->Prop),s.heap.objs.size<=J/\StrsAre vs nn/\nn.Perm ss/\Walks prog w A I [I,J,a] [I] vs.length (λi v=>vs[i]? =some v) St/\St 0 h'
section
theorem wkT(hh:A.handled=none)(hb:byT w=true)(hf:t.fits es.size=true)(md:a≠I)(J:Addr)(hJ:J≠I):
 Walks prog w A I [I,J,a] [I] ((ZX (w.params.setOrder a ep) es).toList.map (·.2)).length (λi v=>((ZX (w.params.setOrder a ep) es).toList.map (·.2))[i]? =some v) (λi h=>h.get? I=some (sI (.int 0 0) i a es.size ep)/\h.get? a=some (sO es ep t)) where
 sub:=λb hb=>by simp at hb;simp[hb]
 frame:=λi h h' st hk=>⟨hk I (by simp) _ st.1,hk a (by simp) _ st.2⟩
 item:=λi s Q E hi st hQ=>by
  rw[zf]at hi;have e:(ZX (w.params.setOrder a ep) es)[i]? =some (ZX (w.params.setOrder a ep) es).toList[i]:=by rw[<-zL,zo hi]
  refine QP (n:=0) (nx:=0) (x:=(ZX (w.params.setOrder a ep) es).toList[i].2) st.1 st.2 hf (λA E Q hq=>BN hb st.2 hf (by rw[e];exact hq)) λh' hI hs=>?_;refine hQ _ h' s.toks (by rw[jp,zo hi];rfl) ⟨hI,?_⟩ λb o hb e=>?_
  ·rw[hs.2 a md];exact st.2
  ·rw[hs.2 b (by simpa using hb)];exact e
 done:=λs Q E st hQ=>by rw[zf]at st;refine KJ (n:=0) (nx:=0) hh st.1 st.2 hf (λA E Q hq=>BN hb st.2 hf (by rw[<-zL,jf (zg _)];exact hq)) λh' he=>hQ h' s.toks λb o hb e=>he b o (λz=>hb (by simp[z])) e
 self:=λi s Q E st hQ=>ME st.1 hQ
theorem wkD(hh:A.handled=none)(hf:t.fits es.size=true)(md:a≠I)(J:Addr)(hJ:J≠I){ps:List Nat}{vs:List zh}(hv:ps.map (λp=>es[p]?.map (·.2))=vs.map some):
 Walks prog w A I [I,J,a] [I] vs.length (λi v=>vs[i]? =some v) (λi h=>h.get? I=some (sI (.ref J) i a es.size ep)/\h.get? a=some (sO es ep t)/\∃m,h.get? J=some {cls:=.type "tuple",data:=.seq (ps.map fun(i:Nat)=>xk i).toArray m}) where
 sub:=λb hb=>by simp at hb;simp[hb]
 frame:=λi h h' st hk=>⟨hk I (by simp) _ st.1,hk a (by simp) _ st.2.1,let ⟨m,e⟩:=st.2.2;⟨m,hk J (by simp) _ e⟩⟩
 item:=λi s Q E hi st hQ=>by
  obtain⟨m,e⟩:=st.2.2;have hl:ps.length=vs.length:=by have:=congrArg xF hv;simpa using this
  have g:=congrArg (·[i]?) hv;simp only[jp,zo hi,zo (show i<ps.length by omega),Zl,zP]at g;obtain⟨q,eq,ev⟩:=Yc.mp g;refine SV st.1 st.2.1 hf e (zo (show i<ps.length by omega)) eq λh' hI hs=>?_;refine hQ _ h' s.toks (by rw[zo hi,ev]) ⟨hI,?_,m,?_⟩ λb o hb e=>?_
  ·rw[hs.2 a md];exact st.2.1
  ·rw[hs.2 J hJ];exact e
  ·rw[hs.2 b (by simpa using hb)];exact e
 done:=λs Q E st hQ=>by
  obtain⟨m,e⟩:=st.2.2;have hl:ps.length=vs.length:=by have:=congrArg xF hv;simpa using this
  rw[<-hl]at st;exact fS hh st.1 st.2.1 hf e λh' he=>hQ h' s.toks λb o hb e=>he b o (λz=>hb (by simp[z])) e
 self:=λi s Q E st hQ=>ME st.1 hQ
end
section
variable{prog:zS}{w:jg}{A:jn}{E:VSP}{s:zv}{a I:Addr}{es:Array (Int×zh)}{ep:Nat}{t:SetTable}
theorem AT(hh:A.handled=none)(hb:byT w=false)(hl:t.led=true)(he:es= #[])(hf:t.fits es.size=true)(md:a≠I)(J:Addr):
 Walks prog w A I [I,J,a] [I] 0 (λi v=>([]:List zh)[i]? =some v) (λi h=>h.get? I=some (sI (.int 0 0) i a es.size ep)/\h.get? a=some (sO es ep t)) where
 sub:=λb hb=>by simp at hb;simp[hb]
 frame:=λi h h' st hk=>⟨hk I (by simp) _ st.1,hk a (by simp) _ st.2⟩
 item:=λi s Q E hi st hQ=>absurd hi (Nat.not_lt_zero _)
 done:=λs Q E st hQ=>KJ (n:=0) (nx:=0) hh st.1 st.2 hf (λA E Q hq=>wK hb hl (by subst he;simp) st.2 hf (by subst he;simpa using hq)) λh' he=>hQ h' s.toks λb o hb e=>he b o (λz=>hb (by simp[z])) e
 self:=λi s Q E st hQ=>ME st.1 hQ
theorem bQ(p j:Nat):jh #[p] j=if p<j then 1 else 0:=by unfold jh;simp[xb]
theorem HW(hh:A.handled=none)(hb:byT w=false)(hl:t.led=true)(he:es= #[e])(hp:t.place= #[p])(hf:t.fits es.size=true)(md:a≠I)(J:Addr):
 Walks prog w A I [I,J,a] [I] 1 (λi v=> [e.2][i]? =some v) (λi h=>h.get? I=some (sI (.int (if i=0 then (0:Nat)else p+1:Nat) 0) i a es.size ep)/\h.get? a=some (sO es ep t)) where
 sub:=λb hb=>by simp at hb;simp[hb]
 frame:=λi h h' st hk=>⟨hk I (by simp) _ st.1,hk a (by simp) _ st.2⟩
 item:=λi s Q E hi st hQ=>by
  obtain rfl:i=0:=by omega
  refine QP (n:=0) (nx:=p+1) (x:=e.2) st.1 st.2 hf (λA E Q hq=>wK hb hl (by subst he;simp) st.2 hf ?_) λh' hI hs=>?_
  ·rw[hp,bQ,he];simpa using hq
  refine hQ _ h' s.toks rfl ⟨hI,?_⟩ λb o hb e=>?_
  ·rw[hs.2 a md];exact st.2
  ·rw[hs.2 b (by simpa using hb)];exact e
 done:=λs Q E st hQ=>KJ (n:=0) (nx:=0) hh st.1 st.2 hf (λA E Q hq=>wK hb hl (by subst he;simp) st.2 hf (by rw[hp,bQ,he];simpa using hq)) λh' he=>hQ h' s.toks λb o hb e=>he b o (λz=>hb (by simp[z])) e
 self:=λi s Q E st hQ=>ME st.1 hQ
set_option maxHeartbeats 3200000 in
theorem Sb(ha:s.heap.get? a=some (sO es ep t))(hf:t.fits es.size=true)
 (h1:(!byT w&&(!t.plain&&decide (es.size>1)))=true->∀(ps:List Nat) d',ps.Perm (zF es.size)->Q (.ref (s.heap.objs.size+1)) {s with heap:=(s.heap.push {cls:=.type "tuple",data:=.seq (ps.map fun(i:Nat)=>xk i).toArray}).push (sI (.ref s.heap.objs.size) 0 a es.size ep),drawn:=d'})
 (h2:¬((!byT w&&(!t.plain&&decide (es.size>1)))=true)->Q (.ref s.heap.objs.size) {s with heap:=s.heap.push (sI (.int 0 0) 0 a es.size ep)}) (hz:es.size<=zk):zq (zC prog w) A (XO (.ref a)) Q E s:=by
 have hA:s.TypeIs (.ref a) "set":=⟨_,ha,rfl⟩;refine wpAny_pyIter_slot hA F.slot_set_iter (jK F.slot_set_iter hA mT ?_ (F.args_set_iter_1 _));unfold yt.«frozenset.__iter__» Builtin.Frozenset.slot0 Builtin.Frozenset.sizeOf XM setDrawn setEpoch
 wp_walk using jx ha rfl hf
 refine YC (ze (ze ?_));have fin:∀(f:zh) (s1:zv),s1.heap.get? a=some (sO es ep t)->Q (.ref s1.heap.objs.size) {s1 with heap:=s1.heap.push (sI f 0 a es.size ep)}->zq (zC prog w) A.in1 (do
  let e <-(do
   let r <-setState a
   pure r.2.1)
  let v <-newFields "set_iterator" [f,xk 0,.ref a,xk (es.size:Nat),xk e]
  ret v) (λfin s'=>∃v,fin=Fin.done (Flow.ret v)/\∃T' r,s'.TypeIs v T'/\typeLookup (.type T') (jq "__next__")=pure (some r)/\Q v s') E s1:=by
  intro f s1 h1 hq;refine za (za (jx h1 rfl hf (ze ?_)))
  wp_walk
  exact⟨_,rfl, "set_iterator",_,⟨_,zp _ rfl,rfl⟩,l8.lookup,hq⟩
 refine ya (λz=>?_) (λz=>?_)
 ·have hr:(zF es.size).length=es.size:=jV;have wo:=bP (prog:=prog) (w:=w) (A:=A.in1) (E:=E) (zF es.size) s;rw[hr]at wo;refine za (wo _ λps d' hp=>?_);refine za (Zg ?_ (by rw[zf,hp.length_eq,hr];exact hz));have q:=h1 z ps d' hp;refine fin _ _ (zc _ ha) ?_;have e:(s.heap.push {cls:=.type "tuple",data:=.seq (ps.map fun(i:Nat)=>xk i).toArray}).objs.size=s.heap.objs.size+1:=jS ..;dsimp only;rw[e];exact q
 ·exact za (ze (fin _ _ ha (h2 z)))
theorem BX{ps:List Nat}(h:ps.Perm (zF es.size)):∃l:List (Int×zh),l.Perm es.toList/\ps.map (λp=>es[p]?.map (·.2))= (l.map (·.2)).map some:=by
 refine⟨ps.map λp=>es.toList.getD p (0,.none),?_,?_⟩
 · refine(h.map _).trans ?_;have:(zF es.size).map (λp=>es.toList.getD p (0,.none))=es.toList:=by
    apply yn
    ·simp
    · intro i h1 h2;have h3:i<es.size:=by simpa using h2
      simp[zn,h3]
   rw[this]
 ·rw[jv,jv];refine ye λp hp=>?_;have h3:p<es.size:=jo.mp (h.mem_iff.mp hp);simp[zn,h3]
end
section
variable{prog:zS}{w:jg}{s:zv}{a I:Addr}{es:Array (Int×zh)}{ep:Nat}{t:SetTable}
end
section
end
section
end
section
theorem oY(I:Inv X pins σ H s):Inv X pins σ H {s with drawn:=d'}:=⟨I.ok,I.os,I.bare,I.base,I.loc,I.cell,I.free,I.freeC,I.pin,I.hok,I.len⟩
end
end DL
namespace W
open PySem PySem.Spec L2 DL
open PyProof.Rows hiding St
end W
namespace DL
open PySem PySem.Spec L2
open PyProof.Rows hiding St
def lcg(m i:Nat):Nat:=(i*5+1) % (m+1)
def itr(m:Nat):Nat->Nat->Nat
 |0,i=>i
 |k+1,i=>itr m k (lcg m i)
def D4(m:Nat):Prop:=∀i≤m,∀j≤m,∃k≤m,itr m k i=j
def vQ(m:Nat):Bool:=(zF (m+1)).all λi=>(zF (m+1)).all λj=>(zF (m+1)).any λk=>itr m k i==j
theorem TQ(h:vQ m=true):D4 m:=by intro i hi j hj;unfold vQ at h;have h1:=xI.mp h i (jo.mpr (by omega));have h2:=xI.mp h1 j (jo.mpr (by omega));obtain⟨k,hk,e⟩:=Ze.mp h2;exact⟨k,by have:=jo.mp hk;omega,by simpa using e⟩
theorem Lw:D4 7:=TQ (by decide +kernel)
theorem MT:D4 31:=TQ (by decide +kernel)
theorem QG(m:Nat):∀a b i,itr m (a+b) i=itr m a (itr m b i)
 |a,0,i=>rfl
 |a,b+1,i=>QG m a b (lcg m i)
theorem Vz(hp:itr m (m+1) 0=0)(h:((zF (m+1)).all λj=>(zF (m+1)).any λk=>itr m k 0==j)=true):D4 m:=by
 have one:∀j≤m,∃k≤m,itr m k 0=j:=λj hj=>by obtain⟨k,hk,e⟩:=Ze.mp (xI.mp h j (jo.mpr (by omega)));exact⟨k,by have:=jo.mp hk;omega,by simpa using e⟩
 intro i hi j hj;obtain⟨a,ha,ea⟩:=one i hi;obtain⟨b,hb,eb⟩:=one j hj;by_cases c:a<=b
 ·exact⟨b-a,by omega,by rw[<-ea,<-QG,Nat.sub_add_cancel c];exact eb⟩
 ·refine⟨b+(m+1)-a,by omega,?_⟩;rw[<-ea,<-QG,Nat.sub_add_cancel (by omega),QG,hp];exact eb
theorem ci:D4 127:=Vz (by decide +kernel) (by decide +kernel)
def GD(owner:Array (Option Nat))(r:Option Nat):Prop:=∃j,r=some j/\owner[j]? =some none
theorem Qg{owner:Array (Option Nat)}(h:(zF n).find? (λk=>(owner.getD (i+k) (some 0)).isNone)=some k):owner[i+k]? =some none:=by
 have:=List.find?_some h;have e:owner.getD (i+k) (some 0)=none:=by simpa using this
 rw[jA]at e;rcases h2:owner[i+k]? with _|o
 ·rw[h2]at e;cases e
 ·rw[h2]at e;have:o=none:=e;rw[this]
theorem Hh(h:owner[i]? =some none):GD owner (jm mask owner (f+1) i p):=by
 unfold jm;have hr:∃m,jt mask i+1-i=m+1:=by
  unfold jt;split
  ·exact⟨9,by omega⟩
  ·exact⟨0,by omega⟩
 obtain⟨m,hm⟩:=hr;have:((zF (jt mask i+1-i)).find? λk=>(owner.getD (i+k) (some 0)).isNone)=some 0:=by rw[hm,yL,List.find?_cons_of_pos];rw[jA,Nat.add_zero,h];rfl
 rw[this];exact⟨i,by simp,h⟩
theorem gQ{owner:Array (Option Nat)}(h:GD owner (jm mask owner f (jl mask i p).1 (jl mask i p).2)):GD owner (jm mask owner (f+1) i p):=by
 unfold jm;split
 ·rename_i k hk;exact⟨i+k,rfl,Qg hk⟩
 ·exact h
theorem cO(hj:owner[j]? =some none):∀k f i,k<f->itr mask k i=j->GD owner (jm mask owner f i 0)
 |0,f+1,i,_,e=>by have e:i=j:=e;rw[<-e]at hj;exact Hh hj
 |k+1,f+1,i,hf,e=>by
   refine gQ ?_;have e1:(jl mask i 0).1=lcg mask i:=by show (i*5+1+0 / 32) % (mask+1)=_;simp[lcg]
   have e2:(jl mask i 0).2=0:=by show 0 / 32=0;rfl
   rw[e1,e2];exact cO hj k f _ (by omega) e
theorem MH(hF:D4 mask)(hj:owner[j]? =some none)(hm:j<=mask):∀n f i p,p<32 ^ n->n+mask<f->i<=mask->GD owner (jm mask owner f i p)
 |0,f,i,p,hp,hf,hi=>by
   obtain rfl:p=0:=by simpa using hp
   obtain⟨k,hk,e⟩:=hF i hi j hm;exact cO hj k f i (by omega) e
 |n+1,f+1,i,p,hp,hf,hi=>by
   refine gQ (MH hF hj hm n f _ _ ?_ (by omega) ?_)
   ·show p / 32<32 ^ n;rw[Nat.pow_succ]at hp;omega
   ·show (i*5+1+p / 32) % (mask+1)<=mask;have:=yQ (i*5+1+p / 32) (show 0<mask+1 by omega);omega
structure CB(mask:Nat)(k:Nat)(owner:Array (Option Nat)):Prop where
 sz:owner.size=mask+1
 pm:(owner.toList.filterMap id).Perm (zF k)
theorem mR:∀ {l:List (Option α)} {j:Nat},l[j]? =some none->((l.set j (some x)).filterMap id).Perm (x::l.filterMap id)
 |[],_,h=>by simp at h
 |a::l,0,h=>by
   have:a=none:=by simpa using h
   subst this;simp
 |a::l,j+1,h=>by
   have ih:=mR (x:=x) (l:=l) (j:=j) (by simpa using h);rw[jY];rcases a with _|a
   ·simpa using ih
   ·show (a::YI id (l.set j (some x))).Perm (x::a::YI id l);exact(List.Perm.cons a ih).trans (List.Perm.swap ..)
theorem aH:∀ {l:List (Option Nat)},(l.filterMap id).length<l.length->∃j,j<l.length/\l[j]? =some none
 |[],h=>by simp at h
 |none::l,h=>⟨0,by simp,rfl⟩
 |some a::l,h=>by obtain⟨j,h1,h2⟩:=aH (l:=l) (by simpa using h);exact⟨j+1,by simpa using h1,by simpa using h2⟩
theorem oK(h:Int):jc h<32 ^ 13:=by
 unfold jc;have h1:=xn h (show (0:Int)<2 ^ 64 by decide);have h2:=yi h (show (2 ^ 64:Int)≠0 by decide);have:(32:Nat) ^ 13=36893488147419103232:=by decide
 omega
theorem CB.step{owner:Array (Option Nat)}(hF:D4 mask)(I:CB mask k owner)(hk:k<=mask)(h:Int):∃j,jm mask owner (yd mask) (jc h % (mask+1)) (jc h)=some j/\CB mask (k+1) (owner.setIfInBounds j (some k)):=by
 have hl:(owner.toList.filterMap id).length=k:=by rw[I.pm.length_eq,jV]
 obtain⟨j0,hj0,e0⟩:=aH (l:=owner.toList) (by rw[hl,zI,I.sz];omega);rw[zL]at e0;have hm:j0<=mask:=by rw[zI,I.sz]at hj0;omega
 have hi:jc h % (mask+1)<=mask:=by have:=yQ (jc h) (show 0<mask+1 by omega);omega
 obtain⟨j,e,ho⟩:=MH hF e0 hm 13 (yd mask) _ _ (oK h) (by unfold yd;omega) hi;refine⟨j,e,by simp[I.sz],?_⟩;rw[Array.toList_setIfInBounds];refine(mR (by rw[zL];exact ho)).trans ?_;rw[Yv];exact(List.Perm.cons k I.pm).trans (Jr ..).symm
theorem IV{owner:Array (Option Nat)}(hs:owner.size=mask+1):(((zF (mask+1)).filterMap λj=>(owner.getD j none).map (j, ·)).map (·.2))=owner.toList.filterMap id:=by
 rw[List.map_filterMap];have:owner.toList= (zF (mask+1)).map λj=>owner.getD j none:=by
  apply yn
  ·simp[hs]
  · intro i h1 h2;have h3:i<owner.size:=by simpa using h1
    simp[jA,h3]
 rw[this,yk];congr 1;funext j;simp[Option.map_map,YS]
theorem RX{es:Array (Int×zh)}{order:Array Nat}(h:order.toList.Perm (zF es.size)):(order.filterMap (es[·]?)).toList.Perm es.toList:=by
 rw[JZ];refine(h.filterMap _).trans ?_;have:(zF es.size).filterMap (es[·]?)=es.toList:=by
  have e:∀l:List (Int×zh),(zF l.length).filterMap (l[·]?)=l:=by
   intro l
   induction l with
   |nil=>rfl
   |cons a r ih=>
     rw[zr,yL];show a::YI _ (ZE _ _)=_;rw[yk];congr 1
  have:=e es.toList;simpa using this
 rw[this]
section
variable{prog:zS}{w:jg}{A:jn}{E:VSP}{s:zv}{a:Addr}
end
section
end
section
end
section
end
inductive AH(w:jg):List DictEntry->List Str->Prop
 |nil:AH w [] []
 |cons {e:DictEntry} {x:Str} {tk:Tok} {es:List DictEntry} {xs:List Str}:e.key= .str x tk->e.hash=hashStr w x->AH w es xs->AH w (e::es) (x::xs)
section
end
section
end
section
end
end DL
namespace W
open PySem PySem.Spec L2 DL
open PyProof.Rows hiding St
end W
namespace DL
open PySem PySem.Spec L2
open PyProof.Rows hiding St
structure Ev where
 P:zS
 w:jg
 K:zj
 mg:Str->Option zh
 base:Heap
structure EvX(E:Ev):Prop where
 ex:∃h:Heap,E.K.In h/\h.Ns jz E.mg
abbrev Ck(E:Ev)(F:List D->M D)(n:Nat)(x:Str)(k:Nat):Prop:=lA F n x E.P E.w E.K E.mg E.base k
def BA(x:Str)(st:Stmt)(ps:List Str):Prop:=∀(kV doc pm:zh) (an:Option Addr) (mn ct:zh) (us:List zh),us.length=ps.length->bindArgs (yH x x (L8 st) (U4 st) (v5 st) .none kV doc pm an mn ct) ⟨us, []⟩=pure (ps.zip us)
section
variable{E:Ev}{x:Str}{st:Stmt}{k n m:Nat}{fb:Fs}
theorem K8(N ps:List Str)(X:EvX E)(Y:FH E.K x st)(S:V2 N ps (v5 st))(b:BA x st ps)(hn:ps.length=n)(hm:N.length=m)
 (hb:V2 N ps (v5 st)->∀f mn A outer s H Z,O3 k (A.deeper (Yt x (v5 st) s.heap.objs.size f mn))->DB (C7 CX0 E.P E.w E.K E.mg E.base N x (v5 st) f mn A outer s H Z).nox ZF (U4 st) fb):Ck E (o9 m fb) n x (k+1):=by
 obtain⟨h,X,G⟩:=X.ex;obtain⟨f,fd,c⟩:=Y.ff X G b;exact lA.of c (PN c S hn hm (hb S f))
theorem tU(ps:List Str)(X:EvX E)(Y:FH E.K x st)(b:BA x st ps)(hn:ps.length=n):Ck E (λ_=>M.stuck) n x k:=by obtain⟨h,X,G⟩:=X.ex;obtain⟨f,fd,c⟩:=Y.ff X G b;exact lA.of c (mY hn)
end
def FHs(K:zj)(top:Nat->Stmt):List Str->List Nat->Prop
 |x::r,i::s=>FH K x (top i)/\FHs K top r s
 |_,_=>True
section
variable{K:zj}{top:Nat->Stmt}{x:Str}{i:Nat}{r:List Str}{s:List Nat}{mg:Str->Option zh}{d:D}{u:zh}{h:Heap}
theorem FHs.c(h:FH K x (top i))(t:FHs K top r s):FHs K top (x::r) (i::s):=⟨h,t⟩
structure CC(K:zj)(mg:Str->Option zh)(x:Str)(d:D):Prop where
 ex:∃u,xU K jz x=some (some u)/\CR K mg d u
theorem CC.of(g:xU K jz x=some (some u))(r:CR K mg d u):CC K mg x d:=⟨u,g,r⟩
theorem CC.ok(c:CC K mg x d)(X:K.In h)(G:h.Ns jz mg):OA K mg x d:=by obtain⟨u,g,r⟩:=c.ex;exact⟨u,ZH X G g,r⟩
theorem tY{fa:Addr}{P:zS}{w:jg}{N:List Str}{k m:Nat}{fb:Fs}(X:K.In h)(G:h.Ns jz mg)(hfa:mg "law" =some (.ref fa))(Y:FH K "law" (top i))(b:BA "law" (top i) ["script"])(S:V2 N ["script"] (v5 (top i)))(hm:N.length=m)
 (hs:∀kV dc pm an cd ct (s:zv) (v:zh),YL s (yH "law" "law" (L8 (top i)) (U4 (top i)) (v5 (top i)) .none kV dc pm an cd ct) ⟨[v], []⟩ [("script",v)])
 (hb:∀base,V2 N ["script"] (v5 (top i))->∀mn A outer s H Z,O3 k (A.deeper (Yt "law" (v5 (top i)) s.heap.objs.size fa mn))->DB (C7 CX0 P w K mg base N "law" (v5 (top i)) fa mn A outer s H Z).nox ZF (U4 (top i)) fb)
 (pure:∀ns:List Int,ns.length<=63->∃G',o9 m fb [.ref 0] [.rol (ns.map D.int)]=some (.ok (.bl true),G')):
 ∃fd:xP,(∀(s:zv) (v:zh),YL s fd ⟨[v], []⟩ [("script",v)])/\∀base:Heap,K.In base->base.Ns jz mg->E2 P w K mg base CX0 (k+1) fa fd ["script"] (dG K):=by
 obtain⟨f,od,an,sl,oc,kV,dc,pm,cd,ct,a,l,e,kp⟩:=Y;have q:=hfa.symm.trans (ZH X G a)
 cases q
 exact⟨_,hs kV dc pm an cd ct,λbase _ _=>qj (PN ⟨IF l e kp,(IF l e kp).binds b,ZH X G a⟩ S rfl hm (hb base S)) pure⟩
theorem walk63{l:PySem.W.OpenLaw}{q:zS}{loose:List Str}{XP:(Str->Option zh)->Heap->Prop}{YP:jg->Heap->Prop}{d:DefRec}{K:Params->zj}(k:Nat)(hn:l.most=some 63)(hdf:d.params.defaults= [])(hr:O3 k Xq)
 (hY:∀(w:jg) (h:Heap),YP w h->(K w.params).In h)
 (F:∀(w:jg) (mg:Str->Option zh) (fa:Addr) (h:Heap),(K w.params).In h->h.Ns jz mg->mg d.name=some (.ref fa)->
   ∃fd:xP,(∀(s:zv) (u:zh),YL s fd ⟨[u], []⟩ [("script",u)])/\∀base:Heap,(K w.params).In base->base.Ns jz mg->E2 l.prog w (K w.params) mg base CX0 k fa fd ["script"] (dG (K w.params))):
 PySem.W.WalkO q loose XP YP l.row.toRowW d [] (λf vs=>PySem.call f vs):=
 L2.walk_of hn (by decide) hdf hr hY F (λ_ _ a ns hl hO hS=>⟨a,ns,rfl,hS,hO,hl,λ_=>rfl⟩) λ_ _ _ _ _ z=>z
end
section
variable{prog:zS}{w:jg}{A:jn}{E:VSP}{s:zv}
end
section
end
section
end
section
variable{X:Cx}{Z:XC}{ea:Expr}{fa:Fe}{p q1 ap pos:Pos}
end
section
variable{prog:zS}{w:jg}{A:jn}{E:VSP}{s:zv}
theorem Kq{vs:List zh}(hl:qs.length=vs.length)(mz:vs.length<64)(ho:s.heap.get? a=some (zR "list" vs.toArray n))(hp:∀(i:Nat) q,qs[i]? =some q->∃u,vs[i]? =some u/\E8 s.heap u q)
 (h:∀(h':Heap) e,(∀b o,b≠a->s.heap.get? b=some o->h'.get? b=some o)->h'.get? a=some (zR "list" (zJ ((R9 qs vs.length).map λi=>vs.getD i .none)) e)->P (.done (.ret .none)) {s with heap:=h'}):
 zq (zC prog w) A (yt.«list.sort» ⟨[.ref a], []⟩) P E s:=by
 have ha:a<s.heap.objs.size:=zw ho;obtain⟨e1,ho1⟩:∃e1,(s.heap.update a (zT λ_=>(#[]:Array zh))).get? a=some (zR "list" #[] e1):=⟨_,yZ ho λ_=> #[]⟩;have k1:∀b o,b≠a->s.heap.get? b=some o->(s.heap.update a (zT λ_=>(#[]:Array zh))).get? b=some o:=λb o hb e=>by rw[jM _ _ _ _ hb];exact e
 rw[list_sort_plain];refine za (ZV ho rfl (za (yw ho rfl ?_ (by rw[zl,ju];lia) (zD _))));refine za (xR ho1 rfl (za (Zg ?_ (by show vs.length<=_;rw[ju];lia))));refine za (xC ?_ (zD _));refine jy ?_;have mo:(((s.heap.update a (zT λ_=>(#[]:Array zh))).push (zR "tuple" vs.toArray 0)).push (zR "list" #[] 0)).get? a=some (zR "list" #[] e1):=zc _ (zc _ ho1);have k2:∀b o,b≠a->s.heap.get? b=some o->(((s.heap.update a (zT λ_=>(#[]:Array zh))).push (zR "tuple" vs.toArray 0)).push (zR "list" #[] 0)).get? b=some o:=λb o hb e=>zc _ (zc _ (k1 b o hb e));show zq (zC prog w) A _ P E {s with heap:=((s.heap.update a (zT λ_=>(#[]:Array zh))).push (zR "tuple" vs.toArray 0)).push (zR "list" #[] 0)};generalize ((s.heap.update a (zT λ_=>(#[]:Array zh))).push (zR "tuple" vs.toArray 0)).push (zR "list" #[] 0)=hh at mo k2;dsimp only;have hp':∀(i:Nat) q,qs[i]? =some q->∃u,vs[i]? =some u/\E8 hh u q:=λi x e=>by
  obtain⟨u,e1,b,t,t',rfl,o,hb,hc,n',hd⟩:=hp i x e;refine⟨_,e1,b,t,t',rfl,o,k2 b _ (λz=>?_) hb,hc,n',hd⟩;rw[z,ho]at hb
  cases hb
  simp[zR]at hc
 have fin:∃e,(hh.update a (zT λ_=>zJ ((R9 qs vs.length).map λi=>vs.getD i .none))).get? a=some (zR "list" (zJ ((R9 qs vs.length).map λi=>vs.getD i .none)) e)/\P (.done (.ret .none)) {s with heap:=hh.update a (zT λ_=>zJ ((R9 qs vs.length).map λi=>vs.getD i .none))}:=by obtain⟨e,he⟩:∃e,(hh.update a (zT λ_=>zJ ((R9 qs vs.length).map λi=>vs.getD i .none))).get? a=some (zR "list" (zJ ((R9 qs vs.length).map λi=>vs.getD i .none)) e):=⟨_,yZ mo λ_=>_⟩;exact⟨e,he,h _ e (λb o hb q=>by rw[jM _ _ _ _ hb];exact k2 b o hb q) he⟩
 have pm:=(QF qs vs.length).1;have tail:(zJ ((R9 qs vs.length).map λi=>vs.getD i Value.none)).size<=zk+1:=by rw[zl,zf,pm.length_eq,jV,ju];lia
 by_cases h2:vs.toArray.size<2
 · rw[if_pos h2,if_pos h2];refine za (ze ?_);rw[Ye];refine za (ze ?_);dsimp only;have hn:vs.length<2:=by simpa using h2
   have hv:(Yl (XY general' (vs.toArray.zip vs.toArray) #[] 7 none)).map (·.2)=zJ ((R9 qs vs.length).map λi=>vs.getD i Value.none):=by
    rw[R9,if_pos hn];show (vs.toArray.zip vs.toArray).map (·.2)=_;apply xc.mp;rw[ZZ];apply yn
    ·simp
    ·intro i hi hj;simp at hi hj ⊢;simp[hj]
   rw[hv];refine za (xR mo rfl (za (yw mo rfl ?_ (zD _) tail)));simp only[bne_self_eq_false,zy,if_false];exact ze (fin.elim λ_ h=>h.2)
 · rw[if_neg h2,if_neg h2];have hn2:2<=vs.length:=by simpa using h2
   have gq:∀i,i<vs.length->qs[i]? =some (qs.getD i (0,0)):=λi hi=>by rw[zn,zo (by lia)];rfl
   obtain⟨fs,T,hfs,hT⟩:∃fs:List zh,xO hh vs fs/\0<fs.length/\∀v∈fs,∃n t,v= .int n t:=by
    have gen:∀(ku:List zh) (qs:List (Int×Int)),qs.length=ku.length->(∀(i:Nat) (q:Int×Int),qs[i]? =some q->∃u,ku[i]? =some u/\E8 hh u q)->∃fs:List zh,xO hh ku fs/\fs.length=ku.length/\∀v∈fs,∃n t,v= .int n t:=by
     intro ku
     induction ku with
     |nil=>exact λqs _ _=>⟨[],trivial,rfl,λv hv=>by cases hv⟩
     |cons u r ih=>
       intro qs hl hk;rcases qs with _|⟨q,qr⟩
       ·simp at hl
       ·
         obtain⟨u',e1,ad,t,t',rfl,o,ho,hc,n,hd⟩:=hk 0 q rfl;simp at e1;subst e1;obtain⟨fs,f1,f2,f3⟩:=ih qr (by simpa using hl) λi q hq=>by simpa using hk (i+1) q (by simpa using hq)
         refine⟨.int q.1 t::fs,ZJ ho hc hd rfl f1,by simp[f2],λv hv=>?_⟩;rcases zu.mp hv with rfl|hv
         ·exact⟨_,_,rfl⟩
         ·exact f3 v hv
    obtain⟨fs,f1,f2,f3⟩:=gen vs qs hl hp';exact⟨fs,f1,by lia,f3⟩
   refine za (Xj (T:=.type "int") T hfs (λv hv=>?_) (by decide) ?_)
   ·obtain⟨n,t,rfl⟩:=hT v hv;exact ZI rfl
   · have run:=tOk.wp (s:={s with heap:=hh}) (cmp:=xi prog w A (tuples' (Value.type "int" != Value.type "tuple")) vs) (λi j C hi hj hC=>by
      obtain⟨u,u1,u2⟩:=hp' i _ (gq i hi);obtain⟨v,v1,v2⟩:=hp' j _ (gq j hj);unfold xi;rw[zn,zn,u1,v1];exact iL u2 v2 hC) _ (tOk.run _ (QH (NH qs) hn2))
     refine za (jF (Yb (Q:=λma s'=>∃p:Array Nat,p.size=vs.length/\Yl ma=p.map (ZT (vs.toArray.zip vs.toArray))/\YE ma=none/\s'= {s with heap:=hh}/\p=B8 (ltP qs) (xB vs.length)/\J4 p vs.length/\upW (ltP qs) p vs.length) rfl hn2 mz (λp ma s' a1 a2 a3 a4=>⟨p,a1,a2,a3,a4⟩) run) ?_ λ_ _ x=>x);rintro⟨⟨⟩,ma⟩ s' ⟨p,hp,har,hf,rfl,rfl,P1,U⟩;dsimp only;have e9:R9 qs vs.length= (B8 (ltP qs) (xB vs.length)).toList:=by rw[R9,if_neg (by lia)]
     rw[ZR rfl har,<-e9];refine za (xR mo rfl (za (yw mo rfl ?_ (zD _) tail)));rw[hf];simp only[bne_self_eq_false,zy,if_false];exact ze (fin.elim λ_ h=>h.2)
theorem nV{n:Nat}{vs:List zh}(ho:s.heap.get? a=some o)(hc:o.cls= .type "list")(hd:o.data= .seq vs.toArray n)(hl:qs.length=vs.length)(mz:vs.length<64)(hp:∀(i:Nat) q,qs[i]? =some q->∃u,vs[i]? =some u/\E8 s.heap u q)
 (h:∀(h1 h':Heap) (tk e:Nat),(∀b o,s.heap.get? b=some o->h1.get? b=some o)->(∀b o,h1.get? b=some o->h'.get? b=some o)->h'.get? h1.objs.size=some (zR "list" (zJ ((R9 qs vs.length).map λi=>vs.getD i .none)) e)->Q (.ref h1.objs.size) {s with heap:=h',toks:=tk}):
 zq (zC prog w) A (call (.builtin "sorted") [.ref a]) Q E s:=by
 have hz:vs.length<=zk:=zQ (xm mz) (by decide);refine Jp JR Ji Jj (args_sorted1 _) ?_;unfold yt.«sorted»;refine za (ze ?_);refine za (Jb a (.inl rfl) ho hc hd (λh1 hk=>?_) (by rw[zl];exact hz));refine za (xC ?_ hz);have hoL:(h1.push (zR "list" vs.toArray 0)).get? h1.objs.size=some (zR "list" vs.toArray 0):=zp _ rfl;refine za (jy (jK Xm ⟨_,hoL,rfl⟩ YO (Kq hl mz hoL (λi q e=>?_) λh' e k1 k2=>⟨_,rfl,?_⟩) (args_list_sort _)))
 ·obtain⟨u,e1,b,t,t',rfl,o',hb,hc,n',hd⟩:=hp i q e;exact⟨_,e1,b,t,t',rfl,o',zc _ (hk _ _ hb),hc,n',hd⟩
 ·exact ze ⟨_,rfl,h h1 h' s.toks e hk (λb o hb=>k1 b o (zG (zw hb)) (zc _ hb)) k2⟩
end
def dE(l:List D):M D:=if l.length<64 then (do
 let qs <-C1 (Z2 l)
 J8 (.lst (A8 qs l)))else M.stuck
def DC:List D->M D:=λds=>match ds with
 |[.ref r]=>do
   match <-K4 r with
   | .lst l=>dE l
   |_=>M.stuck
 |_=>M.stuck
theorem Rj:O8 X Z (.builtin "sorted") DC:=⟨by
 intro pins s σ H xs us Q I r ki;obtain⟨ds,μ,G,rl,hr,p⟩:=ki;rcases ds with _|⟨_|_|_|_|l|i|_|_,_|⟨_,_⟩⟩<;>try exact p.elim
 delta DC at p;dsimp only at p;obtain⟨v,rfl,rv⟩:=U2 rl;obtain⟨u,rfl,ru⟩:=C3 r;have rv':=rv;unfold d7 at rv';obtain⟨a,m,rfl⟩:=rv'
 cases ru
 obtain⟨o,g,p1⟩:=G9 p;have ro:=hr.obj i o a g m;rcases o with l|l|l|l<;>try exact p1.elim
 obtain⟨vs,q,mf⟩:=ro;obtain⟨ka,rv,pl,hz⟩:=I.list (SqL.of q);obtain⟨o,h1,h2,n,h3⟩:=pl.isList;dsimp only at p1;unfold dE at p1;split at p1
 case isFalse=>exact p1.elim
 rename_i mz;obtain⟨qs,eq,p2⟩:=R1 p1;obtain⟨hl,hk⟩:=cI I eq mf rv;have hlv:l.length=ka.length:=by rw[mf.length,rv.length]
 obtain⟨ws,w1,w2,w3⟩:=NR mf rv;refine nV h1 h2 h3 hl (by lia) hk λh1 h' tk e k1 k2 he=>?_;have I1:Inv X pins σ H {s with heap:=h1,toks:=tk}:=I.kept k1;have hf:=I1.hok.fresh (zg _);have kl:ws.length<=zk:=zQ (show ws.length<=64 by lia) (by decide);exact⟨.ref h1.objs.size,upd H h1.objs.size (.lst ws),I1.laid k2 (zg _) ⟨kl,_,e,w1,he⟩,rfl,T7 hr w2 p2 _ hf⟩⟩
theorem fY(h:X.calm=true):BD DC "sorted" X Z:=⟨.inl ⟨_,Rj,wE⟩⟩
def CxN(X:Cx):Cx:={X with xe:=λ_ _=>False}
section
variable{X:Cx}{pins:PNS}{σ:St}{H:Hp}{s:zv}
theorem Nk(I:Inv X pins σ H s):Inv (CxN X) pins σ H s:=⟨(λk=>⟨k.mod,k.kind,k.glob,k.blt,k.above,k.inj,k.has,k.cab,k.hd,k.frames,k.stk,k.exf,k.bs,k.bsz,k.noex,k.exfs,k.funs,k.frf,k.gd⟩:X.Ok->(CxN X).Ok) I.ok,I.os,I.bare,I.base,I.loc,I.cell,I.free,I.freeC,I.pin,I.hok,I.len⟩
theorem gG(I:Inv (CxN X) pins σ H s):Inv X pins σ H s:=⟨(λk=>⟨k.mod,k.kind,k.glob,k.blt,k.above,k.inj,k.has,k.cab,k.hd,k.frames,k.stk,k.exf,k.bs,k.bsz,k.noex,k.exfs,k.funs,k.frf,k.gd⟩:(CxN X).Ok->X.Ok) I.ok,I.os,I.bare,I.base,I.loc,I.cell,I.free,I.freeC,I.pin,I.hok,I.len⟩
theorem HY(hb:DB (CxN X) Z body f):DS X Z (.Try body (h0::hs) [] [] pos) f:=by
 refine⟨λpins s σ H D I hL=>wpAny_Try_except (jF (hb.h pins s σ H D (Nk I) hL) (λfl s1 h1=>?_) λ_ _ z=>z.elim)⟩
 cases fl with
 |next=>
   obtain⟨X1,H',I',k⟩:=h1;exact ZG ⟨X1,H',gG I',k⟩
 |brk=>
   obtain⟨X1,H',I',k⟩:=h1;exact⟨X1,H',gG I',k⟩
 |cont=>
   obtain⟨X1,H',I',k⟩:=h1;exact⟨X1,H',gG I',k⟩
 |ret u=>
   obtain⟨v,X1,H',I',k⟩:=h1;exact⟨v,X1,H',gG I',k⟩
end
end DL
namespace DL
open PySem PySem.Spec L2
open PyProof.Rows hiding St
open SetTable (Probe)
def S2(m:Nat)(p:Probe):Probe:=if p.more>0 then {p with j:=p.j+1,more:=p.more-1}else {p with j:=(jl m p.i p.perturb).1,more:=jt m (jl m p.i p.perturb).1-(jl m p.i p.perturb).1,i:=(jl m p.i p.perturb).1,perturb:=(jl m p.i p.perturb).2}
theorem KQ(t:SetTable)(p:Probe):t.advance p=S2 t.mask p:=rfl
def rs(m i pt:Nat):Probe:={j:=i,more:=jt m i-i,i,perturb:=pt,dummy:=none}
theorem bA(h:p.more=n+1):S2 m p= {p with j:=p.j+1,more:=n}:=by unfold S2;rw[if_pos (by lia),h];rfl
theorem tK(h:p.more=0):S2 m p= {p with j:=(jl m p.i p.perturb).1,more:=jt m (jl m p.i p.perturb).1-(jl m p.i p.perturb).1,i:=(jl m p.i p.perturb).1,perturb:=(jl m p.i p.perturb).2}:=by unfold S2;rw[if_neg (by lia)]
inductive Rch(lv:Nat->Prop)(m:Nat):Probe->Nat->Prop
 |here {p:Probe}:Rch lv m p p.j
 |step {p:Probe} {j:Nat} (h:lv p.j) (k:Rch lv m (S2 m p) j):Rch lv m p j
theorem Rch.mono(h:Rch lv m p j)(k:∀i,lv i->lv' i):Rch lv' m p j:=by
 induction h with
 |here=>exact .here
 |step h _ ih=>exact .step (k _ h) ih
def Wk(lv:Nat->Prop)(m:Nat):Nat->Probe->Prop
 |0,p=>¬lv p.j
 |n+1,p=>lv p.j/\Wk lv m n (S2 m p)
section
variable{lv:Nat->Prop}{m:Nat}
theorem vO:∀s p,p.more=s->(∃n≤s,Wk lv m n p)\/∀N,Wk lv m N (S2 m {p with j:=p.j+s,more:=0})->Wk lv m (N+s+1) p
 |0,p,h=>by
   by_cases k:lv p.j
   · refine .inr λN w=>⟨k,?_⟩;have e:({p with j:=p.j+0,more:=0}:Probe)=p:=by
      obtain⟨a,b,c,d,f⟩:=p;have h:b=0:=h;rw[h];rfl
     rw[e]at w;exact w
   ·exact .inl ⟨0,zg _,k⟩
 |s+1,p,h=>by
   by_cases k:lv p.j
   · have e:=bA (m:=m) h;rcases vO s (S2 m p) (by rw[e]) with⟨n,hn,w⟩|w
     ·exact .inl ⟨n+1,by lia,k,w⟩
     · refine .inr λN w'=>⟨k,w N ?_⟩;rw[e];have e2:p.j+1+s=p.j+(s+1):=by lia
       show Wk lv m N (S2 m {p with j:=p.j+1+s,more:=0});rw[e2];exact w'
   ·exact .inl ⟨0,zD _,k⟩
theorem fv(m i:Nat):jt m i-i<=9:=by unfold jt;split<;>lia
theorem GR(h:∃n<N,Wk lv m n (rs m (jl m i pt).1 (jl m i pt).2)):∃n<N+10,Wk lv m n (rs m i pt):=by
 obtain⟨n,hn,w⟩:=h;have:=fv m i;rcases vO _ (rs m i pt) rfl with⟨k,hk,w'⟩|w'
 ·have hk:k<=jt m i-i:=hk;exact⟨k,by lia,w'⟩
 ·have w2:=w' n (by rw[tK rfl];exact w);exact⟨_,by show n+(jt m i-i)+1<_;lia,w2⟩
theorem iR(hj:¬lv j):∀k i,itr m k i=j->∃n<10*(k+1),Wk lv m n (rs m i 0)
 |0,i,e=>⟨0,by lia,by
   have e:i=j:=e;show ¬lv i;rw[e];exact hj⟩
 |k+1,i,e=>by
   have e1:(jl m i 0).1=lcg m i:=by show (i*5+1+0 / 32) % (m+1)=_;simp[lcg]
   have e2:(jl m i 0).2=0:=by show 0 / 32=0;rfl
   obtain⟨n,hn,w⟩:=GR (by rw[e1,e2];exact iR hj k _ e);exact⟨n,by lia,w⟩
theorem VL(hF:D4 m)(hj:¬lv j)(hm:j<=m):∀n i p,p<32 ^ n->i<=m->∃k<10*(n+m+1),Wk lv m k (rs m i p)
 |0,i,p,hp,hi=>by
   obtain rfl:p=0:=by simpa using hp
   obtain⟨k,hk,e⟩:=hF i hi j hm;obtain⟨n,hn,w⟩:=iR hj k i e;exact⟨n,by lia,w⟩
 |n+1,i,p,hp,hi=>by
   obtain⟨k,hk,w⟩:=GR (VL hF hj hm n (jl m i p).1 (jl m i p).2 (by
    show p / 32<32 ^ n;rw[Nat.pow_succ]at hp;lia) (by
    show (i*5+1+p / 32) % (m+1)<=m;have:=yQ (i*5+1+p / 32) (show 0<m+1 by lia);lia))
   exact⟨k,by lia,w⟩
theorem QV(hF:D4 m)(hj:¬lv j)(hm:j<=m)(h:Int):∃n<10*yd m,Wk lv m n (rs m (jc h % (m+1)) (jc h)):=by obtain⟨n,hn,w⟩:=VL hF hj hm 13 (jc h % (m+1)) (jc h) (oK h) (by have:=yQ (jc h) (show 0<m+1 by lia);lia);exact⟨n,by unfold yd;lia,w⟩
end
abbrev lvT(t:SetTable)(j:Nat):Prop:=∃i,t.slot j= .live i
section
variable{t:SetTable}{ha:Nat->Int}{h:Int}
theorem au(e:t.slot p.j= .empty)(k:Rch (lvT t) t.mask p j):j=p.j:=by
 cases k with
 |here=>rfl
 |step h _=>
   obtain⟨i,h⟩:=h;rw[e]at h;cases h
theorem aR(nd:∀j,t.slot j≠ .dummy):∀n fuel p,Wk (lvT t) t.mask n p->n<fuel->
 (∃j,xH t ha h fuel p=some (.empty j p.dummy)/\t.slot j= .empty/\Rch (lvT t) t.mask p j/\∀j' i,Rch (lvT t) t.mask p j'->t.slot j'= .live i->ha i≠h)\/
 (∃j i nx n',xH t ha h fuel p=some (.candidate j i nx)/\t.slot j= .live i/\ha i=h/\Rch (lvT t) t.mask p j/\n'<n/\Wk (lvT t) t.mask n' nx/\nx.dummy=p.dummy/\(∀j' i',Rch (lvT t) t.mask p j'->t.slot j'= .live i'->ha i'=h->j'=j\/Rch (lvT t) t.mask nx j')/\∀j',Rch (lvT t) t.mask nx j'->Rch (lvT t) t.mask p j')
 |n,fuel+1,p,w,hf=>by
   have dm:(S2 t.mask p).dummy=p.dummy:=by unfold S2;split<;>rfl
   unfold xH;rcases es:t.slot p.j with _|_|i
   ·refine .inl ⟨p.j,rfl,es,.here,λj' i r e=>?_⟩;rw[au es r,es]at e;cases e
   ·exact absurd es (nd _)
   · rcases n with _|n
     ·exact absurd ⟨i,es⟩ w
     · obtain⟨_,w⟩:=w;have back:∀j',Rch (lvT t) t.mask (S2 t.mask p) j'->Rch (lvT t) t.mask p j':=λj' r=>.step ⟨i,es⟩ r;by_cases c:ha i=h
       · refine .inr ⟨p.j,i,S2 t.mask p,n,by simp[c,KQ],es,c,.here,by lia,w,dm,λj' i' r _ _=>?_,back⟩
         cases r with
         |here=>exact .inl rfl
         |step _ r=>exact .inr r
       · have ce:(if ha i==h then some (SetTable.Met.candidate p.j i (t.advance p))else xH t ha h fuel (t.advance p))=xH t ha h fuel (S2 t.mask p):=by rw[if_neg (by simpa using c),KQ]
         rcases aR nd n fuel (S2 t.mask p) w (by lia) with⟨j,e,e1,r,no⟩|⟨j,i2,nx,n',e,e1,e2,rj,hn,w2,d2,al,bk⟩
         · refine .inl ⟨j,by dsimp only;rw[ce,e,dm],e1,back _ r,λj' i' r' e'=>?_⟩
           cases r' with
           |here=>rw[es]at e';cases e';exact c
           |step _ r'=>exact no _ _ r' e'
         · refine .inr ⟨j,i2,nx,n',by dsimp only;rw[ce,e],e1,e2,back _ rj,by lia,w2,by rw[d2,dm],λj' i' r' e' c'=>?_,λj' r'=>back _ (bk _ r')⟩
           cases r' with
           |here=>rw[es]at e';cases e';exact absurd c' c
           |step _ r'=>exact al _ _ r' e' c'
end
section
variable{xs:Array Nat}{j:Nat}
def Up(xs:Array Nat):Prop:=∀i k a b:Nat,xs[i]? =some a->xs[k]? =some b->i<k->a<b
theorem nI(up:Up xs):∀fuel lo hi,hi-lo<=fuel->lo<=hi->hi<=xs.size->(∀i v,i<lo->xs[i]? =some v->v<j)->(∀i v,hi<=i->xs[i]? =some v->j<=v)->
 xb xs j fuel lo hi<=xs.size/\(∀i v,i<xb xs j fuel lo hi->xs[i]? =some v->v<j)/\∀i v,xb xs j fuel lo hi<=i->xs[i]? =some v->j<=v
 |0,lo,hi,hf,hl,hs,h1,h2=>by
   unfold xb;obtain rfl:lo=hi:=by lia
   exact⟨hs,h1,h2⟩
 |fuel+1,lo,hi,hf,hl,hs,h1,h2=>by
   unfold xb;by_cases c:lo<hi
   · rw[if_pos c];have hm:(lo+hi) / 2<xs.size:=by lia
     have em:xs[(lo+hi) / 2]? =some xs[(lo+hi) / 2]:=ji hm;have eg:xs.getD ((lo+hi) / 2) j=xs[(lo+hi) / 2]:=by rw[jA,em];rfl
     dsimp only;rw[eg];by_cases d:xs[(lo+hi) / 2]<j
     · rw[if_pos d];refine nI up fuel _ _ (by lia) (by lia) hs (λi v hi' e=>?_) h2;rcases ZM (Nat.lt_succ_iff.mp hi')with k|k
       ·have:=up i _ v _ e em k;lia
       ·subst k;rw[em]at e;cases e;exact d
     · rw[if_neg d];refine nI up fuel _ _ (by lia) (by lia) (by lia) h1 (λi v hi' e=>?_);rcases ZM hi' with k|k
       ·have:=up _ i _ v em e k;lia
       ·subst k;rw[em]at e;cases e;lia
   · rw[if_neg c];obtain rfl:lo=hi:=by lia
     exact⟨hs,h1,h2⟩
theorem IP(up:Up xs):jh xs j<=xs.size/\(∀i v,i<jh xs j->xs[i]? =some v->v<j)/\∀i v,jh xs j<=i->xs[i]? =some v->j<=v:=
 nI up xs.size 0 xs.size (by lia) (zD _) (zg _) (λ_ _ h=>absurd h (Nat.not_lt_zero _)) λi v h e=>by rw[Array.getElem?_eq_none h]at e;cases e
theorem TV(up:Up xs)(e:xs[i]? =some j):jh xs j=i:=by
 obtain⟨h0,h1,h2⟩:=IP up;have hi:i<xs.size:=(yr.mp e).1;rcases Nat.lt_trichotomy (jh xs j) i with k|k|k
 ·have eb:xs[jh xs j]? =some xs[jh xs j]:=ji (by lia);have:=up _ _ _ _ eb e k;have:=h2 _ _ (zg _) eb;lia
 ·exact k
 ·have:=h1 _ _ k e;lia
end
section
variable{t:SetTable}{j:Nat}
theorem Z6(up:Up t.place)(dm:t.dummies= #[]):t.slot j= .live i↔t.place[i]? =some j:=by
 unfold SetTable.slot;dsimp only;constructor
 · intro h;split at h
   · rename_i c
     cases h
     simpa using c
   ·rw[dm]at h;split at h<;>cases h
 ·intro e;have:=TV up e;rw[this,if_pos (by simp[e])]
theorem QL(j:Nat):¬Jk #[] j=true:=by unfold Jk;simp
theorem OT(dm:t.dummies= #[]):t.slot j= .empty\/∃i,t.slot j= .live i:=by
 unfold SetTable.slot;dsimp only;split
 ·exact .inr ⟨_,rfl⟩
 ·rw[dm,if_neg (QL j)];exact .inl rfl
theorem uW(dm:t.dummies= #[]):t.slot j≠ .dummy:=λh=>by rcases OT dm with e|⟨i,e⟩<;>rw[h]at e<;>cases e
end
theorem FB(xs:Array α)(p:Nat)(x:α):(jN xs p x).toList=xs.toList.take p++x::xs.toList.drop p:=by unfold jN;simp[JK];rw[yK (by simp)]
structure Tb(t:SetTable)(es:Array (Int×zh)):Prop where
 dm:t.dummies= #[]
 up:Up t.place
 sz:t.place.size=es.size
 le:∀j∈t.place.toList,j<=t.mask
 fu:D4 t.mask
 rch:∀q∈es.toList.zip t.place.toList,Rch (lvT t) t.mask (t.probeStart q.1.1) q.2
theorem bJ:Up xs↔xs.toList.Pairwise (· < ·):=by
 rw[xN];constructor
 ·intro h i k hi hk c;exact h i k _ _ (ji (by simpa using hi)) (ji (by simpa using hk)) c
 ·intro h i k a b ea eb c;obtain⟨hi,rfl⟩:=yr.mp ea;obtain⟨hk,rfl⟩:=yr.mp eb;exact h i k (by simpa using hi) (by simpa using hk) c
theorem Tb.put(T:Tb t es)(hj:t.slot j= .empty)(hm:j<=t.mask)(r:Rch (lvT t) t.mask (t.probeStart h) j):
 Tb (t.put j).1 (jN es (t.put j).2 (h,x))/\(jN es (t.put j).2 (h,x)).toList.Perm ((h,x)::es.toList)/\(t.put j).1.mask=t.mask/\(t.put j).1.led=t.led/\(t.put j).1.plain=t.plain/\(t.put j).1.moves=t.moves:=by
 obtain⟨b0,b1,b2⟩:=IP (j:=j) T.up;have e2:(t.put j).2=jh t.place j:=rfl;have ep:(t.put j).1.place=jN t.place (jh t.place j) j:=rfl;have ed:(t.put j).1.dummies= #[]:=by show (if Jk t.dummies j then _ else t.dummies)=_;rw[T.dm,if_neg (QL j)]
 have nin:∀i:Nat,t.place[i]? ≠some j:=λi e=>by rw[(Z6 T.up T.dm).mpr e]at hj;cases hj
 have up':Up (t.put j).1.place:=by
  rw[bJ,ep,FB];have u:=bJ.mp T.up;refine Zm.mpr ⟨u.sublist (List.take_sublist ..),yO.mpr ⟨λa ha=>?_,u.sublist (List.drop_sublist ..)⟩,λa ha b hb=>?_⟩
  · obtain⟨i,hi,rfl⟩:=xE.mp ha;have e:t.place[jh t.place j+i]? =some ((t.place.toList.drop (jh t.place j))[i]):=by
     rw[<-zL,<-Xg,zo hi]
    have h1:=b2 _ _ (by lia) e;have h2:((t.place.toList.drop (jh t.place j))[i])≠j:=λz=>nin _ (by rw[e,z]);lia
  · obtain⟨i,hi,rfl⟩:=xE.mp ha;have hi':i<jh t.place j:=by rw[jU]at hi;lia
    have e:t.place[i]? =some ((t.place.toList.take (jh t.place j))[i]):=by rw[<-zL,<-JT hi',zo hi]
    have h1:=b1 _ _ hi' e;rcases zu.mp hb with rfl|hb
    ·exact h1
    · obtain⟨k,hk,rfl⟩:=xE.mp hb;have e':t.place[jh t.place j+k]? =some ((t.place.toList.drop (jh t.place j))[k]):=by
       rw[<-zL,<-Xg,zo hk]
      have:=b2 _ _ (by lia) e';lia
 have mem':∀k,k∈(t.put j).1.place.toList↔k=j\/k∈t.place.toList:=λk=>by
  rw[ep,FB,zM,zu];have:=Zd (jh t.place j) t.place.toList;constructor
  · rintro(z|z|z)
    ·exact .inr (List.mem_of_mem_take z)
    ·exact .inl z
    ·exact .inr (List.mem_of_mem_drop z)
  · rintro(z|z)
    ·exact .inr (.inl z)
    ·rw[<-this]at z;exact(zM.mp z).elim .inl λz=>.inr (.inr z)
 have lvm:∀k,lvT t k->lvT (t.put j).1 k:=λk ⟨i,e⟩=>by have e:=(Z6 T.up T.dm).mp e;have:k∈(t.put j).1.place.toList:=(mem' k).mpr (.inr (jB (by rw[zL];exact e)));obtain⟨i',e'⟩:=Yy.mp this;exact⟨i',(Z6 up' ed).mpr (by rw[<-zL];exact e')⟩
 have perm:(jN es (t.put j).2 (h,x)).toList.Perm ((h,x)::es.toList):=by rw[FB];refine List.perm_middle.trans ?_;rw[Zd]
 refine⟨⟨ed,up',?_,λk hk=>?_,T.fu,λq hq=>?_⟩,perm,rfl,rfl,rfl,rfl⟩
 ·rw[<-zI,<-zI,perm.length_eq,ep,FB,zd,zr,jU,xf,zr,zI,zI,T.sz];rw[T.sz]at b0;lia
 · rcases (mem' k).mp hk with rfl|hk
   ·exact hm
   ·exact T.le k hk
 · rw[FB,ep,FB,e2,List.zip_append (by rw[jU,jU,zI,zI,T.sz]),xT]at hq;have ez:=List.zip_append (l₁:=es.toList.take (jh t.place j)) (r₁:=es.toList.drop (jh t.place j)) (r₂:=t.place.toList.drop (jh t.place j)) (by rw[jU,jU,zI,zI,T.sz]);rw[Zd,Zd]at ez;rcases zM.mp hq with z|z
   ·exact(T.rch q (by rw[ez];exact ym _ z)).mono lvm
   · rcases zu.mp z with rfl|z
     ·exact r.mono lvm
     ·exact(T.rch q (by rw[ez];exact zO _ z)).mono lvm
abbrev lvO(owner:Array (Option Nat))(j:Nat):Prop:=∃k,owner[j]? =some (some k)
section
variable{lv:Nat->Prop}{m:Nat}
theorem fR:∀k p,k<=p.more->(∀i<k,lv (p.j+i))->Rch lv m p (p.j+k)
 |0,p,_,_=>.here
 |k+1,p,h,hl=>by
   obtain⟨n,e⟩:∃n,p.more=n+1:=⟨p.more-1,by lia⟩;refine .step (hl 0 (by lia)) ?_;have:=fR k (S2 m p) (by rw[bA e];show k<=n;lia) λi hi=>by rw[bA e];show lv (p.j+1+i);rw[show p.j+1+i=p.j+(i+1) by lia];exact hl _ (by lia)
   rw[bA e]at this ⊢;rw[show p.j+(k+1)=p.j+1+k by lia];exact this
theorem mM:∀s p j,p.more=s->(∀i≤s,lv (p.j+i))->Rch lv m (S2 m {p with j:=p.j+s,more:=0}) j->Rch lv m p j
 |0,p,j,h,hl,r=>by
   refine .step (hl 0 (zg _)) ?_;have e:({p with j:=p.j+0,more:=0}:Probe)=p:=by obtain⟨a,b,c,d,f⟩:=p;have h:b=0:=h;rw[h];rfl
   rw[e]at r;exact r
 |s+1,p,j,h,hl,r=>by
   refine .step (hl 0 (by lia)) ?_;refine mM s (S2 m p) j (by rw[bA h]) (λi hi=>?_) ?_
   ·rw[bA h];show lv (p.j+1+i);rw[show p.j+1+i=p.j+(i+1) by lia];exact hl _ (by lia)
   ·rw[bA h];show Rch lv m (S2 m {p with j:=p.j+1+s,more:=0}) j;rw[show p.j+1+s=p.j+(s+1) by lia];exact r
end
theorem UI(h:i<=m):i<=jt m i/\jt m i<=m:=by unfold jt;split<;>lia
theorem gP(hj:j<owner.size)(h:¬(owner.getD j (some 0)).isNone=true):lvO owner j:=by
 rw[jA,ji hj]at h;rcases e:owner[j]with _|k
 ·rw[e]at h;exact absurd rfl h
 ·exact⟨k,by rw[ji hj,e]⟩
theorem NL(hs:owner.size=m+1):∀f i p,i<=m->jm m owner f i p=some j->Rch (lvO owner) m (rs m i p) j
 |0,i,p,hi,h=>by unfold jm at h;cases h
 |f+1,i,p,hi,h=>by
   unfold jm at h;obtain⟨r1,r2⟩:=UI hi;split at h
   · rename_i k hk
     cases h
     obtain⟨_,hm,hb⟩:=List.find?_range_eq_some.mp hk;have hm:=jo.mp hm;exact fR k (rs m i p) (by show k<=jt m i-i;lia) λx hx=>gP (by show i+x<_;lia) (by
      have:=hb x hx;show ¬(owner.getD (i+x) (some 0)).isNone=true;intro z;rw[z]at this
      cases this)
   ·rename_i hk;have hk:=List.find?_eq_none.mp hk;refine mM (jt m i-i) (rs m i p) j rfl (λx hx=>gP (by show i+x<_;lia) (show ¬(owner.getD (i+x) (some 0)).isNone=true from hk x (jo.mpr (by lia)))) ?_;rw[tK rfl];refine NL hs f _ _ ?_ h;show (i*5+1+p / 32) % (m+1)<=m;have:=yQ (i*5+1+p / 32) (show 0<m+1 by lia);lia
def OwR(m:Nat)(H:List Int)(k:Nat)(owner:Array (Option Nat)):Prop:=∀j k',owner[j]? =some (some k')->k'<k/\∃h,H[k']? =some h/\Rch (lvO owner) m (rs m (jc h % (m+1)) (jc h)) j
theorem ar{owner:Array (Option Nat)}(h:(owner.setIfInBounds j (some k))[i]? =some o):(i=j/\o=some k)\/owner[i]? =some o:=by
 rw[XS]at h;split at h
 · rename_i e;split at h
   ·cases h;exact .inl ⟨e.symm,rfl⟩
   ·cases h
 ·exact .inr h
theorem OwR.step{owner:Array (Option Nat)}(hs:owner.size=m+1)(R:OwR m H k owner)(hh:H[k]? =some h)(hf:jm m owner (yd m) (jc h % (m+1)) (jc h)=some j)(hj:owner[j]? =some none):OwR m H (k+1) (owner.setIfInBounds j (some k)):=by
 have mono:∀i,lvO owner i->lvO (owner.setIfInBounds j (some k)) i:=λi ⟨x,e⟩=>⟨x,by
  rw[XS,if_neg (λz=>by rw[z,e]at hj;cases hj)];exact e⟩
 intro i k' e;rcases ar e with⟨rfl,z⟩|z
 · cases z
   exact⟨by lia,h,hh,(NL hs _ _ _ (by have:=yQ (jc h) (show 0<m+1 by lia);lia) hf).mono mono⟩
 ·obtain⟨h1,x,h2,r⟩:=R i k' z;exact⟨by lia,x,h2,r.mono mono⟩
theorem nN(hF:D4 m)(H:List Int):∀hs k owner,CB m k owner->OwR m H k owner->H.drop k=hs->H.length<=m+1->k<=H.length->
 ∃owner',(hs.foldl (fun(kr:Option (Array (Option Nat)×Nat)) h=>do
  let (owner,k) <-kr
  let j <-jm m owner (yd m) (jc h % (m+1)) (jc h)
  pure (owner.setIfInBounds j (some k),k+1)) (some (owner,k)))=some (owner',H.length)/\CB m H.length owner'/\OwR m H H.length owner'
 |[],k,owner,I,R,e,hl,hk=>by
   have:k=H.length:=by have:=congrArg xF e;rw[xf]at this;simp at this;lia
   subst this;exact⟨owner,rfl,I,R⟩
 |h::hs,k,owner,I,R,e,hl,hk=>by
   have hk2:k<H.length:=by have:=congrArg xF e;rw[xf]at this;simp at this;lia
   have hh:H[k]? =some h:=by have:=congrArg (·[0]?) e;simpa using this
   obtain⟨j,ef,I2⟩:=I.step hF (by lia) h;have hi:jc h % (m+1)<=m:=by have:=yQ (jc h) (show 0<m+1 by lia);lia
   have hj:owner[j]? =some none:=by
    have hl':(owner.toList.filterMap id).length=k:=by rw[I.pm.length_eq,jV]
    obtain⟨j0,hj0,e0⟩:=aH (by rw[hl',zI,I.sz];lia);rw[zL]at e0;have hm:j0<=m:=by rw[zI,I.sz]at hj0;lia
    obtain⟨j',e',ho⟩:=MH hF e0 hm 13 (yd m) _ _ (oK h) (by unfold yd;lia) hi;rw[ef]at e'
    cases e'
    exact ho
   obtain⟨o',e2,I3,R3⟩:=nN hF H hs (k+1) _ I2 (R.step I.sz hh ef hj) (by rw[<-List.drop_drop,e];rfl) hl (by lia);refine⟨o',?_,I3,R3⟩;rw[xq,<-e2];simp[ef]
theorem OR:∀l:List α,(∀x∈l,f x=some (g x))->l.filterMap f=l.map g
 |[],_=>rfl
 |x::r,h=>by rw[jG,h x (zt ..),zK,OR r λy hy=>h y (zi _ hy)]
theorem vv{led plain:Bool}(hF:D4 m)(es:Array (Int×zh))(hl:es.size<=m):∃t order,SetTable.laid m finger moves led plain (es.map (·.1))=some (t,order)/\Tb t (order.filterMap (es[·]?))/\(order.filterMap (es[·]?)).toList.Perm es.toList/\t.led=led/\t.plain=plain/\t.mask=m:=by
 have I0:CB m 0 (Array.replicate (m+1) none):=⟨by simp,by simp⟩;have R0:OwR m (es.map (·.1)).toList 0 (Array.replicate (m+1) none):=λj k' e=>by rw[Array.getElem?_replicate]at e;split at e<;>cases e
 have hz:(es.map (·.1)).toList.length=es.size:=by simp
 obtain⟨o,e,I,R⟩:=nN hF (es.map (·.1)).toList (es.map (·.1)).toList 0 _ I0 R0 rfl (by lia) (zD _);rw[hz]at I R;have el:SetTable.layClean m (es.map (·.1))=some o:=by unfold SetTable.layClean;rw[<-Array.foldl_toList,e];rfl
 have memL:∀q:Nat×Nat,q∈((zF (m+1)).filterMap λj=>(o.getD j none).map (j, ·))↔o[q.1]? =some (some q.2):=fun⟨j,k⟩=>by
  rw[Xf];constructor
  · rintro⟨x,hx,e⟩;rw[jA]at e;rcases eo:o[x]? with _|_|v
    ·rw[eo]at e;cases e
    ·rw[eo]at e;cases e
    · rw[eo]at e
      cases e
      exact eo
  ·intro e;have e:o[j]? =some (some k):=e;have hj:=(yr.mp e).1;exact⟨j,jo.mpr (by rw[I.sz]at hj;exact hj),by rw[jA,e];rfl⟩
 have lo:=IV I.sz;have pwL:(((zF (m+1)).filterMap λj=>(o.getD j none).map (j, ·)).map (·.1)).Pairwise (· < ·):=by
  refine jC.mpr (List.pairwise_filterMap.mpr (List.pairwise_lt_range.imp λ{a b} h x hx y hy=>?_));rcases ea:o.getD a none with _|u
  ·rw[ea]at hx;cases hx
  · rcases eb:o.getD b none with _|v
    ·rw[eb]at hy;cases hy
    ·rw[ea]at hx;rw[eb]at hy;cases hx;cases hy;exact h
 have leL:∀j∈(((zF (m+1)).filterMap λj=>(o.getD j none).map (j, ·)).map (·.1)),j<=m:=λj hj=>by obtain⟨q,hq,rfl⟩:=zW.mp hj;have:=(yr.mp ((memL q).mp hq)).1;rw[I.sz]at this;lia
 generalize eL:((zF (m+1)).filterMap λj=>(o.getD j none).map (j, ·))=L at *;have op:(L.map (·.2)).Perm (zF es.size):=by rw[lo];exact I.pm
 have eE:((L.map (·.2)).toArray.filterMap (es[·]?)).toList=L.map λq=>es.getD q.2 (0,.none):=by rw[JZ,yk];refine OR L λq hq=>?_;have ky:q.2<es.size:=jo.mp (op.mem_iff.mp (zW.mpr ⟨q,hq,rfl⟩));show es[q.2]? =_;rw[jA,ji ky];rfl
 refine⟨{mask:=m,place:=(L.map (·.1)).toArray,dummies:= #[],finger,led,moves,plain},(L.map (·.2)).toArray,by unfold SetTable.laid;rw[el];show some _=some _;rw[eL],?_,RX op,rfl,rfl,rfl⟩;have up:Up (L.map (·.1)).toArray:=bJ.mpr pwL;refine⟨rfl,up,?_,leL,hF,λq hq=>?_⟩
 ·rw[<-zI,<-zI,eE,zf,zf]
 · rw[eE]at hq;have hq:q∈(L.map λq=>es.getD q.2 (0,Value.none)).zip (L.map (·.1)):=hq;rw[JS]at hq;obtain⟨x,hx,rfl⟩:=zW.mp hq;obtain⟨hk,h,e1,r⟩:=R x.1 x.2 ((memL x).mp hx);have eh:(es.getD x.2 (0,Value.none)).1=h:=by
    rw[jA,ji hk];rw[zL,Array.getElem?_map,ji hk]at e1;exact jr e1
   show Rch _ m (rs m (jc (es.getD x.2 (0,Value.none)).1 % (m+1)) (jc (es.getD x.2 (0,Value.none)).1)) x.1;rw[eh];refine r.mono λi ⟨k,ek⟩=>?_;have:i∈L.map (·.1):=zW.mpr ⟨(i,k),(memL (i,k)).mpr ek,rfl⟩;obtain⟨n,en⟩:=Yy.mp this;exact⟨n,(Z6 up rfl).mpr (by show (L.map (·.1)).toArray[n]? =some i;rw[YA];exact en)⟩
section
variable{prog:zS}{w:jg}{A:jn}{E:VSP}{s:zv}{K:Type}[DecidableEq K]{knd:KeyKind prog w K}
theorem qd(n:Nat)(h:carriedByValue v=true):Yh n v=pure false:=by
 cases v with
 |ref a=>simp[carriedByValue]at h
 |_=>first|rfl|(unfold Yh;rfl)
theorem KK(hk:jZ knd s.heap ks a)(h:Q false s):zq (zC prog w) A (Yh 8 (.ref a)) Q E s:=by
 have hT:=hk.typeIs;obtain⟨o,items,n,ho,_,hd,hi⟩:=hk;unfold Yh;refine za (xS hT ?_);dsimp only;refine za (ze ?_);simp only[Xc,zy,if_false];refine za (yx ho hd ?_);dsimp only;refine za ?_;show zq _ _ (forIn items _ _) _ _ s;rw[<-xj];refine Ju _ (λrest r s'=>r.1=none/\s'=s/\∀v∈rest,carriedByValue v=true) _ ?_ ?_ _ _ ⟨rfl,rfl,hi.byValue⟩
 ·rintro v rest r s' ⟨hr,rfl,hall⟩;rw[qd _ (hall v zt)];refine za (ze ?_);simp only[zy,if_false];exact ze ⟨rfl,rfl,λu hu'=>hall u (zi _ hu')⟩
 ·rintro⟨r1,r2⟩ s' ⟨hr,rfl,_⟩;simp only at hr;subst hr;exact ze h
def eI(knd:KeyKind prog w K)(h:Heap)(v:zh):Prop:=∃b ks,v= .ref b/\jZ knd h ks b
theorem Gp{stored:List zh}(hk:jZ knd s.heap ks b)(hs:∀y∈stored,eI knd s.heap y)(h:Q false s):zq (zC prog w) A (searchCouldBeSeen (.ref b) stored) Q E s:=by
 unfold searchCouldBeSeen;refine za ?_;refine Ju _ (λrest r s'=>r.1=none/\s'=s/\∀y∈rest,eI knd s.heap y) _ ?_ ?_ _ _ ⟨rfl,rfl,hs⟩
 · rintro v rest r s' ⟨hr,rfl,hall⟩;obtain⟨c,kc,rfl,hc⟩:=hall v zt;dsimp only;split
   ·exact ze ⟨rfl,rfl,λu hu=>hall u (zi _ hu)⟩
   ·refine za (wpAny_eqIsQuiet_tuple hk ?_);simp only[Xc,zy,if_false];refine za (wpAny_eqIsQuiet_tuple hc ?_);simp only[Xc,zy,if_false];refine za (KK hk ?_);simp only[zy,if_false];refine za (KK hc ?_);simp only[zy,if_false];exact ze ⟨rfl,rfl,λu hu=>hall u (zi _ hu)⟩
 ·rintro⟨r1,r2⟩ s' ⟨hr,rfl,_⟩;simp only at hr;subst hr;exact ze h
def elT(knd:KeyKind prog w K)(q:List K×Addr):Int×zh:=(jQ knd q.1,.ref q.2)
structure TpS(knd:KeyKind prog w K)(h:Heap)(L:List (List K×Addr))(es:Array (Int×zh))(t:SetTable):Prop where
 tb:Tb t es
 pm:es.toList.Perm (L.map (elT knd))
 ks:∀q∈L,jZ knd h q.1 q.2
 sm:t.mask=7\/t.mask=31\/t.mask=127
 fl:es.size*5<t.mask*3
theorem TpS.at{i:Nat}(T:TpS knd h L es t)(he:es[i]? =some e):∃q∈L,e=elT knd q:=by have:e∈es.toList:=jB (by rw[zL];exact he);obtain⟨q,hq,rfl⟩:=zW.mp (T.pm.mem_iff.mp this);exact⟨q,hq,rfl⟩
theorem TpS.fits(T:TpS knd h L es t):t.fits es.size=true:=by unfold XT XU;rw[T.tb.sz,T.tb.dm];have:=T.fl;simp;lia
theorem TpS.way(T:TpS knd h L es t):t.gaveWay=false:=by unfold SetTable.gaveWay;rcases T.sm with e|e|e<;>rw[e]<;>rfl
def NJ(t:SetTable)(L:List (List K×Addr))(es:Array (Int×zh))(knd:KeyKind prog w K)(ks:List K)(p:Probe):Prop:=∃i j q,q∈L/\q.1=ks/\es[i]? =some (elT knd q)/\t.slot j= .live i/\Rch (lvT t) t.mask p j
theorem vW{a b:Addr}{o:Obj}{ep:Nat}{ks:List K}(hu:A.units<yU)(ho:s.heap.get? a=some o)(hd:o.data= .set es ep t)(T:TpS knd s.heap L es t)(hb:jZ knd s.heap ks b):
 ∀(n fuel:Nat) (p:Probe) st,st.getD (t.probeStart (jQ knd ks))=p->Wk (lvT t) t.mask n p->n<fuel->n<10*yd t.mask->p.dummy=none->
  (NJ t L es knd ks p->Q (.there none) s)->(¬NJ t L es knd ks p->∀j,t.slot j= .empty->Rch (lvT t) t.mask p j->Q (.free j false) s)->zq (zC prog w) A (XB a (.ref b) (jQ knd ks) true fuel st) Q E s:=by
 intro n
 induction n using Nat.strongRecOn with
 |_ n ih=>
 intro fuel p st est wk hf ht dm h1 h2;obtain⟨fuel,rfl⟩:∃f,fuel=f+1:=⟨fuel-1,by lia⟩;unfold XB;refine za (jx ho hd T.fits ?_);dsimp only;rw[T.way];simp only[zy,if_false];rw[est];rcases aR (λj=>uW T.tb.dm) n (10*yd t.mask) p wk ht with⟨j,e,e1,r,no⟩|⟨j,i,nx,n',e,e1,e2,rj,hn,w2,d2,al,bk⟩
 ·have e':t.probe (λi=>(es[i]?.map (·.1)).getD 0) (jQ knd ks) p=some (.empty j p.dummy):=e;erw [e'];rw[dm];dsimp only;refine ze (h2 (fun⟨i,j',q,hq,e3,e4,e5,e6⟩=>?_) j e1 r);refine no j' i e6 e5 ?_;show (es[i]?.map (·.1)).getD 0=_;rw[e4,<-e3];rfl
 · have e':t.probe (λi=>(es[i]?.map (·.1)).getD 0) (jQ knd ks) p=some (.candidate j i nx):=e;erw [e'];dsimp only;have ei:t.place[i]? =some j:=(Z6 T.tb.up T.tb.dm).mp e1;have hi:i<es.size:=by
    have:=(yr.mp ei).1;rw[T.tb.sz]at this;exact this
   have ee:es[i]? =some es[i]:=ji hi;obtain⟨q,hq,eq⟩:=T.at ee;rw[eq]at ee;have hstore:∀y∈(es.filter (·.1==jQ knd ks)).toList.map (·.2),eI knd s.heap y:=λy hy=>by obtain⟨x,hx,rfl⟩:=zW.mp hy;rw[Array.toList_filter]at hx;have hx:=(yF.mp hx).1;obtain⟨q,hq,rfl⟩:=zW.mp (T.pm.mem_iff.mp hx);exact⟨q.2,q.1,rfl,T.ks q hq⟩
   have rest:zq (zC prog w) A (do
    let some (_,y):=es[i]?|JM "internal:set-entry"
    let equal <-Yj [y] (eqBool y (.ref b))
    let (oh,_,t') <-setState a
    if true&&equal then return .there none
    let some same:=t'.sameMemory t.moves t.mask|JM "set.changed-during-lookup:is-the-new-block-at-the-old-address"
    let still <-match (if same then t'.slot j else .empty) with
     | .live i'=>match oh[i']? with
       |some (_,y')=>do pure (if <-isSame y' y then some i' else none)
       |none=>pure none
     |_=>pure none
    match still with
    |none=>rule "set.search.anew";XB a (.ref b) (jQ knd ks) true fuel none
    |some i'=>if equal then return .there (some i')else XB a (.ref b) (jQ knd ks) true fuel (some nx)) Q E s:=by
    rw[ee];dsimp only [elT];refine za (jy (wpAny_eqBool_tuple hu (T.ks q hq) hb ?_));refine za (jx ho hd T.fits ?_);dsimp only;by_cases c:q.1=ks
    ·rw[decide_eq_true c];simp only[yX,if_true];exact ze (h1 ⟨i,j,q,hq,c,ee,e1,rj⟩)
    · rw[decide_eq_false c];simp only[Jt,zy,if_false];rw[show t.sameMemory t.moves t.mask=some true by unfold SetTable.sameMemory;rw[if_pos (by simp)]];dsimp only;rw[if_pos rfl,e1];dsimp only;rw[ee];dsimp only [elT];refine za (wpAny_isSame_ref_self (za (ze ?_)));rw[if_pos rfl];dsimp only;refine ih n' hn fuel nx (some nx) rfl w2 (by lia) (by lia) (by rw[d2,dm]) (fun⟨i',j',q',g1,g2,g3,g4,g5⟩=>h1 ⟨i',j',q',g1,g2,g3,g4,bk _ g5⟩) λhno j' g1 g2=>h2 (fun⟨i',j2,q',k1,k2,k3,k4,k5⟩=>?_) j' g1 (bk _ g2);rcases al j2 i' k5 k4 (by show (es[i']?.map (·.1)).getD 0=_;rw[k3,<-k2];rfl)with rfl|k
      · rw[e1]at k4
        cases k4
        rw[ee]at k3;have:=congrArg (λo=>o.map (·.2)) k3;have:q.2=q'.2:=by have:=jr this;injection this
        have h3:=T.ks q hq;rw[this]at h3;exact c ((h3.inj (T.ks q' k1)).trans k2)
      ·exact hno ⟨i',j2,q',k1,k2,k3,k4,k⟩
   split
   ·refine za (Gp hb hstore ?_);simp only[zy,if_false];exact rest
   ·exact rest
end
section
variable{prog:zS}{w:jg}{A:jn}{E:VSP}{s:zv}{K:Type}[DecidableEq K]{knd:KeyKind prog w K}{a b:Addr}{o:Obj}{ep:Nat}{t t':SetTable}{es oh:Array (Int×zh)}{L:List (List K×Addr)}{ks:List K}
theorem OJ(x:jZ knd h ks b)(ho:h.get? a=some o)(hd:o.data= .set es ep t)(hs:yC a h h'):jZ knd h' ks b:=by
 obtain⟨o',items,n,ho',hc,oi,hi⟩:=x;have md:b≠a:=by rintro rfl;obtain rfl:o'=o:=jr (ho'.symm.trans ho);rw[hd]at oi;exact nomatch oi
 exact⟨o',items,n,(hs.2 b md).trans ho',hc,oi,hi⟩
theorem FT(r:Rch lv m p j)(h:p.j+p.more<=m):j<=m:=by
 induction r with
 |here=>lia
 |@step p j hl k ih=>
   refine ih ?_;by_cases c:p.more>0
   ·obtain⟨n,e⟩:∃n,p.more=n+1:=⟨p.more-1,by lia⟩;rw[bA e];show p.j+1+n<=m;lia
   · rw[tK (by lia)];have hi:(jl m p.i p.perturb).1<=m:=by
      show (p.i*5+1+p.perturb / 32) % (m+1)<=m;have:=yQ (p.i*5+1+p.perturb / 32) (show 0<m+1 by lia);lia
     obtain⟨r1,r2⟩:=UI hi;show (jl m p.i p.perturb).1+(jt m (jl m p.i p.perturb).1-(jl m p.i p.perturb).1)<=m;lia
theorem HZ(t:SetTable)(h:Int):(t.probeStart h).j+(t.probeStart h).more<=t.mask:=by
 have hi:jc h % (t.mask+1)<=t.mask:=by have:=yQ (jc h) (show 0<t.mask+1 by lia);lia
 obtain⟨r1,r2⟩:=UI hi;show jc h % (t.mask+1)+(jt t.mask (jc h % (t.mask+1))-jc h % (t.mask+1))<=t.mask;lia
def X6(knd:KeyKind prog w K)(h:Heap)(a:Addr)(L:List (List K×Addr)):Prop:=∃o es ep t,h.get? a=some o/\o.ExactSet/\o.data= .set es ep t/\TpS knd h L es t/\t.led= (!byT w)/\(0<es.size->t.plain=false)
theorem nJ(ho:s.heap.get? a=some o)(hd:o.data= .set es ep t):(s.heap.update a (Xk oh t')).get? a=some {o with data:=.set oh (ep+1) t'}:=by have:=xt (Xk oh t') ho (by rw[putSet_of oh t' hd];rfl);rw[putSet_of oh t' hd]at this;exact this
theorem Tb.plain(T:Tb t es):Tb {t with plain:=false} es:=⟨T.dm,T.up,T.sz,T.le,T.fu,T.rch⟩
theorem Gq(ho:s.heap.get? a=some o)(nu:o.ExactSet)(hd:o.data= .set es ep t)(tb:Tb t es)(pm:es.toList.Perm (L.map (elT knd)))(hk:∀q∈L,jZ knd s.heap q.1 q.2)(hm:t.mask=7/\es.size=5\/t.mask=31/\es.size=19)(hl:t.led= (!byT w))(nz:t.plain=false)
 (h:∀h',yC a s.heap h'->X6 knd h' a L->R () {s with heap:=h'}):zq (zC prog w) A (setRelay a (Yk es.size)) R E s:=by
 have hg:Yk es.size=es.size*4:=by unfold Yk;rw[if_neg (by lia)]
 have hsa:Zn (es.size*4)-1=31/\es.size=5\/Zn (es.size*4)-1=127/\es.size=19:=by
  rcases hm with⟨_,e⟩|⟨_,e⟩<;>rw[e]
  ·exact .inl ⟨by decide,rfl⟩
  ·exact .inr ⟨by decide,rfl⟩
 have hF:D4 (Zn (es.size*4)-1):=by
  rcases hsa with⟨e,_⟩|⟨e,_⟩<;>rw[e]
  ·exact MT
  ·exact ci
 have hfit:t.fits es.size=true:=by unfold XT XU;rw[tb.sz,tb.dm];simp;lia
 obtain⟨t',order,el,T',hop,h1,h2,h3⟩:=vv hF es (by lia);have hos:(order.filterMap (es[·]?)).size=es.size:=by rw[<-zI,hop.length_eq,zI]
 rw[hg];unfold setRelay;refine za (jx ho hd hfit ?_);refine ya (λz=>absurd z (Nat.not_lt.mpr (zQ (show Zn (es.size*4)<=128 by lia) (by decide)))) (λ_=>?_);refine za ?_;have er:t.relaid (es.map (·.1)) (es.size*4)=some (t',order):=el;rw[er];refine ya (λz=>absurd z (by rw[hos];simp)) (λ_=>ze ?_);refine wpAny_storeSet_of ho hd ?_ (fits_of_scanBound (by rw[hos];exact Xn (show es.size<=63 by lia) (by decide)));have sb:=yB s.heap a (Xk (order.filterMap (es[·]?)) t');refine h _ sb ⟨_,_,_,t',nJ ho hd,nu,rfl,⟨T',hop.trans pm,λq hq=>OJ (hk q hq) ho hd sb,?_,?_⟩,h1.trans hl,λ_=>h2.trans nz⟩
 ·rw[h3];lia
 ·rw[h3,hos];lia
theorem TpS.len(T:TpS knd h L es t):es.size=L.length:=by have:=T.pm.length_eq;rw[zf,zI]at this;exact this
theorem Qk(hu:A.units<yU)(hS:X6 knd s.heap a L)(hb:jZ knd s.heap ks b)(hroom:L.length+1<64)(hv:∀ {R},R false s->zq (zC prog w) A (Zv 8 (.ref b)) R E s)
 (h:∀r h',yC a s.heap h'->X6 knd h' a (if ks∈L.map (·.1)then L else L++[(ks,b)])->Q r {s with heap:=h'}):zq (zC prog w) A (setAddHashed a (.ref b) (jQ knd ks)) Q E s:=by
 have ny:=hS;obtain⟨o,es,ep,t,ho,nu,hd,T,hl,nz⟩:=hS;have hn:=T.len;have fl:=T.fl;have sm:=T.sm;unfold setAddHashed setAddHashedIn;refine jy (za (jx ho hd T.fits ?_));dsimp only;have hbs:byScan (.ref b) es=false:=rfl;rw[hbs];simp only[zy,if_false];obtain⟨j0,hj0,nj0⟩:∃j,j<=t.mask/\¬lvT t j:=by
  refine jb λz=>?_;have all:∀j∈zF (t.mask+1),j∈t.place.toList:=λj hj=>by have hj:=jo.mp hj;obtain⟨i,e⟩:=jb λy=>z ⟨j,by lia,y⟩;exact jB (by rw[zL];exact(Z6 T.tb.up T.tb.dm).mp e)
  have:=(List.nodup_range).length_le_of_subset all;rw[jV,zI,T.tb.sz]at this;lia
 obtain⟨n,hnn,wk⟩:=QV T.tb.fu nj0 hj0 (jQ knd ks);have on_iff:NJ t L es knd ks (t.probeStart (jQ knd ks))↔ks∈L.map (·.1):=by
  constructor
  ·rintro⟨i,j,q,hq,rfl,_⟩;exact zW.mpr ⟨q,hq,rfl⟩
  · intro hm;obtain⟨q,hq,rfl⟩:=zW.mp hm;have:elT knd q∈es.toList:=T.pm.mem_iff.mpr (zW.mpr ⟨q,hq,rfl⟩);obtain⟨i,hi⟩:=Yy.mp this;have ky:i<es.size:=by
     have:=(yS.mp hi).1;rw[zI]at this;exact this
    have ep:t.place.toList[i]? =some (t.place[i]'(by rw[T.tb.sz];exact ky)):=by rw[zL,ji]
    refine⟨i,_,q,hq,rfl,by rw[<-zL];exact hi,(Z6 T.tb.up T.tb.dm).mpr (by rw[<-zL];exact ep),?_⟩;exact T.tb.rch (elT knd q,_) (jB (by rw[JJ];exact⟨hi,ep⟩))
 refine za ?_;unfold setSearch;refine vW hu ho hd T hb n 100000 (t.probeStart (jQ knd ks)) none rfl wk (zV hnn (by unfold yd;lia)) hnn rfl (λon=>?_) λno j ej rj=>?_
 · have hk:=on_iff.mp on;dsimp only;refine ze ?_;have e:s= {s with heap:=s.heap}:=by cases s;rfl
   have:=h false s.heap (Heap.SameBut.refl a s.heap) (by rw[if_pos hk];exact ny);rw[e];exact this
 · have hk:ks∉L.map (·.1):=λz=>no (on_iff.mpr z);rw[if_neg hk]at h;dsimp only;refine za (jx ho hd T.fits ?_);dsimp only;have hjm:j<=t.mask:=FT rj (HZ t _);obtain⟨T1,p1,m1,l1,pl1,mv1⟩:=T.tb.put ej hjm rj;have pm1:(jN es (t.put j).2 (jQ knd ks,Value.ref b)).toList.Perm ((L++[(ks,b)]).map (elT knd)):=by
    rw[zY];exact(p1.trans ((T.pm.cons _))).trans (Jr ..).symm
   have sz1:(jN es (t.put j).2 (jQ knd ks,Value.ref b)).size=es.size+1:=by rw[<-zI,p1.length_eq,zr,zI]
   have hk1:∀q∈L++[(ks,b)],jZ knd s.heap q.1 q.2:=λq hq=>(zM.mp hq).elim (T.ks q) λz=>by rw[zm.mp z];exact hb
   have tail:∀t2:SetTable,Tb t2 (jN es (t.put j).2 (jQ knd ks,Value.ref b))->t2.mask=t.mask->t2.led= (!byT w)->t2.plain=false->zq (zC prog w) A (do
    storeSet a (jN es (t.put j).2 (jQ knd ks,Value.ref b)) t2
    if !false&&t2.tooFull then setRelay a (Yk (es.size+1))
    return true) Q E s:=λt2 T2 m2 l2 q2=>by
    have sb:=yB s.heap a (Xk (jN es (t.put j).2 (jQ knd ks,Value.ref b)) t2);refine za (wpAny_storeSet_of ho hd ?_ (fits_of_scanBound (by rw[sz1];exact Xn (show es.size+1<=63 by lia) (by decide))));have tf:t2.tooFull=decide ((es.size+1)*5>=t.mask*3):=by unfold SetTable.tooFull XU;rw[T2.sz,T2.dm,m2,sz1];rfl
    rw[tf];by_cases c:(es.size+1)*5>=t.mask*3
    ·rw[decide_eq_true c];simp only[Js,Bool.true_and,if_true];refine za ?_;have:=Gq (s:={s with heap:=s.heap.update a (Xk (jN es (t.put j).2 (jQ knd ks,Value.ref b)) t2)}) (E:=E) (A:=A) (R:=λ_ s'=>zq (zC prog w) A (pure true) Q E s') (nJ ho hd) nu rfl T2 pm1 (λq hq=>OJ (hk1 q hq) ho hd sb) (by rw[m2,sz1];lia) l2 q2 λh' sb' S'=>ze (h true h' (sb.trans sb') S');rw[sz1]at this;exact this
    ·rw[decide_eq_false c];simp only[Js,Bool.true_and,zy,if_false];refine ze (h true _ sb ⟨_,_,_,t2,nJ ho hd,nu,rfl,⟨T2,pm1,λq hq=>OJ (hk1 q hq) ho hd sb,by rw[m2];exact sm,by rw[m2,sz1];lia⟩,l2,λ_=>q2⟩)
   rw[pl1];rcases hp:t.plain with _|_
   ·simp only[zy,if_false];refine za (ze ?_);simp only[if_true];exact tail _ T1 m1 (l1.trans hl) (pl1.trans hp)
   ·simp only[if_true];refine za (hv ?_);simp only[zy,if_false];exact tail _ T1.plain m1 (l1.trans hl) rfl
end
end DL
namespace DL
open PySem PySem.Spec L2
open PyProof.Rows hiding St
section
variable{K:Type}[DecidableEq K]
def ddP(L:List (List K×Addr))(q:List K×Addr):List (List K×Addr):=if q.1∈L.map (·.1)then L else L++[q]
theorem rH:∀(l L:List (List K×Addr)),(l.foldl ddP L).length<=L.length+l.length
 |[],L=>zg _
 |q::l,L=>by
   have:=rH l (ddP L q);rw[xq,zr];have h:(ddP L q).length<=L.length+1:=by unfold ddP;split<;>simp
   lia
theorem OH:∀(l L:List (List K×Addr)) q,q∈l.foldl ddP L->q∈L\/q∈l
 |[],L,q,h=>.inl h
 |x::l,L,q,h=>by
   rcases OH l (ddP L x) q h with h|h
   · unfold ddP at h;split at h
     ·exact .inl h
     · rcases zM.mp h with h|h
       ·exact .inl h
       ·exact .inr (by rw[zm.mp h];exact zt ..)
   ·exact .inr (zi _ h)
end
section
variable{prog:zS}{w:jg}{A:jn}{R:Result->zv->Prop}{I:Addr}{fp wr:List Addr}{G:Array GenState->Array GenState->Prop}{n:Nat}{P:Nat->zh->Prop}{St:Nat->zv->Prop}{K:Type}[DecidableEq K]{knd:KeyKind prog w K}
theorem EG(x:jZ knd h ks b)(k:∀o,h.get? b=some o->h'.get? b=some o):jZ knd h' ks b:=by obtain⟨o,items,n,ho,r⟩:=x;exact⟨o,items,n,k o ho,r⟩
theorem X6.congr(hS:X6 knd h a L)(e:∀o,h.get? a=some o->h'.get? a=some o)(k:∀q∈L,∀o,h.get? q.2=some o->h'.get? q.2=some o):X6 knd h' a L:=by obtain⟨o,es,ep,t,ho,nu,hd,T,r⟩:=hS;exact⟨o,es,ep,t,e o ho,nu,hd,⟨T.tb,T.pm,λq hq=>EG (T.ks q hq) (k q hq),T.sm,T.fl⟩,r⟩
def AI(knd:KeyKind prog w K)(q:List K×Addr):Prop:=∀ {A:jn} {E:VSP} {s:zv} {R:Bool->zv->Prop},jZ knd s.heap q.1 q.2->R false s->zq (zC prog w) A (Zv 8 (.ref q.2)) R E s
theorem Vf(W:WalksS prog w A.in1 I fp wr G n P St)(S:Addr)(hSf:S∉fp)(xs:List (List K×Addr))(hn:xs.length=n)(hval:∀i v,P i v->∃q,xs[i]? =some q/\v= .ref q.2)(hb:n+1<64)(hu:A.units+8<yU)(hw:∀q∈xs,q.2∉S::wr)(hv:∀q∈xs,AI knd q):
 ∀k i (s:zv),n-i=k->i<=n->St i s->(∀q∈xs,jZ knd s.heap q.1 q.2)->X6 knd s.heap S ((xs.take i).foldl ddP [])->
  (∀s',Moved (S::wr) G s s'->X6 knd s'.heap S (xs.foldl ddP [])->R (.ok (.ret .none)) s')->
  ZQ (zC prog w) A (.builtin "set.update.loop" ⟨[.ref S,.ref I], []⟩) R s:=by
 have hSw:S∉wr:=λh=>hSf (W.sub _ h);have hsub:∀b∈wr,b∈S::wr:=λb hb=>zi _ hb;have sub:∀i,∀q∈(xs.take i).foldl ddP [],q∈xs:=λi q hq=>List.mem_of_mem_take ((OH _ _ q hq).resolve_left λh=>nomatch h);have nw:∀q∈xs,q.2∉wr:=λq hq z=>hw q hq (zi _ z);intro k
 induction k with
 |zero=>
   intro i s hk hi hst ht hS hR;have hin:i=n:=by omega
   subst hin;refine yA F.entry_set_update_loop ?_;rw[jX Yu _];show zq _ A.in1 (xv (.ref I) >>= _) _ _ s;refine za (W.done s _ _ hst λs' hm=>?_);show zq _ A.in1 (ret Value.none) _ _ s';have sb:=sub i;rw[yK (by omega)]at hS sb;exact ze (hR s' (hm.mono hsub) (hS.congr (λo e=>hm.heap S _ hSw e) λq hq o e=>hm.heap _ _ (nw q (sb q hq)) e))
 |succ k ih=>
   intro i s hk hi hst ht hS hR;have ky:i<n:=by omega
   refine yA F.entry_set_update_loop ?_;rw[jX Yu _];show zq _ A.in1 (xv (.ref I) >>= _) _ _ s;refine za (W.item i s _ _ ky hst λv s' hP hst' hm=>?_);obtain⟨q,ex,rfl⟩:=hval i v hP;have hq:q∈xs:=jB ex;have ny:=hS.congr (λo e=>hm.heap S _ hSw e) λq hq o e=>hm.heap _ _ (nw q (sub i q hq)) e;have ht':∀q∈xs,jZ knd s'.heap q.1 q.2:=λq hq=>EG (ht q hq) λo e=>hm.heap _ _ (nw q hq) e;show zq _ A.in1 (Yj [Value.ref q.2] (setAdd S (.ref q.2)) >>= _) _ _ s';refine za (jy ?_);unfold setAdd;refine jy ?_;have hu1:A.in1.units<yU:=by rw[Around.in1_units];omega
   refine za (wpAny_pyHash_tuple hu1 (ht' q hq) ?_);have hl:=rH (xs.take i) [];rw[jU]at hl;refine Qk hu1 ny (ht' q hq) (by simp at hl;omega) (λhr=>hv q hq (ht' q hq) hr) λb h' hsb hS2=>?_;have e2:(xs.take (i+1)).foldl ddP []=ddP ((xs.take i).foldl ddP []) q:=by rw[List.take_succ,ex,List.foldl_append];rfl
   refine ze ⟨xh Yu _,ih (i+1) _ (by omega) ky (W.frame _ s' _ _ hst' (by simp) λb hb o e=>?_) (λq hq=>EG (ht' q hq) λo e=>?_) (by rw[e2];exact hS2) λs'' hm'' hS''=>?_⟩
   ·rw[hsb.2 b (λh:b=S=>hSf (by rw[<-h];exact hb))];exact e
   ·rw[hsb.2 _ (λh=>hw q hq (by rw[h];exact zt ..))];exact e
   ·refine hR s'' (Moved.trans W.gtrans ((hm.mono hsub).then_heap (by simp) λb o hb e=>?_) hm'') hS'';rw[hsb.2 b (λh:b=S=>hb (by rw[h];exact zt))];exact e
end
theorem Bw:Tb (XE f m led) #[]:=⟨rfl,λi k a b ha=>by simp[XE]at ha,rfl,λj hj=>by simp[XE]at hj,Lw,λq hq=>by simp at hq⟩
theorem fj{K:Type}[DecidableEq K]{knd:KeyKind prog w K}{a:Addr}(e:h.get? a=some {cls:=.type "set",dict:=none,data:=.set #[] 0 (.fresh 0 0 (!byT w))}):X6 knd h a []:=
 ⟨_, #[],0,_,e,⟨rfl,rfl,rfl⟩,rfl,⟨Bw,.nil,λ_ h=>(nomatch h),.inl rfl,by show 0*5<7*3;decide⟩,rfl,λh=>by simp at h⟩
section
variable{prog:zS}{w:jg}{A:jn}{E:VSP}{s:zv}{K:Type}[DecidableEq K]{knd:KeyKind prog w K}{items:Array zh}{xs:List (List K×Addr)}{Q:VSP}
set_option maxHeartbeats 3200000 in
theorem vb
 (hh:A.handled=none) (hl:s.heap.IsList l items) (hi:items.toList=xs.map λq=>Value.ref q.2) (ht:∀q∈xs,jZ knd s.heap q.1 q.2) (hv:∀q∈xs,AI knd q) (hu:A.units+64<yU) (hb:items.size+1<64)
 (h:∀h' tk,X6 knd h' s.heap.objs.size (xs.foldl ddP [])->(∀b o,s.heap.get? b=some o->h'.get? b=some o)->Q (.ref s.heap.objs.size) {s with heap:=h',toks:=tk}):
 zq (zC prog w) A (call (.type "set") [.ref l]) Q E s:=by
 obtain⟨c,tl,hmro⟩:=xQ.mro;have hmade:=xQ.made;have hsub:=xQ.sub;refine wpAny_call (codeAny_of_tree ?_);show zq _ _ (callAny (.type "set") _) _ _ _;refine ze ⟨Code.quiet_builtin _ (by decide +kernel),yA F.entry_type_call ?_⟩;rw[Around.under_plain (weight_type_call_type "set" [.ref l] []) rfl];have h1:=xQ.notType;have h2:=xQ.canCreate;have hct:=F.typeCall_set_1 (.ref l)
 repeat (any_goals (first|assumption|wp_step))
 refine ZP (bq (.ref l) (E:=E) (Q₁:=λobj W1=>obj= .ref s.heap.objs.size/\W1= {s with heap:=s.heap.push {cls:=.type "set",dict:=none,data:=.set #[] 0 (.fresh 0 0 (!byT w))}}) ⟨rfl,rfl⟩) λr W1 hr=>?_;rcases r with e|fl
 ·exact hr
 rcases fl with _|ob|_|_<;>try exact hr.elim
 obtain⟨rfl,rfl⟩:=hr;generalize hbt:(!byT w)=led at h ⊢;have hS:(s.heap.push {cls:=.type "set",dict:=none,data:=.set #[] 0 (.fresh 0 0 led)}).get? s.heap.objs.size=some {cls:=.type "set",dict:=none,data:=.set #[] 0 (.fresh 0 0 led)}:=zp _ rfl;have hT:Shared.TypeIs {s with heap:=s.heap.push {cls:=.type "set",dict:=none,data:=.set #[] 0 (.fresh 0 0 led)}} (.ref s.heap.objs.size) "set":=⟨_,hS,rfl⟩;have hli:=xQ.init.lookup;have hbi:=xQ.init.bind (.ref s.heap.objs.size)
 repeat (any_goals (first|assumption|wp_step))
 refine ZP (codeAny_call_builtin (R:=wants (λr s₂=>r= .none/\∃h' tk,s₂= {s with heap:=h',toks:=tk}/\X6 knd h' s.heap.objs.size (xs.foldl ddP [])/\(∀b o,s.heap.get? b=some o->h'.get? b=some o)) E) xQ.init.plain F.entry_set_init (check_set_init_1 hT ?_)) λr₂ s₂ hr₂=>?_
 · obtain⟨ol,hol,hcl,nl,hdl⟩:=hl;obtain⟨ocls,odict,odata,oslots⟩:=ol;simp only at hcl hdl;subst hcl;subst hdl;have hol':(s.heap.push {cls:=.type "set",dict:=none,data:=.set #[] 0 (.fresh 0 0 led)}).get? l=some {cls:=.type "list",dict:=odict,data:=.seq items nl,slots:=oslots}:=zc _ hol;have hsls:=F.sub_list_set;have hslf:=F.sub_list_frozenset;have md:(Value.type "list" == Value.type "dict")=false:=by decide
   have nh:(s.heap.push {cls:=.type "set",dict:=none,data:=.set #[] 0 (.fresh 0 0 led)}).IsList l items:=⟨_,hol',rfl,nl,rfl⟩;unfold yt.«set.__init__» noKeywords Builtin.Frozenset.updateFrom;generalize hPI:XO=PI
   wp_walk
   subst hPI;refine Zf nh ?_;refine za (wpAny_runValue ?_);have hlS:l<s.heap.objs.size:=zw hol;have hh3:A.in1.in1.in1.handled=none:=by simp[hh]
   have hneI:l≠(s.heap.push {cls:=.type "set",dict:=none,data:=.set #[] 0 (.fresh 0 0 led)}).objs.size:=by rw[jS];exact zG (jR hlS)
   have hSf:s.heap.objs.size∉ [(s.heap.push {cls:=.type "set",dict:=none,data:=.set #[] 0 (.fresh 0 0 led)}).objs.size,l]:=by rw[jS];simp only[zu,zm,ja,or_false,not_or];exact⟨zG (xL _),xK hlS⟩
   have kl:xs.length=items.size:=by rw[<-zI,hi,zf]
   have ky:∀q∈xs,q.2<s.heap.objs.size:=λq hq=>by obtain⟨o,_,_,ho,_⟩:=ht q hq;exact zw ho
   refine Vf ((Walks.list hh3 _ l hneI items).toS) s.heap.objs.size hSf xs kl (λi v hv=>?hval) hb (by simp only[Around.in1_units];omega) (λq hq=>?hw) hv (items.size-0) 0 _ (by omega) (zD _)
    ⟨⟨_,zp _ rfl,rfl,rfl⟩,(nh.push _)⟩ (λq hq=>EG (ht q hq) λo e=>zc _ (zc _ e)) ?hS0 ?hR
   case hval=>
    have hv:items[i]? =some v:=hv;rw[<-zL,hi,jp]at hv;obtain⟨q,e,rfl⟩:=Yc.mp hv;exact⟨q,e,rfl⟩
   case hw=>
    have:=ky q hq;rw[jS];simp only[zu,zm,ja,or_false,not_or];exact⟨zG this,zG (jR this)⟩
   case hS0=>
    refine fj ?_;rw[hbt];exact zc _ hS
   case hR=>
    intro s' hm ny;obtain⟨h',g',d',tk',os'⟩:=s';have eg:g'=s.gens:=hm.gens;have ed:d'=s.drawn:=hm.drawn;have eo:os'=s.os:=hm.os;subst eg;subst ed;subst eo;show zq _ _ _ _ _ _;refine ze ?_;show zq _ _ (ret Value.none) _ _ _;refine ze ⟨rfl,h',tk',rfl,ny,λb o e=>?_⟩;have hb:=zw e;have hb1:b≠s.heap.objs.size:=zG hb;have hb2:b≠(s.heap.push {cls:=.type "set",dict:=none,data:=.set #[] 0 (.fresh 0 0 led)}).objs.size:=by rw[jS];exact zG (jR hb)
    exact hm.heap b o (by simp only[zu,zm,ja,or_false,not_or];exact⟨hb1,hb2⟩) (zc _ (zc _ e))
 · rcases r₂ with e|fl
   ·exact hr₂
   rcases fl with _|ob|_|_<;>try exact hr₂.elim
   obtain⟨rfl,h',tk,rfl,ny,oj⟩:=hr₂
   repeat (any_goals (first|assumption|wp_step))
   exact h _ _ ny oj
end
theorem QE{l m:List β}(h:l.Perm m):∀ {L},m=L.map f->∃L':List α,l=L'.map f/\L'.Perm L:=by
 induction h with
 |nil=>exact λ{L} e=>⟨L,e,.refl _⟩
 |cons x h ih=>
   intro L e;rcases L with _|⟨q,L⟩
   ·cases e
   ·obtain⟨e1,e2⟩:=zB e;obtain⟨L',e3,p⟩:=ih e2;exact⟨q::L',by rw[zK,e1,e3],p.cons q⟩
 |swap x y l=>
   intro L e;rcases L with _|⟨q,_|⟨r,L⟩⟩
   ·cases e
   ·cases (zB e).2
   ·obtain⟨e1,e2⟩:=zB e;obtain⟨e3,e4⟩:=zB e2;exact⟨r::q::L,by rw[zK,zK,e1,e3,e4],.swap ..⟩
 |trans _ _ ih1 ih2=>
   intro L e;obtain⟨L1,e1,p1⟩:=ih2 e;obtain⟨L2,e2,p2⟩:=ih1 e1;exact⟨L2,e2,p2.trans p1⟩
section
variable{prog:zS}{w:jg}{A:jn}{E:VSP}{s:zv}{a I:Addr}{K:Type}[DecidableEq K]{knd:KeyKind prog w K}{L:List (List K×Addr)}
structure Bf(prog:zS)(w:jg)(A:jn)(s:zv)(a:Addr)(L:List (List K×Addr))(I:Addr)(h':Heap):Prop where
 keep:∀b o,s.heap.get? b=some o->h'.get? b=some o
 new:s.heap.objs.size<=I
 walk:∃(J:Addr) (vs:List zh) (L':List (List K×Addr)) (St:Nat->Heap->Prop),s.heap.objs.size<=J/\vs=L'.map (λq=>Value.ref q.2)/\L'.Perm L/\Walks prog w A I [I,J,a] [I] vs.length (λi v=>vs[i]? =some v) St/\St 0 h'
theorem X6.type(hS:X6 knd s.heap a L):s.TypeIs (.ref a) "set":=by obtain⟨o,es,ep,t,ho,⟨x1,_⟩,_⟩:=hS;exact⟨o,ho,x1⟩
theorem qT{Q:VSP}(hh:A.handled=none)(hS:X6 knd s.heap a L)(h:∀I h' d',Bf prog w A s a L I h'->Q (.ref I) {s with heap:=h',drawn:=d'}):zq (zC prog w) A (XO (.ref a)) Q E s:=by
 obtain⟨o,es,ep,t,ho,⟨x1,x2,x3⟩,hd,T,hl,nz⟩:=hS;have hf:=T.fits;have hpm:=T.pm;have hb:es.size<100:=by have:=T.fl;have:=T.sm;lia
 obtain⟨oc,od,odt,os⟩:=o;obtain rfl:oc= .type "set":=x1;obtain rfl:od=none:=x2;obtain rfl:os= #[]:=x3;obtain rfl:odt= .set es ep t:=hd;have ky:=zw ho;have md:a≠s.heap.objs.size:=zG ky;have hne2:a≠s.heap.objs.size+1:=zG (jR ky);have hne3:(s.heap.objs.size:Addr)≠s.heap.objs.size+1:=zG (xL _);have hz:es.size<=zk:=zQ (xm hb) (by decide);refine Sb ho hf (λz ps d' hp=>?_) (λz=>?_) hz
 ·refine h _ _ d' ⟨λb o e=>zc _ (zc _ e),YN _,?_⟩;obtain⟨l,nh,nj⟩:=BX hp;obtain⟨L',e1,e2⟩:=QE (nh.trans hpm) rfl;refine⟨s.heap.objs.size,l.map (·.2),L',_,zg _,by rw[e1,jv];rfl,e2,wkD (ep:=ep) hh hf hne2 _ hne3 nj,?_⟩;have e1:(s.heap.push {cls:=.type "tuple",data:=.seq (ps.map fun(i:Nat)=>xk i).toArray}).objs.size=s.heap.objs.size+1:=jS ..;refine⟨?_,zc _ (zc _ ho),0,zc _ (zp _ rfl)⟩;rw[<-e1];exact zp _ rfl
 · refine h _ _ s.drawn ⟨λb o e=>zc _ e,zg _,?_⟩;rcases hbt:byT w with _|_
   · have led:t.led=true:=by rw[hl,hbt];rfl
     have h1:¬(!t.plain&&decide (es.size>1))=true:=λq=>z (by rw[hbt,q];rfl);have hs:es.size<=1:=by
      rcases Zx 1 es.size with q|q
      ·exact absurd (by rw[nz (by omega),decide_eq_true q];rfl) h1
      ·exact q
     obtain⟨l⟩:=es;rcases l with _|⟨e,_|⟨_,_⟩⟩
     ·obtain⟨L',e1,e2⟩:=QE hpm rfl;exact⟨s.heap.objs.size+1, [],L',_,by omega,by rw[List.map_eq_nil_iff.mp e1.symm];rfl,e2,AT hh hbt led rfl hf md _,zp _ rfl,zc _ ho⟩
     · have hp1:t.place.size=1:=by
        have:=hf;unfold XT at this;rw[jI]at this;simpa using this.1
       obtain⟨p,ep1⟩:∃p,t.place= #[p]:=by
        rcases hq:t.place with⟨pl⟩;rcases pl with _|⟨p,_|⟨_,_⟩⟩
        ·rw[hq]at hp1;simp at hp1
        ·exact⟨p,rfl⟩
        ·rw[hq]at hp1;simp at hp1
       obtain⟨L',e1,e2⟩:=QE hpm rfl;exact⟨s.heap.objs.size+1, [e.2],L',_,by omega,by have:=congrArg (ZE (·.2)) e1;rw[jv]at this;exact this,e2,HW hh hbt led rfl ep1 hf md _,zp _ rfl,zc _ ho⟩
     ·simp at hs
   ·obtain⟨L',e1,e2⟩:=QE ((AX (w.params.setOrder a ep) es).trans hpm) rfl;refine⟨s.heap.objs.size+1,_,L',_,by omega,by rw[e1,jv];rfl,e2,wkT hh hbt hf md _ hne3.symm,zp _ rfl,zc _ ho⟩
theorem Qq(hh:A.handled=none)(hS0:X6 knd s.heap a L)(S:Addr)(hSr:S≠a)(res:zh)(c₀:Nat)(hS:s.heap.get? S=some {cls:=.type "list",data:=.seq #[] c₀})(hn:L.length<=zk)
 (hR:∀h' d' tk ko c' (nn:List (List K×Addr)),(∀b o,b≠S->s.heap.get? b=some o->h'.get? b=some o)->h'.get? S=some {cls:=.type "list",dict:=none,data:=.seq ko c',slots:= #[]}->ko.toList=nn.map (λq=>Value.ref q.2)->nn.Perm L->R (.ok (.ret res)) {s with heap:=h',drawn:=d',toks:=tk}):
 zq (zC prog w) A.in1 (Zb (.ref S) (.ref a) res)
  (λfin s'=>match fin with| .done f=>R (.ok f) s'| .again c'=>c'.quiet=true/\ZQ (zC prog w) A c' R s') (λe s'=>R (.error e) s') s:=by
 unfold Zb;refine za (xS hS0.type ?_);have h1:Xr (.ref S) (.ref a)=false:=by simp[Xr,hSr]
 have h2:(Value.type "set" == Value.type "list")=false:=by decide
 have h3:(Value.type "set" == Value.type "tuple")=false:=by decide
 simp only[h1,h2,h3,jw,zy,if_false];refine za (qT hh hS0 λI h0 d0 ⟨keep,new,J,vs,nn,St,hJ,hv,hp,W,st⟩=>?_);have hSlt:=zw hS;have halt:a<s.heap.objs.size:=by obtain⟨o,_,_,_,ho,_⟩:=hS0;exact zw ho
 have hSf:S∉ [I,J,a]:=by simp only[zu,ja,or_false,not_or];exact⟨zG (zV hSlt new),zG (zV hSlt hJ),hSr⟩
 have hvl:vs.length<=zk:=by rw[hv,zf,hp.length_eq];exact hn
 have key:∀(h:Heap) (c₁ tk:Nat),St 0 h->(∀b o,b≠S->s.heap.get? b=some o->h.get? b=some o)->
  h.get? S=some {cls:=.type "list",data:=.seq #[] c₁}->ZQ (zC prog w) A (.builtin "list.extend.loop" ⟨[.ref S,.ref I,res], []⟩) R {s with heap:=h,drawn:=d0,toks:=tk}:=by
  intro h c₁ tk hst hk hS₁;refine codeAny_extend_loopS W.toS hvl S hSf res vs.length 0 _ #[] c₁ rfl (zD _) hst hS₁ (ItemsOf.nil _) λs' ko c' hm ny nq=>?_;rw[Moved.eq_with hm];refine hR s'.heap d0 s'.toks ko c' nn (λb o hb e=>hm.heap b o (λhmem=>?_) (hk b o hb e)) ny ?_ hp
  · rcases zu.mp hmem with e'|hmem
    ·exact hb e'
    ·have:=zw e;rw[zm.mp hmem]at this;exact absurd new (Nat.not_le.mpr this)
  · have:ko.toList=vs:=by
     apply List.ext_getElem?;intro i;rcases Zx i ko.size with q|q
     ·have:=nq.2 i ko[i] (by simp[q]);rw[this,zL];simp[q]
     ·rw[jf (by simpa using q),jf (by rw[<-nq.1];exact q)]
    rw[this];exact hv
 have hS₁:=keep _ _ hS;refine za (jy (Nq (X6.type (hS0.congr (λo e=>keep _ _ e) λq _ o e=>keep _ _ e)) ?_));refine ya (λ_=>?_) (λ_=>ze ⟨xh XX _,key _ c₀ _ st (λb o _ e=>keep _ _ e) hS₁⟩);refine za (Zr ?_);refine za ?_;show zq _ _ (updateSeq S (·.push .none) >>= λ_=>updateSeq S (·.pop)) _ _ _;refine za (wpAny_updateSeq hS₁ rfl ?_);have hS₂:=xt (zT (·.push Value.none)) hS₁ rfl;refine wpAny_updateSeq hS₂ rfl ?_;have hS₃:=xt (zT (·.pop)) hS₂ rfl;refine ze ⟨xh XX _,key _ _ _ ?_ (λb o hb e=>?_) hS₃⟩
 ·refine W.frame 0 _ _ st λb hb o e=>?_;have hbS:b≠S:=λh=>hSf (h▸hb);exact(yJ _ _ (Ne.symm hbS)).trans ((yJ _ _ (Ne.symm hbS)).trans e)
 ·exact(yJ _ _ (Ne.symm hb)).trans ((yJ _ _ (Ne.symm hb)).trans (keep _ _ e))
theorem HX(hh:A.handled=none)(hS0:X6 knd s.heap a L)(hn:L.length<=zk)
 (h:∀h' d' tk vs (nn:List (List K×Addr)),(∀b o,s.heap.get? b=some o->h'.get? b=some o)->vs=nn.map (λq=>Value.ref q.2)->nn.Perm L->R vs {s with heap:=h',drawn:=d',toks:=tk}):
 zq (zC prog w) A (collect (.ref a)) R E s:=by
 have halt:a<s.heap.objs.size:=by obtain⟨o,_,_,_,ho,_⟩:=hS0;exact zw ho
 unfold collect;refine za (wpAny_runValue (yA entry_proto_collect' ?_));rw[jX PySem.F.plain_proto_collect _];show zq _ A.in1 (newList [] >>= λl=>again (.builtin "list.__iadd__" ⟨[l,.ref a], []⟩)) _ _ s;refine za (yI ?_);refine ze ⟨xh Jo _,yA entry_list_iadd' ?_⟩;rw[jX Jo _];have hS₁:(s.heap.push {cls:=.type "list",data:=.seq ([]:List zh).toArray}).get? s.heap.objs.size=some {cls:=.type "list",data:=.seq #[]}:=zp _ rfl;show zq _ A.in1 (Zb (.ref s.heap.objs.size) (.ref a) (.ref s.heap.objs.size)) _ _ _;have key:=Qq (s:={s with heap:=s.heap.push {cls:=.type "list",data:=.seq ([]:List zh).toArray}})
  (R:=fun(q:Result) (s':zv)=>∃(h':Heap) (d':_) (tk:Nat) (ko:Array zh) (c':Nat) (nn:List (List K×Addr)),q= .ok (.ret (.ref s.heap.objs.size))/\s'= {s with heap:=h',drawn:=d',toks:=tk}/\
    (∀b o,s.heap.get? b=some o->h'.get? b=some o)/\h'.get? s.heap.objs.size=some {cls:=.type "list",dict:=none,data:=.seq ko c',slots:= #[]}/\ko.toList=nn.map (λq=>Value.ref q.2)/\nn.Perm L)
  hh (hS0.congr (λo e=>zc _ e) λq _ o e=>zc _ e) s.heap.objs.size (xK halt) (.ref s.heap.objs.size) 0 hS₁ hn
  (λh' d' tk ko c' nn hk ny hv hp=>⟨h',d',tk,ko,c',nn,rfl,rfl,λb o e=>hk b o (zG (zw e)) (zc _ e),ny,hv,hp⟩)
 refine jF key (λfin s' x=>?_) λe s' x=>?_
 · cases fin with
   |done f=>
     obtain⟨h',d',tk,ko,c',nn,e,rfl,hk,ny,hv,hp⟩:=x
     cases e
     show zq _ A (load s.heap.objs.size >>= _) _ _ _;refine za (wpAny_load ny ?_);exact ze (h h' d' tk ko.toList nn hk hv hp)
   |again c₁=>
     refine⟨x.1,ZP x.2 λq s₂ y=>?_⟩;obtain⟨h',d',tk,ko,c',nn,rfl,rfl,hk,ny,hv,hp⟩:=y;show zq _ A (load s.heap.objs.size >>= _) _ _ _;refine za (wpAny_load ny ?_);exact ze (h h' d' tk ko.toList nn hk hv hp)
 · obtain⟨_,_,_,_,_,_,e',_⟩:=x
   cases e'
end
section
variable{prog:zS}{w:jg}{A:jn}{E:VSP}{s:zv}
theorem Rh{n:Nat}{vs:List zh}{qs:List (Int×Str)}(hl:qs.length=vs.length)(mz:vs.length<64)(ho:s.heap.get? a=some (zR "list" vs.toArray n))(hp:∀(i:Nat) q,qs[i]? =some q->∃u,vs[i]? =some u/\d6 s.heap u q)(nd:qs.Nodup)
 (h:∀(h':Heap) e (p:List Nat),p.Perm (zF vs.length)->p.Pairwise (λi j=>V9 (qs.getD i (0, "")) (qs.getD j (0, ""))=true)->(∀b o,b≠a->s.heap.get? b=some o->h'.get? b=some o)->h'.get? a=some (zR "list" (zJ (p.map λi=>vs.getD i .none)) e)->P (.done (.ret .none)) {s with heap:=h'}):
 zq (zC prog w) A (yt.«list.sort» ⟨[.ref a], []⟩) P E s:=by
 have ha:a<s.heap.objs.size:=zw ho;obtain⟨e1,ho1⟩:∃e1,(s.heap.update a (zT λ_=>(#[]:Array zh))).get? a=some (zR "list" #[] e1):=⟨_,yZ ho λ_=> #[]⟩;have k1:∀b o,b≠a->s.heap.get? b=some o->(s.heap.update a (zT λ_=>(#[]:Array zh))).get? b=some o:=λb o hb e=>by rw[jM _ _ _ _ hb];exact e
 rw[list_sort_plain];refine za (ZV ho rfl (za (yw ho rfl ?_ (by rw[zl,ju];lia) (zD _))));refine za (xR ho1 rfl (za (Zg ?_ (by show vs.length<=_;rw[ju];lia))));refine za (xC ?_ (zD _));refine jy ?_;have mo:(((s.heap.update a (zT λ_=>(#[]:Array zh))).push (zR "tuple" vs.toArray 0)).push (zR "list" #[] 0)).get? a=some (zR "list" #[] e1):=zc _ (zc _ ho1);have k2:∀b o,b≠a->s.heap.get? b=some o->(((s.heap.update a (zT λ_=>(#[]:Array zh))).push (zR "tuple" vs.toArray 0)).push (zR "list" #[] 0)).get? b=some o:=λb o hb e=>zc _ (zc _ (k1 b o hb e));show zq (zC prog w) A _ P E {s with heap:=((s.heap.update a (zT λ_=>(#[]:Array zh))).push (zR "tuple" vs.toArray 0)).push (zR "list" #[] 0)};generalize ((s.heap.update a (zT λ_=>(#[]:Array zh))).push (zR "tuple" vs.toArray 0)).push (zR "list" #[] 0)=hh at mo k2;dsimp only;have hp':∀(i:Nat) q,qs[i]? =some q->∃u,vs[i]? =some u/\d6 hh u q:=λi x e=>by
  obtain⟨u,e1,b,t,t',rfl,o,hb,hc,n',hd⟩:=hp i x e;refine⟨_,e1,b,t,t',rfl,o,k2 b _ (λz=>?_) hb,hc,n',hd⟩;rw[z,ho]at hb
  cases hb
  simp[zR]at hc
 have fin:∀p:List Nat,p.Perm (zF vs.length)->p.Pairwise (λi j=>V9 (qs.getD i (0, "")) (qs.getD j (0, ""))=true)->P (.done (.ret .none)) {s with heap:=hh.update a (zT λ_=>zJ (p.map λi=>vs.getD i .none))}:=λp pm pw=>by obtain⟨e,he⟩:∃e,(hh.update a (zT λ_=>zJ (p.map λi=>vs.getD i .none))).get? a=some (zR "list" (zJ (p.map λi=>vs.getD i .none)) e):=⟨_,yZ mo λ_=>_⟩;exact h _ e p pm pw (λb o hb q=>by rw[jM _ _ _ _ hb];exact k2 b o hb q) he
 have tail:∀p:List Nat,p.Perm (zF vs.length)->(zJ (p.map λi=>vs.getD i Value.none)).size<=zk+1:=λp pm=>by rw[zl,zf,pm.length_eq,jV,ju];lia
 by_cases h2:vs.toArray.size<2
 · rw[if_pos h2,if_pos h2];refine za (ze ?_);rw[Ye];refine za (ze ?_);dsimp only;have hn:vs.length<2:=by simpa using h2
   have hv:(Yl (XY general' (vs.toArray.zip vs.toArray) #[] 7 none)).map (·.2)=zJ ((zF vs.length).map λi=>vs.getD i Value.none):=by
    show (vs.toArray.zip vs.toArray).map (·.2)=_;apply xc.mp;rw[ZZ];apply yn
    ·simp
    ·intro i hi hj;simp at hi hj ⊢;simp[hj]
   rw[hv];refine za (xR mo rfl (za (yw mo rfl ?_ (zD _) (tail _ (.refl _)))));simp only[bne_self_eq_false,zy,if_false];refine ze (fin _ (.refl _) ?_)
   match hn:vs.length,hn with
   |0,_=>simp
   |1,_=>simp[Yv]
 · rw[if_neg h2,if_neg h2];have hn2:2<=vs.length:=by simpa using h2
   let lt:Nat->Nat->Bool:=λi j=>V9 (qs.getD i (0, "")) (qs.getD j (0, ""))
   have gq:∀i,i<vs.length->qs[i]? =some (qs.getD i (0, "")):=λi hi=>by rw[zn,zo (by lia)];rfl
   have O:D6 lt vs.length:=⟨λi j k h1 h2=>kA h1 h2,λi j hi hj hij h=>eC (λee=>hij (by
    have e1:=gq i hi;have e2:=gq j hj;rw[ee]at e1;have li:i<qs.length:=by lia
    exact(List.getElem?_inj li nd).mp (e1.trans e2.symm))) h⟩
   obtain⟨kd,hkd,ky⟩:=SQ (s:={s with heap:=hh}) hl hn2 (.inl hp');refine za (hkd _ _ ?_);have run:=tOk.wp (λi j C hi hj hC=>ky i j _ _ C (gq i hi) (gq j hj) hC) _ (AN O hn2);refine za (jF (Yb (Q:=λma s'=>∃p:Array Nat,p.size=vs.length/\Yl ma=p.map (ZT (vs.toArray.zip vs.toArray))/\YE ma=none/\s'= {s with heap:=hh}/\J4 p vs.length/\P4 lt p vs.length) rfl hn2 mz (λp ma s' a1 a2 a3 a4=>⟨p,a1,a2,a3,a4⟩) run) ?_ λ_ _ x=>x);rintro⟨⟨⟩,ma⟩ s' ⟨p,hp,har,hf,rfl,P1,U⟩;dsimp only;rw[ZR rfl har];refine za (xR mo rfl (za (yw mo rfl ?_ (zD _) (tail _ P1.pm))));rw[hf];simp only[bne_self_eq_false,zy,if_false];refine ze (fin _ P1.pm ?_);rw[xN];intro i j hi hj hij;have hi':i<p.size:=by simpa using hi
   have hj':j<p.size:=by simpa using hj
   have:=U i j hij (by lia);simpa [Zz,hi',hj',lt]using this
end
abbrev PK:=List Key×Addr
def isP(q:PK):Prop:=∃n z,q.1= [.inl n,.inr z]
def K2:PK->Int×Str
 |([.inl n,.inr z],_)=>(n,z)
 |_=>(0, "")
section
variable{prog:zS}{w:jg}{A:jn}{E:VSP}{s:zv}
theorem bM(hq:isP q)(x:jZ (u5 prog w) h q.1 q.2):d6 h (.ref q.2) (K2 q):=by
 obtain⟨n,z,e⟩:=hq;obtain⟨o,items,m,ho,hc,hd,hi⟩:=x;obtain⟨ks,b⟩:=q;obtain rfl:ks= [.inl n,.inr z]:=e
 cases hi':items.toList with
 |nil=>rw[hi']at hi;cases hi
 |cons v1 r1=>
   rw[hi']at hi
   cases hi with
   |cons h1 hr=>
     cases hr with
     |cons h2 hr2=>
       cases hr2
       have h1:h9 (.inl n) _=true:=h1;have h2:h9 (.inr z) _=true:=h2;rcases J0 h1 with⟨i,t,e1,rfl⟩|⟨x,t,e1,rfl⟩
       · cases e1
         rcases J0 h2 with⟨i,t',e2,rfl⟩|⟨x,t',e2,rfl⟩
         ·cases e2
         · cases e2
           exact⟨b,t,t',rfl,o,ho,hc,m,by rw[hd];congr 1;exact xc.mp hi'⟩
       ·cases e1
theorem IU(hq:isP q):AI (u5 prog w) q:=λ{A E s R} x hr=>by
 have hT:=x.typeIs;obtain⟨b,t,t',e,o,ho,hc,m,hd⟩:=bM hq x
 cases e
 unfold Zv;refine za (wpAny_specialOf hT F.slot_tuple_hash.lookup ?_);dsimp only;refine za (yx ho hd ?_);refine za ?_;show zq _ _ (forIn #[Value.int _ t,Value.str _ t'] _ _) _ _ s;rw[<-xj];simp only[Zp,YH];have h1:∀i t,Zv 7 (.int i t)=pure true:=λi t=>by unfold Zv;rfl
 have h2:∀i t,Zv 7 (.str i t)=pure false:=λi t=>by unfold Zv;rfl
 simp only[h1,h2,pure_bind,Xc,zy,if_false,Js,if_true];exact ze (ze hr)
theorem iP(hq:isP q)(hr:isP r)(e:K2 q=K2 r):q.1=r.1:=by
 obtain⟨ks,b⟩:=q;obtain⟨ls,c⟩:=r;obtain⟨n,z,rfl⟩:=hq;obtain⟨m,y,rfl⟩:=hr
 cases e
 rfl
theorem Hm(hh:A.handled=none)(hS0:X6 (u5 prog w) s.heap a L)(hn:L.length<64)(hk:∀q∈L,isP q)(nd:(L.map (·.1)).Nodup)
 (h:∀(h1 h':Heap) d' (tk e:Nat) (L':List PK),(∀b o,s.heap.get? b=some o->h1.get? b=some o)->(∀b o,h1.get? b=some o->h'.get? b=some o)->h'.get? h1.objs.size=some (zR "list" (L'.map λq=>Value.ref q.2).toArray e)->L'.Perm L->(L'.map K2).Pairwise (λx y=>V9 x y=true)->Q (.ref h1.objs.size) {s with heap:=h',drawn:=d',toks:=tk}):
 zq (zC prog w) A (call (.builtin "sorted") [.ref a]) Q E s:=by
 have hz:L.length<=zk:=zQ (xm hn) (by decide);have hks:∀q∈L,jZ (u5 prog w) s.heap q.1 q.2:=by obtain⟨o,es,ep,t,ho,nu,hd,T,r⟩:=hS0;exact T.ks
 refine Jp JR Ji Jj (args_sorted1 _) ?_;unfold yt.«sorted»;refine za (ze ?_);refine za (HX hh hS0 hz λh1 d' tk vs L1 hkeep hv hp1=>?_);subst hv;have hl:(L1.map λq=>Value.ref q.2).length=L.length:=by rw[zf,hp1.length_eq]
 refine za (xC ?_ (by rw[hl];exact hz));have hoL:(h1.push (zR "list" (L1.map λq=>Value.ref q.2).toArray 0)).get? h1.objs.size=some (zR "list" (L1.map λq=>Value.ref q.2).toArray 0):=zp _ rfl;have nd1:(L1.map K2).Nodup:=by have n1:(L1.map (·.1)).Nodup:=(hp1.map (·.1)).nodup_iff.mpr nd;rw[List.Nodup,jC]at n1 ⊢;exact n1.imp_of_mem λ{x y} hx hy md e=>md (iP (hk x (hp1.mem_iff.mp hx)) (hk y (hp1.mem_iff.mp hy)) e)
 refine za (jy (jK Xm ⟨_,hoL,rfl⟩ YO (Rh (by rw[zf,zf]) (by rw[hl];exact hn) hoL (λi q e=>?_) nd1 λh' e p pm pw k1 k2=>⟨_,rfl,?_⟩) (args_list_sort _)))
 ·rw[jp]at e;obtain⟨x,ex,rfl⟩:=Yc.mp e;have hx:=hp1.mem_iff.mp (jB ex);refine⟨.ref x.2,by rw[jp,ex];rfl,?_⟩;obtain⟨b,t,t',eb,o,ho,r⟩:=bM (hk x hx) (hks x hx);exact⟨b,t,t',eb,o,zc _ (hkeep _ _ ho),r⟩
 · rw[zf]at pm;have lt:∀i∈p,i<L1.length:=λi hi=>jo.mp (pm.mem_iff.mp hi);have eo:(p.map λi=>(L1.map λq=>Value.ref q.2).getD i .none)= (p.map λi=>L1.getD i ([],0)).map λq=>Value.ref q.2:=by
    rw[jv];refine ye λi hi=>?_;have:=lt i hi;simp[zn,this]
   rw[eo]at k2;refine ze ⟨_,rfl,h h1 h' d' tk e (p.map λi=>L1.getD i ([],0)) hkeep (λb o hb=>k1 b o (zG (zw hb)) (zc _ hb)) k2 ((pQ pm rfl).trans hp1) ?_⟩;rw[jv,jC];refine pw.imp_of_mem λ{i j} hi hj ky=>?_;have li:=lt i hi;have lj:=lt j hj;have ei:(L1.map K2).getD i (0, "")=K2 (L1.getD i ([],0)):=by simp[zn,li]
   have ej:(L1.map K2).getD j (0, "")=K2 (L1.getD j ([],0)):=by simp[zn,lj]
   rw[ei,ej]at ky;exact ky
end
def qD(q:Int×Str):D:=.tup [.int q.1,.str q.2]
def ddQ(us:List (Int×Str))(q:Int×Str):List (Int×Str):=if q∈us then us else us++[q]
theorem uK:∀(l us:List (Int×Str)),us.Nodup->(l.foldl ddQ us).Nodup
 |[],us,h=>h
 | q :: l, us, h => uK l (ddQ us q) (by
   unfold ddQ;split
   ·exact h
   ·rename_i k;exact ZW.mpr ⟨h,yV.mpr ⟨λz=>(nomatch z),ZD⟩,λa ha b hb e=>k (by rw[zm.mp hb]at e;rw[<-e];exact ha)⟩)
theorem MM:∀(l us:List (Int×Str)) q,q∈l.foldl ddQ us↔q∈us\/q∈l
 |[],us,q=>by simp
 |x::l,us,q=>by
   rw[xq,MM l (ddQ us x) q,zu];have:q∈ddQ us x↔q∈us\/q=x:=by
    unfold ddQ;split
    ·rename_i k;exact⟨.inl,λz=>z.elim id λz=>by rw[z];exact k⟩
    ·rw[zM,zm]
   rw[this,or_assoc]
theorem SR:∀(xs L:List PK),(∀q∈xs,isP q)->(∀q∈L,isP q)->(L.map (·.1)).Nodup->((xs.foldl ddP L).map K2)= (xs.map K2).foldl ddQ (L.map K2)/\((xs.foldl ddP L).map (·.1)).Nodup
 |[],L,_,_,nd=>⟨rfl,nd⟩
 |q::xs,L,hx,hL,nd=>by
   have hq:=hx q (zt ..);have mem:q.1∈L.map (·.1)↔K2 q∈L.map K2:=by
    constructor
    ·intro h;obtain⟨r,hr,e⟩:=zW.mp h;refine zW.mpr ⟨r,hr,?_⟩;obtain⟨ks,b⟩:=q;obtain⟨ls,c⟩:=r;have e:ls=ks:=e;rw[e];obtain⟨n,z,e2⟩:=hq;have e2:ks=_:=e2;rw[e2];rfl
    ·intro h;obtain⟨r,hr,e⟩:=zW.mp h;exact zW.mpr ⟨r,hr,iP (hL r hr) hq e⟩
   have e1:(ddP L q).map K2=ddQ (L.map K2) (K2 q):=by
    unfold ddP ddQ;by_cases c:q.1∈L.map (·.1)
    ·rw[if_pos c,if_pos (mem.mp c)]
    ·rw[if_neg c,if_neg λz=>c (mem.mpr z),zY];rfl
   have nd2:((ddP L q).map (·.1)).Nodup:=by
    unfold ddP;split
    ·exact nd
    · rename_i k;rw[zY];exact ZW.mpr ⟨nd,yV.mpr ⟨λz=>(nomatch z),ZD⟩,λa ha b hb e=>k (by have hb:b=q.1:=zm.mp hb;rw[<-hb,<-e];exact ha)⟩
   have hL2:∀r∈ddP L q,isP r:=λr hr=>by
    unfold ddP at hr;split at hr
    ·exact hL r hr
    · rcases zM.mp hr with h|h
      ·exact hL r h
      ·rw[zm.mp h];exact hq
   have:=SR xs (ddP L q) (λr hr=>hx r (zi _ hr)) hL2 nd2;rw[xq,zK,xq,<-e1];exact this
theorem IM{us zs:List (Int×Str)}(nd:us.Nodup)(hp:zs.Perm us)(pw:zs.Pairwise λx y=>V9 x y=true):zs.map qD=t5 us (us.map qD):=by
 have ez:∀l:List (Int×Str),l.zip (l.map qD)=l.map λq=>(q,qD q):=λl=>by have:=JS (f:=id) (g:=qD) (l:=l);rw[List.map_id]at this;exact this
 have:=gK nd (z:=zs.map λq=>(q,qD q)) (by rw[ez];exact hp.map _) (by rw[jC];refine pw.imp λ{x y} h=>?_;show (!V9 y x)=true;rw[yE];refine yW.mpr λh2=>?_;have:=kA h h2;rw[GC]at this;cases this)
 rw[jv]at this;exact this
def eJ:D->M D:=λd=>match d with
 | .ref r=>do
   match <-K4 r with
   | .lst l=>do
     let qs <-C1 (F5 oA l)
     if qs.length<62 then J8 (.lst (t5 (qs.foldl ddQ []) ((qs.foldl ddQ []).map qD)))else M.stuck
   |_=>M.stuck
 |_=>M.stuck
def uG(fa:Fe):Fe:=λσ=>fa σ >>= eJ
theorem HL:∀L:List PK,(∀q∈L,∃v,d7 c μ H (qD (K2 q)) v/\t6 v (.ref q.2))->∃ws,m9 ws (L.map λq=>Value.ref q.2)/\j9 c μ H ((L.map K2).map qD) ws/\ws.length=L.length
 |[],_=>⟨[],.nil,rfl,rfl⟩
 |q::r,h=>by obtain⟨v,h1,h2⟩:=h q (zt ..);obtain⟨ws,a1,a2,a3⟩:=HL r λx hx=>h x (zi _ hx);exact⟨v::ws,.cons h2 a1,⟨v,ws,rfl,h1,a2⟩,by simp[a3]⟩
theorem kY(hu:X.A.units+64<yU)(hc:X.calm=true)(om:BLs X.mg)(hg1:Gl X "sorted")(hg2:Gl X "set")(ha:DE X Z ea fa)(sa:S5 ea=true):DE X Z (.Call (.Name "sorted" p) [.Call (.Name "set" p1) [ea] [] q1] [] pos) (uG fa):=⟨by
 intro pins s σ H Q I h;refine yT (y9 I hg1 (om.h _ (by decide +kernel)) wE ?_ (by decide) (by decide));refine h.elim λX2 μ G sr hr pp=>?_;refine callWith_builtin1 (YX ?_) rfl rfl;refine yT (y9 I hg2 (om.h _ (by decide +kernel)) nW ?_ (by decide) (by decide));refine callWith_type1 ?_ (gB sa) rfl;rw[gB sa];have pa:=c7.bind pp;refine YX (thn (ha.h pins s σ H (λv H1=>∃x X0 G1,m6 (wc X) X0 G1 H1/\d7 (wc X) X0 H1 x v/\c7 (wc X) Z X0 H1 (eJ x G1) λd X9 _ H'=>∀v,d7 (wc X) X9 H' d v->Q v H') I ⟨X2,μ,G,sr,hr,pa.mono λd X0 G1 H1 x1 h1 p1 v rv=>⟨d,X0,G1,h1,rv,p1⟩⟩) λu s1 hE=>hE.elim λv H1 I1 r1 q=>?_);obtain⟨x,X0,G1,hr1,rv1,pp1⟩:=q;obtain⟨i,rfl⟩:∃i,x= .ref i:=match x,pp1 with
  | .ref i,_=>⟨i,rfl⟩
 obtain⟨o,g,p2⟩:=G9 (show c7 (wc X) Z X0 H1 ((K4 i >>= λo=>match o with
  | .lst l => (do
    let qs <-C1 (F5 oA l)
    if qs.length<62 then J8 (.lst (t5 (qs.foldl ddQ []) ((qs.foldl ddQ []).map qD)))else M.stuck:M D)
  |_=>M.stuck) G1) _ from pp1)
 unfold d7 at rv1;obtain⟨a,m,rfl⟩:=rv1;have ro:=hr1.obj i o a g m;rcases o with l|l|l|l<;>try exact p2.elim
 obtain⟨vs,q,rl⟩:=ro;obtain⟨qs,es,p3⟩:=R1 p2;split at p3
 case isFalse=>exact p3.elim
 rename_i mz
 cases r1
 refine Xl ?_;obtain⟨ka,rv,pl,hz⟩:=I1.list (SqL.of q);obtain⟨kl,hall⟩:=vF (P:=λu q=>d6 s1.heap u q/\∃v,d7 (wc X) X0 H1 (qD q) v/\t6 v u) (λd q v u h1 rd ru=>by
  unfold oA at h1;split at h1
  · cases h1
    refine⟨?_,v,rd,ru⟩;unfold d7 at rd;obtain⟨ad,vs,rfl,q,rl⟩:=rd;obtain⟨v1,t1,rfl,e1,v2,t2,rfl,e2,e3⟩:=rl
    cases e3
    rw[U3 e1,U1 e2]at q
    cases ru
    obtain⟨ka,rvs,tp,_⟩:=I1.tuple q
    cases rvs with
    |cons r1 rr1=>
      cases rr1 with
      |cons r2 rr2=>
        cases rr2
        obtain⟨t,rfl⟩:=r1;obtain⟨t',rfl⟩:=r2;exact⟨ad,t,t',rfl,tp⟩
  ·cases h1) es rl rv
 obtain⟨xs,exs,exk,hisP,htk,hrep⟩:∃xs:List PK,ka=xs.map (λq=>Value.ref q.2)/\xs.map K2=qs/\(∀q∈xs,isP q)/\(∀q∈xs,jZ (u5 X.prog X.w) s1.heap q.1 q.2)/\∀q∈xs,∃v,d7 (wc X) X0 H1 (qD (K2 q)) v/\t6 v (.ref q.2):=by
  clear es p3 mz rl rv pl hz
  induction qs generalizing ka with
  |nil=>
    obtain rfl:ka= []:=List.length_eq_zero_iff.mp kl.symm;exact⟨[],rfl,rfl,λ_ h=>(nomatch h),λ_ h=>(nomatch h),λ_ h=>nomatch h⟩
  |cons q qs ih=>
    rcases ka with _|⟨u,ka⟩
    ·cases kl
    · obtain⟨u',eu,⟨b,t,t',rfl,o,ho,hcl,n,hdt⟩,v,h1,h2⟩:=hall 0 q rfl
      cases eu
      obtain⟨xs,e1,e2,e3,e4,e5⟩:=ih ka (by simpa using kl) (λi q hq=>by simpa using hall (i+1) q (by simpa using hq));refine⟨([.inl q.1,.inr q.2],b)::xs,by rw[zK,e1],by rw[zK,e2];rfl,λx hx=>?_,λx hx=>?_,λx hx=>?_⟩
      · rcases zu.mp hx with rfl|hx
        ·exact⟨q.1,q.2,rfl⟩
        ·exact e3 x hx
      · rcases zu.mp hx with rfl|hx
        ·exact⟨o,_,n,ho,hcl,hdt,.cons (MP ..) (.cons (LQ ..) .nil)⟩
        ·exact e4 x hx
      · rcases zu.mp hx with rfl|hx
        ·exact⟨v,h1,h2⟩
        ·exact e5 x hx
 have hlx:xs.length=qs.length:=by rw[<-exk,zf]
 have hc1:X.A.handled=none:=I1.ok.hd hc;refine vb hc1 pl.isList (by simpa using exs) htk (λq hq=>IU (hisP q hq)) hu (by rw[zl,<-kl];omega) λh1 tk1 hT k1=>?_;have I2:Inv X pins σ H1 {s1 with heap:=h1,toks:=tk1}:=I1.kept k1;refine Xl ?_;obtain⟨ek,ndk⟩:=SR xs [] hisP (λ_ h=>nomatch h) ZD;have hdl:=rH xs [];have hsub:∀q∈xs.foldl ddP [],q∈xs:=λq hq=>(OH xs [] q hq).resolve_left λh=>nomatch h;refine Hm (I2.ok.hd hc) hT (by simp at hdl;omega) (λq hq=>hisP q (hsub q hq)) ndk λh2 h' d' tk e L' k2 k3 he hp pw=>?_;have eq1:(L'.map K2).map qD=t5 (qs.foldl ddQ []) ((qs.foldl ddQ []).map qD):=by refine IM (uK _ _ ZD) ?_ pw;have:=hp.map K2;rw[ek,exk]at this;exact this
 have I3:Inv X pins σ H1 {s1 with heap:=h2,drawn:=d',toks:=tk}:=oY (I2.kept k2);obtain⟨ws,rv',rl2,lw⟩:=HL (μ:=X0) L' λq hq=>hrep q (hsub q (hp.mem_iff.mp hq));rw[eq1]at rl2;have hf:=I3.hok.fresh (zg _);have hlw:ws.length<=zk:=by
  have:(64:Nat)<=zk:=by decide
  rw[lw,hp.length_eq];simp at hdl;omega
 exact⟨.ref h2.objs.size,upd H1 h2.objs.size (.lst ws),I3.laid k3 (zg _) ⟨hlw,_,e,rv',he⟩,rfl,T7 hr1 rl2 p3 _ hf⟩⟩
end DL
namespace W
open PySem PySem.Spec L2 DL
open PyProof.Rows hiding St
theorem NV(ea:fa σ G=some (.ok (.ref r),G1))(e:G1[r]? =some (.lst l))(hs:F5 oA l=some qs)(h62:qs.length<62)(q:Q (.ref G1.length) (G1++[.lst (t5 (qs.foldl ddQ []) ((qs.foldl ddQ []).map qD))])):Wp (uG fa σ) G Q:=by refine d9.mpr (b8 ea ?_);unfold eJ;simp only[d9,M6,e,S6,l9,hs,if_pos h62,O5];exact q
end W
namespace DL
open PySem PySem.Spec L2
open PyProof.Rows hiding St
section
end
section
variable{X:Cx}{Z:XC}{c:Wc}{μ:List Addr}{H:Hp}
end
end DL
namespace W
open PySem PySem.Spec L2 DL
open PyProof.Rows hiding St
end W
namespace DL
open PySem PySem.Spec L2
open PyProof.Rows hiding St
section
variable{s:zv}
variable{prog:zS}{w:jg}{A:jn}{E:VSP}
end
section
variable{prog:zS}{w:jg}{A:jn}{E:VSP}{s:zv}
end
section
variable{prog:zS}{w:jg}{A:jn}{E:VSP}{s:zv}
variable{I l:Addr}{items:Array zh}{R:Except zh Flow->zv->Prop}
end
section
end
end DL
namespace W
open PySem PySem.Spec L2 DL
open PyProof.Rows hiding St
end W
namespace DL
open PySem PySem.Spec L2
open PyProof.Rows hiding St
def QM(ks:List Str)(fs:DSt->M (List D)):Fe:=λσ=>do
 let ds <-noX (fs σ)
 if ds.length=ks.length then J8 (.dct ((ks.zip ds).map λp=>(.inr p.1,p.2)))else M.stuck
section
variable{X:Cx}{Z:XC}{c:Wc}{μ:List Addr}{G:DH}{H:Hp}{q:Addr}
theorem ED(hq:H q=some (.dK [])){K:zj}(a:Addr)(xs:List V)(h:SqT K H a xs):SqT K (hide q H) a xs:=by
 rcases h with(h|⟨o,h⟩)|h
 ·exact .inl (.inl (by rw[v8 (λe=>by rw[e,hq]at h;cases h)];exact h))
 ·exact .inl (.inr ⟨o,by rw[v8 (λe=>by rw[e,hq]at h;cases h)];exact h⟩)
 ·exact .inr h
theorem m6.hideD(h:m6 c μ G H)(n:q∉μ)(hq:H q=some (.dK [])):m6 c μ G (DL.hide q H):=
 ⟨h.len,h.inj,λi o a g m=>by
  have na:a≠q:=λe=>n (by rw[<-e];exact jB m);have r:=h.obj i o a g m;rcases o with l|l|l|l
  ·obtain⟨ws,e,r⟩:=r;exact⟨ws,by rw[v8 na];exact e,r.sq (ED hq)⟩
  · obtain⟨ws,e,r⟩:=r;refine⟨ws,?_,r.sq (ED hq)⟩;rcases e with⟨o,e⟩|e
    ·exact .inl ⟨o,by rw[v8 na];exact e⟩
    ·exact .inr e
  ·obtain⟨ws,e,r⟩:=r;exact⟨ws,by rw[v8 na];exact e,r.sq (ED hq)⟩
  ·obtain⟨ws,o,e,r⟩:=r;exact⟨ws,o,by rw[v8 na];exact e,r.sq (ED hq)⟩⟩
def kvS(ks:List Str)(vs:List V):List (Key×V):=(ks.zip vs).map λp=>(.inr p.1,p.2)
structure DP(X:Cx)(Z:XC)(keys:List (Option Expr))(vals:List Expr)(ks:List Str)(fs:DSt->M (List D)):Prop where
 ex:∃trs,(∀pos,PPs X pos keys vals trs)/\∀(X2:DSt) (σ:St) (μ:List Addr) (G:DH) (H:Hp) (K:List (V×V)->Hp->Prop),u9 (wc X) μ H X2 σ->m6 (wc X) μ G H->
  c7 (wc X) Z μ H (fs X2 G) (λds X0 _ H1=>∀vs,j9 (wc X) X0 H1 ds vs->K ((kvS ks vs).map λkv=>(kV kv.1,kv.2)) H1)->fK trs σ H K
theorem Rq:DP X Z [] [] [] o0:=⟨[],λ_=>Nx,λX2 σ μ G H K sr hr p=>c7.ok p hr [] rfl⟩
theorem Ww{k:Str}(he:DE X Z e fe)(hr:DP X Z keys vals ks fs):DP X Z (some (.Constant (.str k) j q1)::keys) (e::vals) (k::ks) (B0 fe fs):=by obtain⟨trs,h1,h2⟩:=hr.ex;refine⟨_,λpos=>oU GO he.h (h1 pos),λX2 σ μ G H K sr hr p=>?_⟩;refine⟨X2,μ,G,sr,hr,(c7.bind p).mono λx X0 G1 H1 x1 r1 p1 v rv=>h2 X2 σ X0 G1 H1 _ (sr.mono x1) r1 ((c7.bind p1).mono λxs WX G2 H2 x2 r2 p2 vs rvs=>?_)⟩;exact c7.ok p2 r2 (v::vs) ⟨v,vs,rfl,rv.mono x2,rvs⟩
theorem Mc{l:List (Key×V)}{k:Key}{v:V}(h:∀p∈l,p.1≠k):Q1 l k v=l++[(k,v)]:=by unfold Q1;rw[if_neg];intro z;rw[Ze]at z;obtain⟨p,hp,e⟩:=z;exact h p hp (by simpa using e)
theorem uO:∀(m l:List (Key×V)),((l++m).map (·.1)).Nodup->EA l m=l++m
 |[],l,_=>by rw[jT];rfl
 |(k,v)::m,l,h=>by
  show EA (Q1 l k v) m=_;have hk:∀p∈l,p.1≠k:=λp hp e=>by rw[zY,ZW]at h;exact h.2.2 p.1 (zW.mpr ⟨p,hp,rfl⟩) k (by simp) e
  rw[Mc hk,uO m (l++[(k,v)]) (by rw[zA];exact h),zA];rfl
theorem IR:∀(ks:List Str) {ds:List D} {vs:List V},j9 c μ H ds vs->S8 c μ H ((ks.zip ds).map λp=>((.inr p.1:Key),p.2)) (kvS ks vs)
 |[],_,_,_=>rfl
 |k::ks, [],vs,r=>by cases r;rfl
 |k::ks,d::ds,vs,r=>by obtain⟨v,t,rfl,r0,rt⟩:=r;exact⟨v,_,rfl,r0,IR ks rt⟩
theorem mP:∀(ks:List Str) (vs:List V),vs.length=ks.length->(kvS ks vs).map (·.1)=ks.map Sum.inr
 |[], [],_=>rfl
 |k::ks,v::vs,h=>by show Sum.inr k::(kvS ks vs).map (·.1)=_;rw[mP ks vs (by simpa using h)];rfl
theorem Ext.hideD(x:Ext μ H X9 H')(n:q∉μ)(hq:H q=some (.dK [])):H' q=some (.dK [])/\q∉X9/\Ext μ (DL.hide q H) X9 (DL.hide q H'):=by
 refine⟨x.oth q _ hq n,λh=>?_,x.pre,λa h1 h2=>?_,λb o e nb=>?_,λb xs e=>?_,λb o u e=>?_⟩
 ·have:=x.new q h n;rw[hq]at this;exact dD this
 · by_cases e:a=q
   ·rw[e,U9]
   ·rw[v8 e];exact x.new a h1 h2
 ·obtain⟨e1,e2⟩:=J9 e;rw[v8 e1];exact x.oth b o e2 nb
 ·obtain⟨e1,e2⟩:=J9 e;rw[v8 e1];exact x.tup b xs e2
 ·obtain⟨e1,e2⟩:=J9 e;rw[v8 e1];exact x.frz b o u e2
inductive UHD{α:Type}(c:Wc)(q:Addr)(K:α->List Addr->DH->Hp->Prop)(a:α)(X9:List Addr)(G':DH)(H':Hp):Prop
 |mk (e:H' q=some (.dK [])) (n:q∉X9) (h:m6 c X9 G' (DL.hide q H')) (k:K a X9 G' (DL.hide q H'))
theorem c7.unhideD{r:Option (Except Str α×DH)}{K:α->List Addr->DH->Hp->Prop}(n:q∉μ)(hq:H q=some (.dK []))(p:c7 c ZF μ (DL.hide q H) r K):c7 c ZF μ H r (UHD c q K):=by
 match r,p with
 |some (.ok a,G'),p=>
   intro X9 H' x h;obtain⟨e1,e2,e3⟩:=x.hideD n hq;have h2:=h.hideD e2 e1;exact⟨e1,e2,h2,p X9 _ e3 h2⟩
 |some (.error z,G'),p=>
   intro X9 H' x h;obtain⟨e1,e2,e3⟩:=x.hideD n hq;exact(p X9 _ e3 (h.hideD e2 e1)).elim
theorem c7.ofNoX{m:M α}{K:α->List Addr->DH->Hp->Prop}(p:c7 c Z μ H (noX m G) K):c7 c ZF μ H (m G) K:=by
 unfold noX at p;rcases h:m G with _|⟨_|a,G1⟩
 ·rw[h]at p;exact p.elim
 ·rw[h]at p;exact p.elim
 ·rw[h]at p;exact p
theorem cX{u:HO}:upd (DL.hide q H) q u=upd H q u:=by
 funext b;by_cases e:b=q
 ·subst e;rw[w5,w5]
 ·rw[m8 e,m8 e,v8 e]
theorem bn{ks:List Str}(h:DP X ZF keys vals ks fs)(hall:keys.all (·.isSome)=true)(hl:keys.length=vals.length)(h0:keys≠ [])(h15:keys.length<=15)(hk:ks.length<=15)(nd:ks.Nodup):DE X Z (.Dict keys vals pos) (QM ks fs):=by
 obtain⟨trs,h1,h2⟩:=h.ex;refine⟨λpins s σ H Q I q=>?_⟩;obtain⟨X2,μ,G,sr,hr,p⟩:=q;have hn:=I.hok.fresh (zg s.heap.objs.size);have I1:=I.laid (t':=s.toks) (λ_ _ q=>zc _ q) (zg _) (Tv s.heap I.big);have na:s.heap.objs.size∉μ:=λhm=>yD _ (m6.mem_lt I hr hm);have x0:Ext μ H μ (upd H s.heap.objs.size (.dK [])):=Ext.lay hn _;have hr0:m6 (wc X) μ G (upd H s.heap.objs.size (.dK [])):=hr.same x0 λb o e _=>by rw[m8 (o4 e hn)];exact e
 have pv:=c7.unhideD (H:=upd H s.heap.objs.size (.dK [])) na w5 (by rw[EB,bE hn];exact c7.ofNoX (c7.bind p));refine wpAny_Dict_walk (knd:=u5 X.prog X.w) hall hl h0 h15 (thn (h1 pos pins _ σ _ _ I1 (h2 X2 σ μ G _ (λps H2=>H2 s.heap.objs.size=some (.dK [])/\∃iz:List (Key×V),ps=iz.map (λkv=>(kV kv.1,kv.2))/\iz.length<=15/\Q (.ref s.heap.objs.size) (upd H2 s.heap.objs.size (.dK (EA [] iz)))) (sr.mono x0) hr0 (pv.mono λds X0 G1 H1 x1 r1 u vs rvs=>?_))) λws s2 ⟨ps,H2,I2,rel,e,iz,ep,lk,q2⟩=>?_)
 · obtain⟨e1,n1,rh,p1⟩:=u;split at p1
   case isFalse=>exact p1.elim
   rename_i kl;have hv:vs.length=ks.length:=by rw[<-rvs.length];exact kl
   refine⟨e1,kvS ks vs,rfl,by unfold kvS;rw[zf,List.length_zip];omega,?_⟩;have em:EA [] (kvS ks vs)=kvS ks vs:=uO (kvS ks vs) [] (by rw[Zo,mP ks vs hv];exact jC.mpr (nd.imp λh z=>h (by cases z;rfl)))
   rw[em,<-cX (q:=s.heap.objs.size) (H:=H1)];have rk:S8 (wc X) X0 (DL.hide s.heap.objs.size H1) _ (kvS ks vs):=IR ks (rvs.sq (ED e1));have kx:Ext X0 (DL.hide s.heap.objs.size H1) (X0++[s.heap.objs.size]) (upd (DL.hide s.heap.objs.size H1) s.heap.objs.size (.dK (kvS ks vs))):=Ext.add U9 _;refine p1 (X0++[s.heap.objs.size]) _ kx (rh.new U9 ⟨_,w5,rk.mono kx⟩) _ ?_;unfold d7;exact⟨_,by rw[<-rh.len];simp,rfl⟩
 · subst ep;obtain⟨rs,c,rk⟩:=MQ rel;obtain⟨z,hd,vs0,r0,dd⟩:=ID I2.hok e
   cases r0
   refine⟨rs,c,dd,λh' dd' hs=>⟨.ref s.heap.objs.size,_,?_,rfl,q2⟩⟩;have hz:(EA [] iz).length<=zk:=by have h1:=oN iz [];rw[yh]at h1;rw[ju];lia
   have he:∃q,h'.get? s.heap.objs.size=some q:=let ⟨q,_,_,hq,_⟩:=dd';⟨q,hq⟩;exact FJ I2 (by rw[e];exact True.intro) hs he (vI hz hd (rk.merge .nil) dd')
end
end DL
namespace W
open PySem PySem.Spec L2 DL
open PyProof.Rows hiding St
def sR:List (Str×D):= [("number",.tup [.tup [.tup [.non,.non]],.tup [.str ("of" :Str),.tup []],.tup [],.non,.non]),("text",.tup [.tup [],.tup [.str ("but" :Str),.tup []],.tup [],.non,.non]),("truth",.tup [.tup [],.tup [.str ("of" :Str),.tup []],.tup [.bl false,.bl true],.non,.non]),("list",.tup [.tup [],.tup [.str ("of" :Str),.tup []],.tup [],.tup [.tup [],.str ("any" :Str)],.non]),("record",.tup [.tup [],.tup [.str ("of" :Str),.tup []],.tup [],.non,.tup [.tup [],.str ("any" :Str)]])]
def D1:Fs:=(f9 (v7 (binE u4 (binE v3 (binE u4 (binE addD (binE addD (U0 3) (binE v3 (cE (.int 7919)) (U0 2))) (cE (.int 3))) (cE (.int 2147483647))) (cE (.int 48271))) (cE (.int 2147483647))) (D3 4)) (f9 (v7 (binE u4 (binE v3 (U0 4) (U0 4)) (cE (.int 2147483629))) (D3 4)) (f9 (T4 (mtE v9 J1 (U0 1) (B0 (binE u4 (binE aA (U0 4) (cE (.int 16))) (cE (.int 1000))) (o0)))) (f9 (T4 (mtE v9 J1 (U0 1) (B0 (binE u4 (binE aA (U0 4) (cE (.int 16000))) (cE (.int 1000))) (o0)))) (f9 (v7 (binE u4 (binE addD (U0 4) (binE v3 (cE (.int 40692)) (binE addD (U0 2) (cE (.int 7))))) (cE (.int 2147483587))) (D3 4)) (T4 (mtE v9 J1 (U0 1) (B0 (binE u4 (binE aA (binE u4 (binE v3 (U0 4) (U0 4)) (cE (.int 2147483647))) (cE (.int 16))) (cE (.int 1000))) (o0)))))))))
def WT1:DSt->M Bool:=(Q2 (l5 (binE geD (U0 3) (cE (.int 1000)))) (l5 (binE ltD (U0 5) (cE (.int 60)))))
def WB1:Fs:=(f9 (T4 (mtE v9 J1 (U0 1) (B0 (binE u4 (U0 3) (cE (.int 1000))) (o0)))) (f9 (v7 (binE aA (U0 3) (cE (.int 1000))) (D3 3)) (v7 (binE addD (U0 5) (cE (.int 1))) (D3 5))))
def D2:Fs:=(f9 (v7 (cE (.int 0)) (D3 5)) (V6 WT1 WB1))
def DB:Fs:=(f9 (v7 (P2 TB (B0 (binE ixD (U0 0) (U0 2)) (o0))) (D3 3)) (ifS (l5 (binE ltD (U0 3) (binE y3 (cE (.int 10)) (cE (.int 18))))) D1 D2))
abbrev S0(a:Fe):=B0 a (o0)
abbrev O0(a b:Fe):=B0 a (B0 b (o0))
abbrev ES(a b c:Fe):=B0 a (B0 b (B0 c (o0)))
abbrev mQ(a b c d:Fe):=B0 a (B0 b (B0 c (B0 d (o0))))
abbrev a9(a b c d e:Fe):=B0 a (B0 b (B0 c (B0 d (B0 e (o0)))))
abbrev asQ(e:Fe)(g:D->DSt->M DSt)(r:Fs):Fs:=f9 (v7 e g) r
abbrev cBf:Fe:=cE (.bl false)
abbrev cBt:Fe:=cE (.bl true)
abbrev H0:Fe:=cE (.int 0)
abbrev l0:Fe:=cE (.int 1)
abbrev C6:Fe:=cE (.int 10)
abbrev B3:Fe:=cE (.int 2)
abbrev NA:Fe:=cE (.int 3)
abbrev B7:Fe:=cE (.int 4)
abbrev aD:Fe:=cE (.int 5)
abbrev E9:Fe:=cE (.int 6)
abbrev Dq:Fe:=cE (.int 7)
abbrev qO:Fe:=cE (.int 8)
abbrev cIn(i:Int):Fe:=cE (.int i)
abbrev L0:Fe:=cE .non
abbrev cSt(s:Str):Fe:=cE (.str s)
abbrev M0(F:List D->M D)(a:Fe):Fe:=P2 (fnX 1 F) (B0 a (o0))
abbrev y0(F:List D->M D)(a b:Fe):Fe:=P2 (fnX 2 F) (B0 a (B0 b (o0)))
abbrev nB(F:List D->M D)(a b c:Fe):Fe:=P2 (fnX 3 F) (B0 a (B0 b (B0 c (o0))))
abbrev LJ(F:List D->M D)(a b c d:Fe):Fe:=P2 (fnX 4 F) (B0 a (B0 b (B0 c (B0 d (o0)))))
abbrev D0(F:List D->M D)(a:Fe):Fe:=P2 F (B0 a (o0))
abbrev j3(F:List D->M D)(a b:Fe):Fe:=P2 F (B0 a (B0 b (o0)))
abbrev gdQ(t:DSt->M Bool)(x:Fe)(r:Fs):Fs:=f9 (ifS t (t7 x) u0) r
abbrev ixE(a b:Fe):Fe:=binE ixD a b
abbrev u3:=D3 0
abbrev E1:=D3 1
abbrev N0:=D3 2
abbrev A2:=D3 3
abbrev F2:=D3 4
abbrev oF:=D3 5
abbrev sIi(i:Int):Option D:=some (D.int i)
abbrev sRf(r:Nat):Option D:=some (D.ref r)
abbrev tBn(o:D->D->M D)(a b:Fe):=l5 (binE o a b)
abbrev MC(a:Fe):=t3 (B0 a (o0))
abbrev F0(a b:Fe):=t3 (B0 a (B0 b (o0)))
abbrev Lm(a b c:Fe):=t3 (B0 a (B0 b (B0 c (o0))))
abbrev c0:Fe:=U0 0
abbrev g0:Fe:=U0 1
abbrev i0:Fe:=U0 2
abbrev C0:Fe:=U0 3
abbrev K0:Fe:=U0 4
abbrev II:Fe:=U0 5
def oJ:Fs:=f9 (v7 (S7 o0) E1) (f9 (S3 (A7 (S0 (j3 bB (D0 lenF c0) (cIn 80)))) N0 DB) (t7 (L6 g0 (F7) (T6 (cIn 240)))))
def U6:List D->M D:=o9 6 oJ
def SF(R:List D->M D):Fs:=(ifS (A6 (truthE (y0 R i0 C0))) (t7 cBf) u0)
def PC(R:List D->M D):Fs:=f9 (ifS (tBn A3 g0 L0) (t7 (binE A3 c0 L0)) u0) (gdQ (truthE (j3 O1 g0 (cE (.ty "bool")))) (B4 (j3 O1 c0 (cE (.ty "bool"))) (binE eqD c0 g0)) (gdQ (truthE (j3 O1 g0 (cE (.ty "int")))) (B4 (j3 O1 c0 (cE (.ty "int"))) (B4 (gI (j3 O1 c0 (cE (.ty "bool")))) (binE eqD c0 g0))) (gdQ (truthE (j3 O1 g0 (cE (.ty "str")))) (B4 (j3 O1 c0 (cE (.ty "str"))) (binE eqD c0 g0)) (gdQ (orT (A6 (truthE (j3 O1 c0 (cE (.ty "tuple"))))) (tBn neD (D0 lenF c0) (D0 lenF g0))) cBf (f9 (S3 (x9 (O0 c0 g0)) (C8 2 (X8 N0 (X8 A2 (w8)))) (SF R)) (t7 cBt))))))
def W4:Nat->List D->M D
 |0=>λ_=>M.stuck
 |n+1=>o9 4 (PC (W4 n))
def KG:List D->M D:=W4 6
def mI:Fs:=f9 (ifS (tBn eqD c0 (S7 o0)) (t7 H0) u0) (t7 (binE u4 (mtE v9 dF c0 (S0 H0)) g0))
def j6:List D->M D:=o9 2 mI
def NB:Fs:=(v7 (binE addD (binE v3 C0 (cIn 1000)) (y0 j6 c0 (cIn 1000))) A2)
def N1:Fs:=(ifS (tBn ltD g0 aD) (asQ (y0 j6 c0 (cIn 40)) N0 (t7 (binE v3 (binE aA i0 B3) (binE F9 l0 (binE v3 B3 (binE u4 i0 B3)))))) u0)
def N2:Fs:=(ifS (tBn eqD g0 aD) (t7 (ixE (S7 (mQ (binE y3 C6 (cIn 20)) (unE j4 (binE y3 C6 (cIn 20))) (binE F9 (binE y3 C6 (cIn 20)) l0) (binE y3 C6 (cIn 18)))) (y0 j6 c0 B7))) u0)
def N3:Fs:=(t7 (binE v3 (binE addD (binE v3 C0 (cIn 100)) (y0 j6 c0 (cIn 100))) (binE F9 (cIn 13) (binE v3 B3 g0))))
def OG:Fs:=f9 (v7 (y0 j6 c0 qO) E1) (f9 N1 (f9 N2 (asQ H0 A2 (f9 (S3 (A7 (S0 E9)) F2 NB) N3))))
def Q9:List D->M D:=o9 5 OG
def CO:Fs:=f9 (ifS (Q2 (tBn A3 c0 L0) (tBn A3 g0 L0)) (t7 (cSt "number")) u0) (gdQ (tBn A3 c0 L0) (binE addD (cSt "..") (D0 P6 g0)) (gdQ (tBn A3 g0 L0) (binE addD (D0 P6 c0) (cSt "..")) (gdQ (tBn eqD c0 g0) (D0 P6 c0) (t7 (binE addD (binE addD (D0 P6 c0) (cSt "..")) (D0 P6 g0))))))
def K6:List D->M D:=o9 2 CO
def gO:Fs:=f9 (ifS (tBn eqD (D0 TB c0) (binE y3 C6 (cIn 30))) (t7 L0) u0) (t7 c0)
def Q5:List D->M D:=o9 1 gO
def tn5:Fs:=(ifS (tBn eqD i0 aD) (f9 (T4 (mtE v9 J1 (binE ixG g0 (cSt "pairs")) (S0 (F0 (unE j4 (binE y3 C6 (cIn 30))) (binE y3 C6 (cIn 30)))))) (t7 (cSt "number"))) u0)
def tn1:Fs:=(ifS (tBn eqD i0 l0) (v7 (j3 bB (binE addD C0 (y0 j6 c0 NA)) (binE y3 C6 (cIn 20))) F2) u0)
def tn2:Fs:=(ifS (tBn eqD i0 B3) (v7 (j3 bC C0 (M0 Q9 c0)) F2) u0)
def tn3:Fs:=(ifS (tBn eqD i0 NA) (v7 (unE j4 (binE y3 C6 (cIn 30))) A2) u0)
def tn4:Fs:=(ifS (tBn eqD i0 B7) (v7 (binE y3 C6 (cIn 30)) F2) u0)
def tnA:Fs:=(T4 (mtE v9 J1 (binE ixG g0 (cSt "pairs")) (S0 (F0 C0 K0))))
def tnR:Fs:=(gdQ (Q2 (tBn inD i0 (F0 l0 B3)) (tBn eqD C0 K0)) (binE addD (binE addD (D0 P6 C0) (cSt "..")) (D0 P6 K0)) (t7 (y0 K6 (M0 Q5 C0) (M0 Q5 K0))))
def P0:Fs:=f9 (v7 (y0 j6 c0 E9) N0) (asQ (M0 Q9 c0) A2 (asQ C0 F2 (f9 tn5 (f9 tn1 (f9 tn2 (f9 tn3 (f9 tn4 (f9 tnA tnR))))))))
def Q0:List D->M D:=o9 5 P0
def woL:Fs:=(v7 (binE addD K0 (ixE (cSt "abcdefghijklmnopqrstuvwxyz") (y0 j6 c0 (cIn 26)))) F2)
def woR:Fs:=(asQ (cSt "") F2 (f9 (S3 (A7 (S0 C0)) oF woL) (t7 K0)))
def woA:Fs:=(ifS (tBn eqD g0 B7) (asQ (S7 (B0 (cSt "any") (B0 (cSt "nothing") (B0 (cSt "number") (B0 (cSt "text") (B0 (cSt "truth") (B0 (cSt "true") (B0 (cSt "false") (a9 (cSt "or") (cSt "but") (cSt "in") (cSt "only") (cSt "wish")))))))))) N0 (asQ (binE addD i0 (S7 (mQ (cSt "numbers") (cSt "texts") (cSt "anyone") (cSt "orb")))) N0 (t7 (ixE i0 (y0 j6 c0 (cIn 16)))))) u0)
def woB:Fs:=(ifS (tBn eqD g0 aD) (v7 (y0 j6 c0 (cIn 31)) A2) u0)
def UG:Fs:=f9 (v7 (y0 j6 c0 E9) E1) (f9 woA (asQ (y0 j6 c0 B7) A2 (f9 woB woR)))
def W2:List D->M D:=o9 6 UG
def ttA:Fs:=(ifS (tBn ltD i0 B7) (asQ (M0 W2 c0) A2 (f9 (T4 (mtE v9 J1 (binE ixG g0 (cSt "of")) (S0 C0))) (t7 (binE addD (binE addD (cE (.str ("\"" :Str))) C0) (cE (.str ("\"" :Str))))))) u0)
def ttB:Fs:=(ifS (Q2 (tBn eqD i0 B7) (tBn eqD (y0 j6 c0 NA) H0)) (f9 (T4 (mtE v9 J1 (binE ixG g0 (cSt "but")) (S0 (S7 o0)))) (t7 (cSt "text"))) u0)
def ttC:Fs:=(v7 (O4 (A7 (S0 (binE addD l0 (y0 j6 c0 B7)))) [none,some 0] u3 (m4) (M0 W2 g0)) F2)
def ttD:Fs:=(T4 (mtE v9 J1 (binE ixG g0 (cSt "but")) (S0 K0)))
def ttE:Fs:=(t7 (binE addD (cSt "text but ") (mtE isStrM GA (cSt " ") (S0 (O4 (itW K0) [none] u3 (m4) (binE addD (binE addD (cE (.str ("\"" :Str))) c0) (cE (.str ("\"" :Str)))))))))
def U7:Fs:=f9 (v7 (y0 j6 c0 E9) N0) (f9 ttA (f9 ttB (f9 ttC (f9 ttD ttE))))
def T9:List D->M D:=o9 5 U7
def Z5:Fs:=f9 (v7 (y0 j6 c0 Dq) N0) (gdQ (tBn ltD i0 NA) (y0 Q0 c0 g0) (gdQ (tBn ltD i0 E9) (y0 T9 c0 g0) (asQ (ixE (S7 (ES (cSt "true") (cSt "false") (cSt "truth"))) (y0 j6 c0 NA)) A2 (f9 (T4 (mtE v9 J1 (binE ixG g0 C0) (S0 C0))) (t7 C0)))))
def M3:List D->M D:=o9 4 Z5
def LB:Fs:=(ifS (Q2 (tBn neD g0 (S7 o0)) (tBn leD i0 (binE addD (ixE (ixE g0 (unE j4 l0)) l0) l0))) (v7 (F0 (ixE (ixE g0 (unE j4 l0)) H0) (j3 bC (ixE (ixE g0 (unE j4 l0)) l0) C0)) (AB g0 (unE j4 l0))) (T4 (mtE v9 J1 g0 (S0 (F0 i0 C0)))))
def LE:Fe:=(F0 (M0 Q5 c0) (M0 Q5 g0))
def VF:Fs:=f9 (v7 (S7 o0) E1) (f9 (S3 (itW (D0 DC c0)) (C8 2 (X8 N0 (X8 A2 (w8)))) LB) (t7 (D0 V8 (O4 (itW g0) [none,none] (C8 2 (X8 u3 (X8 E1 (w8)))) (m4) LE))))
def gF:List D->M D:=o9 4 VF
def rkC:Fe:=(O4 (itW c0) [none] u3 (m4) (F0 (D0 lenF c0) c0))
def pF:Fs:=t7 (D0 V8 (O4 (itW (uG rkC)) [none,none] (C8 2 (X8 u3 (X8 E1 (w8)))) (m4) g0))
def Q8:List D->M D:=o9 1 pF
def xfT:DSt->M Bool:=(tBn nA g0 c0)
def xtB:Fs:=(asQ (O4 (itW (binE ixG c0 (cSt "but"))) [none,some 2] u3 xfT c0) A2 (ifS (Q2 (tBn eqD C0 (S7 o0)) (tBn nA i0 (binE ixG c0 (cSt "of")))) (T4 (mtE v9 J1 g0 (S0 i0))) u0))
def xtA:Fs:=(ifS (tBn eqD (binE ixG c0 (cSt "but")) (S7 o0)) (t7 (F0 (cSt "of") (M0 Q8 (binE ixG c0 (cSt "of"))))) u0)
def V4:Fs:=f9 xtA (asQ (S7 o0) E1 (f9 (S3 (itW (ixE (binE ixG c0 (cSt "but")) H0)) N0 xtB) (t7 (F0 (cSt "but") (M0 Q8 g0)))))
def V5:List D->M D:=o9 4 V4
def DK:Fs:=f9 (ifS (truthE (mtE isStrM startsD c0 (O0 (cSt "any") g0))) (t7 (F0 (cSt "any") (binE addD g0 (D0 lenF (cSt "any"))))) u0) (gdQ (truthE (mtE isStrM startsD c0 (O0 (cSt "nothing") g0))) (F0 (cE (.tup [.tup [],.tup [.str ("of" :Str),.tup []],.tup [],.non,.non])) (binE addD g0 (D0 lenF (cSt "nothing")))) (t7 L0))
def aF:List D->M D:=o9 2 DK
def RT:DSt->M Bool:=(Q2 (tBn ltD K0 (D0 lenF c0)) (l5 (lE leD leD i0 (ixE c0 K0) C0)))
def RB:Fs:=(v7 (binE addD K0 l0) F2)
def UF:Fs:=f9 (v7 g0 F2) (f9 (V6 RT RB) (t7 K0))
def EC:List D->M D:=o9 5 UF
def AK:Fs:=f9 (v7 (ifE (truthE (mtE isStrM startsD c0 (O0 (cSt "-") g0))) (binE addD g0 l0) g0) N0) (asQ (LJ EC c0 i0 (cSt "0") (cSt "9")) A2 (f9 (ifS (orT (tBn eqD C0 i0) (tBn gtD (binE F9 C0 i0) (cIn 40))) (K5) u0) (f9 (ifS (Q2 (truthE (mtE isStrM startsD c0 (O0 (cSt "0") i0))) (tBn gtD (binE F9 C0 g0) l0)) (K5) u0) (t7 (F0 (D0 iB (L6 c0 (T6 g0) (T6 C0))) C0)))))
def W3:List D->M D:=o9 4 AK
def eM:Fs:=f9 (ifS (A6 (truthE (mtE isStrM startsD c0 (O0 i0 g0)))) (K5) u0) (t7 (binE addD g0 (D0 lenF i0)))
def OF:List D->M D:=o9 3 eM
def nL:Fs:=f9 (v7 (LJ EC c0 (binE addD g0 l0) (cSt "a") (cSt "z")) N0) (t7 (F0 (L6 c0 (T6 (binE addD g0 l0)) (T6 i0)) (nB OF c0 i0 (cE (.str ("\"" :Str))))))
def F_text_at:List D->M D:=o9 3 nL
def UC:Fs:=f9 (ifS (tBn gtD i0 (cIn 20)) (K5) u0) (f9 (ifS (truthE (mtE isStrM startsD c0 (O0 (cSt "[") g0))) (K5) u0) (f9 (ifS (truthE (mtE isStrM startsD c0 (O0 (cSt "{") g0))) (K5) u0) (gdQ (truthE (mtE isStrM startsD c0 (O0 (cE (.str ("\"" :Str))) g0))) (y0 F_text_at c0 g0) (gdQ (truthE (mtE isStrM startsD c0 (O0 (cSt "true") g0))) (F0 cBt (binE addD g0 (D0 lenF (cSt "true")))) (gdQ (truthE (mtE isStrM startsD c0 (O0 (cSt "false") g0))) (F0 cBf (binE addD g0 (D0 lenF (cSt "false")))) (t7 (y0 W3 c0 g0)))))))
def SD:List D->M D:=o9 3 UC
def CP:Fs:=t7 (ifE (orT (tBn A3 c0 L0) (tBn inX (cE (.tup [.tup [],.tup [.str ("of" :Str),.tup []],.tup [],.non,.non])) (ixE c0 H0))) L0 c0)
def mK:List D->M D:=o9 1 CP
def UM:Fs:=f9 (ifS (orT (tBn A3 c0 L0) (truthE (D0 B5 (O4 (itW (ixE c0 H0)) [none,none,none] (C8 3 (X8 u3 (X8 E1 (X8 N0 (w8))))) (m4) (oP))))) (t7 L0) u0) (K5)
def W6:List D->M D:=o9 1 UM
def vM:Fs:=f9 (v7 (t3 (a9 c0 g0 i0 (M0 mK C0) (M0 W6 K0))) oF) (t7 (ifE (tBn eqD II (cE (.tup [.tup [.tup [.non,.non]],.tup [.str ("but" :Str),.tup []],.tup [.bl false,.bl true],.tup [.tup [],.str ("any" :Str)],.tup [.tup [],.str ("any" :Str)]]))) (cSt "any") II))
def i9:List D->M D:=o9 6 vM
def CJ:Fs:=t7 (D0 UA (O4 (itW c0) [none] u3 (m4) (F0 c0 cBt)))
def mB:List D->M D:=o9 1 CJ
def BI:Fs:=t7 (F0 (D0 lenF c0) c0)
def K1:List D->M D:=o9 1 BI
def OI:Fs:=t7 (D0 V8 (VC K1 (M0 mB c0)))
def M4:List D->M D:=o9 1 OI
def UT:DSt->M Bool:=(truthE (mtE isStrM startsD c0 (O0 (cE (.str (" \"" :Str))) g0)))
def UB:Fs:=(asQ (y0 F_text_at c0 (binE addD g0 l0)) A2 (f9 (T4 (mtE v9 J1 i0 (S0 (ixE C0 H0)))) (v7 (ixE C0 l0) E1)))
def UZ:Fs:=(f9 (ifS (A6 (truthE i0)) (K5) u0) (t7 (F0 (P2 (fnX 5 i9) (a9 (t3 o0) (F0 (cSt "but") (M0 M4 i0)) (t3 o0) L0 L0)) g0)))
def VE:Fs:=f9 (v7 (S7 o0) N0) (f9 (V6 UT UB) UZ)
def FD:List D->M D:=o9 4 VE
def lN:Fs:=t7 (B4 (binE F8 c0 L0) (B4 (binE F8 g0 L0) (binE gtD c0 g0)))
def VG:List D->M D:=o9 2 lN
def IK:Fs:=t7 (ifE (truthE (y0 VG c0 g0)) (cE (.tup [.tup [],.tup [.str ("of" :Str),.tup []],.tup [],.non,.non])) (P2 (fnX 5 i9) (a9 (MC (F0 c0 g0)) (F0 (cSt "of") (t3 o0)) (t3 o0) L0 L0)))
def W0:List D->M D:=o9 2 IK
def KM:Fs:=t7 (LG (mtE isStrM startsD c0 (O0 (cSt "-") g0)) (binE gtD (LJ EC c0 g0 (cSt "0") (cSt "9")) g0))
def Q6:List D->M D:=o9 2 KM
def oG:Fs:=f9 (v7 (binE addD g0 (D0 lenF (cSt ".."))) A2) (gdQ (Q2 (tBn F8 i0 L0) (A6 (truthE (y0 Q6 c0 C0)))) (F0 (y0 W0 i0 L0) C0) (asQ (y0 W3 c0 C0) F2 (f9 (ifS (Q2 (tBn F8 i0 L0) (tBn gtD i0 (ixE K0 H0))) (K5) u0) (t7 (F0 (y0 W0 i0 (ixE K0 H0)) (ixE K0 l0))))))
def Q4:List D->M D:=o9 5 oG
def GN:Fs:=t7 (B4 (j3 O1 c0 (cE (.ty "int"))) (gI (j3 O1 c0 (cE (.ty "bool")))))
def iD:List D->M D:=o9 1 GN
def QN:Fs:=f9 (ifS (truthE (j3 O1 c0 (cE (.ty "bool")))) (t7 (P2 (fnX 5 i9) (a9 (t3 o0) (F0 (cSt "of") (t3 o0)) (MC c0) L0 L0))) u0) (gdQ (truthE (j3 O1 c0 (cE (.ty "int")))) (y0 W0 c0 c0) (gdQ (truthE (j3 O1 c0 (cE (.ty "str")))) (P2 (fnX 5 i9) (a9 (t3 o0) (F0 (cSt "of") (MC c0)) (t3 o0) L0 L0)) (f9 (ifS (tBn eqD (ixE c0 H0) (cSt "list")) (K5) u0) (K5))))
def aB:List D->M D:=o9 1 QN
def MN:Fs:=t7 (binE (ixC "KIND_SETS" sR) (cE (.fn "KIND_SETS")) c0)
def VH:List D->M D:=o9 1 MN
def WK:Fs:=(ifS (truthE (mtE isStrM startsD c0 (O0 C0 g0))) (t7 (F0 (M0 VH C0) (binE addD g0 (D0 lenF C0)))) u0)
def WZ:Fs:=(gdQ (truthE (mtE isStrM startsD c0 (O0 (cSt "..") g0))) (nB Q4 c0 g0 L0) (asQ (nB SD c0 g0 l0) F2 (gdQ (Q2 (truthE (M0 iD (ixE K0 H0))) (truthE (mtE isStrM startsD c0 (O0 (cSt "..") (ixE K0 l0))))) (nB Q4 c0 (ixE K0 l0) (ixE K0 H0)) (t7 (F0 (M0 aB (ixE K0 H0)) (ixE K0 l0))))))
def WL:Fs:=(S3 (itW (Lm (cSt "number") (cSt "text") (cSt "truth"))) A2 WK)
def T8:Fs:=f9 (ifS (truthE (mtE isStrM startsD c0 (O0 (cSt "[") g0))) (K5) u0) (f9 (ifS (truthE (mtE isStrM startsD c0 (O0 (cSt "{") g0))) (K5) u0) (gdQ (truthE (mtE isStrM startsD c0 (O0 (cSt "text but") g0))) (y0 FD c0 (binE addD g0 (D0 lenF (cSt "text but")))) (f9 WL WZ)))
def R4:List D->M D:=o9 5 T8
def VZ:Fs:=(gdQ (A6 (truthE (mtE isStrM startsD c0 (O0 (cSt " or ") (ixE K0 l0))))) (F0 C0 (ixE K0 l0)) (v7 (binE addD (ixE K0 l0) (D0 lenF (cSt " or "))) E1))
def VBd:Fs:=(asQ (nB R4 c0 g0 i0) F2 (f9 (T4 (mtE v9 J1 C0 (S0 (ixE K0 H0)))) VZ))
def UE:Fs:=f9 (v7 (S7 o0) A2) (V6 (truthE cBt) VBd)
def sG:List D->M D:=o9 5 UE
def SM:Fs:=t7 (ifE (tBn A3 (ixE c0 H0) L0) (F0 H0 H0) (F0 l0 (ixE c0 H0)))
def w6:List D->M D:=o9 1 SM
def lM:Fs:=t7 (B4 (binE F8 (ixE c0 l0) L0) (B4 (binE F8 (ixE g0 H0) L0) (binE ltD (binE addD (ixE c0 l0) l0) (ixE g0 H0))))
def GE:List D->M D:=o9 2 lM
def CM:Fs:=t7 (ifE (orT (tBn A3 c0 L0) (tBn A3 g0 L0)) L0 (j3 bC c0 g0))
def X4:List D->M D:=o9 2 CM
def JB:Fs:=(ifS (Q2 (truthE g0) (A6 (truthE (y0 GE (ixE g0 (unE j4 l0)) i0)))) (v7 (F0 (ixE (ixE g0 (unE j4 l0)) H0) (y0 X4 (ixE (ixE g0 (unE j4 l0)) l0) (ixE i0 l0))) (AB g0 (unE j4 l0))) (T4 (mtE v9 J1 g0 (S0 (F0 (ixE i0 H0) (ixE i0 l0))))))
def tF:Fs:=f9 (v7 (S7 o0) E1) (f9 (S3 (itW (WC w6 c0)) N0 JB) (t7 (D0 V8 g0)))
def vG:List D->M D:=o9 3 tF
def IL:Fs:=t7 (F0 (ifE (tBn eqD (ixE c0 H0) (cSt "of")) (cSt "but") (cSt "of")) (ixE c0 l0))
def qC:List D->M D:=o9 1 IL
def kJ:Fs:=t7 (M0 M4 (binE addD c0 g0))
def fE:List D->M D:=o9 2 kJ
def nK:Fs:=f9 (v7 (M0 mB g0) N0) (t7 (D0 V8 (O4 (itW c0) [none,some 2] u3 (tBn inD c0 g0) c0)))
def VD:List D->M D:=o9 3 nK
def tH:Fs:=f9 (v7 (M0 mB g0) N0) (t7 (D0 V8 (O4 (itW c0) [none,some 2] u3 (tBn nA c0 g0) c0)))
def lC:List D->M D:=o9 3 tH
def WH:Fs:=f9 (ifS (Q2 (tBn eqD (ixE c0 H0) (cSt "of")) (tBn eqD (ixE g0 H0) (cSt "of"))) (t7 (F0 (cSt "of") (y0 VD (ixE c0 l0) (ixE g0 l0)))) u0) (gdQ (tBn eqD (ixE c0 H0) (cSt "of")) (F0 (cSt "of") (y0 lC (ixE c0 l0) (ixE g0 l0))) (gdQ (tBn eqD (ixE g0 H0) (cSt "of")) (F0 (cSt "of") (y0 lC (ixE g0 l0) (ixE c0 l0))) (t7 (F0 (cSt "but") (y0 fE (ixE c0 l0) (ixE g0 l0))))))
def X3:List D->M D:=o9 2 WH
def sE:Fs:=t7 (M0 qC (y0 X3 (M0 qC c0) (M0 qC g0)))
def uF:List D->M D:=o9 2 sE
def KP:Fs:=f9 (ifS (orT (tBn A3 c0 L0) (tBn A3 g0 L0)) (t7 (ifE (tBn A3 c0 L0) g0 c0)) u0) (f9 (K5) (f9 (K5) (f9 (K5) (K5))))
def GK:List D->M D:=o9 5 KP
def OO:Fs:=f9 (ifS (orT (tBn A3 c0 L0) (tBn A3 g0 L0)) (t7 (ifE (tBn A3 c0 L0) g0 c0)) u0) (f9 (K5) (K5))
def uJ:List D->M D:=o9 3 OO
def EK:Fs:=f9 (ifS (orT (tBn eqD c0 (cSt "any")) (tBn eqD g0 (cSt "any"))) (t7 (cSt "any")) u0) (t7 (P2 (fnX 5 i9) (a9 (M0 vG (D0 eA (binE addD (ixE c0 H0) (ixE g0 H0)))) (y0 uF (ixE c0 l0) (ixE g0 l0)) (D0 V8 (O4 (itW (F0 cBf cBt)) [none,some 0,some 1] u3 (orT (tBn inD c0 (ixE g0 B3)) (tBn inD c0 (ixE i0 B3))) c0)) (y0 GK (ixE c0 NA) (ixE g0 NA)) (y0 uJ (ixE c0 B7) (ixE g0 B7)))))
def BE:List D->M D:=o9 2 EK
def JAT:DSt->M Bool:=(tBn gtD (D0 lenF g0) l0)
def JAE:Fe:=(y0 BE c0 g0)
def BG:Fs:=f9 (v7 (D0 eA c0) E1) (f9 (V6 JAT (asQ (O4 (x9 (O0 (IA g0 (T6 H0) (F7) (T6 B3)) (IA g0 (T6 l0) (F7) (T6 B3)))) [none,none] (C8 2 (X8 u3 (X8 E1 (w8)))) (m4) JAE) N0 (v7 (binE addD i0 (L6 g0 (T6 (binE v3 B3 (D0 lenF i0))) (F7))) E1))) (t7 (ixE g0 H0)))
def iG:List D->M D:=o9 3 BG
def kH:Fs:=f9 (v7 (y0 aF c0 g0) N0) (gdQ (tBn F8 i0 L0) i0 (asQ (nB sG c0 g0 l0) A2 (t7 (F0 (M0 iG (ixE C0 H0)) (ixE C0 l0)))))
def kK:List D->M D:=o9 4 kH
def UJ:Fs:=f9 (v7 (y0 kK c0 H0) E1) (f9 (ifS (tBn neD (ixE g0 l0) (D0 lenF c0)) (K5) u0) (t7 (ixE g0 H0)))
def RC:List D->M D:=o9 3 UJ
def wlT:DSt->M Bool:=(Q2 (tBn neD g0 (S7 o0)) (tBn ltD (D0 lenF C0) (cIn 40)))
def wlC:Fs:=(ifS (tBn eqD (y0 j6 g0 aD) l0) (T4 (mtE v9 J1 C0 (S0 (ixE C0 (y0 j6 g0 (D0 lenF C0)))))) u0)
def wlB:Fs:=(f9 (T4 (mtE v9 J1 C0 (S0 (y0 M3 g0 i0)))) wlC)
def lwE:Fs:=(v7 (QM [("pairs" :Str),("of" :Str),("but" :Str),("true" :Str),("false" :Str),("truth" :Str)] (B0 (S7 o0) (a9 (S7 o0) (S7 o0) (S7 o0) (S7 o0) (S7 o0)))) N0)
def lwU:Fs:=(ifS (tBn neD (binE addD (binE ixG i0 (cSt "false")) (binE ixG i0 (cSt "truth"))) (S7 o0)) (v7 (MC cBf) F2) u0)
def lwV:Fs:=(ifS (tBn neD (binE addD (binE ixG i0 (cSt "true")) (binE ixG i0 (cSt "truth"))) (S7 o0)) (v7 (binE addD K0 (MC cBt)) F2) u0)
def lwW:Fs:=(v7 (t3 (a9 (M0 gF (binE ixG i0 (cSt "pairs"))) (M0 V5 i0) K0 L0 L0)) oF)
def lwX:Fs:=(t7 (y0 KG (M0 RC (mtE isStrM GA (cSt " or ") (S0 C0))) II))
def SG:Fs:=f9 (v7 (M0 U6 c0) E1) (f9 lwE (asQ (S7 (S0 (y0 M3 g0 i0))) A2 (f9 (V6 wlT wlB) (asQ (t3 o0) F2 (f9 lwU (f9 lwV (f9 lwW lwX)))))))
def TJ:List D->M D:=o9 6 SG
local macro_rules | `(tactic| walk_at "cl") => `(tactic| (refine ⟨?k, ?kk, ?a, ?b, ?c⟩; (case a => first | (dsimp only [Cx.nox, C7]; with_reducible assumption) | assumption); (case b => assumption); (case c => first | decide | omega)))
local macro_rules | `(tactic| walk_at "ck") => `(tactic| (refine ⟨?k, ?kk, ?kkk, ?a, ?b, ?c, ?d⟩; (case a => assumption); (case b => rfl); (case c => rfl); (case d => decide +kernel)))
local macro_rules | `(tactic| walk_at "od") => `(tactic| first
 |with_reducible exact kb
 |with_reducible exact fg
 |with_reducible exact Rv
 |with_reducible exact QW
 |with_reducible exact Mf
 |with_reducible exact vq
 |with_reducible exact Kg
 |with_reducible exact Vp
 |with_reducible exact GS
 |with_reducible exact Rb
 |with_reducible exact kg
 |((with_reducible refine Bh ?_);exact O3.units (by assumption))
 |((with_reducible refine Hx ?_);exact O3.units (by assumption))
 |((with_reducible refine vw ?_);exact O3.units (by assumption))
 |((with_reducible refine Kv ?_);exact O3.units (by assumption))
 |((with_reducible refine MU ?_);exact O3.units (by assumption))
 |((with_reducible refine qU ?_);exact O3.units (by assumption)))
local macro_rules | `(tactic| walk_at "bd") => `(tactic| first
 |with_reducible exact fW
 |with_reducible exact GX
 |with_reducible exact LX
 |with_reducible exact gT
 |with_reducible exact oS
 |with_reducible exact Hz
 |with_reducible exact dk
 |with_reducible exact BU
 |with_reducible exact Lz
 |with_reducible exact iU
 |with_reducible exact fY
 |with_reducible exact Lk)
local macro_rules | `(tactic| walk_at "dp") => `(tactic| first
 |with_reducible exact Rq
 |((with_reducible refine Ww ?_ ?_);walk_at "de";walk_at "dp"))
local macro_rules | `(tactic| walk_at "da") => `(tactic| first
 |with_reducible exact pJ
 |((with_reducible refine Cf ?_ ?_ ?_);walk_at "de";walk_at "da";rfl))
local macro_rules | `(tactic| walk_at "do") => `(tactic| first
 |with_reducible exact bm
 |((with_reducible refine Pc ?_);walk_at "de"))
local macro_rules | `(tactic| walk_at "pk") => `(tactic| first | exact QX | ((apply Mb); walk_at "pk"; walk_at "pk"; (unfold g6; decide); rfl) | ((apply Kp); walk_at "pk"; walk_at "pk"; rfl))
local macro_rules | `(tactic| walk_at "de") => `(tactic| first
 |with_reducible exact vh
 |with_reducible exact uY
 |with_reducible exact nY
 |with_reducible exact gv
 |((with_reducible refine bT _ ?_ ?_ ?_ ?_);rfl;(first|exact Or.inl rfl|exact Or.inr (Or.inl rfl)|exact Or.inr (Or.inr rfl));decide;decide)
 |((with_reducible refine aj ?_ ?_ ?_ ?_ ?_ ?_);assumption;decide;decide +kernel;rfl;decide;decide)
 |((with_reducible refine CW ?_ ?_ ?_);assumption;rfl;decide)
 |((with_reducible refine wZ ?_ ?_ ?_);walk_at "od";walk_at "de";walk_at "de")
 |((with_reducible refine Tw vz ?_);walk_at "de")
 |((with_reducible refine Tz ?_);walk_at "de")
 |((with_reducible refine Nh ?_ ?_ ?_ ?_);walk_at "od";walk_at "de";walk_at "de";with_unfolding_all rfl)
 |((with_reducible refine Cg ?_);walk_at "de")
 |((with_reducible refine UR ?_ ?_);walk_at "de";walk_at "de")
 |((with_reducible refine wz ?_ ?_);walk_at "de";walk_at "de")
 |((with_reducible refine dh ?_ ?_ ?_);walk_at "dt";walk_at "de";walk_at "de")
 |((with_reducible refine aT ?_);walk_at "da")
 |((with_reducible refine Fv ?_);walk_at "da")
 |((with_reducible refine vc ?_ ?_ ?_);walk_at "de";walk_at "do";walk_at "do")
 |((with_reducible refine RS ?_ ?_ ?_ ?_);walk_at "de";walk_at "do";walk_at "do";walk_at "do")
 |with_reducible exact tS
 |((with_reducible refine Pb ?_ ?_ ?_ ?_ ?_);assumption;rfl;decide;walk_at "de";exact λ_ _=>rfl)
 |((with_reducible refine bW ?_ ?_ ?_);walk_at "de";walk_at "de";exact λ_ _=>rfl)
 |((with_reducible refine Qw ?_ ?_ ?_);walk_at "de";walk_at "de";exact λ_ _=>rfl)
 |((with_reducible refine Tf ?_ ?_ ?_ ?_ ?_);walk_at "cl";rfl;walk_at "da";decide;rfl)
 |((with_reducible refine bn ?_ ?_ ?_ ?_ ?_ ?_ ?_);walk_at "dp";rfl;rfl;exact xg _ _;decide;decide;decide +kernel)
 |((with_reducible refine kY ?_ ?_ ?_ ?_ ?_ ?_ ?_);exact O3.units (by assumption);rfl;assumption;rfl;rfl;walk_at "de";rfl)
 |((with_reducible refine NY ?_ ?_ ?_ ?_ ?_ ?_ ?_ ?_);rfl;walk_at "cl";assumption;rfl;rfl;walk_at "de";rfl;decide)
 |((with_reducible refine DU ?_ ?_ ?_ ?_ ?_ ?_ ?_ ?_);rfl;walk_at "cl";assumption;rfl;rfl;walk_at "de";rfl;decide)
 |((with_reducible refine Pq ?_ ?_ ?_ ?_ ?_ ?_ ?_ ?_ ?_);rfl;walk_at "bd";assumption;decide +kernel;rfl;walk_at "da";decide;decide;rfl)
 |((with_reducible refine AO PySem.F.slot_list_append PySem.F.type_list_append Cz ?_ ?_ ?_ ?_ ?_ ?_ ?_);walk_at "de";walk_at "da";rfl;rfl;rfl;exact l6 rfl;rfl)
 |((with_reducible refine AO PySem.F.slot_list_pop PySem.F.type_list_pop Kj ?_ ?_ ?_ ?_ ?_ ?_ ?_);walk_at "de";walk_at "da";rfl;rfl;rfl;exact l6 rfl;rfl)
 |((with_reducible refine AQ PySem.F.slot_str_join PySem.F.type_str_join gZ ?_ ?_ ?_ ?_ ?_ ?_ ?_);walk_at "de";walk_at "da";rfl;rfl;rfl;exact l6 rfl;rfl)
 |((with_reducible refine AQ JP PySem.F.type_str_startswith BV ?_ ?_ ?_ ?_ ?_ ?_ ?_);walk_at "de";walk_at "da";rfl;rfl;rfl;exact l6 rfl;rfl)
 |((with_reducible refine Th ?_ ?_ ?_ ?_ ?_ ?_ ?_ ?_);rfl;walk_at "di";walk_at "ck";decide +kernel;(intro _ _ _ _ _;walk_at "dg");(intro _ _ _ _;walk_at "dts");(intro _ _ _ _;walk_at "de");exact λ_=>rfl))
local macro_rules | `(tactic| walk_at "dt") => `(tactic| first
 |((with_reducible refine DW.dt ?_);walk_at "dw")
 |((with_reducible refine Bv ?_);walk_at "dt")
 |((with_reducible refine bj ?_ ?_ ?_ ?_);walk_at "od";walk_at "de";walk_at "de";with_unfolding_all rfl)
 |((with_reducible refine MV ?_ ?_ ?_ ?_ ?_ ?_);walk_at "od";walk_at "od";walk_at "de";walk_at "de";walk_at "de";with_unfolding_all rfl)
 |((with_reducible refine DY ?_ ?_);walk_at "de";exact λ_=>rfl))
local macro_rules | `(tactic| walk_at "dw") => `(tactic| first
 |((with_reducible refine fX ?_);walk_at "dt")
 |((with_reducible refine sT ?_);walk_at "dt")
 |((with_reducible refine gw ?_ ?_);walk_at "dt";walk_at "dw")
 |((with_reducible refine Pw ?_ ?_);walk_at "dt";walk_at "dw"))
local macro_rules | `(tactic| walk_at "dts") => `(tactic| first
 |with_reducible exact Fj
 |((with_reducible refine Wh ?_);walk_at "dt"))
local macro_rules | `(tactic| walk_at "di") => `(tactic| first
 |((with_reducible refine bU ?_ ?_ ?_ ?_);assumption;rfl;walk_at "da";rfl)
 |((with_reducible refine Df ?_ ?_ ?_ ?_ ?_);assumption;rfl;walk_at "da";rfl;rfl)
 |((with_reducible refine pT ?_);walk_at "de"))
local macro_rules | `(tactic| walk_at "dg") => `(tactic| first
 |((with_reducible refine MS ?_ ?_ ?_ ?_);exact⟨_,_,_, ‹V2 _ _ _›,rfl⟩;rfl;(first|exact Or.inl rfl|exact Or.inr rfl);(first|exact .inl rfl|exact .inr rfl))
 |((with_reducible refine bR ?_ ?_ ?_ ?_);assumption;rfl;(first|exact Or.inl rfl|exact Or.inr rfl);(first|exact .inl rfl|exact .inr rfl))
 |((with_reducible refine Mw ?_ ?_ ?_ ?_);rfl;walk_at "dgs";rfl;rfl)
 |((with_reducible refine Tg ?_ ?_ ?_ ?_);exact O3.units (by assumption);walk_at "de";walk_at "de";exact λ_=>rfl))
local macro_rules | `(tactic| walk_at "dgs") => `(tactic| first
 |with_reducible exact Db
 |((with_reducible refine vX ?_ ?_ ?_);walk_at "dg";walk_at "dgs";rfl))
local macro_rules | `(tactic| walk_at "ds") => `(tactic| first
 |((with_reducible refine HY ?_);walk_at "db")
 |((with_reducible refine dZ ?_);walk_at "de")
 |((with_reducible refine lT ?_ ?_ ?_);walk_at "dt";walk_at "db";walk_at "db")
 |((with_reducible refine vp ?_ ?_ ?_ ?_ ?_ ?_ ?_ ?_ ?_ ?_);rfl;walk_at "di";walk_at "ck";decide +kernel;(intro _ _ _ _ _;walk_at "dg");(intro _ _ _ _;walk_at "dts");(intro _ _ _ _;walk_at "de");(exact λ_=>rfl);walk_at "dg";rfl)
 |((with_reducible refine aS ?_ ?_ ?_ ?_ ?_);walk_at "de";walk_at "dg";rfl;rfl;rfl)
 |((with_reducible refine Mm ?_ ?_);walk_at "de";rfl)
 |((with_reducible refine SX ?_ ?_ ?_ ?_ ?_ ?_);exact PassesOwn.never;rfl;walk_at "di";walk_at "dg";walk_at "db";exact λ_=>rfl)
 |((with_reducible refine ae ?_ ?_ ?_);exact PassesOwn.never;walk_at "dt";walk_at "db")
 |with_reducible exact SZ)
local macro_rules | `(tactic| walk_at "db") => `(tactic| first
 |with_reducible exact iS
 |((with_reducible refine VP ?_);walk_at "ds")
 |((with_reducible refine kP ?_ ?_);walk_at "ds";walk_at "db"))
local macro_rules | `(tactic| walk_at "db0") => `(tactic| first
 |(refine VP ?_;walk_at "ds")
 |(refine kP ?_ ?_;walk_at "ds";walk_at "db"))
set_option maxHeartbeats 2000000
local macro_rules | `(tactic| walk_at "sc") => `(tactic| exact ⟨rfl, rfl, rfl, by decide +kernel, rfl, by decide +kernel, by decide +kernel⟩)
local macro_rules | `(tactic| walk_at "ba") => `(tactic| (intro _ _ _ _ _ _ us h; (repeat (have q := CZ h; clear h; obtain ⟨_, _, e, h⟩ := q; subst e)); cases List.eq_nil_of_length_eq_zero h; rfl))
abbrev LM:D:=.str ("any" :Str)
abbrev NO:D:=.tup [.tup [],.tup [.str ("of" :Str),.tup []],.tup [],.non,.non]
abbrev cQ:D:=.int 40
abbrev rQ:D:=.int 20
abbrev SN:D:=.tup [.tup [.tup [.non,.non]],.tup [.str ("but" :Str),.tup []],.tup [.bl false,.bl true],.tup [.tup [],.str ("any" :Str)],.tup [.tup [],.str ("any" :Str)]]
structure BC(w:jg)(K:zj)(mg:Str->Option zh):Prop where
 b:BLs mg
 c_ANY:OA K mg "ANY" LM
 c_NOTHING:OA K mg "NOTHING" NO
 c_MOST_FIGURES:OA K mg "MOST_FIGURES" cQ
 c_MOST_DEEP:OA K mg "MOST_DEEP" rQ
 c_ALL_PARTS:OA K mg "ALL_PARTS" SN
 d_KIND_SETS:uI w K mg "KIND_SETS" sR
local macro_rules | `(tactic| walk_at "s1") => `(tactic| (walk_at "sc"; walk_at "ba"; (intro _ _ _ _ _ _ _ _ _; obtain ⟨_, _, _, _, _, _, _⟩ := (‹_› : BC _ _ _); skip)))
def top(i:Nat):Stmt:=PySem.Challenge.pw_allmeet_k44_words_joined.main.body.getD i (.Pass ⟨0,0,0,0⟩)
section
variable{E:Ev}(zx:EvX E)(zb:BC E.w E.K E.mg)
include zx zb
theorem Pg(Y:FH E.K "_law_draws" (top 73)):Ck E U6 1 "_law_draws" 1:=by refine K8 ["script", "draws", "k", "rest", "stir", "many"] ["script"] zx Y ?_ ?_ rfl rfl ?_;walk_at "s1";unfold oJ;unfold DB D1 D2 WT1 WB1;walk_at "db0"
variable(k0:Ck E U6 1 "_law_draws" 1)
theorem TZ{R:List D->M D}{lv kk:Nat}(kR:Ck E R 2 "_law_same" lv)(h1:lv<=kk)(h2:0<=kk)(Y:FH E.K "_law_same" (top 81)):Ck E (o9 4 (PC R)) 2 "_law_same" (kk+1):=by refine K8 ["found", "due", "one", "other"] ["found", "due"] zx Y ?_ ?_ rfl rfl ?_;walk_at "s1";unfold PC;unfold SF;walk_at "db0"
section
variable(Y:FH E.K "_law_same" (top 81))
include Y
theorem LR:∀n,Ck E (W4 n) 2 "_law_same" (0+n)
 |0=>tU ["found", "due"] zx Y (by walk_at "ba") rfl
 |n+1=>TZ zx zb (LR n) (zg _) (xM _ _) Y
end
theorem bi(Y:FH E.K "_law_same" (top 81)):Ck E KG 2 "_law_same" 6:=LR zx zb Y 6
variable(k1:Ck E KG 2 "_law_same" 6)
theorem cv(Y:FH E.K "_law_take" (top 74)):Ck E j6 2 "_law_take" 1:=by refine K8 ["draws", "many"] ["draws", "many"] zx Y ?_ ?_ rfl rfl ?_;walk_at "s1";unfold mI;walk_at "db0"
variable(k2:Ck E j6 2 "_law_take" 1)
include k2 in
theorem iV(Y:FH E.K "_law_number" (top 75)):Ck E Q9 1 "_law_number" 2:=by refine K8 ["draws", "way", "small", "large", "k"] ["draws"] zx Y ?_ ?_ rfl rfl ?_;walk_at "s1";unfold OG;unfold N2 N1 N3 NB;walk_at "db0"
variable(k3:Ck E Q9 1 "_law_number" 2)
theorem Kk(Y:FH E.K "_law_stretch_shown" (top 80)):Ck E K6 2 "_law_stretch_shown" 1:=by refine K8 ["low", "high"] ["low", "high"] zx Y ?_ ?_ rfl rfl ?_;walk_at "s1";unfold CO;walk_at "db0"
variable(k4:Ck E K6 2 "_law_stretch_shown" 1)
theorem wg(Y:FH E.K "_law_end" (top 77)):Ck E Q5 1 "_law_end" 1:=by refine K8 ["number"] ["number"] zx Y ?_ ?_ rfl rfl ?_;walk_at "s1";unfold gO;walk_at "db0"
variable(k5:Ck E Q5 1 "_law_end" 1)
include k2 k3 k4 k5 in
theorem Fk(Y:FH E.K "_law_number_told" (top 82)):Ck E Q0 2 "_law_number_told" 3:=by refine K8 ["draws", "told", "way", "low", "high"] ["draws", "told"] zx Y ?_ ?_ rfl rfl ?_;walk_at "s1";unfold P0;unfold tnR tn5 tn1 tn2 tnA tn3 tn4;walk_at "db0"
variable(k6:Ck E Q0 2 "_law_number_told" 3)
include k2 in
theorem kW(Y:FH E.K "_law_word" (top 76)):Ck E W2 1 "_law_word" 2:=by refine K8 ["draws", "way", "some", "size", "word", "k"] ["draws"] zx Y ?_ ?_ rfl rfl ?_;walk_at "s1";unfold UG;unfold woA woR woL woB;walk_at "db0"
variable(k7:Ck E W2 1 "_law_word" 2)
include k2 k7 in
theorem oW(Y:FH E.K "_law_text_told" (top 83)):Ck E T9 2 "_law_text_told" 3:=by refine K8 ["draws", "told", "way", "word", "some"] ["draws", "told"] zx Y ?_ ?_ rfl rfl ?_;walk_at "s1";unfold U7;unfold ttA ttB ttC ttE ttD;walk_at "db0"
variable(k8:Ck E T9 2 "_law_text_told" 3)
include k2 k6 k8 in
theorem wq(Y:FH E.K "_law_word_told" (top 84)):Ck E M3 2 "_law_word_told" 4:=by refine K8 ["draws", "told", "way", "word"] ["draws", "told"] zx Y ?_ ?_ rfl rfl ?_;walk_at "s1";unfold Z5;walk_at "db0"
variable(k9:Ck E M3 2 "_law_word_told" 4)
include k5 in
theorem Wj(Y:FH E.K "_law_joined" (top 78)):Ck E gF 1 "_law_joined" 2:=by refine K8 ["pairs", "found", "low", "high"] ["pairs"] zx Y ?_ ?_ rfl rfl ?_;walk_at "s1";unfold VF;unfold LB LE;walk_at "db0"
variable(k10:Ck E gF 1 "_law_joined" 2)
theorem Rx(Y:FH E.K "_law_ranked" (top 79)):Ck E Q8 1 "_law_ranked" 1:=by refine K8 ["words"] ["words"] zx Y ?_ ?_ rfl rfl ?_;walk_at "s1";unfold pF;unfold rkC;walk_at "db0"
variable(k11:Ck E Q8 1 "_law_ranked" 1)
include k11 in
theorem qV(Y:FH E.K "_law_texts_of" (top 85)):Ck E V5 1 "_law_texts_of" 2:=by refine K8 ["told", "found", "word", "free"] ["told"] zx Y ?_ ?_ rfl rfl ?_;walk_at "s1";unfold V4;unfold xtB xfT xtA;walk_at "db0"
variable(k12:Ck E V5 1 "_law_texts_of" 2)
theorem BW(Y:FH E.K "alone_at" (top 59)):Ck E aF 2 "alone_at" 1:=by refine K8 ["text", "at"] ["text", "at"] zx Y ?_ ?_ rfl rfl ?_;walk_at "s1";unfold DK;walk_at "db0"
variable(k13:Ck E aF 2 "alone_at" 1)
theorem Hq(Y:FH E.K "run_end" (top 54)):Ck E EC 4 "run_end" 1:=by refine K8 ["text", "at", "first", "last", "end"] ["text", "at", "first", "last"] zx Y ?_ ?_ rfl rfl ?_;walk_at "s1";unfold UF;unfold RT RB;walk_at "db0"
variable(k14:Ck E EC 4 "run_end" 1)
include k14 in
theorem uV(Y:FH E.K "number_at" (top 53)):Ck E W3 2 "number_at" 2:=by refine K8 ["text", "at", "start", "end"] ["text", "at"] zx Y ?_ ?_ rfl rfl ?_;walk_at "s1";unfold AK;walk_at "db0"
variable(k15:Ck E W3 2 "number_at" 2)
theorem eU(Y:FH E.K "behind" (top 55)):Ck E OF 3 "behind" 1:=by refine K8 ["text", "at", "sign"] ["text", "at", "sign"] zx Y ?_ ?_ rfl rfl ?_;walk_at "s1";unfold eM;walk_at "db0"
variable(k16:Ck E OF 3 "behind" 1)
include k14 k16 in
theorem OZ(Y:FH E.K "text_at" (top 52)):Ck E F_text_at 2 "text_at" 2:=by refine K8 ["text", "at", "end"] ["text", "at"] zx Y ?_ ?_ rfl rfl ?_;walk_at "s1";unfold nL;walk_at "db0"
variable(k17:Ck E F_text_at 2 "text_at" 2)
include k15 k17 in
theorem Nz(Y:FH E.K "value_at" (top 47)):Ck E SD 3 "value_at" 3:=by refine K8 ["text", "at", "depth"] ["text", "at", "depth"] zx Y ?_ ?_ rfl rfl ?_;walk_at "s1";unfold UC;walk_at "db0"
variable(k18:Ck E SD 3 "value_at" 3)
theorem Qc(Y:FH E.K "lists_in_form" (top 36)):Ck E mK 1 "lists_in_form" 1:=by refine K8 ["lists"] ["lists"] zx Y ?_ ?_ rfl rfl ?_;walk_at "s1";unfold CP;walk_at "db0"
variable(k19:Ck E mK 1 "lists_in_form" 1)
theorem Bx(Y:FH E.K "records_in_form" (top 37)):Ck E W6 1 "records_in_form" 1:=by refine K8 ["records"] ["records"] zx Y ?_ ?_ rfl rfl ?_;walk_at "s1";unfold UM;walk_at "db0"
variable(k20:Ck E W6 1 "records_in_form" 1)
include k19 k20 in
theorem AU(Y:FH E.K "made" (top 35)):Ck E i9 5 "made" 2:=by refine K8 ["numbers", "texts", "truths", "lists", "records", "parts"] ["numbers", "texts", "truths", "lists", "records"] zx Y ?_ ?_ rfl rfl ?_;walk_at "s1";unfold vM;walk_at "db0"
variable(k21:Ck E i9 5 "made" 2)
theorem Cq(Y:FH E.K "marked" (top 18)):Ck E mB 1 "marked" 1:=by refine K8 ["texts"] ["texts"] zx Y ?_ ?_ rfl rfl ?_;walk_at "s1";unfold CJ;walk_at "db0"
variable(k22:Ck E mB 1 "marked" 1)
theorem ie(Y:FH E.K "text_order" (top 8)):Ck E K1 1 "text_order" 1:=by refine K8 ["text"] ["text"] zx Y ?_ ?_ rfl rfl ?_;walk_at "s1";unfold BI;walk_at "db0"
variable(k23:Ck E K1 1 "text_order" 1)
include k22 k23 in
theorem Nv(Y:FH E.K "rising_texts" (top 19)):Ck E M4 1 "rising_texts" 4:=by refine K8 ["texts"] ["texts"] zx Y ?_ ?_ rfl rfl ?_;walk_at "s1";unfold OI;walk_at "db0"
variable(k24:Ck E M4 1 "rising_texts" 4)
include k17 k21 k24 in
theorem dj(Y:FH E.K "but_at" (top 66)):Ck E FD 2 "but_at" 5:=by refine K8 ["text", "at", "texts", "found"] ["text", "at"] zx Y ?_ ?_ rfl rfl ?_;walk_at "s1";unfold VE;unfold UZ UB UT;walk_at "db0"
variable(k25:Ck E FD 2 "but_at" 5)
theorem bz(Y:FH E.K "is_empty" (top 10)):Ck E VG 2 "is_empty" 1:=by refine K8 ["low", "high"] ["low", "high"] zx Y ?_ ?_ rfl rfl ?_;walk_at "s1";unfold lN;walk_at "db0"
variable(k26:Ck E VG 2 "is_empty" 1)
include k21 k26 in
theorem kX(Y:FH E.K "stretch" (top 32)):Ck E W0 2 "stretch" 3:=by refine K8 ["low", "high"] ["low", "high"] zx Y ?_ ?_ rfl rfl ?_;walk_at "s1";unfold IK;walk_at "db0"
variable(k27:Ck E W0 2 "stretch" 3)
include k14 in
theorem PZ(Y:FH E.K "begins_number" (top 65)):Ck E Q6 2 "begins_number" 2:=by refine K8 ["text", "at"] ["text", "at"] zx Y ?_ ?_ rfl rfl ?_;walk_at "s1";unfold KM;walk_at "db0"
variable(k28:Ck E Q6 2 "begins_number" 2)
include k15 k27 k28 in
theorem Ng(Y:FH E.K "stretch_at" (top 64)):Ck E Q4 3 "stretch_at" 4:=by refine K8 ["text", "at", "low", "start", "found"] ["text", "at", "low"] zx Y ?_ ?_ rfl rfl ?_;walk_at "s1";unfold oG;walk_at "db0"
variable(k29:Ck E Q4 3 "stretch_at" 4)
theorem EZ(Y:FH E.K "is_whole" (top 5)):Ck E iD 1 "is_whole" 1:=by refine K8 ["thing"] ["thing"] zx Y ?_ ?_ rfl rfl ?_;walk_at "s1";unfold GN;walk_at "db0"
variable(k30:Ck E iD 1 "is_whole" 1)
include k21 k27 in
theorem ic(Y:FH E.K "set_of" (top 30)):Ck E aB 1 "set_of" 4:=by refine K8 ["value"] ["value"] zx Y ?_ ?_ rfl rfl ?_;walk_at "s1";unfold QN;walk_at "db0"
variable(k31:Ck E aB 1 "set_of" 4)
theorem ip(Y:FH E.K "kind_set" (top 31)):Ck E VH 1 "kind_set" 1:=by refine K8 ["kind"] ["kind"] zx Y ?_ ?_ rfl rfl ?_;walk_at "s1";unfold MN;walk_at "db0"
variable(k32:Ck E VH 1 "kind_set" 1)
include k18 k25 k29 k30 k31 k32 in
theorem VX(Y:FH E.K "word_at" (top 63)):Ck E R4 3 "word_at" 6:=by refine K8 ["text", "at", "depth", "kind", "found"] ["text", "at", "depth"] zx Y ?_ ?_ rfl rfl ?_;walk_at "s1";unfold T8;unfold WZ WL WK;walk_at "db0"
variable(k33:Ck E R4 3 "word_at" 6)
include k33 in
theorem Bj(Y:FH E.K "words_at" (top 62)):Ck E sG 3 "words_at" 7:=by refine K8 ["text", "at", "depth", "words", "found"] ["text", "at", "depth"] zx Y ?_ ?_ rfl rfl ?_;walk_at "s1";unfold UE;unfold VBd VZ;walk_at "db0"
variable(k34:Ck E sG 3 "words_at" 7)
theorem Qh(Y:FH E.K "low_order" (top 12)):Ck E w6 1 "low_order" 1:=by refine K8 ["stretch"] ["stretch"] zx Y ?_ ?_ rfl rfl ?_;walk_at "s1";unfold SM;walk_at "db0"
variable(k35:Ck E w6 1 "low_order" 1)
theorem iq(Y:FH E.K "lies_clear" (top 11)):Ck E GE 2 "lies_clear" 1:=by refine K8 ["lower", "upper"] ["lower", "upper"] zx Y ?_ ?_ rfl rfl ?_;walk_at "s1";unfold lM;walk_at "db0"
variable(k36:Ck E GE 2 "lies_clear" 1)
theorem Lg(Y:FH E.K "farther_high" (top 14)):Ck E X4 2 "farther_high" 1:=by refine K8 ["one", "other"] ["one", "other"] zx Y ?_ ?_ rfl rfl ?_;walk_at "s1";unfold CM;walk_at "db0"
variable(k37:Ck E X4 2 "farther_high" 1)
include k35 k36 k37 in
theorem aw(Y:FH E.K "numbers_of" (top 13)):Ck E vG 1 "numbers_of" 4:=by refine K8 ["pairs", "merged", "pair"] ["pairs"] zx Y ?_ ?_ rfl rfl ?_;walk_at "s1";unfold tF;unfold JB;walk_at "db0"
variable(k38:Ck E vG 1 "numbers_of" 4)
theorem ET(Y:FH E.K "turned" (top 17)):Ck E qC 1 "turned" 1:=by refine K8 ["texts"] ["texts"] zx Y ?_ ?_ rfl rfl ?_;walk_at "s1";unfold IL;walk_at "db0"
variable(k39:Ck E qC 1 "turned" 1)
include k24 in
theorem VW(Y:FH E.K "in_either" (top 22)):Ck E fE 2 "in_either" 5:=by refine K8 ["one", "other"] ["one", "other"] zx Y ?_ ?_ rfl rfl ?_;walk_at "s1";unfold kJ;walk_at "db0"
variable(k40:Ck E fE 2 "in_either" 5)
include k22 in
theorem Wb(Y:FH E.K "in_both" (top 20)):Ck E VD 2 "in_both" 2:=by refine K8 ["one", "other", "there"] ["one", "other"] zx Y ?_ ?_ rfl rfl ?_;walk_at "s1";unfold nK;walk_at "db0"
variable(k41:Ck E VD 2 "in_both" 2)
include k22 in
theorem lW(Y:FH E.K "without" (top 21)):Ck E lC 2 "without" 2:=by refine K8 ["one", "other", "there"] ["one", "other"] zx Y ?_ ?_ rfl rfl ?_;walk_at "s1";unfold tH;walk_at "db0"
variable(k42:Ck E lC 2 "without" 2)
include k40 k41 k42 in
theorem Dc(Y:FH E.K "meet_texts" (top 15)):Ck E X3 2 "meet_texts" 6:=by refine K8 ["one", "other"] ["one", "other"] zx Y ?_ ?_ rfl rfl ?_;walk_at "s1";unfold WH;walk_at "db0"
variable(k43:Ck E X3 2 "meet_texts" 6)
include k39 k43 in
theorem il(Y:FH E.K "join_texts" (top 16)):Ck E uF 2 "join_texts" 7:=by refine K8 ["one", "other"] ["one", "other"] zx Y ?_ ?_ rfl rfl ?_;walk_at "s1";unfold sE;walk_at "db0"
variable(k44:Ck E uF 2 "join_texts" 7)
theorem Cm(Y:FH E.K "join_lists" (top 40)):Ck E GK 2 "join_lists" 1:=by refine K8 ["one", "other", "shorter", "fronts", "more"] ["one", "other"] zx Y ?_ ?_ rfl rfl ?_;walk_at "s1";unfold KP;walk_at "db0"
variable(k45:Ck E GK 2 "join_lists" 1)
theorem IZ(Y:FH E.K "join_records" (top 41)):Ck E uJ 2 "join_records" 1:=by refine K8 ["one", "other", "fields"] ["one", "other"] zx Y ?_ ?_ rfl rfl ?_;walk_at "s1";unfold OO;walk_at "db0"
variable(k46:Ck E uJ 2 "join_records" 1)
include k21 k38 k44 k45 k46 in
theorem Qm(Y:FH E.K "join" (top 39)):Ck E BE 2 "join" 8:=by refine K8 ["one", "other"] ["one", "other"] zx Y ?_ ?_ rfl rfl ?_;walk_at "s1";unfold EK;walk_at "db0"
variable(k47:Ck E BE 2 "join" 8)
include k47 in
theorem Sw(Y:FH E.K "join_all" (top 43)):Ck E iG 1 "join_all" 9:=by refine K8 ["sets", "waiting", "joined"] ["sets"] zx Y ?_ ?_ rfl rfl ?_;walk_at "s1";unfold BG;unfold JAT JAE;walk_at "db0"
variable(k48:Ck E iG 1 "join_all" 9)
include k13 k34 k48 in
theorem Vb(Y:FH E.K "whole_at" (top 58)):Ck E kK 2 "whole_at" 10:=by refine K8 ["text", "at", "found", "words"] ["text", "at"] zx Y ?_ ?_ rfl rfl ?_;walk_at "s1";unfold kH;walk_at "db0"
variable(k49:Ck E kK 2 "whole_at" 10)
include k49 in
theorem Wf(Y:FH E.K "read_set" (top 57)):Ck E RC 1 "read_set" 11:=by refine K8 ["text", "found", "fault"] ["text"] zx Y ?_ ?_ rfl rfl ?_;walk_at "s1";unfold UJ;walk_at "db0"
variable(k50:Ck E RC 1 "read_set" 11)
end
set_option maxHeartbeats 4000000 in
theorem all_mk{l:PySem.W.OpenLaw}{w:jg}{K:zj}{h:Heap}{mg:Str->Option zh}{fa:Addr}(X:K.In h)(G:h.Ns jz mg)(hfa:mg "law" =some (.ref fa))(Z0:FHs K top ["_law_draws", "_law_same", "_law_take", "_law_number", "_law_stretch_shown", "_law_end", "_law_number_told", "_law_word", "_law_text_told", "_law_word_told", "_law_joined", "_law_ranked", "_law_texts_of", "alone_at", "run_end", "number_at", "behind", "text_at", "value_at", "lists_in_form", "records_in_form", "made", "marked", "text_order", "rising_texts"] [73,81,74,75,80,77,82,76,83,84,78,79,85,59,54,53,55,52,47,36,37,35,18,8,19])(Z25:FHs K top ["but_at", "is_empty", "stretch", "begins_number", "stretch_at", "is_whole", "set_of", "kind_set", "word_at", "words_at", "low_order", "lies_clear", "farther_high", "numbers_of", "turned", "in_either", "in_both", "without", "meet_texts", "join_texts", "join_lists", "join_records", "join", "join_all", "whole_at"] [66,10,32,65,64,5,30,31,63,62,12,11,14,13,17,22,20,21,15,16,40,41,39,43,58])(Z50:FHs K top ["read_set", "law"] [57,86])
 (g_ANY:CC K mg "ANY" LM)
 (g_NOTHING:CC K mg "NOTHING" NO)
 (g_MOST_FIGURES:CC K mg "MOST_FIGURES" cQ)
 (g_MOST_DEEP:CC K mg "MOST_DEEP" rQ)
 (g_ALL_PARTS:CC K mg "ALL_PARTS" SN)
 {a_KIND_SETS:Addr} {n_KIND_SETS:Nat} {t_KIND_SETS_k0:Tok} {t_KIND_SETS_k1:Tok} {t_KIND_SETS_k2:Tok} {t_KIND_SETS_k3:Tok} {t_KIND_SETS_k4:Tok} {a_KIND_SETS_0:Addr} {n_KIND_SETS_0:Nat} {sl_KIND_SETS_0:Array (Option zh)} {a_KIND_SETS_0_0:Addr} {n_KIND_SETS_0_0:Nat} {sl_KIND_SETS_0_0:Array (Option zh)} {a_KIND_SETS_0_0_0:Addr} {n_KIND_SETS_0_0_0:Nat} {sl_KIND_SETS_0_0_0:Array (Option zh)} {a_KIND_SETS_0_1:Addr} {n_KIND_SETS_0_1:Nat} {sl_KIND_SETS_0_1:Array (Option zh)} {t_KIND_SETS_0_1_0:Tok} {a_KIND_SETS_0_1_1:Addr} {n_KIND_SETS_0_1_1:Nat} {sl_KIND_SETS_0_1_1:Array (Option zh)} {a_KIND_SETS_0_2:Addr} {n_KIND_SETS_0_2:Nat} {sl_KIND_SETS_0_2:Array (Option zh)} {a_KIND_SETS_1:Addr} {n_KIND_SETS_1:Nat} {sl_KIND_SETS_1:Array (Option zh)} {a_KIND_SETS_1_0:Addr} {n_KIND_SETS_1_0:Nat} {sl_KIND_SETS_1_0:Array (Option zh)} {a_KIND_SETS_1_1:Addr} {n_KIND_SETS_1_1:Nat} {sl_KIND_SETS_1_1:Array (Option zh)} {t_KIND_SETS_1_1_0:Tok} {a_KIND_SETS_1_1_1:Addr} {n_KIND_SETS_1_1_1:Nat} {sl_KIND_SETS_1_1_1:Array (Option zh)} {a_KIND_SETS_1_2:Addr} {n_KIND_SETS_1_2:Nat} {sl_KIND_SETS_1_2:Array (Option zh)} {a_KIND_SETS_2:Addr} {n_KIND_SETS_2:Nat} {sl_KIND_SETS_2:Array (Option zh)} {a_KIND_SETS_2_0:Addr} {n_KIND_SETS_2_0:Nat} {sl_KIND_SETS_2_0:Array (Option zh)} {a_KIND_SETS_2_1:Addr} {n_KIND_SETS_2_1:Nat} {sl_KIND_SETS_2_1:Array (Option zh)} {t_KIND_SETS_2_1_0:Tok} {a_KIND_SETS_2_1_1:Addr} {n_KIND_SETS_2_1_1:Nat} {sl_KIND_SETS_2_1_1:Array (Option zh)} {a_KIND_SETS_2_2:Addr} {n_KIND_SETS_2_2:Nat} {sl_KIND_SETS_2_2:Array (Option zh)} {a_KIND_SETS_3:Addr} {n_KIND_SETS_3:Nat} {sl_KIND_SETS_3:Array (Option zh)} {a_KIND_SETS_3_0:Addr} {n_KIND_SETS_3_0:Nat} {sl_KIND_SETS_3_0:Array (Option zh)} {a_KIND_SETS_3_1:Addr} {n_KIND_SETS_3_1:Nat} {sl_KIND_SETS_3_1:Array (Option zh)} {t_KIND_SETS_3_1_0:Tok} {a_KIND_SETS_3_1_1:Addr} {n_KIND_SETS_3_1_1:Nat} {sl_KIND_SETS_3_1_1:Array (Option zh)} {a_KIND_SETS_3_2:Addr} {n_KIND_SETS_3_2:Nat} {sl_KIND_SETS_3_2:Array (Option zh)} {a_KIND_SETS_3_3:Addr} {n_KIND_SETS_3_3:Nat} {sl_KIND_SETS_3_3:Array (Option zh)} {a_KIND_SETS_3_3_0:Addr} {n_KIND_SETS_3_3_0:Nat} {sl_KIND_SETS_3_3_0:Array (Option zh)} {t_KIND_SETS_3_3_1:Tok} {a_KIND_SETS_4:Addr} {n_KIND_SETS_4:Nat} {sl_KIND_SETS_4:Array (Option zh)} {a_KIND_SETS_4_0:Addr} {n_KIND_SETS_4_0:Nat} {sl_KIND_SETS_4_0:Array (Option zh)} {a_KIND_SETS_4_1:Addr} {n_KIND_SETS_4_1:Nat} {sl_KIND_SETS_4_1:Array (Option zh)} {t_KIND_SETS_4_1_0:Tok} {a_KIND_SETS_4_1_1:Addr} {n_KIND_SETS_4_1_1:Nat} {sl_KIND_SETS_4_1_1:Array (Option zh)} {a_KIND_SETS_4_2:Addr} {n_KIND_SETS_4_2:Nat} {sl_KIND_SETS_4_2:Array (Option zh)} {a_KIND_SETS_4_4:Addr} {n_KIND_SETS_4_4:Nat} {sl_KIND_SETS_4_4:Array (Option zh)} {a_KIND_SETS_4_4_0:Addr} {n_KIND_SETS_4_4_0:Nat} {sl_KIND_SETS_4_4_0:Array (Option zh)} {t_KIND_SETS_4_4_1:Tok}
 (g_KIND_SETS:xU K jz "KIND_SETS" =some (some (.ref a_KIND_SETS))) (l_KIND_SETS:K.lookup a_KIND_SETS=some ⟨.type "dict",none,.dict #[{hash:=yp w.params "number",key:=.str "number" t_KIND_SETS_k0,val:=.ref a_KIND_SETS_0},{hash:=yp w.params "text",key:=.str "text" t_KIND_SETS_k1,val:=.ref a_KIND_SETS_1},{hash:=yp w.params "truth",key:=.str "truth" t_KIND_SETS_k2,val:=.ref a_KIND_SETS_2},{hash:=yp w.params "list",key:=.str "list" t_KIND_SETS_k3,val:=.ref a_KIND_SETS_3},{hash:=yp w.params "record",key:=.str "record" t_KIND_SETS_k4,val:=.ref a_KIND_SETS_4}] n_KIND_SETS, #[]⟩) (l_KIND_SETS_0:K.lookup a_KIND_SETS_0=some ⟨.type "tuple",none,.seq #[.ref a_KIND_SETS_0_0,.ref a_KIND_SETS_0_1,.ref a_KIND_SETS_0_2,.none,.none] n_KIND_SETS_0,sl_KIND_SETS_0⟩) (l_KIND_SETS_0_0:K.lookup a_KIND_SETS_0_0=some ⟨.type "tuple",none,.seq #[.ref a_KIND_SETS_0_0_0] n_KIND_SETS_0_0,sl_KIND_SETS_0_0⟩) (l_KIND_SETS_0_0_0:K.lookup a_KIND_SETS_0_0_0=some ⟨.type "tuple",none,.seq #[.none,.none] n_KIND_SETS_0_0_0,sl_KIND_SETS_0_0_0⟩) (l_KIND_SETS_0_1:K.lookup a_KIND_SETS_0_1=some ⟨.type "tuple",none,.seq #[.str "of" t_KIND_SETS_0_1_0,.ref a_KIND_SETS_0_1_1] n_KIND_SETS_0_1,sl_KIND_SETS_0_1⟩) (l_KIND_SETS_0_1_1:K.lookup a_KIND_SETS_0_1_1=some ⟨.type "tuple",none,.seq #[] n_KIND_SETS_0_1_1,sl_KIND_SETS_0_1_1⟩) (l_KIND_SETS_0_2:K.lookup a_KIND_SETS_0_2=some ⟨.type "tuple",none,.seq #[] n_KIND_SETS_0_2,sl_KIND_SETS_0_2⟩) (l_KIND_SETS_1:K.lookup a_KIND_SETS_1=some ⟨.type "tuple",none,.seq #[.ref a_KIND_SETS_1_0,.ref a_KIND_SETS_1_1,.ref a_KIND_SETS_1_2,.none,.none] n_KIND_SETS_1,sl_KIND_SETS_1⟩) (l_KIND_SETS_1_0:K.lookup a_KIND_SETS_1_0=some ⟨.type "tuple",none,.seq #[] n_KIND_SETS_1_0,sl_KIND_SETS_1_0⟩) (l_KIND_SETS_1_1:K.lookup a_KIND_SETS_1_1=some ⟨.type "tuple",none,.seq #[.str "but" t_KIND_SETS_1_1_0,.ref a_KIND_SETS_1_1_1] n_KIND_SETS_1_1,sl_KIND_SETS_1_1⟩) (l_KIND_SETS_1_1_1:K.lookup a_KIND_SETS_1_1_1=some ⟨.type "tuple",none,.seq #[] n_KIND_SETS_1_1_1,sl_KIND_SETS_1_1_1⟩) (l_KIND_SETS_1_2:K.lookup a_KIND_SETS_1_2=some ⟨.type "tuple",none,.seq #[] n_KIND_SETS_1_2,sl_KIND_SETS_1_2⟩) (l_KIND_SETS_2:K.lookup a_KIND_SETS_2=some ⟨.type "tuple",none,.seq #[.ref a_KIND_SETS_2_0,.ref a_KIND_SETS_2_1,.ref a_KIND_SETS_2_2,.none,.none] n_KIND_SETS_2,sl_KIND_SETS_2⟩) (l_KIND_SETS_2_0:K.lookup a_KIND_SETS_2_0=some ⟨.type "tuple",none,.seq #[] n_KIND_SETS_2_0,sl_KIND_SETS_2_0⟩) (l_KIND_SETS_2_1:K.lookup a_KIND_SETS_2_1=some ⟨.type "tuple",none,.seq #[.str "of" t_KIND_SETS_2_1_0,.ref a_KIND_SETS_2_1_1] n_KIND_SETS_2_1,sl_KIND_SETS_2_1⟩) (l_KIND_SETS_2_1_1:K.lookup a_KIND_SETS_2_1_1=some ⟨.type "tuple",none,.seq #[] n_KIND_SETS_2_1_1,sl_KIND_SETS_2_1_1⟩) (l_KIND_SETS_2_2:K.lookup a_KIND_SETS_2_2=some ⟨.type "tuple",none,.seq #[.bool false,.bool true] n_KIND_SETS_2_2,sl_KIND_SETS_2_2⟩) (l_KIND_SETS_3:K.lookup a_KIND_SETS_3=some ⟨.type "tuple",none,.seq #[.ref a_KIND_SETS_3_0,.ref a_KIND_SETS_3_1,.ref a_KIND_SETS_3_2,.ref a_KIND_SETS_3_3,.none] n_KIND_SETS_3,sl_KIND_SETS_3⟩) (l_KIND_SETS_3_0:K.lookup a_KIND_SETS_3_0=some ⟨.type "tuple",none,.seq #[] n_KIND_SETS_3_0,sl_KIND_SETS_3_0⟩) (l_KIND_SETS_3_1:K.lookup a_KIND_SETS_3_1=some ⟨.type "tuple",none,.seq #[.str "of" t_KIND_SETS_3_1_0,.ref a_KIND_SETS_3_1_1] n_KIND_SETS_3_1,sl_KIND_SETS_3_1⟩) (l_KIND_SETS_3_1_1:K.lookup a_KIND_SETS_3_1_1=some ⟨.type "tuple",none,.seq #[] n_KIND_SETS_3_1_1,sl_KIND_SETS_3_1_1⟩) (l_KIND_SETS_3_2:K.lookup a_KIND_SETS_3_2=some ⟨.type "tuple",none,.seq #[] n_KIND_SETS_3_2,sl_KIND_SETS_3_2⟩) (l_KIND_SETS_3_3:K.lookup a_KIND_SETS_3_3=some ⟨.type "tuple",none,.seq #[.ref a_KIND_SETS_3_3_0,.str "any" t_KIND_SETS_3_3_1] n_KIND_SETS_3_3,sl_KIND_SETS_3_3⟩) (l_KIND_SETS_3_3_0:K.lookup a_KIND_SETS_3_3_0=some ⟨.type "tuple",none,.seq #[] n_KIND_SETS_3_3_0,sl_KIND_SETS_3_3_0⟩) (l_KIND_SETS_4:K.lookup a_KIND_SETS_4=some ⟨.type "tuple",none,.seq #[.ref a_KIND_SETS_4_0,.ref a_KIND_SETS_4_1,.ref a_KIND_SETS_4_2,.none,.ref a_KIND_SETS_4_4] n_KIND_SETS_4,sl_KIND_SETS_4⟩) (l_KIND_SETS_4_0:K.lookup a_KIND_SETS_4_0=some ⟨.type "tuple",none,.seq #[] n_KIND_SETS_4_0,sl_KIND_SETS_4_0⟩) (l_KIND_SETS_4_1:K.lookup a_KIND_SETS_4_1=some ⟨.type "tuple",none,.seq #[.str "of" t_KIND_SETS_4_1_0,.ref a_KIND_SETS_4_1_1] n_KIND_SETS_4_1,sl_KIND_SETS_4_1⟩) (l_KIND_SETS_4_1_1:K.lookup a_KIND_SETS_4_1_1=some ⟨.type "tuple",none,.seq #[] n_KIND_SETS_4_1_1,sl_KIND_SETS_4_1_1⟩) (l_KIND_SETS_4_2:K.lookup a_KIND_SETS_4_2=some ⟨.type "tuple",none,.seq #[] n_KIND_SETS_4_2,sl_KIND_SETS_4_2⟩) (l_KIND_SETS_4_4:K.lookup a_KIND_SETS_4_4=some ⟨.type "tuple",none,.seq #[.ref a_KIND_SETS_4_4_0,.str "any" t_KIND_SETS_4_4_1] n_KIND_SETS_4_4,sl_KIND_SETS_4_4⟩) (l_KIND_SETS_4_4_0:K.lookup a_KIND_SETS_4_4_0=some ⟨.type "tuple",none,.seq #[] n_KIND_SETS_4_4_0,sl_KIND_SETS_4_4_0⟩)
 (z:∀b∈bltL,xU K jz b=some none) (pure:∀ns:List Int,ns.length<=63->∃G',TJ [.ref 0] [.rol (ns.map D.int)]=some (.ok (.bl true),G')):
 ∃fd:xP,(∀(s:zv) (v:zh),YL s fd ⟨[v], []⟩ [("script",v)])/\∀base:Heap,K.In base->base.Ns jz mg->E2 l.prog w K mg base CX0 12 fa fd ["script"] (dG K):=by
 obtain⟨Y0,Y1,Y2,Y3,Y4,Y5,Y6,Y7,Y8,Y9,Y10,Y11,Y12,Y13,Y14,Y15,Y16,Y17,Y18,Y19,Y20,Y21,Y22,Y23,Y24,_⟩:=Z0;obtain⟨Y25,Y26,Y27,Y28,Y29,Y30,Y31,Y32,Y33,Y34,Y35,Y36,Y37,Y38,Y39,Y40,Y41,Y42,Y43,Y44,Y45,Y46,Y47,Y48,Y49,_⟩:=Z25;obtain⟨Y50,Y51,_⟩:=Z50;have zb:BC w K mg:=⟨BLs.of X G z,g_ANY.ok X G,g_NOTHING.ok X G,g_MOST_FIGURES.ok X G,g_MOST_DEEP.ok X G,g_ALL_PARTS.ok X G,⟨⟨_, [{hash:=yp w.params "number",key:=.str "number" t_KIND_SETS_k0,val:=.ref a_KIND_SETS_0},{hash:=yp w.params "text",key:=.str "text" t_KIND_SETS_k1,val:=.ref a_KIND_SETS_1},{hash:=yp w.params "truth",key:=.str "truth" t_KIND_SETS_k2,val:=.ref a_KIND_SETS_2},{hash:=yp w.params "list",key:=.str "list" t_KIND_SETS_k3,val:=.ref a_KIND_SETS_3},{hash:=yp w.params "record",key:=.str "record" t_KIND_SETS_k4,val:=.ref a_KIND_SETS_4}],_,ZH X G g_KIND_SETS,l_KIND_SETS,.cons (cr_tup (us:= [.ref a_KIND_SETS_0_0,.ref a_KIND_SETS_0_1,.ref a_KIND_SETS_0_2,.none,.none]) l_KIND_SETS_0 rfl (crl_cons (cr_tup (us:= [.ref a_KIND_SETS_0_0_0]) l_KIND_SETS_0_0 rfl (crl_cons (cr_tup (us:= [.none,.none]) l_KIND_SETS_0_0_0 rfl (crl_cons (cr_non) (crl_cons (cr_non) (crl_nil)))) (crl_nil))) (crl_cons (cr_tup (us:= [.str "of" t_KIND_SETS_0_1_0,.ref a_KIND_SETS_0_1_1]) l_KIND_SETS_0_1 rfl (crl_cons (cr_str) (crl_cons (cr_tup (us:= []) l_KIND_SETS_0_1_1 rfl (crl_nil)) (crl_nil)))) (crl_cons (cr_tup (us:= []) l_KIND_SETS_0_2 rfl (crl_nil)) (crl_cons (cr_non) (crl_cons (cr_non) (crl_nil))))))) (.cons (cr_tup (us:= [.ref a_KIND_SETS_1_0,.ref a_KIND_SETS_1_1,.ref a_KIND_SETS_1_2,.none,.none]) l_KIND_SETS_1 rfl (crl_cons (cr_tup (us:= []) l_KIND_SETS_1_0 rfl (crl_nil)) (crl_cons (cr_tup (us:= [.str "but" t_KIND_SETS_1_1_0,.ref a_KIND_SETS_1_1_1]) l_KIND_SETS_1_1 rfl (crl_cons (cr_str) (crl_cons (cr_tup (us:= []) l_KIND_SETS_1_1_1 rfl (crl_nil)) (crl_nil)))) (crl_cons (cr_tup (us:= []) l_KIND_SETS_1_2 rfl (crl_nil)) (crl_cons (cr_non) (crl_cons (cr_non) (crl_nil))))))) (.cons (cr_tup (us:= [.ref a_KIND_SETS_2_0,.ref a_KIND_SETS_2_1,.ref a_KIND_SETS_2_2,.none,.none]) l_KIND_SETS_2 rfl (crl_cons (cr_tup (us:= []) l_KIND_SETS_2_0 rfl (crl_nil)) (crl_cons (cr_tup (us:= [.str "of" t_KIND_SETS_2_1_0,.ref a_KIND_SETS_2_1_1]) l_KIND_SETS_2_1 rfl (crl_cons (cr_str) (crl_cons (cr_tup (us:= []) l_KIND_SETS_2_1_1 rfl (crl_nil)) (crl_nil)))) (crl_cons (cr_tup (us:= [.bool false,.bool true]) l_KIND_SETS_2_2 rfl (crl_cons (cr_bl) (crl_cons (cr_bl) (crl_nil)))) (crl_cons (cr_non) (crl_cons (cr_non) (crl_nil))))))) (.cons (cr_tup (us:= [.ref a_KIND_SETS_3_0,.ref a_KIND_SETS_3_1,.ref a_KIND_SETS_3_2,.ref a_KIND_SETS_3_3,.none]) l_KIND_SETS_3 rfl (crl_cons (cr_tup (us:= []) l_KIND_SETS_3_0 rfl (crl_nil)) (crl_cons (cr_tup (us:= [.str "of" t_KIND_SETS_3_1_0,.ref a_KIND_SETS_3_1_1]) l_KIND_SETS_3_1 rfl (crl_cons (cr_str) (crl_cons (cr_tup (us:= []) l_KIND_SETS_3_1_1 rfl (crl_nil)) (crl_nil)))) (crl_cons (cr_tup (us:= []) l_KIND_SETS_3_2 rfl (crl_nil)) (crl_cons (cr_tup (us:= [.ref a_KIND_SETS_3_3_0,.str "any" t_KIND_SETS_3_3_1]) l_KIND_SETS_3_3 rfl (crl_cons (cr_tup (us:= []) l_KIND_SETS_3_3_0 rfl (crl_nil)) (crl_cons (cr_str) (crl_nil)))) (crl_cons (cr_non) (crl_nil))))))) (.cons (cr_tup (us:= [.ref a_KIND_SETS_4_0,.ref a_KIND_SETS_4_1,.ref a_KIND_SETS_4_2,.none,.ref a_KIND_SETS_4_4]) l_KIND_SETS_4 rfl (crl_cons (cr_tup (us:= []) l_KIND_SETS_4_0 rfl (crl_nil)) (crl_cons (cr_tup (us:= [.str "of" t_KIND_SETS_4_1_0,.ref a_KIND_SETS_4_1_1]) l_KIND_SETS_4_1 rfl (crl_cons (cr_str) (crl_cons (cr_tup (us:= []) l_KIND_SETS_4_1_1 rfl (crl_nil)) (crl_nil)))) (crl_cons (cr_tup (us:= []) l_KIND_SETS_4_2 rfl (crl_nil)) (crl_cons (cr_non) (crl_cons (cr_tup (us:= [.ref a_KIND_SETS_4_4_0,.str "any" t_KIND_SETS_4_4_1]) l_KIND_SETS_4_4 rfl (crl_cons (cr_tup (us:= []) l_KIND_SETS_4_4_0 rfl (crl_nil)) (crl_cons (cr_str) (crl_nil)))) (crl_nil))))))) (.nil)))))⟩,by decide⟩⟩;refine tY (N:= ["script", "draws", "told", "words", "truths", "due"]) X G hfa Y51 (by walk_at "ba") (by walk_at "sc") rfl (λ_ _ _ _ _ _ s v=>.of_eq rfl) (λbase=>?_) pure;have zx:EvX ⟨l.prog,w,K,mg,base⟩:=⟨h,X,G⟩;have k0:=Pg zx zb Y0;have k1:=bi zx zb Y1;have k2:=cv zx zb Y2;have k3:=iV zx zb k2 Y3;have k4:=Kk zx zb Y4;have k5:=wg zx zb Y5;have k6:=Fk zx zb k2 k3 k4 k5 Y6;have k7:=kW zx zb k2 Y7;have k8:=oW zx zb k2 k7 Y8;have k9:=wq zx zb k2 k6 k8 Y9;have k10:=Wj zx zb k5 Y10;have k11:=Rx zx zb Y11;have k12:=qV zx zb k11 Y12;have k13:=BW zx zb Y13;have k14:=Hq zx zb Y14;have k15:=uV zx zb k14 Y15;have k16:=eU zx zb Y16;have k17:=OZ zx zb k14 k16 Y17;have k18:=Nz zx zb k15 k17 Y18;have k19:=Qc zx zb Y19;have k20:=Bx zx zb Y20;have k21:=AU zx zb k19 k20 Y21;have k22:=Cq zx zb Y22;have k23:=ie zx zb Y23;have k24:=Nv zx zb k22 k23 Y24;have k25:=dj zx zb k17 k21 k24 Y25;have k26:=bz zx zb Y26;have k27:=kX zx zb k21 k26 Y27;have k28:=PZ zx zb k14 Y28;have k29:=Ng zx zb k15 k27 k28 Y29;have k30:=EZ zx zb Y30;have k31:=ic zx zb k21 k27 Y31;have k32:=ip zx zb Y32;have k33:=VX zx zb k18 k25 k29 k30 k31 k32 Y33;have k34:=Bj zx zb k33 Y34;have k35:=Qh zx zb Y35;have k36:=iq zx zb Y36;have k37:=Lg zx zb Y37;have k38:=aw zx zb k35 k36 k37 Y38;have k39:=ET zx zb Y39;have k40:=VW zx zb k24 Y40;have k41:=Wb zx zb k22 Y41;have k42:=lW zx zb k22 Y42;have k43:=Dc zx zb k40 k41 k42 Y43;have k44:=il zx zb k39 k43 Y44;have k45:=Cm zx zb Y45;have k46:=IZ zx zb Y46;have k47:=Qm zx zb k21 k38 k44 k45 k46 Y47;have k48:=Sw zx zb k47 Y48;have k49:=Vb zx zb k13 k34 k48 Y49;have k50:=Wf zx zb k49 Y50;intro _ _ _ _ _ _ _ _;obtain⟨_,_,_,_,_,_,_⟩:=zb;unfold SG;unfold wlB wlC lwE lwW lwV lwU lwX wlT;walk_at "db0"
mutual
def szD:D->Nat
 | .tup l=>1+szL l
 | .str _=>1
 | .ref _=>1
 | .fn _=>1
 | .ty _=>1
 | .non=>1
 | .bl _=>1
 | .int _=>1
def szL:List D->Nat
 |[]=>0
 |d::r=>szD d+szL r
end
def Ap(G G':DH):Prop:=∃t,G'=G++t
theorem Ap.refl:Ap G G:=⟨[],by simp⟩
theorem Ap.trans(h:Ap G G1)(k:Ap G1 G2):Ap G G2:=by obtain⟨t,rfl⟩:=h;obtain⟨u,rfl⟩:=k;exact⟨t++u,by simp⟩
theorem Ap.one:Ap G (G++[o]):=⟨_,rfl⟩
theorem Ap.at{p:Nat}(h:Ap G G')(e:G[p]? =some o):G'[p]? =some o:=by obtain⟨t,rfl⟩:=h;exact t8 e
section
end
theorem IJ(e:G[p]? =some (.lst xs))(eq:G[q]? =some (.lst [])):Wp (eqD (.ref p) (.ref q)) G Q↔Q (.bl xs.isEmpty) G:=by
 have h:eqN 40 G (.ref p) (.ref q)=some xs.isEmpty:=by
  have h1:Z7 G (.ref p)=some (false,xs):=by simp only[Z7,e]
  have h2:Z7 G (.ref q)=some (false, []):=by simp only[Z7,eq]
  rw[rG,h1,h2]
  cases xs<;>rfl
 rw[aE,h];exact S6
theorem bw{lo hi:Option Int}(e:G[p]? =some (.lst l)):Wp (slD (.ref p) lo hi) G Q↔Q (.ref G.length) (G++[.lst (DL.cutD l lo hi)]):=by
 have h:slD (.ref p) lo hi= (do
  let l <-K4 p >>= DL.listOf
  J8 (.lst (DL.cutD l lo hi))):=rfl
 rw[h];simp only[d9,M6,e,S6,DL.listOf,wp_pure,O5]
theorem big:1000000<zk:=by decide
section
theorem R5:Wp (K9 (n+1) t b σ) G P↔Wp (t σ) G λk G1=>if k=true then Wp (b σ) G1 λfl G2=>match fl with
 | .nx X1=>Wp (K9 n t b X1) G2 P
 | .ct X1=>Wp (K9 n t b X1) G2 P
 | .bk X1=>P (.nx X1) G2
 | .rt d=>P (.rt d) G2
 else P (.nx σ) G1:=by
 rw[K9];simp only[d9,y8,wp_pure];constructor
 · rintro⟨k,G1,e,q⟩;refine⟨k,G1,e,?_⟩;rcases k with _|_
   ·exact q
   ·
     simp only[if_true]at q ⊢;obtain⟨fl,G2,e2,q⟩:=q;refine⟨fl,G2,e2,?_⟩
     cases fl<;>first
      |exact q
      |exact wp_pure.mp q
 · rintro⟨k,G1,e,q⟩;refine⟨k,G1,e,?_⟩;rcases k with _|_
   ·exact q
   ·
     simp only[if_true]at q ⊢;obtain⟨fl,G2,e2,q⟩:=q;refine⟨fl,G2,e2,?_⟩
     cases fl<;>first
      |exact q
      |exact wp_pure.mpr q
theorem rB(h:Wp (K9 n t b σ) G P):Wp (V6 t b σ) G P:=by obtain⟨a,G',e,q⟩:=h;refine⟨a,G',?_,q⟩;have hx:∃n,(K9 n t b σ G).isSome=true:=⟨n,by rw[e];rfl⟩;unfold V6;rw[dif_pos hx];have hs:=Classical.choose_spec hx;obtain⟨r,hr⟩:=Jq.mp hs;rw[hr];have e1:=wO (Nat.le_max_left n (Xb hx)) e;have e2:=wO (Nat.le_max_right n (Xb hx)) hr;rw[e1]at e2;exact e2.symm
end
theorem NP(e:G[p]? =some (.lst xs)):Wp (W9 (.ref p)) G B↔B (!xs.isEmpty) G:=by unfold W9;simp only[d9,M6,e,S6,wp_pure]
theorem lt_of_get{G:DH}(e:G[p]? =some o):p<G.length:=by
 by_cases hi:p<G.length
 ·exact hi
 ·rw[jf (by lia)]at e;exact v6 e
section
variable{bd n:Nat}
end
theorem Tm(l:List D)(n:Nat):DL.cutD l none (some (n:Int))=l.take n:=by
 unfold DL.cutD;rw[HT.sIx_none,HT.sIx_nat,List.drop_zero,Nat.sub_zero];by_cases h:n<=l.length
 ·rw[Nat.min_eq_left h]
 ·rw[Nat.min_eq_right (by lia),yK (zg _),yK (by lia)]
theorem Td(l:List D)(n:Nat):DL.cutD l (some (n:Int)) none=l.drop n:=by
 unfold DL.cutD;rw[HT.sIx_none,HT.sIx_nat];by_cases h:n<=l.length
 ·rw[Nat.min_eq_left h,yK (by rw[xf];lia)]
 ·rw[Nat.min_eq_right (by lia),Yn (zg _),Yn (by lia)];simp
section
variable{G:DH}{Q:DPP}
theorem QR{i:Int}:Wp (TB [.int i]) G Q↔Q (.int (if i<0 then -i else i)) G:=wp_pure
end
section
variable{α β:Type}{R S:α->β->Prop}
end
abbrev tl(z:Str):List Nat:=z.cps.toList
abbrev ofL(l:List Nat):Str:=⟨l.toArray⟩
theorem dA(z:Str):(tl z).length=z.length:=rfl
theorem VS(l:List Nat):tl (ofL l)=l:=rfl
theorem TF{a b:Str}(h:tl a=tl b):a=b:=by obtain⟨⟨a⟩⟩:=a;obtain⟨⟨b⟩⟩:=b;have h:a=b:=h;rw[h]
theorem oO(a b:List Nat):ofL a++ofL b=ofL (a++b):=TF (show tl (ofL a++ofL b)=a++b from Zq)
theorem CF{z p:Str}{pre rest:List Nat}(h:tl z=pre++rest):Z1 z p (pre.length:Int)=decide (tl p <+:rest):=by
 have hl:z.length=pre.length+rest.length:=by rw[<-dA,h,zd]
 have fi:fromIndex z.length (pre.length:Int)=pre.length:=by unfold fromIndex;rw[if_neg (by lia)];lia
 have e:YD z p pre.length=decide (tl p=rest.take p.length):=by rw[Bool.eq_iff_iff,decide_eq_true_iff];unfold YD;rw[beq_iff_eq,<-xc,Array.toList_extract,JK];show List.take (pre.length+p.length-pre.length) (List.drop pre.length (tl z))=tl p↔_;rw[h,List.drop_left,xV];exact eq_comm
 unfold Z1;rw[fi,e,Bool.eq_iff_iff,Bool.and_eq_true_iff,decide_eq_true_iff,decide_eq_true_iff,decide_eq_true_iff,List.prefix_iff_eq_take];refine⟨λk=>k.2,λk=>⟨?_,k⟩⟩;have:=congrArg xF k;rw[jU]at this;have q:(tl p).length=p.length:=rfl;lia
theorem J7{z p:Str}{pre rest r:List Nat}(h:tl z=pre++rest)(k:rest=tl p++r):Z1 z p (pre.length:Int)=true:=by rw[CF h,decide_eq_true_iff,k];exact List.prefix_append ..
def hdN(c:Nat)(rest:List Nat):Prop:=∀d r,rest=d::r->d≠c
theorem vA{z p:Str}{pre rest:List Nat}{c:Nat}{ps:List Nat}(h:tl z=pre++rest)(hp:tl p=c::ps)(k:hdN c rest):Z1 z p (pre.length:Int)=false:=by rw[CF h,decide_eq_false_iff_not,hp];rintro⟨t,e⟩;exact k c (ps++t) e.symm rfl
theorem aJ{f g:Nat->Option Nat}:∀ {l:List Nat},(∀k∈l,f k=g k)->l.filterMap f=l.filterMap g
 |[],_=>rfl
 |a::r,h=>by rw[jG,jG,h a (zt ..),aJ λk hk=>h k (zi _ hk)]
theorem Sm(l:List Nat):(zF l.length).filterMap (λk=>l[k]?)=l:=by
 have e:(zF l.length).filterMap (λk=>l[k]?)= (zF l.length).map λk=>l.getD k 0:=by rw[<-List.filterMap_eq_map];refine aJ λk hk=>?_;have:=jo.mp hk;simp[this]
 rw[e];apply yn
 ·simp
 ·intro i hi hj;simp[hj]
theorem uT(a b n:Nat)(h:a+b<=n):Xe (some (a:Int)) (some ((a:Int)+b)) 1 n= (zF b).map λk=>a+k:=by
 unfold Xe sliceRange;have e1:max 0 (min (a:Int) n)=a:=by lia
 have e2:max 0 (min ((a:Int)+b) n)= (a:Int)+b:=by lia
 simp only[show (1:Int)>0 by decide,if_true,show ¬(a:Int)<0 by lia,show ¬(a:Int)+b<0 by lia,if_false,e1,e2];have e3:(if (a:Int)<(a:Int)+b then ((a:Int)+b-a+1-1) / 1 else 0).toNat=b:=by split<;>lia
 rw[e3];refine ye λk _=>?_;lia
theorem nQ{z:Str}{a b c:List Nat}(h:tl z=a++b++c):ZB z (some (a.length:Int)) (some ((a.length:Int)+b.length))=ofL b:=by
 have hl:z.length=a.length+b.length+c.length:=by rw[<-dA,h,zd,zd]
 unfold ZB;rw[uT _ _ _ (by lia)];split
 ·rename_i k;rw[Bool.and_eq_true_iff,beq_iff_eq,beq_iff_eq,zf,jV]at k;have ha:a= []:=XR (by lia);have hc:c= []:=XR (by lia);subst ha hc;exact TF (by rw[h];simp)
 ·refine TF ?_;show YI (λi=>z.cps[i]?) (ZE (λk=>a.length+k) (zF b.length))=b;rw[yk];refine Eq.trans (aJ λk hk=>?_) (Sm b);have hk:=jo.mp hk;show z.cps[a.length+k]? =b[k]?;rw[<-zL];show (tl z)[a.length+k]? =b[k]?;rw[h,zA,jP (by lia),xV,zE hk]
theorem DF{a c:Nat}{G:DH}{Q:DPP}:Wp (leD (.str ⟨#[a]⟩) (.str ⟨#[c]⟩)) G Q↔Q (.bl (decide (a<=c))) G:=by
 rw[Dj];have:(!decide ((⟨#[c]⟩:Str).cps.toList<(⟨#[a]⟩:Str).cps.toList))=decide (a<=c):=by
  show (!decide ([c] < [a]))=_;by_cases h:a<=c
  · have:¬c<a:=by lia
    simp[h,List.cons_lt_cons_iff,this]
  · have:c<a:=by lia
    simp[h,List.cons_lt_cons_iff,this]
 rw[this]
def dg(m:Nat):List Nat:=(Xw 10 m).map Char.toNat
theorem FA(m:Nat):NumText.AllDigits (dg m):=by intro c hc;obtain⟨ch,hch,e⟩:=zW.mp hc;rw[<-e];exact digit_range (Nat.isDigit_of_mem_toDigits (by decide) (by decide) hch)
theorem BL{m:Nat}(h:¬m<10):dg m=dg (m / 10)++dg (m % 10):=by have hm:m % 10<10:=yQ m (by decide);have t:Xw 10 (m / 10)++Xw 10 (m % 10)=Xw 10 (10*(m / 10)+m % 10):=Nat.toDigits_append_toDigits (by decide) (by lia) hm;rw[Nat.div_add_mod]at t;unfold dg;rw[<-t,zY]
theorem sB{m:Nat}(h:m<10):dg m= [48+m]:=by
 unfold dg;rw[Nat.toDigits_of_lt_base h];have:∀d,d<10->(Nat.digitChar d).toNat=48+d:=by decide
 show [(Nat.digitChar m).toNat]=_;rw[this m h]
theorem wD:∀(k m:Nat),m<10 ^ (k+1)->(dg m).length<=k+1
 |0,m,h=>by rw[sB (by lia)];simp
 |k+1,m,h=>by
   by_cases h':m<10
   ·rw[sB h'];simp
   ·rw[BL h',zd,sB (yQ m (by decide))];have:=wD k (m / 10) (by rw[Nat.pow_succ]at h;lia);simp;lia
theorem pH(m:Nat)(h:0<m):∃c r,dg m=c::r/\49<=c:=by
 induction m using Nat.strongRecOn with
 |_ m ih=>
   by_cases h':m<10
   ·exact⟨48+m, [],sB h',by lia⟩
   ·obtain⟨c,r,e,k⟩:=ih (m / 10) (by lia) (by lia);exact⟨c,r++dg (m % 10),by rw[BL h',e];rfl,k⟩
theorem qA(m:Nat):dg m≠ []:=by
 rcases Xo m with rfl|h
 ·rw[sB (by decide)];exact xg _ _
 ·obtain⟨c,r,e,_⟩:=pH m h;rw[e];exact xg _ _
def nmL(i:Int):List Nat:=tl (jq (toString i))
theorem sD(m:Nat):nmL (m:Int)=dg m:=PySem.W.KIN.signs_num m
theorem eD(m:Nat)(h:0<m):nmL (-(m:Int))=45::dg m:=by obtain⟨k,rfl⟩:∃k,m=k+1:=⟨m-1,by lia⟩;unfold nmL tl;rw[signs_ofString];show (("-" ++ Nat.repr (k+1):String)).toList.map Char.toNat=_;rw[String.toList_append,zY,Nat.toList_repr];rfl
def QB:Nat:=9999999999999999999999999999999999999999
def smI(i:Int):Prop:=i.natAbs<=QB
theorem ND(i:Int):(∃m:Nat,i=m)\/∃m:Nat,0<m/\i= -(m:Int):=by
 rcases Int.lt_or_le i 0 with h|h
 ·exact .inr ⟨i.natAbs,by lia,by lia⟩
 ·exact .inl ⟨i.natAbs,by lia⟩
theorem F4{i:Int}(h:smI i):(nmL i).length<=41:=by
 unfold smI QB at h;rcases ND i with⟨m,rfl⟩|⟨m,hm,rfl⟩
 ·rw[sD];have:=wD 39 m (by show m<10000000000000000000000000000000000000000;lia);lia
 ·rw[eD m hm,zr];have:=wD 39 m (by show m<10000000000000000000000000000000000000000;lia);lia
theorem uU{m:Nat}(h:smI (m:Int)):(dg m).length<=40:=wD 39 m (by unfold smI QB at h;show m<10000000000000000000000000000000000000000;lia)
theorem kj{m:Nat}(h:smI (-(m:Int))):(dg m).length<=40:=wD 39 m (by unfold smI QB at h;show m<10000000000000000000000000000000000000000;lia)
theorem sU{i:Int}(h:smI i):intText? (ofL (nmL i))=some i:=by
 have hl:=F4 h;have hl':(ofL (nmL i)).length<=4300:=by rw[<-dA,VS];lia
 rcases ND i with⟨m,rfl⟩|⟨m,hm,rfl⟩
 ·rw[sD]at hl' ⊢;have e:=PySem.intText_digits (x:=ofL (dg m)) (FA m) (qA m) hl';rw[e];show some ((YW (dg m):Nat):Int)=_;rw[show YW (dg m)=m from Jg m]
 ·rw[eD m hm]at hl' ⊢;have e:=PySem.intText_neg (x:=ofL (45::dg m)) (cs:=dg m) rfl (FA m) (qA m) hl';rw[e,show YW (dg m)=m from Jg m]
def glL(s:List Nat):List (List Nat)->List Nat
 |[]=> []
 |p::r=>s++p++glL s r
def b9(s:List Nat):List (List Nat)->List Nat
 |[]=> []
 |a::r=>a++glL s r
theorem qX(sep:Str)(ss:List Str):tl (Xu sep ss)=b9 (tl sep) (ss.map tl):=by
 have go:∀(r:List Str) (kr:Array Nat),(r.foldl (λkr p=>kr++sep.cps++p.cps) kr).toList=kr.toList++glL (tl sep) (r.map tl):=λr=>by
  induction r with
  |nil=>intro kr;simp[glL]
  |cons p r ih=>
    intro kr;rw[xq,ih,Zq,Zq,zK,glL,zA,zA,zA]
 rcases ss with _|⟨a,r⟩
 ·rfl
 ·exact go r a.cps
theorem GU{i:Int}(h:smI i):i.natAbs.log2<1920:=by
 unfold smI QB at h;rcases Xo i.natAbs with z|z
 ·rw[z];decide
 ·exact zV ((Nat.log2_lt (by lia)).mpr (show i.natAbs<2 ^ 140 by lia)) (by decide)
theorem RA{i:Int}{G:DH}{Q:DPP}(h:smI i)(q:Q (.str (ofL (nmL i))) G):Wp (P6 [.int i]) G Q:=by have e:P6 [.int i]= (if i.natAbs.log2<1920 then pure (.str (jq (toString i)))else M.stuck:M D):=rfl;rw[e,if_pos (GU h)];exact wp_pure.mpr q
abbrev Rg:=Option Int×Option Int
def inR(p:Rg)(x:Int):Prop:=(∀a,p.1=some a->a<=x)/\∀b,p.2=some b->x<=b
def inS(l:List Rg)(x:Int):Prop:=∃p∈l,inR p x
def okR(p:Rg):Prop:=∀a b,p.1=some a->p.2=some b->a<=b
def A5(p q:Rg):Prop:=∃a b,p.2=some a/\q.1=some b/\a+1<b
def Can(l:List Rg):Prop:=(∀p∈l,okR p)/\l.Pairwise A5
theorem J3{p:Rg}{l:List Rg}{x:Int}:inS (p::l) x↔inR p x\/inS l x:=by
 unfold inS;constructor
 · rintro⟨q,hq,h⟩;rcases zu.mp hq with rfl|hq
   ·exact .inl h
   ·exact .inr ⟨q,hq,h⟩
 · rintro(h|⟨q,hq,h⟩)
   ·exact⟨p,zt ..,h⟩
   ·exact⟨q,zi _ hq,h⟩
theorem g9{x:Int}:¬inS [] x:=fun⟨_,h,_⟩=>nomatch h
theorem Can.tail{p:Rg}{l:List Rg}(h:Can (p::l)):Can l:=⟨λq hq=>h.1 q (zi _ hq),(yO.mp h.2).2⟩
theorem Can.head{p:Rg}{l:List Rg}(h:Can (p::l)):okR p:=h.1 p (zt ..)
theorem Can.beyond{p:Rg}{l:List Rg}(h:Can (p::l)){x:Int}(hx:inS l x):∃a,p.2=some a/\a+1<x:=by obtain⟨q,hq,h1,h2⟩:=hx;obtain⟨a,b,e1,e2,k⟩:=(yO.mp h.2).1 q hq;exact⟨a,e1,by have:=h1 b e2;lia⟩
theorem Can.low{p:Rg}{l:List Rg}(h:Can (p::l)){a x:Int}(e:p.1=some a)(hx:inS (p::l) x):a<=x:=by
 rcases J3.mp hx with k|k
 ·exact k.1 a e
 ·obtain⟨b,e2,k⟩:=h.beyond k;have:=h.head a b e e2;lia
theorem Can.deep{p:Rg}{l:List Rg}(e:p.1=none)(a:Int):∃x,x<a/\inS (p::l) x:=by
 rcases e2:p.2 with _|b
 ·exact⟨a-1,by lia,J3.mpr (.inl ⟨λc hc=>(by rw[e]at hc;cases hc),λc hc=>(by rw[e2]at hc;cases hc)⟩)⟩
 ·exact⟨min (a-1) b,by lia,J3.mpr (.inl ⟨λc hc=>(by rw[e]at hc;cases hc),λc hc=>(by rw[e2]at hc;cases hc;lia)⟩)⟩
theorem okR.some{p:Rg}(h:okR p):∃x,inR p x:=by
 obtain⟨a,b⟩:=p;rcases a with _|a<;>rcases b with _|b
 ·exact⟨0,λc hc=>(nomatch hc),λc hc=>(nomatch hc)⟩
 ·exact⟨b,λc hc=>(nomatch hc),λc hc=>by cases hc;exact xW _⟩
 ·exact⟨a,λc hc=>(by cases hc;exact xW _),λc hc=>nomatch hc⟩
 ·exact⟨a,λc hc=>(by cases hc;exact xW _),λc hc=>by cases hc;exact h a b rfl rfl⟩
theorem uN{p q:Rg}{l m:List Rg}(hp:Can (p::l))(hq:Can (q::m))(h:∀x,inS (p::l) x↔inS (q::m) x):p.1=q.1:=by
 have one:∀ {p q:Rg} {l m:List Rg} {a:Int},Can (p::l)->Can (q::m)->(∀x,inS (p::l) x↔inS (q::m) x)->p.1=some a->∃b,q.1=some b/\b<=a:=by
  intro p q l m a hp hq h e;have ha:inS (p::l) a:=J3.mpr (.inl ⟨λc hc=>(by rw[e]at hc;cases hc;exact xW _),λb hb=>hp.head a b e hb⟩);rcases e2:q.1 with _|b
  ·obtain⟨x,hx,k⟩:=Can.deep (p:=q) (l:=m) e2 a;have:=hp.low e ((h x).mpr k);lia
  ·exact⟨b,rfl,hq.low e2 ((h a).mp ha)⟩
 rcases e1:p.1 with _|a
 · rcases e2:q.1 with _|b
   ·rfl
   ·obtain⟨a,e3,_⟩:=one hq hp (λx=>(h x).symm) e2;rw[e1]at e3;cases e3
 ·obtain⟨b,e2,k1⟩:=one hp hq h e1;obtain⟨a',e3,k2⟩:=one hq hp (λx=>(h x).symm) e2;rw[e1]at e3;cases e3;rw[e2,Int.le_antisymm k1 k2]
theorem Fc{p q:Rg}{l m:List Rg}(hp:Can (p::l))(hq:Can (q::m))(h:∀x,inS (p::l) x↔inS (q::m) x):p.2=q.2:=by
 have lo:=uN hp hq h;have one:∀ {p q:Rg} {l m:List Rg} {a:Int},Can (p::l)->Can (q::m)->(∀x,inS (p::l) x↔inS (q::m) x)->p.1=q.1->p.2=some a->∃b,q.2=some b/\b<=a:=by
  intro p q l m a hp hq h lo e;have hn:¬inS (q::m) (a+1):=λk=>by
   rcases J3.mp ((h (a+1)).mpr k)with k|k
   ·have:=k.2 a e;lia
   ·obtain⟨b,e2,k⟩:=hp.beyond k;rw[e]at e2;cases e2;lia
  have hlo:∀c,q.1=some c->c<=a:=λc hc=>hp.head c a (lo.trans hc) e;rcases e2:q.2 with _|b
  ·exact absurd (J3.mpr (.inl ⟨λc hc=>(by have:=hlo c hc;lia),λc hc=>by rw[e2]at hc;cases hc⟩)) hn
  · refine⟨b,rfl,?_⟩;rcases Int.lt_or_le a b with k|k
    ·exact absurd (J3.mpr (.inl ⟨λc hc=>(by have:=hlo c hc;lia),λc hc=>by rw[e2]at hc;cases hc;lia⟩)) hn
    ·exact k
 rcases e1:p.2 with _|a
 · rcases e2:q.2 with _|b
   ·rfl
   ·obtain⟨a,e3,_⟩:=one hq hp (λx=>(h x).symm) lo.symm e2;rw[e1]at e3;cases e3
 ·obtain⟨b,e2,k1⟩:=one hp hq h lo e1;obtain⟨a',e3,k2⟩:=one hq hp (λx=>(h x).symm) lo.symm e2;rw[e1]at e3;cases e3;rw[e2,Int.le_antisymm k1 k2]
theorem mO:∀ {l m:List Rg},Can l->Can m->(∀x,inS l x↔inS m x)->l=m
 |[], [],_,_,_=>rfl
 |[],q::m,_,hm,h=>by obtain⟨x,hx⟩:=hm.head.some;exact absurd ((h x).mpr (J3.mpr (.inl hx))) g9
 |p::l, [],hl,_,h=>by obtain⟨x,hx⟩:=hl.head.some;exact absurd ((h x).mp (J3.mpr (.inl hx))) g9
 |p::l,q::m,hl,hm,h=>by
   have e:p=q:=Prod.ext (uN hl hm h) (Fc hl hm h);subst e;rw[mO hl.tail hm.tail λx=>?_];have out:∀ {l:List Rg},Can (p::l)->inS l x->¬inR p x:=λhl k r=>by obtain⟨a,e,k⟩:=hl.beyond k;have:=r.2 a e;lia
   constructor
   · intro k;rcases J3.mp ((h x).mp (J3.mpr (.inr k)))with r|r
     ·exact absurd r (out hl k)
     ·exact r
   · intro k;rcases J3.mp ((h x).mpr (J3.mpr (.inr k)))with r|r
     ·exact absurd r (out hm k)
     ·exact r
theorem RE{l m:List Rg}{x:Int}:inS (l++m) x↔inS l x\/inS m x:=by
 unfold inS;constructor
 ·rintro⟨p,hp,h⟩;exact(zM.mp hp).elim (λk=>.inl ⟨p,k,h⟩) λk=>.inr ⟨p,k,h⟩
 · rintro(⟨p,hp,h⟩|⟨p,hp,h⟩)
   ·exact⟨p,ym _ hp,h⟩
   ·exact⟨p,zO _ hp,h⟩
theorem Can.snoc{l:List Rg}{r:Rg}(h:Can l)(ok:okR r)(c:∀p∈l,A5 p r):Can (l++[r]):=
 ⟨λp hp=>(zM.mp hp).elim (h.1 p) λk=>by rw[zm.mp k];exact ok,
  Zm.mpr ⟨h.2,Yd ..,λp hp q hq=>by rw[zm.mp hq];exact c p hp⟩⟩
def kle:Option Int->Option Int->Prop
 |none,_=>True
 |some _,none=>False
 |some a,some b=>a<=b
theorem iu{a:Int}{b:Option Int}(h:kle (some a) b):∃c,b=some c/\a<=c:=match b,h with
 |some c,h=>⟨c,rfl,h⟩
def c9:Option Int->Option Int->Option Int
 |some a,some b=>some (max a b)
 |_,_=>none
theorem uL{a b:Option Int}{c:Int}(h:c9 a b=some c):∃x y,a=some x/\b=some y/\x<=c/\y<=c:=match a,b,h with
 |some x,some y,h=>⟨x,y,rfl,rfl,by cases h;lia,by cases h;lia⟩
theorem Mp{e p:Rg}(k:kle e.1 p.1)(n:¬A5 e p){x:Int}:inR (e.1,c9 e.2 p.2) x↔inR e x\/inR p x:=by
 constructor
 · rintro⟨lo,hi⟩;by_cases hx:inR e x
   ·exact .inl hx
   ·refine .inr ?_;obtain⟨c,ec,hc⟩:∃c,e.2=some c/\c<x:=jb λz=>hx ⟨lo,λb eb=>Int.not_lt.mp λy=>z ⟨b,eb,y⟩⟩;refine⟨λd ed=>Int.not_lt.mp λy=>n ⟨c,d,ec,ed,by lia⟩,λb eb=>?_⟩;have:=hi (max c b) (by show c9 e.2 p.2=_;rw[ec,eb];rfl);lia
 · have hf:∀b,c9 e.2 p.2=some b->∃c d,e.2=some c/\p.2=some d/\c<=b/\d<=b:=λb=>uL;rintro(h|h)
   ·refine⟨h.1,λb eb=>?_⟩;obtain⟨c,d,e1,e2,k1,k2⟩:=hf b eb;exact Xz (h.2 c e1) k1
   · refine⟨λa ea=>?_,λb eb=>?_⟩
     ·rw[show e.1=some a from ea]at k;obtain⟨c,ec,hc⟩:=iu k;exact Xz hc (h.1 c ec)
     ·obtain⟨c,d,e1,e2,k1,k2⟩:=hf b eb;exact Xz (h.2 d e2) k2
structure Mg(ds kr rest:List Rg):Prop where
 can:Can kr
 ok:∀p∈rest,okR p
 ord:rest.Pairwise λp q=>kle p.1 q.1
 le:∀e∈kr,∀p∈rest,kle e.1 p.1
 same:∀x,inS ds x↔inS kr x\/inS rest x
 len:kr.length+rest.length<=ds.length
theorem Mg.start{ds l:List Rg}(h:∀p∈ds,okR p)(pm:l.Perm ds)(o:l.Pairwise λp q=>kle p.1 q.1):Mg ds [] l:=
 ⟨⟨λ_ h=>(nomatch h),.nil⟩,λp hp=>h p (pm.mem_iff.mp hp),o,λ_ h=>(nomatch h),λx=>⟨fun⟨p,hp,k⟩=>.inr ⟨p,pm.mem_iff.mpr hp,k⟩,λz=>z.elim (λz=>absurd z g9) fun⟨p,hp,k⟩=>⟨p,pm.mem_iff.mp hp,k⟩⟩,by rw[pm.length_eq];simp⟩
theorem Mg.new{ds kr rest:List Rg}{p:Rg}(h:Mg ds kr (p::rest))(c:∀t e,kr=t++[e]->A5 e p):Mg ds (kr++[p]) rest:=by
 have o:=yO.mp h.ord;refine⟨h.can.snoc (h.ok p (zt ..)) λr hr=>?_,λq hq=>h.ok q (zi _ hq),o.2,λe he q hq=>?_,λx=>?_,?_⟩
 · have md:kr≠ []:=List.ne_nil_of_mem hr;obtain⟨t,e,rfl⟩:∃(t:List Rg) (e:Rg),kr=t++[e]:=⟨_,_,(xr md).symm⟩;have ce:=c t e rfl;rcases zM.mp hr with k|k
   ·obtain⟨a,b,e1,e2,k1⟩:=(Zm.mp h.can.2).2.2 r k e (zm.mpr rfl);obtain⟨a',b',e3,e4,k2⟩:=ce;have:=h.can.1 e (zO _ (zm.mpr rfl)) b a' e2 e3;exact⟨a,b',e1,e4,by lia⟩
   ·rw[zm.mp k];exact ce
 · rcases zM.mp he with k|k
   ·exact h.le e k q (zi _ hq)
   ·rw[zm.mp k];exact o.1 q hq
 ·rw[h.same x,RE,J3 (p:=p) (l:=rest),J3 (p:=p) (l:= [])];have n0:¬inS [] x:=g9;exact⟨λz=>z.elim (λz=>.inl (.inl z)) λz=>z.elim (λz=>.inl (.inr (.inl z))) .inr,λz=>z.elim (λz=>z.elim .inl λz=>z.elim (λz=>.inr (.inl z)) λz=>absurd z n0) λz=>.inr (.inr z)⟩
 ·have:=h.len;simp only[zr,zd,yh]at this ⊢;lia
theorem Mg.join{ds t rest:List Rg}{e p:Rg}(h:Mg ds (t++[e]) (p::rest))(n:¬A5 e p):Mg ds (t++[(e.1,c9 e.2 p.2)]) rest:=by
 have o:=yO.mp h.ord;have he:=zO t (zm.mpr (rfl:e=e));have pw:=Zm.mp h.can.2;refine⟨Can.snoc ⟨λq hq=>h.can.1 q (ym _ hq),pw.1⟩ (λa b ea eb=>?_) λr hr=>pw.2.2 r hr e (zm.mpr rfl),λq hq=>h.ok q (zi _ hq),o.2,λq hq r hr=>?_,λx=>?_,?_⟩
 ·obtain⟨c,d,e1,e2,k1,k2⟩:=uL eb;exact Xz (h.can.1 e he a c ea e1) k1
 · rcases zM.mp hq with k|k
   ·exact h.le q (ym _ k) r (zi _ hr)
   ·rw[zm.mp k];exact h.le e he r (zi _ hr)
 · rw[h.same x,RE,RE,J3 (p:=p) (l:=rest),J3 (p:=e) (l:= []),J3 (p:=(e.1,c9 e.2 p.2)) (l:= []),Mp (h.le e he p (zt ..)) n];have n0:¬inS [] x:=g9;exact⟨λz=>z.elim (λz=>z.elim (λz=>.inl (.inl z)) λz=>z.elim (λz=>.inl (.inr (.inl (.inl z)))) λz=>absurd z n0) λz=>z.elim (λz=>.inl (.inr (.inl (.inr z)))) .inr,
    λz=>z.elim (λz=>z.elim (λz=>.inl (.inl z)) λz=>z.elim (λz=>z.elim (λz=>.inl (.inr (.inl z))) λz=>.inr (.inl z)) λz=>absurd z n0) λz=>.inr (.inr z)⟩
 ·have:=h.len;simp only[zr,zd,yh]at this ⊢;lia
theorem Gr.ap{G G':DH}(h:Gr G G'):Ap G G':=by
 refine⟨G'.drop G.length,?_⟩;refine List.ext_getElem? λi=>?_;rcases Zx i G.length with c|c
 ·rw[zE c];exact h.2 i c
 ·rw[jP c,Xg];congr 1;lia
theorem aV{i j:Int}{G:DH}{Q:DPP}:Wp (gtD (.int i) (.int j)) G Q↔Q (.bl (decide (i>j))) G:=wp_pure
theorem lK{G:DH}{p q:Nat}{xs:List D}{Q:DPP}(e:G[p]? =some (.lst xs))(eq:G[q]? =some (.lst [])):Wp (neD (.ref p) (.ref q)) G Q↔Q (.bl (!xs.isEmpty)) G:=by
 have h:eqN 40 G (.ref p) (.ref q)=some xs.isEmpty:=by
  have h1:Z7 G (.ref p)=some (false,xs):=by simp only[Z7,e]
  have h2:Z7 G (.ref q)=some (false, []):=by simp only[Z7,eq]
  rw[rG];rw[h1,h2];rcases xs with _|⟨_,_⟩
  ·rfl
  ·rfl
 exact N9 (show neD (.ref p) (.ref q) G=_ from by unfold neD;rw[h])
theorem VO{r:Nat}{l:List D}{k:Int}{j:Nat}{a b:Fe}{σ:DSt}{d:D}{G:DH}{S:DSt->DH->Prop}(ha:a σ G=some (.ok (.ref r),G))(hb:b σ G=some (.ok (.int k),G))(e:G[r]? =some (.lst l))(hj:ixN l.length k=some j)(q:S σ (G.set r (.lst (l.set j d)))):Wp (AB a b d σ) G S:=EX.mpr (b8 ha (b8 hb ((Dv e hj).mpr q)))
theorem fP{G:DH}{p:Nat}{l:List D}{lo hi:Option Int}{Q:DPP}(e:G[p]? =some (.lst l)):Wp (slT (.ref p) lo hi) G Q↔Q (.ref G.length) (G++[.lst (DL.cutD l lo hi)]):=bw e
section
variable{a b:Fe}{t:DSt->M Bool}{f g:Fs}{σ:DSt}{G G1:DH}{Q:DPP}{P:Fl->DH->Prop}{B:Bool->DH->Prop}
theorem vJ(e:a σ G=some (.ok (.bl true),G1))(w:Wp (b σ) G1 Q):Wp (B4 a b σ) G Q:=cm.mpr (b8 e (O6.mpr (by rw[if_pos rfl];exact w)))
theorem GZ(w:Wp (t σ) G λk G1=>k=true/\Wp (g σ) G1 P):Wp (ifS (A6 t) f g σ) G P:=M7 (C9.mpr (w.mono λk G1 q=>by obtain⟨rfl,q⟩:=q;exact⟨λz=>(by exact cG z),λ_=>q⟩))
theorem B9(w:Wp (a σ) G λx G1=>x= .bl true/\B true G1):Wp (truthE a σ) G B:=T3.mpr (w.mono λx G1 q=>by obtain⟨rfl,q⟩:=q;exact O6.mpr q)
end
def rD(p:Rg):D:=.tup [F1 p.1,F1 p.2]
def rsD(l:List Rg):List D:=l.map rD
theorem IC(l:List Rg):(rsD l).length=l.length:=zf ..
theorem EJ(l:List Rg)(p:Rg):rsD (l++[p])=rsD l++[rD p]:=zY ..
section
variable{a b:Fe}{t:DSt->M Bool}{f g:Fs}{σ:DSt}{G G1:DH}{Q:DPP}{P:Fl->DH->Prop}{B:Bool->DH->Prop}
theorem QD(w:Wp (a σ) G λx G1=>x= .bl false/\B false G1):Wp (truthE a σ) G B:=T3.mpr (w.mono λx G1 q=>by obtain⟨rfl,q⟩:=q;exact O6.mpr q)
end
theorem Ph:UF=f9 (v7 g0 F2) (f9 (V6 RT RB) (t7 K0)):=rfl
section
variable{T:Str}{G:DH}{Q:DPP}
theorem wI{pre rest:List Nat}{c:Nat}(h:tl T=pre++c::rest)(hz:T.length<=zk)(q:Q (.str ⟨#[c]⟩) G):Wp (ixD (.str T) (.int (pre.length:Int))) G Q:=by
 have e:ixD (.str T) (.int (pre.length:Int))=if T.length<=zk then (do
  let c <-C1 (atI T.cps.toList (pre.length:Int))
  pure (.str ⟨#[c]⟩):M D)else M.stuck:=rfl
 rw[e,if_pos hz];refine d9.mpr<| l9.mpr ⟨c,?_,wp_pure.mpr q⟩;have hl:(tl T).length=pre.length+(c::rest).length:=by rw[h,zd]
 show atI (tl T) (pre.length:Int)=some c;unfold atI ixN;simp only[zr]at hl;rw[if_pos (by lia),if_pos (by lia)];simp only[yg,Option.bind_some,h];rw[jP (zg _),Nat.sub_self];rfl
def OB(lo hi:Nat)(rest:List Nat):Prop:=∀c r,rest=c::r->¬(lo<=c/\c<=hi)
theorem rM{lo hi:Nat}{a1:Option D}(hz:T.length<=zk):∀(run pre rest:List Nat) (n:Nat),run.length<=n->tl T=pre++run++rest->(∀c∈run,lo<=c/\c<=hi)->OB lo hi rest->
 Wp (K9 (n+1) RT RB [some (.str T),a1,some (.str ⟨#[lo]⟩),some (.str ⟨#[hi]⟩),some (.int (pre.length:Int))]) G λfl G'=>G'=G/\fl= .nx [some (.str T),a1,some (.str ⟨#[lo]⟩),some (.str ⟨#[hi]⟩),some (.int ((pre.length:Int)+run.length))]
 |[],pre,rest,n,hn,h,hr,ho=>by
   rw[jT]at h;have hl:T.length=pre.length+rest.length:=by rw[<-dA,h,zd]
   refine R5.mpr ?_;refine(show Wp (RT _) G λk G1=>k=false/\G1=G from ?_).mono ?_
   · refine t4<| v4<| j5<| b8 (a:=.int (pre.length:Int)) (G':=G) rfl<| V0 (as:= [.str T]) rfl<| (nC hz).mpr<| lt_int.mpr ⟨_,rfl,λk=>?_,λk=>⟨rfl,rfl⟩⟩;have k:=of_decide_eq_true k;rcases rest with _|⟨c,r⟩
     ·simp at hl;lia
     · have nc:=ho c r rfl;refine v4<| TK.mpr<| b8 (a:=.str ⟨#[lo]⟩) (G':=G) rfl<| j5<| b8 (a:=.str T) (G':=G) rfl<| b8 (a:=.int (pre.length:Int)) (G':=G) rfl<| wI h hz<| DF.mpr ⟨_,rfl,?_⟩;by_cases h1:lo<=c
       ·rw[decide_eq_true h1,if_pos rfl];refine b8 (a:=.str ⟨#[hi]⟩) (G':=G) rfl<| DF.mpr ⟨_,rfl,?_,rfl⟩;exact decide_eq_false λh2=>nc ⟨h1,h2⟩
       ·rw[decide_eq_false h1,if_neg zN];exact⟨_,rfl,rfl,rfl⟩
   ·rintro _ _ ⟨rfl,rfl⟩;rw[if_neg zN];exact⟨rfl,by simp⟩
 |c::r,pre,rest,n,hn,h,hr,ho=>by
   obtain⟨m,rfl⟩:∃m,n=m+1:=⟨n-1,by simp at hn;lia⟩;have hc:=hr c (zt ..);have h':tl T=pre++c::(r++rest):=by rw[h,zA];rfl
   have hl:T.length=pre.length+(c::(r++rest)).length:=by rw[<-dA,h',zd]
   refine R5.mpr ?_;refine(show Wp (RT _) G λk G1=>k=true/\G1=G from ?_).mono ?_
   · refine t4<| v4<| j5<| b8 (a:=.int (pre.length:Int)) (G':=G) rfl<| V0 (as:= [.str T]) rfl<| (nC hz).mpr<| lt_int.mpr ⟨_,rfl,λ_=>?_,λk=>?_⟩
     ·refine v4<| TK.mpr<| b8 (a:=.str ⟨#[lo]⟩) (G':=G) rfl<| j5<| b8 (a:=.str T) (G':=G) rfl<| b8 (a:=.int (pre.length:Int)) (G':=G) rfl<| wI h' hz<| DF.mpr ⟨_,rfl,?_⟩;rw[decide_eq_true hc.1,if_pos rfl];exact b8 (a:=.str ⟨#[hi]⟩) (G':=G) rfl<| DF.mpr ⟨_,rfl,decide_eq_true hc.2,rfl⟩
     ·have k:=of_decide_eq_false k;simp at hl;lia
   ·rintro _ G1 ⟨rfl,eG⟩;rw[if_pos rfl,eG];clear eG;refine b8 (a:=.nx [some (.str T),a1,some (.str ⟨#[lo]⟩),some (.str ⟨#[hi]⟩),some (.int ((pre.length:Int)+1))]) rfl ?_;have ih:=rM (a1:=a1) hz r (pre++[c]) rest m (by simp at hn;lia) (by rw[h];simp) (λc hc=>hr c (zi _ hc)) ho;rw[zd]at ih;refine(show Wp (K9 (m+1) RT RB [some (.str T),a1,some (.str ⟨#[lo]⟩),some (.str ⟨#[hi]⟩),some (.int ((pre.length:Int)+1))]) G _ from ih).mono ?_;rintro _ _ ⟨rfl,rfl⟩;refine⟨rfl,?_⟩;rw[zr];congr 6;simp;lia
theorem PD{lo hi:Nat}{pre run rest:List Nat}{at':Int}(hz:T.length<=zk)(ha:at'=pre.length)(h:tl T=pre++run++rest)(hr:∀c∈run,lo<=c/\c<=hi)(ho:OB lo hi rest)(q:Q (.int ((pre.length:Int)+run.length)) G):
 Wp (EC [.str T,.int at',.str ⟨#[lo]⟩,.str ⟨#[hi]⟩]) G Q:=by
 subst ha;refine o5 (show Wp (UF [some (.str T),some (.int pre.length),some (.str ⟨#[lo]⟩),some (.str ⟨#[hi]⟩),none]) G _ from ?_);rw[Ph];refine j8 (G':=G) rfl<| d8.mpr<| rB (n:=run.length+1)<| (rM hz run pre rest _ (zg _) h hr ho).mono ?_;rintro _ _ ⟨rfl,rfl⟩;exact o6<| b8 rfl<| m7 q
theorem J5{p:Str}{i:Int}{a b c:Fe}{σ:DSt}(ha:a σ G=some (.ok (.str T),G))(hb:b σ G=some (.ok (.str p),G))(hc:c σ G=some (.ok (.int i),G))(q:Q (.bl (Z1 T p i)) G):Wp (mtE isStrM startsD a (O0 b c) σ) G Q:=
 y4.mpr<| b8 ha<| lI.mpr<| HN hb<| HN hc<| o7.mpr<| b8 (a:=.bl (Z1 T p i)) rfl q
end
section
variable{T:Str}{G:DH}{Q:DPP}
theorem Vm{i:Int}(h:smI i)(q:Q (.int i) G):Wp (iB [.str (ofL (nmL i))]) G Q:=by have e:iB [.str (ofL (nmL i))]= (match intText? (ofL (nmL i)) with|some n=>if (ofL (nmL i)).length<=640 then pure (.int n)else M.stuck|none=>M.stuck:M D):=rfl;have hl:=F4 h;rw[e,sU h];show Wp (if (ofL (nmL i)).length<=640 then pure (.int i)else M.stuck:M D) G Q;rw[if_pos (show (ofL (nmL i)).length<=640 from zQ hl (by decide))];exact wp_pure.mpr q
theorem pO{i:Int}{pre post ds:List Nat}{st:Int}(hz:T.length<=zk)(hi:smI i)(h:tl T=pre++nmL i++post)(en:(pre.length:Int)+(nmL i).length=st+ds.length)(hd:ds≠ [])(h40:ds.length<=40)(h0:(Z1 T ("0" :Str) st=false)\/(nmL i).length=1)
 (q:Q (.tup [.int i,.int ((pre.length:Int)+(nmL i).length)]) G):
 Wp (f9 (ifS (orT (tBn eqD C0 i0) (tBn gtD (binE F9 C0 i0) (cIn 40))) (K5) u0) (f9 (ifS (Q2 (truthE (mtE isStrM startsD c0 (O0 (cSt "0") i0))) (tBn gtD (binE F9 C0 g0) l0)) (K5) u0) (t7 (F0 (D0 iB (L6 c0 (T6 g0) (T6 C0))) C0))) [some (.str T),some (.int pre.length),some (.int st),some (.int (st+ds.length))]) G (PB Q):=by
 have hp:0<ds.length:=YR.mpr hd;refine d8.mpr<| M7<| ER<| v4<| j5<| b8 (a:=.int (st+ds.length)) (G':=G) rfl<| b8 (a:=.int st) (G':=G) rfl<| i6.mpr ⟨_,rfl,λk=>?_,λ_=>v4<| j5<| j5<| b8 (a:=.int (st+ds.length)) (G':=G) rfl<| b8 (a:=.int st) (G':=G) rfl<| WD.mpr<| b8 (a:=.int 40) (G':=G) rfl<| QC.mpr ⟨_,rfl,λk=>?_,λ_=>o8.mpr ?_⟩⟩
 ·have:=of_decide_eq_true k;lia
 ·have:=of_decide_eq_true k;lia
 · have fin:Wp (t7 (F0 (D0 iB (L6 c0 (T6 g0) (T6 C0))) C0) [some (.str T),some (.int pre.length),some (.int st),some (.int (st+ds.length))]) G (PB Q):=by
    refine o6<| M8.mpr<| j7<| M5<| j7<| vE.mpr<| b8 (a:=.str T) (G':=G) rfl<| b8 (a:=some (pre.length:Int)) (G':=G) rfl<| b8 (a:=some (st+ds.length)) (G':=G) rfl<| (FQ hz).mpr<| o7.mpr ?_;rw[<-en,nQ h];refine Vm hi<| b8 (a:= [.int ((pre.length:Int)+(nmL i).length)]) (G':=G) (by rw[en];rfl) ⟨sz,m7 q⟩
   refine d8.mpr<| M7<| t4<| T3.mpr<| J5 (G:=G) (i:=st) (p:=("0" :Str)) rfl rfl rfl<| O6.mpr ⟨λk=>?_,λ_=>⟨λz=>(nomatch z),λ_=>o8.mpr fin⟩⟩;rcases h0 with h0|h0
   ·rw[h0]at k;cases k
   ·exact v4<| j5<| j5<| b8 (a:=.int (st+ds.length)) (G':=G) rfl<| b8 (a:=.int pre.length) (G':=G) rfl<| WD.mpr<| b8 (a:=.int 1) (G':=G) rfl<| QC.mpr ⟨_,rfl,λk=>(by have:=of_decide_eq_true k;lia),λ_=>o8.mpr fin⟩
theorem EQ{i:Int}{pre post:List Nat}(hz:T.length<=zk)(hi:smI i)(h:tl T=pre++nmL i++post)(ho:OB 48 57 post)(q:Q (.tup [.int i,.int ((pre.length:Int)+(nmL i).length)]) G):Wp (W3 [.str T,.int pre.length]) G Q:=by
 have hl:=F4 hi;have hs:tl T=pre++(nmL i++post):=by rw[h,zA]
 refine o5 (show Wp (AK [some (.str T),some (.int pre.length),none,none]) G _ from ?_);rcases ND i with⟨m,rfl⟩|⟨m,hm,rfl⟩
 · have en:=sD m;have hb:Z1 T ("-" :Str) (pre.length:Int)=false:=vA hs (c:=45) (ps:= []) rfl λc r e=>by
    rw[en]at e;rcases k:dg m with _|⟨x,y⟩
    ·exact absurd k (qA m)
    ·rw[k]at e;have e:=(zB e).1;have:=FA m x (by rw[k];exact zt ..);lia
   refine d8.mpr<| u6<| fD.mpr<| QD<| J5 (G:=G) rfl rfl rfl ?_;rw[hb];refine⟨rfl,?_⟩;rw[if_neg zN];refine b8 (a:=.int pre.length) (G':=G) rfl<| d8.mpr<| u6<| g8 (as:= [.str T,.int pre.length,.str ⟨#[48]⟩,.str ⟨#[57]⟩]) rfl rfl<| PD hz rfl (by rw[h,en]) (FA m) ho ?_;refine pO (ds:=dg m) hz hi h (by rw[en]) (qA m) (uU hi) ?_ q;rcases Xo m with rfl|hp
   ·exact .inr (by rw[en,sB (by decide)];rfl)
   · refine .inl<| vA hs (c:=48) (ps:= []) rfl λc r e=>?_;obtain⟨x,y,k,h49⟩:=pH m hp;rw[en,k]at e
     cases e;lia
 · have en:=eD m hm;have hb:Z1 T ("-" :Str) (pre.length:Int)=true:=J7 hs (r:=dg m++post) (by rw[en];rfl);refine d8.mpr<| u6<| fD.mpr<| B9<| J5 (G:=G) rfl rfl rfl ?_;rw[hb];refine⟨rfl,?_⟩;rw[if_pos rfl];have h1:tl T= (pre++[45])++dg m++post:=by rw[h,en];simp
   have e1:((pre++[45]).length:Int)= (pre.length:Int)+1:=by simp
   refine b8 (a:=.int ((pre.length:Int)+1)) (G':=G) rfl<| d8.mpr<| u6<| g8 (as:= [.str T,.int ((pre.length:Int)+1),.str ⟨#[48]⟩,.str ⟨#[57]⟩]) rfl rfl<| PD hz e1.symm h1 (FA m) ho ?_;rw[e1];refine pO (ds:=dg m) hz hi h (by rw[en,zr];lia) (qA m) (kj hi) (.inl ?_) q;rw[<-e1];refine vA (rest:=dg m++post) (by rw[h1,zA]) (c:=48) (ps:= []) rfl λc r e=>?_;obtain⟨x,y,k,h49⟩:=pH m hm;rw[k]at e
   cases e;lia
end
def clO:Option Int->Option Int->Bool
 |some a,some b=>decide (a+1<b)
 |_,_=>false
theorem rY{p r:Rg}{G:DH}{Q:DPP}(h:Q (.bl (clO p.2 r.1)) G):Wp (GE [rD p,rD r]) G Q:=P9 (d:=.bl (clO p.2 r.1)) (by
 obtain⟨_,a⟩:=p;obtain⟨b,_⟩:=r;rcases a with _|a
 ·rfl
 ·rcases b with _|b<;>rfl) h
theorem rO{p r:Rg}:clO p.2 r.1=true↔A5 p r:=by
 unfold A5;rcases p.2 with _|a
 ·exact⟨λh=>(nomatch h),fun⟨_,_,h,_⟩=>(nomatch h)⟩
 · rcases r.1 with _|b
   ·exact⟨λh=>(nomatch h),fun⟨_,_,_,h,_⟩=>(nomatch h)⟩
   ·exact⟨λh=>⟨a,b,rfl,rfl,of_decide_eq_true h⟩,fun⟨_,_,h1,h2,k⟩=>decide_eq_true (jr h1▸jr h2▸k)⟩
theorem w4{G:DH}{p:Nat}{o:DO}(e:G[p]? =some o):ckO p o G=true:=by unfold ckO;rw[e];simp
def P3:Option Int->Int×Int
 |none=>(0,0)
 |some a=>(1,a)
def kD(a:Option Int):D:=.tup [.int (P3 a).1,.int (P3 a).2]
theorem vV{p:Rg}{G:DH}{Q:DPP}(q:Q (kD p.1) G):Wp (w6 [rD p]) G Q:=P9 (d:=kD p.1) (by obtain⟨a,_⟩:=p;rcases a with _|a<;>rfl) q
theorem qb{a b:Option Int}(h:D9 (P3 b) (P3 a)=false):kle a b:=by
 have h:=HA.mp h;rcases a with _|a
 ·trivial
 · rcases b with _|b
   ·simp only[P3]at h;lia
   ·simp only[P3]at h;show a<=b;lia
theorem RL{G:DH}:∀l:List Rg,Q7 w6 (rsD l) G=some (.ok (l.map λp=>kD p.1),G)
 |[]=>rfl
 |p::r=>by have h1:noX (w6 [rD p]) G=some (.ok (kD p.1),G):=E3 (wC.mpr (vV ⟨rfl,rfl⟩));show (do let k <-noX (w6 [rD p]);let ks <-Q7 w6 (rsD r);pure (k::ks):M (List D)) G=_;rw[M.bind_ok h1,M.bind_ok (RL r)];rfl
theorem gN:∀l:List Rg,Z2 (l.map λp=>kD p.1)=some (l.map λp=>P3 p.1)
 |[]=>rfl
 |p::r=>by show (match pE (kD p.1),Z2 (r.map λp=>kD p.1) with|some a,some b=>some (a::b)|_,_=>none)=_;rw[gN r];rfl
theorem iT(l:List Rg):∃l':List Rg,A8 (l.map λp=>P3 p.1) (rsD l)=rsD l'/\l'.Perm l/\l'.Pairwise λp q=>kle p.1 q.1:=by
 obtain⟨pm,pw⟩:=QF (l.map λp=>P3 p.1) l.length;have lt:∀i∈R9 (l.map λp=>P3 p.1) l.length,i<l.length:=λi hi=>jo.mp (pm.mem_iff.mp hi);refine⟨(R9 (l.map λp=>P3 p.1) l.length).map λi=>l.getD i (none,none),?_,?_,?_⟩
 ·unfold A8 rsD;rw[zf,jv];refine ye λi hi=>?_;have:=lt i hi;simp[zn,this]
 · have e:(zF l.length).map (λi=>l.getD i (none,none))=l:=by
    apply yn
    ·simp
    ·intro i hi hj;simp[hj]
   have:=pm.map λi=>l.getD i ((none,none):Rg);rw[e]at this;exact this
 · refine jC.mpr (pw.imp_of_mem λ{i j} hi hj h=>qb ?_);have li:=lt i hi;have lj:=lt j hj;have ei:(l.map λp=>P3 p.1).getD i (0,0)=P3 (l.getD i (none,none)).1:=by simp[zn,li]
   have ej:(l.map λp=>P3 p.1).getD j (0,0)=P3 (l.getD j (none,none)).1:=by simp[zn,lj]
   unfold ltP at h;rw[ei,ej]at h;exact h
theorem Lv{a:Nat}{l:List Rg}{G:DH}{σ:DSt}{f:Fe}{Q:DPP}(hf:f σ G=some (.ok (.ref a),G))(e:G[a]? =some (.lst (rsD l)))(hl:l.length<64)
 (q:∀l':List Rg,l'.Perm l->(l'.Pairwise λp q=>kle p.1 q.1)->Q (.ref G.length) (G++[.lst (rsD l')])):Wp (WC w6 f σ) G Q:=by
 obtain⟨l',e1,pm,pw⟩:=iT l;refine b8 (a:=.ref G.length) (G':=G++[.lst (rsD l')]) ?_ (q l' pm pw);show (do let x <-f σ;iE w6 x:M D) G=_;rw[M.bind_ok hf];show (do match <-K4 a with
  | .lst l=>if l.length<64 then iA w6 l else M.stuck
  |_=>M.stuck:M D) G=_
 rw[M.bind_ok (show K4 a G=some (.ok (.lst (rsD l)),G) by unfold K4;rw[e])];show (if (rsD l).length<64 then iA w6 (rsD l)else M.stuck:M D) G=_;rw[if_pos (by rw[IC];exact hl)];unfold iA;rw[M.bind_ok (RL l),M.bind_ok (show C1 (Z2 (l.map λp=>kD p.1)) G=some (.ok (l.map λp=>P3 p.1),G) by rw[gN];rfl),e1];rfl
theorem MW{a b:Option Int}{G:DH}{Q:DPP}(q:Q (F1 (c9 a b)) G):Wp (X4 [F1 a,F1 b]) G Q:=by
 rcases a with _|a
 ·exact P9 (d:=.non) rfl q
 · rcases b with _|b
   ·exact P9 (d:=.non) rfl q
   · refine P9 (d:=.int (if b>a then b else a)) rfl ?_;have:(if b>a then b else a)=max a b:=by split<;>lia
     rw[this];exact q
theorem qW:tF=f9 (v7 (S7 o0) E1) (f9 (S3 (itW (WC w6 c0)) N0 JB) (t7 (D0 V8 g0))):=rfl
section
variable{ds:List Rg}{c:Nat}{a0:Option D}
theorem lX{kr rest:List Rg}{p:Rg}{G:DH}(M:Mg ds kr (p::rest))(e:G[c]? =some (.lst (rsD kr)))(hl:ds.length<10000):
 Wp (JB [a0,sRf c,some (rD p)]) G λfl G'=>fl= .nx [a0,sRf c,some (rD p)]/\∃ko o,Mg ds ko rest/\G'=G.set c o/\G'[c]? =some (.lst (rsD ko)):=by
 have bg:=big;have ln:=M.len;simp only[zr]at ln;have new:(∀t e,kr=t++[e]->A5 e p)->Wp ((T4 (mtE v9 J1 g0 (S0 (F0 (ixE i0 H0) (ixE i0 l0))))) [a0,sRf c,some (rD p)]) G λfl G'=>fl= .nx [a0,sRf c,some (rD p)]/\∃ko o,Mg ds ko rest/\G'=G.set c o/\G'[c]? =some (.lst (rsD ko)):=λhc=>by refine E7.mpr<| y4.mpr<| b8 (a:=.ref c) rfl<| (M9 e).mpr<| b8 (a:= [rD p]) (G':=G) rfl<| (Q3 e (by rw[IC];lia)).mpr ⟨rfl,_,_,M.new hc,rfl,?_⟩;rw[jk (lt_of_get e),EJ]
 refine M7<| t4<| T3.mpr<| b8 (a:=.ref c) (G':=G) rfl<| (NP e).mpr ⟨λh=>?_,λh=>⟨λz=>(nomatch z),λ_=>new λt x z=>?_⟩⟩
 · have md:kr≠ []:=by rintro rfl;cases h
   clear h;obtain⟨t,x,rfl⟩:∃(t:List Rg) (x:Rg),kr=t++[x]:=⟨_,_,(xr md).symm⟩;have e':=e;rw[EJ]at e';have ix:∀ {Q:DPP},Q (rD x) G->Wp (binE ixD g0 (unE j4 l0) [a0,sRf c,some (rD p)]) G Q:=λq=>j5<| b8 (a:=.ref c) rfl<| b8 (a:=.int (-1)) rfl<| (VA e').mpr ⟨_,iO _ _,q⟩;refine C9.mpr<| T3.mpr<| M5<| j7<| ix<| b8 (a:= [rD p]) (G':=G) rfl<| O2.mpr ⟨rfl,rY<| O6.mpr ⟨λh=>?_,λh=>new λt' x' z=>?_⟩⟩
   · have nc:¬A5 x p:=λk=>by rw[rO.mpr k]at h;cases h
     refine c8.mpr<| M8.mpr<| j7<| j5<| ix<| b8 (a:=D.int 0) (G':=G) rfl<| (ix_tup (l:= [F1 x.1,F1 x.2]) (i:=0)).mpr ⟨F1 x.1,rfl,j7<| M5<| j7<| j5<| ix<| b8 (a:=D.int 1) (G':=G) rfl<| (ix_tup (l:= [F1 x.1,F1 x.2]) (i:=1)).mpr ⟨F1 x.2,rfl,b8 (a:= [F1 p.2]) (G':=G) rfl<| O2.mpr ⟨rfl,MW<| o7.mpr ⟨sz,?_⟩⟩⟩⟩;refine VO (k:= -1) rfl rfl e' (j:=(rsD t).length) ?_ ⟨rfl,_,_,M.join nc,rfl,?_⟩
     ·unfold ixN;rw[if_neg (by lia),if_pos (by simp;lia)];congr 1;simp;lia
     ·rw[jk (lt_of_get e),EJ,List.set_append_right _ _ (zg _),Nat.sub_self];rfl
   · obtain⟨rfl,h2⟩:=XJ z rfl
     cases h2
     exact rO.mp (by simpa using h)
 · rw[z]at h
   cases t<;>cases h
theorem qQ{q:Nat}{L:List D}(hq:q≠c):∀(rest kr:List Rg) (u:Option D) (G:DH),Mg ds kr rest->G[c]? =some (.lst (rsD kr))->G[q]? =some (.lst L)->ds.length<10000->
 Wp (B2 N0 JB (ckO q (.lst L)) (rsD rest) [a0,sRf c,u]) G λfl G'=>(∃u,fl= .nx [a0,sRf c,u])/\∃ko,Mg ds ko []/\G'[c]? =some (.lst (rsD ko))/\G.length<=G'.length/\∀i,i≠c->i<G.length->G'[i]? =G[i]?
 |[],kr,u,G,M,e,eq,hl=>wA.mpr ⟨w4 eq,⟨u,rfl⟩,kr,M,e,zg _,λ_ _ _=>rfl⟩
 |p::r,kr,u,G,M,e,eq,hl=>by refine R8.mpr ⟨w4 eq,K7.mpr<| (lX M e hl).mono ?_⟩;rintro _ G1 ⟨rfl,ko,o,M',rfl,e1⟩;refine(qQ hq r ko _ _ M' e1 (by rw[jd (Ne.symm hq)];exact eq) hl).mono ?_;rintro _ G2 ⟨⟨u,rfl⟩,acc2,M2,e2,l2,f2⟩;rw[xp]at l2;exact⟨⟨u,rfl⟩,acc2,M2,e2,l2,λi hi h=>by rw[f2 i hi (by rw[xp];exact h),jd (Ne.symm hi)]⟩
end
def vR(l due:List Rg):Prop:=Can due/\∀x,inS due x↔inS l x
theorem pS{l:List Rg}{a:Nat}{G:DH}{Q:DPP}(ok:∀p∈l,okR p)(e:G[a]? =some (.lst (rsD l)))(hl:l.length<64)
 (q:∀met G',vR l met->met.length<=l.length->Ap G G'->Q (.tup (rsD met)) G'):Wp (vG [.ref a]) G Q:=by
 refine o5 (show Wp (tF [sRf a,none,none]) G _ from ?_);rw[qW];refine j8 (X1:= [sRf a,some (.ref G.length),none]) (G':=G++[.lst []]) rfl<| d8.mpr<| P7.mpr<| wp_itW.mpr<| Lv (a:=a) rfl (t8 e) hl λl' pm pw=>?_;have md:(G++[DO.lst []]).length≠G.length:=by simp
 refine(W7 m5).mpr<| (qQ (ds:=l) md l' [] none _ (Mg.start ok pm pw) (t8 m5) m5 (by lia)).mono ?_;rintro _ G1 ⟨⟨u,rfl⟩,met,M,e1,l1,f1⟩;refine o6<| V0 (as:= [.ref G.length]) rfl<| (W5 e1).mpr<| m7<| q met G1 ⟨M.can,λx=>?_⟩ (by have:=M.len;simpa using this) (Gr.ap ⟨?_,λi hi=>?_⟩)
 ·rw[M.same x];exact⟨.inl,λz=>z.elim id λz=>absurd z g9⟩
 ·simp only[zd]at l1;lia
 ·rw[f1 i (by lia) (by simp;lia),zA,zE hi]
def Dr(G:DH)(r:Nat):Prop:=∃ns:List Nat,G[r]? =some (.lst (ns.map λn:Nat=>D.int (n:Int)))
def Fd(r:Nat)(G G':DH):Prop:=G.length<=G'.length/\(∀i,i≠r->i<G.length->G'[i]? =G[i]?)/\Dr G' r
theorem Dr.lt{G:DH}{r:Nat}(h:Dr G r):r<G.length:=by obtain⟨ns,hr⟩:=h;exact lt_of_get hr
theorem Dr.app{G t:DH}{r:Nat}(h:Dr G r):Dr (G++t) r:=by obtain⟨ns,hr⟩:=h;exact⟨ns,t8 hr⟩
theorem Fd.refl{r:Nat}{G:DH}(h:Dr G r):Fd r G G:=⟨zg _,λ_ _ _=>rfl,h⟩
theorem Fd.trans{r:Nat}{G G1 G2:DH}(h:Fd r G G1)(k:Fd r G1 G2):Fd r G G2:=
 ⟨zQ h.1 k.1,λi hi hl=>by rw[k.2.1 i hi (by have:=h.1;lia),h.2.1 i hi hl],k.2.2⟩
theorem Fd.app{r:Nat}{G t:DH}(h:Dr G r):Fd r G (G++t):=⟨by simp,λi _ hl=>zE hl,h.app⟩
theorem Fd.at{r p:Nat}{G G':DH}{o:DO}(h:Fd r G G')(hp:p≠r)(e:G[p]? =some o):G'[p]? =some o:=by rw[h.2.1 p hp (lt_of_get e)];exact e
theorem Dr.set{G:DH}{r p:Nat}{o:DO}(h:Dr G r)(hp:p≠r):Dr (G.set p o) r:=by obtain⟨ns,hr⟩:=h;exact⟨ns,by rw[jd hp];exact hr⟩
theorem R6{r:Nat}{m:Int}{G:DH}{Q:DPP}(h:Dr G r)(hm:0<m)(q:∀k:Int,0<=k->k<m->∀G',Fd r G G'->Q (.int k) G'):Wp (j6 [.ref r,.int m]) G Q:=by
 have h':=h;obtain⟨ns,hr⟩:=h';have s0:([D.ref r,D.int m].map some++jJ (2 - [D.ref r,D.int m].length) none:DSt)= [sRf r,some (.int m)]:=rfl;unfold j6 mI;simp only[L7,s0,d8,tD,rA,P5,Z9,AG,y4,N8,o7,E5,N6,o8,zP,exists_eq_left',zH,zU];refine⟨sz,?_⟩;have e1:=t8 (t:= [DO.lst []]) hr;rw[IJ e1 m5];refine⟨_,rfl,?_⟩
 cases ns with
 |nil=>
   simp only[xY,List.isEmpty_nil,if_true];exact q 0 (by lia) hm _ (Fd.app h)
 |cons n t=>
   simp only[zK,List.isEmpty_cons,zy,if_false];rw[M9 e1,OX e1,W8 hm];refine q _ (yi _ (by lia)) (xn _ hm) _ ⟨by simp,λi hi hl=>?_,t,?_⟩
   ·rw[jd (Ne.symm hi),zE hl]
   ·rw[jk (lt_of_get e1)]
theorem cM{r:Nat}{G:DH}{n:Int}{ds:List D}{Q:DPP}(h:Dr G r)(hn:(ds.length:Int)=n)(h0:0<n)(q:∀d∈ds,∀G',Fd r G G'->Q d G'):
 Wp (j6 [.ref r,.int n]) (G++[.lst ds]) λy G2=>Wp (ixD (.ref G.length) y) G2 Q:=by
 refine R6 h.app h0 λk h3 h4 G2 f2=>?_;have md:G.length≠r:=by have:=h.lt;lia
 have hg:=f2.at md (o:=.lst ds) CN;rw[VA hg];obtain⟨d,hd,e⟩:=qJ (l:=ds) h3 (by lia);exact⟨d,e,q d hd G2 ((Fd.app h).trans f2)⟩
theorem VR:OG=f9 (v7 (y0 j6 c0 qO) E1) (f9 N1 (f9 N2 (asQ H0 A2 (f9 (S3 (A7 (S0 E9)) F2 NB) N3)))):=rfl
def S1(i:Int):Prop:= -100000000000000000000<=i/\i<=100000000000000000000
theorem aM{r:Nat}{w u:Option D}:∀(items:List D) (l B:Int) (v:Option D) (G:DH),Dr G r->0<=l->l<B->
 Wp (B2 F2 NB (λ_=>true) items [sRf r,w,u,some (.int l),v]) G λfl G'=>Fd r G G'/\∃l' v',fl= .nx [sRf r,w,u,some (.int l'),v']/\0<=l'/\l'<B*1000 ^ items.length
 |[],l,B,v,G,h,h0,h1=>wA.mpr ⟨rfl,Fd.refl h,l,v,rfl,h0,by simpa using h1⟩
 |d::t,l,B,v,G,h,h0,h1=>by refine R8.mpr ⟨rfl,K7.mpr<| u6<| j5<| j5<| b8 (a:=.int l) (G':=G) rfl<| b8 (a:=.int 1000) (G':=G) rfl<| (U8 (Or.inr ⟨by lia,by lia⟩)).mpr<| g8 (as:= [.ref r,.int 1000]) rfl rfl<| R6 h (by decide) λk k0 k1 G1 f1=>n9.mpr ?_⟩;refine Wp.mono (aM t (l*1000+k) (B*1000) (some d) G1 f1.2.2 (by lia) (by lia)) λfl G2 ⟨f2,l',v',e,q0,q1⟩=>⟨f1.trans f2,l',v',e,q0,?_⟩;rw[zr,Int.pow_succ,Int.mul_comm (1000 ^ _) 1000,<-Int.mul_assoc];exact q1
theorem KO{r:Nat}{G:DH}(h:Dr G r):Wp (Q9 [.ref r]) G λx G'=>∃i,x= .int i/\S1 i/\Fd r G G':=by
 refine o5 (show Wp (OG [sRf r,none,none,none,none]) G _ from ?_);rw[VR];refine d8.mpr<| u6<| g8 (as:= [.ref r,.int 8]) rfl rfl<| R6 h (by decide) λw w0 w1 G1 f1=>?_;refine d8.mpr<| M7<| v4<| j5<| b8 (a:=.int w) (G':=G1) rfl<| b8 (a:=.int 5) (G':=G1) rfl<| lt_int.mpr ⟨_,rfl,λk=>?_,λk=>o8.mpr ?_⟩
 · refine d8.mpr<| u6<| g8 (as:= [.ref r,.int 40]) rfl rfl<| R6 f1.2.2 (by decide) λk k0 k1 G2 f2=>?_;have b1:0<=k % 2:=yi _ (by lia);have b2:k % 2<2:=xn _ (by lia);refine o6<| j5<| j5<| b8 (a:=.int k) (G':=G2) rfl<| b8 (a:=.int 2) (G':=G2) rfl<| (lD ⟨by decide,by decide⟩).mpr<| j5<| b8 (a:=.int 1) (G':=G2) rfl<| j5<| b8 (a:=.int 2) (G':=G2) rfl<| j5<| b8 (a:=.int k) (G':=G2) rfl<| b8 (a:=.int 2) (G':=G2) rfl<| (W8 (by decide)).mpr<| (U8 (Or.inl ⟨by decide,by decide⟩)).mpr<| WD.mpr<| (U8 (Or.inr ⟨by lia,by lia⟩)).mpr<| m7 ⟨_,rfl,?_,f1.trans f2⟩;unfold S1;have c:k % 2=0\/k % 2=1:=by lia
   rcases c with c|c<;>rw[c]<;>constructor<;>lia
 · have k:=of_decide_eq_false k;refine d8.mpr<| M7<| v4<| j5<| b8 (a:=.int w) (G':=G1) rfl<| b8 (a:=.int 5) (G':=G1) rfl<| i6.mpr ⟨_,rfl,λk=>?_,λk=>o8.mpr ?_⟩
   ·simp only[P5,Z9,mJ,AG,U5,N8,o7,E5,N6,O2,EF (show g6 10 20 by decide),p18,BJ,WD,zH,zU,jY,yj,zP,exists_eq_left'];refine⟨sz,rfl,cM f1.2.2 rfl (by decide) λd hd G2 f2=>m7 ?_⟩;simp only[zu,ja,or_false]at hd;rcases hd with rfl|rfl|rfl|rfl<;>exact⟨_,rfl,by unfold S1;lia,f1.trans f2⟩
   · have k:=of_decide_eq_false k;refine d8.mpr<| u6<| b8 (a:=.int 0) (G':=G1) rfl<| d8.mpr<| P7.mpr<| WF.mpr<| b8 (a:= [.int 6]) (G':=G1) rfl<| (sF ⟨by decide,by decide⟩).mpr ?_;refine Wp.mono (aM (R7 0 (6:Int).toNat) 0 1 none G1 f1.2.2 (by decide) (by decide)) λfl G2 ⟨f2,l,v,e2,q0,q1⟩=>?_;subst e2;have q1:l<1000000000000000000:=q1;refine o6<| j5<| j5<| j5<| b8 (a:=.int l) (G':=G2) rfl<| b8 (a:=.int 100) (G':=G2) rfl<| (U8 (Or.inr ⟨by lia,by lia⟩)).mpr<| g8 (as:= [.ref r,.int 100]) rfl rfl<| R6 f2.2.2 (by decide) λk k0 k1 G3 f3=>n9.mpr<| j5<| b8 (a:=.int 13) (G':=G3) rfl<| j5<| b8 (a:=.int 2) (G':=G3) rfl<| b8 (a:=.int w) (G':=G3) rfl<| (U8 (Or.inl ⟨by decide,by decide⟩)).mpr<| WD.mpr<| (U8 (Or.inr ⟨by lia,by lia⟩)).mpr<| m7 ⟨_,rfl,?_,(f1.trans f2).trans f3⟩;unfold S1;have c:w=6\/w=7:=by lia
     rcases c with rfl|rfl<;>constructor<;>lia
def DL'(G:DH)(q L:Nat):Prop:=∃ns:List Nat,G[q]? =some (.lst (ns.map λn:Nat=>D.int (n:Int)))/\ns.length<=L
theorem MF{G:DH}{q L:Nat}{x:Int}{Q:DPP}(h:DL' G q L)(hL:L<=100000)(hx:0<=x)(k:∀o,DL' (G.set q o) q (L+1)->Q .non (G.set q o)):Wp (J1 (.ref q) [.int x]) G Q:=by have bg:=big;obtain⟨ns,e,hl⟩:=h;rw[Q3 e (by rw[zf];lia)];refine k _ ⟨ns++[x.toNat],?_,by simp;lia⟩;rw[jk (lt_of_get e),zY];have ex:((x.toNat:Nat):Int)=x:=Int.toNat_of_nonneg hx;simp only[zK,xY,ex]
theorem BF{G:DH}{q L:Nat}{R:Unit->DH->Prop}(h:DL' G q L):Wp (v9 (.ref q)) G R↔R () G:=by obtain⟨ns,e,hl⟩:=h;exact M9 e
theorem FM{i j:Int}{G:DH}{Q:DPP}:Wp (geD (.int i) (.int j)) G Q↔Q (.bl (decide (i>=j))) G:=wp_pure
theorem Lc{G:DH}{p:Nat}{l:List D}{i:Int}{Q:DPP}(e:G[p]? =some (.rol l)):Wp (ixD (.ref p) (.int i)) G Q↔∃d,atI l i=some d/\Q d G:=by
 have h:ixD (.ref p) (.int i)= (do
  let l <-K4 p >>= DL.listOf
  C1 (atI l i)):=rfl
 rw[h];simp only[d9,M6,e,S6,DL.listOf,wp_pure,l9]
theorem Mz:oJ=f9 (v7 (S7 o0) E1) (f9 (S3 (A7 (S0 (j3 bB (D0 lenF c0) (cIn 80)))) N0 DB) (t7 (L6 g0 (F7) (T6 (cIn 240))))):=rfl
section
variable{s:Option D}{q L:Nat}{k rest:Int}{u v:Option D}
def Fq(q:Nat)(G G':DH):Prop:=G.length<=G'.length/\∀i,i≠q->i<G.length->G'[i]? =G[i]?
theorem Fq.refl{G:DH}:Fq q G G:=⟨zg _,λ_ _ _=>rfl⟩
theorem Fq.trans{G G1 G2:DH}(h:Fq q G G1)(k:Fq q G1 G2):Fq q G G2:=⟨zQ h.1 k.1,λi hi hl=>by rw[k.2 i hi (by have:=h.1;lia),h.2 i hi hl]⟩
theorem Fq.set{G:DH}{o:DO}:Fq q G (G.set q o):=⟨by simp,λi hi hl=>by rw[jd (Ne.symm hi)]⟩
theorem BY{G:DH}(h:DL' G q L)(hL:L<=90000)(hk:0<=k/\k<100)(hr:0<=rest):
 Wp (D1 [s,sRf q,some (.int k),some (.int rest),u,v]) G λfl G'=>Fq q G G'/\DL' G' q (L+3)/\∃u',fl= .nx [s,sRf q,some (.int k),some (.int rest),u',v]:=by
 unfold D1;have m1:i8 7919 k:=Or.inl ⟨by lia,by lia⟩;have m3:i8 40692 (k+7):=Or.inl ⟨by lia,by lia⟩;simp only[d8,c8,K7,E7,y4,Z9,N8,o7,E5,N6,jY,yj,zH,zU,zP,exists_eq_left',U8 m1,U8 m3,n9,W8 (show (0:Int)<2147483647 by decide)];have b1:0<=(rest+7919*k+3) % 2147483647:=yi _ (by lia);rw[U8 (Or.inr ⟨by decide,by decide⟩),W8 (by decide)];have b2:0<=(rest+7919*k+3) % 2147483647*48271 % 2147483647:=yi _ (by lia);have b3:(rest+7919*k+3) % 2147483647*48271 % 2147483647<2147483647:=xn _ (by lia);generalize (rest+7919*k+3) % 2147483647*48271 % 2147483647=a at *;rw[U8 (Or.inl ⟨by lia,by lia⟩),W8 (by decide)];have c1:0<=a*a % 2147483629:=yi _ (by lia);have c2:a*a % 2147483629<2147483629:=xn _ (by lia);generalize a*a % 2147483629=c at *;rw[BF h,lD ⟨by decide,by decide⟩,W8 (by decide)];refine MF h (by lia) (yi _ (by decide)) λo1 h1=>?_;rw[BF h1,lD ⟨by decide,by decide⟩,W8 (by decide)];refine MF h1 (by lia) (yi _ (by decide)) λo2 h2=>?_;rw[n9,W8 (by decide)];have d1:0<=(c+40692*(k+7)) % 2147483587:=yi _ (by lia);have d2:(c+40692*(k+7)) % 2147483587<2147483587:=xn _ (by lia);generalize (c+40692*(k+7)) % 2147483587=e at *;rw[BF h2,U8 (Or.inl ⟨by lia,by lia⟩),W8 (by decide),lD ⟨by decide,by decide⟩,W8 (by decide)];refine MF h2 (by lia) (yi _ (by decide)) λo3 h3=>?_;exact⟨(Fq.set.trans Fq.set).trans Fq.set,h3,_,rfl⟩
theorem wQ:∀(j m:Nat) (rest:Int) (L:Nat) (G:DH),m+j=60->0<=rest->DL' G q L->L+j<=90000->
 Wp (K9 (j+1) WT1 WB1 [s,sRf q,some (.int k),some (.int rest),u,some (.int m)]) G λfl G'=>Fq q G G'/\DL' G' q (L+j)/\∃r' m',fl= .nx [s,sRf q,some (.int k),some (.int r'),u,some (.int m')]
 |0,m,rest,L,G,hm,hr,h,hL=>by
   rw[R5];unfold WT1;have c:¬((m:Int)<60):=by lia
   simp only[tE,rA,Z9,E5,N6,FM,lt_int,tB,zH,zU,zP,exists_eq_left',c,decide_false];split
   ·simp only[zy,if_false];exact⟨Fq.refl,h,rest,m,rfl⟩
   ·simp only[zy,if_false];exact⟨Fq.refl,h,rest,m,rfl⟩
 |j+1,m,rest,L,G,hm,hr,h,hL=>by
   rw[R5];have c:((m:Int)<60):=by lia
   have et:Wp (WT1 [s,sRf q,some (.int k),some (.int rest),u,some (.int m)]) G λb G'=>b=decide (rest>=1000)/\G'=G:=by
    unfold WT1;simp only[tE,rA,Z9,E5,N6,FM,lt_int,tB,zH,zU,zP,exists_eq_left',c,decide_true];by_cases cr:rest>=1000
    ·simp[cr]
    ·simp[cr]
   refine Wp.mono et λb G1 ⟨eb,eg⟩=>?_;subst eb eg;by_cases cr:rest>=1000
   · rw[if_pos (decide_eq_true cr)];unfold WB1;simp only[d8,c8,K7,E7,y4,Z9,N8,o7,E5,N6,jY,yj,zH,zU,zP,exists_eq_left',BF h,W8 (show (0:Int)<1000 by decide),n9,lD (show (0:Int)<1000/\(1000:Int)<2 ^ 100 by decide)];refine MF h (by lia) (yi _ (by decide)) λo h1=>?_;refine Wp.mono (wQ j (m+1) (rest / 1000) (L+1) (G1.set q o) (by lia) (by lia) h1 (by lia)) λfl G2 ⟨f2,h2,q2⟩=>⟨Fq.set.trans f2,?_,q2⟩;have e:L+(j+1)=L+1+j:=by lia
     rw[e];exact h2
   ·rw[if_neg (by simpa using cr)];obtain⟨ns,e,hl⟩:=h;exact⟨Fq.refl,⟨ns,e,by lia⟩,rest,m,rfl⟩
theorem oT{G:DH}(h:DL' G q L)(hL:L<=80000)(hr:0<=rest):
 Wp (D2 [s,sRf q,some (.int k),some (.int rest),u,v]) G λfl G'=>Fq q G G'/\DL' G' q (L+60)/\∃r' v',fl= .nx [s,sRf q,some (.int k),some (.int r'),u,v']:=by
 unfold D2;simp only[d8,c8,K7,E5,jY,yj];refine rB (Wp.mono (wQ 60 0 rest L G rfl hr h (by lia)) λfl G1 ⟨f1,h1,r',m',e⟩=>?_);exact⟨f1,h1,r',_,e⟩
theorem Wm{p:Nat}{ns:List Int}{i:Nat}{G:DH}(e:G[p]? =some (.rol (ns.map D.int)))(hi:i<ns.length)(hi2:i<100)(h:DL' G q L)(hL:L<=80000){t:Option D}:
 Wp (DB [sRf p,sRf q,some (.int i),t,u,v]) G λfl G'=>Fq q G G'/\DL' G' q (L+60)/\∃t' u' v',fl= .nx [sRf p,sRf q,some (.int i),t',u',v']:=by
 have ei:atI (ns.map D.int) (i:Int)=some (.int ns[i]):=atI_nat (by rw[jp,zo hi];rfl);unfold DB;simp only[d8,c8,K7,U5,Z9,N8,o7,E5,N6,jY,yj,zH,zU,zP,exists_eq_left',Lc e,ei,QR,tD,rA,p18,lt_int,tB];have hr:0<=(if ns[i]<0 then -ns[i]else ns[i]):=by split<;>lia
 generalize (if ns[i]<0 then -ns[i]else ns[i])=rest at *;split
 ·refine Wp.mono (BY h (by lia) ⟨by lia,by lia⟩ hr) λfl G1 ⟨f1,h1,u',ef⟩=>⟨f1,?_,_,_,_,ef⟩;obtain⟨ns,e,hl⟩:=h1;exact⟨ns,e,by lia⟩
 ·exact Wp.mono (oT h hL hr) λfl G1 ⟨f1,h1,r',v',ef⟩=>⟨f1,h1,_,_,_,ef⟩
theorem lP{p:Nat}{ns:List Int}(hpq:p≠q):∀(is:List Nat) (L:Nat) (a t u v:Option D) (G:DH),G[p]? =some (.rol (ns.map D.int))->DL' G q L->(∀i∈is,i<ns.length/\i<100)->L+60*is.length<=80000->
 Wp (B2 N0 DB (λ_=>true) (is.map λi:Nat=>D.int (i:Int)) [sRf p,sRf q,a,t,u,v]) G λfl G'=>Fq q G G'/\DL' G' q 80000/\∃a t u v,fl= .nx [sRf p,sRf q,a,t,u,v]
 |[],L,a,t,u,v,G,e,h,hi,hL=>by rw[xY,wA];obtain⟨ns,e,hl⟩:=h;exact⟨rfl,Fq.refl,⟨ns,e,by simp at hL;lia⟩,a,t,u,v,rfl⟩
 |i::r,L,a,t,u,v,G,e,h,hi,hL=>by
   simp only[zr]at hL;have hi0:=hi i (by simp);rw[zK,R8,K7];refine⟨rfl,?_⟩;simp only[jY,yj];refine Wp.mono (Wm e hi0.1 hi0.2 h (by lia)) λfl G1 ⟨f1,h1,t',u',v',ef⟩=>?_;subst ef;have e1:G1[p]? =some (.rol (ns.map D.int)):=by rw[f1.2 p hpq (lt_of_get e)];exact e
   exact Wp.mono (lP hpq r (L+60) _ _ _ _ G1 e1 h1 (λj hj=>hi j (by simp[hj])) (by lia)) λfl G2 ⟨f2,q2⟩=>⟨f1.trans f2,q2⟩
end
theorem qc(n:Nat):R7 0 n= (zF n).map λi:Nat=>D.int (i:Int):=by unfold R7;apply ye;intro i _;simp
theorem NZ{G:DH}{p:Nat}{l:List D}{Q:DPP}(e:G[p]? =some (.rol l)):Wp (lenF [.ref p]) G Q↔Q (.int l.length) G:=by unfold lenF;simp only[d9,M6,e,S6,wp_pure]
theorem US{p:Nat}{ns:List Int}{G:DH}(e:G[p]? =some (.rol (ns.map D.int)))(hn:ns.length<=63):Wp (U6 [.ref p]) G λx G'=>∃r,x= .ref r/\Dr G' r:=by
 unfold U6;rw[Mz];have hp:=lt_of_get e;have s0:([D.ref p].map some++jJ (6 - [D.ref p].length) none:DSt)= [sRf p,none,none,none,none,none]:=rfl;simp only[L7,s0,d8,c8,K7,AG,P7,WF,U5,N8,o7,E5,N6,jY,yj,zH,zU,zP,exists_eq_left'];refine⟨sz,?_⟩;have e1:=t8 (t:= [DO.lst []]) e;rw[NZ e1,gR];have hm:(if (80:Int)<((ns.map D.int).length:Int)then (80:Int)else ((ns.map D.int).length:Int))= (ns.length:Int):=by rw[zf,if_neg (by lia)]
 rw[hm,sF ⟨by lia,by lia⟩,yg];show Wp (B2 N0 DB (λ_=>true) (R7 0 ns.length) [sRf p,some (.ref G.length),none,none,none,none]) (G++[DO.lst []]) _;rw[qc];refine Wp.mono (lP (ns:=ns) (show p≠G.length by lia) (zF ns.length) 0 none none none none _ e1 ⟨[],m5,by simp⟩ (λi hi=>⟨jo.mp hi,by have:=jo.mp hi;lia⟩) (by rw[jV];lia)) λfl G1 ⟨f1,h1,a,t,u,v,ef⟩=>?_;subst ef;obtain⟨ms,em,hl⟩:=h1;simp only[P5,vE,dL,sM,Kc,E5,N6,zH,zU,zP,exists_eq_left'];rw[fP em];refine⟨_,rfl,ms.take 240,?_⟩;rw[m5];have:=Tm (ms.map λn:Nat=>D.int (n:Int)) 240;rw[show (some (240:Int))=some ((240:Nat):Int)from rfl,this,List.map_take]
theorem bF(e:G[p]? =some (.lst l)):Wp (lenF [.ref p]) G Q↔Q (.int (l.length:Int)) G:=by unfold lenF;simp only[d9,M6,e,S6,wp_pure]
abbrev e30:Int:=1000000000000000000000000000000
abbrev e20:Int:=100000000000000000000
def pD(p:Int×Int):D:=.tup [.int p.1,.int p.2]
structure Z8(p:Int×Int):Prop where
 le:p.1<=p.2
 lo:S1 p.1\/p.1= -e30
 hi:S1 p.2\/p.2=e30
theorem p20:Wp (y3 (.int 10) (.int 20)) G Q↔Q (.int e20) G:=EF (show g6 10 20 by decide)
theorem p30:Wp (y3 (.int 10) (.int 30)) G Q↔Q (.int e30) G:=EF (show g6 10 30 by decide)
def N4(n:Int):Option Int:=if (if n<0 then -n else n)=e30 then none else some n
theorem X5{n:Int}(h:S1 n):N4 n=some n:=by unfold S1 at h;unfold N4;rw[if_neg (by split<;>lia)]
theorem NG:N4 (-e30)=none:=by decide
theorem NC:N4 e30=none:=by decide
def rg(p:Int×Int):Rg:=(N4 p.1,N4 p.2)
theorem GG{n:Int}{G:DH}{Q:DPP}(q:Q (F1 (N4 n)) G):Wp (Q5 [.int n]) G Q:=by
 refine o5<| d8.mpr<| M7<| v4<| j5<| V0 rfl<| QR.mpr<| j5<| b8 rfl<| b8 rfl<| p30.mpr<| i6.mpr ⟨_,rfl,λk=>?_,λk=>?_⟩
 ·have k:=of_decide_eq_true k;rw[show N4 n=none from if_pos k]at q;exact o6<| b8 rfl<| m7 q
 ·have k:=of_decide_eq_false k;rw[show N4 n=some n from if_neg k]at q;exact o8.mpr<| o6<| b8 rfl<| m7 q
section
variable{a p:Int×Int}
theorem Z8.ok(h:Z8 p):okR (rg p):=by
 obtain⟨le,l,hh⟩:=h;intro x y ex ey;rcases l with l|l
 · rcases hh with hh|hh
   · rw[show (rg p).1=some p.1 from X5 l]at ex;rw[show (rg p).2=some p.2 from X5 hh]at ey
     cases ex;cases ey;exact le
   · rw[show (rg p).2=none by unfold rg;rw[hh];exact NC]at ey
     cases ey
 · rw[show (rg p).1=none by unfold rg;rw[l];exact NG]at ex
   cases ex
theorem Z8.far(ha:Z8 a)(hp:Z8 p):rg (a.1,if p.2>a.2 then p.2 else a.2)= ((rg a).1,c9 (rg a).2 (rg p).2):=by
 have h1:=ha.hi;have h2:=hp.hi;unfold rg;refine Prod.ext rfl ?_;show N4 (if p.2>a.2 then p.2 else a.2)=c9 (N4 a.2) (N4 p.2);rcases h1 with h1|h1
 · rcases h2 with h2|h2
   ·rw[X5 h1,X5 h2,X5 (by split;exact h2;exact h1)];show _=some (max a.2 p.2);congr 1;split<;>lia
   · unfold S1 at h1;rw[h2,if_pos (by lia),NC]
     cases N4 a.2<;>rfl
 ·rw[h1,if_neg (by unfold S1 at h2;lia),NC];rfl
theorem Z8.join(ha:Z8 a)(hp:Z8 p):Z8 (a.1,if p.2>a.2 then p.2 else a.2):=by
 refine⟨?_,ha.lo,?_⟩
 ·have:=ha.le;show a.1<=if p.2>a.2 then p.2 else a.2;split<;>lia
 · show S1 (if p.2>a.2 then p.2 else a.2)\/(if p.2>a.2 then p.2 else a.2)=e30;split
   ·exact hp.hi
   ·exact ha.hi
theorem Z8.clr(ha:Z8 a)(hp:Z8 p):A5 (rg a) (rg p)↔¬p.1<=a.2+1:=by
 have h1:=ha.hi;have h2:=hp.lo;constructor
 · rintro⟨x,y,ex,ey,k⟩;rcases h1 with h1|h1
   · rcases h2 with h2|h2
     · rw[show (rg a).2=some a.2 from X5 h1]at ex;rw[show (rg p).1=some p.1 from X5 h2]at ey
       cases ex;cases ey;lia
     · rw[show (rg p).1=none by unfold rg;rw[h2];exact NG]at ey
       cases ey
   · rw[show (rg a).2=none by unfold rg;rw[h1];exact NC]at ex
     cases ex
 · intro k;have s1:S1 a.2:=h1.resolve_right λz=>by unfold S1 at h2;lia
   have s2:S1 p.1:=h2.resolve_right λz=>by unfold S1 at s1;lia
   exact⟨a.2,p.1,X5 s1,X5 s2,by lia⟩
theorem Z8.kle(ha:Z8 a)(hp:Z8 p)(h:a.1<=p.1):W.kle (rg a).1 (rg p).1:=by
 have h1:=ha.lo;have h2:=hp.lo;rcases h1 with h1|h1
 · have s2:S1 p.1:=h2.resolve_right λz=>by unfold S1 at h1;lia
   rw[show (rg a).1=some a.1 from X5 h1,show (rg p).1=some p.1 from X5 s2];exact h
 ·rw[show (rg a).1=none by unfold rg;rw[h1];exact NG];trivial
end
theorem QQ:∀l:List (Int×Int),Z2 (l.map pD)=some l
 |[]=>rfl
 |p::r=>by show (match pE (pD p),Z2 (r.map pD) with|some a,some b=>some (a::b)|_,_=>none)=_;rw[QQ r];rfl
theorem pV(l:List (Int×Int)):∃l':List (Int×Int),A8 l (l.map pD)=l'.map pD/\l'.Perm l/\l'.Pairwise λp q=>p.1<=q.1:=by
 obtain⟨pm,pw⟩:=QF l l.length;have lt:∀i∈R9 l l.length,i<l.length:=λi hi=>jo.mp (pm.mem_iff.mp hi);refine⟨(R9 l l.length).map λi=>l.getD i (0,0),?_,?_,?_⟩
 ·unfold A8;rw[zf,jv];refine ye λi hi=>?_;have:=lt i hi;simp[zn,this]
 · have e:(zF l.length).map (λi=>l.getD i (0,0))=l:=by
    apply yn
    ·simp
    ·intro i hi hj;simp[hj]
   have:=pm.map λi=>l.getD i ((0,0):Int×Int);rw[e]at this;exact this
 ·refine jC.mpr (pw.imp_of_mem λ{i j} hi hj h=>?_);unfold ltP at h;have:=HA.mp h;lia
theorem qz{a:Nat}{l:List (Int×Int)}{G:DH}{Q:DPP}(e:G[a]? =some (.lst (l.map pD)))(hl:l.length<64)
 (q:∀l':List (Int×Int),l'.Perm l->(l'.Pairwise λp q=>p.1<=q.1)->Q (.ref G.length) (G++[.lst (l'.map pD)])):Wp (DC [.ref a]) G Q:=by
 obtain⟨l',e1,pm,pw⟩:=pV l;refine b8 ?_ (q l' pm pw);show (do match <-K4 a with
  | .lst l=>dE l
  |_=>M.stuck:M D) G=_
 rw[M.bind_ok (show K4 a G=some (.ok (.lst (l.map pD)),G) by unfold K4;rw[e])];show dE (l.map pD) G=_;unfold dE;rw[if_pos (by rw[zf];exact hl),M.bind_ok (show C1 (Z2 (l.map pD)) G=some (.ok l,G) by rw[QQ];rfl),e1];rfl
theorem leI{i j:Int}{G:DH}{Q:DPP}:Wp (leD (.int i) (.int j)) G Q↔Q (.bl (decide (i<=j))) G:=wp_pure
abbrev g23:Fg:=(C8 2 (X8 N0 (X8 A2 (w8))))
abbrev g01:Fg:=(C8 2 (X8 u3 (X8 E1 (w8))))
theorem dY:VF=f9 (v7 (S7 o0) E1) (f9 (S3 (itW (D0 DC c0)) g23 LB) (t7 (D0 V8 (O4 (itW g0) [none,none] g01 (m4) LE)))):=rfl
structure MI(ds kr rest:List (Int×Int)):Prop where
 mg:Mg (ds.map rg) (kr.map rg) (rest.map rg)
 ok:∀p∈kr,Z8 p
 ok2:∀p∈rest,Z8 p
theorem SE(l:List (Int×Int))(p:Int×Int):(l++[p]).map rg=l.map rg++[rg p]:=zY ..
section
variable{ds:List (Int×Int)}{c:Nat}{a0:Option D}
abbrev lS(a0:Option D)(c:Nat)(p:Int×Int):DSt:= [a0,sRf c,some (.int p.1),some (.int p.2)]
theorem Hc{kr rest:List (Int×Int)}{p:Int×Int}{G:DH}(M:MI ds kr (p::rest))(e:G[c]? =some (.lst (kr.map pD)))(hl:ds.length<10000):
 Wp (LB (lS a0 c p)) G λfl G'=>fl= .nx (lS a0 c p)/\∃ko,MI ds ko rest/\G.length<=G'.length/\(∀i,i≠c->i<G.length->G'[i]? =G[i]?)/\G'[c]? =some (.lst (ko.map pD)):=by
 have bg:=big;have okp:=M.ok2 p (zt ..);have ln:=M.mg.len;simp only[zK,zr,zf]at ln;have hG:(G++[DO.lst []])[c]? =some (.lst (kr.map pD)):=t8 e;have hc:=lt_of_get e;have fr:∀ {o:DO} i,i≠c->i<G.length->((G++[DO.lst []]).set c o)[i]? =G[i]? :=λi hi h=>by rw[jd (Ne.symm hi),zE h]
 have new:(∀t e,kr=t++[e]->A5 (rg e) (rg p))->Wp ((T4 (mtE v9 J1 g0 (S0 (F0 i0 C0)))) (lS a0 c p)) (G++[.lst []]) λfl G'=>fl= .nx (lS a0 c p)/\∃ko,MI ds ko rest/\G.length<=G'.length/\(∀i,i≠c->i<G.length->G'[i]? =G[i]?)/\G'[c]? =some (.lst (ko.map pD)):=λhcl=>by
  refine E7.mpr<| y4.mpr<| b8 rfl<| (M9 hG).mpr<| b8 rfl<| (Q3 hG (by rw[zf];lia)).mpr ⟨rfl,kr++[p],⟨?_,λq hq=>(zM.mp hq).elim (M.ok q) λz=>by rw[zm.mp z];exact okp,λq hq=>M.ok2 q (zi _ hq)⟩,by simp,fr,?_⟩
  · rw[SE];refine M.mg.new λt x z=>?_;have md:kr≠ []:=by rintro rfl;cases t<;>cases z
    obtain⟨t',x',rfl⟩:∃(t:List (Int×Int)) (x:Int×Int),kr=t++[x]:=⟨_,_,(xr md).symm⟩;rw[SE]at z;obtain⟨_,h2⟩:=XJ z rfl;rw[<-(zB h2).1];exact hcl t' x' rfl
  ·rw[jk (lt_of_get hG),zY];rfl
 refine M7<| t4<| v4<| j5<| b8 rfl<| b8 rfl<| (lK hG m5).mpr ⟨_,rfl,λh=>?_,λh=>⟨λz=>(nomatch z),λ_=>new λt x z=>?_⟩⟩
 · have md:kr≠ []:=by rintro rfl;cases h
   clear h;obtain⟨t,x,rfl⟩:∃(t:List (Int×Int)) (x:Int×Int),kr=t++[x]:=⟨_,_,(xr md).symm⟩;have okx:=M.ok x (zO _ (zm.mpr rfl));have e':=hG;rw[zY]at e';have ix:∀ {Q:DPP},Q (pD x) (G++[.lst []])->Wp (binE ixD g0 (unE j4 l0) (lS a0 c p)) (G++[.lst []]) Q:=λq=>j5<| b8 rfl<| b8 rfl<| (VA e').mpr ⟨_,iO _ _,q⟩;have ix1:∀ {Q:DPP},Q (.int x.2) (G++[.lst []])->Wp (binE ixD (ixE g0 (unE j4 l0)) l0 (lS a0 c p)) (G++[.lst []]) Q:=λq=>j5<| ix<| b8 rfl<| (ix_tup).mpr ⟨_,rfl,q⟩;refine v4<| j5<| b8 rfl<| j5<| ix1<| b8 rfl<| n9.mpr<| leI.mpr ⟨_,rfl,λh=>?_,λh=>new λt' x' z=>?_⟩
   · have nc:¬A5 (rg x) (rg p):=λk=>(okx.clr okp).mp k (of_decide_eq_true h);refine c8.mpr<| M8.mpr<| j7<| j5<| ix<| b8 rfl<| (ix_tup).mpr ⟨.int x.1,rfl,j7<| M5<| j7<| ix1<| b8 rfl<| b8 rfl<| o7.mpr ⟨sz,?_⟩⟩;refine VO rfl rfl e' (j:=(t.map pD).length) ?_ ⟨rfl,t++[(x.1,if p.2>x.2 then p.2 else x.2)],⟨?_,λq hq=>(zM.mp hq).elim (λz=>M.ok q (ym _ z)) λz=>by rw[zm.mp z];exact okx.join okp,λq hq=>M.ok2 q (zi _ hq)⟩,by simp,fr,?_⟩
     ·unfold ixN;rw[if_neg (by lia),if_pos (by simp;lia)];congr 1;simp;lia
     ·rw[SE,okx.far okp];refine Mg.join ?_ nc;rw[<-SE];exact M.mg
     ·rw[jk (lt_of_get hG),zY,List.set_append_right _ _ (zg _),Nat.sub_self];rfl
   · obtain⟨rfl,h2⟩:=XJ z rfl
     cases h2
     exact(okx.clr okp).mpr (of_decide_eq_false h)
 · rw[z]at h
   cases t<;>cases h
theorem tN{q:Nat}{L:List D}(hq:q≠c):∀(rest kr:List (Int×Int)) (u v:Option D) (G:DH),MI ds kr rest->G[c]? =some (.lst (kr.map pD))->G[q]? =some (.lst L)->ds.length<10000->
 Wp (B2 g23 LB (ckO q (.lst L)) (rest.map pD) [a0,sRf c,u,v]) G λfl G'=>(∃u v,fl= .nx [a0,sRf c,u,v])/\∃ko,MI ds ko []/\G'[c]? =some (.lst (ko.map pD))/\G.length<=G'.length/\∀i,i≠c->i<G.length->G'[i]? =G[i]?
 |[],kr,u,v,G,M,e,eq,hl=>wA.mpr ⟨w4 eq,⟨u,v,rfl⟩,kr,M,e,zg _,λ_ _ _=>rfl⟩
 |p::r,kr,u,v,G,M,e,eq,hl=>by refine R8.mpr ⟨w4 eq,b8 rfl<| (Hc M e hl).mono ?_⟩;rintro _ G1 ⟨rfl,ko,M',l1,f1,e1⟩;refine(tN hq r ko _ _ _ M' e1 (by rw[f1 q hq (lt_of_get eq)];exact eq) hl).mono ?_;rintro _ G2 ⟨⟨u,v,rfl⟩,acc2,M2,e2,l2,f2⟩;exact⟨⟨u,v,rfl⟩,acc2,M2,e2,by lia,λi hi h=>by rw[f2 i hi (by lia),f1 i hi h]⟩
end
theorem wJ{α:Type}{mk:α->D×D}{e:Fe}{f:α->D}{ck:DH->Bool}{G:DH}(mr:ck G=true):∀(l:List α) (u v:Option D),(∀x∈l,e [some (mk x).1,some (mk x).2] G=some (.ok (f x),G))->J6 g01 m4 e ck (l.map λx=>.tup [(mk x).1,(mk x).2]) [u,v] G=some (.ok (l.map f),G)
 |[],u,v,h=>E3 (VB.mpr ⟨mr,rfl,rfl⟩)
 | x :: r, u, v, h => E3 (UD.mpr ⟨mr, b8 rfl <| b8 rfl <| by
    rw[if_pos rfl];exact b8 (h x (zt ..))<| b8 (wJ mr r _ _ λy hy=>h y (zi _ hy)) ⟨rfl,rfl⟩⟩)
theorem EV{p:Int×Int}{G:DH}:LE [some (.int p.1),some (.int p.2)] G=some (.ok (rD (rg p)),G):=
 E3<| M8.mpr<| j7<| g8 rfl rfl<| GG<| j7<| g8 rfl rfl<| GG<| o7.mpr ⟨sz,rfl,rfl⟩
theorem ii{l:List (Int×Int)}{a:Nat}{G:DH}(ok:∀p∈l,Z8 p)(e:G[a]? =some (.lst (l.map pD)))(hl:l.length<64):
 Wp (gF [.ref a]) G λx G'=>∃due,x= .tup (rsD due)/\vR (l.map rg) due/\due.length<=l.length/\(∀r∈due,∃p,Z8 p/\r=rg p)/\Ap G G':=by
 refine o5 (show Wp (VF [sRf a,none,none,none]) G _ from ?_);rw[dY];refine j8 (X1:= [sRf a,some (.ref G.length),none,none]) rfl<| d8.mpr<| P7.mpr<| wp_itW.mpr<| V0 rfl<| qz (t8 e) hl λl' pm pw=>?_;have md:(G++[DO.lst []]).length≠G.length:=by simp
 have st:MI l [] l':=by refine⟨Mg.start (λr hr=>?_) (pm.map rg) (jC.mpr (pw.imp_of_mem λhi hj h=>(ok _ (pm.mem_iff.mp hi)).kle (ok _ (pm.mem_iff.mp hj)) h)),λ_ z=>(nomatch z),λp hp=>ok p (pm.mem_iff.mp hp)⟩;obtain⟨p,hp,rfl⟩:=zW.mp hr;exact(ok p hp).ok
 refine(W7 m5).mpr<| (tN md l' [] none none _ st (t8 m5) m5 (by lia)).mono ?_;rintro _ G1 ⟨⟨u,v,rfl⟩,kr,M,e1,l1,f1⟩;have ml:=M.mg.len;simp only[xY,zf,yh]at ml;refine o6<| M5<| j7<| wp_comp.mpr<| wp_itW.mpr<| b8 rfl<| (W7 e1).mpr ⟨?_,b8 (wJ (mk:=λp:Int×Int=>(.int p.1,.int p.2)) (w4 e1) kr none none λp _=>EV)<| o7.mpr<| (W5 m5).mpr<| m7 ⟨kr.map rg,?_,⟨M.mg.can,λx=>?_⟩,by rw[zf];exact ml,λr hr=>?_,Gr.ap ⟨?_,λi hi=>?_⟩⟩⟩
 · have:(64:Nat)<=zk:=by decide
   rw[zf];lia
 ·unfold rsD;rw[jv];rfl
 ·rw[M.mg.same x];exact⟨.inl,λz=>z.elim id λz=>absurd z g9⟩
 ·obtain⟨p,hp,rfl⟩:=zW.mp hr;exact⟨p,M.ok p hp,rfl⟩
 ·simp only[zd]at l1 ⊢;lia
 ·rw[zE (by simp at l1;lia),f1 i (by lia) (by simp;lia),zA,zE hi]
abbrev AE:List Nat:= [110,117,109,98,101,114]
abbrev cOr:List Nat:= [32,111,114,32]
def smR(r:Rg):Prop:=(∀a,r.1=some a->smI a)/\∀b,r.2=some b->smI b
def swL:Rg->List Nat
 |(none,none)=>AE
 |(none,some h)=> [46,46]++nmL h
 |(some l,none)=>nmL l++[46,46]
 |(some l,some h)=>if l=h then nmL l else nmL l++[46,46]++nmL h
def oL:Option Int->List Nat
 |none=> []
 |some i=>nmL i
theorem kI(h:S1 i):smI i:=by unfold S1 at h;unfold smI QB;lia
theorem Z8.sm(h:Z8 p):smR (rg p):=by
 refine⟨λa e=>?_,λb e=>?_⟩
 · rcases h.lo with k|k
   · rw[show (rg p).1=some p.1 from X5 k]at e
     cases e;exact kI k
   · rw[show (rg p).1=none by unfold rg;rw[k];exact NG]at e
     cases e
 · rcases h.hi with k|k
   · rw[show (rg p).2=some p.2 from X5 k]at e
     cases e;exact kI k
   · rw[show (rg p).2=none by unfold rg;rw[k];exact NC]at e
     cases e
theorem gf(h:smR r):(swL r).length<=90:=by
 obtain⟨a,b⟩:=r;rcases a with _|a<;>rcases b with _|b
 ·decide
 ·have:=F4 (h.2 b rfl);show ([46,46]++nmL b).length<=90;rw[zd];show 2+_<=_;lia
 ·have:=F4 (h.1 a rfl);show (nmL a++[46,46]).length<=90;rw[zd];show _+2<=_;lia
 · have h1:=F4 (h.1 a rfl);have h2:=F4 (h.2 b rfl);show (if a=b then nmL a else nmL a++[46,46]++nmL b).length<=90;split
   ·lia
   ·rw[zd,zd];show _+2+_<=_;lia
section
variable{G:DH}{Q:DPP}
theorem fG(h:a.length+b.length<=1000)(q:Q (.str (ofL (a++b))) G):Wp (addD (.str (ofL a)) (.str (ofL b))) G Q:=by have bg:=big;refine(bK (zQ (show (ofL a).length+(ofL b).length<=1000 from h) (by lia))).mpr ?_;rw[oO];exact q
theorem nU(h:smR r)(q:Q (.str (ofL (swL r))) G):Wp (K6 [F1 r.1,F1 r.2]) G Q:=by
 obtain⟨a,b⟩:=r;rcases a with _|a<;>rcases b with _|b
 ·exact P9 rfl q
 ·have h2:=h.2 b rfl;have l2:=F4 h2;refine o5<| j8 (X1:= [some .non,some (.int b)]) rfl<| d8.mpr<| M7<| b8 rfl ⟨λ_=>?_,λz=>(nomatch z)⟩;exact o6<| j5<| b8 rfl<| V0 rfl<| RA h2<| fG (by show 2+_<=_;lia)<| m7 q
 ·have h1:=h.1 a rfl;have l1:=F4 h1;refine o5<| j8 (X1:= [some (.int a),some .non]) rfl<| j8 (X1:= [some (.int a),some .non]) rfl<| d8.mpr<| M7<| b8 rfl ⟨λ_=>?_,λz=>(nomatch z)⟩;exact o6<| j5<| V0 rfl<| RA h1<| b8 rfl<| fG (by show _+2<=_;lia)<| m7 q
 · have h1:=h.1 a rfl;have l1:=F4 h1;have h2:=h.2 b rfl;have l2:=F4 h2;refine o5<| j8 (X1:= [some (.int a),some (.int b)]) rfl<| j8 (X1:= [some (.int a),some (.int b)]) rfl<| j8 (X1:= [some (.int a),some (.int b)]) rfl<| d8.mpr<| M7<| v4<| j5<| b8 rfl<| b8 rfl<| i6.mpr ⟨_,rfl,λk=>?_,λk=>o8.mpr ?_⟩
   ·have k:=of_decide_eq_true k;rw[show swL (some a,some b)=nmL a from if_pos k]at q;exact o6<| V0 rfl<| RA h1<| m7 q
   ·have k:=of_decide_eq_false k;rw[show swL (some a,some b)=nmL a++[46,46]++nmL b from if_neg k]at q;exact o6<| j5<| j5<| V0 rfl<| RA h1<| b8 rfl<| fG (by show _+2<=_;lia)<| V0 rfl<| RA h2<| fG (by rw[zd];show _+2+_<=_;lia)<| m7 q
end
def mD:D->D
 | .str z=>.tup [.int z.length,.str z]
 |_=>.non
def txB(a b:Str):Bool:=if a.length=b.length then decide (a.cps.toList<b.cps.toList)else decide (a.length<b.length)
theorem PU(h:z.length<=zk):Wp (K1 [.str z]) G Q↔Q (mD (.str z)) G:=by unfold K1 BI;have s0:([D.str z].map some++jJ (1 - [D.str z].length) none:DSt)= [some (.str z)]:=rfl;simp only[L7,s0,P5,M8,U5,N8,o7,N6,zP,exists_eq_left',zH,nC h];exact⟨λq=>q.2,λq=>⟨sz,q⟩⟩
abbrev wOf:Str:= "of"
abbrev RN:Str:= "but"
theorem gL(z:Str)(d:D):∀l:List (Key×D),J2 (l.map λkv=>if kv.1= .inr z then (kv.1,d)else kv)=J2 l
 |[]=>rfl
 |(k,v)::r=>by
  have ih:=gL z d r;rw[zK];have e:(if ((k,v):Key×D).1= .inr z then (((k,v):Key×D).1,d)else (k,v)).1=k:=by split<;>rfl
  generalize (if ((k,v):Key×D).1= .inr z then (((k,v):Key×D).1,d)else (k,v))=p at e;obtain⟨k',v'⟩:=p
  cases e
  cases k' with
  |inl i=>rfl
  |inr y=>simp only[J2,ih]
theorem OQ(z:Str)(d:D):∀l ss,J2 l=some ss->J2 (l++[(.inr z,d)])=some (ss++[z])
 |[],ss,h=>by cases h;rfl
 |(.inl i,v)::r,ss,h=>by cases h
 |(.inr y,v)::r,ss,h=>by
  unfold J2 at h
  cases hr:J2 r with
  |none=>rw[hr]at h;cases h
  |some t=>
    rw[hr]at h
    cases h
    rw[List.cons_append];unfold J2;rw[OQ z d r t hr];rfl
def Tx(z:Str):Prop:=LO z=true/\z.length<=1000
def Ris(s:List Str):Prop:=s.Pairwise λa b=>txB a b=true
theorem fM(h1:txB a b=true)(h2:txB b c=true):txB a c=true:=by have:= @kA ((a.length:Int),a) ((b.length:Int),b) ((c.length:Int),c);unfold V9 at this;unfold txB at *;simp only[Int.ofNat_inj,Int.ofNat_lt]at this;exact this h1 h2
theorem sC(a:Str):txB a a=false:=by unfold txB;rw[if_pos rfl,decide_eq_false (List.lt_irrefl _)]
theorem mG(a b:Str):txB a b=V9 ((a.length:Int),a) ((b.length:Int),b):=by unfold txB V9;simp only[Int.ofNat_inj,Int.ofNat_lt]
theorem bO:∀ {s t},Ris s->Ris t->(∀z,z∈s↔z∈t)->s=t
 |[], [],_,_,_=>rfl
 |[],b::t,_,_,h=>by have:=(h b).mpr (by simp);cases this
 |a::s, [],_,_,h=>by have:=(h a).mp (by simp);cases this
 |a::s,b::t,h1,h2,h=>by
   obtain⟨p1,p2⟩:=yO.mp h1;obtain⟨q1,q2⟩:=yO.mp h2;have e:a=b:=by
    rcases zu.mp ((h a).mp (by simp))with e|m
    ·exact e
    · rcases zu.mp ((h b).mpr (by simp))with e|m'
      ·exact e.symm
      ·have:=fM (q1 a m) (p1 b m');rw[sC]at this;cases this
   subst e;congr 1;refine bO p2 q2 λz=>⟨λm=>?_,λm=>?_⟩
   · rcases zu.mp ((h z).mp (zi _ m))with e|m'
     ·subst e;have:=p1 z m;rw[sC]at this;cases this
     ·exact m'
   · rcases zu.mp ((h z).mpr (zi _ m))with e|m'
     ·subst e;have:=q1 z m;rw[sC]at this;cases this
     ·exact m'
abbrev wrd(b:Bool):Str:=if b then wOf else RN
def C2(b:Bool)(s:List Str):D:=.tup [.str (wrd b),.tup (s.map D.str)]
theorem NN:∀s t:List Str,eqL (eqN (n+1) G) (s.map D.str) (t.map D.str)=some (decide (s=t))
 |[], []=>by simp[eqL]
 |[],_::_=>by simp[eqL]
 |_::_, []=>by simp[eqL]
 |a::s,b::t=>by
   have e:eqN (n+1) G (.str a) (.str b)=some (a==b):=rfl;simp only[zK,eqL,e,NN s t,zP];by_cases h1:a=b
   ·by_cases h2:s=t<;>simp[h1,h2]
   ·simp[h1]
def Mk(l:List (Key×D))(ks:List Str):Prop:=J2 l=some ks/\ks.Nodup
theorem qK:∀ {l} {ks} {z},J2 l=some ks->(L3 l (.inr z)).isSome=decide (z∈ks)
 |[],ks,z,h=>by cases h;rfl
 |(.inl i,v)::r,ks,z,h=>by cases h
 |(.inr x,v)::r,ks,z,h=>by
  unfold J2 at h
  cases hr:J2 r with
  |none=>rw[hr]at h;cases h
  |some t=>
    rw[hr]at h
    cases h
    have ih:=qK (z:=z) hr;unfold L3 at ih ⊢;rw[yG];by_cases hx:x=z
    ·subst hx;simp
    · have h1:decide ((Sum.inr x:Key)= .inr z)=false:=by simpa using hx
      have h2:¬z=x:=λe=>hx e.symm;simp only[h1];rw[ih];simp[h2]
theorem Pk(h:J2 l=some ks):l.any (λkv=>decide (kv.1= .inr z))=decide (z∈ks):=by
 rw[<-qK h];unfold L3;rw[ZL]
 induction l generalizing ks with
 |nil=>rfl
 |cons kv r ih=>
   rw[jj,yG]
   cases hk:decide (kv.1= .inr z) with
   |true=>rfl
   |false=>
     obtain⟨k,v⟩:=kv
     cases k with
     |inl i=>cases h
     |inr x=>
       unfold J2 at h
       cases hr:J2 r with
       |none=>rw[hr]at h;cases h
       |some t=>rw[ih hr];rfl
theorem Vk(h:Mk l ks):Mk (cB l (.inr z) d) (if z∈ks then ks else ks++[z]):=by
 unfold cB;rw[Pk h.1];by_cases hz:z∈ks
 ·simp only[hz,decide_true,if_true];exact⟨by rw[gL];exact h.1,h.2⟩
 ·simp only[hz,decide_false,zy,if_false];refine⟨OQ z d l ks h.1,?_⟩;rw[ZW];exact⟨h.2,by simp,λa ha b hb=>by rw[zm]at hb;subst hb;exact λe=>hz (by rw[<-e];exact ha)⟩
theorem sH:∀s:List Str,pA (s.map λz=>.tup [.str z,.bl true])=some (s.map λz=>(.inr z,.bl true))
 |[]=>rfl
 |a::r=>by simp only[zK,pA,aC,f8,sH r]
theorem pI:∀(s:List Str) l ks,Mk l ks->∃ks',Mk (IB l (s.map λz=>(.inr z,.bl true))) ks'/\(∀z,z∈ks'↔z∈ks\/z∈s)/\ks'.length<=ks.length+s.length
 |[],l,ks,h=>⟨ks,h,by simp,by simp⟩
 |a::r,l,ks,h=>by
   obtain⟨ks',h1,h2,h3⟩:=pI r _ _ (Vk h);refine⟨ks',h1,λz=>?_,?_⟩
   · rw[h2 z];by_cases ha:a∈ks
     · simp only[ha,if_true,zu];constructor
       · rintro(h|h)
         ·exact .inl h
         ·exact .inr (.inr h)
       · rintro(h|rfl|h)
         ·exact .inl h
         ·exact .inl ha
         ·exact .inr h
     ·simp only[ha,if_false,zM,zu,or_assoc,ja,false_or]
   · by_cases ha:a∈ks
     ·simp only[ha,if_true]at h3;simp only[zr];omega
     ·simp only[ha,if_false,zd,jE]at h3;simp only[zr];omega
theorem pM(e:G[r]? =some (.lst l))(h:pA l=some ps):Wp (UA [.ref r]) G Q↔Q (.ref G.length) (G++[.dct (IB [] ps)]):=by unfold UA;simp only[d9,M6,e,S6,DL.listOf,wp_pure,l9,h,O5]
theorem fJ{s:List Str}{G:DH}(hl:s.length<=1000):Wp (mB [.tup (s.map D.str)]) G λx G'=>∃q l ks,x= .ref q/\G'[q]? =some (.dct l)/\Mk l ks/\(∀z,z∈ks↔z∈s)/\ks.length<=s.length/\Ap G G'/\G.length<=q:=by
 have bg:=big;unfold mB CJ;have s0:([D.tup (s.map D.str)].map some++jJ (1 - [D.tup (s.map D.str)].length) none:DSt)= [some (.tup (s.map D.str))]:=rfl;simp only[L7,s0,P5,U5,N8,o7];rw[eX (λσ=>σ.length=1) rfl (by show (s.map D.str).length<=_;rw[zf];omega) rfl rfl (λx hx σ hσ=>?_)]
 · have e:(s.map D.str).map (λx=>D.tup [x,.bl true])=s.map λz=>.tup [.str z,.bl true]:=by rw[jv];rfl
   show Wp (UA [.ref G.length]) (G++[.lst ((s.map D.str).map λx=>D.tup [x,.bl true])]) _;rw[e,pM m5 (sH s)];obtain⟨ks',h1,h2,h3⟩:=pI s [] [] ⟨rfl,by simp⟩;exact⟨_,_,ks',rfl,m5,h1,by simpa using h2,by simpa using h3,Ap.one.trans Ap.one,by simp⟩
 · match σ,hσ with
   |[u],_=>
     refine⟨[some x],rfl,rfl,rfl,E3 ?_⟩;simp only[M8,N8,o7,E5,N6,zH,zP,exists_eq_left'];exact⟨sz,by first|rfl|trivial,trivial⟩
theorem RR(e:G[q]? =some (.dct l))(h:J2 l=some ks):inB (.str z) (.ref q) G=some (decide (z∈ks)):=by unfold inB;simp only[e,f8,Zl,qK h]
theorem ML{s:List Str}:((s.map D.str).filter λx=>match x with| .str z=>p z|_=>false)= (s.filter p).map D.str:=by rw[List.filter_map];rfl
theorem Bb{s t:List Str}{G:DH}(hs:s.length<=1000)(ht:t.length<=1000):Wp (VD [.tup (s.map D.str),.tup (t.map D.str)]) G λx G'=>x= .tup ((s.filter λz=>decide (z∈t)).map D.str)/\Ap G G':=by
 have bg:=big;unfold VD nK;have s0:([D.tup (s.map D.str),.tup (t.map D.str)].map some++jJ (3 - [D.tup (s.map D.str),.tup (t.map D.str)].length) none:DSt)= [some (.tup (s.map D.str)),some (.tup (t.map D.str)),none]:=rfl;simp only[L7,s0,d8,c8,K7,P5,U5,N8,o7,N6,O2,wp_comp,wp_itW,srcW_tup,yj,jY,zH,zU,zP,exists_eq_left'];refine⟨rfl,Wp.mono (fJ ht) λx G1 ⟨q,l,ks,ex,e1,mk,mm,_,a1,_⟩=>?_⟩;subst ex;refine⟨by rw[zf];omega,?_⟩;have hc:J6 u3 (tBn inD c0 g0) c0 (λ_=>true) (s.map D.str) (X7 [none,some 2] [some (.tup (s.map D.str)),some (.tup (t.map D.str)),sRf q]) G1=some (.ok ((s.map D.str).filter λx=>match x with| .str z=>decide (z∈t)|_=>false),G1):=by refine rK rfl (λσ=>∃u,σ= [u,sRf q]) _ _ ⟨none,rfl⟩ λx hx σ hσ=>?_;obtain⟨z,hz,rfl⟩:=zW.mp hx;obtain⟨u,rfl⟩:=hσ;refine⟨[some (.str z),sRf q],rfl,⟨_,rfl⟩,E3 ?_,rfl⟩;simp only[rA,Z9,N6,zH,zU,zP,exists_eq_left',KZ,RR e1 mk.1,tB];refine⟨?_,trivial⟩;simp only[mm]
 refine(N9 hc).mpr ?_;rw[W5 m5,ML];exact⟨rfl,a1.trans Ap.one⟩
theorem GP{s t:List Str}{G:DH}(hs:s.length<=1000)(ht:t.length<=1000):Wp (lC [.tup (s.map D.str),.tup (t.map D.str)]) G λx G'=>x= .tup ((s.filter λz=> !decide (z∈t)).map D.str)/\Ap G G':=by
 have bg:=big;unfold lC tH;have s0:([D.tup (s.map D.str),.tup (t.map D.str)].map some++jJ (3 - [D.tup (s.map D.str),.tup (t.map D.str)].length) none:DSt)= [some (.tup (s.map D.str)),some (.tup (t.map D.str)),none]:=rfl;simp only[L7,s0,d8,c8,K7,P5,U5,N8,o7,N6,O2,wp_comp,wp_itW,srcW_tup,yj,jY,zH,zU,zP,exists_eq_left'];refine⟨rfl,Wp.mono (fJ ht) λx G1 ⟨q,l,ks,ex,e1,mk,mm,_,a1,_⟩=>?_⟩;subst ex;refine⟨by rw[zf];omega,?_⟩;have hc:J6 u3 (tBn nA c0 g0) c0 (λ_=>true) (s.map D.str) (X7 [none,some 2] [some (.tup (s.map D.str)),some (.tup (t.map D.str)),sRf q]) G1=some (.ok ((s.map D.str).filter λx=>match x with| .str z=> !decide (z∈t)|_=>false),G1):=by refine rK rfl (λσ=>∃u,σ= [u,sRf q]) _ _ ⟨none,rfl⟩ λx hx σ hσ=>?_;obtain⟨z,hz,rfl⟩:=zW.mp hx;obtain⟨u,rfl⟩:=hσ;refine⟨[some (.str z),sRf q],rfl,⟨_,rfl⟩,E3 ?_,rfl⟩;simp only[rA,Z9,N6,zH,zU,zP,exists_eq_left',LH,RR e1 mk.1,tB];refine⟨?_,trivial⟩;simp only[mm]
 refine(N9 hc).mpr ?_;rw[W5 m5,ML];exact⟨rfl,a1.trans Ap.one⟩
theorem TL:∀(s:List Str) G,(∀z∈s,z.length<=zk)->Q7 K1 (s.map D.str) G=some (.ok (s.map λz=>mD (.str z)),G)
 |[],G,_=>rfl
 |a::r,G,h=>by have h1:noX (K1 [.str a]) G=some (.ok (mD (.str a)),G):=E3 (wC.mpr ((PU (h a (by simp))).mpr ⟨rfl,rfl⟩));have h2:=TL r G λz hz=>h z (by simp[hz]);show (noX (K1 [.str a]) >>= λk=>Q7 K1 (r.map D.str) >>= λks=>pure (k::ks)) G=_;rw[M.bind_ok h1,M.bind_ok h2];rfl
theorem gH:∀s:List Str,F5 oA (s.map λz=>mD (.str z))=some (s.map λz=>((z.length:Int),z))
 |[]=>rfl
 |a::r=>by simp only[zK,F5,gH r];rfl
theorem eS(s:List Str):iC (s.map λz=>mD (.str z))=some (s.map λz=>((z.length:Int),z)):=by unfold iC;rw[gH]
theorem wP(nd:s.Nodup):∃m,t5 (s.map λz=>((z.length:Int),z)) (s.map D.str)=m.map D.str/\Ris m/\m.Perm s:=by
 have hz:(s.map λz=>(((z.length:Int),z):Int×Str)).zip (s.map D.str)=s.map λz=>(((z.length:Int),z),D.str z):=by rw[JS]
 have nd2:(s.map λz=>(((z.length:Int),z):Int×Str)).Nodup:=by rw[List.Nodup,jC];exact nd.imp λ{a b} h e=>h (xA e).2
 let m:=s.mergeSort λa b=> !txB b a
 have hp:m.Perm s:=YQ _ _;have hs:m.Pairwise λa b=>(!txB b a)=true:=JX (λa b c h1 h2=>by
  simp only[yE]at *;refine yW.mpr λh=>?_;by_cases e:a=b
  ·subst e;rw[h]at h2;cases h2
  ·rw[mG]at h h1 h2;have:=kA h (eC (λz=>e (xA z).2.symm) h1);rw[this]at h2;cases h2) (λa b=>by
  by_cases e:a=b
  ·subst e;rw[sC];rfl
  · cases q:txB b a with
    |false=>rfl
    |true=>
      have:txB a b=false:=by refine yW.mpr λh=>?_;have:=fM q h;rw[sC]at this;cases this
      rw[this];rfl) _
 refine⟨m,?_,?_,hp⟩
 · have e:=gK nd2 (z:=m.map λz=>(((z.length:Int),z),D.str z)) (by rw[hz];exact hp.map _) (by
    rw[jC];refine hs.imp λ{a b} h=>?_;unfold w9;rw[<-mG];exact h)
   rw[<-e,jv];rfl
 ·have ndm:m.Nodup:=hp.nodup_iff.mpr nd;have:m.Pairwise λa b=>(!txB b a)=true/\a≠b:=List.Pairwise.and hs ndm;refine this.imp λ{a b} h=>?_;have h1:=h.1;simp only[yE]at h1;rw[mG]at h1 ⊢;exact eC (λz=>h.2 (xA z).2.symm) h1
theorem HR{l:List (Key×D)}(e:G[q]? =some (.dct l))(h:Mk l ks)(mz:ks.length<64)(hz:∀z∈ks,z.length<=zk)(hq:∀m,Ris m->m.Perm ks->Q (.ref G.length) (G++[.lst (m.map D.str)])):Wp (oB K1 (.ref q)) G Q:=by
 obtain⟨m,e1,e2,e3⟩:=wP h.2;have nd2:(ks.map λz=>(((z.length:Int),z):Int×Str)).Nodup:=by rw[List.Nodup,jC];exact h.2.imp λ{a b} h e=>h (xA e).2
 unfold oB;simp only[d9,M6,e,S6,l9,h.1,if_pos mz,eB];refine(N9 (TL ks G hz)).mpr ?_;rw[eS];refine⟨_,rfl,?_⟩;rw[if_pos nd2,O5,e1];exact hq m e2 e3
theorem kL:Wp (VC F fe σ) G Q↔Wp (fe σ) G λx G1=>Wp (oB F x) G1 Q:=by unfold VC;simp only[d9]
theorem bp{s:List Str}(hs:s.length<64)(hz:∀z∈s,Tx z):Wp (M4 [.tup (s.map D.str)]) G λx G'=>∃m,x= .tup (m.map D.str)/\Ris m/\(∀z,z∈m↔z∈s)/\m.length<=s.length/\Ap G G':=by have bg:=big;unfold M4 OI;have s0:([D.tup (s.map D.str)].map some++jJ (1 - [D.tup (s.map D.str)].length) none:DSt)= [some (.tup (s.map D.str))]:=rfl;simp only[L7,s0,P5,U5,N8,o7,N6,O2,kL,zH,zP,exists_eq_left'];refine⟨rfl,Wp.mono (fJ (by omega)) λx G1 ⟨q,l,ks,ex,e1,mk,mm,hl,a1,_⟩=>?_⟩;subst ex;refine HR e1 mk (by omega) (λz oq=>zQ (hz z ((mm z).mp oq)).2 (by omega)) λm r p=>?_;rw[W5 m5];exact⟨m,rfl,r,λz=>by rw[p.mem_iff,mm],by rw[p.length_eq];exact hl,a1.trans Ap.one⟩
theorem ww{s t:List Str}(hs:s.length+t.length<64)(hz:∀z∈s,Tx z)(hz2:∀z∈t,Tx z):Wp (fE [.tup (s.map D.str),.tup (t.map D.str)]) G λx G'=>∃m,x= .tup (m.map D.str)/\Ris m/\(∀z,z∈m↔z∈s\/z∈t)/\m.length<=s.length+t.length/\Ap G G':=by
 have bg:=big;unfold fE kJ;have s0:([D.tup (s.map D.str),.tup (t.map D.str)].map some++jJ (2 - [D.tup (s.map D.str),.tup (t.map D.str)].length) none:DSt)= [some (.tup (s.map D.str)),some (.tup (t.map D.str))]:=rfl;simp only[L7,s0,P5,U5,N8,o7,N6,Z9,O2,zH,zU,zP,exists_eq_left'];rw[HE (by rw[zf,zf];omega),<-zY];refine⟨rfl,Wp.mono (bp (by rw[zd];exact hs) (λz oq=>?_)) λx G1 ⟨m,e,r,mm,hl,a⟩=>⟨m,e,r,λz=>by rw[mm,zM],by rw[zd]at hl;exact hl,a⟩⟩;rcases zM.mp oq with h|h
 ·exact hz z h
 ·exact hz2 z h
def inT(b:Bool)(s:List Str)(z:Str):Prop:=if b then z∈s else z∉s
structure Rw(s:List Str):Prop where
 ris:Ris s
 tx:∀z∈s,Tx z
 len:s.length<64
def Wz(b c:Bool)(s t:List Str)(G:DH)(x:D)(G':DH):Prop:=∃m,x=C2 (b||c) m/\Ris m/\(∀z,inT (b||c) m z↔inT b s z/\inT c t z)/\(∀z∈m,z∈s\/z∈t)/\m.length<=s.length+t.length/\Ap G G'
theorem iI(h:Ris s):Ris (s.filter p):=h.sublist List.filter_sublist
theorem cS(b:Bool):(wrd b==wOf)=b:=by cases b<;>decide
theorem cV{s t:List Str}(hs:Rw s)(ht:Rw t)(hst:s.length+t.length<64):Wp (X3 [C2 b s,C2 c t]) G (Wz b c s t G):=by
 have l1:=hs.len;have l2:=ht.len;unfold X3 WH;have s0:([C2 b s,C2 c t].map some++jJ (2 - [C2 b s,C2 c t].length) none:DSt)= [some (.tup [.str (wrd b),.tup (s.map D.str)]),some (.tup [.str (wrd c),.tup (t.map D.str)])]:=rfl;simp only[L7,s0,d8,tD,tE,rA,P5,M8,U5,N8,o7,N6,Z9,E5,O2,o8,zH,zU,zP,exists_eq_left',ix_tup,at0,at1,UP,tB,cS]
 cases b<;>cases c<;>simp only[zy,if_false,if_true]
 ·refine⟨rfl,Wp.mono (ww (by omega) hs.tx ht.tx) λx G1 ⟨m,e,r,mm,hl,a⟩=>?_⟩;subst e;refine⟨sz,m,rfl,r,λz=>?_,λz hz=>(mm z).mp hz,hl,a⟩;simp only[inT,jw,zy,if_false,mm];exact not_or
 ·refine⟨rfl,Wp.mono (GP (by omega) (by omega)) λx G1 ⟨e,a⟩=>?_⟩;subst e;refine⟨sz,_,rfl,iI ht.ris,λz=>?_,λz hz=>.inr (yF.mp hz).1,zQ (Yz _ _) (by omega),a⟩;simp only[inT,Yo,zy,if_false,if_true,yF,yE,decide_eq_false_iff_not];exact And.comm
 ·refine⟨rfl,Wp.mono (GP (by omega) (by omega)) λx G1 ⟨e,a⟩=>?_⟩;subst e;refine⟨sz,_,rfl,iI hs.ris,λz=>?_,λz hz=>.inl (yF.mp hz).1,zQ (Yz _ _) (by omega),a⟩;simp only[inT,jw,zy,if_false,if_true,yF,yE,decide_eq_false_iff_not]
 ·refine⟨rfl,Wp.mono (Bb (by omega) (by omega)) λx G1 ⟨e,a⟩=>?_⟩;subst e;refine⟨sz,_,rfl,iI hs.ris,λz=>?_,λz hz=>.inl (yF.mp hz).1,zQ (Yz _ _) (by omega),a⟩;simp only[inT,Bool.or_self,if_true,yF,decide_eq_true_eq]
theorem QI{b:Bool}{ss:List Str}{G:DH}:qC [C2 b ss] G=some (.ok (C2 (!b) ss),G):=by cases b<;>rfl
theorem FK{b:Bool}{s:List Str}{z:Str}:inT (!b) s z↔¬inT b s z:=by
 unfold inT
 cases b
 ·simp
 ·simp
theorem sZ{b c:Bool}{s t:List Str}{G:DH}(hs:Rw s)(ht:Rw t)(hst:s.length+t.length<64):Wp (uF [C2 b s,C2 c t]) G λx G'=>∃m,x=C2 (b&&c) m/\Ris m/\(∀z,inT (b&&c) m z↔inT b s z\/inT c t z)/\(∀z∈m,z∈s\/z∈t)/\m.length<=s.length+t.length/\Ap G G':=by
 refine o5 (show Wp (sE [some (C2 b s),some (C2 c t)]) G _ from ?_);unfold sE;refine o6<| M5<| j7<| M5<| j7<| g8 rfl rfl<| b8 QI<| j7<| g8 rfl rfl<| b8 QI<| o7.mpr<| O2.mpr ⟨rfl,(cV hs ht hst).mono ?_⟩;rintro _ G1 ⟨m,rfl,r,sm,sub,ln,a⟩;have eb:(!(!b||!c))= (b&&c):=by cases b<;>cases c<;>rfl
 refine o7.mpr<| O2.mpr ⟨rfl,b8 QI<| m7 ⟨m,by rw[eb],r,λz=>?_,sub,ln,a⟩⟩;rw[<-eb,FK,sm z,FK,FK];exact⟨λh=>jb λn=>h ⟨λk=>n (.inl k),λk=>n (.inr k)⟩,λh n=>h.elim n.1 n.2⟩
structure PS where
 ns:List Rg
 b:Bool
 ts:List Str
 f:Bool
 t:Bool
def trD(f t:Bool):D:=.tup ((if f then [.bl false]else [])++if t then [.bl true]else [])
def sP(s:PS):D:=.tup [.tup (rsD s.ns),C2 s.b s.ts,trD s.f s.t,.non,.non]
structure OkP(s:PS):Prop where
 can:Can s.ns
 rw:Rw s.ts
 sm:s.b=false->s.ts.length<=4
abbrev aq:D:=.tup [.tup [.tup [.non,.non]],.tup [.str ("but" :Str),.tup []],.tup [.bl false,.bl true],.tup [.tup [],.str ("any" :Str)],.tup [.tup [],.str ("any" :Str)]]
section
variable{G:DH}{Q:DPP}
theorem EY:eqN 39 G (.tup (rsD l)) (.tup [.tup [.non,.non]])=some (decide (l= [(none,none)])):=by
 rcases l with _|⟨⟨a,b⟩,_|⟨q,r⟩⟩
 ·rfl
 ·rcases a with _|a<;>rcases b with _|b<;>rfl
 ·rcases a with _|a<;>rcases b with _|b<;>rfl
theorem Hd:∃k,eqN 39 G (C2 b s) (C2 c t)=some k:=by have e1:eqN 38 G (.tup (s.map D.str)) (.tup (t.map D.str))=some (decide (s=t)):=NN s t;have e2:eqN 38 G (.str (wrd b)) (.str (wrd c))=some (wrd b==wrd c):=rfl;have e3:eqN 39 G (C2 b s) (C2 c t)=eqL (eqN 38 G) [.str (wrd b),.tup (s.map D.str)] [.str (wrd c),.tup (t.map D.str)]:=rfl;rw[e3];simp only[eqL,e1,e2];exact⟨_,rfl⟩
theorem Dm:eqN 40 G (sP s) aq=some false:=by
 obtain⟨ns,b,ts,f,t⟩:=s;obtain⟨k,ek⟩:=Hd;have e3:∃k,eqN 39 G (trD f t) (.tup [.bl false,.bl true])=some k:=by cases f<;>cases t<;>exact⟨_,rfl⟩
 obtain⟨k3,e3⟩:=e3;show eqL (eqN 39 G) [.tup (rsD ns),C2 b ts,trD f t,.non,.non] [.tup [.tup [.non,.non]],C2 false [],.tup [.bl false,.bl true],.tup [.tup [],.str ("any" :Str)],.tup [.tup [],.str ("any" :Str)]]=_;rw[GB,GB,GB,EY,ek,e3,show eqL (eqN 39 G) [.non,.non] [.tup [.tup [],.str ("any" :Str)],.tup [.tup [],.str ("any" :Str)]]=some false from rfl];simp
theorem RF(q:Q (sP s) G):Wp (i9 [.tup (rsD s.ns),C2 s.b s.ts,trD s.f s.t,.non,.non]) G Q:=by refine o5<| j8 (X1:= [some (.tup (rsD s.ns)),some (C2 s.b s.ts),some (trD s.f s.t),some .non,some .non,some (sP s)]) rfl<| o6<| fD.mpr<| v4<| j5<| b8 rfl<| b8 rfl<| aE.mpr ⟨_,Dm,_,rfl,?_⟩;rw[if_neg zN];exact b8 rfl<| m7 q
def wtP(s:PS):Nat:=if s.b then s.ts.length else 0
theorem uM{s:PS}(h:OkP s):s.ts.length<=wtP s+4:=by
 have:=h.sm;unfold wtP;split
 ·lia
 ·rename_i k;have:=this (yW.mpr k);lia
theorem qH:∀ {m s:List Str},m.Nodup->(∀z∈m,z∈s)->m.length<=s.length
 |[],_,_,_=>zD _
 |a::m,s,nd,h=>by have ha:=h a (zt ..);have:=qH (s:=s.erase a) (yV.mp nd).2 λz hz=>(List.mem_erase_of_ne λe=>(yV.mp nd).1 (by rw[<-e];exact hz)).mpr (h z (zi _ hz));rw[List.length_erase_of_mem ha]at this;have:=List.length_pos_of_mem ha;rw[zr];lia
theorem dQ{m:List Str}(h:Ris m):m.Nodup:=h.imp λ{a b} k e=>by rw[e,sC]at k;cases k
structure MR(s u m:PS):Prop where
 ok:OkP m
 ns:∀x,inS m.ns x↔inS s.ns x\/inS u.ns x
 b:m.b= (s.b&&u.b)
 ts:∀z,inT m.b m.ts z↔inT s.b s.ts z\/inT u.b u.ts z
 f:m.f= (s.f||u.f)
 t:m.t= (s.t||u.t)
 ln:m.ns.length<=s.ns.length+u.ns.length
 lt:wtP m<=wtP s+wtP u
theorem kw:J6 u3 (orT (tBn inD c0 (ixE g0 B3)) (tBn inD c0 (ixE i0 B3))) c0 (λ_=>true) [.bl false,.bl true] [none,some (sP s),some (sP u)] G=some (.ok ((if s.f||u.f then [.bl false]else [])++if s.t||u.t then [.bl true]else []),G):=by
 obtain⟨ns,b,ts,f,t⟩:=s;obtain⟨ms,c,us,f',t'⟩:=u
 cases f<;>cases t<;>cases f'<;>cases t'<;>rfl
theorem Rz(ha:OkP a)(hb:OkP b)(hl:a.ns.length+b.ns.length<64)(ht:a.ts.length+b.ts.length<64)(q:∀m G',MR a b m->Ap G G'->Q (sP m) G'):Wp (BE [sP a,sP b]) G Q:=by
 have bg:=big;have e0:rsD a.ns++rsD b.ns=rsD (a.ns++b.ns):=(zY ..).symm;have hz:(rsD a.ns).length+(rsD b.ns).length<=zk:=by rw[IC,IC];lia
 refine o5 (show Wp (EK [some (sP a),some (sP b)]) G _ from j8 rfl ?_);refine o6<| M5<| j7<| M5<| j7<| M5<| j7<| j5<| b8 rfl<| b8 rfl<| (HE hz).mpr<| o7.mpr<| aZ.mpr<| o7.mpr<| O2.mpr ⟨rfl,?_⟩;rw[e0];refine pS (λp hp=>(zM.mp hp).elim (ha.can.1 p) (hb.can.1 p)) m5 (by rw[zd];exact hl) λm G1 s hm a1=>?_;rw[zd]at hm;refine j7<| g8 rfl rfl<| (sZ ha.rw hb.rw ht).mono ?_;rintro _ G2 ⟨ts,rfl,r,it,sub,ltn,a2⟩;refine j7<| M5<| j7<| Gj rfl (by decide)<| b8 (kw)<| o7.mpr<| (W5 m5).mpr ?_;refine b8 rfl<| O2.mpr ⟨rfl,RF (s:=⟨m,a.b&&b.b,ts,a.f||b.f,a.t||b.t⟩)<| m7<| q _ _ ⟨⟨s.1,⟨r,λz hz=>(sub z hz).elim (ha.rw.tx z) (hb.rw.tx z),by lia⟩,λk=>?_⟩,λx=>by rw[s.2 x,RE],rfl,it,rfl,rfl,hm,?_⟩ (((Ap.one.trans a1).trans a2).trans Ap.one)⟩
 · have ea:∀ {c:PS},OkP c->c.b=false->(∀z,inT c.b c.ts z->inT (a.b&&b.b) ts z)->ts.length<=4:=λ{c} hc e h=>by
    refine zQ (qH (dQ r) λz hz=>jb λn=>?_) (hc.sm e);have k1:=h z (by rw[e];exact n);rw[show (a.b&&b.b)=false from k]at k1;exact k1 hz
   rcases Bool.and_eq_false_iff.mp (show (a.b&&b.b)=false from k)with e|e
   ·exact ea ha e λz h=>(it z).mpr (.inl h)
   ·exact ea hb e λz h=>(it z).mpr (.inr h)
 · show (if (a.b&&b.b)=true then ts.length else 0)<=_;unfold wtP
   cases a.b<;>cases b.b
   ·exact zD _
   ·exact zD _
   ·exact zD _
   ·exact ltn
end
def evL:List D->List D
 |a::_::r=>a::evL r
 |l=>l
def odL:List D->List D
 |_::b::r=>b::odL r
 |_=> []
theorem cN(n:Nat):r8 n (some 0) none (some 2)= (zF ((n+1) / 2)).map λk=>2*k:=by
 unfold r8 yR sliceRange;have hc:(if (2:Int)>0 then (if max 0 (min (0:Int) n)<(n:Int)then ((n:Int)-max 0 (min (0:Int) n)+2-1) / 2 else 0)else (if max 0 (min (0:Int) n)>(n:Int)then (max 0 (min (0:Int) n)-(n:Int)-2-1) / (-2)else 0)).toNat= (n+1) / 2:=by rw[if_pos (by decide)];split<;>lia
 show (zF (if (2:Int)>0 then (if max 0 (min (0:Int) n)<(n:Int)then ((n:Int)-max 0 (min (0:Int) n)+2-1) / 2 else 0)else (if max 0 (min (0:Int) n)>(n:Int)then (max 0 (min (0:Int) n)-(n:Int)-2-1) / (-2)else 0)).toNat).map (λk:Nat=>(max 0 (min (0:Int) n)+2*(k:Int)).toNat)=_;rw[hc];refine ye λk _=>?_;lia
theorem aU(n:Nat):r8 n (some 1) none (some 2)= (zF (n / 2)).map λk=>2*k+1:=by
 unfold r8 yR sliceRange;have hc:(if (2:Int)>0 then (if max 0 (min (1:Int) n)<(n:Int)then ((n:Int)-max 0 (min (1:Int) n)+2-1) / 2 else 0)else (if max 0 (min (1:Int) n)>(n:Int)then (max 0 (min (1:Int) n)-(n:Int)-2-1) / (-2)else 0)).toNat=n / 2:=by rw[if_pos (by decide)];split<;>lia
 show (zF (if (2:Int)>0 then (if max 0 (min (1:Int) n)<(n:Int)then ((n:Int)-max 0 (min (1:Int) n)+2-1) / 2 else 0)else (if max 0 (min (1:Int) n)>(n:Int)then (max 0 (min (1:Int) n)-(n:Int)-2-1) / (-2)else 0)).toNat).map (λk:Nat=>(max 0 (min (1:Int) n)+2*(k:Int)).toNat)=_;rw[hc];refine ye λk hk=>?_;have:=jo.mp hk;lia
theorem oQ:∀l:List D,((zF ((l.length+1) / 2)).map λk=>2*k).filterMap (l[·]?)=evL l
 |[]=>rfl
 |[a]=>by rw[show ([a].length+1) / 2=1 by simp];rfl
 |a::b::r=>by
   have e:((a::b::r).length+1) / 2= (r.length+1) / 2+1:=by simp only[zr];lia
   rw[e,yL,zK,jG];show a::_=a::evL r;congr 1;rw[<-oQ r,jv,yk,yk];rfl
theorem wL:∀l:List D,((zF (l.length / 2)).map λk=>2*k+1).filterMap (l[·]?)=odL l
 |[]=>rfl
 |[a]=>by rw[show [a].length / 2=0 by simp];rfl
 |a::b::r=>by
   have e:(a::b::r).length / 2=r.length / 2+1:=by simp only[zr];lia
   rw[e,yL,zK,jG];show b::_=b::odL r;congr 1;rw[<-wL r,jv,yk,yk];rfl
theorem EO(l:List D):cA l (some 0) none (some 2)=evL l:=by unfold cA;rw[cN,oQ]
theorem Nf(l:List D):cA l (some 1) none (some 2)=odL l:=by unfold cA;rw[aU,wL]
structure c5(L:List PS)(m:PS):Prop where
 ok:OkP m
 ns:∀x,inS m.ns x↔∃s∈L,inS s.ns x
 b:m.b=L.all (·.b)
 ts:∀z,inT m.b m.ts z↔∃s∈L,inT s.b s.ts z
 f:m.f=L.any (·.f)
 t:m.t=L.any (·.t)
theorem O9{L:List α}{P:α->Prop}:(∃s∈a::L,P s)↔P a\/∃s∈L,P s:=by
 constructor
 · rintro⟨s,hs,h⟩;rcases zu.mp hs with rfl|hs
   ·exact .inl h
   ·exact .inr ⟨s,hs,h⟩
 · rintro(h|⟨s,hs,h⟩)
   ·exact⟨a,zt ..,h⟩
   ·exact⟨s,zi _ hs,h⟩
theorem c5.one(h:OkP s):c5 [s] s:=by have no:∀ {P:PS->Prop},¬∃u∈([]:List PS),P u:=fun⟨_,h,_⟩=>nomatch h;exact⟨h,λx=>⟨λk=>O9.mpr (.inl k),λk=>(O9.mp k).elim id λz=>absurd z no⟩,by simp,λz=>⟨λk=>O9.mpr (.inl k),λk=>(O9.mp k).elim id λz=>absurd z no⟩,by simp,by simp⟩
inductive Rnd:List PS->List PS->Prop
 |nil:Rnd [] []
 |one {a:PS}:Rnd [a] [a]
 |two {a b m:PS} {r s:List PS} (h:MR a b m) (k:Rnd r s):Rnd (a::b::r) (m::s)
def y6(L:List PS):Nat:=(L.map λs=>s.ns.length).sum
def E6(L:List PS):Nat:=(L.map wtP).sum
theorem dC:y6 (a::L)=a.ns.length+y6 L:=rfl
theorem MB:E6 (a::L)=wtP a+E6 L:=rfl
structure EqU(L M:List PS):Prop where
 ns:∀x,(∃s∈M,inS s.ns x)↔∃s∈L,inS s.ns x
 b:M.all (·.b)=L.all (·.b)
 ts:∀z,(∃s∈M,inT s.b s.ts z)↔∃s∈L,inT s.b s.ts z
 f:M.any (·.f)=L.any (·.f)
 t:M.any (·.t)=L.any (·.t)
theorem Rnd.facts0{L M:List PS}(h:Rnd L M):EqU L M/\y6 M<=y6 L/\E6 M<=E6 L/\M.length= (L.length+1) / 2/\((∀l∈L,OkP l)->∀l∈M,OkP l):=by
 induction h with
 |nil=>exact⟨⟨λ_=>.rfl,rfl,λ_=>.rfl,rfl,rfl⟩,zg _,zg _,rfl,λh=>h⟩
 |one=>exact⟨⟨λ_=>.rfl,rfl,λ_=>.rfl,rfl,rfl⟩,zg _,zg _,by simp,λh=>h⟩
 |@two a b m r s h k ih=>
   obtain⟨e,h2,h2',h3,h4⟩:=ih;have l1:=h.ln;have l2:=h.lt;refine⟨⟨λx=>?_,?_,λz=>?_,?_,?_⟩,?_,?_,?_,λhc l hm=>?_⟩
   ·rw[O9,O9,O9,h.ns x,e.ns x,or_assoc]
   ·rw[jL,jL,jL,h.b,e.b,Bool.and_assoc]
   ·rw[O9,O9,O9,h.ts z,e.ts z,or_assoc]
   ·rw[jj,jj,jj,h.f,e.f,Bool.or_assoc]
   ·rw[jj,jj,jj,h.t,e.t,Bool.or_assoc]
   ·rw[dC,dC,dC];lia
   ·rw[MB,MB,MB];lia
   ·simp only[zr,h3];lia
   · rcases zu.mp hm with rfl|hm
     ·exact h.ok
     ·exact h4 (λy hy=>hc y (zi _ (zi _ hy))) l hm
theorem Rnd.facts{L M:List PS}(h:Rnd L M):(∀m,c5 M m->c5 L m)/\y6 M<=y6 L/\E6 M<=E6 L/\M.length= (L.length+1) / 2/\((∀l∈L,OkP l)->∀l∈M,OkP l):=by obtain⟨e,r⟩:=h.facts0;exact⟨λm k=>⟨k.ok,λx=>by rw[k.ns x,e.ns x],by rw[k.b,e.b],λz=>by rw[k.ts z,e.ts z],by rw[k.f,e.f],by rw[k.t,e.t]⟩,r⟩
def JAA:DSt->M (List D):=(O0 (IA g0 (T6 H0) (F7) (T6 B3)) (IA g0 (T6 l0) (F7) (T6 B3)))
def JAB:Fs:=(asQ (O4 (x9 JAA) [none,none] g01 (m4) JAE) N0 (v7 (binE addD i0 (L6 g0 (T6 (binE v3 B3 (D0 lenF i0))) (F7))) E1))
theorem pY:BG=f9 (v7 (D0 eA c0) E1) (f9 (V6 JAT JAB) (t7 (ixE g0 H0))):=rfl
theorem dX(e:G[a]? =some (.lst l))(q:Q (.ref G.length) (G++[.lst l])):Wp (eA [.ref a]) G Q:=by show Wp (do let l <-K4 a >>= DL.listOf;J8 (.lst l)) G Q;exact d9.mpr<| d9.mpr<| M6.mpr ⟨_,e,wp_pure.mpr<| O5.mpr q⟩
theorem vZ(e:fs σ G=some (.ok [.ref a,.ref b],G1))(ea:G1[a]? =some (.lst k))(eb:G1[b]? =some (.lst l))(q:R ⟨(k.zip l).map λp=>.tup [p.1,p.2],λG=>ckO a (.lst k) G&&ckO b (.lst l) G⟩ G1):Wp (x9 fs σ) G R:=by unfold x9;refine d9.mpr (b8 e ?_);show Wp (do let s1 <-(do let o <-K4 a;let l <-DL.listOf o;pure ⟨l,ckO a o⟩:M Src);let s2 <-(do let o <-K4 b;let l <-DL.listOf o;pure ⟨l,ckO b o⟩:M Src);pure ⟨(s1.items.zip s2.items).map λp=>.tup [p.1,p.2],λG=>s1.ck G&&s2.ck G⟩:M Src) G1 R;exact d9.mpr<| d9.mpr<| M6.mpr ⟨_,ea,d9.mpr<| wp_pure.mpr<| wp_pure.mpr<| d9.mpr<| d9.mpr<| M6.mpr ⟨_,eb,d9.mpr<| wp_pure.mpr<| wp_pure.mpr<| wp_pure.mpr q⟩⟩
section
variable{G:DH}{x:Option D}{q:Nat}
theorem Sk(e:G[q]? =some (.lst l)):JAT [x,sRf q,u] G=some (.ok (decide ((l.length:Int)>1)),G):=E3<| v4<| j5<| V0 rfl<| (bF e).mpr<| b8 rfl<| aV.mpr ⟨_,rfl,rfl,rfl⟩
theorem Fb(e:G[q]? =some (.lst l)):JAA [x,sRf q,u] G=some (.ok [.ref G.length,.ref (G++[DO.lst (evL l)]).length],G++[.lst (evL l)]++[.lst (odL l)]):=by
 have:=(show Wp (JAA [x,sRf q,u]) G λds G'=>ds= [.ref G.length,.ref (G++[DO.lst (evL l)]).length]/\G'=G++[.lst (evL l)]++[.lst (odL l)] from
  j7<| PL.mpr<| b8 rfl<| b8 rfl<| b8 rfl<| b8 rfl<| (cR e (by decide)).mpr<| by
   rw[EO];exact j7<| PL.mpr<| b8 rfl<| b8 rfl<| b8 rfl<| b8 rfl<| (cR (t8 e) (by decide)).mpr<| by
    rw[Nf];exact o7.mpr ⟨rfl,rfl⟩)
 obtain⟨a,G',e1,rfl,rfl⟩:=this;exact e1
theorem VN(mr:∀G',Ap G0 G'->ck G'=true):∀L u v G,Ap G0 G->(∀l∈L,OkP l)->y6 L<64/\E6 L<50->
 Wp (J6 g01 m4 JAE ck (((evL (L.map sP)).zip (odL (L.map sP))).map λp=>.tup [p.1,p.2]) [u,v]) G λys G'=>∃J,ys=J.map sP/\Rnd L (J++L.drop (2*J.length))/\J.length<=L.length/\Ap G0 G'
 |[],u,v,G,a0,hc,hl=>VB.mpr ⟨mr G a0, [],rfl,.nil,zg _,a0⟩
 |[a],u,v,G,a0,hc,hl=>VB.mpr ⟨mr G a0, [],rfl,.one,zD _,a0⟩
 |a::b::r,u,v,G,a0,hc,hl=>by
   obtain⟨hl,hl'⟩:=hl;rw[dC,dC]at hl;rw[MB,MB]at hl';have ca:=hc a (zt ..);have cb:=hc b (zi _ (zt ..));refine UD.mpr ⟨mr G a0,b8 rfl<| b8 rfl ?_⟩;rw[if_pos rfl];have wa:=uM ca;have wb:=uM cb;refine g8 rfl rfl<| Rz ca cb (by lia) (by lia) λm G1 s a1=>?_;refine(VN mr r _ _ G1 (a0.trans a1) (λl hl=>hc l (zi _ (zi _ hl))) (by lia)).mono ?_;rintro _ G2 ⟨J,rfl,rn,lj,a2⟩;refine⟨m::J,rfl,?_,by simp only[zr];lia,a2⟩;have e:2*(m::J).length=2*J.length+1+1:=by rw[zr];lia
   rw[e];exact .two s rn
theorem FW(e:G[q]? =some (.lst (L.map sP)))(hc:∀l∈L,OkP l)(hl:y6 L<64/\E6 L<50)(hn:L.length<=200):
 Wp (JAB [x,sRf q,u]) G λfl G'=>∃q' u' M,fl= .nx [x,sRf q',u']/\G'[q']? =some (.lst (M.map sP))/\Rnd L M:=by
 have bg:=big;have ea:(G++[DO.lst (evL (L.map sP))]++[DO.lst (odL (L.map sP))])[G.length]? =some (.lst (evL (L.map sP))):=t8 m5;have eb:(G++[DO.lst (evL (L.map sP))]++[DO.lst (odL (L.map sP))])[(G++[DO.lst (evL (L.map sP))]).length]? =some (.lst (odL (L.map sP))):=m5;have le:∀l:List D,(evL l).length<=l.length:=λl=>by
  rw[<-EO];unfold cA;refine zQ (List.length_filterMap_le ..) ?_;rw[cN,zf,jV];rcases l with _|⟨_,_⟩
  ·decide
  ·simp only[zr];lia
 have lz:(((evL (L.map sP)).zip (odL (L.map sP))).map λp=>D.tup [p.1,p.2]).length<=zk:=by have:=le (L.map sP);rw[zf]at this;rw[zf,List.length_zip];lia
 refine d8.mpr<| u6<| wp_comp.mpr<| vZ (Fb e) ea eb ⟨lz,(VN (λG' a=>by show (ckO _ _ G'&&ckO _ _ G')=true;rw[w4 (a.at ea),w4 (a.at eb)];rfl) L none none _ Ap.refl hc hl).mono ?_⟩;rintro _ G2 ⟨J,rfl,rn,lj,a2⟩;have e2:(G2++[DO.lst (J.map sP)])[q]? =some (.lst (L.map sP)):=t8 (a2.at (t8 (t8 e)));refine u6<| j5<| b8 rfl<| vE.mpr<| b8 rfl<| sM.mpr<| j5<| b8 rfl<| V0 rfl<| (bF m5).mpr<| (U8 (Or.inl ⟨by decide,by decide⟩)).mpr ⟨_,rfl,dL.mpr<| (fP e2).mpr ?_⟩;have ec:DL.cutD (L.map sP) (some (2*((J.map sP).length:Int))) none= (L.drop (2*J.length)).map sP:=by rw[zf,show (2*(J.length:Int))= ((2*J.length:Nat):Int) by lia,Td,List.map_drop]
 rw[ec];refine(vH (t8 m5) m5 (by rw[zf,zf,xf];lia)).mpr ⟨_,_,J++L.drop (2*J.length),rfl,?_,rn⟩;rw[m5,zY]
abbrev JAS(x:Option D)(n:Nat):Prop:=∀(L:List PS) (q:Nat) (u:Option D) (G:DH),L.length<=n+1->L≠ []->G[q]? =some (.lst (L.map sP))->(∀l∈L,OkP l)->y6 L<64/\E6 L<50->L.length<=200->
 Wp (K9 (n+1) JAT JAB [x,sRf q,u]) G λfl G'=>∃q' u' m,fl= .nx [x,sRf q',u']/\G'[q']? =some (.lst [sP m])/\c5 L m
theorem eQ(ih:∀m,n=m+1->JAS x m):JAS x n:=by
 intro L q u G hn md e hc hl h2;refine R5.mpr<| b8 (Sk e) ?_;rw[zf];by_cases k:(L.length:Int)>1
 ·rw[decide_eq_true k,if_pos rfl];refine(FW e hc hl h2).mono ?_;rintro _ G1 ⟨q',u',M,rfl,e1,rn⟩;obtain⟨f1,f2,f2',f3,f4⟩:=rn.facts;obtain⟨m,rfl⟩:∃m,n=m+1:=⟨n-1,by lia⟩;refine(ih m rfl M q' u' G1 (by lia) (λz=>by rw[z]at f3;simp at f3;lia) e1 (f4 hc) ⟨by lia,by lia⟩ (by lia)).mono ?_;rintro _ G2 ⟨q2,u2,m,rfl,e2,im⟩;exact⟨q2,u2,m,rfl,e2,f1 m im⟩
 · rw[decide_eq_false k,if_neg zN];rcases L with _|⟨l,_|⟨_,_⟩⟩
   ·exact absurd rfl md
   ·exact⟨q,u,l,rfl,e,c5.one (hc l (zt ..))⟩
   ·simp only[zr]at k;lia
theorem lQ:∀n:Nat,JAS x n
 |0=>eQ λm z=>nomatch z
 |n+1=>eQ λm z=>by cases z;exact lQ n
theorem Gv(md:L≠ [])(e:G[c]? =some (.lst (L.map sP)))(hc:∀l∈L,OkP l)(hl:y6 L<64/\E6 L<50)(h2:L.length<=200)(h:∀m G',c5 L m->Q (sP m) G'):Wp (iG [.ref c]) G Q:=by refine o5 (show Wp (BG [sRf c,none,none]) G _ from ?_);rw[pY];refine d8.mpr<| u6<| V0 rfl<| dX e<| d8.mpr<| rB<| (lQ L.length L _ none _ (YN _) md m5 hc hl h2).mono ?_;rintro _ G1 ⟨q',u',m,rfl,e1,im⟩;exact o6<| Vh rfl rfl<| (VA e1).mpr ⟨sP m,rfl,m7<| h m G1 im⟩
end
def sN(l:List Rg):D:=.tup [.tup (rsD l),.tup [.str ("of" :Str),.tup []],.tup [],.non,.non]
def F3(f:α->List Nat)(l:List α):List D:=l.map λx=>.str (ofL (f x))
theorem kM(f:α->List Nat):∀l:List α,uA (F3 f l)=some (l.map λd=>ofL (f d))
 |[]=>rfl
 |x::r=>by have h:=kM f r;unfold F3 at h ⊢;rw[zK,zK,uA,h];rfl
section
variable{G:DH}{Q:DPP}
end
section
variable{G:DH}{Q:DPP}
theorem Bc:eqN 40 G (sN l) (.tup [.tup [.tup [.non,.non]],.tup [.str ("but" :Str),.tup []],.tup [.bl false,.bl true],.tup [.tup [],.str ("any" :Str)],.tup [.tup [],.str ("any" :Str)]])=some false:=by
 rcases l with _|⟨⟨a,b⟩,_|⟨q,r⟩⟩
 ·rfl
 ·rcases a with _|a<;>rcases b with _|b<;>rfl
 ·rcases a with _|a<;>rcases b with _|b<;>rfl
theorem vT(q:Q (sN l) G):Wp (i9 [.tup (rsD l),.tup [.str ("of" :Str),.tup []],.tup [],.non,.non]) G Q:=by refine o5<| j8 (X1:= [some (.tup (rsD l)),some (.tup [.str ("of" :Str),.tup []]),some (.tup []),some .non,some .non,some (sN l)]) rfl<| o6<| fD.mpr<| v4<| j5<| b8 rfl<| b8 rfl<| aE.mpr ⟨_,Bc,_,rfl,?_⟩;rw[if_neg zN];exact b8 rfl<| m7 q
theorem df(h:okR r):VG [F1 r.1,F1 r.2] G=some (.ok (.bl false),G):=by
 obtain⟨a,b⟩:=r;rcases a with _|a
 ·rfl
 · rcases b with _|b
   ·rfl
   ·have:=h a b rfl rfl;show some (Except.ok (D.bl (decide (a>b))),G)=_;rw[decide_eq_false (by lia)]
theorem HK(h:okR r)(q:Q (sN [r]) G):Wp (W0 [F1 r.1,F1 r.2]) G Q:=by refine o5<| o6<| wW ?_<| g8 (as:= [.tup (rsD [r]),.tup [.str ("of" :Str),.tup []],.tup [],.non,.non]) rfl rfl<| vT<| m7 q;exact E3<| T3.mpr<| g8 rfl rfl<| b8 (df h)<| O6.mpr ⟨rfl,rfl⟩
theorem VY(q:Q (sN [(some i,some i)]) G):Wp (aB [.int i]) G Q:=
 o5<| j8 (X1:= [some (.int i)]) rfl<| d8.mpr<| M7<| b8 rfl ⟨λ_=>o6<| g8 rfl rfl<| HK (r:=(some i,some i)) (λa b e1 e2=>by cases e1;cases e2;exact xW _)<| m7 q,λz=>nomatch z⟩
end
section
variable{T:Str}{G:DH}{Q:DPP}{P:Fl->DH->Prop}{i:Int}{ρ:DSt}
theorem O7(k:Z1 T p i=false)(w:Wp (Y (some (.str T)::some (.int i)::ρ)) G P):
 Wp (f9 (ifS (truthE (mtE isStrM startsD c0 (O0 (cE (.str p)) g0))) X u0) Y (some (.str T)::some (.int i)::ρ)) G P:=by
 refine d8.mpr<| M7<| QD<| J5 rfl rfl rfl ?_;rw[k];exact⟨rfl,λz=>(nomatch z),λ_=>o8.mpr w⟩
theorem TD(k:Z1 T p i=true)(w:Wp (e (some (.str T)::some (.int i)::ρ)) G λd G1=>P (.rt d) G1):
 Wp (f9 (ifS (truthE (mtE isStrM startsD c0 (O0 (cE (.str p)) g0))) (t7 e) u0) Y (some (.str T)::some (.int i)::ρ)) G P:=by
 refine d8.mpr<| M7<| B9<| J5 rfl rfl rfl ?_;rw[k];exact⟨rfl,λ_=>o6 w,λz=>nomatch z⟩
theorem noF{pre rest ps:List Nat}(h:tl T=pre++rest)(e:rest=d::r)(hp:tl p=c::ps)(k:d≠c):Z1 T p (pre.length:Int)=false:=
 vA h hp λx y z=>by rw[e]at z;rw[<-(zB z).1];exact k
theorem TC(i:Int):∃c r,nmL i=c::r/\(c=45\/48<=c/\c<=57):=by
 rcases ND i with⟨m,rfl⟩|⟨m,hm,rfl⟩
 · rw[sD];rcases k:dg m with _|⟨x,y⟩
   ·exact absurd k (qA m)
   ·exact⟨x,y,rfl,.inr (FA m x (by rw[k];exact zt ..))⟩
 ·exact⟨45,_,eD m hm,.inl rfl⟩
theorem vL{pre post:List Nat}(hz:T.length<=zk)(hj:smI j)(h:tl T=pre++nmL j++post)(ho:OB 48 57 post)(q:Q (.tup [.int j,.int ((pre.length:Int)+(nmL j).length)]) G):Wp (SD [.str T,.int pre.length,.int 1]) G Q:=by
 obtain⟨c,r,e,hc⟩:=TC j;have h':tl T=pre++(c::(r++post)):=by rw[h,e,zA];rfl
 refine o5 (show Wp (UC [some (.str T),some (.int pre.length),some (.int 1)]) G _ from j8 rfl ?_);refine O7 (noF h' rfl rfl (by lia))<| O7 (noF h' rfl rfl (by lia))<| O7 (noF h' rfl rfl (by lia))<| O7 (noF h' rfl rfl (by lia))<| O7 (noF h' rfl rfl (by lia)) ?_;exact o6<| g8 rfl rfl<| EQ hz hj h ho<| m7 q
theorem Qf{st:Int}(hz:T.length<=zk)(hs:st=pre.length)(h:tl T=pre++post)(hp:∀c r,post=c::r->c=32)(q:Q (.bl false) G):Wp (Q6 [.str T,.int st]) G Q:=by subst hs;refine o5<| o6<| sQ.mpr<| J5 rfl rfl rfl ?_;rw[vA h rfl λc r e=>by rw[hp c r e];decide];refine O6.mpr ?_;rw[if_neg zN];refine j5<| g8 rfl rfl<| PD (run:= []) (rest:=post) hz rfl (by rw[h,jT]) (λ_ z=>nomatch z) (λc r e=>by rw[hp c r e];decide)<| b8 rfl<| QC.mpr<| m7 ?_;rw[decide_eq_false (by simp)];exact q
theorem UW{st:Int}(hz:T.length<=zk)(hs:st=pre.length)(h:tl T=pre++nmL j++post)(ho:OB 48 57 post)(q:Q (.bl true) G):Wp (Q6 [.str T,.int st]) G Q:=by
 subst hs;have hs:tl T=pre++(nmL j++post):=by rw[h,zA]
 refine o5<| o6<| sQ.mpr<| J5 rfl rfl rfl ?_;rcases ND j with⟨m,rfl⟩|⟨m,hm,rfl⟩
 · have en:=sD m;rw[vA hs rfl λc r e=>by
    rw[en]at e;rcases k:dg m with _|⟨x,y⟩
    ·exact absurd k (qA m)
    ·rw[k]at e;have e:=(zB e).1;have:=FA m x (by rw[k];exact zt ..);lia]
   refine O6.mpr ?_;rw[if_neg zN];refine j5<| g8 rfl rfl<| PD hz rfl (by rw[h,en]) (FA m) ho<| b8 rfl<| QC.mpr<| m7 ?_;have:=YR.mpr (qA m);rw[decide_eq_true (by lia)];exact q
 ·rw[J7 hs (by rw[eD m hm];rfl)];refine O6.mpr ?_;rw[if_pos rfl];exact m7 q
end
def stW(post:List Nat):Prop:=∀c r,post=c::r->c=32
theorem stW.off(h:stW post):OB 48 57 post:=λc r e=>by rw[h c r e];decide
section
variable{T:Str}{G:DH}{Q:DPP}
theorem wH{at':Int}(hz:T.length<=zk)(ha:at'=pre.length)(hj:smI j)(ok:okR (a,some j))(h:tl T=pre++[46,46]++nmL j++post)(hp:stW post)(q:Q (.tup [sN [(a,some j)],.int ((pre.length:Int)+2+(nmL j).length)]) G):
 Wp (Q4 [.str T,.int at',F1 a]) G Q:=by
 subst ha;have e2:((pre++[46,46]).length:Int)= (pre.length:Int)+2:=by rw[zd];rfl
 refine o5 (show Wp (oG [some (.str T),some (.int pre.length),some (F1 a),none,none]) G _ from ?_);refine j8 (X1:= [some (.str T),some (.int pre.length),some (F1 a),some (.int ((pre.length:Int)+2)),none]) rfl ?_;have rest:Wp (f9 (v7 (y0 W3 c0 C0) F2) (f9 (ifS (Q2 (tBn F8 i0 L0) (tBn gtD i0 (ixE K0 H0))) (K5) u0) (t7 (F0 (y0 W0 i0 (ixE K0 H0)) (ixE K0 l0)))) [some (.str T),some (.int pre.length),some (F1 a),some (.int ((pre.length:Int)+2)),none]) G (PB Q):=by
  refine d8.mpr<| u6<| g8 rfl rfl ?_;rw[<-e2];refine EQ hz hj h hp.off ?_;rw[e2];have fin:Wp ((t7 (F0 (y0 W0 i0 (ixE K0 H0)) (ixE K0 l0))) [some (.str T),some (.int pre.length),some (F1 a),some (.int ((pre.length:Int)+2)),some (.tup [.int j,.int ((pre.length:Int)+2+(nmL j).length)])]) G (PB Q):=
   o6<| M8.mpr<| j7<| g8 rfl rfl<| HK (r:=(a,some j)) ok<| b8 rfl ⟨sz,m7 q⟩
  rcases a with _|a
  ·exact j8 rfl fin
  ·have:=ok a j rfl rfl;refine d8.mpr<| M7<| t4<| b8 rfl ⟨λ_=>v4<| j5<| b8 rfl<| b8 rfl<| QC.mpr ⟨_,rfl,λk=>?_,λ_=>o8.mpr fin⟩,λz=>(nomatch z)⟩;have:=of_decide_eq_true k;lia
 rcases a with _|a
 ·exact j8 rfl rest
 ·refine d8.mpr<| M7<| t4<| b8 rfl ⟨λ_=>C9.mpr<| B9<| g8 rfl rfl<| UW hz e2.symm h hp.off ⟨rfl,λz=>(nomatch z),λ_=>o8.mpr rest⟩,λz=>(nomatch z)⟩
theorem Kf{at':Int}(hz:T.length<=zk)(ha:at'=pre.length)(h:tl T=pre++[46,46]++post)(hp:stW post)(q:Q (.tup [sN [(some a,none)],.int ((pre.length:Int)+2)]) G):
 Wp (Q4 [.str T,.int at',.int a]) G Q:=by
 subst ha;have e2:((pre++[46,46]).length:Int)= (pre.length:Int)+2:=by rw[zd];rfl
 refine o5 (show Wp (oG [some (.str T),some (.int pre.length),some (.int a),none,none]) G _ from ?_);refine j8 (X1:= [some (.str T),some (.int pre.length),some (.int a),some (.int ((pre.length:Int)+2)),none]) rfl<| d8.mpr<| M7<| t4<| b8 rfl ⟨λ_=>C9.mpr<| QD<| g8 rfl rfl<| Qf hz e2.symm h hp ⟨rfl,λ_=>?_,λz=>(nomatch z)⟩,λz=>(nomatch z)⟩;exact o6<| M8.mpr<| j7<| g8 rfl rfl<| HK (r:=(some a,none)) (λ_ _ _ e=>nomatch e)<| b8 rfl ⟨sz,m7 q⟩
abbrev wS(T:Str)(p:Nat)(u:Option D):DSt:= [some (.str T),sIi p,some (.int 1),u,none]
theorem kC:T8=f9 (ifS (truthE (mtE isStrM startsD c0 (O0 (cSt "[") g0))) (K5) u0) (f9 (ifS (truthE (mtE isStrM startsD c0 (O0 (cSt "{") g0))) (K5) u0) (gdQ (truthE (mtE isStrM startsD c0 (O0 (cSt "text but") g0))) (y0 FD c0 (binE addD g0 (D0 lenF (cSt "text but")))) (f9 WL WZ))):=rfl
theorem kE{p:Nat}(h:Z1 T k (p:Int)=false):WK (wS T p (some (.str k))) G=some (.ok (.nx (wS T p (some (.str k)))),G):=by refine E3<| M7<| QD<| J5 rfl rfl rfl ?_;rw[h];exact⟨rfl,λz=>(nomatch z),λ_=>o8.mpr ⟨rfl,rfl⟩⟩
theorem FC{p:Nat}(h1:Z1 T ("number" :Str) (p:Int)=false)(h2:Z1 T ("text" :Str) (p:Int)=false)(h3:Z1 T ("truth" :Str) (p:Int)=false):∃u,WL (wS T p none) G=some (.ok (.nx (wS T p u)),G):=by refine⟨some (.str ("truth" :Str)),E3<| P7.mpr<| wp_itW.mpr<| b8 rfl<| srcW_tup.mpr ?_⟩;refine R8.mpr ⟨rfl,K7.mpr<| b8 (kE h1)<| R8.mpr ⟨rfl,K7.mpr<| b8 (kE h2)<| R8.mpr ⟨rfl,K7.mpr<| b8 (kE h3)<| wA.mpr ⟨rfl,rfl,rfl⟩⟩⟩⟩
theorem fU{at':Int}{pre post:List Nat}(hz:T.length<=zk)(ha:at'=pre.length)(hr:smR r)(ok:okR r)(h:tl T=pre++swL r++post)(hp:stW post)(q:Q (.tup [sN [r],.int ((pre.length:Int)+(swL r).length)]) G):
 Wp (R4 [.str T,.int at',.int 1]) G Q:=by
 subst ha;refine o5 (show Wp (T8 (wS T pre.length none)) G _ from ?_);rw[kC];have hs:tl T=pre++(swL r++post):=by rw[h,zA]
 obtain⟨a,b⟩:=r;rcases a with _|a
 · rcases b with _|b
   ·have h':tl T=pre++(110::(117::109::98::101::114::post)):=hs;refine O7 (noF h' rfl rfl (by decide))<| O7 (noF h' rfl rfl (by decide))<| O7 (noF h' rfl rfl (by decide)) ?_;refine d8.mpr<| P7.mpr<| wp_itW.mpr<| b8 rfl<| srcW_tup.mpr ?_;refine R8.mpr ⟨rfl,K7.mpr<| M7<| B9<| J5 rfl rfl rfl ?_⟩;rw[J7 h' rfl];refine⟨rfl,λ_=>o6<| b8 rfl<| m7 q,λz=>(nomatch z)⟩
   ·have h':tl T=pre++(46::(46::nmL b++post)):=hs;refine O7 (noF h' rfl rfl (by decide))<| O7 (noF h' rfl rfl (by decide))<| O7 (noF h' rfl rfl (by decide)) ?_;obtain⟨u,eu⟩:=FC (noF h' rfl rfl (by decide)) (noF h' rfl rfl (by decide)) (noF h' rfl rfl (by decide));refine j8 eu<| TD (J7 h' rfl)<| g8 rfl rfl<| wH (a:=none) hz rfl (hr.2 b rfl) ok (by rw[h];simp[swL]) hp<| m7 ?_;rw[show (pre.length:Int)+2+(nmL b).length= (pre.length:Int)+(swL (none,some b)).length by show _= (pre.length:Int)+(([46,46]++nmL b).length:Int);rw[zd];show _=_+((2+_:Nat):Int);lia];exact q
 · obtain⟨c,r,e,hc⟩:=TC a;obtain⟨t,et⟩:∃t,swL (some a,b)=nmL a++t:=by
    rcases b with _|b
    ·exact⟨_,rfl⟩
    · by_cases k:a=b
      ·exact⟨[],by rw[jT];exact if_pos k⟩
      ·exact⟨[46,46]++nmL b,by rw[<-zA];exact if_neg k⟩
   have h':tl T=pre++(c::(r++t++post)):=by rw[hs,et,e];simp
   refine O7 (noF h' rfl rfl (by lia))<| O7 (noF h' rfl rfl (by lia))<| O7 (noF h' rfl rfl (by lia)) ?_;obtain⟨u,eu⟩:=FC (noF h' rfl rfl (by lia)) (noF h' rfl rfl (by lia)) (noF h' rfl rfl (by lia));have h2:tl T=pre++nmL a++(t++post):=by rw[hs,et];simp
   refine j8 eu<| O7 (noF h' rfl rfl (by lia))<| d8.mpr<| u6<| g8 rfl rfl<| vL hz (hr.1 a rfl) h2 ?_ ?_
   · intro x y z;rcases b with _|b
     · rcases t with _|⟨d,t⟩
       ·exact hp.off x y z
       ·have:nmL a++[46,46]=nmL a++(d::t):=et;have:=jW this;rw[<-(zB z).1,<-(zB this).1];decide
     · rcases t with _|⟨d,t⟩
       ·exact hp.off x y z
       · by_cases k:a=b
         ·rw[show swL (some a,some b)=nmL a from if_pos k]at et;have:=congrArg xF et;simp at this
         ·rw[show swL (some a,some b)=nmL a++[46,46]++nmL b from if_neg k,zA]at et;have:=jW et;rw[<-(zB z).1,<-(zB this).1];decide
   · have el:((pre++nmL a).length:Int)= (pre.length:Int)+(nmL a).length:=by rw[zd];lia
     have ask:∀ {X Y:Fs} {P:Fl->DH->Prop} {bb:Bool},Z1 T (".." :Str) ((pre.length:Int)+(nmL a).length)=bb->Wp ((if bb=true then X else Y) [some (.str T),some (.int pre.length),some (.int 1),u,some (.tup [.int a,.int ((pre.length:Int)+(nmL a).length)])]) G P->Wp (ifS (Q2 (truthE (M0 iD (ixE K0 H0))) (truthE (mtE isStrM startsD c0 (O0 (cSt "..") (ixE K0 l0))))) X Y [some (.str T),some (.int pre.length),some (.int 1),u,some (.tup [.int a,.int ((pre.length:Int)+(nmL a).length)])]) G P:=λ{X Y P bb} eb w=>by
      refine M7<| t4<| b8 rfl ⟨λ_=>T3.mpr<| J5 rfl rfl rfl<| O6.mpr ?_,λz=>(nomatch z)⟩;rw[eb]
      cases bb
      ·exact⟨λz=>(nomatch z),λ_=>w⟩
      ·exact⟨λ_=>w,λz=>(nomatch z)⟩
     by_cases hab:b=some a
     · subst hab;have sw:swL (some a,some a)=nmL a:=if_pos rfl;rw[sw]at h q;have hb:Z1 T (".." :Str) ((pre.length:Int)+(nmL a).length)=false:=by
        rw[<-el];exact vA h rfl λx y z=>by rw[hp x y z];decide
       refine d8.mpr<| ask hb<| o8.mpr<| o6<| M8.mpr<| j7<| g8 rfl rfl<| VY<| b8 (G':=G) rfl ⟨sz,m7 q⟩
     · obtain⟨t',rfl⟩:∃t',t= [46,46]++t':=by
        rcases b with _|b
        ·exact⟨[],jW (show nmL a++t=nmL a++[46,46]from et.symm)⟩
        ·rw[show swL (some a,some b)=nmL a++[46,46]++nmL b from if_neg λz=>hab (by rw[z]),zA]at et;exact⟨_,(jW et).symm⟩
       have hb:Z1 T (".." :Str) ((pre.length:Int)+(nmL a).length)=true:=by rw[<-el];exact J7 h2 (r:=t'++post) (by rw[zA];rfl)
       refine d8.mpr<| ask hb<| o6<| g8 (as:= [.str T,.int ((pre.length:Int)+(nmL a).length),.int a]) rfl rfl ?_;rcases b with _|b
       · have:t'= []:=by
          have:=jW (show nmL a++([46,46]++[])=nmL a++([46,46]++t')from et);exact(jW this).symm
         subst this;refine Kf hz el.symm (by rw[h2];simp) hp<| m7 ?_;rw[show (((pre++nmL a).length:Nat):Int)+2= (pre.length:Int)+(swL (some a,none)).length by rw[et,zd,zd];show _=_+((_+2:Nat):Int);lia];exact q
       · have sw:swL (some a,some b)=nmL a++[46,46]++nmL b:=if_neg λz=>hab (by rw[z]);have:t'=nmL b:=by
          rw[sw,zA]at et;exact(jW (jW et)).symm
         subst this;refine wH (a:=some a) hz el.symm (hr.2 b rfl) ok (by rw[h2];simp) hp<| m7 ?_;rw[show (((pre++nmL a).length:Nat):Int)+2+(nmL b).length= (pre.length:Int)+(swL (some a,some b)).length by rw[sw,zd,zd,zd];show _=_+((_+2+_:Nat):Int);lia];exact q
end
def TxL(z:Str):Prop:=(∀c∈tl z,97<=c/\c<=122)/\z.length<=1000
section
variable{T:Str}{G:DH}{Q:DPP}
theorem Dx{at':Int}{pre rest:List Nat}(ha:at'=pre.length)(hp:p.length<=zk)(h:tl T=pre++(tl p++rest))(q:Q (.int ((pre.length:Int)+p.length)) G):Wp (OF [.str T,.int at',.str p]) G Q:=by subst ha;refine o5<| d8.mpr<| GZ<| B9<| J5 rfl rfl rfl ?_;rw[J7 h rfl];exact⟨rfl,rfl,o8.mpr<| o6<| j5<| b8 rfl<| V0 rfl<| (nC hp).mpr<| n9.mpr<| m7 q⟩
theorem fQ{pre post:List Nat}(hz:T.length<=zk)(ht:TxL z)(h:tl T=pre++(34::(tl z++[34]))++post)(q:Q (.tup [.str z,.int ((pre.length:Int)+(z.length+2:Nat))]) G):Wp (F_text_at [.str T,.int pre.length]) G Q:=by
 have h1:tl T= (pre++[34])++tl z++([34]++post):=by rw[h];simp
 have e1:((pre++[34]).length:Int)= (pre.length:Int)+1:=by simp
 refine o5<| d8.mpr<| u6<| g8 rfl rfl<| PD hz e1.symm h1 ht.1 (λc r e=>by cases e;decide) ?_;rw[e1];have h2:=nQ h1;rw[e1]at h2;refine o6<| M8.mpr<| j7<| vE.mpr<| b8 rfl<| b8 rfl<| b8 rfl<| (FQ hz).mpr ?_;rw[h2];have h3:tl T= (pre++[34]++tl z)++(tl ("\"" :Str)++post):=by rw[h1];simp;rfl
 refine j7<| g8 rfl rfl<| Dx (by simp;lia) (by decide) h3<| o7.mpr ⟨sz,m7 ?_⟩;have e4:(((pre++[34]++tl z).length:Int)+(("\"" :Str).length:Nat))= (pre.length:Int)+(z.length+2:Nat):=by rw[zd,zd,dA];show (((pre.length+1+z.length:Nat):Int)+(1:Nat))=_;lia
 rw[e4];exact q
end
abbrev cT:List Nat:= [116,114,117,101]
abbrev cF:List Nat:= [102,97,108,115,101]
abbrev cTx:List Nat:= [116,101,120,116]
abbrev cTh:List Nat:= [116,114,117,116,104]
def qL(z:Str):List Nat:=34::(tl z++[34])
def stO(post:List Nat):Prop:=post= []\/∃r,post=cOr++r
theorem stO.st(h:stO post):stW post:=λc r e=>by
 rcases h with rfl|⟨t,rfl⟩
 ·cases e
 ·exact(zB e).1.symm
abbrev CK(z:Str):PS:=⟨[],true, [z],false,false⟩
abbrev PP:PS:=⟨[],false, [],false,false⟩
abbrev SH(b:Bool):PS:=⟨[],true, [], !b,b⟩
abbrev KR:PS:=⟨[],true, [],true,true⟩
section
variable{T:Str}{G:DH}{Q:DPP}{pre post:List Nat}
theorem Vw(q:Q (sP (CK z)) G):Wp (aB [.str z]) G Q:=
 o5<| j8 (X1:= [some (.str z)]) rfl<| j8 (X1:= [some (.str z)]) rfl<| d8.mpr<| M7<| b8 rfl ⟨λ_=>o6<| g8 rfl rfl<| RF<| m7 q,λz=>nomatch z⟩
theorem AV(q:Q (sP (SH b)) G):Wp (aB [.bl b]) G Q:=
 o5<| d8.mpr<| M7<| b8 rfl ⟨λ_=>o6<| g8 (by cases b<;>rfl) rfl<| RF<| m7 q,λz=>nomatch z⟩
theorem pfx{rest:List Nat}(h:tl T=pre++rest)(k:¬tl p <+:rest):Z1 T p (pre.length:Int)=false:=(CF h).trans (decide_eq_false k)
theorem Vd(hz:T.length<=zk)(ht:TxL z)(h:tl T=pre++qL z++post)(q:Q (.tup [.str z,.int ((pre.length:Int)+(qL z).length)]) G):Wp (SD [.str T,.int pre.length,.int 1]) G Q:=by
 have h':tl T=pre++(34::(tl z++[34]++post)):=by rw[h,zA];rfl
 refine o5 (show Wp (UC [some (.str T),some (.int pre.length),some (.int 1)]) G _ from j8 rfl ?_);refine O7 (noF h' rfl rfl (by decide))<| O7 (noF h' rfl rfl (by decide))<| TD (J7 h' rfl)<| g8 rfl rfl<| fQ hz ht h<| m7 ?_;rw[show (z.length+2:Nat)= (qL z).length by unfold qL;rw[zr,zd,dA];rfl];exact q
theorem Gg{at':Int}(hz:T.length<=zk)(ha:at'=pre.length)(ht:TxL z)(h:tl T=pre++qL z++post)(hp:stO post)(q:Q (.tup [sP (CK z),.int ((pre.length:Int)+(qL z).length)]) G):Wp (R4 [.str T,.int at',.int 1]) G Q:=by
 subst ha;refine o5 (show Wp (T8 (wS T pre.length none)) G _ from ?_);rw[kC];have h':tl T=pre++(34::(tl z++[34]++post)):=by rw[h,zA];rfl
 refine O7 (noF h' rfl rfl (by decide))<| O7 (noF h' rfl rfl (by decide))<| O7 (noF h' rfl rfl (by decide)) ?_;obtain⟨u,eu⟩:=FC (noF h' rfl rfl (by decide)) (noF h' rfl rfl (by decide)) (noF h' rfl rfl (by decide));refine j8 eu<| O7 (noF h' rfl rfl (by decide))<| d8.mpr<| u6<| g8 rfl rfl<| Vd hz ht h ?_;refine d8.mpr<| M7<| t4<| b8 rfl ⟨λz=>(nomatch z),λ_=>⟨λz=>(nomatch z),λ_=>o8.mpr ?_⟩⟩;exact o6<| M8.mpr<| j7<| g8 rfl rfl<| Vw<| b8 rfl ⟨sz,m7 q⟩
def blL(b:Bool):List Nat:=if b then cT else cF
theorem Nb{at':Int}(ha:at'=pre.length)(h:tl T=pre++blL b++post)(q:Q (.tup [sP (SH b),.int ((pre.length:Int)+(blL b).length)]) G):Wp (R4 [.str T,.int at',.int 1]) G Q:=by
 subst ha;refine o5 (show Wp (T8 (wS T pre.length none)) G _ from ?_);rw[kC];have hs:tl T=pre++(blL b++post):=by rw[h,zA]
 have no:∀p:Str,(∀t,tl p++t≠blL b++post)->Z1 T p (pre.length:Int)=false:=λp k=>pfx hs fun⟨t,e⟩=>k t e;have n1:∀t,tl ("[" :Str)++t≠blL b++post:=λt e=>by cases b<;>exact absurd (zB e).1 (by decide)
 have n2:∀t,tl ("{" :Str)++t≠blL b++post:=λt e=>by cases b<;>exact absurd (zB e).1 (by decide)
 have n3:∀t,tl ("text but" :Str)++t≠blL b++post:=λt e=>by
  cases b
  ·exact absurd (zB e).1 (by decide)
  ·exact absurd (zB (zB e).2).1 (by decide)
 have n4:∀t,tl ("number" :Str)++t≠blL b++post:=λt e=>by cases b<;>exact absurd (zB e).1 (by decide)
 have n5:∀t,tl ("text" :Str)++t≠blL b++post:=λt e=>by
  cases b
  ·exact absurd (zB e).1 (by decide)
  ·exact absurd (zB (zB e).2).1 (by decide)
 have n6:∀t,tl ("truth" :Str)++t≠blL b++post:=λt e=>by
  cases b
  ·exact absurd (zB e).1 (by decide)
  ·exact absurd (zB (zB (zB (zB e).2).2).2).1 (by decide)
 have n7:∀t,tl (".." :Str)++t≠blL b++post:=λt e=>by cases b<;>exact absurd (zB e).1 (by decide)
 have n8:∀t,tl ("\"" :Str)++t≠blL b++post:=λt e=>by cases b<;>exact absurd (zB e).1 (by decide)
 refine O7 (no _ n1)<| O7 (no _ n2)<| O7 (no _ n3) ?_;obtain⟨u,eu⟩:=FC (no _ n4) (no _ n5) (no _ n6);refine j8 eu<| O7 (no _ n7)<| d8.mpr<| u6<| g8 rfl rfl ?_;have fin:Wp ((gdQ (Q2 (truthE (M0 iD (ixE K0 H0))) (truthE (mtE isStrM startsD c0 (O0 (cSt "..") (ixE K0 l0))))) (nB Q4 c0 (ixE K0 l0) (ixE K0 H0)) (t7 (F0 (M0 aB (ixE K0 H0)) (ixE K0 l0)))) [some (.str T),some (.int pre.length),some (.int 1),u,some (.tup [.bl b,.int ((pre.length:Int)+(blL b).length)])]) G (PB Q):=by refine d8.mpr<| M7<| t4<| b8 rfl ⟨λz=>(nomatch z),λ_=>⟨λz=>(nomatch z),λ_=>o8.mpr ?_⟩⟩;exact o6<| M8.mpr<| j7<| g8 rfl rfl<| AV<| b8 rfl ⟨sz,m7 q⟩
 refine o5 (show Wp (UC [some (.str T),some (.int pre.length),some (.int 1)]) G _ from j8 rfl ?_);refine O7 (no _ n1)<| O7 (no _ n2)<| O7 (no _ n8) ?_
 cases b
 ·refine O7 (no _ λt e=>absurd (zB e).1 (by decide))<| TD (J7 hs rfl)<| b8 rfl<| m7 fin
 ·refine TD (J7 hs rfl)<| b8 rfl<| m7 fin
theorem UQ{at':Int}(ha:at'=pre.length)(h:tl T=pre++w++post)(hp:stO post)(hk:w=cTx/\s=PP\/w=cTh/\s=KR)(q:Q (.tup [sP s,.int ((pre.length:Int)+w.length)]) G):Wp (R4 [.str T,.int at',.int 1]) G Q:=by
 subst ha;refine o5 (show Wp (T8 (wS T pre.length none)) G _ from ?_);rw[kC];have hs:tl T=pre++(w++post):=by rw[h,zA]
 have no:∀p:Str,(∀t,tl p++t≠w++post)->Z1 T p (pre.length:Int)=false:=λp k=>pfx hs fun⟨t,e⟩=>k t e;have n1:∀t,tl ("[" :Str)++t≠w++post:=λt e=>by rcases hk with⟨rfl,_⟩|⟨rfl,_⟩<;>exact absurd (zB e).1 (by decide)
 have n2:∀t,tl ("{" :Str)++t≠w++post:=λt e=>by rcases hk with⟨rfl,_⟩|⟨rfl,_⟩<;>exact absurd (zB e).1 (by decide)
 have n4:∀t,tl ("number" :Str)++t≠w++post:=λt e=>by rcases hk with⟨rfl,_⟩|⟨rfl,_⟩<;>exact absurd (zB e).1 (by decide)
 have n3:∀t,tl ("text but" :Str)++t≠w++post:=λt e=>by
  rcases hk with⟨rfl,_⟩|⟨rfl,_⟩
  · have e4:=(zB (zB (zB (zB e).2).2).2).2;rcases hp with rfl|⟨r,rfl⟩
    ·cases e4
    ·exact absurd (zB (zB e4).2).1 (by decide)
  ·exact absurd (zB (zB e).2).1 (by decide)
 refine O7 (no _ n1)<| O7 (no _ n2)<| O7 (no _ n3) ?_;refine d8.mpr<| P7.mpr<| wp_itW.mpr<| b8 rfl<| srcW_tup.mpr ?_;refine R8.mpr ⟨rfl,K7.mpr<| b8 (kE (no _ n4))<| R8.mpr ⟨rfl,K7.mpr ?_⟩⟩;rcases hk with⟨rfl,rfl⟩|⟨rfl,rfl⟩
 ·refine M7<| B9<| J5 rfl rfl rfl ?_;rw[J7 hs rfl];exact⟨rfl,λ_=>o6<| b8 rfl<| m7 q,λz=>(nomatch z)⟩
 ·refine b8 (kE (no _ λt e=>absurd (zB (zB e).2).1 (by decide)))<| R8.mpr ⟨rfl,K7.mpr ?_⟩;refine M7<| B9<| J5 rfl rfl rfl ?_;rw[J7 hs rfl];exact⟨rfl,λ_=>o6<| b8 rfl<| m7 q,λz=>(nomatch z)⟩
end
theorem WE{mk:α->D}{e:Fe}{f:α->D}{G:DH}(mr:ck G=true):∀(l:List α) u,(∀x∈l,e [some (mk x)] G=some (.ok (f x),G))->J6 u3 m4 e ck (l.map mk) [u] G=some (.ok (l.map f),G)
 |[],u,h=>E3 (VB.mpr ⟨mr,rfl,rfl⟩)
 | x :: r, u, h => E3 (UD.mpr ⟨mr, b8 rfl <| b8 rfl <| by
    rw[if_pos rfl];exact b8 (h x (zt ..))<| b8 (WE mr r _ λy hy=>h y (zi _ hy)) ⟨rfl,rfl⟩⟩)
section
variable{G:DH}{Q:DPP}
theorem Vj{c:Nat}{s:List Str}(e:G[c]? =some (.lst (s.map D.str)))(hs:s.length<64)(hz:∀z∈s,Tx z)(q:∀m G',Ris m->(∀z,z∈m↔z∈s)->m.length<=s.length->Ap G G'->Q (.tup (m.map D.str)) G'):Wp (M4 [.ref c]) G Q:=by have bg:=big;refine o5<| o6<| M5<| j7<| kL.mpr<| g8 rfl rfl<| o5<| o6<| M5<| j7<| wp_comp.mpr<| wp_itW.mpr<| b8 rfl<| (W7 e).mpr ⟨by rw[zf];lia,b8 (WE (w4 e) s none λz _=>rfl)<| o7.mpr<| (pM m5 (sH s)).mpr<| m7 ?_⟩;obtain⟨ks,h1,h2,h3⟩:=pI s [] [] ⟨rfl,by simp⟩;refine HR m5 h1 (by simp at h3;lia) (λz oq=>zQ (hz z (by have:=(h2 z).mp oq;simpa using this)).2 (by lia)) λm r p=>o7.mpr<| (W5 m5).mpr<| m7<| q m _ r (λz=>by rw[p.mem_iff,h2 z];simp) (by rw[p.length_eq];simpa using h3) ((Ap.one.trans Ap.one).trans Ap.one)
def bqL(ts:List Str):List Nat:=ts.flatMap λz=>32::qL z
theorem IS:VE=f9 (v7 (S7 o0) N0) (f9 (V6 UT UB) UZ):=rfl
variable{T:Str}{c:Nat}
abbrev uS(T:Str)(i:Int)(c:Nat)(u:Option D):DSt:= [some (.str T),some (.int i),sRf c,u]
theorem fN(hz:T.length<=zk):∀rest dn pre post u n G,rest.length<=n->(∀z∈rest,TxL z)->tl T=pre++bqL rest++post->stO post->G[c]? =some (.lst (dn.map D.str))->dn.length+rest.length<=200->
 Wp (K9 (n+1) UT UB (uS T pre.length c u)) G λfl G'=>∃u',fl= .nx (uS T ((pre++bqL rest).length:Int) c u')/\G'[c]? =some (.lst ((dn++rest).map D.str))/\G'.length=G.length/\∀i,i≠c->G'[i]? =G[i]?
 |[],dn,pre,post,u,n,G,hn,ok,h,hp,e,hl=>by
   have h':tl T=pre++post:=by rw[h];unfold bqL;simp
   refine R5.mpr<| T3.mpr<| J5 rfl rfl rfl ?_;have np:¬tl (" \"" :Str) <+:post:=fun⟨t,z⟩=>by
    rcases hp with rfl|⟨r,rfl⟩
    ·cases z
    ·exact absurd (zB (zB z).2).1 (by decide)
   rw[pfx h' np];refine O6.mpr ?_;rw[if_neg zN];exact⟨u,by unfold bqL;simp,by rw[jT];exact e,rfl,λ_ _=>rfl⟩
 |z::rest,dn,pre,post,u,n,G,hn,ok,h,hp,e,hl=>by
   have bg:=big;obtain⟨m,rfl⟩:∃m,n=m+1:=⟨n-1,by simp at hn;lia⟩;simp only[zr]at hn hl;have eb:bqL (z::rest)=32::qL z++bqL rest:=by unfold bqL;rw[List.flatMap_cons]
   have h1:tl T=pre++(32::qL z++(bqL rest++post)):=by rw[h,eb];simp
   have h2:tl T= (pre++[32])++qL z++(bqL rest++post):=by rw[h1];simp
   have h3:tl T= (pre++[32]++qL z)++bqL rest++post:=by rw[h2];simp
   refine R5.mpr<| T3.mpr<| J5 rfl rfl rfl ?_;rw[J7 h1 (by unfold qL;simp;rfl)];refine O6.mpr ?_;rw[if_pos rfl];have el:((pre.length:Int)+1)= ((pre++[32]).length:Int):=by rw[zd];rfl
   have lq:(qL z).length=z.length+2:=by unfold qL;rw[zr,zd];rfl
   have el2:((pre++[32]).length:Int)+(z.length+2:Nat)= ((pre++[32]++qL z).length:Int):=by rw[zd (bs:=qL z),lq];exact(Int.natCast_add _ _).symm
   refine d8.mpr<| u6<| g8 rfl rfl ?_;rw[el];refine fQ hz (ok z (zt ..)) h2 ?_;rw[el2];refine d8.mpr<| E7.mpr<| y4.mpr<| b8 rfl<| (M9 e).mpr<| b8 rfl<| (Q3 e (by rw[zf];lia)).mpr<| u6<| b8 rfl ?_;have ih:=fN hz rest (dn++[z]) (pre++[32]++qL z) post (some (.tup [.str z,.int ((pre++[32]++qL z).length:Int)])) m (G.set c (.lst ((dn.map D.str)++[.str z]))) (by lia) (λy hy=>ok y (zi _ hy)) h3 hp (by rw[jk (lt_of_get e),zY];rfl) (by rw[zd,jE];lia);rw[eb,show pre++(32::qL z++bqL rest)=pre++[32]++qL z++bqL rest by simp,show dn++z::rest=dn++[z]++rest by simp];refine ih.mono ?_;rintro fl G' ⟨u',a1,a2,a3,a4⟩;exact⟨u',a1,a2,by rw[a3,xp],λi hi=>by rw[a4 i hi,jd (Ne.symm hi)]⟩
end
theorem kG(h:TxL z):Tx z:=⟨by
 unfold LO;rw[xI];intro c hc;have:=h.1 c hc;unfold SK;simp only[decide_eq_true_eq,jI];exact this,h.2⟩
abbrev HG(m:List Str):PS:=⟨[],false,m,false,false⟩
abbrev cTb:List Nat:= [116,101,120,116,32,98,117,116]
def btL(ts:List Str):List Nat:=cTb++bqL ts
section
variable{T:Str}{G:DH}{Q:DPP}{pre post:List Nat}
theorem aX{at':Int}(hz:T.length<=zk)(ha:at'=pre.length)(ht:∀z∈ts,TxL z)(md:ts≠ [])(hl:ts.length<64)(h:tl T=pre++bqL ts++post)(hp:stO post)
 (q:∀m G',Rw m->(∀z,z∈m↔z∈ts)->m.length<=ts.length->Ap G G'->Q (.tup [sP (HG m),.int ((pre++bqL ts).length:Int)]) G'):Wp (FD [.str T,.int at']) G Q:=by
 subst ha;refine o5 (show Wp (VE [some (.str T),some (.int pre.length),none,none]) G _ from ?_);rw[IS];refine j8 (X1:=uS T pre.length G.length none) rfl<| d8.mpr<| rB<| (fN hz ts [] pre post none ts.length (G++[.lst []]) (zg _) ht h hp m5 (by simp;lia)).mono ?_;rintro _ G1 ⟨u,rfl,e1,l1,f1⟩;have a1:Ap G G1:=Gr.ap ⟨by rw[l1];simp,λi hi=>by rw[f1 i (by lia),zE hi]⟩;rw[Zo]at e1;refine d8.mpr<| M7<| C9.mpr<| T3.mpr<| b8 rfl<| (NP e1).mpr ⟨λk=>?_,λ_=>o8.mpr ?_⟩
 rotate_left
 ·refine o6<| M8.mpr<| j7<| M5<| j7<| b8 rfl<| j7<| M8.mpr<| j7<| b8 rfl<| j7<| g8 rfl rfl<| Vj e1 hl (λz hz=>kG (ht z hz)) λm G2 r mm lm a2=>o7.mpr ⟨sz,?_⟩;refine b8 (G':=G2) rfl<| O2.mpr ⟨rfl,RF (s:=HG m) ?_⟩;exact b8 (a:= [.int ((pre++bqL ts).length:Int)]) (G':=G2) rfl ⟨sz,m7<| q m G2 ⟨r,λz hz=>kG (ht z ((mm z).mp hz)),by lia⟩ mm lm (a1.trans a2)⟩
 · rcases ts with _|⟨_,_⟩
   ·exact absurd rfl md
   ·cases k
theorem UY{at':Int}(hz:T.length<=zk)(ha:at'=pre.length)(ht:∀z∈ts,TxL z)(md:ts≠ [])(hl:ts.length<64)(h:tl T=pre++btL ts++post)(hp:stO post)
 (q:∀m G',Rw m->(∀z,z∈m↔z∈ts)->m.length<=ts.length->Ap G G'->Q (.tup [sP (HG m),.int ((pre.length:Int)+(btL ts).length)]) G'):Wp (R4 [.str T,.int at',.int 1]) G Q:=by
 subst ha;refine o5 (show Wp (T8 (wS T pre.length none)) G _ from ?_);rw[kC];have hs:tl T=pre++(116::(101::120::116::32::98::117::116::(bqL ts++post))):=by rw[h];unfold btL;simp
 have h2:tl T= (pre++cTb)++bqL ts++post:=by rw[h];unfold btL;simp
 refine O7 (noF hs rfl rfl (by decide))<| O7 (noF hs rfl rfl (by decide))<| TD (J7 hs rfl)<| g8 (as:= [.str T,.int ((pre.length:Int)+8)]) rfl rfl<| aX hz (by rw[zd];rfl) ht md hl h2 hp λm G' r mm lm am=>m7 ?_;rw[show ((pre++cTb++bqL ts).length:Int)= (pre.length:Int)+(btL ts).length by unfold btL;rw[zA,zd];lia];exact q m G' r mm lm am
end
section
variable{T:Str}{G:DH}{Q:DPP}
theorem NT{at' a:Int}{pre post:List Nat}(hz:T.length<=zk)(ha:at'=pre.length)(hr:smI a)(h:tl T=pre++(nmL a++[46,46]++nmL a)++post)(hp:stW post)(q:Q (.tup [sN [(some a,some a)],.int ((pre.length:Int)+(nmL a++[46,46]++nmL a).length)]) G):
 Wp (R4 [.str T,.int at',.int 1]) G Q:=by
 subst ha;refine o5 (show Wp (T8 (wS T pre.length none)) G _ from ?_);rw[kC];obtain⟨c,r,e,hc⟩:=TC a;have h':tl T=pre++(c::(r++[46,46]++nmL a++post)):=by rw[h];simp[e]
 refine O7 (noF h' rfl rfl (by lia))<| O7 (noF h' rfl rfl (by lia))<| O7 (noF h' rfl rfl (by lia)) ?_;obtain⟨u,eu⟩:=FC (noF h' rfl rfl (by lia)) (noF h' rfl rfl (by lia)) (noF h' rfl rfl (by lia));have h2:tl T=pre++nmL a++([46,46]++nmL a++post):=by rw[h];simp
 refine j8 eu<| O7 (noF h' rfl rfl (by lia))<| d8.mpr<| u6<| g8 rfl rfl<| vL hz hr h2 (λx y z=>by rw[<-(zB z).1];decide) ?_;have el:((pre++nmL a).length:Int)= (pre.length:Int)+(nmL a).length:=by rw[zd];lia
 have hb:Z1 T (".." :Str) ((pre.length:Int)+(nmL a).length)=true:=by rw[<-el];exact J7 h2 (r:=nmL a++post) (by rw[zA];rfl)
 refine d8.mpr<| M7<| t4<| b8 (a:=true) (G':=G) rfl ⟨λ_=>T3.mpr<| J5 (G:=G) (T:=T) (p:=(".." :Str)) (i:=(pre.length:Int)+(nmL a).length) rfl rfl rfl<| O6.mpr ?_,λz=>(nomatch z)⟩;rw[hb];refine⟨λ_=>?_,λz=>nomatch z⟩;refine o6<| g8 (as:= [.str T,.int ((pre.length:Int)+(nmL a).length),.int a]) rfl rfl ?_;refine wH (a:=some a) hz el.symm hr (λx y e1 e2=>by cases e1;cases e2;exact xW _) (by rw[h2];simp) hp<| m7 ?_;rw[show (((pre++nmL a).length:Nat):Int)+2+(nmL a).length= (pre.length:Int)+(nmL a++[46,46]++nmL a).length by rw[zd,zd,zd];show _=_+((_+2+_:Nat):Int);lia];exact q
end
inductive Wd
 |num (r:Rg)
 |dup (a:Int)
 |txt (z:Str)
 |all
 |but (ts:List Str)
 |tru (b:Bool)
 |both
def wdL:Wd->List Nat
 | .num r=>swL r
 | .dup a=>nmL a++[46,46]++nmL a
 | .txt z=>qL z
 | .all=>cTx
 | .but ts=>btL ts
 | .tru b=>blL b
 | .both=>cTh
def E4:Wd->Prop
 | .num r=>smR r/\okR r
 | .dup a=>smI a
 | .txt z=>TxL z
 | .but ts=>(∀z∈ts,TxL z)/\ts≠ []/\ts.length<=4
 |_=>True
def wdS:Wd->PS->Prop
 | .num r,s=>s= ⟨[r],true, [],false,false⟩
 | .dup a,s=>s= ⟨[(some a,some a)],true, [],false,false⟩
 | .txt z,s=>s=CK z
 | .all,s=>s=PP
 | .but ts,s=>∃m,Rw m/\(∀z,z∈m↔z∈ts)/\m.length<=ts.length/\s=HG m
 | .tru b,s=>s=SH b
 | .both,s=>s=KR
section
variable{T:Str}{G:DH}{Q:DPP}
theorem RY{w:Wd}{pre post:List Nat}{at':Int}(hz:T.length<=zk)(ha:at'=pre.length)(ok:E4 w)(h:tl T=pre++wdL w++post)(hp:stO post)(q:∀s G',wdS w s->Ap G G'->Q (.tup [sP s,.int ((pre.length:Int)+(wdL w).length)]) G'):Wp (R4 [.str T,.int at',.int 1]) G Q:=by
 rcases w with r|a|z|_|ts|b|_
 ·exact fU hz ha ok.1 ok.2 h hp.st (q ⟨[r],true, [],false,false⟩ G rfl Ap.refl)
 ·exact NT hz ha ok h hp.st (q ⟨[(some a,some a)],true, [],false,false⟩ G rfl Ap.refl)
 ·exact Gg hz ha ok h hp (q _ G rfl Ap.refl)
 ·exact UQ ha h hp (.inl ⟨rfl,rfl⟩) (q _ G rfl Ap.refl)
 ·exact UY hz ha ok.1 ok.2.1 (Xn ok.2.2 (by decide)) h hp λm G' r mm lm am=>q _ G' ⟨m,r,mm,lm,rfl⟩ am
 ·exact Nb ha h (q _ G rfl Ap.refl)
 ·exact UQ ha h hp (.inr ⟨rfl,rfl⟩) (q _ G rfl Ap.refl)
end
def VT:DSt->M Bool:=(truthE cBt)
theorem qq:UE=f9 (v7 (S7 o0) A2) (V6 VT VBd):=rfl
theorem GM(L:List (List Nat)):stO (glL cOr L):=by
 rcases L with _|⟨a,t⟩
 ·exact .inl rfl
 ·exact .inr ⟨a++glL cOr t,by show cOr++a++glL cOr t=_;rw[zA]⟩
inductive F6:List Wd->List PS->Prop
 |nil:F6 [] []
 |cons {w:Wd} {s:PS} {ws:List Wd} {L:List PS} (h:wdS w s) (k:F6 ws L):F6 (w::ws) (s::L)
section
variable{T:Str}{c:Nat}
abbrev vS(T:Str)(i:Int)(c:Nat)(u:Option D):DSt:= [some (.str T),some (.int i),some (.int 1),sRf c,u]
theorem BP{dn:List PS}{w:Wd}{pre post:List Nat}{u:Option D}{G:DH}{P:Fl->DH->Prop}(hz:T.length<=zk)(ok:E4 w)(h:tl T=pre++wdL w++post)(hp:stO post)(e:G[c]? =some (.lst (dn.map sP)))(hl:dn.length<=200)
 (k:∀s G',wdS w s->G'[c]? =some (.lst ((dn++[s]).map sP))->Wp (VZ (vS T pre.length c (some (.tup [sP s,.int ((pre++wdL w).length:Int)])))) G' P):Wp (VBd (vS T pre.length c u)) G P:=by
 have bg:=big;have el:(pre.length:Int)+(wdL w).length= ((pre++wdL w).length:Int):=by rw[zd];lia
 refine d8.mpr<| u6<| g8 rfl rfl<| RY hz rfl ok h hp λs G1 hs a1=>?_;rw[el];have e1:=a1.at e;refine d8.mpr<| E7.mpr<| y4.mpr<| b8 rfl<| (M9 e1).mpr<| b8 rfl<| (Q3 e1 (by rw[zf];lia)).mpr<| k s _ hs ?_;rw[jk (lt_of_get e1),zY];rfl
theorem SL(hz:T.length<=zk):∀(rest:List Wd) (w:Wd) (dn:List PS) (pre:List Nat) (u:Option D) (n:Nat) (G:DH),rest.length<=n->(∀s∈w::rest,E4 s)->tl T=pre++wdL w++glL cOr (rest.map wdL)->G[c]? =some (.lst (dn.map sP))->dn.length+rest.length<=200->
 Wp (K9 (n+1) VT VBd (vS T pre.length c u)) G λfl G'=>fl= .rt (.tup [.ref c,.int (T.length:Int)])/\∃L,F6 (w::rest) L/\G'[c]? =some (.lst ((dn++L).map sP))
 |[],w,dn,pre,u,n,G,hn,ok,h,e,hl=>by
   refine R5.mpr<| b8 rfl ?_;rw[if_pos rfl];refine BP hz (ok w (zt ..)) h (GM []) e (by simp at hl;lia) λs G1 hs e1=>?_;have h':tl T= (pre++wdL w)++[]:=h;refine d8.mpr<| M7<| C9.mpr<| QD<| J5 rfl rfl rfl ?_;rw[vA h' rfl λ_ _ z=>nomatch z];refine⟨rfl,λ_=>o6<| b8 rfl ⟨?_, [s],.cons hs .nil,e1⟩,λz=>nomatch z⟩;have:T.length= (pre++wdL w).length:=by rw[<-dA,h',jT]
   rw[this]
 |x::rest,w,dn,pre,u,n,G,hn,ok,h,e,hl=>by
   obtain⟨m,rfl⟩:∃m,n=m+1:=⟨n-1,by simp at hn;lia⟩;refine R5.mpr<| b8 rfl ?_;rw[if_pos rfl];simp only[zr]at hn hl;refine BP hz (ok w (zt ..)) h (GM _) e (by lia) λs G1 hs e1=>?_;refine d8.mpr<| M7<| C9.mpr<| B9<| J5 rfl rfl rfl ?_;rw[J7 h (by show cOr++wdL x++glL cOr (rest.map wdL)=cOr++_;rw[zA])];refine⟨rfl,λz=>(nomatch z),λ_=>o8.mpr<| u6<| b8 (a:=.int (((pre++wdL w).length:Int)+4)) rfl ?_⟩;have el:(((pre++wdL w).length:Int)+4)= ((pre++wdL w++cOr).length:Int):=by rw[zd (as:=pre++wdL w)];rfl
   rw[el];refine(SL hz rest x (dn++[s]) (pre++wdL w++cOr) (some (.tup [sP s,.int ((pre++wdL w).length:Int)])) m G1 (by lia) (λy hy=>ok y (zi _ hy)) (by rw[h];show _++(cOr++wdL x++glL cOr (rest.map wdL))=_;simp) e1 (by rw[zd];simp;lia)).mono ?_;rintro _ G2 ⟨rfl,L,hL,e2⟩;exact⟨rfl,s::L,.cons hs hL,by rw[zA]at e2;exact e2⟩
theorem Kx{ws:List Wd}{w:Wd}{G:DH}{Q:DPP}(hz:T.length<=zk)(ok:∀s∈w::ws,E4 s)(h:tl T=b9 cOr ((w::ws).map wdL))(hl:ws.length<=200)(q:∀c L G',F6 (w::ws) L->G'[c]? =some (.lst (L.map sP))->Q (.tup [.ref c,.int (T.length:Int)]) G'):Wp (sG [.str T,.int 0,.int 1]) G Q:=by refine o5 (show Wp (UE [some (.str T),some (.int 0),some (.int 1),none,none]) G _ from ?_);rw[qq];refine j8 (X1:=vS T 0 G.length none) rfl<| rB<| (SL hz ws w [] [] none ws.length (G++[.lst []]) (zg _) ok h m5 (by simpa using hl)).mono ?_;rintro _ G1 ⟨rfl,L,hL,e1⟩;exact m7<| q _ L _ hL e1
end
theorem c5.uniq(h:c5 L m)(k:c5 L n):m=n:=by
 have e1:m.ns=n.ns:=mO h.ok.can k.ok.can λx=>by rw[h.ns x,k.ns x]
 have e2:m.b=n.b:=by rw[h.b,k.b]
 have e3:m.ts=n.ts:=bO h.ok.rw.ris k.ok.rw.ris λz=>by
  have:=(h.ts z).trans (k.ts z).symm;rw[e2]at this;unfold inT at this;split at this
  ·exact this
  ·exact⟨λp=>jb λq=>this.mpr q p,λp=>jb λq=>this.mp q p⟩
 have e4:m.f=n.f:=by rw[h.f,k.f]
 have e5:m.t=n.t:=by rw[h.t,k.t]
 obtain⟨a,b,c,d,e⟩:=m;obtain⟨a',b',c',d',e'⟩:=n
 cases e1;cases e2;cases e3;cases e4;cases e5
 rfl
theorem HD:Rw []:=⟨.nil,λ_ h=>(nomatch h),by decide⟩
theorem av(h:TxL z):Rw [z]:=⟨Yd ..,λy hy=>by rw[zm.mp hy];exact kG h,show 1<64 by decide⟩
theorem RD:Can []:=⟨λ_ h=>(nomatch h),.nil⟩
theorem fO(h:okR r):Can [r]:=⟨λp hp=>by rw[zm.mp hp];exact h,Yd ..⟩
theorem Nj(ok:E4 w)(h:wdS w s):OkP s:=by
 have z0:∀ {k:Prop},k->([]:List Str).length<=4:=λ_=>zD _;rcases w with r|a|z|_|ts|b|_
 ·cases h;exact⟨fO ok.2,HD,z0⟩
 ·cases h;exact⟨fO λx y e1 e2=>(by cases e1;cases e2;exact xW _),HD,z0⟩
 ·cases h;exact⟨RD,av ok,λk=>nomatch k⟩
 ·cases h;exact⟨RD,HD,z0⟩
 ·obtain⟨m,r,_,l,rfl⟩:=h;exact⟨RD,r,λ_=>zQ l ok.2.2⟩
 ·cases h;exact⟨RD,HD,z0⟩
 ·cases h;exact⟨RD,HD,z0⟩
def wdT:Wd->Nat
 | .txt _=>1
 |_=>0
theorem F6.facts(h:F6 ws L):L.length=ws.length/\y6 L<=ws.length/\E6 L<=(ws.map wdT).sum/\((∀w∈ws,E4 w)->∀s∈L,OkP s):=by
 induction h with
 |nil=>exact⟨rfl,zg _,zg _,λ_ s hs=>nomatch hs⟩
 |@cons w s ws L hw k ih=>
   obtain⟨h1,h2,h3,h4⟩:=ih;have hn:s.ns.length<=1/\wtP s<=wdT w:=by
    rcases w with r|a|z|_|ts|b|_
    ·cases hw;exact⟨zg _,zD _⟩
    ·cases hw;exact⟨zg _,zD _⟩
    ·cases hw;exact⟨zD _,zg _⟩
    ·cases hw;exact⟨zD _,zD _⟩
    ·obtain⟨m,_,_,lm,rfl⟩:=hw;exact⟨zD _,zD _⟩
    ·cases hw;exact⟨zD _,zD _⟩
    ·cases hw;exact⟨zD _,zD _⟩
   refine⟨by simp[h1],by rw[dC,zr];lia,by rw[MB,zK,List.sum_cons];lia,λok x hx=>?_⟩;rcases zu.mp hx with rfl|hx
   ·exact Nj (ok w (zt ..)) hw
   ·exact h4 (λy hy=>ok y (zi _ hy)) x hx
section
variable{T:Str}{G:DH}{Q:DPP}
theorem NU(r:Rg):(∃c t,swL r=c::t/\c≠97/\c≠110)\/swL r=AE:=by
 obtain⟨a,b⟩:=r;rcases a with _|a
 · rcases b with _|b
   ·exact .inr rfl
   ·exact .inl ⟨46,_,rfl,by decide,by decide⟩
 · left;obtain⟨c,t,e,hc⟩:=TC a;rcases b with _|b
   ·exact⟨c,t++[46,46],by show nmL a++[46,46]=_;rw[e];rfl,by lia,by lia⟩
   · by_cases k:a=b
     ·exact⟨c,t,by rw[show swL (some a,some b)=nmL a from if_pos k,e],by lia,by lia⟩
     ·exact⟨c,t++[46,46]++nmL b,by rw[show swL (some a,some b)=nmL a++[46,46]++nmL b from if_neg k,e];rfl,by lia,by lia⟩
theorem RP(w:Wd):(∃c t,wdL w=c::t/\c≠97/\c≠110)\/wdL w=AE:=by
 rcases w with r|a|z|_|ts|b|_
 ·exact NU r
 ·obtain⟨c,t,e,hc⟩:=TC a;exact .inl ⟨c,t++[46,46]++nmL a,by show nmL a++[46,46]++nmL a=_;rw[e];rfl,by lia,by lia⟩
 ·exact .inl ⟨34,_,rfl,by decide,by decide⟩
 ·exact .inl ⟨116,_,rfl,by decide,by decide⟩
 ·exact .inl ⟨116,_,rfl,by decide,by decide⟩
 · cases b
   ·exact .inl ⟨102,_,rfl,by decide,by decide⟩
   ·exact .inl ⟨116,_,rfl,by decide,by decide⟩
 ·exact .inl ⟨116,_,rfl,by decide,by decide⟩
theorem QU(h:tl T=wdL w++post)(q:Q .non G):Wp (aF [.str T,.int 0]) G Q:=by
 have h0:tl T= []++(wdL w++post):=h;have n1:Z1 T ("any" :Str) 0=false:=by
  rcases RP w with⟨c,t,e,k1,k2⟩|e
  ·exact noF h0 (by rw[e];rfl) rfl k1
  ·exact noF h0 (by rw[e];rfl) rfl (by decide)
 have n2:Z1 T ("nothing" :Str) 0=false:=by
  rcases RP w with⟨c,t,e,k1,k2⟩|e
  ·exact noF h0 (by rw[e];rfl) rfl k2
  ·refine(CF h0).trans (decide_eq_false fun⟨t,z⟩=>?_);rw[e]at z;have z1:=(zB z).2;exact absurd (zB z1).1 (by decide)
 exact o5 (show Wp (DK [some (.str T),some (.int 0)]) G _ from O7 n1<| O7 n2<| o6<| b8 rfl<| m7 q)
theorem mS(hz:T.length<=zk)(md:ws≠ [])(ok:∀s∈ws,E4 s)(h:tl T=b9 cOr (ws.map wdL))(hl:ws.length<64)(ht:(ws.map wdT).sum<50)(q:∀L m G',F6 ws L->c5 L m->Q (sP m) G'):Wp (RC [.str T]) G Q:=by
 rcases ws with _|⟨w,ws⟩
 ·exact absurd rfl md
 have hl':=hl;simp only[zr]at hl';refine o5 (show Wp (UJ [some (.str T),none,none]) G _ from d8.mpr<| u6<| g8 rfl rfl ?_);refine o5 (show Wp (kH [some (.str T),some (.int 0),none,none]) G _ from d8.mpr<| u6<| g8 rfl rfl<| QU h ?_);refine j8 rfl<| d8.mpr<| u6<| g8 rfl rfl<| Kx hz ok h (by lia) λc L G1 tl e1=>?_;obtain⟨f1,f2,f3,f4⟩:=tl.facts;refine o6<| M8.mpr<| j7<| g8 rfl rfl<| Gv (λz=>by rw[z]at f1;simp at f1) e1 (f4 ok) ⟨by lia,by lia⟩ (by lia) λm G2 am=>?_;refine b8 rfl ⟨sz,m7 ?_⟩;exact d8.mpr<| M7<| v4<| j5<| b8 rfl<| V0 rfl<| (nC hz).mpr<| tM.mpr ⟨true,show some (decide ((T.length:Int)=T.length))=_ by rw[decide_eq_true rfl],_,rfl,λz=>(nomatch z),λ_=>o8.mpr<| o6<| b8 rfl<| m7<| q L m G2 tl am⟩
end
def PDx:Nat->D->Prop
 |0,_=>False
 |n+1,d=>d= .non\/(∃k,d= .bl k)\/(∃i,d= .int i)\/(∃z,d= .str z)\/∃l,d= .tup l/\l.length<=1000/\∀x∈l,PDx n x
theorem Lx(e:fs σ G=some (.ok [.tup k,.tup l],G))(q:R ⟨(k.zip l).map λp=>.tup [p.1,p.2],λ_=>true&&true⟩ G):Wp (x9 fs σ) G R:=by unfold x9;exact d9.mpr<| b8 e<| ⟨_,_,rfl,q⟩
section
variable{G:DH}
theorem LN:∀(l:List D) u v,(∀x∈l,R [x,x] G=some (.ok (.bl true),G))->
 Wp (B2 g23 (SF R) (λ_=>true&&true) ((l.zip l).map λp=>.tup [p.1,p.2]) [a,b,u,v]) G λfl G'=>G'=G/\∃u v,fl= .nx [a,b,u,v]
 |[],u,v,_=>wA.mpr ⟨rfl,rfl,u,v,rfl⟩
 |x::r,u,v,h=>by refine R8.mpr ⟨rfl,b8 rfl<| M7<| C9.mpr<| B9<| g8 rfl rfl<| b8 (h x (zt ..)) ⟨rfl,λz=>(nomatch z),λ_=>o8.mpr<| LN r _ _ λy hy=>h y (zi _ hy)⟩⟩
theorem KL:∀ {n N} {d},PDx n d->n<=N->W4 N [d,d] G=some (.ok (.bl true),G)
 |0,_,_,h,_=>h.elim
 |n+1,0,_,_,hn=>by lia
 |n+1,N+1,d,h,hn=>by
   refine E3 (show Wp (o9 4 (PC (W4 N)) [d,d]) G _ from ?_);rcases h with rfl|⟨k,rfl⟩|⟨i,rfl⟩|⟨z,rfl⟩|⟨l,rfl,hl,hx⟩
   ·exact P9 rfl ⟨rfl,rfl⟩
   ·exact P9 (by cases k<;>rfl) ⟨rfl,rfl⟩
   ·refine o5<| j8 (X1:= [some (.int i),some (.int i),none,none]) rfl<| j8 (X1:= [some (.int i),some (.int i),none,none]) rfl<| d8.mpr<| M7<| b8 rfl ⟨λ_=>o6<| vJ rfl<| vJ rfl<| j5<| b8 rfl<| b8 rfl<| i6.mpr<| m7 ⟨?_,rfl⟩,λz=>(nomatch z)⟩;rw[decide_eq_true rfl]
   ·refine o5<| j8 (X1:= [some (.str z),some (.str z),none,none]) rfl<| j8 (X1:= [some (.str z),some (.str z),none,none]) rfl<| j8 (X1:= [some (.str z),some (.str z),none,none]) rfl<| d8.mpr<| M7<| b8 rfl ⟨λ_=>o6<| vJ rfl<| j5<| b8 rfl<| b8 rfl<| UP.mpr<| m7 ⟨?_,rfl⟩,λz=>(nomatch z)⟩;rw[beq_self_eq_true]
   ·have bg:=big;refine o5 (show Wp (PC (W4 N) [some (.tup l),some (.tup l),none,none]) G _ from j8 rfl<| j8 rfl<| j8 rfl<| j8 rfl<| d8.mpr<| M7<| ER<| C9.mpr<| b8 rfl ⟨λz=>(nomatch z),λ_=>v4<| j5<| V0 rfl<| KN.mpr<| V0 rfl<| KN.mpr<| tM.mpr ⟨true,show some (decide ((l.length:Int)=l.length))=_ by rw[decide_eq_true rfl],_,rfl,λz=>(nomatch z),λ_=>o8.mpr ?_⟩⟩);refine d8.mpr<| P7.mpr<| Lx rfl<| (LN l none none λx hm=>KL (hx x hm) (by lia)).mono ?_;rintro _ _ ⟨rfl,u,v,rfl⟩;exact o6<| b8 rfl<| m7 ⟨rfl,rfl⟩
theorem uR(a:Option Int):PDx (n+1) (F1 a):=by
 rcases a with _|a
 ·exact .inl rfl
 ·exact .inr (.inr (.inl ⟨a,rfl⟩))
theorem uB(hl:l.length<=1000)(h:∀x∈l,PDx n x):PDx (n+1) (.tup l):=.inr (.inr (.inr (.inr ⟨_,rfl,hl,h⟩)))
theorem PX(h:s.ns.length<=1000)(h2:s.ts.length<=1000):PDx 4 (sP s):=by
 refine uB (show 5<=1000 by decide) λx hx=>?_;simp only[zu,ja,or_false]at hx;rcases hx with rfl|rfl|rfl|rfl|rfl
 · refine uB (by rw[IC];exact h) λx hx=>?_;obtain⟨r,_,rfl⟩:=zW.mp hx;refine uB (show 2<=1000 by decide) λx hx=>?_;simp only[zu,ja,or_false]at hx;rcases hx with rfl|rfl
   ·exact uR _
   ·exact uR _
 · refine uB (show 2<=1000 by decide) λx hx=>?_;simp only[zu,ja,or_false]at hx;rcases hx with rfl|rfl
   ·exact .inr (.inr (.inr (.inl ⟨_,rfl⟩)))
   ·refine uB (by rw[zf];exact h2) λx hx=>?_;obtain⟨z,_,rfl⟩:=zW.mp hx;exact .inr (.inr (.inr (.inl ⟨_,rfl⟩)))
 · unfold trD;refine uB (by cases s.f<;>cases s.t<;>decide) λx hx=>?_;have:x= .bl false\/x= .bl true:=by
    rcases zM.mp hx with k|k
    · split at k
      ·exact .inl (zm.mp k)
      ·cases k
    · split at k
      ·exact .inr (zm.mp k)
      ·cases k
   rcases this with rfl|rfl
   ·exact .inr (.inl ⟨_,rfl⟩)
   ·exact .inr (.inl ⟨_,rfl⟩)
 ·exact .inl rfl
 ·exact .inl rfl
theorem dU(h:s.ns.length<=1000)(h2:s.ts.length<=1000):KG [sP s,sP s] G=some (.ok (.bl true),G):=KL (PX h h2) (by decide)
end
abbrev abc:Str:= "abcdefghijklmnopqrstuvwxyz"
theorem GV:∀n<26,tl abc= (tl abc).take n++(97+n)::(tl abc).drop (n+1)/\((tl abc).take n).length=n:=by decide
theorem Gw(h0:0<=k)(h1:k<26)(q:∀c,97<=c->c<=122->Q (.str ⟨#[c]⟩) G):Wp (ixD (.str abc) (.int k)) G Q:=by obtain⟨n,rfl⟩:=Int.eq_ofNat_of_zero_le h0;obtain⟨e,l⟩:=GV n (by lia);have:=wI e (by decide) (q _ (by lia) (by lia));rw[l]at this;exact this
def Lt(z:Str):Prop:=∀c∈tl z,97<=c/\c<=122
theorem Lt.snoc(h:Lt z)(h0:97<=c)(h1:c<=122):Lt (z++⟨#[c]⟩):=λx hx=>by
 have e:tl (z++⟨#[c]⟩)=tl z++[c]:=Zq;rw[e]at hx;rcases zM.mp hx with k|k
 ·exact h x k
 ·rw[zm.mp k];exact⟨h0,h1⟩
theorem ag:UG=f9 (v7 (y0 j6 c0 E9) E1) (f9 woA (asQ (y0 j6 c0 B7) A2 (f9 woB woR))):=rfl
section
variable{r:Nat}{a b c:Option D}
theorem TN:∀items z u G,Dr G r->Lt z->z.length+items.length<=100->
 Wp (B2 oF woL (λ_=>true) items [sRf r,a,b,c,some (.str z),u]) G λfl G'=>Fd r G G'/\∃z' u',fl= .nx [sRf r,a,b,c,some (.str z'),u']/\TxL z'
 |[],z,u,G,h,hz,hl=>wA.mpr ⟨rfl,Fd.refl h,z,u,rfl,hz,by simp at hl;lia⟩
 |d::t,z,u,G,h,hz,hl=>by have bg:=big;simp only[zr]at hl;refine R8.mpr ⟨rfl,K7.mpr<| u6<| j5<| b8 rfl<| j5<| b8 rfl<| g8 rfl rfl<| R6 h (by decide) λk k0 k1 G1 f1=>Gw k0 k1 λq q0 q1=>(bK (by show z.length+1<=_;lia)).mpr ?_⟩;refine(TN t (z++⟨#[q]⟩) (some d) G1 f1.2.2 (hz.snoc q0 q1) (by rw[Str.length_append];show z.length+1+_<=_;lia)).mono ?_;rintro fl G2 ⟨f2,h2⟩;exact⟨f1.trans f2,h2⟩
theorem Dd(h:Dr G r):Wp (woA [sRf r,some (.int w),none,none,none,none]) G λfl G'=>Fd r G G'/\((∃z,fl= .rt (.str z)/\TxL z)\/fl= .nx [sRf r,some (.int w),none,none,none,none]):=by
 have hr:=h.lt;refine M7<| v4<| j5<| b8 rfl<| b8 rfl<| i6.mpr ⟨_,rfl,λ_=>?_,λ_=>o8.mpr ⟨Fd.refl h,.inr rfl⟩⟩;refine d8.mpr<| u6<| b8 rfl ?_;refine d8.mpr<| u6<| j5<| b8 rfl<| b8 (a:=.ref (G++[DO.lst (ZE D.str ["any", "nothing", "number", "text", "truth", "true", "false", "or", "but", "in", "only", "wish"])]).length) (G':=G++[.lst (ZE D.str ["any", "nothing", "number", "text", "truth", "true", "false", "or", "but", "in", "only", "wish"])]++[.lst (ZE D.str ["numbers", "texts", "anyone", "orb"])]) rfl ?_;refine(vH (t8 m5) m5 (by decide)).mpr ?_;generalize hL:ZE D.str ["any", "nothing", "number", "text", "truth", "true", "false", "or", "but", "in", "only", "wish"]=L;generalize hM:ZE D.str ["numbers", "texts", "anyone", "orb"]=M;refine o6<| j5<| b8 rfl<| g8 rfl rfl<| R6 h.app.app.app (by decide) λk k0 k1 G1 f1=>?_;have e1:=f1.at (by simp;lia) m5;have fd:=((Fd.app h).trans ((Fd.app h.app).trans (Fd.app h.app.app))).trans f1;obtain⟨d,hd,e⟩:=qJ (l:=L++M) k0 (by subst hL hM;simp;lia);refine(VA e1).mpr ⟨d,e,fd,.inl ?_⟩;have tx:∀z∈(["any", "nothing", "number", "text", "truth", "true", "false", "or", "but", "in", "only", "wish", "numbers", "texts", "anyone", "orb"]:List Str),(∀c∈tl z,97<=c/\c<=122)/\z.length<=1000:=by decide +kernel
 subst hL hM;rw[<-zY]at hd;obtain⟨z,hz,rfl⟩:=zW.mp hd;exact⟨z,rfl,tx z hz⟩
theorem ON(h:Dr G r):Wp (W2 [.ref r]) G λx G'=>∃z,x= .str z/\TxL z/\Fd r G G':=by
 refine o5 (show Wp (UG [sRf r,none,none,none,none,none]) G _ from ?_);rw[ag];refine d8.mpr<| u6<| g8 rfl rfl<| R6 h (by decide) λw w0 w1 G1 f1=>?_;refine d8.mpr<| (Dd f1.2.2).mono ?_;rintro fl G2 ⟨f2,k⟩;rcases k with⟨z,rfl,hz⟩|rfl
 ·exact m7 ⟨z,rfl,hz,f1.trans f2⟩
 have key:∀(m:Int) (G4:DH),0<=m->m<31->Fd r G G4->Wp (woR [sRf r,some (.int w),none,some (.int m),none,none]) G4 (PB λx G'=>∃z,x= .str z/\TxL z/\Fd r G G'):=by
  intro m G4 m0 m1 f4;refine d8.mpr<| u6<| b8 rfl<| d8.mpr<| P7.mpr<| WF.mpr<| b8 rfl<| (sF ⟨by lia,by lia⟩).mpr<| (TN (R7 0 m.toNat) "" none G4 f4.2.2 (λ_ z=>nomatch z) ?_).mono ?_
  ·unfold R7;rw[zf,jV,show (("" :Str).length)=0 from rfl];lia
  ·rintro fl G5 ⟨f5,z,u,rfl,hz⟩;exact o6<| b8 rfl<| m7 ⟨z,rfl,hz,f4.trans f5⟩
 refine d8.mpr<| u6<| g8 rfl rfl<| R6 f2.2.2 (by decide) λk k0 k1 G3 f3=>?_;refine d8.mpr<| M7<| v4<| j5<| b8 rfl<| b8 rfl<| i6.mpr ⟨_,rfl,λ_=>?_,λ_=>o8.mpr<| key k G3 k0 (by lia) ((f1.trans f2).trans f3)⟩;refine u6<| g8 rfl rfl<| R6 f3.2.2 (by decide) λm m0 m1 G4 f4=>key m G4 m0 m1 (((f1.trans f2).trans f3).trans f4)
end
section
variable{r c:Nat}{a b d e:Option D}{ρ:DSt}
end
def prL(z:Str):Int×Str:=((z.length:Int),z)
theorem LL:∀l us:List (Int×Str),(l.foldl ddQ us).length<=us.length+l.length
 |[],us=>zg _
 |q::l,us=>by
   have:=LL l (ddQ us q);have h:(ddQ us q).length<=us.length+1:=by
    unfold ddQ;split
    ·lia
    ·rw[zd];exact zg _
   rw[xq,zr];lia
theorem DV(ws:List Str):∃m:List Str,t5 ((ws.map prL).foldl ddQ []) (((ws.map prL).foldl ddQ []).map qD)=m.map (λz=>.tup [.int z.length,.str z])/\Ris m/\(∀z,z∈m↔z∈ws)/\m.length<=ws.length:=by
 have nd:=uK (ws.map prL) [] ZD;have mem:=MM (ws.map prL) [];have len:=LL (ws.map prL) [];generalize (ws.map prL).foldl ddQ []=us at nd mem len;have hu:∀q∈us,q=prL q.2:=λq hq=>by
  rcases (mem q).mp hq with k|k
  ·cases k
  ·obtain⟨z,_,rfl⟩:=zW.mp k;rfl
 have e0:us= (us.map (·.2)).map prL:=by
  rw[jv]
  conv=>lhs;rw[<-List.map_id us]
  exact ye λq hq=>hu q hq
 have nd0:(us.map (·.2)).Nodup:=by rw[e0]at nd;exact(jC.mp nd).imp λh z=>h (by rw[z])
 obtain⟨m,_,r,p⟩:=wP nd0;have hp:(m.map prL).Perm us:=by rw[e0];exact p.map _
 have pw:(m.map prL).Pairwise λx y=>V9 x y=true:=jC.mpr (r.imp λ{a b} h=>by rw[mG]at h;exact h);refine⟨m,?_,r,λz=>?_,?_⟩
 ·rw[<-IM nd hp pw,jv];rfl
 · rw[p.mem_iff,zW];constructor
   · rintro⟨q,hq,rfl⟩;rcases (mem q).mp hq with k|k
     ·cases k
     ·obtain⟨z,hz,rfl⟩:=zW.mp k;exact hz
   ·exact λhz=>⟨prL z,(mem _).mpr (.inr (zW.mpr ⟨z,hz,rfl⟩)),rfl⟩
 ·rw[p.length_eq,zf];rw[zf]at len;simpa using len
theorem Pz:pF=t7 (D0 V8 (O4 (itW (uG rkC)) [none,none] g01 (m4) g0)):=rfl
theorem MK{ws:List Str}(e:G[c]? =some (.lst (ws.map D.str)))(tx:∀z∈ws,TxL z)(hl:ws.length<=50)(q:∀m G',Ris m->(∀z,z∈m↔z∈ws)->m.length<=50->Ap G G'->Q (.tup (m.map D.str)) G'):Wp (Q8 [.ref c]) G Q:=by
 have bg:=big;refine o5 (show Wp (pF [sRf c]) G _ from ?_);rw[Pz];obtain⟨m,em,r,mm,lm⟩:=DV ws;have ea:rkC [sRf c] G=some (.ok (.ref G.length),G++[.lst (ws.map λz=>.tup [.int z.length,.str z])]):=by
  suffices w:Wp (rkC [sRf c]) G λx G'=>x= .ref G.length/\G'=G++[.lst (ws.map λz=>.tup [.int z.length,.str z])] by
   obtain⟨_,_,w,rfl,rfl⟩:=w;exact w
  refine wp_comp.mpr<| wp_itW.mpr<| b8 rfl<| (W7 e).mpr ⟨by rw[zf];lia,?_⟩;refine b8 (WE (w4 e) ws none λz hz=>E3<| M8.mpr<| j7<| V0 rfl<| (nC (zQ (tx z hz).2 (by lia))).mpr<| b8 rfl ⟨sz,rfl,rfl⟩) ⟨rfl,rfl⟩
 refine o6<| M5<| j7<| wp_comp.mpr<| wp_itW.mpr<| NV (qs:=ws.map prL) ea m5 (gH ws) (by rw[zf];lia) ?_;rw[em];refine(W7 m5).mpr ⟨by rw[zf];lia,b8 (wJ (mk:=λz:Str=>(.int z.length,.str z)) (w4 m5) m none none λz _=>rfl)<| o7.mpr<| (W5 m5).mpr<| m7<| q m _ r mm (by lia) ((Ap.one.trans Ap.one).trans Ap.one)⟩
def szM(L:List (List Nat)):Nat:=L.flatten.length
theorem EH:szM (a::L)=a.length+szM L:=by unfold szM;rw[List.flatten_cons,zd]
theorem RG(h:∀a∈L,a.length<=k):szM L<=k*L.length:=by
 induction L with
 |nil=>exact zD _
 |cons a r ih=>
   have:=ih λx hx=>h x (zi _ hx);have:=h a (zt ..);rw[EH,zr,Nat.mul_succ];lia
theorem qG:∀L:List (List Nat),(glL s L).length=szM L+s.length*L.length
 |[]=>rfl
 |a::r=>by show (s++a++glL s r).length=_;rw[zd,zd,qG r,EH,zr,Nat.mul_succ];lia
theorem Lj(L:List (List Nat)):(b9 s L).length<=szM L+s.length*L.length:=by
 rcases L with _|⟨a,r⟩
 ·exact zD _
 ·show (a++glL s r).length<=_;rw[zd,qG,EH,zr,Nat.mul_succ];lia
theorem uE:(qL z).length=z.length+2:=by unfold qL;rw[zr,zd];rfl
theorem cK(ts:List Str):glL [32] (ts.map qL)=bqL ts:=by
 induction ts with
 |nil=>rfl
 |cons z r ih=>
   show [32]++qL z++glL [32] (r.map qL)=_;rw[ih];unfold bqL;rw[List.flatMap_cons];rfl
theorem kQ: [32]++b9 [32] ((z::ts).map qL)=bqL (z::ts):=by rw[<-cK];show [32]++(qL z++glL [32] (ts.map qL))= [32]++qL z++glL [32] (ts.map qL);rw[zA]
theorem Mx(h:∀z∈ts,TxL z)(hl:ts.length<=51):(bqL ts).length<=52000:=by
 rw[<-cK,qG];have:=RG (L:=ts.map qL) (k:=1002) λa ha=>by obtain⟨z,hz,rfl⟩:=zW.mp ha;rw[uE];have:=(h z hz).2;lia
 rw[zf]at this ⊢;show _+1*_<=_;lia
section
variable{G:DH}{Q:DPP}
theorem mE(h:a.length+b.length<=1000000)(q:Q (.str (ofL (a++b))) G):Wp (addD (.str (ofL a)) (.str (ofL b))) G Q:=by have bg:=big;refine(bK (zQ (show (ofL a).length+(ofL b).length<=1000000 from h) (by lia))).mpr ?_;rw[oO];exact q
theorem DM(e:G[r]? =some (.lst (F3 f l)))(h:szM (l.map f)+l.length*s.length<=1000000)(q:Q (.str (ofL (b9 (tl s) (l.map f)))) G):Wp (GA (.str s) [.ref r]) G Q:=by
 refine(rS e (kM f l) ?_).mpr ?_
 · have:((l.map λd=>ofL (f d)).map (·.length)).sum=szM (l.map f):=by
    unfold szM;rw[List.length_flatten,jv,jv];rfl
   rw[this,zf];lia
 ·rw[show Xu s (l.map λd=>ofL (f d))=ofL (b9 (tl s) (l.map f))from TF (by rw[qX,jv];rfl)];exact q
theorem tP(h:TxL z)(ea:a σ G=some (.ok (.str z),G))(q:Q (.str (ofL (qL z))) G):Wp (binE addD (binE addD (cE (.str ("\"" :Str))) a) (cE (.str ("\"" :Str))) σ) G Q:=by have hz:=h.2;refine j5<| j5<| b8 rfl<| b8 ea<| mE (by show 1+z.length<=_;lia)<| b8 rfl<| mE (by rw[zd];show 1+z.length+1<=_;lia) ?_;exact q
end
def wN:Wd->Int->Prop
 | .num r,x=>inR r x
 | .dup a,x=>inR (some a,some a) x
 |_,_=>False
def wB:Wd->Bool
 | .all=>false
 | .but _=>false
 |_=>true
def wT:Wd->Str->Prop
 | .txt y,z=>z=y
 | .all,_=>True
 | .but ts,z=>z∉ts
 |_,_=>False
def wF:Wd->Bool
 | .tru b=> !b
 | .both=>true
 |_=>false
def wR:Wd->Bool
 | .tru b=>b
 | .both=>true
 |_=>false
structure dI(ws:List Wd)(s:PS):Prop where
 ns:∀x,inS s.ns x↔∃w∈ws,wN w x
 b:s.b=ws.all wB
 ts:∀z,inT s.b s.ts z↔∃w∈ws,wT w z
 f:s.f=ws.any wF
 t:s.t=ws.any wR
theorem i7{P:α->Prop}:(∃s∈([]:List α),P s)↔False:=⟨fun⟨_,h,_⟩=>(nomatch h),yc⟩
theorem lZ{L M:List α}{P:α->Prop}:(∃s∈L++M,P s)↔(∃s∈L,P s)\/∃s∈M,P s:=by
 constructor
 ·rintro⟨s,hs,h⟩;exact(zM.mp hs).elim (λk=>.inl ⟨s,k,h⟩) λk=>.inr ⟨s,k,h⟩
 · rintro(⟨s,hs,h⟩|⟨s,hs,h⟩)
   ·exact⟨s,ym _ hs,h⟩
   ·exact⟨s,zO _ hs,h⟩
theorem qR:inS [r] x↔inR r x:=by rw[J3];exact⟨λh=>h.elim id λz=>absurd z g9,.inl⟩
theorem nS:inT true [y] z↔z=y:=zm
theorem HF:¬inT true [] z:=λh=>nomatch (show z∈ []from h)
theorem QY:inT false [] z:=λh:z∈ []=>nomatch h
theorem Vc(h:wdS w s):(∀x,inS s.ns x↔wN w x)/\s.b=wB w/\(∀z,inT s.b s.ts z↔wT w z)/\s.f=wF w/\s.t=wR w:=by
 have n0:∀x,inS [] x↔False:=λx=>⟨g9,yc⟩;rcases w with r|a|z|_|ts|b|_
 ·cases h;exact⟨λx=>qR,rfl,λz=>⟨HF,yc⟩,rfl,rfl⟩
 ·cases h;exact⟨λx=>qR,rfl,λz=>⟨HF,yc⟩,rfl,rfl⟩
 ·cases h;exact⟨n0,rfl,λy=>nS,rfl,rfl⟩
 ·cases h;exact⟨n0,rfl,λy=>⟨λ_=>trivial,λ_=>QY⟩,rfl,rfl⟩
 ·obtain⟨m,r,mm,lm,rfl⟩:=h;exact⟨n0,rfl,λy=>not_congr (mm y),rfl,rfl⟩
 ·cases h;exact⟨n0,rfl,λz=>⟨HF,yc⟩,rfl,rfl⟩
 ·cases h;exact⟨n0,rfl,λz=>⟨HF,yc⟩,rfl,rfl⟩
theorem F6.says(h:F6 ws L):(∀x,(∃s∈L,inS s.ns x)↔∃w∈ws,wN w x)/\L.all (·.b)=ws.all wB/\(∀z,(∃s∈L,inT s.b s.ts z)↔∃w∈ws,wT w z)/\L.any (·.f)=ws.any wF/\L.any (·.t)=ws.any wR:=by
 induction h with
 |nil=>exact⟨λx=>by rw[i7,i7],rfl,λx=>by rw[i7,i7],rfl,rfl⟩
 |@cons w s ws L hw k ih=>
   obtain⟨i1,i2,i3,i4,i5⟩:=ih;obtain⟨h1,h2,h3,h4,h5⟩:=Vc hw;refine⟨λx=>by rw[O9,O9,h1,i1],?_,λz=>by rw[O9,O9,h3,i3],?_,?_⟩
   ·rw[jL,jL,h2,i2]
   ·rw[jj,jj,h4,i4]
   ·rw[jj,jj,h5,i5]
theorem dI.is(h:dI ws s)(ok:OkP s)(k:F6 ws L)(a:c5 L m):m=s:=by obtain⟨i1,i2,i3,i4,i5⟩:=k.says;exact a.uniq ⟨ok,λx=>by rw[h.ns,i1],by rw[h.b,i2],λz=>by rw[h.ts,i3],by rw[h.f,i4],by rw[h.t,i5]⟩
section
variable{G:DH}{Q:DPP}
theorem Bd(md:ws≠ [])(okW:∀w∈ws,E4 w)(hs:dI ws s)(ok:OkP s)(hl:ws.length<64)(hz:szM (ws.map wdL)<=500000)(ht:(ws.map wdT).sum<50)(q:∀G',Q (sP s) G'):Wp (RC [.str (ofL (b9 cOr (ws.map wdL)))]) G Q:=by
 have bg:=big;refine mS ?_ md okW rfl hl ht λL m G' tl am=>?_
 ·have:=Lj (s:=cOr) (ws.map wdL);rw[zf]at this;show (b9 cOr (ws.map wdL)).length<=_;have e:cOr.length=4:=rfl;rw[e]at this;lia
 ·rw[hs.is ok tl am];exact q G'
end
structure Tl where
 prs:List (Int×Int)
 of:List Str
 bs:List Nat
 but:List (List Str)
 tr:List Str
 fl:List Str
 th:List Str
def cTl(T:Tl):Nat->List D
 |0=>T.prs.map pD
 |1=>T.of.map D.str
 |2=>T.bs.map D.ref
 |3=>T.tr.map D.str
 |4=>T.fl.map D.str
 |_=>T.th.map D.str
def dT(A:Nat->Nat):List (Key×D):= [(.inr "pairs",.ref (A 0)),(.inr "of",.ref (A 1)),(.inr "but",.ref (A 2)),(.inr "true",.ref (A 3)),(.inr "false",.ref (A 4)),(.inr "truth",.ref (A 5))]
def kT:Nat->Str
 |0=> "pairs"
 |1=> "of"
 |2=> "but"
 |3=> "true"
 |4=> "false"
 |_=> "truth"
theorem qI{A:Nat->Nat}{i:Nat}(h:i<6):L3 (dT A) (.inr (kT i))=some (.ref (A i)):=by
 have:i=0\/i=1\/i=2\/i=3\/i=4\/i=5:=by lia
 rcases this with rfl|rfl|rfl|rfl|rfl|rfl<;>rfl
inductive Bs(G:DH):List Nat->List (List Str)->Prop
 |nil:Bs G [] []
 |cons {q:Nat} {ts:List Str} {qs:List Nat} {L:List (List Str)} (h:G[q]? =some (.lst (ts.map D.str))) (k:Bs G qs L):Bs G (q::qs) (ts::L)
theorem Bs.mono{G G':DH}{qs:List Nat}{L:List (List Str)}(h:Bs G qs L)(k:∀q∈qs,∀o,G[q]? =some o->G'[q]? =some o):Bs G' qs L:=by
 induction h with
 |nil=>exact .nil
 |cons h _ ih=>exact .cons (k _ (zt ..) _ h) (ih λq hq=>k q (zi _ hq))
theorem Bs.snoc{G:DH}{qs:List Nat}{L:List (List Str)}{q:Nat}{ts:List Str}(h:Bs G qs L)(e:G[q]? =some (.lst (ts.map D.str))):Bs G (qs++[q]) (L++[ts]):=by
 induction h with
 |nil=>exact .cons e .nil
 |cons h _ ih=>exact .cons h ih
structure AtT(G:DH)(r t:Nat)(A:Nat->Nat)(T:Tl):Prop where
 dr:Dr G r
 d:G[t]? =some (.dct (dT A))
 l:∀i,i<6->G[A i]? =some (.lst (cTl T i))
 b:Bs G T.bs T.but
 inj:∀i,i<6->∀j,j<6->A i=A j->i=j
 nr:∀i,i<6->A i≠r/\A i≠t
 tr:t≠r
 nb:∀q∈T.bs,q≠r/\∀i,i<7->q≠A i
 c6:A 6<G.length
 pr:∀p∈T.prs,Z8 p
 ot:∀z∈T.of,TxL z
 bt:∀ts∈T.but,(∀z∈ts,TxL z)/\ts.length<=4
def Fm(r:Nat)(A:Nat->Nat)(G G':DH):Prop:=G.length<=G'.length/\∀i,i≠r->(∀j,j<6->i≠A j)->i<G.length->G'[i]? =G[i]?
section
variable{G G':DH}{r t:Nat}{A:Nat->Nat}{T:Tl}
theorem Fm.trans{G1:DH}(h:Fm r A G G1)(k:Fm r A G1 G'):Fm r A G G':=⟨zQ h.1 k.1,λi a b c=>by rw[k.2 i a b (zV c h.1),h.2 i a b c]⟩
theorem Fm.fd(f:Fd r G G'):Fm r A G G':=⟨f.1,λi a _ c=>f.2.1 i a c⟩
theorem AtT.fd(h:AtT G r t A T)(f:Fd r G G'):AtT G' r t A T:=
 ⟨f.2.2,f.at h.tr h.d,λi hi=>f.at (h.nr i hi).1 (h.l i hi),h.b.mono λq hq o e=>f.at (h.nb q hq).1 e,h.inj,h.nr,h.tr,h.nb,zV h.c6 f.1,h.pr,h.ot,h.bt⟩
theorem AtT.put{i:Nat}{d:D}{T':Tl}(h:AtT G r t A T)(hi:i<6)(hc:cTl T' i=cTl T i++[d])(ho:∀j,j<6->j≠i->cTl T' j=cTl T j)(hb:Bs G T'.bs T'.but)(nb:∀q∈T'.bs,q≠r/\∀i,i<7->q≠A i)
 (pr:∀p∈T'.prs,Z8 p) (ot:∀z∈T'.of,TxL z) (bt:∀ts∈T'.but,(∀z∈ts,TxL z)/\ts.length<=4):AtT (G.set (A i) (.lst (cTl T i++[d]))) r t A T'/\Fm r A G (G.set (A i) (.lst (cTl T i++[d]))):=by
 have e:=h.l i hi;refine⟨⟨h.dr.set (h.nr i hi).1,by rw[jd (h.nr i hi).2];exact h.d,λj hj=>?_,hb.mono λq hq o eq=>by rw[jd λz=>(nb q hq).2 i (jR hi) z.symm];exact eq,h.inj,h.nr,h.tr,nb,by rw[xp];exact h.c6,pr,ot,bt⟩,by rw[xp];exact zg _,λk _ k2 _=>jd λz=>k2 i hi z.symm⟩;by_cases c:j=i
 ·subst c;rw[jk (lt_of_get e),hc]
 ·rw[jd λz=>c (h.inj j hj i hi z.symm),ho j hj c];exact h.l j hj
theorem sA{i:Nat}{d:D}{ke fe:Fe}{σ:DSt}{P:Fl->DH->Prop}(h:AtT G r t A T)(hi:i<6)(hl:(cTl T i).length<=1000)(e1:σ[1]? =some (some (.ref t)))(e2:ke σ G=some (.ok (.str (kT i)),G))(e3:Wp (fe σ) G λx G1=>x=d/\G1=G')
 (h':AtT G' r t A T) (w:P (.nx σ) (G'.set (A i) (.lst (cTl T i++[d])))):Wp (T4 (mtE v9 J1 (binE ixG g0 ke) (S0 fe)) σ) G P:=by
 have bg:=big;refine E7.mpr<| y4.mpr<| j5<| N6.mpr ⟨_,e1,b8 e2<| (VI h.d (qI hi)).mpr<| (M9 (h.l i hi)).mpr<| j7<| e3.mono ?_⟩;rintro _ _ ⟨rfl,rfl⟩;exact o7.mpr<| (Q3 (h'.l i hi) (by lia)).mpr w
end
inductive a8:Wd->Tl->Tl->Prop
 |num {T:Tl} (p:Int×Int):a8 (.num (rg p)) T {T with prs:=T.prs++[p]}
 |dup {T:Tl} (a:Int) (h:S1 a):a8 (.dup a) T {T with prs:=T.prs++[(a,a)]}
 |txt {T:Tl} (z:Str):a8 (.txt z) T {T with of:=T.of++[z]}
 |all {T:Tl} (q:Nat):a8 .all T {T with bs:=T.bs++[q],but:=T.but++[[]]}
 |but {T:Tl} (q:Nat) (ts:List Str):a8 (.but ts) T {T with bs:=T.bs++[q],but:=T.but++[ts]}
 |tt {T:Tl} (z:Str):a8 (.tru true) T {T with tr:=T.tr++[z]}
 |ff {T:Tl} (z:Str):a8 (.tru false) T {T with fl:=T.fl++[z]}
 |bb {T:Tl} (z:Str):a8 .both T {T with th:=T.th++[z]}
structure C5(ws:List Wd)(T:Tl):Prop where
 n:∀x,(∃w∈ws,wN w x)↔∃p∈T.prs,inR (rg p) x
 t:∀z,(∃w∈ws,wT w z)↔z∈T.of\/∃ts∈T.but,z∉ts
 b:ws.all wB=T.but.isEmpty
 f:ws.any wF= (!T.fl.isEmpty||!T.th.isEmpty)
 r:ws.any wR= (!T.tr.isEmpty||!T.th.isEmpty)
 ok:∀w∈ws,E4 w
 ln:∀i,(cTl T i).length<=ws.length
 lb:T.but.length<=ws.length
theorem K3{α:Type}{a:α}{L:List α}{P:α->Prop}:(∃s∈L++[a],P s)↔(∃s∈L,P s)\/P a:=by rw[lZ,O9,i7,or_false]
theorem KB{α:Type}{a:α}{L:List α}:(L++[a]).isEmpty=false:=by cases L<;>rfl
theorem C5.nil:C5 [] ⟨[], [], [], [], [], [], []⟩:=by
 refine⟨λx=>by rw[i7,i7],λz=>?_,rfl,rfl,rfl,λ_ h=>(nomatch h),λi=>?_,zg _⟩
 ·rw[i7,i7];exact⟨yc,λh=>h.elim (λk=>nomatch k) id⟩
 ·unfold cTl;split<;>exact zg _
theorem C5.add{ws:List Wd}{w:Wd}{T T':Tl}(h:C5 ws T)(k:a8 w T T')(ok:E4 w):C5 (ws++[w]) T':=by
 have okW:∀v∈ws++[w],E4 v:=λv hv=>(zM.mp hv).elim (h.ok v) λz=>by rw[zm.mp z];exact ok
 have lb:=h.lb;have ln:∀ {T'':Tl} {i:Nat},(∀j,(cTl T'' j).length<=(cTl T j).length+1)->∀j,(cTl T'' j).length<=(ws++[w]).length:=λ{T'' i} e j=>by have:=h.ln j;have:=e j;rw[zd,jE];lia
 have all1:(ws++[w]).all wB= (ws.all wB&&wB w):=by rw[List.all_append,jL,List.all_nil,yX]
 have B5:(ws++[w]).any wF= (ws.any wF||wF w):=by rw[Ja,jj,List.any_nil,jw]
 have anyR:(ws++[w]).any wR= (ws.any wR||wR w):=by rw[Ja,jj,List.any_nil,jw]
 have lw:(ws++[w]).length=ws.length+1:=zd;rcases k with p|⟨a,ha⟩|z|q|⟨q,ts⟩|z|z|z
 · refine⟨λx=>?_,λy=>?_,?_,?_,?_,okW,ln (i:=0) λj=>?_,by rw[lw];exact yf lb⟩
   ·rw[K3,K3,h.n];exact Iff.rfl
   ·rw[K3,h.t];exact or_iff_left id
   ·rw[all1,h.b];exact yX _
   ·rw[B5,h.f];exact jw _
   ·rw[anyR,h.r];exact jw _
   ·unfold cTl;split<;>simp
 · refine⟨λx=>?_,λy=>?_,?_,?_,?_,okW,ln (i:=0) λj=>?_,by rw[lw];exact yf lb⟩
   ·rw[K3,K3,h.n,show rg (a,a)= (some a,some a) by unfold rg;rw[X5 ha]];exact Iff.rfl
   ·rw[K3,h.t];exact or_iff_left id
   ·rw[all1,h.b];exact yX _
   ·rw[B5,h.f];exact jw _
   ·rw[anyR,h.r];exact jw _
   ·unfold cTl;split<;>simp
 · refine⟨λx=>?_,λy=>?_,?_,?_,?_,okW,ln (i:=0) λj=>?_,by rw[lw];exact yf lb⟩
   ·rw[K3,h.n];exact or_iff_left id
   ·rw[K3,h.t,zM,zm];exact⟨λk=>k.elim (λk=>k.elim (λk=>.inl (.inl k)) .inr) λk=>.inl (.inr k),λk=>k.elim (λk=>k.elim (λk=>.inl (.inl k)) .inr) λk=>.inl (.inr k)⟩
   ·rw[all1,h.b];exact yX _
   ·rw[B5,h.f];exact jw _
   ·rw[anyR,h.r];exact jw _
   ·unfold cTl;split<;>simp
 · refine⟨λx=>?_,λy=>?_,?_,?_,?_,okW,ln (i:=0) λj=>?_,by rw[lw,zd];exact Zk lb⟩
   ·rw[K3,h.n];exact or_iff_left id
   ·rw[K3,K3,h.t];exact⟨λ_=>.inr (.inr λz=>nomatch z),λ_=>.inr trivial⟩
   ·rw[all1,KB];exact Jt _
   ·rw[B5,h.f];exact jw _
   ·rw[anyR,h.r];exact jw _
   ·unfold cTl;split<;>simp
 · refine⟨λx=>?_,λy=>?_,?_,?_,?_,okW,ln (i:=0) λj=>?_,by rw[lw,zd];exact Zk lb⟩
   ·rw[K3,h.n];exact or_iff_left id
   ·rw[K3,K3,h.t,or_assoc];exact Iff.rfl
   ·rw[all1,KB];exact Jt _
   ·rw[B5,h.f];exact jw _
   ·rw[anyR,h.r];exact jw _
   ·unfold cTl;split<;>simp
 · refine⟨λx=>?_,λy=>?_,?_,?_,?_,okW,ln (i:=0) λj=>?_,by rw[lw];exact yf lb⟩
   ·rw[K3,h.n];exact or_iff_left id
   ·rw[K3,h.t];exact or_iff_left id
   ·rw[all1,h.b];exact yX _
   ·rw[B5,h.f];exact jw _
   ·rw[anyR,KB];exact Yo _
   ·unfold cTl;split<;>simp
 · refine⟨λx=>?_,λy=>?_,?_,?_,?_,okW,ln (i:=0) λj=>?_,by rw[lw];exact yf lb⟩
   ·rw[K3,h.n];exact or_iff_left id
   ·rw[K3,h.t];exact or_iff_left id
   ·rw[all1,h.b];exact yX _
   ·rw[B5,KB];exact Yo _
   ·rw[anyR,h.r];exact jw _
   ·unfold cTl;split<;>simp
 · refine⟨λx=>?_,λy=>?_,?_,?_,?_,okW,ln (i:=0) λj=>?_,by rw[lw];exact yf lb⟩
   ·rw[K3,h.n];exact or_iff_left id
   ·rw[K3,h.t];exact or_iff_left id
   ·rw[all1,h.b];exact yX _
   ·rw[B5,KB,Bool.or_comm];show true= (!T.fl.isEmpty||true);rw[Yo]
   ·rw[anyR,KB,Bool.or_comm];show true= (!T.tr.isEmpty||true);rw[Yo]
   ·unfold cTl;split<;>simp
theorem C5.dup{ws:List Wd}{w:Wd}{T:Tl}(h:C5 ws T)(hw:w∈ws):C5 (ws++[w]) T:=by
 have ex:∀ {P:Wd->Prop},(∃v∈ws++[w],P v)↔∃v∈ws,P v:=λ{P}=>by rw[K3];exact⟨λk=>k.elim id λk=>⟨w,hw,k⟩,.inl⟩
 have al:(ws++[w]).all wB=ws.all wB:=by
  rw[List.all_append,jL,List.all_nil,yX]
  cases e:ws.all wB
  ·rfl
  ·rw[xI.mp e w hw];rfl
 have an:∀ {p:Wd->Bool},(ws++[w]).any p=ws.any p:=λ{p}=>by
  rw[Ja,jj,List.any_nil,jw]
  cases e:p w
  ·exact jw _
  ·rw[Ze.mpr ⟨w,hw,e⟩];rfl
 have lw:(ws++[w]).length=ws.length+1:=zd;exact⟨λx=>by rw[ex,h.n],λz=>by rw[ex,h.t],by rw[al,h.b],by rw[an,h.f],by rw[an,h.r],λv hv=>(zM.mp hv).elim (h.ok v) λz=>by rw[zm.mp z];exact h.ok w hw,λi=>by rw[lw];exact yf (h.ln i),by rw[lw];exact yf h.lb⟩
theorem Tp:P0=f9 (v7 (y0 j6 c0 E9) N0) (asQ (M0 Q9 c0) A2 (asQ C0 F2 (f9 tn5 (f9 tn1 (f9 tn2 (f9 tn3 (f9 tn4 (f9 tnA tnR)))))))):=rfl
section
variable{G G':DH}{r t:Nat}{A:Nat->Nat}{T:Tl}{w low high:Int}
abbrev tnS(r t:Nat)(w low high:Int):DSt:= [sRf r,sRf t,some (.int w),some (.int low),some (.int high)]
def Tld(r t:Nat)(A:Nat->Nat)(T:Tl)(G:DH)(x:D)(G':DH):Prop:=∃w T',x= .str (ofL (wdL w))/\E4 w/\a8 w T T'/\AtT G' r t A T'/\Fm r A G G'
theorem mF{σ:DSt}{R:DPP}(k:R (.int e30) G):Wp (binE y3 C6 (cIn 30) σ) G R:=j5<| b8 (a:=.int 10) (G':=G) rfl<| b8 (a:=.int 30) (G':=G) rfl<| p30.mpr k
theorem AtT.pair{p:Int×Int}(h:AtT G r t A T)(ok:Z8 p):AtT (G.set (A 0) (.lst (cTl T 0++[pD p]))) r t A {T with prs:=T.prs++[p]}/\Fm r A G (G.set (A 0) (.lst (cTl T 0++[pD p]))):=
 h.put (i:=0) (T':={T with prs:=T.prs++[p]}) (by decide) (zY ..) (λj hj hn=>by unfold cTl;split<;>first|rfl|exact absurd rfl hn) h.b h.nb (λq hq=>(zM.mp hq).elim (h.pr q) λz=>by rw[zm.mp z];exact ok) h.ot h.bt
theorem cn(hw:0<=w/\w<5)(ok:Z8 (low,high))(h:AtT G' r t A {T with prs:=T.prs++[(low,high)]})(f:Fm r A G G'):Wp (tnR (tnS r t w low high)) G' (PB (Tld r t A T G)):=by
 obtain⟨b,eb⟩:∃b,l5 (binE inD i0 (F0 l0 B3)) (tnS r t w low high) G'=some (.ok b,G'):=by
  have:w=0\/w=1\/w=2\/w=3\/w=4:=by lia
  rcases this with rfl|rfl|rfl|rfl|rfl<;>exact⟨_,rfl⟩
 have fin:Wp (t7 (y0 K6 (M0 Q5 C0) (M0 Q5 K0)) (tnS r t w low high)) G' (PB (Tld r t A T G)):=
  o6<| M5<| j7<| g8 (as:= [.int low]) rfl rfl<| GG<| j7<| g8 (as:= [.int high]) rfl rfl<| GG<| o7.mpr<| O2.mpr ⟨rfl,nU (r:=rg (low,high)) ok.sm<| m7 ⟨.num (rg (low,high)),_,rfl,⟨ok.sm,ok.ok⟩,.num _,h,f⟩⟩
 refine d8.mpr<| M7<| t4<| b8 eb ⟨λ_=>v4<| j5<| b8 (a:=.int low) (G':=G') rfl<| b8 (a:=.int high) (G':=G') rfl<| i6.mpr ⟨_,rfl,λk=>?_,λ_=>o8.mpr fin⟩,λ_=>⟨λz=>(nomatch z),λ_=>o8.mpr fin⟩⟩;have k:=of_decide_eq_true k;subst k;have s:S1 low:=by
  have h1:=ok.lo;have h2:=ok.hi;rcases h1 with h1|h1
  ·exact h1
  · rcases h2 with h2|h2
    ·exact h2
    ·exact absurd (show low= -e30 from h1) (by rw[show low=e30 from h2];decide)
 have sm:=kI s;have l:=F4 sm;refine o6<| j5<| j5<| V0 (as:= [.int low]) rfl<| RA sm<| b8 (a:=.str (ofL [46,46])) (G':=G') rfl<| mE (by show _+2<=_;lia)<| V0 (as:= [.int low]) rfl<| RA sm<| mE (by rw[zd];show _+2+_<=_;lia)<| m7 ⟨.dup low,_,rfl,sm,.dup low s,h,f⟩
theorem gE(hw:0<=w/\w<5)(ok:Z8 (low,high))(h:AtT G' r t A T)(f:Fm r A G G')(hl:(cTl T 0).length<=1000):Wp (f9 tnA tnR (tnS r t w low high)) G' (PB (Tld r t A T G)):=by
 obtain⟨h2,f2⟩:=h.pair ok;refine d8.mpr<| sA (i:=0) (d:=pD (low,high)) (G':=G') h (by decide) hl rfl rfl ?_ h ?_
 ·exact M8.mpr<| b8 (a:= [.int low,.int high]) (G':=G') rfl ⟨sz,rfl,rfl⟩
 ·exact cn hw ok h2 (f.trans f2)
theorem ao(h:AtT G r t A T)(hl:(cTl T 0).length<=1000):Wp (Q0 [.ref r,.ref t]) G (Tld r t A T G):=by
 refine o5 (show Wp (P0 [sRf r,sRf t,none,none,none]) G _ from ?_);rw[Tp];refine d8.mpr<| u6<| g8 (as:= [.ref r,.int 6]) rfl rfl<| R6 h.dr (by decide) λw w0 w1 G1 f1=>?_;refine d8.mpr<| u6<| g8 (as:= [.ref r]) rfl rfl<| (KO f1.2.2).mono ?_;rintro _ G2 ⟨low,rfl,hs,f2⟩;have h2:=(h.fd f1).fd f2;have f02:Fm r A G G2:=(Fm.fd f1).trans (Fm.fd f2);refine j8 (X1:=tnS r t w low low) (G':=G2) rfl ?_;have hs':=hs;unfold S1 at hs';have:w=0\/w=1\/w=2\/w=3\/w=4\/w=5:=by lia
 rcases this with rfl|rfl|rfl|rfl|rfl|rfl
 ·exact j8 (G':=G2) rfl<| j8 (G':=G2) rfl<| j8 (G':=G2) rfl<| j8 (G':=G2) rfl<| j8 (G':=G2) rfl<| gE (w:=0) (low:=low) (high:=low) ⟨by decide,by decide⟩ ⟨xW _,.inl hs,.inl hs⟩ h2 f02 hl
 · refine j8 (G':=G2) rfl<| d8.mpr<| bD (G1:=G2) rfl<| u6<| M5<| j7<| j5<| b8 (a:=.int low) (G':=G2) rfl<| g8 (as:= [.ref r,.int 3]) rfl rfl<| R6 h2.dr (by decide) λk k0 k1 G3 f3=>n9.mpr<| j7<| j5<| b8 (a:=.int 10) (G':=G3) rfl<| b8 (a:=.int 20) (G':=G3) rfl<| p20.mpr<| o7.mpr<| gR.mpr ?_;refine j8 (G':=G3) rfl<| j8 (G':=G3) rfl<| j8 (G':=G3) rfl<| gE (w:=1) (low:=low) (high:=if e20<low+k then e20 else low+k) ⟨by decide,by decide⟩ ⟨?_,.inl hs,.inl ?_⟩ (h2.fd f3) (f02.trans (Fm.fd f3)) hl
   ·show low<=if e20<low+k then e20 else low+k;split<;>lia
   ·show S1 (if e20<low+k then e20 else low+k);unfold S1;split<;>lia
 · refine j8 (G':=G2) rfl<| j8 (G':=G2) rfl<| d8.mpr<| bD (G1:=G2) rfl<| u6<| M5<| j7<| b8 (a:=.int low) (G':=G2) rfl<| j7<| g8 (as:= [.ref r]) rfl rfl<| (KO h2.dr).mono ?_;rintro _ G3 ⟨i,rfl,hi,f3⟩;refine o7.mpr<| b8 (a:=.int (if i>low then i else low)) (G':=G3) rfl ?_;refine j8 (G':=G3) rfl<| j8 (G':=G3) rfl<| gE (w:=2) (low:=low) (high:=if i>low then i else low) ⟨by decide,by decide⟩ ⟨?_,.inl hs,.inl ?_⟩ (h2.fd f3) (f02.trans (Fm.fd f3)) hl
   ·show low<=if i>low then i else low;split<;>lia
   · show S1 (if i>low then i else low);split
     ·exact hi
     ·exact hs
 ·refine j8 (G':=G2) rfl<| j8 (G':=G2) rfl<| j8 (G':=G2) rfl<| d8.mpr<| bD (G1:=G2) rfl<| u6<| mJ.mpr<| mF<| BJ.mpr ?_;exact j8 (G':=G2) rfl<| gE (w:=3) (low:= -e30) (high:=low) ⟨by decide,by decide⟩ ⟨by show -e30<=low;lia,.inr rfl,.inl hs⟩ h2 f02 hl
 ·refine j8 (G':=G2) rfl<| j8 (G':=G2) rfl<| j8 (G':=G2) rfl<| j8 (G':=G2) rfl<| d8.mpr<| bD (G1:=G2) rfl<| u6<| mF ?_;exact gE (w:=4) (low:=low) (high:=e30) ⟨by decide,by decide⟩ ⟨by show low<=e30;lia,.inl hs,.inr rfl⟩ h2 f02 hl
 · have ok:Z8 (-e30,e30):=⟨by decide,.inr rfl,.inr rfl⟩;obtain⟨h3,f3⟩:=h2.pair ok;refine d8.mpr<| bD (G1:=G2) rfl<| d8.mpr<| sA (i:=0) (d:=pD (-e30,e30)) (G':=G2) h2 (by decide) hl rfl rfl ?_ h2 ?_
   ·exact M8.mpr<| j7<| mJ.mpr<| mF<| BJ.mpr<| j7<| mF<| o7.mpr ⟨sz,rfl,rfl⟩
   ·exact o6<| b8 (a:=.str (ofL AE)) rfl<| m7 ⟨.num (rg (-e30,e30)),_,rfl,⟨ok.sm,ok.ok⟩,.num _,h3,f02.trans f3⟩
end
theorem Sj:U7=f9 (v7 (y0 j6 c0 E9) N0) (f9 ttA (f9 ttB (f9 ttC (f9 ttD ttE)))):=rfl
section
variable{G G':DH}{r t:Nat}{A:Nat->Nat}{T:Tl}
theorem BO:∀(items:List D) (u:Option D) (G:DH),Dr G r->
 Wp (J6 u3 m4 (M0 W2 g0) (λ_=>true) items [u,sRf r]) G λys G'=>∃ts:List Str,ys=ts.map D.str/\(∀z∈ts,TxL z)/\ts.length=items.length/\Fd r G G'
 |[],u,G,h=>VB.mpr ⟨rfl, [],rfl,λ_ z=>(nomatch z),rfl,Fd.refl h⟩
 |d::l,u,G,h=>by refine UD.mpr ⟨rfl,b8 (a:= [some d,sRf r]) (G':=G) rfl<| b8 (a:=true) (G':=G) rfl ?_⟩;rw[if_pos rfl];refine g8 (as:= [.ref r]) rfl rfl<| (ON h).mono ?_;rintro _ G1 ⟨z,rfl,hz,f1⟩;refine(BO l _ G1 f1.2.2).mono ?_;rintro _ G2 ⟨ts,rfl,ht,hl,f2⟩;exact⟨z::ts,rfl,λy hm=>(zu.mp hm).elim (λe=>e▸hz) (ht y),by simp[hl],f1.trans f2⟩
theorem AtT.one{z:Str}(h:AtT G r t A T)(hz:TxL z):AtT (G.set (A 1) (.lst (cTl T 1++[.str z]))) r t A {T with of:=T.of++[z]}/\Fm r A G (G.set (A 1) (.lst (cTl T 1++[.str z]))):=
 h.put (i:=1) (T':={T with of:=T.of++[z]}) (by decide) (zY ..) (λj hj hn=>by unfold cTl;split<;>first|rfl|exact absurd rfl hn) h.b h.nb h.pr (λy hy=>(zM.mp hy).elim (h.ot y) λe=>by rw[zm.mp e];exact hz) h.bt
theorem AtT.buts{q:Nat}{ts:List Str}(h:AtT G r t A T)(e:G[q]? =some (.lst (ts.map D.str)))(n:q≠r/\∀i,i<7->q≠A i)(hz:(∀z∈ts,TxL z)/\ts.length<=4):AtT (G.set (A 2) (.lst (cTl T 2++[.ref q]))) r t A {T with bs:=T.bs++[q],but:=T.but++[ts]}/\Fm r A G (G.set (A 2) (.lst (cTl T 2++[.ref q]))):=
 h.put (i:=2) (T':={T with bs:=T.bs++[q],but:=T.but++[ts]}) (by decide) (zY ..) (λj hj hn=>by unfold cTl;split<;>first|rfl|exact absurd rfl hn) (h.b.snoc e)
  (λy hy=>(zM.mp hy).elim (h.nb y) λz=>by rw[zm.mp z];exact n) h.pr h.ot (λy hy=>(zM.mp hy).elim (h.bt y) λz=>by rw[zm.mp z];exact hz)
theorem AtT.new(h:AtT G r t A T)(hl:G.length<=q):q≠r/\∀i,i<7->q≠A i:=⟨by have:=h.dr.lt;lia,λi hi=>by
 have c6:=h.c6;by_cases k:i=6
 ·subst k;lia
 ·have:=lt_of_get (h.l i (by lia));lia⟩
theorem aY(h:AtT G r t A T)(hl:∀i,(cTl T i).length<=1000):Wp (T9 [.ref r,.ref t]) G (Tld r t A T G):=by
 have bg:=big;refine o5 (show Wp (U7 [sRf r,sRf t,none,none,none]) G _ from ?_);rw[Sj];refine d8.mpr<| u6<| g8 (as:= [.ref r,.int 6]) rfl rfl<| R6 h.dr (by decide) λw w0 w1 G1 f1=>?_;have h1:=h.fd f1;refine d8.mpr<| M7<| v4<| j5<| b8 (a:=.int w) (G':=G1) rfl<| b8 (a:=.int 4) (G':=G1) rfl<| lt_int.mpr ⟨_,rfl,λ_=>?_,λk=>o8.mpr ?_⟩
 ·refine d8.mpr<| u6<| g8 (as:= [.ref r]) rfl rfl<| (ON h1.dr).mono ?_;rintro _ G2 ⟨z,rfl,hz,f2⟩;have h2:=h1.fd f2;obtain⟨h3,f3⟩:=h2.one hz;refine d8.mpr<| sA (i:=1) (d:=.str z) (G':=G2) h2 (by decide) (hl 1) rfl rfl (b8 (a:=.str z) (G':=G2) rfl ⟨rfl,rfl⟩) h2 ?_;exact o6<| tP hz rfl<| m7 ⟨.txt z,_,rfl,hz,.txt z,h3,((Fm.fd f1).trans (Fm.fd f2)).trans f3⟩
 · have rest:∀ {G2:DH},Fd r G1 G2->Wp (f9 ttC (f9 ttD ttE) [sRf r,sRf t,some (.int w),none,none]) G2 (PB (Tld r t A T G)):=λ{G2} f2=>by
    have h2:=h1.fd f2;refine d8.mpr<| u6<| wp_comp.mpr<| WF.mpr<| j7<| j5<| b8 (a:=.int 1) (G':=G2) rfl<| g8 (as:= [.ref r,.int 4]) rfl rfl<| R6 h2.dr (by decide) λk k0 k1 G3 f3=>n9.mpr<| o7.mpr<| (sF ⟨by lia,by lia⟩).mpr ?_;have lr:(R7 0 (1+k).toNat).length= (1+k).toNat:=by unfold R7;rw[zf,jV]
    refine⟨by rw[lr];lia,(BO (R7 0 (1+k).toNat) none G3 f3.2.2).mono ?_⟩;rintro _ G4 ⟨ts,rfl,ht,lt,f4⟩;rw[lr]at lt;have h4:=(h2.fd f3).fd f4;have h5:=h4.fd (Fd.app (t:= [.lst (ts.map D.str)]) h4.dr);obtain⟨h6,f6⟩:=h5.buts (ts:=ts) m5 (h4.new (zg _)) ⟨ht,by lia⟩;have fm:Fm r A G (G4++[.lst (ts.map D.str)]):=((((Fm.fd f1).trans (Fm.fd f2)).trans (Fm.fd f3)).trans (Fm.fd f4)).trans (Fm.fd (Fd.app h4.dr));refine d8.mpr<| sA (i:=2) (d:=.ref G4.length) (G':=G4++[.lst (ts.map D.str)]) h5 (by decide) (hl 2) rfl rfl (b8 (a:=.ref G4.length) rfl ⟨rfl,rfl⟩) h5 ?_;have ed:((G4++[DO.lst (ts.map D.str)]).set (A 2) (.lst (cTl T 2++[.ref G4.length])))[G4.length]? =some (.lst (ts.map D.str)):=by rw[jd ((h4.new (zg _)).2 2 (by decide)).symm,m5]
    refine o6<| j5<| b8 (a:=.str (ofL (cTb++[32]))) rfl<| y4.mpr<| b8 (a:=.str (" " :Str)) rfl<| lI.mpr<| j7<| wp_comp.mpr<| wp_itW.mpr<| b8 (a:=.ref G4.length) rfl<| (W7 ed).mpr ⟨by rw[zf];lia,b8 (WE (mk:=D.str) (f:=λz=>.str (ofL (qL z))) (w4 ed) ts none λz hz=>E3<| tP (ht z hz) rfl ⟨rfl,rfl⟩)<| o7.mpr<| DM (f:=qL) (l:=ts) m5 ?_ ?_⟩
    · have:=RG (L:=ts.map qL) (k:=1002) λa ha=>by
       obtain⟨y,hy,rfl⟩:=zW.mp ha;rw[uE];have:=(ht y hy).2;lia
      rw[zf]at this;show _+_*1<=_;lia
    · have lb:=Mx ht (by lia);obtain⟨z,tz,rfl⟩:∃z tz,ts=z::tz:=by
       rcases ts with _|⟨z,tz⟩
       ·simp at lt;lia
       ·exact⟨_,_,rfl⟩
      have hb:=congrArg xF (kQ (z:=z) (ts:=tz));rw[zd]at hb;rw[show tl (" " :Str)= [32]from rfl];have o1: [32].length=1:=rfl;refine mE (by rw[zd];show 8+1+_<=_;lia)<| m7 ⟨.but (z::tz),_,?_,⟨ht,xg _ _,by lia⟩,.but G4.length _,h6.fd (Fd.app h6.dr),(fm.trans f6).trans (Fm.fd (Fd.app h6.dr))⟩;rw[zA,kQ];rfl
   refine d8.mpr<| M7<| t4<| v4<| j5<| b8 (a:=.int w) (G':=G1) rfl<| b8 (a:=.int 4) (G':=G1) rfl<| i6.mpr ⟨_,rfl,λ_=>v4<| j5<| g8 (as:= [.ref r,.int 3]) rfl rfl<| R6 h1.dr (by decide) λk k0 k1 G2 f2=>b8 (a:=.int 0) (G':=G2) rfl<| i6.mpr ⟨_,rfl,λ_=>?_,λ_=>o8.mpr<| rest f2⟩,λ_=>⟨λz=>(nomatch z),λ_=>o8.mpr<| rest (Fd.refl h1.dr)⟩⟩;have h2:=h1.fd f2;have h3:=h2.fd (Fd.app (t:= [.lst []]) h2.dr);obtain⟨h4,f4⟩:=h3.buts (q:=G2.length) (ts:= []) m5 (h2.new (zg _)) ⟨λ_ z=>(nomatch z),zD _⟩;refine d8.mpr<| sA (i:=2) (d:=.ref G2.length) (G':=G2++[.lst []]) h2 (by decide) (hl 2) rfl rfl (b8 (a:=.ref G2.length) rfl ⟨rfl,rfl⟩) h3 ?_;exact o6<| b8 (a:=.str (ofL cTx)) rfl<| m7 ⟨.all,_,rfl,trivial,.all G2.length,h4,(((Fm.fd f1).trans (Fm.fd f2)).trans (Fm.fd (Fd.app h2.dr))).trans f4⟩
theorem tR(h:AtT G r t A T)(hl:∀i,(cTl T i).length<=1000):Wp (M3 [.ref r,.ref t]) G (Tld r t A T G):=by
 refine o5 (show Wp (Z5 [sRf r,sRf t,none,none]) G _ from ?_);refine d8.mpr<| u6<| g8 (as:= [.ref r,.int 7]) rfl rfl<| R6 h.dr (by decide) λw w0 w1 G1 f1=>?_;have h1:=h.fd f1;have up:∀ {G1:DH},Fm r A G G1->∀x G',Tld r t A T G1 x G'->Tld r t A T G x G':=λf x G' ⟨w,T',e,a,b,c,d⟩=>⟨w,T',e,a,b,c,f.trans d⟩;refine d8.mpr<| M7<| v4<| j5<| b8 (a:=.int w) (G':=G1) rfl<| b8 (a:=.int 3) (G':=G1) rfl<| lt_int.mpr ⟨_,rfl,λ_=>o6<| g8 (as:= [.ref r,.ref t]) rfl rfl<| (ao h1 (hl 0)).mono λx G' k=>m7 (up (Fm.fd f1) x G' k),λk=>o8.mpr ?_⟩;refine d8.mpr<| M7<| v4<| j5<| b8 (a:=.int w) (G':=G1) rfl<| b8 (a:=.int 6) (G':=G1) rfl<| lt_int.mpr ⟨_,rfl,λ_=>o6<| g8 (as:= [.ref r,.ref t]) rfl rfl<| (aY h1 hl).mono λx G' k=>m7 (up (Fm.fd f1) x G' k),λk=>o8.mpr ?_⟩;refine d8.mpr ?_;refine u6 ?_;refine j5 ?_;refine b8 (a:=.ref G1.length) (G':=G1++[.lst [.str ("true" :Str),.str ("false" :Str),.str ("truth" :Str)]]) rfl ?_;refine g8 (as:= [.ref r,.int 3]) rfl rfl ?_;refine cM h1.dr rfl (by decide) λd hd G2 f2=>?_;have h2:=h1.fd f2;have fm:=(Fm.fd (A:=A) f1).trans (Fm.fd f2);simp only[zu,ja,or_false]at hd;have pt:∀ {i:Nat} {T':Tl},(hi:i<6)->3<=i->cTl T' i=cTl T i++[.str (kT i)]->(∀j,j<6->j≠i->cTl T' j=cTl T j)->T'.bs=T.bs->T'.but=T.but->T'.prs=T.prs->T'.of=T.of->AtT (G2.set (A i) (.lst (cTl T i++[.str (kT i)]))) r t A T'/\Fm r A G2 (G2.set (A i) (.lst (cTl T i++[.str (kT i)]))):=λ{i T'} hi _ hc ho e1 e2 e3 e4=>
  h2.put hi hc ho (by rw[e1,e2];exact h2.b) (by rw[e1];exact h2.nb) (by rw[e3];exact h2.pr) (by rw[e4];exact h2.ot) (by rw[e2];exact h2.bt)
 rcases hd with rfl|rfl|rfl
 ·obtain⟨h3,f3⟩:=pt (i:=3) (T':={T with tr:=T.tr++[("true" :Str)]}) (by decide) (by decide) (zY ..) (λj hj hn=>by unfold cTl;split<;>first|rfl|exact absurd rfl hn) rfl rfl rfl rfl;refine d8.mpr<| sA (i:=3) (d:=.str ("true" :Str)) (G':=G2) h2 (by decide) (hl 3) rfl rfl (b8 (a:=.str ("true" :Str)) (G':=G2) rfl ⟨rfl,rfl⟩) h2 ?_;exact o6<| b8 (a:=.str (ofL cT)) rfl<| m7 ⟨.tru true,_,rfl,trivial,.tt "true",h3,fm.trans f3⟩
 ·obtain⟨h3,f3⟩:=pt (i:=4) (T':={T with fl:=T.fl++[("false" :Str)]}) (by decide) (by decide) (zY ..) (λj hj hn=>by unfold cTl;split<;>first|rfl|exact absurd rfl hn) rfl rfl rfl rfl;refine d8.mpr<| sA (i:=4) (d:=.str ("false" :Str)) (G':=G2) h2 (by decide) (hl 4) rfl rfl (b8 (a:=.str ("false" :Str)) (G':=G2) rfl ⟨rfl,rfl⟩) h2 ?_;exact o6<| b8 (a:=.str (ofL cF)) rfl<| m7 ⟨.tru false,_,rfl,trivial,.ff "false",h3,fm.trans f3⟩
 · obtain⟨h3,f3⟩:=pt (i:=5) (T':={T with th:=T.th++[("truth" :Str)]}) (by decide) (by decide) (zY ..) (λj hj hn=>by
    have:j=0\/j=1\/j=2\/j=3\/j=4:=by lia
    rcases this with rfl|rfl|rfl|rfl|rfl<;>rfl) rfl rfl rfl rfl
   refine d8.mpr<| sA (i:=5) (d:=.str ("truth" :Str)) (G':=G2) h2 (by decide) (hl 5) rfl rfl (b8 (a:=.str ("truth" :Str)) (G':=G2) rfl ⟨rfl,rfl⟩) h2 ?_;exact o6<| b8 (a:=.str (ofL cTh)) rfl<| m7 ⟨.both,_,rfl,trivial,.bb "truth",h3,fm.trans f3⟩
end
theorem gM(z:Str):∀ts:List Str,inV (toV (.str z)) ((ts.map D.str).map toV)=decide (z∈ts)
 |[]=>rfl
 |y::r=>by
   have ih:=gM z r;unfold inV at ih ⊢;rw[zK,zK,jj,ih];show ((y==z)||_)=_;by_cases e:z=y
   ·subst e;simp
   · have:(y==z)=false:=by simpa using λh=>e h.symm
     rw[this,Bool.false_or];simp[e]
theorem dO:∀ts:List Str,(ts.map D.str).all C4=true
 |[]=>rfl
 |_::r=>dO r
theorem eO{G:DH}{q:Nat}{ts:List Str}{z:Str}(e:G[q]? =some (.lst (ts.map D.str))):inB (.str z) (.ref q) G=some (decide (z∈ts)):=by
 have:inB (.str z) (.ref q) G=if C4 (.str z)&&(ts.map D.str).all C4 then some (inV (toV (.str z)) ((ts.map D.str).map toV))else none:=by unfold inB;simp only[e]
 rw[this,dO,if_pos (by rfl),gM]
theorem SJ{G:DH}{z:Str}{ck:DH->Bool}(mr:ck G=true):∀ {qs:List Nat} {L:List (List Str)} (u:Option D),Bs G qs L->Wp (J6 u3 xfT c0 ck (qs.map D.ref) [u,some (.str z)]) G λys G'=>G'=G/\ys.length<=qs.length/\(ys.isEmpty=true↔∀ts∈L,z∈ts)
 |_,_,u,.nil=>VB.mpr ⟨mr,rfl,zg _,λ_ _ h=>(nomatch h),λ_=>rfl⟩
 |_,_,u,.cons (q:=q) (ts:=ts) (qs:=qs) (L:=L) e k=>by
   refine UD.mpr ⟨mr,b8 (a:= [sRf q,some (.str z)]) (G':=G) rfl ?_⟩;refine v4<| j5<| b8 (a:=.str z) (G':=G) rfl<| b8 (a:=.ref q) (G':=G) rfl<| LH.mpr ⟨_,eO e,_,rfl,?_⟩;by_cases h:z∈ts
   ·rw[decide_eq_true h,if_neg (by decide)];refine(SJ mr _ k).mono ?_;rintro ys _ ⟨rfl,l,i⟩;exact⟨rfl,yf l,i.trans ⟨λp t ht=>(zu.mp ht).elim (λc=>by rw[c];exact h) (p t),λp t ht=>p t (zi _ ht)⟩⟩
   ·rw[decide_eq_false h,if_pos (by rfl)];refine b8 (a:=.ref q) (G':=G) rfl<| (SJ mr _ k).mono ?_;rintro ys _ ⟨rfl,l,i⟩;exact⟨rfl,Zk l,λc=>(nomatch c),λp=>absurd (p ts (zt ..)) h⟩
theorem qp:V4=f9 xtA (asQ (S7 o0) E1 (f9 (S3 (itW (ixE (binE ixG c0 (cSt "but")) H0)) N0 xtB) (t7 (F0 (cSt "but") (M0 Q8 g0))))):=rfl
structure Bt(G:DH)(t:Nat)(A:Nat->Nat)(T:Tl):Prop where
 d:G[t]? =some (.dct (dT A))
 o:G[A 1]? =some (.lst (T.of.map D.str))
 q:G[A 2]? =some (.lst (T.bs.map D.ref))
 b:Bs G T.bs T.but
theorem AtT.bt'{G:DH}{r t:Nat}{A:Nat->Nat}{T:Tl}(h:AtT G r t A T):Bt G t A T:=⟨h.d,h.l 1 (by decide),h.l 2 (by decide),h.b⟩
section
variable{G G':DH}{t f:Nat}{A:Nat->Nat}{T:Tl}{ks:DSt}
theorem Bt.mono(h:Bt G t A T)(k:∀(i:Nat) (o:DO),G[i]? =some o->G'[i]? =some o):Bt G' t A T:=⟨k _ _ h.d,k _ _ h.o,k _ _ h.q,h.b.mono λq _=>k q⟩
theorem ixT{i:Nat}{ke:Fe}{σ:DSt}{Q:DPP}(hi:i<6)(d:G[t]? =some (.dct (dT A)))(e1:σ[0]? =some (some (.ref t)))(e2:ke σ G=some (.ok (.str (kT i)),G))(q:Q (.ref (A i)) G):Wp (binE ixG c0 ke σ) G Q:=
 j5<| N6.mpr ⟨_,e1,b8 e2<| (VI d (qI hi)).mpr q⟩
theorem Bs.nil'{L:List (List Str)}(h:Bs G [] L):L= []:=by cases h;rfl
theorem Bs.cons'{q:Nat}{qs:List Nat}{L:List (List Str)}(h:Bs G (q::qs) L):∃ts L',L=ts::L'/\G[q]? =some (.lst (ts.map D.str)):=by
 cases h
 exact⟨_,_,rfl,(by assumption)⟩
def vD(T:Tl)(z:Str):Prop:=(∀ts∈T.but,z∈ts)/\z∉T.of
theorem UV{z:Str}{fs:List Str}{u:Option D}(h:Bt G t A T)(lb:T.bs.length<=1000)(e:G[f]? =some (.lst (fs.map D.str)))(lf:fs.length<=1000):
 Wp (xtB [sRf t,sRf f,some (.str z),u]) G λfl G'=>∃(u':Option D) (fs':List Str),fl= .nx [sRf t,sRf f,some (.str z),u']/\G'[f]? =some (.lst (fs'.map D.str))/\(∀y,y∈fs'↔y∈fs\/y=z/\vD T z)/\fs'.length<=fs.length+1/\Fq f G G':=by
 have bg:=big;refine d8.mpr<| u6<| wp_comp.mpr<| wp_itW.mpr<| ixT (i:=2) (by decide) h.d rfl rfl<| (W7 h.q).mpr ⟨by rw[zf];lia,(SJ (w4 h.q) none h.b).mono ?_⟩;rintro ys G1 ⟨eG,ly,iy⟩;rw[eG];clear eG;have hb:=h.mono (G':=G++[.lst ys]) λi o e=>t8 e;have e1:(G++[DO.lst ys])[f]? =some (.lst (fs.map D.str)):=t8 e;have no:¬vD T z->∀ {G':DH},G'[f]? =some (.lst (fs.map D.str))->Fq f G G'->∃(u':Option D) (fs':List Str),Fl.nx [sRf t,sRf f,some (.str z),some (.ref G.length)]= .nx [sRf t,sRf f,some (.str z),u']/\G'[f]? =some (.lst (fs'.map D.str))/\(∀y,y∈fs'↔y∈fs\/y=z/\vD T z)/\fs'.length<=fs.length+1/\Fq f G G':=λn G' e' f'=>⟨_,fs,rfl,e',λy=>⟨.inl,λk=>k.elim id λk=>absurd k.2 n⟩,YN _,f'⟩;have fq1:Fq f G (G++[.lst ys]):=⟨by simp,λi _ hl=>zE hl⟩;have fq2:Fq f G (G++[.lst ys]++[.lst []]):=fq1.trans ⟨by simp,λi _ hl=>zE hl⟩;refine M7<| t4<| v4<| j5<| b8 (a:=.ref G.length) (G':=G++[.lst ys]) rfl<| b8 (a:=.ref (G++[DO.lst ys]).length) (G':=G++[.lst ys]++[.lst []]) rfl<| (IJ (t8 m5) m5).mpr ⟨_,rfl,λk=>?_,λk=>⟨λc=>(nomatch c),λ_=>o8.mpr<| no (λc=>?_) (t8 e1) fq2⟩⟩
 · refine v4<| j5<| b8 (a:=.str z) rfl<| ixT (i:=1) (by decide) (t8 hb.d) rfl rfl<| LH.mpr ⟨_,eO (t8 hb.o),_,rfl,λc=>?_,λc=>o8.mpr<| no (λg=>?_) (t8 e1) fq2⟩
   · have hz:z∉T.of:=by simpa using c
     refine E7.mpr<| y4.mpr<| b8 (a:=.ref f) rfl<| (M9 (t8 e1)).mpr<| b8 (a:= [.str z]) rfl<| (Q3 (t8 e1) (by rw[zf];lia)).mpr ⟨_,fs++[z],rfl,?_,λy=>?_,by rw[zd];exact zg _,fq2.trans Fq.set⟩
     ·rw[jk (lt_of_get (t8 e1)),zY];rfl
     ·rw[zM,zm];exact⟨λq=>q.elim .inl λq=>.inr ⟨q,iy.mp k,hz⟩,λq=>q.elim .inl λq=>.inr q.1⟩
   · have hz:z∈T.of:=by simpa using c
     exact g.2 hz
 ·rw[iy.mpr c.1]at k;cases k
theorem rL{p:Nat}{L:List D}(hp:p≠f)(hft:∀(i:Nat) (o:DO),G[i]? =some o->i≠f):∀(rest dn fs:List Str) (u v:Option D) (G1:DH),Fq f G G1->G[p]? =some (.lst L)->Bt G t A T->T.bs.length<=1000->G1[f]? =some (.lst (fs.map D.str))->(∀y,y∈fs↔y∈dn/\vD T y)->fs.length<=dn.length->dn.length+rest.length<=1000->
 Wp (B2 N0 xtB (ckO p (.lst L)) (rest.map D.str) [sRf t,sRf f,u,v]) G1 λfl G'=>∃(u v:Option D) (fs:List Str),fl= .nx [sRf t,sRf f,u,v]/\G'[f]? =some (.lst (fs.map D.str))/\(∀y,y∈fs↔y∈dn++rest/\vD T y)/\fs.length<=(dn++rest).length/\Fq f G G'
 |[],dn,fs,u,v,G1,fq,ep,h,lb,e,m,l1,l2=>wA.mpr ⟨w4 (by rw[fq.2 p hp (lt_of_get ep)];exact ep),u,v,fs,rfl,e,by rw[jT];exact m,by rw[jT];exact l1,fq⟩
 |z::rest,dn,fs,u,v,G1,fq,ep,h,lb,e,m,l1,l2=>by
   simp only[zr]at l2;have hb:Bt G1 t A T:=h.mono λi o ei=>by rw[fq.2 i (hft i o ei) (lt_of_get ei)];exact ei
   refine R8.mpr ⟨w4 (by rw[fq.2 p hp (lt_of_get ep)];exact ep),K7.mpr<| (UV hb lb e (by lia)).mono ?_⟩;rintro _ G2 ⟨u',fs',rfl,e2,m2,l3,fq2⟩;refine(rL hp hft rest (dn++[z]) fs' _ _ G2 (fq.trans fq2) ep h lb e2 (λy=>?_) (by rw[zd,jE];lia) (by rw[zd,jE];lia)).mono ?_
   · rw[m2,m,zM,zm];constructor
     · rintro(⟨a,b⟩|⟨rfl,b⟩)
       ·exact⟨.inl a,b⟩
       ·exact⟨.inr rfl,b⟩
     · rintro⟨a|rfl,b⟩
       ·exact .inl ⟨a,b⟩
       ·exact .inr ⟨rfl,b⟩
   ·rintro _ G3 ⟨u2,v2,fs2,rfl,e3,m3,l4,fq3⟩;rw[zA]at m3 l4;exact⟨u2,v2,fs2,rfl,e3,m3,l4,fq3⟩
theorem Md{Q:DPP}(h:Bt G t A T)(lo:T.of.length<=50)(lb:T.bs.length<=1000)(ot:∀z∈T.of,TxL z)(bt:∀ts∈T.but,(∀z∈ts,TxL z)/\ts.length<=4)
 (q:∀b m G',b=T.but.isEmpty->Ris m->(∀z∈m,TxL z)->m.length<=50->(b=false->m.length<=4)->(∀z,inT b m z↔z∈T.of\/∃ts∈T.but,z∉ts)->Ap G G'->Q (C2 b m) G'):Wp (V5 [.ref t]) G Q:=by
 have bg:=big;refine o5 (show Wp (V4 [sRf t,none,none,none]) G _ from ?_);rw[qp];refine d8.mpr<| M7<| v4<| j5<| ixT (i:=2) (by decide) h.d rfl rfl<| b8 (a:=.ref G.length) (G':=G++[.lst []]) rfl<| (IJ (t8 h.q) m5).mpr ⟨_,rfl,λk=>?_,λk=>o8.mpr ?_⟩
 · have hn:T.but= []:=by
    have hb:=h.b;rcases e:T.bs with _|⟨x,y⟩
    ·rw[e]at hb;exact hb.nil'
    ·rw[e]at k;cases k
   refine o6<| M8.mpr<| j7<| b8 (a:=.str wOf) rfl<| j7<| M5<| j7<| ixT (i:=1) (by decide) (t8 h.d) rfl rfl<| o7.mpr<| O2.mpr ⟨rfl,MK (t8 h.o) ot lo λm G1 r mm lm a1=>o7.mpr ⟨sz,m7<| q true m G1 (by rw[hn];rfl) r (λz hz=>ot z ((mm z).mp hz)) lm (λz=>nomatch z) (λz=>?_) (Ap.one.trans a1)⟩⟩;rw[hn,i7,or_false];exact mm z
 · obtain⟨p,ts,qs,L,eb,el,ep⟩:∃p ts qs L,T.bs=p::qs/\T.but=ts::L/\G[p]? =some (.lst (ts.map D.str)):=by
    have hb:=h.b;rcases e:T.bs with _|⟨x,y⟩
    ·rw[e]at k;cases k
    ·rw[e]at hb;obtain⟨ts,L,e1,e2⟩:=hb.cons';exact⟨x,ts,y,L,rfl,e1,e2⟩
   have hts:=bt ts (by rw[el];exact zt ..);refine j8 (X1:= [sRf t,some (.ref (G++[DO.lst []]).length),none,none]) (G':=G++[.lst []]++[.lst []]) rfl ?_;refine d8.mpr<| P7.mpr<| wp_itW.mpr<| j5<| ixT (i:=2) (by decide) (t8 (t8 h.d)) rfl rfl<| b8 (a:=.int 0) rfl<| (VA (t8 (t8 h.q))).mpr ⟨.ref p,by rw[eb];exact atI_nat (k:=0) rfl,(W7 (t8 (t8 ep))).mpr ?_⟩;have hp:=lt_of_get ep;refine(rL (G:=G++[.lst []]) (f:=(G++[DO.lst []]).length) (T:=T) (A:=A) (p:=p) (L:=ts.map D.str) (by simp;lia) (λi o ei z=>by have:=lt_of_get ei;lia) ts [] [] none none (G++[.lst []]++[.lst []]) ⟨by simp,λi _ hl=>zE hl⟩ (t8 ep) (h.mono λi o ei=>t8 ei) lb m5 (λy=>⟨λz=>(nomatch z),λz=>nomatch z.1⟩) (zg _) (by have:=hts.2;simp;lia)).mono ?_;rintro _ G1 ⟨u,v,fs,rfl,e1,m1,l1,fq1⟩;rw[Zo]at m1 l1;have a1:Ap G G1:=Gr.ap ⟨by have:=fq1.1;simp at this;lia,λi hi=>by rw[fq1.2 i (by simp;lia) (by simp;lia),zE hi]⟩;have l4:=hts.2;refine o6<| M8.mpr<| j7<| b8 (a:=.str RN) (G':=G1) rfl<| j7<| g8 (as:= [.ref (G++[DO.lst []]).length]) rfl rfl<| MK e1 (λz hz=>hts.1 z ((m1 z).mp hz).1) (by lia) λm G2 r mm lm a2=>o7.mpr ⟨sz,m7<| q false m G2 (by rw[el];rfl) r (λz hz=>hts.1 z ((m1 z).mp ((mm z).mp hz)).1) lm (λ_=>zQ (qH (dQ r) λz hz=>((m1 z).mp ((mm z).mp hz)).1) l4) (λz=>?_) (a1.trans a2)⟩;show z∉m↔_;rw[mm z,m1 z];constructor
   · intro n;by_cases ho:z∈T.of
     ·exact .inl ho
     ·refine .inr (jb λc=>?_);have all:∀ts∈T.but,z∈ts:=λts hs=>jb λd=>c ⟨ts,hs,d⟩;exact n ⟨all ts (by rw[el];exact zt ..),all,ho⟩
   · rintro(ho|⟨ts',hs,d⟩) ⟨_,all,no⟩
     ·exact no ho
     ·exact d (all ts' hs)
end
structure Lp(G:DH)(r t c:Nat)(A:Nat->Nat)(T:Tl)(ws:List Wd):Prop where
 h:AtT G r t A T
 e:G[c]? =some (.lst (F3 wdL ws))
 c6:A 6=c
 cr:c≠r/\c≠t/\∀i,i<6->c≠A i
 tl:C5 ws T
 ne:ws≠ []
section
variable{G G':DH}{r t c:Nat}{A:Nat->Nat}{T:Tl}{ws:List Wd}{a0:Option D}{ρ:DSt}
theorem AtT.setc{o:DO}(h:AtT G r t A T)(c6:A 6=c)(cr:c≠r/\c≠t/\∀i,i<6->c≠A i):AtT (G.set c o) r t A T:=
 ⟨h.dr.set cr.1,by rw[jd cr.2.1];exact h.d,λi hi=>by rw[jd (cr.2.2 i hi)];exact h.l i hi,h.b.mono λq hq o e=>by rw[jd λz=>(h.nb q hq).2 6 (by decide) (by rw[c6];exact z.symm)];exact e,h.inj,h.nr,h.tr,h.nb,by rw[xp];exact h.c6,h.pr,h.ot,h.bt⟩
theorem bN{w:Wd}:F3 wdL ws++[.str (ofL (wdL w))]=F3 wdL (ws++[w]):=by unfold F3;rw[zY];rfl
theorem Lp.put{w:Wd}{T':Tl}(k:Lp G r t c A T ws)(h:AtT G r t A T')(n:C5 (ws++[w]) T'):Lp (G.set c (.lst (F3 wdL ws++[.str (ofL (wdL w))]))) r t c A T' (ws++[w]):=
 ⟨h.setc k.c6 k.cr,by rw[jk (lt_of_get k.e),bN],k.c6,k.cr,n,Xh _ (xg _ _)⟩
theorem Lp.fd(k:Lp G r t c A T ws)(f:Fd r G G'):Lp G' r t c A T ws:=⟨k.h.fd f,f.at k.cr.1 k.e,k.c6,k.cr,k.tl,k.ne⟩
abbrev wlS(a0:Option D)(r t c:Nat)(ρ:DSt):DSt:=a0::some (.ref r)::some (.ref t)::some (.ref c)::ρ
theorem Kb(k:Lp G r t c A T ws)(hl:ws.length<=100):Wp (wlC (wlS a0 r t c ρ)) G λfl G'=>fl= .nx (wlS a0 r t c ρ)/\∃ws',Lp G' r t c A T ws'/\ws.length<=ws'.length/\ws'.length<=ws.length+1:=by have bg:=big;have hp:0<ws.length:=YR.mpr k.ne;have ll:(F3 wdL ws).length=ws.length:=zf ..;refine M7<| v4<| j5<| g8 (as:= [.ref r,.int 5]) rfl rfl<| R6 k.h.dr (by decide) λx x0 x1 G1 f1=>b8 (a:=.int 1) (G':=G1) rfl<| i6.mpr ⟨_,rfl,λ_=>?_,λ_=>o8.mpr ⟨rfl,ws,k.fd f1,zg _,YN _⟩⟩;have k1:=k.fd f1;refine E7.mpr<| y4.mpr<| b8 (a:=.ref c) rfl<| (M9 k1.e).mpr<| j7<| j5<| b8 (a:=.ref c) (G':=G1) rfl<| M5<| j7<| b8 (a:=.ref r) (G':=G1) rfl<| j7<| V0 (as:= [.ref c]) rfl<| (bF k1.e).mpr<| o7.mpr<| O2.mpr ⟨rfl,R6 k1.h.dr (by rw[ll];lia) λj j0 j1 G2 f2=>?_⟩;have k2:=k1.fd f2;obtain⟨d,hd,ed⟩:=qJ (l:=F3 wdL ws) j0 j1;obtain⟨w,hw,rfl⟩:=zW.mp hd;exact(VA k2.e).mpr ⟨_,ed,o7.mpr<| (Q3 k2.e (by lia)).mpr ⟨rfl,ws++[w],k2.put k2.h (k2.tl.dup hw),by simp,by simp⟩⟩
theorem mW(k:Lp G r t c A T ws)(hl:ws.length<=50):Wp (wlB (wlS a0 r t c ρ)) G λfl G'=>fl= .nx (wlS a0 r t c ρ)/\∃T' ws',Lp G' r t c A T' ws'/\ws.length+1<=ws'.length/\ws'.length<=ws.length+2:=by
 have bg:=big;have ll:(F3 wdL ws).length=ws.length:=zf ..;refine d8.mpr<| E7.mpr<| y4.mpr<| b8 (a:=.ref c) rfl<| (M9 k.e).mpr<| j7<| g8 (as:= [.ref r,.ref t]) rfl rfl<| (tR k.h λi=>zQ (k.tl.ln i) (by lia)).mono ?_;rintro _ G1 ⟨w,T',rfl,ok,nw,h1,fm⟩;have e1:G1[c]? =some (.lst (F3 wdL ws)):=by rw[fm.2 c k.cr.1 (λj hj=>k.cr.2.2 j hj) (lt_of_get k.e)];exact k.e
 have tl:=k.tl.add nw ok;have k1:Lp (G1.set c (.lst (F3 wdL ws++[.str (ofL (wdL w))]))) r t c A T' (ws++[w]):=
  ⟨h1.setc k.c6 k.cr,by rw[jk (lt_of_get e1),bN],k.c6,k.cr,tl,Xh _ (xg _ _)⟩
 refine o7.mpr<| (Q3 e1 (by lia)).mpr<| (Kb k1 (by rw[zd,jE];lia)).mono ?_;rintro _ G2 ⟨rfl,ws',k2,l1,l2⟩;rw[zd,jE]at l1 l2;exact⟨rfl,T',ws',k2,l1,by lia⟩
theorem eN:∀(n:Nat) (T:Tl) (ws:List Wd) (G:DH),Lp G r t c A T ws->40<=ws.length+n->ws.length<=41->
 Wp (K9 (n+1) wlT wlB (wlS a0 r t c ρ)) G λfl G'=>fl= .nx (wlS a0 r t c ρ)/\∃T ws,Lp G' r t c A T ws/\ws.length<=41
 |n,T,ws,G,k,hn,hl=>by
   obtain⟨ns,er⟩:=k.h.dr;have ll:(F3 wdL ws).length=ws.length:=zf ..;have k1:=k.fd (Fd.app (t:= [.lst []]) k.h.dr);refine R5.mpr<| t4<| v4<| j5<| b8 (a:=.ref r) (G':=G) rfl<| b8 (a:=.ref G.length) (G':=G++[.lst []]) rfl<| (lK (t8 er) m5).mpr ⟨_,rfl,λ_=>?_,λ_=>?_⟩
   · refine v4<| j5<| V0 (as:= [.ref c]) rfl<| (bF k1.e).mpr<| b8 (a:=.int 40) (G':=G++[.lst []]) rfl<| lt_int.mpr ⟨_,rfl,?_⟩;rw[ll];by_cases q:(ws.length:Int)<40
     · rw[decide_eq_true q,if_pos rfl];refine(mW k1 (by lia)).mono ?_;rintro _ G2 ⟨rfl,T',ws',k2,l1,l2⟩;rcases n with _|n
       ·lia
       ·exact eN n T' ws' G2 k2 (by lia) (by lia)
     ·rw[decide_eq_false q,if_neg zN];exact⟨rfl,T,ws,k1,hl⟩
   ·rw[if_neg zN];exact⟨rfl,T,ws,k1,hl⟩
end
theorem Ff:SG=f9 (v7 (M0 U6 c0) E1) (f9 lwE (asQ (S7 (S0 (y0 M3 g0 i0))) A2 (f9 (V6 wlT wlB) (asQ (t3 o0) F2 (f9 lwU (f9 lwV (f9 lwW lwX))))))):=rfl
section
variable{G G':DH}{r t c:Nat}{A:Nat->Nat}{T:Tl}{ws:List Wd}
abbrev pG:DH:= [.lst [],.lst [],.lst [],.lst [],.lst [],.lst []]
def A0(g r:Nat)(i:Nat):Nat:=if i=6 then r else g+i
theorem bX{a0 a2 a3 a4 a5:Option D}:lwE [a0,sRf r,a2,a3,a4,a5] G=some (.ok (.nx [a0,sRf r,some (.ref (G.length+6)),a3,a4,a5]),G++pG++[.dct (dT (A0 G.length r))]):=by
 have e:∀(H:DH),H++[DO.lst []]++[DO.lst []]++[DO.lst []]++[DO.lst []]++[DO.lst []]++[DO.lst []]=H++pG:=λH=>by simp
 have h:lwE [a0,sRf r,a2,a3,a4,a5] G=some (.ok (.nx [a0,sRf r,some (.ref (G++[DO.lst []]++[DO.lst []]++[DO.lst []]++[DO.lst []]++[DO.lst []]++[DO.lst []]).length),a3,a4,a5]),G++[DO.lst []]++[DO.lst []]++[DO.lst []]++[DO.lst []]++[DO.lst []]++[DO.lst []]++[.dct [(.inr "pairs",.ref G.length),(.inr "of",.ref (G++[DO.lst []]).length),(.inr "but",.ref (G++[DO.lst []]++[DO.lst []]).length),(.inr "true",.ref (G++[DO.lst []]++[DO.lst []]++[DO.lst []]).length),(.inr "false",.ref (G++[DO.lst []]++[DO.lst []]++[DO.lst []]++[DO.lst []]).length),(.inr "truth",.ref (G++[DO.lst []]++[DO.lst []]++[DO.lst []]++[DO.lst []]++[DO.lst []]).length)]]):=rfl;rw[h,e];simp only[zd,zr,yh];rfl
abbrev T0:Tl:=⟨[], [], [], [], [], [], []⟩
theorem vd(h:Dr G r):AtT (G++pG++[.dct (dT (A0 G.length r))]) r (G.length+6) (A0 G.length r) T0:=by
 have hr:=h.lt;have six:∀i,i<6->(G++pG++[DO.dct (dT (A0 G.length r))])[G.length+i]? =some (.lst []):=λi hi=>by
  rw[zA,jP (by lia),xV];have:i=0\/i=1\/i=2\/i=3\/i=4\/i=5:=by lia
  rcases this with rfl|rfl|rfl|rfl|rfl|rfl<;>rfl
 have ai:∀i,i<6->A0 G.length r i=G.length+i:=λi hi=>if_neg (by lia);refine⟨h.app.app,?_,λi hi=>?_,.nil,λi hi j hj e=>?_,λi hi=>?_,by lia,λ_ z=>(nomatch z),?_,λ_ z=>(nomatch z),λ_ z=>(nomatch z),λ_ z=>nomatch z⟩
 ·rw[zA,jP (by lia),xV];rfl
 ·rw[ai i hi,six i hi];unfold cTl;split<;>rfl
 ·rw[ai i hi,ai j hj]at e;lia
 ·rw[ai i hi];exact⟨by lia,by lia⟩
 ·show (if 6=6 then r else G.length+6)<_;rw[if_pos rfl,zd,zd];lia
def A1(A:Nat->Nat)(c:Nat)(i:Nat):Nat:=if i=6 then c else A i
theorem lp0{w:Wd}(h:AtT G r t A T)(tl:C5 [w] T):Lp (G++[.lst (F3 wdL [w])]) r t G.length (A1 A G.length) T [w]:=by
 have a1:∀i,i<6->A1 A G.length i=A i:=λi hi=>if_neg (by lia);have h1:=h.fd (Fd.app (t:= [.lst (F3 wdL [w])]) h.dr);have dT1:dT (A1 A G.length)=dT A:=rfl;refine⟨⟨h1.dr,by rw[dT1];exact h1.d,λi hi=>by rw[a1 i hi];exact h1.l i hi,h1.b,λi hi j hj e=>h.inj i hi j hj (by rw[a1 i hi,a1 j hj]at e;exact e),λi hi=>by rw[a1 i hi];exact h.nr i hi,h.tr,λq hq=>⟨(h.nb q hq).1,λi hi=>?_⟩,?_,h.pr,h.ot,h.bt⟩,m5,if_pos rfl,⟨?_,?_,λi hi=>?_⟩,tl,xg _ _⟩
 · by_cases k:i=6
   · subst k;show q≠if 6=6 then G.length else A 6;rw[if_pos rfl];have hb:=h.b;have:∀ {qs:List Nat} {L:List (List Str)},Bs G qs L->∀q∈qs,q<G.length:=λhb=>by
      induction hb with
      |nil=>exact λ_ z=>nomatch z
      |cons e _ ih=>exact λq hq=>(zu.mp hq).elim (λz=>by rw[z];exact lt_of_get e) (ih q)
     have:=this hb q hq;lia
   ·rw[show A1 A G.length i=A i from if_neg k];exact(h.nb q hq).2 i hi
 ·show (if 6=6 then G.length else A 6)<_;rw[if_pos rfl,zd];exact xL _
 ·have:=h.dr.lt;lia
 ·have:=lt_of_get h.d;lia
 ·rw[a1 i hi];have:=lt_of_get (h.l i hi);lia
theorem ixU{i:Nat}{ke:Fe}{σ:DSt}{Q:DPP}(hi:i<6)(d:G[t]? =some (.dct (dT A)))(e1:σ[2]? =some (some (.ref t)))(e2:ke σ G=some (.ok (.str (kT i)),G))(q:Q (.ref (A i)) G):Wp (binE ixG i0 ke σ) G Q:=
 j5<| N6.mpr ⟨_,e1,b8 e2<| (VI d (qI hi)).mpr q⟩
theorem qv{l m:List Str}:(l.map D.str++m.map D.str).isEmpty= (l.isEmpty&&m.isEmpty):=by cases l<;>cases m<;>rfl
theorem NM{i:Nat}{ke kf:Fe}{σ:DSt}{l:List Str}{B:Bool->DH->Prop}(h:AtT G r t A T)(hi:i<6)(el:cTl T i=l.map D.str)(ll:l.length<=50)(lt:T.th.length<=50)(e1:σ[2]? =some (some (.ref t)))(e2:ke σ G=some (.ok (.str (kT i)),G))(e3:kf σ G=some (.ok (.str (kT 5)),G))
 (q:∀G',Fd r G G'->B (!l.isEmpty||!T.th.isEmpty) G'):Wp (l5 (binE neD (binE addD (binE ixG i0 ke) (binE ixG i0 kf)) (S7 o0)) σ) G B:=by
 have bg:=big;have ei:=h.l i hi;rw[el]at ei;have e5:G[A 5]? =some (.lst (T.th.map D.str)):=h.l 5 (by decide);refine v4<| j5<| j5<| ixU hi h.d e1 e2<| ixU (i:=5) (by decide) h.d e1 e3<| (vH ei e5 (by rw[zf,zf];lia)).mpr<| b8 (a:=.ref (G++[DO.lst (l.map D.str++T.th.map D.str)]).length) (G':=G++[.lst (l.map D.str++T.th.map D.str)]++[.lst []]) rfl<| (lK (t8 m5) m5).mpr ⟨_,rfl,?_⟩;rw[qv,Bool.not_and];exact q _ ((Fd.app h.dr).trans (Fd.app h.dr.app))
theorem IQ{w:Wd}(ok:E4 w):(wdL w).length<=4100/\wdT w<=1:=by
 rcases w with r|a|z|_|ts|b|_
 ·exact⟨zQ (gf ok.1) (by decide),zD _⟩
 ·have:=F4 ok;refine⟨?_,zD _⟩;show (nmL a++[46,46]++nmL a).length<=_;rw[zd,zd];show _+2+_<=_;lia
 ·refine⟨?_,zg _⟩;show (qL z).length<=_;rw[uE];have:=ok.2;lia
 ·exact⟨by decide,by decide⟩
 · refine⟨?_,zD _⟩;show (cTb++bqL ts).length<=_;rw[zd,<-cK,qG];have:=RG (L:=ts.map qL) (k:=1002) λa ha=>by
    obtain⟨z,hz,rfl⟩:=zW.mp ha;rw[uE];have:=(ok.1 z hz).2;lia
   rw[zf]at this ⊢;have l4:=ok.2.2;show 8+(_+1*_)<=_;lia
 ·cases b<;>exact⟨by decide,by decide⟩
 ·exact⟨by decide,by decide⟩
theorem fw{L:List Wd}(h:∀w∈L,wdT w<=1):(L.map wdT).sum<=L.length:=by
 induction L with
 |nil=>exact zg _
 |cons a r ih=>
   have:=ih λx hx=>h x (zi _ hx);have:=h a (zt ..);rw[zK,List.sum_cons,zr];lia
theorem mZ{a0:Option D}(k:Lp G r t c A T ws)(hl:ws.length<=41):Wp (f9 (v7 (t3 o0) F2) (f9 lwU (f9 lwV (f9 lwW lwX))) [a0,sRf r,sRf t,sRf c,none,none]) G (PB λd _=>d= .bl true):=by
 have bg:=big;have ln:=k.tl.ln;have lf:T.fl.length<=50:=by have:=ln 4;have e:(cTl T 4).length=T.fl.length:=zf ..;lia
 have lt:T.tr.length<=50:=by have:=ln 3;have e:(cTl T 3).length=T.tr.length:=zf ..;lia
 have lh:T.th.length<=50:=by have:=ln 5;have e:(cTl T 5).length=T.th.length:=zf ..;lia
 have lo:T.of.length<=50:=by have:=ln 1;have e:(cTl T 1).length=T.of.length:=zf ..;lia
 have lp:T.prs.length<=50:=by have:=ln 0;have e:(cTl T 0).length=T.prs.length:=zf ..;lia
 have lb:T.bs.length<=1000:=by have:=ln 2;have e:(cTl T 2).length=T.bs.length:=zf ..;lia
 refine j8 (X1:= [a0,sRf r,sRf t,sRf c,some (trD false false),none]) (G':=G) rfl ?_;refine d8.mpr<| (show Wp (lwU [a0,sRf r,sRf t,sRf c,some (trD false false),none]) G λfl G'=>Fd r G G'/\fl= .nx [a0,sRf r,sRf t,sRf c,some (trD (!T.fl.isEmpty||!T.th.isEmpty) false),none]from ?_).mono ?_
 · refine M7<| NM (i:=4) k.h (by decide) rfl lf lh rfl rfl rfl λG1 f1=>⟨λe=>?_,λe=>?_⟩
   ·rw[e];exact u6<| b8 (a:=trD true false) (G':=G1) rfl ⟨f1,rfl⟩
   ·rw[e];exact o8.mpr ⟨f1,rfl⟩
 rintro _ G1 ⟨f1,rfl⟩;have k1:=k.fd f1;generalize hF:(!T.fl.isEmpty||!T.th.isEmpty)=F;refine d8.mpr<| (show Wp (lwV [a0,sRf r,sRf t,sRf c,some (trD F false),none]) G1 λfl G'=>Fd r G1 G'/\fl= .nx [a0,sRf r,sRf t,sRf c,some (trD F (!T.tr.isEmpty||!T.th.isEmpty)),none]from ?_).mono ?_
 · refine M7<| NM (i:=3) k1.h (by decide) rfl lt lh rfl rfl rfl λG2 f2=>⟨λe=>?_,λe=>?_⟩
   · rw[e];refine u6<| j5<| b8 (a:=trD F false) (G':=G2) rfl<| b8 (a:=.tup [.bl true]) (G':=G2) rfl ?_
     cases F
     ·exact(HE (by show 0+1<=_;lia)).mpr ⟨f2,rfl⟩
     ·exact(HE (by show 1+1<=_;lia)).mpr ⟨f2,rfl⟩
   ·rw[e];exact o8.mpr ⟨f2,rfl⟩
 rintro _ G2 ⟨f2,rfl⟩;have k2:=k1.fd f2;generalize hR:(!T.tr.isEmpty||!T.th.isEmpty)=R;have e0:G2[A 0]? =some (.lst (T.prs.map pD)):=k2.h.l 0 (by decide);refine d8.mpr<| u6<| M8.mpr<| j7<| M5<| j7<| ixU (i:=0) (by decide) k2.h.d rfl rfl<| o7.mpr<| O2.mpr ⟨rfl,(ii k2.h.pr e0 (by lia)).mono ?_⟩;rintro _ G3 ⟨due,rfl,s2,ld,hd,a3⟩;refine j7<| g8 (as:= [.ref t]) rfl rfl<| Md (k2.h.bt'.mono λi o e=>a3.at e) lo lb k2.h.ot k2.h.bt λb m G4 eb rm tm lm l4 it a4=>?_;refine b8 (a:= [trD F R,.non,.non]) (G':=G4) rfl ⟨sz,?_⟩;have e4:G4[c]? =some (.lst (F3 wdL ws)):=a4.at (a3.at k2.e);have okW:=k.tl.ok;have hz:szM (ws.map wdL)<=200000:=by
  have:=RG (L:=ws.map wdL) (k:=4100) λa ha=>by obtain⟨w,hw,rfl⟩:=zW.mp ha;exact(IQ (okW w hw)).1
  rw[zf]at this;lia
 refine o6<| M5<| j7<| M5<| j7<| y4.mpr<| b8 (a:=.str (" or " :Str)) (G':=G4) rfl<| lI.mpr<| b8 (a:= [.ref c]) (G':=G4) rfl<| DM (s:= " or ") e4 (by show _+_*4<=_;lia)<| o7.mpr<| O2.mpr ⟨rfl,?_⟩;refine Bd (s:=⟨due,b,m,F,R⟩) k.ne okW ⟨λx=>?_,by rw[eb,k.tl.b],λz=>by rw[it,k.tl.t],by rw[<-hF,k.tl.f],by rw[<-hR,k.tl.r]⟩ ⟨s2.1,⟨rm,λz hz=>kG (tm z hz),by lia⟩,l4⟩ (by lia) (by lia) (by have:=fw λw hw=>(IQ (okW w hw)).2;lia) λG5=>?_
 · rw[k.tl.n];show inS due x↔_;rw[s2.2 x];constructor
   ·rintro⟨q,hq,hx⟩;obtain⟨p,hp,rfl⟩:=zW.mp hq;exact⟨p,hp,hx⟩
   ·rintro⟨p,hp,hx⟩;exact⟨rg p,zW.mpr ⟨p,hp,rfl⟩,hx⟩
 ·exact b8 (a:= [sP ⟨due,b,m,F,R⟩]) (G':=G5) rfl<| O2.mpr ⟨rfl,b8 (dU (by show due.length<=_;lia) (by show m.length<=_;lia))<| m7 rfl⟩
end
theorem OS(ns:List Int)(hn:ns.length<=63):Wp (TJ [.ref 0]) [.rol (ns.map D.int)] λd _=>d= .bl true:=by have e0:([.rol (ns.map D.int)]:DH)[0]? =some (.rol (ns.map D.int)):=rfl;generalize ([.rol (ns.map D.int)]:DH)=G at e0;refine o5 (show Wp (SG [sRf 0,none,none,none,none,none]) G _ from ?_);rw[Ff];refine d8.mpr<| u6<| g8 (as:= [.ref 0]) rfl rfl<| (US e0 hn).mono ?_;rintro _ G1 ⟨r,rfl,h1⟩;refine j8 bX ?_;have a0:=vd h1;refine d8.mpr<| u6<| AG.mpr<| j7<| g8 (as:= [.ref r,.ref (G1.length+6)]) rfl rfl<| (tR a0 λi=>by unfold cTl;split<;>exact zD _).mono ?_;rintro _ G2 ⟨w,T',rfl,ok,nw,h2,fm⟩;refine o7.mpr ⟨sz,?_⟩;refine d8.mpr<| rB (n:=41)<| (eN 40 T' [w] _ (lp0 h2 (C5.nil.add nw ok)) (by lia) (by show 1<=41;decide)).mono ?_;rintro _ G3 ⟨rfl,T,ws,k,hl⟩;exact mZ k hl
theorem pure_law:∀ns:List Int,ns.length<=63->∃G',TJ [.ref 0] [.rol (ns.map D.int)]=some (.ok (.bl true),G'):=λns hn=>by obtain⟨d,G',e,rfl⟩:=OS ns hn;exact⟨G',e⟩
end W
namespace PySem.W.Fast
def tw5420509752900302414:=()
def tw1456817952869294232:=()
def tw18104663500208141916:=()
def tw5708674893157413181:=()
def tw3566123762790247892:=()
def tw16702060494323736274:=()
def tw14074242407203634396:=()
def tw816491007874436296:=()
def tw18111131978169220804:=()
def tw4323650165554496138:=()
def tw3690489522684503262:=()
def tw9913559926646963775:=()
def tw8097692746556979503:=()
def tw727155565148182900:=()
def tw4039535599749516217:=()
def tw9439568551471875139:=()
def tw6039026955642590572:=()
def tw13337967510970679442:=()
def tw17934905801042127448:=()
def tw5969309039439309127:=()
def tw3470166345176787247:=()
def tw12342374408661908517:=()
def tw4949411737480319652:=()
def tw4604893281787362761:=()
def tw14072760377982741306:=()
def tw7629601240722906937:=()
def tw2345596693146830514:=()
def tw13020811990072168866:=()
def tw3422940083563636353:=()
def tw9161202674361087952:=()
def tw10081543406057056128:=()
def tw7055513504567663198:=()
def tw4441542849250309454:=()
def tw13853563679245051316:=()
def tw12233742797170766035:=()
def tw7578868828235294780:=()
def tw14224266170149521247:=()
def tw14237460234908050972:=()
def tw14420049355148020223:=()
def tw12619794734522081672:=()
def tw9625890925731986903:=()
def tw6409738345207592354:=()
def tw7455548827671215587:=()
def tw4472402284021184104:=()
def tw206560007435616149:=()
def tw83566151622454142:=()
def tw7749075774984815628:=()
def tw18008663575475364318:=()
def tw3059022125783662647:=()
def tw13508824297793667361:=()
def tw5832178327536447781:=()
def tw8757592376723532488:=()
def tw6462594529803679100:=()
def tw4940857986115057347:=()
def tw103664821889787459:=()
def tw13699356760192671473:=()
def tw5762706716889376020:=()
def tw2139571612014280471:=()
def tw18042787191392991852:=()
def tw9878605217339903377:=()
def tw6932690906122802290:=()
def tw12048538640351959745:=()
def tw11467086987478275541:=()
def tw8741754230939751886:=()
def tw17309800295828326425:=()
def tw17096635089875687155:=()
def tw11191829534980706487:=()
def tw14352485011005435008:=()
def tw3366991369110771468:=()
def tw4316891704456907524:=()
def tw11101605272589023829:=()
def tw9925724803473733625:=()
def tw8099891973095102829:=()
def tw3466139528664688555:=()
def tw14669552193713096749:=()
def tw17538561390750176221:=()
def tw12851943775757783500:=()
def tw10812628914386786628:=()
def tw11697858438019233641:=()
def tw4779049472838001448:=()
def tw5178689180562412117:=()
def tw1094923924125558794:=()
def tw13031996858981614818:=()
def tw1205150330219322584:=()
def tw1984731661019539686:=()
def tw10645846946307691957:=()
def tw17919720004991876624:=()
def tw11895924150129579638:=()
def tw9185277719876828422:=()
def tw16410927603792843163:=()
def tw18367950273032828798:=()
def tw3589105356460389971:=()
def tw2082452902606618525:=()
def tw18144672624885508549:=()
def tw11474958860347370704:=()
def tw11897000869273128965:=()
def tw5190407803398638918:=()
def tw10816084663820418656:=()
def tw3346135356880221472:=()
def tw13673505693149648370:=()
def tw17478770432644156422:=()
def tw9405378742983795869:=()
def tw6495677435394058334:=()
def tw12054940188073866697:=()
def tw12711569871030114287:=()
def tw13930117910181299327:=()
def tw6286215498155705750:=()
def tw9335818518829255200:=()
def tw10831644383193837526:=()
def tw16844598108339796853:=()
def tw5884304292040525365:=()
def tw15180590006666456289:=()
def tw4159988441753919679:=()
def tw3606765747232952452:=()
def tw11398132606079637275:=()
def tw9573273395758594388:=()
def tw7702913918181060571:=()
def tw5632093359827636585:=()
def tw17284195062875025692:=()
def tw10362370472768379227:=()
def tw4601490916447282519:=()
def tw2615535067281314023:=()
def tw8095517805110223245:=()
def tw6376610607560127114:=()
def tw18110698570506431681:=()
def tw10949850781614036915:=()
def tw18382894219226619456:=()
def tw16655745737542796744:=()
def tw15360366051109731265:=()
def tw15457919625973065353:=()
def tw17353674373500194900:=()
def tw14721951529455801817:=()
def tw11937709887551129710:=()
def tw5508562415463967978:=()
def tw5827129217287999649:=()
def tw1579987161507786986:=()
def tw151766733271966630:=()
def tw17051803684051717978:=()
def tw15459539243340438962:=()
def tw1281704670404247704:=()
end PySem.W.Fast
local macro_rules | `(tactic| walk_at "fh") => `(tactic| first | exact trivial | (refine DL.FHs.c ?q ?b; (case q => refine' DL.FH.of ?a ?l ?e ?k; (case a => k_is); (case l => k_is); (case e => k_is); (case k => k_is)); (case b => walk_at "fh")))
local macro_rules | `(tactic| walk_at "cr") => `(tactic| first | exact DL.cr_str | exact DL.cr_int | exact DL.cr_bl | exact DL.cr_non | (refine' DL.cr_tup ?l ?z ?h; (case l => k_is); (case z => rfl); (case h => walk_at "cs")))
local macro_rules | `(tactic| walk_at "cs") => `(tactic| first | exact DL.crl_nil | (refine' DL.crl_cons ?a ?b; (case a => walk_at "cr"); (case b => walk_at "cs")))
set_option maxRecDepth 100000 in
set_option maxHeartbeats 0 in
theorem PySem.Challenge.cw_allmeet_k44_words_joined_holds : PySem.Challenge.rw_allmeet_k44_words_joined.Holds := by
 w_on;o_law;k_head;(case hw=>w_witness2)
 k_fill
 refine DL.walk63 (l := PySem.Challenge.rw_allmeet_k44_words_joined) 12 rfl rfl ⟨rfl, by decide, by decide, rfl⟩ (fun w h Y => PySem.W.kIn_of Y) ?F
 case F=>
  intro w mg fa h KX G hmg;refine' W.all_mk KX G hmg ?Y0 ?Y25 ?Y50 ?_ ?_ ?_ ?_ ?_ ?g_KIND_SETS ?l_KIND_SETS ?l_KIND_SETS_0 ?l_KIND_SETS_0_0 ?l_KIND_SETS_0_0_0 ?l_KIND_SETS_0_1 ?l_KIND_SETS_0_1_1 ?l_KIND_SETS_0_2 ?l_KIND_SETS_1 ?l_KIND_SETS_1_0 ?l_KIND_SETS_1_1 ?l_KIND_SETS_1_1_1 ?l_KIND_SETS_1_2 ?l_KIND_SETS_2 ?l_KIND_SETS_2_0 ?l_KIND_SETS_2_1 ?l_KIND_SETS_2_1_1 ?l_KIND_SETS_2_2 ?l_KIND_SETS_3 ?l_KIND_SETS_3_0 ?l_KIND_SETS_3_1 ?l_KIND_SETS_3_1_1 ?l_KIND_SETS_3_2 ?l_KIND_SETS_3_3 ?l_KIND_SETS_3_3_0 ?l_KIND_SETS_4 ?l_KIND_SETS_4_0 ?l_KIND_SETS_4_1 ?l_KIND_SETS_4_1_1 ?l_KIND_SETS_4_2 ?l_KIND_SETS_4_4 ?l_KIND_SETS_4_4_0 ?z W.pure_law
  (case g_KIND_SETS=>k_is)
  (case l_KIND_SETS=>k_is)
  (case l_KIND_SETS_0=>k_is)
  (case l_KIND_SETS_0_0=>k_is)
  (case l_KIND_SETS_0_0_0=>k_is)
  (case l_KIND_SETS_0_1=>k_is)
  (case l_KIND_SETS_0_1_1=>k_is)
  (case l_KIND_SETS_0_2=>k_is)
  (case l_KIND_SETS_1=>k_is)
  (case l_KIND_SETS_1_0=>k_is)
  (case l_KIND_SETS_1_1=>k_is)
  (case l_KIND_SETS_1_1_1=>k_is)
  (case l_KIND_SETS_1_2=>k_is)
  (case l_KIND_SETS_2=>k_is)
  (case l_KIND_SETS_2_0=>k_is)
  (case l_KIND_SETS_2_1=>k_is)
  (case l_KIND_SETS_2_1_1=>k_is)
  (case l_KIND_SETS_2_2=>k_is)
  (case l_KIND_SETS_3=>k_is)
  (case l_KIND_SETS_3_0=>k_is)
  (case l_KIND_SETS_3_1=>k_is)
  (case l_KIND_SETS_3_1_1=>k_is)
  (case l_KIND_SETS_3_2=>k_is)
  (case l_KIND_SETS_3_3=>k_is)
  (case l_KIND_SETS_3_3_0=>k_is)
  (case l_KIND_SETS_4=>k_is)
  (case l_KIND_SETS_4_0=>k_is)
  (case l_KIND_SETS_4_1=>k_is)
  (case l_KIND_SETS_4_1_1=>k_is)
  (case l_KIND_SETS_4_2=>k_is)
  (case l_KIND_SETS_4_4=>k_is)
  (case l_KIND_SETS_4_4_0=>k_is)
  (case z=>intro b hb;simp only[DL.bltL,zu,ja,or_false]at hb;rcases hb with rfl|rfl|rfl|rfl|rfl|rfl|rfl|rfl|rfl|rfl|rfl|rfl|rfl|rfl|rfl|rfl|rfl|rfl|rfl|rfl<;>k_is)
  (case Y0=>walk_at "fh")
  (case Y25=>walk_at "fh")
  (case Y50=>walk_at "fh")
  all_goals (refine' DL.CC.of ?g ?r;(case g=>k_is);(case r=>walk_at "cr"))
