import PyProof.Rows.All
import Wide.All
import OpenK.AllK
import PySem.Challenge.RW_allmeet_k22_meets_of_records
set_option Elab.async false
set_option linter.all false
set_option maxRecDepth 100000
open PySem renaming wpAny_bind→za,wpAny_pure→zi,Value→zk,sizeLine→zq,wpAny→zw,Shared→zD,model→zG,wpAny_ite_split→zR,wpAny_setState_of→zV,starEach→zW,compareOp→zZ,bootBuiltins→je,Program→jh,World→jq,wpAny_call_entry→jA,wpAny_holding→jB,Around→jC,mainGlobals→jF,wpAny_loadPart'→jH,wpAny_callSpecial?_slot→jJ,wpAny_mono→jS,binaryOp→yb,plainId_quiet→yc,codeAny_builtin→yd,Builtin→yg,wpAny_seqItems→yn,wpAny_setField_rec→yo,wpAny_Call_Name_kw→yp,wpAny_field→yq,wpAny_truthy_bool→yA,wpAny_newObj_type→yL,IsPair→yQ,sizeLine_eq→yR,wpAny_rule→yS,sysModules→yT,mem_of_lookup→xb,foldedSetIterable→xc,backTo→xi,rawInt→xp,cLine→xq,sliceBounds→xx,assignEach→xB,attributeBase→xG,builtinLookup_eq_fast→xH,wpAny_pyIter_list→xJ,wpAny_letGo→xR,pyNext→xS,FuncData→xT,wpAny_typeOf→xX,wpAny_askSetting→xY,wpAny_newList→Zb,wpAny_attempt→Zc,wpAny_updateSeq→Ze,letOwnedTupleGo→Zf,typeIs_int→Zi,call_meets→Zj,wpAny_storeSet_of→Zq,isSubtype_type→Zr,codeAny→Zs,wpAny_isInstance→Zz,strIterType→ZL,typeLookup_type→ZR,IsZip→ZW,codeAny_mono→ZX,pickOrder→Ya,tupleKind_room_in1→Yb,keywordEach→Yl,fits_of_scanBound→Ym,wpAny_standAt→Ys,scanBound→YG,setEntries→YV,assign→YW,BindsTo→YY,wpAny_ite_false→Xb,wpAny_execs_nil→Xc,wpAny_updateSeq_pair→Xr,wpAny_tryCatch→Xs,relayAll→Xt,tupleKind→Xw,setNext→Xx,holding→Xy,callerA→Xz,ElemsOf→XD,wpAny_onRaise→XO,behindInMarks→XQ,MulOk→XR,typeLookup→XX,setRoomFor→XY,slot_list_getitem→Ji,getItem→Jk,backToKw→Jl,wpAny_forIn_list→JA,slicePick→JB,pyIter→JC,noFill_tuple_add→JD,argsOk→JE,wpAny_of_eq→JU,richCompare→JV
open List renaming length_map→zg,getElem?_eq_getElem→zj,size_toArray→zo,mem_cons→zy,mem_cons_of_mem→zA,mem_singleton→zB,replicate→zC,mem_map→zF,mem_cons_self→zH,getElem?_cons_zero→zI,length_append→zJ,length_cons→zM,map_cons→zO,mem_append_right→zP,getElem?_append_left→zQ,getElem?_set_self→zS,getElem?_eq_none→zT,getElem?_map→zU,getElem?_set_ne→zX,getElem?_cons_succ→ja,getD_eq_getElem?_getD→jb,mem_append→jd,pairwise_cons→jf,not_mem_nil→jg,range→ji,getElem?_eq_some_iff→jl,mergeSort_perm→jv,toArray→jw,map_append→jD,length_singleton→jI,mem_filter→jL,getElem_mem→jW,set_cons_succ→jY,map_map→jZ,all_eq_true→ya,filterMap_cons→yf,pairwise_map→yh,length_range→yi,mem_iff_getElem?→yj,foldl_cons→yk,set_cons_zero→ym,any_cons→yr,all_cons→yt,mem_range→yx,replicate_succ→yy,length_nil→yz,pairwise_singleton→yF,flatten_cons→yG,append_assoc→yH,lookup_cons→yO,getElem?_append_right→yP,find?_cons→yU,append_nil→yV,nodup_append→yW,mem_of_getElem?→yX,mem_append_left→yY,any_eq_true→xh,range_succ_eq_map→xo,nodup_cons→xv,nil_append→xw,length_filter_le→xA,ext_getElem→xL,drop_eq_getElem_cons→xQ,pairwise_mergeSort→xZ,length→Za,ext_getElem?→Zg,all_map→Zh,cons_lt_cons_iff→Zo,length_take→Zp,length_set→Zy,mem_map_of_mem→ZE,filter_sublist→ZG,map_nil→ZI,any_map→ZJ,zip_cons_cons→ZP,nodup_iff_pairwise_ne→ZQ,range'→ZZ,length_eq_zero_iff→Ye,getElem?_replicate→Yf,filter_cons_of_pos→Yg,filter_cons_of_neg→Yh,foldl→Yr,length_zip→Yv,forIn_cons→Yw,filter_map→Yx,set_append_right→YE,length_replicate→YF,pairwise_append→YO,mem_iff_getElem→YQ,lt_irrefl→YR,filterMap→YS,map_eq_nil_iff→Xh,filterMap_map→Xq,reverse_cons→XG,getElem?_set→XH,prefix_refl→XV,getElem_inj→XW,eq_nil_of_length_eq_zero→Ja,of_mem_zip→Jg,dropLast_concat_getLast→Jh,forIn_nil→Jz,getElem?_zip_eq_some→JS,getElem?_eq_none_iff→JT
open PySem.Heap renaming get?_push_of_some→zh,get?_push_size→zt,lt_size→zu,SameBut→jy,get?_update_self→jP,get?_update_other→jU,size_push→yw,get?_update_ne→xf,get?_push_ne→xC,ExtBut→XZ
open PySem.W renaming Frag→zn,keepIn→yD,fnOf→yK,nsIn→Zw,findIn→ZB,codeIn→ZC,mg_of→YL,methodObj→Xi,kas_ask→XI,cellsFrom_some→JF
open Nat renaming le_refl→zp,ne_of_lt→zE,le_trans→zK,zero_le→zY,lt_of_lt_of_le→jn,le_add_right→jr,lt_succ_of_lt→jR,ne_of_gt→jX,le_of_lt→yM,lt_irrefl→yN,lt_succ_self→xO,le_of_eq→xP,lt_trans→Zl,lt_or_ge→Zm,sub_succ_lt_self→Xa,mod_lt→Xv
open Array renaming length_toList→zL,getElem?_toList→jz,getElem?_eq_getElem→xM,size_map→Zd,toArray_toList→Zv,getD_eq_getD_getElem?→ZH,getD→Xn,toList_inj→XL,eq_empty_of_size_eq_zero→XM,perm_iff_toList_perm→Jq
open Option.some renaming injEq→zN,inj→jc
open Bool renaming and_eq_true→jk,false_ne_true→jm,false_eq_true→jo,not_eq_true'→yI,eq_false_iff→yZ,or_false→Zu,or_eq_false_iff→YT,and_false→YU
open PySem.Str renaming ofString→jp
open Classical renaming byContradiction→js,choose→Xm
open Int renaming emod_lt_of_pos→jt,emod_nonneg→jx,toNat_natCast→jE,eq_ofNat_of_zero_le→xk,le_refl→Zx,le_trans→Yz
open PySem.Builtin.SmallTypes renaming nextOf→ju,ownedTupleIsFree→yC,ownedTupleHandOut→ZO
open PySem.Obj renaming mapSeq→jG,putSet→xI
open PySem.Around renaming under_plainId→jK
open PySem.SetTable renaming sizeAbove→jM,bits→xl,grown→xy,fits→xK,turns→Yn,fresh→Yo,below→Yp,leap→YH,laid→YI,roomFor→Xo,runEnd→XA,road→Jc,fill→Jd
open PyProof.Rows renaming seqObj→jN,slot_tuple_getitem→jQ,callWith_type1→yE,kindOf→Zk,size_push'→Yd,Keyed→Yq,envOfC→Yu,subscriptTail_builtinR→YZ,entry_list_sort→Xe,arrOf→Xf,IsTup→Xg,slot_list_sort→Xu,AllBare→XE,listUpdate_at→XU,plain_sorted→Jn,keyKind_strs→Jo,entry_sorted→Jp,kind_sorted→JZ
open PySem.SetTable.layClean renaming free→jO
open PySem.Heap.SameBut renaming update→jT,refl→yB
open PySem.Builtin.List renaming listExtendWith→jV,listLengthHint→xj,listTooLong→xE,listSameRef→xF,listItems→XS
open PySem.SeqAt renaming EqAt→ye,RcNeAt→Yi,RcAt→Xj
open List.cons renaming inj→yJ
open PySem.F renaming called_set→xa,slot_tuple_iterator_next→xN,plain_min_loop→xU,plain_max_loop→xV,slot_tuple_mul→ZD,plain_extend_loop→ZM,args_tuple_add_2→ZS,entry_tuple_add→ZY,slot_tuple_add→Yc,slot_list_getattribute→Yj,slot_dict_get→Yk,slot_zip_next→YM,slot_int_rmul→YN,slot_tuple_rmul→Ju,plain_list_iadd→Jv,plainAttrs_list→Jw,args_dict_get_3→Jx,entry_dict_get→JP,args_tuple_iterator_next_1→JQ,entry_tuple_iterator_next→JY
open Prod.mk renaming inj→xg
open PySem.Calls renaming spliced_cons→xm,spliced_nil→xz,call_function_entry→ZU,Name_function_global→Jm
open False renaming elim→xn
open PySem.Paired renaming length→xr
open Function renaming comp_def→xt
open PySem.Builtin.Slice renaming slicePlaces→xu,sliceAdjust→Zt,sliceApplied→Xl
open PySem.Builtin.Tuple renaming tupleExact→xD,tupleItemsOf→Xk
open Option renaming map_some→xW,isSome_map→ZV,ne_none_iff_exists'→Jf,isSome_iff_exists→Jy
open PySem.Builtin.Frozenset renaming addrOf→Zn,updateFrom→Yt,unchanged→YC,isAnySet→YJ,slot1→Xd
open ToString renaming toString→ZK
open PySem.Builtin.Str renaming occurrences→ZN
open List.Pairwise renaming imp→Yy
open PySem.SeqAt.EqAt renaming str_int→YA,int_str→YB,same→Xp,none_bool→Jr,bool_none→Js,bool_bool→Jt,str_none→JG,str_bool→JH,none_str→JI,none_int→JJ,int_none→JK,int_bool→JM,bool_str→JN,bool_int→JO,str_str→JW,int_int→JX
open PySem.AutoSeq1 renaming wpAny_loadPart'→YD
open PySem.Builtin.Builtins renaming bindParams→YK
open PySem.Txt renaming join→YX
open PySem.MeetsSeq2 renaming wpAny_forIn_array→XB
open Prod renaming ext→XF
open PySem.Builtin.Dict renaming updateFrom→XJ,pairItems→XT
open List.Perm renaming eq_of_pairwise→Jb
open PySem.Heap.IsSliceOf renaming new→Je
open PySem.pickOrder renaming go→Jj
noncomputable section
abbrev VSP:=zk->zD->Prop
abbrev PNS:=List (PySem.Addr×PySem.Obj)
namespace L2
open PySem PySem.Spec PyProof.Rows
def J4{a:α}{P:Prop}(h:none=some a):P:=nomatch h
def oG{a:α}{P:Prop}(h:some a=none):P:=nomatch h
def SA{P:Prop}(h:false=true):P:=nomatch h
def kH{a:α}{l:List α}{P:Prop}(h: []=a::l):P:=nomatch h
def QJ{a:α}{l:List α}{P:Prop}(h:a::l= []):P:=nomatch h
abbrev Key:=Sum Int Str
def sB:Key->zk->Bool
 | .inl k,v=>Value.isInt k v
 | .inr x,v=>Value.isStrOf x v
def Vd(w:jq):Key->Int
 | .inl k=>hashInt k
 | .inr x=>hashStr w x
def O5:∀ {k} {v},sB k v=true->(∃i t,k=Sum.inl i/\v=Value.int i t)\/(∃x t,k=Sum.inr x/\v=Value.str x t)
 | .inl i,v,h=>by obtain⟨t,e⟩:=Value.isInt_shape (k:=i) (v:=v) h;exact .inl ⟨i,t,rfl,e⟩
 | .inr x,v,h=>by obtain⟨t,e⟩:=Value.isStrOf_shape (x:=x) (v:=v) h;exact .inr ⟨x,t,rfl,e⟩
def Sx(i:Int)(t:Tok):sB (.inl i) (.int i t)=true:=by simp[sB,Value.isInt]
def mf(x:Str)(t:Tok):sB (.inr x) (.str x t)=true:=by simp[sB,Value.isStrOf]
def iX(a b:Int):decide ((Sum.inl a:Key)=Sum.inl b)= (a==b):=by
 by_cases e:a=b
 ·subst e;simp
 ·have h:¬(Sum.inl a:Key)=Sum.inl b:=λq=>e (Sum.inl.inj q);rw[decide_eq_false h];exact(beq_eq_false_iff_ne.mpr e).symm
def nh(a b:Str):decide ((Sum.inr a:Key)=Sum.inr b)=decide (a=b):=by
 by_cases e:a=b
 ·subst e;simp
 ·have h:¬(Sum.inr a:Key)=Sum.inr b:=λq=>e (Sum.inr.inj q);rw[decide_eq_false h,decide_eq_false e]
def dY(a:Int)(b:Str):decide ((Sum.inl a:Key)=Sum.inr b)=false:=decide_eq_false (λq=>nomatch q)
def Hx(a:Str)(b:Int):decide ((Sum.inr a:Key)=Sum.inl b)=false:=decide_eq_false (λq=>nomatch q)
def M9(prog:jh)(w:jq):PySem.KeyKind prog w Key where
 is:=sB
 hash:=Vd w
 inj:=λv a b ha hb=>by
  rcases O5 ha with⟨i,t,rfl,rfl⟩|⟨x,t,rfl,rfl⟩
  · rcases O5 hb with⟨j,u,rfl,e⟩|⟨y,u,rfl,e⟩
    ·injection e with e1 _;rw[e1]
    ·exact nomatch e
  · rcases O5 hb with⟨j,u,rfl,e⟩|⟨y,u,rfl,e⟩
    ·exact nomatch e
    ·injection e with e1 _;rw[e1]
 byValue:=λk v h=>by rcases O5 h with⟨i,t,rfl,rfl⟩|⟨x,t,rfl,rfl⟩<;>rfl
 pyHash:=λhv h=>by
  rcases O5 hv with⟨i,t,rfl,rfl⟩|⟨x,t,rfl,rfl⟩
  ·exact wpAny_pyHash_int h
  ·exact wpAny_pyHash_str h
 eqBool:=λhu hv h=>by
  rcases O5 hu with⟨i,t,rfl,rfl⟩|⟨x,t,rfl,rfl⟩
  · rcases O5 hv with⟨j,u,rfl,rfl⟩|⟨y,u,rfl,rfl⟩
    ·rw[iX]at h;exact wpAny_eqBool_int h
    ·rw[dY]at h;exact YB i t y u _ _ _ _ h
  · rcases O5 hv with⟨j,u,rfl,rfl⟩|⟨y,u,rfl,rfl⟩
    ·rw[Hx]at h;exact YA x t j u _ _ _ _ h
    ·rw[nh]at h;exact wpAny_eqBool_str h
 «strs»:=λk x t v h=>by
  rcases O5 h with⟨i,u,rfl,e⟩|⟨y,u,rfl,e⟩
  ·exact nomatch e
  · injection e with e1 _;subst e1
    cases v<;>rfl
def rb(prog:jh)(w:jq)(i:Int)(t:Tok):(M9 prog w).is (.inl i) (.int i t)=true:=Sx i t
def RX(prog:jh)(w:jq)(x:Str)(t:Tok):(M9 prog w).is (.inr x) (.str x t)=true:=mf x t
inductive V where
 |non|bl (b:Bool)|int (i:Int)|str (x:Str)|byt (b:Array UInt8)|flt (b:UInt64)|ref (a:Addr)|ty (n:String)
 deriving DecidableEq
def J5:V->zk->Prop
 | .non,u=>u=Value.none
 | .bl b,u=>u=Value.bool b
 | .int i,u=>∃t,u=Value.int i t
 | .str x,u=>∃t,u=Value.str x t
 | .byt b,u=>∃t,u=Value.bytes b t
 | .flt b,u=>∃t,u=Value.float b t
 | .ref a,u=>u=Value.ref a
 | .ty n,u=>u=Value.type n
abbrev u9:List V->List zk->Prop:=Paired J5
def u9.length(r:u9 xs us):xs.length=us.length:=xr r
theorem u9.get:∀ {xs} {us} {i:Nat} {x:V},u9 xs us->xs[i]? =some x->∃u,us[i]? =some u/\J5 x u
 |_,_,_,_,.nil,e=>by simp at e
 |_,_,0,_,.cons r _,e=>by simp at e;subst e;exact⟨_,rfl,r⟩
 |_,_,i+1,x,.cons _ t,e=>by obtain⟨u,h1,h2⟩:=u9.get (i:=i) (x:=x) t (by simpa using e);exact⟨u,by simpa using h1,h2⟩
theorem u9.set(r:J5 x u):∀ {xs} {us} i,u9 xs us->u9 (xs.set i x) (us.set i u)
 |_,_,_,.nil=>.nil
 |_,_,0,.cons _ t=>.cons r t
 |_,_,i+1,.cons q t=>.cons q (u9.set r i t)
def u9.append(h:u9 xs us)(k:u9 ys ws):u9 (xs++ys) (us++ws):=by
 induction h with
 |nil=>exact k
 |cons r t ih=>exact .cons r ih
theorem u9.take:∀ {xs} {us} n,u9 xs us->u9 (xs.take n) (us.take n)
 |_,_,0,_=>.nil
 |_,_,_+1,.nil=>.nil
 |_,_,n+1,.cons r t=>.cons r (u9.take n t)
theorem u9.drop:∀ {xs} {us} n,u9 xs us->u9 (xs.drop n) (us.drop n)
 |_,_,0,r=>r
 |_,_,_+1,.nil=>.nil
 |_,_,n+1,.cons _ t=>u9.drop n t
def u8:Option V->Option zk->Prop
 |some v,some u=>J5 v u
 |none,none=>True
 |_,_=>False
def KV{κ:Type}:List (κ×V)->List (κ×zk)->Prop:=Paired fun(p:κ×V) (q:κ×zk)=>p.1=q.1/\J5 p.2 q.2
def kV:Key->V
 | .inl i=>.int i
 | .inr x=>.str x
inductive HO where
 /-- a list -/
 |lst (xs:List V)
 /-- a tuple (never changes) -/
 |tup (xs:List V)
 /-- a dict whose keys are ints and texts;one whose keys are tuples of ints and texts (the empty one is both) -/
 |dK (Eg:List (Key×V))|dT (Eg:List (List Key×V))
 /-- a set of ints:Ef members,Ef size -/
 |set (S:Int->Bool) (n:Nat)
 /-- an instance of the class at C,Ef dict at dx,Ef attributes -/
 |ins (C dx:Addr) (fs:List (Str×V))
 /-- the dict of the instance at x -/
 |own (x:Addr)
 /-- the dict of an exception -/
 |xd (fs:List (Str×V))
 /-- a bound method,f of x -/
 |met (f x:Addr)
 /-- a range object lo,lo+1,.. below hi -/
 |rng (lo hi:Int)
 /-- a thing that is known to the object (the script;a dict while a loop walks it):read,never written while it is so -/
 |frz (o:Obj) (u:HO)
 /-- a code object's table -/
 |tbl (ps:Array zk)
 /-- any other thing,by what is true of Ef one object (a def of one's own:SetO a S n:=HO.ext λh=>..) -/
 |ext (φ:Heap->Prop)
abbrev Hp:=Addr->Option HO
def upd(H:Hp)(a:Addr)(o:HO):Hp:=λb=>if b=a then some o else H b
def Q6:upd H a o a=some o:=by unfold upd;rw[if_pos rfl]
def J0(h:b≠a):upd H a o b=H b:=by unfold upd;rw[if_neg h]
def Wf{H:Hp}(h:H a=some o)(h':H b=some u)(d:o≠u):a≠b:=by intro e;subst e;rw[h]at h';exact d (jc h')
def J1{H:Hp}{o:HO}(h:H a=some o)(h':H b=none):a≠b:=by intro e;subst e;rw[h]at h';cases h'
section
variable(P:jh)(w:jq)
def l7(h:Heap)(a:Addr)(items:Array zk):Prop:=∃o,h.get? a=some o/\o.cls= .type "tuple"/\∃n,(o.data,o.dict)= (Data.seq items n,none)
def l7.tup(x:l7 h a items):Xg h a items:=by obtain⟨o,e,c,n,d⟩:=x;exact⟨o,e,c,n,(xg d).1⟩
def l7.new(h:Heap)(items:Array zk):l7 (h.push {cls:=.type "tuple",data:=.seq items}) h.objs.size items:=⟨_,zt _ rfl,rfl,_,rfl⟩
def U5(H:Hp)(h:Heap)(a:Addr):HO->Prop
 | .lst xs=>xs.length<=zq/\∃(Ef:List zk) (n:Nat),u9 xs Ef/\h.get? a=some {cls:=.type "list",data:=.seq Ef.toArray n}
 | .tup xs=>xs.length<=zq/\∃Ef:List zk,u9 xs Ef/\l7 h a Ef.toArray
 | .dK Eg=>Eg.length<=zq/\(a==yT)=false/\∃vs,KV Eg vs/\h.DictOf (M9 P w) a vs
 | .dT Eg=>Eg.length<=zq/\(a==yT)=false/\∃xs:List (List Key×Addr×zk),
    Paired (fun(p:List Key×V) (q:List Key×Addr×zk)=>p.1=q.1/\H q.2.1=some (.tup (p.1.map kV))/\J5 p.2 q.2.2) Eg xs/\
    ∃o es ep,h.get? a=some o/\o.ExactDict/\o.data= .dict es ep/\es.toList=xs.map (entryOfKey (Xw (M9 P w)))/\(xs.map (·.1)).Nodup
 | .set S n=>h.SetOf (intKind P w) a S n
 | .ins C dx fs=>H dx=some (.own a)/\fs.length<=1000/\dx≠a/\h.get? a=some (PySem.W.instObj C dx)/\
    ∃mA,h.Ns1 dx mA/\(∀f,u8 (fs.lookup f) (mA f))/\PySem.Within mA (fs.map (·.1))
 | .own _=>∃o,h.get? a=some o
 | .xd fs=>∃mA,h.Ns1 a mA/\∀f,u8 (fs.lookup f) (mA f)
 | .rng lo hi=>∃t u v,h.get? a=some {cls:=.type "range",data:=.fields #[.int lo t,.int hi u,.int 1 v]}
 | .frz o u=>h.get? a=some o/\U5 H h a u
 | .tbl ps=>h.get? a=some {cls:=.none,data:=.fields ps}
 | .met f x=>h.get? a=some (Xi (.ref f) (.ref x))
 | .ext φ=>φ h/\(∃o,h.get? a=some o)/\∀h1 h2:Heap,φ h1->(∀o,h1.get? a=some o->h2.get? a=some o)->φ h2
def HOk(H:Hp)(h:Heap):Prop:=∀a o,H a=some o->U5 P w H h a o
end
def U5.lt(x:U5 P w H h a o):a<h.objs.size:=by
 cases o with
 |lst xs=>obtain⟨_,_,_,_,e⟩:=x;exact zu e
 |tup xs=>obtain⟨_,_,_,p⟩:=x;exact(l7.tup p).lt
 |dK Eg=>obtain⟨_,_,_,_,o,_,_,e,_⟩:=x;exact zu e
 |dT Eg=>obtain⟨_,_,_,_,o,_,_,e,_⟩:=x;exact zu e
 |set S n=>obtain⟨o,_,_,_,e,_⟩:=x;exact zu e
 |ins C dx fs=>obtain⟨_,_,_,e,_⟩:=x;exact zu e
 |own y=>obtain⟨_,e⟩:=x;exact zu e
 |xd fs=>obtain⟨_,⟨_,_,_,e,_⟩,_⟩:=x;exact zu e
 |rng lo hi=>obtain⟨_,_,_,e⟩:=x;exact zu e
 |frz ob u=>obtain⟨e,_⟩:=x;exact zu e
 |tbl ps=>exact zu (show h.get? a=some _ from x)
 |met f y=>exact zu (show h.get? a=some _ from x)
 |ext φ=>obtain⟨_,⟨_,e⟩,_⟩:=x;exact zu e
def Paired.mapP(h:Paired F l₁ l₂)(f:∀a b,F a b->G a b):Paired G l₁ l₂:=by
 induction h with
 |nil=>exact .nil
 |cons r t ih=>exact .cons (f _ _ r) ih
def U5.stay(x:U5 P w H h a o)(k:∀b u,(b=a\/H b=some (.own a))->h.get? b=some u->h'.get? b=some u)
 (ho:∀b,H b=some (.own a)->H' b=some (.own a)) (ht:∀b xs,H b=some (.tup xs)->H' b=some (.tup xs)):U5 P w H' h' a o:=by
 induction o with
 |lst xs=>obtain⟨z,Ef,n,r,e⟩:=x;exact⟨z,Ef,n,r,k _ _ (.inl rfl) e⟩
 |tup xs=>obtain⟨z,Ef,r,ob,e,c⟩:=x;exact⟨z,Ef,r,ob,k _ _ (.inl rfl) e,c⟩
 |dK Eg=>obtain⟨z,y,vs,r,ob,es,ep,e,c⟩:=x;exact⟨z,y,vs,r,ob,es,ep,k _ _ (.inl rfl) e,c⟩
 |dT Eg=>
   obtain⟨z,y,xs,r,ob,es,ep,e,c⟩:=x;exact⟨z,y,xs,Paired.mapP r λp q z=>⟨z.1,ht _ _ z.2.1,z.2.2⟩,ob,es,ep,k _ _ (.inl rfl) e,c⟩
 |set S n=>obtain⟨ob,es,ep,t,e,c⟩:=x;exact⟨ob,es,ep,t,k _ _ (.inl rfl) e,c⟩
 |ins C dx fs=>
   obtain⟨d,z,ne,e,mA,⟨od,es,ep,e2,c⟩,r⟩:=x;exact⟨ho _ d,z,ne,k _ _ (.inl rfl) e,mA,⟨od,es,ep,k _ _ (.inr d) e2,c⟩,r⟩
 |own y=>obtain⟨ob,e⟩:=x;exact⟨ob,k _ _ (.inl rfl) e⟩
 |xd fs=>obtain⟨mA,⟨od,es,ep,e,c⟩,r⟩:=x;exact⟨mA,⟨od,es,ep,k _ _ (.inl rfl) e,c⟩,r⟩
 |rng lo hi=>obtain⟨t,u,v,e⟩:=x;exact⟨t,u,v,k _ _ (.inl rfl) e⟩
 |frz ob u ih=>obtain⟨e,q⟩:=x;exact⟨k _ _ (.inl rfl) e,ih q⟩
 |tbl ps=>
   have e:h.get? a=some {cls:=.none,data:=.fields ps}:=x;show h'.get? a=some {cls:=.none,data:=.fields ps};exact k a _ (.inl rfl) e
 |met f y=>
   have e:h.get? a=some (Xi (.ref f) (.ref y)):=x;show h'.get? a=some (Xi (.ref f) (.ref y));exact k a _ (.inl rfl) e
 |ext φ=>obtain⟨p,⟨o,e⟩,st⟩:=x;exact⟨st _ _ p λo q=>k _ _ (.inl rfl) q,⟨o,k _ _ (.inl rfl) e⟩,st⟩
def HOk.lt(x:HOk P w H h)(e:H a=some o):a<h.objs.size:=(x a o e).lt
def HOk.fresh(x:HOk P w H h)(e:h.objs.size<=a):H a=none:=by
 cases q:H a with
 |none=>rfl
 |some u=>exact absurd (jn (x.lt q) e) (yN _)
def HOk.kept(x:HOk P w H h)(k:∀b u,h.get? b=some u->h'.get? b=some u):HOk P w H h':=λa o e=>
 (x a o e).stay (λb u _ q=>k b u q) (λ_ q=>q) λ_ _ q=>q
def HOk.laid(x:HOk P w H h)(k:∀b u,h.get? b=some u->h'.get? b=some u)(hp:h.objs.size<=a)(new:U5 P w (upd H a o) h' a o):HOk P w (upd H a o) h':=λb u e=>by
 have hn:=x.fresh hp;by_cases hb:b=a
 ·subst hb;rw[Q6]at e;cases e;exact new
 ·rw[J0 hb]at e;exact(x b u e).stay (λc v _ q=>k c v q) (λc q=>by rw[J0 (J1 q hn)];exact q) λc xs q=>by rw[J0 (J1 q hn)];exact q
def Rd(H:Hp)(a:Addr)(u:HO):Prop:=H a=some u\/∃o,H a=some (.frz o u)
def Rd.ok(r:Rd H a u)(x:HOk P w H h):U5 P w H h a u:=by
 rcases r with r|⟨o,r⟩
 ·exact x a u r
 ·obtain⟨_,q⟩:=x a _ r;exact q
def Mut:Option HO->Prop
 |some (.lst _)=>True
 |some (.dK _)=>True
 |some (.dT _)=>True
 |some (.set _ _)=>True
 |some (.ins _ _ _)=>True
 |some (.ext _)=>True
 |_=>False
def HOk.write(ok:HOk P w H h)(mu:Mut (H x))(he:e=x\/H e=some (.own x))(k:∀b u,b≠e->h.get? b=some u->h'.get? b=some u)(heo:∃u,h'.get? e=some u)
 (new:U5 P w (upd H x o') h' x o'):HOk P w (upd H x o') h':=λb u q=>by
 have nown:∀c y,H c=some (.own y)->c≠x:=λc y r z=>by subst z;rw[r]at mu;exact mu
 have ntup:∀c xs,H c=some (.tup xs)->c≠x:=λc xs r z=>by subst z;rw[r]at mu;exact mu
 by_cases hb:b=x
 ·subst hb;rw[Q6]at q;cases q;exact new
 · rw[J0 hb]at q;by_cases hbe:b=e
   · have q':H b=some (.own x):=by
      rcases he with z|z
      ·exact absurd (hbe.trans z) hb
      ·rw[hbe];exact z
     rw[q]at q';cases q';obtain⟨v,hv⟩:=heo;exact⟨v,by rw[hbe];exact hv⟩
   · refine(ok b u q).stay (λc v hc r=>k c v ?_ r) (λc r=>by rw[J0 (nown c b r)];exact r) λc xs r=>by rw[J0 (ntup c xs r)];exact r
     rcases hc with rfl|hc
     ·exact hbe
     · rintro rfl;rcases he with z|z
       ·exact nown c b hc z
       ·rw[hc]at z;cases z;exact hb rfl
structure Un(fs ex:List Addr)(H H':Hp)(h h':Heap):Prop where
 keep:∀b o,h.get? b=some o->H b=none->b∉fs->b∉ex->h'.get? b=some o
 slot:∀b o,h.get? b=some o->H b=none->b∈fs->b∉ex->∃sl,h'.get? b=some {o with slots:=sl}
 free:∀b o,h.get? b=some o->H b=none->b∉ex->H' b=none
 there:∀b o,h.get? b=some o->b∉ex->∃o',h'.get? b=some o'
 tups:∀b xs,H b=some (.tup xs)->H' b=some (.tup xs)
 frzs:∀b o u,H b=some (.frz o u)->H' b=some (.frz o u)
 tbls:∀b ps,H b=some (.tbl ps)->∃more,H' b=some (.tbl (ps++more))
def Un.any(u:Un fs ex H H1 h h1)(q:h.get? b=some ob)(n:H b=none)(hx:b∉ex):∃sl,h1.get? b=some {ob with slots:=sl}:=by
 by_cases hb:b∈fs
 ·exact u.slot b ob q n hb hx
 ·exact⟨ob.slots,u.keep b ob q n hb hx⟩
def Un.kept(k:∀b u,h.get? b=some u->h'.get? b=some u):Un fs ex H H h h':=
 ⟨λb ob q _ _ _=>k b ob q,λb ob q _ _ _=>⟨ob.slots,k b ob q⟩,λ_ _ _ n _=>n,λb ob q _=>⟨ob,k b ob q⟩,λ_ _ q=>q,λ_ _ _ q=>q,λ_ ps q=>⟨#[],by rw[q];simp⟩⟩
def Un.refl:Un fs ex H H h h:=Un.kept λ_ _ q=>q
def Un.laid(k:∀b u,h.get? b=some u->h'.get? b=some u)(hp:h.objs.size<=a)(hn:H a=none):Un fs ex H (upd H a o) h h' where
 keep:=λb u q _ _ _=>k b u q
 slot:=λb u q _ _ _=>⟨u.slots,k b u q⟩
 free:=λb u q n _=>by rw[J0 (zE (jn (zu q) hp))];exact n
 there:=λb u q _=>⟨u,k b u q⟩
 tups:=λb xs q=>by rw[J0 (J1 q hn)];exact q
 frzs:=λb u xs q=>by rw[J0 (J1 q hn)];exact q
 tbls:=λb ps q=>⟨#[],by rw[J0 (J1 q hn),q];simp⟩
def Un.write(mu:Mut (H x))(he:e=x\/H e=some (.own x))(k:∀b u,b≠e->h.get? b=some u->h'.get? b=some u)(heo:∃u,h'.get? e=some u):Un fs ex H (upd H x o) h h':=by
 have hx:∀b,H b=none->b≠x:=λb n z=>by subst z;rw[n]at mu;exact mu
 have hb:∀b,H b=none->b≠e:=λb n z=>by
  subst z;rcases he with r|r
  ·exact hx b n r
  ·rw[n]at r;cases r
 have hm:∀b u,H b=some u->¬Mut (some u)->b≠x:=λb u q nm z=>by subst z;rw[q]at mu;exact nm mu
 refine⟨λb u q n _ _=>k b u (hb b n) q,λb u q n _ _=>⟨u.slots,k b u (hb b n) q⟩,λb u q n _=>by rw[J0 (hx b n)];exact n,λb u q _=>?_,
  λb xs q=>by rw[J0 (hm b _ q λz=>z)];exact q,λb u xs q=>by rw[J0 (hm b _ q λz=>z)];exact q,λb ps q=>⟨#[],by rw[J0 (hm b _ q λz=>z),q];simp⟩⟩
 by_cases hbe:b=e
 ·subst hbe;exact heo
 ·exact⟨u,k b u hbe q⟩
def trk(h:Heap)(H:Hp):List Addr:=(ji h.objs.size).filter λa=>(H a).isSome
def IA(h:Heap)(H:Hp):Heap:=PySem.W.hideAll h (trk h H)
def bt(h:Heap)(H:Hp):(IA h H).objs.size=h.objs.size:=PySem.W.hideAll_size _ _
def fv(e:h.get? b=some o)(n:H b=none):(IA h H).get? b=some o:=
 PySem.W.hideAll_get _ e λhm=>by have q:(H b).isSome=true:=(jL.mp hm).2;rw[n]at q;simp at q
def gX(e:(IA h H).get? b=some o):h.get? b=some o/\H b=none:=by
 have e':h.get? b=some o:=PySem.W.of_hideAll (trk h H) e;refine⟨e',?_⟩
 cases q:H b with
 |none=>rfl
 |some x=>
   have hm:b∈trk h H:=jL.mpr ⟨yx.mpr (zu e'),by simp[q]⟩;have z:(IA h H).get? b=none:=PySem.W.hideAll_none (trk h H) hm;rw[z]at e;cases e
def Av(g h:Heap)(L:Addr):PNS:=(ji h.objs.size).filterMap λa=>if a=L\/(g.get? a).isSome=true then none else (h.get? a).map λo=>(a,o)
def Q8(g h:Heap)(L d:Addr):PNS:=(Av g h L).filter λp=>decide (p.1≠d)
structure Mod(K:zn)(mg:Str->Option zk)(base:Heap):Prop where
 kin:K.In base
 glob:base.Ns jF mg
 blt:∃mb,base.Ns builtinsNs mb/\∀x:Str,x≠ "__name__"->mb x=je x
 nolimit:base.NoLimit
structure Cx where
 prog:jh
 w:jq
 K:zn
 mg:Str->Option zk
 base:Heap
 A:jC
 N:List Str
 WX:zD
 H₀:Hp
 env:Env
 outer:List Env
 stack:List Env
 ex:List Addr
 fn:Str->Bool
 calm:Bool
 pn:PNS
 xe:VSP
def frs(l:List Env):List Addr:=l.filterMap (·.frame)
abbrev Cx.fs(X:Cx):List Addr:=frs X.outer
def Vis(sc:Scope)(x:Str):Prop:=sc.names.lookup x=some .local\/sc.names.lookup x=some .cell\/sc.names.lookup x=some .free
def Loc(sc:Scope)(x:Str):Prop:=sc.names.lookup x=some .local\/sc.names.lookup x=some .cell
def wu(env:Env)(h:Heap)(m:Str->Option zk)(x:Str)(u:zk):Prop:=
 (env.kindOf x=some .local/\m x=some u)\/((env.kindOf x=some .cell\/env.kindOf x=some .free)/\∃c,env.cells.lookup x=some c/\h.IsCell c (some u))
structure Cx.Ok(X:Cx):Prop where
 mod:Mod X.K X.mg X.base
 kind:X.env.scope.kind= .function
 glob:X.env.globals=jF
 blt:X.env.builtins=builtinsNs
 above:X.WX.heap.objs.size<=X.env.locals
 inj:∀x y c,X.env.cells.lookup x=some c->X.env.cells.lookup y=some c->x=y
 has:∀x,(X.env.kindOf x=some .cell\/X.env.kindOf x=some .free)->∃c,X.env.cells.lookup x=some c
 cab:∀x c,X.fn x=true->X.env.cells.lookup x=some c->X.WX.heap.objs.size<=c
 hd:X.calm=true->X.A.handled=none
 frames:X.A.frames=some X.stack
 stk:X.stack=X.outer\/(X.stack=X.env::X.outer/\X.env.frame=some X.env.locals)
 exf:∀b∈X.ex,b≠X.env.locals/\∀x c,X.env.cells.lookup x=some c->c≠b
 bs:∀b o,X.base.get? b=some o->X.WX.heap.get? b=some o/\X.H₀ b=none
 bsz:X.base.objs.size<=X.WX.heap.objs.size
 noex:∀b o,X.base.get? b=some o->b∉X.ex
 exfs:∀b∈X.ex,b∉X.fs
 funs:X.WX.heap.FunFrames X.base X.outer
 frf:∀b∈X.fs,X.H₀ b=none
 gd:X.A.guards=some []
structure Inv(X:Cx)(Ee:PNS)(σ:List (Option V))(H:Hp)(s:zD):Prop where
 ok:X.Ok
 os:s.os=X.WX.os
 bare:XE s.gens
 base:Un X.fs X.ex X.H₀ H X.WX.heap s.heap
 loc:∃m,s.heap.Ns X.env.locals m/\∀(i:Nat) (x:Str) (v:V),X.N[i]? =some x->σ[i]? =some (some v)->Vis X.env.scope x->∃u,J5 v u/\wu X.env s.heap m x u
 cell:∀x c,X.env.cells.lookup x=some c->∃v,s.heap.IsCell c v
 free:H X.env.locals=none
 freeC:∀x c,X.env.cells.lookup x=some c->H c=none
 pin:∀p∈X.pn++Ee,s.heap.get? p.1=some p.2/\H p.1=none/\p.1≠X.env.locals/\p.1∉X.fs/\∀v,p.2.data≠ .cell v
 hok:HOk X.prog X.w H s.heap
 len:σ.length=X.N.length
section
variable{X:Cx}{Ee:PNS}{σ:List (Option V)}{H H':Hp}{s:zD}
def Cx.Ok.nofr(ok:X.Ok)(e:X.base.get? b=some o):b∉X.fs:=λhb=>by have:=(ok.funs.mem hb).1;rw[e]at this;cases this
def Inv.bs(I:Inv X Ee σ H s):∀b o,X.base.get? b=some o->s.heap.get? b=some o/\H b=none:=λb o e=>
 ⟨I.base.keep b o (I.ok.bs b o e).1 (I.ok.bs b o e).2 (I.ok.nofr e) (I.ok.noex b o e),I.base.free b o (I.ok.bs b o e).1 (I.ok.bs b o e).2 (I.ok.noex b o e)⟩
def Inv.bk(I:Inv X Ee σ H s):∀b o,X.base.get? b=some o->s.heap.get? b=some o:=λb o e=>(I.bs b o e).1
def Inv.mod(I:Inv X Ee σ H s):Mod X.K X.mg X.base:=I.ok.mod
def Inv.kIn(I:Inv X Ee σ H s):X.K.In s.heap:=I.ok.mod.kin.keeps I.bk
def Inv.lt(I:Inv X Ee σ H s):X.env.locals<s.heap.objs.size:=let ⟨_,hn,_⟩:=I.loc;hn.lt
def Inv.sz(I:Inv X Ee σ H s):X.WX.heap.objs.size<=s.heap.objs.size:=zK I.ok.above (yM I.lt)
def Inv.nofs(I:Inv X Ee σ H s)(h:s.heap.objs.size<=a):a∉X.fs:=λhb=>by obtain⟨_,o,ho,_⟩:=I.ok.funs.mem hb;exact absurd (jn (zu ho) (zK I.sz h)) (yN _)
def Inv.cne(I:Inv X Ee σ H s):∀x c,X.env.cells.lookup x=some c->c≠X.env.locals:=λx c e z=>by obtain⟨v,o,ho,hd⟩:=I.cell x c e;obtain⟨m,⟨o',es,ep,ho',Hl,_⟩,_⟩:=I.loc;rw[z,ho']at ho;cases ho;rw[Hl]at hd;cases hd
def Inv.funs(I:Inv X Ee σ H s):s.heap.FunFrames X.base X.outer:=by
 have all:∀(l:List Env),(∀b∈frs l,b∈X.fs)->X.WX.heap.FunFrames X.base l->s.heap.FunFrames X.base l:=by
  intro l
  induction l with
  |nil=>intro _ _;trivial
  |cons env r ih=>
    intro hs hl;obtain⟨hk,⟨L,o,hf,hn,ho,hd⟩,hr⟩:=hl;have hL:L∈X.fs:=hs L (by unfold frs;rw[yf,hf];exact zH);obtain⟨sl,e⟩:=I.base.slot L o ho (I.ok.frf L hL) hL λz=>I.ok.exfs L z hL;exact⟨hk,⟨L,_,hf,hn,e,hd⟩,ih (λb hb=>hs b (by unfold frs;rw[yf,hf];exact zA _ hb)) hr⟩
 exact all X.outer (λ_ hb=>hb) I.ok.funs
def Inv.stack(I:Inv X Ee σ H s):s.heap.FunFrames X.base X.stack:=by
 rcases I.ok.stk with e|⟨e,hf⟩
 ·rw[e];exact I.funs
 ·rw[e];obtain⟨m,hn,_⟩:=I.loc;refine .cons (by rw[I.ok.kind];decide) hf hn ?_ I.funs;exact Heap.get?_none_of_le (zK I.ok.bsz I.ok.above)
def Inv.stkSub(I:Inv X Ee σ H s):∀b∈frs X.stack,b∈X.env.locals::X.fs:=λb hb=>by
 rcases I.ok.stk with e|⟨e,hf⟩
 ·rw[e]at hb;exact zA _ hb
 ·rw[e]at hb;unfold frs at hb;rw[yf,hf]at hb;exact hb
def Inv.stkFree(I:Inv X Ee σ H s):∀b∈frs X.stack,H b=none:=λb hb=>by
 rcases zy.mp (I.stkSub b hb)with e|hb
 ·rw[e];exact I.free
 ·obtain⟨_,o,ho,_⟩:=I.ok.funs.mem hb;exact I.base.free b o ho (I.ok.frf b hb) λz=>I.ok.exfs b z hb
def Inv.step{t':Nat}{d':Drawn}{ch:List Addr}(I:Inv X Ee σ H s)
 (hch:∀b∈ch,(b∈X.ex\/X.WX.heap.objs.size<=b)/\b≠X.env.locals/\(∀x c,X.env.cells.lookup x=some c->c≠b)/\∀p∈X.pn++Ee,p.1≠b)
 (keep:∀b o,b≠X.env.locals->b∉X.fs->b∉ch->s.heap.get? b=some o->H b=none->h'.get? b=some o)
 (slot:∀b o,b≠X.env.locals->b∈X.fs->b∉ch->s.heap.get? b=some o->H b=none->∃sl,h'.get? b=some {o with slots:=sl}) (free:∀b o,b∉ch->s.heap.get? b=some o->H b=none->H' b=none)
 (there:∀b o,b∉ch->s.heap.get? b=some o->∃o',h'.get? b=some o')
 (tups:∀b xs,H b=some (.tup xs)->H' b=some (.tup xs)) (frzs:∀b o u,H b=some (.frz o u)->H' b=some (.frz o u)) (tbls:∀b ps,H b=some (.tbl ps)->∃more,H' b=some (.tbl (ps++more)))
 (ns:∀m,s.heap.Ns X.env.locals m->h'.Ns X.env.locals m) (hok:HOk X.prog X.w H' h') (hg:XE g'):
 Inv X Ee σ H' {s with heap:=h',gens:=g',drawn:=d',toks:=t'}:=by
 have neL:∀b o,X.WX.heap.get? b=some o->b≠X.env.locals:=λb o e=>zE (jn (zu e) I.ok.above);have neC:∀b o,X.WX.heap.get? b=some o->b∉X.ex->b∉ch:=λb o e hx hb=>by
  rcases (hch b hb).1 with z|z
  ·exact hx z
  ·exact absurd (jn (zu e) z) (yN _)
 have cellK:∀x c,X.env.cells.lookup x=some c->∀v,s.heap.IsCell c v->h'.IsCell c v:=λx c e v ⟨o,ho,hd⟩=>by
  have nch:c∉ch:=λz=>(hch c z).2.2.1 x c e rfl;by_cases hc:c∈X.fs
  ·obtain⟨sl,q⟩:=slot c o (I.cne x c e) hc nch ho (I.freeC x c e);exact⟨_,q,hd⟩
  ·exact⟨o,keep c o (I.cne x c e) hc nch ho (I.freeC x c e),hd⟩
 refine⟨I.ok,I.os,hg,⟨λb o e n hb hx=>?_,λb o e n hb hx=>?_,λb o e n hx=>?_,λb o e hx=>?_,λb xs e=>tups b xs (I.base.tups b xs e),λb o xs e=>frzs b o xs (I.base.frzs b o xs e),λb ps e=>?_⟩,?_,λx c e=>?_,?_,λx c e=>?_,λp hp=>?_,hok,I.len⟩
 ·exact keep b o (neL b o e) hb (neC b o e hx) (I.base.keep b o e n hb hx) (I.base.free b o e n hx)
 ·obtain⟨sl,e1⟩:=I.base.slot b o e n hb hx;obtain⟨sl',e2⟩:=slot b _ (neL b o e) hb (neC b o e hx) e1 (I.base.free b o e n hx);exact⟨sl',e2⟩
 ·obtain⟨o',e1⟩:=I.base.there b o e hx;exact free b o' (neC b o e hx) e1 (I.base.free b o e n hx)
 ·obtain⟨o',e1⟩:=I.base.there b o e hx;exact there b o' (neC b o e hx) e1
 ·obtain⟨m1,e1⟩:=I.base.tbls b ps e;obtain⟨m2,e2⟩:=tbls b _ e1;exact⟨m1++m2,by rw[e2,Array.append_assoc]⟩
 · obtain⟨m,hn,hl⟩:=I.loc;refine⟨m,ns m hn,λi x v e1 e2 e3=>?_⟩;obtain⟨u,r,l⟩:=hl i x v e1 e2 e3;refine⟨u,r,?_⟩;rcases l with l|⟨k,c,e,z⟩
   ·exact .inl l
   ·exact .inr ⟨k,c,e,cellK x c e _ z⟩
 ·obtain⟨v,z⟩:=I.cell x c e;exact⟨v,cellK x c e v z⟩
 ·obtain⟨m,⟨o,_,_,ho,_⟩,_⟩:=I.loc;exact free _ o (λz=>(hch _ z).2.1 rfl) ho I.free
 ·obtain⟨v,o,ho,hd⟩:=I.cell x c e;exact free c o (λz=>(hch c z).2.2.1 x c e rfl) ho (I.freeC x c e)
 ·obtain⟨e,n,ne,nf,d⟩:=I.pin p hp;have nch:p.1∉ch:=λz=>(hch p.1 z).2.2.2 p hp rfl;exact⟨keep p.1 p.2 ne nf nch e n,free p.1 p.2 nch e n,ne,nf,d⟩
def Inv.un(I:Inv X Ee σ H s)(u:Un X.fs [] H H' s.heap h')(hok:HOk X.prog X.w H' h'):Inv X Ee σ H' {s with heap:=h',toks:=t'}:=by
 obtain⟨m,⟨o,es,ep,ho,r⟩,_⟩:=id I.loc;obtain⟨sl,hL⟩:=u.any ho I.free (by simp);exact I.step (g':=s.gens) (d':=s.drawn) (ch:= []) (λ_ z=>nomatch z) (λb o _ hb _ e n=>u.keep b o e n hb (by simp)) (λb o _ hb _ e n=>u.slot b o e n hb (by simp)) (λb o _ e n=>u.free b o e n (by simp)) (λb o _ e=>u.there b o e (by simp)) u.tups u.frzs u.tbls (λm' hm=>by obtain⟨o',Er,ep',ho',r'⟩:=hm;rw[ho]at ho';cases ho';exact⟨_,Er,ep',hL,r'⟩) hok I.bare
def Inv.call{t':Nat}{d':Drawn}{ch:List Addr}(I:Inv X Ee σ H s)(u:Un (frs X.stack) ch H H' s.heap h')(hok:HOk X.prog X.w H' h')(hg:XE g')
 (hch:∀b∈ch,(b∈X.ex\/X.WX.heap.objs.size<=b)/\b≠X.env.locals/\(∀x c,X.env.cells.lookup x=some c->c≠b)/\∀p∈X.pn++Ee,p.1≠b):
 Inv X Ee σ H' {s with heap:=h',gens:=g',drawn:=d',toks:=t'}:=by
 obtain⟨m,⟨o,es,ep,ho,r⟩,_⟩:=id I.loc;obtain⟨sl,hL⟩:=u.any ho I.free λz=>(hch _ z).2.1 rfl;exact I.step (ch:=ch) hch (λb o hL hb hc e n=>u.keep b o e n (λz=>(zy.mp (I.stkSub b z)).elim hL hb) hc) (λb o _ _ hc e n=>u.any e n hc) (λb o hc e n=>u.free b o e n hc) (λb o hc e=>u.there b o e hc) u.tups u.frzs u.tbls (λm' hm=>by obtain⟨o',Er,ep',ho',r'⟩:=hm;rw[ho]at ho';cases ho';exact⟨_,Er,ep',hL,r'⟩) hok hg
def Inv.turned{t':Nat}(I:Inv X Ee σ H s)(k:∀b o,b≠it->s.heap.get? b=some o->h'.get? b=some o)(hn:H it=none)(hL:it≠X.env.locals)
 (h1:it∈X.ex\/X.WX.heap.objs.size<=it) (h2:∀x c,X.env.cells.lookup x=some c->c≠it) (h3:∀p∈X.pn++Ee,p.1≠it):Inv X Ee σ H {s with heap:=h',toks:=t'}:=by
 have nit:∀b u,H b=some u->b≠it:=λb u e z=>by rw[z,hn]at e;cases e
 refine I.step (g':=s.gens) (d':=s.drawn) (ch:= [it]) (λb hb=>?_) (λb o _ _ hc e _=>k b o (λz=>hc (by simp[z])) e) (λb o _ _ hc e _=>⟨o.slots,k b o (λz=>hc (by simp[z])) e⟩) (λ_ _ _ _ n=>n)
  (λb o hc e=>⟨o,k b o (λz=>hc (by simp[z])) e⟩) (λ_ _ e=>e) (λ_ _ _ e=>e) (λb ps e=>⟨#[],by rw[e];simp⟩) (λm hm=>?_) (λb u e=>?_) I.bare
 · have e:b=it:=by simpa using hb
   subst e;exact⟨h1,hL,h2,h3⟩
 ·obtain⟨o,es,ep,ho,r⟩:=hm;exact⟨o,es,ep,k _ o (Ne.symm hL) ho,r⟩
 · refine(I.hok b u e).stay (λc v hc q=>k c v ?_ q) (λ_ q=>q) λ_ _ q=>q;rcases hc with z|z
   ·rw[z];exact nit b u e
   ·exact nit c _ z
def Inv.tok(I:Inv X Ee σ H s)(t:Nat):Inv X Ee σ H {s with toks:=t}:=I.un (h':=s.heap) (t':=t) Un.refl I.hok
def Inv.kept(I:Inv X Ee σ H s)(k:∀b u,s.heap.get? b=some u->h'.get? b=some u):Inv X Ee σ H {s with heap:=h',toks:=t'}:=I.un (Un.kept k) (I.hok.kept k)
def Inv.laid(I:Inv X Ee σ H s)(k:∀b u,s.heap.get? b=some u->h'.get? b=some u)(hp:s.heap.objs.size<=a)(new:U5 X.prog X.w (upd H a o) h' a o):
 Inv X Ee σ (upd H a o) {s with heap:=h',toks:=t'}:=I.un (Un.laid k hp (I.hok.fresh hp)) (I.hok.laid k hp new)
def Inv.write(I:Inv X Ee σ H s)(mu:Mut (H x))(he:e=x\/H e=some (.own x))(k:∀b u,b≠e->s.heap.get? b=some u->h'.get? b=some u)(heo:∃u,h'.get? e=some u)
 (new:U5 X.prog X.w (upd H x o) h' x o):Inv X Ee σ (upd H x o) {s with heap:=h',toks:=t'}:=I.un (Un.write mu he k heo) (I.hok.write mu he k heo new)
def Inv.pins_of(I:Inv X Ee σ H s)(h:∀p∈pins',s.heap.get? p.1=some p.2/\H p.1=none/\p.1≠X.env.locals/\p.1∉X.fs/\∀v,p.2.data≠ .cell v):Inv X pins' σ H s:=
 ⟨I.ok,I.os,I.bare,I.base,I.loc,I.cell,I.free,I.freeC,λp hp=>(jd.mp hp).elim (λz=>I.pin p (yY _ z)) (h p),I.hok,I.len⟩
def BU{N:List Str}(hN:N.Nodup){i j:Nat}{x:Str}(a:N[i]? =some x)(b:N[j]? =some x):i=j:=by obtain⟨h1,e1⟩:=jl.mp a;obtain⟨h2,e2⟩:=jl.mp b;exact(XW hN).mp (e1.trans e2.symm)
def Vj{M:Model}{A:jC}{E:VSP}{i:Nat}{x:Str}{v:V}{u:zk}{Q:Unit->zD->Prop}(I:Inv X Ee σ H s)(hN:X.N.Nodup)(hi:X.N[i]? =some x)(hx:Loc X.env.scope x)(r:J5 v u)
 (h:∀s',Inv X Ee (σ.set i (some v)) H s'->(∃a,jy a s.heap s'.heap/\(a=X.env.locals\/X.env.cells.lookup x=some a))->Q () s') (hf:X.fn x=true\/X.env.scope.names.lookup x=some .local):zw M A (storeName X.env x u) Q E s:=by
 obtain⟨m,hn,hl⟩:=id I.loc;have hcls:(X.env.scope.kind == .class||(X.env.scope.kind == .module&&X.env.locals != X.env.globals))=false:=by rw[I.ok.kind];rfl
 have hiσ:i<σ.length:=by rw[I.len];exact(jl.mp hi).1
 have cne:=I.cne;have tracked:∀ {a:Addr} {h':Heap},(∃o,s.heap.get? a=some o/\H a=none)->jy a s.heap h'->HOk X.prog X.w H h':=λ{a h'} ha hs b ob e=>by
  obtain⟨_,_,hfree⟩:=ha;refine(I.hok b ob e).stay (λc w' hc q=>(hs.2 c ?_).trans q) (λ_ q=>q) λ_ _ q=>q;rintro rfl;rcases hc with rfl|hc
  ·rw[hfree]at e;cases e
  ·rw[hfree]at hc;cases hc
 rcases hx with hk|hk
 · refine wpAny_storeName_local hk hn (λh' hn' hs=>?_) hcls;obtain⟨oL,_,_,hoL,_⟩:=id hn;refine h _ ⟨I.ok,I.os,I.bare,⟨λb o e n hb hx=>?_,λb o e n hb hx=>?_,I.base.free,λb o e hx=>?_,I.base.tups,I.base.frzs,I.base.tbls⟩,⟨_,hn',λj y v' e1 e2 e3=>?_⟩,λy c e=>?_,I.free,I.freeC,λp hp=>?_,tracked ⟨oL,hoL,I.free⟩ hs,by simpa using I.len⟩ ⟨_,hs,.inl rfl⟩
   ·exact(hs.2 b (zE (jn (zu e) I.ok.above))).trans (I.base.keep b o e n hb hx)
   ·obtain⟨sl,e1⟩:=I.base.slot b o e n hb hx;exact⟨sl,(hs.2 b (zE (jn (zu e) I.ok.above))).trans e1⟩
   ·obtain⟨o',e1⟩:=I.base.there b o e hx;exact⟨o',(hs.2 b (zE (jn (zu e) I.ok.above))).trans e1⟩
   · by_cases hj:j=i
     · subst hj;rw[hi]at e1;cases e1;rw[zS hiσ]at e2
       cases e2
       exact⟨u,r,.inl ⟨hk,by simp⟩⟩
     · rw[zX (Ne.symm hj)]at e2;obtain⟨u',r',q⟩:=hl j y v' e1 e2 e3;refine⟨u',r',?_⟩;rcases q with⟨k,e⟩|⟨k,c,e,z⟩
       ·refine .inl ⟨k,?_⟩;have:y≠x:=λe=>hj (BU hN e1 (e▸hi));simp[this,e]
       ·exact .inr ⟨k,c,e,z.sameBut hs (cne y c e)⟩
   ·obtain⟨w',z⟩:=I.cell y c e;exact⟨w',z.sameBut hs (cne y c e)⟩
   ·obtain⟨e,n,ne,nf,d⟩:=I.pin p hp;exact⟨(hs.2 p.1 ne).trans e,n,ne,nf,d⟩
 · have hfn:X.fn x=true:=by
    rcases hf with z|z
    ·exact z
    ·rw[z]at hk;cases hk
   obtain⟨c,hc⟩:=I.ok.has x (.inl hk);obtain⟨w',z⟩:=I.cell x c hc;refine wpAny_storeName_cell I.ok.kind hk hc z (λh' hc' hs=>?_);obtain⟨oc,hoc,hocd⟩:=id z;refine h {s with heap:=h'} ⟨I.ok,I.os,I.bare,⟨λb o e n hb hx=>?_,λb o e n hb hx=>?_,I.base.free,λb o e hx=>?_,I.base.tups,I.base.frzs,I.base.tbls⟩,⟨m,hn.sameBut hs (Ne.symm (cne x c hc)),λj y v' e1 e2 e3=>?_⟩,λy c' e=>?_,I.free,I.freeC,λp hp=>?_,tracked ⟨oc,hoc,I.freeC x c hc⟩ hs,by simpa using I.len⟩ ⟨c,hs,.inr hc⟩
   ·exact(hs.2 b (zE (jn (zu e) (I.ok.cab x c hfn hc)))).trans (I.base.keep b o e n hb hx)
   ·obtain⟨sl,e1⟩:=I.base.slot b o e n hb hx;exact⟨sl,(hs.2 b (zE (jn (zu e) (I.ok.cab x c hfn hc)))).trans e1⟩
   ·obtain⟨o',e1⟩:=I.base.there b o e hx;exact⟨o',(hs.2 b (zE (jn (zu e) (I.ok.cab x c hfn hc)))).trans e1⟩
   · by_cases hj:j=i
     · subst hj;rw[hi]at e1;cases e1;rw[zS hiσ]at e2
       cases e2
       exact⟨u,r,.inr ⟨.inl hk,c,hc,hc'⟩⟩
     · rw[zX (Ne.symm hj)]at e2;obtain⟨u',r',q⟩:=hl j y v' e1 e2 e3;refine⟨u',r',?_⟩;rcases q with q|⟨k,c',e,z'⟩
       ·exact .inl q
       ·refine .inr ⟨k,c',e,z'.sameBut hs ?_⟩;rintro rfl;exact hj (BU hN e1 (I.ok.inj _ _ _ e hc▸hi))
   · by_cases hcc:c'=c
     ·subst hcc;exact⟨_,hc'⟩
     ·obtain⟨w2,z2⟩:=I.cell y c' e;exact⟨w2,z2.sameBut hs hcc⟩
   ·obtain⟨e,n,ne,nf,d⟩:=I.pin p hp;refine⟨(hs.2 p.1 ?_).trans e,n,ne,nf,d⟩;intro q;rw[q,hoc]at e;have q':oc=p.2:=jc e;exact d w' (by rw[<-q'];exact hocd)
def oi(I:Inv X Ee σ H s)(hN:X.N.Nodup)(hi:X.N[i]? =some x)(hx:Loc X.env.scope x)(r:J5 v u)
 (h:∀s',Inv X Ee (σ.set i (some v)) H s'->Q () s') (hf:X.fn x=true\/X.env.scope.names.lookup x=some .local):zw M A (storeName X.env x u) Q E s:=
 Vj I hN hi hx r (λs' I' _=>h s' I') hf
end
abbrev XK:=zk->Option Addr->Hp->Prop
abbrev St:=List (Option V)
abbrev VK:=V->Hp->Prop
abbrev TE:=St->Hp->VK->Prop
abbrev TT:=St->Hp->(Bool->Hp->Prop)->Prop
abbrev TA:=St->Hp->(List V->Hp->Prop)->Prop
structure LA where
 nx:St->Hp->Prop
 rt:VK
 bk:St->Hp->Prop:=λ_ _=>False
 ct:St->Hp->Prop:=λ_ _=>False
abbrev TS:=LA->St->Hp->Prop
def EP(X:Cx)(Ee:PNS)(σ:St)(Q:VK)(u:zk)(s':zD):Prop:=∃v H',Inv X Ee σ H' s'/\J5 v u/\Q v H'
def TP(X:Cx)(Ee:PNS)(σ:St)(Q:Bool->Hp->Prop)(b:Bool)(s':zD):Prop:=∃H',Inv X Ee σ H' s'/\Q b H'
def AP(X:Cx)(Ee:PNS)(σ:St)(Q:List V->Hp->Prop)(us:List zk)(s':zD):Prop:=∃vs H',Inv X Ee σ H' s'/\u9 vs us/\Q vs H'
def EP.elim{X:Cx}{σ:St}{Q:VK}{u:zk}{P:Prop}(h:EP X Ee σ Q u s)(k:∀v H,Inv X Ee σ H s->J5 v u->Q v H->P):P:=by obtain⟨a,b,c,d,e⟩:=h;exact k a b c d e
def TP.elim{X:Cx}{σ:St}{u:Bool}{s:zD}{P:Prop}(h:TP X Ee σ Q u s)(k:∀H,Inv X Ee σ H s->Q u H->P):P:=by obtain⟨b,c,e⟩:=h;exact k b c e
def AP.elim{X:Cx}{σ:St}{u:List zk}{s:zD}{P:Prop}(h:AP X Ee σ Q u s)(k:∀v H,Inv X Ee σ H s->u9 v u->Q v H->P):P:=by obtain⟨a,b,c,d,e⟩:=h;exact k a b c d e
def SP(X:Cx)(Ee:PNS)(D:LA)(f:Flow)(s':zD):Prop:=
 match f with
 | .next=>∃ X1 H',Inv X Ee X1 H' s'/\D.nx X1 H'
 | .brk=>∃ X1 H',Inv X Ee X1 H' s'/\D.bk X1 H'
 | .cont=>∃ X1 H',Inv X Ee X1 H' s'/\D.ct X1 H'
 | .ret u=>∃v X1 H',Inv X Ee X1 H' s'/\J5 v u/\D.rt v H'
def PE(X:Cx)(e:Expr)(t:TE):Prop:=
 ∀(Ee:PNS) (s:zD) (σ:St) (H:Hp) (Q:VK),Inv X Ee σ H s->t σ H Q->zw (zG X.prog X.w) X.A (eval e X.env) (EP X Ee σ Q) X.xe s
def PT(X:Cx)(e:Expr)(t:TT):Prop:=
 ∀(Ee:PNS) (s:zD) (σ:St) (H:Hp) (Q:Bool->Hp->Prop),Inv X Ee σ H s->t σ H Q->zw (zG X.prog X.w) X.A (isTrue e X.env (eval e X.env)) (TP X Ee σ Q) X.xe s
def PW(X:Cx)(e:Expr)(t:TT):Prop:=
 ∀(whole:Sem zk) (Ee:PNS) (s:zD) (σ:St) (H:Hp) (Q:Bool->Hp->Prop),Inv X Ee σ H s->t σ H Q->zw (zG X.prog X.w) X.A (isTrue e X.env whole) (TP X Ee σ Q) X.xe s
def PA(X:Cx)(es:List Expr)(t:TA):Prop:=
 ∀(pos:Pos) (Ee:PNS) (s:zD) (σ:St) (H:Hp) (Q:List V->Hp->Prop),Inv X Ee σ H s->t σ H Q->zw (zG X.prog X.w) X.A (spliced (xi pos (zW es X.env))) (AP X Ee σ Q) X.xe s
def PS(X:Cx)(st:Stmt)(t:TS):Prop:=
 ∀(Ee:PNS) (s:zD) (σ:St) (H:Hp) (D:LA),Inv X Ee σ H s->t D σ H->zw (zG X.prog X.w) X.A (exec st X.env) (SP X Ee D) X.xe s
def PSs(X:Cx)(st:List Stmt)(t:TS):Prop:=
 ∀(Ee:PNS) (s:zD) (σ:St) (H:Hp) (D:LA),Inv X Ee σ H s->t D σ H->zw (zG X.prog X.w) X.A (execs st X.env) (SP X Ee D) X.xe s
def thn(h:zw M A t Q E s)(hQ:∀a s,Q a s->Q' a s):zw M A t Q' E s:=jS h hQ λ_ _ x=>x
section
variable{X:Cx}
def RT(i:Nat):TE:=λσ H Q=>∃v,σ[i]? =some (some v)/\Q v H
def tC(v:V):TE:=λ_ H Q=>Q v H
def uW(hN:X.N[i]? =some x)(hv:Vis X.env.scope x)(hd:(x==("__debug__" :Str))=false)(hcd:(x==("__classdict__" :Str))=false):PE X (.Name x pos) (RT i):=by
 intro Ee s σ H Q I h;obtain⟨v,e,h⟩:=h;obtain⟨m,hn,hl⟩:=I.loc;obtain⟨u,r,l⟩:=hl i x v hN e hv;have fin:EP X Ee σ Q u s:=⟨v,H,I,r,h⟩;rcases l with⟨hk,hm⟩|⟨hk,c,hc,hcell⟩
 ·exact wpAny_Name (wpAny_loadName_local I.ok.kind hk hn hm fin) hd
 · rcases hk with hk|hk
   ·exact wpAny_Name (wpAny_loadName_cell I.ok.kind hk hc hcell fin) hd
   ·exact wpAny_Name (wpAny_loadName_free I.ok.kind hk hc hcell fin hcd) hd
def rT{i j pos}:PE X (.Constant (.int i) j pos) (tC (.int i)):=λ_ _ _ H _ I h=>wpAny_Constant_int ⟨.int i,H,I.tok _,⟨_,rfl⟩,h⟩
def dr{b j pos}:PE X (.Constant (.bool b) j pos) (tC (.bl b)):=λ_ _ _ H _ I h=>Constant_bool ⟨.bl b,H,I,rfl,h⟩
def UP{j pos}:PE X (.Constant .none j pos) (tC .non):=λ_ _ _ H _ I h=>Constant_none ⟨.non,H,I,rfl,h⟩
def bz{x j pos}:PE X (.Constant (.str x) j pos) (tC (.str x)):=λ_ _ _ H _ I h=>Calls.Constant_str ⟨.str x,H,I.tok _,⟨_,rfl⟩,h⟩
def Gl(X:Cx)(x:Str):Prop:=X.env.kindOf x=some .globalImplicit
def AG(I:Inv X Ee σ H s)(hg:Gl X x)(hm:X.mg x=some u)(h:Q u s)
 (hd:(x==("__debug__" :Str))=false):zw (zG X.prog X.w) X.A (eval (.Name x pos) X.env) Q E s:=
 Jm I.ok.kind hg (Calls.loadGlobal_global (by rw[I.ok.glob];exact I.mod.glob.keeps I.bk) hm h) hd
def E7(I:Inv X Ee σ H s)(hg:Gl X x)(hm:X.mg x=none)(hv:je x=some u)(h:Q u s)
 (hn:x≠ "__name__":=by decide) (hd:(x==("__debug__" :Str))=false:=by decide):zw (zG X.prog X.w) X.A (eval (.Name x pos) X.env) Q E s:=by
 obtain⟨mb,h1,h2⟩:=I.mod.blt;exact Jm I.ok.kind hg (Calls.loadGlobal_builtin (by rw[I.ok.glob];exact I.mod.glob.keeps I.bk) hm (by rw[I.ok.blt];exact h1.keeps I.bk) ((h2 x hn).trans hv) h) hd
def DX(hg:Gl X x)(hm:X.mg x=none)(hv:je x=some u)(r:J5 v u)(hn:x≠ "__name__")(hd:(x==("__debug__" :Str))=false):PE X (.Name x pos) (tC v):=
 λ_ _ _ H _ I h=>E7 I hg hm hv ⟨v,H,I,r,h⟩ hn hd
variable{a b:Expr}{ta tb:TE}{pos:Pos}
variable{tA tB':TT}{Q8:List Expr}
def av(t u:TT):TT:=λσ H Q=>t σ H λc H1=>if c=true then u σ H1 Q else Q false H1
def tOr(t u:TT):TT:=λσ H Q=>t σ H λc H1=>if c=true then Q true H1 else u σ H1 Q
def Sg(t:TT):TT:=λσ H Q=>t σ H λc H1=>Q (!c) H1
def Ea(ha:PT X a tA):PW X (.BoolOp .And [a] pos) tA:=by
 intro wh Ee s σ H Q I h;refine isTrue_and (thn (ha Ee s σ H Q I h) λc s1 e=>?_)
 cases c with
 |true=>exact isTrue_and_nil e
 |false=>exact e
def Hq(ha:PT X a tA):PW X (.BoolOp .Or [a] pos) tA:=by
 intro wh Ee s σ H Q I h;refine isTrue_or (thn (ha Ee s σ H Q I h) λc s1 e=>?_)
 cases c with
 |false=>exact isTrue_or_nil e
 |true=>exact e
def Aq(ha:PT X a tA)(hb:PW X (.BoolOp .And (b::Q8) pos) tB'):PW X (.BoolOp .And (a::b::Q8) pos) (av tA tB'):=by
 intro wh Ee s σ H Q I h;refine isTrue_and (thn (ha Ee s σ H _ I h) λc s1 Ep=>Ep.elim λH1 I1 q1=>?_)
 cases c with
 |true=>exact hb wh Ee s1 σ H1 Q I1 q1
 |false=>exact⟨H1,I1,q1⟩
def lq(ha:PT X a tA)(hb:PW X (.BoolOp .Or (b::Q8) pos) tB'):PW X (.BoolOp .Or (a::b::Q8) pos) (tOr tA tB'):=by
 intro wh Ee s σ H Q I h;refine isTrue_or (thn (ha Ee s σ H _ I h) λc s1 Ep=>Ep.elim λH1 I1 q1=>?_)
 cases c with
 |true=>exact⟨H1,I1,q1⟩
 |false=>exact hb wh Ee s1 σ H1 Q I1 q1
def pV(ha:PT X a tA):PT X (.UnaryOp .Not a pos) (Sg tA):=by intro Ee s σ H Q I h;exact isTrue_not (ha Ee s σ H (λc H1=>Q (!c) H1) I h)
def bh(ta:TE):TE:=λσ H Q=>ta σ H λx H1=>∃c,x= .bl c/\Q (.bl (!c)) H1
def vv{op}(h:PE X a t):PE X (.BoolOp op [a] pos) t:=λEe s σ H Q I hw=>BoolOp_one (h Ee s σ H Q I hw)
def Qj(ha:PE X a ta):PE X (.UnaryOp .Not a pos) (bh ta):=by
 intro Ee s σ H Q I h;refine UnaryOp_ (thn (ha Ee s σ H _ I h) λv s1 Ep=>Ep.elim λx H1 I1 r1 q1=>?_);obtain⟨c,rfl,q1⟩:=q1
 cases r1
 exact not_of (yA ⟨.bl (!c),H1,I1,rfl,q1⟩)
def tIf(t:TT)(ta tb:TE):TE:=λσ H Q=>t σ H λc H1=>if c=true then ta σ H1 Q else tb σ H1 Q
def Dj(hc:PT X c tA)(ha:PE X a ta)(hb:PE X b tb):PE X (.IfExp c a b pos) (tIf tA ta tb):=by
 intro Ee s σ H Q I h;refine wpAny_IfExp (thn (hc Ee s σ H _ I h) λd s1 Ep=>Ep.elim λH1 I1 q1=>?_)
 cases d with
 |true=>exact ha Ee s1 σ H1 Q I1 q1
 |false=>exact hb Ee s1 σ H1 Q I1 q1
end
def SqL(K:zn)(H:Hp)(a:Addr)(xs:List V):Prop:=
 Rd H a (.lst xs)\/
  ∃(o:Obj) (Ef:Array zk) (n:Nat),K.lookup a=some o/\o.cls= .type "list"/\o.dict=none/\o.data= .seq Ef n/\Ef.size<=zq/\u9 xs Ef.toList
def SqT(K:zn)(H:Hp)(a:Addr)(xs:List V):Prop:=
 Rd H a (.tup xs)\/
  ∃(o:Obj) (Ef:Array zk) (n:Nat),K.lookup a=some o/\o.cls= .type "tuple"/\(o.data,o.dict)= (Data.seq Ef n,none)/\Ef.size<=zq/\u9 xs Ef.toList
def dq:zk->Option V
 | .none=>some .non
 | .bool b=>some (.bl b)
 | .int i _=>some (.int i)
 | .str x _=>some (.str x)
 | .bytes b _=>some (.byt b)
 | .float b _=>some (.flt b)
 | .ref a=>some (.ref a)
 | .type n=>some (.ty n)
 |_=>none
def J5.abs(r:J5 x u):dq u=some x:=by
 cases x with
 |non=>cases r;rfl
 |bl _=>cases r;rfl
 |int _=>obtain⟨t,rfl⟩:=r;rfl
 |str _=>obtain⟨t,rfl⟩:=r;rfl
 |byt _=>obtain⟨t,rfl⟩:=r;rfl
 |flt _=>obtain⟨t,rfl⟩:=r;rfl
 |ref _=>cases r;rfl
 |ty _=>cases r;rfl
def J5.inj(r:J5 x u)(q:J5 y u):x=y:=jc (r.abs.symm.trans q.abs)
def u9.inj(h:u9 xs us)(k:u9 ys us):xs=ys:=by
 induction h generalizing ys with
 |nil=>cases k;rfl
 |cons r t ih=>cases k with
   |cons r' t'=>rw[r.inj r',ih t']
def SqL.of{K:zn}(h:H a=some (.lst xs)):SqL K H a xs:=.inl (.inl h)
def SqT.of{K:zn}(h:H a=some (.tup xs)):SqT K H a xs:=.inl (.inl h)
def Inv.list(I:Inv X Ee σ H s)(h:SqL X.K H a xs):∃Ef:List zk,u9 xs Ef/\PlainL s.heap a Ef.toArray/\xs.length<=zq:=by
 rcases h with h|⟨o,Ef,n,hk,hc,hd,hs,hz,r⟩
 ·obtain⟨z,Ef,n,r,e⟩:=h.ok I.hok;exact⟨Ef,r,⟨_,n,e,rfl,rfl,rfl⟩,z⟩
 ·refine⟨Ef.toList,r,⟨o,n,I.kIn a o hk,hc,hd,by simpa using hs⟩,?_⟩;have e:=r.length;simp only[zL]at e;lia
def Inv.tuple(I:Inv X Ee σ H s)(h:SqT X.K H a xs):∃Ef:List zk,u9 xs Ef/\Xg s.heap a Ef.toArray/\xs.length<=zq:=by
 rcases h with h|⟨o,Ef,n,hk,hc,hs,hz,r⟩
 ·obtain⟨z,Ef,r,p⟩:=h.ok I.hok;exact⟨Ef,r,l7.tup p,z⟩
 ·refine⟨Ef.toList,r,⟨o,I.kIn a o hk,hc,n,by simpa using (xg hs).1⟩,?_⟩;have e:=r.length;simp only[zL]at e;lia
def Inv.list_inj(I:Inv X Ee σ H s)(h:SqL X.K H a xs)(h':SqL X.K H a ys):xs=ys:=by
 obtain⟨Ef,r,⟨o,n,e,_,_,d⟩,_⟩:=I.list h;obtain⟨its',r',⟨o',n',e',_,_,d'⟩,_⟩:=I.list h';rw[e]at e';cases e';rw[d]at d';injection d' with d1 _;have:Ef=its':=by simpa using congrArg Array.toList d1
 subst this;exact r.inj r'
def Inv.tuple_inj(I:Inv X Ee σ H s)(h:SqT X.K H a xs)(h':SqT X.K H a ys):xs=ys:=by
 obtain⟨Ef,r,⟨o,e,_,n,d⟩,_⟩:=I.tuple h;obtain⟨its',r',⟨o',e',_,n',d'⟩,_⟩:=I.tuple h';rw[e]at e';cases e';rw[d]at d';injection d' with d1 _;have:Ef=its':=by simpa using congrArg Array.toList d1
 subst this;exact r.inj r'
abbrev Cx.wish(X:Cx)(E:VSP):Cx:={X with xe:=E}
abbrev Cx.nox(X:Cx):Cx:=X.wish λ_ _=>False
def Cx.Ok.wish{X:Cx}(ok:X.Ok)(E:VSP):(X.wish E).Ok:=
 ⟨ok.mod,ok.kind,ok.glob,ok.blt,ok.above,ok.inj,ok.has,ok.cab,ok.hd,ok.frames,ok.stk,ok.exf,ok.bs,ok.bsz,ok.noex,ok.exfs,ok.funs,ok.frf,ok.gd⟩
def Cx.Ok.unwish{X:Cx}(ok:(X.wish E).Ok):X.Ok:=
 ⟨ok.mod,ok.kind,ok.glob,ok.blt,ok.above,ok.inj,ok.has,ok.cab,ok.hd,ok.frames,ok.stk,ok.exf,ok.bs,ok.bsz,ok.noex,ok.exfs,ok.funs,ok.frf,ok.gd⟩
def Inv.wish(I:Inv X Ee σ H s)(E:VSP):Inv (X.wish E) Ee σ H s:=⟨I.ok.wish E,I.os,I.bare,I.base,I.loc,I.cell,I.free,I.freeC,I.pin,I.hok,I.len⟩
def Inv.unwish(I:Inv (X.wish E) Ee σ H s):Inv X Ee σ H s:=⟨I.ok.unwish,I.os,I.bare,I.base,I.loc,I.cell,I.free,I.freeC,I.pin,I.hok,I.len⟩
def SP.unwish(h:SP (X.wish E) Ee D f s'):SP X Ee D f s':=by
 cases f with
 |next=>obtain⟨X1,H',I,q⟩:=h;exact⟨X1,H',I.unwish,q⟩
 |brk=>obtain⟨X1,H',I,q⟩:=h;exact⟨X1,H',I.unwish,q⟩
 |cont=>obtain⟨X1,H',I,q⟩:=h;exact⟨X1,H',I.unwish,q⟩
 |ret u=>obtain⟨v,X1,H',I,r,q⟩:=h;exact⟨v,X1,H',I.unwish,r,q⟩
def PSs.nox{st:List Stmt}(h:PSs X.nox st t):PSs X st t:=λEe s σ H D I hw=>
 jS (h Ee s σ H D (I.wish _) hw) (λ_ _ q=>q.unwish) λ_ _ z=>xn z
section
variable{X:Cx}{st:Stmt}{Q8:List Stmt}{t u:TS}
def Bg:TS:=λD σ H=>D.nx σ H
def Dp(t u:TS):TS:=λD σ H=>t {D with nx:=u D} σ H
def mn:PSs X [] Bg:=λ_ _ σ H _ I h=>Xc ⟨σ,H,I,h⟩
def Hk(h1:PS X st t)(h2:PSs X Q8 u):PSs X (st::Q8) (Dp t u):=by
 intro Ee s σ H D I h;refine wpAny_execs_cons (thn (h1 Ee s σ H {D with nx:=u D} I h) λf s1 q=>?_)
 cases f with
 |next=>
   obtain⟨X1,H',I',q⟩:=q;exact h2 Ee s1 X1 H' D I' q
 |ret v=>exact q
 |brk=>exact q
 |cont=>exact q
def Ai(h1:PS X st t):PSs X [st] t:=by
 intro Ee s σ H D I h;refine wpAny_execs_cons (thn (h1 Ee s σ H D I h) λf s1 q=>?_)
 cases f with
 |next=>exact Xc q
 |ret v=>exact q
 |brk=>exact q
 |cont=>exact q
def Inv.quiet(I:Inv X Ee σ H s):interactive X.env=false:=by simp[interactive,I.ok.kind]
def Sb(te:TE):TS:=λD σ H=>te σ H λ_ H1=>D.nx σ H1
def pi(he:PE X e te)(hs:swapsWith e none pos.line X.env=pure false):PS X (.Expr e pos) (Sb te):=by intro Ee s σ H D I h;exact wpAny_Expr_any (thn (he Ee s σ H _ I h) λv s1 Ep=>Ep.elim λx H1 I1 r1 q1=>⟨σ,H1,I1,q1⟩) I.quiet hs
def As(te:TE):TS:=λD σ H=>te σ H D.rt
def Dz(he:PE X e te):PS X (.Return (some e) pos) (As te):=by intro Ee s σ H D I h;exact wpAny_Return_some (thn (he Ee s σ H _ I h) λv s1 Ep=>Ep.elim λx H1 I1 r1 q1=>⟨x,σ,H1,I1,r1,q1⟩)
def sY(c:TT)(t u:TS):TS:=λD σ H=>c σ H λb H1=>if b=true then t D σ H1 else u D σ H1
def Vb{tc:TT}(hc:PT X c tc)(ha:PSs X a t)(hb:PSs X b u):PS X (.If c a b pos) (sY tc t u):=by
 intro Ee s σ H D I h;refine wpAny_If (thn (hc Ee s σ H _ I h) λd s1 Ep=>Ep.elim λH1 I1 q1=>?_)
 cases d with
 |true=>exact ha Ee s1 σ H1 D I1 q1
 |false=>exact hb Ee s1 σ H1 D I1 q1
end
abbrev TG:=V->St->Hp->(St->Hp->Prop)->Prop
abbrev TGs:=List V->St->Hp->(St->Hp->Prop)->Prop
def PG(X:Cx)(target:Expr)(t:TG):Prop:=
 ∀(Ee:PNS) (s:zD) (σ:St) (H:Hp) (v:V) (u:zk) (Q:St->Hp->Prop),Inv X Ee σ H s->J5 v u->t v σ H Q->
  zw (zG X.prog X.w) X.A (YW target X.env u) (λ_ s'=>∃ X1 H',Inv X Ee X1 H' s'/\Q X1 H') X.xe s
def PGs(X:Cx)(ts:List Expr)(t:TGs):Prop:=
 ∀(Ee:PNS) (s:zD) (σ:St) (H:Hp) (vs:List V) (us:List zk) (Q:St->Hp->Prop),Inv X Ee σ H s->u9 vs us->t vs σ H Q->
  zw (zG X.prog X.w) X.A (assignInOrder ((xB ts X.env).map (·.2)) us) (λ_ s'=>∃ X1 H',Inv X Ee X1 H' s'/\Q X1 H') X.xe s
abbrev TSet:=V->V->V->Hp->(Hp->Prop)->Prop
def BK(X:Cx)(t:TSet):Prop:=
 ∀(Ee:PNS) (s:zD) (σ:St) (H:Hp) (o i v:V) (ov iv u:zk) (Q:Hp->Prop),Inv X Ee σ H s->J5 o ov->J5 i iv->J5 v u->t o i v H Q->
  zw (zG X.prog X.w) X.A (setItem ov iv u) (λ_ s'=>∃H',Inv X Ee σ H' s'/\Q H') X.xe s
def Pb(i:Nat):TG:=λv σ H Q=>Q (σ.set i (some v)) H
def MY(hN:X.N.Nodup)(hi:X.N[i]? =some x)(hx:Loc X.env.scope x)(hf:X.fn x=true\/X.env.scope.names.lookup x=some .local):PG X (.Name x pos) (Pb i):=by intro Ee s σ H v u Q I r h;exact wpAny_assign_Name (oi I hN hi hx r (λs' I'=>⟨_,H,I',h⟩) hf)
def tX:TGs:=λvs σ H Q=>vs= []/\Q σ H
def VZ(t:TG)(u:TGs):TGs:=λvs σ H Q=>∃v r,vs=v::r/\t v σ H λX1 H'=>u r X1 H' Q
def lg:PGs X [] tX:=by
 intro Ee s σ H vs us Q I r h;obtain⟨e,h⟩:=h;subst e
 cases r
 exact assignInOrder_nil ⟨σ,H,I,h⟩
def lY(h1:PG X e t)(h2:PGs X es u)
 (hs:(xB (e::es) X.env).map (·.2)=YW e X.env::(xB es X.env).map (·.2)):PGs X (e::es) (VZ t u):=by
 intro Ee s σ H vs us Q I r h;obtain⟨v,vr,e1,h⟩:=h;subst e1
 cases r with
 |cons r rr=>
   rw[hs];refine assignInOrder_cons (thn (h1 Ee s σ H _ _ _ I r h) λ_ s1 ⟨WZ,H1,I1,q1⟩=>?_);exact h2 Ee s1 WZ H1 _ _ Q I1 rr q1
def Qc(K:zn)(n:Nat)(t:TGs):TG:=λv σ H Q=>∃a xs,v= .ref a/\SqT K H a xs/\xs.length=n/\t xs σ H Q
def Bj(hc:X.calm=true)(h:PGs X es t)
 (hn:(xB es X.env).length=n) (hst:(xB es X.env).findIdx? (·.1)=none):PG X (.Tuple es k pos) (Qc X.K n t):=by
 intro Ee s σ H v u Q I r hw;obtain⟨a,xs,e1,hq,hl,hw⟩:=hw;subst e1
 cases r
 obtain⟨Ef,rv,ht,hz⟩:=I.tuple hq;refine assign_Tuple_tuple (I.ok.hd hc) ht (by simp[hn,<-hl,rv.length]) hst λh' hx=>?_;have I1:Inv X Ee σ H {s with heap:=h'}:=I.kept (t':=s.toks) λb o e=>hx b o (zE (zu e)) e;exact h Ee _ σ H xs _ Q I1 (by simpa using rv) hw
def Cu(to ti:TE)(t:TSet):TG:=λv σ H Q=>to σ H λo H1=>ti σ H1 λi H2=>t o i v H2 λH3=>Q σ H3
def KW(ho:PE X o to)(hi:PE X i ti)(hs:BK X t)
 (ha:∀v,YW (.Subscript o i pos) X.env v= (do
   let ov <-Xy [v] (eval o X.env)
   let iv <-Xy [v,ov] (eval i X.env)
   standAt pos
   Xy [v,ov,iv] (setItem ov iv v)
   release [v,ov,iv] [])):PG X (.Subscript o i pos) (Cu to ti t):=by
 intro Ee s σ H v u Q I r h;rw[ha];refine za (jB (thn (ho Ee s σ H _ I h) λov s1 ⟨x,H1,I1,r1,q1⟩=>?_));refine za (jB (thn (hi Ee s1 σ H1 _ I1 q1) λiv s2 ⟨y,H2,I2,r2,q2⟩=>?_));refine za (Ys (za (jB (thn (hs Ee s2 σ H2 x y v ov iv u _ I2 r1 r2 r q2) λ_ s3 ⟨H3,I3,q3⟩=>?_))));exact wpAny_release ⟨σ,H3,I3,q3⟩
def Wz(te:TE)(g:TG):TS:=λD σ H=>te σ H λx H1=>g x σ H1 D.nx
def aj{g:TG}(he:PE X e te)(hg:PG X tg g)(hs:swapsWithSole [tg] e pos.line X.env=pure false)(hw:swappedStores [tg] e X.env=pure none)
 (h1:(xB [tg] X.env).map (·.2)= [YW tg X.env]):PS X (.Assign [tg] e pos) (Wz te g):=by
 intro Ee s σ H D I h;refine wpAny_Assign_stores (thn (he Ee s σ H _ I h) λv s1 Ep=>Ep.elim λx H1 I1 r1 q1=>?_) hs hw;rw[h1];exact thn (hg Ee s1 σ H1 x v _ I1 r1 q1) λ_ s2 q=>q
def hZ(c:TT)(tb:TS):TS:=λD σ H=>∃W:Nat->St->Hp->Prop,(∃m,W m σ H)/\∀m σ H,W m σ H->
 c σ H λb H1=>if b=true then ∃N:St->Hp->Prop,(∀ X1 H',N X1 H'->∃m',m'<m/\W m' X1 H')/\tb {D with nx:=N,ct:=N,bk:=D.nx} σ H1 else D.nx σ H1
def ir{tc:TT}{tb:TS}(hp:PassesOwn (zG X.prog X.w) X.A X.env X.xe)(hc:PT X c tc)(hb:PSs X body tb):PS X (.While c body [] pos) (hZ tc tb):=by
 intro Ee s σ H D I h;obtain⟨W,⟨m0,w0⟩,turn⟩:=h;refine wpAny_While (codeAny_whileLoop (λn s'=>∃ X1 H',Inv X Ee X1 H' s'/\W n X1 H') ?_ m0 ⟨σ,H,I,w0⟩);rintro n s1 ⟨WZ,H1,I1,w1⟩;refine wpAny_passesOwn hp (thn (hc Ee s1 WZ H1 _ I1 (turn n WZ H1 w1)) λb s2 Ep=>Ep.elim λH2 I2 q2=>?_)
 cases b with
 |true=>
   obtain⟨N,hN,q2⟩:=q2;rw[if_pos rfl];refine wpAny_passesOwn hp (thn (hb Ee s2 WZ H2 _ I2 q2) λf s3 q3=>?_)
   cases f with
   |next=>
     obtain⟨WQ,H3,I3,n3⟩:=q3;obtain⟨m',hm,w3⟩:=hN WQ H3 n3;exact⟨m',hm,WQ,H3,I3,w3⟩
   |cont=>
     obtain⟨WQ,H3,I3,n3⟩:=q3;obtain⟨m',hm,w3⟩:=hN WQ H3 n3;exact⟨m',hm,WQ,H3,I3,w3⟩
   |brk=>exact q3
   |ret v=>exact q3
 |false=>
   rw[if_neg jm];exact Xc ⟨WZ,H2,I2,q2⟩
structure It where
 go:Nat->Hp->Prop
 yld:Nat->Hp->V->Hp->Prop
 stop:Nat->Hp->Prop
def N2(X:Cx)(Ee:PNS)(H:Hp)(b:Addr):Prop:=
 H b=none/\b≠X.env.locals/\b∉X.fs/\(b∈X.ex\/X.WX.heap.objs.size<=b)/\(∀x c,X.env.cells.lookup x=some c->c≠b)/\∀p∈X.pn++Ee,p.1≠b
def Inv.fpOk(I:Inv X Ee σ H s)(hb:s.heap.objs.size<=b)(hn:H' b=none):N2 X Ee H' b:=by
 refine⟨hn,jX (jn I.lt hb),I.nofs hb,.inr (zK I.sz hb),λx c e z=>?_,λp hp z=>?_⟩
 ·obtain⟨v,q⟩:=I.cell x c e;exact absurd (jn q.lt (by rw[z];exact hb)) (yN _)
 ·exact absurd (jn (zu (I.pin p hp).1) (by rw[z];exact hb)) (yN _)
inductive TIt(X:Cx)(Ee:PNS)(σ:St)(J:It)(fp:List Addr)(tn:Nat->Heap->Prop)(i:Nat)(H:Hp)(u:zk)(s2:zD):Prop
 |mk (x:V) (H':Hp) (I:Inv X Ee σ H' s2) (r:J5 x u) (y:J.yld i H x H') (st:tn (i+1) s2.heap) (fr:∀b∈fp,H' b=none)
structure F9(P:jh)(w:jq)(K:zn)(tg:Expr)(J:It)(fp:List Addr)(it:Addr)(tn:Nat->Heap->Prop):Prop where
 mem:it∈fp
 obj:∀i h,tn i h->∀b∈fp,∃o,h.get? b=some o/\∀v,o.data≠ .cell v
 keep:∀i h h',tn i h->(∀b∈fp,∀o,h.get? b=some o->h'.get? b=some o)->tn i h'
 item:∀(X:Cx),X.prog=P->X.w=w->X.K=K->X.calm=true->∀(i:Nat) (Ee:PNS) (s:zD) (σ:St) (H:Hp) (E:VSP),Inv X Ee σ H s->(∀b∈fp,N2 X Ee H b)->tn i s.heap->J.go i H->
  zw (zG P w) X.A (xS (.ref it)) (λr s1=>∃u,r=some u/\
   zw (zG P w) X.A (Zf tg (.ref it) u) (λ_ s2=>TIt X Ee σ J fp tn i H u s2) E s1) E s
 done:∀(X:Cx),X.prog=P->X.w=w->X.K=K->X.calm=true->∀(i:Nat) (Ee:PNS) (s:zD) (σ:St) (H:Hp) (E:VSP),Inv X Ee σ H s->(∀b∈fp,N2 X Ee H b)->tn i s.heap->J.stop i H->
  zw (zG P w) X.A (xS (.ref it)) (λr s1=>r=none/\Inv X Ee σ H s1) E s
 self:∀(A:jC) (i:Nat) (s:zD) (Q:VSP) (E:VSP),tn i s.heap->Q (.ref it) s->zw (zG P w) A (JC (.ref it)) Q E s
abbrev TI:=St->Hp->(It->Hp->Prop)->Prop
inductive PIE(X:Cx)(Ee:PNS)(σ:St)(tg:Expr)(R:It->Hp->Prop)(itv:zk)(s2:zD):Prop
 |mk (it:Addr) (fp:List Addr) (tn:Nat->Heap->Prop) (J:It) (H':Hp) (e:itv= .ref it) (I:Inv X Ee σ H' s2) (T:F9 X.prog X.w X.K tg J fp it tn) (st:tn 0 s2.heap) (f:∀b∈fp,N2 X Ee H' b) (r:R J H')
def PI(X:Cx)(tg iter:Expr)(wi:TI):Prop:=
 ∀(Ee:PNS) (s:zD) (σ:St) (H:Hp) (R:It->Hp->Prop),Inv X Ee σ H s->wi σ H R->
  zw (zG X.prog X.w) X.A (eval iter X.env) (λv s1=>zw (zG X.prog X.w) X.A (JC v) (PIE X Ee σ tg R) X.xe s1) X.xe s
def FD(ho:s.heap.get? it=some o)(hc:o.cls= .type n)(hd:o.data= .fields vs)
 (hn: ["enumerate", "zip", "dict_itemiterator", "dict_reverseitemiterator", "odict_iterator", "itertools.zip_longest", "itertools.pairwise"].contains n=false) (hQ:Q () s):zw M A (Zf tg (.ref it) u) Q E s:=by
 unfold Zf
 cases tg<;>first
  |exact zi hQ
  | (cases u <;> first
      |exact zi hQ
      | (refine za (wpAny_load ho ?_)
         rw[hc,hd];show zw M A (if (["enumerate", "zip", "dict_itemiterator", "dict_reverseitemiterator", "odict_iterator", "itertools.zip_longest", "itertools.pairwise"].contains n&&vs[0]? == some (xp _))=true then _ else _) Q E s;rw[if_neg (by intro h;rw[hn,Bool.false_and]at h;cases h)];exact zi hQ))
def Itl(K:zn)(a:Addr):It:=
 ⟨λi H=>∃xs x,SqL K H a xs/\xs[i]? =some x,λi H x H'=>H'=H/\∀xs,SqL K H a xs->xs[i]? =some x,λi H=>∃xs,SqL K H a xs/\xs.length<=i⟩
def Itt(K:zn)(a:Addr):It:=
 ⟨λi H=>∃xs x,SqT K H a xs/\xs[i]? =some x,λi H x H'=>H'=H/\∀xs,SqT K H a xs->xs[i]? =some x,λi H=>∃xs,SqT K H a xs/\xs.length<=i⟩
def Itr(lo:Int)(n:Nat):It:=⟨λi _=>i<n,λi H x H'=>H'=H/\x= .int (lo+i),λi _=>n<=i⟩
def aW{w:jq}{K:zn}{tg:Expr}(a it:Addr):F9 P w K tg (Itl K a) [it] it (λi h=>h.IsListIter it a i) where
 mem:=by simp
 obj:=λi h st b hb=>by
  have e:b=it:=by simpa using hb
  subst e;obtain⟨o,e,c,d⟩:=st;exact⟨o,e,λv z=>by rw[d]at z;cases z⟩
 keep:=λi h h' st k=>st.at λo e=>k it (by simp) o e
 item:=by intro X hP hw hK hc i Ee s σ H E I hf st hg;subst hP hw hK;obtain⟨xs,x,hq,hx⟩:=hg;obtain⟨Ef,rv,p,hz⟩:=I.list hq;obtain⟨u,hu,ru⟩:=rv.get hx;obtain⟨f0,f1,f2,f3,f4,f5⟩:=hf it (by simp);refine wpAny_pyNext_list_item st p.isList (x:=u) (by simpa using hu) λh' Ew sb=>?_;have I1:Inv X Ee σ H {s with heap:=h'}:=I.turned (t':=s.toks) (λb o hb e=>(sb.2 b hb).trans e) f0 f1 f3 f4 f5;obtain⟨o,e,c,d⟩:=id Ew;exact⟨u,rfl,FD (s:={s with heap:=h'}) e c d (by decide) ⟨x,H,I1,ru,⟨rfl,λys hy=>by rw[I.list_inj hy hq];exact hx⟩,Ew,λb hb=>(hf b hb).1⟩⟩
 done:=by intro X hP hw hK hc i Ee s σ H E I hf st hg;subst hP hw hK;obtain⟨xs,hq,hx⟩:=hg;obtain⟨Ef,rv,p,hz⟩:=I.list hq;obtain⟨f0,f1,f2,f3,f4,f5⟩:=hf it (by simp);have hl:=rv.length;exact wpAny_pyNext_list_end (I.ok.hd hc) st p.isList (by simp;lia) λh' eb=>⟨rfl,I.turned (t':=s.toks) (λb o hb e=>eb b o hb e) f0 f1 f3 f4 f5⟩
 self:=λ_ _ _ _ _ st h=>wpAny_pyIter_listiter st h
def BY{w:jq}{K:zn}{tg:Expr}(a it:Addr):F9 P w K tg (Itt K a) [it] it (λi h=>h.IsTupleIter it a i) where
 mem:=by simp
 obj:=λi h st b hb=>by
  have e:b=it:=by simpa using hb
  subst e;obtain⟨o,e,c,d⟩:=st;exact⟨o,e,λv z=>by rw[d]at z;cases z⟩
 keep:=λi h h' st k=>st.at λo e=>k it (by simp) o e
 item:=by intro X hP hw hK hc i Ee s σ H E I hf st hg;subst hP hw hK;obtain⟨xs,x,hq,hx⟩:=hg;obtain⟨Ef,rv,p,hz⟩:=I.tuple hq;obtain⟨u,hu,ru⟩:=rv.get hx;obtain⟨f0,f1,f2,f3,f4,f5⟩:=hf it (by simp);refine wpAny_pyNext_tuple_item st (show s.heap.IsTuple a Ef.toArray from p) (x:=u) (by simpa using hu) λh' Ew sb=>?_;have I1:Inv X Ee σ H {s with heap:=h'}:=I.turned (t':=s.toks) (λb o hb e=>(sb.2 b hb).trans e) f0 f1 f3 f4 f5;obtain⟨o,e,c,d⟩:=id Ew;exact⟨u,rfl,FD (s:={s with heap:=h'}) e c d (by decide) ⟨x,H,I1,ru,⟨rfl,λys hy=>by rw[I.tuple_inj hy hq];exact hx⟩,Ew,λb hb=>(hf b hb).1⟩⟩
 done:=by intro X hP hw hK hc i Ee s σ H E I hf st hg;subst hP hw hK;obtain⟨xs,hq,hx⟩:=hg;obtain⟨Ef,rv,p,hz⟩:=I.tuple hq;obtain⟨f0,f1,f2,f3,f4,f5⟩:=hf it (by simp);have hl:=rv.length;exact wpAny_pyNext_tuple_end (I.ok.hd hc) st (show s.heap.IsTuple a Ef.toArray from p) (by simp;lia) λh' eb=>⟨rfl,I.turned (t':=s.toks) (λb o hb e=>eb b o hb e) f0 f1 f3 f4 f5⟩
 self:=λ_ _ _ _ _ st h=>wpAny_pyIter_tupleiter st h
def mq{w:jq}{K:zn}{tg:Expr}(it:Addr)(lo:Int)(n:Nat):F9 P w K tg (Itr lo n) [it] it (λi h=>IsRangeIter h it (lo+(i:Nat)*1) ((n:Int)-(i:Nat)) 1) where
 mem:=by simp
 obj:=λi h st b hb=>by
  have e:b=it:=by simpa using hb
  subst e;exact⟨_,st,λv z=>by
   have z':Data.fields _=Data.cell v:=z
   cases z'⟩
 keep:=λi h h' st k=>k it (by simp) _ st
 item:=by intro X hP hw hK hc i Ee s σ H E I hf st hg;subst hP hw hK;obtain⟨f0,f1,f2,f3,f4,f5⟩:=hf it (by simp);have W:=Walks.range (prog:=X.prog) (w:=X.w) (I.ok.hd hc) it lo 1 n;refine W.item i s _ _ hg st λv h' tk hv Ew kk=>?_;obtain⟨t,rfl⟩:=hv;have I1:Inv X Ee σ H {s with heap:=h',toks:=tk}:=I.turned (λb o hb e=>kk b o (by simpa using hb) e) f0 f1 f3 f4 f5;refine⟨_,rfl,FD (s:={s with heap:=h',toks:=tk}) (n:= "range_iterator") Ew rfl rfl (by decide) ⟨.int (lo+i),H,I1,⟨t,?_⟩,⟨rfl,rfl⟩,Ew,λb hb=>(hf b hb).1⟩⟩;rw[Int.mul_one]
 done:=by intro X hP hw hK hc i Ee s σ H E I hf st hg;subst hP hw hK;obtain⟨f0,f1,f2,f3,f4,f5⟩:=hf it (by simp);exact wpAny_pyNext_range_end (I.ok.hd hc) st (by have:n<=i:=hg;lia) λh' eb=>⟨rfl,I.turned (t':=s.toks) (λb o hb e=>eb b o hb e) f0 f1 f3 f4 f5⟩
 self:=λ_ _ _ _ _ st h=>wpAny_pyIter_rangeiter st h
def Aw{σ:St}{H:Hp}{s:zD}{R:It->Hp->Prop}{lo hi:Int}{t u v:Tok}{tk:Nat}(I:Inv X Ee σ H s)(h1: -(2 ^ 62)<=lo)(h2:lo<2 ^ 62)(h3: -(2 ^ 62)<=hi)(h4:hi<2 ^ 62)
 (q:R (Itr lo (hi-lo).toNat) H):zw (zG X.prog X.w) X.A (JC (.ref s.heap.objs.size)) (PIE X Ee σ tg R) E {s with heap:=s.heap.push {cls:=.type "range",data:=.fields #[.int lo t,.int hi u,.int 1 v]},toks:=tk}:=by
 refine wpAny_pyIter_range (IsRange.new ..) (small_one h1 h2 h3 h4) ?_;have I1:Inv X Ee σ H {s with heap:=s.heap.push {cls:=.type "range",data:=.fields #[.int lo t,.int hi u,.int 1 v]},toks:=tk}:=I.kept λb o e=>zh _ e;refine⟨(s.heap.push {cls:=.type "range",data:=.fields #[.int lo t,.int hi u,.int 1 v]}).objs.size, [(s.heap.push {cls:=.type "range",data:=.fields #[.int lo t,.int hi u,.int 1 v]}).objs.size],_,_,H,rfl,
  I1.kept (t':=tk) λb o e=>zh _ e,mq _ lo (hi-lo).toNat,?_,λb hb=>?_,q⟩
 · have e1:lo+((0:Nat):Int)*1=lo:=by simp
   have e2:(((hi-lo).toNat:Nat):Int)-((0:Nat):Int)=Builtin.Range.rangeSize lo hi 1:=by rw[rangeSize_one];split<;>lia
   show IsRangeIter _ _ (lo+((0:Nat):Int)*1) ((((hi-lo).toNat:Nat):Int)-((0:Nat):Int)) 1;rw[e1,e2];exact zt _ rfl
 · have e:b= (s.heap.push {cls:=.type "range",data:=.fields #[.int lo t,.int hi u,.int 1 v]}).objs.size:=by simpa using hb
   subst e;exact I1.fpOk (zp _) (I1.hok.fresh (zp _))
def Wj(ta:TA):TI:=λσ H R=>ta σ H λvs H1=>∃j:Int,vs= [.int j]/\ -(2 ^ 62)<=j/\j<2 ^ 62/\R (Itr 0 j.toNat) H1
def Hd{ta:TA}(hg:Gl X "range")(hm:X.mg "range" =none)(ha:PA X [a] ta)(hs:zW [a] X.env= [(false,eval a X.env)]):PI X tg (.Call (.Name "range" p) [a] [] pos) (Wj ta):=by
 intro Ee s σ H R I h;refine Call_ (E7 I hg hm boot_range (yE (thn (ha pos Ee s σ H _ I h) λus s1 Ep=>Ep.elim λvs H1 I1 r1 q1=>?_) hs rfl));obtain⟨j,e,q1,q2,q⟩:=q1;subst e
 cases r1 with
 |cons r rr=>
   cases rr
   obtain⟨t,rfl⟩:=r;exact call_range_1 (Aw I1 (by lia) (by lia) q1 q2 (by simpa using q))
def mZ(wi:TI)(g:TG)(tb:TS):TS:=λD σ H=>wi σ H λJ H1=>∃W:Nat->Nat->St->Hp->Prop,(∃m,W 0 m σ H1)/\∀i m σ H,W i m σ H->
 (J.stop i H/\D.nx σ H)\/(J.go i H/\∃N:St->Hp->Prop,(∀ X1 H',N X1 H'->∃m',m'<m/\W (i+1) m' X1 H')/\∀x H',J.yld i H x H'->g x σ H' λσ2 H2=>tb {D with nx:=N,ct:=N,bk:=D.nx} σ2 H2)
def qE(fp:List Addr)(h:Heap):PNS:=fp.filterMap λb=>(h.get? b).map λo=>(b,o)
def sC(hb:b∈fp)(e:h.get? b=some o):(b,o)∈qE fp h:=List.mem_filterMap.mpr ⟨b,hb,by rw[e];rfl⟩
def UV(hp:p∈qE fp h):p.1∈fp/\h.get? p.1=some p.2:=by
 obtain⟨b,hb,e⟩:=List.mem_filterMap.mp hp
 cases q:h.get? b with
 |none=>rw[q]at e;cases e
 |some o=>
   rw[q]at e;have e':(b,o)=p:=jc e;subst e';exact⟨hb,q⟩
def Inv.pinned(I:Inv X Ee σ H s)(hf:∀b∈fp,N2 X Ee H b)(ho:∀b∈fp,∃o,s.heap.get? b=some o/\∀v,o.data≠ .cell v):Inv X (Ee++qE fp s.heap) σ H s:=
 I.pins_of λp hp=>(jd.mp hp).elim (λz=>I.pin p (zP _ z)) λz=>by obtain⟨hb,e⟩:=UV z;obtain⟨f0,f1,f2,_⟩:=hf p.1 hb;obtain⟨o,e',d⟩:=ho p.1 hb;rw[e]at e';cases e';exact⟨e,f0,f1,f2,d⟩
def Inv.unpinned(I:Inv X (Ee++pl) σ H s):Inv X Ee σ H s:=I.pins_of λp hp=>I.pin p (zP _ (yY _ hp))
inductive IJ(X:Cx)(Ee:PNS)(fp:List Addr)(tn:Nat->Heap->Prop)(W:Nat->Nat->St->Hp->Prop)(n:Nat)(s':zD):Prop
 |mk (i:Nat) (X1:St) (H':Hp) (I:Inv X Ee X1 H' s') (st:tn i s'.heap) (fr:∀b∈fp,H' b=none) (w:W i n X1 H')
def mz{body:List Stmt}{g:TG}{tb:TS}{Ee:PNS}{D:LA}{it:Addr}{fp:List Addr}{tn:Nat->Heap->Prop}{J:It}(hp:∀e s,X.xe e s->EE e s)(hc:X.calm=true)(hg:PG X tg g)(hb:PSs X body tb)
 (T:F9 X.prog X.w X.K tg J fp it tn) (stat:∀ {H':Hp},(∀b∈fp,H' b=none)->∀b∈fp,N2 X Ee H' b)
 (turn:∀i m σ H,W i m σ H->
 (J.stop i H/\D.nx σ H)\/(J.go i H/\∃N:St->Hp->Prop,(∀ X1 H',N X1 H'->∃m',m'<m/\W (i+1) m' X1 H')/\∀x H',J.yld i H x H'->g x σ H' λσ2 H2=>tb {D with nx:=N,ct:=N,bk:=D.nx} σ2 H2))
   {n:Nat} {s3:zD} (h3:IJ X Ee fp tn W n s3) {NX:zD->Prop} (nx:∀m s,m<n->IJ X Ee fp tn W m s->NX s):
   zw (zG X.prog X.w) X.A (xS (.ref it)) (λr s1=>match r with
    |none=>zw (zG X.prog X.w) X.A (execs [] X.env) (λf s2=>SP X Ee D f s2) EE s1
    | some v => zw (zG X.prog X.w) X.A (Zf tg (.ref it) v) (λ_ s2 => zw (zG X.prog X.w) X.A (YW tg X.env v) (λ_ s4 => zw (zG X.prog X.w) X.A (execs body X.env) (λf s5 => match f with
       | .next| .cont=>NX s5
       | .brk=>SP X Ee D .next s5
       | .ret v=>SP X Ee D (.ret v) s5) EE s4) EE s2) EE s1) EE s3:=by
 obtain⟨i,WQ,H3,I3,st3,fr3,w3⟩:=h3;rcases turn i n WQ H3 w3 with⟨stop,qn⟩|⟨go,N,hN,step⟩
 ·refine jS (T.done X rfl rfl rfl hc i Ee s3 WQ H3 X.xe I3 (stat fr3) st3 stop) (λr s4 z1=>?_) hp;obtain⟨hr,I4⟩:=z1;subst hr;exact Xc ⟨WQ,H3,I4,qn⟩
 · refine jS (T.item X rfl rfl rfl hc i Ee s3 WQ H3 X.xe I3 (stat fr3) st3 go) (λr s4 z2=>?_) hp;obtain⟨u,hr,h4⟩:=z2;subst hr;refine jS h4 (λ_ s5 z3=>?_) hp;obtain⟨x,H5,I5,r5,y5,st5,fr5⟩:=z3;have I5':=I5.pinned (stat fr5) (T.obj _ _ st5);refine jS (hg _ s5 WQ H5 x u _ I5' r5 (step x H5 y5)) (λ_ s6 z4=>?_) hp;obtain⟨WP,H6,I6,q6⟩:=z4;refine jS (hb _ s6 WP H6 _ I6 q6) (λf s7 q7=>?_) hp;have again:∀ {WM:St} {H7:Hp},Inv X (Ee++qE fp s5.heap) WM H7 s7->N WM H7->NX s7:=λ{WM H7} I7 n7=>by
    obtain⟨m',hm,w7⟩:=hN WM H7 n7;refine nx m' _ hm ⟨i+1,WM,H7,I7.unpinned,T.keep _ _ _ st5 λb hb o e=>(I7.pin (b,o) (zP _ (zP _ (sC hb e)))).1,λb hb=>?_,w7⟩;obtain⟨o,e,d⟩:=T.obj _ _ st5 b hb;exact(I7.pin (b,o) (zP _ (zP _ (sC hb e)))).2.1
   cases f with
   |next=>obtain⟨WM,H7,I7,n7⟩:=q7;exact again I7 n7
   |cont=>obtain⟨WM,H7,I7,n7⟩:=q7;exact again I7 n7
   |brk=>obtain⟨WM,H7,I7,q7⟩:=q7;exact⟨WM,H7,I7.unpinned,q7⟩
   |ret v=>obtain⟨x7,WM,H7,I7,r7,q7⟩:=q7;exact⟨x7,WM,H7,I7.unpinned,r7,q7⟩
def qX(hp:PassesOwn (zG X.prog X.w) X.A X.env X.xe)(hc:X.calm=true)(hi:PI X tg iter wi)(hg:PG X tg g)(hb:PSs X body tb)
 (hs:∀x,xc iter X.env x=pure x):PS X (.For tg iter body [] pos) (mZ wi g tb):=by
 intro Ee s σ H D I h;refine wpAny_For (thn (hi Ee s σ H _ I h) λv s1 h1=>thn h1 λitv s2 h2=>?_) hs;obtain⟨it,fp,tn,J,H2,e,I2,T,st2,f2,W,⟨m0,w0⟩,turn⟩:=h2;subst e
 -- what stays true of the iterator's objects through the loop
 have stat:∀ {H':Hp},(∀b∈fp,H' b=none)->∀b∈fp,N2 X Ee H' b:=λhn b hb=>⟨hn b hb,(f2 b hb).2⟩;exact codeAny_forLoop_any (IJ X Ee fp tn W) (λn s3 h3=>mz hp hc hg hb T stat turn h3 λm s h1 h2=>⟨m,h1,h2⟩) m0 ⟨0,σ,H2,I2,st2,λb hb=>(f2 b hb).1,w0⟩
abbrev R2:=V->V->Hp->VK->Prop
def OpR(X:Cx)(f:zk->zk->Sem zk)(r:R2):Prop:=
 ∀(Ee:PNS) (s:zD) (σ:St) (H:Hp) (x y:V) (v u:zk) (Q:VK),Inv X Ee σ H s->J5 x v->J5 y u->r x y H Q->
  zw (zG X.prog X.w) X.A (f v u) (EP X Ee σ Q) X.xe s
def UnR(X:Cx)(f:zk->Sem zk)(r:V->Hp->VK->Prop):Prop:=
 ∀(Ee:PNS) (s:zD) (σ:St) (H:Hp) (x:V) (v:zk) (Q:VK),Inv X Ee σ H s->J5 x v->r x H Q->
  zw (zG X.prog X.w) X.A (f v) (EP X Ee σ Q) X.xe s
def v3(X:Cx)(f:zk)(r:List V->Hp->VK->Prop):Prop:=
 ∀(Ee:PNS) (s:zD) (σ:St) (H:Hp) (xs:List V) (us:List zk) (Q:VK),Inv X Ee σ H s->u9 xs us->r xs H Q->
  zw (zG X.prog X.w) X.A (call f us) (EP X Ee σ Q) X.xe s
def wX(X:Cx)(r:V->Hp->(Bool->Hp->Prop)->Prop):Prop:=
 ∀(Ee:PNS) (s:zD) (σ:St) (H:Hp) (x:V) (v:zk) (Q:Bool->Hp->Prop),Inv X Ee σ H s->J5 x v->r x H Q->
  zw (zG X.prog X.w) X.A (truthy v) (TP X Ee σ Q) X.xe s
def tOp(r:R2)(ta tb:TE):TE:=λσ H Q=>ta σ H λx H1=>tb σ H1 λy H2=>r x y H2 Q
def tUn(r:V->Hp->VK->Prop)(ta:TE):TE:=λσ H Q=>ta σ H λx H1=>r x H1 Q
def rI(C:Int->Int->Prop)(g:Int->Int->V):R2:=λx y H Q=>∃i j,x= .int i/\y= .int j/\C i j/\Q (g i j) H
def qA(g:Int->Int->V):R2:=λx y H Q=>∃i j,x= .int i/\y= .int j/\Q (g i j) H
def rU(g:Int->V):V->Hp->VK->Prop:=λx H Q=>∃i,x= .int i/\Q (g i) H
def VL(ha:PE X a ta)(hb:PE X b tb){Ee:PNS}{s:zD}{σ:St}{H:Hp}{R:V->V->Hp->Prop}(I:Inv X Ee σ H s)
 (h:ta σ H λx H1=>tb σ H1 λy H2=>R x y H2) {f:zk->zk->Sem zk}
 (hf:∀v u s2 x y H2,Inv X Ee σ H2 s2->J5 x v->J5 y u->R x y H2->zw (zG X.prog X.w) X.A (f v u) Q X.xe s2):
 zw (zG X.prog X.w) X.A (eval a X.env) (λv W1=>zw (zG X.prog X.w) X.A (eval b X.env) (λu s₂=>zw (zG X.prog X.w) X.A (f v u) Q X.xe s₂) X.xe W1) X.xe s:=by
 refine thn (ha Ee s σ H _ I h) λv s1 Ep=>Ep.elim λx H1 I1 r1 q1=>?_;refine thn (hb Ee s1 σ H1 _ I1 q1) λu s2 Ep=>Ep.elim λy H2 I2 r2 q2=>?_;exact hf v u s2 x y H2 I2 r1 r2 q2
def AM(ho:OpR X (yb op) r)(ha:PE X a ta)(hb:PE X b tb):PE X (.BinOp a op b pos) (tOp r ta tb):=by intro Ee s σ H Q I h;exact wpAny_BinOp (VL ha hb I h λv u s2 x y H2 I2 rx ry q=>ho Ee s2 σ H2 x y v u Q I2 rx ry q)
def LV(ho:UnR X (unaryOp op) r)(ha:PE X a ta):PE X (.UnaryOp op a pos) (tUn r ta):=by intro Ee s σ H Q I h;exact UnaryOp_ (thn (ha Ee s σ H _ I h) λv s1 Ep=>Ep.elim λx H1 I1 r1 q1=>ho Ee s1 σ H1 x v Q I1 r1 q1)
def opI{C:Int->Int->Prop}{g:Int->Int->Int}
 (rule:∀(i j:Int) (t u:Tok) (s:zD) Q (E:VSP),C i j->Q (.int (g i j) s.toks) {s with toks:=s.toks+1}->zw (zG X.prog X.w) X.A (f (.int i t) (.int j u)) Q E s):
 OpR X f (rI C λi j=>.int (g i j)):=by
 intro Ee s σ H x y v u Q I rx ry h;obtain⟨i,j,rfl,rfl,hc,q⟩:=h;obtain⟨t,rfl⟩:=rx;obtain⟨t',rfl⟩:=ry;exact rule i j t t' s _ _ hc ⟨.int (g i j),H,I.tok _,⟨_,rfl⟩,q⟩
def bN{g:Int->Int->Int}
 (rule:∀(i j:Int) (t u:Tok) (s:zD) Q (E:VSP),Q (.int (g i j) s.toks) {s with toks:=s.toks+1}->zw (zG X.prog X.w) X.A (f (.int i t) (.int j u)) Q E s):
 OpR X f (qA λi j=>.int (g i j)):=by
 intro Ee s σ H x y v u Q I rx ry h;obtain⟨i,j,rfl,rfl,q⟩:=h;obtain⟨t,rfl⟩:=rx;obtain⟨t',rfl⟩:=ry;exact rule i j t t' s _ _ ⟨.int (g i j),H,I.tok _,⟨_,rfl⟩,q⟩
def FL{g:Int->Int->Bool}
 (rule:∀(i j:Int) (t u:Tok) (s:zD) Q (E:VSP),Q (.bool (g i j)) s->zw (zG X.prog X.w) X.A (f (.int i t) (.int j u)) Q E s):
 OpR X f (qA λi j=>.bl (g i j)):=by
 intro Ee s σ H x y v u Q I rx ry h;obtain⟨i,j,rfl,rfl,q⟩:=h;obtain⟨t,rfl⟩:=rx;obtain⟨t',rfl⟩:=ry;exact rule i j t t' s _ _ ⟨.bl (g i j),H,I,rfl,q⟩
def QA(i j:Int):Prop:=0<=j/\j<=1000000/\i.natAbs<2 ^ 64
def c6(i j:Int):Prop:=(-(2 ^ 64)<i/\i<2 ^ 64)\/(-(2 ^ 64)<j/\j<2 ^ 64)
def c6.ok(h:c6 i j):IntMulOk i j:=by
 rcases h with⟨h1,h2⟩|⟨h1,h2⟩
 ·exact .of_left (intBits_le_64 h1 h2)
 ·exact .of_right (intBits_le_64 h1 h2)
def rW:OpR X (yb .Add) (qA λi j=>.int (i+j)):=bN λ_ _ _ _ _ _ _ q=>add_int q
def iU:OpR X (yb .Sub) (qA λi j=>.int (i-j)):=bN λ_ _ _ _ _ _ _ q=>sub_int q
def nv:OpR X (yb .Mult) (rI c6 λi j=>.int (i*j)):=opI λ_ _ _ _ _ _ _ hc q=>mul_int q hc.ok
def mr:OpR X (yb .Mod) (rI (λ_ j=>0<j) λi j=>.int (i % j)):=opI λi j _ _ _ _ _ hc q=>by have h1:(0:Int)<j:=hc;exact mod_int' (by lia) (by rw[Int.fmod_eq_emod_of_nonneg i (by lia)];exact q)
def wP:OpR X (yb .Pow) (rI QA λi j=>.int (i ^ j.toNat)):=opI λ_ _ _ _ _ _ _ hc q=>pow_int_small hc.1 hc.2.1 hc.2.2 q
def unI{f:zk->Sem zk}{g:Int->Int}
 (rule:∀(i:Int) (t:Tok) (s:zD) Q E,Q (.int (g i) s.toks) {s with toks:=s.toks+1}->zw (zG X.prog X.w) X.A (f (.int i t)) Q E s):
 UnR X f (rU λi=>.int (g i)):=by
 intro Ee s σ H x v Q I rx h;obtain⟨i,rfl,q⟩:=h;obtain⟨t,rfl⟩:=rx;exact rule i t s _ _ ⟨.int (g i),H,I.tok _,⟨_,rfl⟩,q⟩
def vZ:UnR X (unaryOp .USub) (rU λi=>.int (-i)):=unI λ_ _ _ _ _ q=>neg_int q
def aM(I:Inv X Ee σ H s)(q:Q (.bl k) H)(e:k=k'):EP X Ee σ Q (.bool k') s:=by subst e;exact⟨.bl k,H,I,rfl,q⟩
def LW:OpR X (zZ .LtE) (qA λi j=>.bl (decide (i<=j))):=FL λ_ _ _ _ _ _ _ q=>le_int q
def fz:OpR X (zZ .Gt) (qA λi j=>.bl (decide (j<i))):=FL λ_ _ _ _ _ _ _ q=>gt_int q
def Qg:OpR X (zZ .GtE) (qA λi j=>.bl (decide (j<=i))):=FL λ_ _ _ _ _ _ _ q=>ge_int q
def CW:OpR X (zZ .In) (λx y H Q=>∃i j,x= .str i/\y= .str j/\Q (.bl (!(ZN j i 0 j.length 1).isEmpty)) H):=by intro Ee s σ H x y v u Q I rx ry h;obtain⟨i,j,rfl,rfl,q⟩:=h;obtain⟨t,rfl⟩:=rx;obtain⟨t',rfl⟩:=ry;exact in_str (aM I q rfl)
def Nv:OpR X (zZ .Is) (λx y H Q=>y= .non/\Q (.bl (decide (x= .non))) H):=by
 intro Ee s σ H x y v u Q I rx ry h;obtain⟨rfl,q⟩:=h
 cases ry
 refine is_none_gen (aM I q ?_)
 cases x<;>first
  |(cases rx;rfl)
  |(obtain⟨t,rfl⟩:=rx;rfl)
def Kx:OpR X (zZ .IsNot) (λx y H Q=>y= .non/\Q (.bl (!decide (x= .non))) H):=by
 intro Ee s σ H x y v u Q I rx ry h;obtain⟨rfl,q⟩:=h
 cases ry
 refine isnot_none_gen (aM I q ?_)
 cases x<;>first
  |(cases rx;rfl)
  |(obtain⟨t,rfl⟩:=rx;rfl)
def OpR.or(h:OpR X f r)(h':OpR X f r'):OpR X f (λx y H Q=>r x y H Q\/r' x y H Q):=by
 intro Ee s σ H x y v u Q I rx ry q;rcases q with q|q
 ·exact h Ee s σ H x y v u Q I rx ry q
 ·exact h' Ee s σ H x y v u Q I rx ry q
def Ar(ho:OpR X (zZ op) r)(ha:PE X a ta)(hb:PE X b tb)(hm:XQ op b=false):PE X (.Compare a [op] [b] pos) (tOp r ta tb):=by intro Ee s σ H Q I h;exact wpAny_Compare1 (VL ha hb I h λv u s2 x y H2 I2 rx ry q=>ho Ee s2 σ H2 x y v u Q I2 rx ry q) hm
def MU(t:TE):TT:=λσ H Q=>t σ H λx H'=>∃k,x= .bl k/\Q k H'
def Nd(ho:OpR X (zZ op) r)(ha:PE X a ta)(hb:PE X b tb)(hm:XQ op b=false):PT X (.Compare a [op] [b] pos) (MU (tOp r ta tb)):=by
 intro Ee s σ H Q I h;refine wpAny_isTrue_Compare1 (thn (ha Ee s σ H _ I h) λv s1 Ep=>Ep.elim λx H1 I1 r1 q1=>thn (hb Ee s1 σ H1 _ I1 q1) λu s2 Ep=>Ep.elim λy H2 I2 r2 q2=>
  thn (ho Ee s2 σ H2 x y v u _ I2 r1 r2 q2) λc s3 ⟨z,H3,I3,r3,k,e,q3⟩=>?_) hm
 subst e
 cases r3
 exact yA ⟨H3,I3,q3⟩
def MM(r r':R2)(ta tb tc:TE):TE:=λσ H Q=>ta σ H λx H1=>tb σ H1 λy H2=>r x y H2 λz H3=>∃k,z= .bl k/\
 (if k=true then tc σ H3 λw' H4=>r' y w' H4 Q else Q (.bl false) H3)
def Bt(ho:OpR X (zZ op) r)(ho':OpR X (zZ op') r')(ha:PE X a ta)(hb:PE X b tb)(hc:PE X c tc)
 (hm:lastMarks [op,op'] [b,c]=false):PE X (.Compare a [op,op'] [b,c] pos) (MM r r' ta tb tc):=by
 intro Ee s σ H Q I h;refine Compare_chain (thn (ha Ee s σ H _ I h) λv s1 Ep=>Ep.elim λx H1 I1 r1 q1=>chain_link (thn (hb Ee s1 σ H1 _ I1 q1) λu s2 Ep=>Ep.elim λy H2 I2 r2 q2=>
  thn (ho Ee s2 σ H2 x y v u _ I2 r1 r2 q2) λd s3 ⟨z,H3,I3,r3,k,e,q3⟩=>?_)) hm
 subst e
 cases r3
 refine yA ?_
 cases k with
 |false=>exact ite_ff ⟨.bl false,H3,I3,rfl,q3⟩
 |true=>exact ite_tt (chain_last (thn (hc Ee s3 σ H3 _ I3 q3) λw' s4 ⟨z',H4,I4,r4,q4⟩=>ho' Ee s4 σ H4 y z' u w' Q I4 r2 r4 q4))
def MX(ho:OpR X (zZ op) r)(ho':OpR X (zZ op') r')(ha:PE X a ta)(hb:PE X b tb)(hc:PE X c tc)
 (hm:lastMarks [op,op'] [b,c]=false):PT X (.Compare a [op,op'] [b,c] pos) (MU (MM r r' ta tb tc)):=by
 intro Ee s σ H Q I h;refine isTrue_chain (thn (ha Ee s σ H _ I h) λv s1 Ep=>Ep.elim λx H1 I1 r1 q1=>test_link (thn (hb Ee s1 σ H1 _ I1 q1) λu s2 Ep=>Ep.elim λy H2 I2 r2 q2=>
  thn (ho Ee s2 σ H2 x y v u _ I2 r1 r2 q2) λd s3 ⟨z,H3,I3,r3,k,e,q3⟩=>?_)) hm
 subst e
 cases r3
 refine yA ?_
 cases k with
 |false=>
   obtain⟨k',e',q'⟩:=q3
   cases e'
   exact ite_ff ⟨H3,I3,q'⟩
 |true=>
   refine ite_tt (test_last (thn (hc Ee s3 σ H3 _ I3 q3) λw' s4 ⟨z',H4,I4,r4,q4⟩=>thn (ho' Ee s4 σ H4 y z' u w' _ I4 r2 r4 q4) λd' s5 ⟨z2,H5,I5,r5,k2,e2,q5⟩=>?_));subst e2
   cases r5
   exact yA ⟨H5,I5,q5⟩
def TM(K:zn)(x:V)(H:Hp)(k:Bool):Prop:=
 match x with
 | .non=>k=false
 | .bl b=>k=b
 | .int i=>k= (i != 0)
 | .str y=>y.length<=zq/\k= ((y.length:Int) != 0)
 | .byt y=>y.size<=zq/\k= ((y.size:Int) != 0)
 | .ref p=>(∃xs,SqL K H p xs/\k= !xs.isEmpty)\/(∃xs,SqT K H p xs/\k= !xs.isEmpty)\/∃Eg,H p=some (.dK Eg)/\k= !Eg.isEmpty
 |_=>False
def VV(r:KV Eg vs):(!vs.isEmpty)= !Eg.isEmpty:=by
 cases r<;>rfl
def aN(r:u9 xs Ef):(!Ef.toArray.isEmpty)= !xs.isEmpty:=by
 cases r<;>simp
def bC:(zq:Nat)<2 ^ 63:=by rw[yR];decide
def IK:wX X (λx H Q=>∃k,TM X.K x H k/\Q k H):=by
 intro Ee s σ H x v Q I rx h;obtain⟨k,e,q⟩:=h;have hl:=bC;have hs:zq=16777216:=yR
 cases x with
 |non=>
   cases rx
   have e':k=false:=e;subst e';exact truthy_none ⟨H,I,q⟩
 |bl b=>
   cases rx
   have e':k=b:=e;subst e';exact yA ⟨H,I,q⟩
 |int i=>
   obtain⟨t,rfl⟩:=rx;have e':k= (i != 0):=e;subst e';exact PySem.P.truthy_int ⟨H,I,q⟩
 |str y=>
   obtain⟨t,rfl⟩:=rx;obtain⟨hy,e'⟩:y.length<=zq/\k= ((y.length:Int) != 0):=e;subst e';exact PySem.P.truthy_str (by lia) ⟨H,I.tok _,q⟩
 |byt y=>
   obtain⟨t,rfl⟩:=rx;obtain⟨hy,e'⟩:y.size<=zq/\k= ((y.size:Int) != 0):=e;subst e';exact PySem.W.truthy_bytes (by lia) ⟨H,I.tok _,q⟩
 |ref p=>
   cases rx
   have e':(∃xs,SqL X.K H p xs/\k= !xs.isEmpty)\/(∃xs,SqT X.K H p xs/\k= !xs.isEmpty)\/∃Eg,H p=some (.dK Eg)/\k= !Eg.isEmpty:=e;rcases e' with⟨xs,hx,e'⟩|⟨xs,hx,e'⟩|⟨Eg,hx,e'⟩
   ·subst e';obtain⟨Ef,r,pl,hz⟩:=I.list hx;have Ei:=r.length;exact wpAny_truthy_list pl.isList (by simp only[zo];lia) ⟨H,I.tok _,by rw[aN r];exact q⟩
   ·subst e';obtain⟨Ef,r,pl,hz⟩:=I.tuple hx;have Ei:=r.length;exact truthy_tuple pl (by simp only[zo];lia) ⟨H,I.tok _,by rw[aN r];exact q⟩
   ·subst e';obtain⟨hz,hS,vs,r,m⟩:Eg.length<=zq/\(p==yT)=false/\∃vs,KV Eg vs/\s.heap.DictOf (M9 X.prog X.w) p vs:=I.hok p _ hx;have Ei:Eg.length=vs.length:=xr r;exact wpAny_truthy_dict hS m (by lia) ⟨H,I.tok _,by rw[VV r];exact q⟩
 |_=>exact(show False from e).elim
def qW(ha:PE X a ta)(he:∀whole,isTrue a X.env whole= (do let v <-whole;standAt a.pos;Xy [v] (truthy v))):
 PT X a (λσ H Q=>ta σ H λx H'=>∃k,TM X.K x H' k/\Q k H'):=by
 intro Ee s σ H Q I h;exact isTrue_plain (thn (ha Ee s σ H _ I h) λv s1 Ep=>Ep.elim λx H1 I1 r1 q1=>IK Ee s1 σ H1 x v Q I1 r1 q1) (he _)
def vb:OpR X (yb .Add) (λx y H Q=>∃i j,x= .str i/\y= .str j/\i.length+j.length<=zq/\Q (.str (i++j)) H):=by intro Ee s σ H x y v u Q I rx ry h;obtain⟨i,j,rfl,rfl,hz,q⟩:=h;obtain⟨t,rfl⟩:=rx;obtain⟨t',rfl⟩:=ry;exact add_str (λt' tk=>⟨.str (i++j),H,I.tok _,⟨_,rfl⟩,q⟩) hz
def S3(r:u9 [x] us):∃u,us= [u]/\J5 x u:=by
 cases r with
 |cons r1 r2=>cases r2;exact⟨_,rfl,r1⟩
def tG(r:u9 [x,y] us):∃u w',us= [u,w']/\J5 x u/\J5 y w':=by
 cases r with
 |cons r1 r2=>
   cases r2 with
   |cons r3 r4=>cases r4;exact⟨_,_,rfl,r1,r3⟩
def qm:v3 X (.builtin "abs") (λxs H Q=>∃i,xs= [.int i]/\Q (.int (if i<0 then -i else i)) H):=by intro Ee s σ H xs us Q I r h;obtain⟨i,rfl,q⟩:=h;obtain⟨u,rfl,t,rfl⟩:=S3 r;exact call_abs_int λu tk=>⟨.int (if i<0 then -i else i),H,I.tok _,⟨_,rfl⟩,q⟩
def qa(hc:X.calm=true):v3 X (.builtin "max") (λxs H Q=>∃i j,xs= [.int i,.int j]/\Q (.int (if j>i then j else i)) H):=by
 intro Ee s σ H xs us Q I r h;obtain⟨i,j,rfl,q⟩:=h;obtain⟨u,w',rfl,⟨t,rfl⟩,⟨t',rfl⟩⟩:=tG r;refine max_two_ints (I.ok.hd hc) λh' tk k=>⟨_,H,I.kept k,?_,q⟩;by_cases hj:j>i
 ·rw[if_pos hj,if_pos hj];exact⟨_,rfl⟩
 ·rw[if_neg hj,if_neg hj];exact⟨_,rfl⟩
def Tf:v3 X (.type "int") (λxs H Q=>(∃i,xs= [.int i]/\Q (.int i) H)\/∃k,xs= [.bl k]/\Q (.int (if k then 1 else 0)) H):=by
 intro Ee s σ H xs us Q I r h;rcases h with⟨i,rfl,q⟩|⟨k,rfl,q⟩
 ·obtain⟨u,rfl,t,rfl⟩:=S3 r;exact call_int_int ⟨.int i,H,I,⟨_,rfl⟩,q⟩
 · obtain⟨u,rfl,r1⟩:=S3 r
   cases r1
   exact call_int_bool ⟨.int (if k then 1 else 0),H,I.tok _,⟨_,rfl⟩,q⟩
structure ObjM(h:Heap)(x dx C:Addr)(mA:Str->Option zk):Prop where
 obj:h.get? x=some (PySem.W.instObj C dx)
 ns:h.Ns1 dx mA
 ne:dx≠x
section
variable{prog:jh}{w:jq}{A:jC}{E:VSP}{s:zD}{K:zn}{x dx C f:Addr}{mA:Str->Option zk}{name:Str}{v:zk}
end
def u8.some_of(r:u8 (some v) o):∃u,o=some u/\J5 v u:=by
 cases o with
 |none=>exact(show False from r).elim
 |some u=>exact⟨u,rfl,r⟩
structure Cls(K:zn)(C:Addr):Prop where
 pg:PySem.W.plainGet K C Str.empty=true
 hd:PySem.W.hasDictIn K C=true
 po:PySem.W.plainOver K C=true
 sa:ZB K (.ref C) "__setattr__" =some (some (.builtin "object.__setattr__"))
structure Con(K:zn)(C:Addr)(f:Str)(v:V)(u:zk):Prop where
 at_:ZB K (.ref C) f=some (some u)
 rel:J5 v u
 get:PySem.W.specialIn K u "__get__" =some none
 cp:PySem.W.copiedNames.contains f=false
structure Meth(K:zn)(C:Addr)(m:Str)(f:Addr):Prop where
 at_:ZB K (.ref C) m=some (some (.ref f))
 fn:PySem.W.isFn K (.ref f)=true
 kp:yD K (.ref f)=true
inductive a9(K:zn)(H:Hp):V->zk->Prop where
 |non:a9 K H .non (.type "NoneType")
 |bl (x:Bool):a9 K H (.bl x) (.type "bool")
 |int (i:Int):a9 K H (.int i) (.type "int")
 |str (x:Str):a9 K H (.str x) (.type "str")
 |flt (x:UInt64):a9 K H (.flt x) (.type "float")
 |lst {a:Addr} {xs:List V} (e:H a=some (.lst xs)):a9 K H (.ref a) (.type "list")
 |frz {a:Addr} {o:Obj} {xs:List V} (e:H a=some (.frz o (.lst xs))):a9 K H (.ref a) (.type "list")
 |tup {a:Addr} {xs:List V} (e:H a=some (.tup xs)):a9 K H (.ref a) (.type "tuple")
 |dK {a:Addr} {Eg:List (Key×V)} (e:H a=some (.dK Eg)):a9 K H (.ref a) (.type "dict")
 |dT {a:Addr} {Eg:List (List Key×V)} (e:H a=some (.dT Eg)):a9 K H (.ref a) (.type "dict")
 |ins {a C dx:Addr} {fs:List (Str×V)} (e:H a=some (.ins C dx fs)) (cl:Cls K C) (ha:ZB K (.ref C) "__class__" =some (some (.builtin "object.__class__")))
    (hn:PySem.W.specialIn K (.builtin "object.__class__") "__get__" =some (some (.builtin "getset_descriptor.__get__"))) (htk:PySem.W.takesIn K (.builtin "object.__class__")=some true)
    (hm:PySem.W.mroIn K C (.type "object")=some true):a9 K H (.ref a) (.ref C)
structure V7(k:Nat)(A:jC):Prop where
 hd:A.handled=none
 dp:A.depth+3*k+5<recursionLimit
 un:A.units+16*k+200<xq
 gd:A.guards=some []
def V7.mono(r:V7 k A)(h:j<=k):V7 j A:=⟨r.hd,by have:=r.dp;lia,by have:=r.un;lia,r.gd⟩
def V7.deeper(r:V7 (k+1) A)(env:Env):V7 k (A.deeper env):=
 ⟨r.hd,by have:=r.dp;show A.depth+1+3*k+5<_;lia,by have:=r.un;show A.units+3+16*k+200<_;lia,r.gd⟩
def V7.in1(r:V7 (k+1) A):V7 k A.in1:=
 ⟨r.hd,by have:=r.dp;show A.depth+3*k+5<_;lia,by have:=r.un;show A.units+1+16*k+200<_;lia,r.gd⟩
def V7.depth(r:V7 k A):A.depth<recursionLimit:=by have:=r.dp;lia
def V7.units(r:V7 k A):A.units+64<xq:=by have:=r.un;lia
def nP:TA:=λ_ H Q=>Q [] H
def Rj(ta:TE)(tr:TA):TA:=λσ H Q=>ta σ H λx H1=>tr σ H1 λxs H2=>Q (x::xs) H2
def qh:PA X [] nP:=λ_ _ _ _ H Q I h=>xz ⟨[],H,I,.nil,h⟩
def fW(ha:PE X e te)(hr:PA X es t)(hs:zW (e::es) X.env= (false,eval e X.env)::zW es X.env):PA X (e::es) (Rj te t):=by intro pos Ee s σ H Q I h;rw[hs];show zw _ _ (spliced ((false,eval e X.env)::xi pos (zW es X.env))) _ _ s;refine xm (thn (ha Ee s σ H _ I h) λu s1 Ep=>Ep.elim λx H1 I1 r1 q1=>?_);exact thn (hr pos Ee s1 σ H1 _ I1 q1) λus s2 Ep=>Ep.elim λxs H2 I2 r2 q2=>⟨x::xs,H2,I2,.cons r1 r2,q2⟩
def tV(t:TA):TE:=λσ H Q=>t σ H λxs H1=>xs.length<=zq/\∀p,H1 p=none->Q (.ref p) (upd H1 p (.tup xs))
def vi(t:TA):TE:=λσ H Q=>t σ H λxs H1=>xs.length<=zq/\∀p,H1 p=none->Q (.ref p) (upd H1 p (.lst xs))
def Ac{x1}(h:PA X es t):PE X (.Tuple es x1 pos) (tV t):=by intro Ee s σ H Q I hq;refine wpAny_Tuple_spliced (thn (h pos Ee s σ H _ I hq) λus s1 ⟨xs,H1,I1,r,z,q⟩=>⟨by rw[<-r.length];exact z,?_⟩);have hf:H1 s1.heap.objs.size=none:=I1.hok.fresh (zp _);refine⟨.ref s1.heap.objs.size,upd H1 s1.heap.objs.size (.tup xs),I1.laid (t':=s1.toks) (λb u e=>zh _ e) (zp _) ?_,rfl,q _ hf⟩;exact⟨z,us,r,⟨_,zt _ rfl,rfl,_,rfl⟩⟩
def Bl(h:PA X es t):PE X (.List es pos) (vi t):=by intro Ee s σ H Q I hq;refine wpAny_List_spliced (thn (h pos Ee s σ H _ I hq) λus s1 ⟨xs,H1,I1,r,z,q⟩=>⟨by rw[<-r.length];exact z,?_⟩);have hf:H1 s1.heap.objs.size=none:=I1.hok.fresh (zp _);refine⟨.ref s1.heap.objs.size,upd H1 s1.heap.objs.size (.lst xs),I1.laid (t':=s1.toks) (λb u e=>zh _ e) (zp _) ?_,rfl,q _ hf⟩;exact⟨z,us,0,r,zt _ rfl⟩
abbrev Sp:=List V->Hp->VK->XK->Prop
abbrev CXT:=List Env->Hp->zD->XK->VSP
structure pG(P:jh)(w:jq)(K:zn)(mg:Str->Option zk)(base:Heap)(A:jC)(outer:List Env)(s:zD)(H:Hp):Prop where
 frames:A.frames=some outer
 mod:Mod K mg base
 bs:∀b o,base.get? b=some o->s.heap.get? b=some o/\H b=none
 bsz:base.objs.size<=s.heap.objs.size
 funs:s.heap.FunFrames base outer
 frf:∀b∈frs outer,H b=none
 hok:HOk P w H s.heap
 bare:XE s.gens
def CE(outer:List Env)(P:jh)(w:jq)(H:Hp)(s:zD)(Q:VK)(u:zk)(s':zD):Prop:=
 ∃v H',s'.os=s.os/\XE s'.gens/\Un (frs outer) [] H H' s.heap s'.heap/\HOk P w H' s'.heap/\J5 v u/\Q v H'
def CR(CX:CXT)(outer:List Env)(P:jh)(w:jq)(H:Hp)(s:zD)(Q:VK)(E:XK)(r:Result)(s':zD):Prop:=
 match r with
 | .ok (.ret u)=>CE outer P w H s Q u s'
 | .ok _=>False
 | .error e=>CX outer H s E e s'
structure u3(P:jh)(w:jq)(K:zn)(mg:Str->Option zk)(base:Heap)(CX:CXT)(k:Nat)(f:Addr)(fd:xT)(ps:List Str)(sp:Sp):Prop where
 len:∀vs H Q E,sp vs H Q E->vs.length=ps.length
 run:∀(A:jC) (outer:List Env) (s:zD) (H:Hp) (args:Args) (us:List zk) (vs:List V) (Q:VK) (E:XK),V7 k A->pG P w K mg base A outer s H->YY s fd args (ps.zip us)->u9 vs us->sp vs H Q E->
  Zs (zG P w) A (.call (.ref f) args) (CR CX outer P w H s Q E) s
def u3.imp{P:jh}{w:jq}{K:zn}{base:Heap}{CX:CXT}{k:Nat}{f:Addr}{fd:xT}{ps:List Str}{sp sp':Sp}(F:u3 P w K mg base CX k f fd ps sp)
 (h:∀vs H Q E,sp' vs H Q E->sp vs H Q E):u3 P w K mg base CX k f fd ps sp':=
 ⟨λvs H Q E q=>F.len vs H Q E (h _ _ _ _ q),λA outer s H args us vs Q E hr he hb hv hs=>F.run A outer s H args us vs Q E hr he hb hv (h _ _ _ _ hs)⟩
def Inv.env0(I:Inv X Ee σ H s):pG X.prog X.w X.K X.mg X.base X.A X.stack s H:=
 ⟨I.ok.frames,I.ok.mod,I.bs,zK I.ok.bsz I.sz,I.stack,I.stkFree,I.hok,I.bare⟩
def Inv.after(I:Inv X Ee σ H s)(h:CE X.stack X.prog X.w H s Q u s'):EP X Ee σ Q u s':=by obtain⟨v,H',os,bare,un,hok,r,q⟩:=h;obtain⟨hh,g,d,t,os'⟩:=s';obtain rfl:os'=s.os:=os;exact⟨v,H',I.call (h':=hh) (g':=g) (d':=d) (t':=t) (ch:= []) un hok bare (λb z=>absurd z (by simp)),r,q⟩
def dS(sp:Sp)(dvs:List V)(E:XK)(t:TA):TE:=λσ H Q=>t σ H λvs H1=>sp (vs++dvs) H1 Q E
def D7(K:zn)(fd:xT)(ps:List Str)(ds:List zk):Prop:=
 ∀(s:zD) (us:List zk),K.In s.heap->(us++ds).length=ps.length->YY s fd ⟨us, []⟩ (ps.zip (us++ds))
def D7.all{K:zn}{ps:List Str}(h:∀us:List zk,us.length=ps.length->bindArgs fd ⟨us, []⟩=pure (ps.zip us)):D7 K fd ps []:=λs us _ hl=>by rw[yV]at hl ⊢;exact .of_eq (h us hl)
def GH(CX:CXT)(X:Cx)(E:XK):Prop:=∀(Ee:PNS) (σ:St) (H:Hp) (s:zD) (e:zk) (s':zD),Inv X Ee σ H s->CX X.stack H s E e s'->X.xe e s'
def dL(F:u3 X.prog X.w X.K X.mg X.base CX k f fd ps sp)(hr:V7 k X.A)(hb:D7 X.K fd ps ds)(hd:u9 dvs ds)(hx:GH CX X E)
 (I:Inv X Ee σ H s) (r:u9 vs us) (h:sp (vs++dvs) H Q E):zw (zG X.prog X.w) X.A (call (.ref f) us) (EP X Ee σ Q) X.xe s:=by
 have r2:u9 (vs++dvs) (us++ds):=r.append hd;have hl:(us++ds).length=ps.length:=by rw[<-r2.length];exact F.len _ _ _ _ h
 refine wpAny_call (ZX (F.run X.A X.stack s H ⟨us, []⟩ (us++ds) (vs++dvs) Q E hr I.env0 (hb s us I.kIn hl) r2 h) λr s' hq=>?_)
 cases r with
 |error e=>exact hx Ee σ H s e s' I hq
 |ok fl=>
   cases fl with
   |ret u=>exact I.after hq
   |next=>exact xn hq
   |brk=>exact xn hq
   |cont=>exact xn hq
def LZ(F:u3 X.prog X.w X.K X.mg X.base CX k f fd ps sp)(hr:V7 k X.A)(hg:Gl X x)(hm:X.mg x=some (.ref f))(hk:yD X.K (.ref f)=true)(hb:D7 X.K fd ps ds)(hd:u9 dvs ds)(hx:GH CX X E)
 (ha:PA X (e::es) t) (hdb:(x==("__debug__" :Str))=false) (he:zW (e::es) X.env= (false,eval e X.env)::zW es X.env) (Fr:(xi pos (zW es X.env)).any (·.1)=false):
 PE X (.Call (.Name x p) (e::es) [] pos) (dS sp dvs E t):=by
 intro Ee s σ H Q I h;refine yp (AG I hg hm ?_ hdb);refine PySem.W.callWith_K (h₀:=X.base) I.ok.mod.kin hk (thn (ha pos Ee s σ H _ I h) λus s1 Ep=>Ep.elim λvs H1 I1 r q=>⟨I1.kIn,?_⟩) he Fr;exact dL F hr hb hd hx I1 r q
def MV(F:u3 X.prog X.w X.K X.mg X.base CX k f fd ps sp)(hr:V7 k X.A)(hg:Gl X x)(hm:X.mg x=some (.ref f))(hk:yD X.K (.ref f)=true)(hb:D7 X.K fd ps ds)(hd:u9 dvs ds)(hx:GH CX X E)
 (hdb:(x==("__debug__" :Str))=false):PE X (.Call (.Name x p) [] [] pos) (dS sp dvs E nP):=by
 intro Ee s σ H Q I h;refine yp (AG I hg hm ?_ hdb);exact PySem.W.callWith_K0 I.kIn hk (dL (us:= []) F hr hb hd hx I .nil h)
structure Mk(K:zn)(C f:Addr):Prop where
 makes:PySem.W.makesIn K C=true
 init:ZB K (.ref C) "__init__" =some (some (.ref f))
 fn:PySem.W.isFn K (.ref f)=true
 kp:yD K (.ref C)=true
structure KBinds(K:zn)(fd:xT)(ps ks:List Str)(g:List zk->List zk->List zk)(gV:List V->List V->List V):Prop where
 to:∀(s:zD) (us ws:List zk),K.In s.heap->(g us ws).length=ps.length->YY s fd ⟨us,ks.zip ws⟩ (ps.zip (g us ws))
 rel:∀ {vs:List V} {us:List zk} {zs:List V} {ws:List zk},u9 vs us->u9 zs ws->u9 (gV vs zs) (g us ws)
structure L7(N P:List Str)(sc:Scope):Prop where
 kind:sc.kind= .function
 co:sc.isCoroutine=false
 gen:sc.isGenerator=false
 nd:N.Nodup
 pre:N.take P.length=P
 par:∀x∈P,sc.names.lookup x=some .local\/sc.names.lookup x=some .cell
 nofree:∀y∈sc.names,y.2≠ .free
theorem wQ{Zk:Str->Option NameKind}{x:Str}:∀ {binds} {m:Str->Option zk},(∀v,(x,v)∉binds)->bindL Zk binds m x=m x
 |[],_,_=>rfl
 |(n,v)::r,m,h=>by
  unfold bindL;rw[wQ λw hw=>h w (zA _ hw)];split
  · have:x≠n:=by rintro rfl;exact h v zH
    simp[this]
  ·rfl
theorem oU{Zk:Str->Option NameKind}{x:Str}:∀ {binds} {m:Str->Option zk},(∀v,(x,v)∉binds)->bindC Zk binds m x=m x
 |[],_,_=>rfl
 |(n,v)::r,m,h=>by
  unfold bindC;rw[oU λw hw=>h w (zA _ hw)];split
  ·rfl
  · have:x≠n:=by rintro rfl;exact h v zH
    simp[this]
theorem MP{Zk:Str->Option NameKind}{x:Str}{v:zk}:∀ {P:List Str} {vs:List zk} {i:Nat} {m},P.Nodup->P[i]? =some x->vs[i]? =some v->Zk x=some .local->
 bindL Zk (P.zip vs) m x=some v
 |[],_,_,_,_,h,_,_=>by simp at h
 |_::_, [],_,_,_,_,h,_=>by simp at h
 |p::P,w::vs,0,m,nd,h1,h2,hk=>by simp at h1 h2;subst h1;subst h2;show bindL Zk ((p,w)::P.zip vs) m p=_;unfold bindL;rw[wQ λv hv=>(xv.mp nd).1 (Jg hv).1,if_pos hk];simp
 |p::P,w::vs,i+1,m,nd,h1,h2,hk=>by show bindL Zk ((p,w)::P.zip vs) m x=_;unfold bindL;exact MP (i:=i) (xv.mp nd).2 (by simpa using h1) (by simpa using h2) hk
theorem tQ{Zk:Str->Option NameKind}{x:Str}{v:zk}:∀ {P:List Str} {vs:List zk} {i:Nat} {m},P.Nodup->P[i]? =some x->vs[i]? =some v->Zk x≠some .local->
 bindC Zk (P.zip vs) m x=some v
 |[],_,_,_,_,h,_,_=>by simp at h
 |_::_, [],_,_,_,_,h,_=>by simp at h
 |p::P,w::vs,0,m,nd,h1,h2,hk=>by simp at h1 h2;subst h1;subst h2;show bindC Zk ((p,w)::P.zip vs) m p=_;unfold bindC;rw[oU λv hv=>(xv.mp nd).1 (Jg hv).1,if_neg hk];simp
 |p::P,w::vs,i+1,m,nd,h1,h2,hk=>by show bindC Zk ((p,w)::P.zip vs) m x=_;unfold bindC;exact tQ (i:=i) (xv.mp nd).2 (by simpa using h1) (by simpa using h2) hk
def start(N:List Str)(vs:List V):St:=vs.map some++zC (N.length-vs.length) none
def r9(CX:CXT)(P:jh)(w:jq)(K:zn)(mg:Str->Option zk)(base:Heap)(N:List Str)(qual:Str)(scope:Scope)(f:Addr)(cd:zk)(A:jC)(outer:List Env)(s:zD)(H:Hp)(E:XK):Cx where
 prog:=P
 w:=w
 K:=K
 mg:=mg
 base:=base
 A:=A.deeper (Yu qual scope s.heap.objs.size f cd)
 N:=N
 WX:=s
 H₀:=H
 env:=Yu qual scope s.heap.objs.size f cd
 outer:=outer
 stack:=Yu qual scope s.heap.objs.size f cd::outer
 ex:= []
 calm:=true
 fn:=λ_=>true
 pn:= []
 xe:=λe s'=>zw (zG P w) (A.deeper (Yu qual scope s.heap.objs.size f cd)) (leaving (Yu qual scope s.heap.objs.size f cd) e) (λ_ s''=>CX outer H s E e s'') (λe' s''=>CX outer H s E e' s'') s'
def pP{sc:Scope}{x:Str}(h:sc.names.lookup x=some .cell):∃c,(cellsFrom n sc.names []).lookup x=some c:=by have q:=JF sc.names n [] (.inl h);exact Jy.mp q
def Rf{CX:CXT}{P:jh}{w:jq}{K:zn}{mg:Str->Option zk}{base:Heap}{N ps:List Str}{qual:Str}{scope:Scope}{f:Addr}{cd:zk}{A:jC}{outer:List Env}{s s1:zD}{H:Hp}{E:XK}{us:List zk}{vs:List V}
 (S:L7 N ps scope) (hd:A.handled=none) (gd:A.guards=some []) (e0:pG P w K mg base A outer s H) (hl:vs.length=ps.length) (r:u9 vs us)
 (x:InCallC s s.heap.objs.size (bindL (Yu qual scope s.heap.objs.size f cd).kindOf (ps.zip us) λ_=>none) (cellsFrom (s.heap.objs.size+1) scope.names []) (bindC (Yu qual scope s.heap.objs.size f cd).kindOf (ps.zip us) λ_=>none) s1):
 Inv (r9 CX P w K mg base N qual scope f cd A outer s H E) [] (start N vs) H s1:=by
 have Fr:ps.length<=N.length:=by have:=congrArg Za S.pre;rw[Zp]at this;lia
 obtain⟨h1,tk,rfl,hk⟩:=x.done;have noA:∀b:Addr,b∉(r9 CX P w K mg base N qual scope f cd A outer s H E).ex:=λb z=>absurd (show b∈([]:List Addr)from z) (by simp);refine⟨⟨e0.mod,S.kind,rfl,rfl,zp _,λy z c h1 h2=>?_,λy hy=>?_,λy c _ h=>?_,λ_=>hd,Around.frames_deeper e0.frames,.inr ⟨rfl,rfl⟩,λb z=>absurd z (noA b),e0.bs,e0.bsz,λb _ _=>noA b,λb z=>absurd z (noA b),e0.funs,e0.frf,gd⟩,
  rfl,e0.bare,Un.kept hk,⟨_,x.toInCall.ns,λi y v h1 h2 h3=>?_⟩,λy c h=>⟨_,x.cell y c h⟩,e0.hok.fresh (zp _),λy c h=>?_,λp hp=>absurd (show p∈([]:PNS)from hp) (by simp),e0.hok.kept hk,?_⟩
 ·exact name_of_addr x.apart (xb h1) (xb h2)
 · have hy:scope.names.lookup y=some .cell\/scope.names.lookup y=some .free:=hy;rcases hy with hy|hy
   ·exact pP hy
   ·exact absurd rfl (S.nofree _ (xb hy))
 ·exact yM (x.above y c (xb h))
 · have hi:i<vs.length:=by
    unfold start at h2;by_cases hi:i<vs.length
    ·exact hi
    ·rw[yP (by simpa using hi)]at h2;rw[Yf]at h2;split at h2<;>cases h2
   have ha:vs[i]? =some v:=by
    unfold start at h2;rw[zQ (by simpa using hi),zU]at h2
    cases e:vs[i]? with
    |none=>rw[e]at h2;cases h2
    |some a=>rw[e]at h2;cases h2;rfl
   obtain⟨u,hu,rv⟩:=r.get ha;have hp:ps[i]? =some y:=by rw[<-S.pre,List.getElem?_take_of_lt (by lia)];exact h1
   have ndP:ps.Nodup:=by rw[<-S.pre];exact S.nd.sublist (List.take_sublist _ _)
   refine⟨u,rv,?_⟩;rcases S.par y (yX hp)with k|k
   ·exact .inl ⟨k,MP ndP hp hu k⟩
   ·obtain⟨c,e⟩:=pP (n:=s.heap.objs.size+1) k;refine .inr ⟨.inl k,c,e,?_⟩;have q:=x.cell y c e;rw[tQ ndP hp hu (by show scope.names.lookup y≠_;rw[k];decide)]at q;exact q
 ·exact e0.hok.fresh (yM (x.above y c (xb h)))
 ·unfold start;show _=N.length;rw[zJ,zg,YF];lia
def wy{CX:CXT}{P:jh}{w:jq}{K:zn}{mg:Str->Option zk}{base:Heap}{k:Nat}{f:Addr}{name qual:Str}{params:Arguments}{body:List Stmt}{scope:Scope}{dV kV doc pm Fi ct oc:zk}{an od:Option Addr}
 {N ps:List Str} {sp:Sp} (lk:K.lookup f=some ⟨oc,od,.func (yK name qual params body scope dV kV doc pm an Fi ct),osl⟩) (hcd:ZC K Fi qual=true) (S:L7 N ps scope)
 (len:∀vs H Q E,sp vs H Q E->vs.length=ps.length)
 (hbody:∀(A:jC) (outer:List Env) (s:zD) (H:Hp) (vs:List V) (Q:VK) (E:XK),V7 k (A.deeper (Yu qual scope s.heap.objs.size f Fi))->sp vs H Q E->
   ∃t,PSs (r9 CX P w K mg base N qual scope f Fi A outer s H E) body t/\t {nx:=λ_ H'=>Q .non H',rt:=Q} (start N vs) H):
 u3 P w K mg base CX (k+1) f (yK name qual params body scope dV kV doc pm an Fi ct) ps sp:=by
 refine⟨len,λA outer s H args us vs Q E hr e0 hb r hsp=>?_⟩;have hl:=len _ _ _ _ hsp;have KX:K.In s.heap:=e0.mod.kin.keeps λb o e=>(e0.bs b o e).1;have lim:s.heap.NoLimit:=e0.mod.nolimit.keeps λb o e=>(e0.bs b o e).1;have hkind:∀y∈ps.zip us,scope.names.lookup y.1=some .local\/(scope.names.lookup y.1=some .cell/\((cellsFrom (s.heap.objs.size+1) scope.names []).lookup y.1).isSome=true):=fun⟨n,v⟩ hy=>by
  rcases S.par n (Jg hy).1 with q|q
  ·exact .inl q
  ·exact .inr ⟨q,JF _ _ _ (.inl q)⟩
 refine codeAny_call_function hr.depth (KX _ _ lk) rfl S.co S.gen rfl (PySem.W.codeRec_of KX hcd) (hb _ _ _ _ ?_);refine wpAny_newFunctionEnv_cells S.kind hkind λenv he s1 x=>?_;subst he;refine⟨lim.keeps x.toInCall.keep,codeAny_func ?_⟩;obtain⟨t,ht,hq⟩:=hbody A outer s H vs Q E (hr.deeper _) hsp;have I:Inv (r9 CX P w K mg base N qual scope f Fi A outer s H E) [] (start N vs) H s1:=Rf S hr.hd hr.gd e0 hl r x;refine jS (ht [] s1 (start N vs) H _ I hq) (λfl s' hs=>?_) λe s' hs=>hs;have fin:∀ {X1:St} {H':Hp} {v:V} {u:zk},Inv (r9 CX P w K mg base N qual scope f Fi A outer s H E) [] X1 H' s'->J5 v u->Q v H'->CE outer P w H s Q u s':=
  λ{X1 H' v u} J rv q=>⟨v,H',J.os,J.bare,J.base,J.hok,rv,q⟩
 cases fl with
 |ret u=>
   obtain⟨v,X1,H',J,rv,q⟩:=hs;exact fin J rv q
 |next=>
   obtain⟨X1,H',J,q⟩:=hs;exact fin (v:=V.non) (u:=Value.none) J rfl q
 |brk=>
   obtain⟨_,_,_,q⟩:=hs;exact xn q
 |cont=>
   obtain⟨_,_,_,q⟩:=hs;exact xn q
section
variable{X:Cx}{x:Str}{p pos:Pos}{e:Expr}{es:List Expr}{t:TA}{id T:String}{r:List V->Hp->VK->Prop}
def tCB(r:List V->Hp->VK->Prop)(t:TA):TE:=λσ H Q=>t σ H λvs H1=>r vs H1 Q
def Nm(hc:v3 X (.builtin id) r)(hg:Gl X x)(hm:X.mg x=none)(hv:je x=some (.builtin id))(ha:PA X (e::es) t)(hn:x≠ "__name__")(hdb:(x==("__debug__" :Str))=false)
 (he:zW (e::es) X.env= (false,eval e X.env)::zW es X.env) (Fr:(xi pos (zW es X.env)).any (·.1)=false):PE X (.Call (.Name x p) (e::es) [] pos) (tCB r t):=by
 intro Ee s σ H Q I h;refine yp (E7 I hg hm hv ?_ hn hdb);exact PyProof.Rows.callWith_builtin1 (thn (ha pos Ee s σ H _ I h) λus s1 Ep=>Ep.elim λvs H1 I1 r1 q1=>hc Ee s1 σ H1 vs us Q I1 r1 q1) he Fr
def Rp(hc:v3 X (.type T) r)(hg:Gl X x)(hm:X.mg x=none)(hv:je x=some (.type T))(ha:PA X (e::es) t)(hn:x≠ "__name__")(hdb:(x==("__debug__" :Str))=false)
 (he:zW (e::es) X.env= (false,eval e X.env)::zW es X.env) (Fr:(xi pos (zW es X.env)).any (·.1)=false):PE X (.Call (.Name x p) (e::es) [] pos) (tCB r t):=by
 intro Ee s σ H Q I h;refine yp (E7 I hg hm hv ?_ hn hdb);exact yE (thn (ha pos Ee s σ H _ I h) λus s1 Ep=>Ep.elim λvs H1 I1 r1 q1=>hc Ee s1 σ H1 vs us Q I1 r1 q1) he Fr
end
end L2
namespace HT
open PySem PyProof.Rows
section
open PySem.SeqAt
open PySem.AutoSeq1 (wpAny_loadPart')
open PySem.MeetsSeq PySem.MeetsSeq2 PySem.MeetsSeq3
end
def cat_tup(ht:Xg s.heap t vs.toArray)(hb:Xg s.heap b ws.toArray)(hv:vs≠ [])
 (h1:ws= []->Q (.ref t) s) (h2:ws≠ []->Q (.ref s.heap.objs.size) {s with heap:=s.heap.push {cls:=.type "tuple",data:=.seq (vs++ws).toArray}})
 (hsz:vs.length+ws.length<=zq):zw (zG prog w) A (yb .Add (.ref t) (.ref b)) Q E s:=by
 obtain⟨⟨cls,dd,data,sl⟩,ho,hc,n,hd⟩:=id ht;obtain⟨⟨cls2,dd2,data2,sl2⟩,Go,hc2,n2,hd2⟩:=id hb;simp only at hc hd hc2 hd2;subst hc hd hc2 hd2;have e:vs.toArray++ws.toArray= (vs++ws).toArray:=by simp
 by_cases hw:ws= []
 · exact concat_meets ⟨_,ho,rfl⟩ ⟨_,Go,rfl⟩ JD seq_tuple_add Yc ZY (ZS _ _)
    (tuple_addW1 t b vs.toArray ws.toArray n n2 dd dd2 sl sl2 (by simpa using hv) (by simp[hw])) ⟨ho,Go,h1 hw⟩
 · refine concat_meets ⟨_,ho,rfl⟩ ⟨_,Go,rfl⟩ JD seq_tuple_add Yc ZY (ZS _ _)
    (tuple_addW2 t b vs.toArray ws.toArray n n2 dd dd2 sl sl2 (by simpa using hv) (by simpa using hw) (by rw[zo,zo];exact hsz)) ⟨ho,Go,?_⟩
   rw[e];exact h2 hw
def sIx(n d:Nat):Option Int->Nat
 |none=>d
 |some v=>if v<0 then (v+(n:Int)).toNat else min v.toNat n
def sIx_none(n d:Nat):sIx n d none=d:=rfl
def sIx_nat(n d k:Nat):sIx n d (some (k:Int))=min k n:=by show (if (k:Int)<0 then ((k:Int)+(n:Int)).toNat else min (k:Int).toNat n)=min k n;rw[if_neg (by lia),jE]
def Lx(n d:Nat)(hd:d<=n)(o:Option Int):sIx n d o<=n:=by
 cases o with
 |none=>exact hd
 |some v=>
   show (if v<0 then (v+(n:Int)).toNat else min v.toNat n)<=n;by_cases hv:v<0
   ·rw[if_pos hv];lia
   ·rw[if_neg hv];exact Nat.min_le_right _ _
def IR(v:Int)(n d:Nat):(if v<0 then max (v+(n:Int)) 0 else min v (n:Int))= ((sIx n d (some v):Nat):Int):=by
 show (if v<0 then max (v+(n:Int)) 0 else min v (n:Int))= (((if v<0 then (v+(n:Int)).toNat else min v.toNat n):Nat):Int);by_cases hv:v<0
 ·simp only[if_pos hv];lia
 ·simp only[if_neg hv];lia
def Kk(lo hi:Option Int)(n:Nat):Zt lo hi 1 (n:Int)= (((sIx n 0 lo:Nat):Int),((sIx n n hi:Nat):Int)):=by
 have h1:¬((1:Int)<0):=by lia
 unfold Zt;simp only[h1,if_false];refine XF ?_ ?_
 · cases lo with
   |none=>rfl
   |some v=>exact IR v n 0
 · cases hi with
   |none=>rfl
   |some v=>exact IR v n n
def uX(i j:Nat):xu (i:Int) (j:Int) 1=j-i:=by
 unfold xu;have h1:(1:Int)>0:=by lia
 simp only[h1,if_true,Int.ediv_one];split<;>lia
def SO(p:IsPart v o)(h:Q o s):zw (zG prog w) A (Builtin.Slice.slicePartIndex v) Q E s:=by
 cases p with
 |none=>exact slicePart_none h
 |int i t=>exact slicePart_int h
def sliceApplied_gen{sl:Addr}{vl vu:zk}{lo hi:Option Int}{n:Nat}(hs:s.heap.IsSliceOf sl vl vu .none)(pl:IsPart vl lo)(pu:IsPart vu hi)
 (h:Q (((sIx n 0 lo:Nat):Int),1,sIx n n hi-sIx n 0 lo) s):zw (zG prog w) A (Xl (.ref sl) (pure (n:Int))) Q E s:=by
 obtain⟨os,hos,hcs,hds⟩:=id hs;unfold Xl Builtin.Slice.sliceFields;refine za (za (yq hos hds (x:=vl) rfl (za (yq hos hds (x:=vu) rfl (za (yq hos hds (x:=.none) rfl (zi ?_)))))));refine za (slicePart_none ?_);show zw _ _ (if ((1:Int)==0)=true then _ else _) _ _ s;rw[if_neg (by decide)];refine za (SO pl (za (SO pu (za (zi ?_)))));show zw _ _ (match Zt lo hi 1 (n:Int) with|(lo,hi)=>pure (lo,(1:Int),xu lo hi 1)) _ _ s;rw[Kk lo hi n];show zw _ _ (pure (((sIx n 0 lo:Nat):Int),(1:Int),xu ((sIx n 0 lo:Nat):Int) ((sIx n n hi:Nat):Int) 1)) _ _ s;rw[uX];exact zi h
def fw(xs:Array zk)(i k:Nat):((ji k).filterMap fun(m:Nat)=>xs[((i:Int)+(m:Int)*1).toNat]?).toArray= ((xs.toList.drop i).take k).toArray:=by
 have e:(fun(m:Nat)=>xs[((i:Int)+(m:Int)*1).toNat]?)=λm=>xs[i+m]? :=by
  funext m;have:((i:Int)+(m:Int)*1).toNat=i+m:=by lia
  rw[this]
 rw[e];have:=pick_run xs i k;rw[Xq]at this;have e2:((λx=>xs[x]?)∘λx=>i+x)=λm=>xs[i+m]? :=rfl;rw[e2]at this;rw[this]
def getItem_tuple_cut{t sl:Addr}{vl vu:zk}{lo hi:Option Int}(ht:Xg s.heap t items)(hs:s.heap.IsSliceOf sl vl vu .none)(pl:IsPart vl lo)(pu:IsPart vu hi)
 (hw:¬(sIx items.size 0 lo=0/\sIx items.size items.size hi=items.size))
 (h:Q (.ref s.heap.objs.size) {s with heap:=s.heap.push {cls:=.type "tuple",data:=.seq ((items.toList.drop (sIx items.size 0 lo)).take (sIx items.size items.size hi-sIx items.size 0 lo)).toArray}})
 (hsz:items.size<=zq):zw (zG prog w) A (Jk (.ref t) (.ref sl)) Q E s:=by
 have htake:sizeOk (.seq ((items.toList.drop (sIx items.size 0 lo)).take (sIx items.size items.size hi-sIx items.size 0 lo)).toArray):=by show ((items.toList.drop (sIx items.size 0 lo)).take (sIx items.size items.size hi-sIx items.size 0 lo)).toArray.size<=zq;rw[zo,Zp,List.length_drop,zL];lia
 have hj:sIx items.size items.size hi<=items.size:=Lx _ _ (zp _) hi;obtain⟨os,hos,hcs,hds⟩:=id hs;have hTs:s.TypeIs (.ref sl) "slice":=⟨os,hos,hcs⟩;unfold Jk
 try with_reducible refine jB ?_
 first|refine za (zi ?_)|skip
 refine za (wpAny_sequenceKey ht.typeIs (by decide) ?_);refine za (jJ (name:=jp "__getitem__") ht.typeIs jQ
  (jA jQ ht.typeIs entry_tuple_getitem ?_ (args_tuple_getitem _ _)))
 show zw _ _ (Xk (.ref t) >>= _) _ _ s;refine za (tupleItemsOf_ ht ?_);refine za (xX hTs ?_);rw[if_pos (by decide)];refine za (sliceApplied_gen hs pl pu ?_);have hno:¬((((sIx items.size 0 lo:Nat):Int)==0&&(1:Int)==1&&(sIx items.size items.size hi-sIx items.size 0 lo)==items.size)=true):=by intro q;rw[jk,jk]at q;have q1:((sIx items.size 0 lo:Nat):Int)=0:=eq_of_beq q.1.1;have q2:sIx items.size items.size hi-sIx items.size 0 lo=items.size:=eq_of_beq q.2;exact hw ⟨by lia,by lia⟩
 show zw _ _ (if (((sIx items.size 0 lo:Nat):Int)==0&&(1:Int)==1&&(sIx items.size items.size hi-sIx items.size 0 lo)==items.size)=true then _ else _) _ _ s;rw[if_neg hno,fw]
 first
  |exact za (m:=xD _) (yL (zi ⟨_,rfl,zi h⟩) htake)
  |exact za (m:=xD _) (yL (za (zi (zi ⟨_,rfl,zi h⟩))) htake)
  |exact za (za (m:=xD _) (yL (zi (zi ⟨_,rfl,zi h⟩)) htake))
  |exact za (za (m:=xD _) (yL (zi ⟨_,rfl,zi h⟩) htake))
end HT
namespace L2
open PySem PySem.Spec PyProof.Rows
abbrev TO:=St->Hp->(Option Int->Hp->Prop)->Prop
def PO(X:Cx)(e:Option Expr)(t:TO):Prop:=
 ∀(Ee:PNS) (s:zD) (σ:St) (H:Hp) (Q:Option Int->Hp->Prop),Inv X Ee σ H s->t σ H Q->
  zw (zG X.prog X.w) X.A (evalPart e X.env) (λu s'=>∃o H',Inv X Ee σ H' s'/\IsPart u o/\Q o H') X.xe s
def qw:TO:=λ_ H Q=>Q none H
def Dy(t:TE):TO:=λσ H Q=>t σ H λx H1=>∃i,x= .int i/\Q (some i) H1
section
variable{X:Cx}{e:Expr}{te:TE}{lo hi:Option Expr}{tl th:TO}{pos p2:Pos}
def Wm:PO X none qw:=by intro Ee s σ H Q I h;rw[evalPart_none];exact zi ⟨none,H,I,.none,h⟩
def qq(h:PE X e te):PO X (some e) (Dy te):=by intro Ee s σ H Q I hw;rw[evalPart_some];refine thn (h Ee s σ H _ I hw) λu s1 Ep=>Ep.elim λx H1 I1 r1 q1=>?_;obtain⟨i,rfl,q⟩:=q1;obtain⟨t,rfl⟩:=r1;exact⟨some i,H1,I1,.int i t,q⟩
def SlR(X:Cx)(r:V->Option Int->Option Int->Hp->VK->Prop):Prop:=
 ∀(Ee:PNS) (s:zD) (σ:St) (H:Hp) (x:V) (v vl vu:zk) (lo hi:Option Int) (sl:Addr) (Q:VK),Inv X Ee σ H s->J5 x v->s.heap.IsSliceOf sl vl vu .none->IsPart vl lo->IsPart vu hi->r x lo hi H Q->
  ∃T id,XX (.type T) "__getitem__" =pure (some (.builtin id))/\s.TypeIs v T/\zw (zG X.prog X.w) X.A (Jk v (.ref sl)) (EP X Ee σ Q) X.xe s
def SlR.or(h:SlR X r)(h':SlR X r'):SlR X (λx lo hi H Q=>r x lo hi H Q\/r' x lo hi H Q):=by
 intro Ee s σ H x v vl vu lo hi sl Q I rx hs pl pu q;rcases q with q|q
 ·exact h Ee s σ H x v vl vu lo hi sl Q I rx hs pl pu q
 ·exact h' Ee s σ H x v vl vu lo hi sl Q I rx hs pl pu q
def tSl(r:V->Option Int->Option Int->Hp->VK->Prop)(te:TE)(tl th:TO):TE:=λσ H Q=>te σ H λx H1=>tl σ H1 λl H2=>th σ H2 λu H3=>r x l u H3 Q
def Vm(hr:SlR X r)(he:PE X e te)(hl:PO X lo tl)(hu:PO X hi th):PE X (.Subscript e (.Slice lo hi none p2) pos) (tSl r te tl th):=by intro Ee s σ H Q I h;refine Subscript_ (thn (he Ee s σ H _ I h) λv s1 Ep=>Ep.elim λx H1 I1 r1 q1=>?_);refine wpAny_Slice (thn (hl Ee s1 σ H1 _ I1 q1) λvl s2 ⟨l,H2,I2,pl,q2⟩=>thn (hu Ee s2 σ H2 _ I2 q2) λvu s3 ⟨u,H3,I3,pu,q3⟩=>?_);rw[evalPart_none];refine zi ?_;have I4:Inv X Ee σ H3 {s3 with heap:=s3.heap.push {cls:=.type "slice",data:=.fields #[vl,vu,.none]}}:=I3.kept (t':=s3.toks) λb ob q=>zh _ q;obtain⟨T,id,hT,ht,hg⟩:=hr Ee {s3 with heap:=s3.heap.push {cls:=.type "slice",data:=.fields #[vl,vu,.none]}} σ H3 x v vl vu l u s3.heap.objs.size Q I4 r1 (Je ..) pl pu q3;show zw (zG X.prog X.w) X.A (subscriptTail e (.Slice lo hi none p2) v (.ref s3.heap.objs.size)) (EP X Ee σ Q) X.xe {s3 with heap:=s3.heap.push {cls:=.type "slice",data:=.fields #[vl,vu,.none]}};exact tail_any (ops:= [.ref s3.heap.objs.size,v]) ht hT hg (by with_unfolding_all rfl)
def B9(xs:List V)(lo hi:Option Int):List V:=(xs.drop (HT.sIx xs.length 0 lo)).take (HT.sIx xs.length xs.length hi-HT.sIx xs.length 0 lo)
def NR(xs:List V)(lo hi:Option Int):(B9 xs lo hi).length<=xs.length:=by unfold B9;rw[Zp,List.length_drop];lia
def ce(K:zn):V->Option Int->Option Int->Hp->VK->Prop:=λx lo hi H Q=>∃a xs,x= .ref a/\SqT K H a xs/\
 ¬(HT.sIx xs.length 0 lo=0/\HT.sIx xs.length xs.length hi=xs.length)/\∀p,H p=none->Q (.ref p) (upd H p (.tup (B9 xs lo hi)))
def sl_tup:SlR X (ce X.K):=by
 intro Ee s σ H x v vl vu lo hi sl Q I rx hs pl pu h;obtain⟨a,xs,rfl,hx,hw,q⟩:=h
 cases rx
 obtain⟨Ef,r,ht,hz⟩:=I.tuple hx;have Ei:Ef.toArray.size=xs.length:=by rw[zo];exact r.length.symm
 refine⟨"tuple",_,jQ.lookup,ht.typeIs,?_⟩;refine HT.getItem_tuple_cut ht hs pl pu (by rw[Ei];exact hw) ?_ (by rw[Ei];exact hz);rw[Ei];refine⟨.ref s.heap.objs.size,_,I.laid (t':=s.toks) (o:=.tup (B9 xs lo hi)) (λb ob q=>zh _ q) (zp _) ?_,rfl,q _ (I.hok.fresh (zp _))⟩;exact⟨zK (NR xs lo hi) hz,_,(r.drop (HT.sIx xs.length 0 lo)).take (HT.sIx xs.length xs.length hi-HT.sIx xs.length 0 lo),l7.new _ _⟩
def gh(K:zn):R2:=λx y H Q=>∃a b xs ys,x= .ref a/\y= .ref b/\SqT K H a xs/\SqT K H b ys/\xs≠ []/\xs.length+ys.length<=zq/\
 (ys= []->Q (.ref a) H)/\(ys≠ []->∀p,H p=none->Q (.ref p) (upd H p (.tup (xs++ys))))
def u9.nil_iff(r:u9 xs us):us= []↔xs= []:=by
 cases r with
 |nil=>simp
 |cons _ _=>simp
def Kw:OpR X (yb .Add) (gh X.K):=by
 intro Ee s σ H x y v u Q I rx ry h;obtain⟨a,b,xs,ys,rfl,rfl,ha,hb,hx,hz,q1,q2⟩:=h
 cases rx
 cases ry
 obtain⟨Ef,r1,p1,_⟩:=I.tuple ha;obtain⟨Gi,r2,p2,_⟩:=I.tuple hb;refine HT.cat_tup p1 p2 (λz=>hx (r1.nil_iff.mp z)) (λz=>⟨.ref a,H,I,rfl,q1 (r2.nil_iff.mp z)⟩) (λz=>?_) (by rw[<-r1.length,<-r2.length];exact hz);refine⟨.ref s.heap.objs.size,_,I.laid (t':=s.toks) (o:=.tup (xs++ys)) (λb ob q=>zh _ q) (zp _) ?_,rfl,q2 (λw=>z (r2.nil_iff.mpr w)) _ (I.hok.fresh (zp _))⟩;exact⟨by rw[zJ];exact hz,_,r1.append r2,l7.new _ _⟩
end
def ixN(n:Nat)(i:Int):Option Nat:=if 0<=i then (if i<n then some i.toNat else none)else if -(n:Int)<=i then some (i+n).toNat else none
def atI{α:Type}(xs:List α)(i:Int):Option α:=(ixN xs.length i).bind λj=>xs[j]?
def AQ(h:ixN n i=some j):seqIndex? i n=some j/\j<n/\ -(n:Int)<=i/\i<n:=by
 unfold ixN at h;by_cases h0:0<=i
 · rw[if_pos h0]at h;by_cases h1:i<n
   ·rw[if_pos h1]at h;have e:i.toNat=j:=jc h;exact⟨by rw[seqIndex_of h0 h1,e],by lia,by lia,h1⟩
   ·rw[if_neg h1]at h;cases h
 · rw[if_neg h0]at h;by_cases h1: -(n:Int)<=i
   ·rw[if_pos h1]at h;have e:(i+n).toNat=j:=jc h;exact⟨by rw[seqIndex_neg (by lia) h1,e],by lia,h1,by lia⟩
   ·rw[if_neg h1]at h;cases h
def EM(h:atI xs i=some v):∃j,seqIndex? i xs.length=some j/\xs[j]? =some v/\j<xs.length/\ -(xs.length:Int)<=i/\i<xs.length:=by
 unfold atI at h
 cases e:ixN xs.length i with
 |none=>rw[e]at h;cases h
 |some j=>
   rw[e]at h;obtain⟨h1,h2,h3,h4⟩:=AQ e;exact⟨j,h1,h,h2,h3,h4⟩
def atI_nat{xs:List α}{j:Nat}{v:α}(h:xs[j]? =some v):atI xs (j:Int)=some v:=by
 have hj:j<xs.length:=(jl.mp h).1;have e:ixN xs.length (j:Int)=some j:=by unfold ixN;rw[if_pos (by lia),if_pos (by lia)];simp
 unfold atI;rw[e];exact h
def Vx(xs:List α)(v:α):atI (xs++[v]) (-1)=some v:=by
 have hl:(xs++[v]).length=xs.length+1:=by simp
 have e:ixN (xs++[v]).length (-1)=some xs.length:=by unfold ixN;rw[hl,if_neg (by decide),if_pos (by lia)];congr 1;lia
 unfold atI;rw[e];show (xs++[v])[xs.length]? =some v;simp
def bG(b:Expr):Prop:=∀o i,subscripted b false o i=operate [o,i] (Jk o i)
def IxR(X:Cx)(r:R2):Prop:=
 ∀(value slice:Expr) (Ee:PNS) (s:zD) (σ:St) (H:Hp) (x y:V) (v u:zk) (Q:VK),Inv X Ee σ H s->J5 x v->J5 y u->r x y H Q->
  subscripted slice false v u=operate [v,u] (Jk v u)->zw (zG X.prog X.w) X.A (subscriptTail value slice v u) (EP X Ee σ Q) X.xe s
def MtR(X:Cx)(id:String)(r:V->List V->Hp->VK->Prop):Prop:=
 ∀(Ee:PNS) (s:zD) (σ:St) (H:Hp) (x:V) (xs:List V) (v:zk) (us:List zk) (Q:VK),Inv X Ee σ H s->J5 x v->u9 xs us->r x xs H Q->
  zw (zG X.prog X.w) X.A (call (.builtin id) (v::us)) (EP X Ee σ Q) X.xe s
section
variable{X:Cx}
def IxR.or(h:IxR X r)(h':IxR X r'):IxR X (λx y H Q=>r x y H Q\/r' x y H Q):=by
 intro value slice Ee s σ H x y v u Q I rx ry q hs;rcases q with q|q
 ·exact h value slice Ee s σ H x y v u Q I rx ry q hs
 ·exact h' value slice Ee s σ H x y v u Q I rx ry q hs
def FX(hr:IxR X r)(ha:PE X a ta)(hb:PE X b tb)(hs:bG b):PE X (.Subscript a b pos) (tOp r ta tb):=by intro Ee s σ H Q I h;exact Subscript_ (VL ha hb I h λv u s2 x y H2 I2 rx ry q=>hr a b Ee s2 σ H2 x y v u Q I2 rx ry q (hs _ _))
def QX(K:zn):R2:=λx y H Q=>∃p xs i v,x= .ref p/\y= .int i/\SqL K H p xs/\atI xs i=some v/\Q v H
def Dn(K:zn):R2:=λx y H Q=>∃p xs i v,x= .ref p/\y= .int i/\SqT K H p xs/\atI xs i=some v/\Q v H
def cx:R2:=λx y H Q=>∃z i c,x= .str z/\y= .int i/\z.length<=zq/\atI z.cps.toList i=some c/\Q (.str ⟨#[c]⟩) H
def LX:IxR X (QX X.K):=by
 intro value slice Ee s σ H x y v u Q I rx ry h hs;obtain⟨p,xs,i,z,rfl,rfl,hq,he,q⟩:=h
 cases rx
 obtain⟨t,rfl⟩:=ry;obtain⟨Ef,r,pl,hz⟩:=I.list hq;obtain⟨j,h1,h2,h3,h4,h5⟩:=EM he;obtain⟨w,ew,rw'⟩:=r.get h2;have hl:=r.length;have hn:=bC;have fin:EP X Ee σ Q w s:=⟨z,H,I,rw',q⟩;by_cases h0:0<=i
 · have hj:i.toNat=j:=by
    rw[seqIndex_of h0 h5]at h1;exact jc h1
   exact item_listR pl.isList h0 (by lia) (by rw[hj];simpa using ew) fin hs
 · have hj:(i+(Ef.toArray.size:Int)).toNat=j:=by
    rw[seqIndex_neg (by lia) h4]at h1;rw[zo,<-hl];exact jc h1
   exact YZ (x:=w) pl.isList.typeIs Ji.lookup
    (wpAny_getItem_list_neg (Q:=λr s'=>r=w/\EP X Ee σ Q r s') pl.isList (by lia) (by rw[zo]<;>lia) (by lia) (by rw[hj];simpa using ew) ⟨rfl,fin⟩) hs
def ix_tup:IxR X (Dn X.K):=by
 intro value slice Ee s σ H x y v u Q I rx ry h hs;obtain⟨p,xs,i,z,rfl,rfl,hq,he,q⟩:=h
 cases rx
 obtain⟨t,rfl⟩:=ry;obtain⟨Ef,r,pl,hz⟩:=I.tuple hq;obtain⟨j,h1,h2,h3,h4,h5⟩:=EM he;obtain⟨w,ew,rw'⟩:=r.get h2;have hl:=r.length;have hn:=bC;have fin:EP X Ee σ Q w s:=⟨z,H,I,rw',q⟩;exact YZ (x:=w) pl.typeIs jQ.lookup
  (getItem_tuple (j:=j) (Q:=λr s'=>r=w/\EP X Ee σ Q r s') pl (by lia) (by lia) (by rw[zo,<-hl];exact h1) (by simpa using ew) ⟨rfl,fin⟩) hs
def nj:IxR X cx:=by
 intro value slice Ee s σ H x y v u Q I rx ry h hs;obtain⟨z,i,c,rfl,rfl,hz,he,q⟩:=h;obtain⟨t,rfl⟩:=rx;obtain⟨t',rfl⟩:=ry;obtain⟨j,h1,h2,h3,h4,h5⟩:=EM he;have hl:z.cps.toList.length=z.length:=by simp[Str.length]
 rw[hl]at h1 h4 h5;have hn:=bC;exact tail_any (typeIs_str s z t) slot_str_getitem.lookup (getItem_str (c:=c) (by have e1:decide (i < -(2 ^ 63:Int))=false:=decide_eq_false (by lia);have e2:decide (i>=2 ^ 63)=false:=decide_eq_false (by lia);rw[e1,e2,Zu]) (by rw[h1];simpa using h2) ⟨.str ⟨#[c]⟩,H,I.tok _,⟨_,rfl⟩,q⟩) hs
def wv(Ef:List zk)(n j:Nat)(u:zk):jG (·.setIfInBounds j u) {cls:=.type "list",data:=.seq Ef.toArray n}= {cls:=.type "list",data:=.seq (Ef.set j u).toArray n}:=by simp[jG]
def Inv.lst(I:Inv X Ee σ H s)(h:H p=some (.lst xs)):
 ∃(Ef:List zk) (n:Nat),u9 xs Ef/\s.heap.get? p=some {cls:=.type "list",data:=.seq Ef.toArray n}/\xs.length<=zq:=by
 obtain⟨z,Ef,n,r,e⟩:=I.hok p _ h;exact⟨Ef,n,r,e,z⟩
def Inv.lstUpd{σ:St}{H:Hp}{s:zD}{p:Addr}{xs ys:List V}{Ef its':List zk}{n n':Nat}{f:Obj->Obj}(I:Inv X Ee σ H s)(h:H p=some (.lst xs))
 (ho:s.heap.get? p=some {cls:=.type "list",data:=.seq Ef.toArray n}) (hf:f {cls:=.type "list",data:=.seq Ef.toArray n}= {cls:=.type "list",data:=.seq its'.toArray n'}) (r:u9 ys its') (hz:ys.length<=zq) (t:Nat):
 Inv X Ee σ (upd H p (.lst ys)) {s with heap:=s.heap.update p f,toks:=t}:=by
 have e:(s.heap.update p f).get? p=some {cls:=.type "list",data:=.seq its'.toArray n'}:=by rw[jP f ho (by rw[hf]<;>rfl),hf]
 refine I.write (x:=p) (e:=p) (by rw[h];trivial) (.inl rfl) (λb u hb q=>(jU _ _ (Ne.symm hb)).trans q) ⟨_,e⟩ ?_;exact⟨hz,its',n',r,e⟩
def tY:V->V->V->Hp->(Hp->Prop)->Prop:=λo i v H Q=>∃p xs k j,o= .ref p/\i= .int k/\H p=some (.lst xs)/\ixN xs.length k=some j/\Q (upd H p (.lst (xs.set j v)))
def Qh:BK X tY:=by
 intro Ee s σ H o i v ov iv u Q I ro ri rv h;obtain⟨p,xs,k,j,rfl,rfl,hp,hj,q⟩:=h
 cases ro
 obtain⟨t,rfl⟩:=ri;obtain⟨Ef,n,r,ho,hz⟩:=I.lst hp;obtain⟨h1,h2,h3,h4⟩:=AQ hj;have hl:=r.length;have hn:=bC;have I':Inv X Ee σ (upd H p (.lst (xs.set j v))) {s with heap:=s.heap.update p (jG (·.setIfInBounds j u))}:=
  I.lstUpd hp ho (wv Ef n j u) (r.set rv j) (by rw[Zy];exact hz) s.toks
 by_cases h0:0<=k
 · have hk:k.toNat=j:=by
    rw[seqIndex_of h0 h4]at h1;exact jc h1
   exact PySem.W.ki_setAt ho h0 (by lia) (by rw[zo,<-hl];exact h4) (by rw[hk];exact⟨_,I',q⟩)
 · have hk:(k+(Ef.toArray.size:Int)).toNat=j:=by
    rw[seqIndex_neg (by lia) h3]at h1;rw[zo,<-hl];exact jc h1
   exact PySem.W.ki_setBack ho (by lia) (by rw[zo,<-hl];exact h3) (by lia) (by rw[hk];exact⟨_,I',q⟩)
def ii(lo hi:Option Int)(n:Nat):(xx lo hi none n).1= ((HT.sIx n 0 lo:Nat):Int)/\(xx lo hi none n).2.1= ((HT.sIx n n hi:Nat):Int)/\(xx lo hi none n).2.2=1:=by
 refine⟨?_,?_,rfl⟩
 · cases lo with
   |none=>simp[xx,HT.sIx]
   |some i=>
     simp only[xx,HT.sIx,Option.getD_none,show (1:Int)>0 by decide,if_true];by_cases h:i<0
     ·simp only[h,if_true]<;>lia
     ·simp only[h,if_false]<;>lia
 · cases hi with
   |none=>simp[xx,HT.sIx]
   |some i=>
     simp only[xx,HT.sIx,Option.getD_none,show (1:Int)>0 by decide,if_true];by_cases h:i<0
     ·simp only[h,if_true]<;>lia
     ·simp only[h,if_false]<;>lia
def AX(Ef:List zk)(lo hi:Option Int):JB Ef.toArray lo hi none= ((Ef.drop (HT.sIx Ef.length 0 lo)).take (HT.sIx Ef.length Ef.length hi-HT.sIx Ef.length 0 lo)).toArray:=by obtain⟨h1,h2,h3⟩:=ii lo hi Ef.toArray.size;unfold JB;rw[h1,h2,h3];simp only[sliceRange_one,pick_run,zo]<;>rfl
def AZ(K:zn):V->Option Int->Option Int->Hp->VK->Prop:=λx lo hi H Q=>∃a xs,x= .ref a/\SqL K H a xs/\∀p,H p=none->Q (.ref p) (upd H p (.lst (B9 xs lo hi)))
def sj:SlR X (AZ X.K):=by
 intro Ee s σ H x v vl vu lo hi sl Q I rx hs pl pu h;obtain⟨a,xs,rfl,hx,q⟩:=h
 cases rx
 obtain⟨Ef,r,ht,hz⟩:=I.list hx;have Ei:=r.length;refine⟨"list",_,Ji.lookup,ht.isList.typeIs,?_⟩;refine wpAny_getItem_list_slice ht.isList hs pl pu .none (by simp) ?_ (by rw[zo]<;>lia);rw[AX,<-Ei];refine⟨.ref s.heap.objs.size,_,I.laid (t':=s.toks) (o:=.lst (B9 xs lo hi)) (λb ob q=>zh _ q) (zp _) ?_,rfl,q _ (I.hok.fresh (zp _))⟩;exact⟨zK (NR xs lo hi) hz,_,0,(r.drop (HT.sIx xs.length 0 lo)).take (HT.sIx xs.length xs.length hi-HT.sIx xs.length 0 lo),zt _ rfl⟩
def eA:V->Bool
 | .non=>true
 | .bl _=>true
 | .int _=>true
 | .str _=>true
 |_=>false
def eqV:V->V->Bool
 | .non,.non=>true
 | .bl a,.bl b=>a==b
 | .bl a,.int b=>(if a then 1 else 0)==b
 | .int a,.bl b=>a==(if b then 1 else 0)
 | .int a,.int b=>a==b
 | .str a,.str b=>a==b
 |_,_=>false
def HV(ry:J5 y u)(rx:J5 x v)(fy:eA y=true)(fx:eA x=true):ye A s u v (eqV y x):=by
 cases y with
 |non=>
   cases ry
   cases x with
   |non=>cases rx;exact Xp _
   |bl b=>cases rx;exact Jr b
   |int b=>obtain⟨t,rfl⟩:=rx;exact JJ b t
   |str b=>obtain⟨t,rfl⟩:=rx;exact JI b t
   |_=>exact absurd (show false=true from fx) jm
 |bl a=>
   cases ry
   cases x with
   |non=>cases rx;exact Js a
   |bl b=>cases rx;exact Jt a b
   |int b=>obtain⟨t,rfl⟩:=rx;exact JO a b t
   |str b=>obtain⟨t,rfl⟩:=rx;exact JN a b t
   |_=>exact absurd (show false=true from fx) jm
 |int a=>
   obtain⟨t',rfl⟩:=ry
   cases x with
   |non=>cases rx;exact JK a t'
   |bl b=>cases rx;exact JM a t' b
   |int b=>obtain⟨t,rfl⟩:=rx;exact JX a t' b t
   |str b=>obtain⟨t,rfl⟩:=rx;exact YB a t' b t
   |_=>exact absurd (show false=true from fx) jm
 |str a=>
   obtain⟨t',rfl⟩:=ry
   cases x with
   |non=>cases rx;exact JG a t'
   |bl b=>cases rx;exact JH a t' b
   |int b=>obtain⟨t,rfl⟩:=rx;exact YA a t' b t
   |str b=>obtain⟨t,rfl⟩:=rx;exact JW a t' b t
   |_=>exact absurd (show false=true from fx) jm
 |_=>exact absurd (show false=true from fy) jm
def eqU(x:V)(u:zk):Bool:=match u with
 | .none=>eqV .non x
 | .bool b=>eqV (.bl b) x
 | .int i _=>eqV (.int i) x
 | .str z _=>eqV (.str z) x
 |_=>false
def vO(r:J5 y u)(f:eA y=true):eqU x u=eqV y x:=by
 cases y with
 |non=>cases r;rfl
 |bl b=>cases r;rfl
 |int i=>obtain⟨t,rfl⟩:=r;rfl
 |str z=>obtain⟨t,rfl⟩:=r;rfl
 |_=>exact absurd (show false=true from f) jm
def VF(h:u9 xs us)(f:xs.all eA=true):us.any (eqU x)=xs.any λy=>eqV y x:=by
 induction h with
 |nil=>rfl
 |cons r t ih=>
   rw[yt,jk]at f;rw[yr,yr,vO r f.1,ih f.2]
theorem BF(rx:J5 x v)(fx:eA x=true):∀ {xs} {us},u9 xs us->xs.all eA=true->∀u∈us,ye A s u v (eqU x u)
 |_,_,.nil,_=>λu hu=>by cases hu
 |y::xs,u::us,.cons r t,f=>λu' hu=>by
   rw[yt,jk]at f;rcases zy.mp hu with rfl|hu
   ·rw[vO r f.1];exact HV r rx f.1 fx
   ·exact BF rx fx t f.2 u' hu
def inV(x:V)(xs:List V):Bool:=xs.any λy=>eqV y x
def rIn(K:zn)(neg:Bool):R2:=λx y H Q=>∃p xs,y= .ref p/\(SqL K H p xs\/SqT K H p xs)/\eA x=true/\xs.all eA=true/\Q (.bl (if neg then !inV x xs else inV x xs)) H
def Kg:OpR X (zZ .In) (rIn X.K false):=by
 intro Ee s σ H x y v u Q I rx ry h;obtain⟨p,xs,rfl,hq,fx,fs,q⟩:=h
 cases ry
 rcases hq with hq|hq
 ·obtain⟨Ef,r,pl,hz⟩:=I.list hq;refine SeqAt.in_listAt (eqU x) pl.isList (λw hw=>BF rx fx r fs w (by simpa using hw)) ⟨.bl _,H,I,rfl,?_⟩;rw[show Ef.toArray.any (eqU x)=Ef.any (eqU x) by simp,VF r fs];exact q
 ·obtain⟨Ef,r,pl,hz⟩:=I.tuple hq;refine SeqAt.in_tupleAt (eqU x) pl (λw hw=>BF rx fx r fs w (by simpa using hw)) ⟨.bl _,H,I,rfl,?_⟩;rw[show Ef.toArray.any (eqU x)=Ef.any (eqU x) by simp,VF r fs];exact q
def HX:OpR X (zZ .NotIn) (rIn X.K true):=by
 intro Ee s σ H x y v u Q I rx ry h;obtain⟨p,xs,rfl,hq,fx,fs,q⟩:=h
 cases ry
 rcases hq with hq|hq
 ·obtain⟨Ef,r,pl,hz⟩:=I.list hq;refine SeqAt.notIn_listAt (eqU x) pl.isList (λw hw=>BF rx fx r fs w (by simpa using hw)) ⟨.bl _,H,I,rfl,?_⟩;rw[show Ef.toArray.any (eqU x)=Ef.any (eqU x) by simp,VF r fs];exact q
 ·obtain⟨Ef,r,pl,hz⟩:=I.tuple hq;refine SeqAt.notIn_tupleAt (eqU x) pl (λw hw=>BF rx fx r fs w (by simpa using hw)) ⟨.bl _,H,I,rfl,?_⟩;rw[show Ef.toArray.any (eqU x)=Ef.any (eqU x) by simp,VF r fs];exact q
def Dd:OpR X (zZ .NotIn) (λx y H Q=>∃i j,x= .str i/\y= .str j/\Q (.bl (!(!(ZN j i 0 j.length 1).isEmpty))) H):=by intro Ee s σ H x y v u Q I rx ry h;obtain⟨i,j,rfl,rfl,q⟩:=h;obtain⟨t,rfl⟩:=rx;obtain⟨t',rfl⟩:=ry;exact notIn_str ⟨.bl _,H,I,rfl,q⟩
def An:v3 X (.builtin "len") (λxs H Q=>∃p ys,xs= [.ref p]/\(SqL X.K H p ys\/SqT X.K H p ys)/\Q (.int ys.length) H):=by
 intro Ee s σ H xs us Q I r h;obtain⟨p,ys,rfl,hq,q⟩:=h;obtain⟨u,rfl,rx⟩:=S3 r
 cases rx
 have hn:=bC;rcases hq with hq|hq
 ·obtain⟨Ef,r',pl,hz⟩:=I.list hq;have Ei:=r'.length;exact Calls.call_len_list pl.isList (by simp only[zo]<;>lia) ⟨.int ys.length,H,I.tok _,⟨s.toks+1,by rw[zo,Ei]⟩,q⟩
 ·obtain⟨Ef,r',pl,hz⟩:=I.tuple hq;have Ei:=r'.length;exact len_tuple pl (by simp only[zo]<;>lia) ⟨.int ys.length,H,I.tok _,⟨s.toks+1,by rw[zo,Ei]⟩,q⟩
def ol:v3 X (.builtin "len") (λxs H Q=>∃z,xs= [.str z]/\z.length<=zq/\Q (.int z.length) H):=by intro Ee s σ H xs us Q I r h;obtain⟨z,rfl,hz,q⟩:=h;obtain⟨u,rfl,t,rfl⟩:=S3 r;have hn:=bC;exact len_str (by lia) ⟨.int z.length,H,I.tok _,⟨_,rfl⟩,q⟩
def v3.or(h:v3 X f r)(h':v3 X f r'):v3 X f (λxs H Q=>r xs H Q\/r' xs H Q):=by
 intro Ee s σ H xs us Q I rs q;rcases q with q|q
 ·exact h Ee s σ H xs us Q I rs q
 ·exact h' Ee s σ H xs us Q I rs q
def bb:v3 X (.type "list") (λxs H Q=>∃p ys,xs= [.ref p]/\(SqL X.K H p ys\/SqT X.K H p ys)/\∀l,H l=none->Q (.ref l) (upd H l (.lst ys))):=by
 intro Ee s σ H xs us Q I r h;obtain⟨p,ys,rfl,hq,q⟩:=h;obtain⟨u,rfl,rx⟩:=S3 r
 cases rx
 have fin:∀(Ef:List zk),u9 ys Ef->ys.length<=zq->∀(h':Heap) (c':Nat),(∀b o',s.heap.get? b=some o'->h'.get? b=some o')->
  h'.get? s.heap.objs.size=some {cls:=.type "list",dict:=none,data:=.seq Ef.toArray c',slots:= #[]}->EP X Ee σ Q (.ref s.heap.objs.size) {s with heap:=h'}:=λEf r' hz h' c' kp e=>
  ⟨.ref s.heap.objs.size,_,I.laid (t':=s.toks) kp (zp _) (show U5 X.prog X.w _ h' _ (.lst ys) from⟨hz,Ef,c',r',e⟩),rfl,q _ (I.hok.fresh (zp _))⟩
 rcases hq with hq|hq
 ·obtain⟨Ef,r',pl,hz⟩:=I.list hq;have Ei:=r'.length;obtain⟨o,ho,hc,n,hd⟩:=pl.isList;exact call_list_seq p (.inl rfl) ho hc hd (λh' c' kp e=>fin Ef r' hz h' c' kp e) (by simp only[zo]<;>lia)
 ·obtain⟨Ef,r',pl,hz⟩:=I.tuple hq;have Ei:=r'.length;obtain⟨o,ho,hc,n,hd⟩:=pl;exact call_list_seq p (.inr rfl) ho hc hd (λh' c' kp e=>fin Ef r' hz h' c' kp e) (by simp only[zo]<;>lia)
def om:v3 X (.type "tuple") (λxs H Q=>∃p ys,xs= [.ref p]/\((SqL X.K H p ys/\∀l,H l=none->Q (.ref l) (upd H l (.tup ys)))\/(SqT X.K H p ys/\Q (.ref p) H))):=by
 intro Ee s σ H xs us Q I r h;obtain⟨p,ys,rfl,h⟩:=h;obtain⟨u,rfl,rx⟩:=S3 r
 cases rx
 rcases h with⟨hq,q⟩|⟨hq,q⟩
 · obtain⟨Ef,r',pl,hz⟩:=I.list hq;have Ei:=r'.length;refine call_tuple_list pl.isList (λh' kp=>?_) (by simp only[zo]<;>lia);have I1:Inv X Ee σ H {s with heap:=h'}:=I.kept (t':=s.toks) kp;have I2:Inv X Ee σ (upd H h'.objs.size (.tup ys)) {s with heap:=h'.push {cls:=.type "tuple",data:=.seq Ef.toArray}}:=
    I1.laid (t':=s.toks) (λb o e=>zh _ e) (zp _) (show U5 X.prog X.w _ _ _ (.tup ys) from⟨hz,Ef,r',l7.new _ _⟩)
   exact⟨.ref h'.objs.size,_,I2,rfl,q _ (I1.hok.fresh (zp _))⟩
 ·obtain⟨Ef,r',pl,hz⟩:=I.tuple hq;exact call_tuple_same pl ⟨.ref p,H,I,rfl,q⟩
def tyV(K:zn)(T:String)(x:V)(H:Hp):Prop:=match x with
 | .str _=>T= "str"
 | .int _=>T= "int"
 | .ref p=>(T= "list"/\∃xs,SqL K H p xs)\/(T= "tuple"/\∃o,K.lookup p=some o/\o.cls= .type "tuple"/\o.dict=none)\/
    (T= "dict"/\((∃Eg,H p=some (.dK Eg))\/∃Eg,H p=some (.dT Eg)))\/(T= "set"/\∃S n,H p=some (.set S n))
 |_=>False
def KR(I:Inv X Ee σ H s)(r:J5 x v)(ty:tyV X.K T x H):
 s.TypeIs v T/\∀a,v= .ref a->∃ob,s.heap.get? a=some ob/\ob.dict=none:=by
 cases x with
 |str z=>
   obtain⟨t,rfl⟩:=r
   cases (show T= "str" from ty)
   exact⟨typeIs_str s z t,λ_ e=>nomatch e⟩
 |int i=>
   obtain⟨t,rfl⟩:=r
   cases (show T= "int" from ty)
   exact⟨Zi s i t,λ_ e=>nomatch e⟩
 |ref p=>
   cases r
   rcases ty with⟨rfl,xs,hq⟩|⟨rfl,o,hk,hc,hd⟩|⟨rfl,hk⟩|⟨rfl,S,n,hk⟩
   · obtain⟨Ef,_,pl,_⟩:=I.list hq;refine⟨pl.isList.typeIs,λa e=>?_⟩
     cases e
     obtain⟨o,n,e,c,hd,_⟩:=pl;exact⟨o,e,hd⟩
   · refine⟨⟨o,I.kIn p o hk,hc⟩,λa e=>?_⟩
     cases e
     exact⟨o,I.kIn _ o hk,hd⟩
   · have z:∃o,s.heap.get? p=some o/\o.ExactDict:=by
      rcases hk with⟨Eg,hk⟩|⟨Eg,hk⟩
      ·obtain⟨_,_,_,_,o,_,_,e,ex,_⟩:=I.hok p _ hk;exact⟨o,e,ex⟩
      ·obtain⟨_,_,_,_,o,_,_,e,ex,_⟩:=I.hok p _ hk;exact⟨o,e,ex⟩
     obtain⟨o,e,ex⟩:=z;refine⟨⟨o,e,ex.1⟩,λa e2=>?_⟩
     cases e2
     exact⟨o,e,ex.2.1⟩
   · obtain⟨o,_,_,_,e,ex,_⟩:=I.hok p _ hk;refine⟨⟨o,e,ex.1⟩,λa e2=>?_⟩
     cases e2
     exact⟨o,e,ex.2.1⟩
 |_=>exact xn ty
def dm(K:zn)(T:String)(r:V->List V->Hp->VK->Prop)(to:TE):TE:=λσ H Q=>to σ H λx H1=>tyV K T x H1/\r x [] H1 Q
def tBM(K:zn)(T:String)(r:V->List V->Hp->VK->Prop)(to:TE)(t:TA):TE:=λσ H Q=>to σ H λx H1=>tyV K T x H1/\t σ H1 λxs H2=>r x xs H2 Q
variable{o e:Expr}{es:List Expr}{to:TE}{t:TA}{name:Str}{Ez Em:Pos}{T id:String}{r:V->List V->Hp->VK->Prop}
def cv(pa:PlainAttrs T)(slot:Slot T name id)(hty:typeOf (.builtin id)=pure (.type "method_descriptor"))(hm:MtR X id r)(ho:PE X o to)
 (hbase:xG o name X.env (eval o X.env)=eval o X.env) (hline:(Ez.endLine==Em.line)=true):PE X (.Call (.Attribute o name Ez) [] [] Em) (dm X.K T r to):=by
 intro Ee s σ H Q I h;refine wpAny_Call_method0_late hbase hline (thn (ho Ee s σ H _ I h) λv s1 ⟨x,H1,I1,r1,ty,q1⟩=>?_);obtain⟨h1,h2⟩:=KR I1 r1 ty;exact⟨T,id,pa,slot,hty,h1,h2,Calls.callWith_builtin rfl (PySem.evalArgs_none (hm Ee s1 σ H1 x [] v [] Q I1 r1 .nil q1))⟩
def bL(pa:PlainAttrs T)(slot:Slot T name id)(hty:typeOf (.builtin id)=pure (.type "method_descriptor"))(hm:MtR X id r)(ho:PE X o to)(ha:PA X (e::es) t)
 (hbase:xG o name X.env (eval o X.env)=eval o X.env)
 (hfew:((xi Em (zW (e::es) X.env)).all (λx=> !x.1)&&(Jl Em (Yl [] X.env)).all (λx=>x.1.isSome)
   && decide ((e::es).length+([]:List Keyword).length+(if ([]:List Keyword).isEmpty then 0 else 1)<30))=true)
 (hline:(Ez.endLine==Em.line)=true) (hs:zW (e::es) X.env= (false,eval e X.env)::zW es X.env) (Fu:(xi Em (zW es X.env)).any (·.1)=false):
 PE X (.Call (.Attribute o name Ez) (e::es) [] Em) (tBM X.K T r to t):=by
 intro Ee s σ H Q I h;refine wpAny_Call_method_late hbase hfew hline rfl (thn (ho Ee s σ H _ I h) λv s1 ⟨x,H1,I1,r1,ty,q1⟩=>?_);obtain⟨h1,h2⟩:=KR I1 r1 ty;refine⟨T,id,pa,slot,hty,h1,h2,?_⟩;have hA:=ha Em Ee s1 σ H1 _ I1 q1;rw[hs]at hA ⊢;refine Calls.callWith_builtin (by show (false||(xi Em (zW es X.env)).any (·.1))=false;rw[Fu]<;>rfl) (Calls.evalArgs_plain ?_);exact thn hA λus s2 Ep=>Ep.elim λvs H2 I2 r2 q2=>hm Ee s2 σ H2 x vs v us Q I2 r1 r2 q2
end
def MtM(X:Cx)(id:String)(r:V->List V->Hp->VK->Prop):Prop:=
 ∀(Ee:PNS) (s:zD) (σ:St) (H:Hp) (x:V) (xs:List V) (v:zk) (us:List zk) (Q:VK),Inv X Ee σ H s->J5 x v->u9 xs us->r x xs H Q->
  zw (zG X.prog X.w) X.A (call (.builtin id) (v::us)) (EP X Ee σ Q) X.xe s
def u9.one(h:u9 [x] us):∃u,us= [u]/\J5 x u:=by
 cases h with
 |cons r t=>cases t;exact⟨_,rfl,r⟩
def u9.zero:∀ {us},u9 [] us->us= []
 |_,.nil=>rfl
def u9.dropLast(h:u9 xs us):u9 xs.dropLast us.dropLast:=by
 induction h with
 |nil=>exact .nil
 |cons r t ih=>
   cases t with
   |nil=>exact .nil
   |cons q t'=>exact .cons r ih
def u9.reverse(h:u9 xs us):u9 xs.reverse us.reverse:=by
 induction h with
 |nil=>exact .nil
 |cons r t ih=>rw[XG,XG];exact u9.append ih (.cons r .nil)
theorem u9.rep(h:u9 xs us):∀k:Nat,u9 (zC k xs).flatten (zC k us).flatten
 |0=>.nil
 |k+1=>by rw[yy,yy,yG,yG];exact u9.append h (u9.rep h k)
def az(l:List α):l.eraseIdx (l.length-1)=l.dropLast:=by
 induction l with
 |nil=>rfl
 |cons a r ih=>
   cases r with
   |nil=>rfl
   |cons b r=>
     have e:(a::b::r).length-1= ((b::r).length-1)+1:=by have h1:(a::b::r).length=r.length+2:=rfl;have h2:(b::r).length=r.length+1:=rfl;lia
     rw[e,List.eraseIdx_cons_succ,ih]
     all_goals rfl
theorem UM(Ef:List zk):∀k Ek,
 Yr (λx1 x2=>x1++x2) Ek.toArray (zC k Ef.toArray)= (Ek++(zC k Ef).flatten).toArray
 |0,Ek=>by simp
 |k+1,Ek=>by
   have e:Ek.toArray++Ef.toArray= (Ek++Ef).toArray:=by simp
   have e2:(Ek++Ef)++(zC k Ef).flatten=Ek++(zC (k+1) Ef).flatten:=by rw[yy,yG,yH]
   rw[<-e2,<-UM Ef k (Ek++Ef),<-e,yy,yk]
def Inv.lset{Ef its':List zk}{n:Nat}{t':Nat}(I:Inv X Ee σ H s)(hH:H l=some (.lst xs))
 (e:s.heap.get? l=some {cls:=.type "list",data:=.seq Ef.toArray n}) (hf:f Ef.toArray=its'.toArray) (hv:u9 ys its') (hz:ys.length<=zq):
 Inv X Ee σ (upd H l (.lst ys)) {s with heap:=s.heap.update l (jG f),toks:=t'}:=by
 have q:=PySem.IsL.update e f;rw[hf]at q;refine I.write (x:=l) (e:=l) (by rw[hH];exact trivial) (.inl rfl) (λb' u hb hu=>(jU s.heap (jG f) (Ne.symm hb)).trans hu) ⟨_,q⟩ ?_;exact⟨hz,its',_,hv,q⟩
def Inv.lnew(I:Inv X Ee σ H s)(hv:u9 ys Ef)(hz:ys.length<=zq):
 Inv X Ee σ (upd H s.heap.objs.size (.lst ys)) {s with heap:=s.heap.push {cls:=.type "list",data:=.seq Ef.toArray},toks:=t'}:=
 I.laid (λ_ _ q=>zh _ q) (zp _) ⟨hz,Ef,0,hv,zt _ rfl⟩
def Inv.fresh(I:Inv X Ee σ H s):H s.heap.objs.size=none:=I.hok.fresh (zp _)
def Inv.lstM(I:Inv X Ee σ H s)(hH:H l=some (.lst xs)):xs.length<=zq/\∃(Ef:List zk) (n:Nat),u9 xs Ef/\xs.length=Ef.length/\s.heap.get? l=some {cls:=.type "list",data:=.seq Ef.toArray n}:=by obtain⟨z,Ef,n,r,e⟩:=I.hok l _ hH;exact⟨z,Ef,n,r,r.length,e⟩
def NQ(h:n<=zq):xE n=false:=by unfold xE;exact decide_eq_false (by lia)
def Wx:V->List V->Hp->VK->Prop:=λx vs H Q=>∃l xs y,x= .ref l/\vs= [y]/\H l=some (.lst xs)/\xs.length<zq/\Q .non (upd H l (.lst (xs++[y])))
def LQ:MtM X "list.append" Wx:=by
 intro Ee s σ H x vs v us Q I rx rv h;obtain⟨l,xs,y,rfl,rfl,hH,hz,q⟩:=h
 cases rx
 obtain⟨u,rfl,ru⟩:=rv.one;obtain⟨z,Ef,n,r,hl,e⟩:=I.lstM hH;refine Zj F.slot_list_append ⟨_,e,rfl⟩ F.entry_list_append (F.args_list_append_2 _ _) (PySem.list_append l Ef.toArray n u (by rw[zo];lia)) ⟨e,?_⟩;refine⟨.non,_,I.lset (its':=Ef++[u]) hH e (by simp) (r.append (.cons ru .nil)) ?_,rfl,q⟩;rw[zJ,jI];lia
def wz:V->List V->Hp->VK->Prop:=λx vs H Q=>∃l b xs zs,x= .ref l/\vs= [.ref b]/\H l=some (.lst xs)/\H b=some (.lst zs)/\xs.length+zs.length<=zq/\Q .non (upd H l (.lst (xs++zs)))
def Kf:MtM X "list.extend" wz:=by
 intro Ee s σ H x vs v us Q I rx rv h;obtain⟨l,b,xs,zs,rfl,rfl,hH,hB,hz,q⟩:=h
 cases rx
 obtain⟨u,rfl,ru⟩:=rv.one
 cases ru
 obtain⟨z,Ef,n,r,hl,e⟩:=I.lstM hH;obtain⟨z2,Gi,n2,r2,Ge,e2⟩:=I.lstM hB;have hsz:Ef.toArray.size+Gi.toArray.size<=zq:=by rw[zo,zo];lia
 have hlong:¬(!Ef.toArray.isEmpty&&xE (Ef.toArray.size+Gi.toArray.size))=true:=by rw[NQ hsz,YU];exact jm
 refine Zj F.slot_list_extend ⟨_,e,rfl⟩ F.entry_list_extend (F.args_list_extend_2 _ _)
  (AutoSeq1.list_extend_list_list_0 l Ef.toArray n b Gi.toArray n2 hlong (by rw[zo];lia) (by lia)) ⟨e,e2,?_⟩
 refine⟨.non,_,I.lset (its':=Ef++Gi) hH e (by simp) (r.append r2) ?_,rfl,q⟩;rw[zJ];lia
def fZ:V->List V->Hp->VK->Prop:=λx vs H Q=>∃l xs y,x= .ref l/\vs= []/\H l=some (.lst xs)/\xs[xs.length-1]? =some y/\Q y (upd H l (.lst xs.dropLast))
def UW:MtM X "list.pop" fZ:=by
 intro Ee s σ H x vs v us Q I rx rv h;obtain⟨l,xs,y,rfl,rfl,hH,hy,q⟩:=h
 cases rx
 have hus:=rv.zero;subst hus;obtain⟨z,Ef,n,r,hl,e⟩:=I.lstM hH;obtain⟨u,hu,ru⟩:=r.get hy;have hy':Ef.toArray[Ef.toArray.size-1]? =some u:=by show Ef.toArray[Ef.length-1]? =some u;rw[<-jz,<-hl];exact hu
 refine Zj F.slot_list_pop ⟨_,e,rfl⟩ F.entry_list_pop (F.args_list_pop_1 _) (MeetsSeq.list_pop_last l Ef.toArray n u hy' (by rw[zo];lia)) ⟨e,?_⟩;refine⟨y,_,I.lset (its':=Ef.dropLast) hH e ?_ r.dropLast ?_,ru,q⟩
 ·show Ef.toArray.eraseIdxIfInBounds (Ef.toArray.size-1)=Ef.dropLast.toArray;rw[zo,List.eraseIdxIfInBounds_toArray,az]
 ·rw[List.length_dropLast];lia
def DY:R2:=λx y H Q=>∃l b xs zs,x= .ref l/\y= .ref b/\H l=some (.lst xs)/\H b=some (.lst zs)/\xs.length+zs.length<=zq/\∀p,H p=none->Q (.ref p) (upd H p (.lst (xs++zs)))
def qZ:OpR X (yb .Add) DY:=by
 intro Ee s σ H x y v u Q I rx ry h;obtain⟨l,b,xs,zs,rfl,rfl,hH,hB,hz,q⟩:=h
 cases rx
 cases ry
 obtain⟨z,Ef,n,r,hl,e⟩:=I.lstM hH;obtain⟨z2,Gi,n2,r2,Ge,e2⟩:=I.lstM hB;refine PySem.P.add_list e e2 ?_ (by rw[zo,zo];lia);have ea:Ef.toArray++Gi.toArray= (Ef++Gi).toArray:=by simp
 rw[ea];exact⟨.ref _,_,I.lnew (t':=s.toks) (r.append r2) (by rw[zJ];lia),rfl,q _ I.fresh⟩
def Pw:R2:=λx y H Q=>∃l k xs,x= .ref l/\y= .int k/\H l=some (.lst xs)/\ -(2 ^ 63)<=k/\k<2 ^ 63/\xs.length*k.toNat<=zq/\
 ∀p,H p=none->Q (.ref p) (upd H p (.lst (zC k.toNat xs).flatten))
def IQ(xs:List α)(k:Nat):(zC k xs).flatten.length=k*xs.length:=by
 induction k with
 |zero=>simp
 |succ k ih=>rw[yy,yG,zJ,ih,Nat.succ_mul,Nat.add_comm]
def Kp:OpR X (yb .Mult) Pw:=by
 intro Ee s σ H x y v u Q I rx ry h;obtain⟨l,k,xs,rfl,rfl,hH,h1,h2,hz,q⟩:=h
 cases rx
 obtain⟨t,rfl⟩:=ry;obtain⟨z,Ef,n,r,hl,e⟩:=I.lstM hH;have Ei:Ef.toArray.size*k.toNat<=zq:=by rw[zo,<-hl];exact hz
 have hcap:¬Ef.toArray.size*k.toNat>(2 ^ 63-1) / 8:=by
  have:(zq:Nat)<=(2 ^ 63-1) / 8:=by decide
  lia
 have Gu:¬(!Builtin.List.listFitsIndex k)=true:=by rw[fitsIndex_both h1 h2];exact jm
 have hlong:¬xE (Ef.toArray.size*k.toNat)=true:=by rw[NQ Ei];exact jm
 have hnew:Yr (λx1 x2=>x1++x2) #[] (zC (if Ef.toArray.isEmpty=true then 0 else k.toNat) Ef.toArray)= (zC k.toNat Ef).flatten.toArray:=by
  have f0:∀m:Nat,Yr (λx1 x2=>x1++x2) #[] (zC m Ef.toArray)= (zC m Ef).flatten.toArray:=λm=>by have:=UM Ef m [];rw[xw]at this;exact this
  rw[f0]
  cases Ef with
  |nil=>simp
  |cons a r'=>rw[if_neg (by simp)]
 refine wpAny_binaryOp_repeat_ref (T:= "list") (U:= "int") (by decide) ⟨_,e,rfl⟩ (λs'=>Zi s' k t) noFill_list_mul F.fills_int_mul YN repeat_list F.slot_int_index.lookup
  (Zj YN (Zi s k t) F.entry_int_rmul (F.args_int_rmul_2 _ _) (int___rmul___int_list k t l Ef.toArray n)
    ⟨e,rfl,⟨_,e,rfl⟩,Zj F.slot_list_mul ⟨_,e,rfl⟩ F.entry_list_mul (F.args_list_mul_2 _ _) (AutoListH.list___mul___list_int_3 l Ef.toArray n k t Gu hcap hlong) ⟨e,?_⟩⟩)
 rw[hnew];exact⟨.ref _,_,I.lnew (t':=s.toks) (r.rep k.toNat) (by rw[IQ,Nat.mul_comm];exact hz),rfl,q _ I.fresh⟩
end L2
namespace Att
open PySem PySem.W PySem.Calls PyProof.Rows
def fg:∀ns vs,WellAll P h vs (ns.map WData.int)->IntsAre vs ns:=by
 intro ns
 induction ns with
 |nil=>
   intro vs w;rw[ZI]at w
   cases w
   exact .nil
 |cons n ns ih=>
   intro vs w;rw[zO]at w
   cases w with
   |cons a b=>
     cases a
     exact .cons _ _ (ih _ b)
def dz{l:OpenLaw}{n:Nat}(hn:l.most=some n){P:Params}{h:Heap}
 (hpre:l.row.toRowW.claim.pre args=true) (hwl:WellAll P h vals args):
 ∃a vs ns,vals= [Value.ref a]/\args= [WData.list (ns.map WData.int)]/\h.get? a=some {cls:=.type "list",data:=.seq vs.toArray}/\IntsAre vs ns/\ns.length<=n:=by
 have hsh:WShape.hasAll [] args [.list .int]=true:=(pre_splitW hpre).1;have hc:l.pre.holds [] {args:=args}=true:=(pre_splitW hpre).2;obtain⟨d,r,rfl,h1,h2⟩:=hasAllW_cons hsh;obtain rfl:=hasAllW_nil h2;obtain⟨xs,rfl,h3⟩:=hasW_list h1;obtain⟨ns,rfl⟩:=items_int h3;have Ei:ns.length<=n:=by
  unfold OpenLaw.pre at hc;have h4:(WTm.not (.lt (.lit (.int (n:Int))) (.len (.arg 0)))).holds [] {args:= [.list (ns.map .int)]}=true:=by have h4:=(holds_andW hc).1;rw[hn]at h4;exact h4
  have h5:=condW_of h4 (w_not (w_lt w_lit (w_len_list (w_arg rfl))));rw[zg]at h5;refine Nat.le_of_not_lt λq=>?_;have q':(n:Int)<((ns.length:Nat):Int):=by lia
  first
   |(rw[decide_eq_true q']at h5;exact absurd h5 (by decide))
   |(simp at h5;lia)
 cases hwl with
 |cons w1 w2=>
   cases w2
   cases w1 with
   |list ho hall=>exact⟨_,_,ns,rfl,rfl,ho,fg ns _ hall,Ei⟩
def rX(l:OpenLaw)(args:List WData):l.row.toRowW.claim.post args (.bool true) args=true:=
 postW_of (r:=l.row.toRowW) (X:=(true==true))
  (show WShape.has [] (.bool true) .bool=true by first|rfl|decide|simp[WShape.has,WShape.arms,WShape.armsAll])
  (show (WTm.eq .res (.lit (.bool true))).value [] {args:=args,res:=some (.bool true),after:=args}=some (.bool (true==true))from w_eq_bool (w_res rfl) w_lit) rfl
def attach_call{l:OpenLaw}{n:Nat}{q:jh}{loose:List Str}{d:DefRec}
 (hn:l.most=some n) (hdf:d.params.defaults= [])
 (call:∀(w:jq) (WX W1:zD) (mg mb:Str->Option zk) (fa:Addr) (o:Obj) (pm cd doc:zk) (a:Addr) (vs:List zk) (ns:List Int),
   Ground q loose [] XP w WX mg mb W1.heap->YP w W1.heap->
   W1.heap.get? fa=some o->o.data= .func (docDef d.name d.params d.body d.scope pm cd doc)->W1.heap.CodeRec cd d.name->mg d.name=some (.ref fa)->
   W1.heap.get? a=some {cls:=.type "list",data:=.seq vs.toArray}->IntsAre vs ns->ns.length<=n->W1.gens= #[]->
   Zs (zG l.prog w) Xz (.call (.ref fa) ⟨[.ref a], []⟩) (λr s'=>r= .ok (.ret (.bool true))/\OldK W1.heap s'.heap/\s'.os=W1.os/\XE s'.gens) W1):
 WalkO q loose XP YP l.row.toRowW d [] (λf vs=>PySem.call f vs):=by
 intro w WX W1 mg mb G Y fa o pm cd doc dV kV ho hd hcd hD hmg hg args vals as hpre hlay hrd hwl hlo;obtain rfl:dV= .none:=Dflts.none hD hdf;obtain rfl:kV= .none:=Dflts.noKw hD;obtain⟨a,vs,ns,rfl,rfl,hobj,hints,Ei⟩:=dz hn hpre hwl;refine enter_call (ZX (call w WX W1 mg mb fa o pm cd doc a vs ns G Y ho (fd_plain hd) hcd hmg hobj hints Ei hg) λr s' hq=>?_);obtain⟨rfl,h2,h3,h4⟩:=hq;exact⟨.inl ⟨.bool true,.bool true, [],rfl,λ_=>rfl,.bool true,rX l _,λ_=>⟨List.Pairwise.nil,λ_ hm=>(nomatch hm)⟩⟩,h2,h3,h4⟩
section
variable{prog:jh}{w:jq}{A:jC}{s:zD}{K:Frag}
end
end Att
namespace L2
open PySem PySem.Spec PyProof.Rows
theorem eO:∀ {vs} {ns},IntsAre vs ns->u9 (ns.map V.int) vs
 |_,_,.nil=>.nil
 |_,_,.cons n t h=>.cons ⟨t,rfl⟩ (eO h)
def wH(H:Hp):Prop:=∀b,H b=none\/∃o xs,H b=some (.frz o (.lst xs))
def Dh{P:jh}{w:jq}{K:zn}{CX:CXT}{k:Nat}{fa a:Addr}{fd:xT}{x:Str}{sp:Sp}{W1:zD}{vs:List zk}{ns:List Int}
 (KX:K.In W1.heap) (hns:W1.heap.Ns jF mg) (hb:W1.heap.Ns builtinsNs mb) (hbb:∀x:Str,x≠ "__name__"->mb x=je x) (hlim:W1.heap.NoLimit) (hg:W1.gens= #[])
 (ha:W1.heap.get? a=some {cls:=.type "list",data:=.seq vs.toArray}) (hi:IntsAre vs ns) (hl:ns.length<=zq) (hr:V7 k Xz)
 (F:∀base:Heap,K.In base->base.Ns jF mg->u3 P w K mg base CX k fa fd [x] sp) (hbind:∀(s:zD) (u:zk),YY s fd ⟨[u], []⟩ [(x,u)])
 (hsp:∀H:Hp,wH H->SqL K H a (ns.map V.int)->sp [.ref a] H (λv _=>v= .bl true) λ_ _ _=>False)
 (hCX:∀H e s',CX [] H W1 (λ_ _ _=>False) e s'->False):
 Zs (zG P w) Xz (.call (.ref fa) ⟨[.ref a], []⟩) (λr s'=>r= .ok (.ret (.bool true))/\OldK W1.heap s'.heap/\s'.os=W1.os/\XE s'.gens) W1:=by
 have rv:=eO hi;have lenV:=hi.length
 -- from an abstract heap in which nothing but the script may be tracked
 have core:∀H:Hp,wH H->SqL K H a (ns.map V.int)->HOk P w H W1.heap->(∀b,H b≠none->b=a)->(H a≠none->K.lookup a=none)->
  Zs (zG P w) Xz (.call (.ref fa) ⟨[.ref a], []⟩) (λr s'=>r= .ok (.ret (.bool true))/\OldK W1.heap s'.heap/\s'.os=W1.os/\XE s'.gens) W1:=by
  intro H hO hS hok hA hK;have base_of:∀ {b:Addr} {o:Obj},W1.heap.get? b=some o->H b=none->(IA W1.heap H).get? b=some o:=λe n=>fv e n;have noA:∀ {b:Addr} {o:Obj} {es:Array DictEntry} {ep:Nat},W1.heap.get? b=some o->o.data= .dict es ep->H b=none:=λ{b o es ep} e d=>by
   cases q:H b with
   |none=>rfl
   |some u=>
     have e':b=a:=hA b (by rw[q];simp);subst e';rw[ha]at e;cases e;have d':Data.seq vs.toArray _=Data.dict es ep:=d
     cases d'
  have nsK:∀ {b:Addr} {m:Str->Option zk},W1.heap.Ns b m->(IA W1.heap H).Ns b m:=λ{b m} ⟨o,es,ep,e,d,r⟩=>⟨o,es,ep,base_of e (noA e d),d,r⟩;have hKb:K.In (IA W1.heap H):=λb o e=>base_of (KX b o e) (by
   cases q:H b with
   |none=>rfl
   |some u=>
     have e':b=a:=hA b (by rw[q];simp);subst e';rw[hK (by rw[q];simp)]at e;cases e)
  have hM:Mod K mg (IA W1.heap H):=⟨hKb,nsK hns,⟨mb,nsK hb,hbb⟩,let ⟨mc,h1,h2⟩:=hlim;⟨mc,nsK h1,h2⟩⟩;have e0:pG P w K mg (IA W1.heap H) Xz [] W1 H:=⟨rfl,hM,λb o e=>gX e,xP (bt _ _),trivial,λb hb=>absurd (show b∈([]:List Addr)from hb) (by simp),hok,.of_eq hg⟩;refine ZX ((F _ hKb (nsK hns)).run Xz [] W1 H ⟨[.ref a], []⟩ [.ref a] [.ref a] _ _ hr e0 (hbind W1 (.ref a)) (.cons rfl .nil) (hsp H hO hS)) λr s' h=>?_
  cases r with
  |error e=>exact(hCX H e s' h).elim
  |ok fl=>
    cases fl with
    |next=>exact xn h
    |brk=>exact xn h
    |cont=>exact xn h
    |ret u=>
      obtain⟨v,H',os,bare,un,hok',r',q⟩:=h;have q':v= .bl true:=q;subst q';obtain rfl:u=Value.bool true:=r';refine⟨rfl,OldK.of_keep λb o e=>?_,os,bare⟩
      cases q:H b with
      |none=>exact un.keep b o e q (by intro z;exact absurd (show b∈([]:List Addr)from z) (by simp)) (by simp)
      |some u=>
        rcases hO b with z|⟨ob,xs,z⟩
        ·rw[q]at z;cases z
        ·have z2:=un.frzs b ob _ z;obtain⟨e1,_⟩:=hok b _ z;obtain⟨e2,_⟩:=hok' b _ z2;rw[e]at e1;cases e1;exact e2
 cases hk:K.lookup a with
 |some o=>
   -- the script is one of the module's own objects
   have e:=KX a o hk;rw[ha]at e
   cases e
   refine core (λ_=>none) (λ_=>.inl rfl) (.inr ⟨_,vs.toArray,_,hk,rfl,rfl,rfl,by rw[zo,lenV];exact hl,by simpa using rv⟩) (λb u z=>by have z':(none:Option HO)=some u:=z;cases z') (λb z=>absurd rfl z) λz=>absurd rfl z
 |none=>
   refine core (λb=>if b=a then some (.frz {cls:=.type "list",data:=.seq vs.toArray} (.lst (ns.map V.int)))else none) (λb=>?_) (.inl (.inr ⟨{cls:=.type "list",data:=.seq vs.toArray},if_pos rfl⟩)) (λb u z=>?_) (λb z=>?_) λ_=>hk
   · by_cases hb:b=a
     ·exact .inr ⟨_,_,if_pos hb⟩
     ·exact .inl (if_neg hb)
   · by_cases hb:b=a
     · have z':=(if_pos hb).symm.trans z
       cases z'
       subst hb;exact⟨ha,by rw[zg];exact hl,vs,_,rv,ha⟩
     · have z':=(if_neg hb).symm.trans z
       cases z'
   · by_cases hb:b=a
     ·exact hb
     ·exact absurd (if_neg hb) z
def walk_of{l:PySem.W.OpenLaw}{n k:Nat}{q:jh}{loose:List Str}{YP:jq->Heap->Prop}{d:DefRec}{K:Params->zn}{CX:jq->CXT}{sp:jq->Sp}{x:Str}
 (hn:l.most=some n) (hn2:n<=zq) (hdf:d.params.defaults= []) (hr:V7 k Xz)
 (hY:∀(w:jq) (h:Heap),YP w h->(K w.params).In h)
 (F:∀(w:jq) (mg:Str->Option zk) (fa:Addr) (h:Heap),(K w.params).In h->h.Ns jF mg->mg d.name=some (.ref fa)->
   ∃fd:xT,(∀(s:zD) (u:zk),YY s fd ⟨[u], []⟩ [(x,u)])/\
    ∀base:Heap,(K w.params).In base->base.Ns jF mg->u3 l.prog w (K w.params) mg base (CX w) k fa fd [x] (sp w))
 (hsp:∀(w:jq) (H:Hp) (a:Addr) (ns:List Int),ns.length<=n->wH H->SqL (K w.params) H a (ns.map V.int)->sp w [.ref a] H (λv _=>v= .bl true) λ_ _ _=>False)
 (hCX:∀(w:jq) (H:Hp) (s:zD) (e:zk) (s':zD),CX w [] H s (λ_ _ _=>False) e s'->False):
 PySem.W.WalkO q loose XP YP l.row.toRowW d [] (λf vs=>PySem.call f vs):=by
 refine Att.attach_call hn hdf λw WX W1 mg mb fa o pm cd doc a vs ns G Y ho hd hcd hmg hobj hints Ei hg=>?_;have KX:=hY w _ Y;obtain⟨fd,hb,hF⟩:=F w mg fa _ KX G.T.g hmg;exact Dh KX G.T.g G.T.b G.T.builtins G.T.nolimit hg hobj hints (zK Ei hn2) hr hF hb (λH hO hS=>hsp w H a ns Ei hO hS) λH e s'=>hCX w H W1 e s'
def CA(s:Stmt):Arguments:=match s with
 | .FunctionDef _ a _ _ _ _ _ _ _ _=>a
 |_=>{posonlyargs:= [],args:= [],vararg:=none,kwonlyargs:= [],kw_defaults:= [],kwarg:=none,defaults:= []}
def C6(s:Stmt):List Stmt:=match s with
 | .FunctionDef _ _ b _ _ _ _ _ _ _=>b
 |_=> []
def K9(s:Stmt):Scope:=match s with
 | .FunctionDef _ _ _ _ _ _ sc _ _ _=>sc
 |_=>{kind:=.function,names:= [],isGenerator:=false,isCoroutine:=false}
abbrev CX0:CXT:=λ_ _ _ _ _ _=>False
abbrev E0:XK:=λ_ _ _=>False
def uK:GH CX0 X E0:=λ_ _ _ _ _ _ _ h=>h.elim
structure Fun(K:zn)(x qual:Str)(st:Stmt)(f:Addr)(fd:xT):Prop where
 ex:∃(oc:zk) (od:Option Addr) (kV doc pm:zk) (an:Option Addr) (Fi ct:zk) (osl:Array (Option zk)),
  fd=yK x qual (CA st) (C6 st) (K9 st) .none kV doc pm an Fi ct/\K.lookup f=some ⟨oc,od,.func fd,osl⟩/\ZC K Fi qual=true
 kp:yD K (.ref f)=true
section
variable{P:jh}{w:jq}{K:zn}{mg:Str->Option zk}{base:Heap}
def Fun.ok{x qual:Str}{st:Stmt}{f:Addr}{k:Nat}{sp:Sp}(F:Fun K x qual st f fd)(S:L7 N ps (K9 st))(len:∀vs H Q E,sp vs H Q E->vs.length=ps.length)
 (hbody:∀(Fi:zk) (A:jC) (outer:List Env) (s:zD) (H:Hp) (vs:List V) (Q:VK) (E:XK),V7 k (A.deeper (Yu qual (K9 st) s.heap.objs.size f Fi))->sp vs H Q E->
   ∃t,PSs (r9 CX0 P w K mg base N qual (K9 st) f Fi A outer s H E).nox (C6 st) t/\t {nx:=λ_ H'=>Q .non H',rt:=Q} (start N vs) H):u3 P w K mg base CX0 (k+1) f fd ps sp:=by
 obtain⟨oc,od,kV,doc,pm,an,Fi,ct,osl,rfl,lk,hcd⟩:=F.ex;refine wy lk hcd S len λA outer s H vs Q E hr hsp=>?_;obtain⟨t,h,q⟩:=hbody Fi A outer s H vs Q E hr hsp;exact⟨t,h.nox,q⟩
def Fun.binds{x qual:Str}{st:Stmt}{f:Addr}(F:Fun K x qual st f fd)
 (h:∀(kV doc pm:zk) (an:Option Addr) (Fi ct:zk) (us:List zk),us.length=ps.length->bindArgs (yK x qual (CA st) (C6 st) (K9 st) .none kV doc pm an Fi ct) ⟨us, []⟩=pure (ps.zip us)):D7 K fd ps []:=by
 obtain⟨oc,od,kV,doc,pm,an,Fi,ct,osl,rfl,lk,hcd⟩:=F.ex;exact .all (h kV doc pm an Fi ct)
def eJ{x qual:Str}{st:Stmt}{f:Addr}{oc:zk}{od an:Option Addr}{kV doc pm Fi ct:zk}(l:K.lookup f=some ⟨oc,od,.func (yK x qual (CA st) (C6 st) (K9 st) .none kV doc pm an Fi ct),osl⟩)
 (c:ZC K Fi qual=true) (k:yD K (.ref f)=true):Fun K x qual st f (yK x qual (CA st) (C6 st) (K9 st) .none kV doc pm an Fi ct):=⟨⟨oc,od,kV,doc,pm,an,Fi,ct,osl,rfl,l,c⟩,k⟩
end
section
variable[DecidableEq κ]
def y4(Eg:List (κ×V))(k:κ):Option V:=(Eg.find? λkv=>decide (kv.1=k)).map (·.2)
def o4(Eg:List (κ×V))(k:κ)(v:V):List (κ×V):=
 if (Eg.any λkv=>decide (kv.1=k))=true then Eg.map (λkv=>if kv.1=k then (kv.1,v)else kv)else Eg++[(k,v)]
def rJ{k:κ}(e:p.1=k):y4 (p::r) k=some p.2:=by simp[y4,yU,e]
def OG{k:κ}(e:¬p.1=k):y4 (p::r) k=y4 r k:=by simp[y4,yU,e]
theorem BR(k:κ):∀Eg:List (κ×V),(Eg.any λkv=>decide (kv.1=k))= (y4 Eg k).isSome
 |[]=>rfl
 |p::r=>by
   rw[yr];by_cases e:p.1=k
   ·simp only[rJ e,decide_eq_true e,Bool.true_or,Option.isSome_some]
   ·rw[OG e,decide_eq_false e,Bool.false_or];exact BR k r
def OR(Eg:List (κ×V))(k:κ)(v:V):(o4 Eg k v).length<=Eg.length+1:=by
 unfold o4;split
 ·rw[zg];lia
 ·rw[zJ,zM,yz];lia
def u8.isSome_eq(r:u8 o u):o.isSome=u.isSome:=by
 cases o with
 |none=>cases u with
   |none=>rfl
   |some _=>exact(show False from r).elim
 |some _=>cases u with
   |none=>exact(show False from r).elim
   |some _=>rfl
def u8.getD(r:u8 o u)(rd:J5 d d'):J5 (o.getD d) (u.getD d'):=by
 cases o with
 |none=>cases u with
   |none=>exact rd
   |some _=>exact(show False from r).elim
 |some _=>cases u with
   |none=>exact(show False from r).elim
   |some _=>exact r
def KV.val(r:KV Eg vs)(k:κ):u8 (y4 Eg k) (valueAt vs k):=by
 unfold KV at r
 induction r with
 |nil=>exact True.intro
 |@cons p q ps qs h t ih=>
   obtain⟨h1,h2⟩:=h;by_cases e:p.1=k
   · have e':q.1=k:=h1.symm.trans e;have b:valueAt (q::qs) k=some q.2:=by simp[valueAt,yU,e']
     rw[rJ e,b];exact h2
   · have e':¬q.1=k:=λz=>e (h1.trans z);have b:valueAt (q::qs) k=valueAt qs k:=by simp[valueAt,yU,e']
     rw[OG e,b];exact ih
def KV.any(r:KV Eg vs)(k:κ):(Eg.any λkv=>decide (kv.1=k))=vs.any λkv=>decide (kv.1=k):=by
 unfold KV at r
 induction r with
 |nil=>rfl
 |cons h t ih=>rw[yr,yr,ih,h.1]
def KV.repl(r:KV Eg vs)(k:κ)(ry:J5 y u):
 KV (Eg.map λkv=>if kv.1=k then (kv.1,y)else kv) (vs.map λkv=>if kv.1=k then (kv.1,u)else kv):=by
 unfold KV at r ⊢
 induction r with
 |nil=>exact .nil
 |@cons p q ps qs h t ih=>
   rw[zO,zO];refine .cons ?_ ih;obtain⟨h1,h2⟩:=h;by_cases e:p.1=k
   ·rw[if_pos e,if_pos (h1.symm.trans e)];exact⟨h1,ry⟩
   ·rw[if_neg e,if_neg (λz=>e (h1.trans z))];exact⟨h1,h2⟩
def KV.put(r:KV Eg vs)(k:κ)(ry:J5 y u):KV (o4 Eg k y) (stored vs k u):=by
 unfold o4 stored;rw[r.any k];by_cases e:(vs.any λkv=>decide (kv.1=k))=true
 ·rw[if_pos e,if_pos e];exact r.repl k ry
 ·rw[if_neg e,if_neg e];exact Paired.snoc r ⟨rfl,ry⟩
def KV.length(r:KV Eg vs):Eg.length=vs.length:=xr r
end
def mC(r:J5 (kV k) u):(M9 P w).is k u=true:=by
 cases k with
 |inl i=>obtain⟨t,e⟩:=(show ∃t,u=Value.int i t from r);subst e;exact rb P w i t
 |inr x=>obtain⟨t,e⟩:=(show ∃t,u=Value.str x t from r);subst e;exact RX P w x t
theorem RU:∀ {ks} {us},u9 (ks.map kV) us->ItemsAre (M9 P w) ks us
 |[],_,r=>by rw[ZI]at r;cases r;exact .nil
 |k::ks,_,r=>by
   rw[zO]at r
   cases r with
   |cons h t=>exact .cons (mC h) (RU t)
abbrev KT(H:Hp):List (List Key×V)->List (List Key×Addr×zk)->Prop:=Paired λp q=>p.1=q.1/\H q.2.1=some (.tup (p.1.map kV))/\J5 p.2 q.2.2
def KT.val{H:Hp}(r:KT H Eg xs)(k:List Key):u8 (y4 Eg k) ((atKey xs k).map (·.2)):=by
 induction r with
 |nil=>exact True.intro
 |@cons p q ps qs h t ih=>
   obtain⟨h1,_,h2⟩:=h;by_cases e:p.1=k
   · have e':q.1=k:=h1.symm.trans e;have b:atKey (q::qs) k=some q.2:=by simp[atKey,yU,e']
     rw[rJ e,b];exact h2
   · have e':¬q.1=k:=λz=>e (h1.trans z);have b:atKey (q::qs) k=atKey qs k:=by simp[atKey,yU,e']
     rw[OG e,b];exact ih
def KT.repl(r:KT H Eg xs)(k:List Key)(ry:J5 y u):
 KT H (Eg.map λkv=>if kv.1=k then (kv.1,y)else kv) (xs.map (putAt k u)):=by
 induction r with
 |nil=>exact .nil
 |@cons p q ps qs h t ih=>
   rw[zO,zO];refine .cons ?_ ih;obtain⟨h1,h2,h3⟩:=h;unfold putAt;by_cases e:p.1=k
   ·rw[if_pos e,if_pos (h1.symm.trans e)];exact⟨h1,h2,ry⟩
   ·rw[if_neg e,if_neg (λz=>e (h1.trans z))];exact⟨h1,h2,h3⟩
def KT.put(r:KT H Eg xs)(k:List Key)(hb:H b=some (.tup (k.map kV)))(ry:J5 y u):
 KT H (o4 Eg k y) (storedH xs k b u):=by
 have e:(Eg.any λkv=>decide (kv.1=k))= (atKey xs k).isSome:=by rw[BR,(r.val k).isSome_eq,ZV]
 unfold o4 storedH;rw[e];by_cases q:(atKey xs k).isSome=true
 ·rw[if_pos q,if_pos q];exact r.repl k ry
 ·rw[if_neg q,if_neg q];exact Paired.snoc r ⟨rfl,hb,ry⟩
def KT.keeps(r:KT H Eg xs)(ht:∀b ys,H b=some (.tup ys)->H' b=some (.tup ys)):KT H' Eg xs:=
 Paired.mapP r λ_ _ z=>⟨z.1,ht _ _ z.2.1,z.2.2⟩
def fM(ok:HOk P w H h)(e:Rd H a u):U5 P w H h a u:=e.ok ok
def GE(ok:HOk P w H h)(e:Rd H a (.dK Eg)):Eg.length<=zq/\(a==yT)=false/\∃vs,KV Eg vs/\h.DictOf (M9 P w) a vs:=
 show U5 P w H h a (.dK Eg)from fM ok e
def aD(ok:HOk P w H h)(e:H a=some (.dK Eg)):Eg.length<=zq/\(a==yT)=false/\∃vs,KV Eg vs/\h.DictOf (M9 P w) a vs:=GE ok (.inl e)
def sE(ok:HOk P w H h)(e:H a=some (.tup (ks.map kV))):(Xw (M9 P w)).is h ks a:=by obtain⟨_,Ef,r,o,h1,h2,n,h3⟩:=(show U5 P w H h a (.tup (ks.map kV))from ok a _ e);exact⟨o,Ef.toArray,n,h1,h2,(xg h3).1,by simpa using RU r⟩
def CH(ok:HOk P w H h)(e:Rd H a (.dT Eg)):Eg.length<=zq/\(a==yT)=false/\
 ∃xs,KT H Eg xs/\h.DictOfH (Xw (M9 P w)) a xs:=by
 obtain⟨z,y,xs,r,o,es,ep,h1,h2,h3,h4,h5⟩:=(show U5 P w H h a (.dT Eg)from fM ok e);refine⟨z,y,xs,r,o,es,ep,h1,h2,h3,h4,λx hx=>?_,h5⟩;have all:∀ {l:List (List Key×V)} {m:List (List Key×Addr×zk)},KT H l m->∀x∈m,(Xw (M9 P w)).is h x.1 x.2.1:=by
  intro l m q
  induction q with
  |nil=>intro x hx;exact nomatch hx
  |@cons p q ps qs hq t ih=>
    intro x hx;rcases zy.mp hx with e|hx
    ·subst e;exact sE ok (by rw[<-hq.1];exact hq.2.1)
    ·exact ih x hx
 exact all r x hx
def mo(ok:HOk P w H h)(e:H a=some (.dT Eg)):Eg.length<=zq/\(a==yT)=false/\
 ∃xs,KT H Eg xs/\h.DictOfH (Xw (M9 P w)) a xs:=CH ok (.inl e)
def kB(H:Hp)(a:Addr)(y:V)(r:Option V):Prop:=
 (∃Eg k,Rd H a (.dK Eg)/\y=kV k/\r=y4 Eg k)\/∃Eg k b,Rd H a (.dT Eg)/\y= .ref b/\H b=some (.tup (k.map kV))/\r=y4 Eg k
def MH(H:Hp)(a:Addr)(y v:V)(H':Hp):Prop:=
 (∃Eg k,H a=some (.dK Eg)/\y=kV k/\Eg.length<zq/\H'=upd H a (.dK (o4 Eg k v)))\/
 ∃Eg k b,H a=some (.dT Eg)/\y= .ref b/\H b=some (.tup (k.map kV))/\Eg.length<zq/\H'=upd H a (.dT (o4 Eg k v))
def kB.k{k:Key}(e:H a=some (.dK Eg)):kB H a (kV k) (y4 Eg k):=.inl ⟨Eg,k,.inl e,rfl,rfl⟩
def MH.k{k:Key}(e:H a=some (.dK Eg))(hl:Eg.length<zq):MH H a (kV k) v (upd H a (.dK (o4 Eg k v))):=.inl ⟨Eg,k,e,rfl,hl,rfl⟩
def Inv.big(I:Inv X Ee σ H s):yT<s.heap.objs.size:=by have h:jF<s.heap.objs.size:=(I.mod.glob.keeps I.bk).lt;exact Zl (by decide) h
def Fz(hu:A.units+1<xq)(I:Inv X Ee σ H s)(g:kB H a y o)(ry:J5 y u)(h:∀s',Inv X Ee σ H s'->Q (.bool o.isSome) s'):
 zw (zG X.prog X.w) A (zZ .In u (.ref a)) Q E s:=by
 rcases g with⟨Eg,k,e,ey,l⟩|⟨Eg,k,b,e,ey,eb,l⟩
 ·subst ey;obtain⟨z,hd,vs,rel,dd⟩:=GE I.hok e;refine wpAny_in_of (mC ry) hd dd.mapOf ?_;rw[<-(rel.val k).isSome_eq,<-l];exact h _ (I.tok _)
 · subst ey
   cases (show u=Value.ref b from ry)
   obtain⟨z,hd,xs,rel,dd⟩:=CH I.hok e;refine wpAny_in_heap (Yb hu) (sE I.hok eb) hd dd ?_;have q:=(rel.val k).isSome_eq;rw[ZV]at q;rw[<-q,<-l];exact h _ (I.tok _)
def mW(hu:A.units+1<xq)(I:Inv X Ee σ H s)(g:kB H a y o)(ry:J5 y u)(h:∀s',Inv X Ee σ H s'->Q (.bool (!o.isSome)) s'):
 zw (zG X.prog X.w) A (zZ .NotIn u (.ref a)) Q E s:=by
 rcases g with⟨Eg,k,e,ey,l⟩|⟨Eg,k,b,e,ey,eb,l⟩
 ·subst ey;obtain⟨z,hd,vs,rel,dd⟩:=GE I.hok e;refine wpAny_notIn_of (mC ry) hd dd.mapOf ?_;rw[<-(rel.val k).isSome_eq,<-l];exact h _ (I.tok _)
 · subst ey
   cases (show u=Value.ref b from ry)
   obtain⟨z,hd,xs,rel,dd⟩:=CH I.hok e;refine wpAny_notIn_heap (Yb hu) (sE I.hok eb) hd dd ?_;have q:=(rel.val k).isSome_eq;rw[ZV]at q;rw[<-q,<-l];exact h _ (I.tok _)
def QN(I:Inv X Ee σ H s)(mu:Mut (H a))(hs:jy a s.heap h')(he:∃q,h'.get? a=some q)(new:U5 X.prog X.w (upd H a ob) h' a ob):
 Inv X Ee σ (upd H a ob) {s with heap:=h',toks:=t'}:=
 I.write mu (.inl rfl) (λb q hb z=>(hs.2 b hb).trans z) he new
def vQ(z:Eg.length<=zq)(hd:(a==yT)=false)(rel:KV Eg vs)(dd:h'.DictOf (M9 P w) a vs):
 U5 P w H' h' a (.dK Eg):=⟨z,hd,vs,rel,dd⟩
def Cr(hu:A.units+1<xq)(I:Inv X Ee σ H s)(g:MH H a y v H')(ry:J5 y u)(rv:J5 v r)(h:∀s',Inv X Ee σ H' s'->Q () s'):
 zw (zG X.prog X.w) A (setItem (.ref a) u r) Q E s:=by
 rcases g with⟨Eg,k,e,ey,l,eH⟩|⟨Eg,k,b,e,ey,eb,l,eH⟩
 · subst ey eH;obtain⟨z,hd,vs,rel,dd⟩:=aD I.hok e;have hz:vs.length<=zq:=by rw[<-rel.length];exact z
   have hl:(o4 Eg k v).length<=zq:=by have:=OR Eg k v;lia
   refine wpAny_setItem_pairs (mC ry) dd λh' dd' hs=>h _ ?_;have he:∃q,h'.get? a=some q:=let ⟨q,_,_,hq,_⟩:=dd';⟨q,hq⟩;exact QN I (by rw[e];exact True.intro) hs he (vQ hl hd (rel.put k rv) dd')
 · subst ey eH
   cases (show u=Value.ref b from ry)
   obtain⟨z,hd,xs,rel,dd⟩:=mo I.hok e;have hz:xs.length<=zq:=by rw[<-xr rel];exact z
   have hl:(o4 Eg k v).length<=zq:=by have:=OR Eg k v;lia
   refine wpAny_setItem_heap (Yb hu) (sE I.hok eb) dd λh' dd' hs=>h _ ?_;obtain⟨q,es,ep,hq,h2,h3,h4,_,h5⟩:=dd';refine QN I (by rw[e];exact True.intro) hs ⟨q,hq⟩ ⟨hl,hd,_,(rel.put k eb rv).keeps λc ys ec=>?_,q,es,ep,hq,h2,h3,h4,h5⟩;rw[J0 (Wf ec e (λz=>nomatch z))];exact ec
def im(I:Inv X Ee σ H s)(e:Rd H a (.dK Eg))(h:∀t s',Inv X Ee σ H s'->Q (.int Eg.length t) s'):zw (zG X.prog X.w) A (call (.builtin "len") [.ref a]) Q E s:=by obtain⟨z,hd,vs,rel,dd⟩:=GE I.hok e;refine call_len_dict hd dd (by rw[<-rel.length];rw[yR]at z;lia) ?_;rw[<-rel.length];exact h _ _ (I.tok _)
def bp(h:Heap)(hb:yT<h.objs.size):U5 P w H (h.push {cls:=.type "dict",data:=.dict #[]}) h.objs.size (.dK []):=
 ⟨zY _,beq_eq_false_iff_ne.mpr (Ne.symm (zE hb)), [],.nil,Heap.DictOf.new h⟩
def OZ:TE:=λ_ H Q=>∀p,H p=none->Q (.ref p) (upd H p (.dK []))
def De:PE X (.Dict [] [] pos) OZ:=λEe s σ H Q I h=>
 wpAny_Dict_empty ⟨.ref s.heap.objs.size,_,I.laid (λ_ _ q=>zh _ q) (zp _) (bp s.heap I.big),rfl,h _ (I.hok.fresh (zp _))⟩
structure M1(X:Cx)(o:Expr)(m:Str)(Ez:Pos)(e:Expr)(Em:Pos):Prop where
 base:xG o m X.env (eval o X.env)=eval o X.env
 few:((xi Em (zW [e] X.env)).all (λx=> !x.1)&&(Jl Em (Yl [] X.env)).all (λx=>x.1.isSome)
  && decide (([e]:List Expr).length+([]:List Keyword).length+(if ([]:List Keyword).isEmpty then 0 else 1)<30))=true
 line:(Ez.endLine==Em.line)=true
 trees:xi Em (zW [e] X.env)= [(false,eval e X.env)]
structure M2(X:Cx)(o:Expr)(m:Str)(Ez:Pos)(e f:Expr)(Em:Pos):Prop where
 base:xG o m X.env (eval o X.env)=eval o X.env
 few:((xi Em (zW [e,f] X.env)).all (λx=> !x.1)&&(Jl Em (Yl [] X.env)).all (λx=>x.1.isSome)
  && decide (([e,f]:List Expr).length+([]:List Keyword).length+(if ([]:List Keyword).isEmpty then 0 else 1)<30))=true
 line:(Ez.endLine==Em.line)=true
 trees:xi Em (zW [e,f] X.env)= [(false,eval e X.env),(false,eval f X.env)]
def uf(hu:A.units+1<xq)(I:Inv X Ee σ H s)(g:kB H a y o)(ry:J5 y u)(rd:J5 d r)(h:∀w' s',Inv X Ee σ H s'->J5 (o.getD d) w'->Q w' s'):
 zw (zG X.prog X.w) A (call (.builtin "dict.get") [.ref a,u,r]) Q E s:=by
 rcases g with⟨Eg,k,e,ey,l⟩|⟨Eg,k,b,e,ey,eb,l⟩
 ·subst ey;obtain⟨z,hd,vs,rel,dd⟩:=GE I.hok e;refine call_meetsIn Yk dd.typeIs JP (Jx _ _ _) (meets_dict_get_default (M9 X.prog X.w) a (mC ry) hd r) ⟨_,dd.mapOf,h _ _ (I.tok _) ?_⟩;rw[l];exact(rel.val k).getD rd
 · subst ey
   cases (show u=Value.ref b from ry)
   obtain⟨z,hd,xs,rel,dd⟩:=CH I.hok e;refine call_meetsIn Yk dd.typeIs JP (Jx _ _ _) (meetsH_dict_get_default (Xw (M9 X.prog X.w)) a b hd r) ⟨Yb hu,k,xs,sE I.hok eb,dd,h _ _ (I.tok _) ?_⟩;rw[l];exact(rel.val k).getD rd
def pz:v3 X (.builtin "len") (λxs H Q=>∃a Eg,xs= [V.ref a]/\H a=some (.dK Eg)/\Q (.int Eg.length) H):=by
 intro Ee s σ H xs us Q I r h;obtain⟨a,Eg,rfl,ha,q⟩:=h;obtain⟨u,rfl,ru⟩:=S3 r
 cases ru
 exact im I (.inl ha) λt s' I'=>⟨.int Eg.length,H,I',⟨t,rfl⟩,q⟩
section
variable[DecidableEq κ]
end
end L2
namespace DL
open PySem PySem.Spec L2
open PyProof.Rows hiding St
inductive D where
 |non|bl (b:Bool)|int (i:Int)|str (x:Str)|tup (l:List D)|ref (i:Nat)|fn (x:Str)|ty (n:String)
inductive DO where
 |lst (l:List D)|rol (l:List D)|dct (l:List (Key×D))|rod (l:List (Key×D))
abbrev DH:=List DO
abbrev DPP:=D->DH->Prop
abbrev DSt:=List (Option D)
structure Wc where
 K:zn
 mg:Str->Option zk
abbrev wc(X:Cx):Wc:=⟨X.K,X.mg⟩
mutual
def d8(c:Wc)(μ:List Addr)(H:Hp):D->V->Prop
 | .non,v=>v= .non
 | .bl b,v=>v= .bl b
 | .int i,v=>v= .int i
 | .str x,v=>v= .str x
 | .ty n,v=>v= .ty n
 | .fn x,v=>∃a,c.mg x=some (.ref a)/\v= .ref a
 | .ref i,v=>∃a,μ[i]? =some a/\v= .ref a
 | .tup l,v=>∃a vs,v= .ref a/\SqT c.K H a vs/\m9 c μ H l vs
def m9(c:Wc)(μ:List Addr)(H:Hp):List D->List V->Prop
 |[],vs=>vs= []
 |d::ds,vs=>∃v r,vs=v::r/\d8 c μ H d v/\m9 c μ H ds r
end
def Z6(c:Wc)(μ:List Addr)(H:Hp):List (Key×D)->List (Key×V)->Prop
 |[],Eg=>Eg= []
 |(k,d)::r,Eg=>∃v t,Eg= (k,v)::t/\d8 c μ H d v/\Z6 c μ H r t
structure Ext(μ:List Addr)(H:Hp)(X2:List Addr)(H':Hp):Prop where
 pre:μ <+:X2
 new:∀a∈X2,a∉μ->H a=none
 oth:∀b o,H b=some o->b∉μ->H' b=some o
 tup:∀b xs,H b=some (.tup xs)->H' b=some (.tup xs)
 frz:∀b o u,H b=some (.frz o u)->H' b=some (.frz o u)
def Ext.refl(μ:List Addr)(H:Hp):Ext μ H μ H:=⟨XV _,λa h n=>absurd h n,λ_ _ h _=>h,λ_ _ h=>h,λ_ _ _ h=>h⟩
def Ext.trans(a:Ext μ H X0 H1)(b:Ext X0 H1 WY H2):Ext μ H WY H2 where
 pre:=a.pre.trans b.pre
 new:=λx h n=>by
  by_cases h1:x∈X0
  ·exact a.new x h1 n
  · have e1:=b.new x h h1;rcases e:H x with _|o
    ·rfl
    ·rw[a.oth x o e n]at e1;exact oG e1
 oth:=λx o e n=>by refine b.oth x o (a.oth x o e n) λh1=>?_;have:=a.new x h1 n;rw[e]at this;exact oG this
 tup:=λx xs e=>b.tup x xs (a.tup x xs e)
 frz:=λx o u e=>b.frz x o u (a.frz x o u e)
def Ext.lay(h:H p=none)(o:HO):Ext μ H μ (upd H p o):=
 ⟨XV _,λa h n=>absurd h n,λb o' q _=>by rw[J0 (J1 q h)];exact q,λb xs q=>by rw[J0 (J1 q h)];exact q,λb o' u q=>by rw[J0 (J1 q h)];exact q⟩
def Ext.add(h:H p=none)(o:HO):Ext μ H (μ++[p]) (upd H p o):=
 ⟨List.prefix_append _ _,λa ha n=>by
  rcases jd.mp ha with z|z
  ·exact absurd z n
  ·rw[zB.mp z];exact h,λb o' q _=>by rw[J0 (J1 q h)];exact q,λb xs q=>by rw[J0 (J1 q h)];exact q,λb o' u q=>by rw[J0 (J1 q h)];exact q⟩
def Ext.mut(hp:p∈μ)(h:H p=some o')(n1:∀xs,o'≠ .tup xs)(n2:∀o u,o'≠ .frz o u)(o:HO):Ext μ H μ (upd H p o):=
 ⟨XV _,λa h n=>absurd h n,λb o2 q n=>by rw[J0 (λe=>n (by rw[e];exact hp))];exact q,λb xs q=>by
  rw[J0 (λe=>by subst e;rw[h]at q;cases q;exact n1 _ rfl)];exact q,
  λb oo u q=>by rw[J0 (λe=>by subst e;rw[h]at q;cases q;exact n2 _ _ rfl)];exact q⟩
def Ext.sqT{K:zn}(k:Ext μ H X2 H')(h:SqT K H a xs):SqT K H' a xs:=by
 rcases h with(h|⟨o,h⟩)|h
 ·exact .inl (.inl (k.tup _ _ h))
 ·exact .inl (.inr ⟨o,k.frz _ _ _ h⟩)
 ·exact .inr h
def RoL(K:zn)(H:Hp)(a:Addr)(xs:List V):Prop:=(∃o,H a=some (.frz o (.lst xs)))\/(SqL K (λ_=>none) a xs)
def kX{K:zn}(h:SqL K (λ_=>none) a xs):SqL K H a xs:=by
 rcases h with(h|⟨o,h⟩)|h
 ·exact J4 h
 ·exact J4 h
 ·exact .inr h
def RoL.sq{K:zn}(h:RoL K H a xs):SqL K H a xs:=by
 rcases h with⟨o,h⟩|h
 ·exact .inl (.inr ⟨o,h⟩)
 ·exact kX h
def Ext.roL{K:zn}(k:Ext μ H X2 H')(h:RoL K H a xs):RoL K H' a xs:=by
 rcases h with⟨o,h⟩|h
 ·exact .inl ⟨o,k.frz _ _ _ h⟩
 ·exact .inr h
section
variable{μ X2:List Addr}
def rM(h:μ <+:X2){i:Nat}(e:μ[i]? =some a):X2[i]? =some a:=by
 obtain⟨t,rfl⟩:=h;have:i<μ.length:=by
  rcases Zm i μ.length with q|q
  ·exact q
  ·rw[zT q]at e;exact J4 e
 rw[zQ this];exact e
mutual
theorem d8.mono(x:Ext μ H X2 H'):∀ {d} {v},d8 c μ H d v->d8 c X2 H' d v
 | .non,_,h=>h
 | .bl _,_,h=>h
 | .int _,_,h=>h
 | .str _,_,h=>h
 | .ty _,_,h=>h
 | .fn _,_,h=>h
 | .ref i,v,h=>by unfold d8 at h ⊢;obtain⟨a,e,r⟩:=h;exact⟨a,rM x.pre e,r⟩
 | .tup l,v,h=>by unfold d8 at h ⊢;obtain⟨a,vs,e,q,r⟩:=h;exact⟨a,vs,e,x.sqT q,m9.mono x r⟩
theorem m9.mono(x:Ext μ H X2 H'):∀ {l} {vs},m9 c μ H l vs->m9 c X2 H' l vs
 |[],_,h=>h
 |d::ds,vs,h=>by unfold m9 at h ⊢;obtain⟨v,r,e,q,t⟩:=h;exact⟨v,r,e,d8.mono x q,m9.mono x t⟩
end
theorem Z6.mono(x:Ext μ H X2 H'):∀ {l} {vs},Z6 c μ H l vs->Z6 c X2 H' l vs
 |[],_,h=>h
 |(_,d)::ds,vs,h=>by obtain⟨v,r,e,q,t⟩:=h;exact⟨v,r,e,d8.mono x q,Z6.mono x t⟩
def m9.nil:m9 c μ H [] []:=rfl
def m9.cons(h:d8 c μ H d v)(t:m9 c μ H ds vs):m9 c μ H (d::ds) (v::vs):=⟨v,vs,rfl,h,t⟩
theorem m9.length:∀ {l} {vs},m9 c μ H l vs->l.length=vs.length
 |[],_,h=>by cases h;rfl
 |_::_,_,h=>by obtain⟨v,r,rfl,_,t⟩:=h;simp[m9.length t]
theorem m9.get:∀ {l} {vs} {i:Nat} {d},m9 c μ H l vs->l[i]? =some d->∃v,vs[i]? =some v/\d8 c μ H d v
 |[],_,_,_,_,e=>by simp at e
 |_::_,_,0,_,h,e=>by obtain⟨v,r,rfl,q,t⟩:=h;simp at e;subst e;exact⟨v,rfl,q⟩
 |_::_,_,i+1,_,h,e=>by obtain⟨v,r,rfl,q,t⟩:=h;simp at e;obtain⟨w,h1,h2⟩:=m9.get t e;exact⟨w,by simpa using h1,h2⟩
theorem m9.append:∀ {l l'} {vs Ft},m9 c μ H l vs->m9 c μ H l' Ft->m9 c μ H (l++l') (vs++Ft)
 |[],_,_,_,h,t=>by cases h;exact t
 |_::_,_,_,_,h,t=>by obtain⟨v,r,rfl,q,u⟩:=h;exact⟨v,r++_,rfl,q,m9.append u t⟩
theorem m9.take:∀n {l} {vs},m9 c μ H l vs->m9 c μ H (l.take n) (vs.take n)
 |0,_,_,_=>rfl
 |_+1, [],_,h=>by cases h;rfl
 |n+1,_::_,_,h=>by obtain⟨v,r,rfl,q,u⟩:=h;exact⟨v,r.take n,rfl,q,m9.take n u⟩
theorem m9.drop:∀n {l} {vs},m9 c μ H l vs->m9 c μ H (l.drop n) (vs.drop n)
 |0,_,_,h=>h
 |_+1, [],_,h=>by cases h;rfl
 |n+1,_::_,_,h=>by obtain⟨v,r,rfl,q,u⟩:=h;exact m9.drop n u
theorem m9.set(hv:d8 c μ H d v):∀n {l} {vs},m9 c μ H l vs->m9 c μ H (l.set n d) (vs.set n v)
 |_, [],_,h=>by cases h;rfl
 |0,_::_,_,h=>by obtain⟨w,r,rfl,q,u⟩:=h;exact⟨v,r,rfl,hv,u⟩
 |n+1,_::_,_,h=>by obtain⟨w,r,rfl,q,u⟩:=h;exact⟨w,r.set n v,rfl,q,m9.set hv n u⟩
theorem m9.reverse:∀ {l} {vs},m9 c μ H l vs->m9 c μ H l.reverse vs.reverse
 |[],_,h=>by cases h;rfl
 |_::_,_,h=>by obtain⟨w,r,rfl,q,u⟩:=h;simp only[XG];exact m9.append (m9.reverse u) ⟨w, [],rfl,q,rfl⟩
def m9.dropLast(h:m9 c μ H l vs):m9 c μ H l.dropLast vs.dropLast:=by rw[List.dropLast_eq_take,List.dropLast_eq_take,h.length];exact h.take _
def E6:Option DO->Prop
 |some (.rol _)=>True
 |some (.rod _)=>True
 |_=>False
def t9(c:Wc)(μ:List Addr)(H:Hp)(a:Addr):DO->Prop
 | .lst l=>∃vs,H a=some (.lst vs)/\m9 c μ H l vs
 | .rol l=>∃vs,RoL c.K H a vs/\m9 c μ H l vs
 | .dct l=>∃Eg,H a=some (.dK Eg)/\Z6 c μ H l Eg
 | .rod l=>∃Eg o,H a=some (.frz o (.dK Eg))/\Z6 c μ H l Eg
structure v6(c:Wc)(μ:List Addr)(G:DH)(H:Hp):Prop where
 len:μ.length=G.length
 inj:∀(i j:Nat) (a:Addr),μ[i]? =some a->μ[j]? =some a->i=j\/E6 G[i]? \/E6 G[j]?
 obj:∀(i:Nat) (o:DO) (a:Addr),G[i]? =some o->μ[i]? =some a->t9 c μ H a o
def lt_of_get{α:Type}{l:List α}{x:α}(e:l[i]? =some x):i<l.length:=by
 rcases Zm i l.length with q|q
 ·exact q
 ·rw[zT q]at e;exact J4 e
def t9.mono(x:Ext μ H X2 H')(h:t9 c μ H a o)(e:H' a=H a\/E6 (some o)):t9 c X2 H' a o:=by
 rcases o with l|l|l|l
 ·
   obtain⟨vs,q,r⟩:=h;rcases e with e|e
   ·exact⟨vs,e.trans q,r.mono x⟩
   ·exact e.elim
 ·obtain⟨vs,q,r⟩:=h;exact⟨vs,x.roL q,r.mono x⟩
 ·
   obtain⟨vs,q,r⟩:=h;rcases e with e|e
   ·exact⟨vs,e.trans q,r.mono x⟩
   ·exact e.elim
 ·obtain⟨vs,o,q,r⟩:=h;exact⟨vs,o,x.frz _ _ _ q,r.mono x⟩
def t9.some_of(h:t9 c μ H a o)(n:¬E6 (some o)):∃u,H a=some u/\(∀xs,u≠ .tup xs)/\∀o' u',u≠ .frz o' u':=by
 rcases o with l|l|l|l
 ·obtain⟨vs,q,_⟩:=h;exact⟨_,q,(λ_ z=>nomatch z),(λ_ _ z=>nomatch z)⟩
 ·exact(n trivial).elim
 ·obtain⟨vs,q,_⟩:=h;exact⟨_,q,(λ_ z=>nomatch z),(λ_ _ z=>nomatch z)⟩
 ·exact(n trivial).elim
def v6.same(h:v6 c μ G H)(k:Ext μ H μ H')(e:∀a o,H a=some o->(∀xs,o≠ .tup xs)->H' a=some o):v6 c μ G H':=
 ⟨h.len,h.inj,λi o a g m=>by
  have q:=h.obj i o a g m;by_cases hr:E6 (some o)
  ·exact q.mono k (.inr hr)
  ·obtain⟨u,e1,n1,n2⟩:=q.some_of hr;exact q.mono k (.inl ((e a u e1 n1).trans e1.symm))⟩
def v6.new{p:Addr}(h:v6 c μ G H)(hp:H p=none)(ho:t9 c (μ++[p]) (upd H p u) p o):v6 c (μ++[p]) (G++[o]) (upd H p u):=by
 have k:Ext μ H (μ++[p]) (upd H p u):=Ext.add hp u;have old:∀(i:Nat) (a:Addr),i<μ.length->(μ++[p])[i]? =some a->μ[i]? =some a:=λi a hi e=>by rw[zQ hi]at e;exact e
 refine⟨by simp[h.len],λi j a ei ej=>?_,λi o' a g m=>?_⟩
 · have li:=lt_of_get ei;have lj:=lt_of_get ej;simp only[zJ,jI]at li lj;by_cases hi:i<μ.length
   · have mi:=old i a hi ei;have gi:(G++[o])[i]? =G[i]? :=zQ (by rw[<-h.len];exact hi);by_cases hj:j<μ.length
     ·have mj:=old j a hj ej;have gj:(G++[o])[j]? =G[j]? :=zQ (by rw[<-h.len];exact hj);rw[gi,gj];exact h.inj i j a mi mj
     · -- j is the new one:a=p
       have ej':j=μ.length:=by lia
       subst ej';have ea:a=p:=by simpa using ej.symm
       subst ea;right;left;rw[gi];have hg:i<G.length:=by rw[<-h.len];exact hi
       have q:=h.obj i G[i] a (zj hg) mi;rw[zj hg];refine js λn=>?_;obtain⟨u',e1,_⟩:=q.some_of n;rw[hp]at e1;exact J4 e1
   · have ei':i=μ.length:=by lia
     by_cases hj:j<μ.length
     · have mj:=old j a hj ej;have gj:(G++[o])[j]? =G[j]? :=zQ (by rw[<-h.len];exact hj);subst ei';have ea:a=p:=by simpa using ei.symm
       subst ea;right;right;rw[gj];have hg:j<G.length:=by rw[<-h.len];exact hj
       have q:=h.obj j G[j] a (zj hg) mj;rw[zj hg];refine js λn=>?_;obtain⟨u',e1,_⟩:=q.some_of n;rw[hp]at e1;exact J4 e1
     ·left;lia
 · have li:=lt_of_get m;simp only[zJ,jI]at li;by_cases hi:i<μ.length
   · have mi:=old i a hi m;rw[zQ (by rw[<-h.len];exact hi)]at g;have q:=h.obj i o' a g mi;by_cases hr:E6 (some o')
     ·exact q.mono k (.inr hr)
     ·obtain⟨u',e1,_⟩:=q.some_of hr;exact q.mono k (.inl (J0 (J1 e1 hp)))
   · have ei':i=μ.length:=by lia
     subst ei';have ea:a=p:=by simpa using m.symm
     subst ea;rw[h.len]at g;have eo:o'=o:=by simpa using g.symm
     subst eo;exact ho
def v6.set{o o':DO}{u:HO}(h:v6 c μ G H)(g:G[i]? =some o)(n:¬E6 (some o))(m:μ[i]? =some a)(k:Ext μ H μ (upd H a u))(n':¬E6 (some o'))(ho:t9 c μ (upd H a u) a o'):v6 c μ (G.set i o') (upd H a u):=by
 have hi:i<G.length:=lt_of_get g;have get:∀j,(G.set i o')[j]? =if i=j then some o' else G[j]? :=λj=>by
  rw[XH];by_cases e:i=j
  ·subst e;simp[hi]
  ·simp[e]
 refine⟨by simp[h.len],λj l b ej el=>?_,λj o2 b gj mj=>?_⟩
 · rcases h.inj j l b ej el with e|e|e
   ·exact .inl e
   · by_cases ij:i=j
     ·subst ij;rw[g]at e;exact(n e).elim
     ·right;left;rw[get,if_neg ij];exact e
   · by_cases ij:i=l
     ·subst ij;rw[g]at e;exact(n e).elim
     ·right;right;rw[get,if_neg ij];exact e
 · rw[get]at gj;by_cases ij:i=j
   · subst ij;rw[if_pos rfl]at gj
     cases gj
     rw[m]at mj
     cases mj
     exact ho
   · rw[if_neg ij]at gj;have q:=h.obj j o2 b gj mj;by_cases hr:E6 (some o2)
     ·exact q.mono k (.inr hr)
     · have nb:b≠a:=λe=>by
        subst e;rcases h.inj i j b m mj with e|e|e
        ·exact ij e
        ·rw[g]at e;exact n e
        ·rw[gj]at e;exact hr e
       exact q.mono k (.inl (J0 nb))
def K5(c:Wc)(μ:List Addr)(H:Hp)(X9:DSt)(σ:St):Prop:=X9.length=σ.length/\∀(i:Nat) (d:D),X9[i]? =some (some d)->∃v,σ[i]? =some (some v)/\d8 c μ H d v
def K5.mono(x:Ext μ H X2 H')(h:K5 c μ H X9 σ):K5 c X2 H' X9 σ:=
 ⟨h.1,λi d e=>let ⟨v,a,b⟩:=h.2 i d e;⟨v,a,b.mono x⟩⟩
def K5.put(h:K5 c μ H X9 σ)(r:d8 c μ H d v)(i:Nat):K5 c μ H (X9.set i (some d)) (σ.set i (some v)):=by
 refine⟨by simp[h.1],λj d' e=>?_⟩;rw[XH]at e ⊢;by_cases ij:i=j
 · subst ij;rw[if_pos rfl]at e ⊢;rw[<-h.1];split at e
   · rename_i hl;rw[if_pos hl]
     cases e
     exact⟨v,rfl,r⟩
   ·exact J4 e
 ·rw[if_neg ij]at e ⊢;exact h.2 j d' e
end
def M(α:Type):=DH->Option (Except Str α×DH)
namespace M
def pure{α:Type}(a:α):M α:=λG=>some (.ok a,G)
def bind{α β:Type}(m:M α)(f:α->M β):M β:=λG=>match m G with
 |none=>none
 |some (.ok a,G1)=>f a G1
 |some (.error x,G1)=>some (.error x,G1)
def stuck{α:Type}:M α:=λ_=>none
end M
instance:Monad M:={pure:=M.pure,bind:=M.bind}
def M.bind_eq(m:M α)(f:α->M β)(G:DH):(m >>= f) G=match m G with
 |none=>none
 |some (.ok a,G1)=>f a G1
 |some (.error x,G1)=>some (.error x,G1):=rfl
def M.bind_ok{f:α->M β}(h:m G=some (.ok a,G1)):(m >>= f) G=f a G1:=by rw[M.bind_eq,h]
def M.bind_assoc(m:M α)(f:α->M β)(g:β->M γ):((m >>= f) >>= g)= (m >>= λa=>f a >>= g):=by
 funext G;simp only[M.bind_eq];rcases m G with _|p
 ·rfl
 ·obtain⟨r,G1⟩:=p;cases r<;>rfl
abbrev XC:=Str->List Addr->DH->Hp->Prop
def ZF:XC:=λ_ _ _ _=>False
def c7{α:Type}(c:Wc)(Z:XC)(μ:List Addr)(H:Hp)(r:Option (Except Str α×DH))(K:α->List Addr->DH->Hp->Prop):Prop:=
 match r with
 |none=>False
 |some (.ok a,G')=>∀ X2 H',Ext μ H X2 H'->v6 c X2 G' H'->K a X2 G' H'
 |some (.error x,G')=>∀ X2 H',Ext μ H X2 H'->v6 c X2 G' H'->Z x X2 G' H'
def c7.mono{K K':α->List Addr->DH->Hp->Prop}(h:c7 c Z μ H r K)
 (k:∀a X2 G' H',Ext μ H X2 H'->v6 c X2 G' H'->K a X2 G' H'->K' a X2 G' H'):c7 c Z μ H r K':=by
 match r,h with
 |some (.ok a,G'),h=>exact λX2 H' p e=>k a X2 G' H' p e (h X2 H' p e)
 |some (.error x,G'),h=>exact h
def c7.from{K:α->List Addr->DH->Hp->Prop}(h:c7 c Z μ H r K)(p:Ext μ H X2 H'):c7 c Z X2 H' r K:=by
 match r,h with
 |some (.ok a,G'),h=>exact λWY H2 p2 e=>h WY H2 (p.trans p2) e
 |some (.error x,G'),h=>exact λWY H2 p2 e=>h WY H2 (p.trans p2) e
def c7.bind{m:M α}{K:β->List Addr->DH->Hp->Prop}(h:c7 c Z μ H ((m >>= f) G) K):
 c7 c Z μ H (m G) (λa X2 G' H'=>c7 c Z X2 H' (f a G') K):=by
 rw[M.bind_eq]at h
 match m G,h with
 |some (.ok a,G'),h=>exact λX2 H' p e=>c7.from h p
 |some (.error x,G'),h=>exact h
def c7.ok{K:α->List Addr->DH->Hp->Prop}(h:c7 c Z μ H (some (.ok a,G)) K)(e:v6 c μ G H):K a μ G H:=h μ H (Ext.refl _ _) e
inductive Fl where
 |nx (σ:DSt)|rt (d:D)|bk (σ:DSt)|ct (σ:DSt)
section
variable(c:Wc)(Z:XC)
def P7(f:DSt->M D):TE:=λσ H Q=>∃X9 μ G,K5 c μ H X9 σ/\v6 c μ G H/\c7 c Z μ H (f X9 G) λd X2 _ H'=>∀v,d8 c X2 H' d v->Q v H'
def OB(f:DSt->M Bool):TT:=λσ H Q=>∃X9 μ G,K5 c μ H X9 σ/\v6 c μ G H/\c7 c Z μ H (f X9 G) λb X2 _ H'=>Q b H'
def tF(f:DSt->M (List D)):TA:=λσ H Q=>∃X9 μ G,K5 c μ H X9 σ/\v6 c μ G H/\c7 c Z μ H (f X9 G) λds X2 _ H'=>∀vs,m9 c X2 H' ds vs->Q vs H'
def FC(E:LA)(fl:Fl)(μ:List Addr)(H:Hp):Prop:=match fl with
 | .nx X9=>∀ σ,K5 c μ H X9 σ->E.nx σ H
 | .rt d=>∀v,d8 c μ H d v->E.rt v H
 | .bk X9=>∀ σ,K5 c μ H X9 σ->E.bk σ H
 | .ct X9=>∀ σ,K5 c μ H X9 σ->E.ct σ H
def iC(f:DSt->M Fl):TS:=λE σ H=>∃X9 μ G,K5 c μ H X9 σ/\v6 c μ G H/\c7 c Z μ H (f X9 G) λfl X2 _ H'=>FC c E fl X2 H'
end
def P7.elim{P:Prop}{H:Hp}{Q:VK}(h:P7 c Z f σ H Q)(k:∀X9 μ G,K5 c μ H X9 σ->v6 c μ G H->c7 c Z μ H (f X9 G) (λd X2 _ H'=>∀v,d8 c X2 H' d v->Q v H')->P):P:=by obtain⟨e0,e1,e2,e3,e4,e5⟩:=h;exact k e0 e1 e2 e3 e4 e5
def OB.elim{P:Prop}{σ:St}{H:Hp}(h:OB c Z f σ H Q)(k:∀X9 μ G,K5 c μ H X9 σ->v6 c μ G H->c7 c Z μ H (f X9 G) (λb X2 _ H'=>Q b H')->P):P:=by obtain⟨e0,e1,e2,e3,e4,e5⟩:=h;exact k e0 e1 e2 e3 e4 e5
def tF.elim{P:Prop}{σ:St}{H:Hp}(h:tF c Z f σ H Q)(k:∀X9 μ G,K5 c μ H X9 σ->v6 c μ G H->c7 c Z μ H (f X9 G) (λds X2 _ H'=>∀vs,m9 c X2 H' ds vs->Q vs H')->P):P:=by obtain⟨e0,e1,e2,e3,e4,e5⟩:=h;exact k e0 e1 e2 e3 e4 e5
def iC.elim{P:Prop}{σ:St}{H:Hp}(h:iC c Z f E σ H)(k:∀X9 μ G,K5 c μ H X9 σ->v6 c μ G H->c7 c Z μ H (f X9 G) (λfl X2 _ H'=>FC c E fl X2 H')->P):P:=by obtain⟨e0,e1,e2,e3,e4,e5⟩:=h;exact k e0 e1 e2 e3 e4 e5
structure DE(X:Cx)(Z:XC)(e:Expr)(f:DSt->M D):Prop where
 h:PE X e (P7 (wc X) Z f)
structure DT(X:Cx)(Z:XC)(e:Expr)(f:DSt->M Bool):Prop where
 h:PT X e (OB (wc X) Z f)
structure DA(X:Cx)(Z:XC)(e:List Expr)(f:DSt->M (List D)):Prop where
 h:PA X e (tF (wc X) Z f)
structure DS(X:Cx)(Z:XC)(e:Stmt)(f:DSt->M Fl):Prop where
 h:PS X e (iC (wc X) Z f)
structure DB(X:Cx)(Z:XC)(e:List Stmt)(f:DSt->M Fl):Prop where
 h:PSs X e (iC (wc X) Z f)
def PE.mono(h:PE X e t)(k:∀ σ H Q,t' σ H Q->t σ H Q):PE X e t':=λEe s σ H Q I q=>h Ee s σ H Q I (k σ H Q q)
def PT.mono(h:PT X e t)(k:∀ σ H Q,t' σ H Q->t σ H Q):PT X e t':=λEe s σ H Q I q=>h Ee s σ H Q I (k σ H Q q)
def PW.mono(h:PW X e t)(k:∀ σ H Q,t' σ H Q->t σ H Q):PW X e t':=λwh Ee s σ H Q I q=>h wh Ee s σ H Q I (k σ H Q q)
def PA.mono(h:PA X e t)(k:∀ σ H Q,t' σ H Q->t σ H Q):PA X e t':=λpos Ee s σ H Q I q=>h pos Ee s σ H Q I (k σ H Q q)
def PS.mono(h:PS X e t)(k:∀E σ H,t' E σ H->t E σ H):PS X e t':=λEe s σ H E I q=>h Ee s σ H E I (k E σ H q)
def PSs.mono(h:PSs X e t)(k:∀E σ H,t' E σ H->t E σ H):PSs X e t':=λEe s σ H E I q=>h Ee s σ H E I (k E σ H q)
def DE.of(h:PE X e t)(k:∀ σ H Q,P7 (wc X) Z f σ H Q->t σ H Q):DE X Z e f:=⟨PE.mono h k⟩
def DT.of(h:PT X e t)(k:∀ σ H Q,OB (wc X) Z f σ H Q->t σ H Q):DT X Z e f:=⟨PT.mono h k⟩
def DA.of(h:PA X e t)(k:∀ σ H Q,tF (wc X) Z f σ H Q->t σ H Q):DA X Z e f:=⟨PA.mono h k⟩
def DS.of(h:PS X e t)(k:∀E σ H,iC (wc X) Z f E σ H->t E σ H):DS X Z e f:=⟨PS.mono h k⟩
def DB.of(h:PSs X e t)(k:∀E σ H,iC (wc X) Z f E σ H->t E σ H):DB X Z e f:=⟨PSs.mono h k⟩
end DL
namespace DL
open PySem PySem.Spec L2
open PyProof.Rows hiding St
def S6:Expr->Bool
 | .Starred ..=>false
 |_=>true
def b9(h:S6 e=true):zW (e::es) env= (false,eval e env)::zW es env:=by
 cases e<;>first
  |rfl
  |exact SA h
def P8(h:S6 e=true):zW [e] env= [(false,eval e env)]:=b9 h
def Hv(h:S6 a=true)(h':S6 b=true):zW [a,b] env= [(false,eval a env),(false,eval b env)]:=by rw[b9 h,P8 h']
abbrev Fe:=DSt->M D
def B5(i:Nat):Fe:=λσ G=>match σ[i]? with
 |some (some d)=>some (.ok d,G)
 |_=>none
def cE(d:D):Fe:=λ_=>pure d
def j5(o:D->D->M D)(a b:Fe):Fe:=λσ=>do o (<-a σ) (<-b σ)
def unE(o:D->M D)(a:Fe):Fe:=λσ=>do o (<-a σ)
def L0:DSt->M (List D):=λ_=>pure []
def B1(a:Fe)(r:DSt->M (List D)):DSt->M (List D):=λσ=>do
 let x <-a σ
 let xs <-r σ
 pure (x::xs)
def T2(F:List D->M D)(a:DSt->M (List D)):Fe:=λσ=>do F (<-a σ)
def HF:D->M Bool
 | .bl b=>pure b
 |_=>M.stuck
def vD(a:Fe):Fe:=λσ=>do pure (.bl (!(<-HF (<-a σ))))
def ifE(t:DSt->M Bool)(a b:Fe):Fe:=λσ=>do if <-t σ then a σ else b σ
section
variable(c:Wc)(Z:XC)
def lB(o:D->D->M D):R2:=λx y H Q=>∃dx dy μ G,d8 c μ H dx x/\d8 c μ H dy y/\v6 c μ G H/\c7 c Z μ H (o dx dy G) λd X2 _ H'=>∀v,d8 c X2 H' d v->Q v H'
def AF(o:D->M D):V->Hp->VK->Prop:=λx H Q=>∃dx μ G,d8 c μ H dx x/\v6 c μ G H/\c7 c Z μ H (o dx G) λd X2 _ H'=>∀v,d8 c X2 H' d v->Q v H'
def dF(F:List D->M D):List V->Hp->VK->Prop:=λxs H Q=>∃ds μ G,m9 c μ H ds xs/\v6 c μ G H/\c7 c Z μ H (F ds G) λd X2 _ H'=>∀v,d8 c X2 H' d v->Q v H'
end
def lB.elim{P:Prop}{x:V}{y:V}{Q:VK}(h:lB c Z o x y H Q)(k:∀dx dy μ G,d8 c μ H dx x->d8 c μ H dy y->v6 c μ G H->c7 c Z μ H (o dx dy G) (λd X2 _ H'=>∀v,d8 c X2 H' d v->Q v H')->P):P:=by obtain⟨e0,e1,e2,e3,e4,e5,e6,e7⟩:=h;exact k e0 e1 e2 e3 e4 e5 e6 e7
def AF.elim{P:Prop}{x:V}{Q:VK}(h:AF c Z o x H Q)(k:∀dx μ G,d8 c μ H dx x->v6 c μ G H->c7 c Z μ H (o dx G) (λd X2 _ H'=>∀v,d8 c X2 H' d v->Q v H')->P):P:=by obtain⟨e0,e1,e2,e3,e4,e5⟩:=h;exact k e0 e1 e2 e3 e4 e5
def dF.elim{P:Prop}{H:Hp}{Q:VK}(h:dF c Z F xs H Q)(k:∀ds μ G,m9 c μ H ds xs->v6 c μ G H->c7 c Z μ H (F ds G) (λd X2 _ H'=>∀v,d8 c X2 H' d v->Q v H')->P):P:=by obtain⟨e0,e1,e2,e3,e4,e5⟩:=h;exact k e0 e1 e2 e3 e4 e5
structure OpD(X:Cx)(Z:XC)(f:zk->zk->Sem zk)(o:D->D->M D):Prop where
 h:OpR X f (lB (wc X) Z o)
structure UnD(X:Cx)(Z:XC)(f:zk->Sem zk)(o:D->M D):Prop where
 h:UnR X f (AF (wc X) Z o)
structure X8(X:Cx)(Z:XC)(f:zk)(F:List D->M D):Prop where
 h:v3 X f (dF (wc X) Z F)
def OpR.mono(h:OpR X f r)(k:∀x y H Q,r' x y H Q->r x y H Q):OpR X f r':=λEe s σ H x y v u Q I rx ry q=>h Ee s σ H x y v u Q I rx ry (k x y H Q q)
def v3.mono(h:v3 X f r)(k:∀xs H Q,r' xs H Q->r xs H Q):v3 X f r':=λEe s σ H xs us Q I rx q=>h Ee s σ H xs us Q I rx (k xs H Q q)
def OpD.of(h:OpR X f r)(k:∀x y H Q,lB (wc X) Z o x y H Q->r x y H Q):OpD X Z f o:=⟨OpR.mono h k⟩
def X8.of(h:v3 X f r)(k:∀xs H Q,dF (wc X) Z F xs H Q->r xs H Q):X8 X Z f F:=⟨v3.mono h k⟩
section
variable{X:Cx}{Z:XC}{a b c e:Expr}{pos:Pos}
def nJ(σ:St)(H:Hp)(Q:VK)(h:P7 cc Z (j5 o fa fb) σ H Q):tOp (lB cc Z o) (P7 cc Z fa) (P7 cc Z fb) σ H Q:=by obtain⟨X9,μ,G,s,h,p⟩:=h;exact⟨X9,μ,G,s,h,(c7.bind p).mono λx X0 G1 H1 x' h1 p1 v rv=>⟨X9,X0,G1,s.mono x',h1,(c7.bind p1).mono λy WY G2 H2 x2 h2 p2 u ru=>⟨x,y,WY,G2,rv.mono x2,ru,h2,p2⟩⟩⟩
def qu(h:PE X e (RT i)):DE X Z e (B5 i):=DE.of h λσ H Q Eh=>Eh.elim λX9 μ G s h p=>by
 delta B5 at p;rcases he:X9[i]? with _|_|d
 ·rw[he]at p;exact p.elim
 ·rw[he]at p;exact p.elim
 ·rw[he]at p;obtain⟨v,e1,r⟩:=s.2 i d he;exact⟨v,e1,c7.ok p h v r⟩
def SE(h:PE X e (tC v))(r:∀ μ H,d8 (wc X) μ H d v):DE X Z e (cE d):=DE.of h λσ H Q Eh=>Eh.elim λX9 μ G s h p=>c7.ok p h v (r _ _)
def Bq{i j pos}:DE X Z (.Constant (.int i) j pos) (cE (.int i)):=SE rT λ_ _=>by unfold d8;rfl
def kb{i j pos}:DE X Z (.Constant (.bool i) j pos) (cE (.bl i)):=SE dr λ_ _=>by unfold d8;rfl
def iu{j pos}:DE X Z (.Constant .none j pos) (cE .non):=SE UP λ_ _=>by unfold d8;rfl
def fY{i j pos}:DE X Z (.Constant (.str i) j pos) (cE (.str i)):=SE bz λ_ _=>by unfold d8;rfl
def Nq(i:Nat)(hN:X.N[i]? =some x)(hv:Vis X.env.scope x)(hd:(x==("__debug__" :Str))=false)
 (hcd:(x==("__classdict__" :Str))=false):DE X Z (.Name x pos) (B5 i):=qu (uW hN hv hd hcd)
def Be(ho:OpD X Z (yb op) o)(ha:DE X Z a fa)(hb:DE X Z b fb):DE X Z (.BinOp a op b pos) (j5 o fa fb):=
 DE.of (AM ho.h ha.h hb.h) nJ
def Tq(ho:OpD X Z (zZ op) o)(ha:DE X Z a fa)(hb:DE X Z b fb)(hm:XQ op b=false):DE X Z (.Compare a [op] [b] pos) (j5 o fa fb):=
 DE.of (Ar ho.h ha.h hb.h hm) nJ
def qi(ho:UnD X Z (unaryOp op) o)(ha:DE X Z a fa):DE X Z (.UnaryOp op a pos) (unE o fa):=
 DE.of (LV ho.h ha.h) λσ H Q Eh=>Eh.elim λX9 μ G s h p=>⟨X9,μ,G,s,h,(c7.bind p).mono λx X0 G1 H1 x' h1 p1 v rv=>⟨x,X0,G1,rv,h1,p1⟩⟩
def NM{H:Hp}{d:D}{f:Bool->M α}{G:DH}{K:α->List Addr->DH->Hp->Prop}(p:c7 cc Z μ H ((HF d >>= f) G) K):∃k,d= .bl k/\c7 cc Z μ H (f k G) K:=by
 cases d with
 |bl k=>exact⟨k,rfl,p⟩
 |_=>exact p.elim
def ae{op}(h:DE X Z a f):DE X Z (.BoolOp op [a] pos) f:=⟨vv h.h⟩
def oX(ha:DE X Z a fa):DE X Z (.UnaryOp .Not a pos) (vD fa):=
 DE.of (Qj ha.h) λσ H Q Eh=>Eh.elim λX9 μ G s h p=>⟨X9,μ,G,s,h,(c7.bind p).mono λx X0 G1 H1 x' h1 p1 v rv=>by obtain⟨k',rfl,p2⟩:=NM p1;unfold d8 at rv;exact⟨k',rv,c7.ok p2 h1 _ (by unfold d8;rfl)⟩⟩
def VA(f:Fe):DSt->M Bool:=λσ=>do HF (<-f σ)
def Q1(a b:DSt->M Bool):DSt->M Bool:=λσ=>do if <-a σ then b σ else pure false
def orT(a b:DSt->M Bool):DSt->M Bool:=λσ=>do if <-a σ then pure true else b σ
def C3(a:DSt->M Bool):DSt->M Bool:=λσ=>do pure (!(<-a σ))
structure DW(X:Cx)(Z:XC)(e:Expr)(f:DSt->M Bool):Prop where
 h:PW X e (OB (wc X) Z f)
def DW.of(h:PW X e t)(k:∀ σ H Q,OB (wc X) Z f σ H Q->t σ H Q):DW X Z e f:=⟨PW.mono h k⟩
variable{ta tb:DSt->M Bool}{Q8:List Expr}
def DW.dt(h:DW X Z a ta):DT X Z a ta:=⟨λEe s σ H Q I q=>h.h _ Ee s σ H Q I q⟩
def Ca(ho:OpD X Z (zZ op) o)(ha:DE X Z a fa)(hb:DE X Z b fb)(hm:XQ op b=false):DT X Z (.Compare a [op] [b] pos) (VA (j5 o fa fb)):=
 DT.of (Nd ho.h ha.h hb.h hm) λσ H Q Eh=>Eh.elim λX9 μ G s h p=>nJ σ H _ ⟨X9,μ,G,s,h,(c7.bind p).mono λx X0 G1 H1 x' h1 p1 v rv=>by
  cases x with
  |bl k'=>unfold d8 at rv;exact⟨k',rv,c7.ok p1 h1⟩
  |_=>exact p1.elim⟩
def Cg(ha:DT X Z a ta):DW X Z (.BoolOp .And [a] pos) ta:=⟨Ea ha.h⟩
def md(ha:DT X Z a ta):DW X Z (.BoolOp .Or [a] pos) ta:=⟨Hq ha.h⟩
def lV(ha:DT X Z a ta)(hb:DW X Z (.BoolOp .And (b::Q8) pos) tb):DW X Z (.BoolOp .And (a::b::Q8) pos) (Q1 ta tb):=
 DW.of (Aq ha.h hb.h) λσ H Q Eh=>Eh.elim λX9 μ G s h p=>⟨X9,μ,G,s,h,(c7.bind p).mono λx X0 G1 H1 x' h1 p1=>by
  cases x with
  |true=>exact⟨X9,X0,G1,s.mono x',h1,p1⟩
  |false=>exact c7.ok p1 h1⟩
def Cs(ha:DT X Z a ta)(hb:DW X Z (.BoolOp .Or (b::Q8) pos) tb):DW X Z (.BoolOp .Or (a::b::Q8) pos) (orT ta tb):=
 DW.of (lq ha.h hb.h) λσ H Q Eh=>Eh.elim λX9 μ G s h p=>⟨X9,μ,G,s,h,(c7.bind p).mono λx X0 G1 H1 x' h1 p1=>by
  cases x with
  |false=>exact⟨X9,X0,G1,s.mono x',h1,p1⟩
  |true=>exact c7.ok p1 h1⟩
def cz(ha:DT X Z a ta):DT X Z (.UnaryOp .Not a pos) (C3 ta):=
 DT.of (pV ha.h) λσ H Q Eh=>Eh.elim λX9 μ G s h p=>⟨X9,μ,G,s,h,(c7.bind p).mono λx X0 G1 H1 x' h1 p1=>c7.ok p1 h1⟩
def ll(hc:DT X Z c ta)(ha:DE X Z a fa)(hb:DE X Z b fb):DE X Z (.IfExp c a b pos) (ifE ta fa fb):=
 DE.of (Dj hc.h ha.h hb.h) λσ H Q Eh=>Eh.elim λX9 μ G s h p=>⟨X9,μ,G,s,h,(c7.bind p).mono λx X0 G1 H1 x' h1 p1=>by
  cases x with
  |true=>exact⟨X9,X0,G1,s.mono x',h1,p1⟩
  |false=>exact⟨X9,X0,G1,s.mono x',h1,p1⟩⟩
def bM:DA X Z [] L0:=DA.of qh λσ H Q Eh=>Eh.elim λX9 μ G s h p=>c7.ok p h [] rfl
def GJ(ha:DE X Z e fa)(hr:DA X Z es fs)(hs:zW (e::es) X.env= (false,eval e X.env)::zW es X.env):DA X Z (e::es) (B1 fa fs):=
 DA.of (fW ha.h hr.h hs) λσ H Q Eh=>Eh.elim λX9 μ G s h p=>⟨X9,μ,G,s,h,(c7.bind p).mono λx X0 G1 H1 x' h1 p1 v rv=>
  ⟨X9,X0,G1,s.mono x',h1,(c7.bind p1).mono λxs WY G2 H2 x2 h2 p2 vs rvs=>c7.ok p2 h2 (v::vs) ⟨v,vs,rfl,rv.mono x2,rvs⟩⟩⟩
def S2(fs:DSt->M (List D)):Fe:=λσ=>do
 let xs <-fs σ
 if xs.length<=zq then pure (.tup xs)else M.stuck
def M5(o:DO):M D:=λG=>some (.ok (.ref G.length),G++[o])
def Q7(fs:DSt->M (List D)):Fe:=λσ=>do
 let xs <-fs σ
 if xs.length<=zq then M5 (.lst xs)else M.stuck
def nF{G:DH}{Q:VK}(h:v6 cc μ G H)(r:m9 cc μ H xs vs)
 (p:c7 cc Z μ H (some (Except.ok (.tup xs),G)) λd X2 _ H'=>∀v,d8 cc X2 H' d v->Q v H') (q:Addr) (hq:H q=none):Q (.ref q) (upd H q (.tup vs)):=by
 have k:Ext μ H μ (upd H q (.tup vs)):=Ext.lay hq _;refine p μ _ k (h.same k λa o e n=>?_) _ ?_
 ·rw[J0 (J1 e hq)];exact e
 ·unfold d8;exact⟨q,vs,rfl,SqT.of Q6,r.mono k⟩
def U9{G:DH}{Q:VK}(h:v6 cc μ G H)(r:m9 cc μ H xs vs)
 (p:c7 cc Z μ H (M5 (.lst xs) G) λd X2 _ H'=>∀v,d8 cc X2 H' d v->Q v H') (q:Addr) (hq:H q=none):Q (.ref q) (upd H q (.lst vs)):=by
 have k:Ext μ H (μ++[q]) (upd H q (.lst vs)):=Ext.add hq _;refine p (μ++[q]) _ k (h.new hq ⟨vs,Q6,r.mono k⟩) _ ?_;unfold d8;exact⟨q,by rw[<-h.len];simp,rfl⟩
def NW{x1}(h:DA X Z es fs):DE X Z (.Tuple es x1 pos) (S2 fs):=
 DE.of (Ac h.h) λσ H Q Eh=>Eh.elim λX9 μ G s h p=>⟨X9,μ,G,s,h,(c7.bind p).mono λxs X0 G1 H1 x' h1 p1 vs rv=>by
  split at p1
  ·rename_i hz;exact⟨by rw[<-rv.length];exact hz,λq hq=>nF h1 rv p1 q hq⟩
  ·exact p1.elim⟩
def Dw(h:DA X Z es fs):DE X Z (.List es pos) (Q7 fs):=
 DE.of (Bl h.h) λσ H Q Eh=>Eh.elim λX9 μ G s h p=>⟨X9,μ,G,s,h,(c7.bind p).mono λxs X0 G1 H1 x' h1 p1 vs rv=>by
  split at p1
  ·rename_i hz;exact⟨by rw[<-rv.length];exact hz,λq hq=>U9 h1 rv p1 q hq⟩
  ·exact p1.elim⟩
def SQ(σ:St)(H:Hp)(Q:VK)(h:P7 cc Z (T2 F fs) σ H Q):tCB (dF cc Z F) (tF cc Z fs) σ H Q:=by obtain⟨X9,μ,G,s,h,p⟩:=h;exact⟨X9,μ,G,s,h,(c7.bind p).mono λx X0 G1 H1 x' h1 p1 vs rv=>⟨x,X0,G1,rv,h1,p1⟩⟩
def Sv{id:String}(hc:X8 X Z (.builtin id) F)(hg:Gl X x)(hm:X.mg x=none)(hv:je x=some (.builtin id))(ha:DA X Z (e::es) fs)(hn:x≠ "__name__")(hdb:(x==("__debug__" :Str))=false)
 (he:zW (e::es) X.env= (false,eval e X.env)::zW es X.env) (Fr:(xi pos (zW es X.env)).any (·.1)=false):DE X Z (.Call (.Name x p) (e::es) [] pos) (T2 F fs):=
 DE.of (Nm hc.h hg hm hv ha.h hn hdb he Fr) SQ
def lZ(hc:X8 X Z (.type T) F)(hg:Gl X x)(hm:X.mg x=none)(hv:je x=some (.type T))(ha:DA X Z (e::es) fs)(hn:x≠ "__name__")(hdb:(x==("__debug__" :Str))=false)
 (he:zW (e::es) X.env= (false,eval e X.env)::zW es X.env) (Fr:(xi pos (zW es X.env)).any (·.1)=false):DE X Z (.Call (.Name x p) (e::es) [] pos) (T2 F fs):=
 DE.of (Rp hc.h hg hm hv ha.h hn hdb he Fr) SQ
def spD(c:Wc)(n:Nat)(F:List D->M D):Sp:=λvs H Q _=>vs.length=n/\∃ds μ G,m9 c μ H ds vs/\v6 c μ G H/\c7 c ZF μ H (F ds G) λd X2 _ H'=>∀v,d8 c X2 H' d v->Q v H'
def noX{α:Type}(m:M α):M α:=λG=>match m G with
 |some (.ok a,G1)=>some (.ok a,G1)
 |_=>none
def gL{H:Hp}{G:DH}{K:α->List Addr->DH->Hp->Prop}(p:c7 cc Z μ H (noX m G) K):c7 cc ZF μ H (m G) K:=by
 unfold noX at p
 match m G,p with
 |some (.ok a,G1),p=>exact p
 |some (.error x,G1),p=>exact p.elim
 |none,p=>exact p.elim
def fnX(n:Nat)(F:List D->M D):List D->M D:=λds=>if ds.length=n then noX (F ds)else M.stuck
def sR{H:Hp}{n:Nat}{G:DH}{K:D->List Addr->DH->Hp->Prop}(p:c7 cc Z μ H (fnX n F ds G) K):ds.length=n/\c7 cc ZF μ H (F ds G) K:=by
 unfold fnX at p;split at p
 ·rename_i h;exact⟨h,gL p⟩
 ·exact p.elim
def ph(hF:u3 X.prog X.w X.K X.mg X.base CX0 k f fd ps (spD (wc X) n F))(hr:V7 k X.A)(hg:Gl X x)(hm:X.mg x=some (.ref f))(hk:yD X.K (.ref f)=true)(hb:D7 X.K fd ps [])
 (ha:DA X Z (e::es) fs)
 (hdb:(x==("__debug__" :Str))=false) (he:zW (e::es) X.env= (false,eval e X.env)::zW es X.env) (Fr:(xi pos (zW es X.env)).any (·.1)=false):
 DE X Z (.Call (.Name x p) (e::es) [] pos) (T2 (fnX n F) fs):=
 DE.of (LZ hF hr hg hm hk hb .nil uK ha.h hdb he Fr) λσ H Q Eh=>Eh.elim λX9 μ G s h p=>by refine⟨X9,μ,G,s,h,(c7.bind p).mono λds' X0 G1 H1 x' h1 p1 vs rv=>?_⟩;obtain⟨hl,p2⟩:=sR p1;show spD (wc X) n F (vs++[]) H1 Q E0;rw[yV];exact⟨by rw[<-rv.length];exact hl,ds',X0,G1,rv,h1,p2⟩
end
abbrev Fs:=DSt->M Fl
def J7:Fs:=λσ=>pure (.nx σ)
def o9(a b:Fs):Fs:=λσ=>do
 match <-a σ with
 | .nx X1=>b X1
 |r=>pure r
def t8(f:Fe):Fs:=λσ=>do pure (.rt (<-f σ))
def N4(f:Fe):Fs:=λσ=>do
 let _ <-f σ
 pure (.nx σ)
def ifS(t:DSt->M Bool)(a b:Fs):Fs:=λσ=>do if <-t σ then a σ else b σ
abbrev Fg:=D->DSt->M DSt
abbrev Fgs:=List D->DSt->M DSt
def d6(i:Nat):Fg:=λd σ=>pure (σ.set i (some d))
def D5:Fgs:=λds σ=>match ds with
 |[]=>pure σ
 |_=>M.stuck
def R0(g:Fg)(r:Fgs):Fgs:=λds σ=>match ds with
 |d::t=>do r t (<-g d σ)
 |[]=>M.stuck
def A5(n:Nat)(g:Fgs):Fg:=λd σ=>match d with
 | .tup l=>if l.length=n then g l σ else M.stuck
 |_=>M.stuck
def M8(f:Fe)(g:Fg):Fs:=λσ=>do
 let d <-f σ
 let X1 <-g d σ
 pure (.nx X1)
section
variable(c:Wc)(Z:XC)
def ID(g:Fg):TG:=λv σ H Q=>∃d X9 μ G,d8 c μ H d v/\K5 c μ H X9 σ/\v6 c μ G H/\c7 c Z μ H (g d X9 G) λWW X2 _ H'=>∀ X1,K5 c X2 H' WW X1->Q X1 H'
def QI(g:Fgs):TGs:=λvs σ H Q=>∃ds X9 μ G,m9 c μ H ds vs/\K5 c μ H X9 σ/\v6 c μ G H/\c7 c Z μ H (g ds X9 G) λWW X2 _ H'=>∀ X1,K5 c X2 H' WW X1->Q X1 H'
end
def ID.elim{P:Prop}{v:V}{σ:St}{H:Hp}(h:ID c Z g v σ H Q)(k:∀d X9 μ G,d8 c μ H d v->K5 c μ H X9 σ->v6 c μ G H->c7 c Z μ H (g d X9 G) (λWW X2 _ H'=>∀ X1,K5 c X2 H' WW X1->Q X1 H')->P):P:=by obtain⟨e0,e1,e2,e3,e4,e5,e6,e7⟩:=h;exact k e0 e1 e2 e3 e4 e5 e6 e7
def QI.elim{Z:XC}{P:Prop}{σ:St}{H:Hp}(h:QI c Z g vs σ H Q)(k:∀ds X9 μ G,m9 c μ H ds vs->K5 c μ H X9 σ->v6 c μ G H->c7 c Z μ H (g ds X9 G) (λWW X2 _ H'=>∀ X1,K5 c X2 H' WW X1->Q X1 H')->P):P:=by obtain⟨e0,e1,e2,e3,e4,e5,e6,e7⟩:=h;exact k e0 e1 e2 e3 e4 e5 e6 e7
structure DG(X:Cx)(Z:XC)(tg:Expr)(g:Fg):Prop where
 h:PG X tg (ID (wc X) Z g)
structure DGs(X:Cx)(Z:XC)(tgs:List Expr)(g:Fgs):Prop where
 h:PGs X tgs (QI (wc X) Z g)
def PG.mono(h:PG X e t)(k:∀v σ H Q,t' v σ H Q->t v σ H Q):PG X e t':=λEe s σ H v u Q I r q=>h Ee s σ H v u Q I r (k v σ H Q q)
def PGs.mono(h:PGs X e t)(k:∀v σ H Q,t' v σ H Q->t v σ H Q):PGs X e t':=λEe s σ H v u Q I r q=>h Ee s σ H v u Q I r (k v σ H Q q)
def DG.of(h:PG X e t)(k:∀v σ H Q,ID (wc X) Z g v σ H Q->t v σ H Q):DG X Z e g:=⟨PG.mono h k⟩
def DGs.of(h:PGs X e t)(k:∀v σ H Q,QI (wc X) Z g v σ H Q->t v σ H Q):DGs X Z e g:=⟨PGs.mono h k⟩
section
variable{X:Cx}{Z:XC}{st:Stmt}{Q8 sa sb:List Stmt}{f g:Fs}
def ww:DB X Z [] J7:=DB.of mn λE σ H Eh=>Eh.elim λX9 μ G s h p=>c7.ok p h σ s
def SZ(h:v6 cc μ G H)
 (p:c7 cc Z μ H ((match fl with| .nx X1=>g X1|r=>pure r:M Fl) G) λfl X2 _ H'=>FC cc E fl X2 H'):FC cc {E with nx:=iC cc Z g E} fl μ H:=by
 cases fl with
 |nx X9=>exact λσ s=>⟨X9,μ,G,s,h,p⟩
 |rt d=>exact c7.ok p h
 |bk X9=>exact c7.ok p h
 |ct X9=>exact c7.ok p h
def kQ(h1:DS X Z st f)(h2:DB X Z Q8 g):DB X Z (st::Q8) (o9 f g):=
 DB.of (Hk h1.h h2.h) λE σ H Eh=>Eh.elim λX9 μ G s h p=>⟨X9,μ,G,s,h,(c7.bind p).mono λfl X0 G1 H1 x' h1 p1=>SZ h1 p1⟩
def wR(h1:DS X Z st f):DB X Z [st] f:=⟨Ai h1.h⟩
def tf(he:DE X Z e fa)(hs:swapsWith e none pos.line X.env=pure false):DS X Z (.Expr e pos) (N4 fa):=
 DS.of (pi he.h hs) λE σ H Eh=>Eh.elim λX9 μ G s h p=>⟨X9,μ,G,s,h,(c7.bind p).mono λd X0 G1 H1 x' h1 p1 v rv=>c7.ok p1 h1 σ (s.mono x')⟩
def AV(he:DE X Z e fa):DS X Z (.Return (some e) pos) (t8 fa):=
 DS.of (Dz he.h) λE σ H Eh=>Eh.elim λX9 μ G s h p=>⟨X9,μ,G,s,h,(c7.bind p).mono λd X0 G1 H1 x' h1 p1 v rv=>c7.ok p1 h1 v rv⟩
def Kj(hc:DT X Z c t)(ha:DB X Z sa f)(hb:DB X Z sb g):DS X Z (.If c sa sb pos) (ifS t f g):=
 DS.of (Vb hc.h ha.h hb.h) λE σ H Eh=>Eh.elim λX9 μ G s h p=>⟨X9,μ,G,s,h,(c7.bind p).mono λx X0 G1 H1 x' h1 p1=>by
  cases x with
  |true=>exact⟨X9,X0,G1,s.mono x',h1,p1⟩
  |false=>exact⟨X9,X0,G1,s.mono x',h1,p1⟩⟩
def PP{x:Str}(hN:X.N.Nodup)(hi:X.N[i]? =some x)(hx:Loc X.env.scope x)(hf:X.fn x=true\/X.env.scope.names.lookup x=some .local):DG X Z (.Name x pos) (d6 i):=
 DG.of (MY hN hi hx hf) λv σ H Q Eh=>Eh.elim λd X9 μ G r s h p=>c7.ok p h _ (s.put r i)
def EX:DGs X Z [] D5:=DGs.of lg λvs σ H Q Eh=>Eh.elim λds X9 μ G r s h p=>by
 cases ds with
 |nil=>cases r;exact⟨rfl,c7.ok p h _ s⟩
 |cons _ _=>exact p.elim
def Hg(h1:DG X Z e gg)(h2:DGs X Z es gr)(hs:(xB (e::es) X.env).map (·.2)=YW e X.env::(xB es X.env).map (·.2)):DGs X Z (e::es) (R0 gg gr):=
 DGs.of (lY h1.h h2.h hs) λvs σ H Q Eh=>Eh.elim λds X9 μ G r s h p=>by
  cases ds with
  |nil=>exact p.elim
  |cons d t=>
    obtain⟨v,vr,rfl,rv,rt⟩:=r;exact⟨v,vr,rfl,d,X9,μ,G,rv,s,h,(c7.bind p).mono λdσ1 X0 G1 H1 x' h1 p1 WZ s1=>⟨t,dσ1,X0,G1,rt.mono x',s1,h1,p1⟩⟩
def gW{gs:Fgs}(hc:X.calm=true)(h:DGs X Z es gs)(hn:(xB es X.env).length=n)(hst:(xB es X.env).findIdx? (·.1)=none):DG X Z (.Tuple es k pos) (A5 n gs):=
 DG.of (Bj hc h.h hn hst) λv σ H Q Eh=>Eh.elim λd X9 μ G r s h p=>by
  cases d with
  |tup l=>
    unfold d8 at r;obtain⟨a,vs,rfl,q,rl⟩:=r;have p':c7 (wc X) Z μ H ((if l.length=n then gs l X9 else M.stuck:M DSt) G) λWW X2 _ H'=>∀ X1,K5 (wc X) X2 H' WW X1->Q X1 H':=p;split at p'
    ·rename_i hl;exact⟨a,vs,rfl,q,by rw[<-rl.length];exact hl,l,X9,μ,G,rl,s,h,p'⟩
    ·exact p'.elim
  |_=>exact p.elim
def vY(he:DE X Z e fa)(hg:DG X Z tg gg)(hs:swapsWithSole [tg] e pos.line X.env=pure false)(hw:swappedStores [tg] e X.env=pure none)
 (h1:(xB [tg] X.env).map (·.2)= [YW tg X.env]):DS X Z (.Assign [tg] e pos) (M8 fa gg):=
 DS.of (aj he.h hg.h hs hw h1) λE σ H Eh=>Eh.elim λX9 μ G s h p=>⟨X9,μ,G,s,h,(c7.bind p).mono λd X0 G1 H1 x' h1 p1 v rv=>
  ⟨d,X9,X0,G1,rv,s.mono x',h1,(c7.bind p1).mono λdσ2 WY G2 H2 x2 h2 p2 σ2 s2=>c7.ok p2 h2 σ2 s2⟩⟩
end
def T7:Nat->(DSt->M Bool)->Fs->Fs
 |0,_,_=>λ_=>M.stuck
 |n+1,t,b=>λσ=>do
   if <-t σ then
    match <-b σ with
    | .nx X1=>T7 n t b X1
    | .ct X1=>T7 n t b X1
    | .bk X1=>pure (.nx X1)
    | .rt d=>pure (.rt d)
   else pure (.nx σ)
open Classical in
def P9(t:DSt->M Bool)(b:Fs):Fs:=λσ G=>if h:∃n,(T7 n t b σ G).isSome=true then T7 (Xm h) t b σ G else none
def M.bind_mono{f g:α->M β}{r:Except Str β×DH}(h:(m >>= f) G=some r)(k:∀a G',f a G'=some r->g a G'=some r):(m >>= g) G=some r:=by
 rw[M.bind_eq]at h ⊢
 match m G,h with
 |some (.ok a,G'),h=>exact k a G' h
 |some (.error x,G'),h=>exact h
theorem LL{t:DSt->M Bool}:∀ {n} {σ} {G:DH} {r:Except Str Fl×DH},T7 n t b σ G=some r->T7 (n+1) t b σ G=some r
 |0,_,_,_,h=>by exact J4 h
 |n+1,σ,G,r,h=>by
   unfold T7 at h ⊢;refine M.bind_mono h λc G1 h1=>?_
   cases c with
   |true=>
     refine M.bind_mono h1 λfl G2 h2=>?_
     cases fl with
     |nx X1=>exact LL h2
     |ct X1=>exact LL h2
     |bk X1=>exact h2
     |rt d=>exact h2
   |false=>exact h1
def PN(hm:n<=m)(h:T7 n t b σ G=some r):T7 m t b σ G=some r:=by
 induction hm with
 |refl=>exact h
 |step _ ih=>exact LL ih
def td(hp:PassesOwn (zG X.prog X.w) X.A X.env X.xe)(hc:DT X Z c t)(hb:DB X Z body f):DS X Z (.While c body [] pos) (P9 t f):=
 DS.of (ir hp hc.h hb.h) λE σ H Eh=>Eh.elim λX9 μ G s h p=>by
  unfold P9 at p;split at p
  · rename_i ex;refine⟨λm σ H=>∃X9 μ G,K5 (wc X) μ H X9 σ/\v6 (wc X) μ G H/\c7 (wc X) Z μ H (T7 m t f X9 G) λfl X2 _ H'=>FC (wc X) E fl X2 H',⟨_,X9,μ,G,s,h,p⟩,?_⟩;rintro m σ H ⟨X9,μ,G,s,h,p⟩
    cases m with
    |zero=>exact p.elim
    |succ m=>
      refine⟨X9,μ,G,s,h,(c7.bind p).mono λx X0 G1 H1 x' h1 p1=>?_⟩
      cases x with
      |false=>exact c7.ok p1 h1 σ (s.mono x')
      |true=>
        refine⟨λX1 H'=>∃X9 μ G,K5 (wc X) μ H' X9 X1/\v6 (wc X) μ G H'/\c7 (wc X) Z μ H' (T7 m t f X9 G) λfl X2 _ H'=>FC (wc X) E fl X2 H',λX1 H' w=>⟨m,xO _,w⟩,X9,X0,G1,s.mono x',h1,(c7.bind p1).mono λfl WY G2 H2 x2 h2 p2=>?_⟩
        cases fl with
        |nx WW=>exact λX1 s'=>⟨WW,WY,G2,s',h2,p2⟩
        |ct WW=>exact λX1 s'=>⟨WW,WY,G2,s',h2,p2⟩
        |bk WW=>exact λX1 s'=>c7.ok p2 h2 X1 s'
        |rt d=>exact λv r=>c7.ok p2 h2 v r
  ·exact p.elim
def B2(g:Fg)(b:Fs)(ck:DH->Bool):List D->Fs
 |[]=>λσ G=>if ck G then some (.ok (.nx σ),G)else none
 | d :: r => λσ G => if ck G then (do
    match <-b (<-g d σ) with
    | .nx X1=>B2 g b ck r X1
    | .ct X1=>B2 g b ck r X1
    | .bk X1=>pure (.nx X1)
    | .rt d=>pure (.rt d):M Fl) G else none
structure Src where
 items:List D
 ck:DH->Bool
def N3(it:DSt->M Src)(g:Fg)(b:Fs):Fs:=λσ=>do
 let s <-it σ
 B2 g b s.ck s.items σ
def ItD(c:Wc)(μ:List Addr)(H:Hp)(J:It)(s:Src):Prop:=∀ X2 G' H',Ext μ H X2 H'->v6 c X2 G' H'->s.ck G'=true->∀i:Nat,
 (∀d,s.items[i]? =some d->J.go i H'/\∀x H2,J.yld i H' x H2->Ext X2 H' X2 H2/\v6 c X2 G' H2/\d8 c X2 H2 d x)/\(s.items.length<=i->J.stop i H')
def QH(c:Wc)(Z:XC)(it:DSt->M Src):TI:=λσ H R=>∃X9 μ G,K5 c μ H X9 σ/\v6 c μ G H/\c7 c Z μ H (it X9 G) λs X2 _ H'=>∀J,ItD c X2 H' J s->R J H'
def QH.elim{P:Prop}{σ:St}{H:Hp}(h:QH c Z it σ H R)(k:∀X9 μ G,K5 c μ H X9 σ->v6 c μ G H->c7 c Z μ H (it X9 G) (λs X2 _ H'=>∀J,ItD c X2 H' J s->R J H')->P):P:=by obtain⟨e0,e1,e2,e3,e4,e5⟩:=h;exact k e0 e1 e2 e3 e4 e5
structure DI(X:Cx)(Z:XC)(tg e:Expr)(it:DSt->M Src):Prop where
 h:PI X tg e (QH (wc X) Z it)
def PI.mono(h:PI X tg e t)(k:∀ σ H R,t' σ H R->t σ H R):PI X tg e t':=λEe s σ H R I q=>h Ee s σ H R I (k σ H R q)
def DI.of(h:PI X tg e t)(k:∀ σ H R,QH (wc X) Z it σ H R->t σ H R):DI X Z tg e it:=⟨PI.mono h k⟩
def Bz(c:Wc)(E:LA)(fl:Fl)(μ:List Addr)(_:DH)(H:Hp):Prop:=FC c E fl μ H
inductive FR(c:Wc)(Z:XC)(gg:Fg)(f:Fs)(sr:Src)(E:LA)(X0:List Addr)(H1:Hp)(i:Nat)(σ:St)(H:Hp):Prop
 |mk (X9:DSt) (μ:List Addr) (G:DH) (k:Ext X0 H1 μ H) (s:K5 c μ H X9 σ) (h:v6 c μ G H) (p:c7 c Z μ H (B2 gg f sr.ck (sr.items.drop i) X9 G) (Bz c E))
def gn(hp:PassesOwn (zG X.prog X.w) X.A X.env X.xe)(hc:X.calm=true)(hi:DI X Z tg iter it)(hg:DG X Z tg gg)(hb:DB X Z body f)(hs:∀x,xc iter X.env x=pure x):
 DS X Z (.For tg iter body [] pos) (N3 it gg f):=
 DS.of (qX hp hc hi.h hg.h hb.h hs) λE σ H Eh=>Eh.elim λX9 μ G s h p=>⟨X9,μ,G,s,h,(c7.bind p).mono λsr X0 G1 H1 x' h1 p1 J hJ=>by
  refine⟨λi m X1 H'=>m=sr.items.length-i/\i<=sr.items.length/\FR (wc X) Z gg f sr E X0 H1 i X1 H',
   ⟨sr.items.length,rfl,zY _,X9,X0,G1,Ext.refl _ _,s.mono x',h1,p1⟩,?_⟩
  rintro i m X1 H' ⟨rfl,hi',WW,X2,G',k',s',h',p'⟩;by_cases Eo:i<sr.items.length
  · rw[xQ Eo]at p';unfold B2 at p';split at p'
    · rename_i ck;obtain⟨q1,_⟩:=hJ X2 G' H' k' h' ck i;obtain⟨go,yl⟩:=q1 _ (zj Eo);refine .inr ⟨go,λσ2 H2=>FR (wc X) Z gg f sr E X0 H1 (i+1) σ2 H2,λσ2 H2 w=>⟨sr.items.length-(i+1),Xa _ _ Eo,rfl,Eo,w⟩,λx H2 y=>?_⟩;obtain⟨k2,h2,rx⟩:=yl x H2 y;have p2:=c7.bind (p'.from k2);refine⟨_,WW,X2,G',rx,s'.mono k2,h2,p2.mono λdσ3 WN G3 H3 x3 h3 p3 WQ s3=>?_⟩;refine⟨dσ3,WN,G3,s3,h3,(c7.bind p3).mono λfl WL G4 H4 x4 h4 p4=>?_⟩
      cases fl with
      |nx dσ4=>exact λσ4 s4=>⟨dσ4,WL,G4,k'.trans (k2.trans (x3.trans x4)),s4,h4,p4⟩
      |ct dσ4=>exact λσ4 s4=>⟨dσ4,WL,G4,k'.trans (k2.trans (x3.trans x4)),s4,h4,p4⟩
      |bk dσ4=>exact λσ4 s4=>c7.ok p4 h4 σ4 s4
      |rt d=>exact λv r=>c7.ok p4 h4 v r
    ·exact p'.elim
  · have e:i=sr.items.length:=Nat.le_antisymm hi' (Nat.le_of_not_lt Eo);subst e;rw[List.drop_length]at p';unfold B2 at p';split at p'
    ·rename_i ck;obtain⟨_,q2⟩:=hJ X2 G' H' k' h' ck sr.items.length;exact .inl ⟨q2 (zp _),c7.ok p' h' X1 s'⟩
    ·exact p'.elim⟩
def P6(env:Env):List (Str×NameKind)->List (Str×Addr)->List (Str×Addr)
 |[],cs=>cs
 |(n,k)::r,cs=>P6 env r (if k == .free then (match env.cells.lookup n with|some c=>(n,c)::cs|none=>cs)else cs)
theorem VT:∀l cs,(∀p∈l,p.2= .free->∃c,env.cells.lookup p.1=some c)->
 (forIn l cs (fun(x:Str×NameKind) (cs:List (Str×Addr))=>(match x with|(name,kind)=>if (kind==NameKind.free)=true then do let c <-cellOf env name;pure (ForInStep.yield ((name,c)::cs))else pure (ForInStep.yield cs):Sem (ForInStep (List (Str×Addr))))):Sem (List (Str×Addr)))=pure (P6 env l cs)
 |[],cs,_=>rfl
 |(n,k)::r,cs,h=>by
  have ih:=λcs'=>VT r cs' λp hp=>h p (zA _ hp);rw[Yw];unfold P6;rcases hk:(k==NameKind.free)with _|_
  ·
    have e:(match ((n,k):Str×NameKind) with|(name,kind)=>if (kind==NameKind.free)=true then do let c <-cellOf env name;pure (ForInStep.yield ((name,c)::cs))else pure (ForInStep.yield cs):Sem (ForInStep (List (Str×Addr))))=pure (ForInStep.yield cs):=by show (if (k==NameKind.free)=true then _ else _)=_;rw[hk];rfl
    rw[e];exact ih cs
  ·
    obtain⟨c,hc⟩:=h (n,k) zH (by simpa using hk);have hcell:cellOf env n=pure c:=by unfold cellOf;rw[hc]
    have e:(match ((n,k):Str×NameKind) with|(name,kind)=>if (kind==NameKind.free)=true then do let c <-cellOf env name;pure (ForInStep.yield ((name,c)::cs))else pure (ForInStep.yield cs):Sem (ForInStep (List (Str×Addr))))=pure (ForInStep.yield ((n,c)::cs)):=by show (if (k==NameKind.free)=true then (do let c <-cellOf env n;pure (ForInStep.yield ((n,c)::cs)))else _)=_;rw[hk,hcell];rfl
    rw[e,hc];exact ih ((n,c)::cs)
def np(h:∀p∈scope.names,p.2= .free->∃c,env.cells.lookup p.1=some c):closureFor scope env=pure (P6 env scope.names []):=by have q:=VT scope.names [] h;unfold closureFor;dsimp only;rw[q];rfl
theorem pR:∀l cs,(cs.lookup x=some c->env.cells.lookup x=some c)->(P6 env l cs).lookup x=some c->env.cells.lookup x=some c
 |[],cs,h,e=>h e
 |(n,k)::r,cs,h,e=>by
  unfold P6 at e;refine pR r _ (λe1=>?_) e;split at e1
  · split at e1
    · rename_i c' hc;rw[yO]at e1;split at e1
      · rename_i hx;have hx':x=n:=by simpa using hx
        subst hx'
        cases e1
        exact hc
      ·exact h e1
    ·exact h e1
  ·exact h e1
def Z9(h:(P6 env l []).lookup x=some c):env.cells.lookup x=some c:=pR l [] (λz=>by exact J4 z) h
theorem DU:∀l cs,(∃c,cs.lookup x=some c)->∃c,(P6 env l cs).lookup x=some c
 |[],cs,h=>h
 |(n,k)::r,cs,h=>by
  unfold P6;refine DU r _ ?_;split
  · split
    · rename_i c' hc;rw[yO];split
      ·exact⟨_,rfl⟩
      ·exact h
    ·exact h
  ·exact h
theorem RM(hc:env.cells.lookup x=some c):∀l cs,(x,NameKind.free)∈l->∃c,(P6 env l cs).lookup x=some c
 |[],cs,h=>by simp at h
 |(n,k)::r,cs,h=>by
  unfold P6;rcases zy.mp h with e|h
  · cases e
    refine DU r _ ?_;rw[hc];simp
  ·exact RM hc r _ h
def mX(I:Nat->zD->Prop)
 (turn:∀n s,I n s->zw (zG prog w) A (xS it) (λr W1=>match r with
   |none=>R (.ok .next) W1
   | some v => zw (zG prog w) A (Zf target it v) (λ_ s₁' => zw (zG prog w) A (YW target env v) (λ_ s₂ =>
      zw (zG prog w) A (forIn ifs true λc r=>if r=true then do let ok <-isTrue c env (eval c env);pure (ForInStep.yield ok)else pure (ForInStep.yield r)) (λok s₃=>
       if ok=true then zw (zG prog w) A (eval elt env) (λx s₄=>
        zw (zG prog w) A (call (.builtin "list.append") [Ek,x]) (λ_ s₅=>∃m,m<n/\I m s₅) (λ_ _=>False) s₄) (λ_ _=>False) s₃
       else ∃m,m<n/\I m s₃) (λ_ _=>False) s₂) (λ_ _=>False) s₁') (λ_ _=>False) W1) (λ_ _=>False) s)
 (n:Nat) (h:I n s):
 Zs (zG prog w) A (.compLoop (.ListComp elt [⟨target,iter,ifs,0⟩] scope pos) 0 it Ek env) R s:=by
 refine codeAny_loop rfl I (λn s hI=>?_) n h;show zw _ A ((compTurn (.ListComp elt [⟨target,iter,ifs,0⟩] scope pos) 0 it Ek env).onRaise (λx=>do noteFrame x env;theTreesLotGoes x)) _ _ s;refine wpAny_noted ?_;rw[compTurn_list];refine za (Ys (za (jS (turn n s hI) (λr W1 h₁=>?_) λ_ _ h'=>h'.elim)));rcases r with _|v
 ·exact zi h₁
 ·
   refine za (jS h₁ (λ_ s₁' h₁'=>?_) λ_ _ h'=>h'.elim);refine za (jS h₁' (λ_ s₂ h₂=>za (jS h₂ (λok s₃ h₃=>?_) λ_ _ h'=>h'.elim)) λ_ _ h'=>h'.elim);rcases ok with _|_
   ·
     exact zi ⟨rfl,h₃⟩
   ·
     exact za (za (jS h₃ (λx s₄ h₄=>za (jS h₄ (λ_ s₅ h₅=>zi (zi ⟨rfl,h₅⟩)) λ_ _ h'=>h'.elim)) λ_ _ h'=>h'.elim))
def T8(X:Cx)(scope:Scope)(N:List Str)(C:Addr)(s:zD)(H:Hp)(ex:List Addr):Cx where
 prog:=X.prog
 w:=X.w
 K:=X.K
 mg:=X.mg
 base:=X.base
 A:=X.A
 N:=N
 WX:=s
 H₀:=H
 env:=compEnvC scope (P6 X.env scope.names []) C X.env
 outer:=X.stack
 stack:=X.stack
 ex:=ex
 fn:=λ_=>false
 calm:=X.calm
 pn:= []
 xe:=λ_ _=>False
structure F6(X:Cx)(scope:Scope)(N:List Str)(caps:List (Option Nat)):Prop where
 kind:scope.kind= .function
 cell:∀y∈scope.names,y.2≠ .cell
 names:∀y∈scope.names,y.2= .local->scope.names.lookup y.1=some .local
 free:∀y∈scope.names,y.2= .free->X.env.kindOf y.1=some .cell\/X.env.kindOf y.1=some .free
 frees:∀y∈scope.names,y.2= .free->scope.names.lookup y.1=some .free
 len:caps.length=N.length
 caps:∀(i j:Nat),caps[i]? =some (some j)->∃x,N[i]? =some x/\X.N[j]? =some x/\(x,NameKind.free)∈scope.names
def T9{α:Type}(caps:List (Option Nat))(σ:List (Option α)):List (Option α):=caps.map λo=>o.bind λj=>(σ[j]?).join
theorem PK{env:Env}:∀names:List (Str×NameKind),(names.map fun(n,k)=>if (k==NameKind.free&&env.scope.kind == .function&&env.kindOf n==some .cell)then (n,NameKind.cell)else (n,k)).lookup x=
 (names.lookup x).map λk=>if (k==NameKind.free&&env.scope.kind == .function&&env.kindOf x==some .cell)then NameKind.cell else k
 |[]=>rfl
 |(n,k)::r=>by
  have ih:=PK (env:=env) (x:=x) r;rw[zO];by_cases hx:x=n
  · subst hx;dsimp only;split
    ·rename_i h;simp[yO];simp at h;simp[h]
    ·rename_i h;simp[yO];simp at h;intro a b c;exact absurd c (h a b)
  · have hb:(x==n)=false:=by simpa using hx
    dsimp only;split
    ·rw[yO,yO,hb];exact ih
    ·rw[yO,yO,hb];exact ih
section
variable{X:Cx}{scope:Scope}{N:List Str}{caps:List (Option Nat)}
def F6.isFree(k:F6 X scope N caps){x:Str}(h:(relabel scope X.env).names.lookup x=some .cell\/(relabel scope X.env).names.lookup x=some .free):(x,NameKind.free)∈scope.names:=by
 have e:(relabel scope X.env).names.lookup x= (scope.names.lookup x).map λk=>if (k==NameKind.free&&X.env.scope.kind == .function&&X.env.kindOf x==some .cell)then NameKind.cell else k:=PK scope.names;rw[e]at h;rcases hl:scope.names.lookup x with _|kd
 ·rw[hl]at h;rcases h with h|h<;>exact J4 h
 ·
   rw[hl]at h;have hm:=xb hl;have hn:=k.cell _ hm;simp only[xW]at h
   cases kd with
   |free=>exact hm
   |cell=>exact absurd rfl hn
   |_=>rcases h with h|h<;>simp at h
def F6.cells(k:F6 X scope N caps)(ok:X.Ok):∀p∈scope.names,p.2= .free->∃c,X.env.cells.lookup p.1=some c:=λp hp e=>ok.has p.1 (k.free p hp e)
def qj(I:Inv X Ee σ H s)(k:F6 X scope N caps)(hC:s.heap.objs.size<=C)(Ga:∀b∈ex,N2 X Ee H b)(Eo:∀b∈ex,b<s.heap.objs.size):(T8 X scope N C s H ex).Ok where
 mod:=I.ok.mod
 kind:=k.kind
 glob:=I.ok.glob
 blt:=I.ok.blt
 above:=hC
 inj:=λx y c h1 h2=>I.ok.inj x y c (Z9 h1) (Z9 h2)
 has:=λx hx=>by have hm:=k.isFree hx;obtain⟨c,hc⟩:=k.cells I.ok _ hm rfl;exact RM hc _ _ hm
 cab:=λx c h=>by exact SA h
 hd:=I.ok.hd
 frames:=I.ok.frames
 stk:=.inl rfl
 exf:=λb hb=>⟨zE (jn (Eo b hb) hC),λx c e=>(Ga b hb).2.2.2.2.1 x c (Z9 e)⟩
 bs:=I.bs
 bsz:=zK I.ok.bsz I.sz
 noex:=λb o e hb=>by
  rcases (Ga b hb).2.2.2.1 with z|z
  ·exact I.ok.noex b o e z
  ·exact absurd (jn (zu (I.ok.bs b o e).1) z) (yN _)
 exfs:=λb hb z=>by
  rcases zy.mp (I.stkSub b z)with e|e
  ·exact(Ga b hb).2.1 e
  ·exact(Ga b hb).2.2.1 e
 funs:=I.stack
 frf:=I.stkFree
 gd:=I.ok.gd
def rQ{σ:List (Option α)}{i:Nat}(h:(T9 caps σ)[i]? =some (some v)):∃j,caps[i]? =some (some j)/\σ[j]? =some (some v):=by
 unfold T9 at h;rw[zU]at h;rcases e:caps[i]? with _|o
 ·rw[e]at h;exact J4 h
 ·
   rw[e]at h;rcases o with _|j
   ·cases h
   ·
     refine⟨j,rfl,?_⟩;simp only[xW,Option.bind_some,zN]at h;rcases e2:σ[j]? with _|w
     ·rw[e2]at h;exact J4 h
     ·rw[e2]at h;simp at h;rw[h]
def Nh{h₁:Heap}{tk:Nat}(I:Inv X Ee σ H s)(k:F6 X scope N caps)(hC:s.heap.objs.size<C)(Ga:∀b∈ex,N2 X Ee H b)(Eo:∀b∈ex,b<s.heap.objs.size)
 (old:∀b o,s.heap.get? b=some o->h₁.get? b=some o) (hns:h₁.Ns C λ_=>none) (Fa:h₁.get? s.heap.objs.size=some {cls:=.type "list",data:=.seq ([]:List zk).toArray 0}):
 Inv (T8 X scope N C s H ex) [] (T9 caps σ) (upd H s.heap.objs.size (.lst [])) {s with heap:=h₁,toks:=tk}:=by
 have hD:H s.heap.objs.size=none:=I.hok.fresh (zp _);refine⟨qj I k (yM hC) Ga Eo,rfl,I.bare,Un.laid old (zp _) hD,⟨_,hns,λi x v h1 h2 h3=>?_⟩,λx c e=>?_,?_,λx c e=>?_,λp hp=>absurd (show p∈([]:PNS)from hp) (by simp),?_,?_⟩
 · obtain⟨j,e1,e2⟩:=rQ h2;obtain⟨y,e3,e4,e5⟩:=k.caps i j e1;have exy:y=x:=by
    have:some y=some x:=e3.symm.trans h1;exact jc this
   subst exy;have hk:=k.free _ e5 rfl;obtain⟨m,hn,hl⟩:=I.loc;obtain⟨u,r,l⟩:=hl j y v e4 e2 (by rcases hk with z|z;exact .inr (.inl z);exact .inr (.inr z));refine⟨u,r,.inr ?_⟩;rcases l with⟨z,_⟩|⟨_,c,ec,hc⟩
   ·rcases hk with z'|z'<;>(rw[z]at z';cases z')
   · refine⟨?_,c,?_,?_⟩
     · rcases h3 with h3|h3|h3
       ·exfalso;have e:(relabel scope X.env).names.lookup y= (scope.names.lookup y).map λk=>if (k==NameKind.free&&X.env.scope.kind == .function&&X.env.kindOf y==some .cell)then NameKind.cell else k:=PK scope.names;have h3':(relabel scope X.env).names.lookup y=some .local:=h3;rw[e]at h3';rw[k.frees _ e5 rfl]at h3';simp only[xW]at h3';split at h3'<;>cases h3'
       ·exact .inl h3
       ·exact .inr h3
     · obtain⟨c',ec'⟩:=RM ec scope.names [] e5;have:=Z9 ec';rw[ec]at this
       cases this
       exact ec'
     ·obtain⟨o,ho,hd⟩:=hc;exact⟨o,old _ _ ho,hd⟩
 ·obtain⟨v,o,ho,hd⟩:=I.cell x c (Z9 e);exact⟨v,o,old _ _ ho,hd⟩
 ·show upd H s.heap.objs.size (.lst []) C=none;rw[J0 (jX hC)];exact I.hok.fresh (yM hC)
 ·obtain⟨v,o,ho,hd⟩:=I.cell x c (Z9 e);rw[J0 (zE (zu ho))];exact I.freeC x c (Z9 e)
 ·exact I.hok.laid old (zp _) ⟨zY _, [],0,.nil,Fa⟩
 ·show (T9 caps σ).length=N.length;unfold T9;rw[zg];exact k.len
def ah(I:Inv X Ee σ H s)(Ga:∀b∈ex,N2 X Ee H b)(hC:s.heap.objs.size<C)
 (I':Inv (T8 X scope N C s H ex) pins' X1 H' s') (sb:jy C s'.heap h'):Inv X Ee σ H' {s' with heap:=h'}:=by
 have hos:s'.os=s.os:=I'.os;have hfree:H' C=none:=I'.free;have neC:∀b o,s.heap.get? b=some o->b≠C:=λb o e z=>by have:=zu e;rw[z]at this;exact absurd (Zl hC this) (yN _)
 have hun:Un (frs X.stack) ex H H' s.heap s'.heap:=I'.base;have hun2:Un (frs X.stack) ex H H' s.heap h':=by
  refine⟨λb o e n hb hx=>(sb.2 b (neC b o e)).trans (hun.keep b o e n hb hx),λb o e n hb hx=>?_,hun.free,λb o e hx=>?_,hun.tups,hun.frzs,hun.tbls⟩
  ·obtain⟨sl,q⟩:=hun.slot b o e n hb hx;exact⟨sl,(sb.2 b (neC b o e)).trans q⟩
  ·obtain⟨o',q⟩:=hun.there b o e hx;exact⟨o',(sb.2 b (neC b o e)).trans q⟩
 have hok2:HOk X.prog X.w H' h':=λa o e=>by
  have nc:∀c u,H' c=some u->c≠C:=λc u q z=>by rw[z,hfree]at q;exact J4 q
  refine(I'.hok a o e).stay (λb u hb q=>?_) (λ_ q=>q) λ_ _ q=>q;rcases hb with rfl|hb
  ·exact(sb.2 b (nc b o e)).trans q
  ·exact(sb.2 b (nc b _ hb)).trans q
 obtain⟨hh,g,d,t,os'⟩:=s';obtain rfl:os'=s.os:=hos;have fin:=I.call (d':=d) (t':=t) hun2 hok2 I'.bare λb hb=>⟨(Ga b hb).2.2.2.1,(Ga b hb).2.1,(Ga b hb).2.2.2.2.1,(Ga b hb).2.2.2.2.2⟩;exact fin
end
def hide(q:Addr)(H:Hp):Hp:=λb=>if b=q then none else H b
def AD:hide q H q=none:=by unfold hide;rw[if_pos rfl]
def W3(h:b≠q):hide q H b=H b:=by unfold hide;rw[if_neg h]
def S9(h:hide q H b=some o):b≠q/\H b=some o:=by
 by_cases e:b=q
 ·rw[e,AD]at h;exact J4 h
 ·rw[W3 e]at h;exact⟨e,h⟩
def oW(h:H q=some o):upd (hide q H) q o=H:=by
 funext b;by_cases e:b=q
 ·rw[e,Q6,h]
 ·rw[J0 e,W3 e]
def FE:hide q (upd H q o)=hide q H:=by
 funext b;by_cases e:b=q
 ·rw[e,AD,AD]
 ·rw[W3 e,W3 e,J0 e]
def fI(h:H q=none):hide q H=H:=by
 funext b;by_cases e:b=q
 ·rw[e,AD,h]
 ·rw[W3 e]
mutual
theorem d8.sq(k:∀a xs,SqT c.K H a xs->SqT c.K H' a xs):∀ {d} {v},d8 c μ H d v->d8 c μ H' d v
 | .non,_,h=>h
 | .bl _,_,h=>h
 | .int _,_,h=>h
 | .str _,_,h=>h
 | .ty _,_,h=>h
 | .fn _,_,h=>h
 | .ref i,v,h=>by unfold d8 at h ⊢;exact h
 | .tup l,v,h=>by unfold d8 at h ⊢;obtain⟨a,vs,e,q,r⟩:=h;exact⟨a,vs,e,k _ _ q,m9.sq k r⟩
theorem m9.sq(k:∀a xs,SqT c.K H a xs->SqT c.K H' a xs):∀ {l} {vs},m9 c μ H l vs->m9 c μ H' l vs
 |[],_,h=>h
 |d::ds,vs,h=>by unfold m9 at h ⊢;obtain⟨v,r,e,q,t⟩:=h;exact⟨v,r,e,d8.sq k q,m9.sq k t⟩
end
theorem Z6.sq(k:∀a xs,SqT c.K H a xs->SqT c.K H' a xs):∀ {l} {vs},Z6 c μ H l vs->Z6 c μ H' l vs
 |[],_,h=>h
 |(_,d)::ds,vs,h=>by obtain⟨v,r,e,q,t⟩:=h;exact⟨v,r,e,d8.sq k q,Z6.sq k t⟩
def eC(hq:H q=some (.lst vs)){K:zn}(a:Addr)(xs:List V)(h:SqT K H a xs):SqT K (hide q H) a xs:=by
 rcases h with(h|⟨o,h⟩)|h
 ·exact .inl (.inl (by rw[W3 (λe=>by rw[e,hq]at h;cases h)];exact h))
 ·exact .inl (.inr ⟨o,by rw[W3 (λe=>by rw[e,hq]at h;cases h)];exact h⟩)
 ·exact .inr h
def iE{K:zn}(a:Addr)(xs:List V)(h:SqT K (hide q H) a xs):SqT K H a xs:=by
 rcases h with(h|⟨o,h⟩)|h
 ·exact .inl (.inl (S9 h).2)
 ·exact .inl (.inr ⟨o,(S9 h).2⟩)
 ·exact .inr h
def K5.sq(k:∀a xs,SqT c.K H a xs->SqT c.K H' a xs)(h:K5 c μ H X9 σ):K5 c μ H' X9 σ:=⟨h.1,λi d e=>let ⟨v,a,b⟩:=h.2 i d e;⟨v,a,b.sq k⟩⟩
def Ext.hide(x:Ext μ H X2 H')(n:q∉μ)(hq:H q=some (.lst vs)):H' q=some (.lst vs)/\q∉X2/\Ext μ (DL.hide q H) X2 (DL.hide q H'):=by
 refine⟨x.oth q _ hq n,λh=>?_,x.pre,λa h1 h2=>?_,λb o e nb=>?_,λb xs e=>?_,λb o u e=>?_⟩
 ·have:=x.new q h n;rw[hq]at this;exact oG this
 · by_cases e:a=q
   ·rw[e,AD]
   ·rw[W3 e];exact x.new a h1 h2
 ·obtain⟨e1,e2⟩:=S9 e;rw[W3 e1];exact x.oth b o e2 nb
 ·obtain⟨e1,e2⟩:=S9 e;rw[W3 e1];exact x.tup b xs e2
 ·obtain⟨e1,e2⟩:=S9 e;rw[W3 e1];exact x.frz b o u e2
def Ext.unhide(x:Ext μ H X2 (DL.hide q H')):Ext μ H X2 H':=
 ⟨x.pre,x.new,λb o e n=>(S9 (x.oth b o e n)).2,λb xs e=>(S9 (x.tup b xs e)).2,λb o u e=>(S9 (x.frz b o u e)).2⟩
def v6.hide(h:v6 c μ G H)(n:q∉μ)(hq:H q=some (.lst vs)):v6 c μ G (DL.hide q H):=
 ⟨h.len,h.inj,λi o a g m=>by
  have na:a≠q:=λe=>n (by rw[<-e];exact yX m);have r:=h.obj i o a g m
  cases o with
  |lst l=>obtain⟨ws,e,r⟩:=r;exact⟨ws,by rw[W3 na];exact e,r.sq (eC hq)⟩
  |dct l=>obtain⟨ws,e,r⟩:=r;exact⟨ws,by rw[W3 na];exact e,r.sq (eC hq)⟩
  |rod l=>obtain⟨ws,o,e,r⟩:=r;exact⟨ws,o,by rw[W3 na];exact e,r.sq (eC hq)⟩
  |rol l=>
    obtain⟨ws,e,r⟩:=r;refine⟨ws,?_,r.sq (eC hq)⟩;rcases e with⟨o,e⟩|e
    ·exact .inl ⟨o,by rw[W3 na];exact e⟩
    ·exact .inr e⟩
def v6.unhide(h:v6 c μ G (DL.hide q H)):v6 c μ G H:=
 ⟨h.len,h.inj,λi o a g m=>by
  have r:=h.obj i o a g m
  cases o with
  |lst l=>obtain⟨ws,e,r⟩:=r;exact⟨ws,(S9 e).2,r.sq iE⟩
  |dct l=>obtain⟨ws,e,r⟩:=r;exact⟨ws,(S9 e).2,r.sq iE⟩
  |rod l=>obtain⟨ws,o,e,r⟩:=r;exact⟨ws,o,(S9 e).2,r.sq iE⟩
  |rol l=>
    obtain⟨ws,e,r⟩:=r;refine⟨ws,?_,r.sq iE⟩;rcases e with⟨o,e⟩|e
    ·exact .inl ⟨o,(S9 e).2⟩
    ·exact .inr e⟩
inductive UH{α:Type}(c:Wc)(q:Addr)(vs:List V)(μ:List Addr)(H:Hp)(K:α->List Addr->DH->Hp->Prop)(a:α)(X2:List Addr)(G':DH)(H':Hp):Prop
 |mk (e:H' q=some (.lst vs)) (n:q∉X2) (h:v6 c X2 G' (DL.hide q H')) (x:Ext μ (DL.hide q H) X2 (DL.hide q H')) (k:K a X2 G' (DL.hide q H'))
def c7.unhide{r:Option (Except Str α×DH)}{K:α->List Addr->DH->Hp->Prop}(n:q∉μ)(hq:H q=some (.lst vs))(p:c7 c ZF μ (DL.hide q H) r K):
 c7 c Z μ H r (UH c q vs μ H K):=by
 match r,p with
 |some (.ok a,G'),p=>
   intro X2 H' x h;obtain⟨e1,e2,e3⟩:=x.hide n hq;have h2:=h.hide e2 e1;exact⟨e1,e2,h2,e3,p X2 _ e3 h2⟩
 |some (.error z,G'),p=>
   intro X2 H' x h;obtain⟨e1,e2,e3⟩:=x.hide n hq;exact(p X2 _ e3 (h.hide e2 e1)).elim
def v6.mem_lt(I:Inv X Ee σ H s)(h:v6 (wc X) μ G H)(ha:a∈μ):a<s.heap.objs.size:=by
 obtain⟨i,hi⟩:=List.getElem?_of_mem ha;have hl:i<G.length:=by rw[<-h.len];exact lt_of_get hi
 have r:=h.obj i G[i] a (zj hl) hi;rcases e:G[i]with l|l|l|l
 ·rw[e]at r;obtain⟨_,e,_⟩:=r;exact I.hok.lt e
 ·
   rw[e]at r;obtain⟨ws,e,_⟩:=r;rcases e with⟨o,e⟩|e
   ·exact I.hok.lt e
   · rcases e with(e|⟨o,e⟩)|⟨o,Ef,n,e,_⟩
     ·exact J4 e
     ·exact J4 e
     ·exact zu (I.kIn a o e)
 ·rw[e]at r;obtain⟨_,e,_⟩:=r;exact I.hok.lt e
 ·rw[e]at r;obtain⟨_,_,e,_⟩:=r;exact I.hok.lt e
def PTs(X:Cx)(ifs:List Expr)(t:TT):Prop:=
 ∀(Ee:PNS) (s:zD) (σ:St) (H:Hp) (Q:Bool->Hp->Prop),Inv X Ee σ H s->t σ H Q->
  zw (zG X.prog X.w) X.A (forIn ifs true λc r=>if r=true then do let ok <-isTrue c X.env (eval c X.env);pure (ForInStep.yield ok)else pure (ForInStep.yield r)) (TP X Ee σ Q) X.xe s
structure DTs(X:Cx)(Z:XC)(ifs:List Expr)(f:DSt->M Bool):Prop where
 h:PTs X ifs (OB (wc X) Z f)
def K1:DSt->M Bool:=λ_=>pure true
def Qx:DTs X Z [] K1:=⟨λEe s σ H Q I Eh=>Eh.elim λX9 μ G sr h p=>wpAny_tests_nil ⟨H,I,c7.ok p h⟩⟩
def Mm(h:DT X Z c t):DTs X Z [c] t:=⟨λEe s σ H Q I q=>wpAny_tests_one (h.h Ee s σ H Q I q)⟩
def K7(g:Fg)(t:DSt->M Bool)(e:Fe)(ck:DH->Bool):List D->DSt->M (List D)
 |[]=>λ_ G=>if ck G then some (.ok [],G)else none
 | d :: r => λσ G => if ck G then (do
    let WZ <-g d σ
    if <-t WZ then do
     let y <-e WZ
     let ys <-K7 g t e ck r WZ
     pure (y::ys)
    else K7 g t e ck r WZ:M (List D)) G else none
def J3(it:DSt->M Src)(caps:List (Option Nat))(g:Fg)(t:DSt->M Bool)(e:Fe):Fe:=λσ=>do
 let s <-it σ
 if s.items.length<=zq then do
  let ys <-noX (K7 g t e s.ck s.items (T9 caps σ))
  M5 (.lst ys)
 else M.stuck
def kj(h:K5 c μ H X9 σ):K5 c μ H (T9 caps X9) (T9 caps σ):=by refine⟨by simp[T9],λi d e=>?_⟩;obtain⟨j,e1,e2⟩:=rQ e;obtain⟨v,e3,r⟩:=h.2 j d e2;refine⟨v,?_,r⟩;unfold T9;rw[zU,e1];simp[e3]
section
set_option maxHeartbeats 1000000 in
def CKV(c:Wc)(Q:VK)(d:D)(X2:List Addr)(_:DH)(H':Hp):Prop:=∀v,d8 c X2 H' d v->Q v H'
def CKR(c:Wc)(Z:XC)(Q:VK)(ys Q8:List D)(μ:List Addr)(G:DH)(H:Hp):Prop:=c7 c Z μ H (M5 (.lst (ys++Q8)) G) (CKV c Q)
def tO(gg:Fg)(tt:DSt->M Bool)(fe:Fe)(ck:DH->Bool)(items:List D)(σ:DSt)(y:D):M (List D):=do let ys <-K7 gg tt fe ck items σ;pure (y::ys)
def TR(gg:Fg)(tt:DSt->M Bool)(fe:Fe)(ck:DH->Bool)(items:List D)(σ:DSt)(b:Bool):M (List D):=if b=true then (do let y <-fe σ;let ys <-K7 gg tt fe ck items σ;pure (y::ys))else K7 gg tt fe ck items σ
def Dc(gg:Fg)(tt:DSt->M Bool)(fe:Fe)(ck:DH->Bool)(items:List D)(σ:DSt):M (List D):=do if <-tt σ then do {let y <-fe σ;let ys <-K7 gg tt fe ck items σ;pure (y::ys)}else K7 gg tt fe ck items σ
inductive CG(X:Cx)(Z:XC)(Q:VK)(vs:List V)(DD:Addr)(ys:List D)(X2:List Addr)(H5:Hp)(m:DSt->M (List D))(WP:St)(H6:Hp):Prop
 |mk (WU:DSt) (μ6:List Addr) (G6:DH) (s:K5 (wc X) μ6 H6 WU WP) (h:v6 (wc X) μ6 G6 H6) (u:UH (wc X) DD vs X2 H5 (λX9 μ G H=>c7 (wc X) ZF μ H (m X9 G) (CKR (wc X) Z Q ys)) WU μ6 G6 H6)
inductive CT(X:Cx)(Z:XC)(Q:VK)(vs:List V)(DD:Addr)(ys:List D)(WU:DSt)(WP:St)(μ6:List Addr)(H6:Hp)(m:Bool->M (List D))(b:Bool)(H7:Hp):Prop
 |mk (WK:List Addr) (G7:DH) (s:K5 (wc X) WK H7 WU WP) (h:v6 (wc X) WK G7 H7) (u:UH (wc X) DD vs μ6 H6 (λb μ G H=>c7 (wc X) ZF μ H (m b G) (CKR (wc X) Z Q ys)) b WK G7 H7)
inductive CE(X:Cx)(Z:XC)(Q:VK)(vs:List V)(DD:Addr)(ys:List D)(WU:DSt)(WP:St)(WK:List Addr)(H7:Hp)(m:D->M (List D))(v:V)(H8:Hp):Prop
 |mk (y:D) (μ8:List Addr) (G8:DH) (r:d8 (wc X) μ8 H8 y v) (s:K5 (wc X) μ8 H8 WU WP) (h:v6 (wc X) μ8 G8 H8) (u:UH (wc X) DD vs WK H7 (λy μ G H=>c7 (wc X) ZF μ H (m y G) (CKR (wc X) Z Q ys)) y μ8 G8 H8)
inductive vL(Y:Cx)(Z:XC)(Q:VK)(gg:Fg)(tt:DSt->M Bool)(fe:Fe)(src:Src)(fp:List Addr)(tn:Nat->Heap->Prop)(DD:Addr)(WY:List Addr)(H2:Hp)(n:Nat)(s':zD):Prop
 |mk (i:Nat) (ys:List D) (vs:List V) (X1:St) (H':Hp) (WW:DSt) (X2:List Addr) (G':DH) (e:n=src.items.length-i) (hi:i<=src.items.length) (hv:vs.length<=i)
    (I:Inv Y [] X1 H' s') (st:tn i s'.heap) (fr:∀b∈fp,H' b=none) (hs:H' DD=some (.lst vs)) (nD:DD∉X2)
    (x:Ext WY H2 X2 (hide DD H')) (h:v6 (wc Y) X2 G' (hide DD H')) (sr:K5 (wc Y) X2 (hide DD H') WW X1) (rl:m9 (wc Y) X2 (hide DD H') ys vs)
    (p:c7 (wc Y) ZF X2 (hide DD H') (K7 gg tt fe src.ck (src.items.drop i) WW G') (CKR (wc Y) Z Q ys))
def Fx{Y:Cx}{Q:VK}{src:Src}{tn:Nat->Heap->Prop}{DD it:Addr}{H2:Hp}{J:It}{R:Result->zD->Prop}(hcX:Y.calm=true)(hg:DG Y ZF tg gg)(ht:DTs Y ZF ifs tt)(he:DE Y ZF elt fe)(T:F9 Y.prog Y.w Y.K tg J fp it tn)
 (fpX:∀(H':Hp) (b:Addr),b∈fp->H' b=none->N2 Y [] H' b) (hJ:ItD (wc Y) WY H2 J src) (Ei:src.items.length<=zq) (fin:∀(H':Hp) (X1:St) (s4:zD),Inv Y [] X1 H' s4->Q (.ref DD) H'->R (.ok .next) s4) (n:Nat) (s':zD) (h:vL Y Z Q gg tt fe src fp tn DD WY H2 n s') {NX:zD->Prop} (nx:∀m s,m<n->vL Y Z Q gg tt fe src fp tn DD WY H2 m s->NX s):
 zw (zG Y.prog Y.w) Y.A (xS (.ref it)) (λr W1=>match r with
  |none=>R (.ok .next) W1
  | some v => zw (zG Y.prog Y.w) Y.A (Zf tg (.ref it) v) (λ_ s₁' => zw (zG Y.prog Y.w) Y.A (YW tg Y.env v) (λ_ s₂ =>
     zw (zG Y.prog Y.w) Y.A (forIn ifs true λc r=>if r=true then do let ok <-isTrue c Y.env (eval c Y.env);pure (ForInStep.yield ok)else pure (ForInStep.yield r)) (λok s₃=>
      if ok=true then zw (zG Y.prog Y.w) Y.A (eval elt Y.env) (λx s₄=>
       zw (zG Y.prog Y.w) Y.A (call (.builtin "list.append") [.ref DD,x]) (λ_ s₅=>NX s₅) Y.xe s₄) Y.xe s₃
      else NX s₃) Y.xe s₂) Y.xe s₁') Y.xe W1) Y.xe s':=by
 obtain⟨i,ys,vs,X1,H',WW,X2,G',rfl,hi',hvl,I',Ew,fr',hvs,nD',x',h',sr',rl,p'⟩:=h;by_cases Eo:i<src.items.length
 · rw[xQ Eo]at p';unfold K7 at p';split at p'
   case isFalse=>exact p'.elim
   rename_i ck;obtain⟨q1,_⟩:=hJ X2 G' H' x'.unhide h'.unhide ck i;obtain⟨go,yl⟩:=q1 _ (zj Eo);refine thn (T.item (Y) rfl rfl rfl hcX i [] s' X1 H' Y.xe I' (λb hb=>fpX H' b hb (fr' b hb)) Ew go) λr s4 z4=>?_;obtain⟨u,rfl,h4⟩:=z4;refine thn h4 λ_ s5 z5=>?_;obtain⟨x,H5,I5,r5,y5,st5,fr5⟩:=z5;obtain⟨k5,h5,rx5⟩:=yl x H5 y5;obtain⟨e5,n5,k5'⟩:=k5.hide nD' hvs;have I5':=I5.pinned (λb hb=>fpX H5 b hb (fr5 b hb)) (T.obj _ _ st5);have keepIt:∀ {WM:St} {H7:Hp} {s7:zD},Inv (Y) ([]++qE fp s5.heap) WM H7 s7->Inv (Y) [] WM H7 s7/\tn (i+1) s7.heap/\∀b∈fp,H7 b=none:=λ{WM H7 s7} I7=>by refine⟨I7.unpinned,T.keep _ _ _ st5 λb hb o e=>(I7.pin (b,o) (zP _ (zP _ (sC hb e)))).1,λb hb=>?_⟩;obtain⟨o,e,d⟩:=T.obj _ _ st5 b hb;exact(I7.pin (b,o) (zP _ (zP _ (sC hb e)))).2.1
   have p5:=c7.unhide (Z:=ZF) n5 e5 (c7.bind (p'.from k5'));refine thn (hg.h _ s5 X1 H5 x u _ I5' r5 ⟨_,WW,X2,G',rx5,(sr'.mono k5').sq iE,h5,p5.mono λWU μ6 G6 H6 x6 h6 q6 WP sr6=>(⟨WU,μ6,G6,sr6,h6,q6⟩:CG Y Z Q vs DD ys X2 H5 (Dc gg tt fe src.ck (src.items.drop (i+1))) WP H6)⟩) λ_ s6 z6=>?_;obtain⟨WP,H6,I6,WU,μ6,G6,sr6,h6,e6,n6,hh6,x6,p6⟩:=z6;have p6':=c7.unhide (Z:=ZF) n6 e6 (c7.bind p6);refine thn (ht.h _ s6 WP H6 (CT Y Z Q vs DD ys WU WP μ6 H6 (TR gg tt fe src.ck (src.items.drop (i+1)) WU)) I6 ⟨WU,μ6,G6,sr6,h6,p6'.mono λb WK G7 H7 x7 h7 q7=>⟨WK,G7,sr6.mono x7,h7,q7⟩⟩) λb s7 z7=>?_;obtain⟨H7,I7,WK,G7,sr7,h7,e7,n7,hh7,x7,p7⟩:=z7;unfold TR at p7;have x27:Ext WY H2 WK (hide DD H7):=x'.trans (k5'.trans (x6.trans x7));have rl7:m9 (wc Y) WK (hide DD H7) ys vs:=rl.mono (k5'.trans (x6.trans x7));rcases b with _|_
   ·
     rw[if_neg jm]at p7 ⊢;obtain⟨I8,st8,fr8⟩:=keepIt I7;exact nx _ _ (Xa _ _ Eo) ⟨i+1,ys,vs,WP,H7,WU,WK,G7,rfl,Eo,Nat.le_succ_of_le hvl,I8,st8,fr8,e7,n7,x27,hh7,sr7.sq (eC e7),rl7,p7⟩
   ·
     rw[if_pos rfl]at p7 ⊢;have p7':=c7.unhide (Z:=ZF) n7 e7 (c7.bind p7);refine thn (he.h _ s7 WP H7 (CE Y Z Q vs DD ys WU WP WK H7 (tO gg tt fe src.ck (src.items.drop (i+1)) WU)) I7 ⟨WU,WK,G7,sr7,h7,p7'.mono λy μ8 G8 H8 x8 h8 q8 v rv=>⟨y,μ8,G8,rv,sr7.mono x8,h8,q8⟩⟩) λyu s8 z8=>?_;obtain⟨yv,H8,I8,ry,y,μ8,G8,ryd,sr8,h8,e8,n8,hh8,x8,p8⟩:=z8;unfold tO at p8;refine thn (LQ _ s8 WP H8 (.ref DD) [yv] (.ref DD) [yu] (λ_ H9=>H9=upd H8 DD (.lst (vs++[yv]))) I8 rfl (.cons ry .nil) ⟨DD,vs,yv,rfl,rfl,e8,by lia,rfl⟩) λ_ s9 z9=>?_;obtain⟨_,H9,I9,_,rfl⟩:=z9;obtain⟨I10,st10,fr10⟩:=keepIt I9;have hd9:hide DD (upd H8 DD (.lst (vs++[yv])))=hide DD H8:=FE;refine nx _ _ (Xa _ _ Eo) ⟨i+1,ys++[y],vs++[yv],WP,_,WU,μ8,G8,rfl,Eo,by rw[zJ];exact Nat.succ_le_succ hvl,I10,st10,fr10,Q6,n8,?_,?_,?_,?_,?_⟩
     ·rw[hd9];exact x27.trans x8
     ·rw[hd9];exact hh8
     ·rw[hd9];exact sr8.sq (eC e8)
     ·rw[hd9];exact(rl7.mono x8).append ⟨yv, [],rfl,ryd.sq (eC e8),rfl⟩
     ·rw[hd9];refine(c7.bind p8).mono λQ8 μ'' G'' H'' x'' h'' q''=>?_;have q3:=c7.ok q'' h'';show c7 (wc Y) Z μ'' H'' (M5 (.lst (ys++[y]++Q8)) G'') (CKV (wc Y) Q);rw[yH];exact q3
 · have e:i=src.items.length:=by lia
   subst e;rw[List.drop_length]at p';unfold K7 at p';split at p'
   case isFalse=>exact p'.elim
   rename_i ck;obtain⟨_,q2⟩:=hJ X2 G' H' x'.unhide h'.unhide ck src.items.length;refine thn (T.done (Y) rfl rfl rfl hcX src.items.length [] s' X1 H' Y.xe I' (λb hb=>fpX H' b hb (fr' b hb)) Ew (q2 (zp _))) λr s4 ⟨hr,I4⟩=>?_;subst hr;have p9:c7 (wc Y) Z X2 (hide DD H') (M5 (.lst (ys++[])) G') (CKV (wc Y) Q):=c7.ok p' h';rw[yV]at p9;have q9:=U9 (q:=DD) h' rl p9 AD;rw[oW hvs]at q9;exact fin H' X1 s4 I4 q9
def cN{use:Option (zk->Sem Unit)}{Q:VK}{ps:Pos}{Ee:PNS}{s:zD}{σ:St}{H:Hp}{X9:DSt}{G:DH}(hc:X.calm=true)(hi:DI X Z tg iter it)(k:F6 X scope N caps)
 (hg:∀C s H ex,DG (T8 X scope N C s H ex) ZF tg gg) (ht:∀C s H ex,DTs (T8 X scope N C s H ex) ZF ifs tt) (he:∀C s H ex,DE (T8 X scope N C s H ex) ZF elt fe)
 (hs:∀x,xc iter X.env x=pure x) (I:Inv X Ee σ H s) (sr:K5 (wc X) μ H X9 σ) (hr:v6 (wc X) μ G H) (p:c7 (wc X) Z μ H (J3 it caps gg tt fe X9 G) λd X2 _ H'=>∀v,d8 (wc X) X2 H' d v->Q v H')
 (fin:∀(DD C:Addr) (s4:zD) (H':Hp) m (o:Flow),s4.heap.Ns C m->(∀h'',jy C s4.heap h''->Inv X Ee σ H' {s4 with heap:=h''})->H' C=none->(∀H9:Hp,H9 C=none->N2 X Ee H9 C)->Q (.ref DD) H'->compPost (zG X.prog X.w) X.A X.xe use PQ (.ref DD) C (.ok o) s4):
 zw (zG X.prog X.w) X.A (comprehension (.ListComp elt [⟨tg,iter,ifs,0⟩] scope pos) scope X.env ps (newList []) false (eval iter X.env) use) PQ X.xe s:=by
 replace p:c7 (wc X) Z μ H (J3 it caps gg tt fe X9 G) (CKV (wc X) Q):=p;have p1:=c7.bind p;refine wpAny_comprehension_free rfl hs (np (k.cells I.ok)) k.kind k.names ?_;refine thn (hi.h Ee s σ H (λJ H1=>∃src X0 G1,Ext μ H X0 H1/\v6 (wc X) X0 G1 H1/\ItD (wc X) X0 H1 J src/\
  c7 (wc X) Z X0 H1 ((if src.items.length<=zq then (do let ys <-noX (K7 gg tt fe src.ck src.items (T9 caps X9));M5 (.lst ys))else M.stuck:M D) G1) (CKV (wc X) Q))
  I ⟨X9,μ,G,sr,hr,p1.mono λsrc X0 G1 H1 x1 h1 p1 J hJ=>⟨src,X0,G1,x1,h1,hJ,p1⟩⟩) λv s1 q1=>thn q1 λitv s2 q2=>?_
 obtain⟨itA,fp,tn,J,H2,rfl,I2,T,st2,f2,src,WY,G2,x2,h2,hJ,p2⟩:=q2;split at p2
 case isFalse=>exact p2.elim
 rename_i Ei;have hfp:∀b∈fp,b<s2.heap.objs.size:=λb hb=>by obtain⟨o,e,_⟩:=T.obj _ _ st2 b hb;exact zu e
 refine yL (wpAny_newFunctionEnv k.cell (by intro y hy;simp at hy) (λh₁ hns₁ hsb₁=>?_) k.kind);dsimp only at hns₁ hsb₁ ⊢;generalize hHP:s2.heap.push {cls:=.type "list",dict:=none,data:=.seq ([]:List zk).toArray}=HP at hns₁ hsb₁ ⊢;have hC:HP.objs.size=s2.heap.objs.size+1:=by rw[<-hHP,yw]
 have hCl:s2.heap.objs.size<HP.objs.size:=by rw[hC];exact xO _
 have hDC:s2.heap.objs.size≠HP.objs.size:=zE hCl;have old:∀b o,s2.heap.get? b=some o->h₁.get? b=some o:=λb o e=>hsb₁.extBut b o (by have:=zu e;exact zE (Zl this hCl)) (zh _ (hHP▸zh _ e));have Fa:h₁.get? s2.heap.objs.size=some {cls:=.type "list",data:=.seq ([]:List zk).toArray 0}:=hsb₁.extBut _ _ hDC (zh _ (hHP▸zt _ rfl));have hD:H2 s2.heap.objs.size=none:=I2.hok.fresh (zp _);have nD:s2.heap.objs.size∉WY:=λz=>yN _ (h2.mem_lt I2 z);have st1:tn 0 h₁:=T.keep _ _ _ st2 λb _ o e=>old b o e;have fpX:∀(H':Hp) (b:Addr),b∈fp->H' b=none->N2 (T8 X scope N HP.objs.size s2 H2 fp) [] H' b:=λH' b hb hn=>
  ⟨hn,zE (Zl (hfp b hb) hCl),λz=>by
   rcases zy.mp (I2.stkSub b z)with e|e
   ·exact(f2 b hb).2.1 e
   ·exact(f2 b hb).2.2.1 e,.inl hb,λx c e=>(f2 b hb).2.2.2.2.1 x c (Z9 e),λp hp=>absurd (show p∈([]:PNS)from hp) (by simp)⟩
 have hcX:(T8 X scope N HP.objs.size s2 H2 fp).calm=true:=hc;have p3:=gL (c7.bind p2);generalize hDD:s2.heap.objs.size=DD at *;have loop:∀s₃:zD,s₃= {s2 with heap:=h₁,toks:=s2.toks+([]:List (Str×zk)).length}->
  Zs (zG X.prog X.w) X.A (.compLoop (.ListComp elt [⟨tg,iter,ifs,0⟩] scope pos) 0 (.ref itA) (.ref DD) (compEnvC scope (P6 X.env scope.names []) HP.objs.size X.env))
   (compPost (zG X.prog X.w) X.A X.xe use PQ (.ref DD) HP.objs.size) s₃:=by
  rintro s₃ rfl;refine mX (vL (T8 X scope N HP.objs.size s2 H2 fp) Z Q gg tt fe src fp tn DD WY H2) (λn s' h=>Fx hcX (hg _ _ _ _) (ht _ _ _ _) (he _ _ _ _) T fpX hJ Ei (λH' X1 s4 I4 q9=>?_) n s' h λm s h1 h2=>⟨m,h1,h2⟩) src.items.length
   ⟨0, [], [],T9 caps σ,upd H2 DD (.lst []),T9 caps X9,WY,G2,rfl,zY _,zp _,?_,st1,λb hb=>?_,Q6,nD,?_,?_,?_,rfl,?_⟩
  ·obtain⟨m,hn,_⟩:=I4.loc;exact fin DD HP.objs.size s4 H' m _ hn (λh'' sb=>ah I2 (λb hb=>f2 b hb) (by rw[hDD];exact hCl) I4 sb) I4.free (λH9 hn9=>I2.fpOk (by rw[hDD];exact yM hCl) hn9) q9
  ·have:=Nh (tk:=s2.toks+([]:List (Str×zk)).length) I2 k (by rw[hDD];exact hCl) f2 (λb hb=>by rw[hDD];exact hfp b hb) old hns₁ (by rw[hDD];exact Fa);rw[hDD]at this;exact this
  ·rw[J0 (zE (hfp b hb))];exact(f2 b hb).1
  ·rw[FE,fI hD];exact Ext.refl _ _
  ·rw[FE,fI hD];exact h2
  ·rw[FE,fI hD];exact kj (sr.mono x2)
  ·rw[FE,fI hD,List.drop_zero];exact p3
 exact codeAny_compStart_list (loop _ rfl) (T.self _ 0 _ _ _ st1 (loop _ rfl))
def rh(hc:X.calm=true)(hi:DI X Z tg iter it)(k:F6 X scope N caps)
 (hg:∀C s H ex,DG (T8 X scope N C s H ex) ZF tg gg) (ht:∀C s H ex,DTs (T8 X scope N C s H ex) ZF ifs tt) (he:∀C s H ex,DE (T8 X scope N C s H ex) ZF elt fe)
 (hs:∀x,xc iter X.env x=pure x):DE X Z (.ListComp elt [⟨tg,iter,ifs,0⟩] scope pos) (J3 it caps gg tt fe):=⟨by
 intro Ee s σ H Q I Eh;refine Eh.elim λX9 μ G sr hr p=>?_;rw[eval_ListComp];exact cN hc hi k hg ht he hs I sr hr p λDD C s4 H' m o hn fin _ _ q9=>⟨m,hn,λh'' sb=>⟨.ref DD,H',fin h'' sb,rfl,q9⟩⟩⟩
end
def N5(r:Nat):M DO:=λG=>match G[r]? with
 |some o=>some (.ok o,G)
 |none=>none
def listOf:DO->M (List D)
 | .lst l=>pure l
 | .rol l=>pure l
 | .dct _=>M.stuck
 | .rod _=>M.stuck
def Cp:D->M (List D)
 | .tup l=>pure l
 | .ref r=>N5 r >>= listOf
 |_=>M.stuck
def S1{α:Type}:Option α->M α
 |some a=>pure a
 |none=>M.stuck
def IxR.mono(h:IxR X r)(k:∀x y H Q,r' x y H Q->r x y H Q):IxR X r':=λva sl Ee s σ H x y v u Q I rx ry q hs=>h va sl Ee s σ H x y v u Q I rx ry (k x y H Q q) hs
def K4{f:DO->M α}{K:α->List Addr->DH->Hp->Prop}(p:c7 c Z μ H ((N5 r >>= f) G) K):∃o,G[r]? =some o/\c7 c Z μ H (f o G) K:=by
 rw[M.bind_eq]at p;unfold N5 at p;rcases e:G[r]? with _|o
 ·rw[e]at p;exact p.elim
 ·rw[e]at p;exact⟨o,rfl,p⟩
def S8{r:Option β}{f:β->M α}{K:α->List Addr->DH->Hp->Prop}(p:c7 c Z μ H ((S1 r >>= f) G) K):∃o,r=some o/\c7 c Z μ H (f o G) K:=by
 rcases r with _|o
 ·exact p.elim
 ·exact⟨o,rfl,p⟩
def tJ{f:List D->M α}{K:α->List Addr->DH->Hp->Prop}(h:v6 c μ G H)(r:d8 c μ H d v)(p:c7 c Z μ H ((Cp d >>= f) G) K):
 ∃l a vs,v= .ref a/\m9 c μ H l vs/\c7 c Z μ H (f l G) K/\((d= .tup l/\SqT c.K H a vs)\/(∃i,d= .ref i/\μ[i]? =some a/\((G[i]? =some (.lst l)/\H a=some (.lst vs))\/(G[i]? =some (.rol l)/\RoL c.K H a vs)))):=by
 rcases d with _|_|_|_|l|i|_|_<;>try (exact p.elim;done)
 ·
   unfold d8 at r;obtain⟨a,vs,e,q,rl⟩:=r;exact⟨l,a,vs,e,rl,p,.inl ⟨rfl,q⟩⟩
 ·
   unfold d8 at r;obtain⟨a,m,e⟩:=r;have p':c7 c Z μ H ((N5 i >>= λo=>listOf o >>= f) G) K:=by rw[<-M.bind_assoc];exact p
   obtain⟨o,g,p2⟩:=K4 p';have ro:=h.obj i o a g m;rcases o with l|l|l|l
   ·obtain⟨vs,q,rl⟩:=ro;exact⟨l,a,vs,e,rl,p2,.inr ⟨i,rfl,m,.inl ⟨g,q⟩⟩⟩
   ·obtain⟨vs,q,rl⟩:=ro;exact⟨l,a,vs,e,rl,p2,.inr ⟨i,rfl,m,.inr ⟨g,q⟩⟩⟩
   ·exact p2.elim
   ·exact p2.elim
def U1(r:d8 c μ H (.int i) v):v= .int i:=by unfold d8 at r;exact r
def D3(r:d8 c μ H (.str i) v):v= .str i:=by unfold d8 at r;exact r
def A8(r:d8 c μ H (.bl i) v):v= .bl i:=by unfold d8 at r;exact r
def lF(r:d8 c μ H .non v):v= .non:=by unfold d8 at r;exact r
def ofI:d8 c μ H (.int i) (.int i):=by unfold d8;rfl
def ofS:d8 c μ H (.str i) (.str i):=by unfold d8;rfl
def ofB:d8 c μ H (.bl i) (.bl i):=by unfold d8;rfl
def ofN:d8 c μ H .non .non:=by unfold d8;rfl
def CB(g:Int->Int->M D):D->D->M D:=λx y=>match x,y with
 | .int i,.int j=>g i j
 |_,_=>M.stuck
def UL[∀i j,Decidable (C i j)]{g:Int->Int->Int}(h:OpR X f (rI C λi j=>.int (g i j))):OpD X Z f (CB λi j=>if C i j then pure (.int (g i j))else M.stuck):=
 OpD.of h λx y H Q Eh=>Eh.elim λdx dy μ G rx ry hr p=>by
  rcases dx with _|_|_|_|_|_|_|_<;>rcases dy with _|_|_|_|_|_|_|_<;>first
   |exact p.elim
   |skip
  rename_i i j;unfold CB at p;dsimp only at p;split at p
  ·rename_i hc;exact⟨i,j,U1 rx,U1 ry,hc,c7.ok p hr _ ofI⟩
  ·exact p.elim
def um{g:Int->Int->Int}(h:OpR X f (qA λi j=>.int (g i j))):OpD X Z f (CB λi j=>pure (.int (g i j))):=
 OpD.of h λx y H Q Eh=>Eh.elim λdx dy μ G rx ry hr p=>by
  rcases dx with _|_|_|_|_|_|_|_<;>rcases dy with _|_|_|_|_|_|_|_<;>first
   |exact p.elim
   |exact⟨_,_,U1 rx,U1 ry,c7.ok p hr _ ofI⟩
def u4:D->D->M D:=CB λi j=>pure (.int (i-j))
def Fh:OpD X Z (yb .Sub) u4:=um iU
instance (i j:Int):Decidable (c6 i j):=by unfold c6;infer_instance
def LC(_ j:Int):Prop:=0<j/\j<2 ^ 100
instance (i j:Int):Decidable (LC i j):=by unfold LC;infer_instance
def ie:OpR X (yb .FloorDiv) (rI LC λi j=>.int (i / j)):=opI λi j _ _ _ _ _ hc q=>by
 have h1:(0:Int)<j:=hc.1;have h2:j<2 ^ 100:=hc.2;refine floordiv_int (by lia) (by rw[Int.fdiv_eq_ediv_of_nonneg i (by lia)];exact q) (.inl (PyProof.noPylong_of_log2 ?_));have h3:j.natAbs<2 ^ 100:=by lia
 have h4:j.natAbs≠0:=by lia
 have:=(Nat.log2_lt h4).mpr h3;lia
def M4:D->D->M D:=CB λi j=>if LC i j then pure (.int (i / j))else M.stuck
def Sm:OpD X Z (yb .FloorDiv) M4:=UL ie
def J9:D->D->M D:=CB λi j=>if 0<j then pure (.int (i % j))else M.stuck
def CV:OpD X Z (yb .Mod) J9:=UL mr
instance (i j:Int):Decidable (QA i j):=by unfold QA;infer_instance
def w9:D->D->M D:=CB λi j=>if QA i j then pure (.int (i ^ j.toNat))else M.stuck
def Tk:OpD X Z (yb .Pow) w9:=UL wP
def uy{w:jq}{s:zD}{t b:Addr}{ws:List zk}(ht:Xg s.heap t #[])(hb:Xg s.heap b ws.toArray)
 (h1:Q (.ref b) s):zw (zG prog w) A (yb .Add (.ref t) (.ref b)) Q E s:=by
 obtain⟨⟨cls,dd,data,sl⟩,ho,hc,n,hd⟩:=id ht;obtain⟨⟨cls2,dd2,data2,sl2⟩,Go,hc2,n2,hd2⟩:=id hb;simp only at hc hd hc2 hd2;subst hc hd hc2 hd2;exact concat_meets ⟨_,ho,rfl⟩ ⟨_,Go,rfl⟩ JD seq_tuple_add Yc ZY (ZS _ _)
  (tuple_addW0 t b #[] ws.toArray n n2 dd dd2 sl sl2 (by simp)) ⟨ho,Go,h1⟩
def Th(K:zn):R2:=λx y H Q=>∃a b ys,x= .ref a/\y= .ref b/\SqT K H a []/\SqT K H b ys/\Q (.ref b) H
def iZ:OpR X (yb .Add) (Th X.K):=by
 intro Ee s σ H x y v u Q I rx ry h;obtain⟨a,b,ys,rfl,rfl,ha,hb,q⟩:=h
 cases rx
 cases ry
 obtain⟨Ef,r,p,_⟩:=I.tuple ha;obtain⟨Gi,r2,p2,_⟩:=I.tuple hb
 cases r
 exact uy p p2 ⟨.ref b,H,I,rfl,q⟩
def V8:D->D->M D:=λx y=>match x,y with
 | .int i,.int j=>pure (.int (i+j))
 | .str a,.str b=>if a.length+b.length<=zq then pure (.str (a++b))else M.stuck
 | .tup a,.tup b=>if a.length+b.length<=zq then pure (.tup (a++b))else M.stuck
 | .ref i,.ref j=>do
   match <-N5 i,<-N5 j with
   | .lst a,.lst b=>if a.length+b.length<=zq then M5 (.lst (a++b))else M.stuck
   |_,_=>M.stuck
 |_,_=>M.stuck
def nG{Q:VK}(h:v6 c μ G H)(q:SqT c.K H a vs)(r:m9 c μ H xs vs)
 (p:c7 c Z μ H (some (Except.ok (.tup xs),G)) λd X2 _ H'=>∀v,d8 c X2 H' d v->Q v H'):Q (.ref a) H:=c7.ok p h _ (by unfold d8;exact⟨a,vs,rfl,q,r⟩)
def aX:OpD X Z (yb .Add) V8:=
 OpD.of (OpR.or rW (OpR.or vb (OpR.or Kw (OpR.or iZ qZ)))) λx y H Q Eh=>Eh.elim λdx dy μ G rx ry hr p=>by
  rcases dx with _|_|_|_|_|_|_|_<;>rcases dy with _|_|_|_|_|_|_|_<;>first
   |exact p.elim
   |skip
  ·exact .inl ⟨_,_,U1 rx,U1 ry,c7.ok p hr _ ofI⟩
  · rename_i a b;refine .inr (.inl ?_);unfold V8 at p;dsimp only at p;split at p
    ·rename_i hz;exact⟨a,b,D3 rx,D3 ry,hz,c7.ok p hr _ ofS⟩
    ·exact p.elim
  · rename_i a b;unfold d8 at rx ry;obtain⟨ax,vx,rfl,qx,lx⟩:=rx;obtain⟨ay,vy,rfl,qy,ly⟩:=ry;unfold V8 at p;dsimp only at p;split at p
    · rename_i hz;by_cases hv:vx= []
      · subst hv;rcases a with _|⟨_,_⟩
        ·exact .inr (.inr (.inr (.inl ⟨ax,ay,vy,rfl,rfl,qx,qy,nG hr qy ly p⟩)))
        ·obtain⟨_,_,z,_⟩:=lx;cases z
      · refine .inr (.inr (.inl ⟨ax,ay,vx,vy,rfl,rfl,qx,qy,hv,by rw[<-lx.length,<-ly.length];exact hz,?_⟩));refine⟨λhy=>?_,λhy q hq=>nF hr (lx.append ly) p q hq⟩;subst hy;refine nG hr qx ?_ p;rcases b with _|⟨_,_⟩
        ·rw[yV];exact lx
        ·obtain⟨_,_,z,_⟩:=ly;cases z
    ·exact p.elim
  · rename_i i j;unfold d8 at rx ry;obtain⟨ax,mx,rfl⟩:=rx;obtain⟨ay,my,rfl⟩:=ry;obtain⟨ox,gx,p⟩:=K4 p;obtain⟨oy,gy,p⟩:=K4 p;have hx:=hr.obj i ox ax gx mx;have hy:=hr.obj j oy ay gy my;rcases ox with _|_|_|_<;>rcases oy with _|_|_|_<;>first
     |exact p.elim
     |skip
    obtain⟨vx,ex,lx⟩:=hx;obtain⟨vy,ey,ly⟩:=hy;dsimp only at p;split at p
    ·rename_i hz;exact .inr (.inr (.inr (.inr ⟨ax,ay,vx,vy,rfl,rfl,ex,ey,by rw[<-lx.length,<-ly.length];exact hz,λq hq=>U9 hr (lx.append ly) p q hq⟩)))
    ·exact p.elim
def T1(G:DH):D->Option (Bool×List D)
 | .tup l=>some (true,l)
 | .ref i=>match G[i]? with
   |some (.lst l)=>some (false,l)
   |some (.rol l)=>some (false,l)
   |_=>none
 |_=>none
def aA:D->Bool
 | .non=>true
 | .bl _=>true
 | .int _=>true
 | .str _=>true
 |_=>false
def eqS:D->D->Option Bool
 | .non,.non=>some true
 | .bl a,.bl b=>some (a==b)
 | .int a,.int b=>some (a==b)
 | .str a,.str b=>some (a==b)
 | .bl a,.int b=>some ((if a then (1:Int)else 0)==b)
 | .int a,.bl b=>some (a==(if b then (1:Int)else 0))
 |x,y=>if aA x&&aA y then some false else none
def eqL(f:D->D->Option Bool):List D->List D->Option Bool
 |[], []=>some true
 |[],_::_=>some false
 |_::_, []=>some false
 |x::xs,y::ys=>match f x y,eqL f xs ys with
   |some e,some r=>some (e&&r)
   |_,_=>none
def eqN:Nat->DH->D->D->Option Bool
 |0,_,_,_=>none
 |n+1,G,x,y=>match T1 G x,T1 G y with
   |some (k1,a),some (k2,b)=>if k1=k2 then (if k1=false/\a.length≠b.length then some false else eqL (eqN n G) a b)else some false
   |some _,none=>if aA y then some false else none
   |none,some _=>if aA x then some false else none
   |none,none=>eqS x y
def NA:eqN (n+1) G x y=match T1 G x,T1 G y with
 |some (k1,a),some (k2,b)=>if k1=k2 then (if k1=false/\a.length≠b.length then some false else eqL (eqN n G) a b)else some false
 |some _,none=>if aA y then some false else none
 |none,some _=>if aA x then some false else none
 |none,none=>eqS x y:=rfl
def tH:eqL f (x::xs) (y::ys)=match f x y,eqL f xs ys with
 |some e,some r=>some (e&&r)
 |_,_=>none:=rfl
theorem VR:∀a b r,eqL f a b=some r->(∀j x y,a[j]? =some x->b[j]? =some y->f x y=some (e j))->r= ((ji (min a.length b.length)).all e&&a.length==b.length)
 |[], [],r,h,_=>by cases h;rfl
 |[],_::_,r,h,_=>by cases h;simp
 |_::_, [],r,h,_=>by cases h;simp
 |x::xs,y::ys,r,h,he=>by
   rw[tH]at h;have h0:=he 0 x y rfl rfl;rw[h0]at h;rcases hr:eqL f xs ys with _|r'
   ·rw[hr]at h;exact J4 h
   ·
     rw[hr]at h;have ih:=VR xs ys r' hr λj x' y' h1 h2=>he (j+1) x' y' (by simpa using h1) (by simpa using h2)
     cases h
     rw[ih];have:min (x::xs).length (y::ys).length=min xs.length ys.length+1:=by simp only[zM];lia
     rw[this,xo,yt,Zh];simp[Bool.and_assoc,xt]
theorem LK:∀a b r,eqL f a b=some r->∀(j:Nat) x y,a[j]? =some x->b[j]? =some y->∃e,f x y=some e
 |[],_,_,_,_,_,_,h,_=>by simp at h
 |_::_, [],_,_,_,_,_,_,h=>by simp at h
 |x::xs,y::ys,r,h,j,x',y',h1,h2=>by
   rw[tH]at h;rcases hf:f x y with _|e
   ·rw[hf]at h;exact J4 h
   ·
     rcases hr:eqL f xs ys with _|r'
     ·rw[hf,hr]at h;exact J4 h
     ·
       cases j with
       |zero=>simp at h1 h2;subst h1 h2;exact⟨e,hf⟩
       |succ j=>exact LK xs ys r' hr j x' y' (by simpa using h1) (by simpa using h2)
def fE(s:zD)(k:Bool)(a:Addr)(Ef:List zk):Prop:=if k then s.heap.IsTuple a Ef.toArray else s.heap.IsList a Ef.toArray
def lA(I:Inv X Ee σ H s)(h:v6 (wc X) μ G H)(e:T1 G d=some (k,l))(r:d8 (wc X) μ H d x)(rv:J5 x v):
 ∃a vs Ef,x= .ref a/\v= .ref a/\m9 (wc X) μ H l vs/\u9 vs Ef/\fE s k a Ef/\(if k then SqT X.K H a vs else SqL X.K H a vs):=by
 rcases d with _|_|_|_|l'|i|_|_<;>try (cases e;done)
 ·
   unfold T1 at e
   cases e
   unfold d8 at r;obtain⟨a,vs,rfl,q,rl⟩:=r;obtain⟨Ef,rr,p,_⟩:=I.tuple q;exact⟨a,vs,Ef,rfl,rv,rl,rr,p,q⟩
 ·
   have e':(match G[i]? with|some (.lst l)=>some (false,l)|some (.rol l)=>some (false,l)|_=>none)=some (k,l):=e;unfold d8 at r;obtain⟨a,m,rfl⟩:=r;have key:∀vs,SqL X.K H a vs->m9 (wc X) μ H l vs->k=false->∃a' vs Ef,V.ref a= .ref a'/\v= .ref a'/\m9 (wc X) μ H l vs/\u9 vs Ef/\fE s k a' Ef/\(if k then SqT X.K H a' vs else SqL X.K H a' vs):=λvs q rl hk=>by subst hk;obtain⟨Ef,rr,p,_⟩:=I.list q;exact⟨a,vs,Ef,rfl,rv,rl,rr,p.isList,q⟩
   generalize g:G[i]? =o at e';rcases o with _|l'|l'|_|_<;>cases e'
   ·obtain⟨vs,q,rl⟩:=h.obj i _ a g m;exact key vs (SqL.of q) rl rfl
   ·obtain⟨vs,q,rl⟩:=h.obj i _ a g m;exact key vs q.sq rl rfl
def gR(hs:aA d=true)(r:d8 c μ H d (.ref a)):False:=by
 cases d<;>first
  |exact absurd (show false=true from hs) jm
  |(unfold d8 at r;cases r)
def uR(h:eqS x y=some b):aA x=true/\aA y=true:=by
 rcases x with _|_|_|_|_|_|_|_<;>rcases y with _|_|_|_|_|_|_|_<;>first
  |exact⟨rfl,rfl⟩
  |(cases h;done)
def Af(h:eqS x y=some b)(rx:d8 c μ H x v)(ry:d8 c μ H y v):b=true:=by
 obtain⟨s1,s2⟩:=uR h;rcases x with _|_|_|_|_|_|_|_<;>rcases y with _|_|_|_|_|_|_|_<;>first
  |(cases s1;done)
  |(cases s2;done)
  |(unfold d8 at rx ry;rw[rx]at ry;cases ry;done)
  |(unfold d8 at rx ry;rw[rx]at ry;cases ry;cases h;first|rfl|simp)
def Tm(I:Inv X Ee σ H s)(h1:fE s k a Ef)(h2:fE s k' a its'):k=k':=by
 cases k<;>cases k'<;>first
  |rfl
  |exact absurd rfl (SeqAt.ne_of_list_tuple h1 h2)
  |exact absurd rfl (SeqAt.ne_of_list_tuple h2 h1)
theorem IU:∀l l' vs b,m9 c μ H l vs->m9 c μ H l' vs->(∀d d' v b,v∈vs->d8 c μ H d v->d8 c μ H d' v->f d d'=some b->b=true)->eqL f l l'=some b->b=true
 |[], [],_,b,_,_,_,e=>by cases e;rfl
 |[],_::_,vs,b,r1,r2,_,_=>by cases r1;obtain⟨_,_,z,_⟩:=r2;exact kH z
 |_::_, [],vs,b,r1,r2,_,_=>by cases r2;obtain⟨_,_,z,_⟩:=r1;cases z
 |d::ds,d'::ds',vs,b,r1,r2,k,e=>by
   obtain⟨v0,vr,rfl,q0,t0⟩:=r1;obtain⟨v1,vr',e1,q1,t1⟩:=r2
   cases e1
   rw[tH]at e;rcases hf:f d d' with _|e0
   ·rw[hf]at e;exact J4 e
   ·
     rcases hr:eqL f ds ds' with _|r'
     ·rw[hf,hr]at e;exact J4 e
     ·
       rw[hf,hr]at e
       cases e
       have z1:=k d d' v0 e0 zH q0 q1 hf;have z2:=IU ds ds' vr r' t0 t1 (λa a' v b hm=>k a a' v b (zA _ hm)) hr;rw[z1,z2];rfl
theorem lO(I:Inv X Ee σ H s)(h:v6 (wc X) μ G H):∀n {dx dy} {x} {v} {b},d8 (wc X) μ H dx x->d8 (wc X) μ H dy x->J5 x v->eqN n G dx dy=some b->b=true
 |0,_,_,_,_,_,_,_,_,e=>by exact J4 e
 |n+1,dx,dy,x,v,b,rx,ry,rv,e=>by
   rw[NA]at e;rcases hx:T1 G dx with _|p
   ·
     rw[hx]at e;rcases hy:T1 G dy with _|p
     ·rw[hy]at e;exact Af e rx ry
     ·
       obtain⟨k,l⟩:=p;rw[hy]at e;dsimp only at e;split at e
       ·rename_i hs;obtain⟨a,_,_,rfl,_⟩:=lA I h hy ry rv;exact(gR hs rx).elim
       ·exact J4 e
   ·
     obtain⟨k,l⟩:=p;rw[hx]at e;rcases hy:T1 G dy with _|p'
     ·
       rw[hy]at e;dsimp only at e;split at e
       ·rename_i hs;obtain⟨a,_,_,rfl,_⟩:=lA I h hx rx rv;exact(gR hs ry).elim
       ·exact J4 e
     ·
       obtain⟨k',l'⟩:=p';rw[hy]at e;dsimp only at e;obtain⟨a,vs,Ef,rfl,rfl,rl,rr,sq,q⟩:=lA I h hx rx rv;obtain⟨a',Ft,its',ea,_,Eu,rr',sq',q'⟩:=lA I h hy ry rv
       cases ea
       have hk:k=k':=Tm I sq sq';subst hk;have hvs:vs=Ft:=by
        rcases k with _|_
        ·exact I.list_inj q q'
        ·exact I.tuple_inj q q'
       subst hvs;rw[if_pos rfl,if_neg (by rw[rl.length,Eu.length];simp)]at e;have hv:∀v∈vs,∃u,J5 v u:=λv hv=>by obtain⟨i,hi⟩:=List.getElem?_of_mem hv;obtain⟨u,_,ru⟩:=rr.get hi;exact⟨u,ru⟩
       exact IU l l' vs b rl Eu (λd d' v b hm r1 r2 ef=>by obtain⟨u,ru⟩:=hv v hm;exact lO I h n r1 r2 ru ef) e
def Aa(rx:d8 c μ H dx x)(ry:d8 c μ H dy y)(rv:J5 x v)(ru:J5 y u)(e:eqS dx dy=some b):
 Xj A s v u b/\Yi A s v u (!b)/\ye A s v u b:=by
 obtain⟨s1,s2⟩:=uR e;rcases dx with _|i|i|i|_|_|_|_<;>try (cases s1;done)
 ·
   unfold d8 at rx;subst rx;cases rv;rcases dy with _|j|j|j|_|_|_|_<;>try (cases s2;done)
   ·unfold d8 at ry;subst ry;cases ru;cases e;exact⟨SeqAt.RcAt.none_none,SeqAt.RcNeAt.none_none,Xp _⟩
   ·unfold d8 at ry;subst ry;cases ru;cases e;exact⟨SeqAt.RcAt.none_bool _,SeqAt.RcNeAt.none_bool _,Jr _⟩
   ·unfold d8 at ry;subst ry;obtain⟨t,rfl⟩:=ru;cases e;exact⟨SeqAt.RcAt.none_int _ _,SeqAt.RcNeAt.none_int _ _,JJ _ _⟩
   ·unfold d8 at ry;subst ry;obtain⟨t,rfl⟩:=ru;cases e;exact⟨SeqAt.RcAt.none_str _ _,SeqAt.RcNeAt.none_str _ _,JI _ _⟩
 ·
   unfold d8 at rx;subst rx;cases rv;rcases dy with _|j|j|j|_|_|_|_<;>try (cases s2;done)
   ·unfold d8 at ry;subst ry;cases ru;cases e;exact⟨SeqAt.RcAt.bool_none _,SeqAt.RcNeAt.bool_none _,Js _⟩
   ·unfold d8 at ry;subst ry;cases ru;cases e;exact⟨SeqAt.RcAt.bool_bool _ _,SeqAt.RcNeAt.bool_bool _ _,Jt _ _⟩
   ·unfold d8 at ry;subst ry;obtain⟨t,rfl⟩:=ru;cases e;exact⟨SeqAt.RcAt.bool_int _ _ _,SeqAt.RcNeAt.bool_int _ _ _,JO _ _ _⟩
   ·unfold d8 at ry;subst ry;obtain⟨t,rfl⟩:=ru;cases e;exact⟨SeqAt.RcAt.bool_str _ _ _,SeqAt.RcNeAt.bool_str _ _ _,JN _ _ _⟩
 ·
   unfold d8 at rx;subst rx;obtain⟨t,rfl⟩:=rv;rcases dy with _|j|j|j|_|_|_|_<;>try (cases s2;done)
   ·unfold d8 at ry;subst ry;cases ru;cases e;exact⟨SeqAt.RcAt.int_none _ _,SeqAt.RcNeAt.int_none _ _,JK _ _⟩
   ·unfold d8 at ry;subst ry;cases ru;cases e;exact⟨SeqAt.RcAt.int_bool _ _ _,SeqAt.RcNeAt.int_bool _ _ _,JM _ _ _⟩
   ·unfold d8 at ry;subst ry;obtain⟨t,rfl⟩:=ru;cases e;exact⟨SeqAt.RcAt.int_int _ _ _ _,SeqAt.RcNeAt.int_int _ _ _ _,JX _ _ _ _⟩
   ·unfold d8 at ry;subst ry;obtain⟨t,rfl⟩:=ru;cases e;exact⟨SeqAt.RcAt.int_str _ _ _ _,SeqAt.RcNeAt.int_str _ _ _ _,YB _ _ _ _⟩
 ·
   unfold d8 at rx;subst rx;obtain⟨t,rfl⟩:=rv;rcases dy with _|j|j|j|_|_|_|_<;>try (cases s2;done)
   ·unfold d8 at ry;subst ry;cases ru;cases e;exact⟨SeqAt.RcAt.str_none _ _,SeqAt.RcNeAt.str_none _ _,JG _ _⟩
   ·unfold d8 at ry;subst ry;cases ru;cases e;exact⟨SeqAt.RcAt.str_bool _ _ _,SeqAt.RcNeAt.str_bool _ _ _,JH _ _ _⟩
   ·unfold d8 at ry;subst ry;obtain⟨t,rfl⟩:=ru;cases e;exact⟨SeqAt.RcAt.str_int _ _ _ _,SeqAt.RcNeAt.str_int _ _ _ _,YA _ _ _ _⟩
   ·unfold d8 at ry;subst ry;obtain⟨t,rfl⟩:=ru;cases e;exact⟨SeqAt.RcAt.str_str _ _ _ _,SeqAt.RcNeAt.str_str _ _ _ _,JW _ _ _ _⟩
def GP(hu:A.units<xq)(sq:fE s k a Ef)(ry:d8 c μ H dy y)(ru:J5 y u)(hs:aA dy=true):
 (Xj A s (.ref a) u false/\Yi A s (.ref a) u true/\ye A s (.ref a) u false)/\(Xj A s u (.ref a) false/\Yi A s u (.ref a) true/\ye A s u (.ref a) false):=by
 rcases k with _|_
 ·
   rcases dy with _|j|j|j|_|_|_|_<;>try (cases hs;done)
   ·unfold d8 at ry;subst ry;cases ru;exact⟨⟨.list_none sq hu,.list_none sq hu,.list_none sq hu⟩,.none_list sq hu,.none_list sq hu,.none_list sq hu⟩
   ·unfold d8 at ry;subst ry;cases ru;exact⟨⟨.list_bool _ sq hu,.list_bool _ sq hu,.list_bool _ sq hu⟩,.bool_list _ sq hu,.bool_list _ sq hu,.bool_list _ sq hu⟩
   ·unfold d8 at ry;subst ry;obtain⟨t,rfl⟩:=ru;exact⟨⟨.list_int _ _ sq hu,.list_int _ _ sq hu,.list_int _ _ sq hu⟩,.int_list _ _ sq hu,.int_list _ _ sq hu,.int_list _ _ sq hu⟩
   ·unfold d8 at ry;subst ry;obtain⟨t,rfl⟩:=ru;exact⟨⟨.list_str _ _ sq hu,.list_str _ _ sq hu,.list_str _ _ sq hu⟩,.str_list _ _ sq hu,.str_list _ _ sq hu,.str_list _ _ sq hu⟩
 ·
   rcases dy with _|j|j|j|_|_|_|_<;>try (cases hs;done)
   ·unfold d8 at ry;subst ry;cases ru;exact⟨⟨.tuple_none sq hu,.tuple_none sq hu,.tuple_none sq hu⟩,.none_tuple sq hu,.none_tuple sq hu,.none_tuple sq hu⟩
   ·unfold d8 at ry;subst ry;cases ru;exact⟨⟨.tuple_bool _ sq hu,.tuple_bool _ sq hu,.tuple_bool _ sq hu⟩,.bool_tuple _ sq hu,.bool_tuple _ sq hu,.bool_tuple _ sq hu⟩
   ·unfold d8 at ry;subst ry;obtain⟨t,rfl⟩:=ru;exact⟨⟨.tuple_int _ _ sq hu,.tuple_int _ _ sq hu,.tuple_int _ _ sq hu⟩,.int_tuple _ _ sq hu,.int_tuple _ _ sq hu,.int_tuple _ _ sq hu⟩
   ·unfold d8 at ry;subst ry;obtain⟨t,rfl⟩:=ru;exact⟨⟨.tuple_str _ _ sq hu,.tuple_str _ _ sq hu,.tuple_str _ _ sq hu⟩,.str_tuple _ _ sq hu,.str_tuple _ _ sq hu,.str_tuple _ _ sq hu⟩
theorem uF(I:Inv X Ee σ H s)(h:v6 (wc X) μ G H):∀n A,A.units+n<xq->∀ {dx dy} {x y:V} {v u} {b:Bool},d8 (wc X) μ H dx x->d8 (wc X) μ H dy y->J5 x v->J5 y u->eqN n G dx dy=some b->
 Xj A s v u b/\Yi A s v u (!b)/\ye A s v u b
 |0,_,_,_,_,_,_,_,_,_,_,_,_,_,e=>by exact J4 e
 |n+1,A,hu,dx,dy,x,y,v,u,b,rx,ry,rv,ru,e=>by
   have hu0:A.units<xq:=by lia
   have hu1:A.in1.units+n<xq:=by show A.units+1+n<xq;lia
   have e0:=e;rw[NA]at e;rcases hx:T1 G dx with _|p
   ·
     rw[hx]at e;rcases hy:T1 G dy with _|p
     ·rw[hy]at e;exact Aa rx ry rv ru e
     ·
       obtain⟨k,l⟩:=p;rw[hy]at e;dsimp only at e;split at e
       · rename_i hs
         cases e
         obtain⟨a,vs,Ef,rfl,rfl,_,_,sq,_⟩:=lA I h hy ry ru;exact(GP hu0 sq rx rv hs).2
       ·exact J4 e
   ·
     obtain⟨k,l⟩:=p;rw[hx]at e;obtain⟨a,vs,Ef,rfl,rfl,rl,rr,sq,q⟩:=lA I h hx rx rv;rcases hy:T1 G dy with _|p'
     ·
       rw[hy]at e;dsimp only at e;split at e
       · rename_i hs
         cases e
         exact(GP hu0 sq ry ru hs).1
       ·exact J4 e
     ·
       obtain⟨k',l'⟩:=p';rw[hy]at e;dsimp only at e;obtain⟨a',Ft,its',rfl,rfl,Eu,rr',sq',q'⟩:=lA I h hy ry ru
       -- the two at one place
       have main:Xj A s (.ref a) (.ref a') b/\Yi A s (.ref a) (.ref a') (!b):=by
        have len1:Ef.toArray.size=l.length:=by rw[zo,<-rr.length,rl.length]
        have len2:its'.toArray.size=l'.length:=by rw[zo,<-rr'.length,Eu.length]
        by_cases hk:k=k'
        · subst hk;rw[if_pos rfl]at e;by_cases Ei:k=false/\l.length≠l'.length
          · rw[if_pos Ei]at e
            cases e
            obtain⟨rfl,Et⟩:=Ei;have hz:(Ef.toArray.size != its'.toArray.size)=true:=by rw[len1,len2];simpa using Et
            exact⟨SeqAt.RcAt.lists_lengths sq sq' hz hu0,SeqAt.RcNeAt.lists_lengths sq sq' hz hu0⟩
          · rw[if_neg Ei]at e;have items:∀j (h1:j<Ef.toArray.size) (h2:j<its'.toArray.size),∃e,eqN n G (l.getD j .non) (l'.getD j .non)=some e/\ye A.in1 s Ef.toArray[j] its'.toArray[j] e:=λj h1 h2=>by
             have j1:j<l.length:=by rw[<-len1];exact h1
             have j2:j<l'.length:=by rw[<-len2];exact h2
             have g1:l[j]? =some l[j]:=zj j1;have g2:l'[j]? =some l'[j]:=zj j2;obtain⟨e1,he1⟩:=LK l l' b e j _ _ g1 g2;obtain⟨v1,hv1,r1⟩:=rl.get g1;obtain⟨v2,hv2,r2⟩:=Eu.get g2;obtain⟨u1,hu1',ru1⟩:=rr.get hv1;obtain⟨u2,hu2',ru2⟩:=rr'.get hv2;have w1:Ef.toArray[j]=u1:=by
              have:Ef.toArray[j]? =some u1:=by simpa using hu1'
              rw[xM h1]at this;exact jc this
             have w2:its'.toArray[j]=u2:=by
              have:its'.toArray[j]? =some u2:=by simpa using hu2'
              rw[xM h2]at this;exact jc this
             rw[w1,w2];refine⟨e1,?_,(uF I h n A.in1 hu1 r1 r2 ru1 ru2 he1).2.2⟩;rw[jb,jb,g1,g2];exact he1
            have hr:=VR (e:=λj=>(eqN n G (l.getD j .non) (l'.getD j .non)).getD false) l l' b e λj x y g1 g2=>by obtain⟨e1,he1⟩:=LK l l' b e j x y g1 g2;rw[jb,jb,g1,g2];simp only[Option.getD_some];rw[he1];rfl
            have he:∀j (h1:j<Ef.toArray.size) (h2:j<its'.toArray.size),ye A.in1 s Ef.toArray[j] its'.toArray[j] ((eqN n G (l.getD j .non) (l'.getD j .non)).getD false):=λj h1 h2=>by obtain⟨e1,he1,hh⟩:=items j h1 h2;rw[he1];exact hh
            rcases k with _|_
            ·
              have hl:l.length=l'.length:=js λz=>Ei ⟨rfl,z⟩;have hsz:Ef.toArray.size=its'.toArray.size:=by rw[len1,len2,hl]
              have z1:=SeqAt.RcAt.lists sq sq' hsz hu0 he;have z2:=SeqAt.RcNeAt.lists sq sq' hsz hu0 he;have hr2:b= (ji Ef.toArray.size).all λj=>(eqN n G (l.getD j .non) (l'.getD j .non)).getD false:=by rw[hr,len1,hl];simp
              rw[<-hr2]at z1 z2;exact⟨z1,z2⟩
            ·
              have z1:=SeqAt.RcAt.tuples sq sq' hu0 he;have z2:=SeqAt.RcNeAt.tuples sq sq' hu0 he;rw[len1,len2,<-hr]at z1 z2;exact⟨z1,z2⟩
        · rw[if_neg hk]at e
          cases e
          cases k<;>cases k'<;>first
           |exact absurd rfl hk
           |exact⟨SeqAt.RcAt.list_tuple sq sq' hu0,SeqAt.RcNeAt.list_tuple sq sq' hu0⟩
           |exact⟨SeqAt.RcAt.tuple_list sq sq' hu0,SeqAt.RcNeAt.tuple_list sq sq' hu0⟩
       refine⟨main.1,main.2,?_⟩;by_cases ha:a=a'
       ·subst ha;have:b=true:=lO I h (n+1) rx ry rv e0;rw[this];exact Xp _
       ·exact SeqAt.EqAt.of_refs ha main.1
def eqD:D->D->M D:=λx y G=>match eqN 40 G x y with
 |some b=>some (.ok (.bl b),G)
 |none=>none
def neD:D->D->M D:=λx y G=>match eqN 40 G x y with
 |some b=>some (.ok (.bl (!b)),G)
 |none=>none
def dW(hu:X.A.units+64<xq):OpD X Z (zZ .Eq) eqD:=⟨by
 intro Ee s σ H x y v u Q I rx ry Eh;refine Eh.elim λdx dy μ G Ey Fn hr p=>?_;unfold eqD at p;rcases e:eqN 40 G dx dy with _|b
 ·rw[e]at p;exact p.elim
 ·
   rw[e]at p;exact(uF I hr 40 X.A (by lia) Ey Fn rx ry e).1 X.prog X.w X.xe _ ⟨.bl b,H,I,rfl,c7.ok p hr _ ofB⟩⟩
def nq(hu:X.A.units+64<xq):OpD X Z (zZ .NotEq) neD:=⟨by
 intro Ee s σ H x y v u Q I rx ry Eh;refine Eh.elim λdx dy μ G Ey Fn hr p=>?_;unfold neD at p;rcases e:eqN 40 G dx dy with _|b
 ·rw[e]at p;exact p.elim
 ·
   rw[e]at p;exact(uF I hr 40 X.A (by lia) Ey Fn rx ry e).2.1 X.prog X.w X.xe _ ⟨.bl (!b),H,I,rfl,c7.ok p hr _ ofB⟩⟩
def leD:D->D->M D:=λx y=>match x,y with
 | .int i,.int j=>pure (.bl (decide (i<=j)))
 | .str i,.str j=>pure (.bl (!decide (j.cps.toList<i.cps.toList)))
 |_,_=>M.stuck
def gtD:D->D->M D:=λx y=>match x,y with
 | .int i,.int j=>pure (.bl (decide (j<i)))
 | .str i,.str j=>pure (.bl (decide (j.cps.toList<i.cps.toList)))
 |_,_=>M.stuck
def geD:D->D->M D:=λx y=>match x,y with
 | .int i,.int j=>pure (.bl (decide (j<=i)))
 | .str i,.str j=>pure (.bl (!decide (i.cps.toList<j.cps.toList)))
 |_,_=>M.stuck
def EL{op:CmpOp}{fi:Int->Int->Bool}{fs:Str->Str->Bool}(hi:OpR X (zZ op) (qA λi j=>.bl (fi i j)))
 (hs:∀(i j:Str) (t u:Tok) (s:zD) Q E,Q (.bool (fs i j)) s->zw (zG X.prog X.w) X.A (zZ op (.str i t) (.str j u)) Q E s)
 (h1:∀i j,o (.int i) (.int j)=pure (.bl (fi i j))) (h2:∀i j,o (.str i) (.str j)=pure (.bl (fs i j)))
 (h3:∀x y,(∀i j,¬(x= .int i/\y= .int j))->(∀i j,¬(x= .str i/\y= .str j))->o x y=M.stuck):OpD X Z (zZ op) o:=⟨by
 intro Ee s σ H x y v u Q I rx ry Eh;refine Eh.elim λdx dy μ G Ey Fn hr p=>?_;by_cases c1:∃i j,dx= .int i/\dy= .int j
 ·obtain⟨i,j,rfl,rfl⟩:=c1;rw[h1]at p;exact hi Ee s σ H x y v u Q I rx ry ⟨i,j,U1 Ey,U1 Fn,c7.ok p hr _ ofB⟩
 · by_cases c2:∃i j,dx= .str i/\dy= .str j
   ·obtain⟨i,j,rfl,rfl⟩:=c2;rw[h2]at p;have e1:=D3 Ey;have e2:=D3 Fn;subst e1 e2;obtain⟨t,rfl⟩:=rx;obtain⟨t',rfl⟩:=ry;exact hs i j t t' s _ _ ⟨.bl (fs i j),H,I,rfl,c7.ok p hr _ ofB⟩
   ·rw[h3 dx dy (λi j z=>c1 ⟨i,j,z⟩) (λi j z=>c2 ⟨i,j,z⟩)]at p;exact p.elim⟩
def Hw:OpD X Z (zZ .LtE) leD:=EL LW (λ_ _ _ _ _ _ _ q=>PySem.P.le_str q) (λ_ _=>rfl) (λ_ _=>rfl) λx y n1 n2=>by
 rcases x with _|_|_|_|_|_|_|_<;>rcases y with _|_|_|_|_|_|_|_<;>first
  |rfl
  |exact absurd ⟨rfl,rfl⟩ (n1 _ _)
  |exact absurd ⟨rfl,rfl⟩ (n2 _ _)
def uo:OpD X Z (zZ .Gt) gtD:=EL fz (λ_ _ _ _ _ _ _ q=>PySem.P.gt_str q) (λ_ _=>rfl) (λ_ _=>rfl) λx y n1 n2=>by
 rcases x with _|_|_|_|_|_|_|_<;>rcases y with _|_|_|_|_|_|_|_<;>first
  |rfl
  |exact absurd ⟨rfl,rfl⟩ (n1 _ _)
  |exact absurd ⟨rfl,rfl⟩ (n2 _ _)
def aZ:OpD X Z (zZ .GtE) geD:=EL Qg (λ_ _ _ _ _ _ _ q=>PySem.P.ge_str q) (λ_ _=>rfl) (λ_ _=>rfl) λx y n1 n2=>by
 rcases x with _|_|_|_|_|_|_|_<;>rcases y with _|_|_|_|_|_|_|_<;>first
  |rfl
  |exact absurd ⟨rfl,rfl⟩ (n1 _ _)
  |exact absurd ⟨rfl,rfl⟩ (n2 _ _)
def kM:D->Bool
 | .non=>true
 |_=>false
def MR(r:d8 c μ H d v):decide (v= .non)=kM d:=by
 cases d with
 |non=>rw[lF r];rfl
 |tup l=>unfold d8 at r;obtain⟨a,_,rfl,_⟩:=r;rfl
 |ref l=>unfold d8 at r;obtain⟨a,_,rfl⟩:=r;rfl
 |fn l=>unfold d8 at r;obtain⟨a,_,rfl⟩:=r;rfl
 |_=>unfold d8 at r;subst r;rfl
def dD:D->M D:=λx=>match x with
 | .int i=>pure (.int (-i))
 |_=>M.stuck
def uZ:UnD X Z (unaryOp .USub) dD:=⟨by
 intro Ee s σ H x v Q I rx Eh;refine Eh.elim λdx μ G Ey hr p=>?_
 cases dx<;>first
  |exact p.elim
  |exact vZ Ee s σ H x v Q I rx ⟨_,U1 Ey,c7.ok p hr _ ofI⟩⟩
instance (x:Str) (n:Int):Decidable (XR x n):=by unfold XR;infer_instance
def A4:D->D->M D:=λx y=>match x,y with
 | .int i,.int j=>if c6 i j then pure (.int (i*j))else M.stuck
 | .str x,.int n=>if XR x n then pure (.str (Txt.mul x n))else M.stuck
 |_,_=>M.stuck
def IV:OpR X (yb .Mult) (λx y H Q=>∃z n,x= .str z/\y= .int n/\XR z n/\Q (.str (Txt.mul z n)) H):=by intro Ee s σ H x y v u Q I rx ry h;obtain⟨z,n,rfl,rfl,hk,q⟩:=h;obtain⟨t,rfl⟩:=rx;obtain⟨t',rfl⟩:=ry;exact PySem.SB.mul hk λt' k=>⟨.str _,H,I.tok _,⟨_,rfl⟩,q⟩
def GS:OpD X Z (yb .Mult) A4:=
 OpD.of (OpR.or nv IV) λx y H Q Eh=>Eh.elim λdx dy μ G Ey Fn hr p=>by
  rcases dx with _|_|_|_|_|_|_|_<;>rcases dy with _|_|_|_|_|_|_|_<;>first
   |exact p.elim
   |skip
  · unfold A4 at p;dsimp only at p;split at p
    ·rename_i hc;exact .inl ⟨_,_,U1 Ey,U1 Fn,hc,c7.ok p hr _ ofI⟩
    ·exact p.elim
  · unfold A4 at p;dsimp only at p;split at p
    ·rename_i hc;exact .inr ⟨_,_,D3 Ey,U1 Fn,hc,c7.ok p hr _ ofS⟩
    ·exact p.elim
def bK(A:jC)(s:zD)(y x:zk)(b:Bool):Prop:=
 ∀(prog:jh) (w:jq) (E:VSP) (Q:VSP),Q (.bool b) s->zw (zG prog w) A (JV .Lt y x) Q E s
inductive LtR(A:jC)(s:zD):List zk->List zk->Bool->Prop
 |nil:LtR A s [] [] false
 |nilc {y ys}:LtR A s [] (y::ys) true
 |cnil {x xs}:LtR A s (x::xs) [] false
 |eq {x y xs ys b}:ye A s x y true->LtR A s xs ys b->LtR A s (x::xs) (y::ys) b
 |ne {x y xs ys b}:ye A s x y false->bK A s x y b->LtR A s (x::xs) (y::ys) b
section
open PySem.SeqAt
open PySem.AutoSeq1 (wpAny_loadPart')
open PySem.MeetsSeq PySem.MeetsSeq2 PySem.MeetsSeq3
def bu(l b:Addr)(items El:Array zk)(n n2:Nat)(dd dd2:Option Addr)(sl sl2:Array (Option zk))(k:Bool):
 Meets (yg.«tuple.__lt__» ⟨[.ref l,.ref b], []⟩)
  (λA R s=>s.heap.get? l=some {cls:=.type "tuple",dict:=dd,data:=.seq items n,slots:=sl}/\s.heap.get? b=some {cls:=.type "tuple",dict:=dd2,data:=.seq El n2,slots:=sl2}/\
    LtR A.in1 s items.toList El.toList k/\R (.ok (.ret (.bool k))) s):=
 .of_wp λprog w A R s h=>by
  obtain⟨hp,g,d,tk,os⟩:=s;obtain⟨hl,hb,hk,h⟩:=h;have f2:=AutoSeq1.sub_tuple_tuple
  wp_walk using jH hl,jH hb,JA _ (λQ8 b s'=>b.1=none/\s'= ⟨hp,g,d,tk,os⟩/\∃(vs ws:List zk),Q8=vs.zip ws/\
   vs.length+El.size=ws.length+items.size/\LtR A.in1 ⟨hp,g,d,tk,os⟩ vs ws k) _
  case turn=>
   rintro⟨y,x⟩ Q8 b s' ⟨Hi,rfl,vs,ws,hz,Ei,hR⟩
   cases hR with
   |nil=>exact QJ hz
   |nilc=>exact QJ hz
   |cnil=>exact QJ hz
   |eq he hR'=>
     rw[ZP]at hz;injection hz with hyx hrest;injection hyx with hy hx;subst hy hx;refine za (he prog w _ _ ?_)
     wp_walk
     simp only[zM]at Ei;exact⟨rfl,rfl,_,_,hrest,by lia,hR'⟩
   |ne he hc=>
     rw[ZP]at hz;injection hz with hyx hrest;injection hyx with hy hx;subst hy hx;refine za (he prog w _ _ ?_);have hri:=hc prog w
     wp_walk using hri
     exact⟨_,rfl,h⟩
  case fin=>
   rintro⟨b1,b2⟩ s' ⟨Hi,rfl,vs,ws,hz,Ei,hR⟩;simp only at Hi;subst Hi;have hv:k=decide (items.size<El.size):=by
    cases hR with
    |nil=>simp only[yz]at Ei;exact(decide_eq_false (by lia)).symm
    |nilc=>simp only[yz,zM]at Ei;exact(decide_eq_true (by lia)).symm
    |cnil=>simp only[yz,zM]at Ei;exact(decide_eq_false (by lia)).symm
    |eq _ _=>rw[ZP]at hz;exact kH hz
    |ne _ _=>rw[ZP]at hz;exact kH hz
   rw[hv]at h
   wp_walk
   exact⟨_,rfl,by simpa [Builtin.Tuple.tupleCompareSizes]using h⟩
  case h=>
   exact⟨rfl,rfl,items.toList,El.toList,rfl,by simp;lia,hk⟩
def dk(l b:Addr)(items El:Array zk)(n n2:Nat)(dd dd2:Option Addr)(sl sl2:Array (Option zk))(k:Bool):∀vs ws i,items.toList.drop i=vs->El.toList.drop i=ws->i<=items.size->i<=El.size->
 Meets (yg.«list.__eq__.loop» ⟨[.ref l,.ref b,xp i,xp 0], []⟩)
  (λA R s=>s.heap.get? l=some {cls:=.type "list",dict:=dd,data:=.seq items n,slots:=sl}/\s.heap.get? b=some {cls:=.type "list",dict:=dd2,data:=.seq El n2,slots:=sl2}/\
    LtR A.in1 s vs ws k/\R (.ok (.ret (.bool k))) s):=by
 have dropn:∀(a:Array zk) (i:Nat),a.toList.drop i= []->i<=a.size->i=a.size:=λa i e hi=>by have:=List.drop_eq_nil_iff.mp e;simp at this;lia
 have dropc:∀(a:Array zk) (i:Nat) (v:zk) (r:List zk),a.toList.drop i=v::r->i<a.size/\a[((i:Nat):Int).toNat]? =some v/\a.toList.drop (i+1)=r:=λa i v r e=>by
  have Eo:i<a.toList.length:=by
   rcases Zm i a.toList.length with q|q
   ·exact q
   ·rw[List.drop_eq_nil_of_le q]at e;exact kH e
  rw[xQ Eo]at e;injection e with e1 e2;refine⟨by simpa using Eo,?_,e2⟩;simp at Eo;simp[Eo];simpa using e1
 intro vs
 induction vs with
 |nil=>
   intro ws i hv hw hi hi2 prog w A R s h;obtain⟨hp,g,d,tk,os⟩:=s;obtain⟨hl,hb,he,h⟩:=h;have e1:=dropn items i hv hi
   wp_walk using jH hl,jH hb
   have hi1:items[((i:Nat):Int).toNat]? =none:=by simp;lia
   rw[hi1];rcases ws with _|⟨y,ys⟩
   ·
     have e2:=dropn El i hw hi2
     cases he
     wp_walk using jH hl,jH hb
     show R (.ok (.ret (.bool (decide (items.size<El.size))))) _;rw[decide_eq_false (by lia)];exact h
   ·
     obtain⟨Eo,_,_⟩:=dropc El i y ys hw
     cases he
     wp_walk using jH hl,jH hb
     show R (.ok (.ret (.bool (decide (items.size<El.size))))) _;rw[decide_eq_true (by lia)];exact h
 |cons x xs ih=>
   intro ws i hv hw hi hi2 prog w A R s h;obtain⟨hp,g,d,tk,os⟩:=s;obtain⟨hl,hb,he,h⟩:=h;obtain⟨Eo,g1,d1⟩:=dropc items i x xs hv
   wp_walk using jH hl,jH hb
   rcases ws with _|⟨y,ys⟩
   ·
     have e2:=dropn El i hw hi2;have hi2':El[((i:Nat):Int).toNat]? =none:=by simp;lia
     rw[g1,hi2']
     cases he
     wp_walk using jH hl,jH hb
     show R (.ok (.ret (.bool (decide (items.size<El.size))))) _;rw[decide_eq_false (by lia)];exact h
   ·
     obtain⟨hlt2,g2,d2⟩:=dropc El i y ys hw;have hc:((i:Int)+1)= ((i+1:Nat):Int):=by push_cast;rfl
     rw[g1,g2]
     cases he with
     |eq he he'=>
       refine za (he prog w _ _ ?_)
       wp_walk
       rw[hc];exact⟨yc plain_eq_loop _,yd entry_eq_loop (by rw[jK plain_eq_loop _];exact ih ys (i+1) d1 d2 (by lia) (by lia) prog w A R _ ⟨hl,hb,he',h⟩)⟩
     |ne he hcmp=>
       refine za (he prog w _ _ ?_);have hri:=hcmp prog w
       wp_walk using jH hl,jH hb
       rw[g1,g2]
       wp_walk using hri
       exact h
def tw(l b:Addr)(items El:Array zk)(n n2:Nat)(dd dd2:Option Addr)(sl sl2:Array (Option zk))(k:Bool):
 Meets (yg.«list.__lt__» ⟨[.ref l,.ref b], []⟩)
  (λA R s=>s.heap.get? l=some {cls:=.type "list",dict:=dd,data:=.seq items n,slots:=sl}/\s.heap.get? b=some {cls:=.type "list",dict:=dd2,data:=.seq El n2,slots:=sl2}/\
    LtR A.in1 s items.toList El.toList k/\R (.ok (.ret (.bool k))) s):=by
 intro prog w A R s h;obtain⟨hp,g,d,tk,os⟩:=s;obtain⟨hl,hb,he,h⟩:=h;have f3:=AutoSeq1.sub_list_list
 wp_walk using jH hl,jH hb
 exact⟨yc plain_eq_loop _,yd entry_eq_loop (by rw[jK plain_eq_loop _];exact dk l b items El n n2 dd dd2 sl sl2 k items.toList El.toList 0 rfl rfl (zY _) (zY _) prog w A R _ ⟨hl,hb,he,h⟩)⟩
end
def ltS:D->D->Option Bool
 | .int a,.int b=>some (decide (a<b))
 | .str a,.str b=>some (decide (a.cps.toList<b.cps.toList))
 | .bl a,.bl b=>some (decide (b2i a<b2i b))
 |_,_=>none
def ltL(eq lt:D->D->Option Bool):List D->List D->Option Bool
 |[], []=>some false
 |[],_::_=>some true
 |_::_, []=>some false
 |x::xs,y::ys=>match eq x y with
   |some true=>ltL eq lt xs ys
   |some false=>lt x y
   |none=>none
def ltN:Nat->DH->D->D->Option Bool
 |0,_,_,_=>none
 |n+1,G,x,y=>match T1 G x,T1 G y with
   |some (k1,a),some (k2,b)=>if k1=k2 then ltL (eqN n G) (ltN n G) a b else none
   |none,none=>ltS x y
   |_,_=>none
def Ch:ltN (n+1) G x y=match T1 G x,T1 G y with
 |some (k1,a),some (k2,b)=>if k1=k2 then ltL (eqN n G) (ltN n G) a b else none
 |none,none=>ltS x y
 |_,_=>none:=rfl
def oq(rx:d8 c μ H dx x)(ry:d8 c μ H dy y)(rv:J5 x v)(ru:J5 y u)(e:ltS dx dy=some b):bK A s v u b:=by
 intro prog w E Q hq;rcases dx with _|_|_|_|_|_|_|_<;>rcases dy with _|_|_|_|_|_|_|_<;>first
  |(cases e;done)
  |skip
 · cases e
   unfold d8 at rx ry;subst rx ry;cases rv;cases ru;exact(lt_bool hq:zw (zG prog w) A (zZ .Lt _ _) Q E s)
 · cases e
   unfold d8 at rx ry;subst rx ry;obtain⟨t,rfl⟩:=rv;obtain⟨t',rfl⟩:=ru;exact(lt_int hq:zw (zG prog w) A (zZ .Lt _ _) Q E s)
 · cases e
   unfold d8 at rx ry;subst rx ry;obtain⟨t,rfl⟩:=rv;obtain⟨t',rfl⟩:=ru;exact(lt_str hq:zw (zG prog w) A (zZ .Lt _ _) Q E s)
theorem fT(I:Inv X Ee σ H s)(h:v6 (wc X) μ G H):∀n A,A.units+n<xq->∀ {dx dy} {x y} {v u} {b},d8 (wc X) μ H dx x->d8 (wc X) μ H dy y->J5 x v->J5 y u->ltN n G dx dy=some b->bK A s v u b
 |0,_,_,_,_,_,_,_,_,_,_,_,_,_,e=>by exact J4 e
 |n+1,A,hu,dx,dy,x,y,v,u,b,rx,ry,rv,ru,e=>by
   have hu0:A.units<xq:=by lia
   have hu1:A.in1.units+n<xq:=by show A.units+1+n<xq;lia
   rw[Ch]at e;rcases hx:T1 G dx with _|p
   ·
     rw[hx]at e;rcases hy:T1 G dy with _|p
     ·rw[hy]at e;exact oq rx ry rv ru e
     ·rw[hy]at e;exact J4 e
   ·
     obtain⟨k,l⟩:=p;rw[hx]at e;rcases hy:T1 G dy with _|p'
     ·rw[hy]at e;exact J4 e
     ·
       obtain⟨k',l'⟩:=p';rw[hy]at e;dsimp only at e;split at e
       case isFalse=>exact J4 e
       rename_i hk;subst hk;obtain⟨a,vs,Ef,rfl,rfl,rl,rr,sq,q⟩:=lA I h hx rx rv;obtain⟨a',Ft,its',rfl,rfl,Eu,rr',sq',q'⟩:=lA I h hy ry ru;have main:∀(l l':List D) (vs Ft:List V) (Ef its':List zk),m9 (wc X) μ H l vs->m9 (wc X) μ H l' Ft->u9 vs Ef->u9 Ft its'->ltL (eqN n G) (ltN n G) l l'=some b->LtR A.in1 s Ef its' b:=by
        intro l
        induction l with
        |nil=>
          intro l' vs Ft Ef its' r r' q q' e
          cases r;cases q
          rcases l' with _|⟨_,_⟩
          ·cases r';cases q';cases e;exact .nil
          ·
            obtain⟨_,_,rfl,_,_⟩:=r'
            cases q'
            cases e
            exact .nilc
        |cons d ds ih=>
          intro l' vs Ft Ef its' r r' q q' e;obtain⟨v0,vr,rfl,r0,rt⟩:=r
          cases q with
          |cons q0 qt=>
            rcases l' with _|⟨d',ds'⟩
            ·cases r';cases q';cases e;exact .cnil
            ·
              obtain⟨v1,vr',rfl,r1,rt'⟩:=r'
              cases q' with
              |cons q1 qt'=>
                unfold ltL at e;rcases he:eqN n G d d' with _|b0
                ·rw[he]at e;exact J4 e
                ·
                  rw[he]at e;have hE:=(uF I h n A.in1 hu1 r0 r1 q0 q1 he).2.2;rcases b0 with _|_
                  ·exact .ne hE (fT I h n A.in1 hu1 r0 r1 q0 q1 e)
                  ·exact .eq hE (ih ds' vr vr' _ _ rt rt' qt qt' e)
       have hR:=main l l' vs Ft Ef its' rl Eu rr rr' e;intro prog w E Q hq;rcases k with _|_
       ·
         obtain⟨⟨cls,dd,data,sl⟩,ho,hc,m,hd⟩:=id sq;obtain⟨⟨cls2,dd2,data2,sl2⟩,Go,hc2,m2,hd2⟩:=id sq';simp only at hc hd hc2 hd2;subst hc hd hc2 hd2;exact richCompare_meets_room ⟨_,ho,rfl⟩ ⟨_,Go,rfl⟩ PySem.F.slot_list_lt PySem.F.entry_list_lt (PySem.F.args_list_lt_2 _ _) (tw a a' Ef.toArray its'.toArray m m2 dd dd2 sl sl2 b)
          ⟨ho,Go,hR,show Value.bool b≠Value.notImplemented/\Q (.bool b) s from⟨(λx=>nomatch x),hq⟩⟩ hu0
       ·
         obtain⟨⟨cls,dd,data,sl⟩,ho,hc,m,hd⟩:=id sq;obtain⟨⟨cls2,dd2,data2,sl2⟩,Go,hc2,m2,hd2⟩:=id sq';simp only at hc hd hc2 hd2;subst hc hd hc2 hd2;exact richCompare_meets_room ⟨_,ho,rfl⟩ ⟨_,Go,rfl⟩ PySem.F.slot_tuple_lt PySem.F.entry_tuple_lt (PySem.F.args_tuple_lt_2 _ _) (bu a a' Ef.toArray its'.toArray m m2 dd dd2 sl sl2 b)
          ⟨ho,Go,hR,show Value.bool b≠Value.notImplemented/\Q (.bool b) s from⟨(λx=>nomatch x),hq⟩⟩ hu0
def ltD:D->D->M D:=λx y G=>match ltN 40 G x y with
 |some b=>some (.ok (.bl b),G)
 |none=>none
def Lq(hu:X.A.units+64<xq):OpD X Z (zZ .Lt) ltD:=⟨by
 intro Ee s σ H x y v u Q I rx ry Eh;refine Eh.elim λdx dy μ G Ey Fn hr p=>?_;unfold ltD at p;rcases e:ltN 40 G dx dy with _|b
 ·rw[e]at p;exact p.elim
 ·
   rw[e]at p;exact fT I hr 40 X.A (by lia) Ey Fn rx ry e X.prog X.w X.xe _ ⟨.bl b,H,I,rfl,c7.ok p hr _ ofB⟩⟩
def P5:D->Bool
 | .non=>true
 | .bl _=>true
 | .int _=>true
 | .str _=>true
 |_=>false
def toV:D->V
 | .bl b=>.bl b
 | .int i=>.int i
 | .str x=>.str x
 |_=>.non
def C8:D->Option Key
 | .int i=>some (.inl i)
 | .str x=>some (.inr x)
 |_=>none
def U0(l:List (Key×D))(k:Key):Option D:=(l.find? λkv=>decide (kv.1=k)).map (·.2)
def inB(x y:D)(G:DH):Option Bool:=match y with
 | .str j=>match x with
   | .str i=>some (!(ZN j i 0 j.length 1).isEmpty)
   |_=>none
 | .ref r=>match G[r]? with
   |some (.dct l)=>(C8 x).map λk=>(U0 l k).isSome
   |some (.rod _)=>none
   |some (.lst l)=>if P5 x&&l.all P5 then some (inV (toV x) (l.map toV))else none
   |some (.rol l)=>if P5 x&&l.all P5 then some (inV (toV x) (l.map toV))else none
   |none=>none
 | .tup l=>if P5 x&&l.all P5 then some (inV (toV x) (l.map toV))else none
 |_=>none
def inD:D->D->M D:=λx y G=>match inB x y G with
 |some b=>some (.ok (.bl b),G)
 |none=>none
def uA:D->D->M D:=λx y G=>match inB x y G with
 |some b=>some (.ok (.bl (!b)),G)
 |none=>none
def DP(f:P5 d=true)(r:d8 c μ H d v):v=toV d/\eA v=true:=by
 cases d<;>first
  |exact absurd (show false=true from f) jm
  |(unfold d8 at r;subst r;exact⟨rfl,rfl⟩)
theorem eT:∀ {l} {vs},l.all P5=true->m9 c μ H l vs->vs=l.map toV/\vs.all eA=true
 |[],_,_,r=>by cases r;exact⟨rfl,rfl⟩
 |d::ds,_,f,r=>by obtain⟨v,t,rfl,q,rt⟩:=r;rw[yt,jk]at f;obtain⟨e1,e2⟩:=DP f.1 q;obtain⟨e3,e4⟩:=eT f.2 rt;refine⟨by rw[zO,<-e1,<-e3],?_⟩;rw[yt,e2,e4];rfl
def nK(e:C8 d=some k)(r:d8 c μ H d v):v=kV k:=by
 cases d<;>first
  |(cases e;unfold d8 at r;exact r)
  |exact J4 e
theorem NI:∀ {l} {Eg},Z6 c μ H l Eg->match U0 l k with|some d=>∃v,y4 Eg k=some v/\d8 c μ H d v|none=>y4 Eg k=none
 |[],_,r=>by cases r;exact rfl
 |(k',d)::t,_,r=>by
  obtain⟨v,kt,rfl,q,rt⟩:=r;by_cases e:k'=k
  · have h1:U0 ((k',d)::t) k=some d:=by unfold U0;simp[e]
    rw[h1];exact⟨v,rJ e,q⟩
  · have h1:U0 ((k',d)::t) k=U0 t k:=by unfold U0;simp[e]
    rw[h1];have ih:=NI (k:=k) rt;rw[OG e];exact ih
def hX(r:Z6 c μ H l Eg):(U0 l k).isSome= (y4 Eg k).isSome:=by
 have q:=NI (k:=k) r;rcases e:U0 l k with _|d
 ·rw[e]at q;rw[q];rfl
 ·rw[e]at q;obtain⟨v,q,_⟩:=q;rw[q];rfl
def in_at(hu:X.A.units+64<xq)(I:Inv X Ee σ H s)(hr:v6 (wc X) μ G H)(Ey:d8 (wc X) μ H dx x)(Fn:d8 (wc X) μ H dy y)(rx:J5 x v)(ry:J5 y u)
 (e:inB dx dy G=some b):
 (Q (.bl b) H->zw (zG X.prog X.w) X.A (zZ .In v u) (EP X Ee σ Q) X.xe s)/\(Q (.bl (!b)) H->zw (zG X.prog X.w) X.A (zZ .NotIn v u) (EP X Ee σ Q) X.xe s):=by
 have seq:∀(p:Addr) (l:List D) (vs:List V),y= .ref p->(SqL X.K H p vs\/SqT X.K H p vs)->m9 (wc X) μ H l vs->(if (P5 dx&&l.all P5)=true then some (inV (toV dx) (l.map toV))else none)=some b->
  (Q (.bl b) H->zw (zG X.prog X.w) X.A (zZ .In v u) (EP X Ee σ Q) X.xe s)/\(Q (.bl (!b)) H->zw (zG X.prog X.w) X.A (zZ .NotIn v u) (EP X Ee σ Q) X.xe s):=by
  intro p l vs hy hq rl e;split at e
  · rename_i hf;rw[jk]at hf
    cases e
    obtain⟨e1,e2⟩:=DP hf.1 Ey;obtain⟨e3,e4⟩:=eT hf.2 rl;rw[<-e1,<-e3];exact⟨λq=>Kg Ee s σ H x y v u Q I rx ry ⟨p,vs,hy,hq,e2,e4,q⟩,λq=>HX Ee s σ H x y v u Q I rx ry ⟨p,vs,hy,hq,e2,e4,q⟩⟩
  ·exact J4 e
 rcases dy with _|_|_|j|l|i|_|_<;>try (cases e;done)
 ·
   rcases dx with _|_|_|i|_|_|_|_<;>try (cases e;done)
   ·
     cases e
     have e1:=D3 Ey;have e2:=D3 Fn;exact⟨λq=>CW Ee s σ H x y v u Q I rx ry ⟨i,j,e1,e2,q⟩,λq=>Dd Ee s σ H x y v u Q I rx ry ⟨i,j,e1,e2,q⟩⟩
 ·
   unfold d8 at Fn;obtain⟨a,vs,hy,q,rl⟩:=Fn;exact seq a l vs hy (.inr q) rl e
 ·
   unfold d8 at Fn;obtain⟨a,m,hy⟩:=Fn;rcases g:G[i]? with _|o
   ·unfold inB at e;simp only[g]at e;exact J4 e
   ·
     have ro:=hr.obj i o a g m;rcases o with l|l|l|l
     ·
       obtain⟨vs,q,rl⟩:=ro;unfold inB at e;simp only[g]at e;exact seq a l vs hy (.inl (SqL.of q)) rl e
     ·
       obtain⟨vs,q,rl⟩:=ro;unfold inB at e;simp only[g]at e;exact seq a l vs hy (.inl q.sq) rl e
     ·
       obtain⟨Eg,q,rk⟩:=ro;unfold inB at e;simp only[g]at e;rcases hk:C8 dx with _|k
       ·rw[hk]at e;exact J4 e
       ·
         rw[hk]at e
         cases e
         have ek:=nK hk Ey;have dg:kB H a x (y4 Eg k):=by rw[ek];exact kB.k q
         subst hy
         cases ry
         dsimp only;rw[hX rk];exact⟨λq=>Fz (by lia) I dg rx λs' I'=>⟨.bl _,H,I',rfl,q⟩,λq=>mW (by lia) I dg rx λs' I'=>⟨.bl _,H,I',rfl,q⟩⟩
     ·unfold inB at e;simp only[g]at e;exact J4 e
def wW(hu:X.A.units+64<xq):OpD X Z (zZ .In) inD:=⟨by
 intro Ee s σ H x y v u Q I rx ry Eh;refine Eh.elim λdx dy μ G Ey Fn hr p=>?_;unfold inD at p;rcases e:inB dx dy G with _|b
 ·rw[e]at p;exact p.elim
 ·rw[e]at p;exact(in_at hu I hr Ey Fn rx ry e).1 (c7.ok p hr _ ofB)⟩
def Cc(hu:X.A.units+64<xq):OpD X Z (zZ .NotIn) uA:=⟨by
 intro Ee s σ H x y v u Q I rx ry Eh;refine Eh.elim λdx dy μ G Ey Fn hr p=>?_;unfold uA at p;rcases e:inB dx dy G with _|b
 ·rw[e]at p;exact p.elim
 ·rw[e]at p;exact(in_at hu I hr Ey Fn rx ry e).2 (c7.ok p hr _ ofB)⟩
inductive Ty where
 |int|bool|str|tuple|list|dict
 deriving DecidableEq
def Ty.name:Ty->String
 | .int=> "int"| .bool=> "bool"| .str=> "str"| .tuple=> "tuple"| .list=> "list"| .dict=> "dict"
def Ty.of(n:String):Option Ty:=if n= "int" then some .int else if n= "bool" then some .bool else if n= "str" then some .str else if n= "tuple" then some .tuple else if n= "list" then some .list else if n= "dict" then some .dict else none
def Ty.of_name{n:String}{T:Ty}(h:Ty.of n=some T):n=T.name:=by
 unfold Ty.of at h;split at h
 ·rename_i e;cases h;exact e
 split at h
 ·rename_i e;cases h;exact e
 split at h
 ·rename_i e;cases h;exact e
 split at h
 ·rename_i e;cases h;exact e
 split at h
 ·rename_i e;cases h;exact e
 split at h
 ·rename_i e;cases h;exact e
 ·exact J4 h
inductive Kd where
 |non|bool|int|str|tuple|list|dict
def Kd.is:Kd->Ty->Bool
 | .bool,.int=>true
 | .bool,.bool=>true
 | .int,.int=>true
 | .str,.str=>true
 | .tuple,.tuple=>true
 | .list,.list=>true
 | .dict,.dict=>true
 |_,_=>false
def Kd.name:Kd->String
 | .non=> "NoneType"| .bool=> "bool"| .int=> "int"| .str=> "str"| .tuple=> "tuple"| .list=> "list"| .dict=> "dict"
def OD(G:DH):D->Option Kd
 | .non=>some .non
 | .bl _=>some .bool
 | .int _=>some .int
 | .str _=>some .str
 | .tup _=>some .tuple
 | .ref i=>match G[i]? with
   |some (.lst _)=>some .list
   |some (.rol _)=>some .list
   |some (.dct _)=>some .dict
   |some (.rod _)=>some .dict
   |none=>none
 |_=>none
def KD:List D->Option (List Ty)
 |[]=>some []
 | .ty n::r=>match Ty.of n,KD r with
   |some T,some Ts=>some (T::Ts)
   |_,_=>none
 |_=>none
def O7:List D->M D:=λds G=>match ds with
 |[d,.ty n]=>match OD G d,Ty.of n with
   |some k,some T=>some (.ok (.bl (k.is T)),G)
   |_,_=>none
 |[d,.tup l]=>match OD G d,KD l with
   |some k,some Ts=>some (.ok (.bl (Ts.any k.is)),G)
   |_,_=>none
 |_=>none
def sw(K:zn)(k:Kd)(T:Ty):PySem.W.kitOne K (.type k.name) (.type T.name)=some (k.is T):=by
 cases k<;>cases T<;>rfl
def US{A:jC}{E:VSP}{Ee:PNS}{σ:St}{s:zD}{d:D}{x:V}{v:zk}{k:Kd}(I:Inv X Ee σ H s)(hr:v6 (wc X) μ G H)(r:d8 (wc X) μ H d x)(rv:J5 x v)(e:OD G d=some k):
 ∃HH:Heap->Prop,PySem.W.KitX X.K v (.type k.name) HH/\HH s.heap/\v≠ .builtin "__main__.__loader__#opaque":=by
 rcases d with _|b|b|b|l|i|_|_<;>try (cases e;done)
 ·cases e;unfold d8 at r;subst r;cases rv;exact⟨_,PySem.W.kitx_none,True.intro,λz=>nomatch z⟩
 ·cases e;unfold d8 at r;subst r;cases rv;exact⟨_,PySem.W.kitx_bool,True.intro,λz=>nomatch z⟩
 ·cases e;unfold d8 at r;subst r;obtain⟨t,rfl⟩:=rv;exact⟨_,PySem.W.kitx_int,True.intro,λz=>nomatch z⟩
 ·cases e;unfold d8 at r;subst r;obtain⟨t,rfl⟩:=rv;exact⟨_,PySem.W.kitx_str,True.intro,λz=>nomatch z⟩
 ·
   cases e
   unfold d8 at r;obtain⟨a,vs,rfl,q,_⟩:=r
   cases rv
   obtain⟨Ef,_,⟨o,h1,h2,_⟩,_⟩:=I.tuple q;exact⟨_,PySem.W.kitx_tuple,⟨o,h1,h2⟩,λz=>nomatch z⟩
 ·
   unfold d8 at r;obtain⟨a,m,rfl⟩:=r
   cases rv
   unfold OD at e;rcases g:G[i]? with _|o
   ·simp only[g]at e;exact J4 e
   ·
     have ro:=hr.obj i o a g m;simp only[g]at e;rcases o with l|l|l|l
     ·
       cases e
       obtain⟨vs,q,_⟩:=ro;obtain⟨Ef,_,⟨o,n,h1,h2,_⟩,_⟩:=I.list (SqL.of q);exact⟨_,PySem.W.kitx_list,⟨o,h1,h2⟩,λz=>nomatch z⟩
     ·
       cases e
       obtain⟨vs,q,_⟩:=ro;obtain⟨Ef,_,⟨o,n,h1,h2,_⟩,_⟩:=I.list q.sq;exact⟨_,PySem.W.kitx_list,⟨o,h1,h2⟩,λz=>nomatch z⟩
     ·
       cases e
       obtain⟨Eg,q,_⟩:=ro;obtain⟨_,_,vs,_,o,es,ep,h1,h2,_⟩:=(show U5 X.prog X.w H s.heap a (.dK Eg)from I.hok a _ q);exact⟨_,PySem.W.kitx_dict,⟨o,h1,h2.1⟩,λz=>nomatch z⟩
     ·
       cases e
       obtain⟨Eg,ob,q,_⟩:=ro;obtain⟨_,_,_,vs,_,o,es,ep,h1,h2,_⟩:=(show U5 X.prog X.w H s.heap a (.frz ob (.dK Eg))from I.hok a _ q);exact⟨_,PySem.W.kitx_dict,⟨o,h1,h2.1⟩,λz=>nomatch z⟩
theorem uU:∀ {l:List D} {vs:List V} {us:List zk} {Ts:List Ty},KD l=some Ts->m9 c μ H l vs->u9 vs us->us=Ts.map λT=>.type T.name
 |[],_,_,_,e,r,q=>by cases e;cases r;cases q;rfl
 |d::ds,_,_,Ts,e,r,q=>by
   obtain⟨v,t,rfl,r0,rt⟩:=r
   cases q with
   |cons q0 qt=>
     rcases d with _|_|_|_|_|_|_|n<;>try (cases e;done)
     ·
       replace e:(match Ty.of n,KD ds with|some T,some Ts=>some (T::Ts)|_,_=>none)=some Ts:=e;rcases h1:Ty.of n with _|T
       ·rw[h1]at e;exact J4 e
       ·
         rcases h2:KD ds with _|Ts'
         ·rw[h1,h2]at e;exact J4 e
         ·
           rw[h1,h2]at e
           cases e
           unfold d8 at r0;subst r0;rw[uU h2 rt qt,zO,show _=Value.type n from q0,Ty.of_name h1]
theorem lT(K:zn)(k:Kd):∀Ts:List Ty,PySem.W.kitAny K (.type k.name) (Ts.map λT=>.type T.name)=some (Ts.any k.is)
 |[]=>rfl
 |T::Ts=>by
   have ih:=lT K k Ts
   cases k<;>cases T<;>first
    |rfl
    |exact ih
def Cl:X8 X Z (.builtin "isinstance") O7:=⟨by
 intro Ee s σ H xs us Q I r Eh;obtain⟨ds,μ,G,rl,hr,p⟩:=Eh;rcases ds with _|⟨d,_|⟨_|_|_|_|l|_|_|n,_|⟨_,_⟩⟩⟩<;>try exact p.elim
 all_goals (delta O7 at p;dsimp only at p)
 · obtain⟨v,t,rfl,r0,v1,t1,rfl,r1,e⟩:=rl
   cases e
   obtain⟨u,u',rfl,ru,ru'⟩:=tG r;unfold d8 at r1;obtain⟨a,vs,rfl,q,rll⟩:=r1
   cases ru'
   rcases hk:OD G d with _|k
   ·rw[hk]at p;exact p.elim
   ·
     rcases hT:KD l with _|Ts
     ·rw[hk,hT]at p;exact p.elim
     ·
       rw[hk,hT]at p;obtain⟨HH,kx,hh,Et⟩:=US (A:=X.A) (E:=X.xe) I hr r0 ru hk;obtain⟨Ef,rr,⟨⟨cls,dd,data,sl⟩,h1,h2,n,h3⟩,_⟩:=I.tuple q;simp only at h2 h3;subst h2 h3;exact PySem.W.kia_tup kx I.kIn hh h1 (by rw[uU hT rll rr];exact lT X.K k Ts) Et λtk=>⟨.bl _,H,I.tok tk,rfl,c7.ok p hr _ ofB⟩
 · obtain⟨v,t,rfl,r0,v1,t1,rfl,r1,e⟩:=rl
   cases e
   obtain⟨u,u',rfl,ru,ru'⟩:=tG r;unfold d8 at r1;subst r1
   cases ru'
   rcases hk:OD G d with _|k
   ·rw[hk]at p;exact p.elim
   ·
     rcases hT:Ty.of n with _|T
     ·rw[hk,hT]at p;exact p.elim
     ·
       rw[hk,hT]at p;rw[Ty.of_name hT];obtain⟨HH,kx,hh,Et⟩:=US (A:=X.A) (E:=X.xe) I hr r0 ru hk;exact PySem.W.kia_one kx I.kIn hh (sw X.K k T) Et λtk=>⟨.bl _,H,I.tok tk,rfl,c7.ok p hr _ ofB⟩⟩
def pS{c:Wc}{μ:List Addr}{H:Hp}{l:List D}{vs:List V}{i:Int}{d:D}(r:m9 c μ H l vs)(e:atI l i=some d):∃v,atI vs i=some v/\d8 c μ H d v:=by
 unfold atI at e ⊢;rw[<-r.length]
 cases h:ixN l.length i with
 |none=>rw[h]at e;cases e
 |some j=>
   rw[h]at e;obtain⟨v,h1,h2⟩:=r.get e;exact⟨v,h1,h2⟩
def ixD:D->D->M D:=λx y=>match x,y with
 | .tup l,.int i=>S1 (atI l i)
 | .str z,.int i=>if z.length<=zq then do
    let c <-S1 (atI z.cps.toList i)
    pure (.str ⟨#[c]⟩)
   else M.stuck
 | .ref r,.int i=>do
   let l <-N5 r >>= listOf
   S1 (atI l i)
 |_,_=>M.stuck
section
variable{X:Cx}{Z:XC}{a b e:Expr}{fa fb:Fe}{pos:Pos}
def IxD(X:Cx)(Z:XC)(o:D->D->M D):Prop:=IxR X (lB (wc X) Z o)
def tN{o:D->D->M D}(ho:IxD X Z o)(ha:DE X Z a fa)(hb:DE X Z b fb)(hs:bG b):DE X Z (.Subscript a b pos) (j5 o fa fb):=DE.of (FX ho ha.h hb.h hs) nJ
def vM{c:Wc}{μ:List Addr}{H:Hp}{G:DH}{r:Option D}{K:D->List Addr->DH->Hp->Prop}(h:v6 c μ G H)(p:c7 c Z μ H (S1 r G) K):∃d,r=some d/\K d μ G H:=by
 cases r with
 |none=>exact p.elim
 |some d=>exact⟨d,rfl,c7.ok p h⟩
def BN:IxD X Z ixD:=IxR.mono (LX.or (ix_tup.or nj)) λx y H Q Eh=>Eh.elim λdx dy μ G rx ry hr p=>by
 rcases dx with _|_|_|_|_|_|_|_<;>rcases dy with _|_|_|_|_|_|_|_<;>first
  |exact p.elim
  |skip
 · rename_i z i;refine .inr (.inr ?_);unfold ixD at p;dsimp only at p;split at p
   ·rename_i hz;obtain⟨c,ec,p2⟩:=S8 p;exact⟨z,i,c,D3 rx,U1 ry,hz,ec,c7.ok p2 hr _ ofS⟩
   ·exact p.elim
 ·rename_i l i;refine .inr (.inl ?_);unfold d8 at rx;obtain⟨a,vs,rfl,q,rl⟩:=rx;obtain⟨d,ed,k⟩:=vM hr p;obtain⟨v,ev,rv⟩:=pS rl ed;exact⟨a,vs,i,v,rfl,U1 ry,q,ev,k v rv⟩
 · rename_i r i;refine .inl ?_;obtain⟨l,a,vs,rfl,rl,p2,hq⟩:=tJ hr rx p;obtain⟨d,ed,k⟩:=vM hr p2;obtain⟨v,ev,rv⟩:=pS rl ed;rcases hq with⟨z,_⟩|⟨_,_,_,⟨_,q⟩|⟨_,q⟩⟩
   ·cases z
   ·exact⟨a,vs,i,v,rfl,U1 ry,SqL.of q,ev,k v rv⟩
   ·exact⟨a,vs,i,v,rfl,U1 ry,q.sq,ev,k v rv⟩
def Ph(ha:DE X Z a fa)(hb:DE X Z b fb)(hs:bG b):DE X Z (.Subscript a b pos) (j5 ixD fa fb):=tN BN ha hb hs
def cutD(xs:List D)(lo hi:Option Int):List D:=(xs.drop (HT.sIx xs.length 0 lo)).take (HT.sIx xs.length xs.length hi-HT.sIx xs.length 0 lo)
abbrev Fo:=DSt->M (Option Int)
def A9:Fo:=λ_=>pure none
def C4(f:Fe):Fo:=λσ=>do
 match <-f σ with
 | .int i=>pure (some i)
 |_=>M.stuck
def sG(c:Wc)(Z:XC)(f:Fo):TO:=λσ H Q=>∃X9 μ G,K5 c μ H X9 σ/\v6 c μ G H/\c7 c Z μ H (f X9 G) λo _ _ H'=>Q o H'
def sG.elim{c:Wc}{Z:XC}{P:Prop}{f:Fo}{σ:St}{H:Hp}{Q:Option Int->Hp->Prop}(h:sG c Z f σ H Q)(k:∀X9 μ G,K5 c μ H X9 σ->v6 c μ G H->c7 c Z μ H (f X9 G) (λo _ _ H'=>Q o H')->P):P:=by obtain⟨e0,e1,e2,e3,e4,e5⟩:=h;exact k e0 e1 e2 e3 e4 e5
structure DOp(X:Cx)(Z:XC)(e:Option Expr)(f:Fo):Prop where
 h:PO X e (sG (wc X) Z f)
def PO.mono{e:Option Expr}{t t':TO}(h:PO X e t)(k:∀ σ H Q,t' σ H Q->t σ H Q):PO X e t':=λEe s σ H Q I q=>h Ee s σ H Q I (k σ H Q q)
def DOp.of{e:Option Expr}{f:Fo}{t:TO}(h:PO X e t)(k:∀ σ H Q,sG (wc X) Z f σ H Q->t σ H Q):DOp X Z e f:=⟨PO.mono h k⟩
def eZ:DOp X Z none A9:=DOp.of Wm λσ H Q Eh=>Eh.elim λX9 μ G s h p=>c7.ok p h
def aw(h:DE X Z e fa):DOp X Z (some e) (C4 fa):=DOp.of (qq h.h) λσ H Q Eh=>Eh.elim λX9 μ G s h p=>⟨X9,μ,G,s,h,(c7.bind p).mono λd X0 G1 H1 x1 h1 p1 v rv=>by
 cases d with
 |int i=>exact⟨i,U1 rv,c7.ok p1 h1⟩
 |_=>exact p1.elim⟩
def slD:D->Option Int->Option Int->M D:=λx lo hi=>match x with
 | .tup l=>pure (.tup (cutD l lo hi))
 | .ref r=>do
   let l <-N5 r >>= listOf
   M5 (.lst (cutD l lo hi))
 |_=>M.stuck
def SlD(X:Cx)(Z:XC)(o:D->Option Int->Option Int->M D):Prop:=
 SlR X λx lo hi H Q=>∃dx μ G,d8 (wc X) μ H dx x/\v6 (wc X) μ G H/\c7 (wc X) Z μ H (o dx lo hi G) λd X2 _ H'=>∀v,d8 (wc X) X2 H' d v->Q v H'
def SlR.mono{r r':V->Option Int->Option Int->Hp->VK->Prop}(h:SlR X r)(k:∀x lo hi H Q,r' x lo hi H Q->r x lo hi H Q):SlR X r':=λEe s σ H x v vl vu lo hi sl Q I rx hs pl pu q=>h Ee s σ H x v vl vu lo hi sl Q I rx hs pl pu (k x lo hi H Q q)
def uu{prog:jh}{w:jq}{A:jC}{E:VSP}{s:zD}{t sl:Addr}{items:Array zk}{vl vu:zk}{lo hi:Option Int}{Q:VSP}(ht:Xg s.heap t items)(hs:s.heap.IsSliceOf sl vl vu .none)(pl:IsPart vl lo)(pu:IsPart vu hi)
 (hw:HT.sIx items.size 0 lo=0/\HT.sIx items.size items.size hi=items.size) (h:Q (.ref t) s):zw (zG prog w) A (Jk (.ref t) (.ref sl)) Q E s:=by
 obtain⟨os,hos,hcs,hds⟩:=id hs;have hTs:s.TypeIs (.ref sl) "slice":=⟨os,hos,hcs⟩;unfold Jk
 try with_reducible refine jB ?_
 first|refine za (zi ?_)|skip
 refine za (wpAny_sequenceKey ht.typeIs (by decide) ?_);refine za (jJ ht.typeIs jQ
  (jA jQ ht.typeIs entry_tuple_getitem ?_ (args_tuple_getitem _ _)))
 show zw _ _ (Xk (.ref t) >>= _) _ _ s;refine za (tupleItemsOf_ ht ?_);refine za (xX hTs ?_);rw[if_pos (by decide)];refine za (HT.sliceApplied_gen hs pl pu ?_);have hyes:(((HT.sIx items.size 0 lo:Nat):Int)==0&&(1:Int)==1&&(HT.sIx items.size items.size hi-HT.sIx items.size 0 lo)==items.size)=true:=by rw[hw.1,hw.2];simp
 show zw _ _ (if (((HT.sIx items.size 0 lo:Nat):Int)==0&&(1:Int)==1&&(HT.sIx items.size items.size hi-HT.sIx items.size 0 lo)==items.size)=true then _ else _) _ _ s;rw[if_pos hyes];unfold Builtin.Tuple.tupleIsExact;refine za (za (xX ht.typeIs (zi ?_)));rw[if_pos (by decide)];exact za (yS (zi ⟨_,rfl,zi h⟩))
def Hz(K:zn):V->Option Int->Option Int->Hp->VK->Prop:=λx lo hi H Q=>∃a xs,x= .ref a/\SqT K H a xs/\(HT.sIx xs.length 0 lo=0/\HT.sIx xs.length xs.length hi=xs.length)/\Q (.ref a) H
def uv:SlR X (Hz X.K):=by
 intro Ee s σ H x v vl vu lo hi sl Q I rx hs pl pu h;obtain⟨a,xs,rfl,hx,hw,q⟩:=h
 cases rx
 obtain⟨Ef,r,ht,hz⟩:=I.tuple hx;have Ei:Ef.toArray.size=xs.length:=by rw[zo];exact r.length.symm
 exact⟨"tuple",_,jQ.lookup,ht.typeIs,uu ht hs pl pu (by rw[Ei];exact hw) ⟨.ref a,H,I,rfl,q⟩⟩
def SM{c:Wc}{μ:List Addr}{H:Hp}{l:List D}{vs:List V}(r:m9 c μ H l vs)(lo hi:Option Int):m9 c μ H (cutD l lo hi) (B9 vs lo hi):=by unfold cutD B9;rw[r.length];exact(r.drop _).take _
def qv:SlD X Z slD:=SlR.mono (sl_tup.or (uv.or sj)) λx lo hi H Q ⟨dx,μ,G,rx,hr,p⟩=>by
 rcases dx with _|_|_|_|l|r|_|_<;>try (exact p.elim;done)
 ·
   unfold d8 at rx;obtain⟨a,vs,rfl,q,rl⟩:=rx;by_cases hw:HT.sIx vs.length 0 lo=0/\HT.sIx vs.length vs.length hi=vs.length
   · refine .inr (.inl ⟨a,vs,rfl,q,hw,nG hr q ?_ p⟩);have e:B9 vs lo hi=vs:=by unfold B9;rw[hw.1,hw.2];simp
     have:=SM rl lo hi;rw[e]at this;exact this
   ·exact .inl ⟨a,vs,rfl,q,hw,λp' hp=>nF hr (SM rl lo hi) p p' hp⟩
 ·
   obtain⟨l,a,vs,rfl,rl,p2,hq⟩:=tJ hr rx p;have hs:SqL (wc X).K H a vs:=by
    rcases hq with⟨z,_⟩|⟨_,_,_,⟨_,q⟩|⟨_,q⟩⟩
    ·cases z
    ·exact SqL.of q
    ·exact q.sq
   exact .inr (.inr ⟨a,vs,rfl,hs,λp' hp=>U9 hr (SM rl lo hi) p2 p' hp⟩)
variable{lo hi:Option Expr}{fl fh:Fo}{p2:Pos}
end
def F7(r:Nat)(o:DO):M Unit:=λG=>some (.ok (),G.set r o)
def i6(l:List (Key×D))(k:Key)(d:D):List (Key×D):=if l.any (λkv=>decide (kv.1=k))then l.map (λkv=>if kv.1=k then (kv.1,d)else kv)else l++[(k,d)]
def qC:D->D->D->M Unit:=λo i d=>match o with
 | .ref r=>do
   match <-N5 r with
   | .lst l=>match i with
     | .int k=>match ixN l.length k with
       |some j=>F7 r (.lst (l.set j d))
       |none=>M.stuck
     |_=>M.stuck
   | .dct l=>match C8 i with
     |some k=>if l.length<zq then F7 r (.dct (i6 l k d))else M.stuck
     |none=>M.stuck
   | .rol _=>M.stuck
   | .rod _=>M.stuck
 |_=>M.stuck
def A3(fo fi:Fe):Fg:=λd σ=>do
 let o <-fo σ
 let i <-fi σ
 let _ <-qC o i d
 pure σ
section
variable{X:Cx}{Z:XC}{μ:List Addr}{H:Hp}{G:DH}
def FU(rv:d8 c μ H d v):∀ {l} {Eg},Z6 c μ H l Eg->Z6 c μ H (i6 l k d) (o4 Eg k v):=by
 have any_eq:∀ {l:List (Key×D)} {Eg:List (Key×V)},Z6 c μ H l Eg->(l.any λkv=>decide (kv.1=k))= (Eg.any λkv=>decide (kv.1=k)):=by
  intro l
  induction l with
  |nil=>intro Eg r;cases r;rfl
  |cons p t ih=>
    intro Eg r;obtain⟨v',kt,rfl,_,rt⟩:=r;rw[yr,yr,ih rt]
 have map_eq:∀ {l:List (Key×D)} {Eg:List (Key×V)},Z6 c μ H l Eg->Z6 c μ H (l.map λkv=>if kv.1=k then (kv.1,d)else kv) (Eg.map λkv=>if kv.1=k then (kv.1,v)else kv):=by
  intro l
  induction l with
  |nil=>intro Eg r;cases r;rfl
  |cons p t ih=>
    intro Eg r;obtain⟨k',d'⟩:=p;obtain⟨v',kt,rfl,q,rt⟩:=r;rw[zO,zO];by_cases e:k'=k
    ·simp only[e,if_true];exact⟨v,_,rfl,rv,ih rt⟩
    ·simp only[e,if_false];exact⟨v',_,rfl,q,ih rt⟩
 have app_eq:∀ {l:List (Key×D)} {Eg:List (Key×V)},Z6 c μ H l Eg->Z6 c μ H (l++[(k,d)]) (Eg++[(k,v)]):=by
  intro l
  induction l with
  |nil=>intro Eg r;cases r;exact⟨v, [],rfl,rv,rfl⟩
  |cons p t ih=>
    intro Eg r;obtain⟨v',kt,rfl,q,rt⟩:=r;exact⟨v',_,rfl,q,ih rt⟩
 intro l Eg r;unfold i6 o4;rw[any_eq r];split
 ·exact map_eq r
 ·exact app_eq r
theorem Z6.length:∀ {l} {Eg},Z6 c μ H l Eg->l.length=Eg.length
 |[],_,r=>by cases r;rfl
 |_::_,_,r=>by obtain⟨_,_,rfl,_,t⟩:=r;simp[Z6.length t]
def dP{Q:List Addr->DH->Hp->Prop}(h:v6 c μ G H)(g:G[r]? =some o)(n:¬E6 (some o))(m:μ[r]? =some a)(n':¬E6 (some o'))(ho:∀x:Ext μ H μ (upd H a u),t9 c μ (upd H a u) a o')
 (p:c7 c Z μ H (F7 r o' G) λ_ X2 G' H'=>Q X2 G' H'):Q μ (G.set r o') (upd H a u):=by
 obtain⟨u',e,n1,n2⟩:=(h.obj r o a g m).some_of n;have x:Ext μ H μ (upd H a u):=Ext.mut (yX m) e n1 n2 u;exact p μ _ x (h.set g n m x n' (ho x))
def Al(c:Wc)(Z:XC)(f:D->D->D->M Unit):TSet:=λo i v H Q=>∃d1 d2 d3 μ G,d8 c μ H d1 o/\d8 c μ H d2 i/\d8 c μ H d3 v/\v6 c μ G H/\c7 c Z μ H (f d1 d2 d3 G) λ_ _ _ H'=>Q H'
def TZ(hu:X.A.units+64<xq):BK X (Al (wc X) Z qC):=by
 intro Ee s σ H o i v ov iv u Q I ro ri rv Eh;obtain⟨d1,d2,d3,μ,G,r1,r2,r3,hr,p⟩:=Eh;rcases d1 with _|_|_|_|_|r|_|_<;>try (exact p.elim;done)
 ·
   unfold d8 at r1;obtain⟨a,m,rfl⟩:=r1;obtain⟨ob,g,p1⟩:=K4 p;have rob:=hr.obj r ob a g m;rcases ob with l|l|l|l
   ·
     obtain⟨vs,ea,rl⟩:=rob;rcases d2 with _|_|k|_|_|_|_|_<;>try (exact p1.elim;done)
     ·
       dsimp only at p1;rcases hk:ixN l.length k with _|j
       ·simp only[hk]at p1;exact p1.elim
       ·
         simp only[hk]at p1;exact Qh Ee s σ H (.ref a) i v ov iv u Q I ro ri rv ⟨a,vs,k,j,rfl,U1 r2,ea,by rw[<-rl.length];exact hk,dP (o':=.lst (l.set j d3)) hr g (λz=>z) m (λz=>z) (λx=>⟨_,Q6,(rl.mono x).set (r3.mono x) j⟩) p1⟩
   ·exact p1.elim
   ·
     obtain⟨Eg,ea,rk⟩:=rob;dsimp only at p1;rcases hk:C8 d2 with _|k
     ·simp only[hk]at p1;exact p1.elim
     ·
       simp only[hk]at p1;split at p1
       · rename_i hz;have ei:=nK hk r2;subst ei
         cases ro
         refine Cr (by lia) I (MH.k ea (by rw[<-rk.length];exact hz)) ri rv λs' I'=>⟨_,I',?_⟩;exact dP (o':=.dct (i6 l k d3)) hr g (λz=>z) m (λz=>z) (λx=>⟨_,Q6,FU (r3.mono x) (rk.mono x)⟩) p1
       ·exact p1.elim
   ·exact p1.elim
variable{a b e o i:Expr}{fa fb fo fi:Fe}
def Rm(hu:X.A.units+64<xq)(ho:DE X Z o fo)(hi:DE X Z i fi)
 (ha:∀v,YW (.Subscript o i pos) X.env v= (do
   let ov <-Xy [v] (eval o X.env)
   let iv <-Xy [v,ov] (eval i X.env)
   standAt pos
   Xy [v,ov,iv] (setItem ov iv v)
   release [v,ov,iv] [])):DG X Z (.Subscript o i pos) (A3 fo fi):=
 DG.of (KW ho.h hi.h (TZ hu) ha) λv σ H Q Eh=>Eh.elim λd X9 μ G r s h p=>⟨X9,μ,G,s,h,(c7.bind p).mono λd1 X0 G1 H1 x1 h1 p1 v1 r1=>
  ⟨X9,X0,G1,s.mono x1,h1,(c7.bind p1).mono λd2 WY G2 H2 x2 h2 p2 v2 r2=>⟨d1,d2,d,WY,G2,r1.mono x2,r2,r.mono (x1.trans x2),h2,(c7.bind p2).mono λ_ WN G3 H3 x3 h3 p3=>c7.ok p3 h3 σ (s.mono (x1.trans (x2.trans x3)))⟩⟩⟩
def HU:Fe:=λ_=>M5 (.dct [])
def FV:DE X Z (.Dict [] [] pos) HU:=DE.of De λσ H Q Eh=>Eh.elim λX9 μ G s h p q hq=>by have k:Ext μ H (μ++[q]) (upd H q (.dK [])):=Ext.add hq _;refine p (μ++[q]) _ k (h.new hq ⟨[],Q6,rfl⟩) _ ?_;unfold d8;exact⟨q,by rw[<-h.len];simp,rfl⟩
def Q0:D->M Unit:=λx=>match x with
 | .ref r=>do
   match <-N5 r with
   | .lst _=>pure ()
   |_=>M.stuck
 |_=>M.stuck
def mtE(t:D->M Unit)(m:D->List D->M D)(fo:Fe)(fs:DSt->M (List D)):Fe:=λσ=>do
 let x <-fo σ
 let _ <-t x
 let xs <-fs σ
 m x xs
def lstM(r:Nat):M (List D):=do
 match <-N5 r with
 | .lst l=>pure l
 |_=>M.stuck
def L6:D->List D->M D:=λx xs=>match x,xs with
 | .ref r, [y]=>do
   let l <-lstM r
   if l.length<zq then do
    let _ <-F7 r (.lst (l++[y]))
    pure .non
   else M.stuck
 |_,_=>M.stuck
def wC:D->List D->M D:=λx xs=>match x,xs with
 | .ref r, [.ref q]=>do
   let l <-lstM r
   let k <-lstM q
   if l.length+k.length<=zq then do
    let _ <-F7 r (.lst (l++k))
    pure .non
   else M.stuck
 |_,_=>M.stuck
def NF:D->List D->M D:=λx xs=>match x,xs with
 | .ref r, []=>do
   let l <-lstM r
   match l.getLast? with
   |some y=>do
     let _ <-F7 r (.lst l.dropLast)
     pure y
   |none=>M.stuck
 |_,_=>M.stuck
def cJ{a:Addr}{f:List D->M α}{K:α->List Addr->DH->Hp->Prop}(h:v6 c μ G H)(m:μ[r]? =some a)(p:c7 c Z μ H ((lstM r >>= f) G) K):
 ∃l vs,G[r]? =some (.lst l)/\H a=some (.lst vs)/\m9 c μ H l vs/\c7 c Z μ H (f l G) K:=by
 have p':c7 c Z μ H ((N5 r >>= λo=>(match o with| .lst l=>pure l|_=>M.stuck:M (List D)) >>= f) G) K:=by rw[<-M.bind_assoc];exact p
 obtain⟨o,g,p2⟩:=K4 p';have ro:=h.obj r o a g m;rcases o with l|_|_|_<;>try (exact p2.elim;done)
 ·obtain⟨vs,e,rl⟩:=ro;exact⟨l,vs,g,e,rl,p2⟩
def MtD(X:Cx)(Z:XC)(id:String)(m:D->List D->M D):Prop:=
 MtR X id λx xs H Q=>∃d ds μ G,d8 (wc X) μ H d x/\m9 (wc X) μ H ds xs/\v6 (wc X) μ G H/\c7 (wc X) Z μ H (m d ds G) λd X2 _ H'=>∀v,d8 (wc X) X2 H' d v->Q v H'
def OM{r:Nat}{a:Addr}{f:M α}{K:α->List Addr->DH->Hp->Prop}(h:v6 c μ G H)(g:G[r]? =some (.lst l))(m:μ[r]? =some a)(rl:∀x:Ext μ H μ (upd H a (.lst Ft)),m9 c μ (upd H a (.lst Ft)) l' Ft)
 (p:c7 c Z μ H ((F7 r (.lst l') >>= λ_=>f) G) K):Ext μ H μ (upd H a (.lst Ft))/\v6 c μ (G.set r (.lst l')) (upd H a (.lst Ft))/\c7 c Z μ (upd H a (.lst Ft)) (f (G.set r (.lst l'))) K:=by
 obtain⟨u',e,n1,n2⟩:=(h.obj r _ a g m).some_of (λz=>z);have x:Ext μ H μ (upd H a (.lst Ft)):=Ext.mut (yX m) e n1 n2 _;have h':v6 c μ (G.set r (.lst l')) (upd H a (.lst Ft)):=h.set g (λz=>z) m x (λz=>z) ⟨Ft,Q6,rl x⟩;exact⟨x,h',c7.from p x⟩
def sv:MtD X Z "list.append" L6:=by
 intro Ee s σ H x xs v us Q I rx rs Eh;obtain⟨d,ds,μ,G,rd,rds,hr,p⟩:=Eh;rcases d with _|_|_|_|_|r|_|_<;>try (exact p.elim;done)
 ·
   unfold d8 at rd;obtain⟨a,m,rfl⟩:=rd;rcases ds with _|⟨y,t⟩
   ·exact p.elim
   ·
     rcases t with _|⟨_,_⟩
     ·
       obtain⟨yv,tv,rfl,ry,e⟩:=rds
       cases e
       obtain⟨l,vs,g,ea,rl,p1⟩:=cJ hr m p;split at p1
       ·rename_i hz;obtain⟨x1,h1,p2⟩:=OM hr g m (λx=>(rl.mono x).append (m9.cons (ry.mono x) m9.nil)) p1;exact LQ Ee s σ H (.ref a) [yv] v us Q I rx rs ⟨a,vs,yv,rfl,rfl,ea,by rw[<-rl.length];exact hz,c7.ok p2 h1 _ ofN⟩
       ·exact p1.elim
     ·exact p.elim
def BX:MtD X Z "list.extend" wC:=by
 intro Ee s σ H x xs v us Q I rx rs Eh;obtain⟨d,ds,μ,G,rd,rds,hr,p⟩:=Eh;rcases d with _|_|_|_|_|r|_|_<;>try (exact p.elim;done)
 ·
   unfold d8 at rd;obtain⟨a,m,rfl⟩:=rd;rcases ds with _|⟨y,t⟩
   ·exact p.elim
   ·
     rcases t with _|⟨_,_⟩
     ·
       obtain⟨yv,tv,rfl,ry,e⟩:=rds
       cases e
       rcases y with _|_|_|_|_|q|_|_<;>try (exact p.elim;done)
       ·
         unfold d8 at ry;obtain⟨b,m2,rfl⟩:=ry;obtain⟨l,vs,g,ea,rl,p1⟩:=cJ hr m p;obtain⟨k,ws,g2,eb,rk,p2⟩:=cJ hr m2 p1;split at p2
         ·rename_i hz;obtain⟨x1,h1,p3⟩:=OM hr g m (λx=>(rl.mono x).append (rk.mono x)) p2;exact Kf Ee s σ H (.ref a) [.ref b] v us Q I rx rs ⟨a,b,vs,ws,rfl,rfl,ea,eb,by rw[<-rl.length,<-rk.length];exact hz,c7.ok p3 h1 _ ofN⟩
         ·exact p2.elim
     ·cases y<;>exact p.elim
def tq:MtD X Z "list.pop" NF:=by
 intro Ee s σ H x xs v us Q I rx rs Eh;obtain⟨d,ds,μ,G,rd,rds,hr,p⟩:=Eh;rcases d with _|_|_|_|_|r|_|_<;>try (exact p.elim;done)
 ·
   unfold d8 at rd;obtain⟨a,m,rfl⟩:=rd;rcases ds with _|⟨_,_⟩
   ·
     cases rds
     obtain⟨l,vs,g,ea,rl,p1⟩:=cJ hr m p;rcases hy:l.getLast? with _|y
     ·simp only[hy]at p1;exact p1.elim
     ·
       simp only[hy]at p1;obtain⟨x1,h1,p2⟩:=OM hr g m (λx=>(rl.mono x).dropLast) p1;rw[List.getLast?_eq_getElem?]at hy;obtain⟨yv,e1,ry⟩:=rl.get hy;rw[rl.length]at e1;exact UW Ee s σ H (.ref a) [] v us Q I rx rs ⟨a,vs,yv,rfl,rfl,ea,e1,c7.ok p2 h1 _ (ry.mono x1)⟩
   ·exact p.elim
variable{es:List Expr}{fs:DSt->M (List D)}{name:Str}{Ez Em:Pos}{id:String}{mm:D->List D->M D}
def oN{f:Unit->M α}{K:α->List Addr->DH->Hp->Prop}(h:v6 c μ G H)(r:d8 c μ H d v)(p:c7 c Z μ H ((Q0 d >>= f) G) K):tyV c.K "list" v H/\c7 c Z μ H (f () G) K:=by
 rcases d with _|_|_|_|_|i|_|_<;>try (exact p.elim;done)
 ·
   unfold d8 at r;obtain⟨a,m,rfl⟩:=r;have p':c7 c Z μ H ((N5 i >>= λo=>(match o with| .lst _=>pure ()|_=>M.stuck:M Unit) >>= f) G) K:=by rw[<-M.bind_assoc];exact p
   obtain⟨o,g,p2⟩:=K4 p';have ro:=h.obj i o a g m;rcases o with l|_|_|_<;>try (exact p2.elim;done)
   ·obtain⟨vs,e,rl⟩:=ro;exact⟨.inl ⟨rfl,vs,SqL.of e⟩,p2⟩
def FN(slot:Slot "list" name id)(hty:typeOf (.builtin id)=pure (.type "method_descriptor"))(hm:MtD X Z id mm)(ho:DE X Z o fo)(ha:DA X Z (e::es) fs)
 (hbase:xG o name X.env (eval o X.env)=eval o X.env)
 (hfew:((xi Em (zW (e::es) X.env)).all (λx=> !x.1)&&(Jl Em (Yl [] X.env)).all (λx=>x.1.isSome)
   && decide ((e::es).length+([]:List Keyword).length+(if ([]:List Keyword).isEmpty then 0 else 1)<30))=true)
 (hline:(Ez.endLine==Em.line)=true) (hs:zW (e::es) X.env= (false,eval e X.env)::zW es X.env) (Fu:(xi Em (zW es X.env)).any (·.1)=false):
 DE X Z (.Call (.Attribute o name Ez) (e::es) [] Em) (mtE Q0 mm fo fs):=
 DE.of (bL Jw slot hty hm ho.h ha.h hbase hfew hline hs Fu) λσ H Q Eh=>Eh.elim λX9 μ G s h p=>⟨X9,μ,G,s,h,(c7.bind p).mono λd X0 G1 H1 x1 h1 p1 v rv=>by obtain⟨ty,p2⟩:=oN h1 rv p1;exact⟨ty,X9,X0,G1,s.mono x1,h1,(c7.bind p2).mono λds WY G2 H2 x2 h2 p3 vs rvs=>⟨d,ds,WY,G2,rv.mono x2,rvs,h2,p3⟩⟩⟩
def kY(slot:Slot "list" name id)(hty:typeOf (.builtin id)=pure (.type "method_descriptor"))(hm:MtD X Z id mm)(ho:DE X Z o fo)
 (hbase:xG o name X.env (eval o X.env)=eval o X.env) (hline:(Ez.endLine==Em.line)=true):DE X Z (.Call (.Attribute o name Ez) [] [] Em) (mtE Q0 mm fo L0):=
 DE.of (cv Jw slot hty hm ho.h hbase hline) λσ H Q Eh=>Eh.elim λX9 μ G s h p=>⟨X9,μ,G,s,h,(c7.bind p).mono λd X0 G1 H1 x1 h1 p1 v rv=>by obtain⟨ty,p2⟩:=oN h1 rv p1;exact⟨ty,d, [],X0,G1,rv,rfl,h1,p2⟩⟩
end
def SI(k:Bool)(h:Heap)(it a:Addr)(i:Nat):Prop:=if k then h.IsTupleIter it a i else h.IsListIter it a i
def SC(k:Bool)(h:Heap)(a:Addr)(items:Array zk):Prop:=if k then h.IsTuple a items else h.IsList a items
section
variable{prog:jh}{w:jq}{A:jC}{E:VSP}{s:zD}
def SI.keep(x:SI k h it a i)(q:∀o,h.get? it=some o->h'.get? it=some o):SI k h' it a i:=by
 rcases k with _|_
 ·exact Heap.IsListIter.at (show h.IsListIter it a i from x) q
 ·exact Heap.IsTupleIter.at (show h.IsTupleIter it a i from x) q
def SC.keep(x:SC k h a Ef)(q:∀o,h.get? a=some o->h'.get? a=some o):SC k h' a Ef:=by
 rcases k with _|_
 ·obtain⟨o,e,r⟩:=(show h.IsList a Ef from x);exact⟨o,q o e,r⟩
 ·obtain⟨o,e,r⟩:=(show h.IsTuple a Ef from x);exact⟨o,q o e,r⟩
def SI.there(x:SI k h it a i):∃o,h.get? it=some o/\∀v,o.data≠ .cell v:=by
 rcases k with _|_
 ·obtain⟨o,e,c,d⟩:=(show h.IsListIter it a i from x);exact⟨o,e,λv z=>by rw[d]at z;cases z⟩
 ·obtain⟨o,e,c,d⟩:=(show h.IsTupleIter it a i from x);exact⟨o,e,λv z=>by rw[d]at z;cases z⟩
def Bk(hit:s.heap.IsTupleIter it t i)(ht:s.heap.IsTuple t items)(hx:items[i]? =some x)
 (hQ:∀h',h'.IsTupleIter it t (i+1)->jy it s.heap h'->Q x {s with heap:=h'}):zw (zG prog w) A (ju (.ref it)) Q E s:=by
 obtain⟨ob,hob,hcls,Gy⟩:=id hit;obtain⟨ot,hot,_,nt,hdt⟩:=ht;unfold ju;refine za (jJ hit.typeIs xN (jA xN hit.typeIs JY ?_ (JQ _)));show zw _ _ (field (.ref it) 0 >>= _) _ _ s;refine za (yq hob Gy rfl ?_);show zw _ _ (if (Value.ref t==Value.none)=true then _ else _) _ _ s;rw[if_neg (show ¬((Value.ref t==Value.none)=true)from jm)];show zw _ _ (field (.ref it) 1 >>= _) _ _ s;refine za (yq hob Gy rfl ?_);show zw _ _ (seqItems? (.ref t) >>= _) _ _ s;refine za (yn hot hdt ?_);simp only[jE,hx];refine za (wpAny_setField hob Gy (by simp) (zi ⟨x,rfl,zi (hQ _ ?_ (jT ..))⟩));exact⟨_,jP _ hob (Obj.isFreed_of_fields (Obj.data_mapFields Gy _)),(Obj.cls_mapFields ..).trans hcls,by rw[Obj.data_mapFields Gy];simp[xp]⟩
def RY(hh:A.handled=none)(hit:s.heap.IsTupleIter it t i)(ht:s.heap.IsTuple t items)(hx:items[i]? =none)
 (hE:∀h' e,XZ it s.heap h'->(∃o,h'.get? e=some o/\o.cls= .type "StopIteration")->E (.ref e) {s with heap:=h'}):zw (zG prog w) A (ju (.ref it)) Q E s:=by
 obtain⟨ob,hob,hcls,Gy⟩:=id hit;obtain⟨ot,hot,_,nt,hdt⟩:=ht;unfold ju;refine za (jJ hit.typeIs xN (jA xN hit.typeIs JY ?_ (JQ _)));show zw _ _ (field (.ref it) 0 >>= _) _ _ s;refine za (yq hob Gy rfl ?_);show zw _ _ (if (Value.ref t==Value.none)=true then _ else _) _ _ s;rw[if_neg (show ¬((Value.ref t==Value.none)=true)from jm)];show zw _ _ (field (.ref it) 1 >>= _) _ _ s;refine za (yq hob Gy rfl ?_);show zw _ _ (seqItems? (.ref t) >>= _) _ _ s;refine za (yn hot hdt ?_);simp only[jE,hx];refine za (yS (za (wpAny_setField hob Gy (by simp) ?_)));show zw _ _ (newExc (.type "StopIteration") [] >>= _) _ _ _;refine za ?_;simp only[newExc,newTuple];refine za (yL ?_ (by size_fits));refine za (JU (by first|rfl|(simp only[firstArgMember];rfl)) ?_);refine yL ?_ (by size_fits);delta raiseNew;dsimp only;refine za (wpAny_handled ?_)
 first|rw[show A.in1.handled=none from hh]|rw[hh]
 refine za (zi (wpAny_throw ?_));exact hE _ _ (((jT ..).extBut.push _).push _) ⟨_,zt _ rfl,rfl⟩
def pK(hit:SI k s.heap it a i)(hl:SC k s.heap a items)(hx:items[i]? =some x)
 (hQ:∀h',SI k h' it a (i+1)->jy it s.heap h'->Q x {s with heap:=h'}):zw (zG prog w) A (ju (.ref it)) Q E s:=by
 rcases k with _|_
 ·exact wpAny_nextOf_list_item hit hl hx hQ
 ·exact Bk hit hl hx hQ
def uT(hh:A.handled=none)(hit:SI k s.heap it a i)(hl:SC k s.heap a items)(hx:items[i]? =none)
 (hE:∀h' e,XZ it s.heap h'->(∃o,h'.get? e=some o/\o.cls= .type "StopIteration")->E (.ref e) {s with heap:=h'}):zw (zG prog w) A (ju (.ref it)) Q E s:=by
 rcases k with _|_
 ·exact wpAny_nextOf_list_end hh hit hl hx hE
 ·exact RY hh hit hl hx hE
structure ZA(z TI TO i1 i2:Addr):Prop where
 TIz:TI≠z
 TOz:TO≠z
 i1z:i1≠z
 i2z:i2≠z
 TITO:TI≠TO
 TIi1:TI≠i1
 TIi2:TI≠i2
 TOi1:TO≠i1
 TOi2:TO≠i2
 i12:i1≠i2
def Nj(n:Nat):ZA (n+4:Nat) (n+2:Nat) (n+3:Nat) n (n+1:Nat):=⟨(by show @Ne Nat _ _;lia),(by show @Ne Nat _ _;lia),(by show @Ne Nat _ _;lia),(by show @Ne Nat _ _;lia),(by show @Ne Nat _ _;lia),(by show @Ne Nat _ _;lia),(by show @Ne Nat _ _;lia),(by show @Ne Nat _ _;lia),(by show @Ne Nat _ _;lia),(by show @Ne Nat _ _;lia)⟩
def NP(h:l<n):¬ @Membership.mem Addr (List Addr) List.instMembership [(n+4:Nat),(n+3:Nat),n,(n+1:Nat)] l:=by simp only[zy,jg,or_false,not_or];exact⟨(by show ¬ @Eq Nat _ _;lia),(by show ¬ @Eq Nat _ _;lia),(by show ¬ @Eq Nat _ _;lia),(by show ¬ @Eq Nat _ _;lia)⟩
def rY(hb: @Membership.mem Addr (List Addr) List.instMembership [(n+4:Nat),(n+2:Nat),(n+3:Nat),n,(n+1:Nat)] b): @LE.le Nat instLENat n b:=by simp only[zy,jg,or_false]at hb;rcases hb with rfl|rfl|rfl|rfl|rfl<;>(show @LE.le Nat instLENat _ _;lia)
variable{z TI TO i1 i2 l1 l2:Addr}{xs ys:Array zk}{k1 k2:Bool}{i:Nat}
def wt{Q:VSP}(Ap:ZA z TI TO i1 i2)(n1:l1∉ [z,TO,i1,i2])(n2:l2∉ [z,TO,i1,i2])
 (hz:ZW s.heap z TI TO .none) (hTI:yQ s.heap TI (.ref i1) (.ref i2)) (hTO:yQ s.heap TO a b)
 (h1:SI k1 s.heap i1 l1 i) (h2:SI k2 s.heap i2 l2 i) (Ha:SC k1 s.heap l1 xs) (Ge:SC k2 s.heap l2 ys) (hx:xs[i]? =some x) (hy:ys[i]? =some y)
 (hQ:∀h',ZW h' z TI TO (xp s.heap.objs.size)->yQ h' TO x y->SI k1 h' i1 l1 (i+1)->SI k2 h' i2 l2 (i+1)->yQ h' s.heap.objs.size x y->h'.objs.size=s.heap.objs.size+1->
   (∀c o,c≠z->c≠TO->c≠i1->c≠i2->s.heap.get? c=some o->h'.get? c=some o)->Q (.ref s.heap.objs.size) {s with heap:=h'}):
 zw (zG prog w) A (yg.«zip.__next__» ⟨[.ref z], []⟩) (λfin s'=>∃v,fin= .done (.ret v)/\Q v s') E s:=by
 simp only[zy,jg,or_false,not_or]at n1 n2;show zw _ _ (field (.ref z) 2 >>= _) _ _ _;refine za (yq hz rfl rfl ?_);show zw _ _ (field (.ref z) 3 >>= _) _ _ _;refine za (yq hz rfl rfl ?_);refine za (yn hTI rfl ?_);show zw _ _ (yC (.ref z) >>= _) _ _ _;refine za ?_;unfold yC;refine za (yq hz rfl rfl (zi ?_));simp only[if_true];refine za (yS ?_);refine za (yq hz rfl rfl ?_);refine za (yo hz (by simp) λg₁ hz₁ WV=>?_);replace hz₁:ZW g₁ z TI TO .ellipsis:=hz₁;refine za ?_;simp only[List.zipIdx_cons,List.zipIdx_nil,Yw,Jz];refine za (za (XO ?_));show zw _ _ (ju (.ref i1) >>= _) _ _ _;refine za (pK (h1.keep λo e=>WV.extBut _ _ Ap.i1z e) (Ha.keep λo e=>WV.extBut _ _ n1.1 e) hx λg₂ h1₂ WR=>zi ?_);have hTO₂:yQ g₂ TO a b:=WR.extBut _ _ Ap.TOi1 (WV.extBut _ _ Ap.TOz hTO);refine za (yn hTO₂ rfl ?_);refine za (Xr hTO₂ λg₃ hTO₃ hs₃=>?_);replace hTO₃:yQ g₃ TO x b:=hTO₃;refine za (xR (zi ?_));refine za (za (XO ?_));show zw _ _ (ju (.ref i2) >>= _) _ _ _;have up3:∀c o,c≠z->c≠TO->c≠i1->s.heap.get? c=some o->g₃.get? c=some o:=λc o c1 c2 c3 e=>hs₃.extBut _ _ c2 (WR.extBut _ _ c3 (WV.extBut _ _ c1 e));refine za (pK (h2.keep λo e=>up3 _ _ Ap.i2z Ap.TOi2.symm Ap.i12.symm e) (Ge.keep λo e=>up3 _ _ n2.1 n2.2.1 n2.2.2.1 e) hy λg₄ h2₄ hs₄=>zi ?_);have hTO₄:yQ g₄ TO x b:=hs₄.extBut _ _ Ap.TOi2 hTO₃;refine za (yn hTO₄ rfl ?_);refine za (Xr hTO₄ λWT hTO₅ hs₅=>?_);replace hTO₅:yQ WT TO x y:=hTO₅;refine za (xR (zi (zi ?_)));refine za (yn hTO₅ rfl ?_);refine za (wpAny_newTuple ?_);have hsz:WT.objs.size=s.heap.objs.size:=by rw[hs₅.1,hs₄.1,hs₃.1,WR.1,WV.1]
 have hz₅:ZW WT z TI TO .ellipsis:=hs₅.extBut _ _ Ap.TOz.symm (hs₄.extBut _ _ Ap.i2z.symm (hs₃.extBut _ _ Ap.TOz.symm (WR.extBut _ _ Ap.i1z.symm hz₁)));have hk₅:∀c o,c≠z->c≠TO->c≠i1->c≠i2->s.heap.get? c=some o->WT.get? c=some o:=λc o c1 c2 c3 c4 e=>hs₅.extBut _ _ c2 (hs₄.extBut _ _ c4 (up3 c o c1 c2 c3 e));have h1₅:SI k1 WT i1 l1 (i+1):=h1₂.keep λo e=>hs₅.extBut _ _ Ap.TOi1.symm (hs₄.extBut _ _ Ap.i12 (hs₃.extBut _ _ Ap.TOi1.symm e));have h2₅:SI k2 WT i2 l2 (i+1):=h2₄.keep λo e=>hs₅.extBut _ _ Ap.TOi2.symm e;have hzlt:z<WT.objs.size:=zu hz₅;show zw _ _ (ZO (.ref z) (.ref WT.objs.size) >>= _) _ _ _;refine za ?_;unfold ZO;have hz₆:ZW (WT.push {cls:=.type "tuple",data:=.seq #[x,y]}) z TI TO .ellipsis:=zh _ hz₅;refine za (yo hz₆ (by simp) λg₇ hz₇ hs₇=>?_);replace hz₇:ZW g₇ z TI TO (xp WT.objs.size):=hz₇;refine yo hz₇ (by simp) λg₈ hz₈ hs₈=>?_;replace hz₈:ZW g₈ z TI TO (xp WT.objs.size):=hz₈;have up:∀c o,c≠z->WT.get? c=some o->g₈.get? c=some o:=λc o c1 e=>hs₈.extBut _ _ c1 (hs₇.extBut _ _ c1 (zh _ e));have hT₈:yQ g₈ WT.objs.size x y:=hs₈.extBut _ _ (jX hzlt) (hs₇.extBut _ _ (jX hzlt) (zt _ rfl));have hz8:g₈.objs.size=WT.objs.size+1:=by rw[hs₈.1,hs₇.1,yw]
 rw[hsz]at hz₈ hT₈ hz8;refine zi ⟨_,rfl,?_⟩;show Q (.ref WT.objs.size) _;rw[hsz];exact hQ g₈ hz₈ (up _ _ Ap.TOz hTO₅) (h1₅.keep λo e=>up _ o Ap.i1z e) (h2₅.keep λo e=>up _ o Ap.i2z e) hT₈ hz8 λc o c1 c2 c3 c4 e=>up c o c1 (hk₅ c o c1 c2 c3 c4 e)
def vg(hh:A.handled=none)(Ap:ZA z TI TO i1 i2)(n1:l1∉ [z,TO,i1,i2])(n2:l2∉ [z,TO,i1,i2])
 (hz:ZW s.heap z TI TO .none) (hTI:yQ s.heap TI (.ref i1) (.ref i2)) (hTO:yQ s.heap TO a b)
 (h1:SI k1 s.heap i1 l1 i) (h2:SI k2 s.heap i2 l2 i) (Ha:SC k1 s.heap l1 xs) (Ge:SC k2 s.heap l2 ys) (hend:xs[i]? =none\/ys[i]? =none)
 (hE:∀h' e,(∀c o,c≠z->c≠TO->c≠i1->c≠i2->s.heap.get? c=some o->h'.get? c=some o)->(∃o,h'.get? e=some o/\o.cls= .type "StopIteration")->E (.ref e) {s with heap:=h'}):
 zw (zG prog w) A (yg.«zip.__next__» ⟨[.ref z], []⟩) Q E s:=by
 simp only[zy,jg,or_false,not_or]at n1 n2;show zw _ _ (field (.ref z) 2 >>= _) _ _ _;refine za (yq hz rfl rfl ?_);show zw _ _ (field (.ref z) 3 >>= _) _ _ _;refine za (yq hz rfl rfl ?_);refine za (yn hTI rfl ?_);show zw _ _ (yC (.ref z) >>= _) _ _ _;refine za ?_;unfold yC;refine za (yq hz rfl rfl (zi ?_));simp only[if_true];refine za (yS ?_);refine za (yq hz rfl rfl ?_);refine za (yo hz (by simp) λg₁ hz₁ WV=>?_);replace hz₁:ZW g₁ z TI TO .ellipsis:=hz₁;refine za ?_;simp only[List.zipIdx_cons,List.zipIdx_nil,Yw,Jz];refine za (za (XO ?_));show zw _ _ (ju (.ref i1) >>= _) _ _ _;rcases hx:xs[i]? with _|x
 ·
   refine za (uT hh (h1.keep λo e=>WV.extBut _ _ Ap.i1z e) (Ha.keep λo e=>WV.extBut _ _ n1.1 e) hx λg₂ e WR he=>?_);obtain⟨oe,hoe,hce⟩:=he;have hz₂:ZW g₂ z TI TO .ellipsis:=WR _ _ Ap.i1z.symm hz₁;have hez:e≠z:=λq=>by subst q;rw[hz₂]at hoe;cases hoe;simp at hce
   exact yo hz₂ (by simp) λg₃ _ hs₃=>hE g₃ e (λc o c1 _ c3 _ q=>hs₃.extBut _ _ c1 (WR _ _ c3 (WV.extBut _ _ c1 q))) ⟨oe,hs₃.extBut _ _ hez hoe,hce⟩
 ·
   have hy:ys[i]? =none:=by
    rcases hend with h|h
    ·rw[hx]at h;exact oG h
    ·exact h
   refine za (pK (h1.keep λo e=>WV.extBut _ _ Ap.i1z e) (Ha.keep λo e=>WV.extBut _ _ n1.1 e) hx λg₂ h1₂ WR=>zi ?_);have hTO₂:yQ g₂ TO a b:=WR.extBut _ _ Ap.TOi1 (WV.extBut _ _ Ap.TOz hTO);refine za (yn hTO₂ rfl ?_);refine za (Xr hTO₂ λg₃ hTO₃ hs₃=>?_);refine za (xR (zi ?_));refine za (za (XO ?_));show zw _ _ (ju (.ref i2) >>= _) _ _ _;have up3:∀c o,c≠z->c≠TO->c≠i1->s.heap.get? c=some o->g₃.get? c=some o:=λc o c1 c2 c3 e=>hs₃.extBut _ _ c2 (WR.extBut _ _ c3 (WV.extBut _ _ c1 e));refine za (uT hh (h2.keep λo e=>up3 _ _ Ap.i2z Ap.TOi2.symm Ap.i12.symm e) (Ge.keep λo e=>up3 _ _ n2.1 n2.2.1 n2.2.2.1 e) hy λg₄ e hs₄ he=>?_);obtain⟨oe,hoe,hce⟩:=he;have hz₄:ZW g₄ z TI TO .ellipsis:=hs₄ _ _ Ap.i2z.symm (hs₃.extBut _ _ Ap.TOz.symm (WR.extBut _ _ Ap.i1z.symm hz₁));have hez:e≠z:=λq=>by subst q;rw[hz₄]at hoe;cases hoe;simp at hce
   exact yo hz₄ (by simp) λWT _ hs₅=>hE WT e (λc o c1 c2 c3 c4 q=>hs₅.extBut _ _ c1 (hs₄ _ _ c4 (up3 c o c1 c2 c3 q))) ⟨oe,hs₅.extBut _ _ hez hoe,hce⟩
def Ff(Ap:ZA z TI TO i1 i2)(n1:l1∉ [z,TO,i1,i2])(n2:l2∉ [z,TO,i1,i2])
 (hz:ZW s.heap z TI TO .none) (hTI:yQ s.heap TI (.ref i1) (.ref i2)) (hTO:yQ s.heap TO a b)
 (h1:SI k1 s.heap i1 l1 i) (h2:SI k2 s.heap i2 l2 i) (Ha:SC k1 s.heap l1 xs) (Ge:SC k2 s.heap l2 ys) (hx:xs[i]? =some x) (hy:ys[i]? =some y)
 (hQ:∀h',ZW h' z TI TO (xp s.heap.objs.size)->yQ h' TO x y->SI k1 h' i1 l1 (i+1)->SI k2 h' i2 l2 (i+1)->yQ h' s.heap.objs.size x y->h'.objs.size=s.heap.objs.size+1->
   (∀c o,c≠z->c≠TO->c≠i1->c≠i2->s.heap.get? c=some o->h'.get? c=some o)->Q (some (.ref s.heap.objs.size)) {s with heap:=h'}):
 zw (zG prog w) A (xS (.ref z)) Q E s:=by
 have hT:s.TypeIs (.ref z) "zip":=⟨_,hz,rfl⟩;unfold xS;exact za (Zc (jJ hT YM (jA YM hT F.entry_zip_next
  (wt Ap n1 n2 hz hTI hTO h1 h2 Ha Ge hx hy λh' a1 a2 a3 a4 a5 a6 a7=>zi (hQ h' a1 a2 a3 a4 a5 a6 a7)) (F.args_zip_next_1 _))))
def gu(hh:A.handled=none)(Ap:ZA z TI TO i1 i2)(n1:l1∉ [z,TO,i1,i2])(n2:l2∉ [z,TO,i1,i2])
 (hz:ZW s.heap z TI TO .none) (hTI:yQ s.heap TI (.ref i1) (.ref i2)) (hTO:yQ s.heap TO a b)
 (h1:SI k1 s.heap i1 l1 i) (h2:SI k2 s.heap i2 l2 i) (Ha:SC k1 s.heap l1 xs) (Ge:SC k2 s.heap l2 ys) (hend:xs[i]? =none\/ys[i]? =none)
 (hQ:∀h',(∀c o,c≠z->c≠TO->c≠i1->c≠i2->s.heap.get? c=some o->h'.get? c=some o)->Q none {s with heap:=h'}):zw (zG prog w) A (xS (.ref z)) Q E s:=by
 have hT:s.TypeIs (.ref z) "zip":=⟨_,hz,rfl⟩;unfold xS;refine za (Zc (jJ hT YM (jA YM hT F.entry_zip_next
  (vg hh Ap n1 n2 hz hTI hTO h1 h2 Ha Ge hend λh' e hk he=>?_) (F.args_zip_next_1 _))))
 obtain⟨o,ho,hc⟩:=he;exact za (Zz ⟨o,ho,hc⟩ isSubtype_stop (zi (hQ _ hk)))
end
def qD(k:Bool)(a:Addr):Obj:={cls:=.type (if k then "tuple_iterator" else "list_iterator"),data:=.fields #[.ref a,.int 0 0]}
abbrev zh1(k1:Bool)(h:Heap)(l1:Addr):Heap:=h.push (qD k1 l1)
abbrev zh2(k1 k2:Bool)(h:Heap)(l1 l2:Addr):Heap:=(zh1 k1 h l1).push (qD k2 l2)
abbrev zh3(k1 k2:Bool)(h:Heap)(l1 l2:Addr):Heap:=(zh2 k1 k2 h l1 l2).push {cls:=.type "tuple",data:=.seq #[.ref h.objs.size,.ref (zh1 k1 h l1).objs.size]}
abbrev zh4(k1 k2:Bool)(h:Heap)(l1 l2:Addr):Heap:=(zh3 k1 k2 h l1 l2).push {cls:=.type "tuple",data:=.seq #[.none,.none]}
abbrev zh5(k1 k2:Bool)(h:Heap)(l1 l2:Addr):Heap:=(zh4 k1 k2 h l1 l2).push {cls:=.type "zip",data:=.fields #[.none,.bool false,.bool false,.ref (zh2 k1 k2 h l1 l2).objs.size,.ref (zh3 k1 k2 h l1 l2).objs.size]}
def pQ(hl:SC k s.heap a items)(h:Q (.ref s.heap.objs.size) {s with heap:=s.heap.push (qD k a)}):zw (zG prog w) A (JC (.ref a)) Q E s:=by
 rcases k with _|_
 ·exact xJ hl h
 ·exact wpAny_pyIter_tuple hl h
def Cz(k1 k2:Bool)(l1 l2:Addr)(xs ys:Array zk):
 Meets (yg.«zip.__new__» ⟨[.type "zip",.ref l1,.ref l2], []⟩) (λ_ R s=>SC k1 s.heap l1 xs/\SC k2 s.heap l2 ys/\R (.ok (.ret (.ref (zh4 k1 k2 s.heap l1 l2).objs.size))) {s with heap:=zh5 k1 k2 s.heap l1 l2}):=
 .of_wp λprog w A R s h=>by
  obtain⟨hp,g,d,tk,os⟩:=s;obtain⟨Ha,Ge,h⟩:=h;have hsub:=sub_zip;have hL1:SC k1 (Shared.heap ⟨hp,g,d,tk,os⟩) l1 xs:=Ha;have hL2:SC k2 (Shared.heap ⟨hp.push (qD k1 l1),g,d,tk,os⟩) l2 ys:=Ge.keep λo e=>zh _ e
  wp_walk using pQ hL1,pQ hL2
  exact⟨_,rfl,h⟩
def Sk{ch:List Addr}(I:Inv X Ee σ H s)(hf:∀b∈ch,N2 X Ee H b)(k:∀b o,b∉ch->s.heap.get? b=some o->h'.get? b=some o)
 (hz:vs.length<=zq) (rv:u9 vs us) (ht:l7 h' s.heap.objs.size us.toArray):Inv X Ee σ (upd H s.heap.objs.size (.tup vs)) {s with heap:=h',toks:=t'}:=by
 have hq:H s.heap.objs.size=none:=I.hok.fresh (zp _);have neq:∀b o,s.heap.get? b=some o->b≠s.heap.objs.size:=λb o e=>zE (zu e);have nch:∀b u,H b=some u->b∉ch:=λb u e z=>by rw[(hf b z).1]at e;cases e
 refine I.step (λb hb=>⟨(hf b hb).2.2.2.1,(hf b hb).2.1,(hf b hb).2.2.2.2.1,(hf b hb).2.2.2.2.2⟩) (λb o _ _ hc e _=>k b o hc e) (λb o _ _ hc e _=>⟨o.slots,k b o hc e⟩)
  (λb o _ e n=>by rw[J0 (neq b o e)];exact n) (λb o hc e=>⟨o,k b o hc e⟩) (λb xs e=>by rw[J0 (J1 e hq)];exact e) (λb o u e=>by rw[J0 (J1 e hq)];exact e)
  (λb ps e=>⟨#[],by rw[J0 (J1 e hq),e];simp⟩) (λm hm=>?_) (λb u e=>?_) I.bare
 ·obtain⟨o,es,ep,ho,r⟩:=hm;exact⟨o,es,ep,k _ o (λz=>(hf _ z).2.1 rfl) ho,r⟩
 · by_cases hb:b=s.heap.objs.size
   · subst hb;rw[Q6]at e
     cases e
     exact⟨hz,us,rv,ht⟩
   · rw[J0 hb]at e;refine(I.hok b u e).stay (λc v hc q=>k c v ?_ q) (λc q=>by rw[J0 (J1 q hq)];exact q) λc xs q=>by rw[J0 (J1 q hq)];exact q
     rcases hc with z|z
     ·rw[z];exact nch b u e
     ·exact nch c _ z
def eM{ch:List Addr}(I:Inv X Ee σ H s)(hf:∀b∈ch,N2 X Ee H b)(k:∀b o,b∉ch->s.heap.get? b=some o->h'.get? b=some o):Inv X Ee σ H {s with heap:=h',toks:=t'}:=by
 have nch:∀b u,H b=some u->b∉ch:=λb u e z=>by rw[(hf b z).1]at e;cases e
 refine I.step (λb hb=>⟨(hf b hb).2.2.2.1,(hf b hb).2.1,(hf b hb).2.2.2.2.1,(hf b hb).2.2.2.2.2⟩) (λb o _ _ hc e _=>k b o hc e) (λb o _ _ hc e _=>⟨o.slots,k b o hc e⟩)
  (λ_ _ _ _ n=>n) (λb o hc e=>⟨o,k b o hc e⟩) (λ_ _ e=>e) (λ_ _ _ e=>e) (λb ps e=>⟨#[],by rw[e];simp⟩) (λm hm=>?_) (λb u e=>?_) I.bare
 ·obtain⟨o,es,ep,ho,r⟩:=hm;exact⟨o,es,ep,k _ o (λz=>(hf _ z).2.1 rfl) ho,r⟩
 · refine(I.hok b u e).stay (λc v hc q=>k c v ?_ q) (λ_ q=>q) λ_ _ q=>q;rcases hc with z|z
   ·rw[z];exact nch b u e
   ·exact nch c _ z
def Sq(K:zn)(k:Bool)(H:Hp)(a:Addr)(vs:List V):Prop:=if k then SqT K H a vs else SqL K H a vs
def HD(I:Inv X Ee σ H s)(h:Sq X.K k H a vs):∃Ef:List zk,u9 vs Ef/\SC k s.heap a Ef.toArray/\vs.length<=zq:=by
 rcases k with _|_
 ·obtain⟨Ef,r,p,z⟩:=I.list h;exact⟨Ef,r,p.isList,z⟩
 ·obtain⟨Ef,r,p,z⟩:=I.tuple h;exact⟨Ef,r,p,z⟩
def RN(I:Inv X Ee σ H s)(h:Sq X.K k H a vs)(h':Sq X.K k H a ws):vs=ws:=by
 rcases k with _|_
 ·exact I.list_inj h h'
 ·exact I.tuple_inj h h'
def Itz(K:zn)(k1 k2:Bool)(a b:Addr):It:=
 ⟨λi H=>∃xs ys x y,Sq K k1 H a xs/\Sq K k2 H b ys/\xs[i]? =some x/\ys[i]? =some y,
  λi H v H'=>∃q x y,H q=none/\v= .ref q/\H'=upd H q (.tup [x,y])/\(∀xs,Sq K k1 H a xs->xs[i]? =some x)/\∀ys,Sq K k2 H b ys->ys[i]? =some y,
  λi H=>∃xs ys,Sq K k1 H a xs/\Sq K k2 H b ys/\(xs.length<=i\/ys.length<=i)⟩
def eS(r:u9 vs Ef){i:Nat}(h:vs[i]? =some x):∃u,Ef.toArray[i]? =some u/\J5 x u:=by obtain⟨u,e,ru⟩:=r.get h;exact⟨u,by simpa using e,ru⟩
def io{w:jq}{K:zn}{es:List Expr}{x1:Nat}{tp:Pos}{l1 l2 z TI TO i1 i2:Addr}(Ap:ZA z TI TO i1 i2)(n1:l1∉ [z,TO,i1,i2])(n2:l2∉ [z,TO,i1,i2]):
 F9 P w K (.Tuple es x1 tp) (Itz K k1 k2 l1 l2) [z,TI,TO,i1,i2] z (λi h=>ZW h z TI TO .none/\yQ h TI (.ref i1) (.ref i2)/\(∃a b,yQ h TO a b)/\SI k1 h i1 l1 i/\SI k2 h i2 l2 i) where
 mem:=by simp
 obj:=λi h st b hb=>by
  obtain⟨s1,s2,⟨a,c,s3⟩,s4,s5⟩:=st;simp only[zy,jg,or_false]at hb;rcases hb with rfl|rfl|rfl|rfl|rfl
  ·exact⟨_,s1,λv z=>nomatch z⟩
  ·exact⟨_,s2,λv z=>nomatch z⟩
  ·exact⟨_,s3,λv z=>nomatch z⟩
  ·exact s4.there
  ·exact s5.there
 keep:=λi h h' st k=>by obtain⟨s1,s2,⟨a,c,s3⟩,s4,s5⟩:=st;exact⟨k _ (by simp) _ s1,k _ (by simp) _ s2,⟨a,c,k _ (by simp) _ s3⟩,s4.keep (k _ (by simp)),s5.keep (k _ (by simp))⟩
 item:=by
  intro X hP hw hK hc i Ee s σ H E I hf st hg;subst hP hw hK;obtain⟨xs,ys,x,y,q1,q2,hx,hy⟩:=hg;obtain⟨its1,r1,c1,z1⟩:=HD I q1;obtain⟨Gi,r2,c2,z2⟩:=HD I q2;obtain⟨u1,e1,ru1⟩:=eS r1 hx;obtain⟨u2,e2,ru2⟩:=eS r2 hy;obtain⟨s1,s2,⟨a,c,s3⟩,s4,s5⟩:=st;refine Ff Ap n1 n2 s1 s2 s3 s4 s5 c1 c2 e1 e2 λg b1 b2 b3 b4 b5 b6 b7=>⟨_,rfl,?_⟩;refine wpAny_letOwnedTupleGo_zip b1 λg2 c1' sb=>?_;have keep:∀b o,b∉ [z,TI,TO,i1,i2]->s.heap.get? b=some o->g2.get? b=some o:=λb o hb e=>by simp only[zy,jg,or_false,not_or]at hb;exact(sb.2 b hb.1).trans (b7 b o hb.1 hb.2.2.1 hb.2.2.2.1 hb.2.2.2.2 e)
  have zlt:z<s.heap.objs.size:=zu s1;have hnew:l7 g2 s.heap.objs.size [u1,u2].toArray:=⟨_,(sb.2 _ (jX zlt)).trans b5,rfl,_,rfl⟩;have hq:H s.heap.objs.size=none:=I.hok.fresh (zp _);refine⟨.ref s.heap.objs.size,upd H s.heap.objs.size (.tup [x,y]),Sk I hf keep (by show 2<=zq;decide) (.cons ru1 (.cons ru2 .nil)) hnew,rfl,⟨_,x,y,hq,rfl,rfl,λxs' h=>by rw[RN I h q1];exact hx,λys' h=>by rw[RN I h q2];exact hy⟩,?_,λb hb=>?_⟩
  ·refine⟨c1',?_,⟨_,_,(sb.2 _ Ap.TOz).trans b2⟩,b3.keep λo e=>(sb.2 _ Ap.i1z).trans e,b4.keep λo e=>(sb.2 _ Ap.i2z).trans e⟩;exact(sb.2 _ Ap.TIz).trans (b7 TI _ Ap.TIz Ap.TITO Ap.TIi1 Ap.TIi2 s2)
  · have Hi:b<s.heap.objs.size:=by
     simp only[zy,jg,or_false]at hb;rcases hb with rfl|rfl|rfl|rfl|rfl
     ·exact zlt
     ·exact zu s2
     ·exact zu s3
     ·obtain⟨_,e,_⟩:=s4.there;exact zu e
     ·obtain⟨_,e,_⟩:=s5.there;exact zu e
    rw[J0 (zE Hi)];exact(hf b hb).1
 done:=by intro X hP hw hK hc i Ee s σ H E I hf st hg;subst hP hw hK;obtain⟨xs,ys,q1,q2,hend⟩:=hg;obtain⟨its1,r1,c1,z1⟩:=HD I q1;obtain⟨Gi,r2,c2,z2⟩:=HD I q2;obtain⟨s1,s2,⟨a,c,s3⟩,s4,s5⟩:=st;have Ha:=r1.length;have Ge:=r2.length;refine gu (I.ok.hd hc) Ap n1 n2 s1 s2 s3 s4 s5 c1 c2 (by rcases hend with h|h;left;simp;lia;right;simp;lia) λg b7=>⟨rfl,eM I hf λb o hb e=>?_⟩;simp only[zy,jg,or_false,not_or]at hb;exact b7 b o hb.1 hb.2.2.1 hb.2.2.2.1 hb.2.2.2.2 e
 self:=λ_ _ _ _ _ st h=>wpAny_pyIter_zip st.1 h
def pY(K:zn)(ta:TA):TI:=λσ H R=>ta σ H λvs H1=>∃k1 k2 a b xs ys,vs= [.ref a,.ref b]/\Sq K k1 H1 a xs/\Sq K k2 H1 b ys/\R (Itz K k1 k2 a b) H1
def CY(Ha:SC k1 s.heap l1 xs)(Ge:SC k2 s.heap l2 ys)
 (h:Q (.ref (zh4 k1 k2 s.heap l1 l2).objs.size) {s with heap:=zh5 k1 k2 s.heap l1 l2}):zw (zG prog w) A (call (.type "zip") [.ref l1,.ref l2]) Q E s:=by
 refine callType_new F.called_zip (by decide) (F.typeCall_zip_2 _ _) (F.newCall_zip_2 _ _) (λobj=>F.args_object_init_3 obj _ _) F.entry_zip_new (Cz k1 k2 l1 l2 xs ys) ⟨Ha,Ge,?_⟩;exact⟨⟨_,zt _ rfl,rfl⟩,h⟩
structure ZMk(k1 k2:Bool)(h h5:Heap)(l1 l2:Addr)(n:Nat):Prop where
 keep:∀b o,h.get? b=some o->h5.get? b=some o
 sz:h5.objs.size=n+5
 g5:ZW h5 (n+4:Nat) (n+2:Nat) (n+3:Nat) .none
 g4:yQ h5 (n+3:Nat) .none .none
 g3:yQ h5 (n+2:Nat) (.ref n) (.ref (n+1:Nat))
 s1:SI k1 h5 n l1 0
 s2:SI k2 h5 (n+1:Nat) l2 0
def zmk:(zh4 k1 k2 h l1 l2).objs.size=h.objs.size+4/\ZMk k1 k2 h (zh5 k1 k2 h l1 l2) l1 l2 h.objs.size:=by
 have z1:(zh1 k1 h l1).objs.size=h.objs.size+1:=yw ..;have z2:(zh2 k1 k2 h l1 l2).objs.size=h.objs.size+2:=by rw[yw,z1]
 have z3:(zh3 k1 k2 h l1 l2).objs.size=h.objs.size+3:=by rw[yw,z2]
 have z4:(zh4 k1 k2 h l1 l2).objs.size=h.objs.size+4:=by rw[yw,z3]
 have z5:(zh5 k1 k2 h l1 l2).objs.size=h.objs.size+5:=by rw[yw,z4]
 have g5:ZW (zh5 k1 k2 h l1 l2) (zh4 k1 k2 h l1 l2).objs.size (zh2 k1 k2 h l1 l2).objs.size (zh3 k1 k2 h l1 l2).objs.size .none:=zt _ rfl;have g4:yQ (zh5 k1 k2 h l1 l2) (zh3 k1 k2 h l1 l2).objs.size .none .none:=zh _ (zt _ rfl);have g3:yQ (zh5 k1 k2 h l1 l2) (zh2 k1 k2 h l1 l2).objs.size (.ref h.objs.size) (.ref (zh1 k1 h l1).objs.size):=zh _ (zh _ (zt _ rfl));have g2:(zh5 k1 k2 h l1 l2).get? (zh1 k1 h l1).objs.size=some (qD k2 l2):=zh _ (zh _ (zh _ (zt _ (by cases k2<;>rfl))));have g1:(zh5 k1 k2 h l1 l2).get? h.objs.size=some (qD k1 l1):=zh _ (zh _ (zh _ (zh _ (zt _ (by cases k1<;>rfl)))));rw[z4,z2,z3]at g5;rw[z3]at g4;rw[z2,z1]at g3;rw[z1]at g2;refine⟨z4,λb o e=>zh _ (zh _ (zh _ (zh _ (zh _ e)))),z5,g5,g4,g3,?_,?_⟩
 · rcases k1 with _|_
   ·exact⟨_,g1,rfl,rfl⟩
   ·exact⟨_,g1,rfl,rfl⟩
 · rcases k2 with _|_
   ·exact⟨_,g2,rfl,rfl⟩
   ·exact⟨_,g2,rfl,rfl⟩
def SC.lt(c:SC k h a xs): @LT.lt Nat instLTNat a h.objs.size:=by
 rcases k with _|_
 ·obtain⟨o,e,_⟩:=(show h.IsList a _ from c);exact zu e
 ·obtain⟨o,e,_⟩:=(show h.IsTuple a _ from c);exact zu e
def Vk(Ha:SC k1 s.heap l1 xs)(Ge:SC k2 s.heap l2 ys)
 (h:∀h5 n,n=s.heap.objs.size->ZMk k1 k2 s.heap h5 l1 l2 n->Q (.ref (n+4:Nat)) {s with heap:=h5}):zw (zG prog w) A (call (.type "zip") [.ref l1,.ref l2]) Q E s:=by
 refine CY Ha Ge ?_;have:=zmk (k1:=k1) (k2:=k2) (h:=s.heap) (l1:=l1) (l2:=l2);rw[this.1];exact h _ _ rfl this.2
def qd{es:List Expr}{ta:TA}{p pos:Pos}(hg:Gl X "zip")(hm:X.mg "zip" =none)(ha:PA X [a,b] ta)(hs:zW [a,b] X.env= [(false,eval a X.env),(false,eval b X.env)])(hs2:zW [b] X.env= [(false,eval b X.env)])(hbt:je "zip" =some (.type "zip")):
 PI X (.Tuple es x1 tp) (.Call (.Name "zip" p) [a,b] [] pos) (pY X.K ta):=by
 intro Ee s σ H R I h;refine Call_ (E7 I hg hm hbt (yE (thn (ha pos Ee s σ H _ I h) λus s1 Ep=>Ep.elim λvs H1 I1 r1 q1=>?_) (by rw[hs,hs2]) (by rw[hs2];rfl)));obtain⟨k1,k2,l1,l2,xs,ys,rfl,q1,q2,q⟩:=q1;obtain⟨u1,u2,rfl,ru1,ru2⟩:=tG r1
 cases ru1
 cases ru2
 obtain⟨its1,rr1,c1,z1⟩:=HD I1 q1;obtain⟨Gi,rr2,c2,z2⟩:=HD I1 q2;refine Vk c1 c2 λh5 n en Z=>?_;have n1:=NP (en▸c1.lt);have n2:=NP (en▸c2.lt);refine wpAny_pyIter_zip Z.g5 ?_;refine⟨(n+4:Nat),_,_,Itz X.K k1 k2 l1 l2,H1,rfl,I1.kept Z.keep,io (Nj n) n1 n2,⟨Z.g5,Z.g3,⟨_,_,Z.g4⟩,Z.s1,Z.s2⟩,λb hb=>?_,q⟩;have Hi:s1.heap.objs.size<=b:=en▸rY hb;exact I1.fpOk Hi (I1.hok.fresh Hi)
section
open Classical in
def ckO(r:Nat)(o:DO):DH->Bool:=λG=>decide (G[r]? =some o)
def t4:D->M Src:=λx=>match x with
 | .tup l=>pure ⟨l,λ_=>true⟩
 | .ref r=>do
   let o <-N5 r
   let l <-listOf o
   pure ⟨l,ckO r o⟩
 |_=>M.stuck
def gw(c:Wc)(μ:List Addr)(H:Hp)(k:Bool)(a:Addr)(s:Src):Prop:=∀ X2 G' H',Ext μ H X2 H'->v6 c X2 G' H'->s.ck G'=true->∃vs,Sq c.K k H' a vs/\m9 c X2 H' s.items vs
def aK{H:Hp}{G:DH}{d:D}{v:V}{f:Src->M α}{K:α->List Addr->DH->Hp->Prop}(h:v6 c μ G H)(r:d8 c μ H d v)(p:c7 c Z μ H ((t4 d >>= f) G) K):
 ∃s k a vs,v= .ref a/\Sq c.K k H a vs/\m9 c μ H s.items vs/\gw c μ H k a s/\s.ck G=true/\(∀i,d= .ref i->k=false)/\c7 c Z μ H (f s G) K:=by
 rcases d with _|_|_|_|l|i|_|_<;>try (exact p.elim;done)
 ·
   unfold d8 at r;obtain⟨a,vs,rfl,q,rl⟩:=r;exact⟨⟨l,λ_=>true⟩,true,a,vs,rfl,q,rl,λX2 G' H' x h' _=>⟨vs,x.sqT q,rl.mono x⟩,rfl,(λi z=>nomatch z),p⟩
 ·
   unfold d8 at r;obtain⟨a,m,rfl⟩:=r;have p':c7 c Z μ H ((N5 i >>= λo=>(listOf o >>= λl=>(pure ⟨l,ckO i o⟩:M Src)) >>= f) G) K:=by rw[<-M.bind_assoc];exact p
   obtain⟨o,g,p2⟩:=K4 p';have ro:=h.obj i o a g m;have ck:ckO i o G=true:=by unfold ckO;simp[g]
   cases o with
   |lst l=>
     obtain⟨vs,q,rl⟩:=ro;refine⟨⟨l,ckO i (.lst l)⟩,false,a,vs,rfl,SqL.of q,rl,λX2 G' H' x h' Gn=>?_,ck,(λ_ _=>rfl),p2⟩;have g':G'[i]? =some (.lst l):=by unfold ckO at Gn;simpa using Gn
     obtain⟨Ft,q',Eu⟩:=h'.obj i _ a g' (rM x.pre m);exact⟨Ft,SqL.of q',Eu⟩
   |rol l=>
     obtain⟨vs,q,rl⟩:=ro;refine⟨⟨l,ckO i (.rol l)⟩,false,a,vs,rfl,q.sq,rl,λX2 G' H' x h' Gn=>?_,ck,(λ_ _=>rfl),p2⟩;have g':G'[i]? =some (.rol l):=by unfold ckO at Gn;simpa using Gn
     obtain⟨Ft,q',Eu⟩:=h'.obj i _ a g' (rM x.pre m);exact⟨Ft,q'.sq,Eu⟩
   |dct l=>exact p2.elim
   |rod l=>exact p2.elim
def GR{H:Hp}{i:Nat}{d:D}{x:V}(r:m9 c μ H l vs)(h:l[i]? =some d)(hx:vs[i]? =some x):d8 c μ H d x:=by
 obtain⟨v,e,q⟩:=r.get h;rw[hx]at e
 cases e
 exact q
def K3(lo:Int)(n:Nat):List D:=(ji n).map fun(i:Nat)=>D.int (lo+(i:Int))
def W5(fs:DSt->M (List D)):DSt->M Src:=λσ=>do
 match <-fs σ with
 |[.int j]=>if -(2 ^ 62)<=j/\j<2 ^ 62 then pure ⟨K3 0 j.toNat,λ_=>true⟩else M.stuck
 |_=>M.stuck
def eX(lo:Int)(n:Nat):ItD c μ H (Itr lo n) ⟨K3 lo n,λ_=>true⟩:=λX2 G' H' x' h' _ i=>by
 refine⟨λd hd=>?_,λhi=>?_⟩
 · have hi:i<n:=by have:=lt_of_get hd;simpa [K3]using this
   have e:d= .int (lo+i):=by unfold K3 at hd;rw[zU,List.getElem?_range hi]at hd;simp at hd;exact hd.symm
   subst e;exact⟨hi,λx H2 ⟨e1,e2⟩=>by subst e1 e2;exact⟨Ext.refl _ _,h',ofI⟩⟩
 ·show n<=i;simpa [K3]using hi
def Ld(hg:Gl X "range")(hm:X.mg "range" =none)(ha:DA X Z [a] fs)(hs:zW [a] X.env= [(false,eval a X.env)]):DI X Z tg (.Call (.Name "range" p) [a] [] pos) (W5 fs):=
 DI.of (Hd hg hm ha.h hs) λσ H R Eh=>Eh.elim λX9 μ G s h p=>⟨X9,μ,G,s,h,(c7.bind p).mono λds X0 G1 H1 x1 h1 p1 vs rv=>by
  rcases ds with _|⟨_|_|j|_|_|_|_|_,_|⟨_,_⟩⟩<;>dsimp only at p1<;>try exact p1.elim
  · split at p1
    · rename_i hj;obtain⟨v,t,rfl,r0,e⟩:=rv
      cases e
      exact⟨j,by rw[U1 r0],hj.1,hj.2,c7.ok p1 h1 _ (eX 0 _)⟩
    ·exact p1.elim⟩
def OA(fs:DSt->M (List D)):DSt->M Src:=λσ=>do
 match <-fs σ with
 |[a,b]=>do
   let s1 <-t4 a
   let s2 <-t4 b
   pure ⟨(s1.items.zip s2.items).map λp=>.tup [p.1,p.2],λG=>s1.ck G&&s2.ck G⟩
 |_=>M.stuck
def Lk(h:v6 c μ G H)(hq:H q=none)(r:m9 c μ H ds vs):Ext μ H μ (upd H q (.tup vs))/\v6 c μ G (upd H q (.tup vs))/\d8 c μ (upd H q (.tup vs)) (.tup ds) (.ref q):=by have k:Ext μ H μ (upd H q (.tup vs)):=Ext.lay hq _;refine⟨k,h.same k λa o e n=>by rw[J0 (J1 e hq)];exact e,?_⟩;unfold d8;exact⟨q,vs,rfl,SqT.of Q6,r.mono k⟩
def Di{tp:Pos}{p pos:Pos}(hg:Gl X "zip")(hm:X.mg "zip" =none)(ha:DA X Z [a,b] fs)(hs:zW [a,b] X.env= [(false,eval a X.env),(false,eval b X.env)])(hs2:zW [b] X.env= [(false,eval b X.env)])(hbt:je "zip" =some (.type "zip")):
 DI X Z (.Tuple es x1 tp) (.Call (.Name "zip" p) [a,b] [] pos) (OA fs):=
 DI.of (qd hg hm ha.h hs hs2 hbt) λσ H R Eh=>Eh.elim λX9 μ G s h p=>⟨X9,μ,G,s,h,(c7.bind p).mono λds X0 G1 H1 x1 h1 p1 vs rv=>by
  rcases ds with _|⟨d1,_|⟨d2,_|⟨_,_⟩⟩⟩<;>dsimp only at p1<;>try exact p1.elim
  · obtain⟨v1,t1,rfl,r1,v2,t2,rfl,r2,e⟩:=rv
    cases e
    obtain⟨s1,k1,a1,w1,rfl,q1,l1,is1,ck1,_,p2⟩:=aK h1 r1 p1;obtain⟨s2,k2,a2,w2,rfl,q2,l2,is2,ck2,_,p3⟩:=aK h1 r2 p2;refine⟨k1,k2,a1,a2,w1,w2,rfl,q1,q2,c7.ok p3 h1 _ λX2 G' H' x' h' ck' i=>?_⟩;have ck'':s1.ck G'=true/\s2.ck G'=true:=by simpa using ck'
    obtain⟨u1,q1',l1'⟩:=is1 X2 G' H' x' h' ck''.1;obtain⟨u2,q2',l2'⟩:=is2 X2 G' H' x' h' ck''.2;refine⟨λd hd=>?_,λhi=>?_⟩
    · rw[zU]at hd;rcases hz:(s1.items.zip s2.items)[i]? with _|pr
      ·rw[hz]at hd;cases hd
      ·
        rw[hz]at hd;obtain⟨e1,e2⟩:=pr;have Hl:d= .tup [e1,e2]:=by simpa using hd.symm
        subst Hl;rw[JS]at hz;obtain⟨y1,hy1,ry1⟩:=l1'.get hz.1;obtain⟨y2,hy2,ry2⟩:=l2'.get hz.2;refine⟨⟨u1,u2,y1,y2,q1',q2',hy1,hy2⟩,λx H2 ⟨q,z1,z2,hq,ex,eH,f1,f2⟩=>?_⟩;subst ex eH;have g1:=f1 u1 q1';have g2:=f2 u2 q2';rw[hy1]at g1;rw[hy2]at g2
        cases g1
        cases g2
        exact Lk h' hq ⟨y1,_,rfl,ry1,y2,_,rfl,ry2,rfl⟩
    ·refine⟨u1,u2,q1',q2',?_⟩;rw[<-l1'.length,<-l2'.length];simp at hi;lia⟩
end
def N1:List D->M D:=λds=>match ds with
 |[.str z]=>if z.length<=zq then pure (.int z.length)else M.stuck
 |[.tup l]=>pure (.int l.length)
 |[.ref r]=>do
   match <-N5 r with
   | .lst l=>pure (.int l.length)
   | .rol l=>pure (.int l.length)
   | .dct l=>pure (.int l.length)
   | .rod _=>M.stuck
 |_=>M.stuck
def O3:List D->M D:=λds=>match ds with
 |[.tup l]=>pure (.tup l)
 |[.ref r]=>do
   let l <-N5 r >>= listOf
   pure (.tup l)
 |_=>M.stuck
def GB:List D->M D:=λds=>match ds with
 |[.tup l]=>M5 (.lst l)
 |[.ref r]=>do
   let l <-N5 r >>= listOf
   M5 (.lst l)
 |_=>M.stuck
def lI:List D->M D:=λds=>match ds with
 |[.int i,.int j]=>pure (.int (if j>i then j else i))
 |_=>M.stuck
def UC:List D->M D:=λds=>match ds with
 |[.int i]=>pure (.int (if i<0 then -i else i))
 |_=>M.stuck
def eB:List D->M D:=λds=>match ds with
 |[.int i]=>pure (.int i)
 |[.bl k]=>pure (.int (if k then 1 else 0))
 |_=>M.stuck
def c9:List D->Option (List Int)
 |[]=>some []
 | .int i::r=>(c9 r).map (i :: ·)
 |_=>none
def L8:List D->Option (List Bool)
 |[]=>some []
 | .bl b::r=>(L8 r).map (b :: ·)
 |_=>none
def P2:List D->M D:=λds=>match ds with
 |[.ref r]=>do
   let l <-N5 r >>= listOf
   let bs <-S1 (L8 l)
   pure (.bl (bs.all id))
 |_=>M.stuck
def iB:List D->M D:=λds=>match ds with
 |[.ref r]=>do
   let l <-N5 r >>= listOf
   let bs <-S1 (L8 l)
   pure (.bl (bs.any id))
 |_=>M.stuck
def VM{F:List D->M α}{c:Wc}{Z:XC}{H:Hp}{G:DH}{K:α->List Addr->DH->Hp->Prop}(p:c7 c Z μ H (F ds G) K)(h0:F []=M.stuck)(h2:∀a b t,F (a::b::t)=M.stuck)(hn:F [.non]=M.stuck)(hb:∀b,F [.bl b]=M.stuck)(hi:∀b,F [.int b]=M.stuck)(hs:∀b,F [.str b]=M.stuck)(ht:∀b,F [.tup b]=M.stuck)(hf:∀b,F [.fn b]=M.stuck)(hy:∀b,F [.ty b]=M.stuck):∃r,ds= [.ref r]:=by
 rcases ds with _|⟨d,_|⟨_,_⟩⟩
 ·rw[h0]at p;exact p.elim
 · rcases d with _|b|b|b|b|b|b|b
   ·rw[hn]at p;exact p.elim
   ·rw[hb]at p;exact p.elim
   ·rw[hi]at p;exact p.elim
   ·rw[hs]at p;exact p.elim
   ·rw[ht]at p;exact p.elim
   ·exact⟨b,rfl⟩
   ·rw[hf]at p;exact p.elim
   ·rw[hy]at p;exact p.elim
 ·rw[h2]at p;exact p.elim
def F3(r:m9 c μ H [d] vs):∃v,vs= [v]/\d8 c μ H d v:=by
 obtain⟨v,t,rfl,q,e⟩:=r
 cases e
 exact⟨v,rfl,q⟩
def UT(r:m9 c μ H [d,e] vs):∃v w,vs= [v,w]/\d8 c μ H d v/\d8 c μ H e w:=by
 obtain⟨v,t,rfl,q,v',t',rfl,q',z⟩:=r
 cases z
 exact⟨v,v',rfl,q,q'⟩
def kh:X8 X Z (.builtin "len") N1:=X8.of (v3.or An (v3.or ol pz)) λxs H Q Eh=>Eh.elim λds μ G rl hr p=>by
 rcases ds with _|⟨_|_|_|z|l|i|_|_,_|⟨_,_⟩⟩<;>try exact p.elim
 all_goals (delta N1 at p;dsimp only at p)
 · obtain⟨v,rfl,r⟩:=F3 rl;split at p
   ·rename_i hz;exact .inr (.inl ⟨z,by rw[D3 r],hz,c7.ok p hr _ ofI⟩)
   ·exact p.elim
 ·obtain⟨v,rfl,r⟩:=F3 rl;unfold d8 at r;obtain⟨a,vs,rfl,q,Eu⟩:=r;exact .inl ⟨a,vs,rfl,.inr q,by rw[<-Eu.length];exact c7.ok p hr _ ofI⟩
 · obtain⟨v,rfl,r⟩:=F3 rl;unfold d8 at r;obtain⟨a,m,rfl⟩:=r;obtain⟨o,g,p1⟩:=K4 p;have ro:=hr.obj i o a g m;rcases o with l|l|l|l
   ·obtain⟨vs,q,Eu⟩:=ro;exact .inl ⟨a,vs,rfl,.inl (SqL.of q),by rw[<-Eu.length];exact c7.ok p1 hr _ ofI⟩
   ·obtain⟨vs,q,Eu⟩:=ro;exact .inl ⟨a,vs,rfl,.inl q.sq,by rw[<-Eu.length];exact c7.ok p1 hr _ ofI⟩
   ·obtain⟨Eg,q,rk⟩:=ro;exact .inr (.inr ⟨a,Eg,rfl,q,by rw[<-rk.length];exact c7.ok p1 hr _ ofI⟩)
   ·exact p1.elim
def kC{f:List D->M α}{K:α->List Addr->DH->Hp->Prop}(h:v6 c μ G H)(rv:d8 c μ H (.ref r) v)(p:c7 c Z μ H (((N5 r >>= listOf) >>= f) G) K):
 ∃l a vs,v= .ref a/\m9 c μ H l vs/\SqL c.K H a vs/\c7 c Z μ H (f l G) K:=by
 obtain⟨l,a,vs,rfl,rl,p2,hq⟩:=tJ h rv p;refine⟨l,a,vs,rfl,rl,?_,p2⟩;rcases hq with⟨z,_⟩|⟨_,_,_,⟨_,q⟩|⟨_,q⟩⟩
 ·cases z
 ·exact SqL.of q
 ·exact q.sq
def bX:X8 X Z (.type "tuple") O3:=X8.of om λxs H Q Eh=>Eh.elim λds μ G rl hr p=>by
 rcases ds with _|⟨_|_|_|_|l|i|_|_,_|⟨_,_⟩⟩<;>try exact p.elim
 all_goals (delta O3 at p;dsimp only at p)
 ·obtain⟨v,rfl,r⟩:=F3 rl;have r':=r;unfold d8 at r';obtain⟨a,vs,rfl,q,Eu⟩:=r';exact⟨a,vs,rfl,.inr ⟨q,c7.ok p hr _ r⟩⟩
 ·obtain⟨v,rfl,r⟩:=F3 rl;obtain⟨l,a,vs,rfl,Eu,q,p2⟩:=kC hr r p;exact⟨a,vs,rfl,.inl ⟨q,λl' hl=>nF hr Eu p2 l' hl⟩⟩
def SX:X8 X Z (.type "list") GB:=X8.of bb λxs H Q Eh=>Eh.elim λds μ G rl hr p=>by
 rcases ds with _|⟨_|_|_|_|l|i|_|_,_|⟨_,_⟩⟩<;>try exact p.elim
 all_goals (delta GB at p;dsimp only at p)
 ·obtain⟨v,rfl,r⟩:=F3 rl;unfold d8 at r;obtain⟨a,vs,rfl,q,Eu⟩:=r;exact⟨a,vs,rfl,.inr q,λl' hl=>U9 hr Eu p l' hl⟩
 ·obtain⟨v,rfl,r⟩:=F3 rl;obtain⟨l,a,vs,rfl,Eu,q,p2⟩:=kC hr r p;exact⟨a,vs,rfl,.inl q,λl' hl=>U9 hr Eu p2 l' hl⟩
def Cd(hc:X.calm=true):X8 X Z (.builtin "max") lI:=X8.of (qa hc) λxs H Q Eh=>Eh.elim λds μ G rl hr p=>by
 delta lI at p;rcases ds with _|⟨_|_|i|_|_|_|_|_,t⟩<;>try exact p.elim
 rcases t with _|⟨_|_|j|_|_|_|_|_,_|⟨_,_⟩⟩<;>try exact p.elim
 obtain⟨v,w,rfl,r,r'⟩:=UT rl;exact⟨_,_,by rw[U1 r,U1 r'],c7.ok p hr _ ofI⟩
def qg:X8 X Z (.builtin "abs") UC:=X8.of qm λxs H Q Eh=>Eh.elim λds μ G rl hr p=>by
 rcases ds with _|⟨_|_|_|_|_|_|_|_,_|⟨_,_⟩⟩<;>try exact p.elim
 all_goals (delta UC at p;dsimp only at p)
 ·obtain⟨v,rfl,r⟩:=F3 rl;exact⟨_,by rw[U1 r],c7.ok p hr _ ofI⟩
def nu:X8 X Z (.type "int") eB:=X8.of Tf λxs H Q Eh=>Eh.elim λds μ G rl hr p=>by
 rcases ds with _|⟨_|_|_|_|_|_|_|_,_|⟨_,_⟩⟩<;>try exact p.elim
 all_goals (delta eB at p;dsimp only at p)
 ·obtain⟨v,rfl,r⟩:=F3 rl;exact .inr ⟨_,by rw[A8 r],c7.ok p hr _ ofI⟩
 ·obtain⟨v,rfl,r⟩:=F3 rl;exact .inl ⟨_,by rw[U1 r],c7.ok p hr _ ofI⟩
theorem RR:∀ {l} {ns} {vs} {us},c9 l=some ns->m9 c μ H l vs->u9 vs us->us.length=ns.length/\∀i u,us[i]? =some u->∃t,u=Value.int (ns.getD i 0) t
 |[],_,_,_,e,r,q=>by cases e;cases r;cases q;exact⟨rfl,λi u h=>by simp at h⟩
 |d::ds,ns,_,_,e,r,q=>by
   obtain⟨v,t,rfl,r0,rt⟩:=r
   cases q with
   |cons q0 qt=>
     rcases d with _|_|n|_|_|_|_|_<;>try (cases e;done)
     ·
       replace e:(c9 ds).map (n :: ·)=some ns:=e;rcases h:c9 ds with _|ms
       ·rw[h]at e;exact J4 e
       ·
         rw[h]at e
         cases e
         obtain⟨h1,h2⟩:=RR h rt qt;refine⟨by simp[h1],λi u hu=>?_⟩
         cases i with
         |zero=>
           simp at hu;subst hu;rw[U1 r0]at q0;exact q0
         |succ i=>simpa using h2 i u (by simpa using hu)
theorem mM:∀ {l} {bs} {vs} {us},L8 l=some bs->m9 c μ H l vs->u9 vs us->us.length=bs.length/\∀i u,us[i]? =some u->u=Value.bool (bs.getD i false)
 |[],_,_,_,e,r,q=>by cases e;cases r;cases q;exact⟨rfl,λi u h=>by simp at h⟩
 |d::ds,ns,_,_,e,r,q=>by
   obtain⟨v,t,rfl,r0,rt⟩:=r
   cases q with
   |cons q0 qt=>
     rcases d with _|n|_|_|_|_|_|_<;>try (cases e;done)
     ·
       replace e:(L8 ds).map (n :: ·)=some ns:=e;rcases h:L8 ds with _|ms
       ·rw[h]at e;exact J4 e
       ·
         rw[h]at e
         cases e
         obtain⟨h1,h2⟩:=mM h rt qt;refine⟨by simp[h1],λi u hu=>?_⟩
         cases i with
         |zero=>
           simp at hu;subst hu;rw[A8 r0]at q0;exact q0
         |succ i=>simpa using h2 i u (by simpa using hu)
def sk(bs:List Bool):((ji bs.length).all λi=>bs.getD i false)=bs.all id:=by
 induction bs with
 |nil=>rfl
 |cons b t ih=>rw[zM,xo,yt,Zh,yt];simp[xt];rw[<-ih];simp
def sd(bs:List Bool):((ji bs.length).any λi=>bs.getD i false)=bs.any id:=by
 induction bs with
 |nil=>rfl
 |cons b t ih=>rw[zM,xo,yr,ZJ,yr];simp[xt];rw[<-ih];simp
def kN{σ:St}{a:Addr}{Ef:List zk}(hc:X.calm=true)(I:Inv X Ee σ H s)(hl:s.heap.IsList a Ef.toArray)
 (h:Walks X.prog X.w X.A.in1 s.heap.objs.size [s.heap.objs.size,a] [s.heap.objs.size] Ef.toArray.size (λi v=>Ef.toArray[i]? =some v) (λi h=>h.IsListIter s.heap.objs.size a i/\h.IsList a Ef.toArray)->
   ∀h2:Heap,(h2.IsListIter s.heap.objs.size a 0/\h2.IsList a Ef.toArray)->(∀b∈ [s.heap.objs.size,a],b<h2.objs.size)->(∀h' tk,(∀b o,b∉ [s.heap.objs.size]->h2.get? b=some o->h'.get? b=some o)->Inv X Ee σ H {s with heap:=h',toks:=tk})->Q (.ref s.heap.objs.size) {s with heap:=h2}):
 zw (zG X.prog X.w) X.A.in1 (JC (.ref a)) Q E s:=by
 have Eo:a<s.heap.objs.size:=by obtain⟨_,e,_⟩:=hl;exact zu e
 refine xJ hl ?_;have hh:X.A.in1.handled=none:=I.ok.hd hc;refine h (Walks.list hh s.heap.objs.size a (zE Eo) Ef.toArray) _ ⟨⟨_,zt _ rfl,rfl,rfl⟩,hl.push _⟩ (λb hb=>?_) λh' tk k=>?_
 · rw[yw];simp only[zy,jg,or_false]at hb;rcases hb with rfl|rfl
   ·exact xO _
   ·exact jR Eo
 ·exact I.kept λb o e=>k b o (by simp only[zB];exact zE (zu e)) (zh _ e)
def Bv(hc:X.calm=true):X8 X Z (.builtin "all") P2:=⟨by
 intro Ee s σ H xs us Q I r Eh;obtain⟨ds,μ,G,rl,hr,p⟩:=Eh;obtain⟨i,rfl⟩:=VM p rfl (λa _ _=>by cases a<;>rfl) rfl (λ_=>rfl) (λ_=>rfl) (λ_=>rfl) (λ_=>rfl) (λ_=>rfl) λ_=>rfl
 · obtain⟨v,rfl,rv⟩:=F3 rl;obtain⟨u,rfl,ru⟩:=S3 r;obtain⟨l,a,vs,rfl,Eu,q,p2⟩:=kC hr rv p
   cases ru
   obtain⟨bs,en,p3⟩:=S8 p2;obtain⟨Ef,rr,pl,hz⟩:=I.list q;obtain⟨h1,h2⟩:=mM en Eu rr;refine call_all_walk (kN hc I pl.isList λW g hg hb hk=>⟨_,_,_,_,_,_,λi=>bs.getD i false,rfl,W,hg,λi v s' Q' E' hv hq=>?_,λh' tk k=>?_⟩)
   ·rw[h2 i v (by simpa using hv)];exact yA hq
   · refine⟨.bl (bs.all id),H,hk h' tk k,?_,c7.ok p3 hr _ ofB⟩;have e:Ef.toArray.size=bs.length:=by rw[zo];exact h1
     rw[e,sk];rfl⟩
def Du(hc:X.calm=true):X8 X Z (.builtin "any") iB:=⟨by
 intro Ee s σ H xs us Q I r Eh;obtain⟨ds,μ,G,rl,hr,p⟩:=Eh;obtain⟨i,rfl⟩:=VM p rfl (λa _ _=>by cases a<;>rfl) rfl (λ_=>rfl) (λ_=>rfl) (λ_=>rfl) (λ_=>rfl) (λ_=>rfl) λ_=>rfl
 · obtain⟨v,rfl,rv⟩:=F3 rl;obtain⟨u,rfl,ru⟩:=S3 r;obtain⟨l,a,vs,rfl,Eu,q,p2⟩:=kC hr rv p
   cases ru
   obtain⟨bs,en,p3⟩:=S8 p2;obtain⟨Ef,rr,pl,hz⟩:=I.list q;obtain⟨h1,h2⟩:=mM en Eu rr;refine call_any_walk (kN hc I pl.isList λW g hg hb hk=>⟨_,_,_,_,_,_,λi=>bs.getD i false,rfl,W,hg,λi v s' Q' E' hv hq=>?_,λh' tk k=>?_⟩)
   ·rw[h2 i v (by simpa using hv)];exact yA hq
   · refine⟨.bl (bs.any id),H,hk h' tk k,?_,c7.ok p3 hr _ ofB⟩;have e:Ef.toArray.size=bs.length:=by rw[zo];exact h1
     rw[e,sd];rfl⟩
def PV(hg:Gl X x)(hm:X.mg x=none)(hv:je x=some (.type n))(hn:x≠ "__name__")(hd:(x==("__debug__" :Str))=false):DE X Z (.Name x pos) (cE (.ty n)):=
 SE (v:=.ty n) (DX hg hm hv rfl hn hd) λ_ _=>by unfold d8;rfl
def F5:D->M Bool:=λx=>match x with
 | .non=>pure false
 | .bl b=>pure b
 | .int i=>pure (i != 0)
 | .str y=>if y.length<=zq then pure ((y.length:Int) != 0)else M.stuck
 | .tup l=>pure (!l.isEmpty)
 | .ref r=>do
   match <-N5 r with
   | .lst l=>pure (!l.isEmpty)
   | .rol l=>pure (!l.isEmpty)
   | .dct l=>pure (!l.isEmpty)
   | .rod _=>M.stuck
 |_=>M.stuck
def J2(f:Fe):DSt->M Bool:=λσ=>do F5 (<-f σ)
def PC(r:m9 cc μ H l vs):vs.isEmpty=l.isEmpty:=by
 cases l with
 |nil=>cases r;rfl
 |cons _ _=>obtain⟨_,_,rfl,_⟩:=r;rfl
def MO(r:Z6 cc μ H l vs):vs.isEmpty=l.isEmpty:=by
 cases l with
 |nil=>cases r;rfl
 |cons _ _=>obtain⟨_,_,rfl,_⟩:=r;rfl
def Qz(ha:DE X Z a fa)(he:∀whole,isTrue a X.env whole= (do let v <-whole;standAt a.pos;Xy [v] (truthy v))):DT X Z a (J2 fa):=
 DT.of (qW ha.h he) λσ H Q Eh=>Eh.elim λX9 μ G s h p=>⟨X9,μ,G,s,h,(c7.bind p).mono λd X0 G1 H1 x1 h1 p1 v rv=>by
  cases d with
  |non=>rw[lF rv];exact⟨false,rfl,c7.ok p1 h1⟩
  |bl b=>rw[A8 rv];exact⟨b,rfl,c7.ok p1 h1⟩
  |int b=>rw[U1 rv];exact⟨_,rfl,c7.ok p1 h1⟩
  |str y=>
    rw[D3 rv];unfold F5 at p1;dsimp only at p1;split at p1
    ·rename_i hz;exact⟨_,⟨hz,rfl⟩,c7.ok p1 h1⟩
    ·exact p1.elim
  |tup l=>
    unfold d8 at rv;obtain⟨a,vs,rfl,q,rl⟩:=rv;exact⟨!vs.isEmpty,.inr (.inl ⟨vs,q,rfl⟩),by rw[PC rl];exact c7.ok p1 h1⟩
  |ref r=>
    unfold d8 at rv;obtain⟨a,m,rfl⟩:=rv;obtain⟨o,g,p2⟩:=K4 p1;have ro:=h1.obj r o a g m
    cases o with
    |lst l=>obtain⟨vs,q,rl⟩:=ro;exact⟨!vs.isEmpty,.inl ⟨vs,SqL.of q,rfl⟩,by rw[PC rl];exact c7.ok p2 h1⟩
    |rol l=>obtain⟨vs,q,rl⟩:=ro;exact⟨!vs.isEmpty,.inl ⟨vs,q.sq,rfl⟩,by rw[PC rl];exact c7.ok p2 h1⟩
    |dct l=>obtain⟨vs,q,rl⟩:=ro;exact⟨!vs.isEmpty,.inr (.inr ⟨vs,q,rfl⟩),by rw[MO rl];exact c7.ok p2 h1⟩
    |rod l=>exact p2.elim
  |_=>exact p1.elim⟩
def oB(o o':D->D->M D)(fa fb fc:Fe):Fe:=λσ=>do
 let x <-fa σ
 let y <-fb σ
 if <-HF (<-o x y)then o' y (<-fc σ)else pure (.bl false)
def nr(ho:OpD X Z (zZ op) o)(ho':OpD X Z (zZ op') o')(ha:DE X Z a fa)(hb:DE X Z b fb)(hc:DE X Z c fc)
 (hm:lastMarks [op,op'] [b,c]=false):DE X Z (.Compare a [op,op'] [b,c] pos) (oB o o' fa fb fc):=
 DE.of (Bt ho.h ho'.h ha.h hb.h hc.h hm) λσ H Q Eh=>Eh.elim λX9 μ G s h p=>⟨X9,μ,G,s,h,(c7.bind p).mono λx X0 G1 H1 x1 h1 p1 v rv=>
  ⟨X9,X0,G1,s.mono x1,h1,(c7.bind p1).mono λy WY G2 H2 x2 h2 p2 u ru=>⟨x,y,WY,G2,rv.mono x2,ru,h2,(c7.bind p2).mono λz WN G3 H3 x3 h3 p3 w rw'=>by
   obtain⟨k,rfl,p4⟩:=NM p3;refine⟨k,A8 rw',?_⟩
   cases k with
   |true=>exact⟨X9,WN,G3,s.mono (x1.trans (x2.trans x3)),h3,(c7.bind p4).mono λt WL G4 H4 x4 h4 p5 q rq=>⟨y,t,WL,G4,ru.mono (x3.trans x4),rq,h4,p5⟩⟩
   |false=>exact c7.ok p4 h3 _ ofB⟩⟩⟩
def qJ(osc scope:Scope)(N XN:List Str)(caps:List (Option Nat)):Bool:=
 decide (scope.kind= .function)&&scope.names.all (λy=>decide (y.2≠ .cell))&&scope.names.all (λy=>decide (y.2= .local->scope.names.lookup y.1=some .local)) &&
 scope.names.all (λy=>decide (y.2= .free->(osc.names.lookup y.1=some .cell\/osc.names.lookup y.1=some .free)))&&scope.names.all (λy=>decide (y.2= .free->scope.names.lookup y.1=some .free)) &&
 decide (caps.length=N.length)&&(ji caps.length).all λi=>match caps[i]? with
  |some (some j)=>match N[i]?,XN[j]? with
    |some x,some y=>decide (x=y)&&decide ((x,NameKind.free)∈scope.names)
    |_,_=>false
  |_=>true
def F6.of{caps:List (Option Nat)}(h:qJ osc scope N XN caps=true)(hs:X.env.scope=osc)(hN:X.N=XN):F6 X scope N caps:=by
 unfold qJ at h;simp only[jk,decide_eq_true_eq,ya]at h;obtain⟨⟨⟨⟨⟨⟨h1,h2⟩,h3⟩,h4⟩,h5⟩,h6⟩,h7⟩:=h;refine⟨h1,h2,h3,λy hy e=>?_,h5,h6,λi j e=>?_⟩
 ·have:=h4 y hy e;show X.env.scope.names.lookup y.1=_\/X.env.scope.names.lookup y.1=_;rw[hs];exact this
 · have hi:i∈ji caps.length:=by rw[yx];exact lt_of_get e
   have q:=h7 i hi;simp only[e]at q;rw[hN];split at q
   ·rename_i x y e1 e2;simp only[jk,decide_eq_true_eq]at q;exact⟨x,e1,by rw[e2,q.1],q.2⟩
   ·exact SA q
def m8(m:Nat)(fb:Fs):List D->M D:=λds=>do
 match <-fb (ds.map some++zC (m-ds.length) none) with
 | .nx _=>pure .non
 | .rt d=>pure d
 |_=>M.stuck
structure FF(K:zn)(mg:Str->Option zk)(x:Str)(st:Stmt)(ps:List Str)(f:Addr)(fd:xT):Prop where
 F:Fun K x x st f fd
 b:D7 K fd ps []
 m:mg x=some (.ref f)
def oh(r:m9 c μ H ds vs):K5 c μ H (ds.map some++zC (N.length-ds.length) none) (L2.start N vs):=by
 unfold L2.start;rw[r.length];refine⟨by simp[r.length],λi d e=>?_⟩;by_cases hi:i<ds.length
 · rw[zQ (by simpa using hi),zU]at e;have hd:ds[i]? =some d:=by
    cases h:ds[i]? with
    |none=>rw[h]at e;exact J4 e
    |some d'=>rw[h]at e;simpa using e
   obtain⟨v,hv,rv⟩:=r.get hd;refine⟨v,?_,rv⟩;rw[zQ (by simp;rw[<-r.length];exact hi),zU,hv];rfl
 ·rw[yP (by simpa using hi),Yf]at e;split at e<;>cases e
def FO{w:jq}{K:zn}{base:Heap}{x:Str}{st:Stmt}{f:Addr}{k n m:Nat}{fb:Fs}(F:FF K mg x st ps f fd)(S:L7 N ps (K9 st))(hn:ps.length=n)(hm:N.length=m)
 (hbody:∀(Fi:zk) (A:jC) (outer:List Env) (s:zD) (H:Hp) (E:XK),V7 k (A.deeper (Yu x (K9 st) s.heap.objs.size f Fi))->DB (r9 CX0 P w K mg base N x (K9 st) f Fi A outer s H E).nox ZF (C6 st) fb):
 u3 P w K mg base CX0 (k+1) f fd ps (spD ⟨K,mg⟩ n (m8 m fb)):=by
 refine F.F.ok S (λvs H Q E h=>by rw[hn];exact h.1) λFi A outer s H vs Q E hr h=>⟨_,(hbody Fi A outer s H E hr).h,?_⟩;obtain⟨hl,ds,μ,G,rl,hG,p⟩:=h;subst hm;refine⟨_,μ,G,oh rl,hG,(c7.bind p).mono λfl X0 G1 H1 x1 h1 p1=>?_⟩
 cases fl with
 |nx X9=>exact λσ _=>c7.ok p1 h1 _ ofN
 |rt d=>exact λv rv=>c7.ok p1 h1 v rv
 |bk _=>exact p1.elim
 |ct _=>exact p1.elim
def PH(K:zn):Sp:=λvs H Q _=>∃(a:Addr) (ns:List Int),vs= [.ref a]/\SqL K H a (ns.map V.int)/\wH H/\ns.length<=63/\∀H',Q (.bl true) H'
theorem VU:∀ns:List Int,m9 c μ H (ns.map D.int) (ns.map V.int)
 |[]=>rfl
 |n::t=>⟨.int n,_,rfl,ofI,VU t⟩
def Ak{w:jq}{K:zn}{base:Heap}{f:Addr}{k:Nat}(hF:u3 P w K mg base CX0 k f fd ["script"] (spD ⟨K,mg⟩ 1 F))
 (pure:∀ns:List Int,ns.length<=63->∃G',F [.ref 0] [.rol (ns.map D.int)]=some (.ok (.bl true),G')):u3 P w K mg base CX0 k f fd ["script"] (PH K):=
 hF.imp λvs H Q E h=>by
  obtain⟨a,ns,rfl,hS,hO,hl,q⟩:=h;obtain⟨G',e⟩:=pure ns hl;refine⟨rfl, [.ref 0], [a], [.rol (ns.map D.int)],⟨.ref a, [],rfl,by unfold d8;exact⟨a,rfl,rfl⟩,rfl⟩,⟨rfl,λi j b e1 e2=>?_,λi o b e1 e2=>?_⟩,?_⟩
  ·have h1:=lt_of_get e1;have h2:=lt_of_get e2;simp at h1 h2;left;lia
  · have h1:=lt_of_get e2;simp at h1;subst h1;have e1':o= .rol (ns.map D.int):=by simpa using e1.symm
    have e2':b=a:=by simpa using e2.symm
    subst e1' e2';refine⟨ns.map V.int,?_,VU ns⟩;rcases hS with(hS|⟨o,hS⟩)|hS
    · rcases hO b with z|⟨o,xs,z⟩
      ·rw[z]at hS;exact J4 hS
      ·rw[z]at hS;cases hS
    ·exact .inl ⟨o,hS⟩
    ·exact .inr (.inr hS)
  ·rw[e];exact λX2 H' _ _ v rv=>by rw[A8 rv];exact q H'
def TX:je "len" =some (.builtin "len"):=by decide +kernel
def vd:je "isinstance" =some (.builtin "isinstance"):=by decide +kernel
def qb:je "all" =some (.builtin "all"):=by decide +kernel
def uV:je "any" =some (.builtin "any"):=by decide +kernel
def Tj:je "min" =some (.builtin "min"):=by decide +kernel
def IS:je "max" =some (.builtin "max"):=by decide +kernel
def pw:je "abs" =some (.builtin "abs"):=by decide +kernel
def cL:je "sorted" =some (.builtin "sorted"):=by decide +kernel
def ko:je "tuple" =some (.type "tuple"):=by decide +kernel
def Sz:je "list" =some (.type "list"):=by decide +kernel
def GY:je "int" =some (.type "int"):=by decide +kernel
def kc:je "dict" =some (.type "dict"):=by decide +kernel
def oz:je "zip" =some (.type "zip"):=by decide +kernel
end DL
namespace DL
open PySem L2
def Wp{α:Type}(m:M α)(G:DH)(Q:α->DH->Prop):Prop:=∃a G',m G=some (.ok a,G')/\Q a G'
def Wp.mono(h:Wp m G Q)(k:∀a G',Q a G'->Q' a G'):Wp m G Q':=let ⟨a,G',e,q⟩:=h;⟨a,G',e,k a G' q⟩
def wp_pure:Wp (pure a) G Q↔Q a G:=by
 constructor
 · rintro⟨b,G',e,q⟩
   cases e
   exact q
 ·exact λq=>⟨a,G,rfl,q⟩
def TB:Wp (M.stuck:M α) G Q↔False:=by
 constructor
 ·rintro⟨b,G',e,q⟩;exact J4 e
 ·exact xn
def j7:Wp (m >>= f) G Q↔Wp m G λa G1=>Wp (f a) G1 Q:=by
 constructor
 · rintro⟨a,G',e,q⟩;rw[M.bind_eq]at e
   match h:m G,e with
   |some (.ok b,G1),e=>exact⟨b,G1,h,a,G',e,q⟩
 ·rintro⟨b,G1,e,a,G',e',q⟩;exact⟨a,G',by rw[M.bind_ok e];exact e',q⟩
def AA(h:m G=some (.ok a,G')):Wp m G Q↔Q a G':=⟨fun⟨b,G2,e,q⟩=>by rw[h]at e;cases e;exact q,λq=>⟨a,G',h,q⟩⟩
def S4:Wp (S1 o) G Q↔∃a,o=some a/\Q a G:=by
 rcases o with _|a
 ·
   constructor
   ·rintro⟨_,_,e,_⟩;exact J4 e
   ·rintro⟨_,e,_⟩;exact J4 e
 ·
   constructor
   · rintro⟨_,_,e,q⟩
     cases e
     exact⟨_,rfl,q⟩
   · rintro⟨_,e,q⟩
     cases e
     exact⟨_,_,rfl,q⟩
def N6{Q:DO->DH->Prop}:Wp (N5 r) G Q↔∃o,G[r]? =some o/\Q o G:=by
 constructor
 · rintro⟨a,G',e,q⟩;delta N5 at e;rcases h:G[r]? with _|o
   ·rw[h]at e;exact J4 e
   ·rw[h]at e;cases e;exact⟨_,rfl,q⟩
 ·rintro⟨o,e,q⟩;refine⟨o,G,?_,q⟩;delta N5;rw[e]
def R8{Q:DPP}:Wp (M5 o) G Q↔Q (.ref G.length) (G++[o]):=AA rfl
def IF{Q:Unit->DH->Prop}:Wp (F7 r o) G Q↔Q () (G.set r o):=AA rfl
def R5:Wp (B5 i σ) G Q↔∃d,σ[i]? =some (some d)/\Q d G:=by
 constructor
 · rintro⟨d,G',e,q⟩;delta B5 at e;rcases h:σ[i]? with _|o
   ·rw[h]at e;exact J4 e
   ·
     rw[h]at e;rcases o with _|d'
     ·exact J4 e
     ·cases e;exact⟨_,rfl,q⟩
 ·rintro⟨d,h,q⟩;exact⟨d,G,by delta B5;rw[h],q⟩
def N9:Wp (cE d σ) G Q↔Q d G:=wp_pure
def D6:Wp (j5 o a b σ) G Q↔Wp (a σ) G λx G1=>Wp (b σ) G1 λy G2=>Wp (o x y) G2 Q:=by unfold j5;simp only[j7]
def EO:Wp (unE o a σ) G Q↔Wp (a σ) G λx G1=>Wp (o x) G1 Q:=by unfold unE;simp only[j7]
def pA:Wp (if k=true then m else n) G R↔if k=true then Wp m G R else Wp n G R:=by cases k<;>exact Iff.rfl
def sL:Wp (HF d) G B↔∃k,d= .bl k/\B k G:=by
 constructor
 · rintro⟨k,G',e,q⟩;rcases d with _|b|_|_|_|_|_|_<;>try (cases e;done)
   ·cases e;exact⟨_,rfl,q⟩
 ·rintro⟨k,e,q⟩;subst e;exact⟨k,G,rfl,q⟩
def Gg:Wp (vD a σ) G Q↔Wp (a σ) G λx G1=>∃k,x= .bl k/\Q (.bl (!k)) G1:=by unfold vD;simp only[j7,sL,wp_pure]
def GL:Wp (ifE t a b σ) G Q↔Wp (t σ) G λk G1=>if k=true then Wp (a σ) G1 Q else Wp (b σ) G1 Q:=by unfold ifE;simp only[j7,pA]
def FA:Wp (VA a σ) G B↔Wp (a σ) G λx G1=>∃k,x= .bl k/\B k G1:=by unfold VA;simp only[j7,sL]
def h9:Wp (J2 a σ) G B↔Wp (a σ) G λx G1=>Wp (F5 x) G1 B:=by unfold J2;simp only[j7]
def VQ:Wp (Q1 t u σ) G B↔Wp (t σ) G λk G1=>if k=true then Wp (u σ) G1 B else B false G1:=by unfold Q1;simp only[j7,pA,wp_pure]
def af:Wp (orT t u σ) G B↔Wp (t σ) G λk G1=>if k=true then B true G1 else Wp (u σ) G1 B:=by unfold orT;simp only[j7,pA,wp_pure]
def iH:Wp (C3 t σ) G B↔Wp (t σ) G λk G1=>B (!k) G1:=by unfold C3;simp only[j7,wp_pure]
def j9:Wp (L0 σ) G R↔R [] G:=wp_pure
def S5:Wp (B1 a fs σ) G R↔Wp (a σ) G λx G1=>Wp (fs σ) G1 λxs G2=>R (x::xs) G2:=by unfold B1;simp only[j7,wp_pure]
def W7:Wp (T2 F fs σ) G Q↔Wp (fs σ) G λds G1=>Wp (F ds) G1 Q:=by unfold T2;simp only[j7]
def oD{α:Type}{m:M α}{R:α->DH->Prop}:Wp (noX m) G R↔Wp m G R:=by
 constructor
 · rintro⟨x,G',e,q⟩;delta noX at e;rcases h:m G with _|p
   ·rw[h]at e;exact J4 e
   ·
     rw[h]at e;obtain⟨_|y,G1⟩:=p
     ·exact J4 e
     ·cases e;exact⟨_,_,h,q⟩
 ·rintro⟨x,G',e,q⟩;exact⟨x,G',by delta noX;rw[e],q⟩
def T6:Wp (fnX n F ds) G Q↔ds.length=n/\Wp (F ds) G Q:=by
 unfold fnX;by_cases h:ds.length=n
 ·rw[if_pos h,oD];exact⟨λq=>⟨h,q⟩,λq=>q.2⟩
 ·rw[if_neg h];exact⟨λq=>(TB.mp q).elim,λq=>(h q.1).elim⟩
def S7:Wp (S2 fs σ) G Q↔Wp (fs σ) G λxs G1=>xs.length<=zq/\Q (.tup xs) G1:=by
 unfold S2;simp only[j7];constructor
 · rintro⟨xs,G1,e,q⟩;refine⟨xs,G1,e,?_⟩;by_cases h:xs.length<=zq
   ·rw[if_pos h]at q;exact⟨h,wp_pure.mp q⟩
   ·rw[if_neg h]at q;exact(TB.mp q).elim
 ·rintro⟨xs,G1,e,h,q⟩;exact⟨xs,G1,e,by dsimp only;rw[if_pos h];exact wp_pure.mpr q⟩
def P4:Wp (Q7 fs σ) G Q↔Wp (fs σ) G λxs G1=>xs.length<=zq/\Q (.ref G1.length) (G1++[.lst xs]):=by
 unfold Q7;simp only[j7];constructor
 · rintro⟨xs,G1,e,q⟩;refine⟨xs,G1,e,?_⟩;by_cases h:xs.length<=zq
   ·rw[if_pos h]at q;exact⟨h,R8.mp q⟩
   ·rw[if_neg h]at q;exact(TB.mp q).elim
 ·rintro⟨xs,G1,e,h,q⟩;exact⟨xs,G1,e,by dsimp only;rw[if_pos h];exact R8.mpr q⟩
def m5:Wp (J7 σ) G P↔P (.nx σ) G:=wp_pure
def d9:Wp (o9 f g σ) G P↔Wp (f σ) G λfl G1=>match fl with
 | .nx X1=>Wp (g X1) G1 P
 |r=>P r G1:=by
 delta o9;refine Iff.trans j7 ?_;constructor
 · rintro⟨fl,G1,e,q⟩;refine⟨fl,G1,e,?_⟩
   cases fl<;>first
    |exact q
    |exact wp_pure.mp q
 · rintro⟨fl,G1,e,q⟩;refine⟨fl,G1,e,?_⟩
   cases fl<;>first
    |exact q
    |exact wp_pure.mpr q
def r6:Wp (t8 a σ) G P↔Wp (a σ) G λd G1=>P (.rt d) G1:=by unfold t8;simp only[j7,wp_pure]
def iA:Wp (N4 a σ) G P↔Wp (a σ) G λ_ G1=>P (.nx σ) G1:=by unfold N4;simp only[j7,wp_pure]
def GA:Wp (ifS t f g σ) G P↔Wp (t σ) G λk G1=>if k=true then Wp (f σ) G1 P else Wp (g σ) G1 P:=by unfold ifS;simp only[j7,pA]
def W8:Wp (M8 a gg σ) G P↔Wp (a σ) G λd G1=>Wp (gg d σ) G1 λX1 G2=>P (.nx X1) G2:=by unfold M8;simp only[j7,wp_pure]
def M6:Wp (d6 i d σ) G S↔S (σ.set i (some d)) G:=wp_pure
def Z5:Wp (m8 m f ds) G Q↔Wp (f (ds.map some++zC (m-ds.length) none)) G λfl G1=>match fl with
 | .nx _=>Q .non G1
 | .rt d=>Q d G1
 |_=>False:=by
 delta m8;refine Iff.trans j7 ?_;constructor
 · rintro⟨fl,G1,e,q⟩;refine⟨fl,G1,e,?_⟩
   cases fl<;>first
    |exact wp_pure.mp q
    |exact TB.mp q
 · rintro⟨fl,G1,e,q⟩;refine⟨fl,G1,e,?_⟩
   cases fl<;>first
    |exact wp_pure.mpr q
    |exact TB.mpr q
def tL(o:Option Bool)(g:Bool->Bool)(G:DH):Option (Except Str D×DH):=match o with
 |some b=>some (.ok (.bl (g b)),G)
 |none=>none
def wE{g:Bool->Bool}(h:m G=tL o g G):Wp m G Q↔∃k,o=some k/\Q (.bl (g k)) G:=by
 unfold Wp;rw[h];rcases o with _|k
 ·
   constructor
   ·rintro⟨_,_,e,_⟩;exact J4 e
   ·rintro⟨_,e,_⟩;exact J4 e
 ·
   constructor
   · rintro⟨_,_,e,q⟩
     cases e
     exact⟨_,rfl,q⟩
   · rintro⟨_,e,q⟩
     cases e
     exact⟨_,_,rfl,q⟩
def dC:Wp (eqD x y) G Q↔∃k,eqN 40 G x y=some k/\Q (.bl k) G:=wE rfl
def r8:Wp (neD x y) G Q↔∃k,eqN 40 G x y=some k/\Q (.bl (!k)) G:=wE rfl
def fL:Wp (ltD x y) G Q↔∃k,ltN 40 G x y=some k/\Q (.bl k) G:=wE rfl
end DL
namespace DL
open PySem PySem.Spec L2
open PyProof.Rows hiding St
def BZ(hc:X.calm=true)(hi:DI X Z tg iter it)(k:F6 X scope N caps)
 (hg:∀C s H ex,DG (T8 X scope N C s H ex) ZF tg gg) (ht:∀C s H ex,DTs (T8 X scope N C s H ex) ZF ifs tt) (he:∀C s H ex,DE (T8 X scope N C s H ex) ZF elt fe)
 (hs:∀x,xc iter X.env x=pure x) (hgo:DG X Z (.Name y py) g2) (hsw:swapsWith (.ListComp elt [⟨tg,iter,ifs,0⟩] scope pos) (some (.Name y py)) spos.line X.env=pure true):
 DS X Z (.Assign [.Name y py] (.ListComp elt [⟨tg,iter,ifs,0⟩] scope pos) spos) (M8 (J3 it caps gg tt fe) g2):=by
 refine⟨?_⟩;intro Ee s σ H En I Eh;refine Eh.elim λX9 μ G sr hr p0=>?_;obtain⟨Q,hQ,p⟩:∃Q:VK,(∀v H',Q v H'->ID (wc X) Z g2 v σ H' En.nx)/\c7 (wc X) Z μ H (J3 it caps gg tt fe X9 G) λd X2 _ H'=>∀v,d8 (wc X) X2 H' d v->Q v H':=
  ⟨λv H'=>ID (wc X) Z g2 v σ H' En.nx,λ_ _ z=>z,(c7.bind p0).mono λd X0 G1 H1 x' h1 p1 v rv=>⟨d,X9,X0,G1,rv,sr.mono x',h1,(c7.bind p1).mono λdσ2 WY G2 H2 x2 h2 p2 σ2 s2=>c7.ok p2 h2 σ2 s2⟩⟩
 rw[exec_Assign_Name_used _ _ _ _ hsw];refine za (Ys (za ?_));show zw _ X.A (do let _ <-comprehension (.ListComp elt [⟨tg,iter,ifs,0⟩] scope pos) scope X.env _ (newList []) false (eval iter X.env) (some (YW (.Name y py) X.env))) _ _ s;refine za (jS (cN hc hi k hg ht he hs I sr hr p λDD C s4 H' m o hn fin hCn hf q9=>?_) (λ_ s' hq=>zi (zi hq)) λ_ _ e=>e);have fC:∀ {H9:Hp},H9 C=none->∀b∈ [C],N2 X Ee H9 b:=λ{H9} hn9 b hb=>by rw[zB]at hb;subst hb;exact hf H9 hn9
 obtain⟨oC,zC1,zC2,hoC,zC3⟩:=id hn;have I5:=(fin s4.heap ⟨rfl,λ_ _=>rfl⟩).pinned (fC hCn) (λb hb=>by rw[zB]at hb;subst hb;exact⟨oC,hoC,λv z=>by first|(rw[zC3.1]at z;cases z)|(rw[zC3.2.1]at z;cases z)⟩)
 refine thn (hgo.h _ s4 σ H' (.ref DD) (.ref DD) _ I5 rfl (hQ _ _ q9)) λ_ s5 ⟨σ5,H5,I6,q6⟩=>?_;obtain⟨g5,g5n,_⟩:=I6.pin (C,oC) (zP _ (zP _ (sC (by simp) hoC)));refine⟨m,hn.at' (λo e=>by rw[hoC]at e;cases e;exact g5),λh'' sb=>⟨σ5,H5,eM I6.unpinned (fC g5n) λb o hb e=>(sb.2 b (by simpa using hb)).trans e,q6⟩⟩
def l6:List D->Option (List Str)
 |[]=>some []
 | .str x::r=>(l6 r).map (x :: ·)
 |_=>none
def v7:List (Key×D)->Option (List Str)
 |[]=>some []
 |(.inr x,_)::r=>(v7 r).map (x :: ·)
 |_=>none
def leS(a b:Str):Bool:= !decide (b.cps.toList<a.cps.toList)
def O8(l:List Str):List Str:=l.mergeSort leS
def aG:leS a b=true↔a.cps.toList<=b.cps.toList:=by unfold leS;simp
def TK(a b c:Str)(h1:leS a b=true)(h2:leS b c=true):leS a c=true:=by rw[aG]at *;exact List.le_trans h1 h2
def cP(a b:Str):(leS a b||leS b a)=true:=by rw[Bool.or_eq_true,aG,aG];exact List.le_total _ _
def ET(h1:leS a b=true)(h2:leS b a=true):a=b:=by
 rw[aG]at *;have e:a.cps.toList=b.cps.toList:=List.le_antisymm h1 h2
 cases a;cases b
 congr 1;exact XL.mp e
theorem eN:∀l p,risingS p l=true->(p::l).Pairwise λa b=>leS a b=true
 |[],p,_=>by simp
 |x::r,p,h=>by
   unfold risingS at h;rw[jk]at h;have ih:=eN r x h.2;have hpx:leS p x=true:=by unfold leS;rw[<-ltCps_eq];exact h.1
   refine jf.mpr ⟨λy hy=>?_,ih⟩;rcases zy.mp hy with rfl|hy
   ·exact hpx
   ·exact TK _ _ _ hpx ((jf.mp ih).1 y hy)
def QK(hp:l'.Perm l)(hs:sortedS l'=true):l'=O8 l:=by
 have h1:l'.Pairwise λa b=>leS a b=true:=by
  rcases l' with _|⟨x,r⟩
  ·simp
  ·exact eN r x hs
 have h2:(O8 l).Pairwise λa b=>leS a b=true:=xZ TK cP l;exact Jb (λa b _ _ h1 h2=>ET h1 h2) h1 h2 (hp.trans (jv l leS).symm)
def Mf(K:PySem.W.KdlSrc prog w T r d n P OK)(hh:A.handled=none)(hok:OK s.heap)(hn:n<64)(hP:∀vs:List zk,vs.length=n->(∀(j:Nat) v,vs[j]? =some v->P j v)->StrsAre vs ss)
 (h:∀(h1 h':Heap) (tk e:Nat) out Es,(∀b o,s.heap.get? b=some o->h1.get? b=some o)->(∀b o,h1.get? b=some o->h'.get? b=some o)->h'.get? h1.objs.size=some (jN "list" out.toArray e)->StrsAre out Es->Es.Perm ss->sortedS Es=true->Q (.ref h1.objs.size) {s with heap:=h',toks:=tk}):
 zw (zG prog w) A (call (.builtin "sorted") [.ref r]) Q E s:=by
 have hz:n<=zq:=zK (yM hn) (by decide);refine ZU JZ Jn Jp (args_sorted1 _) ?_;unfold yg.«sorted»;refine za (zi ?_);refine za (PySem.W.kdu_collect K hh hok hz λh1 tk Ek hk Fa=>?_);have hl:Ek.toList.length=n:=by rw[zL];exact Fa.1
 refine za (Zb ?_ (by rw[hl];exact hz));have hS:StrsAre Ek.toList ss:=hP Ek.toList hl λj v e=>Fa.2 j v (by rw[<-jz];exact e);have hoL:(h1.push (jN "list" Ek.toList.toArray 0)).get? h1.objs.size=some (jN "list" Ek.toList.toArray 0):=zt _ rfl;refine za (jB (jA Xu ⟨_,hoL,rfl⟩ Xe (list_sort_treeK strKind_oneLt hoL hS.keysOf (λv₁ v₂ Q8 e=>Jo (by rw[<-e];exact hS)) (by rw[hl];exact hn) λEw a1 a2=>⟨_,rfl,?_⟩) (args_list_sort _)));obtain⟨Es,b1,b2,b3⟩:=sorted_out_str hS a1 a2;obtain⟨e,he⟩:=sortedHeap_at hoL;refine zi ⟨_,rfl,h h1 _ tk e ((Xf Ew).map (·.2)).toList Es hk (λb o hb=>?_) (by rw[Zv];exact he) b1 b2 b3⟩;have Eo:b<h1.objs.size:=zu hb;rw[sortedHeap_old (zE Eo) (by rw[Yd];exact jR Eo),xC _ _ _ (zE Eo)];exact hb
def qK:List D->M D:=λds=>match ds with
 |[.ref r]=>do
   match <-N5 r with
   | .dct l=>do
     let ss <-S1 (v7 l)
     if ss.length<64 then M5 (.lst ((O8 ss).map .str))else M.stuck
   |_=>M.stuck
 |_=>M.stuck
theorem LJ:∀ {l} {ss},v7 l=some ss->ss.length=l.length
 |[],_,e=>by cases e;rfl
 |(.inr x,_)::r,ss,e=>by
  replace e:=show (v7 r).map (_ :: ·)=some _ from e;rcases h:v7 r with _|t
  ·rw[h]at e;cases e
  ·rw[h]at e;cases e;simp[LJ h]
 |(.inl _,_)::_,_,e=>by cases e
theorem FM{w:jq}:∀ {l} {ss:List Str} {Eg} {xs} {vs},v7 l=some ss->Z6 c μ H l Eg->KV Eg xs->vs.length=xs.length->
 (∀(j:Nat) (v:zk),vs[j]? =some v->∃k x,xs[j]? =some (k,x)/\(M9 P w).is k v=true)->StrsAre vs ss
 |[],_,_,xs,vs,e,r,kv,hl,hv=>by
   cases e;cases r;cases kv
   rcases vs with _|⟨_,_⟩
   ·exact .nil
   ·simp at hl
 |(.inr x,d)::t,ss,Eg,xs,vs,e,r,kv,hl,hv=>by
  replace e:=show (v7 t).map (_ :: ·)=some _ from e;rcases h:v7 t with _|q
  ·rw[h]at e;cases e
  ·
    rw[h]at e
    cases e
    obtain⟨v0,tl,rfl,r0,rt⟩:=r
    cases kv with
    |cons hk ht=>
      cases vs with
      |nil=>simp at hl
      |cons u us=>
        obtain⟨k,y,e1,e2⟩:=hv 0 u rfl;simp only[zI,zN]at e1;have hk1:(Sum.inr x:Key)=_:=hk.1;rw[e1]at hk1;have e3:sB (.inr x) u=true:=by rw[hk1];exact e2
        rcases O5 e3 with⟨_,_,z,_⟩|⟨x',t',z,eu⟩
        ·cases z
        · cases z
          subst eu;exact .cons _ _ (FM h rt ht (by simpa using hl) λj v hj=>by simpa using hv (j+1) v (by simpa using hj))
 |(.inl _,_)::_,_,_,_,_,e,_,_,_,_=>by cases e
theorem gF:∀ {out} {ss},StrsAre out ss->∃vs,vs=ss.map V.str/\u9 vs out/\m9 c μ H (ss.map D.str) vs
 |_,_,.nil=>⟨[],rfl,.nil,rfl⟩
 |_,_,.cons x t q=>by obtain⟨vs,e,h1,h2⟩:=gF q;subst e;exact⟨_,rfl,.cons ⟨t,rfl⟩ h1,_,_,rfl,by unfold d8;rfl,h2⟩
def cy(hc:X.calm=true):X8 X Z (.builtin "sorted") qK:=⟨by
 intro Ee s σ H xs us Q I r Eh;obtain⟨ds,μ,G,rl,hr,p⟩:=Eh;rcases ds with _|⟨_|_|_|_|_|i|_|_,_|⟨_,_⟩⟩<;>try exact p.elim
 all_goals (delta qK at p;dsimp only at p)
 · obtain⟨v,rfl,rv⟩:=F3 rl;obtain⟨u,rfl,ru⟩:=S3 r;unfold d8 at rv;obtain⟨a,m,rfl⟩:=rv
   cases ru
   obtain⟨o,g,p1⟩:=K4 p;have ro:=hr.obj i o a g m
   cases o with
   |dct l=>
     obtain⟨Eg,q,rk⟩:=ro;obtain⟨ss,es,p2⟩:=S8 p1;split at p2
     case isFalse=>exact p2.elim
     rename_i Gs;obtain⟨z,hd,vs,rel,dd⟩:=aD I.hok q;obtain⟨ep,hat⟩:=dd.dictAt;have hn:vs.length=ss.length:=by rw[LJ es,<-rel.length,<-rk.length]
     refine Mf (PySem.W.kdl_dict hd) (I.ok.hd hc) hat (by omega) (λus hl hu=>FM es rk rel (by omega) hu) λh1 h' tk e out Es k1 k2 he hS hp hs=>?_;have e2:=QK hp hs;subst e2;obtain⟨ws,ew,rv,rl2⟩:=gF (μ:=μ) hS;have I1:Inv X Ee σ H {s with heap:=h1,toks:=tk}:=I.kept k1;have hf:=I1.hok.fresh (zp _);have Ei:ws.length<=zq:=by
      rw[ew,zg];have:=(jv ss leS).length_eq;have e3:(O8 ss).length=ss.length:=this;have:(64:Nat)<=zq:=by decide
      omega
     refine⟨.ref h1.objs.size,upd H h1.objs.size (.lst ws),I1.laid k2 (zp _) ⟨Ei,out,e,rv,he⟩,rfl,U9 hr rl2 p2 _ hf⟩
   |lst l=>exact p1.elim
   |rod l=>exact p1.elim
   |rol l=>exact p1.elim⟩
def Its(z:Str):It:=⟨λi _=>∃c,z.cps[i]? =some c,λi H x H'=>H'=H/\∃c,z.cps[i]? =some c/\x= .str ⟨#[c]⟩,λi _=>z.cps[i]? =none⟩
def Ao{K:zn}(z:Str)(t:Tok)(it:Addr):F9 P w K tg (Its z) [it] it (λi h=>h.IsStrIter it "str_ascii_iterator" z t i) where
 mem:=by simp
 obj:=λi h st b hb=>by
  have e:b=it:=by simpa using hb
  subst e;obtain⟨o,e,c,d⟩:=st;exact⟨o,e,λv z=>by rw[d]at z;cases z⟩
 keep:=λi h h' st k=>let ⟨o,ho,r⟩:=st;⟨o,k it (by simp) o ho,r⟩
 item:=by intro X hP hw hK hc i Ee s σ H E I hf st hg;subst hP hw hK;obtain⟨c,hx⟩:=hg;obtain⟨f0,f1,f2,f3,f4,f5⟩:=hf it (by simp);refine wpAny_pyNext_ascii_item st hx λh' Ew sb=>?_;have I1:Inv X Ee σ H {s with heap:=h',toks:=s.toks+1}:=I.turned (λb o hb e=>(sb.2 b hb).trans e) f0 f1 f3 f4 f5;obtain⟨o,e,cc,d⟩:=id Ew;exact⟨_,rfl,FD e cc d (by decide) ⟨.str ⟨#[c]⟩,H,I1,⟨_,rfl⟩,⟨rfl,c,hx,rfl⟩,Ew,λb hb=>(hf b hb).1⟩⟩
 done:=by intro X hP hw hK hc i Ee s σ H E I hf st hg;subst hP hw hK;obtain⟨f0,f1,f2,f3,f4,f5⟩:=hf it (by simp);exact wpAny_pyNext_ascii_end (I.ok.hd hc) st hg λh' eb=>⟨rfl,I.turned (λb o hb e=>eb b o hb e) f0 f1 f3 f4 f5⟩
 self:=λ_ _ _ _ _ st h=>wpAny_pyIter_striter_ascii st h
def Gx{K:zn}(z:Str)(t:Tok)(it:Addr):F9 P w K tg (Its z) [it] it (λi h=>h.IsStrIter it "str_iterator" z t i) where
 mem:=by simp
 obj:=λi h st b hb=>by
  have e:b=it:=by simpa using hb
  subst e;obtain⟨o,e,c,d⟩:=st;exact⟨o,e,λv z=>by rw[d]at z;cases z⟩
 keep:=λi h h' st k=>let ⟨o,ho,r⟩:=st;⟨o,k it (by simp) o ho,r⟩
 item:=by intro X hP hw hK hc i Ee s σ H E I hf st hg;subst hP hw hK;obtain⟨c,hx⟩:=hg;obtain⟨f0,f1,f2,f3,f4,f5⟩:=hf it (by simp);refine wpAny_pyNext_wide_item st hx λh' Ew sb=>?_;have I1:Inv X Ee σ H {s with heap:=h',toks:=s.toks+1}:=I.turned (λb o hb e=>(sb.2 b hb).trans e) f0 f1 f3 f4 f5;obtain⟨o,e,cc,d⟩:=id Ew;exact⟨_,rfl,FD e cc d (by decide) ⟨.str ⟨#[c]⟩,H,I1,⟨_,rfl⟩,⟨rfl,c,hx,rfl⟩,Ew,λb hb=>(hf b hb).1⟩⟩
 done:=by intro X hP hw hK hc i Ee s σ H E I hf st hg;subst hP hw hK;obtain⟨f0,f1,f2,f3,f4,f5⟩:=hf it (by simp);exact wpAny_pyNext_wide_end (I.ok.hd hc) st hg λh' eb=>⟨rfl,I.turned (λb o hb e=>eb b o hb e) f0 f1 f3 f4 f5⟩
 self:=λ_ _ _ _ _ st h=>wpAny_pyIter_striter_wide st h
def E9(z:Str):List D:=z.cps.toList.map λc=>.str ⟨#[c]⟩
def II:D->M Src:=λx=>match x with
 | .str z=>pure ⟨E9 z,λ_=>true⟩
 | .tup l=>t4 (.tup l)
 | .ref r=>t4 (.ref r)
 |_=>M.stuck
def iY{w:jq}{K:zn}{base:Heap}{CX:CXT}{k n:Nat}{f:Addr}(hn:ps.length=n):u3 P w K mg base CX k f fd ps (spD ⟨K,mg⟩ n λ_=>M.stuck):=
 ⟨λvs H Q E h=>by rw[hn];exact h.1,λA outer s H args us vs Q E hr=>by
  intros;rename_i h
  first
   |exact h.2.elim
   |(obtain⟨_,_,_,_,_,_,z⟩:=h;exact z.elim)⟩
end DL
namespace W
open PySem PySem.Spec L2 DL
open PyProof.Rows hiding St
def st1:([d].map some++zC n none:DSt)[0]? =some (some d):=by rfl
def lC{P:Bool->Prop}:(∃k,D.bl b= .bl k/\P k)↔P b:=⟨fun⟨k,e,p⟩=>by cases e;exact p,λp=>⟨b,rfl,p⟩⟩
def O9{P:α->Prop}:(∃k,some b=some k/\P k)↔P b:=⟨fun⟨k,e,p⟩=>by cases e;exact p,λp=>⟨b,rfl,p⟩⟩
def cq:Wp (gtD (.int i) (.int j)) G Q↔Q (.bl (decide (j<i))) G:=wp_pure
def ix_tup:Wp (ixD (.tup l) (.int i)) G Q↔∃d,atI l i=some d/\Q d G:=S4
def Q4:Wp (F5 (.bl b)) G B↔B b G:=wp_pure
def T5:Wp (eqD (.int i) (.int j)) G Q↔Q (.bl (decide (i=j))) G:=by
 have e:eqN 40 G (.int i) (.int j)=some (decide (i=j)):=by rfl
 rw[dC,e];exact O9
def R9(h:Wp m G λa G'=>a=x/\G'=G):m G=some (.ok x,G):=by obtain⟨a,G',e,e1,e2⟩:=h;subst e1 e2;exact e
theorem eE{g:Fg}{e:Fe}{G:DH}{I:DSt->Prop}(Gn:ck G=true):∀items (σ:DSt),I σ->
 (∀d∈items,∀ σ,I σ->∃ WZ,g d σ G=some (.ok WZ,G)/\I WZ/\t WZ G=some (.ok true,G)/\e WZ G=some (.ok (f d),G))->K7 g t e ck items σ G=some (.ok (items.map f),G)
 |[],σ,_,_=>by unfold K7;simp only[Gn,if_true,List.map]
 |d::r,σ,i,h=>by obtain⟨WZ,h1,i1,h2,h3⟩:=h d (by simp) σ i;have h4:=eE Gn r WZ i1 λd hd=>h d (by simp[hd]);unfold K7;simp only[Gn,if_true];rw[M.bind_ok h1,M.bind_ok h2,if_pos rfl,M.bind_ok h3,M.bind_ok h4];rfl
def bT{it:DSt->M Src}{g:Fg}{e:Fe}{G:DH}{σ:DSt}{s:Src}(I:DSt->Prop)(hs:it σ G=some (.ok s,G))(hn:s.items.length<=zq)(Gn:s.ck G=true)(hi:I (T9 caps σ))
 (h:∀d∈s.items,∀ σ,I σ->∃ WZ,g d σ G=some (.ok WZ,G)/\I WZ/\t WZ G=some (.ok true,G)/\e WZ G=some (.ok (f d),G)):
 Wp (J3 it caps g t e σ) G Q↔Q (.ref G.length) (G++[.lst (s.items.map f)]):=by
 unfold J3;simp only[j7];rw[AA hs,if_pos hn];simp only[j7,oD];rw[AA (eE Gn s.items _ hi h),R8]
theorem kF:∀l:List α,L8 (l.map λx=>D.bl (f x))=some (l.map f)
 |[]=>rfl
 |a::r=>by show (L8 (r.map λx=>D.bl (f x))).map (f a :: ·)=_;rw[kF r];rfl
def FQ{l:List D}{Q:DPP}(h:G[r]? =some (.lst (l.map λx=>.bl (f x)))):Wp (P2 [.ref r]) G Q↔Q (.bl (l.all f)) G:=by unfold P2;simp only[j7,N6,h,O9,DL.listOf,wp_pure,S4,kF];simp[Zh,xt]
def QF:Wp (ltD (.int i) (.int j)) G Q↔Q (.bl (decide (i<j))) G:=by
 have e:ltN 40 G (.int i) (.int j)=some (decide (i<j)):=by rfl
 rw[fL,e];exact O9
def KA:Wp (V8 (.int i) (.int j)) G Q↔Q (.int (i+j)) G:=wp_pure
def at0:atI [a,b] 0=some a:=by rfl
def at1:atI [a,b] 1=some b:=by rfl
def aT(l:List D):DL.cutD l (some 1) none=l.drop 1:=by
 unfold DL.cutD;rw[HT.sIx_none,show (some (1:Int))=some ((1:Nat):Int)from rfl,HT.sIx_nat];rcases l with _|⟨a,r⟩
 ·rfl
 ·simp[zM]
def gA:Wp (B2 g b ck [] σ) G P↔ck G=true/\P (.nx σ) G:=by
 unfold B2;constructor
 · rintro⟨a,G',e,q⟩;by_cases h:ck G=true
   ·simp only[h,if_true]at e;cases e;exact⟨h,q⟩
   ·simp only[h]at e;exact J4 e
 ·rintro⟨h,q⟩;exact⟨_,G,by simp only[h,if_true],q⟩
def bA:Wp (B2 g b ck (d::r) σ) G P↔ck G=true/\Wp (g d σ) G λWZ G1=>Wp (b WZ) G1 λfl G2=>match fl with
 | .nx X1=>Wp (B2 g b ck r X1) G2 P
 | .ct X1=>Wp (B2 g b ck r X1) G2 P
 | .bk X1=>P (.nx X1) G2
 | .rt d=>P (.rt d) G2:=by
 have e:Wp (B2 g b ck (d::r) σ) G P↔ck G=true/\Wp (do
  match <-b (<-g d σ) with
  | .nx X1=>B2 g b ck r X1
  | .ct X1=>B2 g b ck r X1
  | .bk X1=>pure (.nx X1)
  | .rt d=>pure (.rt d):M Fl) G P:=by
  rw[B2];constructor
  · rintro⟨a,G',e,q⟩;by_cases h:ck G=true
    ·simp only[h,if_true]at e;exact⟨h,a,G',e,q⟩
    ·simp only[h]at e;exact J4 e
  ·rintro⟨h,a,G',e,q⟩;exact⟨a,G',by simp only[h,if_true];exact e,q⟩
 rw[e];simp only[j7];refine and_congr_right λ_=>?_;constructor
 · rintro⟨WZ,G1,e1,fl,G2,e2,q⟩;refine⟨WZ,G1,e1,fl,G2,e2,?_⟩
   cases fl<;>first
    |exact q
    |exact wp_pure.mp q
 · rintro⟨WZ,G1,e1,fl,G2,e2,q⟩;refine⟨WZ,G1,e1,fl,G2,e2,?_⟩
   cases fl<;>first
    |exact q
    |exact wp_pure.mpr q
def i9:Wp (N3 it g b σ) G P↔Wp (it σ) G λs G1=>Wp (B2 g b s.ck s.items σ) G1 P:=by unfold N3;simp only[j7]
def WC:Wp (u4 (.int i) (.int j)) G Q↔Q (.int (i-j)) G:=wp_pure
def atI_nat{k:Nat}(h:l[k]? =some s):atI l (k:Int)=some s:=by
 have hk:k<l.length:=by
  by_cases hk:k<l.length
  ·exact hk
  ·rw[zT (by omega)]at h;exact J4 h
 unfold atI ixN;rw[if_pos (by omega),if_pos (by omega)];simpa using h
def t6(h:0<j):Wp (J9 (.int i) (.int j)) G Q↔Q (.int (i % j)) G:=by have e:J9 (.int i) (.int j)=if 0<j then pure (.int (i % j))else M.stuck:=rfl;rw[e,if_pos h];exact wp_pure
def K8(h:0<j/\j<2 ^ 100):Wp (M4 (.int i) (.int j)) G Q↔Q (.int (i / j)) G:=by have e:M4 (.int i) (.int j)=if LC i j then pure (.int (i / j))else M.stuck:=rfl;rw[e,if_pos (show LC i j from h)];exact wp_pure
def i8(h:c6 i j):Wp (A4 (.int i) (.int j)) G Q↔Q (.int (i*j)) G:=by have e:A4 (.int i) (.int j)=if c6 i j then pure (.int (i*j))else M.stuck:=rfl;rw[e,if_pos h];exact wp_pure
def u7{l:List D}(h:G[r]? =some (.lst l)):Wp (ixD (.ref r) (.int i)) G Q↔∃d,atI l i=some d/\Q d G:=by
 have e:ixD (.ref r) (.int i)= (do
  let l <-N5 r >>= DL.listOf
  S1 (atI l i)):=rfl
 rw[e];simp only[j7,N6,h,O9,DL.listOf,wp_pure,S4]
def rS{d:D}{R:Unit->DH->Prop}(h:G[r]? =some (.lst l))(hj:ixN l.length k=some j):Wp (qC (.ref r) (.int k) d) G R↔R () (G.set r (.lst (l.set j d))):=by unfold qC;simp only[j7,N6,h,O9,hj,IF]
def BG:Wp (A3 fo fi d σ) G S↔Wp (fo σ) G λo G1=>Wp (fi σ) G1 λi G2=>Wp (qC o i d) G2 λ_ G3=>S σ G3:=by unfold A3;simp only[j7,wp_pure]
def HL(h:QA i j):Wp (w9 (.int i) (.int j)) G Q↔Q (.int (i ^ j.toNat)) G:=by have e:w9 (.int i) (.int j)=if QA i j then pure (.int (i ^ j.toNat))else M.stuck:=rfl;rw[e,if_pos h];exact wp_pure
def p18:Wp (w9 (.int 10) (.int 18)) G Q↔Q (.int 1000000000000000000) G:=by rw[HL (by decide)];exact Iff.rfl
def DV:Wp (dD (.int i)) G Q↔Q (.int (-i)) G:=wp_pure
def EH{l:List D}{k:Int}(h0:0<=k)(h1:k<l.length):∃d,d∈l/\atI l k=some d:=by
 obtain⟨n,rfl⟩:=xk h0;have hn:n<l.length:=by omega
 exact⟨l[n],jW hn,atI_nat (zj hn)⟩
def sz{l:List D}(h:Nat.ble l.length 100=true:=by rfl):l.length<=zq:=zK (Nat.le_of_ble_eq_true h) (by decide)
def Pz{G t:DH}:(G++t)[G.length+k]? =t[k]? :=by rw[yP (by omega)];congr 1;omega
def cY{G t:DH}:(G++t)[G.length]? =t[0]? :=Pz (k:=0)
def x5:Wp (mtE t m fo fs σ) G Q↔Wp (fo σ) G λx G1=>Wp (t x) G1 λ_ G2=>Wp (fs σ) G2 λxs G3=>Wp (m x xs) G3 Q:=by unfold mtE;simp only[j7]
def N8(h:G[r]? =some (.lst l)):Wp (Q0 (.ref r)) G R↔R () G:=by delta Q0;exact j7.trans ((N6.trans (by rw[h];exact O9)).trans wp_pure)
def W4{l:List D}(h:G[r]? =some (.lst l))(hl:l.length<zq):Wp (L6 (.ref r) [y]) G Q↔Q .non (G.set r (.lst (l++[y]))):=by
 have e:L6 (.ref r) [y]= (do
  let l <-lstM r
  if l.length<zq then do
   let _ <-F7 r (.lst (l++[y]))
   pure .non
  else M.stuck):=rfl
 rw[e];unfold lstM;simp only[j7,N6,h,O9,wp_pure,hl,if_true,IF]
def M7{l:List D}(h:G[r]? =some (.lst l)):Wp (O3 [.ref r]) G Q↔Q (.tup l) G:=by
 have e:O3 [.ref r]= (do
  let l <-N5 r >>= DL.listOf
  pure (.tup l)):=rfl
 rw[e];simp only[j7,N6,h,O9,DL.listOf,wp_pure]
def fX:Wp (GB [.tup l]) G Q↔Q (.ref G.length) (G++[.lst l]):=R8
def rng1:Wp (W5 fs σ) G R↔Wp (fs σ) G λxs G1=>Wp (match xs with
 |[.int j]=>if -(2 ^ 62)<=j/\j<2 ^ 62 then pure ⟨K3 0 j.toNat,λ_=>true⟩else M.stuck
 |_=>M.stuck:M Src) G1 R:=by
 delta W5;exact j7
def rng1_int(h: -(2 ^ 62)<=j/\j<2 ^ 62):Wp (match [D.int j] with
 |[.int j]=>if -(2 ^ 62)<=j/\j<2 ^ 62 then pure ⟨K3 0 j.toNat,λ_=>true⟩else M.stuck
 |_=>M.stuck:M Src) G R↔R ⟨K3 0 j.toNat,λ_=>true⟩ G:=by
 show Wp (if -(2 ^ 62)<=j/\j<2 ^ 62 then pure ⟨K3 0 j.toNat,λ_=>true⟩else M.stuck:M Src) G R↔_;rw[if_pos h];exact wp_pure
def cG{a b:List D}(ha:G[i]? =some (.lst a))(hb:G[j]? =some (.lst b))(hl:a.length+b.length<=zq):Wp (V8 (.ref i) (.ref j)) G Q↔Q (.ref G.length) (G++[.lst (a++b)]):=by
 have e:V8 (.ref i) (.ref j)= (do
  match <-N5 i,<-N5 j with
  | .lst a,.lst b=>if a.length+b.length<=zq then M5 (.lst (a++b))else M.stuck
  |_,_=>M.stuck):=rfl
 rw[e];simp only[j7,N6,ha,hb,O9,if_pos hl,R8]
def dI(hl:a.length+b.length<=zq):Wp (V8 (.tup a) (.tup b)) G Q↔Q (.tup (a++b)) G:=by have e:V8 (.tup a) (.tup b)=if a.length+b.length<=zq then pure (.tup (a++b))else M.stuck:=rfl;rw[e,if_pos hl];exact wp_pure
def tZ:Wp (A9 σ) G R↔R none G:=wp_pure
def iN:Wp (C4 f σ) G R↔Wp (f σ) G λx G1=>∃i,x= .int i/\R (some i) G1:=by
 delta C4;refine Iff.trans j7 ?_;constructor
 · rintro⟨x,G1,e,q⟩;refine⟨x,G1,e,?_⟩;rcases x with _|_|i|_|_|_|_|_<;>try (exact(TB.mp q).elim;done)
   ·exact⟨i,rfl,wp_pure.mp q⟩
 ·rintro⟨x,G1,e,i,rfl,q⟩;exact⟨_,G1,e,wp_pure.mpr q⟩
def sl_tup{lo hi:Option Int}:Wp (slD (.tup l) lo hi) G Q↔Q (.tup (DL.cutD l lo hi)) G:=wp_pure
def iV{P:Int->Prop}:(∃k,D.int i= .int k/\P k)↔P i:=⟨fun⟨k,e,p⟩=>by cases e;exact p,λp=>⟨i,rfl,p⟩⟩
def j6{G:DH}:(G++[o])[G.length]? =some o:=cY
def P0{G t:DH}{p:Nat}(e:G[p]? =some o):(G++t)[p]? =some o:=by
 have Eo:p<G.length:=by
  by_cases hi:p<G.length
  ·exact hi
  ·rw[zT (by omega)]at e;exact J4 e
 rw[zQ Eo];exact e
def Gr(G G':DH):Prop:=G.length<=G'.length/\∀i,i<G.length->G'[i]? =G[i]?
def Gr.trans(h:Gr G G1)(k:Gr G1 G2):Gr G G2:=⟨zK h.1 k.1,λi hi=>by rw[k.2 i (by have:=h.1;omega),h.2 i hi]⟩
def Gr.app:Gr G (G++t):=⟨by simp,λi hi=>zQ hi⟩
def Gr.at{p:Nat}(h:Gr G G')(e:G[p]? =some o):G'[p]? =some o:=by
 have hl:p<G.length:=by
  by_cases hi:p<G.length
  ·exact hi
  ·rw[zT (by omega)]at e;cases e
 rw[h.2 p hl];exact e
theorem vR:∀ns:List Int,c9 (ns.map D.int)=some ns
 |[]=>rfl
 |a::r=>by show (c9 (r.map D.int)).map (a :: ·)=_;rw[vR r];rfl
def rK{σ:DSt}{l:List D}{R:Src->DH->Prop}(e:G[p]? =some (.lst l)):Wp (t4 (.ref p)) G R↔R ⟨l,ckO p (.lst l)⟩ G:=by
 have h:t4 (.ref p)= (do
  let o <-N5 p
  let l <-DL.listOf o
  pure ⟨l,ckO p o⟩):=rfl
 rw[h];simp only[j7,N6,e,O9,DL.listOf,wp_pure]
def iS:Wp (oB o o' a b c σ) G Q↔Wp (a σ) G λx G1=>Wp (b σ) G1 λy G2=>Wp (o x y) G2 λz G3=>∃k,z= .bl k/\if k=true then Wp (c σ) G3 λw G4=>Wp (o' y w) G4 Q else Q (.bl false) G3:=by unfold oB;simp only[j7,sL,pA,wp_pure]
def wp_trueT:Wp (K1 σ) G B↔B true G:=wp_pure
def rA:Wp (K7 g t e ck [] σ) G R↔ck G=true/\R [] G:=by
 unfold K7;constructor
 · rintro⟨a,G',e,q⟩;by_cases h:ck G=true
   ·simp only[h,if_true]at e;cases e;exact⟨h,q⟩
   ·simp only[h]at e;exact J4 e
 ·rintro⟨h,q⟩;exact⟨_,G,by simp only[h,if_true],q⟩
def KB:Wp (K7 g t e ck (d::r) σ) G R↔ck G=true/\Wp (g d σ) G λWZ G1=>Wp (t WZ) G1 λb G2=>if b=true then Wp (e WZ) G2 λy G3=>Wp (K7 g t e ck r WZ) G3 λys G4=>R (y::ys) G4 else Wp (K7 g t e ck r WZ) G2 R:=by
 have h0:Wp (K7 g t e ck (d::r) σ) G R↔ck G=true/\Wp (do
  let WZ <-g d σ
  if <-t WZ then do
   let y <-e WZ
   let ys <-K7 g t e ck r WZ
   pure (y::ys)
  else K7 g t e ck r WZ:M (List D)) G R:=by
  rw[K7];constructor
  · rintro⟨a,G',e,q⟩;by_cases h:ck G=true
    ·simp only[h,if_true]at e;exact⟨h,a,G',e,q⟩
    ·simp only[h]at e;exact J4 e
  ·rintro⟨h,a,G',e,q⟩;exact⟨a,G',by simp only[h,if_true];exact e,q⟩
 rw[h0];simp only[j7,pA,wp_pure]
def wp_comp:Wp (J3 it caps g t e σ) G Q↔Wp (it σ) G λs G1=>s.items.length<=zq/\Wp (K7 g t e s.ck s.items (T9 caps σ)) G1 λys G2=>Q (.ref G2.length) (G2++[.lst ys]):=by
 unfold J3;simp only[j7];constructor
 · rintro⟨s,G1,e1,q⟩;refine⟨s,G1,e1,?_⟩;by_cases h:s.items.length<=zq
   ·rw[if_pos h]at q;simp only[j7,oD,R8]at q;exact⟨h,q⟩
   ·rw[if_neg h]at q;exact(TB.mp q).elim
 ·rintro⟨s,G1,e1,h,q⟩;refine⟨s,G1,e1,?_⟩;dsimp only;rw[if_pos h];simp only[j7,oD,R8];exact q
theorem aC(Gn:ck G=true)(S:DSt->Prop):∀items σ,S σ->
 (∀d∈items,∀ σ,S σ->∃ WZ,g d σ G=some (.ok WZ,G)/\S WZ/\t WZ G=some (.ok (p d),G)/\e WZ G=some (.ok d,G))->K7 g t e ck items σ G=some (.ok (items.filter p),G)
 |[],σ,_,_=>by unfold K7;simp only[Gn,if_true,List.filter_nil]
 |d::r,σ,i,h=>by
   obtain⟨WZ,h1,i1,h2,h3⟩:=h d (by simp) σ i;have h4:=aC Gn S r WZ i1 λd hd=>h d (by simp[hd]);unfold K7;simp only[Gn,if_true];rw[M.bind_ok h1,M.bind_ok h2];by_cases hp:p d=true
   ·rw[if_pos hp,M.bind_ok h3,M.bind_ok h4,Yg hp];rfl
   ·rw[if_neg hp,h4,Yh hp]
def bi:Wp (eqD (.str a) (.str b)) G Q↔Q (.bl (a==b)) G:=by
 have e:eqN 40 G (.str a) (.str b)=some (a==b):=by rfl
 rw[dC,e];exact O9
def NU:Wp (leD (.str a) (.str b)) G Q↔Q (.bl (!decide (b.cps.toList<a.cps.toList))) G:=wp_pure
def mh(h:a.length+b.length<=zq):Wp (V8 (.str a) (.str b)) G Q↔Q (.str (a++b)) G:=by have e:V8 (.str a) (.str b)=if a.length+b.length<=zq then pure (.str (a++b))else M.stuck:=rfl;rw[e,if_pos h];exact wp_pure
def BI(h:z.length<=zq):Wp (N1 [.str z]) G Q↔Q (.int z.length) G:=by have e:N1 [.str z]=if z.length<=zq then pure (.int z.length)else M.stuck:=rfl;rw[e,if_pos h];exact wp_pure
def UI:Wp (uA x y) G Q↔∃k,inB x y G=some k/\Q (.bl (!k)) G:=wE (by unfold uA tL;cases inB x y G<;>rfl)
def NC:Wp (inD x y) G Q↔∃k,inB x y G=some k/\Q (.bl k) G:=wE (by unfold inD tL;cases inB x y G<;>rfl)
def aq(e:G[p]? =some (.lst l)):Wp (II (.ref p)) G R↔R ⟨l,ckO p (.lst l)⟩ G:=rK (σ:= []) e
def RA(c:Nat):Bool:=decide (97<=c)&&decide (c<=122)
def OJ(z:Str):Bool:=z.cps.toList.all RA
def Px(c:Nat):(!decide ((⟨#[c]⟩:Str).cps.toList<("a" :Str).cps.toList))=decide (97<=c):=by
 have e:("a" :Str).cps.toList= [97]:=by rfl
 rw[e];show (!decide ([c] < [97]))=_;by_cases h:97<=c
 · have:¬c<97:=by lia
   simp[h,Zo,this]
 · have:c<97:=by lia
   simp[h,Zo,this]
def LY(c:Nat):(!decide (("z" :Str).cps.toList<(⟨#[c]⟩:Str).cps.toList))=decide (c<=122):=by
 have e:("z" :Str).cps.toList= [122]:=by rfl
 rw[e];show (!decide ([122] < [c]))=_;by_cases h:c<=122
 · have:¬122<c:=by lia
   simp[h,Zo,this]
 · have:122<c:=by lia
   simp[h,Zo,this]
end W
namespace DL
open PySem PySem.Spec L2
open PyProof.Rows hiding St
def uh:XX (.type "list_reverseiterator") "__len__" =pure none:=by rw[ZR,xH];kernel_rfl
def Mb:XX (.type "list_reverseiterator") "__length_hint__" =pure (some (.builtin "list_reverseiterator.__length_hint__")):=by rw[ZR,xH];kernel_rfl
def Pm(hT:s.TypeIs (.ref I) "list_reverseiterator")(h:Q false s):zw (zG prog w) A (xj (.ref I)) Q E s:=by
 unfold xj;refine za (wpAny_specialOf hT uh ?_);show zw _ A (specialOf (Value.ref I) (jp "__length_hint__") >>= _) _ _ _;refine za (wpAny_specialOf hT Mb ?_);generalize hid:("list_reverseiterator.__length_hint__" :String)=id0
 wp_delta
 rw[show splitId id0=some ("list_reverseiterator", "__length_hint__")from by subst hid;decide +kernel];subst hid;refine za (Zz (b:=true) hT (by rw[Zr];kernel_rfl) ?_);refine zi ?_;exact h
def Hj(hh:A.handled=none)(hI:s.heap.IsRevIter I l ((items.size:Int)-1))(hl:s.heap.IsList l items)(Et:l≠I)(S:Addr)(hSI:S≠I)(hSl:S≠l)(res:zk)(c₀:Nat)(hS:s.heap.get? S=some {cls:=.type "list",data:=.seq #[] c₀})
 (hR:∀h' tk Ej c',(∀b o,b≠S->b≠I->s.heap.get? b=some o->h'.get? b=some o)->h'.get? S=some {cls:=.type "list",dict:=none,data:=.seq Ej c',slots:= #[]}->ItemsOf (λi v=>items[items.size-1-i]? =some v) Ej items.size->R (.ok (.ret res)) {s with heap:=h',toks:=tk}) (hn:items.size<=zq):
 zw (zG prog w) A.in1 (jV (.ref S) (.ref I) res)
  (λfin s'=>match fin with| .done f=>R (.ok f) s'| .again c'=>c'.quiet=true/\Zs (zG prog w) A c' R s') (λe s'=>R (.error e) s') s:=by
 have hSf:S∉ [I,l]:=by simp only[zy,jg,or_false,not_or];exact⟨hSI,hSl⟩
 have W:=Walks.listRev (prog:=prog) (w:=w) (A:=A.in1) hh I l Et items;have st:(0<=items.size/\s.heap.IsRevIter I l ((items.size:Int)-1-((0:Nat):Int))/\s.heap.IsList l items):=⟨zY _,by simpa using hI,hl⟩;unfold jV;refine za (xX hI.typeIs ?_);have h1:xF (.ref S) (.ref I)=false:=by simp[xF,hSI]
 rw[if_neg (by rw[h1];decide)];refine za (wpAny_pyIter_revIter hI ?_);refine za (jB (Pm hI.typeIs ?_));refine zR (λhab=>absurd hab (by decide)) (λ_=>?_);refine zi ⟨yc ZM _,codeAny_extend_loopS W.toS hn S hSf res items.size 0 _ #[] c₀ rfl (zY _) st hS (ItemsOf.nil _) λs' Ej c' hm Ex Fa=>?_⟩;rw[Moved.eq_with hm];refine hR s'.heap s'.toks Ej c' (λb o hb hbI e=>hm.heap b o (λhmem=>?_) e) Ex Fa;rcases zy.mp hmem with e'|hmem
 ·exact hb e'
 ·exact hbI (zB.mp hmem)
def qo(hh:A.handled=none)(hI:s.heap.IsRevIter I l ((items.size:Int)-1))(hl:s.heap.IsList l items)(Et:l≠I)(S:Addr)(hSI:S≠I)(hSl:S≠l)(hS:s.heap.get? S=some {cls:=.type "list",data:=.seq #[]})
 (hR:∀h' tk Ej c',(∀b o,b≠S->b≠I->s.heap.get? b=some o->h'.get? b=some o)->h'.get? S=some {cls:=.type "list",dict:=none,data:=.seq Ej c',slots:= #[]}->ItemsOf (λi v=>items[items.size-1-i]? =some v) Ej items.size->R (.ok (.ret .none)) {s with heap:=h',toks:=tk}) (hn:items.size<=zq):
 zw (zG prog w) A.in1 (yg.«list.__init__» ⟨[.ref S,.ref I], []⟩)
  (λfin s'=>match fin with| .done f=>R (.ok f) s'| .again c'=>c'.quiet=true/\Zs (zG prog w) A c' R s') (λe s'=>R (.error e) s') s:=by
 show zw _ _ (do let old <-XS (.ref S);Builtin.List.listUpdate (.ref S) (λ_=> #[]);letGo old.toList.reverse;jV (.ref S) (.ref I) .none) _ _ s;refine za ?_;unfold XS;refine za (yn hS rfl (zi ?_));show zw _ _ (updateSeq S (λ_=> #[]) >>= λ_=>letGo (#[]:Array zk).toList.reverse >>= λ_=>jV (.ref S) (.ref I) .none) _ _ s;refine za (Ze hS rfl ?_);have hS₂:=jP (jG (λ_=>(#[]:Array zk))) hS rfl;have oth:∀b o,b≠S->s.heap.get? b=some o->(s.heap.update S (jG (λ_=>(#[]:Array zk)))).get? b=some o:=
  λb o hb e=>(jU _ _ (Ne.symm hb)).trans e
 refine za (xR ?_);refine Hj hh (hI.at λo e=>oth I o (Ne.symm hSI) e) (hl.at λo e=>oth l o (Ne.symm hSl) e) Et S hSI hSl .none _ hS₂ (λh' tk Ej c' hk Ex Fa=>?_) hn;exact hR h' tk Ej c' (λb o hb hbI e=>hk b o hb hbI (oth b o hb e)) Ex Fa
def Cv(hh:A.handled=none)(hI:s.heap.IsRevIter I l ((items.size:Int)-1))(hl:s.heap.IsList l items)(Et:l≠I)(hn:items.size<=zq)
 (hQ:∀h' tk Ej c',(∀b o,b≠I->s.heap.get? b=some o->h'.get? b=some o)->h'.get? s.heap.objs.size=some {cls:=.type "list",dict:=none,data:=.seq Ej c',slots:= #[]}->ItemsOf (λi v=>items[items.size-1-i]? =some v) Ej items.size->Q (.ref s.heap.objs.size) {s with heap:=h',toks:=tk}):
 zw (zG prog w) A (call (.type "list") [.ref I]) Q E s:=by
 refine callType_codes (Q₁:=λobj W1=>obj= .ref s.heap.objs.size/\W1= {s with heap:=s.heap.push {cls:=.type "list",data:=.seq #[]}}) PySem.F.called_list (PySem.F.typeCall_list_1 _) PySem.F.entry_list_init
  (code_list_new _ ⟨rfl,rfl⟩) λobj W1 h₁=>?_
 obtain⟨rfl,rfl⟩:=h₁;have hS:(s.heap.push {cls:=.type "list",data:=.seq #[]}).get? s.heap.objs.size=some {cls:=.type "list",data:=.seq #[]}:=zt _ rfl;have hltI:I<s.heap.objs.size:=by obtain⟨_,e,_⟩:=hI;exact zu e
 have hltl:l<s.heap.objs.size:=by obtain⟨_,e,_⟩:=hl;exact zu e
 refine⟨⟨_,hS,rfl⟩,PySem.F.args_list_init_2 _ _,qo (A:=A.in1) hh (hI.at λo e=>zh _ e) (hl.at λo e=>zh _ e) Et _ (jX hltI) (jX hltl) hS (λh' tk Ej c' hk Ex Fa=>?_) hn⟩;exact⟨rfl,hQ h' tk Ej c' (λb o hbI e=>hk b o (zE (zu e)) hbI (zh _ e)) Ex Fa⟩
def QC:D->M D:=λx=>match x with
 | .ref r=>do
   let l <-N5 r >>= listOf
   M5 (.lst l.reverse)
 |_=>M.stuck
def Sj{Ef:List zk}(h:ItemsOf (λi v=>Ef.toArray[Ef.toArray.size-1-i]? =some v) Ek Ef.toArray.size):Ek.toList=Ef.reverse:=by
 have hl:Ek.toList.length=Ef.length:=by rw[zL,h.1];simp
 apply Zg;intro i;by_cases hi:i<Ef.length
 · have hi':i<Ek.size:=by rw[h.1];simpa using hi
   have hv:=h.2 i Ek[i] (xM hi');rw[List.getElem?_reverse hi,jz,xM hi',<-hv];simp
 ·rw[zT (by lia),zT (by rw[List.length_reverse];lia)]
def Nw(he:DE X Z e fa)(hc:X.calm=true)(hg1:Gl X "list")(hm1:X.mg "list" =none)(hg2:Gl X "reversed")(hm2:X.mg "reversed" =none)
 (hs1:zW [Expr.Call (.Name "reversed" p2) [e] [] pos2] X.env= [(false,eval (.Call (.Name "reversed" p2) [e] [] pos2) X.env)]) (hs2:zW [e] X.env= [(false,eval e X.env)])
 (hb1:je "list" =some (.type "list"):=by first|rfl|decide +kernel) (hb2:je "reversed" =some (.type "reversed"):=by first|rfl|decide +kernel):
 DE X Z (.Call (.Name "list" p1) [.Call (.Name "reversed" p2) [e] [] pos2] [] pos1) (unE QC fa):=by
 refine⟨?_⟩;intro Ee s σ H Q I Eh;refine Eh.elim λX9 μ G sr h p=>?_;refine Call_ (E7 I hg1 hm1 hb1 (yE ?_ hs1 rfl));rw[hs1];refine xm (Call_ (E7 I hg2 hm2 hb2 (yE ?_ hs2 rfl)));rw[hs2];refine xm (thn (he.h Ee s σ H _ I ⟨X9,μ,G,sr,h,(c7.bind p).mono λd X0 G1 H1 x1 h1 p1 v rv=>(⟨d,X0,G1,rv,h1,p1⟩:AF (wc X) Z QC v H1 Q)⟩) λv s1 ⟨x,H1,I1,r1,d,X0,G1,rd,h1,p1⟩=>?_);refine xz ?_;rcases d with _|_|_|_|_|r|_|_<;>try (exact p1.elim;done)
 ·
   obtain⟨l,a,vs,rfl,rl,hq,p2⟩:=kC h1 rd p1
   cases r1
   obtain⟨Ef,rr,ht,hz⟩:=I1.list hq;refine call_reversed_list ht.isList ?_;refine xz ?_;have Eo:a<s1.heap.objs.size:=by obtain⟨_,e,_⟩:=ht.isList;exact zu e
   have hI:(s1.heap.push (revObj a ((Ef.toArray.size:Int)-1))).IsRevIter s1.heap.objs.size a ((Ef.toArray.size:Int)-1):=⟨_,zt _ rfl,rfl,rfl⟩;refine Cv (I.ok.hd hc) hI (ht.isList.push _) (zE Eo) (by rw[zo,<-rr.length];exact hz) λh' tk Ej c' hk Ex Fa=>?_;have e2:=Sj Fa;have hD:s1.heap.objs.size<=(s1.heap.push (revObj a ((Ef.toArray.size:Int)-1))).objs.size:=by rw[yw];exact Nat.le_succ _
   have hf:=I1.hok.fresh hD;have hS2:h'.get? (s1.heap.push (revObj a ((Ef.toArray.size:Int)-1))).objs.size=some {cls:=.type "list",data:=.seq Ef.reverse.toArray c'}:=by rw[Ex,<-e2,Zv]
   exact⟨.ref _,upd H1 _ (.lst vs.reverse),I1.laid (λb u q=>hk b u (zE (zu q)) (zh _ q)) hD ⟨by rw[List.length_reverse];exact hz,Ef.reverse,c',rr.reverse,hS2⟩,rfl,U9 h1 rl.reverse p2 _ hf⟩
end DL
namespace DL
open PySem PySem.Spec L2 Builtin Builtin.Str
open PyProof.Rows hiding St
section
variable{X:Cx}{Z:XC}{e:Expr}{fa:Fe}{p2 pos:Pos}{lo hi:Option Expr}{fl fh:Fo}
def DR(p:IsPart v o):∃l:Option (Int×Tok),v=partValue l/\l.map (·.1)=o:=by
 cases p with
 |none=>exact⟨none,rfl,rfl⟩
 |int i t=>exact⟨some (i,t),rfl,rfl⟩
def ki:SlR X (λx lo hi H Q=>∃z,x= .str z/\z.length<=zq/\Q (.str (Txt.slice z lo hi)) H):=by
 intro Ee s σ H x v vl vu lo hi sl Q I rx hs pl pu h;obtain⟨z,rfl,hz,q⟩:=h;obtain⟨t,rfl⟩:=rx;obtain⟨l,el,eml⟩:=DR pl;obtain⟨u,eu,emu⟩:=DR pu;subst el eu eml emu;refine⟨"str",_,PySem.F.slot_str_getitem.lookup,typeIs_str _ z t,?_⟩;refine wpAny_getItem_str_slice (st:=none) (let ⟨o,h1,h2,h3⟩:=hs;⟨o,h1,h2,h3⟩) rfl ?_;unfold sliceMade;unfold Txt.slice at q;unfold slicePicked;have e1:((Option.map (λx:Int×Tok=>x.1) none).getD 1)= (1:Int):=rfl;simp only[e1];by_cases hc:((1:Int)==1&&(strSliceIndices (l.map (·.1)) (u.map (·.1)) 1 z.length).length==z.length)=true
 ·rw[if_pos hc]at q;rw[if_pos hc];exact⟨.str z,H,I,⟨t,rfl⟩,q⟩
 ·rw[if_neg hc]at q;rw[if_neg hc];refine⟨?_,.str _,H,I.tok _,⟨_,rfl⟩,q⟩;have hle:=Txt.slice_le z (l.map (·.1)) (u.map (·.1));unfold Txt.slice at hle;rw[if_neg hc]at hle;exact zK hle hz
def slT:D->Option Int->Option Int->M D:=λx lo hi=>match x with
 | .str z=>if z.length<=zq then pure (.str (Txt.slice z lo hi))else M.stuck
 | .tup l=>slD (.tup l) lo hi
 | .ref r=>slD (.ref r) lo hi
 |_=>M.stuck
def B8(f:Fe)(lo hi:Fo):Fe:=λσ=>do
 let x <-f σ
 let l <-lo σ
 let h <-hi σ
 slT x l h
def Cf:SlD X Z slT:=SlR.mono (ki.or (qv)) λx lo hi H Q ⟨dx,μ,G,rx,hr,p⟩=>by
 rcases dx with _|_|_|z|l|r|_|_<;>try (exact p.elim;done)
 ·
   unfold slT at p;dsimp only at p;split at p
   ·rename_i hz;exact .inl ⟨z,D3 rx,hz,c7.ok p hr _ (by unfold d8;rfl)⟩
   ·exact p.elim
 ·exact .inr ⟨.tup l,μ,G,rx,hr,p⟩
 ·exact .inr ⟨.ref r,μ,G,rx,hr,p⟩
def cw(he:DE X Z e fa)(hl:DOp X Z lo fl)(hu:DOp X Z hi fh):DE X Z (.Subscript e (.Slice lo hi none p2) pos) (B8 fa fl fh):=
 DE.of (Vm Cf he.h hl.h hu.h) λσ H Q Eh=>Eh.elim λX9 μ G s h p=>⟨X9,μ,G,s,h,(c7.bind p).mono λd X0 G1 H1 x1 h1 p1 v rv=>
  ⟨X9,X0,G1,s.mono x1,h1,(c7.bind p1).mono λl WY G2 H2 x2 h2 p2=>⟨X9,WY,G2,s.mono (x1.trans x2),h2,(c7.bind p2).mono λu WN G3 H3 x3 h3 p3=>⟨d,WN,G3,rv.mono (x2.trans x3),h3,p3⟩⟩⟩⟩
end
end DL
namespace W
open PySem PySem.Spec L2 DL Builtin Builtin.Str
open PyProof.Rows hiding St
def TY{lo hi:Fo}:Wp (B8 f lo hi σ) G Q↔Wp (f σ) G λx G1=>Wp (lo σ) G1 λl G2=>Wp (hi σ) G2 λh G3=>Wp (slT x l h) G3 Q:=by unfold B8;simp only[j7]
def kZ(e:G[r]? =some (.lst l)):Wp (QC (.ref r)) G Q↔Q (.ref G.length) (G++[.lst l.reverse]):=by
 have h:QC (.ref r)= (do
  let l <-N5 r >>= DL.listOf
  M5 (.lst l.reverse)):=rfl
 rw[h];simp only[j7,N6,e,O9,DL.listOf,wp_pure,R8]
end W
namespace DL
open PySem PySem.Spec L2
open PyProof.Rows hiding St
def F2:D->D->M D:=λx y=>match y with
 | .non=>pure (.bl (kM x))
 | .bl c=>match x with
   | .bl d=>pure (.bl (d==c))
   |_=>M.stuck
 |_=>M.stuck
def n4:D->D->M D:=λx y=>match y with
 | .non=>pure (.bl (!kM x))
 | .bl c=>match x with
   | .bl d=>pure (.bl (d != c))
   |_=>M.stuck
 |_=>M.stuck
def y7(a b:Fe):Fe:=λσ=>do
 let x <-a σ
 if <-F5 x then pure x else b σ
def T4(a b:Fe):Fe:=λσ=>do
 let x <-a σ
 if <-F5 x then b σ else pure x
def Vf:OpR X (zZ .Is) (λx y H Q=>(y= .non/\Q (.bl (decide (x= .non))) H)\/∃c d,x= .bl c/\y= .bl d/\Q (.bl (c==d)) H):=by
 intro Ee s σ H x y v u Q I rx ry h;rcases h with h|⟨c,d,rfl,rfl,q⟩
 ·exact Nv Ee s σ H x y v u Q I rx ry h
 · cases rx
   cases ry
   exact is_bool ⟨.bl (c==d),H,I,rfl,q⟩
def Dt:OpR X (zZ .IsNot) (λx y H Q=>(y= .non/\Q (.bl (!decide (x= .non))) H)\/∃c d,x= .bl c/\y= .bl d/\Q (.bl (c != d)) H):=by
 intro Ee s σ H x y v u Q I rx ry h;rcases h with h|⟨c,d,rfl,rfl,q⟩
 ·exact Kx Ee s σ H x y v u Q I rx ry h
 · cases rx
   cases ry
   exact isnot_bool ⟨.bl (c != d),H,I,rfl,q⟩
def HY:OpD X Z (zZ .Is) F2:=OpD.of Vf λx y H Q Eh=>Eh.elim λdx dy μ G Ey Fn hr p=>by
 rcases dy with _|d|_|_|_|_|_|_<;>try (exact p.elim;done)
 ·exact .inl ⟨lF Fn,by rw[MR Ey];exact c7.ok p hr _ ofB⟩
 ·
   rcases dx with _|c|_|_|_|_|_|_<;>try (exact p.elim;done)
   ·exact .inr ⟨c,d,A8 Ey,A8 Fn,c7.ok p hr _ ofB⟩
def ix:OpD X Z (zZ .IsNot) n4:=OpD.of Dt λx y H Q Eh=>Eh.elim λdx dy μ G Ey Fn hr p=>by
 rcases dy with _|d|_|_|_|_|_|_<;>try (exact p.elim;done)
 ·exact .inl ⟨lF Fn,by rw[MR Ey];exact c7.ok p hr _ ofB⟩
 ·
   rcases dx with _|c|_|_|_|_|_|_<;>try (exact p.elim;done)
   ·exact .inr ⟨c,d,A8 Ey,A8 Fn,c7.ok p hr _ ofB⟩
def ES{G:DH}{d:D}{v:V}{f:Bool->M α}{K:α->List Addr->DH->Hp->Prop}(h:v6 (wc X) μ G H)(rv:d8 (wc X) μ H d v)(p:c7 (wc X) Z μ H ((F5 d >>= f) G) K):
 ∃k,TM X.K v H k/\c7 (wc X) Z μ H (f k G) K:=by
 have p1:=c7.bind p;rcases d with _|b|b|y|l|r|_|_<;>try (exact p1.elim;done)
 ·rw[lF rv];exact⟨false,rfl,c7.ok p1 h⟩
 ·rw[A8 rv];exact⟨b,rfl,c7.ok p1 h⟩
 ·rw[U1 rv];exact⟨_,rfl,c7.ok p1 h⟩
 ·
   rw[D3 rv];unfold F5 at p1;dsimp only at p1;split at p1
   ·rename_i hz;exact⟨_,⟨hz,rfl⟩,c7.ok p1 h⟩
   ·exact p1.elim
 ·
   unfold d8 at rv;obtain⟨a,vs,rfl,q,rl⟩:=rv;exact⟨!vs.isEmpty,.inr (.inl ⟨vs,q,rfl⟩),by rw[PC rl];exact c7.ok p1 h⟩
 ·
   unfold d8 at rv;obtain⟨a,m,rfl⟩:=rv;obtain⟨o,g,p2⟩:=K4 p1;have ro:=h.obj r o a g m;rcases o with l|l|l|l
   ·obtain⟨vs,q,rl⟩:=ro;exact⟨!vs.isEmpty,.inl ⟨vs,SqL.of q,rfl⟩,by rw[PC rl];exact c7.ok p2 h⟩
   ·obtain⟨vs,q,rl⟩:=ro;exact⟨!vs.isEmpty,.inl ⟨vs,q.sq,rfl⟩,by rw[PC rl];exact c7.ok p2 h⟩
   ·obtain⟨vs,q,rl⟩:=ro;exact⟨!vs.isEmpty,.inr (.inr ⟨vs,q,rfl⟩),by rw[MO rl];exact c7.ok p2 h⟩
   ·exact p2.elim
def Ax{Q8:List Expr}(ha:DE X Z a fa)(hb:DE X Z (.BoolOp .Or (b::Q8) pos) fb):DE X Z (.BoolOp .Or (a::b::Q8) pos) (y7 fa fb):=by
 refine⟨?_⟩;intro Ee s σ H Q I Eh;refine Eh.elim λX9 μ G sr h p=>?_;refine BoolOp_or (thn (ha.h Ee s σ H _ I ⟨X9,μ,G,sr,h,(c7.bind p).mono λd X0 G1 H1 x1 h1 p1 v rv=>(⟨d,X0,G1,x1,rv,h1,p1⟩:∃d X0 G1,Ext μ H X0 H1/\d8 (wc X) X0 H1 d v/\v6 (wc X) X0 G1 H1/\c7 (wc X) Z X0 H1 ((F5 d >>= λk=>if k=true then pure d else fb X9) G1) λd X2 _ H'=>∀v,d8 (wc X) X2 H' d v->Q v H')⟩) λv s1 ⟨x,H1,I1,r1,d,X0,G1,x1,rd,h1,p1⟩=>?_);obtain⟨k,tk,p2⟩:=ES h1 rd p1;refine thn (IK Ee s1 σ H1 x v (λc H'=>c=k/\H'=H1) I1 r1 ⟨k,tk,rfl,rfl⟩) λc s2 ⟨H2,I2,e1,e2⟩=>?_;subst e1 e2;rcases c with _|_
 ·exact hb.h Ee s2 σ H2 Q I2 ⟨X9,X0,G1,sr.mono x1,h1,p2⟩
 ·exact⟨x,H2,I2,r1,c7.ok p2 h1 _ rd⟩
def SY{Q8:List Expr}(ha:DE X Z a fa)(hb:DE X Z (.BoolOp .And (b::Q8) pos) fb):DE X Z (.BoolOp .And (a::b::Q8) pos) (T4 fa fb):=by
 refine⟨?_⟩;intro Ee s σ H Q I Eh;refine Eh.elim λX9 μ G sr h p=>?_;refine BoolOp_and (thn (ha.h Ee s σ H _ I ⟨X9,μ,G,sr,h,(c7.bind p).mono λd X0 G1 H1 x1 h1 p1 v rv=>(⟨d,X0,G1,x1,rv,h1,p1⟩:∃d X0 G1,Ext μ H X0 H1/\d8 (wc X) X0 H1 d v/\v6 (wc X) X0 G1 H1/\c7 (wc X) Z X0 H1 ((F5 d >>= λk=>if k=true then fb X9 else pure d) G1) λd X2 _ H'=>∀v,d8 (wc X) X2 H' d v->Q v H')⟩) λv s1 ⟨x,H1,I1,r1,d,X0,G1,x1,rd,h1,p1⟩=>?_);obtain⟨k,tk,p2⟩:=ES h1 rd p1;refine thn (IK Ee s1 σ H1 x v (λc H'=>c=k/\H'=H1) I1 r1 ⟨k,tk,rfl,rfl⟩) λc s2 ⟨H2,I2,e1,e2⟩=>?_;subst e1 e2;rcases c with _|_
 ·exact⟨x,H2,I2,r1,c7.ok p2 h1 _ rd⟩
 ·exact hb.h Ee s2 σ H2 Q I2 ⟨X9,X0,G1,sr.mono x1,h1,p2⟩
end DL
namespace W
open PySem PySem.Spec L2 DL
open PyProof.Rows hiding St
def uL:Wp (y7 a b σ) G Q↔Wp (a σ) G λx G1=>Wp (F5 x) G1 λk G2=>if k=true then Q x G2 else Wp (b σ) G2 Q:=by unfold y7;simp only[j7,pA,wp_pure]
def uC:Wp (T4 a b σ) G Q↔Wp (a σ) G λx G1=>Wp (F5 x) G1 λk G2=>if k=true then Wp (b σ) G2 Q else Q x G2:=by unfold T4;simp only[j7,pA,wp_pure]
end W
namespace DL
open PySem PySem.Spec L2
open PyProof.Rows hiding St
structure pB(F:List D->M D)(n:Nat)(x:Str)(P:jh)(w:jq)(K:zn)(mg:Str->Option zk)(base:Heap)(k:Nat):Prop where
 ex:∃f fd ps,u3 P w K mg base CX0 k f fd ps (spD ⟨K,mg⟩ n F)/\mg x=some (.ref f)/\yD K (.ref f)=true/\D7 K fd ps []
def pB.of{P:jh}{w:jq}{K:zn}{base:Heap}{k n:Nat}{x:Str}{st:Stmt}{f:Addr}(c:FF K mg x st ps f fd)(h:u3 P w K mg base CX0 k f fd ps (spD ⟨K,mg⟩ n F)):pB F n x P w K mg base k:=
 ⟨f,fd,ps,h,c.m,c.F.kp,c.b⟩
def bltL:List Str:= ["len", "isinstance", "all", "any", "sum", "min", "max", "abs", "sorted", "tuple", "list", "int", "str", "bool", "dict", "zip", "enumerate", "range", "reversed", "set"]
structure BLs(mg:Str->Option zk):Prop where
 h:∀b∈bltL,mg b=none
def LF:(xi p l).any (·.1)=l.any (·.1):=by unfold xi;rw[ZJ];rfl
theorem MC:∀ {es},es.all S6=true->(zW es env).any (·.1)=false
 |[],_=>rfl
 |e::es,h=>by rw[yt,jk]at h;rw[b9 h.1,yr,MC h.2];rfl
def NY(hN:∃N ps sc,L7 N ps sc/\X.N=N)(hi:X.N[i]? =some x)(hx:Loc X.env.scope x)(hf:X.fn x=true\/X.env.scope.names.lookup x=some .local):DG X Z (.Name x pos) (d6 i):=by obtain⟨N,ps,sc,S,e⟩:=hN;exact PP (by rw[e];exact S.nd) hi hx hf
def Ag(ha:DE X Z e fa)(hr:DA X Z es fs)(hs:S6 e=true):DA X Z (e::es) (B1 fa fs):=GJ ha hr (b9 hs)
def Ce(hF:∃k kk,pB F n x X.prog X.w X.K X.mg X.base k/\V7 kk X.A/\k<=kk)(hg:Gl X x)(ha:DA X Z (e::es) fs)(hdb:(x==("__debug__" :Str))=false)(hs:(e::es).all S6=true):
 DE X Z (.Call (.Name x p) (e::es) [] pos) (T2 (fnX n F) fs):=by
 obtain⟨k,kk,hF,hr,hk⟩:=hF;obtain⟨f,fd,ps,h1,h2,h3,h4⟩:=hF.ex;rw[yt,jk]at hs;exact ph h1 (hr.mono hk) hg h2 h3 h4 ha hdb (b9 hs.1) (by rw[LF];exact MC hs.2)
structure BD(F:List D->M D)(x:Str)(X:Cx)(Z:XC):Prop where
 ex:(∃id,X8 X Z (.builtin id) F/\je x=some (.builtin id))\/(∃T,X8 X Z (.type T) F/\je x=some (.type T))
def ip(hc:X.calm=true)(hF:X.calm=true->BD F x X Z)(hb:BLs X.mg)(hx:bltL.elem x=true)(hg:Gl X x)(ha:DA X Z (e::es) fs)(hn:x≠ "__name__")(hdb:(x==("__debug__" :Str))=false)(hs:(e::es).all S6=true):
 DE X Z (.Call (.Name x p) (e::es) [] pos) (T2 F fs):=by
 have hm:=hb.h x (List.elem_iff.mp hx);rw[yt,jk]at hs;rcases (hF hc).ex with⟨id,h1,h2⟩|⟨T,h1,h2⟩
 ·exact Sv h1 hg hm h2 ha hn hdb (b9 hs.1) (by rw[LF];exact MC hs.2)
 ·exact lZ h1 hg hm h2 ha hn hdb (b9 hs.1) (by rw[LF];exact MC hs.2)
def OW(_:X.calm=true):BD N1 "len" X Z:=⟨.inl ⟨_,kh,TX⟩⟩
def Fw(_:X.calm=true):BD O7 "isinstance" X Z:=⟨.inl ⟨_,Cl,vd⟩⟩
def Gv(h:X.calm=true):BD P2 "all" X Z:=⟨.inl ⟨_,Bv h,qb⟩⟩
def Sh(h:X.calm=true):BD iB "any" X Z:=⟨.inl ⟨_,Du h,uV⟩⟩
def Ng(h:X.calm=true):BD lI "max" X Z:=⟨.inl ⟨_,Cd h,IS⟩⟩
def Bw(_:X.calm=true):BD UC "abs" X Z:=⟨.inl ⟨_,qg,pw⟩⟩
def vm(_:X.calm=true):BD O3 "tuple" X Z:=⟨.inr ⟨_,bX,ko⟩⟩
def ub(_:X.calm=true):BD GB "list" X Z:=⟨.inr ⟨_,SX,Sz⟩⟩
def Rk(_:X.calm=true):BD eB "int" X Z:=⟨.inr ⟨_,nu,GY⟩⟩
def Lb:∀n∈ ["int", "bool", "str", "tuple", "list", "dict"],je (jp n)=some (.type n):=by decide +kernel
def pW(hb:BLs X.mg)(hn:n∈ ["int", "bool", "str", "tuple", "list", "dict"])(hx:bltL.elem (jp n)=true)(hg:Gl X (jp n))(hnn:jp n≠ "__name__")(hd:(jp n==("__debug__" :Str))=false):DE X Z (.Name (jp n) pos) (cE (.ty n)):=
 PV hg (hb.h _ (List.elem_iff.mp hx)) (Lb n hn) hnn hd
def oY(he:DE X Z e fa)(hc:X.calm=true)(hb:BLs X.mg)(hg1:Gl X "list")(hg2:Gl X "reversed")(hs:S6 e=true):DE X Z (.Call (.Name "list" p1) [.Call (.Name "reversed" p2) [e] [] pos2] [] pos1) (unE QC fa):=
 Nw he hc hg1 (hb.h _ (by decide +kernel)) hg2 (hb.h _ (by decide +kernel)) (P8 rfl) (P8 hs)
def kg(hb:BLs X.mg)(hg:Gl X "range")(ha:DA X Z [a] fs)(hs:S6 a=true):DI X Z tg (.Call (.Name "range" p) [a] [] pos) (W5 fs):=Ld hg (hb.h _ (by decide +kernel)) ha (P8 hs)
def PY(hb:BLs X.mg)(hg:Gl X "zip")(ha:DA X Z [a,b] fs)(hs:S6 a=true)(hs2:S6 b=true):DI X Z (.Tuple Fy x1 tp) (.Call (.Name "zip" p) [a,b] [] pos) (OA fs):=Di hg (hb.h _ (by decide +kernel)) ha (Hv hs hs2) (P8 hs2) oz
def a8(sc:Scope):List Str:=(sc.names.filterMap λy=>if y.2 == .local&&y.1 != (".0" :Str)then some y.1 else none)++(sc.names.filterMap λy=>if y.2 == .free then some y.1 else none)
def Md(hc:X.calm=true)(hi:DI X Z tg iter it)(k:∃XN ps osc,L7 XN ps osc/\X.env.scope=osc/\X.N=XN/\qJ osc scope (a8 scope) XN caps=true)(nd:(a8 scope).Nodup)
 (hg:(a8 scope).Nodup->∀C s H ex,DG (T8 X scope (a8 scope) C s H ex) ZF tg gg) (ht:∀C s H ex,DTs (T8 X scope (a8 scope) C s H ex) ZF ifs tt) (he:∀C s H ex,DE (T8 X scope (a8 scope) C s H ex) ZF elt fe)
 (hf:∀x,xc iter X.env x=pure x):DE X Z (.ListComp elt [⟨tg,iter,ifs,0⟩] scope pos) (J3 it caps gg tt fe):=let ⟨_,_,_,_,hs,hN,k⟩:=k;rh hc hi (F6.of k hs hN) (hg nd) ht he hf
def Pd(hc:X.calm=true)(hi:DI X Z tg iter it)(k:∃XN ps osc,L7 XN ps osc/\X.env.scope=osc/\X.N=XN/\qJ osc scope (a8 scope) XN caps=true)(nd:(a8 scope).Nodup)
 (hg:(a8 scope).Nodup->∀C s H ex,DG (T8 X scope (a8 scope) C s H ex) ZF tg gg) (ht:∀C s H ex,DTs (T8 X scope (a8 scope) C s H ex) ZF ifs tt) (he:∀C s H ex,DE (T8 X scope (a8 scope) C s H ex) ZF elt fe)
 (hf:∀x,xc iter X.env x=pure x) (hgo:DG X Z (.Name y py) g2) (hsw:swapsWith (.ListComp elt [⟨tg,iter,ifs,0⟩] scope pos) (some (.Name y py)) spos.line X.env=pure true):
 DS X Z (.Assign [.Name y py] (.ListComp elt [⟨tg,iter,ifs,0⟩] scope pos) spos) (M8 (J3 it caps gg tt fe) g2):=let ⟨_,_,_,_,hs,hN,k⟩:=k;BZ hc hi (F6.of k hs hN) (hg nd) ht he hf hgo hsw
end DL
namespace W
open PySem PySem.Spec L2 DL
open PyProof.Rows hiding St
end W
namespace DL
open PySem PySem.Spec L2
open PyProof.Rows hiding St
def Itd(a:Addr)(o:Obj)(Eg:List (Key×V)):It:=
 ⟨λi H=>H a=some (.frz o (.dK Eg))/\∃kv,Eg[i]? =some kv,λi H x H'=>H'=H/\∃kv,Eg[i]? =some kv/\x=kV kv.1,λi H=>H a=some (.frz o (.dK Eg))/\Eg.length<=i⟩
theorem wT:∀ {Eg} {vs} {i:Nat} {kv:κ×V},KV Eg vs->Eg[i]? =some kv->∃v,vs[i]? =some (kv.1,v)
 |_,_,_,_,.nil,e=>by simp at e
 |_,_,0,_,.cons h t,e=>by simp only[zI,zN]at e;subst e;exact⟨_,by rw[zI,h.1]⟩
 |_,_,i+1,_,.cons h t,e=>by simp only[ja]at e ⊢;exact wT t e
def Fp(h:(M9 P w).is k u=true):J5 (kV k) u:=by
 rcases O5 h with⟨i,t,rfl,rfl⟩|⟨x,t,rfl,rfl⟩
 ·exact⟨t,rfl⟩
 ·exact⟨t,rfl⟩
def wN(I:Inv X Ee σ H s)(ho:o.data= .dict es ep)(e:H a=some (.frz o (.dK Eg))):
 (a==yT)=false/\∃vs,KV Eg vs/\s.heap.DictAt (M9 X.prog X.w) a vs ep:=by
 obtain⟨hget,hz,hS,vs,r,m⟩:=(show U5 X.prog X.w H s.heap a (.frz o (.dK Eg))from I.hok a _ e);obtain⟨ep',dat⟩:=m.dictAt;have hep:ep'=ep:=by
  obtain⟨o',Er,h1,_,h3,_⟩:=id dat;rw[hget]at h1
  cases h1
  rw[ho]at h3
  cases h3
  rfl
 subst hep;exact⟨hS,vs,r,dat⟩
def uP{P:jh}{w:jq}{K:zn}{tg:Expr}{a:Addr}{o:Obj}{ep:Nat}(ho:o.data= .dict es ep)(it:Addr):F9 P w K tg (Itd a o Eg) [it] it (λi h=>h.IsKeyIter it a i Eg.length ep) where
 mem:=by simp
 obj:=λi h st b hb=>by
  have e:b=it:=by simpa using hb
  subst e;obtain⟨o,e,c,d⟩:=st;exact⟨o,e,λv z=>by rw[d]at z;cases z⟩
 keep:=λi h h' st k=>let ⟨o,ho,r⟩:=st;⟨o,k it (by simp) o ho,r⟩
 item:=by intro X hP hw hK hc i Ee s σ H E I hf st hg;subst hP hw hK;obtain⟨hfr,kv,hx⟩:=hg;obtain⟨f0,f1,f2,f3,f4,f5⟩:=hf it (by simp);obtain⟨hS,vs,rel,dat⟩:=wN I ho hfr;obtain⟨v,hv⟩:=wT rel hx;have Ei:Eg.length=vs.length:=xr rel;rw[Ei]at st;refine wpAny_pyNext_dict_item st dat hv λkey h' hk Ew sb=>?_;have I1:Inv X Ee σ H {s with heap:=h'}:=I.turned (λb o hb e=>(sb.2 b hb).trans e) f0 f1 f3 f4 f5;obtain⟨o',e,cc,d⟩:=id Ew;refine⟨_,rfl,FD e cc d (by decide) ⟨kV kv.1,H,I1,Fp hk,⟨rfl,kv,hx,rfl⟩,by rw[Ei];exact Ew,λb hb=>(hf b hb).1⟩⟩
 done:=by intro X hP hw hK hc i Ee s σ H E I hf st hg;subst hP hw hK;obtain⟨hfr,hi⟩:=hg;obtain⟨f0,f1,f2,f3,f4,f5⟩:=hf it (by simp);obtain⟨hS,vs,rel,dat⟩:=wN I ho hfr;have Ei:Eg.length=vs.length:=xr rel;rw[Ei]at st hi;exact wpAny_pyNext_dict_end (I.ok.hd hc) st dat (zT hi) λh' eb=>⟨rfl,I.turned (λb o hb e=>eb b o hb e) f0 f1 f3 f4 f5⟩
 self:=λ_ _ _ _ _ st h=>wpAny_pyIter_keyiter st h
def v6.setR(h:v6 c μ G H)(g:G[i]? =some o)(n:¬E6 (some o))(m:μ[i]? =some a)(k:Ext μ H μ (upd H a u))(ho:t9 c μ (upd H a u) a o'):v6 c μ (G.set i o') (upd H a u):=by
 have hi:i<G.length:=lt_of_get g;have get:∀j,(G.set i o')[j]? =if i=j then some o' else G[j]? :=λj=>by
  rw[XH];by_cases e:i=j
  ·subst e;simp[hi]
  ·simp[e]
 refine⟨by simp[h.len],λj l b ej el=>?_,λj o2 b gj mj=>?_⟩
 · rcases h.inj j l b ej el with e|e|e
   ·exact .inl e
   · by_cases ij:i=j
     ·subst ij;rw[g]at e;exact(n e).elim
     ·right;left;rw[get,if_neg ij];exact e
   · by_cases ij:i=l
     ·subst ij;rw[g]at e;exact(n e).elim
     ·right;right;rw[get,if_neg ij];exact e
 · rw[get]at gj;by_cases ij:i=j
   · subst ij;rw[if_pos rfl]at gj
     cases gj
     rw[m]at mj
     cases mj
     exact ho
   · rw[if_neg ij]at gj;have q:=h.obj j o2 b gj mj;by_cases hr:E6 (some o2)
     ·exact q.mono k (.inr hr)
     · have nb:b≠a:=λe=>by
        subst e;rcases h.inj i j b m mj with e|e|e
        ·exact ij e
        ·rw[g]at e;exact n e
        ·rw[gj]at e;exact hr e
       exact q.mono k (.inl (J0 nb))
def Inv.freeze(I:Inv X Ee σ H s)(e:H a=some (.dK Eg))(ho:s.heap.get? a=some o):Inv X Ee σ (upd H a (.frz o (.dK Eg))) s:=by have q:U5 X.prog X.w H s.heap a (.dK Eg):=I.hok a _ e;exact I.write (by rw[e];exact trivial) (.inl rfl) (λb u _ z=>z) ⟨o,ho⟩ ⟨ho,q⟩
def iW(K:zn)(tl:TE):TI:=λσ H R=>tl σ H λx H1=>((∃z,x= .str z/\R (Its z) H1)\/(∃k a xs,x= .ref a/\Sq K k H1 a xs/\R (if k=true then Itt K a else Itl K a) H1))\/
 (∃a Eg,x= .ref a/\H1 a=some (.dK Eg)/\∀o,R (Itd a o Eg) (upd H1 a (.frz o (.dK Eg))))\/(∃a o Eg,x= .ref a/\H1 a=some (.frz o (.dK Eg))/\R (Itd a o Eg) H1)
def qe(hl:PE X e tl):PI X tg e (iW X.K tl):=by
 intro Ee s σ H R I h;refine thn (hl Ee s σ H _ I h) λv s1 Ep=>Ep.elim λx H1 I1 r1 q1=>?_;have fpo:∀b∈ [s1.heap.objs.size],N2 X Ee H1 b:=λb hb=>by
  have z:b=s1.heap.objs.size:=by simpa using hb
  subst z;exact I1.fpOk (zp _) (I1.hok.fresh (zp _))
 rcases q1 with(⟨z,rfl,q⟩|⟨k,a,xs,rfl,hq,q⟩)|⟨a,Eg,rfl,hq,q⟩|⟨a,o,Eg,rfl,hq,q⟩
 · obtain⟨t,rfl⟩:=(show ∃t,v=Value.str z t from r1);refine wpAny_pyIter_strU ?_;have I2:Inv X Ee σ H1 {s1 with heap:=s1.heap.push {cls:=.type (ZL z),data:=.fields #[.str z t,.int 0 0]}}:=I1.kept λb o z=>zh _ z;have hg:(s1.heap.push {cls:=.type (ZL z),data:=.fields #[.str z t,.int 0 0]}).get? s1.heap.objs.size=some {cls:=.type (ZL z),data:=.fields #[.str z t,.int 0 0]}:=zt _ rfl;by_cases ha:z.cps.all (· < 128)=true
   · have e:ZL z= "str_ascii_iterator":=by unfold ZL;rw[if_pos ha]
     refine⟨s1.heap.objs.size, [s1.heap.objs.size],_,_,H1,rfl,I2,Ao z t _,?_,fpo,q⟩;rw[e]at hg ⊢;exact⟨_,hg,rfl,rfl⟩
   · have e:ZL z= "str_iterator":=by unfold ZL;rw[if_neg ha]
     refine⟨s1.heap.objs.size, [s1.heap.objs.size],_,_,H1,rfl,I2,Gx z t _,?_,fpo,q⟩;rw[e]at hg ⊢;exact⟨_,hg,rfl,rfl⟩
 · cases r1
   rcases k with _|_
   ·
     obtain⟨Ef,rv,p,hz⟩:=I1.list hq;exact xJ p.isList ⟨s1.heap.objs.size, [s1.heap.objs.size],_,_,H1,rfl,I1.kept λb o z=>zh _ z,aW a _,⟨_,zt _ rfl,rfl,rfl⟩,fpo,q⟩
   ·
     obtain⟨Ef,rv,p,hz⟩:=I1.tuple hq;exact wpAny_pyIter_tuple (show s1.heap.IsTuple a Ef.toArray from p) ⟨s1.heap.objs.size, [s1.heap.objs.size],_,_,H1,rfl,I1.kept λb o z=>zh _ z,BY a _,⟨_,zt _ rfl,rfl,rfl⟩,fpo,q⟩
 · cases r1
   obtain⟨hz,hS,vs,rel,dd⟩:=aD I1.hok hq;obtain⟨ep,dat⟩:=dd.dictAt;obtain⟨o,es,h1,h2,h3,h4⟩:=id dat;have Ei:Eg.length=vs.length:=xr rel;have I2:=DL.Inv.freeze I1 hq h1;have fpo2:∀b∈ [s1.heap.objs.size],N2 X Ee (upd H1 a (.frz o (.dK Eg))) b:=λb hb=>by
    have z:b=s1.heap.objs.size:=by simpa using hb
    subst z;exact I2.fpOk (zp _) (I2.hok.fresh (zp _))
   refine wpAny_pyIter_dict hS dat ⟨s1.heap.objs.size, [s1.heap.objs.size],_,_,upd H1 a (.frz o (.dK Eg)),rfl,I2.kept λb o z=>zh _ z,uP h3 _,?_,fpo2,q o⟩;rw[Ei];exact⟨_,zt _ rfl,rfl,rfl⟩
 · cases r1
   obtain⟨hget,hz,hS,vs,rel,dd⟩:=(show U5 X.prog X.w H1 s1.heap a (.frz o (.dK Eg))from I1.hok a _ hq);obtain⟨ep,dat⟩:=dd.dictAt;obtain⟨o',es,h1,h2,h3,h4⟩:=id dat;rw[hget]at h1
   cases h1
   have Ei:Eg.length=vs.length:=xr rel;refine wpAny_pyIter_dict hS dat ⟨s1.heap.objs.size, [s1.heap.objs.size],_,_,H1,rfl,I1.kept λb o z=>zh _ z,uP h3 _,?_,fpo,q⟩;rw[Ei];exact⟨_,zt _ rfl,rfl,rfl⟩
def KK:Key->D
 | .inl i=>.int i
 | .inr x=>.str x
def lE(l:List (Key×D)):List D:=l.map λkv=>KK kv.1
def aF:D->M Src:=λx=>match x with
 | .ref r=>do
   match <-N5 r with
   | .dct l=>do
     let _ <-F7 r (.rod l)
     pure ⟨lE l,λ_=>true⟩
   | .rod l=>pure ⟨lE l,λ_=>true⟩
   |_=>II (.ref r)
 |d=>II d
def itW(f:Fe):DSt->M Src:=λσ=>do aF (<-f σ)
def UJ{v:V}{R:It->Hp->Prop}(h1:v6 (wc X) X0 G1 H1)(rv:d8 (wc X) X0 H1 d v)(p1:c7 (wc X) Z X0 H1 (II d G1) λs X2 _ H'=>∀J,ItD (wc X) X2 H' J s->R J H'):
 (∃z,v= .str z/\R (Its z) H1)\/(∃k a xs,v= .ref a/\Sq X.K k H1 a xs/\R (if k=true then Itt X.K a else Itl X.K a) H1):=by
 have main:∀dd:D,(∀z,dd≠ .str z)->d8 (wc X) X0 H1 dd v->c7 (wc X) Z X0 H1 (t4 dd G1) (λs X2 _ H'=>∀J,ItD (wc X) X2 H' J s->R J H')->(∃z,v= .str z/\R (Its z) H1)\/(∃k a xs,v= .ref a/\Sq X.K k H1 a xs/\R (if k=true then Itt X.K a else Itl X.K a) H1):=by
  intro dd _ rv p1;have p1':c7 (wc X) Z X0 H1 ((t4 dd >>= λs=>(pure s:M Src)) G1) λs X2 _ H'=>∀J,ItD (wc X) X2 H' J s->R J H':=by
   have e:(t4 dd >>= λs=>(pure s:M Src))=t4 dd:=by
    funext G;rw[M.bind_eq];rcases t4 dd G with _|q
    ·rfl
    ·obtain⟨r,G'⟩:=q;cases r<;>rfl
   rw[e];exact p1
  obtain⟨sr,k,a,vs,rfl,q,rl,is,ck,_,p2⟩:=aK h1 rv p1';refine .inr ⟨k,a,vs,rfl,q,c7.ok p2 h1 _ λX2 G' H' x' h' ck' i=>?_⟩;obtain⟨Ft,q',Eu⟩:=is X2 G' H' x' h' ck';refine⟨λd hd=>?_,λhi=>?_⟩
  · obtain⟨y,hy,ry⟩:=Eu.get hd
    cases k with
    |true=>
      rw[if_pos rfl];exact⟨⟨Ft,y,q',hy⟩,λx H2 ⟨e1,e2⟩=>by subst e1;exact⟨Ext.refl _ _,h',GR Eu hd (e2 Ft q')⟩⟩
    |false=>
      rw[if_neg jm];exact⟨⟨Ft,y,q',hy⟩,λx H2 ⟨e1,e2⟩=>by subst e1;exact⟨Ext.refl _ _,h',GR Eu hd (e2 Ft q')⟩⟩
  · cases k with
    |true=>rw[if_pos rfl];exact⟨Ft,q',by rw[<-Eu.length];exact hi⟩
    |false=>rw[if_neg jm];exact⟨Ft,q',by rw[<-Eu.length];exact hi⟩
 cases d with
 |str z=>
   refine .inl ⟨z,D3 rv,c7.ok p1 h1 _ λX2 G' H' x' h' ck' i=>⟨λd hd=>?_,λhi=>?_⟩⟩
   · simp only[E9,zU]at hd
     cases hc:z.cps.toList[i]? with
     |none=>rw[hc]at hd;cases hd
     |some c=>
       rw[hc]at hd
       cases hd
       have hc':z.cps[i]? =some c:=by rw[<-jz];exact hc
       exact⟨⟨c,hc'⟩,λx H2 ⟨e1,c2,e2,e3⟩=>by
        subst e1;rw[hc']at e2
        cases e2
        exact⟨Ext.refl _ _,h',by rw[e3];unfold d8;rfl⟩⟩
   ·simp only[E9,zg]at hi;show z.cps[i]? =none;rw[<-jz];exact zT hi
 |tup l=>exact main (.tup l) (λz q=>nomatch q) rv p1
 |ref r=>exact main (.ref r) (λz q=>nomatch q) rv p1
 |_=>exact p1.elim
theorem AO{H:Hp}:∀ {l} {Eg} {i:Nat} {kd},Z6 c μ H l Eg->l[i]? =some kd->∃v,Eg[i]? =some (kd.1,v)
 |[],_,_,_,_,e=>by simp at e
 |(k,d)::r,_,0,_,h,e=>by obtain⟨v,t,rfl,_,_⟩:=h;simp only[zI,zN]at e;subst e;exact⟨v,rfl⟩
 |(k,d)::r,_,i+1,_,h,e=>by obtain⟨v,t,rfl,_,ht⟩:=h;simp only[ja]at e ⊢;exact AO ht e
def vW(k:Key):d8 c μ H (KK k) (kV k):=by
 cases k<;>(unfold KK d8;rfl)
def RP{c:Wc}{H:Hp}(e:H a=some (.frz o (.dK Eg)))(rk:Z6 c μ H l Eg):ItD c μ H (Itd a o Eg) ⟨lE l,λ_=>true⟩:=by
 intro X2 G' H' x h' _ i;have e':=x.frz _ _ _ e;refine⟨λd hd=>?_,λhi=>⟨e',by rw[<-rk.length];simpa [lE]using hi⟩⟩;simp only[lE,zU]at hd
 cases hl:l[i]? with
 |none=>rw[hl]at hd;cases hd
 |some kd=>
   rw[hl]at hd
   cases hd
   obtain⟨v,hv⟩:=AO rk hl;exact⟨⟨e',_,hv⟩,λy H2 ⟨e1,kv,e2,e3⟩=>by
    subst e1;rw[hv]at e2
    cases e2
    exact⟨Ext.refl _ _,h',by rw[e3];exact vW _⟩⟩
def Nz(he:DE X Z e f):DI X Z tg e (itW f):=
 DI.of (qe he.h) λσ H R Eh=>Eh.elim λX9 μ G s h p=>⟨X9,μ,G,s,h,(c7.bind p).mono λd X0 G1 H1 x1 h1 p1 v rv=>by
  cases d with
  |ref r=>
    have rv':=rv;unfold d8 at rv';obtain⟨a,m,rfl⟩:=rv';obtain⟨o,g,p2⟩:=K4 p1;have ro:=h1.obj r o a g m;rcases o with l|l|l|l
    ·exact .inl (UJ h1 rv p2)
    ·exact .inl (UJ h1 rv p2)
    ·
      obtain⟨Eg,q,rk⟩:=ro;refine .inr (.inl ⟨a,Eg,rfl,q,λo=>?_⟩);have x:Ext X0 H1 X0 (upd H1 a (.frz o (.dK Eg))):=Ext.mut (yX m) q (λ_ z=>nomatch z) (λ_ _ z=>nomatch z) _;have Hn:=rk.mono x;have h2:v6 (wc X) X0 (G1.set r (.rod l)) (upd H1 a (.frz o (.dK Eg))):=h1.setR g (λz=>z) m x ⟨Eg,o,Q6,Hn⟩;have p3:=c7.from p2 x;exact c7.ok p3 h2 _ (RP Q6 Hn)
    ·
      obtain⟨Eg,o,q,rk⟩:=ro;exact .inr (.inr ⟨a,o,Eg,rfl,q,c7.ok p2 h1 _ (RP q rk)⟩)
  |_=>exact .inl (UJ h1 rv p1)⟩
end DL
namespace W
open PySem PySem.Spec L2 DL
open PyProof.Rows hiding St
def wp_itW:Wp (itW f σ) G R↔Wp (f σ) G λx G1=>Wp (aF x) G1 R:=by unfold itW;simp only[j7]
def srcW_tup:Wp (aF (.tup l)) G R↔R ⟨l,λ_=>true⟩ G:=wp_pure
def vA(e:G[p]? =some (.lst l)):Wp (aF (.ref p)) G R↔R ⟨l,ckO p (.lst l)⟩ G:=by unfold aF;simp only[j7,N6,e,O9];exact aq e
end W
namespace DL
open PySem PySem.Spec L2
open PyProof.Rows hiding St
def ud{a:Addr}{o:Obj}{n:Nat}(hT:T= "list"\/T= "tuple")(ho:s.heap.get? a=some o)(hc:o.cls= .type T)(hd:o.data= .seq vs.toArray n)(Gs:vs.length<64)(hS:StrsAre vs ss)
 (h:∀(h1 h':Heap) (tk e:Nat) out Es,(∀b o,s.heap.get? b=some o->h1.get? b=some o)->(∀b o,h1.get? b=some o->h'.get? b=some o)->h'.get? h1.objs.size=some (jN "list" out.toArray e)->StrsAre out Es->Es.Perm ss->sortedS Es=true->Q (.ref h1.objs.size) {s with heap:=h',toks:=tk}):
 zw (zG prog w) A (call (.builtin "sorted") [.ref a]) Q E s:=by
 have hz:vs.length<=zq:=zK (yM Gs) (by decide);refine ZU JZ Jn Jp (args_sorted1 _) ?_;unfold yg.«sorted»;refine za (zi ?_);refine za (wpAny_collect_seq a hT ho hc hd (λh1 hk=>?_) (by rw[zo];exact hz));refine za (Zb ?_ hz);have hoL:(h1.push (jN "list" vs.toArray 0)).get? h1.objs.size=some (jN "list" vs.toArray 0):=zt _ rfl;refine za (jB (jA Xu ⟨_,hoL,rfl⟩ Xe (list_sort_treeK strKind_oneLt hoL hS.keysOf (λv₁ v₂ Q8 e=>Jo (by rw[<-e];exact hS)) Gs λEw a1 a2=>⟨_,rfl,?_⟩) (args_list_sort _)));obtain⟨Es,b1,b2,b3⟩:=sorted_out_str hS a1 a2;obtain⟨e,he⟩:=sortedHeap_at hoL;refine zi ⟨_,rfl,h h1 _ s.toks e ((Xf Ew).map (·.2)).toList Es hk (λb o hb=>?_) (by rw[Zv];exact he) b1 b2 b3⟩;have Eo:b<h1.objs.size:=zu hb;rw[sortedHeap_old (zE Eo) (by rw[Yd];exact jR Eo),xC _ _ _ (zE Eo)];exact hb
def bE(l:List D):M D:=do
 let ss <-S1 (l6 l)
 if ss.length<64 then M5 (.lst ((O8 ss).map .str))else M.stuck
def y8:List D->M D:=λds=>match ds with
 |[.tup l]=>bE l
 |[.ref r]=>do
   match <-N5 r with
   | .lst l=>bE l
   | .dct l=>do
     let ss <-S1 (v7 l)
     if ss.length<64 then M5 (.lst ((O8 ss).map .str))else M.stuck
   |_=>M.stuck
 |_=>M.stuck
theorem wG:∀ {l} {ss} {vs} {us},l6 l=some ss->m9 c μ H l vs->u9 vs us->StrsAre us ss
 |[],_,_,_,e,r,v=>by cases e;cases r;cases v;exact .nil
 | .str x::t,ss,_,_,e,r,v=>by
   replace e:=show (l6 t).map (_ :: ·)=some _ from e;rcases h:l6 t with _|q
   ·rw[h]at e;exact J4 e
   ·
     rw[h]at e
     cases e
     obtain⟨v0,tl,rfl,r0,rt⟩:=r
     cases v with
     |cons ru rt2=>
       rw[D3 r0]at ru;obtain⟨tk,rfl⟩:=ru;exact .cons _ _ (wG h rt rt2)
 | .non::_,_,_,_,e,_,_=>by exact J4 e
 | .bl _::_,_,_,_,e,_,_=>by exact J4 e
 | .int _::_,_,_,_,e,_,_=>by exact J4 e
 | .tup _::_,_,_,_,e,_,_=>by exact J4 e
 | .ref _::_,_,_,_,e,_,_=>by exact J4 e
 | .fn _::_,_,_,_,e,_,_=>by exact J4 e
 | .ty _::_,_,_,_,e,_,_=>by exact J4 e
theorem cO:∀ {l} {ss},l6 l=some ss->ss.length=l.length
 |[],_,e=>by cases e;rfl
 | .str x::t,ss,e=>by
   replace e:=show (l6 t).map (_ :: ·)=some _ from e;rcases h:l6 t with _|q
   ·rw[h]at e;exact J4 e
   ·rw[h]at e;cases e;simp[cO h]
 | .non::_,_,e=>by exact J4 e
 | .bl _::_,_,e=>by exact J4 e
 | .int _::_,_,e=>by exact J4 e
 | .tup _::_,_,e=>by exact J4 e
 | .ref _::_,_,e=>by exact J4 e
 | .fn _::_,_,e=>by exact J4 e
 | .ty _::_,_,e=>by exact J4 e
def nN(I:Inv X Ee σ H s)(hr:v6 (wc X) μ G H)(rl:m9 (wc X) μ H l vs)(rv:u9 vs us)(hT:T= "list"\/T= "tuple")(ho:s.heap.get? a=some o)(hc:o.cls= .type T)(hd:o.data= .seq us.toArray n)
 (p:c7 (wc X) Z μ H (bE l G) λd X2 _ H'=>∀v,d8 (wc X) X2 H' d v->Q v H'):zw (zG X.prog X.w) X.A (call (.builtin "sorted") [.ref a]) (EP X Ee σ Q) X.xe s:=by
 obtain⟨ss,es,p2⟩:=S8 p;split at p2
 case isFalse=>exact p2.elim
 rename_i Gs;have hS:=wG es rl rv;have hlen0:us.length=ss.length:=by rw[cO es,rl.length,rv.length]
 refine ud hT ho hc hd (by lia) hS λh1 h' tk e out Es k1 k2 he Ex hp hs=>?_;have e2:=QK hp hs;subst e2;obtain⟨ws,ew,rv',rl2⟩:=gF (μ:=μ) Ex;have I1:Inv X Ee σ H {s with heap:=h1,toks:=tk}:=I.kept k1;have hf:=I1.hok.fresh (zp _);have Ei:ws.length<=zq:=by
  rw[ew,zg];have e3:(O8 ss).length=ss.length:=(jv ss leS).length_eq;have:(64:Nat)<=zq:=by decide
  lia
 exact⟨.ref h1.objs.size,upd H h1.objs.size (.lst ws),I1.laid k2 (zp _) ⟨Ei,out,e,rv',he⟩,rfl,U9 hr rl2 p2 _ hf⟩
def kr(hc:X.calm=true):X8 X Z (.builtin "sorted") y8:=⟨by
 intro Ee s σ H xs us Q I r Eh;obtain⟨ds,μ,G,rl,hr,p⟩:=Eh;rcases ds with _|⟨_|_|_|_|l|i|_|_,_|⟨_,_⟩⟩<;>try exact p.elim
 all_goals (delta y8 at p;dsimp only at p)
 · obtain⟨v,rfl,rv⟩:=F3 rl;obtain⟨u,rfl,ru⟩:=S3 r;unfold d8 at rv;obtain⟨a,vs,rfl,q,Eu⟩:=rv
   cases ru
   obtain⟨Ef,rv,⟨o,h1,h2,n,h3⟩,hz⟩:=I.tuple q;exact nN I hr Eu rv (.inr rfl) h1 h2 h3 p
 · obtain⟨v,rfl,rv⟩:=F3 rl;obtain⟨u,rfl,ru⟩:=S3 r;have rv':=rv;unfold d8 at rv';obtain⟨a,m,rfl⟩:=rv'
   cases ru
   obtain⟨o,g,p1⟩:=K4 p;have ro:=hr.obj i o a g m;rcases o with l|l|l|l
   ·
     obtain⟨vs,q,Eu⟩:=ro;obtain⟨Ef,rv,pl,hz⟩:=I.list (SqL.of q);obtain⟨o,h1,h2,n,h3⟩:=pl.isList;exact nN I hr Eu rv (.inl rfl) h1 h2 h3 p1
   ·exact p1.elim
   ·
     refine(cy (Z:=Z) hc).h Ee s σ H [.ref a] [.ref a] Q I r ⟨[.ref i],μ,G,rl,hr,?_⟩;have eo:N5 i G=some (.ok (.dct l),G):=by unfold N5;simp only[g]
     have e:qK [.ref i] G= ((do
      let ss <-S1 (v7 l)
      if ss.length<64 then M5 (.lst ((O8 ss).map .str))else M.stuck:M D)) G:=by
      show ((N5 i >>= λo=>match o with
       | .dct l => (do
         let ss <-S1 (v7 l)
         if ss.length<64 then M5 (.lst ((O8 ss).map .str))else M.stuck:M D)
       |_=>M.stuck):M D) G=_
      rw[M.bind_ok eo]
     rw[e];exact p1
   ·exact p1.elim⟩
def mw(h:X.calm=true):BD y8 "sorted" X Z:=⟨.inl ⟨_,kr h,cL⟩⟩
end DL
namespace W
open PySem PySem.Spec L2 DL
open PyProof.Rows hiding St
def Vq(hs:l6 l=some ss)(Gs:ss.length<64):Wp (bE l) G Q↔Q (.ref G.length) (G++[.lst ((O8 ss).map .str)]):=by unfold bE;simp only[j7,S4,hs,O9,if_pos Gs,R8]
def qR(e:G[r]? =some (.lst l))(hs:l6 l=some ss)(Gs:ss.length<64):Wp (y8 [.ref r]) G Q↔Q (.ref G.length) (G++[.lst ((O8 ss).map .str)]):=by unfold y8;simp only[j7,N6,e,O9];exact Vq hs Gs
def Gf(e:G[r]? =some (.dct l))(hs:v7 l=some ss)(Gs:ss.length<64):Wp (y8 [.ref r]) G Q↔Q (.ref G.length) (G++[.lst ((O8 ss).map .str)]):=by unfold y8;simp only[j7,N6,e,O9,S4,hs,if_pos Gs,R8]
end W
namespace DL
open PySem
def wn:XX (.type "list") "keys" =pure none:=by rw[ZR,xH];kernel_rfl
def Bp{h:Heap}{t:Nat}{os:OsState}{a:Addr}{o:Obj}{k:Nat}
 (hx:h.get? a=some o) (hc:o.cls= .type "list") (Gy:o.data= .seq xs k) (hd:o.dict=none) (hA:A.handled=none)
 (hq:∀h' tk,(∀b ob,h.get? b=some ob->h'.get? b=some ob)->Q none ⟨h',g,d,tk,os⟩):
 zw (zG prog w) A (getAttr? (.ref a) "keys") Q E ⟨h,g,d,t,os⟩:=by
 obtain⟨c,dct,dat,sl⟩:=o;simp only at hc Gy hd;subst hc Gy hd;have hT:∀tk',(⟨h,g,d,tk',os⟩:zD).TypeIs (.ref a) "list":=λ_=>⟨_,hx,rfl⟩;have f1:=sub_AttributeError;have f3:=Yj.lookup;have f4:=Yj.bind (.ref a);have f5:=am_list_getattr_none;unfold getAttr? getAttrBy? getAttrBy
 repeat (any_goals (first|assumption|exact hT _|((with_reducible show zw _ _ (call (Value.builtin "list.__getattribute__") _ _) _ _ _);refine Zj Yj (hT _) am_entry_list_getattribute (F.args_list_getattribute_2 _ _) (meets_getattribute_miss_list a xs k sl "keys" _ wn (by decide +kernel) (by decide +kernel)) ⟨hx,hA,λh' tk' e hx'=>?_⟩)|wp_step))
 obtain⟨t',u',he⟩:=hx'.there;have hTe:∀tk'',(⟨h',g,d,tk'',os⟩:zD).TypeIs (.ref e) "AttributeError":=λ_=>⟨_,he,rfl⟩;show zw _ _ (getattributeRaised _ _ _ _ _ _ _) _ _ _;unfold getattributeRaised
 repeat (any_goals (first|assumption|exact hTe _|wp_step))
 exact hq _ _ hx'.keeps
end DL
namespace DL
open PySem
open PyProof.Rows (IsTup)
def AR:entryFor table "dict.update.loop" =some yg.«dict.update.loop»:=entryFor_of_tree (by kernel_rfl)
def gI:plainId "dict.update.loop" =true:=by decide +kernel
section
variable{prog:jh}{w:jq}{A:jC}{R:Result->zD->Prop}{I:Addr}{fp wr:List Addr}{n:Nat}{P:Nat->zk->Prop}{St:Nat->Heap->Prop}{K:Type}[DecidableEq K]{knd:KeyKind prog w K}
def Mc(h:Xg s.heap ta #[x,y])(q:Q [x,y] s):zw (zG prog w) A (XT (.ref ta)) Q E s:=by obtain⟨o,ho,hc,m,hd⟩:=h;have hT:s.TypeIs (.ref ta) "tuple":=⟨_,ho,hc⟩;unfold XT;refine za (xX hT ?_);rw[if_pos (by decide)];exact za (yn ho hd (zi q))
def Pc(W:Walks prog w A.in1 I fp wr n P St)(S:Addr)(hSf:S∉fp)(h0:Heap)(ps:List (K×zk))(hn:ps.length=n)
 (hval:∀i v,P i v->∃ta key kv,v= .ref ta/\ps[i]? =some kv/\Xg h0 ta #[key,kv.2]/\knd.is kv.1 key=true/\ta≠S/\ta∉wr) (hsz:n<=zq):
 ∀k i s m tk,n-i=k->i<=n->St i s.heap->s.heap.DictOf knd S (merged [] (ps.take i))->(∀b o,b≠S->b∉wr->h0.get? b=some o->s.heap.get? b=some o)->
  (∀h' tk',h'.DictOf knd S (merged [] ps)->(∀b o,b≠S->b∉wr->h0.get? b=some o->h'.get? b=some o)->R (.ok (.ret .none)) {s with heap:=h',toks:=tk'})->
  Zs (zG prog w) A (.builtin "dict.update.loop" ⟨[.ref S,.ref I,.int m tk,.none], []⟩) R s:=by
 have hSw:S∉wr:=λh=>hSf (W.sub _ h);intro k
 induction k with
 |zero=>
   intro i s m tk hk hi hst hS hh hR;have hin:i=n:=by lia
   subst hin;refine yd AR ?_;rw[jK gI _];show zw _ A.in1 (xS (.ref I) >>= _) _ _ s;refine za (W.done s _ _ hst λh' tk' hm=>?_);show zw _ A.in1 (Builtin.Dict.addKeywords S [] >>= _) _ _ _;refine za (zi ?_);refine zi (hR h' tk' ?_ λb o hb Hi e=>hm b o Hi (hh b o hb Hi e));rw[List.take_of_length_le (by lia)]at hS;obtain⟨o,es,ep,ho,Q8⟩:=hS;exact⟨o,es,ep,hm S _ hSw ho,Q8⟩
 |succ k ih=>
   intro i s m tk hk hi hst hS hh hR;have Eo:i<n:=by lia
   refine yd AR ?_;rw[jK gI _];show zw _ A.in1 (xS (.ref I) >>= _) _ _ s;refine za (W.item i s _ _ Eo hst λv h' tk' hP hst' hm=>?_);obtain⟨ta,key,kv,rfl,hkv,⟨ot,hot,hct,mt,hdt⟩,hkey,Et,hnw⟩:=hval i v hP;have Ex:h'.DictOf knd S (merged [] (ps.take i)):=by obtain⟨o,es,ep,ho,Q8⟩:=hS;exact⟨o,es,ep,hm S _ hSw ho,Q8⟩
   have ht':Xg h' ta #[key,kv.2]:=⟨ot,hm ta _ hnw (hh ta _ Et hnw hot),hct,mt,hdt⟩;refine za (jB ?_);refine za (Xs (Mc ht' ?_));refine jB ?_;have Ei:(merged [] (ps.take i)).length<=zq:=by have:=merged_length_le [] (ps.take i);rw[Zp,yz]at this;lia
   refine wpAny_dictSet_pairs hkey Ex λh'' hd'' hsb=>?_;refine zi ⟨yc gI _,ih (i+1) _ _ _ (by lia) Eo (W.frame _ _ _ hst' λb hb o e=>?_) ?_ (λb o hb Hi e=>?_) λh3 tk3 hd3 hk3=>hR h3 tk3 hd3 hk3⟩
   ·rw[hsb.2 b (λh:b=S=>hSf (by rw[<-h];exact hb))];exact e
   ·rw[merged_take_succ [] ps i kv hkv];exact hd''
   ·rw[hsb.2 b hb];exact hm b o Hi (hh b o hb Hi e)
end
section
variable{prog:jh}{w:jq}{A:jC}{E:VSP}{s:zD}{K:Type}[DecidableEq K]{knd:KeyKind prog w K}
def Nf{m:Nat}(hx:s.heap.get? src=some o)(hc:o.cls= .type "list")(hd:o.data= .seq items m)(hdict:o.dict=none)(hA:A.handled=none)
 (hn:ps.length=items.size) (hsz:items.size<=zq) (hval:∀(i:Nat) (v:zk),items[i]? =some v->∃(ta:Addr) (key:zk) (kv:K×zk),v= .ref ta/\ps[i]? =some kv/\Xg s.heap ta #[key,kv.2]/\knd.is kv.1 key=true)
 (h:∀h' tk,h'.DictOf knd s.heap.objs.size (merged [] ps)->(∀b o,s.heap.get? b=some o->h'.get? b=some o)->Q (.ref s.heap.objs.size) {s with heap:=h',toks:=tk}):
 zw (zG prog w) A (call (.type "dict") [.ref src]) Q E s:=by
 refine callType_codes (Q₁:=λobj W1=>obj= .ref s.heap.objs.size/\W1= {s with heap:=s.heap.push {cls:=.type "dict",data:=.dict #[]}}) F.kt_called_dict (F.kt_typeCall_dict_1 _) F.entry_dict_init (kt_code_dict_new _ ⟨rfl,rfl⟩) ?_;rintro obj W1 ⟨rfl,rfl⟩;have hnew:(s.heap.push {cls:=.type "dict",data:=.dict #[]}).DictOf knd s.heap.objs.size []:=Heap.DictOf.new s.heap;have Eo:src<s.heap.objs.size:=zu hx;have hx1:(s.heap.push {cls:=.type "dict",data:=.dict #[]}).get? src=some o:=zh _ hx;have hT1:Shared.TypeIs {s with heap:=s.heap.push {cls:=.type "dict",data:=.dict #[]}} (.ref src) "list":=⟨_,hx1,hc⟩;refine⟨hnew.typeIs,F.args_dict_init_2 _ _,?_⟩;unfold yg.«dict.__init__»;refine za ?_;unfold Builtin.Dict.selfAndRest;refine za (wpAny_notOrdered_dict hnew.typeIs ?_);show zw _ _ (pure (s.heap.objs.size, [Value.ref src])) _ _ _;refine zi ?_;show zw _ _ (XJ "dict.__init__" s.heap.objs.size (.ref src) [] .none) _ _ _;unfold XJ;refine za (xX hT1 ?_);rw[if_pos (by decide)];have hA2:A.in1.in1.handled=none:=by simp[hA]
 refine za (Bp hx1 hc hd hdict hA2 λh2 tk2 k2=>?_);simp only[Option.isNone_none,if_true];refine za (yS ?_);have hx2:h2.get? src=some o:=k2 _ _ hx1;have Ge:h2.IsList src items:=⟨o,hx2,hc,m,hd⟩;have hS2:h2.DictOf knd s.heap.objs.size []:=by obtain⟨o,es,ep,ho,Q8⟩:=hnew;exact⟨o,es,ep,k2 _ _ ho,Q8⟩
 have hlt2:s.heap.objs.size<h2.objs.size:=by obtain⟨o,es,ep,ho,Q8⟩:=hS2;exact zu ho
 refine za (xJ Ge ?_);have hA1:A.in1.in1.handled=none:=hA2;refine zi ⟨yc gI _,?_⟩;have hkeep:∀b ob,s.heap.get? b=some ob->h2.get? b=some ob:=λb ob e=>k2 _ _ (zh _ e);refine Pc (knd:=knd) (Walks.list hA1 h2.objs.size src (zE (Zl Eo hlt2)) items) s.heap.objs.size ?_ s.heap ps hn ?_ hsz items.size 0 _ _ _ (by lia) (zY _) ?_ ?_ ?_ ?_
 ·simp only[zy,jg,or_false,not_or];exact⟨zE hlt2,jX Eo⟩
 · intro i v hv;obtain⟨ta,key,kv,e1,e2,e3,e4⟩:=hval i v hv;have hta:ta<s.heap.objs.size:=by obtain⟨_,e,_⟩:=e3;exact zu e
   exact⟨ta,key,kv,e1,e2,e3,e4,zE hta,by simp only[zy,jg,or_false];exact zE (Zl hta hlt2)⟩
 ·exact⟨⟨_,zt _ rfl,rfl,rfl⟩,Ge.push _⟩
 ·show Heap.DictOf knd (h2.push _) _ _;exact hS2.push _
 ·intro b ob hb Hi e;exact zh _ (hkeep b ob e)
 · intro h' tk' Hl Hn;refine⟨rfl,h h' tk' Hl λb ob e=>Hn b ob ?_ ?_ e⟩
   ·exact zE (zu e)
   ·simp only[zy,jg,or_false];exact zE (Zl (zu e) hlt2)
end
end DL
namespace DL
open PySem PySem.Spec L2
open PyProof.Rows hiding St
def tD:D->Option (Key×D)
 | .tup [k,v]=>match C8 k with
   |some q=>some (q,v)
   |none=>none
 |_=>none
def g9:List D->Option (List (Key×D))
 |[]=>some []
 |d::r=>match tD d,g9 r with
   |some p,some ps=>some (p::ps)
   |_,_=>none
def putAll(Ek:List (Key×D))(l:List (Key×D)):List (Key×D):=l.foldl (λEk kv=>i6 Ek kv.1 kv.2) Ek
def WA:List D->M D:=λds=>match ds with
 |[.ref r]=>do
   let l <-N5 r >>= listOf
   let ps <-S1 (g9 l)
   M5 (.dct (putAll [] ps))
 |_=>M.stuck
section
variable{X:Cx}{Z:XC}{μ:List Addr}{H:Hp}{G:DH}
def Nb(h:tD d=some p):∃k,d= .tup [k,p.2]/\C8 k=some p.1:=by
 rcases d with _|_|_|_|l|_|_|_<;>try (cases h;done)
 rcases l with _|⟨k,_|⟨v,_|⟨_,_⟩⟩⟩<;>try (cases h;done)
 delta tD at h;dsimp only at h;rcases e:C8 k with _|q
 ·rw[e]at h;cases h
 ·rw[e]at h;cases h;exact⟨k,rfl,e⟩
theorem FP{σ:St}(I:Inv X Ee σ H s):∀ {l:List D} {ps} {vs:List V} {Ef},g9 l=some ps->m9 (wc X) μ H l vs->u9 vs Ef->
 ∃(Eg:List (Key×V)) (ws:List (Key×zk)),Z6 (wc X) μ H ps Eg/\KV Eg ws/\ws.length=Ef.length/\∀(i:Nat) v,Ef[i]? =some v->∃(ta:Addr) (key:zk) (kv:Key×zk),v= .ref ta/\ws[i]? =some kv/\Xg s.heap ta #[key,kv.2]/\(M9 X.prog X.w).is kv.1 key=true
 |[],ps,vs,Ef,e,rl,rv=>by
   cases e;cases rl;cases rv
   exact⟨[], [],rfl,.nil,rfl,λi v h=>by simp at h⟩
 |d::r,ps,vs,Ef,e,rl,rv=>by
   replace e:(match tD d,g9 r with|some p,some ps=>some (p::ps)|_,_=>none)=some ps:=e;rcases e1:tD d with _|p
   ·rw[e1]at e;cases e
   ·
     rcases e2:g9 r with _|qs
     ·rw[e1,e2]at e;cases e
     ·
       rw[e1,e2]at e
       cases e
       obtain⟨v,t,rfl,r0,rt⟩:=rl
       cases rv with
       |cons q0 qt=>
         obtain⟨Eg,ws,h1,h2,h3,h4⟩:=FP I e2 rt qt;obtain⟨k,rfl,hk⟩:=Nb e1;unfold d8 at r0;obtain⟨a,us,rfl,hq,ru⟩:=r0;obtain⟨x,y,rfl,rx,ry⟩:=UT ru;obtain⟨Gi,rr,ht,_⟩:=I.tuple hq;obtain⟨p1,p2⟩:=p
         cases rr with
         |cons rr0 rr1=>
           cases rr1 with
           |cons rr2 rr3=>
             cases rr3
             rename_i w0 w1;have ex:=nK hk rx;subst ex
             cases (show _=Value.ref a from q0)
             refine⟨(p1,y)::Eg,(p1,w1)::ws,⟨y,Eg,rfl,ry,h1⟩,.cons ⟨rfl,rr2⟩ h2,by simp[h3],λi v hv=>?_⟩
             cases i with
             |zero=>
               simp only[zI,zN]at hv;subst hv;exact⟨a,w0,(p1,w1),rfl,rfl,ht,mC rr0⟩
             |succ i=>exact h4 i v (by simpa using hv)
theorem FT:∀ {ps} {Eg} {Ek} {Ej},Z6 c μ H ps Eg->Z6 c μ H Ek Ej->Z6 c μ H (putAll Ek ps) (Eg.foldl (λEk kv=>o4 Ek kv.1 kv.2) Ej)
 |[],_,_,_,r,q=>by cases r;exact q
 |(k,d)::t,_,_,_,r,q=>by obtain⟨v,kt,rfl,rv,rt⟩:=r;have z:=FT rt (FU (k:=k) rv q);exact z
theorem FS:∀ {Eg} {ws} {Ek:List (Key×V)} {Ej},KV Eg ws->KV Ek Ej->KV (Eg.foldl (λEk kv=>o4 Ek kv.1 kv.2) Ek) (merged Ej ws)
 |_,_,_,_,.nil,q=>q
 |_,_,_,_,.cons (a:=p) (b:=r) ⟨e,rv⟩ t,q=>by
   obtain⟨k,v⟩:=p;obtain⟨k',u⟩:=r
   cases (show k=k' from e)
   have z:=FS t (q.put k rv);exact z
def AW{σ:St}{Q:VK}{ps:List (Key×D)}{h':Heap}{tk:Nat}(I:Inv X Ee σ H s)(hr:v6 (wc X) μ G H)(h1:Z6 (wc X) μ H ps Eg)(h2:KV Eg ws)(hz:ws.length<=zq)
 (p:c7 (wc X) Z μ H (M5 (.dct (putAll [] ps)) G) λd X2 _ H'=>∀v,d8 (wc X) X2 H' d v->Q v H')
 (hd:h'.DictOf (M9 X.prog X.w) s.heap.objs.size (merged [] ws)) (hk:∀b o,s.heap.get? b=some o->h'.get? b=some o):EP X Ee σ Q (.ref s.heap.objs.size) {s with heap:=h',toks:=tk}:=by
 have k3:=FS h2 (.nil:KV [] []);have hl:(Eg.foldl (λEk kv=>o4 Ek kv.1 kv.2) []).length<=zq:=by rw[k3.length];have:=merged_length_le [] ws;rw[yz]at this;lia
 have hq:H s.heap.objs.size=none:=I.hok.fresh (zp _);refine⟨.ref s.heap.objs.size,_,I.laid hk (zp _) (vQ hl (beq_eq_false_iff_ne.mpr (Ne.symm (zE I.big))) k3 hd),rfl,?_⟩;have k:Ext μ H (μ++[s.heap.objs.size]) (upd H s.heap.objs.size (.dK (Eg.foldl (λEk kv=>o4 Ek kv.1 kv.2) []))):=Ext.add hq _;have e0:Z6 (wc X) μ H (putAll [] ps) (Eg.foldl (λEk kv=>o4 Ek kv.1 kv.2) []):=FT h1 rfl;refine p (μ++[s.heap.objs.size]) _ k (hr.new hq ⟨_,Q6,e0.mono k⟩) _ ?_;unfold d8;exact⟨s.heap.objs.size,by rw[<-hr.len];simp,rfl⟩
def vw(hc:X.calm=true):X8 X Z (.type "dict") WA:=⟨by
 intro Ee s σ H xs us Q I r Eh;obtain⟨ds,μ,G,rl,hr,p⟩:=Eh;have hh:X.A.handled=none:=I.ok.hd hc;rcases ds with _|⟨_|_|_|_|l|i|_|_,_|⟨_,_⟩⟩<;>try exact p.elim
 all_goals (delta WA at p;dsimp only at p)
 · obtain⟨v,rfl,rv⟩:=F3 rl;obtain⟨u,rfl,ru⟩:=S3 r;obtain⟨l,a,vs,rfl,Eu,q,p1⟩:=kC hr rv p
   cases ru
   obtain⟨ps,eps,p2⟩:=S8 p1;obtain⟨Ef,rr,⟨o,n,g1,g2,g3,g4⟩,hz⟩:=I.list q;obtain⟨Eg,ws,h1,h2,h3,h4⟩:=FP I eps Eu rr;have Ei:=rr.length;exact Nf g1 g2 g4 g3 hh (by simpa using h3) (by simp only[zo];lia) (λi v hv=>h4 i v (by simpa using hv)) λh' tk hd hk=>AW I hr h1 h2 (by lia) p2 hd hk⟩
def cX(h:X.calm=true):BD WA "dict" X Z:=⟨.inr ⟨_,vw h,kc⟩⟩
end
end DL
namespace W
open PySem PySem.Spec L2 DL
open PyProof.Rows hiding St
end W
namespace DL
open PySem PySem.Spec L2
open PyProof.Rows hiding St
def ixG:D->D->M D:=λx y=>match x,y with
 | .ref r,.str z=>do
   match <-N5 r with
   | .dct l=>S1 (U0 l (.inr z))
   |_=>M.stuck
 |_,_=>ixD x y
def Bo:IxR X (λx y H Q=>∃a Eg k v,x= .ref a/\y=kV k/\H a=some (.dK Eg)/\y4 Eg k=some v/\Q v H):=by
 intro value slice Ee s σ H x y v u Q I rx ry h hs;obtain⟨a,Eg,k,z,rfl,rfl,e,l,q⟩:=h
 cases rx
 obtain⟨zz,hd,vs,rel,dd⟩:=aD I.hok e;obtain⟨w',hw,rw'⟩:=u8.some_of (by rw[<-l];exact rel.val k);exact YZ dd.typeIs PySem.F.slot_dict_getitem.lookup (wpAny_getItem_of (mC ry) dd.mapOf hw ⟨rfl,z,H,I.tok _,rw',q⟩) hs
def wd:IxD X Z ixG:=IxR.mono (Bo.or BN) λx y H Q Eh=>Eh.elim λdx dy μ G rx ry hr p=>by
 by_cases c:∃r z,dx= .ref r/\dy= .str z
 · obtain⟨r,z,rfl,rfl⟩:=c;refine .inl ?_;unfold d8 at rx;obtain⟨a,m,rfl⟩:=rx;have p':c7 (wc X) Z μ H ((N5 r >>= λo=>match o with| .dct l=>S1 (U0 l (.inr z))|_=>M.stuck:M D) G) λd X2 _ H'=>∀v,d8 (wc X) X2 H' d v->Q v H':=p;obtain⟨o,g,p1⟩:=K4 p';have ro:=hr.obj r o a g m;rcases o with _|_|l|_<;>try (exact p1.elim;done)
   ·
     obtain⟨Eg,q,rk⟩:=ro;obtain⟨d,ed,k⟩:=vM hr p1;have z1:=NI (k:=.inr z) rk;rw[ed]at z1;obtain⟨v,ev,rv⟩:=z1;exact⟨a,Eg,.inr z,v,rfl,D3 ry,q,ev,k v rv⟩
 · refine .inr ⟨dx,dy,μ,G,rx,ry,hr,?_⟩;have e:ixG dx dy=ixD dx dy:=by
    rcases dx with _|_|_|_|_|r|_|_<;>try (rfl;done)
    ·
      rcases dy with _|_|_|z|_|_|_|_<;>try (rfl;done)
      ·exact absurd ⟨r,z,rfl,rfl⟩ c
   rw[<-e];exact p
def ar(ha:DE X Z a fa)(hb:DE X Z b fb)(hs:bG b):DE X Z (.Subscript a b pos) (j5 ixG fa fb):=tN wd ha hb hs
end DL
namespace W
open PySem PySem.Spec L2 DL
open PyProof.Rows hiding St
def rj(h:G[r]? =some (.dct l))(k:U0 l (.inr z)=some d):Wp (ixG (.ref r) (.str z)) G Q↔Q d G:=by have e:ixG (.ref r) (.str z)= (N5 r >>= λo=>match o with| .dct l=>S1 (U0 l (.inr z))|_=>M.stuck:M D):=rfl;rw[e];simp only[j7,N6,h,O9,S4,k,zN,exists_eq_left']
end W
namespace DL
open PySem PySem.W
open PyProof.Rows hiding St
def tOk{α:Type}(lt:Nat->Nat->Bool)(n:Nat):KasT α->(α->Prop)->Prop
 | .ret a,Q=>Q a
 | .ask i j k,Q=>i<n/\j<n/\tOk lt n (k (lt i j)) Q
theorem tOk.bind:∀t,tOk lt n t (λa=>tOk lt n (f a) Q)->tOk lt n (t.bind f) Q
 | .ret _,h=>h
 | .ask i j k,h=>⟨h.1,h.2.1,tOk.bind (k (lt i j)) h.2.2⟩
theorem tOk.mono(hq:∀a,Q a->Q' a):∀t,tOk lt n t Q->tOk lt n t Q'
 | .ret a,h=>hq a h
 | .ask i j k,h=>⟨h.1,h.2.1,tOk.mono hq (k (lt i j)) h.2.2⟩
theorem tOk.wp(hc:∀i j C,i<n->j<n->C (lt i j) s->cmp i j C s):∀t,tOk lt n t Q->t.kasWp cmp (λa s'=>s'=s/\Q a) s
 | .ret a,h=>⟨rfl,h⟩
 | .ask i j k,h=>hc i j _ h.1 h.2.1 (tOk.wp hc (k (lt i j)) h.2.2)
structure dA(lt:Nat->Nat->Bool)(n:Nat):Prop where
 tr:∀i j k,lt i j=true->lt j k=true->lt i k=true
 tot:∀i j,i<n->j<n->i≠j->lt i j=false->lt j i=true
structure L3(p:Array Nat)(n:Nat):Prop where
 pm:p.toList.Perm (ji n)
def L3.size(h:L3 p n):p.size=n:=by have:=h.pm.length_eq;simpa using this
def L3.bd(h:L3 p n)(hk:k<n):p.getD k 0<n:=by
 have hs:=h.size;have e:p.getD k 0=p[k]'(by lia):=by simp[Xn,hs,hk]
 rw[e];have:p[k]'(by lia)∈p.toList:=by simp
 have:=h.pm.mem_iff.mp this;simpa using this
def L3.ne(h:L3 p n)(hi:i<n)(hj:j<n)(hij:i≠j):p.getD i 0≠p.getD j 0:=by
 have hs:=h.size;have nd:p.toList.Nodup:=h.pm.nodup_iff.mpr List.nodup_range;have e1:p.getD i 0=p.toList[i]'(by simp;lia):=by simp[Xn,hs,hi]
 have e2:p.getD j 0=p.toList[j]'(by simp;lia):=by simp[Xn,hs,hj]
 rw[e1,e2];intro e;exact hij ((XW nd).mp e)
def C7(lt:Nat->Nat->Bool)(p:Array Nat)(m:Nat):Prop:=∀i j,i<j->j<m->lt (p.getD i 0) (p.getD j 0)=true
def gD(lt:Nat->Nat->Bool)(p:Array Nat)(m:Nat):Prop:=∀i j,i<j->j<m->lt (p.getD j 0) (p.getD i 0)=true
def iz(O:dA lt n)(hk:1<=k)(h:C7 lt p k)(hl:lt (p.getD (k-1) 0) (p.getD k 0)=true):C7 lt p (k+1):=by
 intro i j hij hj;by_cases hj':j<k
 ·exact h i j hij hj'
 · have ej:j=k:=by lia
   subst ej;by_cases hi:i=j-1
   ·rw[hi];exact hl
   ·exact O.tr _ _ _ (h i (j-1) (by lia) (by lia)) hl
def Lv(O:dA lt n)(hk:1<=k)(h:gD lt p k)(hl:lt (p.getD k 0) (p.getD (k-1) 0)=true):gD lt p (k+1):=by
 intro i j hij hj;by_cases hj':j<k
 ·exact h i j hij hj'
 · have ej:j=k:=by lia
   subst ej;by_cases hi:i=j-1
   ·rw[hi];exact hl
   ·exact O.tr _ _ _ hl (h i (j-1) (by lia) (by lia))
theorem AK(O:dA lt n)(P:L3 p n):∀f k,1<=k->k+f<=n->C7 lt p k->tOk lt n (kas_asc p f k) (λm=>k<=m/\m<=k+f/\C7 lt p m/\(m<k+f->lt (p.getD m 0) (p.getD (m-1) 0)=true))
 |0,k,h1,h2,u=>⟨zp _,zp _,u,λz=>by lia⟩
 |f+1,k,h1,h2,u=>by
   unfold kas_asc;refine⟨P.bd (by lia),P.bd (by lia),?_⟩;rcases e:lt (p.getD k 0) (p.getD (k-1) 0)with _|_
   ·
     have hl:=O.tot _ _ (P.bd (show k<n by lia)) (P.bd (show k-1<n by lia)) (P.ne (by lia) (by lia) (by lia)) e;simp only[jo,if_false];exact(AK O P f (k+1) (by lia) (by lia) (iz O h1 u hl)).mono λm ⟨a,b,c,d⟩=>⟨by lia,by lia,c,λz=>d (by lia)⟩
   ·exact⟨zp _,by lia,u,λ_=>e⟩
theorem IN(O:dA lt n)(P:L3 p n):∀f k,1<=k->k+f<=n->gD lt p k->tOk lt n (kas_desc f p k 0) (λr=>r.1=p/\r.2.2=0/\k<=r.2.1/\r.2.1<=k+f/\gD lt p r.2.1)
 |0,k,h1,h2,u=>⟨rfl,rfl,zp _,zp _,u⟩
 |f+1,k,h1,h2,u=>by
   unfold kas_desc;refine⟨P.bd (by lia),P.bd (by lia),?_⟩;rcases e:lt (p.getD k 0) (p.getD (k-1) 0)with _|_
   ·
     have hl:=O.tot _ _ (P.bd (show k<n by lia)) (P.bd (show k-1<n by lia)) (P.ne (by lia) (by lia) (by lia)) e;simp only[jo,if_false];refine⟨P.bd (by lia),P.bd (by lia),?_⟩;rw[hl];exact⟨rfl,rfl,zp _,jr _ _,u⟩
   ·
     simp only[if_true,yN,if_false,gt_iff_lt];exact(IN O P f (k+1) (by lia) (by lia) (Lv O h1 u e)).mono λr ⟨a,b,c,d,g⟩=>⟨a,b,by lia,by lia,g⟩
def GF(p:Array Nat)(k:Nat):p.getD k 0= (p[k]?).getD 0:=by by_cases h:k<p.size<;>simp[Xn,h]
def nT(P:L3 p n):L3 (kas_rev p i j) n:=⟨(Jq.mp (mirror_perm p i j _)).trans P.pm⟩
def ug(P:L3 p n)(hm:m<=n)(d:gD lt p m):C7 lt (kas_rev p 0 m) m:=by
 intro i j hij hj;have hs:=P.size;have e:∀k,k<m->(kas_rev p 0 m).getD k 0=p.getD (m-1-k) 0:=λk hk=>by rw[GF,GF];unfold kas_rev;rw[getElem?_mirror_all (by lia),if_pos ⟨zY _,hk⟩,Nat.zero_add]
 rw[e i (by lia),e j hj];exact d (m-1-j) (m-1-i) (by lia) (by lia)
def ou(O:dA lt n)(P:L3 p n)(h2:2<=n)(d:gD lt p 2):tOk lt n (kas_descPart 1 n p) (λr=>L3 r.2 n/\1<=r.1/\r.1<=n/\C7 lt r.2 r.1):=by unfold kas_descPart;refine tOk.bind _ ((IN O P (n-(1+1)) (1+1) (by lia) (by lia) d).mono λr ⟨a,b,c,e,g⟩=>?_);obtain⟨r1,r2,r3⟩:=r;dsimp only at a b c e g ⊢;subst a b;rw[if_neg (yN 0)];unfold kas_tail3;refine tOk.bind _ ((AK O (nT P) (n-r2) r2 (by lia) (by lia) (ug P (by lia) g)).mono λm ⟨a1,a2,a3,_⟩=>?_);exact⟨nT P,by lia,by lia,a3⟩
def tW(O:dA lt n)(P:L3 p n)(h2:2<=n):tOk lt n (kas_count n p) (λr=>L3 r.2 n/\1<=r.1/\r.1<=n/\C7 lt r.2 r.1):=by
 unfold kas_count;refine tOk.bind _ ((AK O P (n-1) 1 (zp _) (by lia) (λi j _ _=>by lia)).mono λm ⟨a1,a2,a3,a4⟩=>?_);by_cases hm:m=n
 ·rw[if_pos (by simpa using hm)];exact⟨P,a1,by lia,a3⟩
 · rw[if_neg (by simpa using hm)];by_cases h1:m>1
   ·rw[if_pos h1];refine⟨P.bd (by lia),P.bd (by lia),?_⟩;rw[a3 0 (m-1) (by lia) (by lia)];exact⟨P,a1,by lia,a3⟩
   · rw[if_neg h1];have em:m=1:=by lia
     subst em;refine ou O P h2 λi j hij hj=>?_;have e1:i=0:=by lia
     have e2:j=1:=by lia
     subst e1 e2;exact a4 (by lia)
theorem vJ(O:dA lt n)(P:L3 p n)(hk:k<n)(u:C7 lt p k):∀f l r,l<=r->r<=k->r-l<=f->(∀i,i<l->lt (p.getD i 0) (p.getD k 0)=true)->(∀i,r<=i->i<k->lt (p.getD k 0) (p.getD i 0)=true)->
 tOk lt n (kas_place p k f l r) (λL=>L<=k/\(∀i,i<L->lt (p.getD i 0) (p.getD k 0)=true)/\∀i,L<=i->i<k->lt (p.getD k 0) (p.getD i 0)=true)
 |0,l,r,h1,h2,h3,a,b=>⟨by lia,a,λi hi=>b i (by lia)⟩
 |f+1,l,r,h1,h2,h3,a,b=>by
   unfold kas_place;by_cases h:l>=r
   ·rw[if_pos h];exact⟨by lia,a,λi hi=>b i (by lia)⟩
   · rw[if_neg h];have hm1:l<=(l+r) / 2:=by lia
     have hm2:(l+r) / 2<r:=by lia
     refine⟨P.bd hk,P.bd (by lia),?_⟩;rcases e:lt (p.getD k 0) (p.getD ((l+r) / 2) 0)with _|_
     ·
       simp only[jo,if_false];have hl:=O.tot _ _ (P.bd hk) (P.bd (show (l+r) / 2<n by lia)) (P.ne hk (by lia) (by lia)) e;refine vJ O P hk u f _ r (by lia) h2 (by lia) (λi hi=>?_) b;by_cases ei:i= (l+r) / 2
       ·rw[ei];exact hl
       ·exact O.tr _ _ _ (u i ((l+r) / 2) (by lia) (by lia)) hl
     ·
       simp only[if_true];refine vJ O P hk u f l _ hm1 (by lia) (by lia) a λi hi hik=>?_;by_cases ei:i= (l+r) / 2
       ·rw[ei];exact e
       ·exact O.tr _ _ _ e (u _ i (by lia) hik)
theorem mT(O:dA lt n):∀f k p,L3 p n->k+f=n->C7 lt p k->tOk lt n (kas_bin f p k) (λq=>L3 q n/\C7 lt q n)
 |0,k,p,P,h,u=>⟨P,by rw[<-h];exact u⟩
 |f+1,k,p,P,h,u=>by
   unfold kas_bin;refine tOk.bind _ ((vJ O P (show k<n by lia) u k 0 k (zY _) (zp _) (by lia) (λi hi=>by lia) (λi h1 h2=>by lia)).mono λL ⟨hL,a,b⟩=>?_);have hs:=P.size;refine mT O f (k+1) _ ⟨(Jq.mp (bubble_perm p k (k-L))).trans P.pm⟩ (by lia) ?_;have e:∀i,(bubble p k (k-L)).getD i 0=if i=L then p.getD k 0 else if L<i/\i<=k then p.getD (i-1) 0 else p.getD i 0:=λi=>by
    rw[GF,getElem?_bubble (by lia) _ (by lia),show k-(k-L)=L by lia];split
    ·rw[<-GF]
    ·split<;>rw[<-GF]
   intro i j hij hj;rw[e i,e j];by_cases h1:i=L
   ·rw[if_pos h1,if_neg (by lia),if_pos (by lia)];exact b (j-1) (by lia) (by lia)
   · rw[if_neg h1];by_cases h2:j=L
     ·rw[if_pos h2,if_neg (by lia)];exact a i (by lia)
     · rw[if_neg h2];by_cases h3:L<i
       ·rw[if_pos (by lia),if_pos (by lia)];exact u _ _ (by lia) (by lia)
       · rw[if_neg (by lia)];by_cases h4:L<j
         · rw[if_pos (by lia)];by_cases h5:i<j-1
           ·exact u _ _ h5 (by lia)
           ·lia
         ·rw[if_neg (by lia)];exact u _ _ hij (by lia)
def PX(O:dA lt n)(h2:2<=n):tOk lt n (kas_sort n) (λq=>L3 q n/\C7 lt q n):=by
 unfold kas_sort;refine tOk.bind _ ((tW O ⟨by simp⟩ h2).mono λr ⟨a,b,c,d⟩=>?_);by_cases h:r.1<n
 ·rw[if_pos h,show max r.1 1=r.1 by lia];exact mT O _ _ _ a (by lia) d
 ·rw[if_neg h];exact⟨a,by rw[show n=r.1 by lia];exact d⟩
end DL
namespace DL
open PySem PySem.Spec L2
open PyProof.Rows hiding St
def t5(F:List D->M D):List D->M (List D)
 |[]=>pure []
 |d::r=>do
   let k <-noX (F [d])
   let ks <-t5 F r
   pure (k::ks)
def SH:D->Option (Int×Str)
 | .tup [.int a,.str x]=>some (a,x)
 |_=>none
def EZ:D->Option (Int×Str)
 | .str x=>some (0,x)
 |_=>none
def kA(f:D->Option (Int×Str)):List D->Option (List (Int×Str))
 |[]=>some []
 |d::r=>match f d,kA f r with
   |some a,some b=>some (a::b)
   |_,_=>none
def KC(l:List D):Option (List (Int×Str)):=match kA SH l with
 |some q=>some q
 |none=>kA EZ l
def U2(p q:Int×Str):Bool:=if p.1=q.1 then decide (p.2.cps.toList<q.2.cps.toList)else decide (p.1<q.1)
def oA(p q:(Int×Str)×D):Bool:= !U2 q.1 p.1
def PD(qs:List (Int×Str))(l:List D):List D:=((qs.zip l).mergeSort oA).map (·.2)
def dB(F:List D->M D)(l:List D):M D:=do
 let ks <-t5 F l
 let qs <-S1 (KC ks)
 if qs.Nodup then M5 (.lst (PD qs l))else M.stuck
def wA(F:List D->M D):D->M D
 | .tup l=>if l.length<64 then dB F l else M.stuck
 | .ref r=>do
   match <-N5 r with
   | .lst l=>if l.length<64 then dB F l else M.stuck
   | .dct l=>do
     let ss <-S1 (v7 l)
     if ss.length<64 then dB F (ss.map .str)else M.stuck
   |_=>M.stuck
 |_=>M.stuck
def uB(F:List D->M D)(f:Fe):Fe:=λσ=>do
 let x <-f σ
 wA F x
def EG(p:Int×Str):U2 p p=false:=by unfold U2;rw[if_pos rfl,decide_eq_false];exact YR _
def sD(h1:U2 p q=true)(h2:U2 q r=true):U2 p r=true:=by
 unfold U2 at *;by_cases e1:p.1=q.1
 · rw[if_pos e1]at h1;by_cases e2:q.1=r.1
   ·rw[if_pos e2]at h2;rw[if_pos (e1.trans e2)];simp only[decide_eq_true_eq]at *;exact List.lt_trans h1 h2
   ·rw[if_neg e2]at h2;rw[if_neg (by rw[e1];exact e2),e1];exact h2
 · rw[if_neg e1]at h1;simp only[decide_eq_true_eq]at h1;by_cases e2:q.1=r.1
   ·rw[if_pos e2]at h2;rw[if_neg (by rw[<-e2];exact e1),<-e2];exact decide_eq_true h1
   ·rw[if_neg e2]at h2;simp only[decide_eq_true_eq]at h2;rw[if_neg (by lia)];exact decide_eq_true (by lia)
def RD(h:p≠q)(h1:U2 p q=false):U2 q p=true:=by
 unfold U2 at *;by_cases e1:p.1=q.1
 · rw[if_pos e1]at h1;rw[if_pos e1.symm];simp only[decide_eq_false_iff_not,decide_eq_true_eq]at *;have hle:q.2.cps.toList<=p.2.cps.toList:=h1;refine js λn=>h ?_;have hle2:p.2.cps.toList<=q.2.cps.toList:=n;have e:=List.le_antisymm hle2 hle
   cases p with|mk a x=>cases q with|mk b y=>
   dsimp only at e1 e;subst e1;congr 1
   cases x;cases y
   congr 1;exact XL.mp e
 ·rw[if_neg e1]at h1;rw[if_neg (λe=>e1 e.symm)];simp only[decide_eq_false_iff_not,decide_eq_true_eq]at *;lia
def QW{qs:List (Int×Str)}(nd:qs.Nodup):∀a∈qs.zip l,∀b∈qs.zip l,a.1=b.1->a=b:=by intro a ha b hb e;obtain⟨i,hi,rfl⟩:=YQ.mp ha;obtain⟨j,hj,rfl⟩:=YQ.mp hb;simp only[List.getElem_zip]at e ⊢;have:=(XW nd).mp e;subst this;rfl
def UU(nd:qs.Nodup){z:List ((Int×Str)×D)}(hp:z.Perm (qs.zip l))(hs:z.Pairwise λa b=>oA a b=true):z.map (·.2)=PD qs l:=by
 unfold PD;congr 1;have h2:((qs.zip l).mergeSort oA).Pairwise λa b=>oA a b=true:=xZ (λa b c h1 h2=>by
  unfold oA at *;simp only[yI]at *;refine yZ.mpr λh=>?_;by_cases e:a.1=b.1
  ·rw[e]at h;rw[h]at h2;cases h2
  ·have:=sD h (RD (λz=>e z.symm) h1);rw[this]at h2;cases h2) (λa b=>by
  unfold oA;by_cases e:a.1=b.1
  ·rw[e,EG];rfl
  · cases q:U2 b.1 a.1 with
    |false=>rfl
    |true=>
      have:U2 a.1 b.1=false:=by refine yZ.mpr λh=>?_;have:=sD q h;rw[EG]at this;cases this
      rw[this];rfl) _
 refine Jb (λa b ha hb h1 h2=>?_) hs h2 (hp.trans (jv _ _).symm);refine QW nd a (hp.mem_iff.mp ha) b ((jv _ _).mem_iff.mp hb) (js λn=>?_);unfold oA at *;simp only[yI]at *;have:=RD (λz=>n z.symm) h1;rw[this]at h2;cases h2
def Cx.rm(X:Cx)(A:jC):Cx:={X with A:=A,xe:=λ_ _=>False}
def Wb(I:Inv X Ee σ H s)(h1:A.handled=X.A.handled)(h2:A.frames=X.A.frames/\A.guards=X.A.guards):Inv (Cx.rm X A) Ee σ H s:=
 ⟨⟨I.ok.mod,I.ok.kind,I.ok.glob,I.ok.blt,I.ok.above,I.ok.inj,I.ok.has,I.ok.cab,λc=>h1.trans (I.ok.hd c),h2.1.trans I.ok.frames,I.ok.stk,I.ok.exf,I.ok.bs,I.ok.bsz,I.ok.noex,I.ok.exfs,I.ok.funs,I.ok.frf,h2.2.trans I.ok.gd⟩,I.os,I.bare,I.base,I.loc,I.cell,I.free,I.freeC,I.pin,I.hok,I.len⟩
def gz(I:Inv (Cx.rm X A) Ee σ H s)(h1:A.handled=X.A.handled)(h2:A.frames=X.A.frames/\A.guards=X.A.guards):Inv X Ee σ H s:=
 ⟨⟨I.ok.mod,I.ok.kind,I.ok.glob,I.ok.blt,I.ok.above,I.ok.inj,I.ok.has,I.ok.cab,λc=>h1.symm.trans (I.ok.hd c),h2.1.symm.trans I.ok.frames,I.ok.stk,I.ok.exf,I.ok.bs,I.ok.bsz,I.ok.noex,I.ok.exfs,I.ok.funs,I.ok.frf,h2.2.symm.trans I.ok.gd⟩,I.os,I.bare,I.base,I.loc,I.cell,I.free,I.freeC,I.pin,I.hok,I.len⟩
theorem qT(hF:u3 X.prog X.w X.K X.mg X.base CX0 k f fd ps (spD (wc X) 1 F))(hb:D7 X.K fd ps [])(hA:V7 k A)(h1:A.handled=X.A.handled)(h2:A.frames=X.A.frames/\A.guards=X.A.guards){a kS:Addr}{e1:Nat}
 (fa:∀H':Hp,H' a=none->N2 X Ee H' a) (fk:∀H':Hp,H' kS=none->N2 X Ee H' kS) (ne:a≠kS) {R:zD->Prop}
 (hbd:∀x s (R:zD->Prop),zw (zG X.prog X.w) A (call (.ref f) [x]) (λk s'=>∃ks e,Za ks<64/\s'.heap.get? kS=some (jN "list" (jw ks) e)/\R {s' with heap:=s'.heap.update kS (jG (·.push k))}) (λ_ _=>False) s->
   zw (zG X.prog X.w) A (body x ⟨⟩) (λr s'=>r= .yield ⟨⟩/\R s') E s):∀(r:List D) (rv:List V) ru (dn:List D) (dv:List V) (du:List zk) (e:Nat) (μ:List Addr) (G:DH) (H:Hp) (s:zD),
   m9 (wc X) μ H r rv->u9 rv ru->m9 (wc X) μ H dn dv->u9 dv du->v6 (wc X) μ G H->Inv X Ee σ H s->s.heap.get? kS=some (jN "list" (jw du) e)->s.heap.get? a=some (jN "list" #[] e1)->H a=none->H kS=none->du.length+ru.length<64->
   c7 (wc X) ZF μ H (t5 F r G) (λks X2 G' H'=>∀(s':zD) (kv:List V) (ku:List zk) (e':Nat),Ext μ H X2 H'->v6 (wc X) X2 G' H'->m9 (wc X) X2 H' (dn++ks) kv->u9 kv ku->Inv X Ee σ H' s'->s'.heap.get? kS=some (jN "list" (jw ku) e')->s'.heap.get? a=some (jN "list" #[] e1)->H' a=none->H' kS=none->R s')->
   zw (zG X.prog X.w) A (forIn ru PUnit.unit body) (λ_ s'=>R s') E s
 |[],_,_,dn,dv,du,e,μ,G,H,s,r1,r2,q1,q2,hr,I,g1,g2,n1,n2,hl,p=>by
   cases r1;cases r2
   rw[Jz];exact zi (c7.ok p hr s dv du e (Ext.refl _ _) hr (by rw[yV];exact q1) q2 I g1 g2 n1 n2)
 |d::r,_,_,dn,dv,du,e,μ,G,H,s,r1,r2,q1,q2,hr,I,g1,g2,n1,n2,hl,p=>by
   obtain⟨v,rv,rfl,rd,rr⟩:=r1
   cases r2 with
   |cons ru rur=>
   rename_i u ur;rw[Yw];have hfp:∀b∈ [a,kS],N2 X Ee H b:=λb hb=>by
    rcases zy.mp hb with rfl|hb
    ·exact fa H n1
    ·rw[zB]at hb;subst hb;exact fk H n2
   have IX:=Wb (I.pinned hfp (λb hb=>by
    rcases zy.mp hb with rfl|hb
    ·exact⟨_,g2,λv z=>by cases z⟩
    ·rw[zB]at hb;subst hb;exact⟨_,g1,λv z=>by cases z⟩)) h1 h2
   have pb:=gL (c7.bind p);have call:=dL (X:=Cx.rm X A) (Q:=λv' H'=>∃k X0 G1,Ext μ H X0 H'/\v6 (wc X) X0 G1 H'/\d8 (wc X) X0 H' k v'/\c7 (wc X) ZF X0 H' ((t5 F r >>= λks=>pure (k::ks)) G1) _) hF hA hb .nil uK IX (show u9 [v] [u]from .cons ru .nil)
    (⟨rfl, [d],μ,G,⟨v, [],rfl,rd,rfl⟩,hr,pb.mono λk X0 G1 H1 x1 hr1 p1 v' rv'=>⟨k,X0,G1,x1,hr1,rv',p1⟩⟩)
   refine za (jS (hbd u s (λs'=>zw (zG X.prog X.w) A (forIn ur PUnit.unit body) (λ_ s'=>R s') E s') (jS call (λkv s' hk=>?_) λ_ _ z=>z)) (λq s' hq=>?_) λ_ _ z=>z)
   · obtain⟨v',H',I',rv',k0,X0,G1,x1,hr1,rk,p1⟩:=hk;have I2:=gz I' h1 h2;obtain⟨g1',n2',_⟩:=I2.pin (kS,jN "list" (jw du) e) (zP _ (zP _ (sC (by simp) g1)));obtain⟨g2',n1',_⟩:=I2.pin (a,jN "list" #[] e1) (zP _ (zP _ (sC (by simp) g2)));rw[zM]at hl;refine⟨du,e,by lia,g1',?_⟩;have ea:(jw du).push kv=jw (du++[kv]):=by simp
     obtain⟨c2,hc2⟩:∃c2,(s'.heap.update kS (jG (·.push kv))).get? kS=some (jN "list" (jw (du++[kv])) c2):=⟨_,by rw[<-ea];exact get?_update_seq g1' (·.push kv)⟩;have I3:=eM (h':=s'.heap.update kS (jG (·.push kv))) (t':=s'.toks) I2.unpinned (λb hb=>by rw[zB]at hb;subst hb;exact fk H' n2') (λb o hb e=>by rw[zB]at hb;rw[xf _ _ _ _ hb];exact e)
     refine qT hF hb hA h1 h2 fa fk ne hbd r rv ur (dn++[k0]) (dv++[v']) (du++[kv]) c2 X0 G1 H' _ (rr.mono x1) rur (m9.append (q1.mono x1) ⟨v', [],rfl,rk,rfl⟩) (q2.append (show u9 [v'] [kv]from .cons rv' .nil)) hr1 I3 hc2 (by rw[xf _ _ _ _ ne];exact g2') n1' n2' (by rw[zJ,jI];lia) ?_;refine(c7.bind p1).mono λks WY G2 H2 x2 hr2 p2 s3 kv2 ku2 e2 x2' hr2' a1 a2 a3 a4 a5 a6 a7=>?_;exact c7.ok p2 hr2 s3 kv2 ku2 e2 (x1.trans x2) hr2 (by rw[yH]at a1;exact a1) a2 a3 a4 a5 a6 a7
   ·obtain⟨rfl,hq⟩:=hq;exact hq
def pq{ch:List Addr}(I:Inv X Ee σ H s)(hf:∀b∈ch,N2 X Ee H b)(ha:a∈ch)(k:∀b o,b∉ch->s.heap.get? b=some o->h'.get? b=some o)
 (new:U5 X.prog X.w (upd H a (.lst ws)) h' a (.lst ws)):Inv X Ee σ (upd H a (.lst ws)) {s with heap:=h',toks:=t'}:=by
 have hq:H a=none:=(hf a ha).1;have nch:∀b u,H b=some u->b∉ch:=λb u e z=>by rw[(hf b z).1]at e;cases e
 refine I.step (λb hb=>⟨(hf b hb).2.2.2.1,(hf b hb).2.1,(hf b hb).2.2.2.2.1,(hf b hb).2.2.2.2.2⟩) (λb o _ _ hc e _=>k b o hc e) (λb o _ _ hc e _=>⟨o.slots,k b o hc e⟩)
  (λb o hc e n=>by rw[J0 (λz=>hc (by rw[z];exact ha))];exact n) (λb o hc e=>⟨o,k b o hc e⟩) (λb xs e=>by rw[J0 (J1 e hq)];exact e) (λb o u e=>by rw[J0 (J1 e hq)];exact e)
  (λb ps e=>⟨#[],by rw[J0 (J1 e hq),e];simp⟩) (λm hm=>?_) (λb u e=>?_) I.bare
 ·obtain⟨o,es,ep,ho,r⟩:=hm;exact⟨o,es,ep,k _ o (λz=>(hf _ z).2.1 rfl) ho,r⟩
 · by_cases hb:b=a
   · subst hb;rw[Q6]at e
     cases e
     exact new
   · rw[J0 hb]at e;refine(I.hok b u e).stay (λc v hc q=>k c v ?_ q) (λc q=>by rw[J0 (J1 q hq)];exact q) λc xs q=>by rw[J0 (J1 q hq)];exact q
     rcases hc with z|z
     ·rw[z];exact nch b u e
     ·exact nch c _ z
def gC(h:Heap)(u:zk)(q:Int×Str):Prop:=∃a t t',u= .ref a/\Xg h a #[.int q.1 t,.str q.2 t']
def pC(u:zk)(q:Int×Str):Prop:=∃t,q.1=0/\u= .str q.2 t
def EA(P:zk->Int×Str->Prop)(ku:List zk)(qs:List (Int×Str)):Prop:=∀(i:Nat) (q:Int×Str),qs[i]? =some q->∃u,ku[i]? =some u/\P u q
theorem DJ{g:D->Option (Int×Str)}{P:zk->Int×Str->Prop}(hg:∀d q v u,g d=some q->d8 (wc X) μ H d v->J5 v u->P u q):∀ {ks qs kv ku},kA g ks=some qs->m9 (wc X) μ H ks kv->u9 kv ku->qs.length=ku.length/\EA P ku qs
 |[],qs,kv,ku,e,r,rv=>by
   cases e;cases r;cases rv
   exact⟨rfl,λi q z=>by simp at z⟩
 |d::r,qs,kv,ku,e,rr,rv=>by
   obtain⟨v,tl,rfl,rd,rt⟩:=rr
   cases rv with
   |cons ru rur=>
   rename_i u ur;unfold kA at e;rcases h1:g d with _|a
   ·rw[h1]at e;cases e
   rcases h2:kA g r with _|b
   ·rw[h1,h2]at e;cases e
   rw[h1,h2]at e
   cases e
   obtain⟨hl,hk⟩:=DJ hg h2 rt rur;refine⟨by simp[hl],λi q z=>?_⟩
   cases i with
   |succ i=>simpa using hk i q (by simpa using z)
   |zero=>
     simp at z;subst z;exact⟨u,rfl,hg d a v u h1 rd ru⟩
def Sf(I:Inv X Ee σ H s){ks qs kv ku}(e:KC ks=some qs)(rr:m9 (wc X) μ H ks kv)(rv:u9 kv ku):qs.length=ku.length/\(EA (gC s.heap) ku qs\/EA pC ku qs):=by
 unfold KC at e;rcases h:kA SH ks with _|q
 · rw[h]at e;have:=DJ (P:=pC) (λd q v u h1 rd ru=>by
    rcases d with _|_|_|x|_|_|_|_<;>try (cases h1;done)
    cases h1
    rw[D3 rd]at ru;obtain⟨t,rfl⟩:=ru;exact⟨t,rfl,rfl⟩) e rr rv
   exact⟨this.1,.inr this.2⟩
 · rw[h]at e
   cases e
   have:=DJ (P:=gC s.heap) (λd q v u h1 rd ru=>by
    unfold SH at h1;split at h1
    · cases h1
      unfold d8 at rd;obtain⟨ad,vs,rfl,q,rl⟩:=rd;obtain⟨v1,t1,rfl,e1,v2,t2,rfl,e2,e3⟩:=rl
      cases e3
      rw[U1 e1,D3 e2]at q
      cases ru
      obtain⟨Ef,rvs,tp,_⟩:=I.tuple q
      cases rvs with
      |cons r1 rr1=>
        cases rr1 with
        |cons r2 rr2=>
          cases rr2
          obtain⟨t,rfl⟩:=r1;obtain⟨t',rfl⟩:=r2;exact⟨ad,t,t',rfl,tp⟩
    ·cases h1) h rr rv
   exact⟨this.1,.inl this.2⟩
def qV(hx:pC u q)(hy:pC u' q')(h:C (U2 q q') s):zw (zG prog w) A (keyLt' oneType' u u') C E s:=by obtain⟨t,e,rfl⟩:=hx;obtain⟨t',e',rfl⟩:=hy;rw[keyLt'_oneType];unfold U2 at h;rw[if_pos (e.trans e'.symm)]at h;exact oneLt_str h
def vo(hx:gC s.heap u q)(hy:gC s.heap u' q')(h:C (U2 q q') s):zw (zG prog w) A (keyLt' (tuples' true) u u') C E s:=by
 obtain⟨a,t,t',rfl,o,ho,hc,n,hd⟩:=hx;obtain⟨b,v,v',rfl,o2,Go,hc2,n2,hd2⟩:=hy;refine PySem.W.kat_lt ho hd Go hd2 ?_;show PySem.W.KatLex prog w A true _ C [(.int q.1 t,.int q'.1 v),(.str q.2 t',.str q'.2 v')] 0 s;refine PySem.W.kat_cons (PySem.wpAny_eqBool_int (PySem.W.kat_go (λe=>?_) λe=>?_))
 · have e1:q.1=q'.1:=by simpa using e
   refine PySem.W.kat_yes (PySem.W.kat_cons (eqBool_str (PySem.W.kat_go (λe=>?_) λe=>?_)))
   · have e2:q.2=q'.2:=by simpa using e
     have eq:q=q':=XF e1 e2;refine PySem.W.kat_yes (PySem.W.kat_nil ?_);rw[eq,EG]at h;exact h
   ·refine PySem.W.kat_no (PySem.W.kat_one _ _ (PySem.P.lt_str ?_));unfold U2 at h;rw[if_pos e1]at h;exact h
 · have e1:¬q.1=q'.1:=by simpa using e
   refine PySem.W.kat_no ?_;show zw (zG prog w) A (oneLt' true _ _) C _ s;rw[<-keyLt'_oneType];refine PySem.W.kat_lt_int ?_;unfold U2 at h;rw[if_neg e1]at h;exact h
def aR{st:SortSt}(hout:(Xf st).map (·.2)=jw out)(hz:out.length<64)(hkz:ku.length<64)(hf:failedOf st=none)(ho1:s.heap.get? kS=some (jN "list" (jw ku) e))(Go:s.heap.get? a=some (jN "list" #[] e1))(ne:a≠kS)
 (h:∀(h':Heap) (e':Nat),(∀b o,b∉ [a,kS]->s.heap.get? b=some o->h'.get? b=some o)->h'.get? a=some (jN "list" (jw out) e')->P (.done (.ret .none)) {s with heap:=h'}):zw (zG prog w) A (ksk_tail a false e1 (.ref kS) st) P E s:=by
 have na:(s.heap.update kS (jG λ_=>(#[]:Array zk))).get? a=some (jN "list" #[] e1):=by rw[xf _ _ _ _ ne];exact Go
 obtain⟨c2,hc2⟩:∃c2,((s.heap.update kS (jG λ_=>(#[]:Array zk))).update a (jG λ_=>jw out)).get? a=some (jN "list" (jw out) c2):=⟨_,get?_update_seq na λ_=>jw out⟩;unfold ksk_tail
 try dsimp only
 rw[hout];refine za (XU ho1 rfl ?_ (by rw[zo,yR];lia) (zY _));refine za (xR ?_);refine za (seqEpoch_at na rfl ?_);refine za (XU na rfl ?_ (zY _) (zK (xP (zo ..)) (by rw[yR];lia)));rw[hf];simp only[bne_self_eq_false,jo,if_false];refine zi (h _ c2 (λb o hb eo=>?_) hc2);have Hi:b≠a/\b≠kS:=by simpa using hb
 rw[xf _ _ _ _ Hi.1,xf _ _ _ _ Hi.2];exact eo
def Gk{qs:List (Int×Str)}{ku:List zk}(hq:qs.length=ku.length)(h2:2<=ku.length)(hk:EA (gC s.heap) ku qs\/EA pC ku qs):∃kd,(∀(Q:SortKind->zD->Prop) (E:VSP),Q kd s->zw (zG prog w) A (keyKind' ku.toArray) Q E s)/\∀(i j:Nat) q q' C,qs[i]? =some q->qs[j]? =some q'->C (U2 q q') s->XI prog w A kd ku i j C s:=by
 rcases hk with hk|hk
 · obtain⟨fs,T,hfs,hT⟩:∃fs:List zk,PySem.W.KatTups s.heap ku fs/\0<fs.length/\∀v∈fs,∃n t,v= .int n t:=by
    have gen:∀(ku:List zk) (qs:List (Int×Str)),qs.length=ku.length->EA (gC s.heap) ku qs->∃fs:List zk,PySem.W.KatTups s.heap ku fs/\fs.length=ku.length/\∀v∈fs,∃n t,v= .int n t:=by
     intro ku
     induction ku with
     |nil=>exact λqs _ _=>⟨[],trivial,rfl,λv hv=>by cases hv⟩
     |cons u r ih=>
       intro qs hl hk;rcases qs with _|⟨q,qr⟩
       ·simp at hl
       obtain⟨u',e1,ad,t,t',rfl,o,ho,hc,n,hd⟩:=hk 0 q rfl;simp at e1;subst e1;obtain⟨fs,f1,f2,f3⟩:=ih qr (by simpa using hl) λi q hq=>by simpa using hk (i+1) q (by simpa using hq)
       refine⟨.int q.1 t::fs,PySem.W.KatTups.cons ho hc hd rfl f1,by simp[f2],λv hv=>?_⟩;rcases zy.mp hv with rfl|hv
       ·exact⟨_,_,rfl⟩
       ·exact f3 v hv
    obtain⟨fs,f1,f2,f3⟩:=gen ku qs hq hk;exact⟨fs,f1,by lia,f3⟩
   refine⟨_,λQ E h=>PySem.W.kat_kind (T:=.type "int") T hfs (λv hv=>?_) (by decide) h,λi j q q' C e1 e2 hC=>?_⟩
   ·obtain⟨n,t,rfl⟩:=hT v hv;exact PySem.W.Looks.of_pure rfl
   ·obtain⟨u,u1,u2⟩:=hk i _ e1;obtain⟨v,v1,v2⟩:=hk j _ e2;unfold XI;rw[jb,jb,u1,v1];exact vo u2 v2 hC
 · have gen:∀(ku:List zk) (qs:List (Int×Str)),qs.length=ku.length->EA pC ku qs->StrsAre ku (qs.map (·.2)):=by
    intro ku
    induction ku with
    |nil=>
      intro qs hl _;rcases qs with _|⟨q,r⟩
      ·exact .nil
      ·simp at hl
    |cons u r ih=>
      intro qs hl hk;rcases qs with _|⟨q,qr⟩
      ·simp at hl
      obtain⟨u',e1,t,_,rfl⟩:=hk 0 q rfl;simp at e1;subst e1;exact .cons q.2 t (ih qr (by simpa using hl) λi q hq=>by simpa using hk (i+1) q (by simpa using hq))
   have hS:=gen ku qs hq hk;refine⟨oneType',λQ E h=>?_,λi j q q' C e1 e2 hC=>?_⟩
   · rcases ku with _|⟨v1,_|⟨v2,vr⟩⟩
     ·simp at h2
     ·simp at h2
     ·rw[Jo hS];exact zi h
   ·obtain⟨u,u1,u2⟩:=hk i _ e1;obtain⟨v,v1,v2⟩:=hk j _ e2;unfold XI;rw[jb,jb,u1,v1];exact qV u2 v2 hC
def AY{e e1:Nat}{ku vs:List zk}{qs:List (Int×Str)}(hl:ku.length=vs.length)(Gs:vs.length<64)(hq:qs.length=ku.length)(hk:EA (gC s.heap) ku qs\/EA pC ku qs)(nd:qs.Nodup)
 (ho1:s.heap.get? kS=some (jN "list" (jw ku) e)) (Go:s.heap.get? a=some (jN "list" #[] e1)) (ne:a≠kS)
 (h:∀(h':Heap) (e':Nat) (p:List Nat),p.Perm (ji vs.length)->p.Pairwise (λi j=>U2 (qs.getD i (0, "")) (qs.getD j (0, ""))=true)->(∀b o,b∉ [a,kS]->s.heap.get? b=some o->h'.get? b=some o)->h'.get? a=some (jN "list" (jw (p.map λi=>vs.getD i Value.none)) e')->P (.done (.ret .none)) {s with heap:=h'}):
 zw (zG prog w) A (ksk_end a false vs.toArray e1 (.ref kS) (jw ku)) P E s:=by
 unfold ksk_end
 try dsimp only
 simp only[jo,if_false];by_cases h2:vs.toArray.size<2
 · rw[if_pos h2,if_pos h2];refine za (zi ?_);rw[StateT.run_pure];refine za (zi ?_);dsimp only;have hv:(Xf (SortSt.mk' general' ((jw ku).zip vs.toArray) #[] 7 none)).map (·.2)=jw ((ji vs.length).map λi=>vs.getD i Value.none):=by
    show ((jw ku).zip vs.toArray).map (·.2)=_;apply XL.mp;rw[Array.toList_map];apply xL
    ·simp[hl]
    ·intro i hi hj;simp at hi hj ⊢;simp[hj]
   refine aR hv (by simp;lia) (by lia) rfl ho1 Go ne λh' e' k1 k2=>h h' e' _ (List.Perm.refl _) ?_ k1 k2;have:vs.length<2:=by simpa using h2
   match hn:vs.length,this with
   |0,_=>simp
   |1,_=>simp[List.range_succ]
 · rw[if_neg h2,if_neg h2];have hn2:2<=vs.length:=by simpa using h2
   let lt:Nat->Nat->Bool:=λi j=>U2 (qs.getD i (0, "")) (qs.getD j (0, ""))
   have gq:∀i,i<vs.length->qs[i]? =some (qs.getD i (0, "")):=λi hi=>by rw[jb,zj (by lia)];rfl
   have O:dA lt vs.length:=⟨λi j k h1 h2=>sD h1 h2,λi j hi hj hij h=>RD (λee=>hij ?_) h⟩
   case refine_1=>
    have e1:=gq i hi;have e2:=gq j hj;rw[ee]at e1;have li:i<qs.length:=by lia
    exact(List.getElem?_inj li nd).mp (e1.trans e2.symm)
   obtain⟨kd,hkd,Eo⟩:=Gk hq (by lia) hk;refine za (hkd _ _ ?_)
   · have run:=tOk.wp (λi j C hi hj hC=>Eo i j _ _ C (gq i hi) (gq j hj) hC) _ (PX O hn2);refine za (jS (PySem.W.kat_run (Q:=λEw s'=>∃p:Array Nat,p.size=vs.length/\Xf Ew=p.map (PySem.W.kas_item ((jw ku).zip vs.toArray))/\failedOf Ew=none/\s'=s/\L3 p vs.length/\C7 lt p vs.length) hl hn2 Gs (λp Ew s' a1 a2 a3 a4=>⟨p,a1,a2,a3,a4⟩) run) ?_ λ_ _ x=>x);rintro⟨⟨⟩,Ew⟩ s' ⟨p,hp,har,hf,rfl,P1,U⟩
     try dsimp only
     refine aR (PySem.W.kat_snds hl har) (by rw[zg,zL,hp];exact Gs) (by lia) hf ho1 Go ne λh' e' k1 k2=>h h' e' p.toList P1.pm ?_ k1 k2;rw[List.pairwise_iff_getElem];intro i j hi hj hij;have hi':i<p.size:=by simpa using hi
     have hj':j<p.size:=by simpa using hj
     have:=U i j hij (by lia);simpa [Xn,hi',hj',lt]using this
def ag{p:List Nat}{l:List α}(h:p.Perm (ji n))(hn:l.length=n):(p.map λi=>l.getD i d).Perm l:=by
 have e:(ji n).map (λi=>l.getD i d)=l:=by
  apply xL
  ·simp[hn]
  ·intro i hi hj;simp[hj]
 have:=h.map λi=>l.getD i d;rw[e]at this;exact this
def pL{qs:List (Int×Str)}{l:List D}(h1:i<qs.length)(h2:i<l.length):(qs.zip l).getD i ((0, ""),.non)= (qs[i],l[i]):=by rw[jb,zj (by simp;lia),List.getElem_zip];rfl
def Tv{qs:List (Int×Str)}{vs:List zk}{p:List Nat}(hl:qs.length=l.length)(rl:m9 (wc X) μ H l ws)(rv:u9 ws vs)(nd:qs.Nodup)(hp:p.Perm (ji vs.length))(hs:p.Pairwise (λi j=>U2 (qs.getD i (0, "")) (qs.getD j (0, ""))=true)):
 ∃ws',u9 ws' (p.map λi=>vs.getD i Value.none)/\m9 (wc X) μ H (PD qs l) ws'/\ws'.length=vs.length:=by
 have hlv:l.length=vs.length:=by rw[rl.length,rv.length]
 have hz:(qs.zip l).length=vs.length:=by simp[hl,hlv]
 have e:=UU nd (ag hp hz) (by
  rw[yh];refine hs.imp_of_mem λ{i j} hi hj h=>?_;have li:i<vs.length:=by simpa using hp.mem_iff.mp hi
  have lj:j<vs.length:=by simpa using hp.mem_iff.mp hj
  have ei:((qs.zip l).getD i ((0, ""),.non)).1=qs.getD i (0, ""):=by rw[pL (by lia) (by lia),jb,zj (by lia)];rfl
  have ej:((qs.zip l).getD j ((0, ""),.non)).1=qs.getD j (0, ""):=by rw[pL (by lia) (by lia),jb,zj (by lia)];rfl
  unfold oA;rw[ei,ej];simp only[yI];refine yZ.mpr λh2=>?_;have:=sD h h2;rw[EG]at this;cases this)
 rw[jZ]at e;have main:∀p:List Nat,(∀i∈p,i<vs.length)->∃ws',u9 ws' (p.map λi=>vs.getD i Value.none)/\m9 (wc X) μ H (p.map λi=>((qs.zip l).getD i ((0, ""),.non)).2) ws'/\ws'.length=p.length:=by
  intro p
  induction p with
  |nil=>exact λ_=>⟨[],.nil,rfl,rfl⟩
  |cons i r ih=>
    intro hi;obtain⟨ws',a1,a2,a3⟩:=ih λj hj=>hi j (zA _ hj);have li:=hi i (by simp);obtain⟨v,e1,r1⟩:=rl.get (d:=l[i]'(by lia)) (zj (by lia));obtain⟨u,e2,r2⟩:=rv.get e1;refine⟨v::ws',?_,⟨v,ws',rfl,?_,a2⟩,by simp[a3]⟩
    · have:vs.getD i Value.none=u:=by rw[jb,e2];rfl
      rw[zO,this];exact .cons r2 a1
    · have:((qs.zip l).getD i ((0, ""),.non)).2=l[i]'(by lia):=by rw[pL (by lia) (by lia)]
      show d8 (wc X) μ H (((qs.zip l).getD i ((0, ""),.non)).2) v;rw[this];exact r1
 obtain⟨ws',a1,a2,a3⟩:=main p λi hi=>by simpa using hp.mem_iff.mp hi
 exact⟨ws',a1,by rw[<-e];exact a2,by rw[a3,hp.length_eq];simp⟩
def tU(hF:u3 X.prog X.w X.K X.mg X.base CX0 k f fd ps (spD (wc X) 1 F))(hb:D7 X.K fd ps [])(hrm:V7 (k+2) X.A)(I:Inv X Ee σ H s)(hr:v6 (wc X) μ G H)(Gs:l.length<64)
 (hcol:∀Q',(∀h1 tk vs ws,(∀b o,s.heap.get? b=some o->h1.get? b=some o)->u9 ws vs->m9 (wc X) μ H l ws->Q' vs {s with heap:=h1,toks:=tk})->zw (zG X.prog X.w) X.A.in1 (collect u) Q' X.xe s)
 (p:c7 (wc X) Z μ H (dB F l G) (λd X2 _ H'=>∀v,d8 (wc X) X2 H' d v->Q v H')):zw (zG X.prog X.w) X.A (call (.builtin "sorted") [u] [(jp "key",.ref f)]) (EP X Ee σ Q) X.xe s:=by
 refine call_function_entry_kw JZ Jn Jp (ksk_s1 _ _) ?_;unfold yg.«sorted»;refine za (zi ?_);refine za (hcol _ λh1 tk vs ws k1 rv rl=>?_);have hlv:l.length=vs.length:=by rw[rl.length,rv.length]
 refine za (Zb ?_ (by rw[yR];lia));have I1:Inv X Ee σ H {s with heap:=h1,toks:=tk}:=I.kept k1;have hoL:(h1.push (jN "list" vs.toArray 0)).get? h1.objs.size=some (jN "list" vs.toArray 0):=zt _ rfl;refine za (jB (wpAny_call_entry_kw Xu ⟨_,hoL,rfl⟩ Xe ?_ (ksk_l1 _ _)));show zw (zG X.prog X.w) X.A.in1.in1 (yg.«list.sort» ⟨[.ref h1.objs.size], [(jp "key",.ref f)]⟩) _ _ _;rw[ksk_t1];unfold ksk_tree;refine za (listItems_at hoL rfl ?_);refine za (XU hoL rfl ?_ (by rw[zo,yR];lia) (zY _));obtain⟨e1,ho1⟩:∃e1,((h1.push (jN "list" vs.toArray 0)).update h1.objs.size (jG λ_=>(#[]:Array zk))).get? h1.objs.size=some (jN "list" #[] e1):=⟨_,get?_update_seq hoL λ_=> #[]⟩;refine za (seqEpoch_at ho1 rfl ?_);refine za (wpAny_newTuple ?_ (by show vs.length<=_;rw[yR];lia));refine za (Zb ?_ (zY _));refine jB ?_;have hsz:((h1.push (jN "list" vs.toArray 0)).update h1.objs.size (jG λ_=>(#[]:Array zk))).objs.size=h1.objs.size+1:=by rw[Heap.size_update,Yd]
 have hkS:(((h1.push (jN "list" vs.toArray 0)).update h1.objs.size (jG λ_=>(#[]:Array zk))).push (jN "tuple" vs.toArray 0)).objs.size=h1.objs.size+2:=by rw[Yd,hsz]
 have keep:∀b o,h1.get? b=some o->((((h1.push (jN "list" vs.toArray 0)).update h1.objs.size (jG λ_=>(#[]:Array zk))).push (jN "tuple" vs.toArray 0)).push (jN "list" #[] 0)).get? b=some o:=λb o q=>by have Eo:b<h1.objs.size:=zu q;rw[xC _ _ _ (by rw[hkS];exact zE (jR (jR Eo))),xC _ _ _ (by rw[hsz];exact zE (jR Eo)),xf _ _ _ _ (zE Eo),xC _ _ _ (zE Eo)];exact q
 have I2:Inv X Ee σ H {s with heap:=(((h1.push (jN "list" vs.toArray 0)).update h1.objs.size (jG λ_=>(#[]:Array zk))).push (jN "tuple" vs.toArray 0)).push (jN "list" #[] 0),toks:=tk}:=I1.kept keep;have na:H h1.objs.size=none:=I1.hok.fresh (zp _);have nk:H (h1.objs.size+2)=none:=I1.hok.fresh (jr _ _);have ga:((((h1.push (jN "list" vs.toArray 0)).update h1.objs.size (jG λ_=>(#[]:Array zk))).push (jN "tuple" vs.toArray 0)).push (jN "list" #[] 0)).get? h1.objs.size=some (jN "list" #[] e1):=zh _ (zh _ ho1);have gk:((((h1.push (jN "list" vs.toArray 0)).update h1.objs.size (jG λ_=>(#[]:Array zk))).push (jN "tuple" vs.toArray 0)).push (jN "list" #[] 0)).get? (h1.objs.size+2)=some (jN "list" (jw []) 0):=by rw[<-hkS];exact zt _ rfl
 have fa:∀H':Hp,H' h1.objs.size=none->N2 X Ee H' h1.objs.size:=λH' hn=>I1.fpOk (zp _) hn;have fk:∀H':Hp,H' (h1.objs.size+2)=none->N2 X Ee H' (h1.objs.size+2):=λH' hn=>I1.fpOk (jr _ _) hn;have ne:h1.objs.size≠h1.objs.size+2:=by lia
 unfold dB at p;have pk:c7 (wc X) ZF μ H (t5 F l G) (λks X2 G' H'=>ks.length=l.length/\c7 (wc X) Z X2 H' ((S1 (KC ks) >>= λqs=>if qs.Nodup then M5 (.lst (PD qs l))else M.stuck) G') (λd X2 _ H'=>∀v,d8 (wc X) X2 H' d v->Q v H')):=by
  have q:=c7.bind p;have hkl:∀(l:List D) (G:DH) (ks:List D) (G':DH),t5 F l G=some (.ok ks,G')->ks.length=l.length:=by
   intro l
   induction l with
   |nil=>intro G ks G' z;cases z;rfl
   |cons d r ih=>
     intro G ks G' z;unfold t5 at z;rw[M.bind_eq]at z
     match h:noX (F [d]) G,z with
     |some (.ok kk,G1),z=>
       dsimp only at z;rw[M.bind_eq]at z
       match h2:t5 F r G1,z with
       |some (.ok ks,G2),z=>
         cases z
         simp[ih _ _ _ h2]
  have kne:∀(l:List D) (G:DH) (x:Str) (G':DH),t5 F l G≠some (.error x,G'):=by
   intro l
   induction l with
   |nil=>intro G x G' z;cases z
   |cons d r ih=>
     intro G x G' z;unfold t5 at z;rw[M.bind_eq]at z;have nx:∀x G',noX (F [d]) G≠some (.error x,G'):=λx G' z=>by
      unfold noX at z
      try dsimp only at z
      split at z<;>cases z
     match h:noX (F [d]) G,z with
     |some (.error y,G1),z=>exact nx _ _ h
     |some (.ok kk,G1),z=>
       dsimp only at z;rw[M.bind_eq]at z
       match h2:t5 F r G1,z with
       |some (.error y,G2),z=>exact ih _ _ _ h2
       |some (.ok ks,G2),z=>cases z
  match hh:t5 F l G,q with
  |some (.ok ks,G1),q=>exact λX2 H' x h=>⟨hkl _ _ _ _ hh,q X2 H' x h⟩
  |some (.error x,G1),q=>exact(kne _ _ _ _ hh).elim
 rw[hkS];show zw (zG X.prog X.w) X.A.in1.in1 (ksk_rest h1.objs.size (.ref f) false vs.toArray e1 (.ref (h1.objs.size+2))) _ _ _;unfold ksk_rest;refine za (yS ?_)
 first
  |rw[List.forIn_toArray]
  |(rw[<-Array.forIn_toList];simp only[List.toList_toArray])
  |rw[<-Array.forIn_toList]
 refine za (qT (σ:=σ) hF hb hrm.in1.in1 rfl ⟨rfl,rfl⟩ fa fk ne (λx s0 R hx=>?_) l ws vs [] [] [] 0 μ G H _ rl rv rfl .nil hr I2 gk ga na nk (by simp;lia) ?_)
 · refine za (Zc (jS hx (λkv s'' hk=>?_) λ_ _ hF=>hF.elim));obtain⟨ks,e,hks,g,hR⟩:=hk
   try dsimp only
   refine za (XU g rfl ?_ (by rw[zo,yR];lia) (zK (xP (Array.size_push ..)) (by rw[zo,yR];lia)));exact zi ⟨rfl,hR⟩
 · refine pk.mono λks X2 G' H' x1 hr1 ⟨hks,p1⟩ s' kv ku e' _ _ q1 q2 I' g1 g2 n1 n2=>?_;rw[xw]at q1;obtain⟨qs,eq,p2⟩:=S8 p1;split at p2
   case isFalse=>exact p2.elim
   rename_i nd;obtain⟨Ha,hk1⟩:=Sf I' eq q1 q2
   try dsimp only
   refine za (listItems_at g1 rfl ?_);have hkv:ku.length=vs.length:=by rw[<-q2.length,<-q1.length,hks,hlv]
   refine AY hkv (by lia) Ha hk1 nd g1 g2 ne λh' e2 pp hp hs keep2 gg=>?_;have Eu:m9 (wc X) X2 H' l ws:=rl.mono x1;obtain⟨ws',a1,a2,a3⟩:=Tv (by rw[Ha,hkv,hlv]) Eu rv nd hp hs;refine⟨_,rfl,zi ⟨_,rfl,.ref h1.objs.size,upd H' h1.objs.size (.lst ws'),pq I' (λb hb=>?_) (by simp) keep2 ⟨by rw[a3,yR];lia,_,e2,a1,gg⟩,rfl,U9 hr1 a2 p2 _ n1⟩⟩;rcases zy.mp hb with rfl|hb
   ·exact fa _ n1
   ·rw[zB]at hb;subst hb;exact fk _ n2
def nW(hc:X.calm=true)(hF:u3 X.prog X.w X.K X.mg X.base CX0 k f fd ps (spD (wc X) 1 F))(hb:D7 X.K fd ps [])(hrm:V7 (k+2) X.A)(I:Inv X Ee σ H s)(hr:v6 (wc X) μ G H)(rd:d8 (wc X) μ H d v)(ru:J5 v u)
 (p:c7 (wc X) Z μ H (wA F d G) (λd X2 _ H'=>∀v,d8 (wc X) X2 H' d v->Q v H')):zw (zG X.prog X.w) X.A (call (.builtin "sorted") [u] [(jp "key",.ref f)]) (EP X Ee σ Q) X.xe s:=by
 have seq:∀ {a:Addr} {T:String} {o:Obj} {Ef:List zk} {vs:List V} {n:Nat} {l:List D},(T= "list"\/T= "tuple")->s.heap.get? a=some o->o.cls= .type T->o.data= .seq Ef.toArray n->u9 vs Ef->m9 (wc X) μ H l vs->vs.length<=zq->
  c7 (wc X) Z μ H ((if l.length<64 then dB F l else M.stuck:M D) G) (λd X2 _ H'=>∀v,d8 (wc X) X2 H' d v->Q v H')->zw (zG X.prog X.w) X.A (call (.builtin "sorted") [.ref a] [(jp "key",.ref f)]) (EP X Ee σ Q) X.xe s:=by
  intro a T o Ef vs n l hT h1 h2 h3 rv rl hz p;split at p
  case isFalse=>exact p.elim
  rename_i Gs;refine tU hF hb hrm I hr Gs (λQ' hQ=>wpAny_collect_seq a hT h1 h2 h3 (λh' kk=>?_) (by rw[zo,<-rv.length];exact hz)) p;exact hQ h' s.toks Ef vs kk rv rl
 unfold wA at p;split at p
 · rename_i l;unfold d8 at rd;obtain⟨a,vs,rfl,q,rl⟩:=rd
   cases ru
   obtain⟨Ef,rv,⟨o,h1,h2,n,h3⟩,hz⟩:=I.tuple q;exact seq (.inr rfl) h1 h2 h3 rv rl hz p
 · rename_i i;unfold d8 at rd;obtain⟨a,m,rfl⟩:=rd
   cases ru
   obtain⟨o,g,p1⟩:=K4 p;have ro:=hr.obj i o a g m;rcases o with l|l|l|l
   ·
     obtain⟨vs,q,rl⟩:=ro;obtain⟨Ef,rv,pl,hz⟩:=I.list (SqL.of q);obtain⟨o,h1,h2,n,h3⟩:=pl.isList;exact seq (.inl rfl) h1 h2 h3 rv rl hz p1
   ·exact p1.elim
   ·
     obtain⟨Eg,q,rk⟩:=ro;obtain⟨ss,es,p2⟩:=S8 p1;split at p2
     case isFalse=>exact p2.elim
     rename_i Gs;obtain⟨z,hd,vs,rel,dd⟩:=aD I.hok q;obtain⟨ep,hat⟩:=dd.dictAt;have hn:vs.length=ss.length:=by rw[LJ es,<-rel.length,<-rk.length]
     refine tU hF hb hrm I hr (by simpa using Gs) (λQ' hQ=>PySem.W.kdu_collect (PySem.W.kdl_dict hd) (I.ok.hd hc) hat (by rw[yR];omega) λh1 tk Ek hk Fa=>?_) p2;have hS:StrsAre Ek.toList ss:=FM es rk rel (by rw[zL];exact Fa.1) λj v e=>Fa.2 j v (by rw[<-jz];exact e);obtain⟨ws,ew,rv,rl2⟩:=gF (μ:=μ) hS;exact hQ h1 tk Ek.toList ws hk rv rl2
   ·exact p1.elim
 ·exact p.elim
def SV(hc:X.calm=true)(hF:∃k kk,pB F 1 x X.prog X.w X.K X.mg X.base k/\V7 kk X.A/\k+2<=kk)(Ho:BLs X.mg)(hgs:Gl X "sorted")(hg:Gl X x)(he:DE X Z e fe)(hs:S6 e=true)(hdb:(x==("__debug__" :Str))=false):
 DE X Z (.Call (.Name "sorted" p) [e] [⟨some "key",.Name x pf,kp⟩] pos) (uB F fe):=⟨by
 intro Ee s σ H Q I h;obtain⟨k,kk,hF,hrm,hk⟩:=hF;obtain⟨f,fd,ps,f1,f2,f3,f4⟩:=hF.ex;have hbs:je ("sorted" :Str)=some (.builtin "sorted"):=cL;refine yp (E7 I hgs (Ho.h _ (by decide +kernel)) hbs ?_ (by decide) (by decide));obtain⟨X9,μ,G,sr,hr,pp⟩:=h;unfold uB at pp;have pa:=c7.bind pp;have hst:zW [e] X.env= (false,eval e X.env)::zW [] X.env:=P8 hs;refine callWith_builtin_kwB (by rw[LF];exact MC (by rw[yt,hs];rfl)) rfl (evalArgs_kw2 rfl ?_ hst);have ha:DA X Z [e] (B1 fe L0):=GJ he bM hst;refine thn (ha.h pos Ee s σ H (λvs H1=>∃v d X0 G1,vs= [v]/\d8 (wc X) X0 H1 d v/\v6 (wc X) X0 G1 H1/\c7 (wc X) Z X0 H1 (wA F d G1) (λd X2 _ H'=>∀v,d8 (wc X) X2 H' d v->Q v H')) I ?_) λus s1 ⟨vs,H1,I1,r1,v,d,X0,G1,e1,rd,hr1,p1⟩=>?_
 · refine⟨X9,μ,G,sr,hr,?_⟩;show c7 (wc X) Z μ H ((fe X9 >>= λy=>(pure [y]:M (List D))) G) _
   match hm:fe X9 G,pa with
   |some (.ok y,G1),pa=>
     rw[M.bind_ok hm];intro X2 H' x1 h1 vs rv;obtain⟨v,ev,rv2⟩:=F3 rv;subst ev;exact⟨v,y,X2,G1,rfl,rv2,h1,pa X2 H' x1 h1⟩
   |some (.error y,G1),pa=>
     rw[M.bind_eq,hm];exact pa
 ·subst e1;obtain⟨u,rfl,ru⟩:=S3 r1;show zw _ _ (evalAll [(do let v <-eval (.Name x pf) X.env;standAt pos;pure v)]) _ _ s1;refine wpAny_evalAll_cons (za (AG I1 hg f2 (za (Ys (zi (wpAny_evalAll_nil ?_)))) hdb));exact nW hc f1 f4 (hrm.mono hk) I1 hr1 rd ru p1⟩
def CR(K:zn)(mg:Str->Option zk)(d:D)(u:zk):Prop:=∃v,J5 v u/\∀ μ H,d8 ⟨K,mg⟩ μ H d v
def CRL(K:zn)(mg:Str->Option zk)(l:List D)(us:List zk):Prop:=∃vs,u9 vs us/\∀ μ H,m9 ⟨K,mg⟩ μ H l vs
section
variable{K:zn}{mg:Str->Option zk}
def cr_str:CR K mg (.str x) (.str x t):=⟨.str x,⟨t,rfl⟩,λμ H=>by unfold d8;rfl⟩
def cr_int:CR K mg (.int i) (.int i t):=⟨.int i,⟨t,rfl⟩,λμ H=>by unfold d8;rfl⟩
def cr_bl:CR K mg (.bl b) (.bool b):=⟨.bl b,rfl,λμ H=>by unfold d8;rfl⟩
def cr_non:CR K mg .non .none:=⟨.non,rfl,λμ H=>by unfold d8;rfl⟩
def crl_nil:CRL K mg [] []:=⟨[],.nil,λ_ _=>rfl⟩
def crl_cons(h:CR K mg d u)(t:CRL K mg l us):CRL K mg (d::l) (u::us):=by obtain⟨v,r,h⟩:=h;obtain⟨vs,rs,t⟩:=t;exact⟨v::vs,.cons r rs,λμ H=>⟨v,vs,rfl,h μ H,t μ H⟩⟩
def cr_tup(hl:K.lookup a=some ⟨.type "tuple",none,.seq us.toArray n,sl⟩)(hz:Nat.ble us.length 100=true)(h:CRL K mg l us):CR K mg (.tup l) (.ref a):=by obtain⟨vs,rs,t⟩:=h;refine⟨.ref a,rfl,λμ H=>?_⟩;unfold d8;refine⟨a,vs,rfl,.inr ⟨_,us.toArray,n,hl,rfl,rfl,?_,rs⟩,t μ H⟩;rw[zo];exact zK (Nat.le_of_ble_eq_true hz) (by decide)
end
structure rF(K:zn)(mg:Str->Option zk)(x:Str)(d:D):Prop where
 ex:∃u,mg x=some u/\CR K mg d u
def cu(hc:rF X.K X.mg x d)(hg:Gl X x)(hdb:(x==("__debug__" :Str))=false):DE X Z (.Name x pos) (cE d):=⟨by
 intro Ee s σ H Q I Eh;refine Eh.elim λX9 μ G sr hr p=>?_;obtain⟨u,hm,v,ru,rv⟩:=hc.ex;exact AG I hg hm ⟨v,H,I,ru,c7.ok p hr v (rv μ H)⟩ hdb⟩
def rG:D->M Unit:=λx=>match x with
 | .str _=>pure ()
 |_=>M.stuck
section
variable{X:Cx}{Z:XC}{o e:Expr}{es:List Expr}{fo:Fe}{fs:DSt->M (List D)}{name:Str}{id:String}{mm:D->List D->M D}{Ez Em:Pos}
def Sw{H:Hp}{G:DH}{d:D}{v:V}{f:Unit->M α}{K:α->List Addr->DH->Hp->Prop}(r:d8 c μ H d v)(p:c7 c Z μ H ((rG d >>= f) G) K):tyV c.K "str" v H/\c7 c Z μ H (f () G) K:=by
 rcases d with _|_|_|x|_|_|_|_<;>try (exact p.elim;done)
 ·rw[D3 r];exact⟨rfl,p⟩
def Cy(slot:Slot "str" name id)(hty:typeOf (.builtin id)=pure (.type "method_descriptor"))(hm:MtD X Z id mm)(ho:DE X Z o fo)(ha:DA X Z (e::es) fs)
 (hbase:xG o name X.env (eval o X.env)=eval o X.env)
 (hfew:((xi Em (zW (e::es) X.env)).all (λx=> !x.1)&&(Jl Em (Yl [] X.env)).all (λx=>x.1.isSome)
   && decide ((e::es).length+([]:List Keyword).length+(if ([]:List Keyword).isEmpty then 0 else 1)<30))=true)
 (hline:(Ez.endLine==Em.line)=true) (hs:zW (e::es) X.env= (false,eval e X.env)::zW es X.env) (Fu:(xi Em (zW es X.env)).any (·.1)=false):
 DE X Z (.Call (.Attribute o name Ez) (e::es) [] Em) (mtE rG mm fo fs):=
 DE.of (bL PySem.F.plainAttrs_str slot hty hm ho.h ha.h hbase hfew hline hs Fu) λσ H Q Eh=>Eh.elim λX9 μ G s h p=>⟨X9,μ,G,s,h,(c7.bind p).mono λd X0 G1 H1 x1 h1 p1 v rv=>by obtain⟨ty,p2⟩:=Sw rv p1;exact⟨ty,X9,X0,G1,s.mono x1,h1,(c7.bind p2).mono λds WY G2 H2 x2 h2 p3 vs rvs=>⟨d,ds,WY,G2,rv.mono x2,rvs,h2,p3⟩⟩⟩
end
def fD(sep:Str)(l:List D):M D:=do
 let ss <-S1 (l6 l)
 if (ss.map (·.length)).sum+ss.length*sep.length<=16777216 then pure (.str (YX sep ss))else M.stuck
def uE:D->List D->M D:=λx ds=>match x,ds with
 | .str sep, [.tup l]=>fD sep l
 | .str sep, [.ref r]=>do
   match <-N5 r with
   | .lst l=>fD sep l
   |_=>M.stuck
 |_,_=>M.stuck
def Kz:MtD X Z "str.join" uE:=by
 intro Ee s σ H x xs v us Q I rx rvs Eh;obtain⟨d,ds,μ,G,rd,rl,hr,p⟩:=Eh;unfold uE at p;split at p
 · rename_i sep l;rw[D3 rd]at rx;obtain⟨t,rfl⟩:=rx;obtain⟨v1,rfl,rv1⟩:=F3 rl;obtain⟨u,rfl,ru⟩:=S3 rvs;unfold d8 at rv1;obtain⟨a,vs,rfl,q,Eu⟩:=rv1
   cases ru
   obtain⟨Ef,rv,tp,hz⟩:=I.tuple q;unfold fD at p;obtain⟨ss,es,p2⟩:=S8 p;split at p2
   case isFalse=>exact p2.elim
   rename_i hok;exact join_tuple tp (wG es Eu rv) hok λt' k=>⟨.str (YX sep ss),H,I.tok k,⟨t',rfl⟩,c7.ok p2 hr _ (by unfold d8;rfl)⟩
 · rename_i sep r;rw[D3 rd]at rx;obtain⟨t,rfl⟩:=rx;obtain⟨v1,rfl,rv1⟩:=F3 rl;obtain⟨u,rfl,ru⟩:=S3 rvs;unfold d8 at rv1;obtain⟨a,m,rfl⟩:=rv1
   cases ru
   obtain⟨o,g,p1⟩:=K4 p;have ro:=hr.obj r o a g m;rcases o with l|l|l|l
   ·
     obtain⟨vs,q,Eu⟩:=ro;obtain⟨Ef,rv,pl,hz⟩:=I.list (SqL.of q);unfold fD at p1;obtain⟨ss,es,p2⟩:=S8 p1;split at p2
     case isFalse=>exact p2.elim
     rename_i hok;exact join_list pl.isList (wG es Eu rv) hok λt' k=>⟨.str (YX sep ss),H,I.tok k,⟨t',rfl⟩,c7.ok p2 hr _ (by unfold d8;rfl)⟩
   ·exact p1.elim
   ·exact p1.elim
   ·exact p1.elim
 ·exact p.elim
end DL
namespace W
open PySem PySem.Spec L2 DL
open PyProof.Rows hiding St
def cb:Wp (rG (.str z)) G R↔R () G:=wp_pure
def tz(e:G[r]? =some (.lst l))(hs:l6 l=some ss)(hok:(ss.map (·.length)).sum+ss.length*sep.length<=16777216):Wp (uE (.str sep) [.ref r]) G Q↔Q (.str (YX sep ss)) G:=by
 have h:uE (.str sep) [.ref r]= (do
  match <-N5 r with
  | .lst l=>fD sep l
  |_=>M.stuck):=rfl
 rw[h];simp only[j7,N6,e,O9,fD,S4,hs,if_pos hok,wp_pure]
end W
namespace DL
open PySem PySem.Spec L2
open PyProof.Rows hiding St
def cB(n:Nat)(lo hi st:Option Int):List Nat:=sliceRange (xx lo hi st n).1 (xx lo hi st n).2.1 (xx lo hi st n).2.2
def oF(l:List D)(lo hi st:Option Int):List D:=(cB l.length lo hi st).filterMap (l[·]?)
def rB:D->Option Int->Option Int->Option Int->M D:=λx lo hi st=>match x with
 | .ref r=>do
   let l <-N5 r >>= listOf
   if st=some 0 then M.stuck else M5 (.lst (oF l lo hi st))
 |_=>M.stuck
def tE(f:Fe)(lo hi st:Fo):Fe:=λσ=>do
 let x <-f σ
 let l <-lo σ
 let h <-hi σ
 let s <-st σ
 rB x l h s
section
variable{X:Cx}{Z:XC}{μ:List Addr}{H:Hp}
theorem m9.pick(h:m9 c μ H l vs):∀is:List Nat,m9 c μ H (is.filterMap (l[·]?)) (is.filterMap (vs[·]?))
 |[]=>rfl
 |i::r=>by
   have ih:=m9.pick h r;rw[yf,yf];by_cases hi:i<l.length
   ·have e:l[i]? =some l[i]:=zj hi;obtain⟨v,e2,r2⟩:=h.get e;rw[e,e2];exact⟨v,_,rfl,r2,ih⟩
   · have hi2:vs.length<=i:=by rw[<-h.length];lia
     rw[zT (by lia),zT hi2];exact ih
theorem BJ(h:u9 vs us):∀is:List Nat,u9 (is.filterMap (vs[·]?)) (is.filterMap (us[·]?))
 |[]=>.nil
 |i::r=>by
   have ih:=BJ h r;rw[yf,yf];by_cases hi:i<vs.length
   ·have e:vs[i]? =some vs[i]:=zj hi;obtain⟨v,e2,r2⟩:=h.get e;rw[e,e2];exact .cons r2 ih
   · have hi2:us.length<=i:=by rw[<-h.length];lia
     rw[zT (by lia),zT hi2];exact ih
variable{e t:Expr}{lo hi:Option Expr}{fa:Fe}{fl fh ft:Fo}{p2 pos:Pos}
def Vp(he:DE X Z e fa)(hl:DOp X Z lo fl)(hu:DOp X Z hi fh)(ht:DOp X Z (some t) ft):DE X Z (.Subscript e (.Slice lo hi (some t) p2) pos) (tE fa fl fh ft):=⟨by
 intro Ee s σ H Q I Eh;refine Eh.elim λX9 μ G sr h p=>?_;have p0:=c7.bind p;refine Subscript_ (thn (he.h Ee s σ H (λv H1=>∃d X0 G1,d8 (wc X) X0 H1 d v/\v6 (wc X) X0 G1 H1/\K5 (wc X) X0 H1 X9 σ/\c7 (wc X) Z X0 H1 ((fl X9 >>= λl=>fh X9 >>= λh=>ft X9 >>= λs=>rB d l h s) G1) (λd X2 _ H'=>∀v,d8 (wc X) X2 H' d v->Q v H')) I ⟨X9,μ,G,sr,h,p0.mono λd X0 G1 H1 x1 h1 p1 v rv=>⟨d,X0,G1,rv,h1,sr.mono x1,p1⟩⟩) λv s1 ⟨x,H1,I1,r1,d,X0,G1,rd,h1,sr1,p1⟩=>?_);refine wpAny_Slice ?_;refine thn (hl.h Ee s1 σ H1 (λl H2=>∃ WY G2,d8 (wc X) WY H2 d x/\v6 (wc X) WY G2 H2/\K5 (wc X) WY H2 X9 σ/\c7 (wc X) Z WY H2 ((fh X9 >>= λh=>ft X9 >>= λs=>rB d l h s) G2) (λd X2 _ H'=>∀v,d8 (wc X) X2 H' d v->Q v H')) I1 ⟨X9,X0,G1,sr1,h1,(c7.bind p1).mono λl WY G2 H2 x2 h2 p2=>⟨WY,G2,rd.mono x2,h2,sr1.mono x2,p2⟩⟩) λvl s2 ⟨l,H2,I2,pl,WY,G2,rd2,h2,sr2,p2⟩=>?_;refine thn (hu.h Ee s2 σ H2 (λu H3=>∃ WN G3,d8 (wc X) WN H3 d x/\v6 (wc X) WN G3 H3/\K5 (wc X) WN H3 X9 σ/\c7 (wc X) Z WN H3 ((ft X9 >>= λs=>rB d l u s) G3) (λd X2 _ H'=>∀v,d8 (wc X) X2 H' d v->Q v H')) I2 ⟨X9,WY,G2,sr2,h2,(c7.bind p2).mono λu WN G3 H3 x3 h3 p3=>⟨WN,G3,rd2.mono x3,h3,sr2.mono x3,p3⟩⟩) λvu s3 ⟨u,H3,I3,pu,WN,G3,rd3,h3,sr3,p3⟩=>?_;refine thn (ht.h Ee s3 σ H3 (λk H4=>∃ WL G4,d8 (wc X) WL H4 d x/\v6 (wc X) WL G4 H4/\c7 (wc X) Z WL H4 (rB d l u k G4) (λd X2 _ H'=>∀v,d8 (wc X) X2 H' d v->Q v H')) I3 ⟨X9,WN,G3,sr3,h3,(c7.bind p3).mono λk WL G4 H4 x4 h4 p4=>⟨WL,G4,rd3.mono x4,h4,p4⟩⟩) λvk s4 ⟨k,H4,I4,pk,WL,G4,rd4,h4,p4⟩=>?_;have I5:Inv X Ee σ H4 {s4 with heap:=s4.heap.push {cls:=.type "slice",data:=.fields #[vl,vu,vk]}}:=I4.kept λb ob q=>zh _ q;have hsl:Heap.IsSliceOf (s4.heap.push {cls:=.type "slice",data:=.fields #[vl,vu,vk]}) s4.heap.objs.size vl vu vk:=Je ..
 cases d with
 |ref r=>
   obtain⟨ls,a,vs,rfl,rl,p5,hq⟩:=tJ h4 rd4 p4
   cases r1
   split at p5
   case isTrue=>exact p5.elim
   rename_i hk0;have hs:SqL X.K H4 a vs:=by
    rcases hq with⟨z,_⟩|⟨_,_,_,⟨_,q⟩|⟨_,q⟩⟩
    ·cases z
    ·exact SqL.of q
    ·exact q.sq
   obtain⟨Ef,rr,ht,hz⟩:=I5.list hs;refine tail_any ht.isList.typeIs Ji.lookup (wpAny_getItem_list_slice ht.isList hsl pl pu pk hk0 ?_ (by rw[zo,<-rr.length];exact hz)) (by with_unfolding_all rfl);have hf:=I5.hok.fresh (zp _);have en:Ef.toArray.size=vs.length:=by rw[zo,rr.length]
   have ep:JB Ef.toArray l u k=jw ((cB ls.length l u k).filterMap (Ef[·]?)):=by unfold JB cB;rw[rl.length,en];congr 1;congr 1;funext i;simp
   have Ei:((cB ls.length l u k).filterMap (vs[·]?)).length<=zq:=by have h1:=slicePick_size_le Ef.toArray l u k;rw[ep,zo,zo]at h1;have h2:=(BJ rr (cB ls.length l u k)).length;have h3:=rr.length;lia
   rw[ep];refine⟨.ref _,upd H4 _ (.lst ((cB ls.length l u k).filterMap (vs[·]?))),I5.laid (λb u e=>zh _ e) (zp _) ?_,rfl,U9 h4 (rl.pick _) p5 _ hf⟩;exact⟨Ei,_,0,BJ rr _,zt _ rfl⟩
 |_=>exact p4.elim⟩
end
end DL
namespace W
open PySem PySem.Spec L2 DL
open PyProof.Rows hiding St
def GX{lo hi st:Fo}:Wp (tE f lo hi st σ) G Q↔Wp (f σ) G λx G1=>Wp (lo σ) G1 λl G2=>Wp (hi σ) G2 λh G3=>Wp (st σ) G3 λk G4=>Wp (rB x l h k) G4 Q:=by unfold tE;simp only[j7]
def GZ{lo hi st:Option Int}(e:G[p]? =some (.rol l))(h:st≠some 0):Wp (rB (.ref p) lo hi st) G Q↔Q (.ref G.length) (G++[.lst (oF l lo hi st)]):=by
 have h0:rB (.ref p) lo hi st= (do
  let l <-N5 p >>= DL.listOf
  if st=some 0 then M.stuck else M5 (.lst (oF l lo hi st))):=rfl
 rw[h0];simp only[j7,N6,e,O9,DL.listOf,wp_pure,if_neg h,R8]
end W
namespace DL
open PySem PySem.Spec L2
open PyProof.Rows hiding St
def Aj(σ:St)(H:Hp)(Q:VK)(h:P7 (wc X) Z (oB o o' fa fb fc) σ H Q):MM (lB (wc X) Z o) (lB (wc X) Z o') (P7 (wc X) Z fa) (P7 (wc X) Z fb) (P7 (wc X) Z fc) σ H Q:=by
 obtain⟨X9,μ,G,s,h,p⟩:=h;exact⟨X9,μ,G,s,h,(c7.bind p).mono λx X0 G1 H1 x1 h1 p1 v rv=>
  ⟨X9,X0,G1,s.mono x1,h1,(c7.bind p1).mono λy WY G2 H2 x2 h2 p2 u ru=>⟨x,y,WY,G2,rv.mono x2,ru,h2,(c7.bind p2).mono λz WN G3 H3 x3 h3 p3 w rw'=>by
   obtain⟨k,rfl,p4⟩:=NM p3;refine⟨k,A8 rw',?_⟩
   cases k with
   |true=>exact⟨X9,WN,G3,s.mono (x1.trans (x2.trans x3)),h3,(c7.bind p4).mono λt WL G4 H4 x4 h4 p5 q rq=>⟨y,t,WL,G4,ru.mono (x3.trans x4),rq,h4,p5⟩⟩
   |false=>exact c7.ok p4 h3 _ ofB⟩⟩⟩
def TW(ho:OpD X Z (zZ op) o)(ho':OpD X Z (zZ op') o')(ha:DE X Z a fa)(hb:DE X Z b fb)(hc:DE X Z c fc)
 (hm:lastMarks [op,op'] [b,c]=false):DT X Z (.Compare a [op,op'] [b,c] pos) (VA (oB o o' fa fb fc)):=
 DT.of (MX ho.h ho'.h ha.h hb.h hc.h hm) λσ H Q Eh=>Eh.elim λX9 μ G s h p=>Aj σ H _ ⟨X9,μ,G,s,h,(c7.bind p).mono λx X0 G1 H1 x' h1 p1 v rv=>by
  cases x with
  |bl k'=>unfold d8 at rv;exact⟨k',rv,c7.ok p1 h1⟩
  |_=>exact p1.elim⟩
def lu(hF:∃k kk,pB F 0 x X.prog X.w X.K X.mg X.base k/\V7 kk X.A/\k<=kk)(hg:Gl X x)(hdb:(x==("__debug__" :Str))=false):
 DE X Z (.Call (.Name x p) [] [] pos) (T2 (fnX 0 F) L0):=by
 obtain⟨k,kk,hF,hr,hk⟩:=hF;obtain⟨f,fd,ps,h1,h2,h3,h4⟩:=hF.ex;exact DE.of (MV h1 (hr.mono hk) hg h2 h3 h4 .nil uK hdb) λσ H Q Eh=>Eh.elim λX9 μ G s h p=>by obtain⟨hl,p2⟩:=sR (show c7 (wc X) Z μ H (fnX 0 F [] G) _ from p);exact⟨rfl, [],μ,G,rfl,h,p2⟩
end DL
namespace W
open PySem PySem.Spec L2 DL
open PyProof.Rows hiding St
end W
namespace DL
open PySem PySem.Spec L2
open PyProof.Rows hiding St
def iF:D->M Unit:=λx=>match x with
 | .ref r=>do
   match <-N5 r with
   | .dct _=>pure ()
   |_=>M.stuck
 |_=>M.stuck
def getD:D->List D->M D:=λx ds=>match x,ds with
 | .ref r, [.str z,d]=>do
   match <-N5 r with
   | .dct l=>pure ((U0 l (.inr z)).getD d)
   |_=>M.stuck
 |_,_=>M.stuck
section
variable{X:Cx}{Z:XC}{o e:Expr}{es:List Expr}{fo:Fe}{fs:DSt->M (List D)}{name:Str}{id:String}{mm:D->List D->M D}{Ez Em:Pos}
def FY{H:Hp}{G:DH}{d:D}{v:V}{f:Unit->M α}{K:α->List Addr->DH->Hp->Prop}(h:v6 c μ G H)(r:d8 c μ H d v)(p:c7 c Z μ H ((iF d >>= f) G) K):tyV c.K "dict" v H/\c7 c Z μ H (f () G) K:=by
 rcases d with _|_|_|_|_|i|_|_<;>try (exact p.elim;done)
 ·
   unfold d8 at r;obtain⟨a,m,rfl⟩:=r;have p':c7 c Z μ H ((N5 i >>= λo=>(match o with| .dct _=>pure ()|_=>M.stuck:M Unit) >>= f) G) K:=by rw[<-M.bind_assoc];exact p
   obtain⟨o,g,p2⟩:=K4 p';have ro:=h.obj i o a g m;rcases o with _|_|l|_<;>try (exact p2.elim;done)
   ·obtain⟨vs,e,rl⟩:=ro;exact⟨.inr (.inr (.inl ⟨rfl,.inl ⟨vs,e⟩⟩)),p2⟩
def cf(slot:Slot "dict" name id)(hty:typeOf (.builtin id)=pure (.type "method_descriptor"))(hm:MtD X Z id mm)(ho:DE X Z o fo)(ha:DA X Z (e::es) fs)
 (hbase:xG o name X.env (eval o X.env)=eval o X.env)
 (hfew:((xi Em (zW (e::es) X.env)).all (λx=> !x.1)&&(Jl Em (Yl [] X.env)).all (λx=>x.1.isSome)
   && decide ((e::es).length+([]:List Keyword).length+(if ([]:List Keyword).isEmpty then 0 else 1)<30))=true)
 (hline:(Ez.endLine==Em.line)=true) (hs:zW (e::es) X.env= (false,eval e X.env)::zW es X.env) (Fu:(xi Em (zW es X.env)).any (·.1)=false):
 DE X Z (.Call (.Attribute o name Ez) (e::es) [] Em) (mtE iF mm fo fs):=
 DE.of (bL PySem.F.plainAttrs_dict slot hty hm ho.h ha.h hbase hfew hline hs Fu) λσ H Q Eh=>Eh.elim λX9 μ G s h p=>⟨X9,μ,G,s,h,(c7.bind p).mono λd X0 G1 H1 x1 h1 p1 v rv=>by obtain⟨ty,p2⟩:=FY h1 rv p1;exact⟨ty,X9,X0,G1,s.mono x1,h1,(c7.bind p2).mono λds WY G2 H2 x2 h2 p3 vs rvs=>⟨d,ds,WY,G2,rv.mono x2,rvs,h2,p3⟩⟩⟩
def Ba(hu:X.A.units+64<xq):MtD X Z "dict.get" getD:=by
 intro Ee s σ H x xs v us Q I rx rvs Eh;obtain⟨d,ds,μ,G,rd,rl,hr,p⟩:=Eh;delta getD at p;rcases d with _|_|_|_|_|r|_|_<;>try exact p.elim
 rcases ds with _|⟨_|_|_|z|_|_|_|_,_|⟨y,_|⟨_,_⟩⟩⟩<;>dsimp only at p<;>try exact p.elim
 · unfold d8 at rd;obtain⟨a,m,rfl⟩:=rd;obtain⟨zv,t1,rfl,rz,yv,t2,rfl,ry,e⟩:=rl
   cases e
   obtain⟨u1,us1,rfl,ru1,rv1⟩:∃u1 us1,us=u1::us1/\J5 zv u1/\u9 [yv] us1:=by
    cases rvs with|cons h t=>exact⟨_,_,rfl,h,t⟩
   obtain⟨u2,rfl,ru2⟩:=S3 rv1;obtain⟨o,g,p1⟩:=K4 p;have ro:=hr.obj r o a g m;rcases o with _|_|l|_<;>try (exact p1.elim;done)
   ·
     obtain⟨Eg,q,rk⟩:=ro
     cases rx
     have ez:=D3 rz;subst ez;have dg:kB H a (V.str z) (y4 Eg (.inr z)):=.inl ⟨Eg,.inr z,.inl q,rfl,rfl⟩;refine uf (by lia) I dg ru1 ru2 λw' s' I' rw'=>⟨_,H,I',rw',?_⟩;have lk:=NI (k:=.inr z) rk;rcases el:U0 l (.inr z)with _|w
     ·
       rw[el]at lk;dsimp only at lk p1;rw[el]at p1;rw[lk];exact c7.ok p1 hr _ ry
     ·
       rw[el]at lk;obtain⟨v',e1,r1⟩:=lk;dsimp only at p1;rw[el]at p1;rw[e1];exact c7.ok p1 hr _ r1
end
def y9(G:DH)(x:D):List D->Option Bool
 |[]=>some false
 |d::t=>match eqN 40 G d x,y9 G x t with
   |some a,some b=>some (a||b)
   |_,_=>none
def mV:y9 G x (d::t)=match eqN 40 G d x,y9 G x t with
 |some a,some b=>some (a||b)
 |_,_=>none:=rfl
def vB(x y:D)(G:DH):Option Bool:=match y with
 | .tup l=>y9 G x l
 | .ref r=>match G[r]? with
   |some (.lst l)=>y9 G x l
   |some (.rol l)=>y9 G x l
   |_=>none
 |_=>none
def inX:D->D->M D:=λx y G=>match vB x y G with
 |some b=>some (.ok (.bl b),G)
 |none=>none
section
def rf(hu:X.A.units+64<xq)(I:Inv X Ee σ H s)(hr:v6 (wc X) μ G H)(Ey:d8 (wc X) μ H dx x)(rx:J5 x v):
 ∀ {l} {vs} {us} {b},m9 (wc X) μ H l vs->u9 vs us->y9 G dx l=some b->
  (∀u∈us,∃c,ye X.A.in1 s u v c)/\(b=true->∃u∈us,ye X.A.in1 s u v true)/\(b=false->∀u∈us,ye X.A.in1 s u v false):=by
 intro l
 induction l with
 |nil=>
   intro vs us b rl rv e
   cases rl
   cases rv
   cases e
   exact⟨λu hu=>(by cases hu),λz=>absurd z jm,λ_ u hu=>(by cases hu)⟩
 |cons d t ih=>
   intro vs us b rl rv e;obtain⟨w,tv,rfl,q,rt⟩:=rl
   cases rv with
   |cons r1 rs=>
   rename_i u us1;rw[mV]at e;rcases e1:eqN 40 G d dx with _|a
   ·rw[e1]at e;cases e
   ·
     rcases e2:y9 G dx t with _|b2
     ·rw[e1,e2]at e;cases e
     ·
       rw[e1,e2]at e
       cases e
       have h1:=(uF I hr 40 X.A.in1 (by show X.A.units+1+40<xq;lia) q Ey r1 rx e1).2.2;obtain⟨k1,k2,k3⟩:=ih rt rs e2;refine⟨λu' hu'=>?_,λz=>?_,λz u' hu'=>?_⟩
       · rcases zy.mp hu' with rfl|hu'
         ·exact⟨a,h1⟩
         ·exact k1 u' hu'
       · rcases a with _|_
         ·
           obtain⟨u',h3,h4⟩:=k2 z;exact⟨u',zA _ h3,h4⟩
         ·exact⟨u,zH,h1⟩
       · rcases a with _|_
         ·
           rcases zy.mp hu' with rfl|hu'
           ·exact h1
           ·exact k3 z u' hu'
         ·cases z
open Classical in
def oP(hu:X.A.units+64<xq)(I:Inv X Ee σ H s)(hr:v6 (wc X) μ G H)(Ey:d8 (wc X) μ H dx x)(rx:J5 x v)
 (rl:m9 (wc X) μ H l vs) (rv:u9 vs us) (e:y9 G dx l=some b):
   ∃f:zk->Bool,(∀u∈us,ye X.A.in1 s u v (f u))/\us.any f=b:=by
 obtain⟨k1,k2,k3⟩:=rf hu I hr Ey rx rl rv e;rcases b with _|_
 ·exact⟨λ_=>false,λu hu=>k3 rfl u hu,by simp⟩
 ·
   refine⟨λu=>decide (ye X.A.in1 s u v true),λu hu=>?_,?_⟩
   · dsimp only;by_cases c:ye X.A.in1 s u v true
     ·rw[decide_eq_true c];exact c
     · rw[decide_eq_false c];obtain⟨c',hc⟩:=k1 u hu;rcases c' with _|_
       ·exact hc
       ·exact absurd hc c
   ·obtain⟨u,hu,h⟩:=k2 rfl;exact xh.mpr ⟨u,hu,decide_eq_true h⟩
def Sd(hu:X.A.units+64<xq)(I:Inv X Ee σ H s)(hr:v6 (wc X) μ G H)(Ey:d8 (wc X) μ H dx x)(Fn:d8 (wc X) μ H dy y)(rx:J5 x v)(ry:J5 y u)
 (e:vB dx dy G=some b):
 (Q (.bl b) H->zw (zG X.prog X.w) X.A (zZ .In v u) (EP X Ee σ Q) X.xe s)/\(Q (.bl (!b)) H->zw (zG X.prog X.w) X.A (zZ .NotIn v u) (EP X Ee σ Q) X.xe s):=by
 have seq:∀(p:Addr) (l:List D) (vs:List V),y= .ref p->(SqL X.K H p vs\/SqT X.K H p vs)->m9 (wc X) μ H l vs->y9 G dx l=some b->
  (Q (.bl b) H->zw (zG X.prog X.w) X.A (zZ .In v u) (EP X Ee σ Q) X.xe s)/\(Q (.bl (!b)) H->zw (zG X.prog X.w) X.A (zZ .NotIn v u) (EP X Ee σ Q) X.xe s):=by
  intro p l vs hy hq rl e;subst hy
  cases ry
  rcases hq with hq|hq
  · obtain⟨Ef,r,pl,hz⟩:=I.list hq;obtain⟨f,h1,h2⟩:=oP hu I hr Ey rx rl r e;have h3:Ef.toArray.any f=b:=by rw[<-h2];simp
    exact⟨λq=>SeqAt.in_listAt f pl.isList (λw hw=>h1 w (by simpa using hw)) ⟨.bl _,H,I,rfl,by rw[h3];exact q⟩,λq=>SeqAt.notIn_listAt f pl.isList (λw hw=>h1 w (by simpa using hw)) ⟨.bl _,H,I,rfl,by rw[h3];exact q⟩⟩
  · obtain⟨Ef,r,pl,hz⟩:=I.tuple hq;obtain⟨f,h1,h2⟩:=oP hu I hr Ey rx rl r e;have h3:Ef.toArray.any f=b:=by rw[<-h2];simp
    exact⟨λq=>SeqAt.in_tupleAt f pl (λw hw=>h1 w (by simpa using hw)) ⟨.bl _,H,I,rfl,by rw[h3];exact q⟩,λq=>SeqAt.notIn_tupleAt f pl (λw hw=>h1 w (by simpa using hw)) ⟨.bl _,H,I,rfl,by rw[h3];exact q⟩⟩
 rcases dy with _|_|_|_|l|i|_|_<;>try (cases e;done)
 ·
   unfold d8 at Fn;obtain⟨a,vs,hy,q,rl⟩:=Fn;exact seq a l vs hy (.inr q) rl e
 ·
   unfold d8 at Fn;obtain⟨a,m,hy⟩:=Fn;rcases g:G[i]? with _|o
   ·unfold vB at e;simp only[g]at e;cases e
   ·
     have ro:=hr.obj i o a g m;rcases o with l|l|_|_<;>try (unfold vB at e;simp only[g]at e;cases e;done)
     ·
       obtain⟨vs,q,rl⟩:=ro;unfold vB at e;simp only[g]at e;exact seq a l vs hy (.inl (SqL.of q)) rl e
     ·
       obtain⟨vs,q,rl⟩:=ro;unfold vB at e;simp only[g]at e;exact seq a l vs hy (.inl q.sq) rl e
def pe(hu:X.A.units+64<xq):OpD X Z (zZ .In) inX:=⟨by
 intro Ee s σ H x y v u Q I rx ry Eh;refine Eh.elim λdx dy μ G Ey Fn hr p=>?_;unfold inX at p;rcases e:vB dx dy G with _|b
 ·rw[e]at p;exact p.elim
 ·rw[e]at p;exact(Sd hu I hr Ey Fn rx ry e).1 (c7.ok p hr _ ofB)⟩
end
def hV:seqRepeat? (.type "tuple")=pure (some (.builtin "tuple.__mul__")):=by unfold seqRepeat?;rw[PySem.seqSlot_of (T:= "tuple") (name:= "__mul__") (id:= "tuple.__mul__") ZD.lookup (by decide +kernel),PySem.seqSlot_of (T:= "tuple") (name:= "__rmul__") (id:= "tuple.__rmul__") Ju.lookup (by decide +kernel)];rfl
def Lf:fillsNumberSlot (.type "tuple") "mul" =pure false:=
 PySem.fillsNumberSlot_seq (id:= "tuple.__mul__") (r:=some (.builtin "tuple.__rmul__")) ZD.lookup (by decide +kernel) Ju.lookup (by decide +kernel)
def wk(a:Int)(t:Tok)(l:Addr)(items:Array zk)(n:Nat)(dd:Option Addr)(sl:Array (Option zk)):
 Meets (yg.«int.__rmul__» ⟨[.int a t,.ref l], []⟩) (λ_ R s=>s.heap.get? l=some {cls:=.type "tuple",dict:=dd,data:=.seq items n,slots:=sl}/\R (.ok (.ret Value.notImplemented)) s):=
 .of_wp λprog w A R s h=>by obtain⟨hp,g,d,tk,os⟩:=s;obtain⟨hl,h⟩:=h;wp_walk;exact⟨_,rfl,h⟩
theorem pU(items:Array zk):∀k a,(Yr (λx1 x2=>x1++x2) a (zC k items)).size=a.size+k*items.size
 |0,a=>by simp
 |k+1,a=>by rw[yy,yk,pU items k,Array.size_append,Nat.succ_mul];lia
def dQ(h1: -(2 ^ 63)<=x)(h2:x<2 ^ 63):decide ((decide (x < -(2 ^ 63))||decide (x>=2 ^ 63))=true)=false:=by rw[decide_eq_false (Int.not_lt.mpr h1),decide_eq_false (Int.not_le.mpr h2)];rfl
def wq(l:Addr)(items:Array zk)(n:Nat)(dd:Option Addr)(sl:Array (Option zk))(x:Int)(u:Tok)(h1: -(2 ^ 63)<=x)(h2:x<2 ^ 63)(h3:(items.isEmpty||x==1)=true):
 Meets (yg.«tuple.__mul__» ⟨[.ref l,.int x u], []⟩) (λ_ R s=>s.heap.get? l=some {cls:=.type "tuple",dict:=dd,data:=.seq items n,slots:=sl}/\R (.ok (.ret (Value.ref l))) s):=
 .of_wp λprog w A R s h=>by
  obtain⟨hp,g,d,tk,os⟩:=s;obtain⟨hl,h⟩:=h
  wp_walk
  refine Xb (dQ h1 h2) ?_
  wp_walk
  exact⟨_,rfl,h⟩
def fV(l:Addr)(items:Array zk)(n:Nat)(dd:Option Addr)(sl:Array (Option zk))(x:Int)(u:Tok)(h1: -(2 ^ 63)<=x)(h2:x<2 ^ 63)(h3:¬(items.isEmpty||x==1)=true)(hz:items.size*x.toNat<=zq):
 Meets (yg.«tuple.__mul__» ⟨[.ref l,.int x u], []⟩) (λ_ R s=>s.heap.get? l=some {cls:=.type "tuple",dict:=dd,data:=.seq items n,slots:=sl}/\
  R (.ok (.ret (Value.ref s.heap.objs.size))) {s with heap:=s.heap.push {cls:=Value.type "tuple",data:=Data.seq (Yr (λx1 x2=>x1++x2) #[] (zC x.toNat items))},toks:=s.toks}):=
 .of_wp λprog w A R s h=>by
  obtain⟨hp,g,d,tk,os⟩:=s;obtain⟨hl,h⟩:=h
  wp_walk
  refine Xb (dQ h1 h2) ?_;by_cases hx:(decide (x<=0)||items.isEmpty)=true
  · have hx0:x<=0:=by
     have he:items.isEmpty=false:=by
      rcases e:items.isEmpty with _|_
      ·rfl
      ·rw[e]at h3;exact absurd rfl h3
     rw[he,Zu]at hx;exact of_decide_eq_true hx
    have e0:x.toNat=0:=by lia
    rw[e0]at h
    wp_walk
    exact⟨_,rfl,h⟩
  · obtain⟨hc1,hc2⟩:(¬(items.size:Int)*x>(2 ^ 63-1) / 8)/\¬Builtin.Tuple.tupleTooMany ((items.size:Int)*x)=true:=by
     have hx0:¬x<=0:=λz=>hx (by rw[decide_eq_true z];rfl);have e1:(items.size:Int)*x= ((items.size*x.toNat:Nat):Int):=by rw[Int.natCast_mul,Int.toNat_of_nonneg (by lia)]
     have e2:items.size*x.toNat<=2 ^ 24:=hz;rw[e1];exact⟨by lia,λz=>absurd (of_decide_eq_true z) (by show ¬((2 ^ 24:Nat):Int)<_;lia)⟩
    wp_walk
    refine Xb (decide_eq_false hc1) ?_
    wp_walk
    refine Xb (decide_eq_false (Nat.not_lt.mpr (by rw[pU];simp only[Array.size_empty];rw[Nat.mul_comm];lia))) ?_
    wp_walk
    exact⟨_,rfl,h⟩
def kl(K:zn):R2:=λx y H Q=>∃l k xs,x= .ref l/\y= .int k/\SqT K H l xs/\ -(2 ^ 63)<=k/\k<2 ^ 63/\xs.length*k.toNat<=zq/\
 ((xs= []\/k=1)->Q (.ref l) H)/\(¬(xs= []\/k=1)->∀p,H p=none->Q (.ref p) (upd H p (.tup (zC k.toNat xs).flatten)))
def Cw:OpR X (yb .Mult) (kl X.K):=by
 intro Ee s σ H x y v u Q I rx ry h;obtain⟨l,k,xs,rfl,rfl,hH,h1,h2,hz,q1,q2⟩:=h
 cases rx
 obtain⟨t,rfl⟩:=ry;obtain⟨Ef,r,p,_⟩:=I.tuple hH;have Ei:Ef.toArray.size*k.toNat<=zq:=by rw[zo,<-r.length];exact hz
 obtain⟨⟨cls,dd,data,sl⟩,ho,hc,n,hd⟩:=id p;simp only at hc hd;subst hc hd;refine wpAny_binaryOp_repeat_ref (T:= "tuple") (U:= "int") (by decide) ⟨_,ho,rfl⟩ (λs'=>Zi s' k t) Lf F.fills_int_mul YN hV F.slot_int_index.lookup
  (Zj YN (Zi s k t) F.entry_int_rmul (F.args_int_rmul_2 _ _) (wk k t l Ef.toArray n dd sl)
    ⟨ho,rfl,⟨_,ho,rfl⟩,?_⟩)
 by_cases hc:xs= []\/k=1
 · have h3:(Ef.toArray.isEmpty||k==1)=true:=by
    rcases hc with rfl|rfl
    ·cases r;rfl
    ·simp
   exact Zj ZD ⟨_,ho,rfl⟩ F.entry_tuple_mul (F.args_tuple_mul_2 _ _) (wq l Ef.toArray n dd sl k t h1 h2 h3) ⟨ho,.ref l,H,I,rfl,q1 hc⟩
 · have h3:¬(Ef.toArray.isEmpty||k==1)=true:=by
    intro z;rw[Bool.or_eq_true]at z;rcases z with z|z
    · have:Ef= []:=by simpa using z
      subst this;exact hc (.inl (by cases r;rfl))
    ·exact hc (.inr (by simpa using z))
   refine Zj ZD ⟨_,ho,rfl⟩ F.entry_tuple_mul (F.args_tuple_mul_2 _ _) (fV l Ef.toArray n dd sl k t h1 h2 h3 Ei) ⟨ho,?_⟩;have f0:Yr (λx1 x2=>x1++x2) #[] (zC k.toNat Ef.toArray)= (zC k.toNat Ef).flatten.toArray:=by have:=UM Ef k.toNat [];rw[xw]at this;exact this
   rw[f0];refine⟨.ref s.heap.objs.size,_,I.laid (t':=s.toks) (o:=.tup (zC k.toNat xs).flatten) (λb ob q=>zh _ q) (zp _) ?_,rfl,q2 hc _ (I.hok.fresh (zp _))⟩;exact⟨by rw[IQ,Nat.mul_comm];exact hz,_,r.rep k.toNat,l7.new _ _⟩
def ND:D->D->M D:=λx y=>match x,y with
 | .tup l,.int k=>if -(2 ^ 63)<=k/\k<2 ^ 63/\l.length*k.toNat<=zq then pure (.tup (zC k.toNat l).flatten)else M.stuck
 | .ref r,.int k=>do
   match <-N5 r with
   | .lst l=>if -(2 ^ 63)<=k/\k<2 ^ 63/\l.length*k.toNat<=zq then M5 (.lst (zC k.toNat l).flatten)else M.stuck
   |_=>M.stuck
 |_,_=>A4 x y
theorem m9.rep(r:m9 c μ H l vs):∀k:Nat,m9 c μ H (zC k l).flatten (zC k vs).flatten
 |0=>rfl
 |k+1=>by rw[yy,yG,yy,yG];exact r.append (m9.rep r k)
def Mz:OpD X Z (yb .Mult) ND:=
 OpD.of (OpR.or Kp (OpR.or Cw (GS (Z:=Z)).h)) λx y H Q Eh=>Eh.elim λdx dy μ G Ey Fn hr p=>by
  by_cases c:∃l k,dx= .tup l/\dy= .int k
  · obtain⟨l,k,rfl,rfl⟩:=c;refine .inr (.inl ?_);have ek:=U1 Fn;unfold d8 at Ey;obtain⟨a,vs,rfl,q,rl⟩:=Ey;unfold ND at p;dsimp only at p;split at p
    · rename_i hz;refine⟨a,k,vs,rfl,ek,q,hz.1,hz.2.1,by rw[<-rl.length];exact hz.2.2,λhc=>?_,λhc p' hp=>nF hr (rl.rep k.toNat) p p' hp⟩;refine nG hr q ?_ p;rcases hc with rfl|rfl
      · rcases l with _|⟨_,_⟩
        ·simp;exact rl
        ·obtain⟨_,_,z,_⟩:=rl;cases z
      ·simp;exact rl
    ·exact p.elim
  · by_cases c2:∃r k,dx= .ref r/\dy= .int k
    · obtain⟨r,k,rfl,rfl⟩:=c2;refine .inl ?_;have ek:=U1 Fn;unfold d8 at Ey;obtain⟨a,m,rfl⟩:=Ey;have p':c7 (wc X) Z μ H ((N5 r >>= λo=>match o with| .lst l=>(if -(2 ^ 63)<=k/\k<2 ^ 63/\l.length*k.toNat<=zq then M5 (.lst (zC k.toNat l).flatten)else M.stuck)|_=>M.stuck:M D) G) λd X2 _ H'=>∀v,d8 (wc X) X2 H' d v->Q v H':=p;obtain⟨o,g,p1⟩:=K4 p';have ro:=hr.obj r o a g m;rcases o with l|_|_|_<;>try (exact p1.elim;done)
      ·
        obtain⟨vs,e,rl⟩:=ro;dsimp only at p1;split at p1
        ·rename_i hz;exact⟨a,k,vs,rfl,ek,e,hz.1,hz.2.1,by rw[<-rl.length];exact hz.2.2,λp' hp=>U9 hr (rl.rep k.toNat) p1 p' hp⟩
        ·exact p1.elim
    · refine .inr (.inr ⟨dx,dy,μ,G,Ey,Fn,hr,?_⟩);have e:ND dx dy=A4 dx dy:=by
       rcases dx with _|_|_|_|l|r|_|_<;>try (rfl;done)
       ·
         rcases dy with _|_|k|_|_|_|_|_<;>try (rfl;done)
         ·exact absurd ⟨_,_,rfl,rfl⟩ c
       ·
         rcases dy with _|_|k|_|_|_|_|_<;>try (rfl;done)
         ·exact absurd ⟨_,_,rfl,rfl⟩ c2
      rw[<-e];exact p
end DL
namespace W
open PySem PySem.Spec L2 DL
open PyProof.Rows hiding St
def lf(h:G[r]? =some (.dct l)):Wp (getD (.ref r) [.str z,d]) G Q↔Q ((U0 l (.inr z)).getD d) G:=by have e:getD (.ref r) [.str z,d]= (N5 r >>= λo=>match o with| .dct l=>pure ((U0 l (.inr z)).getD d)|_=>M.stuck:M D):=rfl;rw[e];simp only[j7,N6,h,O9,wp_pure]
def Rx(h:G[r]? =some (.dct l)):Wp (iF (.ref r)) G Q↔Q () G:=by have e:iF (.ref r)= (N5 r >>= λo=>match o with| .dct l=>pure ()|_=>M.stuck:M Unit):=rfl;rw[e];simp only[j7,N6,h,O9,wp_pure]
def Gc(h:0<=k/\k<1000/\l.length<=1000):Wp (ND (.tup l) (.int k)) G Q↔Q (.tup (zC k.toNat l).flatten) G:=by
 have e:ND (.tup l) (.int k)= (if -(2 ^ 63)<=k/\k<2 ^ 63/\l.length*k.toNat<=zq then pure (.tup (zC k.toNat l).flatten)else M.stuck:M D):=rfl;have hz:l.length*k.toNat<=zq:=by have:=Nat.mul_le_mul h.2.2 (show k.toNat<=1000 by lia);exact zK this (by decide)
 rw[e,if_pos ⟨by lia,by lia,hz⟩,wp_pure]
end W
namespace DL
open PySem PySem.Spec L2
open PyProof.Rows hiding St
end DL
namespace W
open PySem PySem.Spec L2 DL
open PyProof.Rows hiding St
end W
namespace DL
open PySem PySem.Spec L2
open PyProof.Rows hiding St
def b8(e:m G=some (.ok a,G'))(q:Q a G'):Wp m G Q:=⟨a,G',e,q⟩
def PB(Q:DPP):Fl->DH->Prop
 | .nx _,G=>Q .non G
 | .rt d,G=>Q d G
 |_,_=>False
section
variable{m:Nat}{f S g:Fs}{ds as:List D}{d:D}{G G':DH}{Q:DPP}{P A:Fl->DH->Prop}{σ X1:DSt}{e:Fe}
def v9(w:Wp (f (ds.map some++zC (m-ds.length) none)) G (PB Q)):Wp (m8 m f ds) G Q:=
 Z5.mpr (w.mono λfl G1 h=>match fl,h with
  | .nx _,h=>h
  | .rt _,h=>h
  | .bk _,h=>h.elim
  | .ct _,h=>h.elim)
def u0(q:Q d G):PB Q (.rt d) G:=q
def O2(e:f (ds.map some++zC (m-ds.length) none) G=some (.ok (.rt d),G'))(q:Q d G'):Wp (m8 m f ds) G Q:=v9 (b8 e q)
def u6(e:S σ G=some (.ok (.nx X1),G'))(w:Wp (g X1) G' P):Wp (o9 S g σ) G P:=d9.mpr (b8 e w)
def mI(e:S σ G=some (.ok (.rt d),G'))(q:P (.rt d) G'):Wp (o9 S g σ) G P:=d9.mpr (b8 e q)
end
section
variable{a b c:Fe}{d x y z:D}{G G1 G2:DH}{R:List D->DH->Prop}{σ:DSt}
def C5(e:t σ G=some (.ok true,G1))(w:Wp (f σ) G1 P):Wp (ifS t f g σ) G P:=GA.mpr (b8 e w)
def rC(e:t σ G=some (.ok false,G1))(w:Wp (g σ) G1 P):Wp (ifS t f g σ) G P:=GA.mpr (b8 e w)
def X3(w:Wp (t σ) G λk G1=>(k=true->Wp (f σ) G1 P)/\(k=false->Wp (g σ) G1 P)):Wp (ifS t f g σ) G P:=
 GA.mpr (w.mono λk G1 h=>by cases k with|true=>exact h.1 rfl|false=>exact h.2 rfl)
def F8(w:Wp (t σ) G λk G1=>(k=true->Wp (u σ) G1 B)/\(k=false->B false G1)):Wp (Q1 t u σ) G B:=
 VQ.mpr (w.mono λk G1 h=>by cases k with|true=>exact h.1 rfl|false=>exact h.2 rfl)
def E8(w:Wp (t σ) G λk G1=>(k=true->B true G1)/\(k=false->Wp (u σ) G1 B)):Wp (orT t u σ) G B:=
 af.mpr (w.mono λk G1 h=>by cases k with|true=>exact h.1 rfl|false=>exact h.2 rfl)
def UQ{S:DSt->Prop}{R:DPP}(hS:S (σ.set i (some d)))(w:Wp (a (σ.set i (some d))) G R):Wp (d6 i d σ) G λWZ G1=>G1=G/\S WZ/\Wp (K1 WZ) G λb G2=>b=true/\G2=G/\Wp (a WZ) G R:=
 M6.mpr ⟨rfl,hS,W.wp_trueT.mpr ⟨rfl,rfl,w⟩⟩
def AJ{g:Fg}(e:fs σ G=some (.ok [.int j],G1))(h0:0<=j)(h1:j<=10000)(w:Wp (K7 g t a (λ_=>true) (K3 0 j.toNat) (T9 caps σ)) G1 λys G2=>Q (.ref G2.length) (G2++[.lst ys])):Wp (J3 (W5 fs) caps g t a σ) G Q:=by refine W.wp_comp.mpr (W.rng1.mpr (b8 e ((W.rng1_int ⟨by lia,by lia⟩).mpr ⟨?_,w⟩)));show (K3 0 j.toNat).length<=zq;unfold K3;rw[zg,yi];exact zK (by lia) (show 10000<=zq by decide)
def V6{g:Fg}(e:b σ G=some (.ok (.tup l),G1))(h:l.length<=10000)(w:Wp (K7 g t a (λ_=>true) l (T9 caps σ)) G1 λys G2=>Q (.ref G2.length) (G2++[.lst ys])):Wp (J3 (itW b) caps g t a σ) G Q:=
 W.wp_comp.mpr (W.wp_itW.mpr (b8 e (W.srcW_tup.mpr ⟨zK h (show 10000<=zq by decide),w⟩)))
def uz(w:Wp (t σ) G λk G1=>(k=true->Wp (f σ) G1 A)/\(k=false->Wp (g σ) G1 A))(k:∀fl G1,A fl G1->P fl G1):Wp (ifS t f g σ) G P:=(X3 w).mono k
def M3(w:Wp (a σ) G λd G1=>P (.nx (σ.set i (some d))) G1):Wp (M8 a (d6 i) σ) G P:=W8.mpr (w.mono λ_ _ h=>M6.mpr h)
def u5(w:Wp (a σ) G λd G1=>P (.rt d) G1):Wp (t8 a σ) G P:=r6.mpr w
def j8(e:fs σ G=some (.ok as,G1))(h:as.length=n)(w:Wp (F as) G1 Q):Wp (T2 (fnX n F) fs σ) G Q:=W7.mpr (b8 e (T6.mpr ⟨h,w⟩))
def L5(e:fs σ G=some (.ok as,G1))(w:Wp (F as) G1 Q):Wp (T2 F fs σ) G Q:=W7.mpr (b8 e w)
def O6(w:Wp (fs σ) G λas G1=>Wp (F as) G1 Q):Wp (T2 F fs σ) G Q:=W7.mpr w
def v8(ea:a σ G=some (.ok x,G1))(eb:b σ G1=some (.ok y,G2))(w:Wp (o x y) G2 Q):Wp (j5 o a b σ) G Q:=D6.mpr (b8 ea (b8 eb w))
def m7(w:Wp (a σ) G λx G1=>Wp (b σ) G1 λy G2=>Wp (o x y) G2 Q):Wp (j5 o a b σ) G Q:=D6.mpr w
def R4(e:a σ G=some (.ok x,G1))(w:Wp (fs σ) G1 λxs G2=>R (x::xs) G2):Wp (B1 a fs σ) G R:=S5.mpr (b8 e w)
def m6(w:Wp (a σ) G λx G1=>Wp (fs σ) G1 λxs G2=>R (x::xs) G2):Wp (B1 a fs σ) G R:=S5.mpr w
def J6(w:Wp (a σ) G λx G1=>∃k,x= .bl k/\B k G1):Wp (VA a σ) G B:=FA.mpr w
end
def FH(K:zn)(x:Str)(st:Stmt):Prop:=∃(f:Addr) (od an:Option Addr) (sl:Array (Option zk)) (oc kV dc pm cd ct:zk),Zw K jF x=some (some (.ref f))/\
 K.lookup f=some ⟨oc,od,.func (yK x x (CA st) (C6 st) (K9 st) .none kV dc pm an cd ct),sl⟩/\ZC K cd x=true/\yD K (.ref f)=true
section
variable{K:zn}{h:Heap}{mg:Str->Option zk}{x:Str}{st:Stmt}
def FH.of{oc kV dc pm cd ct:zk}(a:Zw K jF x=some (some (.ref f)))
 (l:K.lookup f=some ⟨oc,od,.func (yK x x (CA st) (C6 st) (K9 st) .none kV dc pm an cd ct),sl⟩) (e:ZC K cd x=true) (k:yD K (.ref f)=true):FH K x st:=
 ⟨f,od,an,sl,oc,kV,dc,pm,cd,ct,a,l,e,k⟩
variable{ps:List Str}
def FH.ff(H:FH K x st)(X:K.In h)(G:h.Ns jF mg)(b:∀kV doc pm an Fi ct us,us.length=ps.length->bindArgs (yK x x (CA st) (C6 st) (K9 st) .none kV doc pm an Fi ct) ⟨us, []⟩=pure (ps.zip us)):∃f fd,FF K mg x st ps f fd:=by obtain⟨f,od,an,sl,oc,kV,dc,pm,cd,ct,a,l,e,k⟩:=H;exact⟨_,_,eJ l e k,(eJ l e k).binds b,YL X G a⟩
def sZ(h:us.length=n+1):∃a t,us=a::t/\t.length=n:=by
 rcases us with _|⟨a,t⟩
 ·cases h
 ·exact⟨a,t,rfl,Nat.succ.inj h⟩
def BLs.of(X:K.In h)(G:h.Ns jF mg)(z:∀b∈bltL,Zw K jF b=some none):BLs mg:=⟨λb hb=>PySem.W.mg_none_of X G (z b hb)⟩
end
abbrev Mh(h:Heap)(z TI TO:Addr)(f0:zk)(b:Bool):Prop:=
 h.get? z=some {cls:=.type "zip",dict:=none,data:=.fields #[f0,.bool b,.bool false,.ref TI,.ref TO],slots:= #[]}
section
variable{prog:jh}{w:jq}{A:jC}{E:VSP}{s:zD}{k1 k2:Bool}{i:Nat}{z TI TO i1 i2 l1 l2 T:Addr}{xs ys:Array zk}{b:Bool}
structure ZSt(k1 k2:Bool)(z TI TO i1 i2 l1 l2:Addr)(xs ys:Array zk)(n0 i:Nat)(h:Heap):Prop where
 hz:(ZW h z TI TO .none/\∃a b,yQ h TO a b)\/∃T b,Mh h z TI TO (xp ((n0+T:Nat):Int)) b/\T<i
 hTI:yQ h TI (.ref i1) (.ref i2)
 h1:SI k1 h i1 l1 i
 h2:SI k2 h i2 l2 i
 c1:SC k1 h l1 xs
 c2:SC k2 h l2 ys
end
section
variable{H:Hp}{n0:Nat}{ws:List (V×V)}
end
section
variable{X:Cx}{Z:XC}{a b:Expr}{fs:DSt->M (List D)}{p1 p2 pos1 pos2:Pos}
end
end DL
namespace TS
open PySem PyProof.Rows
section
variable{prog:jh}{w:jq}{A:jC}{E:VSP}{s:zD}
def kz(p:Yq):Int:=numOf p.1
end
def leK(x y:Yq):Prop:=kz x<=kz y
def Srt(l:List Yq):Prop:=l.Pairwise leK
structure MI(L out A B:List Yq):Prop where
 perm:(out++(A++B)).Perm L
 so:Srt out
 oa:∀x∈out,∀y∈A,leK x y
 ob:∀x∈out,∀y∈B,leK x y
 sa:Srt A
 sb:Srt B
structure MJ(L A B S:List Yq):Prop where
 perm:(A++(B++S)).Perm L
 ss:Srt S
 as:∀x∈A,∀y∈S,leK x y
 bs:∀x∈B,∀y∈S,leK x y
 sa:Srt A
 sb:Srt B
structure LI(a b:Array Yq)(out:Array Yq)(ia ib:Nat):Prop where
 mi:MI (a.toList++b.toList) out.toList (a.toList.drop ia) (b.toList.drop ib)
 ha:ia+1<a.size
 hb:ib<b.size
 sz:out.size=ia+ib
section
variable{a b out:Array Yq}{ia ib:Nat}
end
section
variable{prog:jh}{w:jq}{A:jC}{E:VSP}{s:zD}
end
section
variable{prog:jh}{w:jq}{A:jC}{E:VSP}{s:zD}
end
structure HI(a b:Array Yq)(out:Array Yq)(na nb:Nat):Prop where
 mj:MJ (a.toList++b.toList) (a.toList.take na) (b.toList.take nb) out.toList.reverse
 ha:0<na
 hb:1<nb
 la:na<=a.size
 lb:nb<=b.size
 sz:out.size+na+nb=a.size+b.size
section
variable{a b out:Array Yq}{na nb:Nat}
end
section
variable{prog:jh}{w:jq}{A:jC}{E:VSP}{s:zD}
end
section
variable{prog:jh}{w:jq}{A:jC}{E:VSP}{s:zD}
structure Aft(st Ew:SortSt)(l:List Yq)(p:Array (Nat×Nat×Nat)):Prop where
 kind:Zk Ew=oneType'
 arr:(Xf Ew).toList=l
 pend:pendingOf Ew=p
 fail:failedOf Ew=none
end
structure Run(lo:Nat)(st Ew:SortSt):Prop where
 kind:Zk Ew=oneType'
 pend:pendingOf Ew=pendingOf st
 fail:failedOf Ew=none
 perm:(Xf Ew).Perm (Xf st)
 low:∀i,i<lo->(Xf Ew)[i]? = (Xf st)[i]?
section
variable{prog:jh}{w:jq}{A:jC}{E:VSP}{s:zD}
end
section
variable{prog:jh}{w:jq}{A:jC}{E:VSP}{s:zD}
end
def lay:Nat->List (List Yq)->List Nat->List (Nat×Nat×Nat)
 |o,r::rs,p::ps=>(o,r.length,p)::lay (o+r.length) rs ps
 |_,_,_=> []
structure GI(a0:List Yq)(st:SortSt)(rs:List (List Yq))(ps:List Nat)(T:List Yq):Prop where
 kind:Zk st=oneType'
 fail:failedOf st=none
 arr:(Xf st).toList=rs.flatten++T
 perm:(Xf st).toList.Perm a0
 len:rs.length=ps.length
 pend:pendingOf st= (lay 0 rs ps).toArray
 ok:∀r∈rs,0<r.length/\Srt r
section
variable{prog:jh}{w:jq}{A:jC}{E:VSP}{s:zD}
end
section
variable{prog:jh}{w:jq}{A:jC}{E:VSP}{s:zD}
end
section
variable{prog:jh}{w:jq}{A:jC}{E:VSP}{s:zD}
end
end TS
namespace DL
open PySem PySem.Spec L2
open PyProof.Rows hiding St
section
variable{prog:jh}{w:jq}{A:jC}{E:VSP}{s:zD}{T:String}{r d:Addr}{n:Nat}{P:Nat->zk->Prop}{OK:Heap->Prop}{Q:VSP}
end
section
variable{X:Cx}{Z:XC}{c:Wc}{μ:List Addr}{H:Hp}{G:DH}
end
def uj(Ek:Option Int)(old:Array zk):Prop:=match Ek with
 |none=>old= #[]
 |some b=>∃t t',old= #[.int b t,.int b t']
def CF(r:Option Int)(v:zk):Prop:=match r with
 |none=>v= .none
 |some b=>∃t,v= .int b t
def km(a d:zk):JE "max" ⟨[a], [(jp "default",d)]⟩:=by unfold JE;kernel_rfl
def UG(a:Option Int)(n:Int):Option Int:=match a with
 |none=>some n
 |some b=>some (if n>b then n else b)
def QG(l:List Int):Option Int:=l.foldl UG none
def Gh(a d:zk):JE "min" ⟨[a], [(jp "default",d)]⟩:=by unfold JE;kernel_rfl
def GG(a:Option Int)(n:Int):Option Int:=match a with
 |none=>some n
 |some b=>some (if n<b then n else b)
def NG(l:List Int):Option Int:=l.foldl GG none
def mL:Bool->String
 |true=> "max.loop"
 |false=> "min.loop"
def mF:Bool->Option Int->Int->Option Int
 |true=>UG
 |false=>GG
section
variable{prog:jh}{w:jq}{A:jC}{E:VSP}
def Qq{a b:Int}{t t':Tok}(h:Q (.bool (decide (a>b))) s):zw (zG prog w) A (JV .Gt (.int a t) (.int b t')) Q E s:=richCompare_gives (op:=.Gt) (Zi _ _ t) (Zi _ _ t') F.slot_int_gt F.entry_int_gt (F.args_int_gt_2 _ _) (gives_int_gt _ _ t t') (λx=>nomatch x) h
def Qw{a b:Int}{t t':Tok}(h:Q (.bool (decide (a<b))) s):zw (zG prog w) A (JV .Lt (.int a t) (.int b t')) Q E s:=richCompare_gives (op:=.Lt) (Zi _ _ t) (Zi _ _ t') F.slot_int_lt F.entry_int_lt (F.args_int_lt_2 _ _) (gives_int_lt _ _ t t') (λx=>nomatch x) h
set_option maxHeartbeats 1000000 in
def oR(m:Bool)(hh:A.in1.handled=none)(hlI:l≠I)(hSI:S≠I)(hSl:S≠l)(hi:IntsAre vs ns):
 ∀k j s c Ek old,vs.length-j=k->j<=vs.length->(s.heap.IsListIter I l j/\s.heap.IsList l vs.toArray)->s.heap.get? S=some (jN "list" old c)->uj Ek old->
 (∀v h' tk,CF ((ns.drop j).foldl (mF m) Ek) v->(∀b o,b≠I->b≠S->s.heap.get? b=some o->h'.get? b=some o)->R (.ok (.ret v)) {s with heap:=h',toks:=tk})->
 Zs (zG prog w) A (.builtin (mL m) ⟨[.ref I,.none,.ref S], [(jp "default",.none)]⟩) R s:=by
 have Ei:=hi.length;have W:=Walks.list (prog:=prog) (w:=w) hh I l hlI vs.toArray;have n1:(ZK "max" ++ ZK ".loop" :String)= "max.loop":=by decide
 have n2:(ZK "min" ++ ZK ".loop" :String)= "min.loop":=by decide
 cases m
 all_goals
  dsimp only [mL,mF];intro k
  induction k with
  |zero=>
    intro j s c Ek old hk hj hst hS ho hR;have hd:ns.drop j= []:=List.drop_eq_nil_of_le (by lia);rw[hd]at hR
    first|refine yd F.entry_max_loop ?_|refine yd F.entry_min_loop ?_
    first|rw[jK xV _]|rw[jK xU _]
    refine za (yn hS rfl ?_);refine za (Xs (W.done s _ _ (by rw[zo,show vs.length=j by lia];exact hst) λh' tk Hn=>?_));have Ex:=Hn S _ (by simpa using hSI) hS;rcases Ek with _|b
    · cases ho
      refine za (yS (zi (hR .none h' tk rfl λb o b1 _ e=>Hn b o (by simpa using b1) e)))
    ·obtain⟨t,t',rfl⟩:=ho;refine za (Ze Ex rfl (za (xR (zi ?_))));exact hR _ _ tk ⟨t,rfl⟩ λb o b1 b2 e=>(jU _ _ (Ne.symm b2)).trans (Hn b o (by simpa using b1) e)
  |succ k ih=>
    intro j s c Ek old hk hj hst hS ho hR;have Eo:j<ns.length:=by lia
    have hd:ns.drop j=ns[j]::ns.drop (j+1):=xQ Eo;rw[hd]at hR
    first|refine yd F.entry_max_loop ?_|refine yd F.entry_min_loop ?_
    first|rw[jK xV _]|rw[jK xU _]
    refine za (yn hS rfl ?_);refine za (Xs (W.item j s _ _ (by rw[zo];lia) hst λv h' tk hP hst' Hn=>?_));have Ex:=Hn S _ (by simpa using hSI) hS;obtain⟨t0,e0⟩:=hi.get j _ (zj Eo);have ev:v= .int ns[j] t0:=by
     have hP':vs[j]? =some v:=by simpa using hP
     rw[e0]at hP';exact(jc hP').symm
    subst ev;have keep:∀ {f:Array zk->Array zk} (b:Addr) (o:Obj),b≠S->h'.get? b=some o->(h'.update S (jG f)).get? b=some o:=λb o hb e=>(jU _ _ (Ne.symm hb)).trans e;have stay:∀ {f:Array zk->Array zk},(h'.update S (jG f)).IsListIter I l (j+1)/\(h'.update S (jG f)).IsList l vs.toArray:=⟨hst'.1.at λo e=>keep _ o hSI.symm e,hst'.2.at λo e=>keep _ o hSl.symm e⟩;rcases Ek with _|b
    · cases ho
      refine za (zi (za (Ze Ex rfl ?_)))
      first|rw[n1]|rw[n2]
      refine zi ⟨yc (by first|exact xV|exact xU) _,ih (j+1) _ _ (some ns[j]) _ (by lia) (by lia) stay (jP _ Ex rfl) ⟨t0,t0,rfl⟩ λv h2 tk2 o2 k2=>?_⟩;exact hR v h2 tk2 o2 λb o b1 b2 e=>k2 b o b1 b2 (keep b o b2 (Hn b o (by simpa using b1) e))
    · obtain⟨t,t',rfl⟩:=ho;refine za (zi (za (Xs (jB (za ?_)))))
      first|with_reducible refine Qq ?_|with_reducible refine Qw ?_
      refine za (jB (yA (za (xR (zi ?_)))));split<;>rename_i hb
      · rw[yk]at hR
        first|rw[show UG (some b) ns[j]=some ns[j]from congrArg some (if_pos (of_decide_eq_true hb))]at hR|rw[show GG (some b) ns[j]=some ns[j]from congrArg some (if_pos (of_decide_eq_true hb))]at hR
        refine za (Ze Ex rfl (za (xR ?_)))
        first|rw[n1]|rw[n2]
        refine zi ⟨yc (by first|exact xV|exact xU) _,ih (j+1) _ _ (some ns[j]) _ (by lia) (by lia) stay (jP _ Ex rfl) ⟨t0,t0,rfl⟩ λv h2 tk2 o2 k2=>?_⟩;exact hR v h2 tk2 o2 λb o b1 b2 e=>k2 b o b1 b2 (keep b o b2 (Hn b o (by simpa using b1) e))
      · rw[yk]at hR
        first|rw[show UG (some b) ns[j]=some b from congrArg some (if_neg (of_decide_eq_false (yZ.mpr hb)))]at hR|rw[show GG (some b) ns[j]=some b from congrArg some (if_neg (of_decide_eq_false (yZ.mpr hb)))]at hR
        refine za (xR ?_)
        first|rw[n1]|rw[n2]
        refine zi ⟨yc (by first|exact xV|exact xU) _,ih (j+1) _ _ (some b) _ (by lia) (by lia) hst' Ex ⟨t,t',rfl⟩ λv h2 tk2 o2 k2=>?_⟩;exact hR v h2 tk2 o2 λb o b1 b2 e=>k2 b o b1 b2 (Hn b o (by simpa using b1) e)
def Ct(hh:A.in1.handled=none)(hl:s.heap.IsList l vs.toArray)(hi:IntsAre vs ns)
 (hQ:∀v h' tk,CF (QG ns) v->(∀b o,s.heap.get? b=some o->h'.get? b=some o)->Q v {s with heap:=h',toks:=tk}):zw (zG prog w) A (call (.builtin "max") [.ref l] [(jp "default",.none)]) Q E s:=by
 have Eo:l<s.heap.objs.size:=by obtain⟨_,e,_⟩:=hl;exact zu e
 have hname:(ZK "max" ++ ZK ".loop" :String)= "max.loop":=by decide
 refine kmb_tree F.kind_max F.plain_max F.entry_max (km _ _) ?_;refine za (JU (show YK "max" ["key", "default"] 0 ⟨[], [(jp "default",.none)]⟩=pure [none,some .none]from rfl) (za (zi (za (xJ hl (za (Zb ?_ (zY _))))))));rw[hname];have hS:∀o,(s.heap.push o).objs.size=s.heap.objs.size+1:=λo=>Yd ..;refine zi ⟨yc xV _,oR true hh (zE Eo) (by rw[hS];exact jX (xO _)) (by rw[hS];exact jX (jR Eo)) hi _ 0 _ 0 none #[] rfl (zY _) ⟨⟨_,zh _ (zt _ rfl),rfl,rfl⟩,(hl.push _).push _⟩ (zt _ rfl) rfl λv h' tk o k=>?_⟩;exact hQ v h' tk o λb o e=>k b o (zE (zu e)) (by rw[hS];exact zE (jR (zu e))) (zh _ (zh _ e))
def Fq(hh:A.in1.handled=none)(hl:s.heap.IsList l vs.toArray)(hi:IntsAre vs ns)
 (hQ:∀v h' tk,CF (NG ns) v->(∀b o,s.heap.get? b=some o->h'.get? b=some o)->Q v {s with heap:=h',toks:=tk}):zw (zG prog w) A (call (.builtin "min") [.ref l] [(jp "default",.none)]) Q E s:=by
 have Eo:l<s.heap.objs.size:=by obtain⟨_,e,_⟩:=hl;exact zu e
 have hname:(ZK "min" ++ ZK ".loop" :String)= "min.loop":=by decide
 refine kmb_tree F.kind_min F.plain_min F.entry_min (Gh _ _) ?_;refine za (JU (show YK "min" ["key", "default"] 0 ⟨[], [(jp "default",.none)]⟩=pure [none,some .none]from rfl) (za (zi (za (xJ hl (za (Zb ?_ (zY _))))))));rw[hname];have hS:∀o,(s.heap.push o).objs.size=s.heap.objs.size+1:=λo=>Yd ..;refine zi ⟨yc xU _,oR false hh (zE Eo) (by rw[hS];exact jX (xO _)) (by rw[hS];exact jX (jR Eo)) hi _ 0 _ 0 none #[] rfl (zY _) ⟨⟨_,zh _ (zt _ rfl),rfl,rfl⟩,(hl.push _).push _⟩ (zt _ rfl) rfl λv h' tk o k=>?_⟩;exact hQ v h' tk o λb o e=>k b o (zE (zu e)) (by rw[hS];exact zE (jR (zu e))) (zh _ (zh _ e))
end
def K2(r:Option Int):D:=match r with
 |none=>.non
 |some b=>.int b
def ME(d:D):M (List Int):=match d with
 | .ref r=>(N5 r >>= listOf) >>= λl=>S1 (c9 l)
 |_=>M.stuck
def mmE(f:List Int->Option Int)(fe:Fe):Fe:=λσ=>fe σ >>= λd=>ME d >>= λns=>pure (K2 (f ns))
def bY(h:CF r v):∃x:V,J5 x v/\∀c μ H,d8 c μ H (K2 r) x:=by
 rcases r with _|b
 ·cases h;exact⟨.non,rfl,λ_ _ _=>by unfold K2 d8;rfl⟩
 ·obtain⟨t,rfl⟩:=h;exact⟨.int b,⟨t,rfl⟩,λ_ _ _=>by unfold K2 d8;rfl⟩
theorem fR:∀ {vs} {ns},vs.length=ns.length->(∀i u,vs[i]? =some u->∃t,u=Value.int (ns.getD i 0) t)->IntsAre vs ns
 |[], [],_,_=>.nil
 |v::vs,n::ns,e,h=>by obtain⟨t,rfl⟩:=h 0 v rfl;exact .cons _ t (fR (Nat.succ.inj e) λi u hu=>by simpa using h (i+1) u (by simpa using hu))
def vn{f:List Int->M α}{K:α->List Addr->DH->Hp->Prop}(h:v6 c μ G H)(rv:d8 c μ H d v)(p:c7 c Z μ H ((ME d >>= f) G) K):
 ∃l ns a vs,v= .ref a/\m9 c μ H l vs/\SqL c.K H a vs/\c9 l=some ns/\c7 c Z μ H (f ns G) K:=by
 obtain⟨r,rfl⟩:∃r,d= .ref r:=match d,p with
  | .ref r,_=>⟨r,rfl⟩
 obtain⟨ns,⟨l,a,vs,e1,e2,e3,e4⟩,q⟩:∃ns,(∃l a vs,v= .ref a/\m9 c μ H l vs/\SqL c.K H a vs/\c9 l=some ns)/\c7 c Z μ H (f ns G) K:=by
  have p':c7 c Z μ H (((N5 r >>= listOf) >>= λl=>S1 (c9 l) >>= f) G) K:=by rw[<-M.bind_assoc];exact p
  obtain⟨l,a,vs,e1,e2,e3,p2⟩:=kC h rv p';obtain⟨ns,e4,p3⟩:=S8 p2;exact⟨ns,⟨l,a,vs,e1,e2,e3,e4⟩,p3⟩
 exact⟨l,ns,a,vs,e1,e2,e3,e4,q⟩
def wZ{K:List D->List Addr->DH->Hp->Prop}(p:c7 c Z μ H (fe X9 G) λd X2 G' H'=>K [d] X2 G' H'):c7 c Z μ H (B1 fe L0 X9 G) K:=by
 show c7 c Z μ H ((fe X9 >>= λy=>(pure [y]:M (List D))) G) K
 match hm:fe X9 G,p with
 |some (.ok y,G1),p=>rw[M.bind_ok hm];exact p
 |some (.error y,G1),p=>rw[M.bind_eq,hm];exact p
def kP{nm:Str}{bn:String}{O:List Int->Option Int}(hb:nm∈bltL)(ht:je nm=some (.builtin bn))(hd:nm≠ "__name__")(hd2:(nm==("__debug__" :Str))=false)
 (hm:∀ {A:jC} {s:zD} {l vs ns Q E},A.in1.handled=none->s.heap.IsList l vs.toArray->IntsAre vs ns->(∀v h' tk,CF (O ns) v->(∀b o,s.heap.get? b=some o->h'.get? b=some o)->Q v {s with heap:=h',toks:=tk})->zw (zG X.prog X.w) A (call (.builtin bn) [.ref l] [(jp "default",.none)]) Q E s)
 (hc:X.calm=true) (Ho:BLs X.mg) (hg:Gl X nm) (he:DE X Z e fe) (hs:S6 e=true):DE X Z (.Call (.Name nm p) [e] [⟨some "default",.Constant .none j pn,kp⟩] pos) (mmE O fe):=⟨by
 intro Ee s σ H Q I h;refine yp (E7 I hg (Ho.h _ hb) ht ?_ hd hd2);refine h.elim λX9 μ G sr hr pp=>?_;have hst:zW [e] X.env= (false,eval e X.env)::zW [] X.env:=P8 hs;refine callWith_builtin_kwB (by rw[LF];exact MC (by rw[yt,hs];rfl)) rfl (evalArgs_kw2 rfl ?_ hst);have ha:DA X Z [e] (B1 fe L0):=GJ he bM hst;have pa:=c7.bind pp;refine thn (ha.h pos Ee s σ H (λvs H1=>∃v,vs= [v]/\AF (wc X) Z (λd=>ME d >>= λns=>pure (K2 (O ns))) v H1 Q) I ⟨X9,μ,G,sr,hr,wZ (pa.mono λd X0 G1 H1 x1 h1 p1 vs rv=>?_)⟩) λus s1 hu=>hu.elim λvs H1 I1 r1 q1=>?_
 ·obtain⟨v,rfl,r⟩:=F3 rv;exact⟨v,rfl,d,X0,G1,r,h1,p1⟩
 · obtain⟨v,rfl,d,X0,G1,r,h1,p1⟩:=q1;obtain⟨u,rfl,ru⟩:=S3 r1;obtain⟨l,ns,a,ws,rfl,rl,sq,en,p2⟩:=vn h1 r p1
   cases ru
   show zw _ _ (evalAll [(do let v <-eval (.Constant .none j pn) X.env;standAt pos;pure v)]) _ _ s1;refine wpAny_evalAll_cons (za (thn (UP Ee s1 σ H1 (λv H'=>v= .non/\H'=H1) I1 ⟨rfl,rfl⟩) λu2 s2 hz=>hz.elim λv2 H2 I2 r2 e2=>?_));obtain⟨rfl,rfl⟩:=e2
   cases r2
   refine za (Ys (zi (wpAny_evalAll_nil ?_)));obtain⟨Ef,rr,pl,hz⟩:=I2.list sq;obtain⟨n1,n2⟩:=RR en rl rr;refine hm (I2.ok.hd hc) pl.isList (fR n1 n2) λv h' tk ho hk=>?_;obtain⟨x,rx,rp⟩:=bY ho;exact⟨x,H2,I2.kept hk,rx,c7.ok p2 h1 _ (rp _ _ _)⟩⟩
def wj(hc:X.calm=true)(Ho:BLs X.mg)(hg:Gl X "max")(he:DE X Z e fe)(hs:S6 e=true):DE X Z (.Call (.Name "max" p) [e] [⟨some "default",.Constant .none j pn,kp⟩] pos) (mmE QG fe):=kP (by decide +kernel) IS (by decide) (by decide) Ct hc Ho hg he hs
def Qb(hc:X.calm=true)(Ho:BLs X.mg)(hg:Gl X "min")(he:DE X Z e fe)(hs:S6 e=true):DE X Z (.Call (.Name "min" p) [e] [⟨some "default",.Constant .none j pn,kp⟩] pos) (mmE NG fe):=kP (by decide +kernel) Tj (by decide) (by decide) Fq hc Ho hg he hs
structure AC(X:Cx)(e:Expr)(k:Int):Prop where
 h:PE X e (tC (.int k))
section
variable{X:Cx}{Z:XC}{pos:Pos}{e f:Expr}{i j k:Int}
def bW{m pos}:AC X (.Constant (.int i) m pos) i:=⟨rT⟩
def pX(he:AC X e i)(hf:AC X f j)(hc:QA i j)(hk:i ^ j.toNat=k):AC X (.BinOp e .Pow f pos) k:=⟨by
 subst hk;exact PE.mono (AM wP he.h hf.h) λσ H Q q=>⟨i,j,rfl,rfl,hc,q⟩⟩
def tu(he:AC X e i)(hf:AC X f j)(hk:i-j=k):AC X (.BinOp e .Sub f pos) k:=⟨by
 subst hk;exact PE.mono (AM iU he.h hf.h) λσ H Q q=>⟨i,j,rfl,rfl,q⟩⟩
end
end DL
namespace DL
open PySem PySem.W
open PyProof.Rows hiding St
structure WO(lt:Nat->Nat->Bool):Prop where
 tr:∀i j k,lt j i=false->lt k j=false->lt k i=false
 as:∀i j,lt i j=true->lt j i=false
end DL
namespace DL
open PySem PySem.Spec L2
open PyProof.Rows hiding St
section
variable{X:Cx}{Ee:PNS}{σ:St}{H:Hp}{s:zD}
end
section
variable{prog:jh}{w:jq}{A:jC}{E:VSP}{s:zD}{C:Bool->zD->Prop}
end
section
variable{X:Cx}{Z:XC}{Ee:PNS}{σ:St}{H:Hp}{s:zD}{F:List D->M D}{k:Nat}{f:Addr}{fd:xT}{ps:List Str}{μ:List Addr}{G:DH}
end
section
variable{X:Cx}{Z:XC}{e:Expr}{fe:Fe}{p pf kp pos:Pos}{x:Str}{F:List D->M D}
end
section
variable{prog:jh}{w:jq}{A:jC}{E:VSP}{s:zD}
end
section
variable{X:Cx}{Z:XC}{es:List Expr}{pos:Pos}
end
section
variable{X:Cx}{Z:XC}
end
def VC:Fs:=λ_=>M.stuck
section
variable{X:Cx}{Z:XC}
def IZ{st:Stmt}:DS X Z st VC:=⟨by
 intro Ee s σ H E I Eh;obtain⟨X9,μ,G,sr,hr,p⟩:=Eh;exact p.elim⟩
end
def sb1:isSubtype (.type "dict") (.type "set")=pure false:=by rw[Zr];kernel_rfl
def sb2:isSubtype (.type "dict") (.type "frozenset")=pure false:=by rw[Zr];kernel_rfl
section
variable{prog:jh}{w:jq}{A:jC}{E:VSP}{s:zD}
end
def lh:entryFor table "set.__or__" =some yg.«frozenset.__or__»:=entryFor_alias (id':= "frozenset.__or__") (by kernel_rfl) rfl (by decide +kernel) (by kernel_rfl)
section
variable{prog:jh}{w:jq}{A:jC}{E:VSP}{s:zD}
end
def n9:Slot "set_iterator" "__next__" "set_iterator.__next__":=.of (owner:= "set_iterator") (n:= "__next__") (by rw[ZR,xH];kernel_rfl) (by decide +kernel) (by decide +kernel) (by decide +kernel) (by first|exact .inl (by decide +kernel)|exact .inr (by decide +kernel)) (by rw[Zr];kernel_rfl)
def BP:Slot "set_iterator" "__iter__" "set_iterator.__iter__":=.of (owner:= "set_iterator") (n:= "__iter__") (by rw[ZR,xH];kernel_rfl) (by decide +kernel) (by decide +kernel) (by decide +kernel) (by first|exact .inl (by decide +kernel)|exact .inr (by decide +kernel)) (by rw[Zr];kernel_rfl)
def oI:entryFor table "set_iterator.__next__" =some yg.«set_iterator.__next__»:=entryFor_of_tree (by kernel_rfl)
def RV:entryFor table "set.__iter__" =some yg.«frozenset.__iter__»:=entryFor_alias (id':= "frozenset.__iter__") (by kernel_rfl) rfl (by decide +kernel) (by kernel_rfl)
def TH(a:zk):JE "set_iterator.__next__" ⟨[a], []⟩:=by unfold JE;kernel_rfl
def Tw(a:zk):JE "set_iterator.__iter__" ⟨[a], []⟩:=by unfold JE;kernel_rfl
def nw:entryFor table "set_iterator.__iter__" =some yg.«dict_keyiterator.__iter__»:=entryFor_alias (id':= "dict_keyiterator.__iter__") (by kernel_rfl) rfl (by decide +kernel) (by kernel_rfl)
section
variable{prog:jh}{w:jq}{A:jC}{E:VSP}{s:zD}
def nZ(hT:s.TypeIs (.ref r) "set")(h:Q false s):zw (zG prog w) A (xj (.ref r)) Q E s:=by
 unfold xj;refine za (wpAny_specialOf hT PySem.F.slot_set_len.lookup ?_);generalize hq:("set.__len__" :String)=id1
 wp_delta
 rw[show splitId id1=some ("set", "__len__")from by subst hq;decide +kernel];subst hq;refine za (Zz (T:= "set") (b:=true) hT (by rw[Zr];kernel_rfl) ?_);refine zR (λz=>absurd z (by decide)) (λ_=>?_);refine zR (λ_=>?_) (λz=>absurd (by decide +kernel) z);exact za (xX hT (zi h))
end
def MQ:je "set" =some (.type "set"):=by decide +kernel
section
variable{X:Cx}{Z:XC}{c:Wc}{μ:List Addr}{H:Hp}{G:DH}
end
section
variable{X:Cx}{Z:XC}{ea eb:Expr}{fa fb:Fe}{p p1 p2 q1 q2 q3 pos:Pos}
end
def Km(A:jC)(s:zD)(y x:zk)(b:Bool):Prop:=
 ∀(prog:jh) (w:jq) (E:VSP) (Q:VSP),Q (.bool b) s->zw (zG prog w) A (JV .GtE y x) Q E s
inductive GeR(A:jC)(s:zD):List zk->List zk->Bool->Prop
 |nil:GeR A s [] [] true
 |eq {x y xs ys b}:ye A s x y true->GeR A s xs ys b->GeR A s (x::xs) (y::ys) b
 |ne {x y xs ys b}:ye A s x y false->Km A s x y b->GeR A s (x::xs) (y::ys) b
section
open PySem.SeqAt
open PySem.AutoSeq1 (wpAny_loadPart')
open PySem.MeetsSeq PySem.MeetsSeq2 PySem.MeetsSeq3
end
section
variable{X:Cx}{Z:XC}
end
def KG:Fe:=λ_=>M.stuck
def CZ:DE X Z e KG:=⟨by
 intro Ee s σ H Q I Eh;obtain⟨X9,μ,G,sr,hr,p⟩:=Eh;exact p.elim⟩
section
variable{X:Cx}{Z:XC}{Ee:PNS}{σ:St}{k:Nat}{f:Addr}{fd:xT}{ps:List Str}{F:List D->M D}{A:jC}
end
section
variable{X:Cx}{Z:XC}{F:List D->M D}{x:Str}{e:Expr}{fe:Fe}{p pf kp pos:Pos}
end
section
variable{prog:jh}{w:jq}{A:jC}{E:VSP}{s:zD}{K:Type}[DecidableEq K]{knd:KeyKind prog w K}
end
section
variable{X:Cx}{Z:XC}{ea:Expr}{fa:Fe}{p q1 ap pos:Pos}
end
inductive CdE(w:jq)(K:zn)(mg:Str->Option zk):List DictEntry->List (Str×D)->Prop
 |nil:CdE w K mg [] []
 |cons {z:Str} {t:Tok} {u:zk} {d:D} {es:List DictEntry} {tb:List (Str×D)} (h:CR K mg d u) (r:CdE w K mg es tb):CdE w K mg ({hash:=PyData.keyHash w.params z,key:=.str z t,val:=u}::es) ((z,d)::tb)
structure CdOk(w:jq)(K:zn)(mg:Str->Option zk)(x:Str)(tb:List (Str×D)):Prop where
 ex:∃a es n,mg x=some (.ref a)/\K.lookup a=some ⟨.type "dict",none,.dict (jw es) n, #[]⟩/\CdE w K mg es tb
 nd:(tb.map (·.1)).Nodup
section
variable{X:Cx}{Z:XC}{b:Expr}{fb:Fe}{x:Str}{tb:List (Str×D)}{p pos:Pos}
end
mutual
def pyD:D->PyData
 | .non=>.none
 | .bl b=>.bool b
 | .int i=>.int i
 | .str x=>.str x
 | .tup l=>.tuple (pyL l)
 | .ref _=>.none
 | .fn _=>.none
 | .ty _=>.none
def pyL:List D->List PyData
 |[]=> []
 |d::r=>pyD d::pyL r
end
mutual
def GD:D->Bool
 | .non=>true
 | .bl _=>true
 | .int _=>true
 | .str _=>true
 | .tup l=>MG l
 | .ref _=>false
 | .fn _=>false
 | .ty _=>false
def MG:List D->Bool
 |[]=>true
 |d::r=>GD d&&MG r
end
mutual
theorem MZ:∀d:D,(pyD d).hasDict=false
 | .non=>rfl
 | .bl _=>rfl
 | .int _=>rfl
 | .str _=>rfl
 | .tup l=>by unfold pyD;exact lS l
 | .ref _=>rfl
 | .fn _=>rfl
 | .ty _=>rfl
theorem lS:∀l:List D,PyData.hasDictAll (pyL l)=false
 |[]=>rfl
 |d::r=>by unfold pyL;show ((pyD d).hasDict||PyData.hasDictAll (pyL r))=false;rw[MZ d,lS r];rfl
end
section
variable{X:Cx}{Z:XC}{Ee:PNS}{σ:St}{H:Hp}{s:zD}
def Mw(I:Inv X Ee σ H s)(q:SqT X.K H a vs):∃o Ef n,s.heap.get? a=some o/\o.cls= .type "tuple"/\o.data= .seq Ef n/\u9 vs Ef.toList:=by
 rcases q with q|⟨o,Ef,n,hl,hc,hd,_,hv⟩
 ·obtain⟨_,Ef,hv,o,e,c,n,d⟩:=(show U5 X.prog X.w H s.heap a (.tup vs)from fM I.hok q);exact⟨o,Ef.toArray,n,e,c,(xg d).1,by simpa using hv⟩
 ·exact⟨o,Ef,n,I.kIn _ _ hl,hc,(xg hd).1,hv⟩
mutual
theorem Wk(I:Inv X Ee σ H s):∀d {v} {u},GD d=true->d8 (wc X) μ H d v->J5 v u->∃as,Reads s.heap u (pyD d) as
 | .non,v,u,_,r,q=>by unfold d8 at r;subst r;cases q;exact⟨_,.none⟩
 | .bl b,v,u,_,r,q=>by unfold d8 at r;subst r;cases q;exact⟨_,.bool b⟩
 | .int i,v,u,_,r,q=>by unfold d8 at r;subst r;obtain⟨t,rfl⟩:=q;exact⟨_,.int i t⟩
 | .str x,v,u,_,r,q=>by unfold d8 at r;subst r;obtain⟨t,rfl⟩:=q;exact⟨_,.str x t⟩
 | .tup l,v,u,hd,r,q=>by
   unfold d8 at r;obtain⟨a,vs,rfl,sq,rl⟩:=r
   cases q
   obtain⟨o,Ef,n,e,c,d,hv⟩:=Mw I sq;obtain⟨as,ra⟩:=bP I l (by unfold GD at hd;exact hd) rl hv;unfold pyD;exact⟨as,.tuple e c d ra⟩
 | .ref _,v,u,hd,_,_=>by unfold GD at hd;cases hd
 | .fn _,v,u,hd,_,_=>by unfold GD at hd;cases hd
 | .ty _,v,u,hd,_,_=>by unfold GD at hd;cases hd
theorem bP(I:Inv X Ee σ H s):∀l {vs} {us},MG l=true->m9 (wc X) μ H l vs->u9 vs us->∃as,ReadsAll s.heap us (pyL l) as
 |[],vs,us,_,r,q=>by unfold m9 at r;subst r;cases q;exact⟨_,.nil⟩
 |d::l,vs,us,hd,r,q=>by
   unfold m9 at r;obtain⟨v,r',rfl,r1,r2⟩:=r;unfold MG at hd;rw[jk]at hd
   cases q with
   |cons q1 q2=>
     obtain⟨as,h1⟩:=Wk I d hd.1 r1 q1;obtain⟨bs,h2⟩:=bP I l hd.2 r2 q2;unfold pyL;exact⟨_,.cons h1 h2⟩
end
end
section
variable{X:Cx}{Z:XC}
end
end DL
namespace W
open PySem PySem.Spec L2 DL
open PyProof.Rows hiding St
end W
namespace DL
open PySem PySem.Spec L2
open PyProof.Rows hiding St
section
variable{X:Cx}{Z:XC}{o:Expr}{fo:Fe}{name:Str}{id:String}{mm:D->List D->M D}{Ez Em:Pos}
end
def sV:zk->Str
 | .str x _=>x
 |_=> ""
def byT(w:jq):Bool:=w.params.followText "set-order"
def TSet(prog:jh)(w:jq)(h:Heap)(a:Addr)(ss:List Str):Prop:=∃o es ep t,h.get? a=some o/\o.ExactSet/\o.data= .set es ep t/\XD (strKind prog w) es.toList/\(es.toList.map λe=>sV e.2).Perm ss/\es.size<YG/\t.fits es.size=true/\t.led= (!byT w)/\(0<es.size->t.plain=false)
def iw(t:SetTable)(n:Nat):(t.orStandIn n).led=t.led:=by unfold SetTable.orStandIn;split<;>rfl
def Ab(t:SetTable)(es:Array (Int×zk))(h:Int)(x:zk):(layNew t es h x).2.1.led=t.led:=by
 unfold layNew;split
 ·exact iw _ _
 ·rfl
def EW{led plain:Bool}(h:YI m f v led plain hs=some (t,o)):t.led=led/\t.plain=plain:=by unfold YI at h;simp only[Option.bind_eq_bind,Option.bind_eq_some_iff]at h;obtain⟨ow,_,h⟩:=h;have h:=jc h;injection h with h1 _;rw[<-h1];exact⟨rfl,rfl⟩
def oV(t:SetTable)(es:Array (Int×zk))(n:Nat):(Xt t es n).2.1.led=t.led/\(t.plain=false->(Xt t es n).2.1.plain=false):=by
 unfold Xt;split
 · rename_i t' o e;have:=EW e;dsimp only;split
   ·exact⟨this.1,λz=>this.2.trans z⟩
   ·exact⟨rfl,λ_=>rfl⟩
 ·exact⟨rfl,λ_=>rfl⟩
section
variable{prog:jh}{w:jq}{A:jC}{E:VSP}{s:zD}
def bF(h:(strKind prog w).is k v=true):∃t,v= .str k t:=Value.isStrOf_shape h
def Wg(h:XD (strKind prog w) es):k∈es.map (λe=>sV e.2)↔∃e∈es,(strKind prog w).is k e.2=true:=by
 rw[zF];constructor
 ·rintro⟨e,he,rfl⟩;obtain⟨⟨k,hk,_⟩,_⟩:=h e he;obtain⟨t,et⟩:=bF hk;refine⟨e,he,?_⟩;rw[et]at hk ⊢;exact hk
 ·rintro⟨e,he,hk⟩;obtain⟨t,et⟩:=bF hk;exact⟨e,he,by rw[et];rfl⟩
def oS(ho:s.heap.get? a=some o)(Ga:o.ExactSet)(hd:o.data= .set es ep t)(He:XD (strKind prog w) Er.toList)(hp:(Er.toList.map λe=>sV e.2).Perm ss)(hb:Er.size<YG)(hf:t'.fits Er.size=true)(hl:t'.led= (!byT w))(Fr:t'.plain=false):
 (s.heap.update a (xI Er t')).get? a=some {o with data:=.set Er (ep+1) t'}/\TSet prog w (s.heap.update a (xI Er t')) a ss:=by
 have hg:(s.heap.update a (xI Er t')).get? a=some {o with data:=.set Er (ep+1) t'}:=by have:=jP (xI Er t') ho (by rw[putSet_of Er t' hd];rfl);rw[putSet_of Er t' hd]at this;exact this
 exact⟨hg,_,Er,ep+1,t',hg,Ga,rfl,He,hp,hb,hf,hl,λ_=>Fr⟩
def oT{g:Bool->Sem Unit}(hg:∀(b:Bool) (W1:zD) Q',Q' () W1->zw (zG prog w) A (g b) Q' E W1)
 {a:Addr} {o:Obj} {ep:Nat} {t:SetTable} (ho:s.heap.get? a=some o) (Ga:o.ExactSet) (hd:o.data= .set es ep t)
 {t2:SetTable} {ss:List Str} (hel1:XD (strKind prog w) Fy.toList) (hp1:(Fy.toList.map λe=>sV e.2).Perm ss)
 (hb1:Fy.size<YG) (hf2:t2.fits Fy.size=true) (hl:t2.led= (!byT w)) (Fr:t2.plain=false) {wasDummy:Bool}
 (h:∀h',jy a s.heap h'->TSet prog w h' a ss->R (some true) {s with heap:=h'}):
 zw (zG prog w) A (do
  storeSet a Fy t2
  if (!wasDummy&&t2.tooFull)=true then do
   g (Xt t2 Fy (xy Fy.size)).2.2
   storeSet a (Xt t2 Fy (xy Fy.size)).1 (Xt t2 Fy (xy Fy.size)).2.1
   pure (some true)
   else pure (some true)) R E s:=by
 refine za (Zq ho hd ?_ (Ym hb1));obtain⟨ho1,hS1⟩:=oS ho Ga hd hel1 hp1 hb1 hf2 hl Fr;have hsb1:=jT s.heap a (xI Fy t2);split
 · have hp:=relayAll_perm t2 Fy (xy Fy.size);have hfr:=relayAll_fits t2 Fy (xy Fy.size);have hlr:=oV t2 Fy (xy Fy.size);generalize hRl:Xt t2 Fy (xy Fy.size)=Rl at hp hfr hlr ⊢;obtain⟨es2,t3,gave2⟩:=Rl;dsimp only at hp hfr hlr ⊢;have hsz:es2.size=Fy.size:=by rw[<-zL,hp.length_eq,zL]
   have hb2:es2.size<YG:=by rw[hsz];exact hb1
   refine za (hg _ _ _ ?_);refine za (Zq ho1 rfl ?_ (Ym hb2));obtain⟨_,hS2⟩:=oS (s:={s with heap:=s.heap.update a (xI Fy t2)}) ho1 Ga rfl (hel1.perm hp) ((hp.map _).trans hp1) hb2 hfr (hlr.1.trans hl) (hlr.2 Fr);exact zi (h _ (hsb1.trans (jT _ a _)) hS2)
 ·exact zi (h _ hsb1 hS1)
def nQ(hS:TSet prog w s.heap a ss)(hroom:ss.length+1<YG)
 (h:∀b h',jy a s.heap h'->TSet prog w h' a (if k∈ss then ss else ss++[k])->Q b {s with heap:=h'}):
 zw (zG prog w) A (setAddHashed a (.str k tk) ((strKind prog w).hash k)) Q E s:=by
 obtain⟨o,es,ep,t,ho,Ga,hd,He,hpm,hb,hf,hl,Fr⟩:=hS;have hkey:(strKind prog w).is k (.str k tk)=true:=strKind_is prog w k tk;have hsc:(Value.str k tk).scannable=true:=rfl;have hn:es.size=ss.length:=by have:=hpm.length_eq;rw[zg,zL]at this;exact this
 unfold setAddHashed setAddHashedIn;refine jB (za (zV ho hd hf ?_));dsimp only;rw[byScan_of hsc hb He];simp only[↓reduceIte];unfold setAddByScan;refine za ?_;refine za (yS ?_);refine za (wpAny_setScan_of hkey ho hd hf He ?_);have mem:k∈ss↔∃e∈es.toList,(strKind prog w).is k e.2=true:=by rw[<-hpm.mem_iff];exact Wg He
 cases hr:List.findIdx? (λe=>(strKind prog w).is k e.2) es.toList with
 |some j=>
   dsimp only;obtain⟨hj,hpj,_⟩:=List.findIdx?_eq_some_iff_getElem.mp hr;have hk:k∈ss:=mem.mpr ⟨es.toList[j],jW hj,hpj⟩;refine zi (zi ?_);have e:s= {s with heap:=s.heap}:=by cases s;rfl
   have:=h false s.heap (yB a s.heap) (by rw[if_pos hk];exact⟨o,es,ep,t,ho,Ga,hd,He,hpm,hb,hf,hl,Fr⟩);rw[e];exact this
 |none=>
   dsimp only;have hk:k∉ss:=λhk=>by obtain⟨e,he,hp⟩:=mem.mp hk;have:=List.findIdx?_eq_none_iff.mp hr e he;rw[hp]at this;exact Bool.noConfusion this
   have hgw:∀(b:Bool) {W1:zD} {Q':Unit->zD->Prop},Q' () W1->zw (zG prog w) A (match b with|true=>rule "set.scan.the-table-gave-way"|false=>pure ()) Q' E W1:=
    λb W1 Q' hq=>by cases b<;>first|exact zi hq|exact yS hq
   have hperm:=layNew_perm t es ((strKind prog w).hash k) (.str k tk);have hfits:=layNew_fits t es ((strKind prog w).hash k) (.str k tk);have hled:=Ab t es ((strKind prog w).hash k) (.str k tk);generalize hL:layNew t es ((strKind prog w).hash k) (.str k tk)=L at hperm hfits hled ⊢;obtain⟨Fy,t1,wasDummy,gave⟩:=L;dsimp only at hperm hfits hled ⊢;rw[Array.toList_push]at hperm;have hel1:XD (strKind prog w) Fy.toList:=(He.push hkey hsc).perm hperm;have hp1:(Fy.toList.map λe=>sV e.2).Perm (ss++[k]):=by refine(hperm.map _).trans ?_;rw[jD];exact hpm.append_right _
   have hb1':Fy.size<YG:=by rw[<-zL,hperm.length_eq,zJ,zL,hn];exact hroom
   refine za (hgw _ ?_);have hend:∀h',jy a s.heap h'->TSet prog w h' a (ss++[k])->Q true {s with heap:=h'}:=by intro h' hsb Ex;exact h true h' hsb (by rw[if_neg hk];exact Ex)
   split
   · refine za ?_;rw[hashByValue_scannable 8 hsc];refine zi ?_;refine oT ?_ ho Ga hd hel1 hp1 hb1' ?_ ?_ ?_ ?_
     ·intro b W1 Q' hq;cases b<;>first|exact zi hq|exact yS hq
     ·exact SetTable.fits_plain_off hfits
     ·exact hled.trans hl
     ·rfl
     ·intro h' hsb Ex;dsimp only;exact zi (hend h' hsb Ex)
   · rename_i hpn;refine za (zi ?_);simp only[↓reduceIte];refine oT ?_ ho Ga hd hel1 hp1 hb1' hfits (hled.trans hl) (by simpa using hpn) ?_
     ·intro b W1 Q' hq;cases b<;>first|exact zi hq|exact yS hq
     ·intro h' hsb Ex;dsimp only;exact zi (hend h' hsb Ex)
end
def ddT(ss:List Str)(k:Str):List Str:=if k∈ss then ss else ss++[k]
theorem iD:∀(l ss:List Str),(l.foldl ddT ss).length<=ss.length+l.length
 |[],ss=>by simp
 |k::l,ss=>by rw[yk];refine zK (iD l _) ?_;unfold ddT;split<;>simp<;>omega
def TSet.congr(hS:TSet prog w h a ss)(e:∀o,h.get? a=some o->h'.get? a=some o):TSet prog w h' a ss:=by obtain⟨o,es,ep,t,ho,r⟩:=hS;exact⟨o,es,ep,t,e o ho,r⟩
section
variable{prog:jh}{w:jq}{A:jC}{R:Result->zD->Prop}{I:Addr}{fp wr:List Addr}{G:Array GenState->Array GenState->Prop}{n:Nat}{P:Nat->zk->Prop}{St:Nat->zD->Prop}
end
def Da(e:h.get? a=some {cls:=.type "set",dict:=none,data:=.set #[] 0 (.fresh 0 0 (!byT w))}):TSet prog w h a []:=
 ⟨_, #[],0,_,e,⟨rfl,rfl,rfl⟩,rfl,(λ_ h=>by simp at h),.nil,by decide,by rfl,rfl,λh=>by simp at h⟩
def Bi(a:zk)
 (h:Q₁ (.ref s.heap.objs.size) {s with heap:=s.heap.push {cls:=.type "set",dict:=none,data:=.set #[] 0 (.fresh 0 0 (!byT w))}}):
 Zs (zG prog w) A (.call (.builtin "set.__new__") ⟨[.type "set",a], []⟩) (wants Q₁ E) s:=by
 refine codeAny_of_tree ?_;show zw _ A.in1 (do checkBuiltinCall "set.__new__" ⟨[.type "set",a], []⟩;again (.builtin "set.__new__" ⟨[.type "set",a], []⟩)) _ _ s;refine za (JU (F.newCall_set_1 a) (zi ⟨yc F.plain_set_new _,yd F.entry_set_new ?_⟩));rw[jK F.plain_set_new _];unfold yg.«set.__new__» Builtin.Frozenset.newClass;have hsub:=sub_set_self;obtain⟨hp,g,d,tk,os⟩:=s;dsimp only
 wp_walk
 refine xY (zi ?_);dsimp only;simp only[newObj];refine za (wpAny_alloc (zi ?_));exact zi h
theorem sK:∀(l:List α) i h,((l[i]'h)::l.eraseIdx i).Perm l
 |x::r,0,_=>.refl _
 |x::r,i+1,h=>by have ih:=sK r i (by simpa using h);show ((r[i]'(by simpa using h))::x::r.eraseIdx i).Perm (x::r);exact(List.Perm.swap ..).trans (.cons _ ih)
abbrev sO(es:Array (Int×zk))(ep:Nat)(t:SetTable):Obj:={cls:=.type "set",dict:=none,data:=.set es ep t,slots:= #[]}
abbrev sI(f:zk)(i:Nat)(a:Addr)(n ep:Nat):Obj:={cls:=.type "set_iterator",data:=.fields #[f,.int i 0,.ref a,.int n 0,.int ep 0]}
def mY(hn:n≠0)(h:∀i d',i<n->Q i {s with drawn:=d'}):zw (zG prog w) A (choose src n) Q E s:=by intro Γ p _;unfold choose;rw[Sem.wp_choose];refine⟨hn,?_⟩;rw[Sem.wp_pure];exact h _ _ (Xv _ (Nat.pos_of_ne_zero hn))
theorem CN:∀(xs:List α) s Q,(∀ys d',ys.Perm xs->Q ys {s with drawn:=d'})->zw (zG prog w) A (drawOrder xs.length xs) Q E s
 |[],s,Q,h=>zi (h [] s.drawn .nil)
 |x::r,s,Q,h=>by
   show zw _ _ (choose .order (x::r).length >>= λi=>match (x::r)[i]? with
    |some y=>(do return y::(<-drawOrder r.length ((x::r).eraseIdx i)))
    |none=>unsupported "internal:drawOrder") _ _ _
   refine za (mY (by simp) λi d' hi=>?_);rw[zj hi];dsimp only;have hl:((x::r).eraseIdx i).length=r.length:=by rw[List.length_eraseIdx,if_pos hi];simp
   rw[<-hl];refine za (CN _ _ _ λys d2 hp=>zi ?_);refine h _ d2 ?_;exact(List.Perm.cons _ hp).trans (sK _ i hi)
termination_by xs=>xs.length
decreasing_by simp only[hl];simp
theorem iQ(nx:Nat->Nat):∀f k (l:List α) out,f=l.length->(Jj nx f k l out).toList.Perm (out.toList++l)
 |0,k, [],out,_=>by unfold Jj;simp
 |f+1,k,x::r,out,hf=>by
   unfold Jj;have hi:nx k % (x::r).length<(x::r).length:=Xv _ (by simp);rw[zj hi];dsimp only;have hl:f= ((x::r).eraseIdx (nx k % (x::r).length)).length:=by rw[List.length_eraseIdx,if_pos hi];simpa using hf
   refine(iQ nx f (k+1) _ _ hl).trans ?_;rw[Array.toList_push,yH];exact(sK _ _ hi).append_left _
def UK(nx:Nat->Nat)(xs:Array α):(Ya nx xs).toList.Perm xs.toList:=by have:=iQ nx xs.size 0 xs.toList #[] (by simp);simpa [Ya]using this
def AI(hi:s.heap.get? I=some (sI f i a n ep))(h:Q (.ref I) s):zw (zG prog w) A (JC (.ref I)) Q E s:=by have hT:s.TypeIs (.ref I) "set_iterator":=⟨_,hi,rfl⟩;refine wpAny_pyIter_slot hT BP (jA BP hT nw (show zw _ _ (ret (.ref I)) _ _ s from ?_) (Tw _));exact zi ⟨_,rfl, "set_iterator",_,hT,n9.lookup,h⟩
section
def gE(h:Q (byT w) s):zw (zG prog w) A setsByText Q E s:=za (xY (zi h))
def pN(hb:byT w=true)(ha:s.heap.get? a=some (sO es ep t))(hf:t.fits es.size=true)(h:Q (((Ya (w.params.setOrder a ep) es)[i]?).map λe=>(e.2,slot)) s):zw (zG prog w) A (Xx a slot i ep) Q E s:=by unfold Xx;refine za (zV ha rfl hf ?_);refine za (gE ?_);refine zR (λ_=>?_) (λz=>absurd hb z);refine zR (λz=>absurd z (by simp)) (λ_=>?_);unfold setWalk;refine za (za (zV ha rfl hf ?_));refine za (gE ?_);refine zR (λ_=>?_) (λz=>absurd hb z);refine za (xY (zi ?_));exact zi h
def BL(hb:byT w=false)(hl:t.led=true)(h1:¬((!t.plain&&decide (es.size>1))=true))(ha:s.heap.get? a=some (sO es ep t))(hf:t.fits es.size=true) (h:Q (match es[Yp t.place slot]?,t.place[Yp t.place slot]? with
 |some (_,x),some j=>some (x,j+1)
 |_,_=>none) s):zw (zG prog w) A (Xx a slot i ep) Q E s:=by
 unfold Xx;refine za (zV ha rfl hf ?_);refine za (gE ?_);refine zR (λz=>absurd (hb.symm.trans z) (by decide)) (λ_=>?_);refine zR (λz=>absurd z h1) (λ_=>?_);refine za (show zw _ _ (if (!t.led&&!es.isEmpty)=true then unsupported "set:maker-not-led" else pure ()) _ _ _ from ?_);rw[hl];exact zi (zi h)
set_option maxHeartbeats 3200000 in
def eR{I:Addr}{slot i n nx:Nat}{x:zk}(hi:s.heap.get? I=some (sI (.int slot 0) i a es.size ep))(ha:s.heap.get? a=some (sO es ep t))(hf:t.fits es.size=true)
 (hN:∀(A:jC) E Q,Q (some (x,nx)) s->zw (zG prog w) A (Xx a slot i ep) Q E s)
 (h:∀h',h'.get? I=some (sI (.int nx 0) (i+1) a es.size ep)->jy I s.heap h'->Q (some x) {s with heap:=h'}):zw (zG prog w) A (xS (.ref I)) Q E s:=by
 have hT:s.TypeIs (.ref I) "set_iterator":=⟨_,hi,rfl⟩;unfold xS;refine za (Zc (jJ (name:=jp "__next__") hT n9 (jA n9 hT oI ?_ (TH _))));unfold yg.«set_iterator.__next__» YV;generalize hNx:Xx=N at hN ⊢
 wp_walk using zV ha rfl hf
 simp only[jE];refine hN _ _ _ ?_;dsimp only;refine za (yo hi (show 0<5 by decide) λh1 e1 k1=>?_);refine za (yo e1 (show 1<5 by decide) λh2 e2 k2=>?_);refine zi ⟨_,rfl,?_⟩;exact zi (h h2 e2 (k1.trans k2))
set_option maxHeartbeats 3200000 in
def cM{I:Addr}{slot i n nx:Nat}(hh:A.handled=none)(hi:s.heap.get? I=some (sI (.int slot 0) i a es.size ep))(ha:s.heap.get? a=some (sO es ep t))(hf:t.fits es.size=true)
 (hN:∀(A:jC) E Q,Q none s->zw (zG prog w) A (Xx a slot i ep) Q E s)
 (h:∀h',XZ I s.heap h'->Q none {s with heap:=h'}):zw (zG prog w) A (xS (.ref I)) Q E s:=by
 have hT:s.TypeIs (.ref I) "set_iterator":=⟨_,hi,rfl⟩;unfold xS;refine za (Zc (jJ (name:=jp "__next__") hT n9 (jA n9 hT oI ?_ (TH _))));unfold yg.«set_iterator.__next__» YV;generalize hNx:Xx=N at hN ⊢
 wp_walk using zV ha rfl hf
 simp only[jE];refine hN _ _ _ ?_;dsimp only
 wp_walk
 simp only[raiseNew];refine za (wpAny_handled ?_);rw[show A.in1.handled=none from hh];refine za (zi (wpAny_throw ?_));refine za (Zz (T:= "StopIteration") (b:=true) ⟨_,zt _ rfl,rfl⟩ isSubtype_stop (zi ?_));exact h _ (((jT ..).extBut.push _).push _)
set_option maxHeartbeats 3200000 in
def ma{I J:Addr}{ps:List Nat}(hi:s.heap.get? I=some (sI (.ref J) i a es.size ep))(ha:s.heap.get? a=some (sO es ep t))(hf:t.fits es.size=true)(hJ:s.heap.get? J=some {cls:=.type "tuple",data:=.seq (ps.map fun(i:Nat)=>xp i).toArray m})
 (hp:ps[i]? =some p) (he:es[p]? =some e)
 (h:∀h',h'.get? I=some (sI (.ref J) (i+1) a es.size ep)->jy I s.heap h'->Q (some e.2) {s with heap:=h'}):zw (zG prog w) A (xS (.ref I)) Q E s:=by
 have hT:s.TypeIs (.ref I) "set_iterator":=⟨_,hi,rfl⟩;unfold xS;refine za (Zc (jJ (name:=jp "__next__") hT n9 (jA n9 hT oI ?_ (TH _))));unfold yg.«set_iterator.__next__» YV
 wp_walk using zV ha rfl hf
 have eg:(ps.map fun(i:Nat)=>xp i).toArray[(i:Int).toNat]? =some (xp p):=by rw[jE,List.getElem?_toArray,zU,hp];rfl
 rw[eg];show zw _ _ (setNextDrawn a (p:Int).toNat (ep:Int).toNat >>= λx=>setField (.ref I) 1 (xp (i+1)) >>= λ_=>ret x) _ _ _;simp only[jE];unfold setNextDrawn;refine za (za (zV ha rfl hf ?_));refine zR (λz=>absurd z (by simp)) (λ_=>?_);rw[he];refine zi ?_;refine za (yo hi (show 1<5 by decide) λh2 e2 k2=>?_);refine zi ⟨_,rfl,?_⟩;exact zi (h h2 e2 k2)
set_option maxHeartbeats 3200000 in
def Co{ps:List Nat}(hh:A.handled=none)(hi:s.heap.get? I=some (sI (.ref J) ps.length a es.size ep))(ha:s.heap.get? a=some (sO es ep t))(hf:t.fits es.size=true)(hJ:s.heap.get? J=some {cls:=.type "tuple",data:=.seq (ps.map fun(i:Nat)=>xp i).toArray m})
 (h:∀h',XZ I s.heap h'->Q none {s with heap:=h'}):zw (zG prog w) A (xS (.ref I)) Q E s:=by
 have hT:s.TypeIs (.ref I) "set_iterator":=⟨_,hi,rfl⟩;unfold xS;refine za (Zc (jJ (name:=jp "__next__") hT n9 (jA n9 hT oI ?_ (TH _))));unfold yg.«set_iterator.__next__» YV
 wp_walk using zV ha rfl hf
 have eg:(ps.map fun(i:Nat)=>xp i).toArray[(ps.length:Int).toNat]? =none:=by rw[jE,List.getElem?_toArray,zU,zT (zp _)];rfl
 rw[eg]
 wp_walk
 simp only[raiseNew];refine za (wpAny_handled ?_);rw[show A.in1.handled=none from hh];refine za (zi (wpAny_throw ?_));refine za (Zz (T:= "StopIteration") (b:=true) ⟨_,zt _ rfl,rfl⟩ isSubtype_stop (zi ?_));exact h _ ((((jT ..).trans (jT ..)).extBut.push _).push _)
end
structure br(prog:jh)(w:jq)(A:jC)(s:zD)(a:Addr)(ss:List Str)(I:Addr)(h':Heap):Prop where
 keep:∀b o,s.heap.get? b=some o->h'.get? b=some o
 new:s.heap.objs.size<=I
 walk:∃(J:Addr) (vs:List zk) (Es:List Str) (St:Nat->Heap->Prop),s.heap.objs.size<=J/\StrsAre vs Es/\Es.Perm ss/\Walks prog w A I [I,J,a] [I] vs.length (λi v=>vs[i]? =some v) St/\St 0 h'
theorem eI:∀ {es},XD (strKind prog w) es->StrsAre (es.map (·.2)) (es.map λe=>sV e.2)
 |[],_=>.nil
 |e::r,h=>by obtain⟨⟨k,hk,_⟩,_⟩:=h e (zH ..);obtain⟨t,et⟩:=bF hk;rw[zO,zO,et];exact .cons _ _ (eI λx hx=>h x (zA _ hx))
def wkT(hh:A.handled=none)(hb:byT w=true)(hf:t.fits es.size=true)(Et:a≠I)(J:Addr)(hJ:J≠I):
 Walks prog w A I [I,J,a] [I] ((Ya (w.params.setOrder a ep) es).toList.map (·.2)).length (λi v=>((Ya (w.params.setOrder a ep) es).toList.map (·.2))[i]? =some v) (λi h=>h.get? I=some (sI (.int 0 0) i a es.size ep)/\h.get? a=some (sO es ep t)) where
 sub:=λb hb=>by simp at hb;simp[hb]
 frame:=λi h h' st hk=>⟨hk I (by simp) _ st.1,hk a (by simp) _ st.2⟩
 item:=λi s Q E hi st hQ=>by
  rw[zg]at hi;have e:(Ya (w.params.setOrder a ep) es)[i]? =some (Ya (w.params.setOrder a ep) es).toList[i]:=by rw[<-jz,zj hi]
  refine eR (n:=0) (nx:=0) (x:=(Ya (w.params.setOrder a ep) es).toList[i].2) st.1 st.2 hf (λA E Q hq=>pN hb st.2 hf (by rw[e];exact hq)) λh' hI hs=>?_;refine hQ _ h' s.toks (by rw[zU,zj hi];rfl) ⟨hI,?_⟩ λb o hb e=>?_
  ·rw[hs.2 a Et];exact st.2
  ·rw[hs.2 b (by simpa using hb)];exact e
 done:=λs Q E st hQ=>by rw[zg]at st;refine cM (n:=0) (nx:=0) hh st.1 st.2 hf (λA E Q hq=>pN hb st.2 hf (by rw[<-jz,zT (zp _)];exact hq)) λh' he=>hQ h' s.toks λb o hb e=>he b o (λz=>hb (by simp[z])) e
 self:=λi s Q E st hQ=>AI st.1 hQ
def wkD(hh:A.handled=none)(hf:t.fits es.size=true)(Et:a≠I)(J:Addr)(hJ:J≠I){ps:List Nat}{vs:List zk}(hv:ps.map (λp=>es[p]?.map (·.2))=vs.map some):
 Walks prog w A I [I,J,a] [I] vs.length (λi v=>vs[i]? =some v) (λi h=>h.get? I=some (sI (.ref J) i a es.size ep)/\h.get? a=some (sO es ep t)/\∃m,h.get? J=some {cls:=.type "tuple",data:=.seq (ps.map fun(i:Nat)=>xp i).toArray m}) where
 sub:=λb hb=>by simp at hb;simp[hb]
 frame:=λi h h' st hk=>⟨hk I (by simp) _ st.1,hk a (by simp) _ st.2.1,let ⟨m,e⟩:=st.2.2;⟨m,hk J (by simp) _ e⟩⟩
 item:=λi s Q E hi st hQ=>by
  obtain⟨m,e⟩:=st.2.2;have hl:ps.length=vs.length:=by have:=congrArg Za hv;simpa using this
  have g:=congrArg (·[i]?) hv;simp only[zU,zj hi,zj (show i<ps.length by omega),xW,zN]at g;obtain⟨q,eq,ev⟩:=Option.map_eq_some_iff.mp g;refine ma st.1 st.2.1 hf e (zj (show i<ps.length by omega)) eq λh' hI hs=>?_;refine hQ _ h' s.toks (by rw[zj hi,ev]) ⟨hI,?_,m,?_⟩ λb o hb e=>?_
  ·rw[hs.2 a Et];exact st.2.1
  ·rw[hs.2 J hJ];exact e
  ·rw[hs.2 b (by simpa using hb)];exact e
 done:=λs Q E st hQ=>by
  obtain⟨m,e⟩:=st.2.2;have hl:ps.length=vs.length:=by have:=congrArg Za hv;simpa using this
  rw[<-hl]at st;exact Co hh st.1 st.2.1 hf e λh' he=>hQ h' s.toks λb o hb e=>he b o (λz=>hb (by simp[z])) e
 self:=λi s Q E st hQ=>AI st.1 hQ
section
variable{prog:jh}{w:jq}{A:jC}{E:VSP}{s:zD}{a I:Addr}{es:Array (Int×zk)}{ep:Nat}{t:SetTable}
def VY(hh:A.handled=none)(hb:byT w=false)(hl:t.led=true)(he:es= #[])(hf:t.fits es.size=true)(Et:a≠I)(J:Addr):
 Walks prog w A I [I,J,a] [I] 0 (λi v=>([]:List zk)[i]? =some v) (λi h=>h.get? I=some (sI (.int 0 0) i a es.size ep)/\h.get? a=some (sO es ep t)) where
 sub:=λb hb=>by simp at hb;simp[hb]
 frame:=λi h h' st hk=>⟨hk I (by simp) _ st.1,hk a (by simp) _ st.2⟩
 item:=λi s Q E hi st hQ=>absurd hi (Nat.not_lt_zero _)
 done:=λs Q E st hQ=>cM (n:=0) (nx:=0) hh st.1 st.2 hf (λA E Q hq=>BL hb hl (by subst he;simp) st.2 hf (by subst he;simpa using hq)) λh' he=>hQ h' s.toks λb o hb e=>he b o (λz=>hb (by simp[z])) e
 self:=λi s Q E st hQ=>AI st.1 hQ
def qQ(p j:Nat):Yp #[p] j=if p<j then 1 else 0:=by unfold Yp;simp[SetTable.below.go]
def sy(hh:A.handled=none)(hb:byT w=false)(hl:t.led=true)(he:es= #[e])(hp:t.place= #[p])(hf:t.fits es.size=true)(Et:a≠I)(J:Addr):
 Walks prog w A I [I,J,a] [I] 1 (λi v=> [e.2][i]? =some v) (λi h=>h.get? I=some (sI (.int (if i=0 then (0:Nat)else p+1:Nat) 0) i a es.size ep)/\h.get? a=some (sO es ep t)) where
 sub:=λb hb=>by simp at hb;simp[hb]
 frame:=λi h h' st hk=>⟨hk I (by simp) _ st.1,hk a (by simp) _ st.2⟩
 item:=λi s Q E hi st hQ=>by
  obtain rfl:i=0:=by omega
  refine eR (n:=0) (nx:=p+1) (x:=e.2) st.1 st.2 hf (λA E Q hq=>BL hb hl (by subst he;simp) st.2 hf ?_) λh' hI hs=>?_
  ·rw[hp,qQ,he];simpa using hq
  refine hQ _ h' s.toks rfl ⟨hI,?_⟩ λb o hb e=>?_
  ·rw[hs.2 a Et];exact st.2
  ·rw[hs.2 b (by simpa using hb)];exact e
 done:=λs Q E st hQ=>cM (n:=0) (nx:=0) hh st.1 st.2 hf (λA E Q hq=>BL hb hl (by subst he;simp) st.2 hf (by rw[hp,qQ,he];simpa using hq)) λh' he=>hQ h' s.toks λb o hb e=>he b o (λz=>hb (by simp[z])) e
 self:=λi s Q E st hQ=>AI st.1 hQ
set_option maxHeartbeats 3200000 in
def nX(ha:s.heap.get? a=some (sO es ep t))(hf:t.fits es.size=true)
 (h1:(!byT w&&(!t.plain&&decide (es.size>1)))=true->∀(ps:List Nat) d',ps.Perm (ji es.size)->Q (.ref (s.heap.objs.size+1)) {s with heap:=(s.heap.push {cls:=.type "tuple",data:=.seq (ps.map fun(i:Nat)=>xp i).toArray}).push (sI (.ref s.heap.objs.size) 0 a es.size ep),drawn:=d'})
 (h2:¬((!byT w&&(!t.plain&&decide (es.size>1)))=true)->Q (.ref s.heap.objs.size) {s with heap:=s.heap.push (sI (.int 0 0) 0 a es.size ep)}) (hz:es.size<=zq):zw (zG prog w) A (JC (.ref a)) Q E s:=by
 have hA:s.TypeIs (.ref a) "set":=⟨_,ha,rfl⟩;refine wpAny_pyIter_slot hA F.slot_set_iter (jA F.slot_set_iter hA RV ?_ (F.args_set_iter_1 _));unfold yg.«frozenset.__iter__» Builtin.Frozenset.slot0 Builtin.Frozenset.sizeOf YV setDrawn setEpoch
 wp_walk using zV ha rfl hf
 refine xY (zi (zi ?_));have fin:∀(f:zk) (s1:zD),s1.heap.get? a=some (sO es ep t)->Q (.ref s1.heap.objs.size) {s1 with heap:=s1.heap.push (sI f 0 a es.size ep)}->zw (zG prog w) A.in1 (do
  let e <-(do
   let r <-setState a
   pure r.2.1)
  let v <-newFields "set_iterator" [f,xp 0,.ref a,xp (es.size:Nat),xp e]
  ret v) (λfin s'=>∃v,fin=Fin.done (Flow.ret v)/\∃T' r,s'.TypeIs v T'/\XX (.type T') (jp "__next__")=pure (some r)/\Q v s') E s1:=by
  intro f s1 h1 hq;refine za (za (zV h1 rfl hf (zi ?_)))
  wp_walk
  exact⟨_,rfl, "set_iterator",_,⟨_,zt _ rfl,rfl⟩,n9.lookup,hq⟩
 refine zR (λz=>?_) (λz=>?_)
 ·have hr:(ji es.size).length=es.size:=yi;have wo:=CN (prog:=prog) (w:=w) (A:=A.in1) (E:=E) (ji es.size) s;rw[hr]at wo;refine za (wo _ λps d' hp=>?_);refine za (wpAny_newTuple ?_ (by rw[zg,hp.length_eq,hr];exact hz));have q:=h1 z ps d' hp;refine fin _ _ (zh _ ha) ?_;have e:(s.heap.push {cls:=.type "tuple",data:=.seq (ps.map fun(i:Nat)=>xp i).toArray}).objs.size=s.heap.objs.size+1:=yw ..;dsimp only;rw[e];exact q
 ·exact za (zi (fin _ _ ha (h2 z)))
def UX{ps:List Nat}(h:ps.Perm (ji es.size)):∃l:List (Int×zk),l.Perm es.toList/\ps.map (λp=>es[p]?.map (·.2))= (l.map (·.2)).map some:=by
 refine⟨ps.map λp=>es.toList.getD p (0,.none),?_,?_⟩
 · refine(h.map _).trans ?_;have:(ji es.size).map (λp=>es.toList.getD p (0,.none))=es.toList:=by
    apply xL
    ·simp
    · intro i h1 h2;have h3:i<es.size:=by simpa using h2
      simp[jb,h3]
   rw[this]
 ·rw[jZ,jZ];refine List.map_congr_left λp hp=>?_;have h3:p<es.size:=yx.mp (h.mem_iff.mp hp);simp[jb,h3]
def PZ{ss:List Str}{Q:VSP}(hh:A.handled=none)(hS:TSet prog w s.heap a ss)(h:∀I h' d',br prog w A s a ss I h'->Q (.ref I) {s with heap:=h',drawn:=d'}):zw (zG prog w) A (JC (.ref a)) Q E s:=by
 obtain⟨o,es,ep,t,ho,⟨x1,x2,x3⟩,hd,He,hpm,hb,hf,hl,Fr⟩:=hS;obtain⟨oc,od,odt,os⟩:=o;obtain rfl:oc= .type "set":=x1;obtain rfl:od=none:=x2;obtain rfl:os= #[]:=x3;obtain rfl:odt= .set es ep t:=hd;have Eo:=zu ho;have Et:a≠s.heap.objs.size:=zE Eo;have hne2:a≠s.heap.objs.size+1:=zE (jR Eo);have hne3:(s.heap.objs.size:Addr)≠s.heap.objs.size+1:=zE (xO _);have hz:es.size<=zq:=zK (yM hb) (by decide);refine nX ho hf (λz ps d' hp=>?_) (λz=>?_) hz
 ·refine h _ _ d' ⟨λb o e=>zh _ (zh _ e),Nat.le_succ _,?_⟩;obtain⟨l,Ha,Ge⟩:=UX hp;refine⟨s.heap.objs.size,l.map (·.2),l.map λe=>sV e.2,_,zp _,eI (He.perm Ha),(Ha.map _).trans hpm,wkD (ep:=ep) hh hf hne2 _ hne3 Ge,?_⟩;have e1:(s.heap.push {cls:=.type "tuple",data:=.seq (ps.map fun(i:Nat)=>xp i).toArray}).objs.size=s.heap.objs.size+1:=yw ..;refine⟨?_,zh _ (zh _ ho),0,zh _ (zt _ rfl)⟩;rw[<-e1];exact zt _ rfl
 · refine h _ _ s.drawn ⟨λb o e=>zh _ e,zp _,?_⟩;rcases hbt:byT w with _|_
   · have led:t.led=true:=by rw[hl,hbt];rfl
     have h1:¬(!t.plain&&decide (es.size>1))=true:=λq=>z (by rw[hbt,q];rfl);have hs:es.size<=1:=by
      rcases Zm 1 es.size with q|q
      ·exact absurd (by rw[Fr (by omega),decide_eq_true q];rfl) h1
      ·exact q
     obtain⟨l⟩:=es;rcases l with _|⟨e,_|⟨_,_⟩⟩
     ·exact⟨s.heap.objs.size+1, [], [],_,by omega,.nil,hpm,VY (t:=t) (ep:=ep) hh hbt led rfl hf Et _,zt _ rfl,zh _ ho⟩
     · have hp1:t.place.size=1:=by
        have:=hf;unfold xK at this;rw[jk]at this;simpa using this.1
       obtain⟨p,ep1⟩:∃p,t.place= #[p]:=by
        rcases hq:t.place with⟨pl⟩;rcases pl with _|⟨p,_|⟨_,_⟩⟩
        ·rw[hq]at hp1;simp at hp1
        ·exact⟨p,rfl⟩
        ·rw[hq]at hp1;simp at hp1
       exact⟨s.heap.objs.size+1, [e.2], [sV e.2],_,by omega,eI (es:= [e]) He,hpm,sy (t:=t) (ep:=ep) hh hbt led rfl ep1 hf Et _,zt _ rfl,zh _ ho⟩
     ·simp at hs
   ·refine⟨s.heap.objs.size+1,_,_,_,by omega,eI (He.perm (UK (w.params.setOrder a ep) es)),((UK (w.params.setOrder a ep) es).map _).trans hpm,wkT (t:=t) hh hbt hf Et _ hne3.symm,zt _ rfl,zh _ ho⟩
end
section
variable{prog:jh}{w:jq}{s:zD}{a I:Addr}{es:Array (Int×zk)}{ep:Nat}{t:SetTable}
def TSet.type(hS:TSet prog w s.heap a ss):s.TypeIs (.ref a) "set":=by obtain⟨o,es,ep,t,ho,⟨x1,_⟩,_⟩:=hS;exact⟨o,ho,x1⟩
end
def ai(hh:A.handled=none)(hS0:TSet prog w s.heap a ss)(S:Addr)(hSr:S≠a)(res:zk)(c₀:Nat)(hS:s.heap.get? S=some {cls:=.type "list",data:=.seq #[] c₀})(hn:ss.length<=zq)
 (hR:∀h' d' tk Ej c' Es,(∀b o,b≠S->s.heap.get? b=some o->h'.get? b=some o)->h'.get? S=some {cls:=.type "list",dict:=none,data:=.seq Ej c',slots:= #[]}->StrsAre Ej.toList Es->Es.Perm ss->R (.ok (.ret res)) {s with heap:=h',drawn:=d',toks:=tk}):
 zw (zG prog w) A.in1 (jV (.ref S) (.ref a) res)
  (λfin s'=>match fin with| .done f=>R (.ok f) s'| .again c'=>c'.quiet=true/\Zs (zG prog w) A c' R s') (λe s'=>R (.error e) s') s:=by
 unfold jV;refine za (xX (T:= "set") hS0.type ?_);have h1:xF (.ref S) (.ref a)=false:=by simp[xF,hSr]
 have h2:(Value.type "set" == Value.type "list")=false:=by decide
 have h3:(Value.type "set" == Value.type "tuple")=false:=by decide
 simp only[h1,h2,h3,Zu,jo,if_false];refine za (PZ (A:=A.in1) hh hS0 λI h0 d0 ⟨keep,new,J,vs,Es,St,hJ,hv,hp,W,st⟩=>?_);have hSlt:=zu hS;have halt:a<s.heap.objs.size:=by obtain⟨o,_,_,_,ho,_⟩:=hS0;exact zu ho
 have hSf:S∉ [I,J,a]:=by simp only[zy,jg,or_false,not_or];exact⟨zE (jn hSlt new),zE (jn hSlt hJ),hSr⟩
 have hvl:vs.length<=zq:=by rw[StrsAre.length hv,hp.length_eq];exact hn
 have key:∀(h:Heap) (c₁ tk:Nat),St 0 h->(∀b o,b≠S->s.heap.get? b=some o->h.get? b=some o)->
  h.get? S=some {cls:=.type "list",data:=.seq #[] c₁}->Zs (zG prog w) A (.builtin "list.extend.loop" ⟨[.ref S,.ref I,res], []⟩) R {s with heap:=h,drawn:=d0,toks:=tk}:=by
  intro h c₁ tk hst hk hS₁;refine codeAny_extend_loopS W.toS hvl S hSf res vs.length 0 _ #[] c₁ rfl (zY _) hst hS₁ (ItemsOf.nil _) λs' Ej c' hm Ex Fa=>?_;rw[Moved.eq_with hm];refine hR s'.heap d0 s'.toks Ej c' Es (λb o hb e=>hm.heap b o (λhmem=>?_) (hk b o hb e)) Ex ?_ hp
  · rcases zy.mp hmem with e'|hmem
    ·exact hb e'
    ·have:=zu e;rw[zB.mp hmem]at this;exact absurd new (Nat.not_le.mpr this)
  · have:Ej.toList=vs:=by
     apply Zg;intro i;rcases Zm i Ej.size with q|q
     ·have:=Fa.2 i Ej[i] (by simp[q]);rw[this,jz];simp[q]
     ·rw[zT (by simpa using q),zT (by rw[<-Fa.1];exact q)]
    rw[this];exact hv
 have hS₁:=keep _ _ hS;refine za (jB (nZ (s:={s with heap:=h0,drawn:=d0}) (TSet.type (s:={s with heap:=h0,drawn:=d0}) (hS0.congr λo e=>keep _ _ e)) ?_));refine zR (λ_=>?_) (λ_=>zi ⟨yc ZM _,key _ c₀ _ st (λb o _ e=>keep _ _ e) hS₁⟩);refine za (yS ?_);refine za ?_;show zw _ _ (updateSeq S (·.push .none) >>= λ_=>updateSeq S (·.pop)) _ _ _;refine za (Ze hS₁ rfl ?_);have hS₂:=jP (jG (·.push Value.none)) hS₁ rfl;refine Ze (hz:=by seq_fits) hS₂ rfl ?_;have hS₃:=jP (jG (·.pop)) hS₂ rfl;refine zi ⟨yc ZM _,key _ _ _ ?_ (λb o hb e=>?_) hS₃⟩
 ·refine W.frame 0 _ _ st λb hb o e=>?_;have hbS:b≠S:=λh=>hSf (h▸hb);exact(jU _ _ (Ne.symm hbS)).trans ((jU _ _ (Ne.symm hbS)).trans e)
 ·exact(jU _ _ (Ne.symm hb)).trans ((jU _ _ (Ne.symm hb)).trans (keep _ _ e))
def ak(hh:A.handled=none)(hS0:TSet prog w s.heap a ss)(hn:ss.length<=zq)
 (h:∀h' d' tk vs Es,(∀b o,s.heap.get? b=some o->h'.get? b=some o)->StrsAre vs Es->Es.Perm ss->R vs {s with heap:=h',drawn:=d',toks:=tk}):
 zw (zG prog w) A (collect (.ref a)) R E s:=by
 have halt:a<s.heap.objs.size:=by obtain⟨o,_,_,_,ho,_⟩:=hS0;exact zu ho
 unfold collect;refine za (wpAny_runValue (yd entry_proto_collect' ?_));rw[jK PySem.F.plain_proto_collect _];show zw _ A.in1 (newList [] >>= λl=>again (.builtin "list.__iadd__" ⟨[l,.ref a], []⟩)) _ _ s;refine za (yL ?_);refine zi ⟨yc Jv _,yd entry_list_iadd' ?_⟩;rw[jK Jv _];have hS₁:(s.heap.push {cls:=.type "list",data:=.seq ([]:List zk).toArray}).get? s.heap.objs.size=some {cls:=.type "list",data:=.seq #[]}:=zt _ rfl;show zw _ A.in1 (jV (.ref s.heap.objs.size) (.ref a) (.ref s.heap.objs.size)) _ _ _;have key:=ai (A:=A) (s:={s with heap:=s.heap.push {cls:=.type "list",data:=.seq ([]:List zk).toArray}})
  (R:=fun(q:Result) (s':zD)=>∃(h':Heap) (d':_) (tk:Nat) (Ej:Array zk) (c':Nat) (Es:List Str),q= .ok (.ret (.ref s.heap.objs.size))/\s'= {s with heap:=h',drawn:=d',toks:=tk}/\
    (∀b o,s.heap.get? b=some o->h'.get? b=some o)/\h'.get? s.heap.objs.size=some {cls:=.type "list",dict:=none,data:=.seq Ej c',slots:= #[]}/\StrsAre Ej.toList Es/\Es.Perm ss)
  hh (hS0.congr λo e=>zh _ e) s.heap.objs.size (jX halt) (.ref s.heap.objs.size) 0 hS₁ hn
  (λh' d' tk Ej c' Es hk Ex hv hp=>⟨h',d',tk,Ej,c',Es,rfl,rfl,λb o e=>hk b o (zE (zu e)) (zh _ e),Ex,hv,hp⟩)
 refine jS key (λfin s' x=>?_) λe s' x=>?_
 · cases fin with
   |done f=>
     obtain⟨h',d',tk,Ej,c',Es,e,rfl,hk,Ex,hv,hp⟩:=x
     cases e
     show zw _ A (load s.heap.objs.size >>= _) _ _ _;refine za (wpAny_load Ex ?_);exact zi (h h' d' tk Ej.toList Es hk hv hp)
   |again c₁=>
     refine⟨x.1,ZX x.2 λq s₂ y=>?_⟩;obtain⟨h',d',tk,Ej,c',Es,rfl,rfl,hk,Ex,hv,hp⟩:=y;show zw _ A (load s.heap.objs.size >>= _) _ _ _;refine za (wpAny_load Ex ?_);exact zi (h h' d' tk Ej.toList Es hk hv hp)
 · obtain⟨_,_,_,_,_,_,e',_⟩:=x
   cases e'
def Kc(hh:A.handled=none)(hS0:TSet prog w s.heap a ss)(hn:ss.length<64)
 (h:∀(h1 h':Heap) d' (tk e:Nat) out Es,(∀b o,s.heap.get? b=some o->h1.get? b=some o)->(∀b o,h1.get? b=some o->h'.get? b=some o)->h'.get? h1.objs.size=some (jN "list" out.toArray e)->StrsAre out Es->Es.Perm ss->sortedS Es=true->Q (.ref h1.objs.size) {s with heap:=h',drawn:=d',toks:=tk}):
 zw (zG prog w) A (call (.builtin "sorted") [.ref a]) Q E s:=by
 have hz:ss.length<=zq:=zK (yM hn) (by decide);refine ZU JZ Jn Jp (args_sorted1 _) ?_;unfold yg.«sorted»;refine za (m:=checkCount "sorted" 1 1 _) (zi ?_);refine za (ak (A:=A.in1) hh hS0 hz λh1 d' tk vs ss1 hk hS hp1=>?_);have hl:vs.length=ss.length:=by rw[StrsAre.length hS,hp1.length_eq]
 refine za (Zb ?_ (by rw[hl];exact hz));have hoL:(h1.push (jN "list" vs.toArray 0)).get? h1.objs.size=some (jN "list" vs.toArray 0):=zt _ rfl;refine za (jB (jA Xu ⟨_,hoL,rfl⟩ Xe (list_sort_treeK strKind_oneLt hoL hS.keysOf (λv₁ v₂ Q8 e=>Jo (by rw[<-e];exact hS)) (by rw[hl];exact hn) λEw a1 a2=>⟨_,rfl,?_⟩) (args_list_sort _)));obtain⟨Es,b1,b2,b3⟩:=sorted_out_str hS a1 a2;obtain⟨e,he⟩:=sortedHeap_at (vs:=vs) (out:=(Xf Ew).map (·.2)) hoL;refine zi ⟨_,rfl,h h1 _ d' tk e ((Xf Ew).map (·.2)).toList Es hk (λb o hb=>?_) (by rw[Zv];exact he) b1 (b2.trans hp1) b3⟩;have Eo:b<h1.objs.size:=zu hb;rw[sortedHeap_old (zE Eo) (by rw[Yd];exact jR Eo),xC _ _ _ (zE Eo)];exact hb
def ui(I:Inv X Ee σ H s):Inv X Ee σ H {s with drawn:=d'}:=⟨I.ok,I.os,I.bare,I.base,I.loc,I.cell,I.free,I.freeC,I.pin,I.hok,I.len⟩
end DL
namespace W
open PySem PySem.Spec L2 DL
open PyProof.Rows hiding St
end W
namespace DL
open PySem PySem.Spec L2
open PyProof.Rows hiding St
def lcg(m i:Nat):Nat:=(i*5+1) % (m+1)
def itr(m:Nat):Nat->Nat->Nat
 |0,i=>i
 |k+1,i=>itr m k (lcg m i)
def y6(m:Nat):Prop:=∀i≤m,∀j≤m,∃k≤m,itr m k i=j
def sQ(m:Nat):Bool:=(ji (m+1)).all λi=>(ji (m+1)).all λj=>(ji (m+1)).any λk=>itr m k i==j
def sH(h:sQ m=true):y6 m:=by intro i hi j hj;unfold sQ at h;have h1:=ya.mp h i (yx.mpr (by omega));have h2:=ya.mp h1 j (yx.mpr (by omega));obtain⟨k,hk,e⟩:=xh.mp h2;exact⟨k,by have:=yx.mp hk;omega,by simpa using e⟩
def iR:y6 7:=sH (by decide +kernel)
def QV:y6 15:=sH (by decide +kernel)
def cV:y6 31:=sH (by decide +kernel)
def vt:y6 63:=sH (by decide +kernel)
theorem rH(m:Nat):∀a b i,itr m (a+b) i=itr m a (itr m b i)
 |a,0,i=>rfl
 |a,b+1,i=>rH m a b (lcg m i)
def QZ(hp:itr m (m+1) 0=0)(h:((ji (m+1)).all λj=>(ji (m+1)).any λk=>itr m k 0==j)=true):y6 m:=by
 have one:∀j≤m,∃k≤m,itr m k 0=j:=λj hj=>by obtain⟨k,hk,e⟩:=xh.mp (ya.mp h j (yx.mpr (by omega)));exact⟨k,by have:=yx.mp hk;omega,by simpa using e⟩
 intro i hi j hj;obtain⟨a,ha,ea⟩:=one i hi;obtain⟨b,hb,eb⟩:=one j hj;by_cases c:a<=b
 ·exact⟨b-a,by omega,by rw[<-ea,<-rH,Nat.sub_add_cancel c];exact eb⟩
 ·refine⟨b+(m+1)-a,by omega,?_⟩;rw[<-ea,<-rH,Nat.sub_add_cancel (by omega),rH,hp];exact eb
def Vh:y6 127:=QZ (by decide +kernel) (by decide +kernel)
def MF(owner:Array (Option Nat))(r:Option Nat):Prop:=∃j,r=some j/\owner[j]? =some none
def Pg{owner:Array (Option Nat)}(h:(ji n).find? (λk=>(owner.getD (i+k) (some 0)).isNone)=some k):owner[i+k]? =some none:=by
 have:=List.find?_some h;have e:owner.getD (i+k) (some 0)=none:=by simpa using this
 rw[ZH]at e;rcases h2:owner[i+k]? with _|o
 ·rw[h2]at e;cases e
 ·rw[h2]at e;have:o=none:=e;rw[this]
def Vv(h:owner[i]? =some none):MF owner (jO mask owner (f+1) i p):=by
 unfold jO;have hr:∃m,XA mask i+1-i=m+1:=by
  unfold XA;split
  ·exact⟨9,by omega⟩
  ·exact⟨0,by omega⟩
 obtain⟨m,hm⟩:=hr;have:((ji (XA mask i+1-i)).find? λk=>(owner.getD (i+k) (some 0)).isNone)=some 0:=by rw[hm,xo,List.find?_cons_of_pos];rw[ZH,Nat.add_zero,h];rfl
 rw[this];exact⟨i,by simp,h⟩
def kU{owner:Array (Option Nat)}(h:MF owner (jO mask owner f (YH mask i p).1 (YH mask i p).2)):MF owner (jO mask owner (f+1) i p):=by
 unfold jO;split
 ·rename_i k hk;exact⟨i+k,rfl,Pg hk⟩
 ·exact h
theorem gT(hj:owner[j]? =some none):∀k f i,k<f->itr mask k i=j->MF owner (jO mask owner f i 0)
 |0,f+1,i,_,e=>by have e:i=j:=e;rw[<-e]at hj;exact Vv hj
 |k+1,f+1,i,hf,e=>by
   refine kU ?_;have e1:(YH mask i 0).1=lcg mask i:=by show (i*5+1+0 / 32) % (mask+1)=_;simp[lcg]
   have e2:(YH mask i 0).2=0:=by show 0 / 32=0;rfl
   rw[e1,e2];exact gT hj k f _ (by omega) e
theorem dU(hF:y6 mask)(hj:owner[j]? =some none)(hm:j<=mask):∀n f i p,p<32 ^ n->n+mask<f->i<=mask->MF owner (jO mask owner f i p)
 |0,f,i,p,hp,hf,hi=>by
   obtain rfl:p=0:=by simpa using hp
   obtain⟨k,hk,e⟩:=hF i hi j hm;exact gT hj k f i (by omega) e
 |n+1,f+1,i,p,hp,hf,hi=>by
   refine kU (dU hF hj hm n f _ _ ?_ (by omega) ?_)
   ·show p / 32<32 ^ n;rw[Nat.pow_succ]at hp;omega
   ·show (i*5+1+p / 32) % (mask+1)<=mask;have:=Xv (i*5+1+p / 32) (show 0<mask+1 by omega);omega
structure GC(mask:Nat)(k:Nat)(owner:Array (Option Nat)):Prop where
 sz:owner.size=mask+1
 pm:(owner.toList.filterMap id).Perm (ji k)
theorem KP:∀ {l:List (Option α)} {j:Nat},l[j]? =some none->((l.set j (some x)).filterMap id).Perm (x::l.filterMap id)
 |[],_,h=>by simp at h
 |a::l,0,h=>by
   have:a=none:=by simpa using h
   subst this;simp
 |a::l,j+1,h=>by
   have ih:=KP (x:=x) (l:=l) (j:=j) (by simpa using h);rw[jY];rcases a with _|a
   ·simpa using ih
   ·show (a::YS id (l.set j (some x))).Perm (x::a::YS id l);exact(List.Perm.cons a ih).trans (List.Perm.swap ..)
theorem lN:∀ {l:List (Option Nat)},(l.filterMap id).length<l.length->∃j,j<l.length/\l[j]? =some none
 |[],h=>by simp at h
 |none::l,h=>⟨0,by simp,rfl⟩
 |some a::l,h=>by obtain⟨j,h1,h2⟩:=lN (l:=l) (by simpa using h);exact⟨j+1,by simpa using h1,by simpa using h2⟩
def Bn(h:Int):xl h<32 ^ 13:=by
 unfold xl;have h1:=jt h (show (0:Int)<2 ^ 64 by decide);have h2:=jx h (show (2 ^ 64:Int)≠0 by decide);have:(32:Nat) ^ 13=36893488147419103232:=by decide
 omega
def GC.step{owner:Array (Option Nat)}(hF:y6 mask)(I:GC mask k owner)(hk:k<=mask)(h:Int):∃j,jO mask owner (Yn mask) (xl h % (mask+1)) (xl h)=some j/\GC mask (k+1) (owner.setIfInBounds j (some k)):=by
 have hl:(owner.toList.filterMap id).length=k:=by rw[I.pm.length_eq,yi]
 obtain⟨j0,hj0,e0⟩:=lN (l:=owner.toList) (by rw[hl,zL,I.sz];omega);rw[jz]at e0;have hm:j0<=mask:=by rw[zL,I.sz]at hj0;omega
 have hi:xl h % (mask+1)<=mask:=by have:=Xv (xl h) (show 0<mask+1 by omega);omega
 obtain⟨j,e,ho⟩:=dU hF e0 hm 13 (Yn mask) _ _ (Bn h) (by unfold Yn;omega) hi;refine⟨j,e,by simp[I.sz],?_⟩;rw[Array.toList_setIfInBounds];refine(KP (by rw[jz];exact ho)).trans ?_;rw[List.range_succ];exact(List.Perm.cons k I.pm).trans (List.perm_append_singleton ..).symm
theorem EU(hF:y6 mask):∀(hs:List Int) (k:Nat) owner,GC mask k owner->k+hs.length<=mask+1->
 ∃owner',(hs.foldl (fun(Ek:Option (Array (Option Nat)×Nat)) h=>do
  let (owner,k) <-Ek
  let j <-jO mask owner (Yn mask) (xl h % (mask+1)) (xl h)
  pure (owner.setIfInBounds j (some k),k+1)) (some (owner,k)))=some (owner',k+hs.length)/\GC mask (k+hs.length) owner'
 |[],k,owner,I,_=>⟨owner,rfl,I⟩
 |h::hs,k,owner,I,hl=>by simp only[zM]at hl;obtain⟨j,e,I2⟩:=I.step hF (by omega) h;obtain⟨o',e2,I3⟩:=EU hF hs (k+1) _ I2 (by omega);refine⟨o',?_,by rw[zM,show k+(hs.length+1)=k+1+hs.length by omega];exact I3⟩;rw[yk,zM,show k+(hs.length+1)=k+1+hs.length by omega,<-e2];simp[e]
def kT{owner:Array (Option Nat)}(hs:owner.size=mask+1):(((ji (mask+1)).filterMap λj=>(owner.getD j none).map (j, ·)).map (·.2))=owner.toList.filterMap id:=by
 rw[List.map_filterMap];have:owner.toList= (ji (mask+1)).map λj=>owner.getD j none:=by
  apply xL
  ·simp[hs]
  · intro i h1 h2;have h3:i<owner.size:=by simpa using h1
    simp[ZH,h3]
 rw[this,Xq];congr 1;funext j;simp[Option.map_map,xt]
def tM{mask finger moves:Nat}{led plain:Bool}(hF:y6 mask)(hs:Array Int)(hl:hs.size<=mask):∃t order,YI mask finger moves led plain hs=some (t,order)/\order.toList.Perm (ji hs.size)/\t.fits hs.size=true/\t.led=led/\t.plain=plain/\t.mask=mask/\t.dummies= #[]:=by
 have I0:GC mask 0 (Array.replicate (mask+1) none):=⟨by simp,by simp⟩;obtain⟨o,e,I⟩:=EU hF hs.toList 0 _ I0 (by rw[zL];omega);rw[Nat.zero_add,zL]at I;have el:SetTable.layClean mask hs=some o:=by unfold SetTable.layClean;rw[<-Array.foldl_toList,e];rfl
 refine⟨_,_,by unfold YI;rw[el];rfl,?_,?_,rfl,rfl,rfl,rfl⟩
 ·show ((YS _ _).map _).Perm _;rw[kT I.sz];exact I.pm
 · unfold xK Jd;have hz:((ji (mask+1)).filterMap λj=>(o.getD j none).map (j, ·)).length=hs.size:=by
    have h1:=congrArg Za (kT I.sz);rw[zg,I.pm.length_eq,yi]at h1;exact h1
   rw[jk];constructor
   ·simp only[zo,zg,hz,beq_self_eq_true]
   ·simp only[zo,zg,hz];exact decide_eq_true hl
def VJ(h:n<=94):y6 (jM n-1)/\n<jM n/\jM n<=128:=by
 have key:∀m≤94,(jM m=8\/jM m=16\/jM m=32\/jM m=64\/jM m=128)/\m<jM m:=by decide
 obtain⟨h1,h2⟩:=key n h;rcases h1 with e|e|e|e|e<;>rw[e]at h2 ⊢
 ·exact⟨iR,h2,by decide⟩
 ·exact⟨QV,h2,by decide⟩
 ·exact⟨cV,h2,by decide⟩
 ·exact⟨vt,h2,by decide⟩
 ·exact⟨Vh,h2,by decide⟩
def FJ{es:Array (Int×zk)}{order:Array Nat}(h:order.toList.Perm (ji es.size)):(order.filterMap (es[·]?)).toList.Perm es.toList:=by
 rw[Array.toList_filterMap];refine(h.filterMap _).trans ?_;have:(ji es.size).filterMap (es[·]?)=es.toList:=by
  have e:∀l:List (Int×zk),(ji l.length).filterMap (l[·]?)=l:=by
   intro l
   induction l with
   |nil=>rfl
   |cons a r ih=>
     rw[zM,xo];show a::YS _ (List.map _ _)=_;rw[Xq];congr 1
  have:=e es.toList;simpa using this
 rw[this]
section
variable{prog:jh}{w:jq}{A:jC}{E:VSP}{s:zD}{a:Addr}
def aQ(ho:s.heap.get? a=some o)(Ga:o.ExactSet)(hd:o.data= .set es ep t)(He:XD (strKind prog w) Er.toList)(hp:(Er.toList.map λe=>sV e.2).Perm ss)(hb:Er.size<YG)(hf:t'.fits Er.size=true)(hl:t'.led= (!byT w))(Fr:0<Er.size->t'.plain=false):TSet prog w (s.heap.update a (xI Er t')) a ss:=by
 have hg:(s.heap.update a (xI Er t')).get? a=some {o with data:=.set Er (ep+1) t'}:=by have:=jP (xI Er t') ho (by rw[putSet_of Er t' hd];rfl);rw[putSet_of Er t' hd]at this;exact this
 exact⟨_,Er,ep+1,t',hg,Ga,rfl,He,hp,hb,hf,hl,Fr⟩
def uc{ss:List Str}{Q:Unit->zD->Prop}(hS:TSet prog w s.heap a ss)(hn:n<=94)(hl:ss.length<jM n)(h:∀h',jy a s.heap h'->TSet prog w h' a ss->Q () {s with heap:=h'}):zw (zG prog w) A (setRelay a n) Q E s:=by
 obtain⟨o,es,ep,t,ho,Ga,hd,He,hpm,hb,hf,hle,Fr⟩:=hS;obtain⟨hF,_,Gs⟩:=VJ hn;have hsz:es.size=ss.length:=by have:=hpm.length_eq;rw[zg,zL]at this;exact this
 obtain⟨t',order,el,hpo,Gu,h1,h2,h3,h4⟩:=tM (finger:=t.finger) (moves:=t.movedTo (jM n-1)) (led:=t.led) (plain:=t.plain) hF (es.map (·.1)) (by rw[Zd];omega);rw[Zd]at hpo Gu;have hop:=FJ hpo;have hos:(order.filterMap (es[·]?)).size=es.size:=by rw[<-zL,hop.length_eq,zL]
 unfold setRelay;refine za (zV ho hd hf ?_);refine zR (λz=>absurd z (Nat.not_lt.mpr (zK Gs (by decide)))) (λ_=>?_);refine za ?_;have er:t.relaid (es.map (·.1)) n=some (t',order):=el;rw[er];refine zR (λz=>absurd z (by rw[hos];simp)) (λ_=>zi ?_);refine Zq ho hd ?_ (Ym (by rw[hos];exact hb));exact h _ (jT ..) (aQ ho Ga hd (He.perm hop) ((hop.map _).trans hpm) (by rw[hos];exact hb) (by rw[hos];exact Gu) (h1.trans hle) (by rw[hos];exact λz=>h2.trans (Fr z)))
def vj(hS:TSet prog w s.heap a ss)(hn:ss.length+n<=47)(h:∀h',jy a s.heap h'->TSet prog w h' a ss->Q () {s with heap:=h'}):zw (zG prog w) A (XY a n) Q E s:=by
 have Ex:=hS;obtain⟨o,es,ep,t,ho,Ga,hd,He,hpm,hb,hf,hle,Fr⟩:=hS;have hsz:es.size=ss.length:=by have:=hpm.length_eq;rw[zg,zL]at this;exact this
 have hps:t.place.size=es.size:=by unfold xK at hf;rw[jk]at hf;simpa using hf.1
 unfold XY;refine za (zV ho hd hf ?_);dsimp only;unfold Xo;split
 · rename_i x hx;split at hx
   ·have hx:=jc hx;subst hx;have:=VJ (n:=(t.place.size+n)*2) (by omega);exact uc Ex (by omega) (by omega) h
   ·cases hx
 · have e:s= {s with heap:=s.heap}:=by cases s;rfl
   rw[e];exact zi (h s.heap (yB a s.heap) Ex)
def IE(w:jq)(h:Heap)(a:Addr)(n:Nat):Prop:=∃ep t,h.get? a=some (sO #[] ep t)/\y6 t.mask/\n<=t.mask/\t.fill=0/\t.place= #[]/\t.led= (!byT w)
def IE.ts(h:IE w s.heap a n):TSet prog w s.heap a []:=by obtain⟨ep,t,ho,_,_,hf,hp,hl⟩:=h;exact⟨_, #[],ep,t,ho,⟨rfl,rfl,rfl⟩,rfl,(λ_ h=>by simp at h),.nil,by decide,by unfold xK;rw[hf,hp];rfl,hl,λh=>by simp at h⟩
abbrev fO(led:Bool):Obj:=sO #[] 0 (.fresh 0 0 led)
def DZ(h:s.heap.get? a=some (fO (!byT w)))(hn:n<=7):IE w s.heap a n:=⟨0,_,h,iR,hn,rfl,rfl,rfl⟩
def wS{n:Nat}{Q:Unit->zD->Prop}(ho:s.heap.get? a=some (fO (!byT w)))(hn:n<=47)(h:∀h',jy a s.heap h'->IE w h' a n->Q () {s with heap:=h'}):zw (zG prog w) A (XY a n) Q E s:=by
 unfold XY;refine za (zV ho rfl rfl ?_);dsimp only;by_cases c:(0+n)*5>=7*3
 · have er:(Yo 0 0 (!byT w)).roomFor n=some ((0+n)*2):=by unfold Xo;exact if_pos c
   rw[er];dsimp only;obtain⟨hF,h2,Gs⟩:=VJ (n:=(0+n)*2) (by omega);obtain⟨t',order,el,hpo,Gu,h1,_,h3,h4⟩:=tM (finger:=0) (moves:=(Yo 0 0 (!byT w)).movedTo (jM ((0+n)*2)-1)) (led:= !byT w) (plain:=true) hF ((#[]:Array (Int×zk)).map (·.1)) (by rw[Zd];exact zY _);rw[Zd]at hpo Gu;have hop:=FJ (es:= #[]) hpo;have he0:order.filterMap (fun(x:Nat)=>(#[]:Array (Int×zk))[x]?)= #[]:=by have:=hop.length_eq;apply XM;rw[<-zL,this];rfl
   have hp0:t'.place= #[]:=by unfold xK at Gu;rw[jk]at Gu;simpa using Gu.1
   unfold setRelay;refine za (zV ho rfl rfl ?_);refine zR (λz=>absurd z (Nat.not_lt.mpr (zK Gs (by decide)))) (λ_=>?_);refine za ?_;have er2:(Yo 0 0 (!byT w)).relaid ((#[]:Array (Int×zk)).map (·.1)) ((0+n)*2)=some (t',order):=el;rw[er2];refine zR (λz=>absurd z (by rw[he0];decide)) (λ_=>zi ?_);rw[he0];refine Zq ho rfl ?_ (zY _);refine h _ (jT ..) ⟨1,t',?_,by rw[h3];exact hF,by rw[h3];omega,by unfold Jd;rw[hp0,h4];rfl,hp0,h1⟩;exact jP (xI #[] t') ho (by rfl)
 · have er:(Yo 0 0 (!byT w)).roomFor n=none:=by unfold Xo;exact if_neg c
   rw[er];have e:s= {s with heap:=s.heap}:=by cases s;rfl
   rw[e];exact zi (h s.heap (yB a s.heap) (DZ ho (by omega)))
def SN{o:Addr}{each:Sem Unit}{Q:Unit->zD->Prop}(Et:a≠o)(ha:s.heap.get? a=some (fO (!byT w)))(hS:TSet prog w s.heap o ss)(hn:ss.length<=47)(h:∀h',jy a s.heap h'->(ss= []/\h'=s.heap\/ss≠ []/\TSet prog w h' a ss)->Q () {s with heap:=h'}):zw (zG prog w) A (setMerge a o each) Q E s:=by
 have Ex:=hS;obtain⟨ob,es,ep,t,ho,Ga,hd,He,hpm,hb,hf,hle,Fr⟩:=hS;have hsz:es.size=ss.length:=by have:=hpm.length_eq;rw[zg,zL]at this;exact this
 unfold setMerge;refine zR (λz=>absurd z (by simp[Et])) (λ_=>?_);refine za (zV ho hd hf ?_);dsimp only;refine zR (λz=>?_) (λz=>?_)
 · have hz:es= #[]:=by simpa using z
   have:ss= []:=Ye.mp (by rw[<-hsz,hz];rfl);have e:s= {s with heap:=s.heap}:=by cases s;rfl
   rw[e];exact zi (h s.heap (yB a s.heap) (.inl ⟨this,rfl⟩))
 have h0:0<es.size:=by
  rcases Nat.eq_zero_or_pos es.size with q|q
  ·exact absurd (by simp[XM q]) z
  ·exact q
 have hss:ss≠ []:=λq=>by rw[q]at hsz;simp at hsz;rw[hsz]at h0;simp at h0
 refine za (wS ha (by omega) λh1 sb1 hz1=>?_);obtain⟨ep1,t1,g1,hF,hm,hfl,hp1,Ha⟩:=hz1;refine za (zV g1 rfl (by unfold xK;rw[hfl,hp1];rfl) ?_);dsimp only;have fin:∀(Er:Array (Int×zk)) (t':SetTable),Er.toList.Perm es.toList->t'.fits es.size=true->t'.led= (!byT w)->t'.plain=false->zw (zG prog w) A (storeSet a Er t') Q E {s with heap:=h1}:=by
  intro Er t' hp' hf' hl' hpl';have Hr:Er.size=es.size:=by rw[<-zL,hp'.length_eq,zL]
  refine Zq g1 rfl ?_ (Ym (by rw[Hr];exact hb));exact h _ (sb1.trans (jT ..)) (.inr ⟨hss,aQ (s:={s with heap:=h1}) g1 ⟨rfl,rfl,rfl⟩ rfl (He.perm hp') ((hp'.map _).trans hpm) (by rw[Hr];exact hb) (by rw[Hr];exact hf') hl' λ_=>hpl'⟩)
 have hnz:¬((t1.fill != 0)=true):=by rw[hfl];decide
 have hled:(t1.led&&t.led)= (!byT w):=by rw[Ha,hle];cases byT w<;>rfl
 have hpn:∀b:Bool,(b&&t.plain)=false:=λb=>by rw[Fr h0];cases b<;>rfl
 by_cases c:(t1.mask==t.mask&&t.dummies.isEmpty)=true
 · have er:t1.road t= .slotForSlot:=by unfold Jc;rw[if_neg hnz,if_pos c]
   rw[er];exact fin es _ (.refl _) hf hled (hpn _)
 · have er:t1.road t= .clean:=by unfold Jc;rw[if_neg hnz,if_neg c]
   rw[er];dsimp only;obtain⟨t',order,el,hpo,Gu,k1,k2,_,_⟩:=tM (finger:=t1.finger) (moves:=t1.moves) (led:=t1.led&&t.led) (plain:=t1.plain&&t.plain) hF (es.map (·.1)) (by rw[Zd];exact hm);rw[Zd]at hpo Gu;have hop:=FJ hpo;have hos:(order.filterMap (es[·]?)).size=es.size:=by rw[<-zL,hop.length_eq,zL]
   refine za ?_;rw[el];refine zR (λz=>absurd z (by rw[hos];simp)) (λ_=>zi ?_);exact fin _ t' hop Gu (k1.trans hled) (k2.trans (hpn _))
end
def Wv(h:∀a∈sets,∃ss,TSet prog w s.heap a ss)(q:Q true s):zw (zG prog w) A (setsQuiet sets) Q E s:=by
 unfold setsQuiet;refine za (JA _ (λQ8 b s'=>b= (none,())/\s'=s/\∀a∈Q8,∃ss,TSet prog w s.heap a ss) _ ?_ ?_ sets _ ⟨rfl,rfl,h⟩)
 · rintro a Q8 b s' ⟨rfl,rfl,h⟩;obtain⟨ss,o,es,ep,t,ho,Ga,hd,He,hpm,hb,hf,hl,Fr⟩:=h a (zH ..);unfold YV;refine za (za (zV ho hd hf (zi ?_)));refine za (XB _ (λQ8 b s2=>b= (none,())/\s2=s'/\∀e∈Q8,∃k t,e.2= .str k t) _ ?_ ?_ es _ ⟨rfl,rfl,?_⟩)
   ·rintro⟨hh,x⟩ r2 b2 s2 ⟨rfl,rfl,h2⟩;obtain⟨k,tk,e⟩:=h2 (hh,x) (zH ..);have e:x= .str k tk:=e;subst e;exact zi ⟨rfl,rfl,λy hy=>h2 y (zA _ hy)⟩
   ·rintro b2 s2 ⟨rfl,rfl,_⟩;exact zi ⟨rfl,rfl,λy hy=>h y (zA _ hy)⟩
   ·intro e he;obtain⟨⟨k,hk,_⟩,_⟩:=He e he;obtain⟨tk,et⟩:=bF hk;exact⟨k,tk,et⟩
 ·rintro b s' ⟨rfl,rfl,_⟩;exact zi q
def gZ(hS:TSet prog w s.heap o ss)(hA:TSet prog w s.heap a su)(h0:su≠ [])
 (h:∀es,XD (strKind prog w) es.toList->(es.toList.map λe=>sV e.2).Perm ss->Q es s):zw (zG prog w) A (setWalkUnseen o [a] (some a)) Q E s:=by
 have Ex:=hS;have hA':=hA;obtain⟨ob,es,ep,t,ho,Ga,hd,He,hpm,hb,hf,hle,Fr⟩:=hS;obtain⟨oa,ea,epa,ta,hoa,hexa,hda,hela,hpma,hba,hfa,hla,hpla⟩:=hA;have hza:0<ea.size:=by have:=hpma.length_eq;rw[zg,zL]at this;rw[this];exact List.length_pos_iff.mpr h0
 unfold setWalkUnseen;refine za (zV ho hd hf ?_);refine za (gE ?_);refine zR (λz=>?_) (λz=>?_)
 · unfold setWalk;refine za (zV ho hd hf ?_);refine za (gE ?_);refine zR (λzb=>?_) (λzb=>?_)
   ·refine za (xY (zi ?_));have hp:=UK (w.params.setOrder o ep) es;exact h _ (He.perm hp) ((hp.map _).trans hpm)
   · have hbt:byT w=false:=by simpa using zb
     have hs:es.size<=1:=by
      rw[hbt]at z;rcases Zm 1 es.size with q|q
      ·rw[Fr (by omega),YU,Zu,Bool.false_or]at z;exact absurd (of_decide_eq_true z) (by omega)
      ·exact q
     refine zR (λzd=>absurd (show (!t.plain&&decide (es.size>1))=true from zd) (by rw[decide_eq_false (by omega),YU];decide)) (λ_=>?_);refine za (show zw _ _ (if (!t.led&&decide (es.size>1))=true then unsupported "set:maker-not-led" else pure ()) _ _ _ from ?_);refine zR (λzd=>absurd zd (by rw[decide_eq_false (by omega),YU];decide)) (λ_=>zi (zi ?_));exact h es He hpm
 · refine za (Wv (λx hx=>?_) ?_)
   · rcases zy.mp hx with rfl|hx
     ·exact⟨_,Ex⟩
     ·rw[zB.mp hx];exact⟨_,hA'⟩
   · refine zR (λzd=>absurd zd (by decide)) (λ_=>?_);refine za (yS ?_);refine za (zV hoa hda hfa ?_);refine zR (λzd=>?_) (λ_=>zi (h es He hpm));exfalso;rw[hpla hza,hla,hle]at zd
     cases byT w<;>simp at zd
def Pf{o:Addr}{each:Sem Unit}(Et:a≠o)(hA:TSet prog w s.heap a su)(h0:su≠ [])(hS:TSet prog w s.heap o ss)(hn:su.length+ss.length<=47)
 (he:∀h' Q',h'.get? o=s.heap.get? o->Q' () {s with heap:=h'}->zw (zG prog w) A each Q' E {s with heap:=h'})
 (h:∀h' (Es:List Str),jy a s.heap h'->Es.Perm ss->TSet prog w h' a (Es.foldl ddT su)->Q () {s with heap:=h'}):zw (zG prog w) A (setMerge a o each) Q E s:=by
 have Ex:=hS;obtain⟨ob,es,ep,t,ho,Ga,hd,He,hpm,hb,hf,hle,Fr⟩:=hS;have hsz:es.size=ss.length:=by have:=hpm.length_eq;rw[zg,zL]at this;exact this
 unfold setMerge;refine zR (λz=>absurd z (by simp[Et])) (λ_=>?_);refine za (zV ho hd hf ?_);dsimp only;refine zR (λz=>?_) (λz=>?_)
 · have hz:es= #[]:=by simpa using z
   have:ss= []:=Ye.mp (by rw[<-hsz,hz];rfl);have e:s= {s with heap:=s.heap}:=by cases s;rfl
   rw[e];exact zi (h s.heap [] (yB a s.heap) (by rw[this]) hA)
 refine za (vj hA (by omega) λh1 sb1 hA1=>?_);have ho1:h1.get? o=s.heap.get? o:=sb1.2 o (Ne.symm Et);have hS1:TSet prog w h1 o ss:=Ex.congr λo' e=>by rw[ho1];exact e
 have hA1':=hA1;obtain⟨oa,ea,epa,ta,hoa,hexa,hda,hela,hpma,hba,hfa,hla,hpla⟩:=hA1;have hza:0<ea.size:=by have:=hpma.length_eq;rw[zg,zL]at this;rw[this];exact List.length_pos_iff.mpr h0
 refine za (zV (s:={s with heap:=h1}) hoa hda hfa ?_);dsimp only;have hfl:(ta.fill != 0)=true:=by
  unfold xK at hfa;rw[jk]at hfa;have:ta.place.size=ea.size:=by simpa using hfa.1
  have hz:ta.fill≠0:=by unfold Jd;omega
  simp[hz]
 have er:ta.road t= .oneByOne:=by unfold Jc;rw[if_pos hfl]
 rw[er];dsimp only;refine za (gZ (s:={s with heap:=h1}) hS1 hA1' h0 λEr hel' hp'=>?_);refine za (jS (XB _ (λQ8 _ s'=>∃h' done,s'= {s with heap:=h'}/\jy a h1 h'/\Er.toList=done++Q8/\TSet prog w h' a ((done.map λe=>sV e.2).foldl ddT su)) (λ_ s'=>∃h',s'= {s with heap:=h'}/\jy a h1 h'/\TSet prog w h' a ((Er.toList.map λe=>sV e.2).foldl ddT su)) ?_ ?_ Er _ ⟨h1, [],rfl,yB a h1,rfl,hA1'⟩) ?_ (λ_ _ q=>q))
 · rintro⟨hh,x⟩ Q8 u s' ⟨h',done,rfl,sb',ed,hA2⟩;have hm:(hh,x)∈Er.toList:=by rw[ed];simp
   obtain⟨⟨k,hk,hkh⟩,_⟩:=hel' (hh,x) hm;obtain⟨tk,et⟩:=bF hk;have et:x= .str k tk:=et;subst et;have hkh:hh= (strKind prog w).hash k:=hkh;subst hkh;have hdl:(((done.map λe=>sV e.2)).foldl ddT su).length<=su.length+done.length:=by have:=iD (done.map λe=>sV e.2) su;rw[zg]at this;exact this
   have hdn:done.length<=ss.length:=by have h1:=hp'.length_eq;rw[zg,ed,zJ]at h1;omega
   refine za (jB (nQ hA2 (Nat.lt_of_le_of_lt (show _<=49 by omega) (by decide)) λb h2 sb2 hA3=>?_));have Go:h2.get? o=s.heap.get? o:=by rw[sb2.2 o (Ne.symm Et),sb'.2 o (Ne.symm Et)];exact ho1
   refine za (he h2 _ Go ?_);refine za (zV (s:={s with heap:=h2}) (by show h2.get? o=_;rw[Go];exact ho) hd hf ?_);refine zR (λz=>absurd z (by simp)) (λ_=>zi ?_);refine⟨h2,done++[((strKind prog w).hash k,.str k tk)],rfl,sb'.trans sb2,by rw[ed,yH];rfl,?_⟩;rw[jD,List.foldl_append];exact hA3
 ·rintro u s' ⟨h',done,rfl,sb',ed,hA2⟩;rw[yV]at ed;exact⟨h',rfl,sb',by rw[ed];exact hA2⟩
 ·rintro u s' ⟨h',rfl,sb',hA2⟩;exact zi (h h' _ (sb1.trans sb') hp' hA2)
theorem fG:∀(l Ek:List Str),(Ek++l).Nodup->l.foldl ddT Ek=Ek++l
 |[],Ek,_=>by simp
 |k::l,Ek,h=>by
   have hk:k∉Ek:=λq=>by rw[yW]at h;exact h.2.2 k q k (zH ..) rfl
   rw[yk,show ddT Ek k=Ek++[k]from if_neg hk,fG l (Ek++[k]) (by simpa using h)];simp
section
def hW(h:TSet prog w s.heap a ss)(q:Q true s):zw (zG prog w) A (YJ (.ref a)) Q E s:=by
 unfold YJ;have k1:=xa.sub;have hT:=h.type
 wp_walk
 exact q
def TSet.obj(hS:TSet prog w h a ss):∃es ep t,h.get? a=some (sO es ep t)/\t.fits es.size=true:=by obtain⟨o,es,ep,t,ho,⟨x1,x2,x3⟩,hd,_,_,_,hf,_⟩:=hS;obtain⟨oc,od,odt,os⟩:=o;obtain rfl:oc= .type "set":=x1;obtain rfl:od=none:=x2;obtain rfl:os= #[]:=x3;obtain rfl:odt= .set es ep t:=hd;exact⟨es,ep,t,ho,hf⟩
set_option maxHeartbeats 3200000 in
def Hf{Q:VSP}(Et:a≠c)(ha:TSet prog w s.heap a ss)(hc:TSet prog w s.heap c su)(hnd:su.Nodup)(hn:ss.length+su.length<=47)
 (h:∀h' (su':List Str),su'.Perm su->(∀b o,s.heap.get? b=some o->h'.get? b=some o)->TSet prog w h' s.heap.objs.size (su'.foldl ddT ss)->Q (.ref s.heap.objs.size) {s with heap:=h'}):zw (zG prog w) A (yb .BitOr (.ref a) (.ref c)) Q E s:=by
 have hA:=ha.type;have hC:=hc.type;refine wpAny_binaryOp_same hA hC F.fills_set_or F.slot_set_or (jA F.slot_set_or hA lh ?_ (F.args_set_or_2 _ _));unfold yg.«frozenset.__or__»;refine za (m:=Xd "__or__" ⟨[.ref a,.ref c], []⟩) ?_;unfold Xd;obtain⟨Fy,ep1,t1,ho1,hf1⟩:=ha.obj;obtain⟨es2,ep2,t2,Go,hf2⟩:=hc.obj;have k1:=xa.sub;have hne2:(a==c)=false:=by simp[Et]
 have hne3:(Value.ref c != Value.ref a)=true:=by simp[bne];exact λz=>Et z.symm
 wp_walk
 refine xY (zi ?_);simp only[if_true,newObj];refine za (wpAny_alloc (zi ?_));have lt1:a<s.heap.objs.size:=zu ho1;have lt2:c<s.heap.objs.size:=zu Go;have keep:∀b o,s.heap.get? b=some o->(s.heap.push (fO (!byT w))).get? b=some o:=λb o e=>zh _ e;have gN:(s.heap.push (fO (!byT w))).get? s.heap.objs.size=some (fO (!byT w)):=zt _ rfl;have nA:s.heap.objs.size≠a:=jX lt1;have nC:s.heap.objs.size≠c:=jX lt2;refine za (m:=Zn (.ref s.heap.objs.size)) (zi ?_);refine za (SN (s:={s with heap:=s.heap.push (fO (!byT w))}) nA gN (ha.congr λo e=>keep _ _ e) (by omega) λh1 sb1 q1=>?_);refine zi ?_;refine zR (λ_=>?_) (λz=>absurd hne3 z);refine za (m:=Zn (.ref s.heap.objs.size)) (zi ?_);have keep1:∀b o,s.heap.get? b=some o->h1.get? b=some o:=λb o e=>by rw[sb1.2 b (zE (zu e))];exact keep b o e
 have hc1:TSet prog w h1 c su:=hc.congr λo e=>keep1 _ _ e;have fin:∀(h':Heap) (su':List Str),jy s.heap.objs.size h1 h'->su'.Perm su->TSet prog w h' s.heap.objs.size (su'.foldl ddT ss)->zw (zG prog w) A.in1 (pure (Value.ref s.heap.objs.size)) (λa s'=>zw (zG prog w) A.in1 (ret a) (λfin s'=>∃v,fin=Fin.done (Flow.ret v)/\v≠Value.notImplemented/\Q v s') E s') E {s with heap:=h'}:=by intro h' su' sb hp hT;refine zi (zi ⟨_,rfl,(λz=>nomatch z),h h' su' hp (λb o e=>?_) hT⟩);rw[sb.2 b (zE (zu e))];exact keep1 b o e
 refine za (jB ?_);unfold Yt;refine za (hW (s:={s with heap:=h1}) (ss:=su) hc1 ?_);refine zR (λ_=>?_) (λz=>absurd rfl z);refine za (m:=Zn (.ref c)) (zi ?_);unfold Builtin.Frozenset.merge;obtain⟨es3,ep3,t3,ho3,hf3⟩:=hc1.obj;unfold setEpoch;refine za (za (zV (s:={s with heap:=h1}) ho3 rfl hf3 (zi ?_)));have hev:∀h' (Q':Unit->zD->Prop),h'.get? c=h1.get? c->Q' () {s with heap:=h'}->zw (zG prog w) A.in1 (YC (ZK "frozenset." ++ ZK "__or__") c ep3) Q' E {s with heap:=h'}:=by intro h' Q' e q;unfold YC setEpoch;refine za (za (zV (s:={s with heap:=h'}) (by show h'.get? c=_;rw[e];exact ho3) rfl hf3 (zi ?_)));exact zR (λz=>absurd z (by simp)) (λ_=>zi q)
 rcases q1 with⟨e0,eh⟩|⟨ne,hT⟩
 · subst eh;subst e0;refine SN (s:={s with heap:=s.heap.push (fO (!byT w))}) nC gN hc1 (by omega) λh2 sb2 q2=>?_;rcases q2 with⟨e0,eh⟩|⟨ne,hT⟩
   ·subst eh;refine fin _ [] (yB ..) (by rw[e0]) ?_;exact Da gN
   ·refine fin h2 su sb2 (.refl _) ?_;rw[fG su [] (by simpa using hnd)];exact hT
 ·exact Pf (s:={s with heap:=h1}) nC hT ne hc1 (by omega) hev λh2 su' sb2 hp hT2=>fin h2 su' sb2 hp hT2
end
inductive x9(w:jq):List DictEntry->List Str->Prop
 |nil:x9 w [] []
 |cons {e:DictEntry} {x:Str} {tk:Tok} {es:List DictEntry} {xs:List Str}:e.key= .str x tk->e.hash=hashStr w x->x9 w es xs->x9 w (e::es) (x::xs)
def x9.len(h:x9 w es xs):es.length=xs.length:=by
 induction h with
 |nil=>rfl
 |cons _ _ _ ih=>simp[ih]
def x9.at(h:x9 w es xs):∀ {i:Nat} {e:DictEntry},es[i]? =some e->∃x tk,xs[i]? =some x/\e.key= .str x tk/\e.hash=hashStr w x:=by
 induction h with
 |nil=>intro i e h;simp at h
 |cons h1 h2 _ ih=>
   intro i e h;rcases i with _|i
   ·simp at h;subst h;exact⟨_,_,rfl,h1,h2⟩
   ·simpa using ih (by simpa using h)
section
def LN(ho:s.heap.get? d=some o)(hd:o.data= .dict es ep)(h:Q es s):zw (zG prog w) A (dictEntries d) Q E s:=by unfold dictEntries;refine za (YD ho ?_);rw[hd];exact zi h
def Lm(ho:s.heap.get? d=some o)(hd:o.data= .dict es ep)(h:Q ep s):zw (zG prog w) A (dictEpoch d) Q E s:=by unfold dictEpoch;refine za (YD ho ?_);rw[hd];exact zi h
set_option maxHeartbeats 3200000 in
def LU{d:Addr}{di sl:_}{ep:Nat}(ho:s.heap.get? d=some {cls:=.type "dict",dict:=di,data:=.dict es ep,slots:=sl})(hs:(d==yT)=false)(hK:x9 w es.toList xs)(hn:xs.length<=47)
 (h:∀h',TSet prog w h' s.heap.objs.size (xs.foldl ddT [])->(∀b o,s.heap.get? b=some o->h'.get? b=some o)->Q (.ref s.heap.objs.size) {s with heap:=h'}):zw (zG prog w) A (call (.type "set") [.ref d]) Q E s:=by
 obtain⟨c0,t0,hm0⟩:=xa.mro;have e1:=xa.made;have e2:=xa.sub;refine wpAny_call (codeAny_of_tree (show zw _ _ (callAny (.type "set") _) _ _ _ from ?_));refine zi ⟨Code.quiet_builtin _ (by decide +kernel),yd F.entry_type_call ?_⟩;rw[Around.under_plain (weight_type_call_type "set" [.ref d] []) rfl];have e3:=xa.notType;have e4:=xa.canCreate;have e5:=F.typeCall_set_1 (.ref d)
 repeat (any_goals (first|assumption|wp_step))
 refine ZX (Bi (.ref d) (E:=E) (Q₁:=λob s1=>ob= .ref s.heap.objs.size/\s1= {s with heap:=s.heap.push (fO (!byT w))}) ⟨rfl,rfl⟩) λr s1 hr=>?_;rcases r with e|fl
 ·exact hr
 rcases fl with _|ob|_|_<;>try exact hr.elim
 obtain⟨rfl,rfl⟩:=hr;have hS:(s.heap.push (fO (!byT w))).get? s.heap.objs.size=some (fO (!byT w)):=zt _ rfl;have hT:Shared.TypeIs {s with heap:=s.heap.push (fO (!byT w))} (.ref s.heap.objs.size) "set":=⟨_,hS,rfl⟩;have e6:=xa.init.lookup;have e7:=xa.init.bind (.ref s.heap.objs.size)
 repeat (any_goals (first|assumption|wp_step))
 refine ZX (codeAny_call_builtin (R:=wants (λr s2=>r= .none/\∃h',s2= {s with heap:=h'}/\TSet prog w h' s.heap.objs.size (xs.foldl ddT [])/\(∀b o,s.heap.get? b=some o->h'.get? b=some o)) E) xa.init.plain F.entry_set_init (check_set_init_1 hT ?_)) λr2 s2 hr2=>?_
 · have Go:(s.heap.push (fO (!byT w))).get? d=some {cls:=.type "dict",dict:=di,data:=.dict es ep,slots:=sl}:=zh _ ho;have e8:=sb1;have e9:=sb2;unfold yg.«set.__init__» noKeywords Yt;simp only[Std.Legacy.Range.forIn_eq_forIn_range'];generalize hR:XY=RF;generalize hAH:setAddHashed=AH
   wp_walk
   subst hR hAH;have Ei:es.size=xs.length:=by rw[<-zL];exact hK.len
   have hdn:d≠s.heap.objs.size:=zE (zu ho);refine wS (s:={s with heap:=s.heap.push (fO (!byT w))}) hS (by omega) λh1 sbn hz=>?_;have ho3:h1.get? d=some {cls:=.type "dict",dict:=di,data:=.dict es ep,slots:=sl}:=by rw[sbn.2 d hdn];exact Go
   refine za (LN (s:={s with heap:=h1}) ho3 rfl ?_);have er:ZZ 0 [:es.size].size=ZZ 0 es.size:=by simp[Std.Legacy.Range.size]
   rw[er];refine za (jS (JA _ (λQ8 _ s'=>∃h' i,s'= {s with heap:=h'}/\jy s.heap.objs.size h1 h'/\i+Q8.length=es.size/\Q8=ZZ i Q8.length/\TSet prog w h' s.heap.objs.size ((xs.take i).foldl ddT [])) (λ_ s'=>∃h',s'= {s with heap:=h'}/\jy s.heap.objs.size h1 h'/\TSet prog w h' s.heap.objs.size (xs.foldl ddT [])) ?_ ?_ (ZZ 0 es.size) _ ⟨h1,0,rfl,yB ..,by simp,by simp,IE.ts (s:={s with heap:=h1}) hz⟩) ?_ (λ_ _ q=>q))
   · rintro j Q8 u s' ⟨h',i,rfl,sb',hi,hr,hA⟩;rw[zM,List.range'_succ]at hr;have hj:j=i:=(yJ hr).1;have hr:=(yJ hr).2;subst hj;simp only[zM]at hi;have ho4:h'.get? d=some {cls:=.type "dict",dict:=di,data:=.dict es ep,slots:=sl}:=by rw[sb'.2 d hdn];exact ho3
     have Eo:j<es.size:=by omega
     have ee:es[j]? =some es[j]:=by simp[Eo]
     obtain⟨x,tk,ex,ek,eh⟩:=hK.at (i:=j) (e:=es[j]) (by rw[jz];exact ee);refine za (LN (s:={s with heap:=h'}) ho4 rfl ?_);rw[ee];dsimp only;rw[ek,eh];have hdl:=iD (xs.take j) [];rw[Zp]at hdl;refine za (jB (nQ (s:={s with heap:=h'}) hA (Nat.lt_of_le_of_lt (show _<=49 by simp at hdl;omega) (by decide)) λb h2 sb2 hA3=>?_));have ho5:h2.get? d=some {cls:=.type "dict",dict:=di,data:=.dict es ep,slots:=sl}:=by rw[sb2.2 d hdn];exact ho4
     refine za (Lm (s:={s with heap:=h2}) ho5 rfl ?_);refine zR (λz=>absurd z (by simp)) (λ_=>zi ?_);refine⟨h2,j+1,rfl,sb'.trans sb2,by omega,hr,?_⟩;rw[List.take_succ,ex,List.foldl_append];exact hA3
   ·rintro u s' ⟨h',i,rfl,sb',hi,hr,hA⟩;refine⟨h',rfl,sb',?_⟩;rw[List.take_of_length_le (by simp at hi;omega)]at hA;exact hA
   ·rintro u s' ⟨h',rfl,sb',hA⟩;refine zi (zi ⟨rfl,h',rfl,hA,λb o e=>?_⟩);have hb:b≠s.heap.objs.size:=zE (zu e);rw[sb'.2 b hb,sbn.2 b hb];exact zh _ e
 · rcases r2 with e|fl
   ·exact hr2
   rcases fl with _|ob|_|_<;>try exact hr2.elim
   obtain⟨rfl,h',rfl,hT',Hn⟩:=hr2
   repeat (any_goals (first|assumption|wp_step))
   exact h _ hT' Hn
end
theorem nH:∀(l Ek:List Str),l.Nodup->l.foldl ddT Ek=Ek++l.filter λx=>decide (x∉Ek)
 |[],Ek,_=>by simp
 |k::l,Ek,h=>by
   have hk:=(xv.mp h).1;have hl:=(xv.mp h).2;rw[yk];by_cases c:k∈Ek
   ·rw[show ddT Ek k=Ek from if_pos c,nH l Ek hl,Yh (by simpa using c)]
   ·rw[show ddT Ek k=Ek++[k]from if_neg c,nH l _ hl,Yg (by simpa using c),yH];congr 1;show k::_=k::_;congr 1;refine List.filter_congr λx hx=>?_;have:x≠k:=λe=>hk (e▸hx);simp[this]
def pv{l l' Ek:List Str}(hp:l'.Perm l)(hn:l.Nodup):(l'.foldl ddT Ek).Perm (l.foldl ddT Ek):=by rw[nH l Ek hn,nH l' Ek (hp.nodup_iff.mpr hn)];exact(hp.filter _).append_left _
def mB(d:D):M (List Str):=match d with
 | .ref i=>N5 i >>= λo=>match o with
   | .dct l=>S1 (v7 l)
   |_=>M.stuck
 |_=>M.stuck
def HK(fa fb:Fe):Fe:=λσ=>fa σ >>= λx=>mB x >>= λks=>if ks.length<=47 then fb σ >>= λy=>mB y >>= λls=>if ks.length+ls.length<=47 then M5 (.lst ((O8 (ls.foldl ddT ks)).map .str))else M.stuck else M.stuck
theorem sN:∀ {l} {ss} {Eg} {xs} {es},v7 l=some ss->Z6 c μ H l Eg->KV Eg xs->Pairs (M9 P w) es xs->(∀e∈es,∃k,(M9 P w).is k e.key=true/\e.hash= (M9 P w).hash k)->x9 w es ss/\xs.map (·.1)=ss.map Sum.inr
 |[],_,_,_,es,e,r,kv,p,_=>by
   cases e;cases r;cases kv;cases p
   exact⟨.nil,rfl⟩
 |(.inr x,d)::t,ss,Eg,xs,es,e,r,kv,p,hh=>by
  replace e:=show (v7 t).map (_ :: ·)=some _ from e;rcases h:v7 t with _|q
  ·rw[h]at e;cases e
  · rw[h]at e
    cases e
    obtain⟨v0,tl,rfl,r0,rt⟩:=r
    cases kv with
    |cons hk ht=>
      cases p with
      |cons hi hv hp=>
        have ih:=sN (P:=P) (w:=w) h rt ht hp λy hy=>hh y (zA _ hy);obtain⟨k,hk2,hh2⟩:=hh _ (zH ..);have hk1:(Sum.inr x:Key)=_:=hk.1;rw[<-hk1]at hi;have e1:k= .inr x:=(M9 P w).inj _ _ _ hk2 hi;subst e1;rcases O5 (show sB (.inr x) _=true from hi) with⟨_,_,z,_⟩|⟨x',t',z,eu⟩
        ·cases z
        · cases z
          exact⟨.cons eu hh2 ih.1,by rw[zO,zO,ih.2,<-hk1]⟩
 |(.inl _,_)::_,_,_,_,_,e,_,_,_,_=>by cases e
def gS{d:D}{f:List Str->M α}{K:α->List Addr->DH->Hp->Prop}{v:V}(hr:v6 c μ G H)(rv:d8 c μ H d v)(p:c7 c Z μ H ((mB d >>= f) G) K):∃a l ss Eg,v= .ref a/\H a=some (.dK Eg)/\v7 l=some ss/\Z6 c μ H l Eg/\c7 c Z μ H (f ss G) K:=by
 obtain⟨i,rfl⟩:∃i,d= .ref i:=match d,p with
  | .ref i,_=>⟨i,rfl⟩
 have p':c7 c Z μ H ((N5 i >>= λo=>(match o with| .dct l=>S1 (v7 l)|_=>M.stuck:M (List Str)) >>= f) G) K:=by rw[<-M.bind_assoc];exact p
 obtain⟨o,g,p1⟩:=K4 p';unfold d8 at rv;obtain⟨a,m,rfl⟩:=rv;have ro:=hr.obj i o a g m;rcases o with l|l|l|l<;>try exact p1.elim
 obtain⟨Eg,q,rk⟩:=ro;obtain⟨ss,es,p2⟩:=S8 p1;exact⟨a,l,ss,Eg,rfl,q,es,rk,p2⟩
def eQ(ok:HOk P w H h)(e:H a=some (.dK Eg))(hs:v7 l=some ss)(rk:Z6 c μ H l Eg):∃di sl es ep,h.get? a=some {cls:=.type "dict",dict:=di,data:=.dict es ep,slots:=sl}/\(a==yT)=false/\x9 w es.toList ss/\ss.Nodup:=by obtain⟨z,hd,vs,rel,dd⟩:=aD ok e;obtain⟨o,es,ep,h1,h2,h3,h4,h5,h6⟩:=dd;obtain⟨oc,od,odt,os⟩:=o;have hc:oc= .type "dict":=h2.1;obtain⟨k1,k2⟩:=sN hs rk rel h5 λe he=>h4 e (Array.mem_toList_iff.mp he);refine⟨od,os,es,ep,by rw[h1,hc,show odt=_ from h3],hd,k1,?_⟩;rw[k2]at h6;exact(yh.mp h6).imp λh e=>h (congrArg _ e)
def HZ(hc:X.calm=true)(Ho:BLs X.mg)(hg1:Gl X "sorted")(hg2:Gl X "set")(ha:DE X Z ea fa)(hb:DE X Z eb fb)(sa:S6 ea=true)(sb:S6 eb=true):DE X Z (.Call (.Name "sorted" p) [.BinOp (.Call (.Name "set" p1) [ea] [] q1) .BitOr (.Call (.Name "set" p2) [eb] [] q2) q3] [] pos) (HK fa fb):=⟨by
 intro Ee s σ H Q I h;refine yp (E7 I hg1 (Ho.h _ (by decide +kernel)) cL ?_ (by decide) (by decide));refine h.elim λX9 μ G sr hr pp=>?_;refine callWith_builtin1 (xm (wpAny_BinOp ?_)) rfl rfl;refine yp (E7 I hg2 (Ho.h _ (by decide +kernel)) MQ ?_ (by decide) (by decide));refine callWith_type1 ?_ (P8 sa) rfl;rw[P8 sa];have pa:=c7.bind pp;refine xm (thn (ha.h Ee s σ H (λv H1=>∃x X0 G1,K5 (wc X) X0 H1 X9 σ/\v6 (wc X) X0 G1 H1/\d8 (wc X) X0 H1 x v/\c7 (wc X) Z X0 H1 ((mB x >>= λks=>if ks.length<=47 then fb X9 >>= λy=>mB y >>= λls=>if ks.length+ls.length<=47 then M5 (.lst ((O8 (ls.foldl ddT ks)).map .str))else M.stuck else M.stuck) G1) λd X2 _ H'=>∀v,d8 (wc X) X2 H' d v->Q v H') I ⟨X9,μ,G,sr,hr,pa.mono λd X0 G1 H1 x1 h1 p1 v rv=>⟨d,X0,G1,sr.mono x1,h1,rv,p1⟩⟩) λu s1 hE=>hE.elim λv H1 I1 r1 q=>?_);obtain⟨x,X0,G1,sr1,hr1,rv1,pp1⟩:=q;obtain⟨a,l1,ks,kvs1,rfl,ea1,Fy,rk1,pp2⟩:=gS hr1 rv1 pp1
 cases r1
 refine xz ?_;obtain⟨di,sl,dl,ep,g1,n1,hK1,nd1⟩:=eQ I1.hok ea1 Fy rk1;split at pp2
 case isFalse=>exact pp2.elim
 rename_i hk15;have pb:=c7.bind pp2;refine LU (w:=X.w) g1 n1 hK1 (by omega) λh1 hT1 k1=>?_;rw[fG ks [] (by simpa using nd1),xw]at hT1;obtain⟨es,ep1,t1,ho1,hf1⟩:=hT1.obj;have I2:Inv X ((s1.heap.objs.size,sO es ep1 t1)::Ee) σ H1 {s1 with heap:=h1}:=by
  have I2':Inv X Ee σ H1 {s1 with heap:=h1}:=I1.kept (t':=s1.toks) k1;refine I2'.pins_of λpr hp=>?_;rcases zy.mp hp with rfl|hp
  ·exact⟨ho1,I1.fresh,jX I1.lt,I1.nofs (zp _),λv z=>nomatch z⟩
  ·exact I2'.pin pr (zP _ hp)
 refine yp (E7 I2 hg2 (Ho.h _ (by decide +kernel)) MQ ?_ (by decide) (by decide));refine callWith_type1 ?_ (P8 sb) rfl;rw[P8 sb];refine xm (thn (hb.h _ _ σ H1 (λv H1=>∃x X0 G1,v6 (wc X) X0 G1 H1/\d8 (wc X) X0 H1 x v/\c7 (wc X) Z X0 H1 ((mB x >>= λls=>if ks.length+ls.length<=47 then M5 (.lst ((O8 (ls.foldl ddT ks)).map .str))else M.stuck) G1) λd X2 _ H'=>∀v,d8 (wc X) X2 H' d v->Q v H') I2 ⟨X9,X0,G1,sr1,hr1,pb.mono λd X0 G1 H1 x1 h1 p1 v rv=>⟨d,X0,G1,h1,rv,p1⟩⟩) λu s2 hE=>hE.elim λv H2 I3 r2 q=>?_);obtain⟨y,WY,G2,hr2,rv2,pp3⟩:=q;obtain⟨a2,l2,ls,kvs2,rfl,ea2,es2,rk2,pp4⟩:=gS hr2 rv2 pp3
 cases r2
 refine xz ?_;split at pp4
 case isFalse=>exact pp4.elim
 rename_i h31;obtain⟨di2,sl2,dl2,ep2,g2,n2,hK2,nd2⟩:=eQ I3.hok ea2 es2 rk2;refine LU (w:=X.w) g2 n2 hK2 (by omega) λh2 hT2 k2=>?_;rw[fG ls [] (by simpa using nd2),xw]at hT2;have gp:s2.heap.get? s1.heap.objs.size=some (sO es ep1 t1):=(I3.pin (s1.heap.objs.size,sO es ep1 t1) (zP _ (zH ..))).1;have hA:TSet X.prog X.w h2 s1.heap.objs.size ks:=hT1.congr λo e=>by rw[ho1]at e;have:=k2 _ _ gp;rw[this];exact e
 have I4:Inv X Ee σ H2 {s2 with heap:=h2}:=(I3.pins_of λpr hp=>I3.pin pr (zP _ (zA _ hp))).kept (t':=s2.toks) k2;refine Hf (s:={s2 with heap:=h2}) (zE (zu gp)) hA hT2 nd2 (by omega) λh3 su' hp3 k3 hT3=>?_;have I5:=I4.kept (t':=s2.toks) k3;refine xz ?_;have hdl:=iD su' ks;have hsl:=hp3.length_eq;refine Kc (s:={s2 with heap:=h3}) (I5.ok.hd hc) hT3 (by omega) λh4 h' d' tk e out Es k4 k5 he Ex hp hs=>?_;have e2:=QK (hp.trans (pv hp3 nd2)) hs;subst e2;have I6:Inv X Ee σ H2 {s2 with heap:=h4,drawn:=d',toks:=tk}:=ui (I5.kept (t':=tk) k4);obtain⟨ws,ew,rv',rl2⟩:=gF (c:=wc X) (μ:=WY) (H:=H2) Ex;have hf:=I6.hok.fresh (zp _);have Ei:ws.length<=zq:=by
  rw[ew,zg];have e3:(O8 (ls.foldl ddT ks)).length= (ls.foldl ddT ks).length:=(jv _ leS).length_eq;have:=iD ls ks;have:(64:Nat)<=zq:=by decide
  omega
 exact⟨.ref h4.objs.size,upd H2 h4.objs.size (.lst ws),I6.laid (t':=tk) k5 (zp _) ⟨Ei,out,e,rv',he⟩,rfl,U9 hr2 rl2 pp4 _ hf⟩⟩
end DL
namespace W
open PySem PySem.Spec L2 DL
open PyProof.Rows hiding St
def bS(e:G[p]? =some (.dct l))(hs:v7 l=some ks)(r:R ks G):Wp (mB (.ref p)) G R:=by unfold mB;simp only[j7,N6,e,O9,S4,hs];exact r
def Bb(ea:fa σ G=some (.ok (.ref p),G))(eb:fb σ G=some (.ok (.ref q),G))(e1:G[p]? =some (.dct l))(e2:G[q]? =some (.dct m))(h1:v7 l=some ks)(h2:v7 m=some ls)(n2:ks.length+ls.length<=47)(r:Q (.ref G.length) (G++[.lst ((O8 (ls.foldl ddT ks)).map .str)])):Wp (HK fa fb σ) G Q:=by refine j7.mpr (b8 ea (j7.mpr (bS e1 h1 ?_)));rw[if_pos (zK (jr ..) n2)];refine j7.mpr (b8 eb (j7.mpr (bS e2 h2 ?_)));rw[if_pos n2];exact R8.mpr r
end W
namespace DL
open PySem PySem.Spec L2
open PyProof.Rows hiding St
structure Ev where
 P:jh
 w:jq
 K:zn
 mg:Str->Option zk
 base:Heap
structure EvX(E:Ev):Prop where
 ex:∃h:Heap,E.K.In h/\h.Ns jF E.mg
abbrev Ck(E:Ev)(F:List D->M D)(n:Nat)(x:Str)(k:Nat):Prop:=pB F n x E.P E.w E.K E.mg E.base k
def BA(x:Str)(st:Stmt)(ps:List Str):Prop:=∀(kV doc pm:zk) (an:Option Addr) (Fi ct:zk) (us:List zk),us.length=ps.length->bindArgs (yK x x (CA st) (C6 st) (K9 st) .none kV doc pm an Fi ct) ⟨us, []⟩=pure (ps.zip us)
section
variable{E:Ev}{x:Str}{st:Stmt}{k n m:Nat}{fb:Fs}
def K6(N ps:List Str)(X:EvX E)(Y:FH E.K x st)(S:L7 N ps (K9 st))(b:BA x st ps)(hn:ps.length=n)(hm:N.length=m)
 (hb:L7 N ps (K9 st)->∀f Fi A outer s H Z,V7 k (A.deeper (Yu x (K9 st) s.heap.objs.size f Fi))->DB (r9 CX0 E.P E.w E.K E.mg E.base N x (K9 st) f Fi A outer s H Z).nox ZF (C6 st) fb):Ck E (m8 m fb) n x (k+1):=by
 obtain⟨h,X,G⟩:=X.ex;obtain⟨f,fd,c⟩:=Y.ff X G b;exact pB.of c (FO c S hn hm (hb S f))
def dE(ps:List Str)(X:EvX E)(Y:FH E.K x st)(b:BA x st ps)(hn:ps.length=n):Ck E (λ_=>M.stuck) n x k:=by obtain⟨h,X,G⟩:=X.ex;obtain⟨f,fd,c⟩:=Y.ff X G b;exact pB.of c (iY hn)
end
def FHs(K:zn)(top:Nat->Stmt):List Str->List Nat->Prop
 |x::r,i::s=>FH K x (top i)/\FHs K top r s
 |_,_=>True
section
variable{K:zn}{top:Nat->Stmt}{x:Str}{i:Nat}{r:List Str}{s:List Nat}{mg:Str->Option zk}{d:D}{u:zk}{h:Heap}
def FHs.c(h:FH K x (top i))(t:FHs K top r s):FHs K top (x::r) (i::s):=⟨h,t⟩
structure CC(K:zn)(mg:Str->Option zk)(x:Str)(d:D):Prop where
 ex:∃u,Zw K jF x=some (some u)/\CR K mg d u
def CC.of(g:Zw K jF x=some (some u))(r:CR K mg d u):CC K mg x d:=⟨u,g,r⟩
def CC.ok(c:CC K mg x d)(X:K.In h)(G:h.Ns jF mg):rF K mg x d:=by obtain⟨u,g,r⟩:=c.ex;exact⟨u,YL X G g,r⟩
def ao{fa:Addr}{P:jh}{w:jq}{N:List Str}{k m:Nat}{fb:Fs}(X:K.In h)(G:h.Ns jF mg)(hfa:mg "law" =some (.ref fa))(Y:FH K "law" (top i))(b:BA "law" (top i) ["script"])(S:L7 N ["script"] (K9 (top i)))(hm:N.length=m)
 (hs:∀kV dc pm an cd ct (s:zD) (v:zk),YY s (yK "law" "law" (CA (top i)) (C6 (top i)) (K9 (top i)) .none kV dc pm an cd ct) ⟨[v], []⟩ [("script",v)])
 (hb:∀base,L7 N ["script"] (K9 (top i))->∀Fi A outer s H Z,V7 k (A.deeper (Yu "law" (K9 (top i)) s.heap.objs.size fa Fi))->DB (r9 CX0 P w K mg base N "law" (K9 (top i)) fa Fi A outer s H Z).nox ZF (C6 (top i)) fb)
 (pure:∀ns:List Int,ns.length<=63->∃G',m8 m fb [.ref 0] [.rol (ns.map D.int)]=some (.ok (.bl true),G')):
 ∃fd:xT,(∀(s:zD) (v:zk),YY s fd ⟨[v], []⟩ [("script",v)])/\∀base:Heap,K.In base->base.Ns jF mg->u3 P w K mg base CX0 (k+1) fa fd ["script"] (PH K):=by
 obtain⟨f,od,an,sl,oc,kV,dc,pm,cd,ct,a,l,e,kp⟩:=Y;have q:=hfa.symm.trans (YL X G a)
 cases q
 exact⟨_,hs kV dc pm an cd ct,λbase _ _=>Ak (FO ⟨eJ l e kp,(eJ l e kp).binds b,YL X G a⟩ S rfl hm (hb base S)) pure⟩
def walk63{l:PySem.W.OpenLaw}{q:jh}{loose:List Str}{XP:(Str->Option zk)->Heap->Prop}{YP:jq->Heap->Prop}{d:DefRec}{K:Params->zn}(k:Nat)(hn:l.most=some 63)(hdf:d.params.defaults= [])(hr:V7 k Xz)
 (hY:∀(w:jq) (h:Heap),YP w h->(K w.params).In h)
 (F:∀(w:jq) (mg:Str->Option zk) (fa:Addr) (h:Heap),(K w.params).In h->h.Ns jF mg->mg d.name=some (.ref fa)->
   ∃fd:xT,(∀(s:zD) (u:zk),YY s fd ⟨[u], []⟩ [("script",u)])/\∀base:Heap,(K w.params).In base->base.Ns jF mg->u3 l.prog w (K w.params) mg base CX0 k fa fd ["script"] (PH (K w.params))):
 PySem.W.WalkO q loose XP YP l.row.toRowW d [] (λf vs=>PySem.call f vs):=
 L2.walk_of hn (by decide) hdf hr hY F (λ_ _ a ns hl hO hS=>⟨a,ns,rfl,hS,hO,hl,λ_=>rfl⟩) λ_ _ _ _ _ z=>z
end
end DL
namespace W
open PySem PySem.Spec L2 DL
open PyProof.Rows hiding St
abbrev D1(a:Fe):=B1 a (L0)
abbrev i4(a b:Fe):=B1 a (B1 b (L0))
abbrev wx(a b c:Fe):=B1 a (B1 b (B1 c (L0)))
abbrev wM(a b c d:Fe):=B1 a (B1 b (B1 c (B1 d (L0))))
abbrev QB(a b c d e:Fe):=B1 a (B1 b (B1 c (B1 d (B1 e (L0)))))
abbrev asQ(e:Fe)(g:D->DSt->M DSt)(r:Fs):Fs:=o9 (M8 e g) r
abbrev cBf:Fe:=cE (.bl false)
abbrev cBt:Fe:=cE (.bl true)
abbrev z0:Fe:=cE (.int 0)
abbrev C0:Fe:=cE (.int 1)
abbrev mE:Fe:=cE (.int 10)
abbrev K0:Fe:=cE (.int 2)
abbrev L1:Fe:=cE (.int 3)
abbrev F1:Fe:=cE (.int 4)
abbrev D9:Fe:=cE (.int 5)
abbrev A6:Fe:=cE (.int 6)
abbrev lH:Fe:=cE (.int 7)
abbrev Q2:Fe:=cE (.int 8)
abbrev MA:Fe:=cE (.int 9)
abbrev cIn(i:Int):Fe:=cE (.int i)
abbrev N0:Fe:=cE .non
abbrev cSt(s:Str):Fe:=cE (.str s)
abbrev F4(F:List D->M D):Fe:=T2 (fnX 0 F) (L0)
abbrev D0(F:List D->M D)(a:Fe):Fe:=T2 (fnX 1 F) (B1 a (L0))
abbrev M0(F:List D->M D)(a b:Fe):Fe:=T2 (fnX 2 F) (B1 a (B1 b (L0)))
abbrev wB(F:List D->M D)(a b c:Fe):Fe:=T2 (fnX 3 F) (B1 a (B1 b (B1 c (L0))))
abbrev CD(F:List D->M D)(a b c d:Fe):Fe:=T2 (fnX 4 F) (B1 a (B1 b (B1 c (B1 d (L0)))))
abbrev F0(F:List D->M D)(a:Fe):Fe:=T2 F (B1 a (L0))
abbrev P3(F:List D->M D)(a b:Fe):Fe:=T2 F (B1 a (B1 b (L0)))
abbrev gdQ(t:DSt->M Bool)(x:Fe)(r:Fs):Fs:=o9 (ifS t (t8 x) J7) r
abbrev ixE(a b:Fe):Fe:=j5 ixD a b
abbrev H0:=d6 0
abbrev C2:=d6 1
abbrev C1:=d6 2
abbrev y3:=d6 3
abbrev B3:=d6 4
abbrev i5:=d6 5
abbrev A7:=d6 6
abbrev UA:=d6 7
abbrev uN:=d6 8
abbrev sIi(i:Int):Option D:=some (D.int i)
abbrev sRf(r:Nat):Option D:=some (D.ref r)
abbrev tBn(o:D->D->M D)(a b:Fe):=VA (j5 o a b)
abbrev gB(a:Fe):=S2 (B1 a (L0))
abbrev T0(a b:Fe):=S2 (B1 a (B1 b (L0)))
abbrev cC(a b c:Fe):=S2 (B1 a (B1 b (B1 c (L0))))
abbrev g0:Fe:=B5 0
abbrev x0:Fe:=B5 1
abbrev y0:Fe:=B5 2
abbrev O0:Fe:=B5 3
abbrev S0:Fe:=B5 4
abbrev E1:Fe:=B5 5
abbrev E3:Fe:=B5 6
abbrev D8:Fe:=B5 7
abbrev tB:Fe:=B5 8
def tT:Fs:=t8 (S2 (QB (S2 L0) (T0 (cSt "of") (S2 L0)) (S2 L0) N0 N0))
def J8:List D->M D:=m8 0 tT
def CJ:Fs:=o9 (ifS (tBn eqD g0 (Q7 L0)) (t8 z0) J7) (t8 (mtE Q0 NF g0 L0))
def t7:List D->M D:=m8 1 CJ
def ML:Fs:=o9 (M8 (D0 t7 g0) C2) (gdQ (tBn eqD (j5 J9 x0 Q2) lH) (j5 J9 (j5 M4 x0 Q2) lH) (t8 (j5 J9 (j5 M4 x0 Q2) F1)))
def W6:List D->M D:=m8 2 ML
def CL:Fs:=o9 (M8 (D0 t7 g0) C2) (gdQ (tBn eqD (j5 J9 x0 MA) Q2) (mtE rG uE (cSt "") (D1 (J3 (W5 (D1 (j5 J9 (j5 M4 x0 MA) (cIn 21)))) [none,some 0] H0 K1 (ixE (cSt "abcdefghijklmnopqrstuvwxyz") (j5 J9 (D0 t7 x0) (cIn 26)))))) (t8 (ixE (Q7 (B1 (cSt "") (QB (cSt "a") (cSt "b") (cSt "aa") (cSt "ab") (cSt "ca")))) (j5 J9 (j5 M4 x0 MA) A6))))
def SD:List D->M D:=m8 2 CL
def nM:Fs:=t8 (T0 (F0 N1 g0) g0)
def Q5:List D->M D:=m8 1 nM
def WB:Fs:=(asQ (D0 SD g0) y3 (ifS (tBn uA O0 x0) (N4 (mtE Q0 L6 x0 (D1 O0))) J7))
def FI:Fs:=o9 (M8 (Q7 L0) C2) (o9 (N3 (W5 (D1 (D0 W6 g0))) C1 WB) (t8 (F0 O3 (uB Q5 x0))))
def TC:List D->M D:=m8 4 FI
def IH:Fs:=t8 (F0 y8 (J3 (itW (D0 TC g0)) [none] H0 (VA (oB ltD ltD z0 (F0 N1 g0) MA)) g0))
def mD:List D->M D:=m8 1 IH
def sM:Fs:=o9 (M8 (D0 t7 g0) C2) (gdQ (tBn eqD (j5 J9 x0 MA) Q2) (j5 J9 (j5 V8 (j5 A4 (j5 M4 x0 MA) (cIn 1000003)) (D0 t7 g0)) (j5 A4 A6 (j5 w9 mE mE))) (t8 (j5 J9 (j5 M4 x0 MA) D9)))
def V9:List D->M D:=m8 2 sM
def SB:Fs:=(asQ (j5 V8 (j5 V8 y0 K0) (D0 V9 g0)) B3 (asQ (j5 V8 S0 (D0 V9 g0)) C1 (N4 (mtE Q0 L6 x0 (D1 (T0 S0 y0))))))
def SC1:Fs:=(ifS (Q1 (tBn neD x0 (Q7 L0)) (tBn eqD (j5 J9 E1 F1) C0)) (M8 (T0 N0 (ixE (ixE x0 z0) C0)) (A3 x0 z0)) J7)
def SC2:Fs:=(ifS (Q1 (tBn neD x0 (Q7 L0)) (tBn eqD (j5 J9 (j5 M4 E1 F1) F1) C0)) (M8 (T0 (ixE (ixE x0 (unE dD C0)) z0) N0) (A3 x0 (unE dD C0))) J7)
def gG:Fs:=o9 (M8 (Q7 L0) C2) (asQ (j5 u4 (unE dD (D0 V9 g0)) K0) C1 (o9 (N3 (W5 (D1 (D0 W6 g0))) y3 SB) (asQ (D0 t7 g0) i5 (o9 SC1 (o9 SC2 (t8 (F0 O3 x0)))))))
def V0:List D->M D:=m8 6 gG
def mH:Fs:=o9 (M8 (D0 t7 g0) C1) (gdQ (orT (tBn eqD x0 z0) (tBn eqD (j5 J9 y0 Q2) z0)) (ixE (Q7 (i4 N0 (T0 (S2 L0) (cSt "any")))) (j5 J9 (j5 M4 y0 Q2) K0)) (o9 (VC) (o9 (VC) (VC))))
def sF:List D->M D:=m8 5 mH
def VP:Fs:=t8 (S2 (QB (gB (T0 N0 N0)) (T0 (cSt "but") (S2 L0)) (T0 cBf cBt) (T0 (S2 L0) (cSt "any")) (T0 (S2 L0) (cSt "any"))))
def HC:List D->M D:=m8 0 VP
def I5:Fs:=(gdQ (tBn eqD (F0 O3 O0) (F4 HC)) (cSt "any") (t8 (F0 O3 O0)))
def wI(R:List D->M D):Fs:=o9 (M8 (D0 t7 g0) C1) (gdQ (tBn ltD (j5 J9 y0 Q2) K0) (ixE (Q7 (i4 (cSt "any") (F4 J8))) (j5 J9 y0 Q2)) (asQ (F0 GB (ixE (Q7 (i4 (F4 J8) (F4 HC))) (F0 eB (j5 eqD (j5 J9 y0 Q2) K0)))) y3 (asQ (j5 J9 (j5 M4 y0 Q2) D9) B3 (asQ (j5 M4 y0 (cIn 40)) i5 (asQ (j5 gtD (j5 J9 y0 Q2) K0) A7 (o9 (ifS (orT (tBn eqD S0 z0) (Q1 (J2 E3) (tBn eqD (j5 J9 E1 K0) z0))) (M8 (D0 V0 g0) (A3 O0 z0)) J7) (o9 (ifS (orT (tBn eqD S0 C0) (Q1 (J2 E3) (tBn eqD (j5 J9 (j5 M4 E1 K0) L1) z0))) (M8 (T0 (ixE (Q7 (i4 (cSt "of") (cSt "but"))) (j5 J9 (j5 M4 E1 A6) K0)) (D0 TC g0)) (A3 O0 C0)) J7) (o9 (ifS (orT (tBn eqD S0 K0) (Q1 (J2 E3) (tBn eqD (j5 J9 (j5 M4 E1 (cIn 12)) L1) z0))) (M8 (ixE (Q7 (wM (S2 L0) (gB cBf) (gB cBt) (T0 cBf cBt))) (j5 J9 (j5 M4 E1 (cIn 36)) F1)) (A3 O0 K0)) J7) (o9 (ifS (orT (tBn eqD S0 L1) (Q1 (J2 E3) (tBn eqD (j5 J9 (j5 M4 E1 (cIn 144)) K0) z0))) (M8 (M0 sF g0 x0) (A3 O0 L1)) J7) (o9 (ifS (orT (tBn eqD S0 F1) (Q1 (J2 E3) (tBn eqD (j5 J9 (j5 M4 E1 (cIn 288)) K0) z0))) (M8 (M0 R g0 x0) (A3 O0 F1)) J7) I5))))))))))
def R6(R:List D->M D):List D->M D:=m8 7 (wI R)
def LH(R:List D->M D):Fs:=o9 (ifS (tBn gtD (j5 J9 x0 Q2) L1) (t8 (M0 (R6 R) g0 y0)) J7) (t8 (F4 J8))
def lD(R:List D->M D):List D->M D:=m8 3 (LH R)
def RB(R:List D->M D):Fs:=(asQ (M0 (R6 R) g0 (j5 u4 x0 C0)) A7 (asQ (T4 (j5 eqD (j5 J9 (D0 t7 g0) K0) z0) (j5 neD E3 (F4 J8))) UA (ifS (orT (J2 D8) (tBn neD E3 O0)) (N4 (mtE Q0 L6 S0 (D1 (cC E1 D8 E3)))) J7)))
def U8(R:List D->M D):Fs:=o9 (M8 (D0 t7 g0) C1) (gdQ (orT (tBn eqD x0 z0) (tBn eqD (j5 J9 y0 Q2) z0)) (ixE (Q7 (i4 N0 (T0 (S2 L0) (cSt "any")))) (j5 J9 (j5 M4 y0 Q2) K0)) (asQ (wB (lD R) g0 y0 (j5 u4 x0 C0)) y3 (asQ (Q7 L0) B3 (o9 (N3 (itW (D0 mD g0)) i5 (RB R)) (t8 (T0 (F0 O3 S0) O0))))))
def U7:Nat->List D->M D
 |0=>λ_=>M.stuck
 |n+1=>m8 8 (U8 (U7 n))
def rE:List D->M D:=U7 60
def gP:List D->M D:=R6 rE
def CP:List D->M D:=lD rE
def Z4:Fs:=t8 (j5 V8 (B8 (F4 J8) (A9) (C4 F1)) (gB (M0 rE g0 C0)))
def O1:List D->M D:=m8 1 Z4
def HM:Fs:=o9 (M8 (j5 J9 (j5 V8 (j5 J9 g0 (cIn 2147483647)) (j5 A4 (cIn 40692) (j5 V8 x0 C0))) (cIn 2147483647)) C1) (asQ (j5 J9 (j5 V8 (j5 V8 (j5 A4 y0 y0) (j5 A4 (cIn 48271) y0)) x0) (cIn 2147483647)) C1 (asQ (j5 J9 (j5 A4 y0 y0) (cIn 2147483629)) C1 (t8 (j5 M4 (j5 J9 (j5 A4 y0 (cIn 69621)) (cIn 2147483629)) Q2))))
def UE:List D->M D:=m8 3 HM
def PB:Fs:=(asQ (j5 J9 D8 (F0 N1 S0)) uN (ifS (tBn gtD (ixE E1 tB) z0) (o9 (N4 (mtE Q0 L6 E3 (D1 (j5 J9 (ixE E1 tB) (cIn 1000003))))) (M8 (j5 M4 (ixE E1 tB) (cIn 1000003)) (A3 E1 tB))) (N4 (mtE Q0 L6 E3 (D1 (M0 UE (ixE S0 tB) (j5 M4 D8 (F0 N1 S0))))))))
def PR:Fe:=(J3 (itW S0) [none] H0 K1 (j5 A4 (F0 UC g0) (F0 eB (j5 geD (F0 UC g0) (j5 w9 mE (cIn 18))))))
def PT:Fs:=(asQ PR i5 (asQ (Q7 L0) A7 (o9 (N3 (W5 (D1 O0)) UA PB) (t8 (unE QC E3)))))
def TJ:Fs:=o9 (M8 (tE g0 (C4 x0) (C4 (cIn 126)) (C4 y0)) B3) (o9 (ifS (tBn eqD S0 (Q7 L0)) (M8 (Q7 (D1 x0)) B3) J7) PT)
def Q3:List D->M D:=m8 9 TJ
def EJ:Fs:=t8 (ifE (orT (tBn F2 g0 N0) (tBn inX (cE (.tup [.tup [],.tup [.str ("of" :Str),.tup []],.tup [],.non,.non])) (ixE g0 z0))) N0 g0)
def vG:List D->M D:=m8 1 EJ
def lL:Fs:=o9 (ifS (orT (tBn F2 g0 N0) (J2 (F0 iB (J3 (itW (ixE g0 z0)) [none,none,none] (A5 3 (R0 H0 (R0 C2 (R0 C1 (D5))))) K1 (T4 x0 (j5 eqD y0 (cE (.tup [.tup [],.tup [.str ("of" :Str),.tup []],.tup [],.non,.non])))))))) (t8 N0) J7) (t8 (T0 (F0 O3 (J3 (itW (ixE g0 z0)) [none,some 0] H0 (orT (J2 (ixE g0 C0)) (tBn neD (ixE g0 K0) (ixE x0 C0))) g0)) (ixE g0 C0)))
def Z2:List D->M D:=m8 1 lL
def cK:Fs:=o9 (M8 (S2 (QB g0 x0 y0 (D0 vG O0) (D0 Z2 S0))) i5) (t8 (ifE (tBn eqD E1 (cE (.tup [.tup [.tup [.non,.non]],.tup [.str ("but" :Str),.tup []],.tup [.bl false,.bl true],.tup [.tup [],.str ("any" :Str)],.tup [.tup [],.str ("any" :Str)]]))) (cSt "any") E1))
def bJ:List D->M D:=m8 6 cK
def AS:Fs:=t8 (mmE QG (J3 (itW (T0 (ixE g0 z0) (ixE x0 z0))) [none] H0 (tBn n4 g0 N0) g0))
def kI:List D->M D:=m8 2 AS
def AU:Fs:=t8 (mmE NG (J3 (itW (T0 (ixE g0 C0) (ixE x0 C0))) [none] H0 (tBn n4 g0 N0) g0))
def bH:List D->M D:=m8 2 AU
def vS:Fs:=t8 (T4 (j5 n4 (ixE g0 C0) N0) (y7 (j5 F2 (ixE x0 C0) N0) (j5 ltD (ixE g0 C0) (ixE x0 C0))))
def cI:List D->M D:=m8 2 vS
def eU:Fs:=t8 (T4 (j5 n4 g0 N0) (T4 (j5 n4 x0 N0) (j5 gtD g0 x0)))
def HE:List D->M D:=m8 2 eU
def MT:DSt->M Bool:=(Q1 (tBn ltD O0 (F0 N1 g0)) (tBn ltD S0 (F0 N1 x0)))
def MB:Fs:=(asQ (M0 kI (ixE g0 O0) (ixE x0 S0)) i5 (asQ (M0 bH (ixE g0 O0) (ixE x0 S0)) A7 (o9 (ifS (C3 (J2 (M0 HE E1 E3))) (N4 (mtE Q0 L6 y0 (D1 (T0 E1 E3)))) J7) (ifS (J2 (M0 cI (ixE g0 O0) (ixE x0 S0))) (M8 (j5 V8 O0 C0) y3) (M8 (j5 V8 S0 C0) B3)))))
def gH:Fs:=o9 (M8 (Q7 L0) C1) (asQ z0 y3 (asQ z0 B3 (o9 (P9 MT MB) (t8 (F0 O3 y0)))))
def tI:List D->M D:=m8 7 gH
def SL:Fs:=t8 (F0 WA (J3 (itW g0) [none] H0 K1 (T0 g0 cBt)))
def UB:List D->M D:=m8 1 SL
def PJ:Fs:=t8 (T0 (F0 N1 g0) g0)
def O4:List D->M D:=m8 1 PJ
def KM:Fs:=t8 (F0 O3 (uB O4 (D0 UB g0)))
def oE:List D->M D:=m8 1 KM
def oK:Fs:=t8 (D0 oE (j5 V8 g0 x0))
def TD:List D->M D:=m8 2 oK
def iL:Fs:=o9 (M8 (D0 UB x0) C1) (t8 (F0 O3 (J3 (itW g0) [none,some 2] H0 (tBn inD g0 x0) g0)))
def PF:List D->M D:=m8 3 iL
def KL:Fs:=o9 (M8 (D0 UB x0) C1) (t8 (F0 O3 (J3 (itW g0) [none,some 2] H0 (tBn uA g0 x0) g0)))
def RC:List D->M D:=m8 3 KL
def oM:Fs:=o9 (ifS (Q1 (tBn eqD (ixE g0 z0) (cSt "of")) (tBn eqD (ixE x0 z0) (cSt "of"))) (t8 (T0 (cSt "of") (M0 PF (ixE g0 C0) (ixE x0 C0)))) J7) (gdQ (tBn eqD (ixE g0 z0) (cSt "of")) (T0 (cSt "of") (M0 RC (ixE g0 C0) (ixE x0 C0))) (gdQ (tBn eqD (ixE x0 z0) (cSt "of")) (T0 (cSt "of") (M0 RC (ixE x0 C0) (ixE g0 C0))) (t8 (T0 (cSt "but") (M0 TD (ixE g0 C0) (ixE x0 C0))))))
def pE:List D->M D:=m8 2 oM
def NH:Fs:=t8 (F0 WA (J3 (itW (ixE g0 z0)) [none,none,none] (A5 3 (R0 H0 (R0 C2 (R0 C1 (D5))))) K1 (T0 g0 (T0 x0 y0))))
def V1:List D->M D:=m8 1 NH
def CK:Fs:=t8 (mtE iF getD g0 (i4 y0 (T0 cBf x0)))
def AB:List D->M D:=m8 3 CK
def fJ:Fs:=o9 (M8 (D0 V1 g0) C1) (asQ (D0 V1 x0) y3 (t8 (J3 (itW (HK y0 O0)) [none,some 2,some 0,some 1,some 3] H0 K1 (cC g0 (wB AB x0 (ixE y0 C0) g0) (wB AB S0 (ixE O0 C0) g0)))))
def sJ:List D->M D:=m8 4 fJ
def dH(R:List D->M D):Fs:=o9 (ifS (orT (tBn F2 g0 N0) (tBn F2 x0 N0)) (t8 N0) J7) (asQ (P3 lI (F0 N1 (ixE g0 z0)) (F0 N1 (ixE x0 z0))) C1 (asQ (J3 (W5 (D1 y0)) [none,some 0,some 1] H0 K1 (KG)) y3 (t8 (T0 (F0 O3 O0) (M0 R (ixE g0 C0) (ixE x0 C0))))))
def QE(R:List D->M D):List D->M D:=m8 4 (dH R)
def pJ(R:List D->M D):Fs:=o9 (ifS (orT (tBn F2 g0 N0) (tBn F2 x0 N0)) (t8 N0) J7) (asQ (J3 (itW (M0 sJ g0 x0)) [none,none,none] (A5 3 (R0 H0 (R0 C2 (R0 C1 (D5))))) K1 (cC g0 (y7 (ixE x0 z0) (ixE y0 z0)) (M0 R (ixE x0 C0) (ixE y0 C0)))) C1 (t8 (T0 (F0 O3 y0) (M0 R (ixE g0 C0) (ixE x0 C0)))))
def WE(R:List D->M D):List D->M D:=m8 3 (pJ R)
def VE(R:List D->M D):Fs:=o9 (ifS (tBn eqD g0 (cSt "any")) (t8 x0) J7) (gdQ (tBn eqD x0 (cSt "any")) g0 (t8 (T2 (fnX 5 bJ) (QB (M0 tI (ixE g0 z0) (ixE x0 z0)) (M0 pE (ixE g0 C0) (ixE x0 C0)) (F0 O3 (J3 (itW (ixE g0 K0)) [none,some 1] H0 (tBn inD g0 (ixE x0 K0)) g0)) (M0 (QE R) (ixE g0 L1) (ixE x0 L1)) (M0 (WE R) (ixE g0 F1) (ixE x0 F1))))))
def pF:Nat->List D->M D
 |0=>λ_=>M.stuck
 |n+1=>m8 2 (VE (pF n))
def fB:List D->M D:=pF 60
def nO:List D->M D:=QE fB
def QU:List D->M D:=WE fB
def qP:Fs:=t8 (T4 (P3 O7 g0 (cE (.ty "tuple"))) (T4 (j5 eqD (F0 N1 g0) K0) (P3 O7 (ixE g0 z0) (cE (.ty "tuple")))))
def cH:List D->M D:=m8 1 qP
def CU:Fs:=t8 (y7 (j5 F2 g0 N0) (D0 cH g0))
def uI:List D->M D:=m8 1 CU
def wO:Fs:=t8 (F0 P2 (J3 (OA (i4 g0 (B8 g0 (C4 C0) (A9)))) [none,none] (A5 2 (R0 H0 (R0 C2 (D5)))) K1 (j5 ltD g0 x0)))
def ED:List D->M D:=m8 1 wO
def eG:Fs:=t8 (J3 (itW g0) [none] H0 K1 (ixE g0 z0))
def RG:List D->M D:=m8 1 eG
def pT:Fs:=t8 (T4 (P3 O7 g0 (cE (.ty "str"))) (F0 P2 (J3 (itW g0) [none] H0 K1 (oB leD leD (cSt "a") g0 (cSt "z")))))
def OF:List D->M D:=m8 1 pT
def OH:Fs:=t8 (T4 (D0 OF g0) (j5 gtD (F0 N1 g0) z0))
def bI:List D->M D:=m8 1 OH
def WH:Fs:=t8 (T4 (P3 O7 g0 (cE (.ty "tuple"))) (T4 (j5 eqD (F0 N1 g0) L1) (T4 (D0 bI (ixE g0 z0)) (P3 O7 (ixE g0 C0) (cE (.ty "bool"))))))
def uJ:List D->M D:=m8 1 WH
def W2:Fs:=o9 (ifS (tBn F2 g0 N0) (t8 cBt) J7) (gdQ (C3 (Q1 (J2 (D0 cH g0)) (J2 (F0 P2 (J3 (itW (ixE g0 z0)) [none] H0 K1 (D0 uJ g0)))))) cBf (t8 (D0 ED (D0 RG (ixE g0 z0)))))
def W0:List D->M D:=m8 1 W2
def oQ:Fs:=t8 (T4 (j5 n4 (ixE g0 C0) N0) (T4 (j5 n4 (ixE x0 z0) N0) (j5 ltD (j5 V8 (ixE g0 C0) C0) (ixE x0 z0))))
def lJ:List D->M D:=m8 2 oQ
def tP:Fs:=t8 (T4 (P3 O7 g0 (cE (.ty "int"))) (vD (P3 O7 g0 (cE (.ty "bool")))))
def NL:List D->M D:=m8 1 tP
def OP:Fs:=t8 (y7 (j5 F2 g0 N0) (D0 NL g0))
def iJ:List D->M D:=m8 1 OP
def uQ:Fs:=o9 (ifS (C3 (Q1 (J2 (P3 O7 g0 (cE (.ty "tuple")))) (tBn eqD (F0 N1 g0) K0))) (t8 cBf) J7) (gdQ (C3 (Q1 (J2 (D0 iJ (ixE g0 z0))) (J2 (D0 iJ (ixE g0 C0))))) cBf (t8 (vD (M0 HE (ixE g0 z0) (ixE g0 C0)))))
def VG:List D->M D:=m8 1 uQ
def dO:Fs:=o9 (ifS (C3 (Q1 (J2 (P3 O7 g0 (cE (.ty "tuple")))) (J2 (F0 P2 (J3 (itW g0) [none] H0 K1 (D0 VG g0)))))) (t8 cBf) J7) (t8 (F0 P2 (J3 (OA (i4 g0 (B8 g0 (C4 C0) (A9)))) [none,none] (A5 2 (R0 H0 (R0 C2 (D5)))) K1 (M0 lJ g0 x0))))
def WI:List D->M D:=m8 1 dO
def QO:Fs:=o9 (ifS (C3 (Q1 (J2 (P3 O7 g0 (cE (.ty "tuple")))) (tBn eqD (F0 N1 g0) K0))) (t8 cBf) J7) (t8 (T4 (P3 O7 (ixE g0 z0) (cE (.ty "str"))) (T4 (j5 eqD (ixE g0 z0) x0) (P3 O7 (ixE g0 C0) (cE (.ty "tuple"))))))
def KH:List D->M D:=m8 2 QO
def KN:Fs:=o9 (ifS (C3 (orT (J2 (M0 KH g0 (cSt "of"))) (J2 (M0 KH g0 (cSt "but"))))) (t8 cBf) J7) (gdQ (C3 (J2 (F0 P2 (J3 (itW (ixE g0 C0)) [none] H0 K1 (D0 OF g0))))) cBf (t8 (D0 ED (J3 (itW (ixE g0 C0)) [none] H0 K1 (D0 O4 g0)))))
def qI:List D->M D:=m8 1 KN
def VO:Fs:=o9 (ifS (C3 (J2 (P3 O7 g0 (cE (.ty "tuple"))))) (t8 cBf) J7) (t8 (T4 (F0 P2 (J3 (itW g0) [none] H0 K1 (P3 O7 g0 (cE (.ty "bool"))))) (D0 ED g0)))
def LG:List D->M D:=m8 1 VO
def CI:Fs:=o9 (ifS (J2 (P3 O7 g0 (cE (.ty "str")))) (t8 (j5 eqD g0 (cSt "any"))) J7) (gdQ (C3 (Q1 (J2 (P3 O7 g0 (cE (.ty "tuple")))) (tBn eqD (F0 N1 g0) D9))) cBf (gdQ (C3 (Q1 (J2 (D0 WI (ixE g0 z0))) (Q1 (J2 (D0 qI (ixE g0 C0))) (J2 (D0 LG (ixE g0 K0)))))) cBf (t8 (T4 (D0 uI (ixE g0 L1)) (D0 W0 (ixE g0 F1))))))
def Z8:List D->M D:=m8 1 CI
def JL:Fs:=(ifS (tBn n4 (ixE g0 L1) N0) (N4 (mtE Q0 wC x0 (D1 (j5 V8 (F0 GB (ixE (ixE g0 L1) z0)) (Q7 (D1 (ixE (ixE g0 L1) C0))))))) J7)
def JR:Fs:=(ifS (tBn n4 (ixE g0 F1) N0) (N4 (mtE Q0 wC x0 (D1 (j5 V8 (J3 (itW (ixE (ixE g0 F1) z0)) [none] H0 K1 (ixE g0 K0)) (Q7 (D1 (ixE (ixE g0 F1) C0))))))) J7)
def wF:Fs:=o9 (M8 (Q7 L0) C2) (gdQ (tBn eqD g0 (cSt "any")) x0 (o9 JL (o9 JR (t8 x0))))
def vE:List D->M D:=m8 2 wF
def ER:Fs:=o9 (ifS (tBn eqD g0 (cSt "any")) (t8 (gB (cSt "any"))) J7) (asQ (ifE (tBn F2 (ixE g0 L1) N0) N0 (F0 N1 (ixE (ixE g0 L1) z0))) C2 (asQ (ifE (tBn F2 (ixE g0 F1) N0) N0 (J3 (itW (ixE (ixE g0 F1) z0)) [none] H0 K1 (T0 (ixE g0 z0) (ixE g0 C0)))) C1 (t8 (S2 (QB (ixE g0 z0) (ixE g0 C0) (ixE g0 K0) x0 y0)))))
def kE:List D->M D:=m8 3 ER
def Z1:Fs:=(M8 (mtE Q0 NF y0 L0) y3)
def vI:Fs:=o9 (M8 (Q7 (D1 (T0 g0 x0))) C1) (o9 (P9 (J2 y0) (o9 Z1 (gdQ (tBn neD (D0 kE (ixE O0 z0)) (D0 kE (ixE O0 C0))) cBf (VC)))) (VC))
def HG:List D->M D:=m8 4 vI
def mG:Fs:=t8 (ifE (J2 (ixE g0 C0)) (j5 neD (ixE g0 K0) (cE (.tup [.tup [],.tup [.str ("of" :Str),.tup []],.tup [],.non,.non]))) (vD (M0 HG (ixE g0 K0) x0)))
def OE:List D->M D:=m8 2 mG
def iI:Fs:=o9 (ifS (tBn eqD g0 (cSt "any")) (t8 cBt) J7) (gdQ (Q1 (tBn n4 (ixE g0 L1) N0) (C3 (J2 (F0 P2 (J3 (itW (ixE (ixE g0 L1) z0)) [none] H0 K1 (KG)))))) cBf (gdQ (Q1 (tBn n4 (ixE g0 F1) N0) (C3 (J2 (F0 P2 (J3 (itW (ixE (ixE g0 F1) z0)) [none,some 0] H0 K1 (M0 OE g0 (ixE (ixE x0 F1) C0))))))) cBf (t8 (j5 neD g0 (cE (.tup [.tup [.tup [.non,.non]],.tup [.str ("but" :Str),.tup []],.tup [.bl false,.bl true],.tup [.tup [],.str ("any" :Str)],.tup [.tup [],.str ("any" :Str)]]))))))
def Z7:List D->M D:=m8 1 iI
def V2:Fs:=(ifS (C3 (J2 (D0 Z8 O0))) (t8 cBf) J7)
def V3:Fs:=(N4 (mtE Q0 L6 x0 (D1 O0)))
def V4:Fs:=(N4 (mtE Q0 wC y0 (D1 (D0 vE O0))))
def uG:Fs:=o9 (M8 (Q7 L0) C2) (asQ (Q7 (D1 g0)) C1 (o9 (P9 (J2 y0) (o9 Z1 (o9 V2 (o9 V3 V4)))) (t8 (F0 P2 (J3 (itW x0) [none] H0 K1 (D0 Z7 g0))))))
def AE:List D->M D:=m8 4 uG
def eF(R:List D->M D):Fs:=o9 (M8 (D0 t7 g0) C1) (asQ (j5 J9 y0 A6) y3 (gdQ (tBn eqD O0 C0) (j5 u4 (j5 J9 (j5 V8 (j5 A4 (j5 M4 y0 A6) (cIn 1000003)) (D0 t7 g0)) (j5 V8 (j5 A4 K0 (j5 w9 mE (cIn 12))) C0)) (j5 w9 mE (cIn 12))) (gdQ (tBn eqD O0 K0) (D0 SD g0) (gdQ (tBn eqD O0 L1) (j5 eqD (j5 J9 (j5 M4 y0 A6) K0) C0) (gdQ (orT (tBn eqD O0 z0) (tBn eqD x0 z0)) (j5 u4 (j5 J9 (j5 M4 y0 A6) (cIn 13)) A6) (gdQ (tBn eqD O0 F1) (T0 (cSt "list") (F0 O3 (J3 (W5 (D1 (D0 W6 g0))) [none,some 1,some 0] H0 K1 (M0 R y0 (j5 u4 x0 C0))))) (t8 (T0 (cSt "record") (F0 O3 (J3 (itW (D0 mD g0)) [none,some 1,some 0] H0 K1 (T0 g0 (M0 R y0 (j5 u4 x0 C0)))))))))))))
def QD:Nat->List D->M D
 |0=>λ_=>M.stuck
 |n+1=>m8 4 (eF (QD n))
def vH:List D->M D:=QD 60
def KI:Fs:=o9 (M8 (ixE g0 (j5 J9 x0 (F0 N1 g0))) (A5 2 (R0 C1 (R0 y3 (D5))))) (asQ (j5 J9 (j5 M4 x0 lH) D9) B3 (gdQ (Q1 (tBn F2 y0 N0) (tBn F2 O0 N0)) (j5 u4 S0 K0) (gdQ (tBn F2 y0 N0) (j5 u4 O0 S0) (gdQ (tBn F2 O0 N0) (j5 V8 y0 S0) (t8 (ixE (Q7 (wx y0 O0 (j5 V8 y0 (j5 J9 (j5 M4 x0 (cIn 35)) (j5 V8 (j5 u4 O0 y0) C0))))) (j5 J9 (j5 M4 x0 lH) L1)))))))
def nI:List D->M D:=m8 5 KI
def aJ:Fs:=o9 (ifS (tBn eqD (ixE g0 z0) (cSt "of")) (t8 (ixE (ixE g0 C0) (j5 J9 x0 (F0 N1 (ixE g0 C0))))) J7) (asQ (ixE (Q7 (B1 (cSt "") (QB (cSt "a") (cSt "b") (cSt "aa") (cSt "c") (cSt "q")))) (j5 J9 x0 A6)) C1 (o9 (P9 (tBn inD y0 (ixE g0 C0)) (M8 (j5 V8 y0 (cSt "q")) C1)) (t8 y0)))
def OI:List D->M D:=m8 3 aJ
def SF(R:List D->M D):Fs:=o9 (M8 (J3 (itW (ixE x0 z0)) [none,some 0] H0 K1 (KG)) C1) (o9 (ifS (tBn neD (ixE x0 C0) (F4 J8)) (M8 (j5 V8 y0 (J3 (W5 (D1 (j5 J9 (D0 t7 g0) L1))) [none,some 1,some 0] H0 K1 (M0 R y0 (ixE x0 C0)))) C1) J7) (t8 (T0 (cSt "list") (F0 O3 y0))))
def WD(R:List D->M D):List D->M D:=m8 3 (SF R)
def RL:Fs:=(t8 (T0 (cSt "record") (F0 O3 (J3 (itW (F0 y8 y0)) [none,some 2] H0 K1 (T0 g0 (j5 ixG x0 g0))))))
def RF(R:List D->M D):Fs:=(ifS (orT (J2 (ixE S0 C0)) (Q1 (tBn neD (ixE S0 K0) (F4 J8)) (tBn eqD (j5 J9 (D0 t7 g0) K0) C0))) (M8 (M0 R g0 (ixE S0 K0)) (A3 y0 (ixE S0 z0))) J7)
def oH(R:List D->M D):Fs:=o9 (M8 (HU) C1) (asQ (ixE (Q7 (wM (cSt "q") (cSt "a") (cSt "ba") (cSt "z"))) (j5 J9 (D0 t7 g0) F1)) y3 (o9 (N3 (itW (ixE x0 z0)) B3 (RF R)) (o9 (ifS (Q1 (tBn neD (ixE x0 C0) (F4 J8)) (Q1 (tBn eqD (j5 J9 (D0 t7 g0) K0) C0) (tBn uA O0 (J3 (itW (ixE x0 z0)) [none] H0 K1 (ixE g0 z0))))) (M8 (M0 R g0 (ixE x0 C0)) (A3 y0 O0)) J7) RL)))
def V5(R:List D->M D):List D->M D:=m8 5 (oH R)
def R1(R:List D->M D):Fs:=o9 (ifS (tBn eqD x0 (cSt "any")) (t8 (M0 vH g0 C0)) J7) (asQ (F4 J8) C1 (asQ (J3 (W5 (D1 D9)) [none,some 2,some 1] H0 (tBn neD (ixE y0 g0) (ixE x0 g0)) g0) y3 (gdQ (tBn eqD O0 (Q7 L0)) N0 (asQ (D0 t7 g0) B3 (asQ (ixE O0 (j5 J9 S0 (F0 N1 O0))) i5 (gdQ (tBn eqD E1 z0) (M0 nI (ixE x0 z0) (j5 M4 S0 D9)) (gdQ (tBn eqD E1 C0) (M0 OI (ixE x0 C0) (j5 M4 S0 D9)) (gdQ (tBn eqD E1 K0) (ixE (ixE x0 K0) (j5 J9 (j5 M4 S0 D9) (F0 N1 (ixE x0 K0)))) (gdQ (tBn eqD E1 L1) (M0 (WD R) g0 (ixE x0 L1)) (t8 (M0 (V5 R) g0 (ixE x0 F1))))))))))))
def R7:Nat->List D->M D
 |0=>λ_=>M.stuck
 |n+1=>m8 6 (R1 (R7 n))
def W9:List D->M D:=R7 60
def EN:List D->M D:=WD W9
def gK:List D->M D:=V5 W9
def IB:Fs:=(ifS (tBn eqD (ixE y0 z0) x0) (t8 (ixE y0 K0)) J7)
def pM:Fs:=o9 (N3 (itW (ixE g0 z0)) C1 IB) (t8 (ixE g0 C0))
def OC:List D->M D:=m8 3 pM
def A1:Fs:=(ifS (tBn uA (ixE S0 z0) O0) (N4 (mtE Q0 L6 O0 (D1 (ixE S0 z0)))) J7)
def A2:Fs:=(asQ (D0 t7 g0) UA (asQ (M0 W9 g0 (M0 OC (ixE (Q7 (i4 x0 y0)) (j5 J9 D8 K0)) E3)) uN (ifS (Q1 (tBn n4 tB N0) (tBn gtD (j5 J9 (j5 M4 D8 K0) D9) z0)) (N4 (mtE Q0 L6 E1 (D1 (T0 E3 tB)))) J7)))
def UF:Fs:=o9 (ifS (orT (tBn F2 x0 N0) (tBn F2 y0 N0)) (t8 (T0 (cSt "record") (S2 L0))) J7) (asQ (Q7 (D1 (cSt "zz"))) y3 (o9 (N3 (itW (j5 V8 (ixE x0 z0) (ixE y0 z0))) B3 A1) (asQ (Q7 L0) i5 (o9 (N3 (itW (F0 y8 O0)) A7 A2) (t8 (T0 (cSt "record") (F0 O3 E1)))))))
def dJ:List D->M D:=m8 9 UF
def lG(R:List D->M D):Fs:=o9 (ifS (orT (tBn F2 x0 N0) (tBn ltD (F0 N1 g0) (F0 N1 (ixE x0 z0)))) (t8 cBf) J7) (asQ (j5 V8 (ixE x0 z0) (j5 ND (gB (ixE x0 C0)) (j5 u4 (F0 N1 g0) (F0 N1 (ixE x0 z0))))) C1 (t8 (F0 P2 (J3 (OA (i4 g0 y0)) [none,none] (A5 2 (R0 H0 (R0 C2 (D5)))) K1 (M0 R g0 x0)))))
def X4(R:List D->M D):List D->M D:=m8 3 (lG R)
def Z3(R:List D->M D):Fs:=o9 (ifS (tBn F2 x0 N0) (t8 cBf) J7) (asQ (J3 (itW g0) [none] H0 K1 (ixE g0 z0)) C1 (gdQ (C3 (J2 (F0 P2 (J3 (itW (ixE x0 z0)) [none,some 2] H0 (J2 (ixE g0 C0)) (j5 inD (ixE g0 z0) x0))))) cBf (t8 (F0 P2 (J3 (itW g0) [none,none,some 1] (A5 2 (R0 H0 (R0 C2 (D5)))) K1 (M0 R x0 (M0 OC y0 g0)))))))
def T3(R:List D->M D):List D->M D:=m8 3 (Z3 R)
def NE:Fe:=(T4 (y7 (j5 F2 g0 N0) (j5 leD g0 y0)) (y7 (j5 F2 x0 N0) (j5 leD y0 x0)))
def BE(R:List D->M D):Fs:=o9 (ifS (tBn eqD x0 (cSt "any")) (t8 cBt) J7) (gdQ (J2 (P3 O7 g0 (cE (.ty "bool")))) (j5 inD g0 (ixE x0 K0)) (gdQ (J2 (P3 O7 g0 (cE (.ty "int")))) (F0 iB (J3 (itW (ixE x0 z0)) [none,none,some 0] (A5 2 (R0 H0 (R0 C2 (D5)))) K1 NE)) (gdQ (J2 (P3 O7 g0 (cE (.ty "str")))) (j5 eqD (j5 inD g0 (ixE (ixE x0 C0) C0)) (j5 eqD (ixE (ixE x0 C0) z0) (cSt "of"))) (gdQ (tBn eqD (ixE g0 z0) (cSt "list")) (M0 (X4 R) (ixE g0 C0) (ixE x0 L1)) (t8 (M0 (T3 R) (ixE g0 C0) (ixE x0 F1)))))))
def nE:Nat->List D->M D
 |0=>λ_=>M.stuck
 |n+1=>m8 2 (BE (nE n))
def nB:List D->M D:=nE 60
def QT:List D->M D:=X4 nB
def TQ:List D->M D:=T3 nB
def LE1:Fe:=(J3 (W5 (D1 A6)) [none,some 1,some 2,some 3] H0 K1 (wB dJ O0 (ixE x0 F1) (ixE y0 F1)))
def LE2:Fe:=(J3 (W5 (D1 L1)) [none,some 3] H0 K1 (M0 vH x0 K0))
def LE3:Fe:=(J3 (W5 (D1 L1)) [none,some 3,some 6] H0 K1 (M0 gK x0 (ixE y0 F1)))
def LB:Fs:=(ifS (tBn n4 (ixE E3 F1) N0) (M8 (j5 V8 E1 LE3) i5) J7)
def FB:Fs:=(ifS (tBn neD (M0 nB D8 S0) (T4 (M0 nB D8 x0) (M0 nB D8 y0))) (t8 cBf) J7)
def uH:Fs:=o9 (M8 (D0 O1 (CD Q3 g0 z0 L1 (cIn 60))) C2) (asQ (D0 O1 (CD Q3 g0 C0 L1 (cIn 60))) C1 (asQ (CD Q3 g0 K0 L1 (cIn 90)) y3 (asQ (M0 fB x0 y0) B3 (gdQ (orT (tBn n4 (D0 AE S0) cBt) (tBn neD (B8 S0 (A9) (C4 F1)) (B8 (F4 J8) (A9) (C4 F1)))) cBf (asQ (j5 V8 LE1 LE2) i5 (o9 (N3 (itW (cC x0 y0 S0)) A7 LB) (o9 (N3 (itW E1) UA FB) (t8 (j5 eqD (M0 fB y0 x0) S0)))))))))
def GK:List D->M D:=m8 8 uH
local macro_rules | `(tactic| walk_at "cl") => `(tactic| (refine ⟨?k, ?kk, ?a, ?b, ?c⟩; (case a => first | (dsimp only [Cx.nox, r9]; with_reducible assumption) | assumption); (case b => assumption); (case c => first | decide | omega)))
local macro_rules | `(tactic| walk_at "ck") => `(tactic| (refine ⟨?k, ?kk, ?kkk, ?a, ?b, ?c, ?d⟩; (case a => assumption); (case b => rfl); (case c => rfl); (case d => decide +kernel)))
local macro_rules | `(tactic| walk_at "od") => `(tactic| first
 |with_reducible exact aX
 |with_reducible exact Fh
 |with_reducible exact GS
 |with_reducible exact Mz
 |with_reducible exact Sm
 |with_reducible exact CV
 |with_reducible exact Tk
 |with_reducible exact Hw
 |with_reducible exact uo
 |with_reducible exact aZ
 |with_reducible exact HY
 |with_reducible exact ix
 |((with_reducible refine dW ?_);exact V7.units (by assumption))
 |((with_reducible refine nq ?_);exact V7.units (by assumption))
 |((with_reducible refine Lq ?_);exact V7.units (by assumption))
 |((with_reducible refine wW ?_);exact V7.units (by assumption))
 |((with_reducible refine pe ?_);exact V7.units (by assumption))
 |((with_reducible refine Cc ?_);exact V7.units (by assumption)))
local macro_rules | `(tactic| walk_at "bd") => `(tactic| first
 |with_reducible exact OW
 |with_reducible exact Fw
 |with_reducible exact Gv
 |with_reducible exact Sh
 |with_reducible exact vm
 |with_reducible exact ub
 |with_reducible exact Rk
 |with_reducible exact Ng
 |with_reducible exact Bw
 |with_reducible exact mw
 |with_reducible exact cX)
local macro_rules | `(tactic| walk_at "da") => `(tactic| first
 |with_reducible exact bM
 |((with_reducible refine Ag ?_ ?_ ?_);walk_at "de";walk_at "da";rfl))
local macro_rules | `(tactic| walk_at "do") => `(tactic| first
 |with_reducible exact eZ
 |((with_reducible refine aw ?_);walk_at "de"))
local macro_rules | `(tactic| walk_at "pk") => `(tactic| first | exact bW | ((apply pX); walk_at "pk"; walk_at "pk"; (unfold QA; decide); rfl) | ((apply tu); walk_at "pk"; walk_at "pk"; rfl))
local macro_rules | `(tactic| walk_at "de") => `(tactic| first
 |with_reducible exact Bq
 |with_reducible exact kb
 |with_reducible exact fY
 |with_reducible exact iu
 |((with_reducible refine Nq _ ?_ ?_ ?_ ?_);rfl;(first|exact Or.inl rfl|exact Or.inr (Or.inl rfl)|exact Or.inr (Or.inr rfl));decide;decide)
 |((with_reducible refine pW ?_ ?_ ?_ ?_ ?_ ?_);assumption;decide;decide +kernel;rfl;decide;decide)
 |((with_reducible refine cu ?_ ?_ ?_);assumption;rfl;decide)
 |((with_reducible refine Be ?_ ?_ ?_);walk_at "od";walk_at "de";walk_at "de")
 |((with_reducible refine qi uZ ?_);walk_at "de")
 |((with_reducible refine oX ?_);walk_at "de")
 |((with_reducible refine Tq ?_ ?_ ?_ ?_);walk_at "od";walk_at "de";walk_at "de";with_unfolding_all rfl)
 |((with_reducible refine nr ?_ ?_ ?_ ?_ ?_ ?_);walk_at "od";walk_at "od";walk_at "de";walk_at "de";walk_at "de";with_unfolding_all rfl)
 |((with_reducible refine ae ?_);walk_at "de")
 |((with_reducible refine SY ?_ ?_);walk_at "de";walk_at "de")
 |((with_reducible refine Ax ?_ ?_);walk_at "de";walk_at "de")
 |((with_reducible refine ll ?_ ?_ ?_);walk_at "dt";walk_at "de";walk_at "de")
 |((with_reducible refine NW ?_);walk_at "da")
 |((with_reducible refine Dw ?_);walk_at "da")
 |with_reducible exact FV
 |((with_reducible refine cw ?_ ?_ ?_);walk_at "de";walk_at "do";walk_at "do")
 |((with_reducible refine Vp ?_ ?_ ?_ ?_);walk_at "de";walk_at "do";walk_at "do";walk_at "do")
 |with_reducible exact CZ
 |((with_reducible refine Ph ?_ ?_ ?_);walk_at "de";walk_at "de";exact λ_ _=>rfl)
 |((with_reducible refine ar ?_ ?_ ?_);walk_at "de";walk_at "de";exact λ_ _=>rfl)
 |((with_reducible refine oY ?_ ?_ ?_ ?_ ?_ ?_);walk_at "de";rfl;assumption;rfl;rfl;rfl)
 |((with_reducible refine Ce ?_ ?_ ?_ ?_ ?_);walk_at "cl";rfl;walk_at "da";decide;rfl)
 |((with_reducible refine lu ?_ ?_ ?_);walk_at "cl";rfl;decide)
 |((with_reducible refine wj ?_ ?_ ?_ ?_ ?_);rfl;assumption;rfl;walk_at "de";rfl)
 |((with_reducible refine HZ ?_ ?_ ?_ ?_ ?_ ?_ ?_ ?_);rfl;assumption;rfl;rfl;walk_at "de";walk_at "de";rfl;rfl)
 |((with_reducible refine Qb ?_ ?_ ?_ ?_ ?_);rfl;assumption;rfl;walk_at "de";rfl)
 |((with_reducible refine SV ?_ ?_ ?_ ?_ ?_ ?_ ?_ ?_);rfl;walk_at "cl";assumption;rfl;rfl;walk_at "de";rfl;decide)
 |((with_reducible refine ip ?_ ?_ ?_ ?_ ?_ ?_ ?_ ?_ ?_);rfl;walk_at "bd";assumption;decide +kernel;rfl;walk_at "da";decide;decide;rfl)
 |((with_reducible refine FN PySem.F.slot_list_append PySem.F.type_list_append sv ?_ ?_ ?_ ?_ ?_ ?_ ?_);walk_at "de";walk_at "da";rfl;rfl;rfl;exact b9 rfl;rfl)
 |((with_reducible refine FN PySem.F.slot_list_extend PySem.F.type_list_extend BX ?_ ?_ ?_ ?_ ?_ ?_ ?_);walk_at "de";walk_at "da";rfl;rfl;rfl;exact b9 rfl;rfl)
 |((with_reducible refine Cy PySem.F.slot_str_join PySem.F.type_str_join Kz ?_ ?_ ?_ ?_ ?_ ?_ ?_);walk_at "de";walk_at "da";rfl;rfl;rfl;exact b9 rfl;rfl)
 |((with_reducible refine cf Yk PySem.F.type_dict_get (Ba ?_) ?_ ?_ ?_ ?_ ?_ ?_ ?_);exact V7.units (by assumption);walk_at "de";walk_at "da";rfl;rfl;rfl;exact b9 rfl;rfl)
 |((with_reducible refine kY PySem.F.slot_list_pop PySem.F.type_list_pop tq ?_ ?_ ?_);walk_at "de";rfl;rfl)
 |((with_reducible refine Md ?_ ?_ ?_ ?_ ?_ ?_ ?_ ?_);rfl;walk_at "di";walk_at "ck";decide +kernel;(intro _ _ _ _ _;walk_at "dg");(intro _ _ _ _;walk_at "dts");(intro _ _ _ _;walk_at "de");exact λ_=>rfl))
local macro_rules | `(tactic| walk_at "dt") => `(tactic| first
 |((with_reducible refine DW.dt ?_);walk_at "dw")
 |((with_reducible refine cz ?_);walk_at "dt")
 |((with_reducible refine Ca ?_ ?_ ?_ ?_);walk_at "od";walk_at "de";walk_at "de";with_unfolding_all rfl)
 |((with_reducible refine TW ?_ ?_ ?_ ?_ ?_ ?_);walk_at "od";walk_at "od";walk_at "de";walk_at "de";walk_at "de";with_unfolding_all rfl)
 |((with_reducible refine Qz ?_ ?_);walk_at "de";exact λ_=>rfl))
local macro_rules | `(tactic| walk_at "dw") => `(tactic| first
 |((with_reducible refine Cg ?_);walk_at "dt")
 |((with_reducible refine md ?_);walk_at "dt")
 |((with_reducible refine lV ?_ ?_);walk_at "dt";walk_at "dw")
 |((with_reducible refine Cs ?_ ?_);walk_at "dt";walk_at "dw"))
local macro_rules | `(tactic| walk_at "dts") => `(tactic| first
 |with_reducible exact Qx
 |((with_reducible refine Mm ?_);walk_at "dt"))
local macro_rules | `(tactic| walk_at "di") => `(tactic| first
 |((with_reducible refine kg ?_ ?_ ?_ ?_);assumption;rfl;walk_at "da";rfl)
 |((with_reducible refine PY ?_ ?_ ?_ ?_ ?_);assumption;rfl;walk_at "da";rfl;rfl)
 |((with_reducible refine Nz ?_);walk_at "de"))
local macro_rules | `(tactic| walk_at "dg") => `(tactic| first
 |((with_reducible refine NY ?_ ?_ ?_ ?_);exact⟨_,_,_, ‹L7 _ _ _›,rfl⟩;rfl;(first|exact Or.inl rfl|exact Or.inr rfl);(first|exact .inl rfl|exact .inr rfl))
 |((with_reducible refine PP ?_ ?_ ?_ ?_);assumption;rfl;(first|exact Or.inl rfl|exact Or.inr rfl);(first|exact .inl rfl|exact .inr rfl))
 |((with_reducible refine gW ?_ ?_ ?_ ?_);rfl;walk_at "dgs";rfl;rfl)
 |((with_reducible refine Rm ?_ ?_ ?_ ?_);exact V7.units (by assumption);walk_at "de";walk_at "de";exact λ_=>rfl))
local macro_rules | `(tactic| walk_at "dgs") => `(tactic| first
 |with_reducible exact EX
 |((with_reducible refine Hg ?_ ?_ ?_);walk_at "dg";walk_at "dgs";rfl))
local macro_rules | `(tactic| walk_at "ds") => `(tactic| first
 |((with_reducible refine AV ?_);walk_at "de")
 |((with_reducible refine Kj ?_ ?_ ?_);walk_at "dt";walk_at "db";walk_at "db")
 |((with_reducible refine Pd ?_ ?_ ?_ ?_ ?_ ?_ ?_ ?_ ?_ ?_);rfl;walk_at "di";walk_at "ck";decide +kernel;(intro _ _ _ _ _;walk_at "dg");(intro _ _ _ _;walk_at "dts");(intro _ _ _ _;walk_at "de");(exact λ_=>rfl);walk_at "dg";rfl)
 |((with_reducible refine vY ?_ ?_ ?_ ?_ ?_);walk_at "de";walk_at "dg";rfl;rfl;rfl)
 |((with_reducible refine tf ?_ ?_);walk_at "de";rfl)
 |((with_reducible refine gn ?_ ?_ ?_ ?_ ?_ ?_);exact PassesOwn.never;rfl;walk_at "di";walk_at "dg";walk_at "db";exact λ_=>rfl)
 |((with_reducible refine td ?_ ?_ ?_);exact PassesOwn.never;walk_at "dt";walk_at "db")
 |with_reducible exact IZ)
local macro_rules | `(tactic| walk_at "db") => `(tactic| first
 |with_reducible exact ww
 |((with_reducible refine wR ?_);walk_at "ds")
 |((with_reducible refine kQ ?_ ?_);walk_at "ds";walk_at "db"))
local macro_rules | `(tactic| walk_at "db0") => `(tactic| first
 |(refine wR ?_;walk_at "ds")
 |(refine kQ ?_ ?_;walk_at "ds";walk_at "db"))
set_option maxHeartbeats 2000000
local macro_rules | `(tactic| walk_at "sc") => `(tactic| exact ⟨rfl, rfl, rfl, by decide +kernel, rfl, by decide +kernel, by decide +kernel⟩)
local macro_rules | `(tactic| walk_at "ba") => `(tactic| (intro _ _ _ _ _ _ us h; (repeat (have q := sZ h; clear h; obtain ⟨_, _, e, h⟩ := q; subst e)); cases List.eq_nil_of_length_eq_zero h; rfl))
abbrev VS:D:=.tup [.tup [],.tup [.str ("of" :Str),.tup []],.tup [],.non,.non]
abbrev OU:D:=.tup [.tup [.tup [.non,.non]],.tup [.str ("but" :Str),.tup []],.tup [.bl false,.bl true],.tup [.tup [],.str ("any" :Str)],.tup [.tup [],.str ("any" :Str)]]
abbrev TN:D:=.str ("any" :Str)
structure BC(K:zn)(mg:Str->Option zk):Prop where
 b:BLs mg
 c_NOTHING:rF K mg "NOTHING" VS
 c_ALL_PARTS:rF K mg "ALL_PARTS" OU
 c_ANY:rF K mg "ANY" TN
local macro_rules | `(tactic| walk_at "s1") => `(tactic| (walk_at "sc"; walk_at "ba"; (intro _ _ _ _ _ _ _ _ _; obtain ⟨_, _, _, _⟩ := (‹_› : BC _ _); skip)))
def top(i:Nat):Stmt:=PySem.Challenge.pw_allmeet_k22_meets_of_records.main.body.getD i (.Pass ⟨0,0,0,0⟩)
section
variable{E:Ev}(zx:EvX E)(zb:BC E.K E.mg)
include zx zb
def Tz(Y:FH E.K "_law_none" (top 63)):Ck E J8 0 "_law_none" 1:=by refine K6 [] [] zx Y ?_ ?_ rfl rfl ?_;walk_at "s1";unfold tT;walk_at "db0"
variable(k0:Ck E J8 0 "_law_none" 1)
def aY(Y:FH E.K "_law_next" (top 55)):Ck E t7 1 "_law_next" 1:=by refine K6 ["purse"] ["purse"] zx Y ?_ ?_ rfl rfl ?_;walk_at "s1";unfold CJ;walk_at "db0"
variable(k1:Ck E t7 1 "_law_next" 1)
include k1 in
def RZ(Y:FH E.K "_law_few" (top 56)):Ck E W6 1 "_law_few" 2:=by refine K6 ["purse", "number"] ["purse"] zx Y ?_ ?_ rfl rfl ?_;walk_at "s1";unfold ML;walk_at "db0"
variable(k2:Ck E W6 1 "_law_few" 2)
include k1 in
def pd(Y:FH E.K "_law_word" (top 59)):Ck E SD 1 "_law_word" 2:=by refine K6 ["purse", "number"] ["purse"] zx Y ?_ ?_ rfl rfl ?_;walk_at "s1";unfold CL;walk_at "db0"
variable(k3:Ck E SD 1 "_law_word" 2)
def Fj(Y:FH E.K "_law_rank" (top 60)):Ck E Q5 1 "_law_rank" 1:=by refine K6 ["word"] ["word"] zx Y ?_ ?_ rfl rfl ?_;walk_at "s1";unfold nM;walk_at "db0"
variable(k4:Ck E Q5 1 "_law_rank" 1)
include k2 k3 k4 in
def bV(Y:FH E.K "_law_words" (top 61)):Ck E TC 1 "_law_words" 4:=by refine K6 ["purse", "words", "k", "word"] ["purse"] zx Y ?_ ?_ rfl rfl ?_;walk_at "s1";unfold FI;unfold WB;walk_at "db0"
variable(k5:Ck E TC 1 "_law_words" 4)
include k5 in
def oZ(Y:FH E.K "_law_names" (top 62)):Ck E mD 1 "_law_names" 5:=by refine K6 ["purse"] ["purse"] zx Y ?_ ?_ rfl rfl ?_;walk_at "s1";unfold IH;walk_at "db0"
variable(k6:Ck E mD 1 "_law_names" 5)
include k1 in
def kn(Y:FH E.K "_law_size" (top 57)):Ck E V9 1 "_law_size" 2:=by refine K6 ["purse", "number"] ["purse"] zx Y ?_ ?_ rfl rfl ?_;walk_at "s1";unfold sM;walk_at "db0"
variable(k7:Ck E V9 1 "_law_size" 2)
include k1 k2 k7 in
def Tc(Y:FH E.K "_law_stretches" (top 58)):Ck E V0 1 "_law_stretches" 3:=by refine K6 ["purse", "found", "at", "k", "low", "ends"] ["purse"] zx Y ?_ ?_ rfl rfl ?_;walk_at "s1";unfold gG;unfold SB SC2 SC1;walk_at "db0"
variable(k8:Ck E V0 1 "_law_stretches" 3)
include k1 in
def Am(Y:FH E.K "_law_lists" (top 66)):Ck E sF 2 "_law_lists" 2:=by refine K6 ["purse", "deep", "pick", "more", "fronts"] ["purse", "deep"] zx Y ?_ ?_ rfl rfl ?_;walk_at "s1";unfold mH;walk_at "db0"
variable(k9:Ck E sF 2 "_law_lists" 2)
def dX(Y:FH E.K "_law_every" (top 64)):Ck E HC 0 "_law_every" 1:=by refine K6 [] [] zx Y ?_ ?_ rfl rfl ?_;walk_at "s1";unfold VP;walk_at "db0"
variable(k10:Ck E HC 0 "_law_every" 1)
include k0 k1 k5 k8 k9 k10 in
def qN{R:List D->M D}{lv:Nat}(kR:Ck E R 2 "_law_records" lv)(h2:5<=lv)(Y:FH E.K "_law_set" (top 68)):Ck E (R6 R) 2 "_law_set" (lv+1):=by refine K6 ["purse", "deep", "pick", "parts", "at", "share", "other"] ["purse", "deep"] zx Y ?_ ?_ rfl rfl ?_;walk_at "s1";unfold wI;unfold I5;walk_at "db0"
include k0 in
def sU{R:List D->M D}{lv:Nat}(kR:Ck E R 2 "_law_records" lv)(h12:Ck E (R6 R) 2 "_law_set" (lv+1))(h2:5<=lv)(Y:FH E.K "_law_more" (top 65)):Ck E (lD R) 3 "_law_more" (lv+2):=by refine K6 ["purse", "pick", "deep"] ["purse", "pick", "deep"] zx Y ?_ ?_ rfl rfl ?_;walk_at "s1";unfold LH;walk_at "db0"
include k0 k1 k6 in
def Df{R:List D->M D}{lv:Nat}(kR:Ck E R 2 "_law_records" lv)(h12:Ck E (R6 R) 2 "_law_set" (lv+1))(h13:Ck E (lD R) 3 "_law_more" (lv+2))(h2:5<=lv)(Y:FH E.K "_law_records" (top 67)):Ck E (m8 8 (U8 R)) 2 "_law_records" (lv+3):=by refine K6 ["purse", "deep", "pick", "more", "fields", "name", "inner", "must"] ["purse", "deep"] zx Y ?_ ?_ rfl rfl ?_;walk_at "s1";unfold U8;unfold RB;walk_at "db0"
section
variable(Y:FH E.K "_law_records" (top 67))(Y12:FH E.K "_law_set" (top 68))(Y13:FH E.K "_law_more" (top 65))
include Y Y12 Y13 k0 k1 k5 k6 k8 k9 k10
theorem kO:∀n,Ck E (U7 n) 2 "_law_records" (5+3*n)
 |0=>dE ["purse", "deep"] zx Y (by walk_at "ba") rfl
 |n+1=>by have kR:=kO n;have h12:=qN zx zb k0 k1 k5 k8 k9 k10 kR (jr _ _) Y12;have h13:=sU zx zb k0 kR h12 (jr _ _) Y13;exact Df zx zb k0 k1 k6 kR h12 h13 (jr _ _) Y
end
include k0 k1 k5 k6 k8 k9 k10 in
def FW(Y:FH E.K "_law_records" (top 67))(Y12:FH E.K "_law_set" (top 68))(Y13:FH E.K "_law_more" (top 65)):Ck E rE 2 "_law_records" 185:=kO zx zb k0 k1 k5 k6 k8 k9 k10 Y Y12 Y13 60
variable(k11:Ck E rE 2 "_law_records" 185)
include k0 k1 k5 k8 k9 k10 k11 in
def GV(Y:FH E.K "_law_set" (top 68)):Ck E gP 2 "_law_set" 186:=qN zx zb k0 k1 k5 k8 k9 k10 k11 (by decide) Y
variable(k12:Ck E gP 2 "_law_set" 186)
include k0 k11 k12 in
def vh(Y:FH E.K "_law_more" (top 65)):Ck E CP 3 "_law_more" 187:=sU zx zb k0 k11 k12 (by decide) Y
variable(k13:Ck E CP 3 "_law_more" 187)
include k0 k11 in
def eV(Y:FH E.K "_law_of_records" (top 79)):Ck E O1 1 "_law_of_records" 186:=by refine K6 ["purse"] ["purse"] zx Y ?_ ?_ rfl rfl ?_;walk_at "s1";unfold Z4;walk_at "db0"
variable(k14:Ck E O1 1 "_law_of_records" 186)
def Dg(Y:FH E.K "_law_mixed" (top 53)):Ck E UE 2 "_law_mixed" 1:=by refine K6 ["cell", "k", "number"] ["cell", "k"] zx Y ?_ ?_ rfl rfl ?_;walk_at "s1";unfold HM;walk_at "db0"
variable(k15:Ck E UE 2 "_law_mixed" 1)
include k15 in
def uw(Y:FH E.K "_law_purse" (top 54)):Ck E Q3 4 "_law_purse" 2:=by refine K6 ["script", "at", "step", "many", "cells", "rests", "purse", "k", "place"] ["script", "at", "step", "many"] zx Y ?_ ?_ rfl rfl ?_;walk_at "s1";unfold TJ;unfold PT PR PB;walk_at "db0"
variable(k16:Ck E Q3 4 "_law_purse" 2)
def Mj(Y:FH E.K "lists_in_form" (top 45)):Ck E vG 1 "lists_in_form" 1:=by refine K6 ["lists"] ["lists"] zx Y ?_ ?_ rfl rfl ?_;walk_at "s1";unfold EJ;walk_at "db0"
variable(k17:Ck E vG 1 "lists_in_form" 1)
def aV(Y:FH E.K "records_in_form" (top 46)):Ck E Z2 1 "records_in_form" 1:=by refine K6 ["records"] ["records"] zx Y ?_ ?_ rfl rfl ?_;walk_at "s1";unfold lL;walk_at "db0"
variable(k18:Ck E Z2 1 "records_in_form" 1)
include k17 k18 in
def Ad(Y:FH E.K "made" (top 44)):Ck E bJ 5 "made" 2:=by refine K6 ["numbers", "texts", "truths", "lists", "records", "parts"] ["numbers", "texts", "truths", "lists", "records"] zx Y ?_ ?_ rfl rfl ?_;walk_at "s1";unfold cK;walk_at "db0"
variable(k19:Ck E bJ 5 "made" 2)
def wf(Y:FH E.K "nearer_low" (top 17)):Ck E kI 2 "nearer_low" 1:=by refine K6 ["one", "other"] ["one", "other"] zx Y ?_ ?_ rfl rfl ?_;walk_at "s1";unfold AS;walk_at "db0"
variable(k20:Ck E kI 2 "nearer_low" 1)
def IW(Y:FH E.K "nearer_high" (top 18)):Ck E bH 2 "nearer_high" 1:=by refine K6 ["one", "other"] ["one", "other"] zx Y ?_ ?_ rfl rfl ?_;walk_at "s1";unfold AU;walk_at "db0"
variable(k21:Ck E bH 2 "nearer_high" 1)
def Qk(Y:FH E.K "ends_first" (top 19)):Ck E cI 2 "ends_first" 1:=by refine K6 ["one", "other"] ["one", "other"] zx Y ?_ ?_ rfl rfl ?_;walk_at "s1";unfold vS;walk_at "db0"
variable(k22:Ck E cI 2 "ends_first" 1)
def Tp(Y:FH E.K "is_empty" (top 11)):Ck E HE 2 "is_empty" 1:=by refine K6 ["low", "high"] ["low", "high"] zx Y ?_ ?_ rfl rfl ?_;walk_at "s1";unfold eU;walk_at "db0"
variable(k23:Ck E HE 2 "is_empty" 1)
include k20 k21 k22 k23 in
def Kb(Y:FH E.K "meet_numbers" (top 16)):Ck E tI 2 "meet_numbers" 2:=by refine K6 ["one", "other", "met", "here", "there", "low", "high"] ["one", "other"] zx Y ?_ ?_ rfl rfl ?_;walk_at "s1";unfold gH;unfold MB MT;walk_at "db0"
variable(k24:Ck E tI 2 "meet_numbers" 2)
def cW(Y:FH E.K "marked" (top 21)):Ck E UB 1 "marked" 1:=by refine K6 ["texts"] ["texts"] zx Y ?_ ?_ rfl rfl ?_;walk_at "s1";unfold SL;walk_at "db0"
variable(k25:Ck E UB 1 "marked" 1)
def sf(Y:FH E.K "text_order" (top 7)):Ck E O4 1 "text_order" 1:=by refine K6 ["text"] ["text"] zx Y ?_ ?_ rfl rfl ?_;walk_at "s1";unfold PJ;walk_at "db0"
variable(k26:Ck E O4 1 "text_order" 1)
include k25 k26 in
def Bu(Y:FH E.K "rising_texts" (top 22)):Ck E oE 1 "rising_texts" 4:=by refine K6 ["texts"] ["texts"] zx Y ?_ ?_ rfl rfl ?_;walk_at "s1";unfold KM;walk_at "db0"
variable(k27:Ck E oE 1 "rising_texts" 4)
include k27 in
def SW(Y:FH E.K "in_either" (top 25)):Ck E TD 2 "in_either" 5:=by refine K6 ["one", "other"] ["one", "other"] zx Y ?_ ?_ rfl rfl ?_;walk_at "s1";unfold oK;walk_at "db0"
variable(k28:Ck E TD 2 "in_either" 5)
include k25 in
def nV(Y:FH E.K "in_both" (top 23)):Ck E PF 2 "in_both" 2:=by refine K6 ["one", "other", "there"] ["one", "other"] zx Y ?_ ?_ rfl rfl ?_;walk_at "s1";unfold iL;walk_at "db0"
variable(k29:Ck E PF 2 "in_both" 2)
include k25 in
def tm(Y:FH E.K "without" (top 24)):Ck E RC 2 "without" 2:=by refine K6 ["one", "other", "there"] ["one", "other"] zx Y ?_ ?_ rfl rfl ?_;walk_at "s1";unfold KL;walk_at "db0"
variable(k30:Ck E RC 2 "without" 2)
include k28 k29 k30 in
def Ds(Y:FH E.K "meet_texts" (top 20)):Ck E pE 2 "meet_texts" 6:=by refine K6 ["one", "other"] ["one", "other"] zx Y ?_ ?_ rfl rfl ?_;walk_at "s1";unfold oM;walk_at "db0"
variable(k31:Ck E pE 2 "meet_texts" 6)
def Dx(Y:FH E.K "fields_by_name" (top 31)):Ck E V1 1 "fields_by_name" 1:=by refine K6 ["records"] ["records"] zx Y ?_ ?_ rfl rfl ?_;walk_at "s1";unfold NH;walk_at "db0"
variable(k32:Ck E V1 1 "fields_by_name" 1)
def Gm(Y:FH E.K "field_of" (top 32)):Ck E AB 3 "field_of" 1:=by refine K6 ["told", "more", "name"] ["told", "more", "name"] zx Y ?_ ?_ rfl rfl ?_;walk_at "s1";unfold CK;walk_at "db0"
variable(k33:Ck E AB 3 "field_of" 1)
include k32 k33 in
def Au(Y:FH E.K "fields_beside" (top 51)):Ck E sJ 2 "fields_beside" 2:=by refine K6 ["one", "other", "here", "there"] ["one", "other"] zx Y ?_ ?_ rfl rfl ?_;walk_at "s1";unfold fJ;walk_at "db0"
variable(k34:Ck E sJ 2 "fields_beside" 2)
def bQ{R:List D->M D}{lv:Nat}(kR:Ck E R 2 "meet" lv)(h2:6<=lv)(Y:FH E.K "meet_lists" (top 49)):Ck E (QE R) 2 "meet_lists" (lv+1):=by refine K6 ["one", "other", "longer", "fronts"] ["one", "other"] zx Y ?_ ?_ rfl rfl ?_;walk_at "s1";unfold dH;walk_at "db0"
include k34 in
def MN{R:List D->M D}{lv:Nat}(kR:Ck E R 2 "meet" lv)(h2:6<=lv)(Y:FH E.K "meet_records" (top 50)):Ck E (WE R) 2 "meet_records" (lv+1):=by refine K6 ["one", "other", "fields"] ["one", "other"] zx Y ?_ ?_ rfl rfl ?_;walk_at "s1";unfold pJ;walk_at "db0"
include k19 k24 k31 in
def ul{R:List D->M D}{lv:Nat}(kR:Ck E R 2 "meet" lv)(h36:Ck E (QE R) 2 "meet_lists" (lv+1))(h37:Ck E (WE R) 2 "meet_records" (lv+1))(h2:6<=lv)(Y:FH E.K "meet" (top 48)):Ck E (m8 2 (VE R)) 2 "meet" (lv+2):=by refine K6 ["one", "other"] ["one", "other"] zx Y ?_ ?_ rfl rfl ?_;walk_at "s1";unfold VE;walk_at "db0"
section
variable(Y:FH E.K "meet" (top 48))(Y36:FH E.K "meet_lists" (top 49))(Y37:FH E.K "meet_records" (top 50))
include Y Y36 Y37 k19 k24 k31 k34
theorem sS:∀n,Ck E (pF n) 2 "meet" (6+2*n)
 |0=>dE ["one", "other"] zx Y (by walk_at "ba") rfl
 |n+1=>by have kR:=sS n;have h36:=bQ zx zb kR (jr _ _) Y36;have h37:=MN zx zb k34 kR (jr _ _) Y37;exact ul zx zb k19 k24 k31 kR h36 h37 (jr _ _) Y
end
include k19 k24 k31 k34 in
def lm(Y:FH E.K "meet" (top 48))(Y36:FH E.K "meet_lists" (top 49))(Y37:FH E.K "meet_records" (top 50)):Ck E fB 2 "meet" 126:=sS zx zb k19 k24 k31 k34 Y Y36 Y37 60
variable(k35:Ck E fB 2 "meet" 126)
include k35 in
def Mp(Y:FH E.K "meet_lists" (top 49)):Ck E nO 2 "meet_lists" 127:=bQ zx zb k35 (by decide) Y
variable(k36:Ck E nO 2 "meet_lists" 127)
include k34 k35 in
def QY(Y:FH E.K "meet_records" (top 50)):Ck E QU 2 "meet_records" 127:=MN zx zb k34 k35 (by decide) Y
variable(k37:Ck E QU 2 "meet_records" 127)
def Pq(Y:FH E.K "is_couple" (top 33)):Ck E cH 1 "is_couple" 1:=by refine K6 ["thing"] ["thing"] zx Y ?_ ?_ rfl rfl ?_;walk_at "s1";unfold qP;walk_at "db0"
variable(k38:Ck E cH 1 "is_couple" 1)
include k38 in
def wg(Y:FH E.K "has_lists_form" (top 35)):Ck E uI 1 "has_lists_form" 2:=by refine K6 ["thing"] ["thing"] zx Y ?_ ?_ rfl rfl ?_;walk_at "s1";unfold CU;walk_at "db0"
variable(k39:Ck E uI 1 "has_lists_form" 2)
def bq(Y:FH E.K "rising" (top 5)):Ck E ED 1 "rising" 1:=by refine K6 ["keys"] ["keys"] zx Y ?_ ?_ rfl rfl ?_;walk_at "s1";unfold wO;walk_at "db0"
variable(k40:Ck E ED 1 "rising" 1)
def Fk(Y:FH E.K "names_of" (top 6)):Ck E RG 1 "names_of" 1:=by refine K6 ["pairs"] ["pairs"] zx Y ?_ ?_ rfl rfl ?_;walk_at "s1";unfold eG;walk_at "db0"
variable(k41:Ck E RG 1 "names_of" 1)
def Gb(Y:FH E.K "is_text" (top 2)):Ck E OF 1 "is_text" 1:=by refine K6 ["thing"] ["thing"] zx Y ?_ ?_ rfl rfl ?_;walk_at "s1";unfold pT;walk_at "db0"
variable(k42:Ck E OF 1 "is_text" 1)
include k42 in
def Ah(Y:FH E.K "is_name" (top 3)):Ck E bI 1 "is_name" 2:=by refine K6 ["thing"] ["thing"] zx Y ?_ ?_ rfl rfl ?_;walk_at "s1";unfold OH;walk_at "db0"
variable(k43:Ck E bI 1 "is_name" 2)
include k43 in
def Gz(Y:FH E.K "is_field" (top 34)):Ck E uJ 1 "is_field" 3:=by refine K6 ["thing"] ["thing"] zx Y ?_ ?_ rfl rfl ?_;walk_at "s1";unfold WH;walk_at "db0"
variable(k44:Ck E uJ 1 "is_field" 3)
include k38 k40 k41 k44 in
def Dm(Y:FH E.K "has_records_form" (top 36)):Ck E W0 1 "has_records_form" 4:=by refine K6 ["thing"] ["thing"] zx Y ?_ ?_ rfl rfl ?_;walk_at "s1";unfold W2;walk_at "db0"
variable(k45:Ck E W0 1 "has_records_form" 4)
def ky(Y:FH E.K "lies_clear" (top 12)):Ck E lJ 2 "lies_clear" 1:=by refine K6 ["lower", "upper"] ["lower", "upper"] zx Y ?_ ?_ rfl rfl ?_;walk_at "s1";unfold oQ;walk_at "db0"
variable(k46:Ck E lJ 2 "lies_clear" 1)
def wY(Y:FH E.K "is_whole" (top 1)):Ck E NL 1 "is_whole" 1:=by refine K6 ["thing"] ["thing"] zx Y ?_ ?_ rfl rfl ?_;walk_at "s1";unfold tP;walk_at "db0"
variable(k47:Ck E NL 1 "is_whole" 1)
include k47 in
def vX(Y:FH E.K "is_end" (top 9)):Ck E iJ 1 "is_end" 2:=by refine K6 ["thing"] ["thing"] zx Y ?_ ?_ rfl rfl ?_;walk_at "s1";unfold OP;walk_at "db0"
variable(k48:Ck E iJ 1 "is_end" 2)
include k23 k48 in
def Ay(Y:FH E.K "is_stretch" (top 10)):Ck E VG 1 "is_stretch" 3:=by refine K6 ["thing"] ["thing"] zx Y ?_ ?_ rfl rfl ?_;walk_at "s1";unfold uQ;walk_at "db0"
variable(k49:Ck E VG 1 "is_stretch" 3)
include k46 k49 in
def uY(Y:FH E.K "is_numbers" (top 13)):Ck E WI 1 "is_numbers" 4:=by refine K6 ["thing"] ["thing"] zx Y ?_ ?_ rfl rfl ?_;walk_at "s1";unfold dO;walk_at "db0"
variable(k50:Ck E WI 1 "is_numbers" 4)
def Rb(Y:FH E.K "is_tagged" (top 4)):Ck E KH 2 "is_tagged" 1:=by refine K6 ["thing", "word"] ["thing", "word"] zx Y ?_ ?_ rfl rfl ?_;walk_at "s1";unfold QO;walk_at "db0"
variable(k51:Ck E KH 2 "is_tagged" 1)
include k26 k40 k42 k51 in
def sX(Y:FH E.K "is_texts" (top 14)):Ck E qI 1 "is_texts" 2:=by refine K6 ["thing"] ["thing"] zx Y ?_ ?_ rfl rfl ?_;walk_at "s1";unfold KN;walk_at "db0"
variable(k52:Ck E qI 1 "is_texts" 2)
include k40 in
def Bf(Y:FH E.K "is_truths" (top 15)):Ck E LG 1 "is_truths" 2:=by refine K6 ["thing"] ["thing"] zx Y ?_ ?_ rfl rfl ?_;walk_at "s1";unfold VO;walk_at "db0"
variable(k53:Ck E LG 1 "is_truths" 2)
include k39 k45 k50 k52 k53 in
def wa(Y:FH E.K "has_set_form" (top 37)):Ck E Z8 1 "has_set_form" 5:=by refine K6 ["thing"] ["thing"] zx Y ?_ ?_ rfl rfl ?_;walk_at "s1";unfold CI;walk_at "db0"
variable(k54:Ck E Z8 1 "has_set_form" 5)
def Db(Y:FH E.K "inner_sets" (top 38)):Ck E vE 1 "inner_sets" 1:=by refine K6 ["thing", "inner"] ["thing"] zx Y ?_ ?_ rfl rfl ?_;walk_at "s1";unfold wF;unfold JR JL;walk_at "db0"
variable(k55:Ck E vE 1 "inner_sets" 1)
def dj(Y:FH E.K "outer_form" (top 39)):Ck E kE 1 "outer_form" 1:=by refine K6 ["some", "fronts", "fields"] ["some"] zx Y ?_ ?_ rfl rfl ?_;walk_at "s1";unfold ER;walk_at "db0"
variable(k56:Ck E kE 1 "outer_form" 1)
include k56 in
def vq(Y:FH E.K "same_set" (top 40)):Ck E HG 2 "same_set" 2:=by refine K6 ["one", "other", "waiting", "pair"] ["one", "other"] zx Y ?_ ?_ rfl rfl ?_;walk_at "s1";unfold vI;unfold Z1;walk_at "db0"
variable(k57:Ck E HG 2 "same_set" 2)
include k57 in
def Gq(Y:FH E.K "is_due" (top 41)):Ck E OE 2 "is_due" 3:=by refine K6 ["field", "more"] ["field", "more"] zx Y ?_ ?_ rfl rfl ?_;walk_at "s1";unfold mG;walk_at "db0"
variable(k58:Ck E OE 2 "is_due" 3)
include k58 in
def uk(Y:FH E.K "has_one_form" (top 42)):Ck E Z7 1 "has_one_form" 4:=by refine K6 ["some"] ["some"] zx Y ?_ ?_ rfl rfl ?_;walk_at "s1";unfold iI;walk_at "db0"
variable(k59:Ck E Z7 1 "has_one_form" 4)
include k54 k55 k59 in
def Td(Y:FH E.K "is_set" (top 43)):Ck E AE 1 "is_set" 6:=by refine K6 ["thing", "found", "waiting", "some"] ["thing"] zx Y ?_ ?_ rfl rfl ?_;walk_at "s1";unfold uG;unfold V4 V2 V3 Z1;walk_at "db0"
variable(k60:Ck E AE 1 "is_set" 6)
include k1 k2 k3 k6 in
def nY{R:List D->M D}{lv kk:Nat}(kR:Ck E R 2 "_law_value" lv)(h1:lv<=kk)(h2:5<=kk)(Y:FH E.K "_law_value" (top 73)):Ck E (m8 4 (eF R)) 2 "_law_value" (kk+1):=by refine K6 ["purse", "deep", "pick", "way"] ["purse", "deep"] zx Y ?_ ?_ rfl rfl ?_;walk_at "s1";unfold eF;walk_at "db0"
section
variable(Y:FH E.K "_law_value" (top 73))
include Y k1 k2 k3 k6
theorem LP:∀n,Ck E (QD n) 2 "_law_value" (5+n)
 |0=>dE ["purse", "deep"] zx Y (by walk_at "ba") rfl
 |n+1=>nY zx zb k1 k2 k3 k6 (LP n) (zp _) (jr _ _) Y
end
include k1 k2 k3 k6 in
def se(Y:FH E.K "_law_value" (top 73)):Ck E vH 2 "_law_value" 65:=LP zx zb k1 k2 k3 k6 Y 60
variable(k61:Ck E vH 2 "_law_value" 65)
def Ed(Y:FH E.K "_law_number_in" (top 74)):Ck E nI 2 "_law_number_in" 1:=by refine K6 ["stretches", "number", "low", "high", "step"] ["stretches", "number"] zx Y ?_ ?_ rfl rfl ?_;walk_at "s1";unfold KI;walk_at "db0"
variable(k62:Ck E nI 2 "_law_number_in" 1)
def rZ(Y:FH E.K "_law_word_in" (top 75)):Ck E OI 2 "_law_word_in" 1:=by refine K6 ["texts", "number", "word"] ["texts", "number"] zx Y ?_ ?_ rfl rfl ?_;walk_at "s1";unfold aJ;walk_at "db0"
variable(k63:Ck E OI 2 "_law_word_in" 1)
include k0 k1 in
def mU{R:List D->M D}{lv:Nat}(kR:Ck E R 2 "_law_value_in" lv)(h2:65<=lv)(Y:FH E.K "_law_list_in" (top 76)):Ck E (WD R) 2 "_law_list_in" (lv+1):=by refine K6 ["purse", "part", "values"] ["purse", "part"] zx Y ?_ ?_ rfl rfl ?_;walk_at "s1";unfold SF;walk_at "db0"
include k0 k1 in
def bU{R:List D->M D}{lv:Nat}(kR:Ck E R 2 "_law_value_in" lv)(h2:65<=lv)(Y:FH E.K "_law_record_in" (top 77)):Ck E (V5 R) 2 "_law_record_in" (lv+1):=by refine K6 ["purse", "part", "pairs", "name", "field"] ["purse", "part"] zx Y ?_ ?_ rfl rfl ?_;walk_at "s1";unfold oH;unfold RF RL;walk_at "db0"
include k0 k1 k61 k62 k63 in
def fj{R:List D->M D}{lv:Nat}(kR:Ck E R 2 "_law_value_in" lv)(h65:Ck E (WD R) 2 "_law_list_in" (lv+1))(h66:Ck E (V5 R) 2 "_law_record_in" (lv+1))(h2:65<=lv)(Y:FH E.K "_law_value_in" (top 78)):Ck E (m8 6 (R1 R)) 2 "_law_value_in" (lv+2):=by refine K6 ["purse", "some", "none", "ways", "pick", "way"] ["purse", "some"] zx Y ?_ ?_ rfl rfl ?_;walk_at "s1";unfold R1;walk_at "db0"
section
variable(Y:FH E.K "_law_value_in" (top 78))(Y65:FH E.K "_law_list_in" (top 76))(Y66:FH E.K "_law_record_in" (top 77))
include Y Y65 Y66 k0 k1 k61 k62 k63
theorem IT:∀n,Ck E (R7 n) 2 "_law_value_in" (65+2*n)
 |0=>dE ["purse", "some"] zx Y (by walk_at "ba") rfl
 |n+1=>by have kR:=IT n;have h65:=mU zx zb k0 k1 kR (jr _ _) Y65;have h66:=bU zx zb k0 k1 kR (jr _ _) Y66;exact fj zx zb k0 k1 k61 k62 k63 kR h65 h66 (jr _ _) Y
end
include k0 k1 k61 k62 k63 in
def Az(Y:FH E.K "_law_value_in" (top 78))(Y65:FH E.K "_law_list_in" (top 76))(Y66:FH E.K "_law_record_in" (top 77)):Ck E W9 2 "_law_value_in" 185:=IT zx zb k0 k1 k61 k62 k63 Y Y65 Y66 60
variable(k64:Ck E W9 2 "_law_value_in" 185)
include k0 k1 k64 in
def Cm(Y:FH E.K "_law_list_in" (top 76)):Ck E EN 2 "_law_list_in" 186:=mU zx zb k0 k1 k64 (by decide) Y
variable(k65:Ck E EN 2 "_law_list_in" 186)
include k0 k1 k64 in
def am(Y:FH E.K "_law_record_in" (top 77)):Ck E gK 2 "_law_record_in" 186:=bU zx zb k0 k1 k64 (by decide) Y
variable(k66:Ck E gK 2 "_law_record_in" 186)
def qc(Y:FH E.K "_law_inner" (top 69)):Ck E OC 2 "_law_inner" 1:=by refine K6 ["part", "name", "field"] ["part", "name"] zx Y ?_ ?_ rfl rfl ?_;walk_at "s1";unfold pM;unfold IB;walk_at "db0"
variable(k67:Ck E OC 2 "_law_inner" 1)
include k1 k64 k67 in
def Fb(Y:FH E.K "_law_amid" (top 80)):Ck E dJ 3 "_law_amid" 186:=by refine K6 ["purse", "one", "other", "names", "field", "pairs", "name", "pick", "value"] ["purse", "one", "other"] zx Y ?_ ?_ rfl rfl ?_;walk_at "s1";unfold UF;unfold A2 A1;walk_at "db0"
variable(k68:Ck E dJ 3 "_law_amid" 186)
def UO{R:List D->M D}{lv:Nat}(kR:Ck E R 2 "_law_in" lv)(h2:1<=lv)(Y:FH E.K "_law_in_lists" (top 70)):Ck E (X4 R) 2 "_law_in_lists" (lv+1):=by refine K6 ["values", "part", "sides"] ["values", "part"] zx Y ?_ ?_ rfl rfl ?_;walk_at "s1";unfold lG;walk_at "db0"
include k67 in
def HS{R:List D->M D}{lv:Nat}(kR:Ck E R 2 "_law_in" lv)(h2:1<=lv)(Y:FH E.K "_law_in_records" (top 71)):Ck E (T3 R) 2 "_law_in_records" (lv+1):=by refine K6 ["pairs", "part", "there"] ["pairs", "part"] zx Y ?_ ?_ rfl rfl ?_;walk_at "s1";unfold Z3;walk_at "db0"
def ka{R:List D->M D}{lv:Nat}(kR:Ck E R 2 "_law_in" lv)(h70:Ck E (X4 R) 2 "_law_in_lists" (lv+1))(h71:Ck E (T3 R) 2 "_law_in_records" (lv+1))(h2:1<=lv)(Y:FH E.K "_law_in" (top 72)):Ck E (m8 2 (BE R)) 2 "_law_in" (lv+2):=by refine K6 ["value", "some"] ["value", "some"] zx Y ?_ ?_ rfl rfl ?_;walk_at "s1";unfold BE;unfold NE;walk_at "db0"
section
variable(Y:FH E.K "_law_in" (top 72))(Y70:FH E.K "_law_in_lists" (top 70))(Y71:FH E.K "_law_in_records" (top 71))
include Y Y70 Y71 k67
theorem vN:∀n,Ck E (nE n) 2 "_law_in" (1+2*n)
 |0=>dE ["value", "some"] zx Y (by walk_at "ba") rfl
 |n+1=>by have kR:=vN n;have h70:=UO zx zb kR (jr _ _) Y70;have h71:=HS zx zb k67 kR (jr _ _) Y71;exact ka zx zb kR h70 h71 (jr _ _) Y
end
include k67 in
def bo(Y:FH E.K "_law_in" (top 72))(Y70:FH E.K "_law_in_lists" (top 70))(Y71:FH E.K "_law_in_records" (top 71)):Ck E nB 2 "_law_in" 121:=vN zx zb k67 Y Y70 Y71 60
variable(k69:Ck E nB 2 "_law_in" 121)
include k69 in
def sg(Y:FH E.K "_law_in_lists" (top 70)):Ck E QT 2 "_law_in_lists" 122:=UO zx zb k69 (by decide) Y
variable(k70:Ck E QT 2 "_law_in_lists" 122)
include k67 k69 in
def Lc(Y:FH E.K "_law_in_records" (top 71)):Ck E TQ 2 "_law_in_records" 122:=HS zx zb k67 k69 (by decide) Y
variable(k71:Ck E TQ 2 "_law_in_records" 122)
end
set_option maxHeartbeats 4000000 in
def all_mk{l:PySem.W.OpenLaw}{w:jq}{K:zn}{h:Heap}{mg:Str->Option zk}{fa:Addr}(X:K.In h)(G:h.Ns jF mg)(hfa:mg "law" =some (.ref fa))(Z0:FHs K top ["_law_none", "_law_next", "_law_few", "_law_word", "_law_rank", "_law_words", "_law_names", "_law_size", "_law_stretches", "_law_lists", "_law_every", "_law_records", "_law_set", "_law_more", "_law_of_records", "_law_mixed", "_law_purse", "lists_in_form", "records_in_form", "made", "nearer_low", "nearer_high", "ends_first", "is_empty", "meet_numbers"] [63,55,56,59,60,61,62,57,58,66,64,67,68,65,79,53,54,45,46,44,17,18,19,11,16])(Z25:FHs K top ["marked", "text_order", "rising_texts", "in_either", "in_both", "without", "meet_texts", "fields_by_name", "field_of", "fields_beside", "meet", "meet_lists", "meet_records", "is_couple", "has_lists_form", "rising", "names_of", "is_text", "is_name", "is_field", "has_records_form", "lies_clear", "is_whole", "is_end", "is_stretch"] [21,7,22,25,23,24,20,31,32,51,48,49,50,33,35,5,6,2,3,34,36,12,1,9,10])(Z50:FHs K top ["is_numbers", "is_tagged", "is_texts", "is_truths", "has_set_form", "inner_sets", "outer_form", "same_set", "is_due", "has_one_form", "is_set", "_law_value", "_law_number_in", "_law_word_in", "_law_value_in", "_law_list_in", "_law_record_in", "_law_inner", "_law_amid", "_law_in", "_law_in_lists", "_law_in_records", "law"] [13,4,14,15,37,38,39,40,41,42,43,73,74,75,78,76,77,69,80,72,70,71,81])
 (g_NOTHING:CC K mg "NOTHING" VS)
 (g_ALL_PARTS:CC K mg "ALL_PARTS" OU)
 (g_ANY:CC K mg "ANY" TN)
 (z:∀b∈bltL,Zw K jF b=some none) (pure:∀ns:List Int,ns.length<=63->∃G',GK [.ref 0] [.rol (ns.map D.int)]=some (.ok (.bl true),G')):
 ∃fd:xT,(∀(s:zD) (v:zk),YY s fd ⟨[v], []⟩ [("script",v)])/\∀base:Heap,K.In base->base.Ns jF mg->u3 l.prog w K mg base CX0 187 fa fd ["script"] (PH K):=by
 obtain⟨Y0,Y1,Y2,Y3,Y4,Y5,Y6,Y7,Y8,Y9,Y10,Y11,Y12,Y13,Y14,Y15,Y16,Y17,Y18,Y19,Y20,Y21,Y22,Y23,Y24,_⟩:=Z0;obtain⟨Y25,Y26,Y27,Y28,Y29,Y30,Y31,Y32,Y33,Y34,Y35,Y36,Y37,Y38,Y39,Y40,Y41,Y42,Y43,Y44,Y45,Y46,Y47,Y48,Y49,_⟩:=Z25;obtain⟨Y50,Y51,Y52,Y53,Y54,Y55,Y56,Y57,Y58,Y59,Y60,Y61,Y62,Y63,Y64,Y65,Y66,Y67,Y68,Y69,Y70,Y71,Y72,_⟩:=Z50;have zb:BC K mg:=⟨BLs.of X G z,g_NOTHING.ok X G,g_ALL_PARTS.ok X G,g_ANY.ok X G⟩;refine ao (N:= ["script", "one", "other", "purse", "found", "values", "some", "value"]) X G hfa Y72 (by walk_at "ba") (by walk_at "sc") rfl (λ_ _ _ _ _ _ s v=>.of_eq rfl) (λbase=>?_) pure;have zx:EvX ⟨l.prog,w,K,mg,base⟩:=⟨h,X,G⟩;have k0:=Tz zx zb Y0;have k1:=aY zx zb Y1;have k2:=RZ zx zb k1 Y2;have k3:=pd zx zb k1 Y3;have k4:=Fj zx zb Y4;have k5:=bV zx zb k2 k3 k4 Y5;have k6:=oZ zx zb k5 Y6;have k7:=kn zx zb k1 Y7;have k8:=Tc zx zb k1 k2 k7 Y8;have k9:=Am zx zb k1 Y9;have k10:=dX zx zb Y10;have k11:=FW zx zb k0 k1 k5 k6 k8 k9 k10 Y11 Y12 Y13;have k12:=GV zx zb k0 k1 k5 k8 k9 k10 k11 Y12;have k13:=vh zx zb k0 k11 k12 Y13;have k14:=eV zx zb k0 k11 Y14;have k15:=Dg zx zb Y15;have k16:=uw zx zb k15 Y16;have k17:=Mj zx zb Y17;have k18:=aV zx zb Y18;have k19:=Ad zx zb k17 k18 Y19;have k20:=wf zx zb Y20;have k21:=IW zx zb Y21;have k22:=Qk zx zb Y22;have k23:=Tp zx zb Y23;have k24:=Kb zx zb k20 k21 k22 k23 Y24;have k25:=cW zx zb Y25;have k26:=sf zx zb Y26;have k27:=Bu zx zb k25 k26 Y27;have k28:=SW zx zb k27 Y28;have k29:=nV zx zb k25 Y29;have k30:=tm zx zb k25 Y30;have k31:=Ds zx zb k28 k29 k30 Y31;have k32:=Dx zx zb Y32;have k33:=Gm zx zb Y33;have k34:=Au zx zb k32 k33 Y34;have k35:=lm zx zb k19 k24 k31 k34 Y35 Y36 Y37;have k36:=Mp zx zb k35 Y36;have k37:=QY zx zb k34 k35 Y37;have k38:=Pq zx zb Y38;have k39:=wg zx zb k38 Y39;have k40:=bq zx zb Y40;have k41:=Fk zx zb Y41;have k42:=Gb zx zb Y42;have k43:=Ah zx zb k42 Y43;have k44:=Gz zx zb k43 Y44;have k45:=Dm zx zb k38 k40 k41 k44 Y45;have k46:=ky zx zb Y46;have k47:=wY zx zb Y47;have k48:=vX zx zb k47 Y48;have k49:=Ay zx zb k23 k48 Y49;have k50:=uY zx zb k46 k49 Y50;have k51:=Rb zx zb Y51;have k52:=sX zx zb k26 k40 k42 k51 Y52;have k53:=Bf zx zb k40 Y53;have k54:=wa zx zb k39 k45 k50 k52 k53 Y54;have k55:=Db zx zb Y55;have k56:=dj zx zb Y56;have k57:=vq zx zb k56 Y57;have k58:=Gq zx zb k57 Y58;have k59:=uk zx zb k58 Y59;have k60:=Td zx zb k54 k55 k59 Y60;have k61:=se zx zb k1 k2 k3 k6 Y61;have k62:=Ed zx zb Y62;have k63:=rZ zx zb Y63;have k64:=Az zx zb k0 k1 k61 k62 k63 Y64 Y65 Y66;have k65:=Cm zx zb k0 k1 k64 Y65;have k66:=am zx zb k0 k1 k64 Y66;have k67:=qc zx zb Y67;have k68:=Fb zx zb k1 k64 k67 Y68;have k69:=bo zx zb k67 Y69 Y70 Y71;have k70:=sg zx zb k69 Y70;have k71:=Lc zx zb k67 k69 Y71;intro _ _ _ _ _ _ _ _;obtain⟨_,_,_,_⟩:=zb;unfold uH;unfold LB LE3 FB LE1 LE2;walk_at "db0"
mutual
def szD:D->Nat
 | .tup l=>1+szL l
 | .str _=>1
 | .ref _=>1
 | .fn _=>1
 | .ty _=>1
 | .non=>1
 | .bl _=>1
 | .int _=>1
def szL:List D->Nat
 |[]=>0
 |d::r=>szD d+szL r
end
def QL:∀d:D,1<=szD d:=λd=>by cases d<;>unfold szD<;>lia
theorem DK:∀l:List D,l.length<=szL l
 |[]=>by simp[szL]
 |d::r=>by have:=DK r;have:=QL d;unfold szL;simp only[zM];lia
theorem LD:∀a b:List D,szL (a++b)=szL a+szL b
 |[],b=>by simp[szL]
 |d::r,b=>by have:=LD r b;simp only[List.cons_append,szL];lia
abbrev HQ:Str:= "list"
abbrev tK:Str:= "record"
def Ap(G G':DH):Prop:=∃t,G'=G++t
def Ap.refl:Ap G G:=⟨[],by simp⟩
def Ap.trans(h:Ap G G1)(k:Ap G1 G2):Ap G G2:=by obtain⟨t,rfl⟩:=h;obtain⟨u,rfl⟩:=k;exact⟨t++u,by simp⟩
def Ap.one:Ap G (G++[o]):=⟨_,rfl⟩
def Ap.at{p:Nat}(h:Ap G G')(e:G[p]? =some o):G'[p]? =some o:=by obtain⟨t,rfl⟩:=h;exact P0 e
def Ap.gr(h:Ap G G'):Gr G G':=by obtain⟨t,rfl⟩:=h;exact Gr.app
theorem gJ(J:DH->Prop)(S:DSt->Prop)(f:D->D)(Gn:∀G,J G->ck G=true):∀items σ G,S σ->J G->
 (∀d∈items,∀ σ G,S σ->J G->Wp (g d σ) G λWZ G1=>G1=G/\S WZ/\Wp (t WZ) G λb G2=>b=true/\G2=G/\Wp (e WZ) G λy G3=>J G3/\y=f d)->
 Wp (K7 g t e ck items σ) G λys G'=>J G'/\ys=items.map f
 |[],σ,G,s,j,_=>by rw[rA];exact⟨Gn G j,j,rfl⟩
 |d::r,σ,G,s,j,step=>by rw[KB];refine⟨Gn G j,Wp.mono (step d (by simp) σ G s j) λWZ G1 ⟨e1,s1,w1⟩=>?_⟩;subst e1;refine Wp.mono w1 λb G2 ⟨eb,e2,w2⟩=>?_;subst eb e2;rw[if_pos rfl];refine Wp.mono w2 λy G3 ⟨j3,py⟩=>?_;refine Wp.mono (gJ J S f Gn r WZ G3 s1 j3 λd hd=>step d (by simp[hd])) λys G4 ⟨j4,l4⟩=>⟨j4,by simp[l4,py]⟩
def kL(e:G[p]? =some (.lst xs))(eq:G[q]? =some (.lst [])):Wp (eqD (.ref p) (.ref q)) G Q↔Q (.bl xs.isEmpty) G:=by
 have h:eqN 40 G (.ref p) (.ref q)=some xs.isEmpty:=by
  have h1:T1 G (.ref p)=some (false,xs):=by simp only[T1,e]
  have h2:T1 G (.ref q)=some (false, []):=by simp only[T1,eq]
  rw[NA,h1,h2]
  cases xs<;>rfl
 rw[dC,h];exact O9
def Gj{lo hi:Option Int}(e:G[p]? =some (.lst l)):Wp (slD (.ref p) lo hi) G Q↔Q (.ref G.length) (G++[.lst (DL.cutD l lo hi)]):=by
 have h:slD (.ref p) lo hi= (do
  let l <-N5 p >>= DL.listOf
  M5 (.lst (DL.cutD l lo hi))):=rfl
 rw[h];simp only[j7,N6,e,O9,DL.listOf,wp_pure,R8]
def big:1000000<zq:=by decide
def kD:Wp (T7 (n+1) t b σ) G P↔Wp (t σ) G λk G1=>if k=true then Wp (b σ) G1 λfl G2=>match fl with
 | .nx X1=>Wp (T7 n t b X1) G2 P
 | .ct X1=>Wp (T7 n t b X1) G2 P
 | .bk X1=>P (.nx X1) G2
 | .rt d=>P (.rt d) G2
 else P (.nx σ) G1:=by
 rw[T7];simp only[j7,pA,wp_pure];constructor
 · rintro⟨k,G1,e,q⟩;refine⟨k,G1,e,?_⟩;rcases k with _|_
   ·exact q
   ·
     simp only[if_true]at q ⊢;obtain⟨fl,G2,e2,q⟩:=q;refine⟨fl,G2,e2,?_⟩
     cases fl<;>first
      |exact q
      |exact wp_pure.mp q
 · rintro⟨k,G1,e,q⟩;refine⟨k,G1,e,?_⟩;rcases k with _|_
   ·exact q
   ·
     simp only[if_true]at q ⊢;obtain⟨fl,G2,e2,q⟩:=q;refine⟨fl,G2,e2,?_⟩
     cases fl<;>first
      |exact q
      |exact wp_pure.mpr q
def SG(h:Wp (T7 n t b σ) G P):Wp (P9 t b σ) G P:=by obtain⟨a,G',e,q⟩:=h;refine⟨a,G',?_,q⟩;have hx:∃n,(T7 n t b σ G).isSome=true:=⟨n,by rw[e];rfl⟩;unfold P9;rw[dif_pos hx];have hs:=Classical.choose_spec hx;obtain⟨r,hr⟩:=Jy.mp hs;rw[hr];have e1:=PN (Nat.le_max_left n (Xm hx)) e;have e2:=PN (Nat.le_max_right n (Xm hx)) hr;rw[e1]at e2;exact e2.symm
def HJ(h:G[r]? =some (.lst (l++[y]))):Wp (NF (.ref r) []) G Q↔Q y (G.set r (.lst l)):=by
 have e:NF (.ref r) []= (do
  let l <-lstM r
  match l.getLast? with
  |some y=>do
    let _ <-F7 r (.lst l.dropLast)
    pure y
  |none=>M.stuck):=rfl
 rw[e];unfold lstM;simp only[j7,N6,h,O9,wp_pure,List.getLast?_append,List.getLast?_singleton,Option.some_or,List.dropLast_concat,IF]
def fN(h:G[r]? =some (.lst l))(hq:G[q]? =some (.lst k))(hl:l.length+k.length<=zq):Wp (wC (.ref r) [.ref q]) G Q↔Q .non (G.set r (.lst (l++k))):=by
 have e:wC (.ref r) [.ref q]= (do
  let l <-lstM r
  let k <-lstM q
  if l.length+k.length<=zq then do
   let _ <-F7 r (.lst (l++k))
   pure .non
  else M.stuck):=rfl
 rw[e];unfold lstM;simp only[j7,N6,h,hq,O9,wp_pure,if_pos hl,IF]
def Gr.set(h:Gr G0 G)(hp:G0.length<=p):Gr G0 (G.set p o):=⟨by rw[Zy];exact h.1,λi hi=>by rw[zX (by lia)];exact h.2 i hi⟩
def fK(e:G[p]? =some (.lst xs)):Wp (F5 (.ref p)) G B↔B (!xs.isEmpty) G:=by unfold F5;simp only[j7,N6,e,O9,wp_pure]
def lt_of_get{G:DH}(e:G[p]? =some o):p<G.length:=by
 by_cases hi:p<G.length
 ·exact hi
 ·rw[zT (by lia)]at e;exact J4 e
section
variable{bd n:Nat}
end
section
variable{G:DH}{Q:DPP}
def vT{a c:Bool}:Wp (neD (.bl a) (.bl c)) G Q↔Q (.bl (!(a==c))) G:=by
 have e:eqN 40 G (.bl a) (.bl c)=some (a==c):=by rfl
 rw[r8,e];exact O9
def qk{k:Bool}:Wp (eB [.bl k]) G Q↔Q (.int (if k then 1 else 0)) G:=wp_pure
def ve{i:Int}:Wp (UC [.int i]) G Q↔Q (.int (if i<0 then -i else i)) G:=wp_pure
end
section
variable{α β:Type}{R S:α->β->Prop}
end
abbrev Rg:=Option Int×Option Int
def inR(p:Rg)(x:Int):Prop:=(∀a,p.1=some a->a<=x)/\∀b,p.2=some b->x<=b
def inS(l:List Rg)(x:Int):Prop:=∃p∈l,inR p x
def okR(p:Rg):Prop:=∀a b,p.1=some a->p.2=some b->a<=b
def aI(p q:Rg):Prop:=∃a b,p.2=some a/\q.1=some b/\a+1<b
def Can(l:List Rg):Prop:=(∀p∈l,okR p)/\l.Pairwise aI
def N7:inS (p::l) x↔inR p x\/inS l x:=by
 unfold inS;constructor
 · rintro⟨q,hq,h⟩;rcases zy.mp hq with rfl|hq
   ·exact .inl h
   ·exact .inr ⟨q,hq,h⟩
 · rintro(h|⟨q,hq,h⟩)
   ·exact⟨p,zH ..,h⟩
   ·exact⟨q,zA _ hq,h⟩
def qB:¬inS [] x:=fun⟨_,h,_⟩=>nomatch h
def Can.tail(h:Can (p::l)):Can l:=⟨λq hq=>h.1 q (zA _ hq),(jf.mp h.2).2⟩
def Can.head(h:Can (p::l)):okR p:=h.1 p (zH ..)
def Can.beyond(h:Can (p::l))(hx:inS l x):∃a,p.2=some a/\a+1<x:=by obtain⟨q,hq,h1,h2⟩:=hx;obtain⟨a,b,e1,e2,k⟩:=(jf.mp h.2).1 q hq;exact⟨a,e1,by have:=h1 b e2;lia⟩
def Can.low(h:Can (p::l))(e:p.1=some a)(hx:inS (p::l) x):a<=x:=by
 rcases N7.mp hx with k|k
 ·exact k.1 a e
 ·obtain⟨b,e2,k⟩:=h.beyond k;have:=h.head a b e e2;lia
def Can.deep(e:p.1=none)(a:Int):∃x,x<a/\inS (p::l) x:=by
 rcases e2:p.2 with _|b
 ·exact⟨a-1,by lia,N7.mpr (.inl ⟨λc hc=>(by rw[e]at hc;cases hc),λc hc=>(by rw[e2]at hc;cases hc)⟩)⟩
 ·exact⟨min (a-1) b,by lia,N7.mpr (.inl ⟨λc hc=>(by rw[e]at hc;cases hc),λc hc=>(by rw[e2]at hc;cases hc;lia)⟩)⟩
def okR.some(h:okR p):∃x,inR p x:=by
 obtain⟨a,b⟩:=p;rcases a with _|a<;>rcases b with _|b
 ·exact⟨0,λc hc=>(nomatch hc),λc hc=>(nomatch hc)⟩
 ·exact⟨b,λc hc=>(nomatch hc),λc hc=>by cases hc;exact Zx _⟩
 ·exact⟨a,λc hc=>(by cases hc;exact Zx _),λc hc=>nomatch hc⟩
 ·exact⟨a,λc hc=>(by cases hc;exact Zx _),λc hc=>by cases hc;exact h a b rfl rfl⟩
def uO(hp:Can (p::l))(hq:Can (q::m))(h:∀x,inS (p::l) x↔inS (q::m) x):p.1=q.1:=by
 have one:∀ {p q:Rg} {l m:List Rg} {a:Int},Can (p::l)->Can (q::m)->(∀x,inS (p::l) x↔inS (q::m) x)->p.1=some a->∃b,q.1=some b/\b<=a:=by
  intro p q l m a hp hq h e;have ha:inS (p::l) a:=N7.mpr (.inl ⟨λc hc=>(by rw[e]at hc;cases hc;exact Zx _),λb hb=>hp.head a b e hb⟩);rcases e2:q.1 with _|b
  ·obtain⟨x,hx,k⟩:=Can.deep e2 a;have:=hp.low e ((h x).mpr k);lia
  ·exact⟨b,rfl,hq.low e2 ((h a).mp ha)⟩
 rcases e1:p.1 with _|a
 · rcases e2:q.1 with _|b
   ·rfl
   ·obtain⟨a,e3,_⟩:=one hq hp (λx=>(h x).symm) e2;rw[e1]at e3;cases e3
 ·obtain⟨b,e2,k1⟩:=one hp hq h e1;obtain⟨a',e3,k2⟩:=one hq hp (λx=>(h x).symm) e2;rw[e1]at e3;cases e3;rw[e2,Int.le_antisymm k1 k2]
def Rh(hp:Can (p::l))(hq:Can (q::m))(h:∀x,inS (p::l) x↔inS (q::m) x):p.2=q.2:=by
 have lo:=uO hp hq h;have one:∀ {p q:Rg} {l m:List Rg} {a:Int},Can (p::l)->Can (q::m)->(∀x,inS (p::l) x↔inS (q::m) x)->p.1=q.1->p.2=some a->∃b,q.2=some b/\b<=a:=by
  intro p q l m a hp hq h lo e;have hn:¬inS (q::m) (a+1):=λk=>by
   rcases N7.mp ((h (a+1)).mpr k)with k|k
   ·have:=k.2 a e;lia
   ·obtain⟨b,e2,k⟩:=hp.beyond k;rw[e]at e2;cases e2;lia
  have hlo:∀c,q.1=some c->c<=a:=λc hc=>hp.head c a (lo.trans hc) e;rcases e2:q.2 with _|b
  ·exact absurd (N7.mpr (.inl ⟨λc hc=>(by have:=hlo c hc;lia),λc hc=>by rw[e2]at hc;cases hc⟩)) hn
  · refine⟨b,rfl,?_⟩;rcases Int.lt_or_le a b with k|k
    ·exact absurd (N7.mpr (.inl ⟨λc hc=>(by have:=hlo c hc;lia),λc hc=>by rw[e2]at hc;cases hc;lia⟩)) hn
    ·exact k
 rcases e1:p.2 with _|a
 · rcases e2:q.2 with _|b
   ·rfl
   ·obtain⟨a,e3,_⟩:=one hq hp (λx=>(h x).symm) lo.symm e2;rw[e1]at e3;cases e3
 ·obtain⟨b,e2,k1⟩:=one hp hq h lo e1;obtain⟨a',e3,k2⟩:=one hq hp (λx=>(h x).symm) lo.symm e2;rw[e1]at e3;cases e3;rw[e2,Int.le_antisymm k1 k2]
theorem PL:∀ {l m},Can l->Can m->(∀x,inS l x↔inS m x)->l=m
 |[], [],_,_,_=>rfl
 |[],q::m,_,hm,h=>by obtain⟨x,hx⟩:=hm.head.some;exact absurd ((h x).mpr (N7.mpr (.inl hx))) qB
 |p::l, [],hl,_,h=>by obtain⟨x,hx⟩:=hl.head.some;exact absurd ((h x).mp (N7.mpr (.inl hx))) qB
 |p::l,q::m,hl,hm,h=>by
   have e:p=q:=XF (uO hl hm h) (Rh hl hm h);subst e;rw[PL hl.tail hm.tail λx=>?_];have out:∀ {l:List Rg},Can (p::l)->inS l x->¬inR p x:=λhl k r=>by obtain⟨a,e,k⟩:=hl.beyond k;have:=r.2 a e;lia
   constructor
   · intro k;rcases N7.mp ((h x).mp (N7.mpr (.inr k)))with r|r
     ·exact absurd r (out hl k)
     ·exact r
   · intro k;rcases N7.mp ((h x).mpr (N7.mpr (.inr k)))with r|r
     ·exact absurd r (out hm k)
     ·exact r
def loR:Option Int->Option Int->Option Int
 |none,b=>b
 |some a,none=>some a
 |some a,some b=>some (max a b)
def hiR:Option Int->Option Int->Option Int
 |none,b=>b
 |some a,none=>some a
 |some a,some b=>some (min a b)
def efR(p q:Rg):Prop:=∃a,p.2=some a/\∀b,q.2=some b->a<b
def cR:(∀c,loR a b=some c->c<=x)↔(∀c,a=some c->c<=x)/\∀c,b=some c->c<=x:=by
 rcases a with _|a
 ·exact⟨λh=>⟨λ_ e=>J4 e,h⟩,λh=>h.2⟩
 · rcases b with _|b
   ·exact⟨λh=>⟨h,λ_ e=>J4 e⟩,λh=>h.1⟩
   ·exact⟨λh=>(have:=h _ rfl;⟨λ_ e=>jc e▸Yz (Int.le_max_left ..) this,λ_ e=>jc e▸Yz (Int.le_max_right ..) this⟩),λh _ e=>jc e▸Int.max_le.mpr ⟨h.1 _ rfl,h.2 _ rfl⟩⟩
def GO:(∀c,hiR a b=some c->x<=c)↔(∀c,a=some c->x<=c)/\∀c,b=some c->x<=c:=by
 rcases a with _|a
 ·exact⟨λh=>⟨λ_ e=>J4 e,h⟩,λh=>h.2⟩
 · rcases b with _|b
   ·exact⟨λh=>⟨h,λ_ e=>J4 e⟩,λh=>h.1⟩
   ·exact⟨λh=>(have:=h _ rfl;⟨λ_ e=>jc e▸Yz this (Int.min_le_left ..),λ_ e=>jc e▸Yz this (Int.min_le_right ..)⟩),λh _ e=>jc e▸Int.le_min.mpr ⟨h.1 _ rfl,h.2 _ rfl⟩⟩
def RQ:inR (loR p.1 q.1,hiR p.2 q.2) x↔inR p x/\inR q x:=
 ⟨λh=>(have a:=cR.mp h.1;have b:=GO.mp h.2;⟨⟨a.1,b.1⟩,a.2,b.2⟩),λh=>⟨cR.mpr ⟨h.1.1,h.2.1⟩,GO.mpr ⟨h.1.2,h.2.2⟩⟩⟩
structure Mv(one other Ek l m:List Rg):Prop where
 can:Can Ek
 cl:Can l
 cm:Can m
 same:∀x,(inS one x/\inS other x)↔inS Ek x\/(inS l x/\inS m x)
 room:∀r∈Ek,∀p∈l,∀q∈m,aI r (loR p.1 q.1,none)
 small:Ek.length+l.length+m.length<=one.length+other.length
def Mv.start(h1:Can one)(h2:Can other):Mv one other [] one other:=
 ⟨⟨λ_ h=>(nomatch h),.nil⟩,h1,h2,λx=>⟨.inr,λh=>h.elim (λk=>absurd k qB) id⟩,λ_ h=>(nomatch h),by simp⟩
def Mv.done(h:Mv one other Ek l m)(e:l= []\/m= [])(x:Int):inS Ek x↔inS one x/\inS other x:=by
 rw[h.same x];rcases e with rfl|rfl
 ·exact⟨.inl,λk=>k.elim id λk=>absurd k.1 qB⟩
 ·exact⟨.inl,λk=>k.elim id λk=>absurd k.2 qB⟩
def wb:inS (l++m) x↔inS l x\/inS m x:=by
 unfold inS;constructor
 ·rintro⟨p,hp,h⟩;exact(jd.mp hp).elim (λk=>.inl ⟨p,k,h⟩) λk=>.inr ⟨p,k,h⟩
 · rintro(⟨p,hp,h⟩|⟨p,hp,h⟩)
   ·exact⟨p,yY _ hp,h⟩
   ·exact⟨p,zP _ hp,h⟩
def Can.snoc(h:Can l)(ok:okR r)(c:∀p∈l,aI p r):Can (l++[r]):=
 ⟨λp hp=>(jd.mp hp).elim (h.1 p) λk=>by rw[zB.mp k];exact ok,
  YO.mpr ⟨h.2,yF ..,λp hp q hq=>by rw[zB.mp hq];exact c p hp⟩⟩
def Ww(h:inR r x):okR r:=λa b e1 e2=>Yz (h.1 a e1) (h.2 b e2)
def vf(e:a=some c):∃d,loR a b=some d/\c<=d:=by
 subst e;rcases b with _|b
 ·exact⟨c,rfl,Zx _⟩
 ·exact⟨max c b,rfl,by lia⟩
def fu(e:b=some c):∃d,loR a b=some d/\c<=d:=by
 subst e;rcases a with _|b
 ·exact⟨c,rfl,Zx _⟩
 ·exact⟨max b c,rfl,by lia⟩
def mR{p q:Rg}(e:p.2=some a)(h:∀b,q.2=some b->a<=b):hiR p.2 q.2=some a:=by
 rw[e];rcases k:q.2 with _|b
 ·rfl
 ·have:=h b k;show some (min a b)=some a;congr 1;lia
def Fv:hiR a b=hiR b a:=by rcases a with _|a<;>rcases b with _|b<;>simp[hiR,Int.min_comm]
def UN(cm:Can (q::m))(e:p.2=some a)(h:∀b,q.2=some b->a<=b):
 (inS (p::l) x/\inS (q::m) x)↔(inR p x/\inR q x)\/(inS l x/\inS (q::m) x):=by
 rw[N7];constructor
 · rintro⟨k1|k1,k2⟩
   · rcases N7.mp k2 with k|k
     ·exact .inl ⟨k1,k⟩
     ·obtain⟨b,e2,k⟩:=cm.beyond k;have:=h b e2;have:=k1.2 a e;lia
   ·exact .inr ⟨k1,k2⟩
 · rintro(⟨k1,k2⟩|⟨k1,k2⟩)
   ·exact⟨.inl k1,N7.mpr (.inl k2)⟩
   ·exact⟨.inr k1,k2⟩
def Mv.put(h:Mv one other Ek (p::l) (q::m))
 (ha:Ej=Ek/\¬okR (loR p.1 q.1,hiR p.2 q.2)\/Ej=Ek++[(loR p.1 q.1,hiR p.2 q.2)]/\okR (loR p.1 q.1,hiR p.2 q.2)):
 Can Ej/\(∀x,inS Ej x↔inS Ek x\/(inR p x/\inR q x))/\(∀r∈Ej,r∈Ek\/r= (loR p.1 q.1,hiR p.2 q.2))/\Ej.length<=Ek.length+1:=by
 rcases ha with⟨rfl,k⟩|⟨rfl,k⟩
 ·exact⟨h.can,λx=>⟨.inl,λz=>z.elim id λz=>absurd (Ww (RQ.mpr z)) k⟩,λr hr=>.inl hr,by lia⟩
 · refine⟨h.can.snoc k λr hr=>?_,λx=>?_,λr hr=>(jd.mp hr).imp id zB.mp,by simp⟩
   ·obtain⟨a,b,e1,e2,k⟩:=h.room r hr p (zH ..) q (zH ..);exact⟨a,b,e1,e2,k⟩
   ·rw[wb,N7,RQ];exact or_congr Iff.rfl ⟨λz=>z.elim id λz=>absurd z qB,.inl⟩
def Mv.left(h:Mv one other Ek (p::l) (q::m))(e:efR p q)
 (ha:Ej=Ek/\¬okR (loR p.1 q.1,hiR p.2 q.2)\/Ej=Ek++[(loR p.1 q.1,hiR p.2 q.2)]/\okR (loR p.1 q.1,hiR p.2 q.2)):Mv one other Ej l (q::m):=by
 obtain⟨c,s,i,n⟩:=h.put ha;obtain⟨a,e,he⟩:=e;have he:=λb k=>Int.le_of_lt (he b k);refine⟨c,h.cl.tail,h.cm,λx=>?_,λr hr p' hp q' hq=>?_,?_⟩
 ·rw[h.same x,UN h.cm e he,s x,or_assoc]
 · rcases i r hr with k|rfl
   ·exact h.room r k p' (zA _ hp) q' hq
   ·obtain⟨a',b,e1,e2,k⟩:=(jf.mp h.cl.2).1 p' hp;rw[e]at e1;cases e1;obtain⟨d,e3,k2⟩:=vf e2;exact⟨a,d,mR e he,e3,by lia⟩
 ·have:=h.small;simp only[zM]at this ⊢;lia
def Mv.right(h:Mv one other Ek (p::l) (q::m))(e:¬efR p q)
 (ha:Ej=Ek/\¬okR (loR p.1 q.1,hiR p.2 q.2)\/Ej=Ek++[(loR p.1 q.1,hiR p.2 q.2)]/\okR (loR p.1 q.1,hiR p.2 q.2)):Mv one other Ej (p::l) m:=by
 obtain⟨c,s,i,n⟩:=h.put ha;have small:Ej.length+(p::l).length+m.length<=one.length+other.length:=by have:=h.small;simp only[zM]at this ⊢;lia
 rcases e2:q.2 with _|b
 · have hm:m= []:=by
    rcases m with _|⟨q',m⟩
    ·rfl
    ·obtain⟨a,b,e1,_⟩:=(jf.mp h.cm.2).1 q' (zH ..);rw[e2]at e1;cases e1
   subst hm;rcases e1:p.2 with _|a
   · have hl:l= []:=by
      rcases l with _|⟨p',l⟩
      ·rfl
      ·obtain⟨a,b,e3,_⟩:=(jf.mp h.cl.2).1 p' (zH ..);rw[e1]at e3;cases e3
     subst hl;refine⟨c,h.cl,h.cm.tail,λx=>?_,λ_ _ _ _ _ h=>(nomatch h),small⟩;rw[h.same x,s x,N7,N7];have n0:¬inS [] x:=qB;exact⟨λz=>.inl (z.imp id fun⟨z1,z2⟩=>⟨z1.elim id λz=>absurd z n0,z2.elim id λz=>absurd z n0⟩),λz=>z.elim (λz=>z.imp id fun⟨z1,z2⟩=>⟨.inl z1,.inl z2⟩) λz=>absurd z.2 n0⟩
   ·exact absurd ⟨a,e1,λb hb=>by rw[e2]at hb;cases hb⟩ e
 · have he:∀a,p.2=some a->b<=a:=λa ha=>by
    rcases Int.lt_or_le a b with k|k
    ·exact absurd ⟨a,ha,λb' hb=>by rw[e2]at hb;cases hb;exact k⟩ e
    ·exact k
   refine⟨c,h.cl,h.cm.tail,λx=>?_,λr hr p' hp q' hq=>?_,small⟩
   ·rw[h.same x,and_comm,UN h.cl e2 he,s x,or_assoc,and_comm,and_comm (a:=inS m x)]
   · rcases i r hr with k|rfl
     ·exact h.room r k p' hp q' (zA _ hq)
     ·obtain⟨a',b',e3,e4,k⟩:=(jf.mp h.cm.2).1 q' hq;rw[e2]at e3;cases e3;obtain⟨d,e5,k2⟩:=fu e4;exact⟨b,d,by show hiR p.2 q.2=_;rw[Fv];exact mR e2 he,e5,by lia⟩
def Gr.ap(h:Gr G G'):Ap G G':=by
 refine⟨G'.drop G.length,?_⟩;refine Zg λi=>?_;rcases Zm i G.length with c|c
 ·rw[zQ c];exact h.2 i c
 ·rw[yP c,List.getElem?_drop];congr 1;lia
def pI:Wp (gtD (.int i) (.int j)) G Q↔Q (.bl (decide (i>j))) G:=wp_pure
def rn(e:G[p]? =some (.lst xs))(eq:G[q]? =some (.lst [])):Wp (neD (.ref p) (.ref q)) G Q↔Q (.bl (!xs.isEmpty)) G:=by
 have h:eqN 40 G (.ref p) (.ref q)=some xs.isEmpty:=by
  have h1:T1 G (.ref p)=some (false,xs):=by simp only[T1,e]
  have h2:T1 G (.ref q)=some (false, []):=by simp only[T1,eq]
  rw[NA];rw[h1,h2];rcases xs with _|⟨_,_⟩
  ·rfl
  ·rfl
 exact AA (show neD (.ref p) (.ref q) G=_ from by unfold neD;rw[h])
def ixv(ha:a σ G=some (.ok (.ref r),G))(hb:b σ G=some (.ok (.int j),G))(e:G[r]? =some (.lst l))(hd:atI l j=some d)(q:Q d G):Wp (j5 ixD a b σ) G Q:=v8 ha hb ((u7 e).mpr ⟨d,hd,q⟩)
def SJ(ha:a σ G=some (.ok (.ref r),G))(hb:b σ G=some (.ok (.int k),G))(e:G[r]? =some (.lst l))(hj:ixN l.length k=some j)(q:S σ (G.set r (.lst (l.set j d)))):Wp (A3 a b d σ) G S:=BG.mpr (b8 ha (b8 hb ((rS e hj).mpr q)))
def rV{lo hi:Option Int}(e:G[p]? =some (.lst l)):Wp (slT (.ref p) lo hi) G Q↔Q (.ref G.length) (G++[.lst (DL.cutD l lo hi)]):=Gj e
def mJ(e:a σ G=some (.ok (.bl true),G1))(w:Wp (b σ) G1 Q):Wp (T4 a b σ) G Q:=uC.mpr (b8 e (Q4.mpr (by rw[if_pos rfl];exact w)))
def IG(w:Wp (a σ) G λx G1=>x= .bl true/\Wp (b σ) G1 Q):Wp (T4 a b σ) G Q:=uC.mpr (w.mono λx G1 q=>by obtain⟨rfl,q⟩:=q;exact Q4.mpr (by rw[if_pos rfl];exact q))
def aE(w:Wp (t σ) G λk G1=>k=true/\Wp (g σ) G1 P):Wp (ifS (C3 t) f g σ) G P:=X3 (iH.mpr (w.mono λk G1 q=>by obtain⟨rfl,q⟩:=q;exact⟨λz=>(by exact SA z),λ_=>q⟩))
def C9(w:Wp (a σ) G λx G1=>x= .bl true/\B true G1):Wp (J2 a σ) G B:=h9.mpr (w.mono λx G1 q=>by obtain⟨rfl,q⟩:=q;exact Q4.mpr q)
def fH(w:Wp (t σ) G λk G1=>k=true/\Wp (u σ) G1 B):Wp (Q1 t u σ) G B:=F8 (w.mono λk G1 q=>⟨λ_=>q.2,λz=>by rw[q.1]at z;cases z⟩)
def rD(p:Rg):D:=.tup [K2 p.1,K2 p.2]
def rsD(l:List Rg):List D:=l.map rD
def cT:Option Int->Option Int->Bool
 |some x,some y=>decide (x>y)
 |_,_=>false
def Kh(h:Q (.bl (cT a b)) G):Wp (HE [K2 a,K2 b]) G Q:=O2 (by
 rcases a with _|a
 ·rfl
 ·rcases b with _|b<;>rfl) h
def NO(ns:List Int)(e:fe σ G=some (.ok (.ref G.length),G++[.lst (ns.map D.int)]))(q:∀G',Ap G G'->Q (K2 (f ns)) G'):Wp (mmE f fe σ) G Q:=by have h0:mmE f fe σ= (fe σ >>= λd=>ME d >>= λns=>pure (K2 (f ns))):=rfl;rw[h0];refine j7.mpr<| b8 e<| j7.mpr ?_;have h1:ME (.ref G.length)= ((N5 G.length >>= DL.listOf) >>= λl=>S1 (c9 l)):=rfl;rw[h1];refine j7.mpr<| j7.mpr<| N6.mpr ⟨_,j6,wp_pure.mpr<| S4.mpr ⟨ns,vR ns,wp_pure.mpr (q _ Ap.one)⟩⟩
def toI(a b:Option Int):List Int:=a.toList++b.toList
def kf:QG (toI a b)=loR a b:=by
 rcases a with _|a<;>rcases b with _|b<;>try rfl
 show some (if b>a then b else a)=some (max a b);congr 1;split<;>lia
def ua:NG (toI a b)=hiR a b:=by
 rcases a with _|a<;>rcases b with _|b<;>try rfl
 show some (if b<a then b else a)=some (min a b);congr 1;split<;>lia
def Hc(h:∀G',Ap G G'->Q (K2 (loR p.1 q.1)) G'):Wp (kI [rD p,rD q]) G Q:=by
 refine v9<| u5<| NO (toI p.1 q.1) ?_ λG' j=>by rw[kf];exact u0 (h G' j)
 obtain⟨a,_⟩:=p;obtain⟨b,_⟩:=q;rcases a with _|a<;>rcases b with _|b<;>rfl
def Kv(h:∀G',Ap G G'->Q (K2 (hiR p.2 q.2)) G'):Wp (bH [rD p,rD q]) G Q:=by
 refine v9<| u5<| NO (toI p.2 q.2) ?_ λG' j=>by rw[ua];exact u0 (h G' j)
 obtain⟨_,a⟩:=p;obtain⟨_,b⟩:=q;rcases a with _|a<;>rcases b with _|b<;>rfl
def efO:Option Int->Option Int->Bool
 |none,_=>false
 |some _,none=>true
 |some a,some b=>decide (a<b)
def OY(h:Q (.bl (efO p.2 q.2)) G):Wp (cI [rD p,rD q]) G Q:=O2 (by
 obtain⟨_,a⟩:=p;obtain⟨_,b⟩:=q;rcases a with _|a
 ·rfl
 ·rcases b with _|b<;>rfl) h
def HN:efO p.2 q.2=true↔efR p q:=by
 unfold efR;rcases p.2 with _|a
 ·exact⟨λh=>(nomatch h),fun⟨_,h,_⟩=>(nomatch h)⟩
 · rcases q.2 with _|b
   ·exact⟨λ_=>⟨a,rfl,λ_ h=>J4 h⟩,λ_=>rfl⟩
   ·exact⟨λh=>⟨a,rfl,λ_ k=>jc k▸of_decide_eq_true h⟩,fun⟨_,h,k⟩=>decide_eq_true (jc h▸k b rfl)⟩
def cS:cT r.1 r.2=false↔okR r:=by
 obtain⟨a,b⟩:=r;unfold okR;rcases a with _|a
 ·exact⟨λ_ _ _ h=>J4 h,λ_=>rfl⟩
 · rcases b with _|b
   ·exact⟨λ_ _ _ _ h=>J4 h,λ_=>rfl⟩
   ·exact⟨λh x y e1 e2=>by cases e1;cases e2;have:=of_decide_eq_false h;lia,λh=>decide_eq_false (by have:=h a b rfl rfl;lia)⟩
def BV:gH=o9 (M8 (Q7 L0) C1) (asQ z0 y3 (asQ z0 B3 (o9 (P9 MT MB) (t8 (F0 O3 y0))))):=rfl
def qF(l:List Rg):(rsD l).length=l.length:=zg ..
def RJ:atI (rsD (l0++p::l)) (l0.length:Int)=some (rD p):=atI_nat (by unfold rsD;simp)
def IL(h0:σ[0]? =some (some (.tup a)))(h1:σ[1]? =some (some (.tup b)))(h3:σ[3]? =some (some (.int i)))(h4:σ[4]? =some (some (.int j)))(ha:atI a i=some x)(hb:atI b j=some y):
 B1 (ixE g0 O0) (D1 (ixE x0 S0)) σ G=some (.ok [x,y],G):=
 R9<| m6<| m7<| R5.mpr ⟨_,h0,R5.mpr ⟨_,h3,ix_tup.mpr ⟨x,ha,m6<| m7<| R5.mpr ⟨_,h1,R5.mpr ⟨_,h4,ix_tup.mpr ⟨y,hb,j9.mpr ⟨rfl,rfl⟩⟩⟩⟩⟩⟩⟩
def RI(l:List Rg)(p:Rg):rsD (l++[p])=rsD l++[rD p]:=jD ..
structure MI(one other:List Rg)(c:Nat)(G0:DH)(Ek l0 l m0 m:List Rg)(G:DH):Prop where
 e1:one=l0++l
 e2:other=m0++m
 mv:Mv one other Ek l m
 at':G[c]? =some (.lst (rsD Ek))
 gr:Gr G0 G
 le:G0.length<=c
def mS(one other:List Rg)(c:Nat)(l0 m0:List Rg)(u v:Option D):DSt:= [some (.tup (rsD one)),some (.tup (rsD other)),sRf c,some (.int l0.length),some (.int m0.length),u,v]
def bm:mS one other c (l0++[p]) m0 u v= [some (.tup (rsD one)),some (.tup (rsD other)),sRf c,some (.int (l0.length+1)),some (.int m0.length),u,v]:=by unfold mS;rw[zJ];rfl
def Wh:mS one other c l0 (m0++[p]) u v= [some (.tup (rsD one)),some (.tup (rsD other)),sRf c,some (.int l0.length),some (.int (m0.length+1)),u,v]:=by unfold mS;rw[zJ];rfl
def Lp(I:MI one other c G0 Ek l0 (p::l) m0 (q::m) G)(hz:one.length+other.length<10000):
 Wp (MB (mS one other c l0 m0 u v)) G λfl G'=>∃Ej l0' l' m0' m' u' v',fl= .nx (mS one other c l0' m0' u' v')/\MI one other c G0 Ej l0' l' m0' m' G'/\l'.length+m'.length<(p::l).length+(q::m).length:=by
 have bg:=big;have ea:atI (rsD one) (l0.length:Int)=some (rD p):=by rw[I.e1];exact RJ
 have eb:atI (rsD other) (m0.length:Int)=some (rD q):=by rw[I.e2];exact RJ
 refine d9.mpr<| M3<| j8 (IL rfl rfl rfl rfl ea eb) rfl<| Hc λG1 j1=>?_;refine d9.mpr<| M3<| j8 (IL rfl rfl rfl rfl ea eb) rfl<| Kv λG2 j2=>?_;have j:=j1.trans j2;refine d9.mpr<| uz (A:=λfl G'=>fl= .nx (mS one other c l0 m0 (some (K2 (loR p.1 q.1))) (some (K2 (hiR p.2 q.2))))/\Gr G0 G'/\∃Ej,G'[c]? =some (.lst (rsD Ej))/\(Ej=Ek/\¬okR (loR p.1 q.1,hiR p.2 q.2)\/Ej=Ek++[(loR p.1 q.1,hiR p.2 q.2)]/\okR (loR p.1 q.1,hiR p.2 q.2)))
  (iH.mpr<| h9.mpr<| j8 rfl rfl<| Kh<| Q4.mpr ⟨λh=>?_,λh=>?_⟩) ?_
 · have hl:(rsD Ek).length<zq:=by have:=I.mv.small;rw[qF];lia
   refine iA.mpr<| x5.mpr<| b8 rfl<| (N8 (j.at I.at')).mpr<| b8 (a:= [rD (loR p.1 q.1,hiR p.2 q.2)]) rfl<| (W4 (j.at I.at') hl).mpr ⟨rfl,(I.gr.trans j.gr).set I.le,_,(zS (lt_of_get (j.at I.at'))).trans (by rw[<-RI]),.inr ⟨rfl,cS.mp (yI _▸h)⟩⟩
 ·exact m5.mpr ⟨rfl,I.gr.trans j.gr,Ek,j.at I.at',.inl ⟨rfl,λk=>by rw[cS.mpr k]at h;cases h⟩⟩
 · rintro _ G3 ⟨rfl,g3,Ej,e3,ha⟩;refine X3<| h9.mpr<| j8 (IL rfl rfl rfl rfl ea eb) rfl<| OY<| Q4.mpr ⟨λh=>?_,λh=>?_⟩
   ·exact b8 (by rw[bm];rfl) ⟨Ej,l0++[p],l,m0,q::m,_,_,rfl,⟨by rw[I.e1];simp,I.e2,I.mv.left (HN.mp h) ha,e3,g3,I.le⟩,by simp⟩
   ·exact b8 (by rw[Wh];rfl) ⟨Ej,l0,p::l,m0++[q],m,_,_,rfl,⟨I.e1,by rw[I.e2];simp,I.mv.right (λk=>by rw[HN.mpr k]at h;cases h) ha,e3,g3,I.le⟩,by simp⟩
def fS(I:MI one other c G0 Ek l0 l m0 m G):MT (mS one other c l0 m0 u v) G=some (.ok (!l.isEmpty&&!m.isEmpty),G):=by
 have h1:one.length=l0.length+l.length:=by rw[I.e1,zJ]
 have h2:other.length=m0.length+m.length:=by rw[I.e2,zJ]
 refine R9<| F8<| b8 rfl ⟨λk=>b8 rfl ⟨?_,rfl⟩,λk=>⟨?_,rfl⟩⟩
 · rw[qF]at k ⊢;have:=of_decide_eq_true k;rcases l with _|⟨_,_⟩
   ·simp at h1;lia
   · rcases m with _|⟨_,_⟩
     ·exact decide_eq_false (by simp at h2;lia)
     ·exact decide_eq_true (by simp at h2;lia)
 · rw[qF]at k;have:=of_decide_eq_false k;rcases l with _|⟨_,_⟩
   ·rfl
   ·simp at h1;lia
def MW:∀n Ek l0 l m0 m u v G,l.length+m.length<=n->MI one other c G0 Ek l0 l m0 m G->one.length+other.length<10000->
 Wp (T7 (n+1) MT MB (mS one other c l0 m0 u v)) G λfl G'=>∃Ej l0' m0' u' v',fl= .nx (mS one other c l0' m0' u' v')/\Can Ej/\(∀x,inS Ej x↔inS one x/\inS other x)/\Ej.length<=one.length+other.length/\G'[c]? =some (.lst (rsD Ej))/\Gr G0 G':=by
 have stop:∀ {n:Nat} {Ek l0 l m0 m:List Rg} {u v:Option D} {G:DH},MI one other c G0 Ek l0 l m0 m G->(l= []\/m= [])->
  Wp (T7 (n+1) MT MB (mS one other c l0 m0 u v)) G λfl G'=>∃Ej l0' m0' u' v',fl= .nx (mS one other c l0' m0' u' v')/\Can Ej/\(∀x,inS Ej x↔inS one x/\inS other x)/\Ej.length<=one.length+other.length/\G'[c]? =some (.lst (rsD Ej))/\Gr G0 G':=λ{n Ek l0 l m0 m u v G} I h=>by
  refine kD.mpr<| b8 (fS I) ?_;have:(!l.isEmpty&&!m.isEmpty)=false:=by
   rcases h with rfl|rfl
   ·rfl
   ·cases l<;>rfl
  rw[this];exact⟨Ek,l0,m0,u,v,rfl,I.mv.can,λx=>I.mv.done h x,by have:=I.mv.small;lia,I.at',I.gr⟩
 intro n
 induction n with
 |zero=>
   intro Ek l0 l m0 m u v G hn I hz;exact stop I (.inl (Ja (by lia)))
 |succ n ih=>
   intro Ek l0 l m0 m u v G hn I hz;rcases l with _|⟨p,l⟩
   ·exact stop I (.inl rfl)
   · rcases m with _|⟨q,m⟩
     ·exact stop I (.inr rfl)
     ·refine kD.mpr<| b8 (fS I) ?_;refine(Lp I hz).mono ?_;rintro _ G1 ⟨Ej,l0',l',m0',m',u',v',rfl,I',hl⟩;exact ih Ej l0' l' m0' m' u' v' G1 (by lia) I' hz
def ic(h1:Can one)(h2:Can other)(hz:one.length+other.length<10000)
 (q:∀met G',Can met->(∀x,inS met x↔inS one x/\inS other x)->met.length<=one.length+other.length->Ap G G'->Q (.tup (rsD met)) G'):Wp (tI [.tup (rsD one),.tup (rsD other)]) G Q:=by
 refine v9 (show Wp (gH [some (.tup (rsD one)),some (.tup (rsD other)),none,none,none,none,none]) G _ from ?_);rw[BV];refine u6 rfl<| u6 rfl<| u6 (X1:=mS one other G.length [] [] none none) rfl<| d9.mpr<| SG<| (MW _ [] [] one [] other none none _ (zp _) ⟨rfl,rfl,Mv.start h1 h2,j6,Gr.app,zp _⟩ hz).mono ?_;rintro _ G1 ⟨Ek,l0,m0,u,v,rfl,c,i,n,e,g⟩;exact u5<| L5 rfl<| (M7 e).mpr<| u0 (q Ek G1 c i n g.ap)
def B7:D->D
 | .str z=>.tup [.int z.length,.str z]
 |_=>.non
def txB(a b:Str):Bool:=if a.length=b.length then decide (a.cps.toList<b.cps.toList)else decide (a.length<b.length)
def GQ(h:z.length<=zq):Wp (O4 [.str z]) G Q↔Q (B7 (.str z)) G:=by unfold O4 PJ;have s0:([D.str z].map some++zC (1 - [D.str z].length) none:DSt)= [some (.str z)]:=rfl;simp only[Z5,s0,r6,S7,W7,S5,j9,R5,zN,exists_eq_left',zI,BI h];exact⟨λq=>q.2,λq=>⟨sz,q⟩⟩
abbrev wOf:Str:= "of"
abbrev NJ:Str:= "but"
theorem lU(z:Str)(d:D):∀l:List (Key×D),v7 (l.map λkv=>if kv.1= .inr z then (kv.1,d)else kv)=v7 l
 |[]=>rfl
 |(k,v)::r=>by
  have ih:=lU z d r;rw[zO];have e:(if ((k,v):Key×D).1= .inr z then (((k,v):Key×D).1,d)else (k,v)).1=k:=by split<;>rfl
  generalize (if ((k,v):Key×D).1= .inr z then (((k,v):Key×D).1,d)else (k,v))=p at e;obtain⟨k',v'⟩:=p
  cases e
  cases k' with
  |inl i=>rfl
  |inr y=>simp only[v7,ih]
theorem LR(z:Str)(d:D):∀l ss,v7 l=some ss->v7 (l++[(.inr z,d)])=some (ss++[z])
 |[],ss,h=>by cases h;rfl
 |(.inl i,v)::r,ss,h=>by cases h
 |(.inr y,v)::r,ss,h=>by
  unfold v7 at h
  cases hr:v7 r with
  |none=>rw[hr]at h;cases h
  |some t=>
    rw[hr]at h
    cases h
    rw[List.cons_append];unfold v7;rw[LR z d r t hr];rfl
def sT(h:G[r]? =some (.dct l))(hl:l.length<zq):Wp (qC (.ref r) (.str z) d) G R↔R () (G.set r (.dct (i6 l (.inr z) d))):=by unfold qC;simp only[j7,N6,h,O9,C8,if_pos hl,IF]
theorem TF:∀ss:List Str,l6 (ss.map D.str)=some ss
 |[]=>rfl
 |z::r=>by simp only[zO,l6,TF r,xW]
def Tx(z:Str):Prop:=OJ z=true/\z.length<=1000
def Ris(s:List Str):Prop:=s.Pairwise λa b=>txB a b=true
def NT(h1:txB a b=true)(h2:txB b c=true):txB a c=true:=by have:= @sD ((a.length:Int),a) ((b.length:Int),b) ((c.length:Int),c);unfold U2 at this;unfold txB at *;simp only[Int.ofNat_inj,Int.ofNat_lt]at this;exact this h1 h2
def MD(a:Str):txB a a=false:=by unfold txB;rw[if_pos rfl,decide_eq_false (YR _)]
def mK(a b:Str):txB a b=U2 ((a.length:Int),a) ((b.length:Int),b):=by unfold txB U2;simp only[Int.ofNat_inj,Int.ofNat_lt]
theorem NK:∀ {s t},Ris s->Ris t->(∀z,z∈s↔z∈t)->s=t
 |[], [],_,_,_=>rfl
 |[],b::t,_,_,h=>by have:=(h b).mpr (by simp);cases this
 |a::s, [],_,_,h=>by have:=(h a).mp (by simp);cases this
 |a::s,b::t,h1,h2,h=>by
   obtain⟨p1,p2⟩:=jf.mp h1;obtain⟨q1,q2⟩:=jf.mp h2;have e:a=b:=by
    rcases zy.mp ((h a).mp (by simp))with e|m
    ·exact e
    · rcases zy.mp ((h b).mpr (by simp))with e|m'
      ·exact e.symm
      ·have:=NT (q1 a m) (p1 b m');rw[MD]at this;cases this
   subst e;congr 1;refine NK p2 q2 λz=>⟨λm=>?_,λm=>?_⟩
   · rcases zy.mp ((h z).mp (zA _ m))with e|m'
     ·subst e;have:=p1 z m;rw[MD]at this;cases this
     ·exact m'
   · rcases zy.mp ((h z).mpr (zA _ m))with e|m'
     ·subst e;have:=q1 z m;rw[MD]at this;cases this
     ·exact m'
abbrev wrd(b:Bool):Str:=if b then wOf else NJ
def D2(b:Bool)(s:List Str):D:=.tup [.str (wrd b),.tup (s.map D.str)]
def Mk(l:List (Key×D))(ks:List Str):Prop:=v7 l=some ks/\ks.Nodup
theorem wK:∀ {l} {ks} {z},v7 l=some ks->(U0 l (.inr z)).isSome=decide (z∈ks)
 |[],ks,z,h=>by cases h;rfl
 |(.inl i,v)::r,ks,z,h=>by cases h
 |(.inr x,v)::r,ks,z,h=>by
  unfold v7 at h
  cases hr:v7 r with
  |none=>rw[hr]at h;cases h
  |some t=>
    rw[hr]at h
    cases h
    have ih:=wK (z:=z) hr;unfold U0 at ih ⊢;rw[yU];by_cases hx:x=z
    ·subst hx;simp
    · have h1:decide ((Sum.inr x:Key)= .inr z)=false:=by simpa using hx
      have h2:¬z=x:=λe=>hx e.symm;simp only[h1];rw[ih];simp[h2]
def kW(h:v7 l=some ks):l.any (λkv=>decide (kv.1= .inr z))=decide (z∈ks):=by
 rw[<-wK h];unfold U0;rw[ZV]
 induction l generalizing ks with
 |nil=>rfl
 |cons kv r ih=>
   rw[yr,yU]
   cases hk:decide (kv.1= .inr z) with
   |true=>rfl
   |false=>
     obtain⟨k,v⟩:=kv
     cases k with
     |inl i=>cases h
     |inr x=>
       unfold v7 at h
       cases hr:v7 r with
       |none=>rw[hr]at h;cases h
       |some t=>rw[ih hr];rfl
def UY(h:Mk l ks):Mk (i6 l (.inr z) d) (if z∈ks then ks else ks++[z]):=by
 unfold i6;rw[kW h.1];by_cases hz:z∈ks
 ·simp only[hz,decide_true,if_true];exact⟨by rw[lU];exact h.1,h.2⟩
 ·simp only[hz,decide_false,jo,if_false];refine⟨LR z d l ks h.1,?_⟩;rw[yW];exact⟨h.2,by simp,λa ha b hb=>by rw[zB]at hb;subst hb;exact λe=>hz (by rw[<-e];exact ha)⟩
theorem aO:∀s:List Str,g9 (s.map λz=>.tup [.str z,.bl true])=some (s.map λz=>(.inr z,.bl true))
 |[]=>rfl
 |a::r=>by simp only[zO,g9,tD,C8,aO r]
theorem sP:∀(s:List Str) l ks,Mk l ks->∃ks',Mk (putAll l (s.map λz=>(.inr z,.bl true))) ks'/\(∀z,z∈ks'↔z∈ks\/z∈s)/\ks'.length<=ks.length+s.length
 |[],l,ks,h=>⟨ks,h,by simp,by simp⟩
 |a::r,l,ks,h=>by
   obtain⟨ks',h1,h2,h3⟩:=sP r _ _ (UY h);refine⟨ks',h1,λz=>?_,?_⟩
   · rw[h2 z];by_cases ha:a∈ks
     · simp only[ha,if_true,zy];constructor
       · rintro(h|h)
         ·exact .inl h
         ·exact .inr (.inr h)
       · rintro(h|rfl|h)
         ·exact .inl h
         ·exact .inl ha
         ·exact .inr h
     ·simp only[ha,if_false,jd,zy,or_assoc,jg,false_or]
   · by_cases ha:a∈ks
     ·simp only[ha,if_true]at h3;simp only[zM];omega
     ·simp only[ha,if_false,zJ,jI]at h3;simp only[zM];omega
def tS(e:G[r]? =some (.lst l))(h:g9 l=some ps):Wp (WA [.ref r]) G Q↔Q (.ref G.length) (G++[.dct (putAll [] ps)]):=by unfold WA;simp only[j7,N6,e,O9,DL.listOf,wp_pure,S4,h,R8]
def iK{s:List Str}{G:DH}(hl:s.length<=1000):Wp (UB [.tup (s.map D.str)]) G λx G'=>∃q l ks,x= .ref q/\G'[q]? =some (.dct l)/\Mk l ks/\(∀z,z∈ks↔z∈s)/\ks.length<=s.length/\Ap G G'/\G.length<=q:=by
 have bg:=big;unfold UB SL;have s0:([D.tup (s.map D.str)].map some++zC (1 - [D.tup (s.map D.str)].length) none:DSt)= [some (.tup (s.map D.str))]:=rfl;simp only[Z5,s0,r6,W7,S5,j9];rw[bT (λσ=>σ.length=1) rfl (by show (s.map D.str).length<=_;rw[zg];omega) rfl rfl (λx hx σ WS=>?_)]
 · have e:(s.map D.str).map (λx=>D.tup [x,.bl true])=s.map λz=>.tup [.str z,.bl true]:=by rw[jZ];rfl
   show Wp (WA [.ref G.length]) (G++[.lst ((s.map D.str).map λx=>D.tup [x,.bl true])]) _;rw[e,tS j6 (aO s)];obtain⟨ks',h1,h2,h3⟩:=sP s [] [] ⟨rfl,by simp⟩;exact⟨_,_,ks',rfl,j6,h1,by simpa using h2,by simpa using h3,Ap.one.trans Ap.one,by simp⟩
 · match σ,WS with
   |[u],_=>
     refine⟨[some x],rfl,rfl,rfl,R9 ?_⟩;simp only[S7,S5,j9,N9,R5,zI,zN,exists_eq_left'];exact⟨sz,by first|rfl|trivial,trivial⟩
def vP(e:G[q]? =some (.dct l))(h:v7 l=some ks):inB (.str z) (.ref q) G=some (decide (z∈ks)):=by unfold inB;simp only[e,C8,xW,wK h]
def MS{s:List Str}:((s.map D.str).filter λx=>match x with| .str z=>p z|_=>false)= (s.filter p).map D.str:=by rw[Yx];rfl
def qY{s t:List Str}{G:DH}(hs:s.length<=1000)(ht:t.length<=1000):Wp (PF [.tup (s.map D.str),.tup (t.map D.str)]) G λx G'=>x= .tup ((s.filter λz=>decide (z∈t)).map D.str)/\Ap G G':=by
 have bg:=big;unfold PF iL;have s0:([D.tup (s.map D.str),.tup (t.map D.str)].map some++zC (3 - [D.tup (s.map D.str),.tup (t.map D.str)].length) none:DSt)= [some (.tup (s.map D.str)),some (.tup (t.map D.str)),none]:=rfl;simp only[Z5,s0,d9,W8,M6,r6,W7,S5,j9,R5,T6,wp_comp,wp_itW,srcW_tup,ym,jY,zI,ja,zN,exists_eq_left'];refine⟨rfl,Wp.mono (iK ht) λx G1 ⟨q,l,ks,ex,e1,mk,mm,_,a1,_⟩=>?_⟩;subst ex;refine⟨by rw[zg];omega,?_⟩;have hc:K7 H0 (tBn inD g0 x0) g0 (λ_=>true) (s.map D.str) (T9 [none,some 2] [some (.tup (s.map D.str)),some (.tup (t.map D.str)),sRf q]) G1=some (.ok ((s.map D.str).filter λx=>match x with| .str z=>decide (z∈t)|_=>false),G1):=by refine aC rfl (λσ=>∃u,σ= [u,sRf q]) _ _ ⟨none,rfl⟩ λx hx σ WS=>?_;obtain⟨z,hz,rfl⟩:=zF.mp hx;obtain⟨u,rfl⟩:=WS;refine⟨[some (.str z),sRf q],rfl,⟨_,rfl⟩,R9 ?_,rfl⟩;simp only[FA,D6,R5,zI,ja,zN,exists_eq_left',NC,vP e1 mk.1,lC];refine⟨?_,trivial⟩;simp only[mm]
 refine(AA hc).mpr ?_;rw[M7 j6,MS];exact⟨rfl,a1.trans Ap.one⟩
def OT{s t:List Str}{G:DH}(hs:s.length<=1000)(ht:t.length<=1000):Wp (RC [.tup (s.map D.str),.tup (t.map D.str)]) G λx G'=>x= .tup ((s.filter λz=> !decide (z∈t)).map D.str)/\Ap G G':=by
 have bg:=big;unfold RC KL;have s0:([D.tup (s.map D.str),.tup (t.map D.str)].map some++zC (3 - [D.tup (s.map D.str),.tup (t.map D.str)].length) none:DSt)= [some (.tup (s.map D.str)),some (.tup (t.map D.str)),none]:=rfl;simp only[Z5,s0,d9,W8,M6,r6,W7,S5,j9,R5,T6,wp_comp,wp_itW,srcW_tup,ym,jY,zI,ja,zN,exists_eq_left'];refine⟨rfl,Wp.mono (iK ht) λx G1 ⟨q,l,ks,ex,e1,mk,mm,_,a1,_⟩=>?_⟩;subst ex;refine⟨by rw[zg];omega,?_⟩;have hc:K7 H0 (tBn uA g0 x0) g0 (λ_=>true) (s.map D.str) (T9 [none,some 2] [some (.tup (s.map D.str)),some (.tup (t.map D.str)),sRf q]) G1=some (.ok ((s.map D.str).filter λx=>match x with| .str z=> !decide (z∈t)|_=>false),G1):=by refine aC rfl (λσ=>∃u,σ= [u,sRf q]) _ _ ⟨none,rfl⟩ λx hx σ WS=>?_;obtain⟨z,hz,rfl⟩:=zF.mp hx;obtain⟨u,rfl⟩:=WS;refine⟨[some (.str z),sRf q],rfl,⟨_,rfl⟩,R9 ?_,rfl⟩;simp only[FA,D6,R5,zI,ja,zN,exists_eq_left',UI,vP e1 mk.1,lC];refine⟨?_,trivial⟩;simp only[mm]
 refine(AA hc).mpr ?_;rw[M7 j6,MS];exact⟨rfl,a1.trans Ap.one⟩
theorem oO:∀(s:List Str) G,(∀z∈s,z.length<=zq)->t5 O4 (s.map D.str) G=some (.ok (s.map λz=>B7 (.str z)),G)
 |[],G,_=>rfl
 |a::r,G,h=>by have h1:noX (O4 [.str a]) G=some (.ok (B7 (.str a)),G):=R9 (oD.mpr ((GQ (h a (by simp))).mpr ⟨rfl,rfl⟩));have h2:=oO r G λz hz=>h z (by simp[hz]);show (noX (O4 [.str a]) >>= λk=>t5 O4 (r.map D.str) >>= λks=>pure (k::ks)) G=_;rw[M.bind_ok h1,M.bind_ok h2];rfl
theorem rN:∀s:List Str,kA SH (s.map λz=>B7 (.str z))=some (s.map λz=>((z.length:Int),z))
 |[]=>rfl
 |a::r=>by simp only[zO,kA,rN r];rfl
def PU(s:List Str):KC (s.map λz=>B7 (.str z))=some (s.map λz=>((z.length:Int),z)):=by unfold KC;rw[rN]
def wU(nd:s.Nodup):∃m,PD (s.map λz=>((z.length:Int),z)) (s.map D.str)=m.map D.str/\Ris m/\m.Perm s:=by
 have hz:(s.map λz=>(((z.length:Int),z):Int×Str)).zip (s.map D.str)=s.map λz=>(((z.length:Int),z),D.str z):=by rw[List.zip_map']
 have nd2:(s.map λz=>(((z.length:Int),z):Int×Str)).Nodup:=by rw[List.Nodup,yh];exact nd.imp λ{a b} h e=>h (xg e).2
 let m:=s.mergeSort λa b=> !txB b a
 have hp:m.Perm s:=jv _ _;have hs:m.Pairwise λa b=>(!txB b a)=true:=xZ (λa b c h1 h2=>by
  simp only[yI]at *;refine yZ.mpr λh=>?_;by_cases e:a=b
  ·subst e;rw[h]at h2;cases h2
  ·rw[mK]at h h1 h2;have:=sD h (RD (λz=>e (xg z).2.symm) h1);rw[this]at h2;cases h2) (λa b=>by
  by_cases e:a=b
  ·subst e;rw[MD];rfl
  · cases q:txB b a with
    |false=>rfl
    |true=>
      have:txB a b=false:=by refine yZ.mpr λh=>?_;have:=NT q h;rw[MD]at this;cases this
      rw[this];rfl) _
 refine⟨m,?_,?_,hp⟩
 · have e:=UU nd2 (z:=m.map λz=>(((z.length:Int),z),D.str z)) (by rw[hz];exact hp.map _) (by
    rw[yh];refine hs.imp λ{a b} h=>?_;unfold oA;rw[<-mK];exact h)
   rw[<-e,jZ];rfl
 ·have ndm:m.Nodup:=hp.nodup_iff.mpr nd;have:m.Pairwise λa b=>(!txB b a)=true/\a≠b:=List.Pairwise.and hs ndm;refine this.imp λ{a b} h=>?_;have h1:=h.1;simp only[yI]at h1;rw[mK]at h1 ⊢;exact RD (λz=>h.2 (xg z).2.symm) h1
def iq{l:List (Key×D)}(e:G[q]? =some (.dct l))(h:Mk l ks)(Gs:ks.length<64)(hz:∀z∈ks,z.length<=zq)(hq:∀m,Ris m->m.Perm ks->Q (.ref G.length) (G++[.lst (m.map D.str)])):Wp (wA O4 (.ref q)) G Q:=by
 obtain⟨m,e1,e2,e3⟩:=wU h.2;have nd2:(ks.map λz=>(((z.length:Int),z):Int×Str)).Nodup:=by rw[List.Nodup,yh];exact h.2.imp λ{a b} h e=>h (xg e).2
 unfold wA;simp only[j7,N6,e,O9,S4,h.1,if_pos Gs,dB];refine(AA (oO ks G hz)).mpr ?_;rw[PU];refine⟨_,rfl,?_⟩;rw[if_pos nd2,R8,e1];exact hq m e2 e3
def EQ:Wp (uB F fe σ) G Q↔Wp (fe σ) G λx G1=>Wp (wA F x) G1 Q:=by unfold uB;simp only[j7]
def OV{s:List Str}(hs:s.length<64)(hz:∀z∈s,Tx z):Wp (oE [.tup (s.map D.str)]) G λx G'=>∃m,x= .tup (m.map D.str)/\Ris m/\(∀z,z∈m↔z∈s)/\m.length<=s.length/\Ap G G':=by have bg:=big;unfold oE KM;have s0:([D.tup (s.map D.str)].map some++zC (1 - [D.tup (s.map D.str)].length) none:DSt)= [some (.tup (s.map D.str))]:=rfl;simp only[Z5,s0,r6,W7,S5,j9,R5,T6,EQ,zI,zN,exists_eq_left'];refine⟨rfl,Wp.mono (iK (by omega)) λx G1 ⟨q,l,ks,ex,e1,mk,mm,hl,a1,_⟩=>?_⟩;subst ex;refine iq e1 mk (by omega) (λz Hr=>zK (hz z ((mm z).mp Hr)).2 (by omega)) λm r p=>?_;rw[M7 j6];exact⟨m,rfl,r,λz=>by rw[p.mem_iff,mm],by rw[p.length_eq];exact hl,a1.trans Ap.one⟩
def Bh{s t:List Str}(hs:s.length+t.length<64)(hz:∀z∈s,Tx z)(hz2:∀z∈t,Tx z):Wp (TD [.tup (s.map D.str),.tup (t.map D.str)]) G λx G'=>∃m,x= .tup (m.map D.str)/\Ris m/\(∀z,z∈m↔z∈s\/z∈t)/\m.length<=s.length+t.length/\Ap G G':=by
 have bg:=big;unfold TD oK;have s0:([D.tup (s.map D.str),.tup (t.map D.str)].map some++zC (2 - [D.tup (s.map D.str),.tup (t.map D.str)].length) none:DSt)= [some (.tup (s.map D.str)),some (.tup (t.map D.str))]:=rfl;simp only[Z5,s0,r6,W7,S5,j9,R5,D6,T6,zI,ja,zN,exists_eq_left'];rw[dI (by rw[zg,zg];omega),<-jD];refine⟨rfl,Wp.mono (OV (by rw[zJ];exact hs) (λz Hr=>?_)) λx G1 ⟨m,e,r,mm,hl,a⟩=>⟨m,e,r,λz=>by rw[mm,jd],by rw[zJ]at hl;exact hl,a⟩⟩;rcases jd.mp Hr with h|h
 ·exact hz z h
 ·exact hz2 z h
def inT(b:Bool)(s:List Str)(z:Str):Prop:=if b then z∈s else z∉s
structure Rw(s:List Str):Prop where
 ris:Ris s
 tx:∀z∈s,Tx z
 len:s.length<30
def dZ(b c:Bool)(s t:List Str)(G:DH)(x:D)(G':DH):Prop:=∃m,x=D2 (b||c) m/\Ris m/\(∀z,inT (b||c) m z↔inT b s z/\inT c t z)/\(∀z∈m,z∈s\/z∈t)/\m.length<=s.length+t.length/\Ap G G'
def wJ(h:Ris s):Ris (s.filter p):=h.sublist ZG
def kq(b:Bool):(wrd b==wOf)=b:=by cases b<;>decide
def pj{s t:List Str}(hs:Rw s)(ht:Rw t):Wp (pE [D2 b s,D2 c t]) G (dZ b c s t G):=by
 have l1:=hs.len;have l2:=ht.len;unfold pE oM;have s0:([D2 b s,D2 c t].map some++zC (2 - [D2 b s,D2 c t].length) none:DSt)= [some (.tup [.str (wrd b),.tup (s.map D.str)]),some (.tup [.str (wrd c),.tup (t.map D.str)])]:=rfl;simp only[Z5,s0,d9,GA,VQ,FA,r6,S7,W7,S5,j9,R5,D6,N9,T6,m5,zI,ja,zN,exists_eq_left',ix_tup,at0,at1,bi,lC,kq]
 cases b<;>cases c<;>simp only[jo,if_false,if_true]
 ·refine⟨rfl,Wp.mono (Bh (by omega) hs.tx ht.tx) λx G1 ⟨m,e,r,mm,hl,a⟩=>?_⟩;subst e;refine⟨sz,m,rfl,r,λz=>?_,λz hz=>(mm z).mp hz,hl,a⟩;simp only[inT,Zu,jo,if_false,mm];exact not_or
 ·refine⟨rfl,Wp.mono (OT (by omega) (by omega)) λx G1 ⟨e,a⟩=>?_⟩;subst e;refine⟨sz,_,rfl,wJ ht.ris,λz=>?_,λz hz=>.inr (jL.mp hz).1,zK (xA _ _) (by omega),a⟩;simp only[inT,Bool.or_true,jo,if_false,if_true,jL,yI,decide_eq_false_iff_not];exact And.comm
 ·refine⟨rfl,Wp.mono (OT (by omega) (by omega)) λx G1 ⟨e,a⟩=>?_⟩;subst e;refine⟨sz,_,rfl,wJ hs.ris,λz=>?_,λz hz=>.inl (jL.mp hz).1,zK (xA _ _) (by omega),a⟩;simp only[inT,Zu,jo,if_false,if_true,jL,yI,decide_eq_false_iff_not]
 ·refine⟨rfl,Wp.mono (qY (by omega) (by omega)) λx G1 ⟨e,a⟩=>?_⟩;subst e;refine⟨sz,_,rfl,wJ hs.ris,λz=>?_,λz hz=>.inl (jL.mp hz).1,zK (xA _ _) (by omega),a⟩;simp only[inT,Bool.or_self,if_true,jL,decide_eq_true_eq]
inductive NV where
 |num (i:Int)
 |txt (z:Str)
 |tru (b:Bool)
 |lst (n:Nat) (f:Nat->NV)
 |rcd (p:Str->Bool) (f:Str->NV)
structure Pt(α:Type) where
 ns:List Rg
 b:Bool
 ss:List Str
 bs:List Bool
 ls:Option (List α×α)
 rs:Option (List (Str×Bool×α)×α)
section
def fld:List (Str×Bool×α)->α->Str->Bool×α
 |[],m,_=>(false,m)
 |e::fs,m,z=>if e.1=z then e.2 else fld fs m z
def frt(fs:List α)(m:α)(i:Nat):α:=(fs[i]?).getD m
variable(mem:α->NV->Prop)(gd:α->Prop)
def R3(r:Option (List α×α))(n:Nat)(f:Nat->NV):Prop:=∃fs m,r=some (fs,m)/\fs.length<=n/\∀i,i<n->mem (frt fs m i) (f i)
def E2(r:Option (List (Str×Bool×α)×α))(p:Str->Bool)(f:Str->NV):Prop:=∃fs m,r=some (fs,m)/\∀z,(p z=true->mem (fld fs m z).2 (f z))/\(p z=false->(fld fs m z).1=false)
def cA(s:Pt α):NV->Prop
 | .num i=>inS s.ns i
 | .txt z=>inT s.b s.ss z
 | .tru b=>b∈s.bs
 | .lst n f=>R3 mem s.ls n f
 | .rcd p f=>E2 mem s.rs p f
def aU:Option (Pt α)->NV->Prop
 |none,_=>True
 |some s,v=>cA mem s v
def i7(r:Option (List α×α)):Prop:=∀fs m,r=some (fs,m)->gd m/\∀a∈fs,gd a/\∃v,mem a v
def Nms(fs:List (Str×Bool×α)):Prop:=fs.Pairwise λe e'=>e.1.cps.toList<e'.1.cps.toList
def U3(r:Option (List (Str×Bool×α)×α)):Prop:=∀fs m,r=some (fs,m)->gd m/\Nms fs/\∀e∈fs,gd e.2.2/\(e.2.1=true->∃v,mem e.2.2 v)/\(e.2.1=false->e.2.2≠m)
def B4:List (List Bool):= [[], [false], [true], [false,true]]
structure GdP(s:Pt α):Prop where
 ns:Can s.ns
 ss:Ris s.ss
 bs:s.bs∈B4
 ls:i7 mem gd s.ls
 rs:U3 mem gd s.rs
def GdS:Option (Pt α)->Prop
 |none=>True
 |some s=>GdP mem gd s/\¬∀v,cA mem s v
def Ext:Prop:=∀a b,gd a->gd b->(∀v,mem a v↔mem b v)->a=b
end
theorem cU:∀l:List Str,∃N,∀z∈l,z.cps.size<N
 |[]=>⟨0,λ_ h=>nomatch h⟩
 |x::l=>by
   obtain⟨N,h⟩:=cU l;refine⟨N+x.cps.size+1,λz hz=>?_⟩;rcases zy.mp hz with rfl|hz
   ·lia
   ·have:=h z hz;lia
def fresh(l:List Str):∃z,z∉l:=by obtain⟨N,h⟩:=cU l;refine⟨⟨Array.replicate N 0⟩,λhz=>?_⟩;have:=h _ hz;rw[Array.size_replicate]at this;lia
def GT(hs:Ris s)(ht:Ris t)(h:∀z,inT b s z↔inT c t z):b=c/\s=t:=by
 obtain⟨z,hz⟩:=fresh (s++t);have z1:z∉s:=λk=>hz (yY _ k);have z2:z∉t:=λk=>hz (zP _ k);rcases b with _|_<;>rcases c with _|_
 ·exact⟨rfl,NK hs ht λx=>Decidable.not_iff_not.mp (h x)⟩
 ·exact absurd ((h z).mp z1) z2
 ·exact absurd ((h z).mpr z2) z1
 ·exact⟨rfl,NK hs ht h⟩
def aP:∀a∈B4,∀b∈B4,(∀k,k∈a↔k∈b)->a=b:=by unfold B4;decide
section
variable{α:Type}{mem:α->NV->Prop}{gd:α->Prop}
def NB(h:i<fs.length):frt fs m i=fs[i]:=by unfold frt;rw[zj h];rfl
def bD(h:fs.length<=i):frt fs m i=m:=by unfold frt;rw[zT h];rfl
def kJ(fs:List α)(h:∀a∈fs,∃v,mem a v):∃f:Nat->NV,∀i hi,mem fs[i] (f i):=by refine⟨λi=>if hi:i<fs.length then (h fs[i] (jW hi)).choose else .num 0,λi hi=>?_⟩;simp only[dif_pos hi];exact(h fs[i] (jW hi)).choose_spec
def WJ(h:∀i hi,mem fs[i] (f i)):R3 mem (some (fs,m)) fs.length f:=
 ⟨fs,m,rfl,zp _,λi hi=>by rw[NB hi];exact h i hi⟩
def X5:R3 mem (some (fs,m)) n f↔fs.length<=n/\∀i,i<n->mem (frt fs m i) (f i):=
 ⟨fun⟨gs,k,e,h⟩=>by cases e;exact h,λh=>⟨fs,m,rfl,h⟩⟩
def X6:¬R3 mem none n f:=fun⟨_,_,e,_⟩=>nomatch e
def SU(h1:i7 mem gd (some (fs,m)))(h:∀n f,R3 mem (some (fs,m)) n f↔R3 mem (some (gs,k)) n f):gs.length<=fs.length:=by obtain⟨f,hf⟩:=kJ fs λa ha=>((h1 fs m rfl).2 a ha).2;exact(X5.mp ((h _ _).mp (WJ hf))).1
def gU(h1:i7 mem gd (some (fs,m)))(h:∀n f,R3 mem (some (fs,m)) n f↔R3 mem (some (gs,k)) n f)(i:Nat)(v:NV)(hv:mem (frt fs m i) v)(hi:i<=fs.length):mem (frt gs k i) v:=by
 obtain⟨f,hf⟩:=kJ fs λa ha=>((h1 fs m rfl).2 a ha).2;have w:R3 mem (some (fs,m)) (max fs.length (i+1)) (λj=>if j=i then v else f j):=X5.mpr ⟨by lia,λj hj=>by
  by_cases e:j=i
  ·rw[e];simp only[if_pos];exact hv
  · simp only[if_neg e];have hl:j<fs.length:=by lia
    rw[NB hl];exact hf j hl⟩
 have:=(X5.mp ((h _ _).mp w)).2 i (by lia);simpa using this
def Cq(he:Ext mem gd)(h1:i7 mem gd r)(h2:i7 mem gd t)(h:∀n f,R3 mem r n f↔R3 mem t n f):r=t:=by
 rcases r with _|⟨fs,m⟩<;>rcases t with _|⟨gs,k⟩
 ·rfl
 ·obtain⟨f,hf⟩:=kJ gs λa ha=>((h2 gs k rfl).2 a ha).2;exact absurd ((h _ _).mpr (WJ hf)) X6
 ·obtain⟨f,hf⟩:=kJ fs λa ha=>((h1 fs m rfl).2 a ha).2;exact absurd ((h _ _).mp (WJ hf)) X6
 · have hl:fs.length=gs.length:=Nat.le_antisymm (SU h2 λn f=>(h n f).symm) (SU h1 h);have e:∀i,i<=fs.length->gd (frt fs m i)->gd (frt gs k i)->frt fs m i=frt gs k i:=λi hi a b=>he _ _ a b λv=>⟨λhv=>gU h1 h i v hv hi,λhv=>gU h2 (λn f=>(h n f).symm) i v hv (hl▸hi)⟩;have em:m=k:=by
    have:=e fs.length (zp _) (by rw[bD (zp _)];exact(h1 fs m rfl).1) (by rw[bD (xP hl.symm)];exact(h2 gs k rfl).1);rwa [bD (zp _),bD (xP hl.symm)]at this
   have ef:fs=gs:=xL hl λi ha hb=>by have:=e i (yM ha) (by rw[NB ha];exact((h1 fs m rfl).2 _ (jW ha)).1) (by rw[NB hb];exact((h2 gs k rfl).2 _ (jW hb)).1);rwa [NB ha,NB hb]at this
   rw[em,ef]
end
abbrev nlt(a b:Str):Prop:=a.cps.toList<b.cps.toList
def vC(a:Str):¬nlt a a:=YR _
def HW(h:nlt a b)(k:nlt b c):nlt a c:=List.lt_trans h k
section
variable{mem:α->NV->Prop}{gd:α->Prop}
def HB{m:α}:z∈fs.map (·.1)->(z,fld fs m z)∈fs:=by
 induction fs with
 |nil=>intro h;cases h
 |cons e fs ih=>
   intro h;unfold fld;by_cases k:e.1=z
   ·rw[if_pos k,<-k];exact zH ..
   · rw[if_neg k];rcases zy.mp h with h|h
     ·exact absurd h.symm k
     ·exact zA _ (ih h)
def B6{m:α}:z∉fs.map (·.1)->fld fs m z= (false,m):=by
 induction fs with
 |nil=>intro h;rfl
 |cons e fs ih=>
   intro h;unfold fld;rw[if_neg λk=>h (zy.mpr (.inl k.symm)),ih λk=>h (zA _ k)]
def aH(hn:Nms fs)(he:e∈fs):fld fs m e.1=e.2:=by
 induction fs with
 |nil=>cases he
 |cons x fs ih=>
   unfold fld;obtain⟨h1,h2⟩:=jf.mp hn;rcases zy.mp he with rfl|he
   ·rw[if_pos rfl]
   ·rw[if_neg λk=>vC e.1 (by have:=h1 e he;rw[k]at this;exact this),ih h2 he]
def Q9:E2 mem (some (fs,m)) p f↔∀z,(p z=true->mem (fld fs m z).2 (f z))/\(p z=false->(fld fs m z).1=false):=
 ⟨fun⟨gs,k,e,h⟩=>by cases e;exact h,λh=>⟨fs,m,rfl,h⟩⟩
def sA:¬E2 mem none p f:=fun⟨_,_,e,_⟩=>nomatch e
def gO{m:α}(h:U3 mem gd (some (fs,m)))(k:(fld fs m z).1=true):∃v,mem (fld fs m z).2 v:=by
 by_cases hz:z∈fs.map (·.1)
 ·exact((h fs m rfl).2.2 _ (HB hz)).2.1 k
 ·rw[B6 hz]at k;cases k
def rR(h:U3 mem gd (some (fs,m)))(z:Str):gd (fld fs m z).2:=by
 by_cases hz:z∈fs.map (·.1)
 ·exact((h fs m rfl).2.2 _ (HB hz)).1
 ·rw[B6 hz];exact(h fs m rfl).1
def BH(h:U3 mem gd (some (fs,m))):∃f:Str->NV,∀z,(fld fs m z).1=true->mem (fld fs m z).2 (f z):=by refine⟨λz=>if k:(fld fs m z).1=true then (gO h k).choose else .num 0,λz k=>?_⟩;simp only[dif_pos k];exact(gO h k).choose_spec
def MK(h:∀z,(fld fs m z).1=true->mem (fld fs m z).2 (f z)):E2 mem (some (fs,m)) (λz=>(fld fs m z).1) f:=Q9.mpr λz=>⟨h z,id⟩
def lR(h1:U3 mem gd (some (fs,m)))(h:∀p f,E2 mem (some (fs,m)) p f↔E2 mem (some (gs,k)) p f)(z:Str)(e:(fld fs m z).1=false):(fld gs k z).1=false:=by obtain⟨f,hf⟩:=BH h1;exact(Q9.mp ((h _ _).mp (MK hf)) z).2 e
def BQ(h1:U3 mem gd (some (fs,m)))(h:∀p f,E2 mem (some (fs,m)) p f↔E2 mem (some (gs,k)) p f)(z:Str)(v:NV)(hv:mem (fld fs m z).2 v):mem (fld gs k z).2 v:=by
 obtain⟨f,hf⟩:=BH h1;have w:E2 mem (some (fs,m)) (λy=>decide (y=z)||(fld fs m y).1) (λy=>if y=z then v else f y):=Q9.mpr λy=>by
  by_cases e:y=z
  ·subst e;simp[hv]
  ·simp only[e,decide_false,Bool.false_or,if_false];exact⟨hf y,id⟩
 have:=(Q9.mp ((h _ _).mp w) z).1 (by simp);simpa using this
theorem RO:∀ {fs gs:List (Str×Bool×α)},Nms fs->Nms gs->(∀e,e∈fs↔e∈gs)->fs=gs
 |[], [],_,_,_=>rfl
 |[],g::gs,_,_,h=>nomatch (h g).mpr (zH ..)
 |f::fs, [],_,_,h=>nomatch (h f).mp (zH ..)
 |f::fs,g::gs,hf,hg,h=>by
   obtain⟨f1,f2⟩:=jf.mp hf;obtain⟨g1,g2⟩:=jf.mp hg;have e:f=g:=by
    rcases zy.mp ((h f).mp (zH ..))with e|a
    ·exact e
    · rcases zy.mp ((h g).mpr (zH ..))with e|b
      ·exact e.symm
      ·exact absurd (HW (f1 g b) (g1 f a)) (vC _)
   subst e;rw[RO f2 g2 λe=>⟨λa=>?_,λa=>?_⟩]
   · rcases zy.mp ((h e).mp (zA _ a))with k|k
     ·exact absurd (f1 e a) (by rw[k];exact vC _)
     ·exact k
   · rcases zy.mp ((h e).mpr (zA _ a))with k|k
     ·exact absurd (g1 e a) (by rw[k];exact vC _)
     ·exact k
def Tb{fs gs:List (Str×Bool×α)}(h1:U3 mem gd (some (fs,m)))(h2:U3 mem gd (some (gs,m)))(e:∀z,fld fs m z=fld gs m z):fs=gs:=by
 have one:∀ {fs gs:List (Str×Bool×α)},U3 mem gd (some (fs,m))->(∀z,fld fs m z=fld gs m z)->∀x∈fs,x∈gs:=λ{fs gs} h1 e x hx=>by
  have ex:=aH (m:=m) (h1 _ _ rfl).2.1 hx;by_cases hz:x.1∈gs.map (·.1)
  ·have:=HB (m:=m) hz;rw[<-e,ex]at this;exact this
  · have h3:x.2= (false,m):=by rw[<-ex,e,B6 hz]
    exact absurd (congrArg (·.2) h3) (((h1 _ _ rfl).2.2 x hx).2.2 (congrArg (·.1) h3))
 exact RO (h1 _ _ rfl).2.1 (h2 _ _ rfl).2.1 λx=>⟨one h1 e x,one h2 (λz=>(e z).symm) x⟩
def ml(he:Ext mem gd)(h1:U3 mem gd r)(h2:U3 mem gd t)(h:∀p f,E2 mem r p f↔E2 mem t p f):r=t:=by
 rcases r with _|⟨fs,m⟩<;>rcases t with _|⟨gs,k⟩
 ·rfl
 ·obtain⟨f,hf⟩:=BH h2;exact absurd ((h _ _).mpr (MK hf)) sA
 ·obtain⟨f,hf⟩:=BH h1;exact absurd ((h _ _).mp (MK hf)) sA
 · have h':=λp f=>(h p f).symm;have e:∀z,fld fs m z=fld gs k z:=λz=>XF (by
    rcases a:(fld fs m z).1 with _|_
    ·exact(lR h1 h z a).symm
    · rcases b:(fld gs k z).1 with _|_
      ·exact absurd (lR h2 h' z b) (by rw[a];decide)
      ·rfl) (he _ _ (rR h1 z) (rR h2 z) λv=>⟨BQ h1 h z v,BQ h2 h' z v⟩)
   obtain⟨z,hz⟩:=fresh (fs.map (·.1)++gs.map (·.1));have em:m=k:=by have:=e z;rw[B6 λa=>hz (yY _ a),B6 λa=>hz (zP _ a)]at this;exact congrArg (·.2) this
   subst em;rw[Tb h1 h2 e]
def Mg(he:Ext mem gd):Ext (aU mem) (GdS mem gd):=by
 intro a b ha hb h;rcases a with _|a<;>rcases b with _|b
 ·rfl
 ·exact absurd (λv=>(h v).mp trivial) hb.2
 ·exact absurd (λv=>(h v).mpr trivial) ha.2
 ·have e1:=PL ha.1.ns hb.1.ns λx=>h (.num x);have e2:=GT ha.1.ss hb.1.ss λx=>h (.txt x);have e3:=aP _ ha.1.bs _ hb.1.bs λx=>h (.tru x);have e4:=Cq he ha.1.ls hb.1.ls λn f=>h (.lst n f);have e5:=ml he ha.1.rs hb.1.rs λn f=>h (.rcd n f);rcases a with⟨a1,a2,a3,a4,a5,a6⟩;rcases b with⟨b1,b2,b3,b4,b5,b6⟩;obtain⟨e2,e2'⟩:=e2;dsimp only at e1 e2 e2' e3 e4 e5;rw[e1,e2,e2',e3,e4,e5]
end
def CS:Nat->Type
 |0=>Unit
 |n+1=>Option (Pt (CS n))
def inC:(n:Nat)->CS n->NV->Prop
 |0=>λ_ _=>True
 |n+1=>aU (inC n)
def Gd:(n:Nat)->CS n->Prop
 |0=>λ_=>True
 |n+1=>GdS (inC n) (Gd n)
theorem cD:∀n,Ext (inC n) (Gd n)
 |0=>λ_ _ _ _ _=>rfl
 |n+1=>Mg (cD n)
structure IsMt(n:Nat)(s t m:CS n):Prop where
 g:Gd n m
 i:∀v,inC n m v↔inC n s v/\inC n t v
section
variable{α:Type}{mem:α->NV->Prop}{gd:α->Prop}
structure IsM(mem:α->NV->Prop)(gd:α->Prop)(s t r:α):Prop where
 g:gd r
 i:∀v,mem r v↔mem s v/\mem t v
structure RsM(mem:α->NV->Prop)(gd:α->Prop)(fs:List (Str×Bool×α))(m:α)(gs:List (Str×Bool×α))(k:α)(es:List (Str×Bool×α))(h:α):Prop where
 nms:Nms es
 all:∀z,z∈es.map (·.1)↔z∈fs.map (·.1)\/z∈gs.map (·.1)
 at_:∀e∈es,e.2.1= ((fld fs m e.1).1||(fld gs k e.1).1)/\IsM mem gd (fld fs m e.1).2 (fld gs k e.1).2 e.2.2
 more:IsM mem gd m k h
def RsM.fld(w:RsM mem gd fs m gs k es h)(z:Str):(W.fld es h z).1= ((W.fld fs m z).1||(W.fld gs k z).1)/\IsM mem gd (W.fld fs m z).2 (W.fld gs k z).2 (W.fld es h z).2:=by
 by_cases hz:z∈es.map (·.1)
 ·exact w.at_ _ (HB hz)
 ·have:=(not_congr (w.all z)).mp hz;rw[B6 hz,B6 λa=>this (.inl a),B6 λa=>this (.inr a)];exact⟨rfl,w.more⟩
def px(w:∀z,(fld es h z).1= ((fld fs m z).1||(fld gs k z).1)/\IsM mem gd (fld fs m z).2 (fld gs k z).2 (fld es h z).2)(p:Str->Bool)(f:Str->NV):E2 mem (some (es,h)) p f↔E2 mem (some (fs,m)) p f/\E2 mem (some (gs,k)) p f:=by
 rw[Q9,Q9,Q9];constructor
 · intro a;refine⟨λz=>⟨λhp=>(((w z).2.i _).mp ((a z).1 hp)).1,λhp=>?_⟩,λz=>⟨λhp=>(((w z).2.i _).mp ((a z).1 hp)).2,λhp=>?_⟩⟩
   ·have:=(a z).2 hp;rw[(w z).1,YT]at this;exact this.1
   ·have:=(a z).2 hp;rw[(w z).1,YT]at this;exact this.2
 ·rintro⟨a,b⟩ z;refine⟨λhp=>((w z).2.i _).mpr ⟨(a z).1 hp,(b z).1 hp⟩,λhp=>?_⟩;rw[(w z).1,(a z).2 hp,(b z).2 hp];rfl
def Nx(hn:Nms es)(hq:∀e∈es,q e=false->e.2= (false,h))(z:Str):fld (es.filter q) h z=fld es h z:=by
 induction es with
 |nil=>rfl
 |cons e es ih=>
   obtain⟨n1,n2⟩:=jf.mp hn;have ih:=ih n2 λx hx=>hq x (zA _ hx);rcases k:q e with _|_
   · rw[Yh (by rw[k];decide),ih]
     conv=>rhs;unfold fld
     split
     ·rename_i ez;rw[hq e (zH ..) k];refine B6 λhz=>?_;obtain⟨x,hx,ex⟩:=zF.mp hz;have:=n1 x hx;rw[ex,ez]at this;exact vC _ this
     ·rfl
   ·rw[Yg k];unfold fld;rw[ih]
open Classical in
def EC(h:α)(es:List (Str×Bool×α)):List (Str×Bool×α):=es.filter λe=>e.2.1||!decide (e.2.2=h)
structure gv(mem:α->NV->Prop)(s:Pt α):Prop where
 ns:s.ns= [(none,none)]
 b:s.b=false
 ss:s.ss= []
 bs:s.bs= [false,true]
 ls:∃m,s.ls=some ([],m)/\∀v,mem m v
 rs:∃m,s.rs=some ([],m)/\∀v,mem m v
def iT:Can [(none,none)]:=⟨λp hp _ _ e=>by rw[zB.mp hp]at e;exact J4 e,yF ..⟩
def Eb(he:Ext mem gd)(h:GdP mem gd s):(∀v,cA mem s v)↔gv mem s:=by
 constructor
 · intro a;have e2:=GT (c:=false) h.ss .nil λz=>⟨λ_ k=>(nomatch k),λ_=>a (.txt z)⟩;refine⟨PL h.ns iT λx=>⟨λ_=>⟨(none,none),zB.mpr rfl,λa e=>J4 e,λa e=>J4 e⟩,λ_=>a (.num x)⟩,e2.1,e2.2,aP _ h.bs _ (by decide) λk=>⟨λ_=>by cases k<;>decide,λ_=>a (.tru k)⟩,?_,?_⟩
   ·obtain⟨fs,m,e,hl,_⟩:=a (.lst 0 λ_=>.num 0);have:fs= []:=Ye.mp (Nat.le_zero.mp hl);subst this;refine⟨m,e,λv=>?_⟩;have:=a (.lst 1 λ_=>v);have:R3 mem s.ls 1 λ_=>v:=this;rw[e]at this;exact(X5.mp this).2 0 (by decide)
   · obtain⟨fs,m,e,hf⟩:=a (.rcd (λ_=>false) λ_=>.num 0);have al:∀z v,mem (fld fs m z).2 v:=λz v=>by
      have:E2 mem s.rs (λ_=>true) λ_=>v:=a (.rcd (λ_=>true) λ_=>v);rw[e]at this;exact(Q9.mp this z).1 rfl
     obtain⟨z,hz⟩:=fresh (fs.map (·.1));have hm:∀v,mem m v:=λv=>by have:=al z v;rwa [B6 hz]at this
     have g:=h.rs fs m e;have:fs= []:=List.eq_nil_iff_forall_not_mem.mpr λx hx=>by have k:=aH (m:=m) g.2.1 hx;have g2:=g.2.2 x hx;refine g2.2.2 (by rw[<-k];exact(hf x.1).2 rfl) (he _ _ g2.1 g.1 λv=>⟨λ_=>hm v,λ_=>by have:=al x.1 v;rwa [k]at this⟩)
     subst this;exact⟨m,e,hm⟩
 · rintro⟨h1,h2,h3,h4,⟨m,e,hm⟩,k,e',hk⟩ v;rcases v with i|z|b|⟨n,f⟩|⟨p,f⟩
   ·show inS s.ns i;rw[h1];exact⟨(none,none),zB.mpr rfl,λa e=>J4 e,λa e=>J4 e⟩
   ·show inT s.b s.ss z;rw[h2,h3];exact λk=>nomatch k
   · show b∈s.bs;rw[h4]
     cases b<;>decide
   ·show R3 mem s.ls n f;rw[e];exact X5.mpr ⟨zY _,λi _=>hm _⟩
   ·show E2 mem s.rs p f;rw[e'];exact Q9.mpr λz=>⟨λ_=>hk _,λ_=>rfl⟩
end
abbrev d4:Str:= "any"
def U6(n:Nat)(G:DH)(x y:D)(P:Prop):Prop:=∃k,eqN n G x y=some k/\(k=true↔P)
def U4(n:Nat)(G:DH)(x y:List D)(P:Prop):Prop:=∃k,eqL (eqN n G) x y=some k/\(k=true↔P)
def U6.tup(h:U4 n G a b P):U6 (n+1) G (.tup a) (.tup b) P:=by obtain⟨k,e,i⟩:=h;refine⟨k,?_,i⟩;rw[NA];show (if true=true then (if true=false/\_ then some false else eqL (eqN n G) a b)else some false)=_;rw[if_pos rfl,if_neg (λh=>Bool.noConfusion h.1),e]
def U4.nil:U4 n G [] [] True:=⟨true,rfl,by simp⟩
def U6.cons(h:U6 n G x y P)(t:U4 n G xs ys P'):U4 n G (x::xs) (y::ys) (P/\P'):=by obtain⟨k,e,i⟩:=h;obtain⟨k',e',i'⟩:=t;refine⟨k&&k',by rw[tH,e,e'],?_⟩;rw[Bool.and_eq_true_iff,i,i']
def U6.iff(h:U6 n G x y P)(i:P↔P'):U6 n G x y P':=h.elim λk z=>⟨k,z.1,z.2.trans i⟩
def U4.iff(h:U4 n G x y P)(i:P↔P'):U4 n G x y P':=h.elim λk z=>⟨k,z.1,z.2.trans i⟩
theorem U4.map{f:α->D}(h:∀a b,U6 n G (f a) (f b) (a=b)):∀l m:List α,U4 n G (l.map f) (m.map f) (l=m)
 |[], []=>U4.nil.iff (by simp)
 |[],_::_=>⟨false,rfl,by simp⟩
 |_::_, []=>⟨false,rfl,by simp⟩
 |a::l,b::m=>((h a b).cons (U4.map h l m)).iff (by rw[List.cons.injEq])
def VH(a b:Str):U6 (n+1) G (.str a) (.str b) (a=b):=⟨a==b,rfl,by simp⟩
def oJ(a b:Bool):U6 (n+1) G (.bl a) (.bl b) (a=b):=⟨a==b,rfl,by simp⟩
def NN(a b:Option Int):U6 (n+1) G (K2 a) (K2 b) (a=b):=by
 rcases a with _|a<;>rcases b with _|b
 ·exact⟨true,rfl,by simp⟩
 ·exact⟨false,rfl,by simp⟩
 ·exact⟨false,rfl,by simp⟩
 ·exact⟨a==b,rfl,by simp⟩
def AL(p q:Rg):U6 (n+2) G (rD p) (rD q) (p=q):=(U6.tup ((NN p.1 q.1).cons ((NN p.2 q.2).cons U4.nil))).iff (by rw[Prod.ext_iff];simp)
def iM(b c:Bool)(s t:List Str):U6 (n+3) G (D2 b s) (D2 c t) (b=c/\s=t):=(U6.tup ((VH (wrd b) (wrd c)).cons ((U6.tup (U4.map VH s t)).cons U4.nil))).iff (by
 have:wrd b=wrd c↔b=c:=by cases b<;>cases c<;>decide
 rw[this];simp)
def nL(h:U6 40 G x y P)(t:P->Q (.bl true) G)(f:¬P->Q (.bl false) G):Wp (eqD x y) G Q:=by
 obtain⟨k,e,i⟩:=h;refine dC.mpr ⟨k,e,?_⟩;rcases k with _|_
 ·exact f λp=>nomatch (i.mpr p)
 ·exact t (i.mp rfl)
section
variable(en:α->D)
def lsD:Option (List α×α)->D
 |none=>.non
 |some p=>.tup [.tup (p.1.map en),en p.2]
def fdE(e:Str×Bool×α):D:=.tup [.str e.1,.bl e.2.1,en e.2.2]
def rcD:Option (List (Str×Bool×α)×α)->D
 |none=>.non
 |some p=>.tup [.tup (p.1.map (fdE en)),en p.2]
def fiv(s:Pt α):List D:= [.tup (rsD s.ns),D2 s.b s.ss,.tup (s.bs.map D.bl),lsD en s.ls,rcD en s.rs]
def enS:Option (Pt α)->D
 |none=>.str d4
 |some s=>.tup (fiv en s)
def BB(N:Nat):Prop:=∀k G a b,U6 (k+(N+3)) G (en a) (en b) (a=b)
end
def enC:(n:Nat)->CS n->D
 |0=>λ_=>.str d4
 |n+1=>enS (enC n)
section
variable{α:Type}{en:α->D}{N:Nat}
def OQ(h:BB en N)(k:Nat)(G:DH)(a b:Option (List α×α)):U6 (k+(N+5)) G (lsD en a) (lsD en b) (a=b):=by
 rcases a with _|⟨fs,m⟩<;>rcases b with _|⟨gs,l⟩
 ·exact⟨true,rfl,by simp⟩
 ·exact⟨false,rfl,by simp⟩
 ·exact⟨false,rfl,by simp⟩
 ·have h2:=h (k+1) G m l;rw[show k+1+(N+3)=k+(N+3)+1 by lia]at h2;exact(U6.tup ((U6.tup (U4.map (h k G) fs gs)).cons (h2.cons U4.nil))).iff (by simp)
def cZ(h:BB en N)(k:Nat)(G:DH)(a b:Str×Bool×α):U6 (k+(N+4)) G (fdE en a) (fdE en b) (a=b):=
 (U6.tup ((VH a.1 b.1).cons ((oJ a.2.1 b.2.1).cons ((h k G a.2.2 b.2.2).cons U4.nil)))).iff (by rw[Prod.ext_iff,Prod.ext_iff];simp)
def rO(h:BB en N)(k:Nat)(G:DH)(a b:Option (List (Str×Bool×α)×α)):U6 (k+(N+6)) G (rcD en a) (rcD en b) (a=b):=by
 rcases a with _|⟨fs,m⟩<;>rcases b with _|⟨gs,l⟩
 ·exact⟨true,rfl,by simp⟩
 ·exact⟨false,rfl,by simp⟩
 ·exact⟨false,rfl,by simp⟩
 ·have h2:=h (k+2) G m l;rw[show k+2+(N+3)=k+(N+4)+1 by lia]at h2;exact(U6.tup ((U6.tup (U4.map (cZ h k G) fs gs)).cons (h2.cons U4.nil))).iff (by simp)
def VX(h:BB en N):BB (enS en) (N+4):=by
 intro k G a b;rcases a with _|a<;>rcases b with _|b
 ·exact⟨true,rfl,by simp⟩
 ·exact⟨false,rfl,by simp⟩
 ·exact⟨false,rfl,by simp⟩
 · have h2:=OQ h (k+1) G a.ls b.ls;rw[show k+1+(N+5)=k+(N+6) by lia]at h2;exact(U6.tup ((U6.tup (U4.map (AL) a.ns b.ns)).cons ((iM a.b b.b a.ss b.ss).cons ((U6.tup (U4.map (oJ) a.bs b.bs)).cons (h2.cons ((rO h k G a.rs b.rs).cons U4.nil)))))).iff (by obtain⟨a1,a2,a3,a4,a5,a6⟩:=a;obtain⟨b1,b2,b3,b4,b5,b6⟩:=b;simp only[zN,Pt.mk.injEq,and_assoc,and_true])
end
theorem DF:∀n,BB (enC n) (4*n)
 |0=>λk G a b=>(VH d4 d4).iff ⟨λ_=>rfl,λ_=>rfl⟩
 |n+1=>VX (DF n)
def eD(hn:n<=8)(G:DH)(a b:CS n):U6 40 G (enC n a) (enC n b) (a=b):=by have:=DF n (37-4*n) G a b;rwa [show 37-4*n+(4*n+3)=40 by lia]at this
def eP(h:enC n a=enC n b):a=b:=by
 obtain⟨k,e,i⟩:=DF n 0 [] a b;obtain⟨k',e',i'⟩:=DF n 0 [] a a;rw[<-h,e']at e
 cases e
 exact i.mp (i'.mpr rfl)
def D4(α:Type):Pt α:=⟨[],true, [], [],none,none⟩
def E4:D:=.tup [.tup [],D2 true [],.tup [],.non,.non]
section
variable{α:Type}{mem:α->NV->Prop}{gd:α->Prop}
def FG(v:NV):¬cA mem (D4 α) v:=by
 rcases v with i|z|b|⟨n,f⟩|⟨p,f⟩
 ·exact qB
 ·exact λh=>(nomatch h)
 ·exact λh=>(nomatch h)
 ·exact X6
 ·exact sA
def VN:GdS mem gd (some (D4 α)):=⟨⟨⟨λ_ h=>(nomatch h),.nil⟩,.nil,show []∈B4 by decide,λ_ _ e=>(nomatch e),λ_ _ e=>(nomatch e)⟩,λh=>FG (.num 0) (h _)⟩
end
def Gp:∀ {n} {a},Gd n a->(enC n a=E4↔∀v,¬inC n a v)
 |0,a,_=>⟨λe=>D.noConfusion e,λe=>absurd trivial (e (.num 0))⟩
 |n+1,a,h=>⟨λe v k=>by
   have:a=some (D4 _):=eP e;rw[this]at k;exact FG v k,λe=>by
   have:a=some (D4 _):=cD (n+1) _ _ h VN λv=>⟨λk=>absurd k (e v),λk=>absurd k (FG v)⟩;rw[this];rfl⟩
def VB:∀ {n} (hn:n<=8) G a,Gd n a->U6 40 G (enC n a) E4 (∀v,¬inC n a v)
 |0,_,_,a,_=>⟨false,rfl,λe=>(nomatch e),λe=>absurd trivial (e (.num 0))⟩
 |n+1,hn,G,a,h=>(eD hn G a (some (D4 _))).iff ((show a=some (D4 _)↔enC (n+1) a=E4 from⟨λe=>by rw[e];rfl,λe=>eP e⟩).trans (Gp h))
def fb:Nat->Nat->Nat
 |0,_=>0
 |_+1,k=>k
def L9:∀n k,fb n k<=k
 |0,_=>zY _
 |_+1,_=>zp _
def Cn:∀n j k,fb n (j+k)=fb n j+fb n k
 |0,_,_=>rfl
 |_+1,_,_=>rfl
def mP(n:Nat)(h:j<=k):fb n j<=fb n k:=by
 cases n
 ·exact zp _
 ·exact h
structure SzP{α:Type}(sz:α->Prop)(k f:Nat)(s:Pt α):Prop where
 ns:s.ns.length<=k
 ss:s.ss.length<=k
 tx:∀z∈s.ss,Tx z
 ls:∀fs m,s.ls=some (fs,m)->fs= []/\sz m
 rs:∀fs m,s.rs=some (fs,m)->fs.length<=f/\sz m/\∀e∈fs,sz e.2.2/\Tx e.1/\0<e.1.length
def SzC:(n:Nat)->Nat->CS n->Prop
 |0,_=>λ_=>True
 |n+1,k=>λa=>∀s,a=some s->SzP (SzC n k) k (fb n k) s
section
variable{α:Type}{mem:α->NV->Prop}{gd:α->Prop}
def dh(hn:Nms es)(z:Str):fld (EC h es) h z=fld es h z:=Nx hn (λe he k=>by rcases e with⟨x,b,a⟩;simp only[YT,Bool.not_eq_false',decide_eq_true_eq]at k;exact XF k.1 k.2) z
def qf(hn:Nms es)(p:Str->Bool)(f:Str->NV):E2 mem (some (EC h es,h)) p f↔E2 mem (some (es,h)) p f:=by rw[Q9,Q9];exact forall_congr' λz=>by rw[dh hn]
def Lg(hn:Nms es)(he:e∈es)(hm:e.2.1=true)(no:∀v,¬mem e.2.2 v)(p:Str->Bool)(f:Str->NV):¬E2 mem (some (es,h)) p f:=λz=>by
 have a:=Q9.mp z e.1;rw[aH hn he]at a;rcases hp:p e.1 with _|_
 · have:=a.2 hp;rw[hm]at this
   cases this
 ·exact no _ (a.1 hp)
def EB(gd:α->Prop)(r:Option (List α×α)):Prop:=∀fs m,r=some (fs,m)->gd m/\∀a∈fs,gd a
def c8(gd:α->Prop)(r:Option (List (Str×Bool×α)×α)):Prop:=∀fs m,r=some (fs,m)->gd m/\Nms fs/\∀e∈fs,gd e.2.2
end
section
variable{n:Nat}{G:DH}
structure LiQ(n:Nat)(r0 r:Option (List (CS n)×CS n)):Prop where
 good:i7 (inC n) (Gd n) r
 mem:∀k f,R3 (inC n) r k f↔R3 (inC n) r0 k f
 one:r=none\/r=r0
def Bc(h:EB (Gd n) r)(hf:∀fs m,r=some (fs,m)->fs= []):Wp (vG [lsD (enC n) r]) G λx G'=>G'=G/\∃r',x=lsD (enC n) r'/\LiQ n r r':=by
 rcases r with _|⟨fs,m⟩
 ·exact O2 rfl ⟨rfl,none,rfl,λ_ _ e=>(nomatch e),λ_ _=>Iff.rfl,.inl rfl⟩
 · cases hf fs m rfl
   refine v9 (show Wp (EJ [some (.tup [.tup [],enC n m])]) G _ from ?_);refine u5<| GL.mpr<| E8<| b8 rfl ⟨λz=>(nomatch z),λ_=>J6<| v8 rfl rfl<| b8 rfl ⟨_,rfl,b8 rfl (u0 ⟨rfl,some ([],m),rfl,?_,λ_ _=>Iff.rfl,.inr rfl⟩)⟩⟩;rintro _ _ ⟨⟩;exact⟨(h _ _ rfl).1,λ_ h=>nomatch h⟩
structure ReQ(n:Nat)(r0 r:Option (List (Str×Bool×CS n)×CS n)):Prop where
 good:U3 (inC n) (Gd n) r
 mem:∀k f,E2 (inC n) r k f↔E2 (inC n) r0 k f
 one:r=none\/∃es h,r0=some (es,h)/\r=some (EC h es,h)
def noB(G:DH):D->Bool
 | .tup [_,.bl t,s]=>t&&(eqN 40 G s E4).getD false
 |_=>false
def stB(G:DH)(m:D):D->Bool
 | .tup [_,.bl t,s]=>t||!(eqN 40 G s m).getD false
 |_=>false
def TV{l:List D}(h:G[r]? =some (.lst (l.map λx=>.bl (f x)))):Wp (iB [.ref r]) G Q↔Q (.bl (l.any f)) G:=by
 have h0:iB [.ref r]= (do
  let l <-N5 r >>= DL.listOf
  let bs <-S1 (L8 l)
  pure (.bl (bs.any id))):=rfl
 rw[h0];simp only[j7,N6,h,O9,DL.listOf,wp_pure,S4,kF,ZJ];rfl
def qp(hn:n<=8)(h:c8 (Gd n) r)(hl:∀es m,r=some (es,m)->es.length<=10000):Wp (Z2 [rcD (enC n) r]) G λx G'=>Ap G G'/\∃r',x=rcD (enC n) r'/\ReQ n r r':=by
 rcases r with _|⟨es,m⟩
 ·exact O2 rfl ⟨Ap.refl,none,rfl,λ_ _ e=>(nomatch e),λ_ _=>Iff.rfl,.inl rfl⟩
 · obtain⟨hm,hnm,hf⟩:=h es m rfl;have hl:=hl es m rfl;have hc1:K7 (A5 3 (R0 H0 (R0 C2 (R0 C1 (D5))))) K1 (T4 x0 (j5 eqD y0 (cE (.tup [.tup [],.tup [.str ("of" :Str),.tup []],.tup [],.non,.non])))) (λ_=>true) (es.map (fdE (enC n))) (T9 [none,none,none] [some (.tup [.tup (es.map (fdE (enC n))),enC n m])]) G=some (.ok ((es.map (fdE (enC n))).map λd=>.bl (noB G d)),G):=by
    refine eE (I:=λσ=>∃a b c,σ= [a,b,c]) rfl _ _ ⟨_,_,_,rfl⟩ λd hd σ WS=>?_;obtain⟨f,hf',rfl⟩:=zF.mp hd;obtain⟨a,b,c,rfl⟩:=WS;obtain⟨q,e,_⟩:=VB hn G f.2.2 (hf f hf');refine⟨[some (.str f.1),some (.bl f.2.1),some (enC n f.2.2)],rfl,⟨_,_,_,rfl⟩,rfl,R9 ?_⟩;have en:noB G (fdE (enC n) f)= (f.2.1&&(eqN 40 G (enC n f.2.2) E4).getD false):=rfl;rw[en,e];refine uC.mpr<| b8 rfl<| Q4.mpr ?_;rcases f.2.1 with _|_
    ·exact⟨rfl,rfl⟩
    ·exact v8 rfl rfl<| dC.mpr ⟨q,e,rfl,rfl⟩
   have hb:(es.map (fdE (enC n))).any (noB G)=true↔∃f∈es,f.2.1=true/\∀v,¬inC n f.2.2 v:=by rw[ZJ,xh];refine exists_congr λf=>and_congr_right λhf'=>?_;obtain⟨q,e,hq⟩:=VB hn G f.2.2 (hf f hf');show (f.2.1&&(eqN 40 G (enC n f.2.2) E4).getD false)=true↔_;rw[e,jk];exact and_congr_right λ_=>hq
   refine v9 (show Wp (lL [some (.tup [.tup (es.map (fdE (enC n))),enC n m])]) G _ from ?_);refine d9.mpr<| X3<| E8<| b8 rfl ⟨λz=>(nomatch z),λ_=>h9.mpr<| O6<| m6<| V6 rfl (by rw[zg];exact hl)<| b8 hc1<| j9.mpr<| (TV j6).mpr<| Q4.mpr ⟨λg=>?_,λg=>m5.mpr ?_⟩⟩
   ·obtain⟨e,he,h1,h2⟩:=hb.mp g;exact b8 rfl (u0 ⟨Ap.one,none,rfl,λ_ _ e=>(nomatch e),λp f=>⟨λz=>absurd z sA,λz=>absurd z (Lg hnm he h1 h2 p f)⟩,.inl rfl⟩)
   · have Et:∀f∈es,f.2.1=true->∃v,inC n f.2.2 v:=λf hf' a=>js λb=>by
      have:=hb.mpr ⟨f,hf',a,λv k=>b ⟨v,k⟩⟩;rw[this]at g
      cases g
     have j1:Ap G (G++[.lst ((es.map (fdE (enC n))).map λd=>.bl (noB G d))]):=Ap.one;generalize G++[DO.lst ((es.map (fdE (enC n))).map λd=>.bl (noB G d))]=G1 at j1;have hc:K7 H0 (orT (J2 (ixE g0 C0)) (tBn neD (ixE g0 K0) (ixE x0 C0))) g0 (λ_=>true) (es.map (fdE (enC n))) (T9 [none,some 0] [some (.tup [.tup (es.map (fdE (enC n))),enC n m])]) G1=some (.ok ((es.map (fdE (enC n))).filter (stB G1 (enC n m))),G1):=by
      refine aC rfl (λσ=>∃u,σ= [u,some (.tup [.tup (es.map (fdE (enC n))),enC n m])]) _ _ ⟨none,rfl⟩ λd hd σ WS=>?_;obtain⟨f,hf',rfl⟩:=zF.mp hd;obtain⟨u,rfl⟩:=WS;refine⟨[some (fdE (enC n) f),some (.tup [.tup (es.map (fdE (enC n))),enC n m])],rfl,⟨_,rfl⟩,R9 ?_,rfl⟩;obtain⟨q,e,_⟩:=eD hn G1 f.2.2 m;refine E8<| b8 rfl ⟨λg=>⟨?_,rfl⟩,λg=>J6<| v8 rfl rfl<| r8.mpr ⟨q,e,_,rfl,?_,rfl⟩⟩
      ·show true= (f.2.1||!(eqN 40 G1 (enC n f.2.2) (enC n m)).getD false);rw[g];rfl
      ·show (!q)= (f.2.1||!(eqN 40 G1 (enC n f.2.2) (enC n m)).getD false);rw[g,e];rfl
     have ef:(es.map (fdE (enC n))).filter (stB G1 (enC n m))= (EC m es).map (fdE (enC n)):=by rw[Yx];unfold EC;congr 1;refine List.filter_congr λf _=>?_;obtain⟨q,e,hq⟩:=eD hn G1 f.2.2 m;show (f.2.1||!(eqN 40 G1 (enC n f.2.2) (enC n m)).getD false)=_;rw[e];congr 2;rw[Bool.eq_iff_iff];exact hq.trans (@decide_eq_true_iff _ (Classical.propDecidable _)).symm
     rw[ef]at hc;refine u5<| S7.mpr<| m6<| O6<| m6<| V6 rfl (by rw[zg];exact hl)<| b8 hc<| j9.mpr<| (M7 j6).mpr<| b8 rfl ⟨sz,u0 ⟨j1.trans Ap.one,some (EC m es,m),rfl,?_,qf hnm,.inr ⟨es,m,rfl,rfl⟩⟩⟩;rintro _ _ ⟨⟩;refine⟨hm,hnm.sublist ZG,λe he=>?_⟩;obtain⟨h1,h2⟩:=jL.mp he;refine⟨hf e h1,Et e h1,λhb hm=>?_⟩;simp only[hb,hm,decide_true]at h2
     cases h2
end
theorem l9(J:DH->Prop)(S:DSt->Prop)(rel:D->D->Prop)(Gn:∀G,J G->ck G=true):∀items σ G,S σ->J G->
 (∀d∈items,∀ σ G,S σ->J G->Wp (g d σ) G λWZ G1=>G1=G/\S WZ/\Wp (e WZ) G λy G3=>J G3/\rel d y)->
 Wp (K7 g K1 e ck items σ) G λys G'=>J G'/\∃zs:List (D×D),zs.map (·.1)=items/\ys=zs.map (·.2)/\∀z∈zs,rel z.1 z.2
 |[],σ,G,s,j,_=>rA.mpr ⟨Gn G j,j, [],rfl,rfl,λ_ h=>nomatch h⟩
 |d::r,σ,G,s,j,step=>by
   refine KB.mpr ⟨Gn G j,(step d (zH ..) σ G s j).mono λWZ G1 ⟨e1,s1,w1⟩=>?_⟩;subst e1;refine b8 rfl ?_;rw[if_pos rfl];refine w1.mono λy G3 ⟨j3,py⟩=>?_;refine(l9 J S rel Gn r WZ G3 s1 j3 λd hd=>step d (zA _ hd)).mono λys G4 ⟨j4,zs,h1,h2,h3⟩=>⟨j4,(d,y)::zs,by rw[zO,h1],by rw[zO,h2],λz hz=>?_⟩;rcases zy.mp hz with rfl|hz
   ·exact py
   ·exact h3 z hz
theorem uD{P:D->β->Prop}:∀zs:List (D×D),(∀z∈zs,∃m,z.2=e m/\P z.1 m)->∃hs:List β,zs.map (·.2)=hs.map e/\hs.length=zs.length/\∀(i:Nat) a d,hs[i]? =some a->(zs.map (·.1))[i]? =some d->P d a
 |[],_=>⟨[],rfl,rfl,λi a d h=>by simp at h⟩
 |z::zs,h=>by
   obtain⟨m,e1,p1⟩:=h z (zH ..);obtain⟨hs,e2,l2,p2⟩:=uD zs λx hx=>h x (zA _ hx);refine⟨m::hs,by rw[zO,zO,e1,e2],by rw[zM,zM,l2],λi a d ha hd=>?_⟩;rcases i with _|i
   ·simp only[zO,zI,zN]at ha hd;rw[<-ha,<-hd];exact p1
   ·simp only[zO,ja]at ha hd;exact p2 i a d ha hd
def MAt(n:Nat)(R:List D->M D)(j k:Nat):Prop:=∀(s t:CS n) (G:DH),Gd n s->Gd n t->SzC n j s->SzC n k t->Wp (R [enC n s,enC n t]) G λx G'=>Ap G G'/\∃m,x=enC n m/\IsM (inC n) (Gd n) s t m/\SzC n (j+k) m
def lsZ(n k:Nat)(r:Option (List (CS n)×CS n)):Prop:=∀fs m,r=some (fs,m)->fs= []/\SzC n k m
structure MlQ(n k:Nat)(a b r:Option (List (CS n)×CS n)):Prop where
 raw:EB (Gd n) r
 mem:∀q f,R3 (inC n) r q f↔R3 (inC n) a q f/\R3 (inC n) b q f
 sz:lsZ n k r
def sW(ih:MAt n R j k)(ga:EB (Gd n) a)(gb:EB (Gd n) b)(sa:lsZ n j a)(sb:lsZ n k b):Wp (QE R [lsD (enC n) a,lsD (enC n) b]) G λx G'=>Ap G G'/\∃r,x=lsD (enC n) r/\MlQ n (j+k) a b r:=by
 rcases a with _|⟨fs,m⟩
 ·exact O2 rfl ⟨Ap.refl,none,rfl,λ_ _ e=>(nomatch e),λ_ _=>⟨λz=>absurd z X6,λz=>absurd z.1 X6⟩,λ_ _ e=>(nomatch e)⟩
 rcases b with _|⟨gs,l⟩
 ·exact O2 rfl ⟨Ap.refl,none,rfl,λ_ _ e=>(nomatch e),λ_ _=>⟨λz=>absurd z X6,λz=>absurd z.2 X6⟩,λ_ _ e=>(nomatch e)⟩
 obtain⟨rfl,zm⟩:=sa fs m rfl;obtain⟨rfl,zl⟩:=sb gs l rfl;refine v9 (show Wp (dH R [some (.tup [.tup [],enC n m]),some (.tup [.tup [],enC n l]),none,none]) G _ from ?_);unfold dH;refine u6 (X1:= [_,_,none,none]) rfl<| u6 (X1:= [_,_,some (.int 0),none]) rfl<| d9.mpr<| M3<| AJ rfl (by decide) (by decide)<| rA.mpr ⟨rfl,?_⟩;refine u5<| S7.mpr<| m6<| L5 rfl<| (M7 j6).mpr<| m6<| j8 rfl rfl<| (ih m l _ (ga _ _ rfl).1 (gb _ _ rfl).1 zm zl).mono ?_;rintro _ G1 ⟨a1,c,rfl,hc,sc⟩;refine j9.mpr ⟨sz,u0 ⟨Ap.one.trans a1,some ([],c),rfl,?_,λq f=>?_,?_⟩⟩
 ·rintro _ _ ⟨⟩;exact⟨hc.g,λ_ h=>nomatch h⟩
 ·rw[X5,X5,X5];exact⟨λh=>⟨⟨h.1,λi hi=>((hc.i _).mp (h.2 i hi)).1⟩,⟨h.1,λi hi=>((hc.i _).mp (h.2 i hi)).2⟩⟩,λh=>⟨h.1.1,λi hi=>(hc.i _).mpr ⟨h.1.2 i hi,h.2.2 i hi⟩⟩⟩
 ·rintro _ _ ⟨⟩;exact⟨rfl,sc⟩
def fA(e:G[p]? =some (.lst l)):ckO p (.lst l) G=true:=by simp only[ckO,e];simp
theorem lP:∀(r Ek:List (Str×D)),((Ek++r).map (·.1)).Nodup->DL.putAll (Ek.map λp=>((.inr p.1:Key),p.2)) (r.map λp=>((.inr p.1:Key),p.2))= (Ek++r).map λp=>((.inr p.1:Key),p.2)
 |[],Ek,h=>by simp[DL.putAll]
 |p::r,Ek,h=>by
   have hn:¬((Ek.map λp=>((.inr p.1:Key),p.2)).any λkv=>decide (kv.1= .inr p.1))=true:=by intro q;obtain⟨kv,hk,e⟩:=xh.mp q;obtain⟨x,hx,rfl⟩:=zF.mp hk;have ex:x.1=p.1:=Sum.inr.inj (of_decide_eq_true e);rw[jD,yW]at h;exact h.2.2 x.1 (zF.mpr ⟨x,hx,rfl⟩) p.1 (by simp) ex
   have e1:i6 (Ek.map λp=>((.inr p.1:Key),p.2)) (.inr p.1) p.2= (Ek++[p]).map λp=>((.inr p.1:Key),p.2):=by unfold i6;rw[if_neg hn,jD];rfl
   have ih:=lP r (Ek++[p]) (by simpa using h);show DL.putAll (i6 (Ek.map λp=>((.inr p.1:Key),p.2)) (.inr p.1) p.2) (r.map λp=>((.inr p.1:Key),p.2))=_;rw[e1,ih];simp
def pD(n:Nat)(x:Bool×CS n):D:=.tup [.bl x.1,enC n x.2]
def tvE(n:Nat)(e:Str×Bool×CS n):Key×D:=(.inr e.1,pD n e.2)
theorem cQ:∀es:List (Str×Bool×CS n),g9 (es.map λf=>.tup [.str f.1,pD n f.2])=some (es.map (tvE n))
 |[]=>rfl
 |f::r=>by have:=cQ r;rw[zO,zO];unfold g9;simp only[this];rfl
def Fc(es:List (Str×Bool×CS n))(h:(es.map (·.1)).Nodup):putAll [] (es.map (tvE n))=es.map (tvE n):=by
 have e:es.map (tvE n)= (es.map λf=>((f.1,pD n f.2):Str×D)).map λp=>((.inr p.1:Key),p.2):=by rw[jZ];rfl
 have:=lP (es.map λf=>((f.1,pD n f.2):Str×D)) [] (by simpa [jZ,xt]using h);simp only[ZI,xw]at this;rw[e,this]
theorem eK:∀es:List (Str×Bool×CS n),v7 (es.map (tvE n))=some (es.map (·.1))
 |[]=>rfl
 |f::r=>by have:=eK r;rw[zO,zO];show (v7 (r.map (tvE n))).map (f.1 :: ·)=_;rw[this];rfl
theorem uS(m:CS n)(z:Str):∀es:List (Str×Bool×CS n),(U0 (es.map (tvE n)) (.inr z)).getD (pD n (false,m))=pD n (fld es m z)
 |[]=>rfl
 |f::r=>by
   rw[zO];unfold fld;by_cases e:f.1=z
   · have h1:U0 (tvE n f::r.map (tvE n)) (.inr z)=some (pD n f.2):=by unfold U0 tvE;simp[e]
     rw[h1,if_pos e];rfl
   · have h1:U0 (tvE n f::r.map (tvE n)) (.inr z)=U0 (r.map (tvE n)) (.inr z):=by unfold U0 tvE;simp[e]
     rw[h1,if_neg e];exact uS m z r
def LM{es:List (Str×Bool×CS n)}(h:Nms es):(es.map (·.1)).Nodup:=by rw[ZQ,yh];refine Yy ?_ h;intro a b k e;rw[e]at k;exact vC _ k
def iP{es:List (Str×Bool×CS n)}(h:Nms es)(hl:es.length<=10000):Wp (V1 [rcD (enC n) (some (es,m))]) G λx G'=>∃p,x= .ref p/\G'[p]? =some (.dct (es.map (tvE n)))/\Ap G G':=by
 refine v9 (show Wp (NH [some (.tup [.tup (es.map (fdE (enC n))),enC n m])]) G _ from ?_);unfold NH;have e2:((es.map (fdE (enC n))).map λd:D=>(match d with| .tup [a,b,c]=>.tup [a,.tup [b,c]]|_=>.non:D))=es.map λf=>.tup [.str f.1,pD n f.2]:=by rw[jZ];rfl
 have hc:K7 (A5 3 (R0 H0 (R0 C2 (R0 C1 (D5))))) K1 (T0 g0 (T0 x0 y0)) (λ_=>true) (es.map (fdE (enC n))) (T9 [none,none,none] [some (.tup [.tup (es.map (fdE (enC n))),enC n m])]) G=some (.ok ((es.map (fdE (enC n))).map λd:D=>(match d with| .tup [a,b,c]=>.tup [a,.tup [b,c]]|_=>.non:D)),G):=by refine eE (I:=λσ=>∃a b c,σ= [a,b,c]) rfl _ _ ⟨_,_,_,rfl⟩ λd hd σ WS=>?_;obtain⟨f,hf,rfl⟩:=zF.mp hd;obtain⟨a,b,c,rfl⟩:=WS;exact⟨[some (.str f.1),some (.bl f.2.1),some (enC n f.2.2)],rfl,⟨_,_,_,rfl⟩,rfl,rfl⟩
 rw[e2]at hc;refine u5<| O6<| m6<| V6 rfl (by rw[zg];exact hl)<| b8 hc<| j9.mpr<| (tS j6 (cQ es)).mpr<| u0 ⟨_,rfl,?_,Ap.one.trans Ap.one⟩;rw[Fc es (LM h)];exact j6
def pO(e:G[q]? =some (.dct (es.map (tvE n)))):AB [.ref q,enC n m,.str z] G=some (.ok (pD n (fld es m z)),G):=R9<| by
 refine v9 (show Wp (CK [sRf q,some (enC n m),some (.str z)]) G _ from ?_);refine u5<| x5.mpr<| b8 rfl<| (Rx e).mpr<| b8 rfl<| (lf e).mpr<| u0 ⟨?_,rfl⟩;exact uS m z es
def itD(n:Nat)(fs:List (Str×Bool×CS n))(m:CS n)(gs:List (Str×Bool×CS n))(k:CS n)(z:Str):D:=.tup [.str z,pD n (fld fs m z),pD n (fld gs k z)]
theorem mQ:∀(l ss:List Str) z,z∈l.foldl ddT ss↔z∈ss\/z∈l
 |[],ss,z=>by simp
 |k::l,ss,z=>by
   rw[yk,mQ l,zy];unfold ddT;split
   ·rename_i h;exact⟨λa=>a.imp id .inr,λa=>a.elim .inl λb=>b.elim (λc=>.inl (by rw[c];exact h)) .inr⟩
   ·rw[jd,zB,or_assoc]
theorem QP:∀(l ss:List Str),ss.Nodup->(l.foldl ddT ss).Nodup
 |[],ss,h=>h
 |k::l,ss,h=>by
   rw[yk];refine QP l _ ?_;unfold ddT;split
   ·exact h
   ·rename_i hk;exact yW.mpr ⟨h,by simp,λa ha b hb e=>hk (by rw[<-zB.mp hb,<-e];exact ha)⟩
def gQ(h:l.Nodup):(O8 l).Pairwise nlt:=by
 have h2:(O8 l).Pairwise λa b=>leS a b=true:=xZ TK cP l;have h3:(O8 l).Nodup:=(jv l leS).nodup_iff.mpr h;refine(h2.and (ZQ.mp h3)).imp λ{a b} k=>?_;rcases Classical.em (nlt a b)with x|x
 ·exact x
 ·exact absurd (ET k.1 (by unfold leS;simpa using x)) k.2
def Ci{fs gs:List (Str×Bool×CS n)}(h1:Nms fs)(h2:Nms gs)(hl:fs.length+gs.length<=47):Wp (sJ [rcD (enC n) (some (fs,m)),rcD (enC n) (some (gs,k))]) G λx G'=>∃(p:Nat) (ws:List Str),x= .ref p/\G'[p]? =some (.lst (ws.map (itD n fs m gs k)))/\ws.Pairwise nlt/\(∀z,z∈ws↔z∈fs.map (·.1)\/z∈gs.map (·.1))/\ws.length<=fs.length+gs.length/\Ap G G':=by
 generalize hA:rcD (enC n) (some (fs,m))=A;generalize hB:rcD (enC n) (some (gs,k))=B;have A0:A= .tup [.tup (fs.map (fdE (enC n))),enC n m]:=hA.symm;have B0:B= .tup [.tup (gs.map (fdE (enC n))),enC n k]:=hB.symm;refine v9 (show Wp (fJ [some A,some B,none,none]) G _ from ?_);unfold fJ;refine d9.mpr<| M3<| j8 rfl rfl ?_;rw[<-hA];refine(iP h1 (by lia)).mono ?_;rintro _ G1 ⟨p,rfl,e1,a1⟩;rw[hA];refine d9.mpr<| M3<| j8 rfl rfl ?_;rw[<-hB];refine(iP h2 (by lia)).mono ?_;rintro _ G2 ⟨q,rfl,e2,a2⟩;rw[hB];have e1:=a2.at e1;have Ei:((gs.map (·.1)).foldl ddT (fs.map (·.1))).length<=fs.length+gs.length:=by have:=iD (gs.map (·.1)) (fs.map (·.1));rw[zg,zg]at this;exact this
 have hS:=gQ (QP (gs.map (·.1)) (fs.map (·.1)) (LM h1));have hM:∀z,z∈O8 ((gs.map (·.1)).foldl ddT (fs.map (·.1)))↔z∈fs.map (·.1)\/z∈gs.map (·.1):=λz=>((jv _ leS).mem_iff).trans (mQ _ _ z);have hN:(O8 ((gs.map (·.1)).foldl ddT (fs.map (·.1)))).length<=fs.length+gs.length:=zK (xP (jv _ leS).length_eq) Ei;refine u5<| wp_comp.mpr<| wp_itW.mpr<| Bb rfl rfl e1 e2 (eK fs) (eK gs) (by rw[zg,zg];exact hl) ?_;generalize O8 ((gs.map (·.1)).foldl ddT (fs.map (·.1)))=ws at hS hM hN;have e1:=(Ap.one (o:=.lst (ws.map D.str))).at e1;have e2:=(Ap.one (o:=.lst (ws.map D.str))).at e2;refine(vA j6).mpr ⟨?_,?_⟩
 ·have:=big;rw[zg];lia
 have hc:∀G3 (ck:DH->Bool),ck G3=true->G3[p]? =some (.dct (fs.map (tvE n)))->G3[q]? =some (.dct (gs.map (tvE n)))->K7 H0 K1 (cC g0 (wB AB x0 (ixE y0 C0) g0) (wB AB S0 (ixE O0 C0) g0)) ck (ws.map D.str) (T9 [none,some 2,some 0,some 1,some 3] [some A,some B,sRf p,sRf q]) G3=some (.ok ((ws.map D.str).map λd=>match d with| .str z=>itD n fs m gs k z|_=>.non),G3):=λG3 ck hk e1 e2=>by refine eE (I:=λσ=>∃u,σ= [u,sRf p,some A,some B,sRf q]) hk _ _ ⟨_,rfl⟩ λd hd σ WS=>?_;obtain⟨z,hz,rfl⟩:=zF.mp hd;obtain⟨u,rfl⟩:=WS;refine⟨[some (.str z),sRf p,some A,some B,sRf q],rfl,⟨_,rfl⟩,rfl,R9 ?_⟩;refine S7.mpr<| R4 rfl<| m6<| j8 (by rw[A0];rfl) rfl<| b8 (pO e1) ?_;exact m6<| j8 (by rw[B0];rfl) rfl<| b8 (pO e2)<| j9.mpr ⟨sz,rfl,rfl⟩
 refine b8 (hc _ _ (fA j6) e1 e2) (u0 ⟨_,ws,rfl,?_,hS,hM,hN,a1.trans (a2.trans (Ap.one.trans Ap.one))⟩);rw[j6,jZ];rfl
def rsZ(n k:Nat)(r:Option (List (Str×Bool×CS n)×CS n)):Prop:=∀fs m,r=some (fs,m)->fs.length<=fb n k/\SzC n k m/\∀e∈fs,SzC n k e.2.2/\Tx e.1/\0<e.1.length
def KF(h:c8 (Gd n) (some (fs,m)))(z:Str):Gd n (fld fs m z).2:=by
 by_cases hz:z∈fs.map (·.1)
 ·exact(h fs m rfl).2.2 _ (HB hz)
 ·rw[B6 hz];exact(h fs m rfl).1
def fF(h:rsZ n k (some (fs,m)))(z:Str):SzC n k (fld fs m z).2:=by
 by_cases hz:z∈fs.map (·.1)
 ·exact((h fs m rfl).2.2 _ (HB hz)).1
 ·rw[B6 hz];exact(h fs m rfl).2.1
structure MrQ(n k:Nat)(a b r:Option (List (Str×Bool×CS n)×CS n)):Prop where
 raw:c8 (Gd n) r
 mem:∀p f,E2 (inC n) r p f↔E2 (inC n) a p f/\E2 (inC n) b p f
 sz:rsZ n k r
def FdQ(n k:Nat)(fs:List (Str×Bool×CS n))(m:CS n)(gs:List (Str×Bool×CS n))(l:CS n)(z:Str)(c:Str×Bool×CS n):Prop:=c.1=z/\c.2.1= ((fld fs m z).1||(fld gs l z).1)/\IsM (inC n) (Gd n) (fld fs m z).2 (fld gs l z).2 c.2.2/\SzC n k c.2.2
def OX(hjk:j+k<=47)(ih:MAt n R j k)(ga:c8 (Gd n) a)(gb:c8 (Gd n) b)(sa:rsZ n j a)(sb:rsZ n k b):Wp (WE R [rcD (enC n) a,rcD (enC n) b]) G λx G'=>Ap G G'/\∃r,x=rcD (enC n) r/\MrQ n (j+k) a b r:=by
 rcases a with _|⟨fs,m⟩
 ·exact O2 rfl ⟨Ap.refl,none,rfl,λ_ _ e=>(nomatch e),λ_ _=>⟨λz=>absurd z sA,λz=>absurd z.1 sA⟩,λ_ _ e=>(nomatch e)⟩
 rcases b with _|⟨gs,l⟩
 ·exact O2 rfl ⟨Ap.refl,none,rfl,λ_ _ e=>(nomatch e),λ_ _=>⟨λz=>absurd z sA,λz=>absurd z.2 sA⟩,λ_ _ e=>(nomatch e)⟩
 have l1:=(sa fs m rfl).1;have k1:=L9 n j;have k2:=L9 n k;have k3:=Cn n j k;have l2:=(sb gs l rfl).1;generalize hA:rcD (enC n) (some (fs,m))=A;generalize hB:rcD (enC n) (some (gs,l))=B;have A0:A= .tup [.tup (fs.map (fdE (enC n))),enC n m]:=hA.symm;have B0:B= .tup [.tup (gs.map (fdE (enC n))),enC n l]:=hB.symm;refine v9 (show Wp (pJ R [some A,some B,none]) G _ from ?_);unfold pJ;refine u6 (X1:= [some A,some B,none]) (by rw[A0,B0];rfl) ?_;refine d9.mpr<| M3<| wp_comp.mpr<| wp_itW.mpr<| j8 rfl rfl ?_;rw[<-hA,<-hB];refine(Ci (ga _ _ rfl).2.1 (gb _ _ rfl).2.1 (by lia)).mono ?_;rintro _ G1 ⟨p,ws,rfl,e1,hS,hM,hN,a1⟩;rw[hA,hB];refine(vA e1).mpr ⟨?_,?_⟩
 ·have:=big;rw[zg];lia
 refine(l9 (λG'=>Ap G1 G') (λσ=>∃u v w,σ= [u,v,w]) (λd y=>∀z,d=itD n fs m gs l z->∃c,y=fdE (enC n) c/\FdQ n (j+k) fs m gs l z c) (λG' a=>fA (a.at e1)) _ _ _ ⟨none,none,none,rfl⟩ Ap.refl ?_).mono ?_
 · intro d hd σ G2 WS a2;obtain⟨u,v,w,rfl⟩:=WS;obtain⟨z,hz,rfl⟩:=zF.mp hd;refine b8 rfl ⟨rfl,⟨_,_,_,rfl⟩,?_⟩;refine S7.mpr<| R4 rfl<| m6 ?_;have eo:y7 (ixE x0 z0) (ixE y0 z0) [some (.str z),some (pD n (fld fs m z)),some (pD n (fld gs l z))] G2=some (.ok (.bl ((fld fs m z).1||(fld gs l z).1)),G2):=R9<| uL.mpr<| b8 rfl<| Q4.mpr<| by
    rcases (fld fs m z).1 with _|_
    ·exact b8 rfl ⟨rfl,rfl⟩
    ·exact⟨rfl,rfl⟩
   refine b8 eo<| m6<| j8 rfl rfl ?_;refine(ih _ _ G2 (KF ga z) (KF gb z) (fF sa z) (fF sb z)).mono ?_;rintro x G3 ⟨a3,c,rfl,hc,sc⟩;refine j9.mpr ⟨sz,a2.trans a3,λz' e=>?_⟩;have ez:z=z':=D.str.inj (yJ (D.tup.inj e)).1;subst ez;exact⟨(z,_,c),rfl,rfl,rfl,hc,sc⟩
 · rintro ys G2 ⟨a2,zs,e2,rfl,hz⟩;obtain⟨es,e3,e4,e5⟩:=uD (P:=λd c=>∀z,d=itD n fs m gs l z->FdQ n (j+k) fs m gs l z c) zs λx hx=>by
    have hm:x.1∈zs.map (·.1):=zF.mpr ⟨x,hx,rfl⟩;rw[e2]at hm;obtain⟨z,_,ez⟩:=zF.mp hm;obtain⟨c,e6,h6⟩:=hz x hx z ez.symm;refine⟨c,e6,λz' e'=>?_⟩;rw[<-ez]at e';have:z=z':=D.str.inj (yJ (D.tup.inj e')).1;subst this;exact h6
   rw[e3];have hl:es.length=ws.length:=by rw[e4,<-zg,e2,zg]
   have at_:∀i (hi:i<es.length),FdQ n (j+k) fs m gs l (ws[i]'(hl▸hi)) es[i]:=λi hi=>by refine e5 i es[i] _ (zj hi) ?_ _ rfl;rw[e2,zU,zj (hl▸hi)];rfl
   have en:es.map (·.1)=ws:=xL (by rw[zg,hl]) λi h1 h2=>by rw[List.getElem_map];exact(at_ i (by rw[zg]at h1;exact h1)).1
   have ate:∀e∈es,FdQ n (j+k) fs m gs l e.1 e:=λe he=>by obtain⟨i,hi,rfl⟩:=YQ.mp he;have:=at_ i hi;rw[this.1];exact this
   refine u5<| S7.mpr<| m6<| L5 rfl<| (M7 j6).mpr<| m6 ?_;refine j8 (by rw[A0,B0];rfl) rfl ?_;refine(ih m l _ (ga _ _ rfl).1 (gb _ _ rfl).1 (sa _ _ rfl).2.1 (sb _ _ rfl).2.1).mono ?_;rintro x G3 ⟨a3,h,rfl,hh,sh⟩;have hn:Nms es:=by have:=hS;rw[<-en,yh]at this;exact this
   have w:RsM (inC n) (Gd n) fs m gs l es h:=⟨hn,λz=>by rw[en];exact hM z,λe he=>⟨(ate e he).2.1,(ate e he).2.2.1⟩,hh⟩;refine j9.mpr ⟨sz,u0 ⟨a1.trans (a2.trans (Ap.one.trans a3)),some (es,h),rfl,?_,px w.fld,?_⟩⟩
   ·rintro _ _ ⟨⟩;exact⟨hh.g,hn,λe he=>(ate e he).2.2.1.g⟩
   · rintro _ _ ⟨⟩;refine⟨by lia,sh,λe he=>⟨(ate e he).2.2.2,?_⟩⟩;have:e.1∈ws:=by rw[<-en];exact zF.mpr ⟨e,he,rfl⟩
     rcases (hM _).mp this with q|q
     ·obtain⟨f,hf,ef⟩:=zF.mp q;rw[<-ef];exact((sa _ _ rfl).2.2 f hf).2
     ·obtain⟨f,hf,ef⟩:=zF.mp q;rw[<-ef];exact((sb _ _ rfl).2.2 f hf).2
def c5:(n:Nat)->CS n
 |0=>()
 |_+1=>none
def SK:∀n,enC n (c5 n)= .str d4
 |0=>rfl
 |_+1=>rfl
def pH:∀n v,inC n (c5 n) v
 |0,_=>trivial
 |_+1,_=>trivial
def qG:∀n,Gd n (c5 n)
 |0=>trivial
 |_+1=>trivial
def nU(g:Gd n a):a=c5 n↔∀v,inC n a v:=⟨λe v=>by rw[e];exact pH n v,λh=>cD n _ _ g (qG n) λv=>⟨λ_=>pH n v,λ_=>h v⟩⟩
def evP(n:Nat):Pt (CS n):=⟨[(none,none)],false, [], [false,true],some ([],c5 n),some ([],c5 n)⟩
def evD:D:=.tup [.tup [.tup [.non,.non]],D2 false [],.tup [.bl false,.bl true],.tup [.tup [],.str d4],.tup [.tup [],.str d4]]
def dN:enC (n+1) (some (evP n))=evD:=by show D.tup [_,_,_,.tup [_,enC n (c5 n)],.tup [_,enC n (c5 n)]]=_;rw[SK];rfl
def LO(g:GdP (inC n) (Gd n) q):q=evP n↔∀v,cA (inC n) q v:=by
 rw[Eb (cD n) g];constructor
 ·rintro rfl;exact⟨rfl,rfl,rfl,rfl,⟨_,rfl,pH n⟩,_,rfl,pH n⟩
 ·rintro⟨h1,h2,h3,h4,⟨m,e,hm⟩,k,e',hk⟩;have em:=(nU (g.ls _ _ e).1).mpr hm;have ek:=(nU (g.rs _ _ e').1).mpr hk;rcases q with⟨a1,a2,a3,a4,a5,a6⟩;dsimp only at h1 h2 h3 h4 e e';rw[h1,h2,h3,h4,e,e',em,ek];rfl
def uM(hn:n<=7)(G:DH)(g:GdP (inC n) (Gd n) q):U6 40 G (.tup (fiv (enC n) q)) evD (∀v,cA (inC n) q v):=by have:=(eD (n:=n+1) (by lia) G (some q) (some (evP n))).iff ⟨λe=>(LO g).mp (jc e),λh=>congrArg some ((LO g).mpr h)⟩;rw[dN]at this;exact this
structure MdQ(n:Nat)(p:Pt (CS n))(c:CS (n+1)):Prop where
 g:Gd (n+1) c
 i:∀v,inC (n+1) c v↔cA (inC n) p v
 one:c=none\/∃l r,c=some ⟨p.ns,p.b,p.ss,p.bs,l,r⟩/\(l=none\/l=p.ls)/\(r=none\/∃es h,p.rs=some (es,h)/\r=some (EC h es,h))
def Cb(hn:n<=7)(h1:Can p.ns)(h2:Ris p.ss)(h3:p.bs∈B4)(h4:EB (Gd n) p.ls)(h5:c8 (Gd n) p.rs)(hf:∀fs m,p.ls=some (fs,m)->fs= [])(hl:∀es m,p.rs=some (es,m)->es.length<=10000):Wp (bJ (fiv (enC n) p)) G λx G'=>Ap G G'/\∃c,x=enC (n+1) c/\MdQ n p c:=by
 refine v9 (show Wp (cK [some (.tup (rsD p.ns)),some (D2 p.b p.ss),some (.tup (p.bs.map D.bl)),some (lsD (enC n) p.ls),some (rcD (enC n) p.rs),none]) G _ from ?_);refine d9.mpr<| M3<| S7.mpr<| R4 rfl<| R4 rfl<| R4 rfl<| m6<| j8 rfl rfl<| (Bc h4 hf).mono ?_;rintro _ _ ⟨rfl,l,rfl,f1⟩;refine m6<| j8 rfl rfl<| (qp (by lia) h5 hl).mono ?_;rintro _ G1 ⟨j1,r,rfl,f2⟩;have g:GdP (inC n) (Gd n) ⟨p.ns,p.b,p.ss,p.bs,l,r⟩:=⟨h1,h2,h3,f1.good,f2.good⟩;have me:∀v,cA (inC n) ⟨p.ns,p.b,p.ss,p.bs,l,r⟩ v↔cA (inC n) p v:=λv=>by
  rcases v with i|z|b|⟨k,f⟩|⟨k,f⟩
  ·exact Iff.rfl
  ·exact Iff.rfl
  ·exact Iff.rfl
  ·exact f1.mem k f
  ·exact f2.mem k f
 refine j9.mpr ⟨sz,u5<| GL.mpr<| J6<| v8 rfl rfl<| nL (uM hn G1 g) (λa=>⟨_,rfl,?_⟩) (λa=>⟨_,rfl,?_⟩)⟩
 ·exact b8 rfl (u0 ⟨j1,none,rfl,trivial,λv=>⟨λ_=>(me v).mp (a v),λ_=>trivial⟩,.inl rfl⟩)
 ·exact b8 rfl (u0 ⟨j1,some ⟨p.ns,p.b,p.ss,p.bs,l,r⟩,rfl,⟨g,a⟩,me,.inr ⟨l,r,rfl,f1.one,f2.one⟩⟩)
def MdQ.sz(h:MdQ n p c)(s:SzP (SzC n k) k (fb n k) p):SzC (n+1) k c:=by
 rcases h.one with rfl|⟨l,r,rfl,hl,hr⟩
 ·exact λ_ e=>nomatch e
 · rintro _ ⟨⟩;refine⟨s.ns,s.ss,s.tx,λfs m e=>?_,λfs m e=>?_⟩
   · rcases hl with rfl|rfl
     ·cases e
     ·exact s.ls fs m e
   · rcases hr with rfl|⟨es,h,e2,rfl⟩
     ·cases e
     · cases e
       have:=s.rs es m e2;exact⟨zK ZG.length_le this.1,this.2.1,λx hx=>this.2.2 x (jL.mp hx).1⟩
def BT(h:bs∈B4):inB (.bl k) (.tup (bs.map D.bl)) G=some (decide (k∈bs)):=by simp only[B4,zy,jg,or_false]at h;rcases h with rfl|rfl|rfl|rfl<;>cases k<;>rfl
def nz{s:List Bool}:((s.map D.bl).filter λx=>match x with| .bl z=>p z|_=>false)= (s.filter p).map D.bl:=by rw[Yx];rfl
def lX{G:DH}(ht:t.bs∈B4):K7 H0 (tBn inD g0 (ixE x0 K0)) g0 (λ_=>true) (s.bs.map D.bl) (T9 [none,some 1] [some (.tup (fiv (enC n) s)),some (.tup (fiv (enC n) t))]) G=some (.ok ((s.bs.filter λk=>decide (k∈t.bs)).map D.bl),G):=by rw[<-nz];refine aC rfl (λσ=>∃u,σ= [u,some (.tup (fiv (enC n) t))]) _ _ ⟨none,rfl⟩ λx hx σ WS=>?_;obtain⟨z,hz,rfl⟩:=zF.mp hx;obtain⟨u,rfl⟩:=WS;exact⟨[some (.bl z),some (.tup (fiv (enC n) t))],rfl,⟨_,rfl⟩,R9 (J6<| v8 rfl rfl<| NC.mpr ⟨_,BT ht,_,rfl,rfl,rfl⟩),rfl⟩
def Lz:∀a∈B4,∀b∈B4,(a.filter λk=>decide (k∈b))∈B4:=by decide
theorem SzC.mono:∀ {n} {k l} {a},k<=l->SzC n k a->SzC n l a
 |0,_,_,_,_,_=>trivial
 |n+1,k,l,a,h,s=>λp e=>by have s:=s p e;exact⟨zK s.ns h,zK s.ss h,s.tx,λfs m e=>⟨(s.ls fs m e).1,SzC.mono h (s.ls fs m e).2⟩,λfs m e=>⟨zK (s.rs fs m e).1 (mP n h),SzC.mono h (s.rs fs m e).2.1,λx hx=>⟨SzC.mono h ((s.rs fs m e).2.2 x hx).1,((s.rs fs m e).2.2 x hx).2⟩⟩⟩
def i7.raw(h:i7 (inC n) (Gd n) r):EB (Gd n) r:=λfs m e=>⟨(h fs m e).1,λa ha=>((h fs m e).2 a ha).1⟩
def U3.raw(h:U3 (inC n) (Gd n) r):c8 (Gd n) r:=λfs m e=>⟨(h fs m e).1,(h fs m e).2.1,λa ha=>((h fs m e).2.2 a ha).1⟩
theorem wL:∀n N j k,n<=7->n<N->j<=29->k<=29->j+k<=47->MAt n (pF N) j k
 |0,N+1,j,k,_,_,_,_,_=>λs t G _ _ _ _=>O2 rfl ⟨Ap.refl,(),rfl,⟨trivial,λv=>⟨λ_=>⟨trivial,trivial⟩,λ_=>trivial⟩⟩,trivial⟩
 |n+1,N+1,j,k,hn,hN,hj,hk,hjk=>λs t G gs gt ss st=>by
   have ih:=wL n N j k (by lia) (by lia) hj hk hjk;refine v9 (show Wp (VE (pF N) [some (enC (n+1) s),some (enC (n+1) t)]) G _ from ?_);unfold VE;rcases s with _|s
   ·exact d9.mpr<| C5 rfl<| u5<| b8 rfl<| u0 ⟨Ap.refl,t,rfl,⟨gt,λv=>⟨λh=>⟨trivial,h⟩,λh=>h.2⟩⟩,SzC.mono (Nat.le_add_left ..) st⟩
   refine d9.mpr<| rC rfl<| m5.mpr ?_;rcases t with _|t
   ·exact d9.mpr<| C5 rfl<| u5<| b8 rfl<| u0 ⟨Ap.refl,some s,rfl,⟨gs,λv=>⟨λh=>⟨h,trivial⟩,λh=>h.1⟩⟩,SzC.mono (jr ..) ss⟩
   have ss:=ss s rfl;have st:=st t rfl;have l1:=ss.ns;have l2:=st.ns;have l3:=ss.ss;have l4:=st.ss;refine d9.mpr<| rC rfl<| m5.mpr<| u5<| O6<| m6<| j8 rfl rfl<| ic gs.1.ns gt.1.ns (by lia) λns G1 c1 i1 l5 a1=>?_;refine m6<| j8 rfl rfl<| (pj ⟨gs.1.ss,ss.tx,by lia⟩ ⟨gt.1.ss,st.tx,by lia⟩).mono ?_;rintro _ G2 ⟨xs,rfl,ris,sm,sub,sl,a2⟩;have hb:(s.bs.map D.bl).length<=10000:=by rw[zg];have:=(show ∀a∈B4,a.length<=2 by decide) _ gs.1.bs;lia
   refine m6<| O6<| m6<| V6 rfl hb<| b8 (lX gt.1.bs)<| j9.mpr<| (M7 j6).mpr ?_;refine m6<| j8 rfl rfl<| (sW ih (i7.raw gs.1.ls) (i7.raw gt.1.ls) ss.ls st.ls).mono ?_;rintro _ G4 ⟨a4,l,rfl,ql⟩;refine m6<| j8 rfl rfl<| (OX hjk ih (U3.raw gs.1.rs) (U3.raw gt.1.rs) ss.rs st.rs).mono ?_;rintro _ G5 ⟨a5,r,rfl,qr⟩;refine j9.mpr<| T6.mpr ⟨rfl,(Cb (p:=⟨ns,s.b||t.b,xs,s.bs.filter λk=>decide (k∈t.bs),l,r⟩) (by lia) c1 ris (Lz _ gs.1.bs _ gt.1.bs) ql.raw qr.raw (λfs m e=>(ql.sz fs m e).1) λes m e=>zK (qr.sz es m e).1 (zK (L9 _ _) (by lia))).mono ?_⟩;rintro _ G6 ⟨a6,c,rfl,hc⟩;refine u0 ⟨a1.trans (a2.trans (Ap.one.trans (a4.trans (a5.trans a6)))),c,rfl,⟨hc.g,λv=>(hc.i v).trans ?_⟩,hc.sz ⟨by dsimp only;lia,by dsimp only;lia,λz hz=>(sub z hz).elim (ss.tx z) (st.tx z),ql.sz,qr.sz⟩⟩;rcases v with i|z|b|⟨q,f⟩|⟨q,f⟩
   ·exact i1 i
   ·exact sm z
   ·show b∈s.bs.filter _↔b∈s.bs/\b∈t.bs;rw[jL,decide_eq_true_iff]
   ·exact ql.mem q f
   ·exact qr.mem q f
def Dr(G:DH)(r:Nat):Prop:=∃ns:List Nat,G[r]? =some (.lst (ns.map λn:Nat=>D.int (n:Int)))
def Fd(r:Nat)(G G':DH):Prop:=G.length<=G'.length/\(∀i,i≠r->i<G.length->G'[i]? =G[i]?)/\Dr G' r
def Dr.lt(h:Dr G r):r<G.length:=by obtain⟨ns,hr⟩:=h;exact lt_of_get hr
def Dr.app(h:Dr G r):Dr (G++t) r:=by obtain⟨ns,hr⟩:=h;exact⟨ns,P0 hr⟩
def Fd.refl(h:Dr G r):Fd r G G:=⟨zp _,λ_ _ _=>rfl,h⟩
def Fd.trans(h:Fd r G G1)(k:Fd r G1 G2):Fd r G G2:=
 ⟨zK h.1 k.1,λi hi hl=>by rw[k.2.1 i hi (by have:=h.1;lia),h.2.1 i hi hl],k.2.2⟩
def Fd.app(h:Dr G r):Fd r G (G++t):=⟨by simp,λi _ hl=>zQ hl,h.app⟩
def Fd.at(h:Fd r G G')(hp:p≠r)(e:G[p]? =some o):G'[p]? =some o:=by rw[h.2.1 p hp (lt_of_get e)];exact e
def Dr.set(h:Dr G r)(hp:p≠r):Dr (G.set p o) r:=by obtain⟨ns,hr⟩:=h;exact⟨ns,by rw[zX hp];exact hr⟩
def Fd.put(h:Fd r G G')(hp:G.length<=p)(hr:p≠r):Fd r G (G'.set p o):=
 ⟨by rw[Zy];exact h.1,λi hi hl=>by rw[zX (by lia)];exact h.2.1 i hi hl,h.2.2.set hr⟩
def UZ(hz:z.length<=zq)(h0:0<=k)(h1:k<z.length)(q:∀c∈z.cps.toList,Q (.str ⟨#[c]⟩) G):Wp (ixD (.str z) (.int k)) G Q:=by
 have e:ixD (.str z) (.int k)=if z.length<=zq then (do
  let c <-S1 (atI z.cps.toList k)
  pure (.str ⟨#[c]⟩):M D)else M.stuck:=rfl
 rw[e,if_pos hz];simp only[j7,S4,wp_pure];have hl:z.length=z.cps.toList.length:=rfl;obtain⟨n,rfl⟩:=xk h0;have hn:n<z.cps.toList.length:=by lia
 refine⟨z.cps.toList[n],?_,q _ (jW hn)⟩;unfold atI ixN;rw[if_pos (by lia),if_pos (by lia)];simp only[jE,Option.bind_some,zj hn]
def X7(h:Dr G r)(q:∀k:Nat,∀G',Fd r G G'->Q (.int (k:Int)) G'):Wp (t7 [.ref r]) G Q:=by
 have h':=h;obtain⟨ns,hr⟩:=h';have s0:([D.ref r].map some++zC (1 - [D.ref r].length) none:DSt)= [sRf r]:=rfl;unfold t7 CJ;simp only[Z5,s0,d9,GA,FA,r6,D6,P4,x5,S5,j9,N9,R5,m5,zN,exists_eq_left',zI];refine⟨sz,?_⟩;have e1:=P0 (t:= [DO.lst []]) hr;rw[kL e1 j6];refine⟨_,rfl,?_⟩;rcases List.eq_nil_or_concat ns with rfl|⟨t,n,rfl⟩
 ·simp only[ZI,List.isEmpty_nil,if_true];exact q 0 _ (Fd.app h)
 · have Et:((t.concat n).map λn:Nat=>D.int (n:Int)).isEmpty=false:=by simp
   simp only[Et,jo,if_false];rw[List.concat_eq_append,jD]at e1;rw[N8 e1,HJ e1];refine q n _ ⟨by simp,λi hi hl=>?_,t,?_⟩
   ·rw[zX (Ne.symm hi),zQ hl]
   ·rw[zS (lt_of_get e1)]
def BM(h:Dr G r)(q:∀k:Nat,k<7->∀G',Fd r G G'->Q (.int (k:Int)) G'):Wp (W6 [.ref r]) G Q:=by
 have s0:([D.ref r].map some++zC (2 - [D.ref r].length) none:DSt)= [sRf r,none]:=rfl;unfold W6 ML;simp only[Z5,s0,d9,W8,M6,GA,FA,r6,D6,W7,S5,j9,N9,R5,T6,m5,zN,exists_eq_left',zI,ja,ym,jY];refine⟨rfl,X7 h λk G1 f1=>?_⟩;simp only[t6 (show (0:Int)<8 by decide),t6 (show (0:Int)<7 by decide),t6 (show (0:Int)<4 by decide),K8 (show (0:Int)<8/\(8:Int)<2 ^ 100 by decide),T5,lC];have n1:∀m:Int,0<m->m<=7->∃j:Nat,j<7/\(k:Int) / 8 % m= (j:Int):=λm hm h7=>by have a1:0<=(k:Int) / 8 % m:=jx _ (by lia);have a2:(k:Int) / 8 % m<m:=jt _ hm;exact⟨((k:Int) / 8 % m).toNat,by lia,by lia⟩
 by_cases hk:(k:Int) % 8=7
 ·simp only[hk,decide_true,if_true];obtain⟨j,hj,e⟩:=n1 7 (by decide) (by decide);rw[e];exact q j hj G1 f1
 ·simp only[hk,decide_false,jo,if_false];obtain⟨j,hj,e⟩:=n1 4 (by decide) (by decide);rw[e];exact q j hj G1 f1
def p10:Wp (w9 (.int 10) (.int 10)) G Q↔Q (.int 10000000000) G:=by rw[HL (by decide)];rfl
def OL(h:Dr G r)(q:∀k:Nat,∀G',Fd r G G'->Q (.int (k:Int)) G'):Wp (V9 [.ref r]) G Q:=by
 have s0:([D.ref r].map some++zC (2 - [D.ref r].length) none:DSt)= [sRf r,none]:=rfl;unfold V9 sM;simp only[Z5,s0,d9,W8,M6,GA,FA,r6,D6,W7,S5,j9,N9,R5,T6,m5,zN,exists_eq_left',zI,ja,ym,jY];refine⟨rfl,X7 h λk G1 f1=>?_⟩;simp only[t6 (show (0:Int)<9 by decide),t6 (show (0:Int)<5 by decide),K8 (show (0:Int)<9/\(9:Int)<2 ^ 100 by decide),T5,lC,i8 (show c6 ((k:Int) / 9) 1000003 from Or.inr ⟨by decide,by decide⟩)];by_cases hk:(k:Int) % 9=8
 ·simp only[hk,decide_true,if_true];refine⟨rfl,X7 f1.2.2 λj G2 f2=>?_⟩;rw[KA,p10,i8 (show c6 6 10000000000 from Or.inl ⟨by decide,by decide⟩),t6 (by decide)];have a1:0<=((k:Int) / 9*1000003+(j:Int)) % (6*10000000000):=jx _ (by decide);obtain⟨m,hm⟩:=xk a1;rw[hm];exact q m G2 (f1.trans f2)
 ·simp only[hk,decide_false,jo,if_false];have a1:0<=(k:Int) / 9 % 5:=jx _ (by decide);obtain⟨m,hm⟩:=xk a1;rw[hm];exact q m G1 f1
def Fd2(r p:Nat)(G G':DH):Prop:=G.length<=G'.length/\(∀i,i≠r->i≠p->i<G.length->G'[i]? =G[i]?)/\Dr G' r
def Fd2.trans(h:Fd2 r p G G1)(k:Fd2 r p G1 G2):Fd2 r p G G2:=
 ⟨zK h.1 k.1,λi hi hp hl=>by rw[k.2.1 i hi hp (by have:=h.1;lia),h.2.1 i hi hp hl],k.2.2⟩
def Fd.two(h:Fd r G G1):Fd2 r p G G1:=⟨h.1,λi hi _ hl=>h.2.1 i hi hl,h.2.2⟩
def Fd2.set(hp:p≠r)(h:Dr G r):Fd2 r p G (G.set p o):=
 ⟨by rw[Zy];exact zp _,λi _ hi hl=>by rw[zX (Ne.symm hi)],h.set hp⟩
def Fd.thru(h:Fd r G G1)(k:Fd2 r p G1 G2)(hp:G.length<=p):Fd r G G2:=
 ⟨zK h.1 k.1,λi hi hl=>by rw[k.2.1 i hi (by lia) (by have:=h.1;lia),h.2.1 i hi hl],k.2.2⟩
def Ae:gG=o9 (M8 (Q7 L0) C2) (asQ (j5 u4 (unE dD (D0 V9 g0)) K0) C1 (o9 (N3 (W5 (D1 (D0 W6 g0))) y3 SB) (asQ (D0 t7 g0) i5 (o9 SC1 (o9 SC2 (t8 (F0 O3 x0))))))):=rfl
def Up(lo:Int)(ns:List Rg):Prop:=∀p∈ns,∃a:Int,p.2=some a/\a<=lo
def bx(hp:p≠r)(h:Dr G r)(e:G[p]? =some (.lst (rsD ns)))(hn:Can ns)(hu:Up a ns)(hl:ns.length<=50):
 Wp (SB [sRf r,sRf p,some (.int a),u,v,w]) G λfl G'=>Fd2 r p G G'/\∃a' v' ns',fl= .nx [sRf r,sRf p,some (.int a'),u,v',w]/\G'[p]? =some (.lst (rsD ns'))/\Can ns'/\Up a' ns'/\ns'.length<=ns.length+1:=by
 have bg:=big;refine d9.mpr<| M3<| m7<| b8 rfl<| j8 rfl rfl<| OL h λk G1 f1=>KA.mpr<| d9.mpr<| M3<| m7<| b8 rfl<| j8 rfl rfl<| OL f1.2.2 λj G2 f2=>KA.mpr ?_;have f12:=f1.trans f2;have e2:=f12.at hp e;refine iA.mpr<| x5.mpr<| b8 rfl<| (N8 e2).mpr<| b8 (a:= [rD (some (a+2+k),some (a+2+k+j))]) rfl<| (W4 e2 (by rw[qF];lia)).mpr ?_;refine⟨f12.two.trans (Fd2.set hp f2.2.2),_,_,ns++[(some (a+2+k),some (a+2+k+j))],rfl,?_,hn.snoc (λx y ea eb=>?_) λx hx=>?_,λq hq=>?_,by simp⟩
 ·rw[zS (lt_of_get e2),RI]
 ·cases ea;cases eb;lia
 ·obtain⟨b,eb,hb⟩:=hu x hx;exact⟨b,_,eb,rfl,by lia⟩
 · rcases jd.mp hq with hq|hq
   ·obtain⟨b,eb,hb⟩:=hu q hq;exact⟨b,eb,by lia⟩
   ·rw[zB.mp hq];exact⟨_,rfl,Zx _⟩
theorem HR(hp:p≠r):∀items a u v ns G,Dr G r->G[p]? =some (.lst (rsD ns))->Can ns->Up a ns->ns.length+items.length<=50->
 Wp (B2 y3 SB (λ_=>true) items [sRf r,sRf p,some (.int a),u,v,w]) G λfl G'=>Fd2 r p G G'/\∃a' u' v' ns',fl= .nx [sRf r,sRf p,some (.int a'),u',v',w]/\G'[p]? =some (.lst (rsD ns'))/\Can ns'/\ns'.length<=ns.length+items.length
 |[],a,u,v,ns,G,h,e,hn,hu,hl=>gA.mpr ⟨rfl,(Fd.refl h).two,a,u,v,ns,rfl,e,hn,by simp⟩
 |d::t,a,u,v,ns,G,h,e,hn,hu,hl=>by simp only[zM]at hl;refine bA.mpr ⟨rfl,M6.mpr<| (bx hp h e hn hu (by lia)).mono ?_⟩;rintro _ G1 ⟨f1,a1,v1,ns1,rfl,q2,q3,q3',q4⟩;refine(HR hp t a1 _ v1 ns1 G1 f1.2.2 q2 q3 q3' (by lia)).mono ?_;rintro _ G2 ⟨f2,b1,b2,b3,b4,p1,p2,p3,p4⟩;exact⟨f1.trans f2,b1,b2,b3,b4,p1,p2,p3,by simp only[zM];lia⟩
def fP(e:G[p]? =some (.lst (rsD ns))):Wp (neD (.ref p) (.ref G.length)) (G++[.lst []]) Q↔Q (.bl (!ns.isEmpty)) (G++[.lst []]):=by rw[rn (P0 e) j6];unfold rsD;rw[List.isEmpty_map]
def Can.noLow(h:Can (q::t)):Can ((none,q.2)::t):=by
 refine⟨λx hx=>?_,jf.mpr ⟨(jf.mp h.2).1,(jf.mp h.2).2⟩⟩;rcases zy.mp hx with rfl|hx
 ·exact λ_ _ ea=>J4 ea
 ·exact h.1 x (zA _ hx)
def Can.noHigh(h:Can (t++[q])):Can (t++[(q.1,none)]):=by have hp:=YO.mp h.2;exact Can.snoc ⟨λx hx=>h.1 x (yY _ hx),hp.1⟩ (λ_ _ _ eb=>J4 eb) λx hx=>hp.2.2 x hx q (zB.mpr rfl)
def ke:ixN (l++[x]).length (-1)=some l.length:=by unfold ixN;rw[if_neg (by lia),if_pos (by simp;lia)];congr 1;simp;lia
section
variable{r p:Nat}{G:DH}{ns:List Rg}{a u v:Option D}{k:Nat}
def CQ(r p:Nat)(a u v:Option D)(k:Nat)(ns:List Rg)(G:DH)(fl:Fl)(G':DH):Prop:=Fd2 r p G G'/\∃ns',fl= .nx [sRf r,sRf p,a,u,v,sIi k]/\G'[p]? =some (.lst (rsD ns'))/\Can ns'/\ns'.length=ns.length
def Pj(hp:p≠r)(h:Dr G r)(e:G[p]? =some (.lst (rsD ns)))(hn:Can ns):Wp (SC1 [sRf r,sRf p,a,u,v,sIi k]) G (CQ r p a u v k ns G):=by
 have f1:Fd r G (G++[.lst []]):=Fd.app h;refine X3<| F8<| J6<| m7<| b8 rfl<| P4.mpr<| j9.mpr ⟨sz,(fP e).mpr ⟨_,rfl,λg=>?_,λg=>⟨λz=>(nomatch z),λ_=>m5.mpr ⟨f1.two,ns,rfl,P0 e,hn,rfl⟩⟩⟩⟩;rcases ns with _|⟨q,t⟩
 ·cases g
 · have e2:=f1.at hp e;refine J6<| m7<| v8 rfl rfl<| (t6 (by decide)).mpr<| b8 rfl<| T5.mpr ⟨_,rfl,λ_=>?_,λ_=>m5.mpr ⟨f1.two,q::t,rfl,e2,hn,rfl⟩⟩;refine W8.mpr<| S7.mpr<| R4 rfl<| m6<| m7<| ixv rfl rfl e2 (RJ (l0:= []))<| b8 rfl<| (ix_tup).mpr ⟨K2 q.2,rfl,j9.mpr ⟨sz,SJ (j:=0) rfl rfl e2 ?_ ?_⟩⟩
   ·unfold ixN;rw[if_pos (by lia),if_pos (by simp[rsD])];rfl
   ·exact⟨f1.two.trans (Fd2.set hp f1.2.2),(none,q.2)::t,rfl,zS (lt_of_get e2),hn.noLow,rfl⟩
def bj(hp:p≠r)(h:Dr G r)(e:G[p]? =some (.lst (rsD ns)))(hn:Can ns):Wp (SC2 [sRf r,sRf p,a,u,v,sIi k]) G (CQ r p a u v k ns G):=by
 have f1:Fd r G (G++[.lst []]):=Fd.app h;refine X3<| F8<| J6<| m7<| b8 rfl<| P4.mpr<| j9.mpr ⟨sz,(fP e).mpr ⟨_,rfl,λg=>?_,λg=>⟨λz=>(nomatch z),λ_=>m5.mpr ⟨f1.two,ns,rfl,P0 e,hn,rfl⟩⟩⟩⟩;have Et:ns≠ []:=by rintro rfl;cases g
 clear g;obtain⟨t,q,rfl⟩:∃(t:List Rg) (q:Rg),ns=t++[q]:=⟨_,_,(Jh Et).symm⟩;have e2:=f1.at hp e;refine J6<| m7<| m7<| v8 rfl rfl<| (K8 ⟨by decide,by decide⟩).mpr<| b8 rfl<| (t6 (by decide)).mpr<| b8 rfl<| T5.mpr ⟨_,rfl,λ_=>?_,λ_=>m5.mpr ⟨f1.two,t++[q],rfl,e2,hn,rfl⟩⟩;rw[RI]at e2;refine W8.mpr<| S7.mpr<| m6<| m7<| ixv rfl rfl e2 (Vx _ _)<| b8 rfl<| (ix_tup).mpr ⟨K2 q.1,rfl,b8 rfl ⟨sz,SJ rfl rfl e2 ke ?_⟩⟩;refine⟨f1.two.trans (Fd2.set hp f1.2.2),t++[(q.1,none)],rfl,?_,hn.noHigh,by simp⟩;rw[zS (lt_of_get e2),RI,YE _ _ (zp _),Nat.sub_self];rfl
def Sc(h:Dr G r):Wp (V0 [.ref r]) G λx G'=>∃ns,x= .tup (rsD ns)/\Can ns/\ns.length<=6/\Fd r G G':=by
 refine v9 (show Wp (gG [sRf r,none,none,none,none,none]) G _ from ?_);rw[Ae];have f1:Fd r G (G++[.lst []]):=Fd.app h;have hp:G.length≠r:=by have:=h.lt;lia
 refine u6 (X1:= [sRf r,some (.ref G.length),none,none,none,none]) rfl<| d9.mpr<| M3<| m7<| EO.mpr<| j8 rfl rfl<| OL f1.2.2 λk G1 f2=>DV.mpr<| b8 rfl<| WC.mpr ?_;refine d9.mpr<| i9.mpr<| rng1.mpr<| m6<| j8 rfl rfl<| BM f2.2.2 λm hm G2 f3=>j9.mpr<| (rng1_int ⟨by lia,by lia⟩).mpr ?_;have f23:=f2.trans f3;have e2:G2[G.length]? =some (.lst (rsD [])):=f23.at hp j6;have Ei:(K3 0 (m:Int).toNat).length=m:=by unfold K3;rw[zg,yi,jE]
 refine(HR hp (K3 0 (m:Int).toNat) _ none none [] G2 f3.2.2 e2 ⟨(λp hp=>by cases hp),.nil⟩ (λp hp=>by cases hp) (by rw[Ei];simp;lia)).mono ?_;rintro _ G3 ⟨f4,lo',v4,v5,ns1,rfl,q2,q3,q4⟩;refine d9.mpr<| M3<| j8 rfl rfl<| X7 f4.2.2 λn G4 f5=>?_;refine d9.mpr<| (Pj hp f5.2.2 (f5.at hp q2) q3).mono ?_;rintro _ G5 ⟨f6,ns2,rfl,q6,q7,q8⟩;refine d9.mpr<| (bj hp f6.2.2 q6 q7).mono ?_;rintro _ G6 ⟨f7,ns3,rfl,q10,q11,q12⟩;have fb:=Fd.thru (f1.trans f23) (((f4.trans f5.two).trans f6).trans f7) (zp _);exact u5<| L5 rfl<| (M7 q10).mpr<| u0 ⟨ns3,rfl,q11,by rw[Ei]at q4;simp only[yz]at q4;lia,fb⟩
end
def oj(a b:Str):L2.eqV (.str a) (.str b)= (a==b):=by rfl
def rL{s:List Str}:inB (.str z) (.tup (s.map D.str)) G=some (decide (z∈s)):=by
 have hf:(P5 (.str z)&&(s.map D.str).all P5)=true:=by simp[P5,Zh]
 unfold inB;simp only[hf,if_true];congr 1;unfold L2.inV;rw[jZ,ZJ]
 induction s with
 |nil=>rfl
 |cons a r ih=>
   rw[yr,ih (by simp[P5,Zh])];have e:((λy=>L2.eqV y (toV (.str z)))∘(toV∘D.str)) a= (a==z):=oj a z;rw[e];by_cases h:a=z
   ·simp[h]
   ·have:¬z=a:=λe=>h e.symm;simp[h,this]
def rg(h:z.length<=zq):Wp (Q5 [.str z]) G Q↔Q (B7 (.str z)) G:=by unfold Q5 nM;have s0:([D.str z].map some++zC (1 - [D.str z].length) none:DSt)= [some (.str z)]:=rfl;simp only[Z5,s0,r6,S7,W7,S5,j9,R5,zN,exists_eq_left',zI,BI h];exact⟨λq=>q.2,λq=>⟨sz,q⟩⟩
theorem UR:∀(s:List Str) G,(∀z∈s,z.length<=zq)->t5 Q5 (s.map D.str) G=some (.ok (s.map λz=>B7 (.str z)),G)
 |[],G,_=>rfl
 |a::r,G,h=>by have h1:noX (Q5 [.str a]) G=some (.ok (B7 (.str a)),G):=R9 (oD.mpr ((rg (h a (by simp))).mpr ⟨rfl,rfl⟩));have h2:=UR r G λz hz=>h z (by simp[hz]);show (noX (Q5 [.str a]) >>= λk=>t5 Q5 (r.map D.str) >>= λks=>pure (k::ks)) G=_;rw[M.bind_ok h1,M.bind_ok h2];rfl
def Dk{Q:DPP}(e:G[q]? =some (.lst (ks.map D.str)))(nd:ks.Nodup)(Gs:ks.length<64)(hz:∀z∈ks,z.length<=zq)(hq:∀m,Ris m->m.Perm ks->Q (.ref G.length) (G++[.lst (m.map D.str)])):Wp (wA Q5 (.ref q)) G Q:=by
 obtain⟨m,e1,e2,e3⟩:=wU nd;have nd2:(ks.map λz=>(((z.length:Int),z):Int×Str)).Nodup:=by rw[List.Nodup,yh];exact nd.imp λ{a b} h e=>h (xg e).2
 have hl:(ks.map D.str).length<64:=by rw[zg];exact Gs
 unfold wA;simp only[j7,N6,e,O9,if_pos hl,dB];refine(AA (UR ks G hz)).mpr ?_;rw[S4,PU];refine⟨_,rfl,?_⟩;rw[if_pos nd2,R8,e1];exact hq m e2 e3
def WF{s:List Str}(e:G[q]? =some (.lst (s.map D.str))):inB (.str z) (.ref q) G=some (decide (z∈s)):=by
 have h:=rL (z:=z) (s:=s) (G:=G);have e2:inB (.str z) (.ref q) G=inB (.str z) (.tup (s.map D.str)) G:=by simp only[inB,e]
 rw[e2,h]
def KU:∀ss:List Str,(YX ("" :Str) ss).cps.toList= (ss.map λz=>z.cps.toList).flatten:=λss=>by
 have go:∀(r:List Str) (Ek:Array Nat),(r.foldl (λEk p=>Ek++("" :Str).cps++p.cps) Ek).toList=Ek.toList++(r.map λz=>z.cps.toList).flatten:=λr=>by
  induction r with
  |nil=>intro Ek;simp
  |cons p r ih=>
    intro Ek;rw[yk,ih,Array.toList_append,Array.toList_append,zO,yG,show ("" :Str).cps.toList= []from rfl,yV,yH]
 rcases ss with _|⟨a,r⟩
 ·rfl
 ·exact go r a.cps
def bw:∀c∈("abcdefghijklmnopqrstuvwxyz" :Str).cps.toList,RA c=true:=by decide +kernel
def iO(y:D):Prop:=∃c:Nat,RA c=true/\y= .str ⟨#[c]⟩
theorem mN:∀ {zs},(∀y∈zs,iO y)->∃ss:List Str,zs=ss.map D.str/\ss.length=zs.length/\(ss.map λz=>z.length).sum=zs.length/\∀c∈(ss.map λz=>z.cps.toList).flatten,RA c=true
 |[],_=>⟨[],rfl,rfl,rfl,λ_ h=>nomatch h⟩
 |y::t,h=>by
   obtain⟨c,hc,rfl⟩:=h _ (zH ..);obtain⟨ss,h1,h2,h3,h4⟩:=mN λy hy=>h y (zA _ hy);refine⟨⟨#[c]⟩::ss,by rw[zO,h1],by simp[h2],?_,λx hx=>?_⟩
   ·rw[zO,List.sum_cons,h3,zM];show 1+_=_;lia
   · rw[zO,yG]at hx;rcases jd.mp hx with hx|hx
     ·rw[show x=c from zB.mp hx];exact hc
     ·exact h4 x hx
def vV:∀z∈(["", "a", "b", "aa", "ab", "ca"]:List Str),Tx z:=by intro z hz;simp only[zy,jg,or_false]at hz;rcases hz with rfl|rfl|rfl|rfl|rfl|rfl<;>exact⟨by decide +kernel,by decide +kernel⟩
def nS(h:Dr G r):Wp (SD [.ref r]) G λx G'=>(∃z,x= .str z/\Tx z)/\Fd r G G':=by
 have bg:=big;refine v9 (show Wp (CL [sRf r,none]) G _ from ?_);refine d9.mpr<| M3<| j8 rfl rfl<| X7 h λk G1 f1=>d9.mpr<| X3<| J6<| m7<| v8 rfl rfl<| (t6 (by decide)).mpr<| b8 rfl<| T5.mpr ⟨_,rfl,λ_=>?_,λ_=>m5.mpr ?_⟩
 · have a1:0<=(k:Int) / 9 % 21:=jx _ (by decide);have a2:(k:Int) / 9 % 21<21:=jt _ (by decide);refine u5<| x5.mpr<| b8 rfl ?_;refine cb.mpr<| m6<| wp_comp.mpr<| rng1.mpr<| m6<| m7<| v8 rfl rfl<| (K8 ⟨by decide,by decide⟩).mpr<| b8 rfl<| (t6 (by decide)).mpr<| j9.mpr<| (rng1_int ⟨by lia,by lia⟩).mpr ?_;have ln:(K3 0 ((k:Int) / 9 % 21).toNat).length= ((k:Int) / 9 % 21).toNat:=by unfold K3;rw[zg,yi]
   refine⟨by show (K3 0 ((k:Int) / 9 % 21).toNat).length<=_;rw[ln];lia,(l9 (Fd r G1) (λσ=>∃u,σ= [u,sRf r]) (λ_ y=>iO y) (λ_ _=>rfl) _ _ G1 ⟨_,rfl⟩ (Fd.refl f1.2.2) ?_).mono ?_⟩
   · rintro d hd _ G3 ⟨v,rfl⟩ j;refine M6.mpr ⟨rfl,⟨_,rfl⟩,m7<| b8 rfl<| m7<| j8 rfl rfl<| X7 j.2.2 λi G4 f4=>b8 rfl<| (t6 (by decide)).mpr ?_⟩;have b1:0<=(i:Int) % 26:=jx _ (by decide);have b2:(i:Int) % 26<26:=jt _ (by decide);have hA:("abcdefghijklmnopqrstuvwxyz" :Str).length=26:=by rfl
     exact UZ (by lia) b1 (by lia) λc hc=>⟨j.trans f4,c,bw c hc,rfl⟩
   · rintro _ G3 ⟨f3,zs,e1,rfl,hz⟩;obtain⟨ss,h1,h2,h3,h4⟩:=mN λy hy=>by
      obtain⟨z,hzm,rfl⟩:=zF.mp hy;exact hz z hzm
     have lz:(zs.map (·.2)).length= ((k:Int) / 9 % 21).toNat:=by have:=congrArg Za e1;rw[zg]at this;rw[zg,this];exact ln
     have hs:("" :Str).length=0:=rfl;refine j9.mpr<| (tz j6 (by rw[h1];exact TF ss) ?_).mpr ?_
     ·rw[h3,hs,Nat.mul_zero,Nat.add_zero,lz];lia
     · refine u0 ⟨⟨_,rfl,?_,?_⟩,f1.trans (f3.trans (Fd.app f3.2.2))⟩
       ·show (YX ("" :Str) ss).cps.toList.all RA=true;rw[KU];exact ya.mpr h4
       ·show (YX ("" :Str) ss).cps.toList.length<=1000;rw[KU,List.length_flatten,jZ];have:(ss.map (Za∘λz=>z.cps.toList)).sum= (zs.map (·.2)).length:=h3;rw[this,lz];lia
 ·have a1:0<=(k:Int) / 9 % 6:=jx _ (by decide);have a2:(k:Int) / 9 % 6<6:=jt _ (by decide);refine u5<| m7<| P4.mpr<| b8 rfl ⟨sz,m7<| v8 rfl rfl<| (K8 ⟨by decide,by decide⟩).mpr<| b8 rfl<| (t6 (by decide)).mpr<| (u7 j6).mpr ?_⟩;obtain⟨d,hd,e⟩:=EH (l:=([("" :Str), "a", "b", "aa", "ab", "ca"]).map D.str) a1 (by exact a2);obtain⟨z,hz,rfl⟩:=zF.mp hd;exact⟨_,e,u0 ⟨⟨z,rfl,vV z hz⟩,f1.trans (Fd.app f1.2.2)⟩⟩
def si:FI=o9 (M8 (Q7 L0) C2) (o9 (N3 (W5 (D1 (D0 W6 g0))) C1 WB) (t8 (F0 O3 (uB Q5 x0)))):=rfl
def Wd(ss:List Str):Prop:=ss.Nodup/\∀z∈ss,Tx z
def re{u v:Option D}(hp:p≠r)(h:Dr G r)(e:G[p]? =some (.lst (ss.map D.str)))(hs:Wd ss)(hl:ss.length<=1000):
 Wp (WB [sRf r,sRf p,u,v]) G λfl G'=>Fd2 r p G G'/\∃v' Es,fl= .nx [sRf r,sRf p,u,v']/\G'[p]? =some (.lst (Es.map D.str))/\Wd Es/\Es.length<=ss.length+1:=by
 have bg:=big;refine d9.mpr<| M3<| j8 rfl rfl<| (nS h).mono ?_;rintro _ G1 ⟨⟨z,rfl,hz⟩,f1⟩;have e1:=f1.at hp e;refine X3<| J6<| m7<| b8 rfl<| b8 rfl<| UI.mpr ⟨_,WF e1,_,rfl,λhm=>?_,λ_=>m5.mpr ⟨f1.two,_,ss,rfl,e1,hs,by lia⟩⟩;have hm:z∉ss:=by simpa using hm
 refine iA.mpr<| x5.mpr<| b8 rfl<| (N8 e1).mpr<| b8 rfl<| (W4 e1 (by rw[zg];lia)).mpr ?_;refine⟨f1.two.trans (Fd2.set hp f1.2.2),_,ss++[z],rfl,by rw[zS (lt_of_get e1),jD];rfl,⟨?_,λy hy=>?_⟩,by simp⟩
 ·rw[yW];exact⟨hs.1,by simp,λa ha b hb=>by rw[zB]at hb;subst hb;exact λe=>hm (by rw[<-e];exact ha)⟩
 · rcases jd.mp hy with hy|hy
   ·exact hs.2 y hy
   ·rw[zB]at hy;subst hy;exact hz
theorem qO(hp:p≠r):∀items u v ss G,Dr G r->G[p]? =some (.lst (ss.map D.str))->Wd ss->ss.length+items.length<=50->
 Wp (B2 C1 WB (λ_=>true) items [sRf r,sRf p,u,v]) G λfl G'=>Fd2 r p G G'/\∃u' v' Es,fl= .nx [sRf r,sRf p,u',v']/\G'[p]? =some (.lst (Es.map D.str))/\Wd Es/\Es.length<=ss.length+items.length
 |[],u,v,ss,G,h,e,hs,hl=>gA.mpr ⟨rfl,(Fd.refl h).two,u,v,ss,rfl,e,hs,by simp⟩
 |d::t,u,v,ss,G,h,e,hs,hl=>by simp only[zM]at hl;refine bA.mpr ⟨rfl,M6.mpr<| (re hp h e hs (by lia)).mono ?_⟩;rintro _ G1 ⟨f1,v1,ss1,rfl,q2,q3,q4⟩;refine(qO hp t _ v1 ss1 G1 f1.2.2 q2 q3 (by lia)).mono ?_;rintro _ G2 ⟨f2,b1,b2,b3,p1,p2,p3,p4⟩;exact⟨f1.trans f2,b1,b2,b3,p1,p2,p3,by simp only[zM];lia⟩
def QS(h:Dr G r):Wp (TC [.ref r]) G λx G'=>∃ss,x= .tup (ss.map D.str)/\Rw ss/\ss.length<=6/\Fd r G G':=by
 have bg:=big;refine v9 (show Wp (FI [sRf r,none,none,none]) G _ from ?_);rw[si];have fd:Fd r G (G++[DO.lst []]):=Fd.app h;have hp:G.length≠r:=by have:=h.lt;lia
 refine u6 (X1:= [sRf r,some (.ref G.length),none,none]) rfl<| d9.mpr<| i9.mpr<| rng1.mpr<| m6<| j8 rfl rfl<| BM fd.2.2 λm hm G2 f2=>j9.mpr<| (rng1_int ⟨by lia,by lia⟩).mpr ?_;have e2:G2[G.length]? =some (.lst (([]:List Str).map D.str)):=f2.at hp j6;have Ei:(K3 0 (m:Int).toNat).length=m:=by unfold K3;rw[zg,yi,jE]
 refine(qO hp (K3 0 (m:Int).toNat) none none [] G2 f2.2.2 e2 ⟨List.nodup_nil,λz hz=>nomatch hz⟩ (by rw[Ei];simp;lia)).mono ?_;rintro _ G3 ⟨f3,u',v',ss,rfl,q2,q3,q4⟩;rw[Ei,yz]at q4;refine u5<| O6<| m6<| EQ.mpr<| b8 rfl<| Dk q2 q3.1 (by lia) (λz hz=>zK (q3.2 z hz).2 (by lia)) λm' rm pm=>j9.mpr<| (M7 j6).mpr ?_;have fr:=(fd.trans f2).thru f3 (zp _);have hl:=pm.length_eq;exact u0 ⟨m',rfl,⟨rm,λz hz=>q3.2 z (pm.mem_iff.mp hz),by lia⟩,by lia,fr.trans (Fd.app fr.2.2)⟩
def Dq{c:Int}{k:Nat}{G:DH}{Q:DPP}(hk:k<=1000)(q:∀m:Nat,Q (.int (m:Int)) G):Wp (UE [.int c,.int (k:Int)]) G Q:=by have s0:([D.int c,D.int (k:Int)].map some++zC (3 - [D.int c,D.int (k:Int)].length) none:DSt)= [some (.int c),sIi k,none]:=rfl;have b:∀x:Int,0<=x % 2147483647/\x % 2147483647<2147483647:=λx=>⟨jx _ (by decide),jt _ (by decide)⟩;have b':∀x:Int,0<=x % 2147483629/\x % 2147483629<2147483629:=λx=>⟨jx _ (by decide),jt _ (by decide)⟩;have m1:c6 40692 ((k:Int)+1):=Or.inl ⟨by decide,by decide⟩;have mm:∀x:Int,0<=x->x<2147483647->c6 x x:=λx h1 h2=>Or.inl ⟨by lia,by lia⟩;have m3:∀x:Int,c6 48271 x:=λx=>Or.inl ⟨by decide,by decide⟩;have m4:∀x:Int,c6 x 69621:=λx=>Or.inr ⟨by decide,by decide⟩;unfold UE HM;simp only[Z5,s0,d9,W8,M6,r6,D6,N9,R5,zN,exists_eq_left',zI,ja,ym,jY,t6 (show (0:Int)<2147483647 by decide),t6 (show (0:Int)<2147483629 by decide),KA,i8 m1];generalize hx:(c % 2147483647+40692*((k:Int)+1)) % 2147483647=x;have hb:=b (c % 2147483647+40692*((k:Int)+1));rw[hx]at hb;simp only[i8 (mm x hb.1 hb.2),i8 (m3 x),KA];generalize hy:(x*x+48271*x+(k:Int)) % 2147483647=y;have hb2:=b (x*x+48271*x+(k:Int));rw[hy]at hb2;simp only[t6 (show (0:Int)<2147483647 by decide),hy,i8 (mm y hb2.1 hb2.2),t6 (show (0:Int)<2147483629 by decide),i8 (m4 _),K8 (show (0:Int)<8/\(8:Int)<2 ^ 100 by decide)];obtain⟨n,hn⟩:=xk (b' (y*y % 2147483629*69621)).1;rw[hn];have:=q (n / 8);simpa using this
def EY{a b:Nat}(h:0<b):Wp (J9 (.int (a:Int)) (.int (b:Int))) G Q↔Q (.int ((a % b:Nat):Int)) G:=by rw[t6 (by lia)];simp
def ni{a b:Nat}(h:0<b)(h2:b<1000):Wp (M4 (.int (a:Int)) (.int (b:Int))) G Q↔Q (.int ((a / b:Nat):Int)) G:=by rw[K8 ⟨by lia,by lia⟩];simp
def iG{p k:Nat}(e:G[p]? =some (.lst l))(h:l[k]? =some d):Wp (ixD (.ref p) (.int (k:Int))) G Q↔Q d G:=by rw[u7 e,atI_nat h];exact O9
def lK{p:Nat}{l:List D}{G:DH}{Q:DPP}(e:G[p]? =some (.lst l)):Wp (N1 [.ref p]) G Q↔Q (.int (l.length:Int)) G:=by unfold N1;simp only[j7,N6,e,O9,wp_pure]
def L4(ns:List Nat):List D:=ns.map λn:Nat=>D.int (n:Int)
structure PuI(pc pr pp:Nat)(cs:List Int)(rs ns:List Nat)(G:DH):Prop where
 c:G[pc]? =some (.lst (cs.map D.int))
 r:G[pr]? =some (.lst (L4 rs))
 p:G[pp]? =some (.lst (L4 ns))
 n0:0<cs.length
 nl:cs.length<=100
 eq:rs.length=cs.length
 ne:pc≠pr/\pc≠pp/\pr≠pp
def PuI.at{pc pr pp:Nat}{cs:List Int}{rs ns:List Nat}{G:DH}(I:PuI pc pr pp cs rs ns G){k:Nat}(hk:k<cs.length):(∃n:Nat,rs[k]? =some n)/\∃c:Int,cs[k]? =some c:=by refine⟨⟨rs[k]'(by rw[I.eq];exact hk),zj _⟩,⟨cs[k],zj _⟩⟩
def Gr3(pr pp:Nat)(G G':DH):Prop:=G'.length=G.length/\∀i,i≠pr->i≠pp->G'[i]? =G[i]?
def eY{pc pr pp k:Nat}{rs ns:List Nat}(I:PuI pc pr pp cs rs ns G)(hn:ns.length<=1000)(hk:k<=1000):
 Wp (PB [o0,o1,o2,o3,sRf pc,sRf pr,sRf pp,sIi k,u]) G λfl G'=>Gr3 pr pp G G'/\∃u' rs' ns',fl= .nx [o0,o1,o2,o3,sRf pc,sRf pr,sRf pp,sIi k,u']/\PuI pc pr pp cs rs' ns' G'/\ns'.length=ns.length+1:=by
 have bg:=big;unfold PB;have hlc:(cs.map D.int).length=cs.length:=zg _;simp only[d9,W8,M6,GA,FA,iA,x5,BG,D6,W7,S5,j9,N9,R5,T6,zN,exists_eq_left',zI,ja,ym,jY,lK I.c,hlc,EY I.n0];have hm:k % cs.length<cs.length:=Xv _ I.n0;generalize hj:k % cs.length=j at hm ⊢;obtain⟨⟨n,en⟩,c,ec⟩:=I.at hm;have en':(L4 rs)[j]? =some (.int (n:Int)):=by unfold L4;rw[zU,en];rfl
 have ec':(cs.map D.int)[j]? =some (.int c):=by rw[zU,ec];rfl
 have hjr:j<rs.length:=by rw[I.eq];exact hm
 have hnl:(L4 ns).length=ns.length:=zg _;rw[iG I.r en',cq];simp only[lC];by_cases h0:(0:Int)<(n:Int)
 · simp only[h0,decide_true,if_true];rw[N8 I.p,iG I.r en',t6 (by decide),W4 I.p (by lia)];have lp:=lt_of_get I.p;have lr:=lt_of_get I.r;have r1:(G.set pp (.lst (L4 ns++[.int ((n:Int) % 1000003)])))[pr]? =some (.lst (L4 rs)):=by rw[zX (Ne.symm I.ne.2.2)];exact I.r
   rw[iG r1 en',K8 (by decide),rS r1 (j:=j) (by unfold ixN L4;simp;lia)];refine⟨⟨by simp,λi h1 h2=>by rw[zX (Ne.symm h1),zX (Ne.symm h2)]⟩,_,rs.set j (n / 1000003),ns++[n % 1000003],rfl,⟨?_,?_,?_,I.n0,I.nl,by rw[Zy];exact I.eq,I.ne⟩,by simp⟩
   ·rw[zX (Ne.symm I.ne.1),zX (Ne.symm I.ne.2.1)];exact I.c
   ·rw[zS (lt_of_get r1)];unfold L4;rw[List.map_set];simp
   ·rw[zX I.ne.2.2,zS lp];unfold L4;rw[jD];simp
 · simp only[h0,decide_false,jo,if_false];rw[N8 I.p,iG I.c ec',lK I.c,hlc,ni I.n0 (by have:=I.nl;lia)];refine⟨rfl,Dq (zK (Nat.div_le_self _ _) hk) λm=>?_⟩;rw[W4 I.p (by lia)];refine⟨⟨by simp,λi h1 h2=>by rw[zX (Ne.symm h2)]⟩,_,rs,ns++[m],rfl,⟨?_,?_,?_,I.n0,I.nl,I.eq,I.ne⟩,by simp⟩
   ·rw[zX (Ne.symm I.ne.2.1)];exact I.c
   ·rw[zX (Ne.symm I.ne.2.2)];exact I.r
   ·rw[zS (lt_of_get I.p)];unfold L4;rw[jD];simp
theorem OS:∀m j v u rs ns G,PuI pc pr pp cs rs ns G->ns.length+m<=1000->j+m<=1000->
 Wp (B2 UA PB (λ_=>true) ((ZZ j m).map fun(i:Nat)=>D.int (0+(i:Int))) [o0,o1,o2,o3,sRf pc,sRf pr,sRf pp,v,u]) G λfl G'=>Gr3 pr pp G G'/\∃v' u' rs' ns',fl= .nx [o0,o1,o2,o3,sRf pc,sRf pr,sRf pp,v',u']/\PuI pc pr pp cs rs' ns' G'
 |0,j,v,u,rs,ns,G,I,hn,hj=>by simp only[List.range'_zero,ZI,gA];exact⟨trivial,⟨rfl,λ_ _ _=>rfl⟩,_,_,rs,ns,rfl,I⟩
 |m+1,j,v,u,rs,ns,G,I,hn,hj=>by simp only[List.range'_succ,zO,bA,M6,jY,ym];refine⟨trivial,?_⟩;rw[show (0+(j:Int))= (j:Int) by lia];refine Wp.mono (eY I (by lia) (by lia)) λfl G1 ⟨g1,u1,rs1,ns1,e1,I1,Ha⟩=>?_;subst e1;exact Wp.mono (OS m (j+1) _ _ rs1 ns1 G1 I1 (by lia) (by lia)) λfl G2 ⟨g2,h2⟩=>⟨⟨g2.1.trans g1.1,λi a b=>(g2.2 i a b).trans (g1.2 i a b)⟩,h2⟩
def Pv:TJ=o9 (M8 (tE g0 (C4 x0) (C4 (cIn 126)) (C4 y0)) B3) (o9 (ifS (tBn eqD S0 (Q7 L0)) (M8 (Q7 (D1 x0)) B3) J7) PT):=rfl
def Wq:Wp (geD (.int i) (.int j)) G Q↔Q (.bl (decide (j<=i))) G:=wp_pure
def HA(c:Int):Nat:=if 1000000000000000000<=c.natAbs then c.natAbs else 0
def Hm{cs:List Int}(e:G[p]? =some (.lst (cs.map D.int)))(hl:cs.length<=100)(q:Q (.ref G.length) (G++[.lst (L4 (cs.map HA))])):Wp (PR [o0,o1,o2,o3,sRf p,o5,o6,o7,o8]) G Q:=by
 have bg:=big;unfold PR;have hs:itW S0 [o0,o1,o2,o3,sRf p,o5,o6,o7,o8] G=some (.ok ⟨cs.map D.int,ckO p (.lst (cs.map D.int))⟩,G):=by
  obtain⟨a,G',e1,e2⟩:=(show Wp (itW S0 [o0,o1,o2,o3,sRf p,o5,o6,o7,o8]) G λa G'=>a= ⟨cs.map D.int,ckO p (.lst (cs.map D.int))⟩/\G'=G by
   simp only[wp_itW,R5,zI,ja,zN,exists_eq_left'];rw[vA e];exact⟨rfl,rfl⟩)
  rw[e2.1,e2.2]at e1;exact e1
 rw[bT (λσ=>σ.length=1) hs (by show (cs.map D.int).length<=_;rw[zg];lia) (by simp only[ckO,e];simp) rfl (λx hx σ WS=>?_)]
 · have em:(cs.map D.int).map (λx=>match x with| .int c=>D.int (HA c:Int)|_=>.non)=L4 (cs.map HA):=by
    unfold L4;rw[jZ,jZ];rfl
   show Q (.ref G.length) (G++[.lst ((cs.map D.int).map λx=>match x with| .int c=>D.int (HA c:Int)|_=>.non)]);rw[em];exact q
 · obtain⟨c,hc,rfl⟩:=zF.mp hx
   match σ,WS with
   |[u],_=>
     refine⟨[some (.int c)],rfl,rfl,rfl,R9 ?_⟩;simp only[D6,W7,S5,j9,N9,R5,zI,zN,exists_eq_left',ve,p18,Wq,qk];have ea:(if c<0 then -c else c)= (c.natAbs:Int):=by split<;>lia
     rw[ea];by_cases h1:1000000000000000000<=c.natAbs
     ·have h1':decide ((1000000000000000000:Int)<=(c.natAbs:Int))=true:=decide_eq_true (by lia);rw[h1',if_pos rfl,i8 (Or.inr ⟨by decide,by decide⟩)];unfold HA;rw[if_pos h1];exact⟨by simp,rfl⟩
     ·have h1':decide ((1000000000000000000:Int)<=(c.natAbs:Int))=false:=decide_eq_false (by lia);rw[h1',if_neg (by decide),i8 (Or.inr ⟨by decide,by decide⟩)];unfold HA;rw[if_neg h1];exact⟨by simp,rfl⟩
def Rq{ns:List Int}{lo hi st:Option Int}:∃cs:List Int,oF (ns.map D.int) lo hi st=cs.map D.int/\cs.length<=ns.length:=by
 refine⟨(cB ns.length lo hi st).filterMap (ns[·]?),?_,?_⟩
 ·unfold oF;rw[zg,List.map_filterMap];congr 1;funext i;rw[zU]
 · have h:=slicePick_size_le (ns.map λi=>Value.none).toArray lo hi st;unfold JB at h;rw[zo,zo,zg]at h;refine zK (xP ?_) h;unfold cB;generalize sliceRange _ _ _=is
   induction is with
   |nil=>rfl
   |cons i r ih=>
     rw[yf,yf];by_cases hi:i<ns.length
     ·simp[hi,ih]
     ·simp[hi,ih]
def TU{mm:Nat}(hm:mm<=1000){st:Int}{cs:List Int}{G G1:DH}(g1:Gr G G1)(e1:G1[pc]? =some (.lst (cs.map D.int)))(h0:0<cs.length)(hl:cs.length<=63)(hpc:G.length<=pc):
 Wp (PT [sRf p0,some (.int a),some (.int st),sIi mm,sRf pc,none,none,none,none]) G1 λfl G'=>∃r,fl= .rt (.ref r)/\Dr G' r/\Gr G G'/\G.length<=r:=by
 unfold PT;simp only[d9,W8,M6,P4,j9,ym,jY];refine Hm e1 (by lia) ⟨sz,?_⟩;have l1:=lt_of_get e1;rw[i9];simp only[rng1,S5,j9,R5,zN,exists_eq_left',zI,ja];rw[rng1_int ⟨by lia,by lia⟩];have er:K3 0 ((mm:Nat):Int).toNat= (ZZ 0 mm).map fun(i:Nat)=>D.int (0+(i:Int)):=by unfold K3;rw[List.range_eq_range',jE]
 show Wp (B2 UA PB (λ_=>true) (K3 0 ((mm:Nat):Int).toNat) _) _ _;rw[er];have I:PuI pc G1.length (G1++[DO.lst (L4 (cs.map HA))]).length cs (cs.map HA) [] (G1++[DO.lst (L4 (cs.map HA))]++[DO.lst []]):=⟨P0 (P0 e1),P0 j6,j6,h0,by lia,by simp,by simp;lia⟩;refine Wp.mono (OS mm 0 none none _ _ _ I (by simp;lia) (by lia)) λfl G3 ⟨g3,v',u',rs',ns',e3,I3⟩=>?_;subst e3;simp only[r6,EO,R5,zN,exists_eq_left',zI,ja];rw[kZ I3.p];have Ei:=g3.1;simp only[zJ,jI]at Ei;refine⟨_,rfl,⟨ns'.reverse,by rw[j6];unfold L4;rw[List.map_reverse]⟩,?_,?_⟩
 · refine⟨?_,λi hi=>?_⟩
   ·have:=g1.1;simp only[zJ,jI];lia
   ·have:=g1.1;rw[zQ (by lia),g3.2 i (by lia) (by simp;lia),zQ (by simp;lia),zQ (by lia),g1.2 i hi]
 ·have:=g1.1;lia
def PM{mm:Nat}(hm:mm<=1000){p0:Nat}{a:Nat}{st:Int}(h0:st≠0){ns:List Int}(e:G[p0]? =some (.rol (ns.map D.int)))(hn:ns.length<=63):Wp (Q3 [.ref p0,.int (a:Int),.int st,.int (mm:Int)]) G λx G'=>∃r,x= .ref r/\Dr G' r/\Gr G G'/\G.length<=r:=by
 have bg:=big;unfold Q3;rw[Pv];have s0:([D.ref p0,.int (a:Int),.int st,.int (mm:Int)].map some++zC (9 - [D.ref p0,.int (a:Int),.int st,.int (mm:Int)].length) none:DSt)= [sRf p0,sIi a,some (.int st),sIi mm,none,none,none,none,none]:=rfl;simp only[Z5,s0,d9,W8,M6,GA,FA,D6,P4,S5,j9,N9,R5,m5,GX,iN,iV,zN,exists_eq_left',zI,ja,ym,jY];rw[GZ e (by simpa using h0)];obtain⟨cs,ec,hc⟩:=Rq;rw[ec];refine⟨sz,?_⟩;rw[kL (P0 j6) j6];simp only[lC]
 cases cs with
 |nil=>
   simp only[ZI,List.isEmpty_nil,if_true];refine⟨sz,?_⟩;refine Wp.mono (TU hm (cs:= [(a:Int)]) (Gr.app.trans (Gr.app.trans Gr.app)) j6 (by simp) (by simp) (by simp)) λfl G' ⟨r,e1,h1⟩=>?_;subst e1;exact⟨r,rfl,h1⟩
 |cons c0 cr=>
   simp only[zO,List.isEmpty_cons,jo,if_false];refine Wp.mono (TU hm (cs:=c0::cr) (Gr.app.trans Gr.app) (P0 j6) (by simp) (by lia) (zp _)) λfl G' ⟨r,e1,h1⟩=>?_;subst e1;exact⟨r,rfl,h1⟩
def DC(n:Nat)(c:CS n):Prop:=Gd n c/\SzC n 6 c
def LOk(n:Nat)(r:Option (List (CS n)×CS n)):Prop:=i7 (inC n) (Gd n) r/\lsZ n 6 r
def ROk(n:Nat)(r:Option (List (Str×Bool×CS n)×CS n)):Prop:=U3 (inC n) (Gd n) r/\rsZ n 6 r
def aL(n:Nat):CS (n+1):=some (D4 _)
def QM:∀n k,SzC n k (c5 n)
 |0,_=>trivial
 |_+1,_=>λ_ e=>nomatch e
def CO(n:Nat):DC n (c5 n):=⟨qG n,QM n 6⟩
def qH(n:Nat):DC (n+1) (aL n):=⟨VN,by
 rintro _ ⟨⟩;exact⟨zY _,zY _,λ_ h=>(nomatch h),λ_ _ e=>(nomatch e),λ_ _ e=>(nomatch e)⟩⟩
def vp:LOk n none:=⟨λ_ _ e=>(nomatch e),λ_ _ e=>(nomatch e)⟩
def gY:ROk n none:=⟨λ_ _ e=>(nomatch e),λ_ _ e=>(nomatch e)⟩
def CM:LOk n (some ([],c5 n)):=⟨by rintro _ _ ⟨⟩;exact⟨qG n,λ_ h=>(nomatch h)⟩,by rintro _ _ ⟨⟩;exact⟨rfl,QM n 6⟩⟩
def qL:ROk n (some ([],c5 n)):=⟨by rintro _ _ ⟨⟩;exact⟨qG n,.nil,λ_ h=>(nomatch h)⟩,by rintro _ _ ⟨⟩;exact⟨zY _,QM n 6,λ_ h=>(nomatch h)⟩⟩
def lM:J8 [] G=some (.ok E4,G):=rfl
def KO:HC [] G=some (.ok evD,G):=rfl
def lQ:(k:Int) / 8 % 2=0\/(k:Int) / 8 % 2=1:=by have a1:0<=(k:Int) / 8 % 2:=jx _ (by decide);have a2:(k:Int) / 8 % 2<2:=jt _ (by decide);lia
def ue:∃b,atI [D.non,.tup [.tup [],.str d4]] ((k:Int) / 8 % 2)=some (lsD (enC n) b)/\LOk n b:=by
 rcases lQ with z|z
 ·exact⟨none,by rw[z];rfl,vp⟩
 ·exact⟨some ([],c5 n),by rw[z];show _=some (D.tup [.tup [],enC n (c5 n)]);rw[SK];rfl,CM⟩
def Nk:∃b,atI [D.non,.tup [.tup [],.str d4]] ((k:Int) / 8 % 2)=some (rcD (enC n) b)/\ROk n b:=by
 rcases lQ with z|z
 ·exact⟨none,by rw[z];rfl,gY⟩
 ·exact⟨some ([],c5 n),by rw[z];show _=some (D.tup [.tup [],enC n (c5 n)]);rw[SK];rfl,qL⟩
def DAt(d:Nat)(R:List D->M D):Prop:=∀(G:DH) (r:Nat),Dr G r->Wp (R [.ref r,.int (d:Int)]) G λx G'=>Fd r G G'/\∃c,x=enC (d+1) c/\DC (d+1) c
section
variable{r d:Nat}{G:DH}{R:List D->M D}
def Qf(ih:DAt d (R6 R))(h:Dr G r):Wp (lD R [.ref r,.int (k:Int),.int (d:Int)]) G λx G'=>Fd r G G'/\∃c,x=enC (d+1) c/\DC (d+1) c:=by
 refine v9 (show Wp (LH R [sRf r,sIi k,sIi d]) G _ from ?_);unfold LH;refine d9.mpr<| X3<| J6<| m7<| v8 rfl rfl<| (t6 (by decide)).mpr<| b8 rfl<| pI.mpr ⟨_,rfl,λ_=>?_,λ_=>m5.mpr ?_⟩
 ·exact u5<| j8 rfl rfl<| ih G r h
 ·exact u5<| j8 rfl rfl<| b8 lM<| u0 ⟨Fd.refl h,aL d,rfl,qH d⟩
def Lh(h:Dr G r):Wp (sF [.ref r,.int 0]) G λx G'=>Fd r G G'/\∃b,x=lsD (enC 0) b/\LOk 0 b:=by refine v9 (show Wp (mH [sRf r,some (.int 0),none,none,none]) G _ from ?_);unfold mH;refine d9.mpr<| M3<| j8 rfl rfl<| X7 h λk G1 f1=>d9.mpr ?_;refine X3<| E8<| J6<| v8 (x:=.int 0) (y:=.int 0) rfl rfl<| T5.mpr ⟨_,rfl,λ_=>⟨λ_=>?_,λz=>nomatch z⟩,λz=>nomatch z⟩;refine u5<| m7<| P4.mpr<| b8 rfl ⟨sz,m7<| v8 (x:=.int (k:Int)) (y:=.int 8) rfl rfl<| (K8 ⟨by decide,by decide⟩).mpr<| b8 (a:=.int 2) rfl<| (t6 (by decide)).mpr<| (u7 j6).mpr ?_⟩;obtain⟨b,hb,ob⟩:=ue (n:=0);exact⟨_,hb,u0 ⟨f1.trans (Fd.app f1.2.2),b,rfl,ob⟩⟩
end
def Np(h:Ris s):s.Nodup:=by
 rw[ZQ];refine Yy ?_ h;intro a b k e;rw[e,MD]at k
 cases k
def nmB:D->Bool
 | .str z=>decide ((0:Int)<(z.length:Int))&&decide ((z.length:Int)<9)
 |_=>false
def ON(h:Dr G r):Wp (mD [.ref r]) G λx G'=>Fd r G G'/\∃(p:Nat) (ws:List Str),x= .ref p/\G.length<=p/\G'[p]? =some (.lst (ws.map D.str))/\ws.Pairwise nlt/\(∀z∈ws,Tx z/\0<z.length)/\ws.length<=6:=by
 have bg:=big;refine v9 (show Wp (IH [sRf r]) G _ from ?_);unfold IH;refine u5<| O6<| m6<| wp_comp.mpr<| wp_itW.mpr<| j8 rfl rfl<| (QS h).mono ?_;rintro _ G1 ⟨ss,rfl,rw_,ls,f1⟩;refine srcW_tup.mpr ⟨by rw[zg];lia,?_⟩;have hc:K7 H0 (VA (oB ltD ltD z0 (F0 N1 g0) MA)) g0 (λ_=>true) (ss.map D.str) (T9 [none] [sRf r]) G1=some (.ok ((ss.map D.str).filter nmB),G1):=by
  refine aC rfl (λσ=>∃u,σ= [u]) _ _ ⟨_,rfl⟩ λx hx σ WS=>?_;obtain⟨z,hz,rfl⟩:=zF.mp hx;obtain⟨u,rfl⟩:=WS;refine⟨[some (.str z)],rfl,⟨_,rfl⟩,R9 (J6<| iS.mpr<| b8 rfl<| b8 (R9<| L5 rfl<| (BI (zK (rw_.tx z hz).2 (by lia))).mpr ⟨rfl,rfl⟩)<| QF.mpr ⟨_,rfl,?_⟩),rfl⟩;show if decide ((0:Int)<(z.length:Int))=true then _ else _;by_cases hz:(0:Int)<(z.length:Int)
  ·rw[decide_eq_true hz,if_pos rfl];refine b8 rfl<| QF.mpr ⟨_,rfl,?_,rfl⟩;show _= (decide ((0:Int)<(z.length:Int))&&decide ((z.length:Int)<9));rw[decide_eq_true hz];rfl
  ·rw[decide_eq_false hz,if_neg (by decide)];refine⟨_,rfl,?_,rfl⟩;show _= (decide ((0:Int)<(z.length:Int))&&decide ((z.length:Int)<9));rw[decide_eq_false hz];rfl
 have ef:(ss.map D.str).filter nmB= (ss.filter (nmB∘D.str)).map D.str:=by rw[Yx]
 rw[ef]at hc;have hl:=xA (nmB∘D.str) ss;refine b8 hc<| j9.mpr<| (qR j6 (TF _) (by lia)).mpr<| u0 ⟨(f1.trans (Fd.app f1.2.2)).trans (Fd.app (Fd.app f1.2.2).2.2),_,_,rfl,?_,j6,gQ ((Np rw_.ris).sublist ZG),λz hz=>?_,?_⟩
 ·have:=f1.1;rw[zJ];lia
 ·have hz:=(jv _ leS).mem_iff.mp hz;obtain⟨h1,h2⟩:=jL.mp hz;refine⟨rw_.tx z h1,?_⟩;have h2:(decide ((0:Int)<(z.length:Int))&&decide ((z.length:Int)<9))=true:=h2;rw[jk,decide_eq_true_iff]at h2;lia
 ·exact zK (xP (jv _ leS).length_eq) (by lia)
structure RE(n:Nat)(m:CS n)(es:List (Str×Bool×CS n)):Prop where
 nms:Nms es
 at_:∀e∈es,Gd n e.2.2/\(e.2.1=true->∃v,inC n e.2.2 v)/\(e.2.1=false->e.2.2≠m)
 sz:∀e∈es,SzC n 6 e.2.2/\Tx e.1/\0<e.1.length
def RE.snoc(h:RE n m es)(hn:∀x∈es,nlt x.1 e.1)(h1:Gd n e.2.2/\(e.2.1=true->∃v,inC n e.2.2 v)/\(e.2.1=false->e.2.2≠m))(h2:SzC n 6 e.2.2/\Tx e.1/\0<e.1.length):RE n m (es++[e]):=
 ⟨YO.mpr ⟨h.nms,yF ..,λa ha b hb=>by rw[zB.mp hb];exact hn a ha⟩,λx hx=>(jd.mp hx).elim (h.at_ x) λk=>by rw[zB.mp k];exact h1,λx hx=>(jd.mp hx).elim (h.sz x) λk=>by rw[zB.mp k];exact h2⟩
def pZ(ih:DAt 0 (R6 R))(hp:p≠r)(h:Dr G r)(e:G[p]? =some (.lst (es.map (fdE (enC 1)))))(hm:DC 1 m)(he:RE 1 m es)(hn:∀x∈es,nlt x.1 z)(hz:Tx z/\0<z.length)(hl:es.length<=100):
 Wp (RB R [sRf r,some (.int 1),sIi k,some (enC 1 m),sRf p,some (.str z),u,v]) G λfl G'=>Fd2 r p G G'/\∃u' v' Er,fl= .nx [sRf r,some (.int 1),sIi k,some (enC 1 m),sRf p,some (.str z),u',v']/\G'[p]? =some (.lst (Er.map (fdE (enC 1))))/\RE 1 m Er/\Er.length<=es.length+1/\∀x∈Er,x∈es\/x.1=z:=by
 have bg:=big;refine d9.mpr<| M3<| j8 (as:= [.ref r,.int ((0:Nat):Int)]) rfl rfl<| (ih G r h).mono ?_;rintro _ G1 ⟨f1,c,rfl,hc⟩;have must:∀ {S:DPP},(∀b G2,Fd r G1 G2->(b=true->∃v,inC 1 c v)->S (.bl b) G2)->Wp ((T4 (j5 eqD (j5 J9 (D0 t7 g0) K0) z0) (j5 neD E3 (F4 J8))) [sRf r,some (.int 1),sIi k,some (enC 1 m),sRf p,some (.str z),some (enC 1 c),v]) G1 S:=λ{S} hS=>by
  refine uC.mpr<| m7<| m7<| j8 rfl rfl<| X7 f1.2.2 λj G2 f2=>b8 rfl<| (t6 (by decide)).mpr<| b8 rfl<| T5.mpr<| Q4.mpr ?_;by_cases hj:(j:Int) % 2=0
  · rw[decide_eq_true hj,if_pos rfl];obtain⟨b,eb,hb⟩:=VB (by decide) G2 c hc.1;refine v8 rfl rfl<| r8.mpr ⟨b,eb,hS _ G2 f2 λe=>js λz=>?_⟩;have:b=true:=hb.mpr λv k=>z ⟨v,k⟩;rw[this]at e
    cases e
  ·rw[decide_eq_false hj,if_neg (by decide)];exact hS false G2 f2 λe=>nomatch e
 refine d9.mpr<| M3<| must λb G2 f2 hb=>?_;have f12:=f1.trans f2;have e2:=f12.at hp e;have add:(b=false->c≠m)->Wp ((N4 (mtE Q0 L6 S0 (D1 (cC E1 D8 E3)))) [sRf r,some (.int 1),sIi k,some (enC 1 m),sRf p,some (.str z),some (enC 1 c),some (.bl b)]) G2 λfl G'=>Fd2 r p G G'/\∃u' v' Er,fl= .nx [sRf r,some (.int 1),sIi k,some (enC 1 m),sRf p,some (.str z),u',v']/\G'[p]? =some (.lst (Er.map (fdE (enC 1))))/\RE 1 m Er/\Er.length<=es.length+1/\∀x∈Er,x∈es\/x.1=z:=λEt=>by refine iA.mpr<| x5.mpr<| b8 rfl<| (N8 e2).mpr<| b8 rfl<| (W4 e2 (by rw[zg];lia)).mpr ?_;refine⟨f12.two.trans (Fd2.set hp f12.2.2),_,_,es++[(z,b,c)],rfl,by rw[zS (lt_of_get e2),jD];rfl,he.snoc hn ⟨hc.1,hb,Et⟩ ⟨hc.2,hz⟩,by simp,λx hx=>(jd.mp hx).imp id λk=>by rw[zB.mp k]⟩
 refine X3<| E8<| h9.mpr<| b8 rfl<| Q4.mpr ⟨λhb=>⟨λ_=>add λz=>(by rw[z]at hb;cases hb),λz=>nomatch z⟩,λhb=>?_⟩;obtain⟨q,eq,hq⟩:=eD (by decide) G2 c m;refine J6<| v8 rfl rfl<| r8.mpr ⟨q,eq,_,rfl,λhn'=>add λ_ hcm=>?_,λ_=>m5.mpr ⟨f12.two,_,_,es,rfl,e2,he,by lia,λx hx=>.inl hx⟩⟩;rw[hq.mpr hcm]at hn'
 cases hn'
section
variable{r d:Nat}{G:DH}{R:List D->M D}
theorem QR(ih:DAt 0 (R6 R))(hp:p≠r)(hq:q≠r)(Hs:q≠p)(hm:DC 1 m):∀(ws:List Str) o u v es G,Dr G r->G[p]? =some (.lst (es.map (fdE (enC 1))))->G[q]? =some (.lst L)->RE 1 m es->(∀x∈es,∀z∈ws,nlt x.1 z)->ws.Pairwise nlt->(∀z∈ws,Tx z/\0<z.length)->es.length+ws.length<=7->
 Wp (B2 i5 (RB R) (ckO q (.lst L)) (ws.map D.str) [sRf r,some (.int 1),sIi k,some (enC 1 m),sRf p,o,u,v]) G λfl G'=>Fd2 r p G G'/\∃o' u' v' Er,fl= .nx [sRf r,some (.int 1),sIi k,some (enC 1 m),sRf p,o',u',v']/\G'[p]? =some (.lst (Er.map (fdE (enC 1))))/\RE 1 m Er/\Er.length<=es.length+ws.length
 |[],o,u,v,es,G,h,e,eq,he,_,_,_,_=>gA.mpr ⟨fA eq,(Fd.refl h).two,o,u,v,es,rfl,e,he,by simp⟩
 |z::t,o,u,v,es,G,h,e,eq,he,hn,hs,hz,hl=>by simp only[zM]at hl;obtain⟨s1,s2⟩:=jf.mp hs;refine bA.mpr ⟨fA eq,M6.mpr<| (pZ ih hp h e hm he (λx hx=>hn x hx z (zH ..)) (hz z (zH ..)) (by lia)).mono ?_⟩;rintro _ G1 ⟨f1,u1,v1,Fy,rfl,q2,q3,q4,q5⟩;have eq1:G1[q]? =some (.lst L):=(f1.2.1 q hq Hs (lt_of_get eq)).trans eq;refine(QR ih hp hq Hs hm t _ u1 v1 Fy G1 f1.2.2 q2 eq1 q3 (λx hx y hy=>(q5 x hx).elim (λk=>hn x k y (zA _ hy)) λk=>by rw[k];exact s1 y hy) s2 (λy hy=>hz y (zA _ hy)) (by lia)).mono ?_;rintro _ G2 ⟨f2,b1,b2,b3,b4,p1,p2,p3,p4⟩;exact⟨f1.trans f2,b1,b2,b3,b4,p1,p2,p3,by simp only[zM];lia⟩
def tR(h6:d<=1)(ih:∀d',d=d'+1->DAt d' (R6 R))(h:Dr G r):Wp (m8 8 (U8 R) [.ref r,.int (d:Int)]) G λx G'=>Fd r G G'/\∃b,x=rcD (enC d) b/\ROk d b:=by
 refine v9 (show Wp (U8 R [sRf r,sIi d,none,none,none,none,none,none]) G _ from ?_);have is_:U8 R=o9 (M8 (D0 t7 g0) C1) (gdQ (orT (tBn eqD x0 z0) (tBn eqD (j5 J9 y0 Q2) z0)) (ixE (Q7 (i4 N0 (T0 (S2 L0) (cSt "any")))) (j5 J9 (j5 M4 y0 Q2) K0)) (asQ (wB (lD R) g0 y0 (j5 u4 x0 C0)) y3 (asQ (Q7 L0) B3 (o9 (N3 (itW (D0 mD g0)) i5 (RB R)) (t8 (T0 (F0 O3 S0) O0)))))):=rfl;rw[is_];refine d9.mpr<| M3<| j8 rfl rfl<| X7 h λk G1 f1=>d9.mpr ?_;have pick:∀ {σ:DSt} {P:Fl->DH->Prop},σ[2]? =some (some (.int (k:Int)))->(∀x G',(Fd r G G'/\∃b,x=rcD (enC d) b/\ROk d b)->P (.rt x) G')->Wp (t8 (ixE (Q7 (i4 N0 (T0 (S2 L0) (cSt "any")))) (j5 J9 (j5 M4 y0 Q2) K0)) σ) G1 P:=λ{σ P} WS hP=>by refine u5<| m7<| P4.mpr<| b8 rfl ⟨sz,m7<| v8 (R9 (R5.mpr ⟨_,WS,rfl,rfl⟩)) rfl<| (K8 ⟨by decide,by decide⟩).mpr<| b8 rfl<| (t6 (by decide)).mpr<| (u7 j6).mpr ?_⟩;obtain⟨b,hb,ob⟩:=Nk;exact⟨_,hb,hP _ _ ⟨f1.trans (Fd.app f1.2.2),b,rfl,ob⟩⟩
 refine X3<| E8<| J6<| v8 rfl rfl<| T5.mpr ⟨_,rfl,λ_=>⟨λ_=>pick rfl λ_ _ q=>q,λz=>nomatch z⟩,λhd=>?_⟩;have hd:¬((d:Int)=0):=of_decide_eq_false hd;refine J6<| m7<| v8 rfl rfl<| (t6 (by decide)).mpr<| b8 rfl<| T5.mpr ⟨_,rfl,λ_=>pick rfl λ_ _ q=>q,λ_=>m5.mpr ?_⟩;rcases d with _|d
 ·exact absurd rfl hd
 obtain rfl:d=0:=by lia
 have ih:=ih 0 rfl;refine d9.mpr<| M3<| j8 rfl rfl<| (Qf ih f1.2.2).mono ?_;rintro _ G2 ⟨f2,m,rfl,hm⟩;have f3:Fd r G2 (G2++[DO.lst []]):=Fd.app f2.2.2;refine u6 (X1:= [sRf r,some (.int 1),sIi k,some (enC 1 m),some (.ref G2.length),none,none,none]) rfl ?_;refine d9.mpr<| i9.mpr<| wp_itW.mpr<| j8 rfl rfl<| (ON f3.2.2).mono ?_;rintro _ G4 ⟨f4,q,ws,rfl,hq,eq,hs,hz,hl⟩;have hp:G2.length≠r:=by have:=f2.2.2.lt;lia
 have hqr:q≠r:=by have:=f2.2.2.lt;rw[zJ]at hq;lia
 have hqp:q≠G2.length:=by rw[zJ,jI]at hq;lia
 refine(vA eq).mpr<| (QR ih hp hqr hqp hm ws none none none [] G4 f4.2.2 (f4.at hp j6) eq ⟨.nil,λ_ h=>(nomatch h),λ_ h=>(nomatch h)⟩ (λ_ h=>nomatch h) hs hz (by simp;lia)).mono ?_;rintro _ G5 ⟨f5,o',u',v',es,rfl,e5,he,hle⟩;have fin:=(f1.trans (f2.trans (f3.trans f4))).thru f5 (show G.length<=G2.length from(f1.trans f2).1);refine u5<| S7.mpr<| m6<| L5 rfl<| (M7 e5).mpr<| b8 rfl ⟨sz,u0 ⟨fin,some (es,m),rfl,?_,?_⟩⟩
 ·rintro _ _ ⟨⟩;exact⟨hm.1,he.nms,he.at_⟩
 ·rintro _ _ ⟨⟩;exact⟨by simp at hle;show _<=6;lia,hm.2,he.sz⟩
end
def OkP(n:Nat)(w:Pt (CS n)):Prop:=GdP (inC n) (Gd n) w/\SzP (SzC n 6) 6 (fb n 6) w
def wV(n:Nat):OkP n (D4 _):=⟨(qH n).1.1,(qH n).2 _ rfl⟩
def Tg(n:Nat):OkP n (evP n):=⟨⟨iT,.nil,(show [false,true]∈B4 by decide),CM.1,qL.1⟩,⟨(by decide: [((none:Option Int),(none:Option Int))].length<=6),zY _,λ_ h=>(nomatch h),CM.2,qL.2⟩⟩
def cnd(i:Int)(f:Fe):DSt->M Bool:=(orT (tBn eqD S0 (cE (.int i))) (Q1 (J2 E3) (tBn eqD f z0)))
def SS(d r p:Nat)(u:Option D)(a:Int)(s:Nat)(o:Bool):DSt:= [sRf r,sIi d,u,sRf p,some (.int a),sIi s,some (.bl o)]
def EF(hf:∀ {Q},(∀j:Int,Q (.int j) G)->Wp (f (SS d r p u a s o)) G Q)(h:∀k,B k G):Wp (cnd i f (SS d r p u a s o)) G B:=
 E8<| J6<| m7<| b8 rfl<| b8 rfl<| T5.mpr ⟨_,rfl,λ_=>h true,λ_=>F8<| h9.mpr<| b8 rfl<| Q4.mpr ⟨λ_=>J6<| m7<| hf λj=>b8 rfl<| T5.mpr ⟨_,rfl,h _⟩,λ_=>h false⟩⟩
def ux(hc:0<c)(q:∀j:Int,Q (.int j) G):Wp ((j5 J9 E1 (cE (.int c))) (SS d r p u a s o)) G Q:=v8 rfl rfl<| (t6 hc).mpr (q _)
def mds(hb:0<b/\b<2 ^ 100)(hc:0<c)(q:Q (.int ((s:Int) / b % c)) G):Wp ((j5 J9 (j5 M4 E1 (cE (.int b))) (cE (.int c))) (SS d r p u a s o)) G Q:=m7<| v8 rfl rfl<| (K8 hb).mpr<| b8 rfl<| (t6 hc).mpr q
def PI(d r p:Nat)(u:Option D)(a:Int)(s:Nat)(o:Bool)(G:DH)(fl:Fl)(G':DH):Prop:=Fd2 r p G G'/\fl= .nx (SS d r p u a s o)/\∃w,G'[p]? =some (.lst (fiv (enC d) w))/\OkP d w
def stay(h:Dr G r)(e:G[p]? =some (.lst (fiv (enC d) w)))(ok:OkP d w):PI d r p u a s o G (.nx (SS d r p u a s o)) G:=⟨(Fd.refl h).two,rfl,w,e,ok⟩
def vF(hp:p≠r)(f1:Fd r G G1)(e:G[p]? =some (.lst (fiv (enC d) w)))(hj:ixN 5 i=some j)(hd:(fiv (enC d) w).set j x=fiv (enC d) w')(ok:OkP d w'):Wp (A3 O0 (cE (.int i)) x (SS d r p u a s o)) G1 λσ G2=>PI d r p u a s o G (.nx σ) G2:=by have e1:=f1.at hp e;refine SJ rfl rfl e1 hj ?_;rw[hd];exact⟨f1.two.trans (Fd2.set hp f1.2.2),rfl,w',zS (lt_of_get e1),ok⟩
def I0:Fs:=(ifS (cnd 0 (j5 J9 E1 K0)) (M8 (D0 V0 g0) (A3 O0 z0)) J7)
def I1:Fs:=(ifS (cnd 1 (j5 J9 (j5 M4 E1 K0) L1)) (M8 (T0 (ixE (Q7 (i4 (cSt "of") (cSt "but"))) (j5 J9 (j5 M4 E1 A6) K0)) (D0 TC g0)) (A3 O0 C0)) J7)
def I2:Fs:=(ifS (cnd 2 (j5 J9 (j5 M4 E1 (cIn 12)) L1)) (M8 (ixE (Q7 (wM (S2 L0) (gB cBf) (gB cBt) (T0 cBf cBt))) (j5 J9 (j5 M4 E1 (cIn 36)) F1)) (A3 O0 K0)) J7)
def I3:Fs:=(ifS (cnd 3 (j5 J9 (j5 M4 E1 (cIn 144)) K0)) (M8 (M0 sF g0 x0) (A3 O0 L1)) J7)
def I4(R:List D->M D):Fs:=(ifS (cnd 4 (j5 J9 (j5 M4 E1 (cIn 288)) K0)) (M8 (M0 R g0 x0) (A3 O0 F1)) J7)
def pt(hp:p≠r)(h:Dr G r)(e:G[p]? =some (.lst (fiv (enC d) w)))(ok:OkP d w):Wp (I0 (SS d r p u a s o)) G (PI d r p u a s o G):=by refine X3<| EF (λq=>ux (by decide) q) λk=>⟨λ_=>W8.mpr<| j8 rfl rfl<| (Sc h).mono ?_,λ_=>m5.mpr (stay h e ok)⟩;rintro _ G1 ⟨ns,rfl,cn,ln,f1⟩;exact vF (w':={w with ns:=ns}) hp f1 e rfl rfl ⟨⟨cn,ok.1.ss,ok.1.bs,ok.1.ls,ok.1.rs⟩,⟨by dsimp only;lia,ok.2.ss,ok.2.tx,ok.2.ls,ok.2.rs⟩⟩
def Bm(hp:p≠r)(h:Dr G r)(e:G[p]? =some (.lst (fiv (enC d) w)))(ok:OkP d w):Wp (I1 (SS d r p u a s o)) G (PI d r p u a s o G):=by
 refine X3<| EF (λq=>mds ⟨by decide,by decide⟩ (by decide) (q _)) λk=>⟨λ_=>?_,λ_=>m5.mpr (stay h e ok)⟩;have f0:Fd r G (G++[.lst [.str wOf,.str NJ]]):=Fd.app h;refine W8.mpr<| S7.mpr<| m6<| m7<| P4.mpr<| b8 rfl ⟨sz,mds ⟨by decide,by decide⟩ (by decide)<| (u7 j6).mpr ?_⟩;have hd:∃b:Bool,atI [D.str wOf,.str NJ] ((s:Int) / 6 % 2)=some (.str (wrd b)):=by
  have a1:0<=(s:Int) / 6 % 2:=jx _ (by decide);have a2:(s:Int) / 6 % 2<2:=jt _ (by decide);rcases (show (s:Int) / 6 % 2=0\/(s:Int) / 6 % 2=1 by lia)with z|z
  ·exact⟨true,by rw[z];rfl⟩
  ·exact⟨false,by rw[z];rfl⟩
 obtain⟨b,hb⟩:=hd;refine⟨_,hb,m6<| j8 rfl rfl<| (QS f0.2.2).mono ?_⟩;rintro _ G1 ⟨ss,rfl,rs,ls,f1⟩;exact j9.mpr ⟨sz,vF (w':={w with b:=b,ss:=ss}) hp (f0.trans f1) e rfl rfl ⟨⟨ok.1.ns,rs.ris,ok.1.bs,ok.1.ls,ok.1.rs⟩,⟨ok.2.ns,by dsimp only;lia,rs.tx,ok.2.ls,ok.2.rs⟩⟩⟩
def eW(hp:p≠r)(h:Dr G r)(e:G[p]? =some (.lst (fiv (enC d) w)))(ok:OkP d w):Wp (I2 (SS d r p u a s o)) G (PI d r p u a s o G):=by refine X3<| EF (λq=>mds ⟨by decide,by decide⟩ (by decide) (q _)) λk=>⟨λ_=>?_,λ_=>m5.mpr (stay h e ok)⟩;have f0:Fd r G (G++[.lst (B4.map λl=>.tup (l.map D.bl))]):=Fd.app h;refine W8.mpr<| m7<| P4.mpr<| b8 rfl ⟨sz,mds ⟨by decide,by decide⟩ (by decide)<| (u7 j6).mpr ?_⟩;obtain⟨d,hd,ed⟩:=EH (l:=B4.map λl=>.tup (l.map D.bl)) (jx _ (by decide)) (jt _ (by decide));obtain⟨l,hl,rfl⟩:=zF.mp hd;exact⟨_,ed,vF (w':={w with bs:=l}) hp f0 e rfl rfl ⟨⟨ok.1.ns,ok.1.ss,hl,ok.1.ls,ok.1.rs⟩,⟨ok.2.ns,ok.2.ss,ok.2.tx,ok.2.ls,ok.2.rs⟩⟩⟩
def RAt(d:Nat)(R:List D->M D):Prop:=∀(G:DH) (r:Nat),Dr G r->Wp (R [.ref r,.int (d:Int)]) G λx G'=>Fd r G G'/\∃b,x=rcD (enC d) b/\ROk d b
def Dl(hp:p≠r)(h:Dr G r)(e:G[p]? =some (.lst (fiv (enC 0) w)))(ok:OkP 0 w):Wp (I3 (SS 0 r p u a s o)) G (PI 0 r p u a s o G):=by refine X3<| EF (λq=>mds ⟨by decide,by decide⟩ (by decide) (q _)) λk=>⟨λ_=>W8.mpr<| j8 rfl rfl<| (Lh h).mono ?_,λ_=>m5.mpr (stay h e ok)⟩;rintro _ G1 ⟨f1,b,rfl,ob⟩;exact vF (w':={w with ls:=b}) hp f1 e rfl rfl ⟨⟨ok.1.ns,ok.1.ss,ok.1.bs,ob.1,ok.1.rs⟩,⟨ok.2.ns,ok.2.ss,ok.2.tx,ob.2,ok.2.rs⟩⟩
def ci(ih:RAt d R)(hp:p≠r)(h:Dr G r)(e:G[p]? =some (.lst (fiv (enC d) w)))(ok:OkP d w):Wp (I4 R (SS d r p u a s o)) G (PI d r p u a s o G):=by refine X3<| EF (λq=>mds ⟨by decide,by decide⟩ (by decide) (q _)) λk=>⟨λ_=>W8.mpr<| j8 rfl rfl<| (ih _ _ h).mono ?_,λ_=>m5.mpr (stay h e ok)⟩;rintro _ G1 ⟨f1,b,rfl,ob⟩;exact vF (w':={w with rs:=b}) hp f1 e rfl rfl ⟨⟨ok.1.ns,ok.1.ss,ok.1.bs,ok.1.ls,ob.1⟩,⟨ok.2.ns,ok.2.ss,ok.2.tx,ok.2.ls,ob.2⟩⟩
def Br(h6:d<=6)(e:G[p]? =some (.lst (fiv (enC d) w)))(ok:OkP d w):Wp (I5 (SS d r p u a s o)) G λfl G'=>∃c,fl= .rt (enC (d+1) c)/\DC (d+1) c/\G'=G:=by
 refine d9.mpr<| X3<| J6<| m7<| L5 rfl<| (M7 e).mpr<| j8 rfl rfl<| b8 KO<| nL (uM (by lia) G ok.1) (λ_=>⟨_,rfl,λ_=>?_,λz=>nomatch z⟩) (λhn=>⟨_,rfl,λz=>(nomatch z),λ_=>m5.mpr ?_⟩)
 ·exact u5<| b8 rfl ⟨none,rfl,CO (d+1),rfl⟩
 ·exact u5<| L5 rfl<| (M7 e).mpr ⟨some w,rfl,⟨⟨ok.1,hn⟩,by rintro _ ⟨⟩;exact ok.2⟩,rfl⟩
def Vg:wI R=o9 (M8 (D0 t7 g0) C1) (gdQ (tBn ltD (j5 J9 y0 Q2) K0) (ixE (Q7 (i4 (cSt "any") (F4 J8))) (j5 J9 y0 Q2)) (asQ (F0 GB (ixE (Q7 (i4 (F4 J8) (F4 HC))) (F0 eB (j5 eqD (j5 J9 y0 Q2) K0)))) y3 (asQ (j5 J9 (j5 M4 y0 Q2) D9) B3 (asQ (j5 M4 y0 (cIn 40)) i5 (asQ (j5 gtD (j5 J9 y0 Q2) K0) A7 (o9 I0 (o9 I1 (o9 I2 (o9 I3 (o9 (I4 R) I5)))))))))):=rfl
def Gw(ih:RAt 0 R):DAt 0 (R6 R):=λG r h=>by
 refine v9 (show Wp (wI R [sRf r,some (.int 0),none,none,none,none,none]) G _ from ?_);rw[Vg];refine d9.mpr<| M3<| j8 rfl rfl<| X7 h λk G1 f1=>?_;have a1:0<=(k:Int) % 8:=jx _ (by decide);refine d9.mpr<| X3<| J6<| m7<| v8 rfl rfl<| (t6 (by decide)).mpr<| b8 rfl<| QF.mpr ⟨_,rfl,λhk=>?_,λ_=>m5.mpr ?_⟩
 · have hk:(k:Int) % 8<2:=of_decide_eq_true hk;refine u5<| m7<| P4.mpr<| R4 rfl<| m6<| j8 rfl rfl<| b8 lM<| j9.mpr ⟨sz,v8 rfl rfl<| (t6 (by decide)).mpr<| (u7 j6).mpr ?_⟩;rcases (show (k:Int) % 8=0\/(k:Int) % 8=1 by lia)with z|z
   ·rw[z];exact⟨.str d4,rfl,u0 ⟨f1.trans (Fd.app f1.2.2),none,rfl,CO 1⟩⟩
   ·rw[z];exact⟨E4,rfl,u0 ⟨f1.trans (Fd.app f1.2.2),aL 0,rfl,qH 0⟩⟩
 · refine d9.mpr<| M3<| O6<| m6<| m7<| P4.mpr<| m6<| j8 rfl rfl<| b8 lM<| m6<| j8 rfl rfl<| b8 KO<| j9.mpr ⟨sz,O6<| m6<| m7<| v8 rfl rfl<| (t6 (by decide)).mpr<| b8 rfl<| T5.mpr<| j9.mpr ?_⟩;have f2:Fd r G1 (G1++[.lst [E4,evD]]):=Fd.app f1.2.2;have hd:∃(i:Int) (w:Pt (CS 0)),OkP 0 w/\eB [.bl (decide ((k:Int) % 8=2))]=pure (.int i)/\atI [E4,evD] i=some (.tup (fiv (enC 0) w)):=by
    by_cases z:(k:Int) % 8=2
    ·rw[decide_eq_true z];exact⟨1,evP 0,Tg 0,rfl,by rw[show D.tup (fiv (enC 0) (evP 0))=evD from dN];rfl⟩
    ·rw[decide_eq_false z];exact⟨0,D4 _,wV 0,rfl,rfl⟩
   obtain⟨i,w,ok,ei,ew⟩:=hd;rw[ei];refine wp_pure.mpr<| (u7 j6).mpr ⟨_,ew,j9.mpr<| fX.mpr ?_⟩;have f3:Fd r (G1++[.lst [E4,evD]]) (G1++[.lst [E4,evD]]++[.lst (fiv (enC 0) w)]):=Fd.app f2.2.2;have hp:(G1++[DO.lst [E4,evD]]).length≠r:=by have:=f2.2.2.lt;lia
   have fq:Fd r G _:=f1.trans (f2.trans f3);have hq:G.length<=(G1++[DO.lst [E4,evD]]).length:=(f1.trans f2).1;generalize hpp:(G1++[DO.lst [E4,evD]]).length=p at *;have e3:(G1++[.lst [E4,evD]]++[.lst (fiv (enC 0) w)])[p]? =some (.lst (fiv (enC 0) w)):=by rw[<-hpp];exact j6
   generalize G1++[.lst [E4,evD]]++[.lst (fiv (enC 0) w)]=G3 at *;refine d9.mpr<| M3<| m7<| v8 rfl rfl<| (K8 ⟨by decide,by decide⟩).mpr<| b8 rfl<| (t6 (by decide)).mpr ?_;refine d9.mpr<| M3<| v8 rfl rfl<| (K8 ⟨by decide,by decide⟩).mpr ?_;refine d9.mpr<| M3<| m7<| v8 rfl rfl<| (t6 (by decide)).mpr<| b8 rfl<| pI.mpr ?_;rw[show (k:Int) / 40= ((k / 40:Nat):Int) by lia];refine d9.mpr<| (pt hp fq.2.2 e3 ok).mono ?_;rintro _ G4 ⟨g4,rfl,w4,e4,ok4⟩;refine d9.mpr<| (Bm hp g4.2.2 e4 ok4).mono ?_;rintro _ G5 ⟨g5,rfl,w5,e5,ok5⟩;refine d9.mpr<| (eW hp g5.2.2 e5 ok5).mono ?_;rintro _ G6 ⟨g6,rfl,w6,e6,ok6⟩;refine d9.mpr<| (Dl hp g6.2.2 e6 ok6).mono ?_;rintro _ G7 ⟨g7,rfl,w7,e7,ok7⟩;refine d9.mpr<| (ci ih hp g7.2.2 e7 ok7).mono ?_;rintro _ G8 ⟨g8,rfl,w8,e8,ok8⟩;refine(Br (by decide) e8 ok8).mono ?_;rintro _ G9 ⟨c,rfl,hc,rfl⟩;exact u0 ⟨fq.thru ((((g4.trans g5).trans g6).trans g7).trans g8) hq,c,rfl,hc⟩
def Rv:RAt 0 (U7 (n+1)):=λG r h=>tR (by decide) (λ_ e=>nomatch e) h
def vz:DAt 0 (R6 (U7 (n+1))):=Gw Rv
def Cj:RAt 1 (U7 (n+2)):=λG r h=>tR (by decide) (λd' e=>by cases e;exact vz) h
def BS:D->Bool
 | .str s=>RA (s.cps.getD 0 0)
 |_=>false
def ld(z:Str):(E9 z).all BS=OJ z:=by unfold E9 OJ;rw[Zh];rfl
def vc(z:Str):(E9 z).length=z.length:=by unfold E9;rw[zg];rfl
def Rz(h:d∈E9 z):∃c,d= .str ⟨#[c]⟩:=by unfold E9 at h;obtain⟨c,_,rfl⟩:=zF.mp h;exact⟨c,rfl⟩
def og:Wp (leD (.str ("a" :Str)) (.str ⟨#[c]⟩)) G Q↔Q (.bl (decide (97<=c))) G:=by rw[NU,Px]
def ng:Wp (leD (.str ⟨#[c]⟩) (.str ("z" :Str))) G Q↔Q (.bl (decide (c<=122))) G:=by rw[NU,LY]
def Vc(c:Nat):BS (.str ⟨#[c]⟩)=RA c:=rfl
def au:Wp (OA fs σ) G R↔Wp (fs σ) G λxs G1=>Wp (match xs with
 |[a,b]=>do
   let s1 <-t4 a
   let s2 <-t4 b
   pure ⟨(s1.items.zip s2.items).map λp=>.tup [p.1,p.2],λG=>s1.ck G&&s2.ck G⟩
 |_=>M.stuck:M Src) G1 R:=by
 unfold OA;simp only[j7]<;>rfl
def lW(ep:G[p]? =some (.lst k))(eq:G[q]? =some (.lst l)):Wp (match [D.ref p,D.ref q] with
 |[a,b]=>do
   let s1 <-t4 a
   let s2 <-t4 b
   pure ⟨(s1.items.zip s2.items).map λp=>.tup [p.1,p.2],λG=>s1.ck G&&s2.ck G⟩
 |_=>M.stuck:M Src) G R↔R ⟨(k.zip l).map λp=>.tup [p.1,p.2],λG=>ckO p (.lst k) G&&ckO q (.lst l) G⟩ G:=by
 show Wp (do
  let s1 <-t4 (.ref p)
  let s2 <-t4 (.ref q)
  pure ⟨(s1.items.zip s2.items).map λp=>.tup [p.1,p.2],λG=>s1.ck G&&s2.ck G⟩:M Src) G R↔_
 simp only[j7];rw[rK (σ:= []) ep,rK (σ:= []) eq];exact wp_pure
def aB(S:DSt->Prop)(e:itW b σ G=some (.ok s,G))(hl:s.items.length<=zq)(Gn:∀G',Ap G G'->s.ck G'=true)(hS:S (T9 caps σ))
 (h:∀d∈s.items,∀ WZ G1,S WZ->Ap G G1->S (WZ.set 0 (some d))/\Wp (a (WZ.set 0 (some d))) G1 λy G2=>y= .bl true/\Ap G1 G2) (q:∀G',Ap G G'->Q (.bl true) G'):
 Wp (T2 P2 (D1 (J3 (itW b) caps H0 K1 a)) σ) G Q:=by
 refine O6<| m6<| wp_comp.mpr<| b8 e ⟨hl,(gJ (Ap G) S (λ_=>.bl true) Gn s.items _ G hS Ap.refl λd hd WZ G1 s1 j=>?_).mono ?_⟩
 ·have:=h d hd WZ G1 s1 j;exact UQ this.1 (this.2.mono λy G2 q=>⟨j.trans q.2,q.1⟩)
 ·rintro _ G2 ⟨j,rfl⟩;refine j9.mpr ((FQ j6).mpr ?_);rw[ya.mpr λ_ _=>rfl];exact q _ (j.trans Ap.one)
def One(σ:DSt):Prop:=∃u,σ= [u]
def KQ(h:Tx z)(q:∀G',Ap G G'->Q (.bl true) G'):Wp (OF [.str z]) G Q:=by
 have bg:=big;refine v9<| u5<| uC.mpr<| b8 (a:=.bl true) rfl<| Q4.mpr ?_;rw[if_pos rfl];refine aB One rfl (by show (E9 z).length<=_;rw[vc];have:=h.2;lia) (λ_ _=>rfl) ⟨_,rfl⟩ ?_ λG' a=>u0 (q G' a);rintro d hd _ G1 ⟨u,rfl⟩ j;refine⟨⟨_,rfl⟩,?_⟩;have hl:=ya.mp ((ld z).trans h.1) d hd;obtain⟨c,rfl⟩:=Rz hd;rw[Vc]at hl;have Ge:decide (97<=c)=true/\decide (c<=122)=true:=by unfold RA at hl;exact jk _ _▸hl
 refine iS.mpr<| b8 rfl<| b8 rfl<| og.mpr ⟨_,rfl,?_⟩;rw[if_pos Ge.1];refine b8 rfl<| ng.mpr ⟨?_,Ap.refl⟩;rw[Ge.2]
theorem EK{R:α->α->Prop}:∀ {l:List α},l.Pairwise R->∀p∈l.zip (l.drop 1),R p.1 p.2
 |[],_,p,hp=>by cases hp
 |[x],_,p,hp=>by cases hp
 |x::y::r,h,p,hp=>by
   have h':=jf.mp h;rcases zy.mp (show p∈(x,y)::(y::r).zip r from hp)with rfl|hp
   ·exact h'.1 _ (by simp)
   ·exact EK h'.2 p hp
def SqD(G:DH)(d:D)(l:List D):Prop:=d= .tup l\/∃p,d= .ref p/\G[p]? =some (.lst l)
def fQ(hd:SqD G d l)(hl:l.length<=10000)
 (h:∀p∈l.zip (l.drop 1),∀G1,Ap G G1->Wp (e [some p.1,some p.2]) G1 λy G2=>y= .bl true/\Ap G1 G2) (q:∀G',Ap G G'->Q (.bl true) G'):
 Wp (T2 P2 (D1 (J3 (OA (i4 g0 (B8 g0 (C4 C0) (A9)))) [none,none] (A5 2 (R0 H0 (R0 C2 (D5)))) K1 e)) [some d]) G Q:=by
 have bg:=big;have hz:(l.zip (l.drop 1)).length<=zq:=by rw[Yv];lia
 have main:∀(ck:DH->Bool) (G0:DH),Ap G G0->(∀G',Ap G0 G'->ck G'=true)->Wp (K7 (A5 2 (R0 H0 (R0 C2 (D5)))) K1 e ck ((l.zip (l.drop 1)).map λp=>.tup [p.1,p.2]) [none,none]) G0 λys G2=>Wp (L0 [some d]) (G2++[.lst ys]) λxs G3=>Wp (P2 (.ref G2.length::xs)) G3 Q:=by
  intro ck G0 j0 Gn;refine(gJ (Ap G0) (λσ=>∃u v,σ= [u,v]) (λ_=>.bl true) Gn _ _ G0 ⟨_,_,rfl⟩ Ap.refl ?_).mono ?_
  ·rintro d hd _ G1 ⟨u,v,rfl⟩ j;obtain⟨p,hp,rfl⟩:=zF.mp hd;exact b8 rfl ⟨rfl,⟨_,_,rfl⟩,b8 rfl ⟨rfl,rfl,(h p hp G1 (j0.trans j)).mono λy G2 q=>⟨j.trans q.2,q.1⟩⟩⟩
  ·rintro _ G2 ⟨j,rfl⟩;refine j9.mpr ((FQ j6).mpr ?_);rw[ya.mpr λ_ _=>rfl];exact q _ ((j0.trans j).trans Ap.one)
 refine O6<| m6<| wp_comp.mpr ?_;rcases hd with rfl|⟨p,rfl,ep⟩
 ·refine b8 rfl ?_;rw[aT];exact⟨by rw[zg];exact hz,main _ G Ap.refl λ_ _=>rfl⟩
 ·refine au.mpr<| R4 rfl<| m6<| TY.mpr<| b8 rfl<| iN.mpr<| b8 rfl ⟨1,rfl,tZ.mpr<| (rV ep).mpr<| j9.mpr<| (lW (P0 ep) j6).mpr ?_⟩;rw[aT];refine⟨by rw[zg];exact hz,main _ _ Ap.one λG' j=>?_⟩;have h1:=j.at (P0 ep);have h2:=j.at (j6);simp only[ckO,h1,h2];simp
def Hh:ltN 40 G (B7 (.str a)) (B7 (.str b))=some (txB a b):=by
 show ltL (eqN 39 G) (ltN 39 G) [.int a.length,.str a] [.int b.length,.str b]=_;have e1:eqN 39 G (.int a.length) (.int b.length)=some (decide ((a.length:Int)=b.length)):=rfl;have e2:eqN 39 G (.str a) (.str b)=some (a==b):=rfl;unfold txB;unfold ltL;rw[e1];by_cases h:a.length=b.length
 · have h':((a.length:Int)=b.length):=by lia
   rw[if_pos h];simp only[h',decide_true];unfold ltL;rw[e2];by_cases k:a=b
   ·subst k;simp[ltL,YR]
   · have k':(a==b)=false:=by simpa using k
     rw[k'];rfl
 · have h':¬((a.length:Int)=b.length):=by lia
   rw[if_neg h];simp only[h',decide_false];show some (decide ((a.length:Int)<b.length))=_;congr 1;by_cases k:a.length<b.length
   ·rw[decide_eq_true k,decide_eq_true (by lia)]
   ·rw[decide_eq_false k,decide_eq_false (by lia)]
def kK{G:DH}{Q:DPP}(hd:SqD G d l)(hl:l.length<=10000)(h:l.Pairwise λa b=>∀G,ltN 40 G a b=some true)(q:∀G',Ap G G'->Q (.bl true) G'):Wp (ED [d]) G Q:=
 v9<| u5<| fQ hd hl (λp hp G1 j=>m7<| b8 rfl<| b8 rfl<| fL.mpr ⟨true,EK h p hp G1,rfl,Ap.refl⟩) λG' a=>u0 (q G' a)
def sx(h:Ris ts):((ts.map D.str).map B7).Pairwise λa b=>∀G,ltN 40 G a b=some true:=by rw[jZ];exact yh.mpr (h.imp λ{a b} q G=>Hh.trans (by rw[q]))
def Qv(h:tr∈B4):(tr.map D.bl).Pairwise λa b=>∀G,ltN 40 G a b=some true:=by
 simp only[B4,zy,jg,or_false]at h;rcases h with rfl|rfl|rfl|rfl
 ·exact .nil
 ·exact yF _ _
 ·exact yF _ _
 ·exact jf.mpr ⟨λy hy G=>(by rw[zB.mp hy];rfl),yF _ _⟩
def Lj(h:tr∈B4)(q:∀G',Ap G G'->Q (.bl true) G'):Wp (LG [.tup (tr.map D.bl)]) G Q:=by have hl:tr.length<=2:=(show ∀a∈B4,a.length<=2 by decide) _ h;have bg:=big;refine v9<| u6 (X1:= [some (.tup (tr.map D.bl))]) rfl<| u5<| IG<| aB One rfl (by show (tr.map D.bl).length<=_;rw[zg];lia) (λ_ _=>rfl) ⟨_,rfl⟩ ?_ λG' a=>⟨rfl,j8 rfl rfl<| kK (.inl rfl) (by rw[zg];lia) (Qv h) λG2 a2=>u0 (q G2 (a.trans a2))⟩;rintro d hd _ G1 ⟨u,rfl⟩ j;obtain⟨b,_,rfl⟩:=zF.mp hd;exact⟨⟨_,rfl⟩,b8 rfl ⟨rfl,Ap.refl⟩⟩
def RW(h1:∀z∈ts,Tx z)(h:Ris ts)(hl:ts.length<=100)(q:∀G',Ap G G'->Q (.bl true) G'):Wp (qI [D2 w ts]) G Q:=by
 have bg:=big;refine v9<| u6 (X1:= [some (D2 w ts)]) (by cases w<;>rfl)<| d9.mpr<| aE<| C9<| aB One rfl (by show (ts.map D.str).length<=_;rw[zg];lia) (λ_ _=>rfl) ⟨_,rfl⟩ ?_ λG' a=>⟨rfl,rfl,m5.mpr ?_⟩
 ·rintro d hd _ G1 ⟨u,rfl⟩ j;obtain⟨z,hz,rfl⟩:=zF.mp hd;exact⟨⟨_,rfl⟩,j8 rfl rfl<| KQ (h1 z hz) λG2 a2=>⟨rfl,a2⟩⟩
 · refine u5<| O6<| m6<| V6 rfl (by rw[zg];lia)<| (gJ (λG2=>G2=G') One B7 (λ_ _=>rfl) _ _ G' ⟨_,rfl⟩ rfl ?_).mono ?_
   ·rintro d hd _ _ ⟨u,rfl⟩ rfl;obtain⟨z,hz,rfl⟩:=zF.mp hd;exact UQ ⟨_,rfl⟩ (j8 rfl rfl<| (GQ (by have:=(h1 z hz).2;lia)).mpr ⟨rfl,rfl⟩)
   ·rintro _ _ ⟨rfl,rfl⟩;exact j9.mpr<| T6.mpr ⟨rfl,kK (.inr ⟨_,rfl,j6⟩) (by rw[zg,zg];lia) (sx h) λG2 a2=>u0 (q G2 ((a.trans Ap.one).trans a2))⟩
def Lw(h:okR p):Wp (VG [rD p]) G λy G2=>y= .bl true/\Ap G G2:=by
 obtain⟨a,b⟩:=p;rcases a with _|a<;>rcases b with _|b
 ·exact b8 rfl ⟨rfl,Ap.refl⟩
 ·exact b8 rfl ⟨rfl,Ap.refl⟩
 ·exact b8 rfl ⟨rfl,Ap.refl⟩
 ·refine b8 rfl ⟨?_,Ap.refl⟩;rw[decide_eq_false (by have:=h a b rfl rfl;lia)];rfl
def Pp(h:aI p r):Wp (lJ [rD p,rD r]) G λy G2=>y= .bl true/\Ap G G2:=by obtain⟨p1,p2⟩:=p;obtain⟨r1,r2⟩:=r;obtain⟨a,b,rfl,rfl,hab⟩:=h;refine v9<| u5<| mJ rfl<| mJ rfl<| m7<| b8 rfl<| b8 rfl<| fL.mpr ⟨decide (a+1<b),rfl,u0 ⟨?_,Ap.refl⟩⟩;rw[decide_eq_true hab]
def qM:(rsD ns).length=ns.length:=zg ..
def ny{G:DH}{Q:DPP}(h:Can ns)(hl:ns.length<=100)(q:∀G',Ap G G'->Q (.bl true) G'):Wp (WI [.tup (rsD ns)]) G Q:=by
 have bg:=big;refine v9<| d9.mpr<| aE<| fH<| C9<| b8 rfl ⟨rfl,rfl,C9<| aB One rfl (by show (rsD ns).length<=_;rw[qM];lia) (λ_ _=>rfl) ⟨_,rfl⟩ ?_ λG' a=>⟨rfl,rfl,m5.mpr ?_⟩⟩
 ·rintro d hd _ G1 ⟨u,rfl⟩ j;obtain⟨p,hp,rfl⟩:=zF.mp hd;exact⟨⟨_,rfl⟩,j8 rfl rfl<| Lw (h.1 p hp)⟩
 ·refine u5<| fQ (.inl rfl) (by rw[qM];lia) (λp hp G1 j=>?_) λG2 a2=>u0 (q G2 (a.trans a2));unfold rsD at hp;rw[<-List.map_drop,List.zip_map,zF]at hp;obtain⟨⟨x,y⟩,hxy,rfl⟩:=hp;exact j8 rfl rfl<| Pp (EK h.2 (x,y) hxy)
section
variable{n:Nat}{G:DH}{Q:DPP}
def Qm(h:Tx z/\0<z.length)(q:∀G',Ap G G'->Q (.bl true) G'):Wp (bI [.str z]) G Q:=by have bg:=big;have hl:=h.1.2;refine v9 (show Wp (OH [some (.str z)]) G _ from ?_);unfold OH;refine u5<| IG<| j8 rfl rfl<| KQ h.1 λG1 a1=>⟨rfl,m7<| L5 rfl<| (BI (by lia)).mpr<| b8 rfl<| pI.mpr<| u0 ?_⟩;rw[decide_eq_true (by have:=h.2;lia)];exact q G1 a1
def Fm(h:Tx e.1/\0<e.1.length)(q:∀G',Ap G G'->Q (.bl true) G'):Wp (uJ [fdE (enC n) e]) G Q:=by refine v9 (show Wp (WH [some (fdE (enC n) e)]) G _ from ?_);unfold WH;exact u5<| mJ rfl<| mJ rfl<| IG<| j8 rfl rfl<| Qm h λG1 a1=>⟨rfl,b8 rfl (u0 (q G1 a1))⟩
theorem RK:∀(fs:List (Str×Bool×CS n)) u G,K7 H0 K1 (ixE g0 z0) (λ_=>true) (fs.map (fdE (enC n))) [u] G=some (.ok ((fs.map (·.1)).map D.str),G)
 |[],u,G=>R9 (rA.mpr ⟨rfl,rfl,rfl⟩)
 |p::r,u,G=>R9 (KB.mpr ⟨rfl,b8 rfl<| b8 rfl<| by rw[if_pos rfl];exact b8 rfl<| b8 (RK r _ G) ⟨rfl,rfl⟩⟩)
theorem nR:∀(fs:List (Str×Bool×CS n)) u G,K7 H0 K1 (ixE g0 K0) (λ_=>true) (fs.map (fdE (enC n))) [u] G=some (.ok (fs.map λe=>enC n e.2.2),G)
 |[],u,G=>R9 (rA.mpr ⟨rfl,rfl,rfl⟩)
 |p::r,u,G=>R9 (KB.mpr ⟨rfl,b8 rfl<| b8 rfl<| by rw[if_pos rfl];exact b8 rfl<| b8 (nR r _ G) ⟨rfl,rfl⟩⟩)
def KZ(g:c8 (Gd n) r)(z:rsZ n 47 r)(q:∀G',Ap G G'->Q (.bl true) G'):Wp (W0 [rcD (enC n) r]) G Q:=by
 have bg:=big;rcases r with _|⟨fs,m⟩
 ·exact O2 rfl (q G Ap.refl)
 · have z:=z fs m rfl;have g:=g fs m rfl;have k1:=L9 n 47;have hl:(fs.map (fdE (enC n))).length<=47:=by rw[zg];lia
   refine v9 (show Wp (W2 [some (.tup [.tup (fs.map (fdE (enC n))),enC n m])]) G _ from ?_);unfold W2;refine u6 (X1:= [some (.tup [.tup (fs.map (fdE (enC n))),enC n m])]) rfl<| d9.mpr<| aE<| fH<| b8 rfl ⟨rfl,C9<| aB One rfl (by dsimp only;lia) (λ_ _=>rfl) ⟨_,rfl⟩ (λd hd WZ G1 s1 a1=>?_) λG1 a1=>⟨rfl,rfl,m5.mpr ?_⟩⟩
   ·obtain⟨u,rfl⟩:=s1;obtain⟨e,he,rfl⟩:=zF.mp hd;exact⟨⟨_,rfl⟩,j8 rfl rfl<| Fm (z.2.2 e he).2 λG2 a2=>⟨rfl,a2⟩⟩
   · have nm:Wp (RG [.tup (fs.map (fdE (enC n)))]) G1 λx G'=>∃p,x= .ref p/\G'[p]? =some (.lst ((fs.map (·.1)).map D.str))/\Ap G1 G':=by
      refine v9 (show Wp (eG [some (.tup (fs.map (fdE (enC n))))]) _ _ from ?_);unfold eG;exact u5<| V6 rfl (by lia)<| b8 (RK fs none G1)<| u0 ⟨_,rfl,j6,Ap.one⟩
     refine u5<| O6<| m6<| j8 rfl rfl<| nm.mono ?_;rintro _ G2 ⟨p,rfl,e2,a2⟩;refine j9.mpr<| T6.mpr ⟨rfl,kK (.inr ⟨_,rfl,e2⟩) (by rw[zg,zg];rw[zg]at hl;lia) ?_ λG3 a3=>u0 (q G3 (a1.trans (a2.trans a3)))⟩;rw[jZ,yh];exact g.2.1.imp λ{a b} h G=>by show some (decide (a.1.cps.toList<b.1.cps.toList))=_;rw[decide_eq_true h]
end
def frO:Option (List (CS 0)×CS 0)->D
 |none=>.non
 |some _=>.int 0
def FlO(G:DH)(r:Option (List (Str×Bool×CS 0)×CS 0))(f:D):Prop:=(r=none/\f= .non)\/((∃m,r=some ([],m))/\∃p,f= .ref p/\G[p]? =some (.lst []))
def wD(G:DH)(a:Option (Pt (CS 0)))(o:D):Prop:=(a=none/\o= .tup [.str d4])\/∃s f,a=some s/\o= .tup [.tup (rsD s.ns),D2 s.b s.ss,.tup (s.bs.map D.bl),frO s.ls,f]/\FlO G s.rs f/\∀fs m,s.ls=some (fs,m)->fs= []
section
variable{G G':DH}
def wD.up(h:wD G a o)(k:Ap G G'):wD G' a o:=by
 rcases h with h|⟨s,f,h1,h2,h3,h4⟩
 ·exact .inl h
 · refine .inr ⟨s,f,h1,h2,?_,h4⟩;rcases h3 with h3|⟨h3,p,h5,h6⟩
   ·exact .inl h3
   ·exact .inr ⟨h3,p,h5,k.at h6⟩
def DQ(c:CS 1)(z:SzC 1 47 c)(q:∀o G',Ap G G'->wD G' c o->Q o G'):Wp (kE [enC 1 c]) G Q:=by
 rcases c with _|s
 ·exact O2 rfl (q _ G Ap.refl (.inl ⟨rfl,rfl⟩))
 have z:=z s rfl;obtain⟨ns,b,ss,bs,ls,rs⟩:=s;have hl:∀fs m,ls=some (fs,m)->fs= []:=λfs m e=>(z.ls fs m e).1;rcases rs with _|⟨fs,m⟩
 · rcases ls with _|⟨gs,k⟩
   ·exact O2 rfl (q _ G Ap.refl (.inr ⟨_,_,rfl,rfl,.inl ⟨rfl,rfl⟩,hl⟩))
   · cases hl gs k rfl
     exact O2 rfl (q _ G Ap.refl (.inr ⟨_,_,rfl,rfl,.inl ⟨rfl,rfl⟩,hl⟩))
 · have hf:fs= []:=Ja (Nat.le_zero.mp (z.rs fs m rfl).1)
   cases hf
   rcases ls with _|⟨gs,k⟩
   ·exact O2 rfl (q _ _ Ap.one (.inr ⟨_,.ref G.length,rfl,rfl,.inr ⟨⟨m,rfl⟩,G.length,rfl,j6⟩,hl⟩))
   · cases hl gs k rfl
     exact O2 rfl (q _ _ Ap.one (.inr ⟨_,.ref G.length,rfl,rfl,.inr ⟨⟨m,rfl⟩,G.length,rfl,j6⟩,hl⟩))
def Nc(h:∀fs m,l=some (fs,m)->fs= [])(h':∀fs m,l'=some (fs,m)->fs= []):U6 (n+1) G (frO l) (frO l') (l=l'):=by
 rcases l with _|⟨fs,m⟩<;>rcases l' with _|⟨gs,k⟩
 ·exact⟨true,rfl,by simp⟩
 ·exact⟨false,rfl,by simp⟩
 ·exact⟨false,rfl,by simp⟩
 · cases h fs m rfl;cases h' gs k rfl
   exact⟨true,rfl,λ_=>rfl,λ_=>rfl⟩
def cj(h:FlO G r f)(h':FlO G r' f'):U6 (n+1) G f f' (r=r'):=by
 rcases h with⟨rfl,rfl⟩|⟨⟨m,rfl⟩,p,rfl,e⟩<;>rcases h' with⟨rfl,rfl⟩|⟨⟨m',rfl⟩,p',rfl,e'⟩
 ·exact⟨true,rfl,by simp⟩
 ·exact⟨false,by rw[NA];simp only[T1,e'];rfl,by simp⟩
 ·exact⟨false,by rw[NA];simp only[T1,e];rfl,by simp⟩
 ·exact⟨true,by rw[NA];simp only[T1,e,e'];rfl,λ_=>rfl,λ_=>rfl⟩
def lw(h:wD G a o)(h':wD G a' o'):U6 40 G o o' (a=a'):=by
 rcases h with⟨rfl,rfl⟩|⟨s,f,rfl,rfl,h1,h2⟩<;>rcases h' with⟨rfl,rfl⟩|⟨s',f',rfl,rfl,h1',h2'⟩
 ·exact⟨true,rfl,by simp⟩
 ·exact⟨false,rfl,by simp⟩
 ·exact⟨false,rfl,by simp⟩
 · exact(U6.tup ((U6.tup (U4.map (AL) s.ns s'.ns)).cons ((iM s.b s'.b s.ss s'.ss).cons ((U6.tup (U4.map (oJ) s.bs s'.bs)).cons ((Nc h2 h2').cons ((cj h1 h1').cons U4.nil)))))).iff (by obtain⟨a1,a2,a3,a4,a5,a6⟩:=s;obtain⟨b1,b2,b3,b4,b5,b6⟩:=s';simp only[zN,Pt.mk.injEq,and_assoc,and_true])
def Vw(c c':CS 1)(z:SzC 1 47 c)(z':SzC 1 47 c')(ne:c≠c')(q:∀G',Ap G G'->Q (.bl false) G'):Wp (HG [enC 1 c,enC 1 c']) G Q:=by
 refine v9 (show Wp (vI [some (enC 1 c),some (enC 1 c'),none,none]) G _ from ?_);unfold vI;have e0:(G++[.lst [.tup [enC 1 c,enC 1 c']]])[G.length]? =some (.lst ([]++[D.tup [enC 1 c,enC 1 c']])):=j6;refine u6 (X1:= [some (enC 1 c),some (enC 1 c'),some (.ref G.length),none]) rfl<| d9.mpr<| SG (n:=1)<| kD.mpr<| h9.mpr<| b8 rfl<| (fK j6).mpr ?_;rw[show (![D.tup [enC 1 c,enC 1 c']].isEmpty)=true from rfl,if_pos rfl];refine d9.mpr<| M3<| x5.mpr<| b8 rfl<| (N8 j6).mpr<| j9.mpr<| (HJ e0).mpr ?_;have es:(G++[DO.lst [D.tup [enC 1 c,enC 1 c']]]).set G.length (.lst [])=G++[.lst []]:=by rw[YE _ _ (zp _),Nat.sub_self];rfl
 rw[es];refine d9.mpr<| X3<| J6<| m7<| j8 rfl rfl<| DQ c z λo G1 a1 h1=>j8 rfl rfl<| DQ c' z' λo' G2 a2 h2=>?_;obtain⟨k,ek,ik⟩:=lw (h1.up a2) h2;have hk:k=false:=by
  rcases k with _|_
  ·rfl
  ·exact absurd (ik.mp rfl) ne
 subst hk;exact r8.mpr ⟨false,ek,_,rfl,λ_=>u5<| N9.mpr<| u0 (q G2 (Ap.one.trans (a1.trans a2))),λz=>(nomatch z)⟩
def Rc(g:Gd 1 e.2.2)(z:SzC 1 47 e.2.2)(z':SzC 1 47 m)(h1:e.2.1=true->∃v,inC 1 e.2.2 v)(h2:e.2.1=false->e.2.2≠m)(q:∀G',Ap G G'->Q (.bl true) G'):Wp (OE [fdE (enC 1) e,enC 1 m]) G Q:=by
 obtain⟨y,b,c⟩:=e;refine v9 (show Wp (mG [some (fdE (enC 1) (y,b,c)),some (enC 1 m)]) G _ from ?_);unfold mG;refine u5<| GL.mpr<| b8 (a:=b) rfl ?_;rcases b with _|_
 ·rw[if_neg (by decide)];exact Gg.mpr<| j8 rfl rfl<| Vw c m z z' (h2 rfl) λG1 a1=>⟨false,rfl,u0 (q G1 a1)⟩
 · rw[if_pos rfl];obtain⟨k,ek,ik⟩:=VB (by decide) G c g;refine v8 rfl rfl<| r8.mpr ⟨k,ek,?_⟩;rcases k with _|_
   ·exact u0 (q G Ap.refl)
   ·obtain⟨v,hv⟩:=h1 rfl;exact absurd hv (ik.mp rfl v)
end
def GW(d:D):Prop:=∃n c,n<=2/\d=enC n c/\Gd n c/\SzC n 47 c
def qS(e:t σ G=some (.ok true,G))(w:Wp (u σ) G λk G2=>k=true/\Wp (g σ) G2 P):Wp (ifS (Q1 t (C3 u)) f g σ) G P:=
 X3<| F8<| b8 e ⟨λ_=>iH.mpr (w.mono λk G2 q=>by obtain⟨rfl,q⟩:=q;exact⟨λz=>(by cases z),λ_=>q⟩),λz=>(by cases z)⟩
section
variable{n:Nat}{G:DH}{s:Pt (CS n)}
def bc(r:Option (List (CS n)×CS n)):uI [lsD (enC n) r] G=some (.ok (.bl true),G):=by rcases r with _|⟨fs,m⟩<;>rfl
def il(g:GdP (inC n) (Gd n) s)(z:SzP (SzC n 47) 47 (fb n 47) s)(q:∀G',Ap G G'->Q (.bl true) G'):Wp (Z8 [.tup (fiv (enC n) s)]) G Q:=by refine v9 (show Wp (CI [some (.tup (fiv (enC n) s))]) G _ from ?_);unfold CI;have l1:=z.ns;have l2:=z.ss;refine u6 (X1:= [some (.tup (fiv (enC n) s))]) rfl<| u6 (X1:= [some (.tup (fiv (enC n) s))]) rfl ?_;refine d9.mpr<| aE<| fH<| C9<| j8 rfl rfl<| ny g.ns (by lia) λG1 a1=>⟨rfl,rfl,?_⟩;refine fH<| C9<| j8 rfl rfl<| RW z.tx g.ss (by lia) λG2 a2=>⟨rfl,rfl,?_⟩;refine C9<| j8 rfl rfl<| Lj g.bs λG3 a3=>⟨rfl,rfl,m5.mpr ?_⟩;exact u5<| IG<| j8 rfl rfl<| b8 (bc s.ls) ⟨rfl,j8 rfl rfl<| KZ (U3.raw g.rs) z.rs λG4 a4=>u0 (q G4 (a1.trans (a2.trans (a3.trans a4))))⟩
end
def GW.form(h:GW d)(q:∀G',Ap G G'->Q (.bl true) G'):Wp (Z8 [d]) G Q:=by
 obtain⟨n,c,_,rfl,g,z⟩:=h;rcases n with _|n
 ·exact O2 rfl (q G Ap.refl)
 rcases c with _|s
 ·exact O2 rfl (q G Ap.refl)
 ·exact il g.1 (z s rfl) q
def AT:wF=o9 (M8 (Q7 L0) C2) (gdQ (tBn eqD g0 (cSt "any")) x0 (o9 JL (o9 JR (t8 x0)))):=rfl
def Ap.set(h:Ap G0 G)(hp:G0.length<=p):Ap G0 (G.set p o):=by obtain⟨t,rfl⟩:=h;exact⟨t.set (p-G0.length) o,YE _ _ hp⟩
section
variable{G G0:DH}{Q:DPP}{p:Nat}{l0:List D}
def AN{d:D}{a b:Fe}{fs:List D}{m:D}{G1:DH}{P:Fl->DH->Prop}(hA:Ap G0 G)(hp:G0.length<=p)(e:G[p]? =some (.lst l0))(hl:l0.length<=100)(hf:fs.length<=100)(ha:Wp (a [some d,sRf p]) G λx G1=>x= .ref G.length/\G1=G++[.lst fs])(hb:∀G,b [some d,sRf p] G=some (.ok m,G))(q:∀G',Ap G0 G'->G'[p]? =some (.lst (l0++(fs++[m])))->P (.nx [some d,sRf p]) G'):
 Wp (N4 (mtE Q0 wC x0 (D1 (j5 V8 a (Q7 (D1 b))))) [some d,sRf p]) G P:=by
 have bg:=big;refine iA.mpr<| x5.mpr<| b8 rfl<| (N8 e).mpr<| m6<| m7<| ha.mono ?_;rintro _ _ ⟨rfl,rfl⟩;refine P4.mpr<| R4 (hb _)<| j9.mpr ⟨sz,?_⟩;refine(cG (P0 j6) j6 (by show fs.length+1<=_;lia)).mpr<| j9.mpr ?_;have e3:(G++[DO.lst fs]++[DO.lst [m]]++[DO.lst (fs++[m])])[p]? =some (.lst l0):=P0 (P0 (P0 e));refine(fN e3 j6 (by rw[zJ];show l0.length+(fs.length+1)<=_;lia)).mpr ?_;exact q _ (Ap.set (((hA.trans Ap.one).trans Ap.one).trans Ap.one) hp) (zS (lt_of_get e3))
def lk{n:Nat}(r:Option (List (CS n)×CS n)):List D:=match r with
 |none=> []
 |some (_,m)=> [enC n m]
def rk{n:Nat}(r:Option (List (Str×Bool×CS n)×CS n)):List D:=match r with
 |none=> []
 |some (fs,m)=>fs.map (λe=>enC n e.2.2)++[enC n m]
def Bd(z:SzP (SzC n 47) 47 (fb n 47) s)(hA:Ap G0 G)(hp:G0.length<=p)(e:G[p]? =some (.lst []))(q:∀G',Ap G0 G'->G'[p]? =some (.lst (lk s.ls))->P (.nx [some (.tup (fiv (enC n) s)),sRf p]) G'):Wp (JL [some (.tup (fiv (enC n) s)),sRf p]) G P:=by
 obtain⟨ns,b,ss,bs,ls,rs⟩:=s;rcases ls with _|⟨fs,m⟩
 ·exact rC rfl<| m5.mpr (q G hA e)
 · cases (z.ls fs m rfl).1
   exact C5 rfl<| AN (G1:=G) hA hp e (zY _) (zY _) (b8 rfl ⟨rfl,rfl⟩) (λ_=>rfl) q
def Ec(z:SzP (SzC n 47) 47 (fb n 47) s)(hA:Ap G0 G)(hp:G0.length<=p)(e:G[p]? =some (.lst l0))(hl:l0.length<=100)(q:∀G',Ap G0 G'->G'[p]? =some (.lst (l0++rk s.rs))->P (.nx [some (.tup (fiv (enC n) s)),sRf p]) G'):Wp (JR [some (.tup (fiv (enC n) s)),sRf p]) G P:=by
 obtain⟨ns,b,ss,bs,ls,rs⟩:=s;rcases rs with _|⟨fs,m⟩
 ·exact rC rfl<| m5.mpr (q G hA (by show _=some (DO.lst (l0++[]));rw[yV];exact e))
 ·have h1:=(z.rs fs m rfl).1;have h2:=L9 n 47;have bg:=big;exact C5 rfl<| AN (G1:=G) hA hp e hl (by rw[zg];lia) (V6 rfl (by rw[zg];lia)<| b8 (nR fs none G) ⟨rfl,rfl⟩) (λ_=>rfl) q
def szT(l:List D):szD (.tup l)=1+szL l:=by rw[szD]
def szC(d:D)(l:List D):szL (d::l)=szD d+szL l:=by rw[szL]
def szN:szL []=0:=by rw[szL]
theorem rP:∀fs:List (Str×Bool×CS n),szL (fs.map λe=>enC n e.2.2)<=szL (fs.map (fdE (enC n)))
 |[]=>zp _
 |e::r=>by have:=rP r;rw[zO,zO,szC,szC];show _<=szD (.tup [.str e.1,.bl e.2.1,enC n e.2.2])+_;rw[szT,szC,szC,szC];lia
def GW.inner(h:GW d)(q:∀p G' ks,Ap G G'->G.length<=p->G'[p]? =some (.lst ks)->(∀x∈ks,GW x)->szL ks<szD d->Q (.ref p) G'):Wp (vE [d]) G Q:=by
 obtain⟨n,c,hn,rfl,g,z⟩:=h;have any:∀ {x:D},x= .str d4->Wp (vE [.str d4]) G Q:=λ{x} _=>by refine v9 (show Wp (wF [some (.str d4),none]) G _ from ?_);rw[AT];exact u6 (X1:= [some (.str d4),some (.ref G.length)]) rfl<| mI rfl (u0 (q _ _ [] Ap.one (zp _) j6 (λ_ h=>nomatch h) (by rw[szN];exact QL _)))
 rcases n with _|n
 ·exact any rfl
 rcases c with _|s
 ·exact any rfl
 have z:=z s rfl;refine v9 (show Wp (wF [some (.tup (fiv (enC n) s)),none]) G _ from ?_);rw[AT];refine u6 (X1:= [some (.tup (fiv (enC n) s)),some (.ref G.length)]) rfl<| u6 (X1:= [some (.tup (fiv (enC n) s)),some (.ref G.length)]) rfl ?_;refine d9.mpr<| Bd z Ap.one (zp _) j6 λG1 a1 e1=>?_;have hl:(lk s.ls).length<=100:=by
  rcases hls:s.ls with _|⟨fs,m⟩
  ·exact zY _
  ·show [enC n m].length<=100;simp
 refine d9.mpr<| Ec z a1 (zp _) e1 hl λG2 a2 e2=>?_;refine u5<| b8 rfl (u0 (q _ _ _ a2 (zp _) e2 (λx hx=>?_) ?_))
 · rcases jd.mp hx with hx|hx
   · rcases hls:s.ls with _|⟨fs,m⟩
     ·rw[hls]at hx;cases hx
     ·rw[hls]at hx;have zl:=z.ls fs m hls;have gl:=g.1.ls fs m hls;rw[zB.mp hx];exact⟨n,m,by lia,rfl,gl.1,zl.2⟩
   · rcases hrs:s.rs with _|⟨fs,m⟩
     ·rw[hrs]at hx;cases hx
     · rw[hrs]at hx;have zl:=z.rs fs m hrs;have gl:=g.1.rs fs m hrs;rcases jd.mp hx with hx|hx
       ·obtain⟨a,ha,rfl⟩:=zF.mp hx;exact⟨n,a.2.2,by lia,rfl,(gl.2.2 a ha).1,(zl.2.2 a ha).1⟩
       ·rw[zB.mp hx];exact⟨n,m,by lia,rfl,gl.1,zl.2.1⟩
 · show szL (lk s.ls++rk s.rs)<szD (.tup [.tup (rsD s.ns),D2 s.b s.ss,.tup (s.bs.map D.bl),lsD (enC n) s.ls,rcD (enC n) s.rs]);have k1:szL (lk s.ls)<=szD (lsD (enC n) s.ls):=by
    rcases s.ls with _|⟨fs,m⟩
    ·show szL []<=_;rw[szN];exact zY _
    ·show szL [enC n m]<=szD (.tup [.tup (fs.map (enC n)),enC n m]);rw[szT,szC,szC,szC,szN];lia
   have k2:szL (rk s.rs)<=szD (rcD (enC n) s.rs):=by
    rcases s.rs with _|⟨fs,m⟩
    ·show szL []<=_;rw[szN];exact zY _
    ·show szL (fs.map (λe=>enC n e.2.2)++[enC n m])<=szD (.tup [.tup (fs.map (fdE (enC n))),enC n m]);have:=rP fs;rw[LD,szT,szC,szC,szC,szN,szT];lia
   rw[LD,szT,szC,szC,szC,szC,szC,szN];lia
end
def GW.one(h:GW d)(q:∀G',Ap G G'->Q (.bl true) G'):Wp (Z7 [d]) G Q:=by
 have bg:=big;obtain⟨n,c,hn,rfl,g,z⟩:=h;rcases n with _|n
 ·exact O2 rfl (q G Ap.refl)
 rcases c with _|s
 ·exact O2 rfl (q G Ap.refl)
 have z:=z s rfl;refine v9 (show Wp (iI [some (.tup (fiv (enC n) s))]) G _ from ?_);unfold iI;refine u6 (X1:= [some (.tup (fiv (enC n) s))]) rfl ?_;have last:∀G',Ap G G'->Wp (t8 (j5 neD g0 (cE evD)) [some (.tup (fiv (enC n) s))]) G' (DL.PB Q):=λG' a=>by
  obtain⟨k,e,i⟩:=uM (by lia) G' g.1;refine u5<| v8 rfl rfl<| r8.mpr ⟨k,e,?_⟩;rcases k with _|_
  ·exact u0 (q G' a)
  ·exact absurd (i.mp rfl) g.2
 have two:∀G',Ap G G'->Wp (o9 (ifS (Q1 (tBn n4 (ixE g0 F1) N0) (C3 (J2 (F0 P2 (J3 (itW (ixE (ixE g0 F1) z0)) [none,some 0] H0 K1 (M0 OE g0 (ixE (ixE x0 F1) C0))))))) (t8 cBf) J7) (t8 (j5 neD g0 (cE evD))) [some (.tup (fiv (enC n) s))]) G' (DL.PB Q):=λG' a=>by
  obtain⟨ns,b,ss,bs,ls,rs⟩:=s;rcases rs with _|⟨fs,m⟩
  ·exact u6 (X1:= [_]) rfl (last G' a)
  · have zr:=z.rs fs m rfl;have gr:=g.1.rs fs m rfl;have h2:=L9 n 47;refine d9.mpr<| qS rfl<| C9<| aB (λσ=>∃u,σ= [u,some (.tup (fiv (enC n) ⟨ns,b,ss,bs,ls,some (fs,m)⟩))]) rfl (by show (fs.map (fdE (enC n))).length<=_;rw[zg];lia) (λ_ _=>rfl) ⟨_,rfl⟩ (λd hd WZ G1 s1 a1=>?_) λG2 a2=>⟨rfl,rfl,m5.mpr (last G2 (a.trans a2))⟩;obtain⟨u,rfl⟩:=s1;obtain⟨e,he,rfl⟩:=zF.mp hd;have n1:n=1:=by
     rcases n with _|_|n
     ·exact absurd (List.length_pos_of_mem he) (by have:fs.length<=0:=zr.1;lia)
     ·rfl
     ·lia
    subst n1;exact⟨⟨_,rfl⟩,j8 rfl rfl<| Rc (gr.2.2 e he).1 (zr.2.2 e he).1 zr.2.1 (gr.2.2 e he).2.1 (gr.2.2 e he).2.2 λG2 a2=>⟨rfl,a2⟩⟩
 obtain⟨ns,b,ss,bs,ls,rs⟩:=s;rcases ls with _|⟨fs,m⟩
 ·exact u6 (X1:= [_]) rfl (two G Ap.refl)
 · cases (z.ls fs m rfl).1
   exact d9.mpr<| qS rfl<| C9<| aB One rfl (zY _) (λ_ _=>rfl) ⟨_,rfl⟩ (λ_ h=>nomatch h) λG2 a2=>⟨rfl,rfl,m5.mpr (two G2 a2)⟩
def ZT:DSt->M Bool:=J2 y0
def Mq:uG=o9 (M8 (Q7 L0) C2) (asQ (Q7 (D1 g0)) C1 (o9 (P9 ZT (o9 Z1 (o9 V2 (o9 V3 V4)))) (t8 (F0 P2 (J3 (itW x0) [none] H0 K1 (D0 Z7 g0)))))):=rfl
theorem dR(hp:G0.length<=p)(hr:G0.length<=r)(hpr:p≠r):∀fuel ws fd u G,Ap G0 G->G[p]? =some (.lst ws)->G[r]? =some (.lst fd)->szL ws<fuel->szL ws+fd.length<=1000000->(∀d∈ws,GW d)->(∀d∈fd,GW d)->
 Wp (T7 fuel ZT (o9 Z1 (o9 V2 (o9 V3 V4))) [x,sRf r,sRf p,u]) G λfl G'=>∃u' fd',fl= .nx [x,sRf r,sRf p,u']/\Ap G0 G'/\G'[r]? =some (.lst fd')/\(∀d∈fd',GW d)/\fd'.length<=1000000
 |0,ws,fd,u,G,_,_,_,hf,_,_,_=>absurd hf (Nat.not_lt_zero _)
 |fuel+1,ws,fd,u,G,hA,e,er,hf,hb,hw,hd=>by
   have bg:=big;by_cases Et:ws= []
   ·subst Et;refine kD.mpr<| h9.mpr<| b8 rfl<| (fK e).mpr ?_;rw[if_neg (by simp)];exact⟨u,fd,rfl,hA,er,hd,by lia⟩
   · obtain⟨t,q,rfl⟩:∃(t:List D) (q:D),ws=t++[q]:=⟨ws.dropLast,ws.getLast Et,(Jh Et).symm⟩;refine kD.mpr<| h9.mpr<| b8 rfl<| (fK e).mpr ?_;rw[if_pos (by simp)];refine d9.mpr<| M3<| x5.mpr<| b8 rfl<| (N8 e).mpr<| j9.mpr<| (HJ e).mpr ?_;have e1:(G.set p (.lst t))[p]? =some (.lst t):=zS (lt_of_get e);have er1:(G.set p (.lst t))[r]? =some (.lst fd):=by rw[zX hpr];exact er
     have a1:Ap G0 (G.set p (.lst t)):=hA.set hp;have hq:=hw q (by simp);have hs:szL (t++[q])=szL t+szD q:=by rw[LD,szC,szN];rfl
     rw[hs]at hf hb;refine d9.mpr<| aE<| C9<| j8 rfl rfl<| hq.form λG2 a2=>⟨rfl,rfl,m5.mpr ?_⟩;have e2:=a2.at e1;have er2:=a2.at er1;refine d9.mpr<| iA.mpr<| x5.mpr<| b8 rfl<| (N8 er2).mpr<| b8 rfl<| (W4 er2 (by lia)).mpr ?_;have e3:(G2.set r (.lst (fd++[q])))[p]? =some (.lst t):=by rw[zX (Ne.symm hpr)];exact e2
     have er3:(G2.set r (.lst (fd++[q])))[r]? =some (.lst (fd++[q])):=zS (lt_of_get er2);have a3:Ap G0 (G2.set r (.lst (fd++[q]))):=(a1.trans a2).set hr;refine iA.mpr<| x5.mpr<| b8 rfl<| (N8 e3).mpr<| m6<| j8 rfl rfl<| hq.inner λp4 G4 ks a4 l4 e4 gk hk=>j9.mpr ?_;have e5:=a4.at e3;have er5:=a4.at er3;have Ha:=DK t;have Ge:=DK ks;refine(fN e5 e4 (by lia)).mpr ?_;refine dR hp hr hpr fuel (t++ks) (fd++[q]) _ _ ((a3.trans a4).set hp) (zS (lt_of_get e5)) (by rw[zX hpr];exact er5) (by rw[LD];lia) (by rw[LD,zJ,jI];have:=QL q;lia) (λd Hl=>?_) (λd Hl=>?_)
     · rcases jd.mp Hl with Hl|Hl
       ·exact hw d (by simp[Hl])
       ·exact gk d Hl
     · rcases jd.mp Hl with Hl|Hl
       ·exact hd d Hl
       ·rw[zB.mp Hl];exact hq
def Kq(hd:szD d<=900000)(h:GW d)(q:∀G',Ap G G'->Q (.bl true) G'):Wp (AE [d]) G Q:=by
 have bg:=big;refine v9 (show Wp (uG [some d,none,none,none]) G _ from ?_);rw[Mq];have hs:szL [d]=szD d:=by rw[szC,szN];rfl
 refine u6 (X1:= [some d,some (.ref G.length),none,none]) rfl<| u6 (X1:= [some d,some (.ref G.length),some (.ref (G++[DO.lst []]).length),none]) rfl ?_;refine d9.mpr<| SG<| (dR (by simp) (zp _) (by simp) (szD d+1) [d] [] none _ (Ap.one.trans Ap.one) j6 (P0 j6) (by rw[hs];lia) (by rw[hs,yz];lia) (λx hx=>by rw[zB.mp hx];exact h) (λx hx=>by cases hx)).mono ?_;rintro _ G1 ⟨u',fd,rfl,a1,e1,h1,hl⟩;refine u5<| aB One (R9<| wp_itW.mpr<| b8 rfl<| (vA e1).mpr ⟨rfl,rfl⟩) (by show fd.length<=_;lia) (λG' a=>by show ckO G.length (.lst fd) G'=true;unfold ckO;rw[a.at e1];simp) ⟨_,rfl⟩ ?_ λG2 a2=>u0 (q G2 (a1.trans a2));rintro x hx _ G2 ⟨u,rfl⟩ j;exact⟨⟨_,rfl⟩,j8 rfl rfl<| (h1 x hx).one λG3 a3=>⟨rfl,a3⟩⟩
def pvD(p:Str×D):D:=.tup [.str p.1,p.2]
inductive VD:Nat->D->NV->Prop
 |num {k:Nat} {i:Int}:VD k (.int i) (.num i)
 |txt {k:Nat} {z:Str}:VD k (.str z) (.txt z)
 |tru {k:Nat} {b:Bool}:VD k (.bl b) (.tru b)
 |lst {k:Nat} {ds:List D} {f:Nat->NV} (hl:ds.length<=500) (h:∀(i:Nat) (d:D),ds[i]? =some d->VD k d (f i)):VD (k+1) (.tup [.str HQ,.tup ds]) (.lst ds.length f)
 |rcd {k:Nat} {ps:List (Str×D)} {q:Str->Bool} {f:Str->NV} (hl:ps.length<=500) (h:∀p∈ps,VD k p.2 (f p.1)) (hq:∀z,q z=true↔z∈ps.map (·.1)):VD (k+1) (.tup [.str tK,.tup (ps.map pvD)]) (.rcd q f)
def dM(k:Nat)(R:List D->M D):Prop:=∀(n:Nat) (c:CS n) (d:D) (v:NV) (G:DH),SzC n 47 c->Gd n c->VD k d v->Wp (R [d,enC n c]) G λx G'=>Ap G G'/\∃b:Bool,x= .bl b/\(b=true↔inC n c v)
def KJ{l:List α}{f:α->Bool}(h:G[r]? =some (.lst (l.map λx=>.bl (f x)))):Wp (P2 [.ref r]) G Q↔Q (.bl (l.all f)) G:=by
 have h0:P2 [.ref r]= (do
  let l <-N5 r >>= DL.listOf
  let bs <-S1 (L8 l)
  pure (.bl (bs.all id))):=rfl
 rw[h0];simp only[j7,N6,h,O9,DL.listOf,wp_pure,S4,kF,Zh];rfl
def uq{P:ι->Prop}{Q:ι->α->DH->Prop}(i0:ι)(h0:P i0)(h:∀i,P i->Wp m G (Q i)):Wp m G λx G'=>∀i,P i->Q i x G':=by obtain⟨a,G',e,_⟩:=h i0 h0;refine⟨a,G',e,λi hi=>?_⟩;obtain⟨a',G'',e',q⟩:=h i hi;rw[e]at e';cases e';exact q
section
variable{n k:Nat}{R:List D->M D}{G:DH}
def IY(ih:dM k R){r:Option (List (CS n)×CS n)}{f:Nat->NV}(hz:lsZ n 47 r)(hg:EB (Gd n) r)(hl:ds.length<=500)(h:∀i d,ds[i]? =some d->VD k d (f i)):Wp (X4 R [.tup ds,lsD (enC n) r]) G λx G'=>Ap G G'/\∃b:Bool,x= .bl b/\(b=true↔R3 (inC n) r ds.length f):=by
 have bg:=big;rcases r with _|⟨fs,m⟩
 ·exact O2 rfl ⟨Ap.refl,false,rfl,λz=>(nomatch z),λz=>absurd z X6⟩
 obtain⟨rfl,zm⟩:=hz fs m rfl;have gm:=(hg _ _ rfl).1;generalize hfs:([]:List (CS n))=fs;have z:fs.length<=0:=by rw[<-hfs];exact zp _
 have fm:∀i,frt fs m i=m:=λi=>bD (by lia);refine v9 (show Wp (lG R [some (.tup ds),some (.tup [.tup (fs.map (enC n)),enC n m]),none]) G _ from ?_);unfold lG;refine d9.mpr<| X3<| E8<| b8 rfl ⟨λz=>(nomatch z),λ_=>J6<| v8 rfl rfl<| QF.mpr ⟨_,rfl,λg=>?_,λg=>m5.mpr ?_⟩⟩
 ·have g:=of_decide_eq_true g;rw[zg]at g;exact u5<| b8 rfl<| u0 ⟨Ap.refl,false,rfl,λz=>(nomatch z),λz=>by have:=(X5.mp z).1;lia⟩
 have g:=of_decide_eq_false g;rw[zg]at g;have e0:((ds.length:Int)-((fs.map (enC n)).length:Int))= ((ds.length-fs.length:Nat):Int):=by rw[zg];lia
 refine d9.mpr<| M3<| m7<| b8 rfl<| m7<| b8 rfl<| v8 rfl rfl<| WC.mpr ?_;rw[e0];refine(Gc ⟨by lia,by lia,by simp⟩).mpr ?_;rw[jE,show (zC (ds.length-fs.length) [enC n m]).flatten=zC (ds.length-fs.length) (enC n m) by simp];refine(dI (by rw[zg,YF];lia)).mpr ?_;have hs:∀i,i<ds.length->(fs.map (enC n)++zC (ds.length-fs.length) (enC n m))[i]? =some (enC n (frt fs m i)):=λi hi=>by
  by_cases h1:i<fs.length
  ·rw[zQ (by rw[zg];exact h1),zU,zj h1,NB h1];rfl
  ·rw[yP (by rw[zg];lia),Yf,if_pos (by rw[zg];lia),bD (by lia)]
 have Ei:(fs.map (enC n)++zC (ds.length-fs.length) (enC n m)).length=ds.length:=by rw[zJ,zg,YF];lia
 generalize fs.map (enC n)++zC (ds.length-fs.length) (enC n m)=ss at hs Ei;refine u5<| O6<| m6<| wp_comp.mpr<| b8 rfl ⟨by show (List.map _ (ds.zip ss)).length<=_;rw[zg,Yv];lia,?_⟩;have gf:∀i,Gd n (frt fs m i):=λi=>by rw[fm i];exact gm
 have zf:∀i,SzC n 47 (frt fs m i):=λi=>by rw[fm i];exact zm
 refine(l9 (λG'=>Ap G G') (λσ=>∃u v,σ= [u,v]) (λd y=>∃b:Bool,y= .bl b/\∀i:Nat,((ds.zip ss).map λp=>D.tup [p.1,p.2])[i]? =some d->(b=true↔inC n (frt fs m i) (f i))) (λ_ _=>rfl) _ _ G ⟨_,_,rfl⟩ Ap.refl ?_).mono ?_
 · rintro d hd _ G1 ⟨u,v,rfl⟩ a1;obtain⟨i0,hi0⟩:=yj.mp hd;have at_:∀i:Nat,((ds.zip ss).map λp=>D.tup [p.1,p.2])[i]? =some d->∃x,d= .tup [x,enC n (frt fs m i)]/\VD k x (f i):=λi hi=>by
    rw[zU]at hi;rcases e:(ds.zip ss)[i]? with _|⟨x,s⟩
    ·rw[e]at hi;cases hi
    ·rw[e]at hi;cases hi;obtain⟨e1,e2⟩:=JS.mp e;have:=hs i (jl.mp e1).1;rw[e2]at this;cases this;exact⟨x,rfl,h i x e1⟩
   obtain⟨x,rfl,_⟩:=at_ i0 hi0;refine b8 rfl ⟨rfl,⟨_,_,rfl⟩,?_⟩;refine j8 rfl rfl<| (uq (P:=λi:Nat=>((ds.zip ss).map λp=>D.tup [p.1,p.2])[i]? =some (.tup [x,enC n (frt fs m i0)])) (Q:=λi y G3=>Ap G1 G3/\∃b:Bool,y= .bl b/\(b=true↔inC n (frt fs m i) (f i))) i0 hi0 λi hi=>?_).mono λy G3 q=>?_
   · obtain⟨x',e,hv⟩:=at_ i hi;obtain⟨rfl,e2⟩:x=x'/\enC n (frt fs m i0)=enC n (frt fs m i):=by
      have:=D.tup.inj e;exact⟨(yJ this).1,(yJ (yJ this).2).1⟩
     rw[e2];exact ih n _ x _ G1 (zf i) (gf i) hv
   · obtain⟨a3,b,rfl,_⟩:=q i0 hi0;refine⟨a1.trans a3,b,rfl,λi hi=>?_⟩;obtain⟨_,b',e,hb⟩:=q i hi
     cases e;exact hb
 · rintro _ G1 ⟨a1,zs,e1,rfl,hz⟩;obtain⟨Ht,e2,e3,e4⟩:=uD (β:=Bool) (P:=λd b=>∀i:Nat,((ds.zip ss).map λp=>D.tup [p.1,p.2])[i]? =some d->(b=true↔inC n (frt fs m i) (f i))) zs hz;rw[e2,show Ht.map D.bl=Ht.map λb=>D.bl (id b)from rfl];refine j9.mpr<| (KJ j6).mpr<| u0 ⟨a1.trans Ap.one,_,rfl,?_⟩;have hln:Ht.length=ds.length:=by
    rw[e3,<-zg,e1,zg,Yv,Ei,Nat.min_self]
   rw[X5,ya];have at2:∀(i:Nat) b,Ht[i]? =some b->(b=true↔inC n (frt fs m i) (f i)):=λi b hb=>by
    have hi:i<((ds.zip ss).map λp=>D.tup [p.1,p.2]).length:=by rw[zg,Yv,Ei,Nat.min_self,<-hln];exact(jl.mp hb).1
    have hd:=zj hi;exact e4 i b _ hb (by rw[e1];exact hd) i hd
   refine⟨λhh=>⟨by lia,λi hi=>?_⟩,λhh b hb=>?_⟩
   ·have hb:=zj (l:=Ht) (i:=i) (by lia);exact(at2 i _ hb).mp (hh _ (jW _))
   ·obtain⟨i,hi⟩:=yj.mp hb;exact(at2 i b hi).mpr (hh.2 i (by have:=(jl.mp hi).1;lia))
end
section
variable{a b:Fe}{σ:DSt}{G:DH}{k j:Bool}
def KY(ea:a σ G=some (.ok (.bl k),G))(eb:b σ G=some (.ok (.bl j),G)):T4 a b σ G=some (.ok (.bl (k&&j)),G):=R9<| uC.mpr<| b8 ea<| Q4.mpr<| by
 cases k
 ·rw[if_neg (by decide)];exact⟨rfl,rfl⟩
 ·rw[if_pos rfl];exact b8 eb ⟨rfl,rfl⟩
def GU(ea:a σ G=some (.ok (.bl false),G))(eb:b σ G=some (.ok (.bl j),G)):y7 a b σ G=some (.ok (.bl j),G):=R9<| uL.mpr<| b8 ea<| Q4.mpr<| by
 rw[if_neg (by decide)];exact b8 eb ⟨rfl,rfl⟩
def BO(ea:a σ G=some (.ok (.bl true),G)):y7 a b σ G=some (.ok (.bl true),G):=R9<| uL.mpr<| b8 ea<| Q4.mpr<| by
 rw[if_pos rfl];exact⟨rfl,rfl⟩
end
def loB:Option Int->Int->Bool
 |none,_=>true
 |some a,x=>decide (a<=x)
def hiB:Option Int->Int->Bool
 |none,_=>true
 |some a,x=>decide (x<=a)
def IP:(loB p.1 x&&hiB p.2 x)=true↔inR p x:=by obtain⟨a,b⟩:=p;unfold inR;rcases a with _|a<;>rcases b with _|b<;>simp[loB,hiB]
def iy{p:Rg}:NE [some (K2 p.1),some (K2 p.2),some (.int x)] G=some (.ok (.bl (loB p.1 x&&hiB p.2 x)),G):=by
 obtain⟨a,b⟩:=p;refine KY ?_ ?_
 · rcases a with _|a
   ·exact BO rfl
   ·exact GU rfl rfl
 · rcases b with _|b
   ·exact BO rfl
   ·exact GU rfl rfl
theorem QQ:∀ns u v,K7 (A5 2 (R0 H0 (R0 C2 D5))) K1 NE (λ_=>true) (rsD ns) [u,v,some (.int x)] G=some (.ok (ns.map λp=>.bl (loB p.1 x&&hiB p.2 x)),G)
 |[],u,v=>R9 (rA.mpr ⟨rfl,rfl,rfl⟩)
 | p :: r, u, v => R9 (KB.mpr ⟨rfl, b8 rfl <| b8 rfl <| by
    rw[if_pos rfl];exact b8 iy<| b8 (QQ r _ _) ⟨rfl,rfl⟩⟩)
def Bx{l:List α}(h:G[r]? =some (.lst (l.map λx=>.bl (f x)))):Wp (iB [.ref r]) G Q↔Q (.bl (l.any f)) G:=by
 have h0:iB [.ref r]= (do
  let l <-N5 r >>= DL.listOf
  let bs <-S1 (L8 l)
  pure (.bl (bs.any id))):=rfl
 rw[h0];simp only[j7,N6,h,O9,DL.listOf,wp_pure,S4,kF,ZJ];rfl
def Pk(h:pvD p=pvD q):p=q:=by have:=D.tup.inj h;exact XF (D.str.inj (yJ this).1) (yJ (yJ this).2).1
theorem hU:∀(ps:List (Str×D)) u G,K7 H0 K1 (ixE g0 z0) (λ_=>true) (ps.map pvD) [u] G=some (.ok ((ps.map (·.1)).map D.str),G)
 |[],u,G=>R9 (rA.mpr ⟨rfl,rfl,rfl⟩)
 |p::r,u,G=>R9 (KB.mpr ⟨rfl,b8 rfl<| b8 rfl<| by rw[if_pos rfl];exact b8 rfl<| b8 (hU r _ G) ⟨rfl,rfl⟩⟩)
section
variable{n:Nat}{G:DH}
theorem TL{ws:List Str}(e:G[p]? =some (.lst (ws.map D.str))):∀(fs:List (Str×Bool×CS n)) u,K7 H0 (J2 (ixE g0 C0)) (j5 inD (ixE g0 z0) x0) (λ_=>true) (fs.map (fdE (enC n))) [u,sRf p] G=some (.ok ((fs.filter (·.2.1)).map λx=>.bl (decide (x.1∈ws))),G)
 |[],u=>R9 (rA.mpr ⟨rfl,rfl,rfl⟩)
 | (z, b, c) :: r, u => R9 (KB.mpr ⟨rfl, b8 rfl <| b8 (a := b) rfl <| by
     cases b
     ·rw[if_neg (by decide)];exact b8 (TL e r _) ⟨rfl,rfl⟩
     ·rw[if_pos rfl];exact v8 rfl rfl<| NC.mpr ⟨_,WF e,b8 (TL e r _) ⟨rfl,rfl⟩⟩⟩)
theorem vU:∀fs u,Wp (B2 C1 IB (λ_=>true) (fs.map (fdE (enC n))) [some P,some (.str z),u]) G λfl G'=>G'=G/\(fl= .rt (enC n (fld fs m z).2)\/(fld fs m z= (false,m)/\∃u,fl= .nx [some P,some (.str z),u]))
 |[],u=>gA.mpr ⟨rfl,rfl,.inr ⟨rfl,u,rfl⟩⟩
 |(y,b,c)::r,u=>by
  refine bA.mpr ⟨rfl,M6.mpr ?_⟩;unfold IB;refine X3<| J6<| v8 rfl rfl<| dC.mpr ⟨y==z,rfl,y==z,rfl,λh=>?_,λh=>m5.mpr ?_⟩
  ·refine u5<| b8 rfl ⟨rfl,.inl ?_⟩;unfold fld;rw[if_pos (show y=z from beq_iff_eq.mp h)]
  · have e:fld ((y,b,c)::r) m z=fld r m z:=by
     show (if y=z then (b,c)else fld r m z)=_;rw[if_neg λe=>by rw[e,beq_self_eq_true]at h;cases h]
    rw[e];exact vU r _
def vK:OC [.tup [.tup (fs.map (fdE (enC n))),enC n m],.str z] G=some (.ok (enC n (fld fs m z).2),G):=by
 refine R9 (v9 (show Wp (pM [some (.tup [.tup (fs.map (fdE (enC n))),enC n m]),some (.str z),none]) G _ from ?_));refine d9.mpr<| i9.mpr<| wp_itW.mpr<| b8 rfl<| srcW_tup.mpr<| (vU (m:=m) fs none).mono ?_;rintro _ _ ⟨rfl,rfl|⟨e,u,rfl⟩⟩
 ·exact u0 ⟨rfl,rfl⟩
 ·rw[e];exact u5<| b8 rfl (u0 ⟨rfl,rfl⟩)
end
section
variable{n k:Nat}{R:List D->M D}{G:DH}
def kw(ih:dM k R){ps:List (Str×D)}{r:Option (List (Str×Bool×CS n)×CS n)}(hz:rsZ n 47 r)(hg:c8 (Gd n) r)(hl:ps.length<=500)(h:∀p∈ps,VD k p.2 (f p.1))(hq:∀z,q z=true↔z∈ps.map (·.1)):Wp (T3 R [.tup (ps.map pvD),rcD (enC n) r]) G λx G'=>Ap G G'/\∃b:Bool,x= .bl b/\(b=true↔E2 (inC n) r q f):=by
 have bg:=big;rcases r with _|⟨fs,m⟩
 ·exact O2 rfl ⟨Ap.refl,false,rfl,λz=>(nomatch z),λz=>absurd z sA⟩
 have Hr:=hz fs m rfl;have k1:=L9 n 47;have hg':=hg fs m rfl;have Ge:(ps.map pvD).length<=10000:=by rw[zg];lia
 refine v9 (show Wp (Z3 R [some (.tup (ps.map pvD)),some (.tup [.tup (fs.map (fdE (enC n))),enC n m]),none]) G _ from ?_);unfold Z3;refine u6 (X1:= [some (.tup (ps.map pvD)),some (.tup [.tup (fs.map (fdE (enC n))),enC n m]),none]) rfl<| d9.mpr<| M3<| V6 rfl Ge<| b8 (hU ps none G) ?_;have must:((fs.filter (·.2.1)).all λx=>decide (x.1∈ps.map (·.1)))=true↔∀z,q z=false->(fld fs m z).1=false:=by
  rw[ya];constructor
  · intro hh z qz;rcases e:(fld fs m z).1 with _|_
    ·rfl
    by_cases hm:z∈fs.map (·.1)
    ·have:=of_decide_eq_true (hh (z,fld fs m z) (jL.mpr ⟨HB hm,e⟩));rw[(hq z).mpr this]at qz;cases qz
    ·rw[B6 hm]at e;cases e
  · intro hh x hx;obtain⟨h1,h2⟩:=jL.mp hx;refine decide_eq_true ((hq _).mp ?_);rcases e:q x.1 with _|_
    ·have:=hh _ e;rw[aH hg'.2.1 h1,h2]at this;cases this
    ·rfl
 refine d9.mpr<| X3<| iH.mpr<| h9.mpr<| O6<| m6<| V6 rfl (by rw[zg];lia)<| b8 (TL j6 fs none)<| j9.mpr<| (KJ j6).mpr<| Q4.mpr ⟨λhb=>?_,λhb=>m5.mpr ?_⟩
 ·refine u5<| b8 rfl<| u0 ⟨Ap.one.trans Ap.one,false,rfl,λz=>(nomatch z),λz=>?_⟩;rw[must.mpr λy hy=>(Q9.mp z y).2 hy]at hb;cases hb
 have hb:((fs.filter (·.2.1)).all λx=>decide (x.1∈ps.map (·.1)))=true:=by
  rcases e:((fs.filter (·.2.1)).all λx=>decide (x.1∈ps.map (·.1)))with _|_
  ·rw[e]at hb;cases hb
  ·exact e
 have hb:=must.mp hb;have a0:Ap G (G++[.lst ((ps.map (·.1)).map D.str)]++[.lst ((fs.filter (·.2.1)).map λx=>.bl (decide (x.1∈ps.map (·.1))))]):=Ap.one.trans Ap.one;generalize G++[DO.lst ((ps.map (·.1)).map D.str)]++[DO.lst ((fs.filter (·.2.1)).map λx=>.bl (decide (x.1∈ps.map (·.1))))]=G1 at a0;refine u5<| O6<| m6<| V6 rfl Ge<| (l9 (λG'=>Ap G1 G') (λσ=>∃u v,σ= [u,v,some (.tup [.tup (fs.map (fdE (enC n))),enC n m])]) (λd y=>∃b:Bool,y= .bl b/\∀p∈ps,pvD p=d->(b=true↔inC n (fld fs m p.1).2 (f p.1))) (λ_ _=>rfl) _ _ G1 ⟨_,_,rfl⟩ Ap.refl ?_).mono ?_
 ·rintro d hd _ G2 ⟨u,v,rfl⟩ a2;obtain⟨p,hp,rfl⟩:=zF.mp hd;refine b8 rfl ⟨rfl,⟨_,_,rfl⟩,?_⟩;refine O6<| R4 rfl<| m6<| j8 rfl rfl<| b8 vK<| j9.mpr<| T6.mpr ⟨rfl,(ih n _ p.2 _ G2 (fF hz p.1) (KF hg p.1) (h p hp)).mono ?_⟩;rintro _ G3 ⟨a3,b,rfl,hb⟩;exact⟨a2.trans a3,b,rfl,λp' _ e=>by rw[Pk e];exact hb⟩
 · rintro _ G2 ⟨a2,zs,e1,rfl,hz⟩;obtain⟨bs,e2,e3,e4⟩:=uD (β:=Bool) (P:=λd b=>∀p∈ps,pvD p=d->(b=true↔inC n (fld fs m p.1).2 (f p.1))) zs hz;rw[e2,show bs.map D.bl=bs.map λb=>D.bl (id b)from rfl];refine j9.mpr<| (KJ j6).mpr<| u0 ⟨a0.trans (a2.trans Ap.one),_,rfl,?_⟩;have hln:bs.length=ps.length:=by rw[e3,<-zg,e1,zg]
   have at2:∀(i:Nat) b p,bs[i]? =some b->ps[i]? =some p->(b=true↔inC n (fld fs m p.1).2 (f p.1)):=λi b p hb hp=>
    e4 i b (pvD p) hb (by rw[e1,zU,hp];rfl) p (yX hp) rfl
   rw[Q9,ya];refine⟨λhh z=>⟨λhqz=>?_,hb z⟩,λhh b hb=>?_⟩
   ·obtain⟨p,hp,rfl⟩:=zF.mp ((hq z).mp hqz);obtain⟨i,hi⟩:=yj.mp hp;have hl3:=(jl.mp hi).1;have hb:=zj (l:=bs) (i:=i) (by lia);exact(at2 i _ p hb hi).mp (hh _ (jW _))
   ·obtain⟨i,hi⟩:=yj.mp hb;have hl3:=(jl.mp hi).1;have hp:=zj (l:=ps) (i:=i) (by lia);exact(at2 i b _ hi hp).mpr ((hh _).1 ((hq _).mpr (zF.mpr ⟨_,jW _,rfl⟩)))
end
theorem in_at:∀k N,k<N->dM k (nE N)
 |k,N+1,hk=>λn c d v G hz hg hv=>by
   rcases n with _|n
   ·exact b8 rfl ⟨Ap.refl,true,rfl,λ_=>trivial,λ_=>rfl⟩
   rcases c with _|s
   ·exact b8 rfl ⟨Ap.refl,true,rfl,λ_=>trivial,λ_=>rfl⟩
   have z:=hz s rfl;have g:=hg.1;refine v9 (show Wp (BE (nE N) [some d,some (.tup (fiv (enC n) s))]) G _ from ?_);unfold BE;refine u6 (X1:= [some d,some (.tup (fiv (enC n) s))]) rfl ?_;rcases hv with _|_|_|⟨hl,h⟩|⟨hl,h,hq⟩
   ·refine u6 (X1:= [_,_]) rfl<| d9.mpr<| C5 rfl<| u5<| O6<| m6<| V6 rfl (by rw[qF];have:=z.ns;lia)<| b8 (QQ s.ns none none)<| j9.mpr<| (Bx j6).mpr<| u0 ⟨Ap.one,_,rfl,?_⟩;rw[xh];exact⟨fun⟨p,hp,h⟩=>⟨p,hp,IP.mp h⟩,fun⟨p,hp,h⟩=>⟨p,hp,IP.mpr h⟩⟩
   · rename_i z';refine u6 (X1:= [_,_]) rfl<| u6 (X1:= [_,_]) rfl<| d9.mpr<| C5 rfl<| u5<| m7<| v8 rfl rfl<| NC.mpr ⟨_,rL,?_⟩;have e:(j5 eqD (ixE (ixE x0 C0) z0) (cSt "of")) [some (.str z'),some (.tup (fiv (enC n) s))] G=some (.ok (.bl s.b),G):=by
      rcases s with⟨ns,b,ss,bs,ls,rs⟩
      cases b<;>rfl
     refine b8 e<| dC.mpr ⟨_,rfl,u0 ⟨Ap.refl,_,rfl,?_⟩⟩;show _↔inT s.b s.ss z';unfold inT;by_cases hm:z'∈s.ss<;>cases s.b<;>simp[hm]
   ·rename_i b;exact d9.mpr<| C5 rfl<| u5<| v8 rfl rfl<| NC.mpr ⟨_,BT g.bs,u0 ⟨Ap.refl,_,rfl,by rw[decide_eq_true_eq];exact Iff.rfl⟩⟩
   ·rename_i k ds f;refine u6 (X1:= [_,_]) rfl<| u6 (X1:= [_,_]) rfl<| u6 (X1:= [_,_]) rfl<| d9.mpr<| C5 rfl<| u5<| j8 rfl rfl<| (IY (in_at k N (by lia)) z.ls (i7.raw g.ls) hl h).mono λx G' q=>u0 q
   ·rename_i k ps q f;refine u6 (X1:= [_,_]) rfl<| u6 (X1:= [_,_]) rfl<| u6 (X1:= [_,_]) rfl<| d9.mpr<| rC rfl<| m5.mpr<| u5<| j8 rfl rfl<| (kw (in_at k N (by lia)) z.rs (U3.raw g.rs) hl h hq).mono λx G' q=>u0 q
def fU(hl:ds.length<=500)(h:∀d∈ds,∃v,VD k d v):∃v,VD (k+1) (.tup [.str HQ,.tup ds]) v:=
 ⟨_,.lst (f:=λi=>if hi:i<ds.length then (h ds[i] (jW hi)).choose else .num 0) hl λi d e=>by obtain⟨hi,rfl⟩:=jl.mp e;simp only[dif_pos hi];exact(h ds[i] (jW hi)).choose_spec⟩
def kG{ps:List (Str×D)}(hl:ps.length<=500)(nd:(ps.map (·.1)).Nodup)(h:∀p∈ps,∃v,VD k p.2 v):∃v,VD (k+1) (.tup [.str tK,.tup (ps.map pvD)]) v:=by
 have hf:∀z,∃v,∀p∈ps,p.1=z->VD k p.2 v:=λz=>by
  by_cases hz:∃p∈ps,p.1=z
  · obtain⟨p,hp,rfl⟩:=hz;obtain⟨v,hv⟩:=h p hp;refine⟨v,λp' hp' e=>?_⟩;obtain⟨i,hi⟩:=yj.mp hp;obtain⟨j,hj⟩:=yj.mp hp';have e1:(ps.map (·.1))[i]? =some p.1:=by rw[zU,hi];rfl
    have e2:(ps.map (·.1))[j]? =some p.1:=by rw[zU,hj];exact congrArg some e
    have:=(List.getElem?_inj (jl.mp e1).1 nd).mp (e1.trans e2.symm);rw[this,hj]at hi
    cases hi
    exact hv
  ·exact⟨.num 0,λp hp e=>absurd ⟨p,hp,e⟩ hz⟩
 exact⟨_,.rcd (q:=λz=>decide (z∈ps.map (·.1))) (f:=λz=>(hf z).choose) hl (λp hp=>(hf p.1).choose_spec p hp rfl) λz=>by rw[decide_eq_true_eq]⟩
def p12:Wp (w9 (.int 10) (.int 12)) G Q↔Q (.int 1000000000000) G:=by rw[HL (by decide)];rfl
theorem DM{r:Nat}:∀n k G,k<n->Dr G r->Wp (QD n [.ref r,.int (k:Int)]) G λx G'=>(∃v,VD k x v)/\Fd r G G'
 |0,k,G,hk,_=>by lia
 |n+1,k,G,hk,h=>by
   have bg:1000<=zq:=by decide
   refine v9 (show Wp (eF (QD n) [sRf r,sIi k,none,none]) G _ from ?_);unfold eF;refine d9.mpr<| M3<| j8 rfl rfl<| X7 h λj G1 f1=>?_;refine d9.mpr<| M3<| v8 rfl rfl<| (t6 (by decide)).mpr ?_;generalize (j:Int) % 6=w;refine d9.mpr<| X3<| J6<| v8 rfl rfl<| T5.mpr ⟨_,rfl,λ_=>?_,λ_=>m5.mpr ?_⟩
   ·exact u5<| m7<| m7<| m7<| m7<| v8 rfl rfl<| (K8 ⟨by decide,by decide⟩).mpr<| b8 rfl<| (i8 (Or.inr ⟨by decide,by decide⟩)).mpr<| j8 rfl rfl<| X7 f1.2.2 λi G2 f2=>KA.mpr<| m7<| m7<| b8 rfl<| v8 rfl rfl<| p12.mpr<| (i8 (Or.inl ⟨by decide,by decide⟩)).mpr<| b8 rfl<| KA.mpr<| (t6 (by decide)).mpr<| v8 rfl rfl<| p12.mpr<| WC.mpr<| u0 ⟨⟨_,.num⟩,f1.trans f2⟩
   refine d9.mpr<| X3<| J6<| v8 rfl rfl<| T5.mpr ⟨_,rfl,λ_=>?_,λ_=>m5.mpr ?_⟩
   ·refine u5<| j8 rfl rfl<| (nS f1.2.2).mono ?_;rintro _ G2 ⟨⟨z,rfl,_⟩,f2⟩;exact u0 ⟨⟨_,.txt⟩,f1.trans f2⟩
   refine d9.mpr<| X3<| J6<| v8 rfl rfl<| T5.mpr ⟨_,rfl,λ_=>?_,λ_=>m5.mpr ?_⟩
   ·exact u5<| m7<| m7<| v8 rfl rfl<| (K8 ⟨by decide,by decide⟩).mpr<| b8 rfl<| (t6 (by decide)).mpr<| b8 rfl<| T5.mpr<| u0 ⟨⟨_,.tru⟩,f1⟩
   have hint {P:Fl->DH->Prop} (q:∀i:Int,P (.rt (.int i)) G1):Wp (t8 (j5 u4 (j5 J9 (j5 M4 y0 A6) (cIn 13)) A6) [sRf r,sIi k,some (.int j),some (.int w)]) G1 P:=
    u5<| m7<| m7<| v8 rfl rfl<| (K8 ⟨by decide,by decide⟩).mpr<| b8 rfl<| (t6 (by decide)).mpr<| b8 rfl<| WC.mpr<| q _
   refine d9.mpr<| X3<| E8<| J6<| v8 rfl rfl<| T5.mpr ⟨_,rfl,λ_=>⟨λ_=>hint λi=>u0 ⟨⟨_,.num⟩,f1⟩,λz=>absurd z (by decide)⟩,λ_=>J6<| v8 rfl rfl<| T5.mpr ⟨_,rfl,λ_=>hint λi=>u0 ⟨⟨_,.num⟩,f1⟩,λhz=>m5.mpr ?_⟩⟩;have k0:¬(k:Int)=0:=of_decide_eq_false hz;have ek:(k:Int)-1= ((k-1:Nat):Int):=by lia
   obtain⟨k',rfl⟩:∃k',k=k'+1:=⟨k-1,by lia⟩;have rc (G2:DH) (h2:Dr G2 r) {Q:DPP} (q:∀x G3,(∃v,VD k' x v)->Fd r G2 G3->Q x G3) (u:Option D):Wp (T2 (fnX 2 (QD n)) (i4 y0 (j5 u4 x0 C0)) [u,some (.int ((k'+1:Nat):Int)),sRf r]) G2 Q:=by refine O6<| R4 rfl<| m6<| v8 rfl rfl<| WC.mpr<| j9.mpr<| T6.mpr ⟨rfl,?_⟩;rw[ek];exact(DM n k' G2 (by lia) h2).mono λx G3 ⟨hv,f⟩=>q x G3 hv f
   refine d9.mpr<| X3<| J6<| v8 rfl rfl<| T5.mpr ⟨_,rfl,λ_=>?_,λ_=>m5.mpr ?_⟩
   · refine u5<| S7.mpr<| R4 rfl<| m6<| O6<| m6<| wp_comp.mpr<| rng1.mpr<| m6<| j8 rfl rfl<| BM f1.2.2 λm hm G2 f2=>j9.mpr<| (rng1_int ⟨by lia,by lia⟩).mpr ?_;have ln:(K3 0 (m:Int).toNat).length=m:=by unfold K3;rw[zg,yi];rfl
     refine⟨by show (K3 0 (m:Int).toNat).length<=_;rw[ln];lia,(l9 (Fd r G2) (λσ=>∃u,σ= [u,some (.int ((k'+1:Nat):Int)),sRf r]) (λ_ y=>∃v,VD k' y v) (λ_ _=>rfl) _ _ G2 ⟨_,rfl⟩ (Fd.refl f2.2.2) ?_).mono ?_⟩
     ·rintro d hd _ G3 ⟨v,rfl⟩ jj;exact M6.mpr ⟨rfl,⟨_,rfl⟩,rc G3 jj.2.2 (λx G4 hv f4=>⟨jj.trans f4,hv⟩) _⟩
     · rintro _ G3 ⟨f3,zs,e1,rfl,hz⟩;have lz:(zs.map (·.2)).length=m:=by
        have:=congrArg Za e1;rw[zg]at this;rw[zg,this];exact ln
       exact j9.mpr<| (M7 j6).mpr<| j9.mpr ⟨sz,u0 ⟨fU (by lia) (λd hd=>by obtain⟨z,hzm,rfl⟩:=zF.mp hd;exact hz z hzm),f1.trans (f2.trans (f3.trans (Fd.app f3.2.2)))⟩⟩
   · refine u5<| S7.mpr<| R4 rfl<| m6<| O6<| m6<| wp_comp.mpr<| wp_itW.mpr<| j8 rfl rfl<| (ON f1.2.2).mono ?_;rintro _ G2 ⟨f2,p,ss,rfl,hp0,e2,sn,_,hl⟩;have hp:p≠r:=by have:=f1.2.2.lt;lia
     refine(vA e2).mpr ⟨by rw[zg];lia,(l9 (λG'=>Fd r G2 G') (λσ=>∃u,σ= [u,some (.int ((k'+1:Nat):Int)),sRf r]) (λx y=>∃q:Str×D,y=pvD q/\x= .str q.1/\∃v,VD k' q.2 v) (λG' jj=>fA (jj.at hp e2)) _ _ G2 ⟨_,rfl⟩ (Fd.refl f2.2.2) ?_).mono ?_⟩
     ·rintro d hd _ G3 ⟨v,rfl⟩ jj;obtain⟨nm,_,rfl⟩:=zF.mp hd;exact M6.mpr ⟨rfl,⟨_,rfl⟩,S7.mpr<| R4 rfl<| m6<| rc G3 jj.2.2 (λx G4 hv f4=>j9.mpr ⟨sz,jj.trans f4,(nm,x),rfl,rfl,hv⟩) _⟩
     · rintro _ G3 ⟨f3,zs,e1,rfl,hz⟩;obtain⟨hs,e3,e4,e5⟩:=uD (β:=Str×D) (P:=λx q=>x= .str q.1/\∃v,VD k' q.2 v) zs hz;have lz:hs.length=ss.length:=by rw[e4,<-zg,e1,zg]
       have at_:∀(i:Nat) q,hs[i]? =some q->ss[i]? =some q.1/\∃v,VD k' q.2 v:=λi q hq=>by
        have hi:i<ss.length:=by have:=(jl.mp hq).1;lia
        have hd:(zs.map (·.1))[i]? =some (.str ss[i]):=by rw[e1,zU,zj hi];rfl
        obtain⟨x1,x2⟩:=e5 i q _ hq hd;exact⟨by rw[zj hi,D.str.inj x1],x2⟩
       have en:hs.map (·.1)=ss:=Zg λi=>by
        rw[zU];rcases hq:hs[i]? with _|q
        ·rw[zT (by have:=JT.mp hq;lia)];rfl
        ·rw[(at_ i q hq).1];rfl
       rw[e3];refine j9.mpr<| (M7 j6).mpr<| j9.mpr ⟨sz,u0 ⟨kG (by lia) (by rw[en];exact Yy (λ{a b} (h:nlt a b) (e:a=b)=>by subst e;exact vC _ h) sn) (λq hq=>?_),f1.trans (f2.trans (f3.trans (Fd.app f3.2.2)))⟩⟩;obtain⟨i,hi⟩:=yj.mp hq;exact(at_ i q hi).2
def FK(h0:0<=i)(h1:i<l.length)(q:∀d∈l,Q d G):Wp (ixD (.tup l) (.int i)) G Q:=by obtain⟨d,hd,e⟩:=EH h0 h1;exact ix_tup.mpr ⟨d,e,q d hd⟩
def RH(e:G[p]? =some (.lst l))(h0:0<=i)(h1:i<l.length)(q:∀d∈l,Q d G):Wp (ixD (.ref p) (.int i)) G Q:=by obtain⟨d,hd,e2⟩:=EH h0 h1;exact(u7 e).mpr ⟨d,e2,q d hd⟩
def bB(hl:l≠ []):0<=j % (l.length:Int)/\j % (l.length:Int)<l.length:=by
 have:(0:Int)<l.length:=by rcases l with _|_;exact absurd rfl hl;simp
 exact⟨jx _ (by lia),jt _ this⟩
def WG(hl:l≠ []):(0:Int)<l.length:=by rcases l with _|_;exact absurd rfl hl;simp
def tj(hc:Can ns)(hn:ns≠ []):Wp (nI [.tup (rsD ns),.int (j:Int)]) G λx G'=>Ap G G'/\∃i,x= .int i:=by
 have hn':rsD ns≠ []:=λh=>hn (Xh.mp h);refine v9 (show Wp (KI [some (.tup (rsD ns)),sIi j,none,none,none]) G _ from ?_);unfold KI;refine d9.mpr<| W8.mpr<| m7<| b8 rfl<| v8 rfl rfl<| (t6 (WG hn')).mpr<| FK (bB hn').1 (bB hn').2 λd hd=>?_;obtain⟨⟨a,b⟩,hp,rfl⟩:=zF.mp hd;refine b8 rfl ?_;refine d9.mpr<| M3<| m7<| v8 rfl rfl<| (K8 ⟨by decide,by decide⟩).mpr<| b8 rfl<| (t6 (by decide)).mpr ?_;generalize (j:Int) / 7 % 5=st;rcases a with _|a<;>rcases b with _|b
 ·exact mI rfl (u0 ⟨Ap.refl,_,rfl⟩)
 ·exact u6 (X1:= [_,_,_,_,_]) rfl<| mI rfl (u0 ⟨Ap.refl,_,rfl⟩)
 ·exact u6 (X1:= [_,_,_,_,_]) rfl<| u6 (X1:= [_,_,_,_,_]) rfl<| mI rfl (u0 ⟨Ap.refl,_,rfl⟩)
 ·have hab:=hc.1 _ hp a b rfl rfl;refine u6 (X1:= [_,_,_,_,_]) rfl<| u6 (X1:= [_,_,_,_,_]) rfl<| u6 (X1:= [_,_,_,_,_]) rfl ?_;refine u5<| m7<| P4.mpr<| R4 rfl<| R4 rfl<| m6<| m7<| b8 rfl<| m7<| v8 rfl rfl<| (K8 ⟨by decide,by decide⟩).mpr<| m7<| v8 rfl rfl<| WC.mpr<| b8 rfl<| KA.mpr<| (t6 (by lia)).mpr<| KA.mpr<| j9.mpr ⟨sz,?_⟩;refine m7<| v8 rfl rfl<| (K8 ⟨by decide,by decide⟩).mpr<| b8 rfl<| (t6 (by decide)).mpr<| RH j6 (jx _ (by decide)) (jt _ (by decide)) λd hd=>u0 ⟨Ap.one,?_⟩;simp only[zy,jg,or_false]at hd;rcases hd with rfl|rfl|rfl<;>exact⟨_,rfl⟩
theorem bO(hs:∀z∈ss,Tx z):∀fuel z,1002<=z.length+fuel->z.length<=1001->Wp (T7 fuel (tBn inD y0 (ixE g0 C0)) (M8 (j5 V8 y0 (cSt "q")) C1) [some (D2 b ss),a1,some (.str z)]) G λfl G'=>G'=G/\∃z',fl= .nx [some (D2 b ss),a1,some (.str z')]
 |0,z,h1,h2=>by lia
 |fuel+1,z,h1,h2=>by
   have bg:=big;refine kD.mpr<| J6<| v8 rfl rfl<| NC.mpr ⟨_,rL,_,rfl,?_⟩;by_cases hz:z∈ss
   · rw[decide_eq_true hz,if_pos rfl];have:=(hs z hz).2;have hq:("q" :Str).length=1:=rfl;have hl:(z++("q" :Str)).length=z.length+1:=by
      show (z.cps++("q" :Str).cps).size=_;rw[Array.size_append];rfl
     refine M3<| v8 rfl rfl<| (mh (by rw[hq];lia)).mpr ?_;exact bO hs fuel _ (by rw[hl];lia) (by rw[hl];lia)
   ·rw[decide_eq_false hz,if_neg (by decide)];exact⟨rfl,z,rfl⟩
def Vz(hs:∀z∈ss,Tx z)(hb:¬(b=true/\ss= [])):Wp (OI [D2 b ss,.int (j:Int)]) G λx G'=>Ap G G'/\∃z,x= .str z:=by
 refine v9 (show Wp (aJ [some (D2 b ss),sIi j,none]) G _ from ?_);unfold aJ;rcases b with _|_
 · refine u6 (X1:= [some (D2 false ss),sIi j,none]) rfl<| d9.mpr<| M3<| m7<| P4.mpr<| b8 rfl ⟨sz,v8 rfl rfl<| (t6 (by decide)).mpr<| RH j6 (jx _ (by decide)) (jt _ (by decide)) λd hd=>?_⟩;obtain⟨z,rfl,hz⟩:∃z:Str,d= .str z/\z.length<=2:=by
    simp only[zy,jg,or_false]at hd;rcases hd with rfl|rfl|rfl|rfl|rfl|rfl<;>exact⟨_,rfl,by decide⟩
   refine d9.mpr<| SG<| (bO hs 1002 z (by lia) (by lia)).mono ?_;rintro _ _ ⟨rfl,z',rfl⟩;exact u5<| b8 rfl (u0 ⟨Ap.one,_,rfl⟩)
 ·have hn:ss.map D.str≠ []:=λh=>hb ⟨rfl,Xh.mp h⟩;refine d9.mpr<| C5 rfl<| u5<| m7<| b8 rfl<| v8 rfl rfl<| (t6 (WG hn)).mpr<| FK (bB hn).1 (bB hn).2 λd hd=>?_;obtain⟨z,_,rfl⟩:=zF.mp hd;exact u0 ⟨Ap.refl,_,rfl⟩
def VD.mono(h:VD k d v):∀ {k'},k<=k'->VD k' d v:=by
 induction h with
 |num=>exact λ_=>.num
 |txt=>exact λ_=>.txt
 |tru=>exact λ_=>.tru
 |lst hl _ ih=>
   intro k' hk;obtain⟨k'',rfl⟩:∃k'',k'=k''+1:=⟨k'-1,by lia⟩;exact .lst hl λi d e=>ih i d e (by lia)
 |rcd hl _ hq ih=>
   intro k' hk;obtain⟨k'',rfl⟩:∃k'',k'=k''+1:=⟨k'-1,by lia⟩;exact .rcd hl (λp hp=>ih p hp (by lia)) hq
def VI(n:Nat)(R:List D->M D):Prop:=∀(c:CS n) (G:DH) (r:Nat),Dr G r->Gd n c->SzC n 47 c->Wp (R [.ref r,enC n c]) G λx G'=>Fd r G G'/\((x= .non/\∀v,¬inC n c v)\/∃v,VD (n+1) x v)
section
variable{n r:Nat}{R:List D->M D}{G:DH}
def VI.some(ih:VI n R)(h:Dr G r)(g:Gd n c)(z:SzC n 47 c)(hv:∃v,inC n c v)(q:∀x G',Fd r G G'->(∃v,VD (n+1) x v)->Q x G'):Wp (R [.ref r,enC n c]) G Q:=
 (ih c G r h g z).mono λx G' ⟨f,hx⟩=>by
   rcases hx with⟨_,no⟩|hx
   ·exact absurd hv.choose_spec (no _)
   ·exact q x G' f hx
def Qp(hn:n<=6)(ih:VI n R)(h:Dr G r)(g:i7 (inC n) (Gd n) (some (fs,m)))(z:lsZ n 47 (some (fs,m))):Wp (WD R [.ref r,lsD (enC n) (some (fs,m))]) G λx G'=>Fd r G G'/\∃v,VD (n+2) x v:=by
 have bg:=big;have g:=g fs m rfl;have z:=z fs m rfl;refine v9 (show Wp (SF R [sRf r,some (.tup [.tup (fs.map (enC n)),enC n m]),none]) G _ from ?_);unfold SF;obtain⟨rfl,zm⟩:=z;refine d9.mpr<| M3<| V6 rfl (zY _)<| rA.mpr ⟨rfl,?_⟩;have f2:Fd r G (G++[.lst []]):=Fd.app h;have hp:G.length≠r:=by have:=h.lt;lia
 have e2:(G++[DO.lst []])[G.length]? =some (.lst []):=j6;generalize G.length=p at hp e2;generalize G++[DO.lst []]=G2 at f2 e2;have last:∀(p':Nat) (ws:List D) (G3:DH),Fd r G G3->G3[p']? =some (.lst ws)->ws.length<=500->(∀d∈ws,∃v,VD (n+1) d v)->Wp (t8 (T0 (cSt "list") (F0 O3 y0)) [sRf r,some (.tup [.tup [],enC n m]),sRf p']) G3 (DL.PB λx G'=>Fd r G G'/\∃v,VD (n+2) x v):=λp' ws G3 f e hl hw=>
  u5<| S7.mpr<| R4 rfl<| m6<| L5 rfl<| (M7 e).mpr<| j9.mpr ⟨sz,u0 ⟨f,fU hl hw⟩⟩
 obtain⟨b,eb,hb⟩:=VB (by lia) G2 m g.1;refine d9.mpr<| X3<| J6<| v8 rfl rfl<| r8.mpr ⟨b,eb,_,rfl,λhm=>?_,λ_=>m5.mpr (last p [] G2 f2 e2 (zY _) λ_ h=>nomatch h)⟩;have hm:∃v,inC n m v:=js λno=>by rw[hb.mpr λv hv=>no ⟨v,hv⟩]at hm;cases hm
 refine M3<| m7<| b8 rfl<| wp_comp.mpr<| rng1.mpr<| m6<| m7<| j8 rfl rfl<| X7 f2.2.2 λk G3 f3=>b8 rfl<| (t6 (by decide)).mpr<| j9.mpr<| (rng1_int ⟨by lia,by lia⟩).mpr ?_;have hk0:0<=(k:Int) % 3:=jx _ (by decide);have hk3:(k:Int) % 3<3:=jt _ (by decide);have ln:(K3 0 ((k:Int) % 3).toNat).length<=3:=by unfold K3;rw[zg,yi];lia
 refine⟨by dsimp only;lia,(l9 (Fd r G3) (λσ=>∃u,σ= [u,some (.tup [.tup [],enC n m]),sRf r]) (λ_ y=>∃v,VD (n+1) y v) (λ_ _=>rfl) _ _ G3 ⟨_,rfl⟩ (Fd.refl f3.2.2) ?_).mono ?_⟩
 ·rintro d hd _ G4 ⟨u,rfl⟩ f4;exact M6.mpr ⟨rfl,⟨_,rfl⟩,j8 rfl rfl<| ih.some f4.2.2 g.1 zm hm λx G5 f5 hx=>⟨f4.trans f5,hx⟩⟩
 rintro _ G4 ⟨f4,zs,e3,rfl,hz⟩;have l2:(zs.map (·.2)).length<=3:=by rw[zg,<-zg,e3];exact ln
 have f5:Fd r G2 (G4++[.lst (zs.map (·.2))]):=f3.trans (f4.trans (Fd.app f4.2.2));refine(cG (f5.at hp e2) j6 (by rw[yz];lia)).mpr ?_;refine last _ ([]++zs.map (·.2)) _ (f2.trans (f5.trans (Fd.app f5.2.2))) j6 (by rw[xw];lia) λd hd=>?_;obtain⟨x,hx,rfl⟩:=zF.mp hd;exact hz x hx
end
def E5(ps:List (Str×D)):List (Key×D):=ps.map λp=>(.inr p.1,p.2)
theorem qU:∀ps:List (Str×D),v7 (E5 ps)=some (ps.map (·.1))
 |[]=>rfl
 |(x,d)::r=>by show (v7 (E5 r)).map (x :: ·)=_;rw[qU r];rfl
theorem LS:∀ {ps} {z},z∈ps.map (·.1)->∃d,U0 (E5 ps) (.inr z)=some d/\(z,d)∈ps
 |[],z,h=>nomatch h
 |(y,d)::r,z,h=>by
  by_cases e:y=z
  ·subst e;exact⟨d,by simp[U0,E5],zH ..⟩
  · obtain⟨d',h1,h2⟩:=LS (by
     rcases zy.mp h with h|h
     ·exact absurd h.symm e
     ·exact h)
    refine⟨d',?_,zA _ h2⟩;show (List.find? _ ((Sum.inr y,d)::E5 r)).map _=_;rw[List.find?_cons_of_neg (by simpa using e)];exact h1
def EV(h:z∉ps.map (·.1)):i6 (E5 ps) (.inr z) d=E5 (ps++[(z,d)]):=by
 unfold i6;rw[if_neg]
 ·simp[E5]
 ·intro k;obtain⟨kv,h1,h2⟩:=xh.mp k;obtain⟨q,hq,rfl⟩:=zF.mp h1;exact h (zF.mpr ⟨q,hq,by simpa using h2⟩)
structure PsI(n p:Nat)(ps:List (Str×D))(G:DH):Prop where
 e:G[p]? =some (.dct (E5 ps))
 nd:(ps.map (·.1)).Nodup
 v:∀q∈ps,∃v,VD (n+1) q.2 v
section
variable{n r p:Nat}{R:List D->M D}{G:DH}
def Qd(f:Fd r G0 G)(I:PsI n p ps G)(hl:ps.length<=60):Wp (RL [sRf r,some A,sRf p,WQ,σ4]) G (DL.PB λx G'=>Fd r G0 G'/\∃v,VD (n+2) x v):=by
 have bg:=big;refine u5<| S7.mpr<| R4 rfl<| m6<| O6<| m6<| wp_comp.mpr<| wp_itW.mpr<| L5 rfl<| (Gf I.e (qU ps) (by rw[zg];lia)).mpr ?_;have pm:(O8 (ps.map (·.1))).Perm (ps.map (·.1)):=jv _ leS;have ls:(O8 (ps.map (·.1))).length=ps.length:=by rw[pm.length_eq,zg]
 have e1:(G++[.lst ((O8 (ps.map (·.1))).map D.str)])[p]? =some (.dct (E5 ps)):=P0 I.e;have e2:(G++[DO.lst ((O8 (ps.map (·.1))).map D.str)])[G.length]? =some (.lst ((O8 (ps.map (·.1))).map D.str)):=j6;have f1:Fd r G0 (G++[.lst ((O8 (ps.map (·.1))).map D.str)]):=f.trans (Fd.app f.2.2);generalize G++[DO.lst ((O8 (ps.map (·.1))).map D.str)]=G1 at e1 e2 f1;refine(vA e2).mpr ⟨by rw[zg];lia,(l9 (λG'=>G'=G1) (λσ=>∃u,σ= [u,sRf p]) (λx y=>∃q:Str×D,y=pvD q/\x= .str q.1/\q∈ps) (λG' jj=>by rw[jj];exact fA e2) _ _ G1 ⟨_,rfl⟩ rfl ?_).mono ?_⟩
 ·rintro d hd _ _ ⟨u,rfl⟩ rfl;obtain⟨z,hz,rfl⟩:=zF.mp hd;obtain⟨d',h1,h2⟩:=LS (pm.mem_iff.mp hz);exact M6.mpr ⟨rfl,⟨_,rfl⟩,S7.mpr<| R4 rfl<| m6<| v8 rfl rfl<| (rj e1 h1).mpr<| j9.mpr ⟨sz,rfl,(z,d'),rfl,rfl,h2⟩⟩
 · rintro _ _ ⟨rfl,zs,e3,rfl,hz⟩;obtain⟨hs,e4,e5,e6⟩:=uD (β:=Str×D) (P:=λx q=>x= .str q.1/\q∈ps) zs hz;have lz:hs.length=ps.length:=by rw[e5,<-zg,e3,zg,ls]
   have at_:∀(i:Nat) q,hs[i]? =some q->(O8 (ps.map (·.1)))[i]? =some q.1/\q∈ps:=λi q hq=>by
    have hi:i<(O8 (ps.map (·.1))).length:=by have:=(jl.mp hq).1;lia
    have hd:(zs.map (·.1))[i]? =some (.str (O8 (ps.map (·.1)))[i]):=by rw[e3,zU,zj hi];rfl
    obtain⟨x1,x2⟩:=e6 i q _ hq hd;exact⟨by rw[zj hi,D.str.inj x1],x2⟩
   have en:hs.map (·.1)=O8 (ps.map (·.1)):=Zg λi=>by
    rw[zU];rcases hq:hs[i]? with _|q
    ·rw[zT (by have:=JT.mp hq;lia)];rfl
    ·rw[(at_ i q hq).1];rfl
   have hin:∀q∈hs,q∈ps:=λq hq=>by obtain⟨i,hi⟩:=yj.mp hq;exact(at_ i q hi).2
   rw[e4];exact j9.mpr<| (M7 j6).mpr<| j9.mpr ⟨sz,u0 ⟨f1.trans (Fd.app f1.2.2),kG (by lia) (by rw[en];exact pm.nodup_iff.mpr I.nd) (λq hq=>I.v q (hin q hq))⟩⟩
def PsI.put(I:PsI n p ps G)(hz:z∉ps.map (·.1))(hv:∃v,VD (n+1) d v)(e:G[p]? =some (.dct (E5 ps))):PsI n p (ps++[(z,d)]) (G.set p (.dct (i6 (E5 ps) (.inr z) d))):=
 ⟨by rw[zS (lt_of_get e),EV hz],by
  rw[jD,yW];refine⟨I.nd,by simp,λa ha b hb e=>hz ?_⟩;have e2:b=z:=zB.mp hb;rw[<-e2,<-e];exact ha,λq hq=>by
  rcases jd.mp hq with hq|hq
  ·exact I.v q hq
  ·rw[zB.mp hq];exact hv⟩
def PsI.fd(I:PsI n p ps G)(f:Fd r G G')(hp:p≠r):PsI n p ps G':=⟨f.at hp I.e,I.nd,I.v⟩
def cg(hn:n<=6)(ih:VI n R)(hp:p≠r)(h:Dr G r)(I:PsI n p ps G)(hl:ps.length<=100)(g:Gd n e.2.2)(z:SzC n 47 e.2.2)(must:e.2.1=true->∃v,inC n e.2.2 v)(new:e.1∉ps.map (·.1)):Wp (RF R [sRf r,some A,sRf p,WQ,some (fdE (enC n) e)]) G λfl G'=>fl= .nx [sRf r,some A,sRf p,WQ,some (fdE (enC n) e)]/\Fd2 r p G G'/\∃ps',PsI n p ps' G'/\ps'.length<=ps.length+1/\∀q∈ps',q.1∈ps.map (·.1)\/q.1=e.1:=by
 have bg:=big;obtain⟨y,b,c⟩:=e;have go:∀G1,Fd r G G1->(∃v,inC n c v)->Wp (M8 (M0 R g0 (ixE S0 K0)) (A3 y0 (ixE S0 z0)) [sRf r,some A,sRf p,WQ,some (fdE (enC n) (y,b,c))]) G1 λfl G'=>fl= .nx [sRf r,some A,sRf p,WQ,some (fdE (enC n) (y,b,c))]/\Fd2 r p G G'/\∃ps',PsI n p ps' G'/\ps'.length<=ps.length+1/\∀q∈ps',q.1∈ps.map (·.1)\/q.1=y:=λG1 f1 hv=>by
  refine W8.mpr<| j8 rfl rfl<| ih.some f1.2.2 g z hv λx G2 f2 hx=>?_;have I2:=I.fd (f1.trans f2) hp;refine BG.mpr<| b8 rfl<| b8 rfl<| (sT I2.e (by unfold E5;rw[zg];lia)).mpr ⟨rfl,?_,_,I2.put new hx I2.e,by simp,λq hq=>?_⟩
  ·exact(f1.trans f2).two.trans (Fd2.set hp f2.2.2)
  · rcases jd.mp hq with hq|hq
    ·exact .inl (ZE hq)
    ·rw[zB.mp hq];exact .inr rfl
 have no:∀G1,Fd r G G1->Wp (J7 [sRf r,some A,sRf p,WQ,some (fdE (enC n) (y,b,c))]) G1 λfl G'=>fl= .nx [sRf r,some A,sRf p,WQ,some (fdE (enC n) (y,b,c))]/\Fd2 r p G G'/\∃ps',PsI n p ps' G'/\ps'.length<=ps.length+1/\∀q∈ps',q.1∈ps.map (·.1)\/q.1=y:=λG1 f1=>m5.mpr ⟨rfl,f1.two,ps,I.fd f1 hp,by lia,λq hq=>.inl (ZE hq)⟩;unfold RF;refine X3<| E8<| b8 rfl ?_;rcases b with _|_
 · refine⟨λz=>(nomatch z),λ_=>?_⟩;obtain⟨t,et,ht⟩:=VB (by lia) G c g;refine F8<| J6<| v8 rfl rfl<| r8.mpr ⟨t,et,_,rfl,λhm=>?_,λ_=>⟨λz=>(nomatch z),λ_=>no G (Fd.refl h)⟩⟩;have hm:∃v,inC n c v:=js λno=>by
    rw[ht.mpr λv hv=>no ⟨v,hv⟩]at hm;cases hm
   exact J6<| m7<| m7<| j8 rfl rfl<| X7 h λj G1 f1=>b8 rfl<| (t6 (by decide)).mpr<| b8 rfl<| T5.mpr ⟨_,rfl,λ_=>go G1 f1 hm,λ_=>no G1 f1⟩
 ·exact⟨λ_=>⟨λ_=>go G (Fd.refl h) (must rfl),λz=>(nomatch z)⟩,λz=>(nomatch z)⟩
theorem DN(hn:n<=6)(ih:VI n R)(hp:p≠r):∀(fs:List (Str×Bool×CS n)) ps u G,Dr G r->PsI n p ps G->ps.length+fs.length<=100->(fs.map (·.1)).Nodup->(∀e∈fs,Gd n e.2.2/\SzC n 47 e.2.2/\(e.2.1=true->∃v,inC n e.2.2 v)/\e.1∉ps.map (·.1))->
 Wp (B2 B3 (RF R) (λ_=>true) (fs.map (fdE (enC n))) [sRf r,some A,sRf p,WQ,u]) G λfl G'=>(∃u,fl= .nx [sRf r,some A,sRf p,WQ,u])/\Fd2 r p G G'/\∃ps',PsI n p ps' G'/\ps'.length<=ps.length+fs.length/\∀q∈ps',q.1∈ps.map (·.1)\/q.1∈fs.map (·.1)
 |[],ps,u,G,h,I,hl,_,_=>gA.mpr ⟨rfl,⟨u,rfl⟩,(Fd.refl h).two,ps,I,by simp,λq hq=>.inl (ZE hq)⟩
 |e::fs,ps,u,G,h,I,hl,nd,hf=>by
   rw[zM]at hl;obtain⟨g,z,must,new⟩:=hf e (zH ..);rw[zO,xv]at nd;refine bA.mpr ⟨rfl,M6.mpr<| (cg hn ih hp h I (by lia) g z must new).mono ?_⟩;rintro _ G1 ⟨rfl,f1,ps1,I1,l1,s1⟩;refine(DN hn ih hp fs ps1 _ G1 f1.2.2 I1 (by lia) nd.2 λx hx=>?_).mono ?_
   · obtain⟨a1,a2,a4,a5⟩:=hf x (zA _ hx);refine⟨a1,a2,a4,λhm=>?_⟩;obtain⟨q,hq,e1⟩:=zF.mp hm;rcases s1 q hq with k|k
     ·rw[e1]at k;exact a5 k
     ·exact nd.1 (by rw[<-k,e1];exact ZE hx)
   · rintro _ G2 ⟨hu,f2,ps2,I2,l2,s2⟩;refine⟨hu,f1.trans f2,ps2,I2,by rw[zM];lia,λq hq=>?_⟩;rcases s2 q hq with k|k
     · obtain⟨q',hq',e1⟩:=zF.mp k;rcases s1 q' hq' with k|k
       ·exact .inl (e1▸k)
       ·exact .inr (by rw[<-e1,k];exact zH ..)
     ·exact .inr (zA _ k)
end
section
variable{n r:Nat}{R:List D->M D}{G:DH}
def SR(hn:n<=6)(ih:VI n R)(h:Dr G r)(g:U3 (inC n) (Gd n) (some (fs,m)))(z:rsZ n 47 (some (fs,m))):Wp (V5 R [.ref r,.tup [.tup (fs.map (fdE (enC n))),enC n m]]) G λx G'=>Fd r G G'/\∃v,VD (n+2) x v:=by
 have bg:=big;have g:=g fs m rfl;have z:=z fs m rfl;have k1:=L9 n 47;generalize hA:D.tup [.tup (fs.map (fdE (enC n))),enC n m]=A;refine v9 (show Wp (oH R [sRf r,some A,none,none,none]) G _ from ?_);unfold oH;refine u6 (X1:= [sRf r,some A,some (.ref G.length),none,none]) rfl ?_;have f0:Fd r G (G++[.dct []]):=Fd.app h;have f1:Fd r G (G++[.dct []]++[.lst ((["q", "a", "ba", "z"]:List Str).map D.str)]):=f0.trans (Fd.app f0.2.2);have hp:G.length≠r:=by have:=h.lt;lia
 have e1:(G++[DO.dct []]++[DO.lst ((["q", "a", "ba", "z"]:List Str).map D.str)])[G.length]? =some (.dct (E5 [])):=P0 j6;have eL:(G++[DO.dct []]++[DO.lst ((["q", "a", "ba", "z"]:List Str).map D.str)])[(G++[DO.dct []]).length]? =some (.lst ((["q", "a", "ba", "z"]:List Str).map D.str)):=j6;have hL:(G++[DO.dct []]).length≠r:=by have:=f0.2.2.lt;lia
 refine d9.mpr<| M3<| m7<| P4.mpr<| b8 rfl ⟨sz,?_⟩;refine m7<| j8 rfl rfl<| X7 f1.2.2 λk G2 f2=>b8 rfl<| (t6 (by decide)).mpr<| RH (f2.at hL eL) (jx _ (by decide)) (jt _ (by decide)) λd hd=>?_;obtain⟨w,hw,rfl⟩:=zF.mp hd;have I2:PsI n G.length [] G2:=⟨f2.at hp e1,.nil,λ_ h=>nomatch h⟩;have f2:=f1.trans f2;have nd:=LM g.2.1;refine d9.mpr<| i9.mpr<| wp_itW.mpr<| b8 (by rw[<-hA];rfl)<| srcW_tup.mpr<| (DN hn ih hp fs [] none G2 f2.2.2 I2 (by have:=z.1;simp;lia) nd λe he=>⟨(g.2.2 e he).1,(z.2.2 e he).1,(g.2.2 e he).2.1,λh=>nomatch h⟩).mono ?_;rintro _ G3 ⟨⟨u,rfl⟩,f3,ps,I3,l3,s3⟩;have f3:=f2.thru f3 (zp _);have l3:ps.length<=47:=by have:=z.1;simp at l3;lia
 have s3:∀q∈ps,q.1∈fs.map (·.1):=λq hq=>(s3 q hq).elim (λh=>nomatch h) id;have done:∀G4 ps',Fd r G G4->PsI n G.length ps' G4->ps'.length<=60->Wp (RL [sRf r,some A,some (.ref G.length),some (.str w),u]) G4 (DL.PB λx G'=>Fd r G G'/\∃v,VD (n+2) x v):=λG4 ps' f I l=>Qd f I l;obtain⟨b,eb,hb⟩:=VB (by lia) G3 m g.1;refine d9.mpr<| X3<| F8<| J6<| v8 (by rw[<-hA];rfl) rfl<| r8.mpr ⟨b,eb,_,rfl,λhm=>?_,λ_=>⟨λz=>(nomatch z),λ_=>m5.mpr (done G3 ps f3 I3 (by lia))⟩⟩;have hm:∃v,inC n m v:=js λno=>by rw[hb.mpr λv hv=>no ⟨v,hv⟩]at hm;cases hm
 refine F8<| J6<| m7<| m7<| j8 rfl rfl<| X7 f3.2.2 λj G4 f4=>b8 rfl<| (t6 (by decide)).mpr<| b8 rfl<| T5.mpr ⟨_,rfl,λ_=>?_,λ_=>⟨λz=>(nomatch z),λ_=>m5.mpr (done G4 ps (f3.trans f4) (I3.fd f4 hp) (by lia))⟩⟩;have I4:=I3.fd f4 hp;have f4:=f3.trans f4;refine J6<| m7<| b8 rfl<| V6 (by rw[<-hA];rfl) (by have:=z.1;rw[zg];lia)<| b8 (RK fs none G4)<| UI.mpr ⟨_,WF j6,_,rfl,λhw=>?_,λ_=>m5.mpr (done _ ps (f4.trans (Fd.app f4.2.2)) (I4.fd (Fd.app f4.2.2) hp) (by lia))⟩;have hw:w∉fs.map (·.1):=λk=>by rw[decide_eq_true k]at hw;cases hw
 have f5:Fd r G (G4++[.lst ((fs.map (·.1)).map D.str)]):=f4.trans (Fd.app f4.2.2);have I5:PsI n G.length ps (G4++[.lst ((fs.map (·.1)).map D.str)]):=I4.fd (Fd.app f4.2.2) hp;refine W8.mpr<| j8 (by rw[<-hA];rfl) rfl<| ih.some f5.2.2 g.1 z.2.1 hm λx G6 f6 hx=>?_;have I6:=I5.fd f6 hp;refine BG.mpr<| b8 rfl<| b8 rfl<| (sT I6.e (by unfold E5;rw[zg];lia)).mpr ?_;refine done _ _ (Fd.put (f5.trans f6) (zp _) hp) (I6.put (λk=>?_) hx I6.e) (by simp;lia);obtain⟨q,hq,e⟩:=zF.mp k;exact hw (e▸s3 q hq)
end
section
variable{n:Nat}{G:DH}{s:Pt (CS n)}
def noP(s:Pt (CS n)):Nat->Prop
 |0=>s.ns= []
 |1=>s.b=true/\s.ss= []
 |2=>s.bs= []
 |3=>s.ls=none
 |_=>s.rs=none
def bR(hn:n<=6)(k:Nat)(hk:k<5):∃x y,(fiv (enC n) s)[k]? =some x/\(fiv (enC n) (D4 (CS n)))[k]? =some y/\U6 40 G x y (noP s k):=by
 have ta:BB (enC n) (4*n):=DF n
 match k,hk with
 |0,_=>exact⟨_,_,rfl,rfl,(U6.tup (U4.map AL s.ns [])).iff Iff.rfl⟩
 |1,_=>exact⟨_,_,rfl,rfl,iM s.b true s.ss []⟩
 |2,_=>exact⟨_,_,rfl,rfl,(U6.tup (U4.map oJ s.bs [])).iff Iff.rfl⟩
 |3,_=>exact⟨_,_,rfl,rfl,by
    have:=OQ ta (35-4*n) G s.ls none;rwa [show 35-4*n+(4*n+5)=40 by lia]at this⟩
 |4,_=>exact⟨_,_,rfl,rfl,by
    have:=rO ta (34-4*n) G s.rs none;rwa [show 34-4*n+(4*n+6)=40 by lia]at this⟩
def wyB(G:DH)(s:Pt (CS n)):D->Bool
 | .int i=> !(eqN 40 G ((atI (fiv (enC n) s) i).getD .non) ((atI (fiv (enC n) (D4 (CS n))) i).getD .non)).getD false
 |_=>false
def Hb(hn:n<=6):K7 H0 (tBn neD (ixE y0 g0) (ixE x0 g0)) g0 (λ_=>true) (K3 0 (5:Int).toNat) (T9 [none,some 2,some 1] [a0,some (.tup (fiv (enC n) s)),some (.tup (fiv (enC n) (D4 (CS n)))),a3,a4,a5]) G=some (.ok ((K3 0 (5:Int).toNat).filter (wyB G s)),G):=by refine aC rfl (λσ=>∃u,σ= [u,some (.tup (fiv (enC n) (D4 (CS n)))),some (.tup (fiv (enC n) s))]) _ _ ⟨_,rfl⟩ λd hd σ WS=>?_;obtain⟨k,hk,rfl⟩:=zF.mp hd;obtain⟨u,rfl⟩:=WS;rw[Int.zero_add];obtain⟨x,y,e1,e2,b,e3,_⟩:=bR hn k (yx.mp hk);refine⟨[sIi k,_,_],rfl,⟨_,rfl⟩,R9 ?_,rfl⟩;refine J6<| m7<| v8 rfl rfl<| ix_tup.mpr ⟨x,atI_nat e1,?_⟩;refine v8 rfl rfl<| ix_tup.mpr ⟨y,atI_nat e2,r8.mpr ⟨b,e3,_,rfl,?_,rfl⟩⟩;show (!b)= !(eqN 40 G ((atI (fiv (enC n) s) (k:Int)).getD .non) ((atI (fiv (enC n) (D4 (CS n))) (k:Int)).getD .non)).getD false;rw[atI_nat e1,atI_nat e2];show (!b)= !(eqN 40 G x y).getD false;rw[e3];rfl
def FZ(hn:n<=6):d∈(K3 0 (5:Int).toNat).filter (wyB G s)↔∃k:Nat,k<5/\d= .int (k:Int)/\¬noP s k:=by
 have one:∀k:Nat,k<5->(wyB G s (.int (k:Int))=true↔¬noP s k):=λk hk=>by
  obtain⟨x,y,e1,e2,b,e3,hb⟩:=bR hn k hk;show (!(eqN 40 G ((atI (fiv (enC n) s) (k:Int)).getD .non) ((atI (fiv (enC n) (D4 (CS n))) (k:Int)).getD .non)).getD false)=true↔_;rw[atI_nat e1,atI_nat e2];show (!(eqN 40 G x y).getD false)=true↔_;rw[e3,<-hb]
  cases b<;>simp
 rw[jL];constructor
 ·rintro⟨h1,h2⟩;obtain⟨k,hk,rfl⟩:=zF.mp h1;have hk:k<5:=yx.mp hk;rw[Int.zero_add]at h2 ⊢;exact⟨k,hk,rfl,(one k hk).mp h2⟩
 ·rintro⟨k,hk,rfl,h⟩;exact⟨zF.mpr ⟨k,yx.mpr hk,by rw[Int.zero_add]⟩,(one k hk).mpr h⟩
def NZ(h:∀k,k<5->noP s k)(v:NV):¬cA (inC n) s v:=by
 have h0:s.ns= []:=h 0 (by decide);have h1:s.b=true/\s.ss= []:=h 1 (by decide);have h2:s.bs= []:=h 2 (by decide);have h3:s.ls=none:=h 3 (by decide);have h4:s.rs=none:=h 4 (by decide);have:s=D4 (CS n):=by
  obtain⟨ns,b,ss,bs,ls,rs⟩:=s
  cases h0;cases h1.1;cases h1.2;cases h2;cases h3;cases h4;rfl
 rw[this];exact FG v
end
def Mx(e:G[p]? =some (.lst l))(h:l.length<=zq)(q:Q (.int (l.length:Int)) G):Wp (N1 [.ref p]) G Q:=(lK e).mpr q
theorem GM:∀n N,n<N->n<=6->VI n (R7 N)
 |n,N+1,hN,hn=>λc G r h g z=>by
   have bg:=big;have any:Wp (R7 (N+1) [.ref r,.str d4]) G λx G'=>Fd r G G'/\((x= .non/\∀v,¬inC n c v)\/∃v,VD (n+1) x v):=by refine v9 (show Wp (R1 (R7 N) [sRf r,some (.str d4),none,none,none,none]) G _ from ?_);unfold R1;exact d9.mpr<| C5 rfl<| u5<| j8 rfl rfl<| (DM 60 1 G (by decide) h).mono λx G' ⟨⟨v,hv⟩,f⟩=>u0 ⟨f,.inr ⟨v,hv.mono (by lia)⟩⟩
   rcases n with _|n
   ·exact any
   rcases c with _|s
   ·exact any
   clear any;have ih:=GM n N (by lia) (by lia);have z:=z s rfl;refine v9 (show Wp (R1 (R7 N) [sRf r,some (.tup (fiv (enC n) s)),none,none,none,none]) G _ from ?_);unfold R1;refine u6 (X1:= [sRf r,some (.tup (fiv (enC n) s)),none,none,none,none]) rfl<| u6 (X1:= [sRf r,some (.tup (fiv (enC n) s)),some (.tup (fiv (enC n) (D4 (CS n)))),none,none,none]) rfl ?_;refine d9.mpr<| M3<| AJ rfl (by decide) (by decide)<| b8 (Hb (by lia)) ?_;have wm:∀d,d∈(K3 0 (5:Int).toNat).filter (wyB G s)↔_:=λd=>FZ (by lia);have wl:((K3 0 (5:Int).toNat).filter (wyB G s)).length<=5:=xA _ _;generalize (K3 0 (5:Int).toNat).filter (wyB G s)=ws at wm wl;have f1:Fd r G (G++[.lst ws]):=Fd.app h;have hp:G.length≠r:=by have:=h.lt;lia
   have f2:Fd r G (G++[.lst ws]++[.lst []]):=f1.trans (Fd.app f1.2.2);have e2:(G++[DO.lst ws]++[DO.lst []])[G.length]? =some (.lst ws):=P0 j6;refine d9.mpr<| X3<| J6<| m7<| b8 rfl<| b8 rfl<| (kL e2 j6).mpr ⟨_,rfl,λhw=>?_,λhw=>m5.mpr ?_⟩
   · refine u5<| b8 rfl (u0 ⟨f2,.inl ⟨rfl,λv=>NZ (λk hk=>js λno=>?_) v⟩⟩);have:=(wm _).mpr ⟨k,hk,rfl,no⟩;rw[List.isEmpty_iff.mp hw]at this
     cases this
   have Et:ws≠ []:=λe=>by rw[e]at hw;cases hw
   generalize G++[DO.lst ws]++[DO.lst []]=G2 at f2 e2;refine d9.mpr<| M3<| j8 rfl rfl<| X7 f2.2.2 λj G3 f3=>?_;have e3:=f3.at hp e2;have f3:=f2.trans f3;refine d9.mpr<| M3<| m7<| b8 rfl<| m7<| b8 rfl<| L5 rfl<| Mx e3 (by lia)<| (t6 (WG Et)).mpr<| RH e3 (bB Et).1 (bB Et).2 λd hd=>?_;obtain⟨k,hk,rfl,no⟩:=(wm d).mp hd;have ok:∀ {x G'},Fd r G3 G'->(∃v,VD (n+2) x v)->(DL.PB λx G'=>Fd r G G'/\((x= .non/\∀v,¬inC (n+1) (some s) v)\/∃v,VD (n+2) x v)) (.rt x) G':=λf hv=>u0 ⟨f3.trans f,.inr hv⟩;have h3:=f3.2.2;have ej:(j:Int) / 5= ((j / 5:Nat):Int):=by lia
   match k,hk,no with
   |0,_,no=>
     refine d9.mpr<| C5 rfl<| u5<| O6<| R4 rfl<| m6<| v8 rfl rfl<| (K8 ⟨by decide,by decide⟩).mpr<| j9.mpr<| T6.mpr ⟨rfl,?_⟩;rw[ej];refine(tj g.1.ns no).mono ?_;rintro _ G4 ⟨⟨t,rfl⟩,i,rfl⟩;exact ok (Fd.app h3) ⟨_,.num⟩
   |1,_,no=>
     refine u6 (X1:= [_,_,_,_,_,_]) rfl<| d9.mpr<| C5 rfl<| u5<| O6<| R4 rfl<| m6<| v8 rfl rfl<| (K8 ⟨by decide,by decide⟩).mpr<| j9.mpr<| T6.mpr ⟨rfl,?_⟩;rw[ej];refine(Vz z.tx no).mono ?_;rintro _ G4 ⟨⟨t,rfl⟩,i,rfl⟩;exact ok (Fd.app h3) ⟨_,.txt⟩
   |2,_,no=>
     have hb:s.bs.map D.bl≠ []:=λe=>no (Xh.mp e);refine u6 (X1:= [_,_,_,_,_,_]) rfl<| u6 (X1:= [_,_,_,_,_,_]) rfl<| d9.mpr<| C5 rfl<| u5<| m7<| b8 rfl<| m7<| v8 rfl rfl<| (K8 ⟨by decide,by decide⟩).mpr<| b8 rfl<| (t6 (WG hb)).mpr<| FK (bB hb).1 (bB hb).2 λd hd=>?_;obtain⟨b,_,rfl⟩:=zF.mp hd;exact ok (Fd.refl h3) ⟨_,.tru⟩
   |3,_,no=>
     obtain⟨⟨fs,m⟩,hls⟩:∃q,s.ls=some q:=Jf.mp no;have gl:=g.1.ls;have zl:lsZ n 47 s.ls:=z.ls;rw[hls]at gl zl;refine u6 (X1:= [_,_,_,_,_,_]) rfl<| u6 (X1:= [_,_,_,_,_,_]) rfl<| u6 (X1:= [_,_,_,_,_,_]) rfl<| d9.mpr<| C5 rfl<| u5<| j8 rfl rfl ?_;rw[hls];exact(Qp (by lia) ih h3 gl zl).mono λx G' ⟨f,hv⟩=>ok f hv
   |4,_,no=>
     obtain⟨⟨fs,m⟩,hrs⟩:∃q,s.rs=some q:=Jf.mp no;have gr:=g.1.rs;have zr:rsZ n 47 s.rs:=z.rs;rw[hrs]at gr zr;refine u6 (X1:= [_,_,_,_,_,_]) rfl<| u6 (X1:= [_,_,_,_,_,_]) rfl<| u6 (X1:= [_,_,_,_,_,_]) rfl<| d9.mpr<| rC rfl<| m5.mpr<| u5<| j8 rfl rfl ?_;rw[hrs];exact(SR (by lia) ih h3 gr zr).mono λx G' ⟨f,hv⟩=>ok f hv
def RS(b:Option (List (Str×Bool×CS 1)×CS 1)):CS 2:=some ⟨[],true, [], [],none,b⟩
abbrev rsT(b:Option (List (Str×Bool×CS 1)×CS 1)):D:=.tup [.tup [],D2 true [],.tup [],.non,rcD (enC 1) b]
def IC(h:U3 (inC 1) (Gd 1) b):Gd 2 (RS b):=⟨⟨⟨λ_ h=>(nomatch h),.nil⟩,.nil,show []∈B4 by decide,λ_ _ e=>(nomatch e),h⟩,λh=>by
 obtain⟨p,hp,_⟩:=h (.num 0)
 cases hp⟩
def cF(h:rsZ 1 k b):SzC 2 k (RS b):=by rintro _ ⟨⟩;exact⟨zY _,zY _,λ_ h=>(nomatch h),λ_ _ e=>(nomatch e),h⟩
def rsZ.mono(hk:k<=l)(h:rsZ n k b):rsZ n l b:=λfs m e=>⟨zK (h fs m e).1 (mP n hk),SzC.mono hk (h fs m e).2.1,λa ha=>⟨SzC.mono hk ((h fs m e).2.2 a ha).1,((h fs m e).2.2 a ha).2⟩⟩
def aS(h:Dr G r):Wp (O1 [.ref r]) G λx G'=>Fd r G G'/\∃b,x=rsT b/\U3 (inC 1) (Gd 1) b/\rsZ 1 6 b:=by have bg:=big;refine v9 (show Wp (Z4 [sRf r]) G _ from ?_);unfold Z4;refine u5<| m7<| b8 (a:=.tup [.tup [],D2 true [],.tup [],.non]) rfl<| S7.mpr<| m6<| j8 rfl rfl<| (Cj G r h).mono ?_;rintro _ G1 ⟨f1,b,rfl,gb,zb⟩;exact j9.mpr ⟨sz,(dI (by simp;lia)).mpr<| u0 ⟨f1,b,rfl,gb,zb⟩⟩
def bf:UF=o9 (ifS (orT (tBn F2 x0 N0) (tBn F2 y0 N0)) (t8 (T0 (cSt "record") (S2 L0))) J7) (asQ (Q7 (D1 (cSt "zz"))) y3 (o9 (N3 (itW (j5 V8 (ixE x0 z0) (ixE y0 z0))) B3 A1) (asQ (Q7 L0) i5 (o9 (N3 (itW (F0 y8 O0)) A7 A2) (t8 (T0 (cSt "record") (F0 O3 E1))))))):=rfl
section
variable{r p q:Nat}{A B:D}{G0:DH}
theorem gM(hr:r<G0.length)(hp:G0.length<=p):∀(fs:List (Str×Bool×CS 1)) (ws:List Str) u G,Fd r G0 G->G[p]? =some (.lst (ws.map D.str))->ws.Nodup->ws.length+fs.length<=60->Wp (B2 B3 A1 (λ_=>true) (fs.map (fdE (enC 1))) [sRf r,some A,some B,sRf p,u,none,none,none,none]) G λfl G'=>Fd r G0 G'/\∃(ws:List Str) (u:Option D),fl= .nx [sRf r,some A,some B,sRf p,u,none,none,none,none]/\G'[p]? =some (.lst (ws.map D.str))/\ws.Nodup/\ws.length<=60
 |[],ws,u,G,f,e,nd,hl=>gA.mpr ⟨rfl,f,ws,u,rfl,e,nd,by simpa using hl⟩
 |x::fs,ws,u,G,f,e,nd,hl=>by
   have bg:=big;rw[zM]at hl;refine bA.mpr ⟨rfl,M6.mpr ?_⟩;unfold A1;refine X3<| J6<| v8 rfl rfl<| UI.mpr ⟨_,WF e,_,rfl,λhn=>?_,λ_=>m5.mpr (gM hr hp fs ws _ G f e nd (by lia))⟩;have hn:x.1∉ws:=λk=>by rw[decide_eq_true k]at hn;cases hn
   refine iA.mpr<| x5.mpr<| b8 rfl<| (N8 e).mpr<| b8 rfl<| (W4 e (by rw[zg];lia)).mpr ?_;refine gM hr hp fs (ws++[x.1]) _ _ (Fd.put f hp (by lia)) (by rw[zS (lt_of_get e),jD];rfl) ?_ (by rw[zJ,jI];lia);rw[yW];refine⟨nd,by simp,λa ha b hb e=>hn ?_⟩;rw[<-zB.mp hb,<-e];exact ha
theorem EI(hr:r<G0.length)(hp:G0.length<=p)(hq:G0.length<=q)(Hs:q≠p)(g:c8 (Gd 1) (some (fs,m)))(z:rsZ 1 47 (some (fs,m)))(g':c8 (Gd 1) (some (gs,l)))(z':rsZ 1 47 (some (gs,l)))(hA:A= .tup [.tup (fs.map (fdE (enC 1))),enC 1 m])(hB:B= .tup [.tup (gs.map (fdE (enC 1))),enC 1 l]):∀ws (ps:List (Str×D)) (a b c:Option D) (G:DH),Fd r G0 G->G[p]? =some (.lst (ps.map pvD))->G[q]? =some (.lst L)->((ps.map (·.1))++ws).Nodup->(∀x∈ps,∃v,VD 2 x.2 v)->ps.length+ws.length<=60->Wp (B2 A7 A2 (ckO q (.lst L)) (ws.map D.str) [sRf r,some A,some B,s3,s4,sRf p,a,b,c]) G λfl G'=>Fd r G0 G'/\∃(ps:List (Str×D)) (a b c:Option D),fl= .nx [sRf r,some A,some B,s3,s4,sRf p,a,b,c]/\G'[p]? =some (.lst (ps.map pvD))/\(ps.map (·.1)).Nodup/\(∀x∈ps,∃v,VD 2 x.2 v)/\ps.length<=60
 |[],ps,a,b,c,G,f,e,eq,nd,hv,hl=>gA.mpr ⟨fA eq,f,ps,a,b,c,rfl,e,by simpa using nd,hv,by simpa using hl⟩
 |w::ws,ps,a,b,c,G,f,e,eq,nd,hv,hl=>by
   have bg:=big;rw[zM]at hl;have nd1:((ps.map (·.1))++ws).Nodup:=List.Nodup.sublist ((List.Sublist.refl _).append (List.sublist_cons_self w ws)) nd;refine bA.mpr ⟨fA eq,M6.mpr ?_⟩;unfold A2;refine d9.mpr<| M3<| j8 rfl rfl<| X7 f.2.2 λk G1 f1=>?_;have e1:=f1.at (by lia) e;have q1:=f1.at (by lia) eq;have f1:=f.trans f1;have f2:Fd r G0 (G1++[.lst [A,B]]):=f1.trans (Fd.app f1.2.2);have inn:∀ {Q:DPP},(∀c:CS 1,Gd 1 c->SzC 1 47 c->Q (enC 1 c) (G1++[.lst [A,B]]))->Wp (T2 (fnX 2 OC) (i4 (ixE (Q7 (i4 x0 y0)) (j5 J9 D8 K0)) E3) [sRf r,some A,some B,s3,s4,sRf p,some (.str w),sIi k,c]) G1 Q:=λ{Q} hQ=>by
    refine O6<| m6<| m7<| P4.mpr<| b8 rfl ⟨sz,v8 rfl rfl<| (t6 (by decide)).mpr ?_⟩;have h2:(k:Int) % 2=0\/(k:Int) % 2=1:=by lia
    rcases h2 with h2|h2
    ·rw[h2];refine(u7 j6).mpr ⟨A,rfl,R4 rfl<| j9.mpr<| T6.mpr ⟨rfl,?_⟩⟩;rw[hA];exact b8 vK (by rw[<-hA];exact hQ _ (KF g w) (fF z w))
    ·rw[h2];refine(u7 j6).mpr ⟨B,rfl,R4 rfl<| j9.mpr<| T6.mpr ⟨rfl,?_⟩⟩;rw[hB];exact b8 vK (by rw[<-hB];exact hQ _ (KF g' w) (fF z' w))
   refine d9.mpr<| M3<| O6<| R4 rfl<| m6<| inn λc gc zc=>j9.mpr<| T6.mpr ⟨rfl,(GM 1 60 (by decide) (by decide) c _ r f2.2.2 gc zc).mono ?_⟩;rintro x G3 ⟨f3,hx⟩;have e3:=f3.at (by lia) (P0 e1);have q3:=f3.at (by lia) (P0 q1);have f3:=f2.trans f3;rcases hx with⟨rfl,_⟩|hx
   ·exact X3<| F8<| b8 rfl ⟨λz=>(nomatch z),λ_=>⟨λz=>(nomatch z),λ_=>m5.mpr (EI hr hp hq Hs g z g' z' hA hB ws ps _ _ _ G3 f3 e3 q3 nd1 hv (by lia))⟩⟩
   · obtain⟨v,hx⟩:=hx;have nn:n4 x .non G3=some (.ok (.bl true),G3):=by rcases hx with _|_|_|_|_<;>rfl
     refine X3<| F8<| J6<| v8 rfl rfl<| b8 nn ⟨true,rfl,λ_=>J6<| m7<| m7<| v8 rfl rfl<| (K8 ⟨by decide,by decide⟩).mpr<| b8 rfl<| (t6 (by decide)).mpr<| b8 rfl<| pI.mpr ⟨_,rfl,λ_=>?_,λ_=>m5.mpr (EI hr hp hq Hs g z g' z' hA hB ws ps _ _ _ G3 f3 e3 q3 nd1 hv (by lia))⟩,λz=>(nomatch z)⟩;refine iA.mpr<| x5.mpr<| b8 rfl<| (N8 e3).mpr<| b8 rfl<| (W4 e3 (by rw[zg];lia)).mpr ?_;refine EI hr hp hq Hs g z g' z' hA hB ws (ps++[(w,x)]) _ _ _ _ (Fd.put f3 hp (by lia)) (by rw[zS (lt_of_get e3),jD];rfl) (by rw[zX (Ne.symm Hs)];exact q3) (by rw[jD,yH];exact nd) (λy hy=>?_) (by rw[zJ,jI];lia);rcases jd.mp hy with hy|hy
     ·exact hv y hy
     ·rw[zB.mp hy];exact⟨v,hx⟩
end
def bZ(h:Dr G r)(gb:U3 (inC 1) (Gd 1) b)(zb:rsZ 1 6 b)(gc:U3 (inC 1) (Gd 1) c)(zc:rsZ 1 6 c):Wp (dJ [.ref r,rcD (enC 1) b,rcD (enC 1) c]) G λx G'=>Fd r G G'/\∃v,VD 3 x v:=by
 have bg:=big;have emp:∃v,VD 3 (.tup [.str tK,.tup []]) v:=kG (ps:= []) (by decide) .nil (λ_ h=>nomatch h);rcases b with _|⟨fs,m⟩
 ·exact O2 rfl ⟨Fd.refl h,emp⟩
 rcases c with _|⟨gs,l⟩
 ·exact O2 rfl ⟨Fd.refl h,emp⟩
 have z1:=(zb fs m rfl).1;have z2:=(zc gs l rfl).1;have k1:=L9 1 6;generalize hA:D.tup [.tup (fs.map (fdE (enC 1))),enC 1 m]=A;generalize hB:D.tup [.tup (gs.map (fdE (enC 1))),enC 1 l]=B;refine v9 (show Wp (UF [sRf r,some (.tup [.tup (fs.map (fdE (enC 1))),enC 1 m]),some (.tup [.tup (gs.map (fdE (enC 1))),enC 1 l]),none,none,none,none,none,none]) G _ from ?_);rw[bf,hA,hB];refine u6 (X1:= [sRf r,some A,some B,none,none,none,none,none,none]) (by rw[<-hA,<-hB];rfl)<| u6 (X1:= [sRf r,some A,some B,some (.ref G.length),none,none,none,none,none]) rfl ?_;have f1:Fd r G (G++[.lst [.str "zz"]]):=Fd.app h;refine d9.mpr<| i9.mpr<| wp_itW.mpr<| v8 (by rw[<-hA];rfl) (by rw[<-hB];rfl)<| (dI (by rw[zg,zg];lia)).mpr ?_;rw[<-jD];refine srcW_tup.mpr<| (gM h.lt (zp _) (fs++gs) ["zz"] none _ f1 j6 (by simp) (by rw[zJ];simp;lia)).mono ?_;rintro _ G2 ⟨f2,ws,u,rfl,e2,nd,hl⟩;refine u6 (X1:= [sRf r,some A,some B,some (.ref G.length),u,some (.ref G2.length),none,none,none]) rfl ?_;refine d9.mpr<| i9.mpr<| wp_itW.mpr<| L5 rfl<| (qR (P0 e2) (TF _) (by lia)).mpr ?_;have f3:Fd r G (G2++[.lst []]):=f2.trans (Fd.app f2.2.2);have f4:Fd r G (G2++[.lst []]++[.lst ((O8 ws).map D.str)]):=f3.trans (Fd.app f3.2.2);have pm:(O8 ws).Perm ws:=jv _ leS;refine(vA j6).mpr<| (EI h.lt f2.1 (zK f2.1 (by simp)) (by simp) (U3.raw gb) (rsZ.mono (by decide) zb) (U3.raw gc) (rsZ.mono (by decide) zc) hA.symm hB.symm (O8 ws) [] none none none _ f4 (P0 j6) j6 (by simpa using pm.nodup_iff.mpr nd) (λ_ h=>nomatch h) (by rw[pm.length_eq];simpa using hl)).mono ?_;rintro _ G5 ⟨f5,ps,a,b,c,rfl,e5,n5,v5,l5⟩;exact u5<| S7.mpr<| R4 rfl<| m6<| L5 rfl<| (M7 e5).mpr<| j9.mpr ⟨sz,u0 ⟨f5,kG (by lia) n5 v5⟩⟩
def Gr.fd(h:Gr G G1)(f:Fd r G1 G2)(hr:G.length<=r):Gr G G2:=⟨zK h.1 f.1,λi hi=>by rw[f.2.1 i (by lia) (by have:=h.1;lia),h.2 i hi]⟩
def Dr.ap(h:Dr G r)(a:Ap G G'):Dr G' r:=by obtain⟨t,rfl⟩:=a;exact h.app
def Bs(h:IsM (inC 2) (Gd 2) (RS b) (RS c) m):∃e,m=RS e/\U3 (inC 1) (Gd 1) e:=by
 have no:∀v,inC 2 m v->∃n f,v= .rcd n f:=λv hv=>by
  have:=((h.i v).mp hv).1;rcases v with i|z|k|⟨n,f⟩|⟨q,f⟩
  ·obtain⟨p,hp,_⟩:=this;cases hp
  ·exact absurd (show z∈([]:List Str)from this) (by simp)
  ·exact absurd (show k∈([]:List Bool)from this) (by simp)
  ·exact absurd this X6
  ·exact⟨q,f,rfl⟩
 rcases m with _|s
 ·obtain⟨n,f,e⟩:=no (.num 0) trivial;cases e
 have gl:=h.g.1.rs;refine⟨s.rs,cD 2 _ _ h.g (IC gl) λv=>?_,gl⟩;constructor
 ·intro hv;obtain⟨n,f,rfl⟩:=no v hv;exact hv
 · intro hv;rcases v with i|z|k|⟨n,f⟩|⟨q,f⟩
   ·obtain⟨p,hp,_⟩:=hv;cases hp
   ·exact absurd (show z∈([]:List Str)from hv) (by simp)
   ·exact absurd (show k∈([]:List Bool)from hv) (by simp)
   ·exact absurd hv X6
   ·exact hv
def BW:Nat->Nat
 |0=>1
 |n+1=>500+49*BW n
def dG(h:∀x∈l,szD x<=k):szL l<=l.length*k:=by
 induction l with
 |nil=>rw[szN];exact zY _
 |cons d l ih=>
   rw[szC,zM,Nat.succ_mul];have:=h d (zH ..);have:=ih λx hx=>h x (zA _ hx);lia
def UD(z:Str):szD (.str z)=1:=by rw[szD]
def KS(z:Bool):szD (.bl z)=1:=by rw[szD]
def mO(a:Option Int):szD (K2 a)=1:=by rcases a with _|a<;>(show szD _=1;unfold K2;rw[szD])
theorem GN:∀n c,SzC n 47 c->Gd n c->szD (enC n c)<=BW n
 |0,c,_,_=>by show szD (.str d4)<=1;rw[UD];exact zp _
 |n+1,c,z,g=>by
   rcases c with _|s
   ·show szD (.str d4)<=_;rw[UD];unfold BW;lia
   have z:=z s rfl;have ih:=GN n;show szD (.tup [.tup (rsD s.ns),D2 s.b s.ss,.tup (s.bs.map D.bl),lsD (enC n) s.ls,rcD (enC n) s.rs])<=500+49*BW n;have k1:szD (.tup (rsD s.ns))<=1+47*3:=by
    rw[szT];have:=dG (l:=rsD s.ns) λx hx=>by obtain⟨p,_,rfl⟩:=zF.mp hx;show szD (.tup [K2 p.1,K2 p.2])<=3;rw[szT,szC,szC,szN,mO,mO];exact zp _
    rw[qM]at this;have:=z.ns;lia
   have k2:szD (D2 s.b s.ss)<=50:=by
    show szD (.tup [.str (wrd s.b),.tup (s.ss.map D.str)])<=50;have:=dG (l:=s.ss.map D.str) λx hx=>by obtain⟨p,_,rfl⟩:=zF.mp hx;rw[UD];exact zp _
    rw[zg]at this;have:=z.ss;rw[szT,szC,szC,szN,UD,szT];lia
   have k3:szD (.tup (s.bs.map D.bl))<=3:=by
    have:=dG (l:=s.bs.map D.bl) λx hx=>by obtain⟨p,_,rfl⟩:=zF.mp hx;rw[KS];exact zp _
    rw[zg]at this;have:=(show ∀a∈B4,a.length<=2 by decide) _ g.1.bs;rw[szT];lia
   have k4:szD (lsD (enC n) s.ls)<=2+BW n:=by
    rcases hls:s.ls with _|⟨fs,m⟩
    ·show szD .non<=_;rw[szD];lia
    ·obtain⟨rfl,zm⟩:=z.ls fs m hls;have h2:=ih m zm (g.1.ls _ m hls).1;show szD (.tup [.tup [],enC n m])<=_;rw[szT,szC,szC,szN,szT,szN];lia
   have k5:szD (rcD (enC n) s.rs)<=2+47*(3+BW n)+BW n:=by
    rcases hrs:s.rs with _|⟨fs,m⟩
    ·show szD .non<=_;rw[szD];lia
    · have zl:=z.rs fs m hrs;have gl:=g.1.rs fs m hrs;show szD (.tup [.tup (fs.map (fdE (enC n))),enC n m])<=_;have h1:=dG (l:=fs.map (fdE (enC n))) (k:=3+BW n) λx hx=>by
       obtain⟨a,ha,rfl⟩:=zF.mp hx;have:=ih a.2.2 (zl.2.2 a ha).1 (gl.2.2 a ha).1;show szD (.tup [.str a.1,.bl a.2.1,enC n a.2.2])<=_;rw[szT,szC,szC,szC,szN,UD,KS];lia
      rw[zg]at h1;have h2:=ih m zl.2.1 gl.1;have h3:fs.length*(3+BW n)<=47*(3+BW n):=Nat.mul_le_mul_right _ (zK zl.1 (L9 _ _));rw[szT,szC,szC,szN,szT];lia
   rw[szT,szC,szC,szC,szC,szC,szN];lia
def VW(G:DH)(p k:Nat):Prop:=∃ws:List D,G[p]? =some (.lst ws)/\ws.length<=k/\∀d∈ws,∃v,VD 3 d v
def VW.fd(h:VW G p k)(f:Fd r G G')(hp:p≠r):VW G' p k:=h.elim λws e=>⟨ws,f.at hp e.1,e.2⟩
def IM{j:Nat}(hj:j<=100)(hc:T9 caps σ=none::τ)(h:Dr G r)(hs:∀u G1,Dr G1 r->Wp (el (u::τ)) G1 λx G2=>Fd r G1 G2/\∃v,VD 3 x v)(k:∀G' ws,Fd r G G'->ws.length<=j->(∀d∈ws,∃v,VD 3 d v)->Q (.ref G'.length) (G'++[.lst ws])):Wp (J3 (W5 (D1 (cE (.int (j:Int))))) caps H0 K1 el σ) G Q:=by
 refine AJ rfl (by lia) (by lia) ?_;rw[hc];refine(l9 (Fd r G) (λσ=>∃u,σ=u::τ) (λ_ y=>∃v,VD 3 y v) (λ_ _=>rfl) _ _ G ⟨none,rfl⟩ (Fd.refl h) ?_).mono ?_
 ·rintro d hd _ G1 ⟨u,rfl⟩ f1;exact M6.mpr ⟨rfl,⟨_,rfl⟩,(hs _ G1 f1.2.2).mono λx G2 ⟨f2,hx⟩=>⟨f1.trans f2,hx⟩⟩
 · rintro _ G1 ⟨f1,zs,e1,rfl,hz⟩;refine k G1 _ f1 ?_ λd hd=>?_
   ·rw[zg,<-zg,e1];unfold K3;rw[zg,yi,jE];exact zp _
   ·obtain⟨x,hx,rfl⟩:=zF.mp hd;exact hz x hx
abbrev OkL(b:Option (List (Str×Bool×CS 1)×CS 1)):Prop:=U3 (inC 1) (Gd 1) b/\rsZ 1 12 b
section
variable{r:Nat}{b c e:Option (List (Str×Bool×CS 1)×CS 1)}
def ut{s0 a6 a7:Option D}{p k:Nat}{d:Option (List (Str×Bool×CS 1)×CS 1)}(hd:OkL d)(h:Dr G r)(hp:p≠r)(w:VW G p k)(hk:k<=200):Wp (LB [s0,some (rsT b),some (rsT c),sRf r,some (rsT e),sRf p,some (rsT d),a7]) G λfl G'=>Fd r G G'/\∃p',p'≠r/\VW G' p' (k+3)/\fl= .nx [s0,some (rsT b),some (rsT c),sRf r,some (rsT e),sRf p',some (rsT d),a7]:=by
 have bg:=big;rcases d with _|⟨fs,m⟩
 ·exact rC rfl<| m5.mpr ⟨Fd.refl h,p,hp,w.elim λws q=>⟨ws,q.1,by lia,q.2.2⟩,rfl⟩
 refine C5 rfl<| M3<| m7<| b8 rfl<| IM (τ:= [sRf r,some (rsT (some (fs,m)))]) (by decide) rfl h (λu G1 h1=>?_) λG1 ws f1 l1 h1=>?_
 ·exact j8 rfl rfl<| SR (by decide) (GM 1 60 (by decide) (by decide)) h1 hd.1 (rsZ.mono (by decide) hd.2)
 obtain⟨us,e1,l2,h2⟩:=w.fd f1 hp;have f2:Fd r G (G1++[.lst ws]):=f1.trans (Fd.app f1.2.2);refine(cG (P0 e1) j6 (by lia)).mpr ⟨f2.trans (Fd.app f2.2.2),_,?_,⟨us++ws,j6,by rw[zJ];lia,λd hd=>?_⟩,rfl⟩
 ·have:=f2.2.2.lt;lia
 · rcases jd.mp hd with hd|hd
   ·exact h2 d hd
   ·exact h1 d hd
theorem OO:∀(ds:List (Option (List (Str×Bool×CS 1)×CS 1))) p k u G,(∀d∈ds,OkL d)->Dr G r->p≠r->VW G p k->k+3*ds.length<=100->Wp (B2 A7 LB (λ_=>true) (ds.map rsT) [s0,some (rsT b),some (rsT c),sRf r,some (rsT e),sRf p,u,a7]) G λfl G'=>Fd r G G'/\∃p' u,p'≠r/\VW G' p' 100/\fl= .nx [s0,some (rsT b),some (rsT c),sRf r,some (rsT e),sRf p',u,a7]
 |[],p,k,u,G,_,h,hp,w,hk=>gA.mpr ⟨rfl,Fd.refl h,p,u,hp,w.elim λws q=>⟨ws,q.1,zK q.2.1 (by simp at hk;lia),q.2.2⟩,rfl⟩
 |d::ds,p,k,u,G,hd,h,hp,w,hk=>by rw[zM]at hk;refine bA.mpr ⟨rfl,M6.mpr<| (ut (a6:=none) (hd d (zH ..)) h hp w (by lia)).mono ?_⟩;rintro _ G1 ⟨f1,p1,hp1,w1,rfl⟩;refine(OO ds p1 (k+3) _ G1 (λx hx=>hd x (zA _ hx)) f1.2.2 hp1 w1 (by lia)).mono ?_;rintro _ G2 ⟨f2,p2,u2,hp2,w2,rfl⟩;exact⟨f1.trans f2,p2,u2,hp2,w2,rfl⟩
def ig(ob:OkL b)(oc:OkL c)(oe:OkL e)(hm:IsM (inC 2) (Gd 2) (RS b) (RS c) (RS e))(hd:∃v,VD 3 d v):Wp (FB [s0,some (rsT b),some (rsT c),s3,some (rsT e),s5,s6,some d]) G λfl G'=>Ap G G'/\fl= .nx [s0,some (rsT b),some (rsT c),s3,some (rsT e),s5,s6,some d]:=by
 obtain⟨v,hv⟩:=hd;have one:∀ {x:Option (List (Str×Bool×CS 1)×CS 1)} {G:DH},OkL x->Wp (nB [d,rsT x]) G λy G'=>Ap G G'/\∃b:Bool,y= .bl b/\(b=true↔inC 2 (RS x) v):=λ{x G} o=>in_at 3 60 (by decide) 2 (RS x) d v G (cF (rsZ.mono (by decide) o.2)) (IC o.1) hv;refine X3<| J6<| m7<| j8 rfl rfl<| (one oe).mono ?_;rintro _ G1 ⟨a1,k1,rfl,i1⟩;refine uC.mpr<| j8 rfl rfl<| (one ob).mono ?_;rintro _ G2 ⟨a2,k2,rfl,i2⟩;have hi:=hm.i v;rw[<-i1,<-i2]at hi;refine Q4.mpr ?_;rcases k2 with _|_
 · rw[if_neg (by decide)];have:k1=false:=by cases k1;rfl;exact absurd (hi.mp rfl).1 (by decide)
   rw[this];exact vT.mpr ⟨false,rfl,λz=>SA z,λ_=>m5.mpr ⟨a1.trans a2,rfl⟩⟩
 · rw[if_pos rfl];refine j8 rfl rfl<| (one oc).mono ?_;rintro _ G3 ⟨a3,k3,rfl,i3⟩;rw[<-i3]at hi;have:k1=k3:=by
    rcases k1 with _|_<;>rcases k3 with _|_
    ·rfl
    ·exact absurd (hi.mpr ⟨rfl,rfl⟩) (by decide)
    ·exact absurd (hi.mp rfl).2 (by decide)
    ·rfl
   rw[this];refine vT.mpr ⟨false,?_,λz=>SA z,λ_=>m5.mpr ⟨a1.trans (a2.trans a3),rfl⟩⟩
   cases k3<;>rfl
theorem NS(ob:OkL b)(oc:OkL c)(oe:OkL e)(hm:IsM (inC 2) (Gd 2) (RS b) (RS c) (RS e)):∀l u G,(∀d∈l,∃v,VD 3 d v)->G[p]? =some (.lst l0)->Wp (B2 UA FB (ckO p (.lst l0)) l [s0,some (rsT b),some (rsT c),s3,some (rsT e),s5,s6,u]) G λfl G'=>∃u,fl= .nx [s0,some (rsT b),some (rsT c),s3,some (rsT e),s5,s6,u]
 |[],u,G,_,e=>gA.mpr ⟨fA e,_,rfl⟩
 |d::r,u,G,h,e=>by refine bA.mpr ⟨fA e,M6.mpr<| (ig ob oc oe hm (h d (zH ..))).mono ?_⟩;rintro _ G1 ⟨a1,rfl⟩;exact NS ob oc oe hm r _ G1 (λy hy=>h y (zA _ hy)) (a1.at e)
end
def df:uH=o9 (M8 (D0 O1 (CD Q3 g0 z0 L1 (cIn 60))) C2) (asQ (D0 O1 (CD Q3 g0 C0 L1 (cIn 60))) C1 (asQ (CD Q3 g0 K0 L1 (cIn 90)) y3 (asQ (M0 fB x0 y0) B3 (gdQ (orT (tBn n4 (D0 AE S0) cBt) (tBn neD (B8 S0 (A9) (C4 F1)) (B8 (F4 J8) (A9) (C4 F1)))) cBf (asQ (j5 V8 LE1 LE2) i5 (o9 (N3 (itW (cC x0 y0 S0)) A7 LB) (o9 (N3 (itW E1) UA FB) (t8 (j5 eqD (M0 fB y0 x0) S0))))))))):=rfl
def Dv(ns:List Int)(hn:ns.length<=63):Wp (GK [.ref 0]) [.rol (ns.map D.int)] λd _=>d= .bl true:=by
 have bg:=big;have e0:([DO.rol (ns.map D.int)]:DH)[0]? =some (.rol (ns.map D.int)):=rfl;generalize ([DO.rol (ns.map D.int)]:DH)=G at *;refine v9 (show Wp (uH [sRf 0,none,none,none,none,none,none,none]) G _ from ?_);rw[df];refine d9.mpr<| M3<| O6<| m6<| j8 rfl rfl<| (PM (by decide) (by decide) e0 hn).mono ?_;rintro _ G1 ⟨r1,rfl,d1,g1,l1⟩;refine j9.mpr<| T6.mpr ⟨rfl,(aS d1).mono ?_⟩;rintro _ G2 ⟨f2,b,rfl,gb,zb⟩;have g2:=Gr.fd g1 f2 l1;refine d9.mpr<| M3<| O6<| m6<| j8 rfl rfl<| (PM (by decide) (by decide) (g2.at e0) hn).mono ?_;rintro _ G3 ⟨r3,rfl,d3,g3,l3⟩;refine j9.mpr<| T6.mpr ⟨rfl,(aS d3).mono ?_⟩;rintro _ G4 ⟨f4,c,rfl,gc,zc⟩;have g4:=g2.trans (Gr.fd g3 f4 l3);refine d9.mpr<| M3<| j8 rfl rfl<| (PM (by decide) (by decide) (g4.at e0) hn).mono ?_;rintro _ G5 ⟨r,rfl,d5,g5,l5⟩;refine d9.mpr<| M3<| j8 rfl rfl<| (wL 2 60 6 6 (by decide) (by decide) (by decide) (by decide) (by decide) (RS b) (RS c) G5 (IC gb) (IC gc) (cF zb) (cF zc)).mono ?_;rintro _ G6 ⟨a6,m,rfl,hm,sm⟩;obtain⟨e,rfl,ge⟩:=Bs hm;have ze:rsZ 1 12 e:=(sm _ rfl).rs;have s47:SzC 2 47 (RS e):=SzC.mono (by decide) sm;have ob:OkL b:=⟨gb,rsZ.mono (by decide) zb⟩;have oc:OkL c:=⟨gc,rsZ.mono (by decide) zc⟩;have oe:OkL e:=⟨ge,ze⟩;refine d9.mpr<| X3<| E8<| J6<| m7<| j8 rfl rfl<| Kq (zK (GN 2 (RS e) s47 hm.g) (by decide)) ⟨2,RS e,by decide,rfl,hm.g,s47⟩ λG7 a7=>b8 rfl<| b8 rfl ⟨false,rfl,λz=>SA z,λ_=>?_⟩;refine b8 rfl ⟨λz=>SA z,λ_=>m5.mpr ?_⟩;have d7:Dr G7 r:=(d5.ap a6).ap a7;refine d9.mpr<| M3<| m7<| IM (τ:= [some (rsT b),some (rsT c),sRf r]) (by decide) rfl d7 (λu H h1=>?_) λG8 ws f8 l8 h8=>?_
 ·exact j8 rfl rfl<| bZ h1 gb zb gc zc
 have f9:Fd r G7 (G8++[.lst ws]):=f8.trans (Fd.app f8.2.2);have hp8:G8.length≠r:=by have:=f8.2.2.lt;lia
 refine IM (τ:= [sRf r]) (by decide) rfl f9.2.2 (λu H h1=>?_) λG10 us f10 l10 h10=>?_
 ·exact j8 rfl rfl<| (DM 60 2 H (by decide) h1).mono λx G' ⟨⟨v,hv⟩,f⟩=>⟨f,v,hv.mono (by decide)⟩
 have e11:=P0 (t:= [.lst us]) (f10.at hp8 j6);refine(cG e11 j6 (by lia)).mpr ?_;have f11:Fd r G7 (G10++[.lst us]):=f9.trans (f10.trans (Fd.app f10.2.2));have f12:Fd r G7 (G10++[.lst us]++[.lst (ws++us)]):=f11.trans (Fd.app f11.2.2);have hp12:(G10++[DO.lst us]).length≠r:=by have:=f11.2.2.lt;lia
 have w12:VW (G10++[.lst us]++[.lst (ws++us)]) (G10++[DO.lst us]).length 9:=⟨ws++us,j6,by rw[zJ];lia,λd hd=>by
  rcases jd.mp hd with hd|hd
  ·exact h8 d hd
  ·exact h10 d hd⟩
 generalize (G10++[DO.lst us]).length=p at hp12 w12;generalize G10++[DO.lst us]++[DO.lst (ws++us)]=G12 at f12 w12;refine d9.mpr<| i9.mpr<| wp_itW.mpr<| b8 rfl<| srcW_tup.mpr<| (show Wp (B2 A7 LB (λ_=>true) ([b,c,e].map rsT) [sRf 0,some (rsT b),some (rsT c),sRf r,some (rsT e),sRf p,none,none]) G12 _ from(OO [b,c,e] p 9 none G12 (λd hd=>by
  simp only[zy,jg,or_false]at hd;rcases hd with rfl|rfl|rfl
  ·exact ob
  ·exact oc
  ·exact oe) f12.2.2 hp12 w12 (by simp)).mono ?_)
 rintro _ G13 ⟨f13,p',u,hp',⟨vs,e13,_,h13⟩,rfl⟩;refine d9.mpr<| i9.mpr<| wp_itW.mpr<| b8 rfl<| (vA e13).mpr<| (NS ob oc oe hm vs none G13 h13 e13).mono ?_;rintro _ G14 ⟨u',rfl⟩;refine u5<| m7<| j8 rfl rfl<| (wL 2 60 6 6 (by decide) (by decide) (by decide) (by decide) (by decide) (RS c) (RS b) G14 (IC gc) (IC gb) (cF zc) (cF zb)).mono ?_;rintro _ G15 ⟨a15,m',rfl,hm',_⟩;have em:m'=RS e:=cD 2 _ _ hm'.g hm.g λv=>(hm'.i v).trans (and_comm.trans (hm.i v).symm);rw[em];refine b8 rfl<| nL (eD (by decide) G15 (RS e) (RS e)) (λ_=>u0 rfl) λno=>absurd rfl no
def pure_law:∀ns:List Int,ns.length<=63->∃G',GK [.ref 0] [.rol (ns.map D.int)]=some (.ok (.bl true),G'):=λns hn=>by obtain⟨d,G',e,rfl⟩:=Dv ns hn;exact⟨G',e⟩
end W
namespace PySem.W.Fast
def tw13505632021839553687:=()
def tw2252977025109680551:=()
def tw132825123559563614:=()
def tw3455434526420913682:=()
def tw14149015655805648226:=()
def tw16147063629469727859:=()
def tw1257767507413929778:=()
def tw8404379922804408394:=()
def tw1844883100314823101:=()
def tw13565072445373575033:=()
def tw18300625813022493735:=()
def tw6345318254483171872:=()
def tw2953829235956935559:=()
def tw8736147226509936175:=()
def tw3592777000698498968:=()
def tw10861598952600483559:=()
def tw4633967910491862392:=()
def tw15928602410175050326:=()
def tw15014854593377431628:=()
def tw4692275245823111653:=()
def tw18091976933214083643:=()
def tw17859799840122435291:=()
def tw10707314046413466389:=()
def tw16415947919711634071:=()
def tw15787046963566145095:=()
def tw12091251806715754626:=()
def tw14287227094704405841:=()
def tw12357859465582578736:=()
def tw5397924706735752887:=()
def tw18052861895503788371:=()
def tw13080248138869412502:=()
def tw8789170019803042553:=()
def tw3282128603225379994:=()
def tw16583744151511905287:=()
def tw5173927260891278912:=()
def tw9206210852054737375:=()
def tw8313127188230561994:=()
def tw15987283158818297221:=()
def tw15339356951281327490:=()
def tw12194327133481401671:=()
def tw2523191757417354996:=()
def tw6592646573655238439:=()
def tw16646580336432241765:=()
def tw3679795495602866472:=()
def tw17157577570651269182:=()
def tw9726741824254467029:=()
def tw14167718243925678284:=()
def tw3977785415754101569:=()
def tw7404205871008937257:=()
def tw17619203826441623600:=()
def tw2530268805319914779:=()
def tw6458387359305779712:=()
def tw16443568820730234552:=()
def tw13323559494468762766:=()
def tw15543776732309723911:=()
def tw5367580942769204670:=()
def tw6811034634683086100:=()
def tw12079728571176087102:=()
def tw13612633820038639303:=()
def tw8496554642801826546:=()
def tw6147909528111452840:=()
def tw1261353342729608578:=()
def tw14693959813717251680:=()
def tw1618036593836285312:=()
def tw16748980886693363990:=()
def tw6562773714406081341:=()
def tw16750819899662087458:=()
def tw3740882202366090140:=()
def tw17800035454517509532:=()
def tw7444058412978438011:=()
def tw17009463383688561650:=()
def tw10358528650330684224:=()
def tw14603871214797260612:=()
def tw4478681313195792685:=()
def tw18131299624693034331:=()
def tw9996958373061718194:=()
def tw8281405015006807632:=()
def tw755481356683919819:=()
def tw805852914843126794:=()
def tw3916034314589739874:=()
def tw3380159944558911543:=()
def tw14820550771226345675:=()
def tw3991825877633396118:=()
def tw3309196963692961309:=()
def tw2016495502367790337:=()
def tw10657463077507096355:=()
def tw3201099346436769205:=()
def tw17006379801845225601:=()
def tw11111937919008681218:=()
def tw4643037576137543898:=()
def tw7917097587078723842:=()
def tw17468869620204129306:=()
def tw3206301078313755347:=()
def tw7531185670142133845:=()
def tw14415870807105566470:=()
def tw15711785251640325724:=()
def tw13591597571834316322:=()
def tw1570709579005832923:=()
def tw1465405432857337290:=()
def tw6187132269395487973:=()
def tw11156848570400265089:=()
def tw13697058119622585261:=()
def tw8447910865656879658:=()
def tw6299758126145831965:=()
def tw7432185650242287304:=()
def tw11828088758861754177:=()
def tw1676886473143335938:=()
def tw2022979280121937186:=()
def tw9041016195926016286:=()
def tw6173981287182062576:=()
def tw6702435823172184044:=()
def tw13036043010247932374:=()
def tw5252396086452933132:=()
def tw16128278000260343117:=()
def tw8044914867646548634:=()
def tw4284586149728421729:=()
def tw3649720687383517939:=()
def tw8799865304532652515:=()
def tw636016938658762102:=()
def tw3799600448722592150:=()
def tw3561088979496555225:=()
def tw283336112852749724:=()
def tw14679804699944788246:=()
def tw16515101674719602554:=()
end PySem.W.Fast
local macro_rules | `(tactic| walk_at "fh") => `(tactic| first | exact trivial | (refine DL.FHs.c ?q ?b; (case q => refine' DL.FH.of ?a ?l ?e ?k; (case a => k_is); (case l => k_is); (case e => k_is); (case k => k_is)); (case b => walk_at "fh")))
local macro_rules | `(tactic| walk_at "cr") => `(tactic| first | exact DL.cr_str | exact DL.cr_int | exact DL.cr_bl | exact DL.cr_non | (refine' DL.cr_tup ?l ?z ?h; (case l => k_is); (case z => rfl); (case h => walk_at "cs")))
local macro_rules | `(tactic| walk_at "cs") => `(tactic| first | exact DL.crl_nil | (refine' DL.crl_cons ?a ?b; (case a => walk_at "cr"); (case b => walk_at "cs")))
set_option maxRecDepth 100000 in
set_option maxHeartbeats 0 in
theorem PySem.Challenge.cw_allmeet_k22_meets_of_records_holds : PySem.Challenge.rw_allmeet_k22_meets_of_records.Holds := by
 w_on;o_law;k_head;(case hw=>w_witness2)
 k_fill
 refine DL.walk63 (l := PySem.Challenge.rw_allmeet_k22_meets_of_records) 187 rfl rfl ⟨rfl, by decide, by decide, rfl⟩ (fun w h Y => PySem.W.kIn_of Y) ?F
 case F=>
  intro w mg fa h KX G hmg;refine' W.all_mk KX G hmg ?Y0 ?Y25 ?Y50 ?_ ?_ ?_ ?z W.pure_law
  (case z=>intro b hb;simp only[DL.bltL,zy,jg,or_false]at hb;rcases hb with rfl|rfl|rfl|rfl|rfl|rfl|rfl|rfl|rfl|rfl|rfl|rfl|rfl|rfl|rfl|rfl|rfl|rfl|rfl|rfl<;>k_is)
  (case Y0=>walk_at "fh")
  (case Y25=>walk_at "fh")
  (case Y50=>walk_at "fh")
  all_goals (refine' DL.CC.of ?g ?r;(case g=>k_is);(case r=>walk_at "cr"))
