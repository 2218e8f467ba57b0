import PyProof.Rows.All
import Wide.All
import OpenK.AllK
import Wide.FinOn
import Lean
import PyProof.EqAt
import PyProof.EqKinds
import PyProof.TupleCall
import PyProof.NeKinds
import PyProof.ZipIter
import PyProof.EnumFor
import PyProof.EnumMake
import PyProof.EnumStmt
import PyProof.Draws
import KE.KDictSum
import PyProof.Rows.SortStr
import PyProof.StrWalks
import KE.KRevIter
import KE.KDictList
import PyProof.CollectIter
import PyProof.SliceStr2
import PyProof.StrBlockI
import KE.KListMore
import PyProof.DictWalks
import PyProof.TupleOfSeq
import PyProof.AttrMissHeap
import PyProof.AttrMissSeq
import KE.KDictOf
import PyProof.WalksMore
import KE.KSortTup
import KE.KSortKey
import PyProof.Rows.StrJoin2
import PyProof.ListMulRoad
import PyProof.FactsAll.tuple_2
import PyProof.Rows.SortShell
import PyProof.WalkInts
import KE.KMinBuiltin
import KE.KIntText
import PyProof.CallStr
import PyProof.PureStr
import PyProof.Rows.SetFrom
import KE.KMinKey
import PyProof.DictItems
import PyProof.DictItemsLoops
import PySem.Challenge.RW_allmeet_k18_whole_one_form
set_option Elab.async false
set_option linter.all false
set_option maxRecDepth 100000
noncomputable section
abbrev VSP:=PySem.Value→PySem.Shared→Prop
abbrev PNS:=List (PySem.Addr×PySem.Obj)
namespace L2
open PySem PySem.Spec PyProof.Rows
theorem K4{α:Type}{a:α}{P:Prop}(h:none=some a):P:=nomatch h
theorem eH2{α:Type}{a:α}{P:Prop}(h:some a=none):P:=nomatch h
theorem aB4{P:Prop}(h:false=true):P:=nomatch h
theorem cA1{α:Type}{a:α}{l:List α}{P:Prop}(h: []=a::l):P:=nomatch h
theorem cJ5{α:Type}{a:α}{l:List α}{P:Prop}(h:a::l= []):P:=nomatch h
noncomputable abbrev Key:=Sum Int Str
noncomputable def bP2:Key→Value→Bool
 | .inl k,v=>Value.isInt k v
 | .inr x,v=>Value.isStrOf x v
noncomputable def fK5(w:World):Key→Int
 | .inl k=>hashInt k
 | .inr x=>hashStr w x
theorem Q0:∀ {k:Key} {v:Value},bP2 k v=true→(∃i t,k=Sum.inl i∧v=Value.int i t)∨(∃x t,k=Sum.inr x∧v=Value.str x t)
 | .inl i,v,h=>by
   obtain⟨t,e⟩:=Value.isInt_shape (k:=i) (v:=v) h
   exact .inl ⟨i,t,rfl,e⟩
 | .inr x,v,h=>by
   obtain⟨t,e⟩:=Value.isStrOf_shape (x:=x) (v:=v) h
   exact .inr ⟨x,t,rfl,e⟩
theorem dF7(i:Int)(t:Tok):bP2 (.inl i) (.int i t)=true:=by simp[bP2,Value.isInt]
theorem dF0(x:Str)(t:Tok):bP2 (.inr x) (.str x t)=true:=by simp[bP2,Value.isStrOf]
theorem eN9(a b:Int):decide ((Sum.inl a:Key)=Sum.inl b)= (a==b):=by
 by_cases e:a=b
 ·subst e;simp
 · have h:¬(Sum.inl a:Key)=Sum.inl b:=fun q=>e (Sum.inl.inj q)
   rw[decide_eq_false h]
   exact(beq_eq_false_iff_ne.mpr e).symm
theorem eR9(a b:Str):decide ((Sum.inr a:Key)=Sum.inr b)=decide (a=b):=by
 by_cases e:a=b
 ·subst e;simp
 · have h:¬(Sum.inr a:Key)=Sum.inr b:=fun q=>e (Sum.inr.inj q)
   rw[decide_eq_false h,decide_eq_false e]
theorem eZ0(a:Int)(b:Str):decide ((Sum.inl a:Key)=Sum.inr b)=false:=decide_eq_false (fun q=>nomatch q)
theorem eW0(a:Str)(b:Int):decide ((Sum.inr a:Key)=Sum.inl b)=false:=decide_eq_false (fun q=>nomatch q)
def N6(prog:Program)(w:World):PySem.KeyKind prog w Key where
 is:=bP2
 hash:=fK5 w
 inj:=fun v a b ha hb=>by
  rcases Q0 ha with⟨i,t,rfl,rfl⟩|⟨x,t,rfl,rfl⟩
  · rcases Q0 hb with⟨j,u,rfl,e⟩|⟨y,u,rfl,e⟩
    ·injection e with e1 _;rw[e1]
    ·exact nomatch e
  · rcases Q0 hb with⟨j,u,rfl,e⟩|⟨y,u,rfl,e⟩
    ·exact nomatch e
    ·injection e with e1 _;rw[e1]
 byValue:=fun k v h=>by
  rcases Q0 h with⟨i,t,rfl,rfl⟩|⟨x,t,rfl,rfl⟩<;>rfl
 pyHash:=fun hv h=>by
  rcases Q0 hv with⟨i,t,rfl,rfl⟩|⟨x,t,rfl,rfl⟩
  ·exact wpAny_pyHash_int h
  ·exact wpAny_pyHash_str h
 eqBool:=fun hu hv h=>by
  rcases Q0 hu with⟨i,t,rfl,rfl⟩|⟨x,t,rfl,rfl⟩
  · rcases Q0 hv with⟨j,u,rfl,rfl⟩|⟨y,u,rfl,rfl⟩
    ·rw[eN9]at h;exact wpAny_eqBool_int h
    ·rw[eZ0]at h;exact SeqAt.EqAt.int_str i t y u _ _ _ _ h
  · rcases Q0 hv with⟨j,u,rfl,rfl⟩|⟨y,u,rfl,rfl⟩
    ·rw[eW0]at h;exact SeqAt.EqAt.str_int x t j u _ _ _ _ h
    ·rw[eR9]at h;exact wpAny_eqBool_str h
 «strs»:=fun k x t v h=>by
  rcases Q0 h with⟨i,u,rfl,e⟩|⟨y,u,rfl,e⟩
  ·exact nomatch e
  · injection e with e1 _
    subst e1
    cases v<;>rfl
theorem cP0(prog:Program)(w:World)(i:Int)(t:Tok):(N6 prog w).is (.inl i) (.int i t)=true:=dF7 i t
theorem cM6(prog:Program)(w:World)(x:Str)(t:Tok):(N6 prog w).is (.inr x) (.str x t)=true:=dF0 x t
inductive V where
 |non|bl (b:Bool)|int (i:Int)|str (x:Str)|byt (b:Array UInt8)|flt (b:UInt64)|ref (a:Addr)|ty (n:String)
 deriving DecidableEq
noncomputable def J2:V→Value→Prop
 | .non,u=>u=Value.none
 | .bl b,u=>u=Value.bool b
 | .int i,u=>∃t,u=Value.int i t
 | .str x,u=>∃t,u=Value.str x t
 | .byt b,u=>∃t,u=Value.bytes b t
 | .flt b,u=>∃t,u=Value.float b t
 | .ref a,u=>u=Value.ref a
 | .ty n,u=>u=Value.type n
abbrev w6:List V→List Value→Prop:=Paired J2
theorem w6.length{xs:List V}{us:List Value}(r:w6 xs us):xs.length=us.length:=Paired.length r
theorem w6.get:∀ {xs:List V} {us:List Value} {i:Nat} {x:V},w6 xs us→xs[i]? =some x→∃u,us[i]? =some u∧J2 x u
 |_,_,_,_,.nil,e=>by simp at e
 |_,_,0,_,.cons r _,e=>by simp at e;subst e;exact⟨_,rfl,r⟩
 |_,_,i+1,x,.cons _ t,e=>by
   obtain⟨u,h1,h2⟩:=w6.get (i:=i) (x:=x) t (by simpa using e)
   exact⟨u,by simpa using h1,h2⟩
theorem w6.set{x:V}{u:Value}(r:J2 x u):∀ {xs:List V} {us:List Value} (i:Nat),w6 xs us→w6 (xs.set i x) (us.set i u)
 |_,_,_,.nil=>.nil
 |_,_,0,.cons _ t=>.cons r t
 |_,_,i+1,.cons q t=>.cons q (w6.set r i t)
theorem w6.append{xs ys:List V}{us ws:List Value}(h:w6 xs us)(k:w6 ys ws):w6 (xs++ys) (us++ws):=by
 induction h with
 |nil=>exact k
 |cons r t ih=>exact .cons r ih
theorem w6.take:∀ {xs:List V} {us:List Value} (n:Nat),w6 xs us→w6 (xs.take n) (us.take n)
 |_,_,0,_=>.nil
 |_,_,_+1,.nil=>.nil
 |_,_,n+1,.cons r t=>.cons r (w6.take n t)
theorem w6.drop:∀ {xs:List V} {us:List Value} (n:Nat),w6 xs us→w6 (xs.drop n) (us.drop n)
 |_,_,0,r=>r
 |_,_,_+1,.nil=>.nil
 |_,_,n+1,.cons _ t=>w6.drop n t
def cK9:Option V→Option Value→Prop
 |some v,some u=>J2 v u
 |none,none=>True
 |_,_=>False
def KV{κ:Type}:List (κ×V)→List (κ×Value)→Prop:=Paired fun(p:κ×V) (q:κ×Value)=>p.1=q.1∧J2 p.2 q.2
noncomputable def kV:Key→V
 | .inl i=>.int i
 | .inr x=>.str x
inductive HO where
 /-- a list -/
 |lst (xs:List V)
 /-- a tuple (never changes) -/
 |tup (xs:List V)
 /-- a dict whose keys are ints and texts;one whose keys are tuples of ints and texts (the empty one is both) -/
 |dK (kvs:List (Key×V))|dT (kvs:List (List Key×V))
 /-- a set of ints:its members,its size -/
 |set (S:Int→Bool) (n:Nat)
 /-- an instance of the class at C,its dict at dx,its attributes -/
 |ins (C dx:Addr) (fs:List (Str×V))
 /-- the dict of the instance at x -/
 |own (x:Addr)
 /-- the dict of an exception -/
 |xd (fs:List (Str×V))
 /-- a bound method,f of x -/
 |met (f x:Addr)
 /-- a range object lo,lo+1,.. below hi -/
 |rng (lo hi:Int)
 /-- a thing that is known to the object (the script;a dict while a loop walks it):read,never written while it is so -/
 |frz (o:Obj) (u:HO)
 /-- a code object's table -/
 |tbl (ps:Array Value)
 /-- any other thing,by what is true of its one object (a def of one's own:SetO a S n:=HO.ext fun h=>..) -/
 |ext (φ:Heap→Prop)
noncomputable abbrev Hp:=Addr→Option HO
noncomputable def upd(H:Hp)(a:Addr)(o:HO):Hp:=fun b=>if b=a then some o else H b
theorem P0{H:Hp}{a:Addr}{o:HO}:upd H a o a=some o:=by unfold upd;rw[if_pos rfl]
theorem o8{H:Hp}{a b:Addr}{o:HO}(h:b≠a):upd H a o b=H b:=by unfold upd;rw[if_neg h]
theorem fH8{H:Hp}{a b:Addr}{o u:HO}(h:H a=some o)(h':H b=some u)(d:o≠u):a≠b:=by
 intro e;subst e;rw[h]at h';exact d (Option.some.inj h')
theorem t7{H:Hp}{a b:Addr}{o:HO}(h:H a=some o)(h':H b=none):a≠b:=by
 intro e;subst e;rw[h]at h';cases h'
section
variable(P:Program)(w:World)
noncomputable def aB6(h:Heap)(a:Addr)(items:Array Value):Prop:=∃o,h.get? a=some o∧o.cls= .type "tuple"∧∃n,(o.data,o.dict)= (Data.seq items n,none)
theorem aB6.tup{h:Heap}{a:Addr}{items:Array Value}(x:aB6 h a items):IsTup h a items:=by
 obtain⟨o,e,c,n,d⟩:=x
 exact⟨o,e,c,n,(Prod.mk.inj d).1⟩
theorem aB6.new(h:Heap)(items:Array Value):aB6 (h.push {cls:=.type "tuple",data:=.seq items}) h.objs.size items:=⟨_,Heap.get?_push_size _ rfl,rfl,_,rfl⟩
def U9(H:Hp)(h:Heap)(a:Addr):HO→Prop
 | .lst xs=>xs.length≤sizeLine∧∃(its:List Value) (n:Nat),w6 xs its∧h.get? a=some {cls:=.type "list",data:=.seq its.toArray n}
 | .tup xs=>xs.length≤sizeLine∧∃its:List Value,w6 xs its∧aB6 h a its.toArray
 | .dK kvs=>kvs.length≤sizeLine∧(a==sysModules)=false∧∃vs,KV kvs vs∧h.DictOf (N6 P w) a vs
 | .dT kvs=>kvs.length≤sizeLine∧(a==sysModules)=false∧∃xs:List (List Key×Addr×Value),
    Paired (fun(p:List Key×V) (q:List Key×Addr×Value)=>p.1=q.1∧H q.2.1=some (.tup (p.1.map kV))∧J2 p.2 q.2.2) kvs xs∧
    ∃o es ep,h.get? a=some o∧o.ExactDict∧o.data= .dict es ep∧es.toList=xs.map (entryOfKey (tupleKind (N6 P w)))∧(xs.map (·.1)).Nodup
 | .set S n=>h.SetOf (intKind P w) a S n
 | .ins C dx fs=>H dx=some (.own a)∧fs.length≤1000∧dx≠a∧h.get? a=some (PySem.W.instObj C dx)∧
    ∃mA,h.Ns1 dx mA∧(∀f,cK9 (fs.lookup f) (mA f))∧PySem.Within mA (fs.map (·.1))
 | .own _=>∃o,h.get? a=some o
 | .xd fs=>∃mA,h.Ns1 a mA∧∀f,cK9 (fs.lookup f) (mA f)
 | .rng lo hi=>∃t u v,h.get? a=some {cls:=.type "range",data:=.fields #[.int lo t,.int hi u,.int 1 v]}
 | .frz o u=>h.get? a=some o∧U9 H h a u
 | .tbl ps=>h.get? a=some {cls:=.none,data:=.fields ps}
 | .met f x=>h.get? a=some (PySem.W.methodObj (.ref f) (.ref x))
 | .ext φ=>φ h∧(∃o,h.get? a=some o)∧∀h1 h2:Heap,φ h1→(∀o,h1.get? a=some o→h2.get? a=some o)→φ h2
def HOk(H:Hp)(h:Heap):Prop:=∀a o,H a=some o→U9 P w H h a o
end
section
variable{P:Program}{w:World}{H H':Hp}{h h':Heap}{a:Addr}{o:HO}
theorem U9.lt(x:U9 P w H h a o):a<h.objs.size:=by
 cases o with
 |lst xs=>obtain⟨_,_,_,_,e⟩:=x;exact Heap.lt_size e
 |tup xs=>obtain⟨_,_,_,p⟩:=x;exact(aB6.tup p).lt
 |dK kvs=>obtain⟨_,_,_,_,o,_,_,e,_⟩:=x;exact Heap.lt_size e
 |dT kvs=>obtain⟨_,_,_,_,o,_,_,e,_⟩:=x;exact Heap.lt_size e
 |set S n=>obtain⟨o,_,_,_,e,_⟩:=x;exact Heap.lt_size e
 |ins C dx fs=>obtain⟨_,_,_,e,_⟩:=x;exact Heap.lt_size e
 |own y=>obtain⟨_,e⟩:=x;exact Heap.lt_size e
 |xd fs=>obtain⟨_,⟨_,_,_,e,_⟩,_⟩:=x;exact Heap.lt_size e
 |rng lo hi=>obtain⟨_,_,_,e⟩:=x;exact Heap.lt_size e
 |frz ob u=>obtain⟨e,_⟩:=x;exact Heap.lt_size e
 |tbl ps=>exact Heap.lt_size (show h.get? a=some _ from x)
 |met f y=>exact Heap.lt_size (show h.get? a=some _ from x)
 |ext φ=>obtain⟨_,⟨_,e⟩,_⟩:=x;exact Heap.lt_size e
theorem Paired.mapP{α β:Type}{F G:α→β→Prop}{l₁:List α}{l₂:List β}(h:Paired F l₁ l₂)(f:∀a b,F a b→G a b):Paired G l₁ l₂:=by
 induction h with
 |nil=>exact .nil
 |cons r t ih=>exact .cons (f _ _ r) ih
theorem U9.stay(x:U9 P w H h a o)(k:∀b u,(b=a∨H b=some (.own a))→h.get? b=some u→h'.get? b=some u)
 (ho:∀b,H b=some (.own a)→H' b=some (.own a)) (ht:∀b xs,H b=some (.tup xs)→H' b=some (.tup xs)):U9 P w H' h' a o:=by
 induction o with
 |lst xs=>obtain⟨z,its,n,r,e⟩:=x;exact⟨z,its,n,r,k _ _ (.inl rfl) e⟩
 |tup xs=>obtain⟨z,its,r,ob,e,c⟩:=x;exact⟨z,its,r,ob,k _ _ (.inl rfl) e,c⟩
 |dK kvs=>obtain⟨z,y,vs,r,ob,es,ep,e,c⟩:=x;exact⟨z,y,vs,r,ob,es,ep,k _ _ (.inl rfl) e,c⟩
 |dT kvs=>
   obtain⟨z,y,xs,r,ob,es,ep,e,c⟩:=x
   exact⟨z,y,xs,Paired.mapP r fun p q z=>⟨z.1,ht _ _ z.2.1,z.2.2⟩,ob,es,ep,k _ _ (.inl rfl) e,c⟩
 |set S n=>obtain⟨ob,es,ep,t,e,c⟩:=x;exact⟨ob,es,ep,t,k _ _ (.inl rfl) e,c⟩
 |ins C dx fs=>
   obtain⟨d,z,ne,e,mA,⟨od,es,ep,e2,c⟩,r⟩:=x
   exact⟨ho _ d,z,ne,k _ _ (.inl rfl) e,mA,⟨od,es,ep,k _ _ (.inr d) e2,c⟩,r⟩
 |own y=>obtain⟨ob,e⟩:=x;exact⟨ob,k _ _ (.inl rfl) e⟩
 |xd fs=>obtain⟨mA,⟨od,es,ep,e,c⟩,r⟩:=x;exact⟨mA,⟨od,es,ep,k _ _ (.inl rfl) e,c⟩,r⟩
 |rng lo hi=>obtain⟨t,u,v,e⟩:=x;exact⟨t,u,v,k _ _ (.inl rfl) e⟩
 |frz ob u ih=>obtain⟨e,q⟩:=x;exact⟨k _ _ (.inl rfl) e,ih q⟩
 |tbl ps=>
   have e:h.get? a=some {cls:=.none,data:=.fields ps}:=x
   show h'.get? a=some {cls:=.none,data:=.fields ps}
   exact k a _ (.inl rfl) e
 |met f y=>
   have e:h.get? a=some (PySem.W.methodObj (.ref f) (.ref y)):=x
   show h'.get? a=some (PySem.W.methodObj (.ref f) (.ref y))
   exact k a _ (.inl rfl) e
 |ext φ=>obtain⟨p,⟨o,e⟩,st⟩:=x;exact⟨st _ _ p fun o q=>k _ _ (.inl rfl) q,⟨o,k _ _ (.inl rfl) e⟩,st⟩
theorem HOk.lt(x:HOk P w H h)(e:H a=some o):a<h.objs.size:=(x a o e).lt
theorem HOk.fresh(x:HOk P w H h)(e:h.objs.size≤a):H a=none:=by
 cases q:H a with
 |none=>rfl
 |some u=>exact absurd (Nat.lt_of_lt_of_le (x.lt q) e) (Nat.lt_irrefl _)
theorem HOk.kept(x:HOk P w H h)(k:∀b u,h.get? b=some u→h'.get? b=some u):HOk P w H h':=fun a o e=>
 (x a o e).stay (fun b u _ q=>k b u q) (fun _ q=>q) fun _ _ q=>q
theorem HOk.laid(x:HOk P w H h)(k:∀b u,h.get? b=some u→h'.get? b=some u)(hp:h.objs.size≤a)(new:U9 P w (upd H a o) h' a o):HOk P w (upd H a o) h':=fun b u e=>by
 have hn:=x.fresh hp
 by_cases hb:b=a
 ·subst hb;rw[P0]at e;cases e;exact new
 · rw[o8 hb]at e
   exact(x b u e).stay (fun c v _ q=>k c v q) (fun c q=>by rw[o8 (t7 q hn)];exact q) fun c xs q=>by rw[o8 (t7 q hn)];exact q
end
noncomputable def Rd(H:Hp)(a:Addr)(u:HO):Prop:=H a=some u∨∃o,H a=some (.frz o u)
theorem Rd.ok{P:Program}{w:World}{H:Hp}{h:Heap}{a:Addr}{u:HO}(r:Rd H a u)(x:HOk P w H h):U9 P w H h a u:=by
 rcases r with r|⟨o,r⟩
 ·exact x a u r
 · obtain⟨_,q⟩:=x a _ r
   exact q
noncomputable def Mut:Option HO→Prop
 |some (.lst _)=>True
 |some (.dK _)=>True
 |some (.dT _)=>True
 |some (.set _ _)=>True
 |some (.ins _ _ _)=>True
 |some (.ext _)=>True
 |_=>False
section
variable{P:Program}{w:World}{H:Hp}{h h':Heap}{x e:Addr}{o':HO}
theorem HOk.write(ok:HOk P w H h)(mu:Mut (H x))(he:e=x∨H e=some (.own x))(k:∀b u,b≠e→h.get? b=some u→h'.get? b=some u)(heo:∃u,h'.get? e=some u)
 (new:U9 P w (upd H x o') h' x o'):HOk P w (upd H x o') h':=fun b u q=>by
 have nown:∀c y,H c=some (.own y)→c≠x:=fun c y r z=>by subst z;rw[r]at mu;exact mu
 have ntup:∀c xs,H c=some (.tup xs)→c≠x:=fun c xs r z=>by subst z;rw[r]at mu;exact mu
 by_cases hb:b=x
 ·subst hb;rw[P0]at q;cases q;exact new
 · rw[o8 hb]at q
   by_cases hbe:b=e
   · have q':H b=some (.own x):=by
      rcases he with z|z
      ·exact absurd (hbe.trans z) hb
      ·rw[hbe];exact z
     rw[q]at q';cases q'
     obtain⟨v,hv⟩:=heo
     exact⟨v,by rw[hbe];exact hv⟩
   · refine(ok b u q).stay (fun c v hc r=>k c v ?_ r) (fun c r=>by rw[o8 (nown c b r)];exact r) fun c xs r=>by rw[o8 (ntup c xs r)];exact r
     rcases hc with rfl|hc
     ·exact hbe
     · rintro rfl
       rcases he with z|z
       ·exact nown c b hc z
       ·rw[hc]at z;cases z;exact hb rfl
end
structure Un(fs ex:List Addr)(H H':Hp)(h h':Heap):Prop where
 keep:∀b o,h.get? b=some o→H b=none→b∉fs→b∉ex→h'.get? b=some o
 slot:∀b o,h.get? b=some o→H b=none→b∈fs→b∉ex→∃sl,h'.get? b=some {o with slots:=sl}
 free:∀b o,h.get? b=some o→H b=none→b∉ex→H' b=none
 there:∀b o,h.get? b=some o→b∉ex→∃o',h'.get? b=some o'
 tups:∀b xs,H b=some (.tup xs)→H' b=some (.tup xs)
 frzs:∀b o u,H b=some (.frz o u)→H' b=some (.frz o u)
 tbls:∀b ps,H b=some (.tbl ps)→∃more,H' b=some (.tbl (ps++more))
section
variable{fs fs' ex ex':List Addr}{H H1 H2:Hp}{h h1 h2 h':Heap}{a x e:Addr}{o:HO}
theorem Un.any(u:Un fs ex H H1 h h1){b:Addr}{ob:Obj}(q:h.get? b=some ob)(n:H b=none)(hx:b∉ex):∃sl,h1.get? b=some {ob with slots:=sl}:=by
 by_cases hb:b∈fs
 ·exact u.slot b ob q n hb hx
 ·exact⟨ob.slots,u.keep b ob q n hb hx⟩
theorem Un.kept(k:∀b u,h.get? b=some u→h'.get? b=some u):Un fs ex H H h h':=
 ⟨fun b ob q _ _ _=>k b ob q,fun b ob q _ _ _=>⟨ob.slots,k b ob q⟩,fun _ _ _ n _=>n,fun b ob q _=>⟨ob,k b ob q⟩,fun _ _ q=>q,fun _ _ _ q=>q,fun _ ps q=>⟨#[],by rw[q];simp⟩⟩
theorem Un.refl:Un fs ex H H h h:=Un.kept fun _ _ q=>q
theorem Un.laid(k:∀b u,h.get? b=some u→h'.get? b=some u)(hp:h.objs.size≤a)(hn:H a=none):Un fs ex H (upd H a o) h h' where
 keep:=fun b u q _ _ _=>k b u q
 slot:=fun b u q _ _ _=>⟨u.slots,k b u q⟩
 free:=fun b u q n _=>by rw[o8 (Nat.ne_of_lt (Nat.lt_of_lt_of_le (Heap.lt_size q) hp))];exact n
 there:=fun b u q _=>⟨u,k b u q⟩
 tups:=fun b xs q=>by rw[o8 (t7 q hn)];exact q
 frzs:=fun b u xs q=>by rw[o8 (t7 q hn)];exact q
 tbls:=fun b ps q=>⟨#[],by rw[o8 (t7 q hn),q];simp⟩
theorem Un.write(mu:Mut (H x))(he:e=x∨H e=some (.own x))(k:∀b u,b≠e→h.get? b=some u→h'.get? b=some u)(heo:∃u,h'.get? e=some u):Un fs ex H (upd H x o) h h':=by
 have hx:∀b,H b=none→b≠x:=fun b n z=>by subst z;rw[n]at mu;exact mu
 have hb:∀b,H b=none→b≠e:=fun b n z=>by
  subst z
  rcases he with r|r
  ·exact hx b n r
  ·rw[n]at r;cases r
 have hm:∀b u,H b=some u→¬Mut (some u)→b≠x:=fun b u q nm z=>by subst z;rw[q]at mu;exact nm mu
 refine⟨fun b u q n _ _=>k b u (hb b n) q,fun b u q n _ _=>⟨u.slots,k b u (hb b n) q⟩,fun b u q n _=>by rw[o8 (hx b n)];exact n,fun b u q _=>?_,
  fun b xs q=>by rw[o8 (hm b _ q fun z=>z)];exact q,fun b u xs q=>by rw[o8 (hm b _ q fun z=>z)];exact q,fun b ps q=>⟨#[],by rw[o8 (hm b _ q fun z=>z),q];simp⟩⟩
 by_cases hbe:b=e
 ·subst hbe;exact heo
 ·exact⟨u,k b u hbe q⟩
end
noncomputable def trk(h:Heap)(H:Hp):List Addr:=(List.range h.objs.size).filter fun a=>(H a).isSome
def cC8(h:Heap)(H:Hp):Heap:=PySem.W.hideAll h (trk h H)
theorem dG4(h:Heap)(H:Hp):(cC8 h H).objs.size=h.objs.size:=PySem.W.hideAll_size _ _
theorem dJ8{h:Heap}{H:Hp}{b:Addr}{o:Obj}(e:h.get? b=some o)(n:H b=none):(cC8 h H).get? b=some o:=
 PySem.W.hideAll_get _ e fun hm=>by
  have q:(H b).isSome=true:=(List.mem_filter.mp hm).2
  rw[n]at q;simp at q
theorem eA8{h:Heap}{H:Hp}{b:Addr}{o:Obj}(e:(cC8 h H).get? b=some o):h.get? b=some o∧H b=none:=by
 have e':h.get? b=some o:=PySem.W.of_hideAll (trk h H) e
 refine⟨e',?_⟩
 cases q:H b with
 |none=>rfl
 |some x=>
   have hm:b∈trk h H:=List.mem_filter.mpr ⟨List.mem_range.mpr (Heap.lt_size e'),by simp[q]⟩
   have z:(cC8 h H).get? b=none:=PySem.W.hideAll_none (trk h H) hm
   rw[z]at e;cases e
noncomputable def dY6(g h:Heap)(L:Addr):PNS:=(List.range h.objs.size).filterMap fun a=>if a=L∨(g.get? a).isSome=true then none else (h.get? a).map fun o=>(a,o)
def V8(g h:Heap)(L d:Addr):PNS:=(dY6 g h L).filter fun p=>decide (p.1≠d)
structure Mod(K:PySem.W.Frag)(mg:Str→Option Value)(base:Heap):Prop where
 kin:K.In base
 glob:base.Ns mainGlobals mg
 blt:∃mb,base.Ns builtinsNs mb∧∀x:Str,x≠ "__name__"→mb x=bootBuiltins x
 nolimit:base.NoLimit
structure Cx where
 prog:Program
 w:World
 K:PySem.W.Frag
 mg:Str→Option Value
 base:Heap
 A:Around
 N:List Str
 s₀:Shared
 H₀:Hp
 env:Env
 outer:List Env
 stack:List Env
 ex:List Addr
 fn:Str→Bool
 calm:Bool
 pn:PNS
 xe:VSP
noncomputable def frs(l:List Env):List Addr:=l.filterMap (·.frame)
abbrev Cx.fs(X:Cx):List Addr:=frs X.outer
noncomputable def Vis(sc:Scope)(x:Str):Prop:=sc.names.lookup x=some .local∨sc.names.lookup x=some .cell∨sc.names.lookup x=some .free
noncomputable def Loc(sc:Scope)(x:Str):Prop:=sc.names.lookup x=some .local∨sc.names.lookup x=some .cell
noncomputable def fO4(env:Env)(h:Heap)(m:Str→Option Value)(x:Str)(u:Value):Prop:=
 (env.kindOf x=some .local∧m x=some u)∨((env.kindOf x=some .cell∨env.kindOf x=some .free)∧∃c,env.cells.lookup x=some c∧h.IsCell c (some u))
structure Cx.Ok(X:Cx):Prop where
 mod:Mod X.K X.mg X.base
 kind:X.env.scope.kind= .function
 glob:X.env.globals=mainGlobals
 blt:X.env.builtins=builtinsNs
 above:X.s₀.heap.objs.size≤X.env.locals
 inj:∀x y c,X.env.cells.lookup x=some c→X.env.cells.lookup y=some c→x=y
 has:∀x,(X.env.kindOf x=some .cell∨X.env.kindOf x=some .free)→∃c,X.env.cells.lookup x=some c
 cab:∀x c,X.fn x=true→X.env.cells.lookup x=some c→X.s₀.heap.objs.size≤c
 hd:X.calm=true→X.A.handled=none
 frames:X.A.frames=some X.stack
 stk:X.stack=X.outer∨(X.stack=X.env::X.outer∧X.env.frame=some X.env.locals)
 exf:∀b∈X.ex,b≠X.env.locals∧∀x c,X.env.cells.lookup x=some c→c≠b
 bs:∀b o,X.base.get? b=some o→X.s₀.heap.get? b=some o∧X.H₀ b=none
 bsz:X.base.objs.size≤X.s₀.heap.objs.size
 noex:∀b o,X.base.get? b=some o→b∉X.ex
 exfs:∀b∈X.ex,b∉X.fs
 funs:X.s₀.heap.FunFrames X.base X.outer
 frf:∀b∈X.fs,X.H₀ b=none
structure Inv(X:Cx)(pins:PNS)(σ:List (Option V))(H:Hp)(s:Shared):Prop where
 ok:X.Ok
 os:s.os=X.s₀.os
 bare:AllBare s.gens
 base:Un X.fs X.ex X.H₀ H X.s₀.heap s.heap
 loc:∃m,s.heap.Ns X.env.locals m∧∀(i:Nat) (x:Str) (v:V),X.N[i]? =some x→σ[i]? =some (some v)→Vis X.env.scope x→∃u,J2 v u∧fO4 X.env s.heap m x u
 cell:∀x c,X.env.cells.lookup x=some c→∃v,s.heap.IsCell c v
 free:H X.env.locals=none
 freeC:∀x c,X.env.cells.lookup x=some c→H c=none
 pin:∀p∈X.pn++pins,s.heap.get? p.1=some p.2∧H p.1=none∧p.1≠X.env.locals∧p.1∉X.fs∧∀v,p.2.data≠ .cell v
 hok:HOk X.prog X.w H s.heap
 len:σ.length=X.N.length
section
variable{X:Cx}{pins:PNS}{σ:List (Option V)}{H H':Hp}{s:Shared}{h':Heap}
theorem Cx.Ok.nofr(ok:X.Ok){b:Addr}{o:Obj}(e:X.base.get? b=some o):b∉X.fs:=fun hb=>by
 have:=(ok.funs.mem hb).1
 rw[e]at this;cases this
theorem Inv.bs(I:Inv X pins σ H s):∀b o,X.base.get? b=some o→s.heap.get? b=some o∧H b=none:=fun b o e=>
 ⟨I.base.keep b o (I.ok.bs b o e).1 (I.ok.bs b o e).2 (I.ok.nofr e) (I.ok.noex b o e),I.base.free b o (I.ok.bs b o e).1 (I.ok.bs b o e).2 (I.ok.noex b o e)⟩
theorem Inv.bk(I:Inv X pins σ H s):∀b o,X.base.get? b=some o→s.heap.get? b=some o:=fun b o e=>(I.bs b o e).1
theorem Inv.mod(I:Inv X pins σ H s):Mod X.K X.mg X.base:=I.ok.mod
theorem Inv.kIn(I:Inv X pins σ H s):X.K.In s.heap:=I.ok.mod.kin.keeps I.bk
theorem Inv.lt(I:Inv X pins σ H s):X.env.locals<s.heap.objs.size:=let ⟨_,hn,_⟩:=I.loc;hn.lt
theorem Inv.sz(I:Inv X pins σ H s):X.s₀.heap.objs.size≤s.heap.objs.size:=Nat.le_trans I.ok.above (Nat.le_of_lt I.lt)
theorem Inv.nofs(I:Inv X pins σ H s){a:Addr}(h:s.heap.objs.size≤a):a∉X.fs:=fun hb=>by
 obtain⟨_,o,ho,_⟩:=I.ok.funs.mem hb
 exact absurd (Nat.lt_of_lt_of_le (Heap.lt_size ho) (Nat.le_trans I.sz h)) (Nat.lt_irrefl _)
theorem Inv.cne(I:Inv X pins σ H s):∀x c,X.env.cells.lookup x=some c→c≠X.env.locals:=fun x c e z=>by
 obtain⟨v,o,ho,hd⟩:=I.cell x c e
 obtain⟨m,⟨o',es,ep,ho',hd',_⟩,_⟩:=I.loc
 rw[z,ho']at ho;cases ho;rw[hd']at hd;cases hd
theorem Inv.funs(I:Inv X pins σ H s):s.heap.FunFrames X.base X.outer:=by
 have all:∀(l:List Env),(∀b∈frs l,b∈X.fs)→X.s₀.heap.FunFrames X.base l→s.heap.FunFrames X.base l:=by
  intro l
  induction l with
  |nil=>intro _ _;trivial
  |cons env r ih=>
    intro hs hl
    obtain⟨hk,⟨L,o,hf,hn,ho,hd⟩,hr⟩:=hl
    have hL:L∈X.fs:=hs L (by unfold frs;rw[List.filterMap_cons,hf];exact List.mem_cons_self)
    obtain⟨sl,e⟩:=I.base.slot L o ho (I.ok.frf L hL) hL fun z=>I.ok.exfs L z hL
    exact⟨hk,⟨L,_,hf,hn,e,hd⟩,ih (fun b hb=>hs b (by unfold frs;rw[List.filterMap_cons,hf];exact List.mem_cons_of_mem _ hb)) hr⟩
 exact all X.outer (fun _ hb=>hb) I.ok.funs
theorem Inv.stack(I:Inv X pins σ H s):s.heap.FunFrames X.base X.stack:=by
 rcases I.ok.stk with e|⟨e,hf⟩
 ·rw[e];exact I.funs
 · rw[e]
   obtain⟨m,hn,_⟩:=I.loc
   refine .cons (by rw[I.ok.kind];decide) hf hn ?_ I.funs
   exact Heap.get?_none_of_le (Nat.le_trans I.ok.bsz I.ok.above)
theorem Inv.stkSub(I:Inv X pins σ H s):∀b∈frs X.stack,b∈X.env.locals::X.fs:=fun b hb=>by
 rcases I.ok.stk with e|⟨e,hf⟩
 ·rw[e]at hb;exact List.mem_cons_of_mem _ hb
 · rw[e]at hb
   unfold frs at hb
   rw[List.filterMap_cons,hf]at hb
   exact hb
theorem Inv.stkFree(I:Inv X pins σ H s):∀b∈frs X.stack,H b=none:=fun b hb=>by
 rcases List.mem_cons.mp (I.stkSub b hb)with e|hb
 ·rw[e];exact I.free
 · obtain⟨_,o,ho,_⟩:=I.ok.funs.mem hb
   exact I.base.free b o ho (I.ok.frf b hb) fun z=>I.ok.exfs b z hb
theorem Inv.step{g':Array GenState}{t':Nat}{d':Drawn}{ch:List Addr}(I:Inv X pins σ H s)
 (hch:∀b∈ch,(b∈X.ex∨X.s₀.heap.objs.size≤b)∧b≠X.env.locals∧(∀x c,X.env.cells.lookup x=some c→c≠b)∧∀p∈X.pn++pins,p.1≠b)
 (keep:∀b o,b≠X.env.locals→b∉X.fs→b∉ch→s.heap.get? b=some o→H b=none→h'.get? b=some o)
 (slot:∀b o,b≠X.env.locals→b∈X.fs→b∉ch→s.heap.get? b=some o→H b=none→∃sl,h'.get? b=some {o with slots:=sl}) (free:∀b o,b∉ch→s.heap.get? b=some o→H b=none→H' b=none)
 (there:∀b o,b∉ch→s.heap.get? b=some o→∃o',h'.get? b=some o')
 (tups:∀b xs,H b=some (.tup xs)→H' b=some (.tup xs)) (frzs:∀b o u,H b=some (.frz o u)→H' b=some (.frz o u)) (tbls:∀b ps,H b=some (.tbl ps)→∃more,H' b=some (.tbl (ps++more)))
 (ns:∀m,s.heap.Ns X.env.locals m→h'.Ns X.env.locals m) (hok:HOk X.prog X.w H' h') (hg:AllBare g'):
 Inv X pins σ H' {s with heap:=h',gens:=g',drawn:=d',toks:=t'}:=by
 have neL:∀b o,X.s₀.heap.get? b=some o→b≠X.env.locals:=fun b o e=>Nat.ne_of_lt (Nat.lt_of_lt_of_le (Heap.lt_size e) I.ok.above)
 have neC:∀b o,X.s₀.heap.get? b=some o→b∉X.ex→b∉ch:=fun b o e hx hb=>by
  rcases (hch b hb).1 with z|z
  ·exact hx z
  ·exact absurd (Nat.lt_of_lt_of_le (Heap.lt_size e) z) (Nat.lt_irrefl _)
 have cellK:∀x c,X.env.cells.lookup x=some c→∀v,s.heap.IsCell c v→h'.IsCell c v:=fun x c e v ⟨o,ho,hd⟩=>by
  have nch:c∉ch:=fun z=>(hch c z).2.2.1 x c e rfl
  by_cases hc:c∈X.fs
  · obtain⟨sl,q⟩:=slot c o (I.cne x c e) hc nch ho (I.freeC x c e)
    exact⟨_,q,hd⟩
  ·exact⟨o,keep c o (I.cne x c e) hc nch ho (I.freeC x c e),hd⟩
 refine⟨I.ok,I.os,hg,⟨fun b o e n hb hx=>?_,fun b o e n hb hx=>?_,fun b o e n hx=>?_,fun b o e hx=>?_,fun b xs e=>tups b xs (I.base.tups b xs e),fun b o xs e=>frzs b o xs (I.base.frzs b o xs e),fun b ps e=>?_⟩,?_,fun x c e=>?_,?_,fun x c e=>?_,fun p hp=>?_,hok,I.len⟩
 ·exact keep b o (neL b o e) hb (neC b o e hx) (I.base.keep b o e n hb hx) (I.base.free b o e n hx)
 · obtain⟨sl,e1⟩:=I.base.slot b o e n hb hx
   obtain⟨sl',e2⟩:=slot b _ (neL b o e) hb (neC b o e hx) e1 (I.base.free b o e n hx)
   exact⟨sl',e2⟩
 · obtain⟨o',e1⟩:=I.base.there b o e hx
   exact free b o' (neC b o e hx) e1 (I.base.free b o e n hx)
 · obtain⟨o',e1⟩:=I.base.there b o e hx
   exact there b o' (neC b o e hx) e1
 · obtain⟨m1,e1⟩:=I.base.tbls b ps e
   obtain⟨m2,e2⟩:=tbls b _ e1
   exact⟨m1++m2,by rw[e2,Array.append_assoc]⟩
 · obtain⟨m,hn,hl⟩:=I.loc
   refine⟨m,ns m hn,fun i x v e1 e2 e3=>?_⟩
   obtain⟨u,r,l⟩:=hl i x v e1 e2 e3
   refine⟨u,r,?_⟩
   rcases l with l|⟨k,c,e,z⟩
   ·exact .inl l
   ·exact .inr ⟨k,c,e,cellK x c e _ z⟩
 · obtain⟨v,z⟩:=I.cell x c e
   exact⟨v,cellK x c e v z⟩
 · obtain⟨m,⟨o,_,_,ho,_⟩,_⟩:=I.loc
   exact free _ o (fun z=>(hch _ z).2.1 rfl) ho I.free
 · obtain⟨v,o,ho,hd⟩:=I.cell x c e
   exact free c o (fun z=>(hch c z).2.2.1 x c e rfl) ho (I.freeC x c e)
 · obtain⟨e,n,ne,nf,d⟩:=I.pin p hp
   have nch:p.1∉ch:=fun z=>(hch p.1 z).2.2.2 p hp rfl
   exact⟨keep p.1 p.2 ne nf nch e n,free p.1 p.2 nch e n,ne,nf,d⟩
theorem Inv.un{t':Nat}(I:Inv X pins σ H s)(u:Un X.fs [] H H' s.heap h')(hok:HOk X.prog X.w H' h'):Inv X pins σ H' {s with heap:=h',toks:=t'}:=by
 obtain⟨m,⟨o,es,ep,ho,r⟩,_⟩:=id I.loc
 obtain⟨sl,hL⟩:=u.any ho I.free (by simp)
 exact I.step (g':=s.gens) (d':=s.drawn) (ch:= []) (fun _ z=>nomatch z) (fun b o _ hb _ e n=>u.keep b o e n hb (by simp)) (fun b o _ hb _ e n=>u.slot b o e n hb (by simp)) (fun b o _ e n=>u.free b o e n (by simp)) (fun b o _ e=>u.there b o e (by simp)) u.tups u.frzs u.tbls (fun m' hm=>by
  obtain⟨o',es',ep',ho',r'⟩:=hm
  rw[ho]at ho';cases ho'
  exact⟨_,es',ep',hL,r'⟩) hok I.bare
theorem Inv.call{g':Array GenState}{t':Nat}{d':Drawn}{ch:List Addr}(I:Inv X pins σ H s)(u:Un (frs X.stack) ch H H' s.heap h')(hok:HOk X.prog X.w H' h')(hg:AllBare g')
 (hch:∀b∈ch,(b∈X.ex∨X.s₀.heap.objs.size≤b)∧b≠X.env.locals∧(∀x c,X.env.cells.lookup x=some c→c≠b)∧∀p∈X.pn++pins,p.1≠b):
 Inv X pins σ H' {s with heap:=h',gens:=g',drawn:=d',toks:=t'}:=by
 obtain⟨m,⟨o,es,ep,ho,r⟩,_⟩:=id I.loc
 obtain⟨sl,hL⟩:=u.any ho I.free fun z=>(hch _ z).2.1 rfl
 exact I.step (ch:=ch) hch (fun b o hL hb hc e n=>u.keep b o e n (fun z=>(List.mem_cons.mp (I.stkSub b z)).elim hL hb) hc) (fun b o _ _ hc e n=>u.any e n hc) (fun b o hc e n=>u.free b o e n hc) (fun b o hc e=>u.there b o e hc) u.tups u.frzs u.tbls (fun m' hm=>by
  obtain⟨o',es',ep',ho',r'⟩:=hm
  rw[ho]at ho';cases ho'
  exact⟨_,es',ep',hL,r'⟩) hok hg
theorem Inv.turned{t':Nat}{it:Addr}(I:Inv X pins σ H s)(k:∀b o,b≠it→s.heap.get? b=some o→h'.get? b=some o)(hn:H it=none)(hL:it≠X.env.locals)
 (h1:it∈X.ex∨X.s₀.heap.objs.size≤it) (h2:∀x c,X.env.cells.lookup x=some c→c≠it) (h3:∀p∈X.pn++pins,p.1≠it):Inv X pins σ H {s with heap:=h',toks:=t'}:=by
 have nit:∀b u,H b=some u→b≠it:=fun b u e z=>by rw[z,hn]at e;cases e
 refine I.step (g':=s.gens) (d':=s.drawn) (ch:= [it]) (fun b hb=>?_) (fun b o _ _ hc e _=>k b o (fun z=>hc (by simp[z])) e) (fun b o _ _ hc e _=>⟨o.slots,k b o (fun z=>hc (by simp[z])) e⟩) (fun _ _ _ _ n=>n)
  (fun b o hc e=>⟨o,k b o (fun z=>hc (by simp[z])) e⟩) (fun _ _ e=>e) (fun _ _ _ e=>e) (fun b ps e=>⟨#[],by rw[e];simp⟩) (fun m hm=>?_) (fun b u e=>?_) I.bare
 · have e:b=it:=by simpa using hb
   subst e
   exact⟨h1,hL,h2,h3⟩
 · obtain⟨o,es,ep,ho,r⟩:=hm
   exact⟨o,es,ep,k _ o (Ne.symm hL) ho,r⟩
 · refine(I.hok b u e).stay (fun c v hc q=>k c v ?_ q) (fun _ q=>q) fun _ _ q=>q
   rcases hc with z|z
   ·rw[z];exact nit b u e
   ·exact nit c _ z
theorem Inv.tok(I:Inv X pins σ H s)(t:Nat):Inv X pins σ H {s with toks:=t}:=I.un (h':=s.heap) (t':=t) Un.refl I.hok
theorem Inv.kept{t':Nat}(I:Inv X pins σ H s)(k:∀b u,s.heap.get? b=some u→h'.get? b=some u):Inv X pins σ H {s with heap:=h',toks:=t'}:=I.un (Un.kept k) (I.hok.kept k)
theorem Inv.laid{a:Addr}{o:HO}{t':Nat}(I:Inv X pins σ H s)(k:∀b u,s.heap.get? b=some u→h'.get? b=some u)(hp:s.heap.objs.size≤a)(new:U9 X.prog X.w (upd H a o) h' a o):
 Inv X pins σ (upd H a o) {s with heap:=h',toks:=t'}:=I.un (Un.laid k hp (I.hok.fresh hp)) (I.hok.laid k hp new)
theorem Inv.write{x e:Addr}{o:HO}{t':Nat}(I:Inv X pins σ H s)(mu:Mut (H x))(he:e=x∨H e=some (.own x))(k:∀b u,b≠e→s.heap.get? b=some u→h'.get? b=some u)(heo:∃u,h'.get? e=some u)
 (new:U9 X.prog X.w (upd H x o) h' x o):Inv X pins σ (upd H x o) {s with heap:=h',toks:=t'}:=I.un (Un.write mu he k heo) (I.hok.write mu he k heo new)
theorem Inv.pins_of{pins':PNS}(I:Inv X pins σ H s)(h:∀p∈pins',s.heap.get? p.1=some p.2∧H p.1=none∧p.1≠X.env.locals∧p.1∉X.fs∧∀v,p.2.data≠ .cell v):Inv X pins' σ H s:=
 ⟨I.ok,I.os,I.bare,I.base,I.loc,I.cell,I.free,I.freeC,fun p hp=>(List.mem_append.mp hp).elim (fun z=>I.pin p (List.mem_append_left _ z)) (h p),I.hok,I.len⟩
theorem cL4{N:List Str}(hN:N.Nodup){i j:Nat}{x:Str}(a:N[i]? =some x)(b:N[j]? =some x):i=j:=by
 obtain⟨h1,e1⟩:=List.getElem?_eq_some_iff.mp a
 obtain⟨h2,e2⟩:=List.getElem?_eq_some_iff.mp b
 exact(List.getElem_inj hN).mp (e1.trans e2.symm)
theorem dH5{M:Model}{A:Around}{E:VSP}{i:Nat}{x:Str}{v:V}{u:Value}{Q:Unit→Shared→Prop}(I:Inv X pins σ H s)(hN:X.N.Nodup)(hi:X.N[i]? =some x)(hx:Loc X.env.scope x)(r:J2 v u)
 (h:∀s',Inv X pins (σ.set i (some v)) H s'→(∃a,Heap.SameBut a s.heap s'.heap∧(a=X.env.locals∨X.env.cells.lookup x=some a))→Q () s') (hf:X.fn x=true∨X.env.scope.names.lookup x=some .local):wpAny M A (storeName X.env x u) Q E s:=by
 obtain⟨m,hn,hl⟩:=id I.loc
 have hcls:(X.env.scope.kind == .class||(X.env.scope.kind == .module&&X.env.locals != X.env.globals))=false:=by rw[I.ok.kind];rfl
 have hiσ:i<σ.length:=by rw[I.len];exact(List.getElem?_eq_some_iff.mp hi).1
 have cne:=I.cne
 have tracked:∀ {a:Addr} {h':Heap},(∃o,s.heap.get? a=some o∧H a=none)→Heap.SameBut a s.heap h'→HOk X.prog X.w H h':=fun {a h'} ha hs b ob e=>by
  obtain⟨_,_,hfree⟩:=ha
  refine(I.hok b ob e).stay (fun c w' hc q=>(hs.2 c ?_).trans q) (fun _ q=>q) fun _ _ q=>q
  rintro rfl
  rcases hc with rfl|hc
  ·rw[hfree]at e;cases e
  ·rw[hfree]at hc;cases hc
 rcases hx with hk|hk
 · refine wpAny_storeName_local hk hn (fun h' hn' hs=>?_) hcls
   obtain⟨oL,_,_,hoL,_⟩:=id hn
   refine h _ ⟨I.ok,I.os,I.bare,⟨fun b o e n hb hx=>?_,fun b o e n hb hx=>?_,I.base.free,fun b o e hx=>?_,I.base.tups,I.base.frzs,I.base.tbls⟩,⟨_,hn',fun j y v' e1 e2 e3=>?_⟩,fun y c e=>?_,I.free,I.freeC,fun p hp=>?_,tracked ⟨oL,hoL,I.free⟩ hs,by simpa using I.len⟩ ⟨_,hs,.inl rfl⟩
   ·exact(hs.2 b (Nat.ne_of_lt (Nat.lt_of_lt_of_le (Heap.lt_size e) I.ok.above))).trans (I.base.keep b o e n hb hx)
   · obtain⟨sl,e1⟩:=I.base.slot b o e n hb hx
     exact⟨sl,(hs.2 b (Nat.ne_of_lt (Nat.lt_of_lt_of_le (Heap.lt_size e) I.ok.above))).trans e1⟩
   · obtain⟨o',e1⟩:=I.base.there b o e hx
     exact⟨o',(hs.2 b (Nat.ne_of_lt (Nat.lt_of_lt_of_le (Heap.lt_size e) I.ok.above))).trans e1⟩
   · by_cases hj:j=i
     · subst hj
       rw[hi]at e1;cases e1
       rw[List.getElem?_set_self hiσ]at e2
       cases e2
       exact⟨u,r,.inl ⟨hk,by simp⟩⟩
     · rw[List.getElem?_set_ne (Ne.symm hj)]at e2
       obtain⟨u',r',q⟩:=hl j y v' e1 e2 e3
       refine⟨u',r',?_⟩
       rcases q with⟨k,e⟩|⟨k,c,e,z⟩
       · refine .inl ⟨k,?_⟩
         have:y≠x:=fun e=>hj (cL4 hN e1 (e▸hi))
         simp[this,e]
       ·exact .inr ⟨k,c,e,z.sameBut hs (cne y c e)⟩
   · obtain⟨w',z⟩:=I.cell y c e
     exact⟨w',z.sameBut hs (cne y c e)⟩
   · obtain⟨e,n,ne,nf,d⟩:=I.pin p hp
     exact⟨(hs.2 p.1 ne).trans e,n,ne,nf,d⟩
 · have hfn:X.fn x=true:=by
    rcases hf with z|z
    ·exact z
    ·rw[z]at hk;cases hk
   obtain⟨c,hc⟩:=I.ok.has x (.inl hk)
   obtain⟨w',z⟩:=I.cell x c hc
   refine wpAny_storeName_cell I.ok.kind hk hc z (fun h' hc' hs=>?_)
   obtain⟨oc,hoc,hocd⟩:=id z
   refine h {s with heap:=h'} ⟨I.ok,I.os,I.bare,⟨fun b o e n hb hx=>?_,fun b o e n hb hx=>?_,I.base.free,fun b o e hx=>?_,I.base.tups,I.base.frzs,I.base.tbls⟩,⟨m,hn.sameBut hs (Ne.symm (cne x c hc)),fun j y v' e1 e2 e3=>?_⟩,fun y c' e=>?_,I.free,I.freeC,fun p hp=>?_,tracked ⟨oc,hoc,I.freeC x c hc⟩ hs,by simpa using I.len⟩ ⟨c,hs,.inr hc⟩
   ·exact(hs.2 b (Nat.ne_of_lt (Nat.lt_of_lt_of_le (Heap.lt_size e) (I.ok.cab x c hfn hc)))).trans (I.base.keep b o e n hb hx)
   · obtain⟨sl,e1⟩:=I.base.slot b o e n hb hx
     exact⟨sl,(hs.2 b (Nat.ne_of_lt (Nat.lt_of_lt_of_le (Heap.lt_size e) (I.ok.cab x c hfn hc)))).trans e1⟩
   · obtain⟨o',e1⟩:=I.base.there b o e hx
     exact⟨o',(hs.2 b (Nat.ne_of_lt (Nat.lt_of_lt_of_le (Heap.lt_size e) (I.ok.cab x c hfn hc)))).trans e1⟩
   · by_cases hj:j=i
     · subst hj
       rw[hi]at e1;cases e1
       rw[List.getElem?_set_self hiσ]at e2
       cases e2
       exact⟨u,r,.inr ⟨.inl hk,c,hc,hc'⟩⟩
     · rw[List.getElem?_set_ne (Ne.symm hj)]at e2
       obtain⟨u',r',q⟩:=hl j y v' e1 e2 e3
       refine⟨u',r',?_⟩
       rcases q with q|⟨k,c',e,z'⟩
       ·exact .inl q
       · refine .inr ⟨k,c',e,z'.sameBut hs ?_⟩
         rintro rfl
         exact hj (cL4 hN e1 (I.ok.inj _ _ _ e hc▸hi))
   · by_cases hcc:c'=c
     ·subst hcc;exact⟨_,hc'⟩
     · obtain⟨w2,z2⟩:=I.cell y c' e
       exact⟨w2,z2.sameBut hs hcc⟩
   · obtain⟨e,n,ne,nf,d⟩:=I.pin p hp
     refine⟨(hs.2 p.1 ?_).trans e,n,ne,nf,d⟩
     intro q
     rw[q,hoc]at e
     have q':oc=p.2:=Option.some.inj e
     exact d w' (by rw[←q'];exact hocd)
theorem dM6{M:Model}{A:Around}{E:VSP}{i:Nat}{x:Str}{v:V}{u:Value}{Q:Unit→Shared→Prop}(I:Inv X pins σ H s)(hN:X.N.Nodup)(hi:X.N[i]? =some x)(hx:Loc X.env.scope x)(r:J2 v u)
 (h:∀s',Inv X pins (σ.set i (some v)) H s'→Q () s') (hf:X.fn x=true∨X.env.scope.names.lookup x=some .local):wpAny M A (storeName X.env x u) Q E s:=
 dH5 I hN hi hx r (fun s' I' _=>h s' I') hf
end
noncomputable abbrev XK:=Value→Option Addr→Hp→Prop
noncomputable abbrev St:=List (Option V)
noncomputable abbrev VK:=V→Hp→Prop
noncomputable abbrev TE:=St→Hp→VK→Prop
noncomputable abbrev TT:=St→Hp→(Bool→Hp→Prop)→Prop
noncomputable abbrev TA:=St→Hp→(List V→Hp→Prop)→Prop
structure bP3 where
 nx:St→Hp→Prop
 rt:VK
 bk:St→Hp→Prop:=fun _ _=>False
 ct:St→Hp→Prop:=fun _ _=>False
noncomputable abbrev TS:=bP3→St→Hp→Prop
def EP(X:Cx)(pins:PNS)(σ:St)(Q:VK)(u:Value)(s':Shared):Prop:=∃v H',Inv X pins σ H' s'∧J2 v u∧Q v H'
noncomputable def TP(X:Cx)(pins:PNS)(σ:St)(Q:Bool→Hp→Prop)(b:Bool)(s':Shared):Prop:=∃H',Inv X pins σ H' s'∧Q b H'
noncomputable def AP(X:Cx)(pins:PNS)(σ:St)(Q:List V→Hp→Prop)(us:List Value)(s':Shared):Prop:=∃vs H',Inv X pins σ H' s'∧w6 vs us∧Q vs H'
theorem EP.elim{X:Cx}{pins:PNS}{σ:St}{Q:VK}{u:Value}{s:Shared}{P:Prop}(h:EP X pins σ Q u s)(k:∀v H,Inv X pins σ H s→J2 v u→Q v H→P):P:=by
 obtain⟨a,b,c,d,e⟩:=h
 exact k a b c d e
theorem TP.elim{X:Cx}{pins:PNS}{σ:St}{Q:Bool→Hp→Prop}{u:Bool}{s:Shared}{P:Prop}(h:TP X pins σ Q u s)(k:∀H,Inv X pins σ H s→Q u H→P):P:=by
 obtain⟨b,c,e⟩:=h
 exact k b c e
theorem AP.elim{X:Cx}{pins:PNS}{σ:St}{Q:List V→Hp→Prop}{u:List Value}{s:Shared}{P:Prop}(h:AP X pins σ Q u s)(k:∀v H,Inv X pins σ H s→w6 v u→Q v H→P):P:=by
 obtain⟨a,b,c,d,e⟩:=h
 exact k a b c d e
def SP(X:Cx)(pins:PNS)(D:bP3)(f:Flow)(s':Shared):Prop:=
 match f with
 | .next=>∃ σ' H',Inv X pins σ' H' s'∧D.nx σ' H'
 | .brk=>∃ σ' H',Inv X pins σ' H' s'∧D.bk σ' H'
 | .cont=>∃ σ' H',Inv X pins σ' H' s'∧D.ct σ' H'
 | .ret u=>∃v σ' H',Inv X pins σ' H' s'∧J2 v u∧D.rt v H'
def PE(X:Cx)(e:Expr)(t:TE):Prop:=
 ∀(pins:PNS) (s:Shared) (σ:St) (H:Hp) (Q:VK),Inv X pins σ H s→t σ H Q→wpAny (model X.prog X.w) X.A (eval e X.env) (EP X pins σ Q) X.xe s
def PT(X:Cx)(e:Expr)(t:TT):Prop:=
 ∀(pins:PNS) (s:Shared) (σ:St) (H:Hp) (Q:Bool→Hp→Prop),Inv X pins σ H s→t σ H Q→wpAny (model X.prog X.w) X.A (isTrue e X.env (eval e X.env)) (TP X pins σ Q) X.xe s
def PW(X:Cx)(e:Expr)(t:TT):Prop:=
 ∀(whole:Sem Value) (pins:PNS) (s:Shared) (σ:St) (H:Hp) (Q:Bool→Hp→Prop),Inv X pins σ H s→t σ H Q→wpAny (model X.prog X.w) X.A (isTrue e X.env whole) (TP X pins σ Q) X.xe s
def PA(X:Cx)(es:List Expr)(t:TA):Prop:=
 ∀(pos:Pos) (pins:PNS) (s:Shared) (σ:St) (H:Hp) (Q:List V→Hp→Prop),Inv X pins σ H s→t σ H Q→wpAny (model X.prog X.w) X.A (spliced (backTo pos (starEach es X.env))) (AP X pins σ Q) X.xe s
def PS(X:Cx)(st:Stmt)(t:TS):Prop:=
 ∀(pins:PNS) (s:Shared) (σ:St) (H:Hp) (D:bP3),Inv X pins σ H s→t D σ H→wpAny (model X.prog X.w) X.A (exec st X.env) (SP X pins D) X.xe s
def PSs(X:Cx)(st:List Stmt)(t:TS):Prop:=
 ∀(pins:PNS) (s:Shared) (σ:St) (H:Hp) (D:bP3),Inv X pins σ H s→t D σ H→wpAny (model X.prog X.w) X.A (execs st X.env) (SP X pins D) X.xe s
theorem thn{α:Type}{t:Sem α}{Q Q':α→Shared→Prop}{M:Model}{A:Around}{E:VSP}{s:Shared}(h:wpAny M A t Q E s)(hQ:∀a s,Q a s→Q' a s):wpAny M A t Q' E s:=wpAny_mono h hQ fun _ _ x=>x
section
variable{X:Cx}
noncomputable def fJ6(i:Nat):TE:=fun σ H Q=>∃v,σ[i]? =some (some v)∧Q v H
noncomputable def tC(v:V):TE:=fun _ H Q=>Q v H
theorem eY3{i:Nat}{x:Str}{pos:Pos}(hN:X.N[i]? =some x)(hv:Vis X.env.scope x)(hd:(x==("__debug__" :Str))=false)(hcd:(x==("__classdict__" :Str))=false):PE X (.Name x pos) (fJ6 i):=by
 intro pins s σ H Q I h
 obtain⟨v,e,h⟩:=h
 obtain⟨m,hn,hl⟩:=I.loc
 obtain⟨u,r,l⟩:=hl i x v hN e hv
 have fin:EP X pins σ Q u s:=⟨v,H,I,r,h⟩
 rcases l with⟨hk,hm⟩|⟨hk,c,hc,hcell⟩
 ·exact wpAny_Name (wpAny_loadName_local I.ok.kind hk hn hm fin) hd
 · rcases hk with hk|hk
   ·exact wpAny_Name (wpAny_loadName_cell I.ok.kind hk hc hcell fin) hd
   ·exact wpAny_Name (wpAny_loadName_free I.ok.kind hk hc hcell fin hcd) hd
theorem dP7{i j pos}:PE X (.Constant (.int i) j pos) (tC (.int i)):=fun _ _ _ H _ I h=>wpAny_Constant_int ⟨.int i,H,I.tok _,⟨_,rfl⟩,h⟩
theorem fJ9{b j pos}:PE X (.Constant (.bool b) j pos) (tC (.bl b)):=fun _ _ _ H _ I h=>Constant_bool ⟨.bl b,H,I,rfl,h⟩
theorem eW2{j pos}:PE X (.Constant .none j pos) (tC .non):=fun _ _ _ H _ I h=>Constant_none ⟨.non,H,I,rfl,h⟩
theorem eV5{x j pos}:PE X (.Constant (.str x) j pos) (tC (.str x)):=fun _ _ _ H _ I h=>Calls.Constant_str ⟨.str x,H,I.tok _,⟨_,rfl⟩,h⟩
noncomputable def Gl(X:Cx)(x:Str):Prop:=X.env.kindOf x=some .globalImplicit
theorem bN3{E:VSP}{pins:PNS}{s:Shared}{σ:St}{H:Hp}{x:Str}{u:Value}{pos:Pos}{Q:VSP}(I:Inv X pins σ H s)(hg:Gl X x)(hm:X.mg x=some u)(h:Q u s)
 (hd:(x==("__debug__" :Str))=false):wpAny (model X.prog X.w) X.A (eval (.Name x pos) X.env) Q E s:=
 Calls.Name_function_global I.ok.kind hg (Calls.loadGlobal_global (by rw[I.ok.glob];exact I.mod.glob.keeps I.bk) hm h) hd
theorem aL9{E:VSP}{pins:PNS}{s:Shared}{σ:St}{H:Hp}{x:Str}{u:Value}{pos:Pos}{Q:VSP}(I:Inv X pins σ H s)(hg:Gl X x)(hm:X.mg x=none)(hv:bootBuiltins x=some u)(h:Q u s)
 (hn:x≠ "__name__":=by decide) (hd:(x==("__debug__" :Str))=false:=by decide):wpAny (model X.prog X.w) X.A (eval (.Name x pos) X.env) Q E s:=by
 obtain⟨mb,h1,h2⟩:=I.mod.blt
 exact Calls.Name_function_global I.ok.kind hg (Calls.loadGlobal_builtin (by rw[I.ok.glob];exact I.mod.glob.keeps I.bk) hm (by rw[I.ok.blt];exact h1.keeps I.bk) ((h2 x hn).trans hv) h) hd
theorem dX9{x:Str}{v:V}{u:Value}{pos:Pos}(hg:Gl X x)(hm:X.mg x=none)(hv:bootBuiltins x=some u)(r:J2 v u)(hn:x≠ "__name__")(hd:(x==("__debug__" :Str))=false):PE X (.Name x pos) (tC v):=
 fun _ _ _ H _ I h=>aL9 I hg hm hv ⟨v,H,I,r,h⟩ hn hd
variable{a b:Expr}{ta tb:TE}{pos:Pos}
variable{tA tB':TT}{V8:List Expr}
noncomputable def fM2(t u:TT):TT:=fun σ H Q=>t σ H fun c H1=>if c=true then u σ H1 Q else Q false H1
noncomputable def tOr(t u:TT):TT:=fun σ H Q=>t σ H fun c H1=>if c=true then Q true H1 else u σ H1 Q
noncomputable def fN4(t:TT):TT:=fun σ H Q=>t σ H fun c H1=>Q (!c) H1
theorem eD0(ha:PT X a tA):PW X (.BoolOp .And [a] pos) tA:=by
 intro wh pins s σ H Q I h
 refine isTrue_and (thn (ha pins s σ H Q I h) fun c s1 e=>?_)
 cases c with
 |true=>exact isTrue_and_nil e
 |false=>exact e
theorem eZ3(ha:PT X a tA):PW X (.BoolOp .Or [a] pos) tA:=by
 intro wh pins s σ H Q I h
 refine isTrue_or (thn (ha pins s σ H Q I h) fun c s1 e=>?_)
 cases c with
 |false=>exact isTrue_or_nil e
 |true=>exact e
theorem eQ5(ha:PT X a tA)(hb:PW X (.BoolOp .And (b::V8) pos) tB'):PW X (.BoolOp .And (a::b::V8) pos) (fM2 tA tB'):=by
 intro wh pins s σ H Q I h
 refine isTrue_and (thn (ha pins s σ H _ I h) fun c s1 hE1=>hE1.elim fun H1 I1 q1=>?_)
 cases c with
 |true=>exact hb wh pins s1 σ H1 Q I1 q1
 |false=>exact⟨H1,I1,q1⟩
theorem fH2(ha:PT X a tA)(hb:PW X (.BoolOp .Or (b::V8) pos) tB'):PW X (.BoolOp .Or (a::b::V8) pos) (tOr tA tB'):=by
 intro wh pins s σ H Q I h
 refine isTrue_or (thn (ha pins s σ H _ I h) fun c s1 hE1=>hE1.elim fun H1 I1 q1=>?_)
 cases c with
 |true=>exact⟨H1,I1,q1⟩
 |false=>exact hb wh pins s1 σ H1 Q I1 q1
theorem eV8(ha:PT X a tA):PT X (.UnaryOp .Not a pos) (fN4 tA):=by
 intro pins s σ H Q I h
 exact isTrue_not (ha pins s σ H (fun c H1=>Q (!c) H1) I h)
noncomputable def fG6(ta:TE):TE:=fun σ H Q=>ta σ H fun x H1=>∃c,x= .bl c∧Q (.bl (!c)) H1
theorem eX9{op}{t:TE}(h:PE X a t):PE X (.BoolOp op [a] pos) t:=fun pins s σ H Q I hw=>BoolOp_one (h pins s σ H Q I hw)
theorem eU6(ha:PE X a ta):PE X (.UnaryOp .Not a pos) (fG6 ta):=by
 intro pins s σ H Q I h
 refine UnaryOp_ (thn (ha pins s σ H _ I h) fun v s1 hE1=>hE1.elim fun x H1 I1 r1 q1=>?_)
 obtain⟨c,rfl,q1⟩:=q1
 cases r1
 exact not_of (wpAny_truthy_bool ⟨.bl (!c),H1,I1,rfl,q1⟩)
noncomputable def tIf(t:TT)(ta tb:TE):TE:=fun σ H Q=>t σ H fun c H1=>if c=true then ta σ H1 Q else tb σ H1 Q
theorem dL3{c:Expr}(hc:PT X c tA)(ha:PE X a ta)(hb:PE X b tb):PE X (.IfExp c a b pos) (tIf tA ta tb):=by
 intro pins s σ H Q I h
 refine wpAny_IfExp (thn (hc pins s σ H _ I h) fun d s1 hE1=>hE1.elim fun H1 I1 q1=>?_)
 cases d with
 |true=>exact ha pins s1 σ H1 Q I1 q1
 |false=>exact hb pins s1 σ H1 Q I1 q1
end
def SqL(K:PySem.W.Frag)(H:Hp)(a:Addr)(xs:List V):Prop:=
 Rd H a (.lst xs)∨
  ∃(o:Obj) (its:Array Value) (n:Nat),K.lookup a=some o∧o.cls= .type "list"∧o.dict=none∧o.data= .seq its n∧its.size≤sizeLine∧w6 xs its.toList
def SqT(K:PySem.W.Frag)(H:Hp)(a:Addr)(xs:List V):Prop:=
 Rd H a (.tup xs)∨
  ∃(o:Obj) (its:Array Value) (n:Nat),K.lookup a=some o∧o.cls= .type "tuple"∧(o.data,o.dict)= (Data.seq its n,none)∧its.size≤sizeLine∧w6 xs its.toList
noncomputable def fM4:Value→Option V
 | .none=>some .non
 | .bool b=>some (.bl b)
 | .int i _=>some (.int i)
 | .str x _=>some (.str x)
 | .bytes b _=>some (.byt b)
 | .float b _=>some (.flt b)
 | .ref a=>some (.ref a)
 | .type n=>some (.ty n)
 |_=>none
theorem J2.abs{x:V}{u:Value}(r:J2 x u):fM4 u=some x:=by
 cases x with
 |non=>cases r;rfl
 |bl _=>cases r;rfl
 |int _=>obtain⟨t,rfl⟩:=r;rfl
 |str _=>obtain⟨t,rfl⟩:=r;rfl
 |byt _=>obtain⟨t,rfl⟩:=r;rfl
 |flt _=>obtain⟨t,rfl⟩:=r;rfl
 |ref _=>cases r;rfl
 |ty _=>cases r;rfl
theorem J2.inj{x y:V}{u:Value}(r:J2 x u)(q:J2 y u):x=y:=Option.some.inj (r.abs.symm.trans q.abs)
theorem w6.inj{xs ys:List V}{us:List Value}(h:w6 xs us)(k:w6 ys us):xs=ys:=by
 induction h generalizing ys with
 |nil=>cases k;rfl
 |cons r t ih=>cases k with
   |cons r' t'=>rw[r.inj r',ih t']
section
variable{X:Cx}{pins:PNS}{σ:St}{H:Hp}{s:Shared}{a:Addr}{xs ys:List V}
theorem SqL.of{K:PySem.W.Frag}(h:H a=some (.lst xs)):SqL K H a xs:=.inl (.inl h)
theorem SqT.of{K:PySem.W.Frag}(h:H a=some (.tup xs)):SqT K H a xs:=.inl (.inl h)
theorem Inv.list(I:Inv X pins σ H s)(h:SqL X.K H a xs):∃its:List Value,w6 xs its∧PlainL s.heap a its.toArray∧xs.length≤sizeLine:=by
 rcases h with h|⟨o,its,n,hk,hc,hd,hs,hz,r⟩
 · obtain⟨z,its,n,r,e⟩:=h.ok I.hok
   exact⟨its,r,⟨_,n,e,rfl,rfl,rfl⟩,z⟩
 · refine⟨its.toList,r,⟨o,n,I.kIn a o hk,hc,hd,by simpa using hs⟩,?_⟩
   have e:=r.length
   simp only[Array.length_toList]at e
   lia
theorem Inv.tuple(I:Inv X pins σ H s)(h:SqT X.K H a xs):∃its:List Value,w6 xs its∧IsTup s.heap a its.toArray∧xs.length≤sizeLine:=by
 rcases h with h|⟨o,its,n,hk,hc,hs,hz,r⟩
 · obtain⟨z,its,r,p⟩:=h.ok I.hok
   exact⟨its,r,aB6.tup p,z⟩
 · refine⟨its.toList,r,⟨o,I.kIn a o hk,hc,n,by simpa using (Prod.mk.inj hs).1⟩,?_⟩
   have e:=r.length
   simp only[Array.length_toList]at e
   lia
theorem Inv.tupleN(I:Inv X pins σ H s)(h:SqT X.K H a xs):∃its:List Value,w6 xs its∧aB6 s.heap a its.toArray∧xs.length≤sizeLine:=by
 rcases h with h|⟨o,its,n,hk,hc,hs,hz,r⟩
 · obtain⟨z,its,r,p⟩:=h.ok I.hok
   exact⟨its,r,p,z⟩
 · refine⟨its.toList,r,⟨o,I.kIn a o hk,hc,n,by simpa using hs⟩,?_⟩
   have e:=r.length
   simp only[Array.length_toList]at e
   lia
theorem Inv.list_inj(I:Inv X pins σ H s)(h:SqL X.K H a xs)(h':SqL X.K H a ys):xs=ys:=by
 obtain⟨its,r,⟨o,n,e,_,_,d⟩,_⟩:=I.list h
 obtain⟨its',r',⟨o',n',e',_,_,d'⟩,_⟩:=I.list h'
 rw[e]at e';cases e'
 rw[d]at d'
 injection d' with d1 _
 have:its=its':=by simpa using congrArg Array.toList d1
 subst this
 exact r.inj r'
theorem Inv.tuple_inj(I:Inv X pins σ H s)(h:SqT X.K H a xs)(h':SqT X.K H a ys):xs=ys:=by
 obtain⟨its,r,⟨o,e,_,n,d⟩,_⟩:=I.tuple h
 obtain⟨its',r',⟨o',e',_,n',d'⟩,_⟩:=I.tuple h'
 rw[e]at e';cases e'
 rw[d]at d'
 injection d' with d1 _
 have:its=its':=by simpa using congrArg Array.toList d1
 subst this
 exact r.inj r'
end
noncomputable abbrev Cx.wish(X:Cx)(E:VSP):Cx:={X with xe:=E}
noncomputable abbrev Cx.nox(X:Cx):Cx:=X.wish fun _ _=>False
theorem Cx.Ok.wish{X:Cx}(ok:X.Ok)(E:VSP):(X.wish E).Ok:=
 ⟨ok.mod,ok.kind,ok.glob,ok.blt,ok.above,ok.inj,ok.has,ok.cab,ok.hd,ok.frames,ok.stk,ok.exf,ok.bs,ok.bsz,ok.noex,ok.exfs,ok.funs,ok.frf⟩
theorem Cx.Ok.unwish{X:Cx}{E:VSP}(ok:(X.wish E).Ok):X.Ok:=
 ⟨ok.mod,ok.kind,ok.glob,ok.blt,ok.above,ok.inj,ok.has,ok.cab,ok.hd,ok.frames,ok.stk,ok.exf,ok.bs,ok.bsz,ok.noex,ok.exfs,ok.funs,ok.frf⟩
section
variable{X:Cx}{pins:PNS}{σ:St}{H:Hp}{s:Shared}{E:VSP}
theorem Inv.wish(I:Inv X pins σ H s)(E:VSP):Inv (X.wish E) pins σ H s:=⟨I.ok.wish E,I.os,I.bare,I.base,I.loc,I.cell,I.free,I.freeC,I.pin,I.hok,I.len⟩
theorem Inv.unwish(I:Inv (X.wish E) pins σ H s):Inv X pins σ H s:=⟨I.ok.unwish,I.os,I.bare,I.base,I.loc,I.cell,I.free,I.freeC,I.pin,I.hok,I.len⟩
theorem SP.unwish{D:bP3}{f:Flow}{s':Shared}(h:SP (X.wish E) pins D f s'):SP X pins D f s':=by
 cases f with
 |next=>obtain⟨σ',H',I,q⟩:=h;exact⟨σ',H',I.unwish,q⟩
 |brk=>obtain⟨σ',H',I,q⟩:=h;exact⟨σ',H',I.unwish,q⟩
 |cont=>obtain⟨σ',H',I,q⟩:=h;exact⟨σ',H',I.unwish,q⟩
 |ret u=>obtain⟨v,σ',H',I,r,q⟩:=h;exact⟨v,σ',H',I.unwish,r,q⟩
theorem PSs.nox{st:List Stmt}{t:TS}(h:PSs X.nox st t):PSs X st t:=fun pins s σ H D I hw=>
 wpAny_mono (h pins s σ H D (I.wish _) hw) (fun _ _ q=>q.unwish) fun _ _ z=>False.elim z
end
section
variable{X:Cx}{st:Stmt}{V8:List Stmt}{t u:TS}{e:Expr}{te:TE}{pos:Pos}
noncomputable def fH9:TS:=fun D σ H=>D.nx σ H
noncomputable def fM1(t u:TS):TS:=fun D σ H=>t {D with nx:=u D} σ H
theorem eB1:PSs X [] fH9:=fun _ _ σ H _ I h=>wpAny_execs_nil ⟨σ,H,I,h⟩
theorem dM2(h1:PS X st t)(h2:PSs X V8 u):PSs X (st::V8) (fM1 t u):=by
 intro pins s σ H D I h
 refine wpAny_execs_cons (thn (h1 pins s σ H {D with nx:=u D} I h) fun f s1 q=>?_)
 cases f with
 |next=>
   obtain⟨σ',H',I',q⟩:=q
   exact h2 pins s1 σ' H' D I' q
 |ret v=>exact q
 |brk=>exact q
 |cont=>exact q
theorem eF1(h1:PS X st t):PSs X [st] t:=by
 intro pins s σ H D I h
 refine wpAny_execs_cons (thn (h1 pins s σ H D I h) fun f s1 q=>?_)
 cases f with
 |next=>exact wpAny_execs_nil q
 |ret v=>exact q
 |brk=>exact q
 |cont=>exact q
theorem Inv.quiet{pins:PNS}{σ:St}{H:Hp}{s:Shared}(I:Inv X pins σ H s):interactive X.env=false:=by simp[interactive,I.ok.kind]
noncomputable def fH3(te:TE):TS:=fun D σ H=>te σ H fun _ H1=>D.nx σ H1
theorem eI6(he:PE X e te)(hs:swapsWith e none pos.line X.env=pure false):PS X (.Expr e pos) (fH3 te):=by
 intro pins s σ H D I h
 exact wpAny_Expr_any (thn (he pins s σ H _ I h) fun v s1 hE1=>hE1.elim fun x H1 I1 r1 q1=>⟨σ,H1,I1,q1⟩) I.quiet hs
noncomputable def fM7(te:TE):TS:=fun D σ H=>te σ H D.rt
theorem eS1(he:PE X e te):PS X (.Return (some e) pos) (fM7 te):=by
 intro pins s σ H D I h
 exact wpAny_Return_some (thn (he pins s σ H _ I h) fun v s1 hE1=>hE1.elim fun x H1 I1 r1 q1=>⟨x,σ,H1,I1,r1,q1⟩)
noncomputable def fN8(c:TT)(t u:TS):TS:=fun D σ H=>c σ H fun b H1=>if b=true then t D σ H1 else u D σ H1
theorem fH5{c:Expr}{a b:List Stmt}{tc:TT}(hc:PT X c tc)(ha:PSs X a t)(hb:PSs X b u):PS X (.If c a b pos) (fN8 tc t u):=by
 intro pins s σ H D I h
 refine wpAny_If (thn (hc pins s σ H _ I h) fun d s1 hE1=>hE1.elim fun H1 I1 q1=>?_)
 cases d with
 |true=>exact ha pins s1 σ H1 D I1 q1
 |false=>exact hb pins s1 σ H1 D I1 q1
end
noncomputable abbrev TG:=V→St→Hp→(St→Hp→Prop)→Prop
noncomputable abbrev TGs:=List V→St→Hp→(St→Hp→Prop)→Prop
def PG(X:Cx)(target:Expr)(t:TG):Prop:=
 ∀(pins:PNS) (s:Shared) (σ:St) (H:Hp) (v:V) (u:Value) (Q:St→Hp→Prop),Inv X pins σ H s→J2 v u→t v σ H Q→
  wpAny (model X.prog X.w) X.A (assign target X.env u) (fun _ s'=>∃ σ' H',Inv X pins σ' H' s'∧Q σ' H') X.xe s
noncomputable def PGs(X:Cx)(ts:List Expr)(t:TGs):Prop:=
 ∀(pins:PNS) (s:Shared) (σ:St) (H:Hp) (vs:List V) (us:List Value) (Q:St→Hp→Prop),Inv X pins σ H s→w6 vs us→t vs σ H Q→
  wpAny (model X.prog X.w) X.A (assignInOrder ((assignEach ts X.env).map (·.2)) us) (fun _ s'=>∃ σ' H',Inv X pins σ' H' s'∧Q σ' H') X.xe s
noncomputable abbrev eB3:=V→V→V→Hp→(Hp→Prop)→Prop
def eR3(X:Cx)(t:eB3):Prop:=
 ∀(pins:PNS) (s:Shared) (σ:St) (H:Hp) (o i v:V) (ov iv u:Value) (Q:Hp→Prop),Inv X pins σ H s→J2 o ov→J2 i iv→J2 v u→t o i v H Q→
  wpAny (model X.prog X.w) X.A (setItem ov iv u) (fun _ s'=>∃H',Inv X pins σ H' s'∧Q H') X.xe s
section
variable{X:Cx}{pos:Pos}
noncomputable def fE0(i:Nat):TG:=fun v σ H Q=>Q (σ.set i (some v)) H
theorem eF3{i:Nat}{x:Str}(hN:X.N.Nodup)(hi:X.N[i]? =some x)(hx:Loc X.env.scope x)(hf:X.fn x=true∨X.env.scope.names.lookup x=some .local):PG X (.Name x pos) (fE0 i):=by
 intro pins s σ H v u Q I r h
 exact wpAny_assign_Name (dM6 I hN hi hx r (fun s' I'=>⟨_,H,I',h⟩) hf)
noncomputable def fK6:TGs:=fun vs σ H Q=>vs= []∧Q σ H
noncomputable def fF6(t:TG)(u:TGs):TGs:=fun vs σ H Q=>∃v r,vs=v::r∧t v σ H fun σ' H'=>u r σ' H' Q
theorem eE3:PGs X [] fK6:=by
 intro pins s σ H vs us Q I r h
 obtain⟨e,h⟩:=h
 subst e
 cases r
 exact assignInOrder_nil ⟨σ,H,I,h⟩
theorem dV0{e:Expr}{es:List Expr}{t:TG}{u:TGs}(h1:PG X e t)(h2:PGs X es u)
 (hs:(assignEach (e::es) X.env).map (·.2)=assign e X.env::(assignEach es X.env).map (·.2)):PGs X (e::es) (fF6 t u):=by
 intro pins s σ H vs us Q I r h
 obtain⟨v,vr,e1,h⟩:=h
 subst e1
 cases r with
 |cons r rr=>
   rw[hs]
   refine assignInOrder_cons (thn (h1 pins s σ H _ _ _ I r h) fun _ s1 ⟨σ1,H1,I1,q1⟩=>?_)
   exact h2 pins s1 σ1 H1 _ _ Q I1 rr q1
def fO6(K:PySem.W.Frag)(n:Nat)(t:TGs):TG:=fun v σ H Q=>∃a xs,v= .ref a∧SqT K H a xs∧xs.length=n∧t xs σ H Q
theorem eW3{es:List Expr}{k:Nat}{t:TGs}{n:Nat}(hc:X.calm=true)(h:PGs X es t)
 (hn:(assignEach es X.env).length=n) (hst:(assignEach es X.env).findIdx? (·.1)=none):PG X (.Tuple es k pos) (fO6 X.K n t):=by
 intro pins s σ H v u Q I r hw
 obtain⟨a,xs,e1,hq,hl,hw⟩:=hw
 subst e1
 cases r
 obtain⟨its,rv,ht,hz⟩:=I.tuple hq
 refine assign_Tuple_tuple (I.ok.hd hc) ht (by simp[hn,←hl,rv.length]) hst fun h' hx=>?_
 have I1:Inv X pins σ H {s with heap:=h'}:=I.kept (t':=s.toks) fun b o e=>hx b o (Nat.ne_of_lt (Heap.lt_size e)) e
 exact h pins _ σ H xs _ Q I1 (by simpa using rv) hw
noncomputable def fL9(to ti:TE)(t:eB3):TG:=fun v σ H Q=>to σ H fun o H1=>ti σ H1 fun i H2=>t o i v H2 fun H3=>Q σ H3
theorem eX5{o i:Expr}{to ti:TE}{t:eB3}(ho:PE X o to)(hi:PE X i ti)(hs:eR3 X t)
 (ha:∀v,assign (.Subscript o i pos) X.env v= (do
   let ov ←holding [v] (eval o X.env)
   let iv ←holding [v,ov] (eval i X.env)
   standAt pos
   holding [v,ov,iv] (setItem ov iv v)
   release [v,ov,iv] [])):PG X (.Subscript o i pos) (fL9 to ti t):=by
 intro pins s σ H v u Q I r h
 rw[ha]
 refine wpAny_bind (wpAny_holding (thn (ho pins s σ H _ I h) fun ov s1 ⟨x,H1,I1,r1,q1⟩=>?_))
 refine wpAny_bind (wpAny_holding (thn (hi pins s1 σ H1 _ I1 q1) fun iv s2 ⟨y,H2,I2,r2,q2⟩=>?_))
 refine wpAny_bind (wpAny_standAt (wpAny_bind (wpAny_holding (thn (hs pins s2 σ H2 x y v ov iv u _ I2 r1 r2 r q2) fun _ s3 ⟨H3,I3,q3⟩=>?_))))
 exact wpAny_release ⟨σ,H3,I3,q3⟩
noncomputable def fN7(te:TE)(g:TG):TS:=fun D σ H=>te σ H fun x H1=>g x σ H1 D.nx
theorem eX6{tg e:Expr}{te:TE}{g:TG}(he:PE X e te)(hg:PG X tg g)(hs:swapsWithSole [tg] e pos.line X.env=pure false)(hw:swappedStores [tg] e X.env=pure none)
 (h1:(assignEach [tg] X.env).map (·.2)= [assign tg X.env]):PS X (.Assign [tg] e pos) (fN7 te g):=by
 intro pins s σ H D I h
 refine wpAny_Assign_stores (thn (he pins s σ H _ I h) fun v s1 hE1=>hE1.elim fun x H1 I1 r1 q1=>?_) hs hw
 rw[h1]
 exact thn (hg pins s1 σ H1 x v _ I1 r1 q1) fun _ s2 q=>q
end
section
variable{X:Cx}{pos:Pos}
noncomputable def eR2(c:TT)(tb:TS):TS:=fun D σ H=>∃W:Nat→St→Hp→Prop,(∃m,W m σ H)∧∀m σ H,W m σ H→
 c σ H fun b H1=>if b=true then ∃N:St→Hp→Prop,(∀ σ' H',N σ' H'→∃m',m'<m∧W m' σ' H')∧tb {D with nx:=N,ct:=N,bk:=D.nx} σ H1 else D.nx σ H1
theorem dQ4{c:Expr}{body:List Stmt}{tc:TT}{tb:TS}(hp:PassesOwn (model X.prog X.w) X.A X.env X.xe)(hc:PT X c tc)(hb:PSs X body tb):PS X (.While c body [] pos) (eR2 tc tb):=by
 intro pins s σ H D I h
 obtain⟨W,⟨m0,w0⟩,turn⟩:=h
 refine wpAny_While (codeAny_whileLoop (fun n s'=>∃ σ' H',Inv X pins σ' H' s'∧W n σ' H') ?_ m0 ⟨σ,H,I,w0⟩)
 rintro n s1 ⟨σ1,H1,I1,w1⟩
 refine wpAny_passesOwn hp (thn (hc pins s1 σ1 H1 _ I1 (turn n σ1 H1 w1)) fun b s2 hE1=>hE1.elim fun H2 I2 q2=>?_)
 cases b with
 |true=>
   obtain⟨N,hN,q2⟩:=q2
   rw[if_pos rfl]
   refine wpAny_passesOwn hp (thn (hb pins s2 σ1 H2 _ I2 q2) fun f s3 q3=>?_)
   cases f with
   |next=>
     obtain⟨σ3,H3,I3,n3⟩:=q3
     obtain⟨m',hm,w3⟩:=hN σ3 H3 n3
     exact⟨m',hm,σ3,H3,I3,w3⟩
   |cont=>
     obtain⟨σ3,H3,I3,n3⟩:=q3
     obtain⟨m',hm,w3⟩:=hN σ3 H3 n3
     exact⟨m',hm,σ3,H3,I3,w3⟩
   |brk=>exact q3
   |ret v=>exact q3
 |false=>
   rw[if_neg Bool.false_ne_true]
   exact wpAny_execs_nil ⟨σ1,H2,I2,q2⟩
end
structure It where
 go:Nat→Hp→Prop
 yld:Nat→Hp→V→Hp→Prop
 stop:Nat→Hp→Prop
noncomputable def aH2(X:Cx)(pins:PNS)(H:Hp)(b:Addr):Prop:=
 H b=none∧b≠X.env.locals∧b∉X.fs∧(b∈X.ex∨X.s₀.heap.objs.size≤b)∧(∀x c,X.env.cells.lookup x=some c→c≠b)∧∀p∈X.pn++pins,p.1≠b
theorem Inv.fpOk{X:Cx}{pins:PNS}{σ:St}{H H':Hp}{s:Shared}{b:Addr}(I:Inv X pins σ H s)(hb:s.heap.objs.size≤b)(hn:H' b=none):aH2 X pins H' b:=by
 refine⟨hn,Nat.ne_of_gt (Nat.lt_of_lt_of_le I.lt hb),I.nofs hb,.inr (Nat.le_trans I.sz hb),fun x c e z=>?_,fun p hp z=>?_⟩
 · obtain⟨v,q⟩:=I.cell x c e
   exact absurd (Nat.lt_of_lt_of_le q.lt (by rw[z];exact hb)) (Nat.lt_irrefl _)
 ·exact absurd (Nat.lt_of_lt_of_le (Heap.lt_size (I.pin p hp).1) (by rw[z];exact hb)) (Nat.lt_irrefl _)
inductive TIt(X:Cx)(pins:PNS)(σ:St)(J:It)(fp:List Addr)(tn:Nat→Heap→Prop)(i:Nat)(H:Hp)(u:Value)(s2:Shared):Prop
 |mk (x:V) (H':Hp) (I:Inv X pins σ H' s2) (r:J2 x u) (y:J.yld i H x H') (st:tn (i+1) s2.heap) (fr:∀b∈fp,H' b=none)
structure bM0(P:Program)(w:World)(K:PySem.W.Frag)(tg:Expr)(J:It)(fp:List Addr)(it:Addr)(tn:Nat→Heap→Prop):Prop where
 mem:it∈fp
 obj:∀i h,tn i h→∀b∈fp,∃o,h.get? b=some o∧∀v,o.data≠ .cell v
 keep:∀i h h',tn i h→(∀b∈fp,∀o,h.get? b=some o→h'.get? b=some o)→tn i h'
 item:∀(X:Cx),X.prog=P→X.w=w→X.K=K→X.calm=true→∀(i:Nat) (pins:PNS) (s:Shared) (σ:St) (H:Hp) (E:VSP),Inv X pins σ H s→(∀b∈fp,aH2 X pins H b)→tn i s.heap→J.go i H→
  wpAny (model P w) X.A (pyNext (.ref it)) (fun r s1=>∃u,r=some u∧
   wpAny (model P w) X.A (letOwnedTupleGo tg (.ref it) u) (fun _ s2=>TIt X pins σ J fp tn i H u s2) E s1) E s
 done:∀(X:Cx),X.prog=P→X.w=w→X.K=K→X.calm=true→∀(i:Nat) (pins:PNS) (s:Shared) (σ:St) (H:Hp) (E:VSP),Inv X pins σ H s→(∀b∈fp,aH2 X pins H b)→tn i s.heap→J.stop i H→
  wpAny (model P w) X.A (pyNext (.ref it)) (fun r s1=>r=none∧Inv X pins σ H s1) E s
 self:∀(A:Around) (i:Nat) (s:Shared) (Q:VSP) (E:VSP),tn i s.heap→Q (.ref it) s→wpAny (model P w) A (pyIter (.ref it)) Q E s
noncomputable abbrev TI:=St→Hp→(It→Hp→Prop)→Prop
inductive PIE(X:Cx)(pins:PNS)(σ:St)(tg:Expr)(R:It→Hp→Prop)(itv:Value)(s2:Shared):Prop
 |mk (it:Addr) (fp:List Addr) (tn:Nat→Heap→Prop) (J:It) (H':Hp) (e:itv= .ref it) (I:Inv X pins σ H' s2) (T:bM0 X.prog X.w X.K tg J fp it tn) (st:tn 0 s2.heap) (f:∀b∈fp,aH2 X pins H' b) (r:R J H')
noncomputable def PI(X:Cx)(tg iter:Expr)(wi:TI):Prop:=
 ∀(pins:PNS) (s:Shared) (σ:St) (H:Hp) (R:It→Hp→Prop),Inv X pins σ H s→wi σ H R→
  wpAny (model X.prog X.w) X.A (eval iter X.env) (fun v s1=>wpAny (model X.prog X.w) X.A (pyIter v) (PIE X pins σ tg R) X.xe s1) X.xe s
theorem bZ5{M:Model}{A:Around}{E:VSP}{s:Shared}{tg:Expr}{it:Addr}{u:Value}{o:Obj}{n:String}{vs:Array Value}{Q:Unit→Shared→Prop}(ho:s.heap.get? it=some o)(hc:o.cls= .type n)(hd:o.data= .fields vs)
 (hn: ["enumerate", "zip", "dict_itemiterator", "dict_reverseitemiterator", "odict_iterator", "itertools.zip_longest", "itertools.pairwise"].contains n=false) (hQ:Q () s):wpAny M A (letOwnedTupleGo tg (.ref it) u) Q E s:=by
 unfold letOwnedTupleGo
 cases tg<;>first
  |exact wpAny_pure hQ
  | (cases u <;> first
      |exact wpAny_pure hQ
      | (refine wpAny_bind (wpAny_load ho ?_)
         rw[hc,hd]
         show wpAny M A (if (["enumerate", "zip", "dict_itemiterator", "dict_reverseitemiterator", "odict_iterator", "itertools.zip_longest", "itertools.pairwise"].contains n&&vs[0]? == some (rawInt _))=true then _ else _) Q E s
         rw[if_neg (by intro h;rw[hn,Bool.false_and]at h;cases h)]
         exact wpAny_pure hQ))
def Itl(K:PySem.W.Frag)(a:Addr):It:=
 ⟨fun i H=>∃xs x,SqL K H a xs∧xs[i]? =some x,fun i H x H'=>H'=H∧∀xs,SqL K H a xs→xs[i]? =some x,fun i H=>∃xs,SqL K H a xs∧xs.length≤i⟩
def Itt(K:PySem.W.Frag)(a:Addr):It:=
 ⟨fun i H=>∃xs x,SqT K H a xs∧xs[i]? =some x,fun i H x H'=>H'=H∧∀xs,SqT K H a xs→xs[i]? =some x,fun i H=>∃xs,SqT K H a xs∧xs.length≤i⟩
noncomputable def Itr(lo:Int)(n:Nat):It:=⟨fun i _=>i<n,fun i H x H'=>H'=H∧x= .int (lo+i),fun i _=>n≤i⟩
theorem dI4{P:Program}{w:World}{K:PySem.W.Frag}{tg:Expr}(a it:Addr):bM0 P w K tg (Itl K a) [it] it (fun i h=>h.IsListIter it a i) where
 mem:=by simp
 obj:=fun i h st b hb=>by
  have e:b=it:=by simpa using hb
  subst e
  obtain⟨o,e,c,d⟩:=st
  exact⟨o,e,fun v z=>by rw[d]at z;cases z⟩
 keep:=fun i h h' st k=>st.at fun o e=>k it (by simp) o e
 item:=by
  intro X hP hw hK hc i pins s σ H E I hf st hg
  subst hP hw hK
  obtain⟨xs,x,hq,hx⟩:=hg
  obtain⟨its,rv,p,hz⟩:=I.list hq
  obtain⟨u,hu,ru⟩:=rv.get hx
  obtain⟨f0,f1,f2,f3,f4,f5⟩:=hf it (by simp)
  refine wpAny_pyNext_list_item st p.isList (x:=u) (by simpa using hu) fun h' st' sb=>?_
  have I1:Inv X pins σ H {s with heap:=h'}:=I.turned (t':=s.toks) (fun b o hb e=>(sb.2 b hb).trans e) f0 f1 f3 f4 f5
  obtain⟨o,e,c,d⟩:=id st'
  exact⟨u,rfl,bZ5 (s:={s with heap:=h'}) e c d (by decide) ⟨x,H,I1,ru,⟨rfl,fun ys hy=>by rw[I.list_inj hy hq];exact hx⟩,st',fun b hb=>(hf b hb).1⟩⟩
 done:=by
  intro X hP hw hK hc i pins s σ H E I hf st hg
  subst hP hw hK
  obtain⟨xs,hq,hx⟩:=hg
  obtain⟨its,rv,p,hz⟩:=I.list hq
  obtain⟨f0,f1,f2,f3,f4,f5⟩:=hf it (by simp)
  have hl:=rv.length
  exact wpAny_pyNext_list_end (I.ok.hd hc) st p.isList (by simp;lia) fun h' eb=>⟨rfl,I.turned (t':=s.toks) (fun b o hb e=>eb b o hb e) f0 f1 f3 f4 f5⟩
 self:=fun _ _ _ _ _ st h=>wpAny_pyIter_listiter st h
theorem cS1{P:Program}{w:World}{K:PySem.W.Frag}{tg:Expr}(a it:Addr):bM0 P w K tg (Itt K a) [it] it (fun i h=>h.IsTupleIter it a i) where
 mem:=by simp
 obj:=fun i h st b hb=>by
  have e:b=it:=by simpa using hb
  subst e
  obtain⟨o,e,c,d⟩:=st
  exact⟨o,e,fun v z=>by rw[d]at z;cases z⟩
 keep:=fun i h h' st k=>st.at fun o e=>k it (by simp) o e
 item:=by
  intro X hP hw hK hc i pins s σ H E I hf st hg
  subst hP hw hK
  obtain⟨xs,x,hq,hx⟩:=hg
  obtain⟨its,rv,p,hz⟩:=I.tuple hq
  obtain⟨u,hu,ru⟩:=rv.get hx
  obtain⟨f0,f1,f2,f3,f4,f5⟩:=hf it (by simp)
  refine wpAny_pyNext_tuple_item st (show s.heap.IsTuple a its.toArray from p) (x:=u) (by simpa using hu) fun h' st' sb=>?_
  have I1:Inv X pins σ H {s with heap:=h'}:=I.turned (t':=s.toks) (fun b o hb e=>(sb.2 b hb).trans e) f0 f1 f3 f4 f5
  obtain⟨o,e,c,d⟩:=id st'
  exact⟨u,rfl,bZ5 (s:={s with heap:=h'}) e c d (by decide) ⟨x,H,I1,ru,⟨rfl,fun ys hy=>by rw[I.tuple_inj hy hq];exact hx⟩,st',fun b hb=>(hf b hb).1⟩⟩
 done:=by
  intro X hP hw hK hc i pins s σ H E I hf st hg
  subst hP hw hK
  obtain⟨xs,hq,hx⟩:=hg
  obtain⟨its,rv,p,hz⟩:=I.tuple hq
  obtain⟨f0,f1,f2,f3,f4,f5⟩:=hf it (by simp)
  have hl:=rv.length
  exact wpAny_pyNext_tuple_end (I.ok.hd hc) st (show s.heap.IsTuple a its.toArray from p) (by simp;lia) fun h' eb=>⟨rfl,I.turned (t':=s.toks) (fun b o hb e=>eb b o hb e) f0 f1 f3 f4 f5⟩
 self:=fun _ _ _ _ _ st h=>wpAny_pyIter_tupleiter st h
theorem cT8{P:Program}{w:World}{K:PySem.W.Frag}{tg:Expr}(it:Addr)(lo:Int)(n:Nat):bM0 P w K tg (Itr lo n) [it] it (fun i h=>IsRangeIter h it (lo+(i:Nat)*1) ((n:Int)-(i:Nat)) 1) where
 mem:=by simp
 obj:=fun i h st b hb=>by
  have e:b=it:=by simpa using hb
  subst e
  exact⟨_,st,fun v z=>by
   have z':Data.fields _=Data.cell v:=z
   cases z'⟩
 keep:=fun i h h' st k=>k it (by simp) _ st
 item:=by
  intro X hP hw hK hc i pins s σ H E I hf st hg
  subst hP hw hK
  obtain⟨f0,f1,f2,f3,f4,f5⟩:=hf it (by simp)
  have W:=Walks.range (prog:=X.prog) (w:=X.w) (I.ok.hd hc) it lo 1 n
  refine W.item i s _ _ hg st fun v h' tk hv st' kk=>?_
  obtain⟨t,rfl⟩:=hv
  have I1:Inv X pins σ H {s with heap:=h',toks:=tk}:=I.turned (fun b o hb e=>kk b o (by simpa using hb) e) f0 f1 f3 f4 f5
  refine⟨_,rfl,bZ5 (s:={s with heap:=h',toks:=tk}) (n:= "range_iterator") st' rfl rfl (by decide) ⟨.int (lo+i),H,I1,⟨t,?_⟩,⟨rfl,rfl⟩,st',fun b hb=>(hf b hb).1⟩⟩
  rw[Int.mul_one]
 done:=by
  intro X hP hw hK hc i pins s σ H E I hf st hg
  subst hP hw hK
  obtain⟨f0,f1,f2,f3,f4,f5⟩:=hf it (by simp)
  exact wpAny_pyNext_range_end (I.ok.hd hc) st (by have:n≤i:=hg;lia) fun h' eb=>⟨rfl,I.turned (t':=s.toks) (fun b o hb e=>eb b o hb e) f0 f1 f3 f4 f5⟩
 self:=fun _ _ _ _ _ st h=>wpAny_pyIter_rangeiter st h
section
variable{X:Cx}{tg:Expr}
theorem dS8{pins:PNS}{σ:St}{H:Hp}{s:Shared}{R:It→Hp→Prop}{E:VSP}{lo hi:Int}{t u v:Tok}{tk:Nat}(I:Inv X pins σ H s)(h1: -(2 ^ 62)≤lo)(h2:lo<2 ^ 62)(h3: -(2 ^ 62)≤hi)(h4:hi<2 ^ 62)
 (q:R (Itr lo (hi-lo).toNat) H):wpAny (model X.prog X.w) X.A (pyIter (.ref s.heap.objs.size)) (PIE X pins σ tg R) E {s with heap:=s.heap.push {cls:=.type "range",data:=.fields #[.int lo t,.int hi u,.int 1 v]},toks:=tk}:=by
 refine wpAny_pyIter_range (IsRange.new ..) (small_one h1 h2 h3 h4) ?_
 have I1:Inv X pins σ H {s with heap:=s.heap.push {cls:=.type "range",data:=.fields #[.int lo t,.int hi u,.int 1 v]},toks:=tk}:=I.kept fun b o e=>Heap.get?_push_of_some _ e
 refine⟨(s.heap.push {cls:=.type "range",data:=.fields #[.int lo t,.int hi u,.int 1 v]}).objs.size, [(s.heap.push {cls:=.type "range",data:=.fields #[.int lo t,.int hi u,.int 1 v]}).objs.size],_,_,H,rfl,
  I1.kept (t':=tk) fun b o e=>Heap.get?_push_of_some _ e,cT8 _ lo (hi-lo).toNat,?_,fun b hb=>?_,q⟩
 · have e1:lo+((0:Nat):Int)*1=lo:=by simp
   have e2:(((hi-lo).toNat:Nat):Int)-((0:Nat):Int)=Builtin.Range.rangeSize lo hi 1:=by rw[rangeSize_one];split<;>lia
   show IsRangeIter _ _ (lo+((0:Nat):Int)*1) ((((hi-lo).toNat:Nat):Int)-((0:Nat):Int)) 1
   rw[e1,e2]
   exact Heap.get?_push_size _ rfl
 · have e:b= (s.heap.push {cls:=.type "range",data:=.fields #[.int lo t,.int hi u,.int 1 v]}).objs.size:=by simpa using hb
   subst e
   exact I1.fpOk (Nat.le_refl _) (I1.hok.fresh (Nat.le_refl _))
def fJ0(ta:TA):TI:=fun σ H R=>ta σ H fun vs H1=>∃j:Int,vs= [.int j]∧ -(2 ^ 62)≤j∧j<2 ^ 62∧R (Itr 0 j.toNat) H1
theorem dI3{a:Expr}{ta:TA}{p pos:Pos}(hg:Gl X "range")(hm:X.mg "range" =none)(ha:PA X [a] ta)(hs:starEach [a] X.env= [(false,eval a X.env)]):PI X tg (.Call (.Name "range" p) [a] [] pos) (fJ0 ta):=by
 intro pins s σ H R I h
 refine Call_ (aL9 I hg hm boot_range (PyProof.Rows.callWith_type1 (thn (ha pos pins s σ H _ I h) fun us s1 hE1=>hE1.elim fun vs H1 I1 r1 q1=>?_) hs rfl))
 obtain⟨j,e,q1,q2,q⟩:=q1
 subst e
 cases r1 with
 |cons r rr=>
   cases rr
   obtain⟨t,rfl⟩:=r
   exact call_range_1 (dS8 I1 (by lia) (by lia) q1 q2 (by simpa using q))
noncomputable def fO3(wi:TI)(g:TG)(tb:TS):TS:=fun D σ H=>wi σ H fun J H1=>∃W:Nat→Nat→St→Hp→Prop,(∃m,W 0 m σ H1)∧∀i m σ H,W i m σ H→
 (J.stop i H∧D.nx σ H)∨(J.go i H∧∃N:St→Hp→Prop,(∀ σ' H',N σ' H'→∃m',m'<m∧W (i+1) m' σ' H')∧∀x H',J.yld i H x H'→g x σ H' fun σ2 H2=>tb {D with nx:=N,ct:=N,bk:=D.nx} σ2 H2)
noncomputable def bO8(fp:List Addr)(h:Heap):PNS:=fp.filterMap fun b=>(h.get? b).map fun o=>(b,o)
theorem aB8{fp:List Addr}{h:Heap}{b:Addr}{o:Obj}(hb:b∈fp)(e:h.get? b=some o):(b,o)∈bO8 fp h:=List.mem_filterMap.mpr ⟨b,hb,by rw[e];rfl⟩
theorem dE7{fp:List Addr}{h:Heap}{p:Addr×Obj}(hp:p∈bO8 fp h):p.1∈fp∧h.get? p.1=some p.2:=by
 obtain⟨b,hb,e⟩:=List.mem_filterMap.mp hp
 cases q:h.get? b with
 |none=>rw[q]at e;cases e
 |some o=>
   rw[q]at e
   have e':(b,o)=p:=Option.some.inj e
   subst e'
   exact⟨hb,q⟩
theorem Inv.pinned{pins:PNS}{σ:St}{H:Hp}{s:Shared}{fp:List Addr}(I:Inv X pins σ H s)(hf:∀b∈fp,aH2 X pins H b)(ho:∀b∈fp,∃o,s.heap.get? b=some o∧∀v,o.data≠ .cell v):Inv X (pins++bO8 fp s.heap) σ H s:=
 I.pins_of fun p hp=>(List.mem_append.mp hp).elim (fun z=>I.pin p (List.mem_append_right _ z)) fun z=>by
  obtain⟨hb,e⟩:=dE7 z
  obtain⟨f0,f1,f2,_⟩:=hf p.1 hb
  obtain⟨o,e',d⟩:=ho p.1 hb
  rw[e]at e';cases e'
  exact⟨e,f0,f1,f2,d⟩
theorem Inv.unpinned{pins pl:PNS}{σ:St}{H:Hp}{s:Shared}(I:Inv X (pins++pl) σ H s):Inv X pins σ H s:=I.pins_of fun p hp=>I.pin p (List.mem_append_right _ (List.mem_append_left _ hp))
inductive eM7(X:Cx)(pins:PNS)(fp:List Addr)(tn:Nat→Heap→Prop)(W:Nat→Nat→St→Hp→Prop)(n:Nat)(s':Shared):Prop
 |mk (i:Nat) (σ':St) (H':Hp) (I:Inv X pins σ' H' s') (st:tn i s'.heap) (fr:∀b∈fp,H' b=none) (w:W i n σ' H')
theorem eB6{body:List Stmt}{g:TG}{tb:TS}{pins:PNS}{D:bP3}{it:Addr}{fp:List Addr}{tn:Nat→Heap→Prop}{J:It}{W:Nat→Nat→St→Hp→Prop}{EE:VSP}(hp:∀e s,X.xe e s→EE e s)(hc:X.calm=true)(hg:PG X tg g)(hb:PSs X body tb)
 (T:bM0 X.prog X.w X.K tg J fp it tn) (stat:∀ {H':Hp},(∀b∈fp,H' b=none)→∀b∈fp,aH2 X pins H' b)
 (turn:∀i m σ H,W i m σ H→
 (J.stop i H∧D.nx σ H)∨(J.go i H∧∃N:St→Hp→Prop,(∀ σ' H',N σ' H'→∃m',m'<m∧W (i+1) m' σ' H')∧∀x H',J.yld i H x H'→g x σ H' fun σ2 H2=>tb {D with nx:=N,ct:=N,bk:=D.nx} σ2 H2))
   {n:Nat} {s3:Shared} (h3:eM7 X pins fp tn W n s3) {NX:Shared→Prop} (nx:∀m s,m<n→eM7 X pins fp tn W m s→NX s):
   wpAny (model X.prog X.w) X.A (pyNext (.ref it)) (fun r s1=>match r with
    |none=>wpAny (model X.prog X.w) X.A (execs [] X.env) (fun f s2=>SP X pins D f s2) EE s1
    | some v => wpAny (model X.prog X.w) X.A (letOwnedTupleGo tg (.ref it) v) (fun _ s2 => wpAny (model X.prog X.w) X.A (assign tg X.env v) (fun _ s4 => wpAny (model X.prog X.w) X.A (execs body X.env) (fun f s5 => match f with
       | .next| .cont=>NX s5
       | .brk=>SP X pins D .next s5
       | .ret v=>SP X pins D (.ret v) s5) EE s4) EE s2) EE s1) EE s3:=by
 obtain⟨i,σ3,H3,I3,st3,fr3,w3⟩:=h3
 rcases turn i n σ3 H3 w3 with⟨stop,qn⟩|⟨go,N,hN,step⟩
 · refine wpAny_mono (T.done X rfl rfl rfl hc i pins s3 σ3 H3 X.xe I3 (stat fr3) st3 stop) (fun r s4 z1=>?_) hp
   obtain⟨hr,I4⟩:=z1
   subst hr
   exact wpAny_execs_nil ⟨σ3,H3,I4,qn⟩
 · refine wpAny_mono (T.item X rfl rfl rfl hc i pins s3 σ3 H3 X.xe I3 (stat fr3) st3 go) (fun r s4 z2=>?_) hp
   obtain⟨u,hr,h4⟩:=z2
   subst hr
   refine wpAny_mono h4 (fun _ s5 z3=>?_) hp
   obtain⟨x,H5,I5,r5,y5,st5,fr5⟩:=z3
   have I5':=I5.pinned (stat fr5) (T.obj _ _ st5)
   refine wpAny_mono (hg _ s5 σ3 H5 x u _ I5' r5 (step x H5 y5)) (fun _ s6 z4=>?_) hp
   obtain⟨σ6,H6,I6,q6⟩:=z4
   refine wpAny_mono (hb _ s6 σ6 H6 _ I6 q6) (fun f s7 q7=>?_) hp
   have again:∀ {σ7:St} {H7:Hp},Inv X (pins++bO8 fp s5.heap) σ7 H7 s7→N σ7 H7→NX s7:=fun {σ7 H7} I7 n7=>by
    obtain⟨m',hm,w7⟩:=hN σ7 H7 n7
    refine nx m' _ hm ⟨i+1,σ7,H7,I7.unpinned,T.keep _ _ _ st5 fun b hb o e=>(I7.pin (b,o) (List.mem_append_right _ (List.mem_append_right _ (aB8 hb e)))).1,fun b hb=>?_,w7⟩
    obtain⟨o,e,d⟩:=T.obj _ _ st5 b hb
    exact(I7.pin (b,o) (List.mem_append_right _ (List.mem_append_right _ (aB8 hb e)))).2.1
   cases f with
   |next=>obtain⟨σ7,H7,I7,n7⟩:=q7;exact again I7 n7
   |cont=>obtain⟨σ7,H7,I7,n7⟩:=q7;exact again I7 n7
   |brk=>obtain⟨σ7,H7,I7,q7⟩:=q7;exact⟨σ7,H7,I7.unpinned,q7⟩
   |ret v=>obtain⟨x7,σ7,H7,I7,r7,q7⟩:=q7;exact⟨x7,σ7,H7,I7.unpinned,r7,q7⟩
theorem eN1{iter:Expr}{body:List Stmt}{wi:TI}{g:TG}{tb:TS}{pos:Pos}(hp:PassesOwn (model X.prog X.w) X.A X.env X.xe)(hc:X.calm=true)(hi:PI X tg iter wi)(hg:PG X tg g)(hb:PSs X body tb)
 (hs:∀x,foldedSetIterable iter X.env x=pure x):PS X (.For tg iter body [] pos) (fO3 wi g tb):=by
 intro pins s σ H D I h
 refine wpAny_For (thn (hi pins s σ H _ I h) fun v s1 h1=>thn h1 fun itv s2 h2=>?_) hs
 obtain⟨it,fp,tn,J,H2,e,I2,T,st2,f2,W,⟨m0,w0⟩,turn⟩:=h2
 subst e
 -- what stays true of the iterator's objects through the loop
 have stat:∀ {H':Hp},(∀b∈fp,H' b=none)→∀b∈fp,aH2 X pins H' b:=fun hn b hb=>⟨hn b hb,(f2 b hb).2⟩
 exact codeAny_forLoop_any (eM7 X pins fp tn W) (fun n s3 h3=>eB6 hp hc hg hb T stat turn h3 fun m s h1 h2=>⟨m,h1,h2⟩) m0 ⟨0,σ,H2,I2,st2,fun b hb=>(f2 b hb).1,w0⟩
end
noncomputable abbrev R2:=V→V→Hp→VK→Prop
def OpR(X:Cx)(f:Value→Value→Sem Value)(r:R2):Prop:=
 ∀(pins:PNS) (s:Shared) (σ:St) (H:Hp) (x y:V) (v u:Value) (Q:VK),Inv X pins σ H s→J2 x v→J2 y u→r x y H Q→
  wpAny (model X.prog X.w) X.A (f v u) (EP X pins σ Q) X.xe s
def UnR(X:Cx)(f:Value→Sem Value)(r:V→Hp→VK→Prop):Prop:=
 ∀(pins:PNS) (s:Shared) (σ:St) (H:Hp) (x:V) (v:Value) (Q:VK),Inv X pins σ H s→J2 x v→r x H Q→
  wpAny (model X.prog X.w) X.A (f v) (EP X pins σ Q) X.xe s
def aC3(X:Cx)(f:Value)(r:List V→Hp→VK→Prop):Prop:=
 ∀(pins:PNS) (s:Shared) (σ:St) (H:Hp) (xs:List V) (us:List Value) (Q:VK),Inv X pins σ H s→w6 xs us→r xs H Q→
  wpAny (model X.prog X.w) X.A (call f us) (EP X pins σ Q) X.xe s
def fM8(X:Cx)(r:V→Hp→(Bool→Hp→Prop)→Prop):Prop:=
 ∀(pins:PNS) (s:Shared) (σ:St) (H:Hp) (x:V) (v:Value) (Q:Bool→Hp→Prop),Inv X pins σ H s→J2 x v→r x H Q→
  wpAny (model X.prog X.w) X.A (truthy v) (TP X pins σ Q) X.xe s
noncomputable def tOp(r:R2)(ta tb:TE):TE:=fun σ H Q=>ta σ H fun x H1=>tb σ H1 fun y H2=>r x y H2 Q
noncomputable def tUn(r:V→Hp→VK→Prop)(ta:TE):TE:=fun σ H Q=>ta σ H fun x H1=>r x H1 Q
noncomputable def rI(C:Int→Int→Prop)(g:Int→Int→V):R2:=fun x y H Q=>∃i j,x= .int i∧y= .int j∧C i j∧Q (g i j) H
noncomputable def rI0(g:Int→Int→V):R2:=fun x y H Q=>∃i j,x= .int i∧y= .int j∧Q (g i j) H
noncomputable def rU(g:Int→V):V→Hp→VK→Prop:=fun x H Q=>∃i,x= .int i∧Q (g i) H
section
variable{X:Cx}{a b c:Expr}{ta tb tc:TE}{pos:Pos}
theorem eW5(ha:PE X a ta)(hb:PE X b tb){pins:PNS}{s:Shared}{σ:St}{H:Hp}{R:V→V→Hp→Prop}(I:Inv X pins σ H s)
 (h:ta σ H fun x H1=>tb σ H1 fun y H2=>R x y H2) {Q:VSP} {f:Value→Value→Sem Value}
 (hf:∀v u s2 x y H2,Inv X pins σ H2 s2→J2 x v→J2 y u→R x y H2→wpAny (model X.prog X.w) X.A (f v u) Q X.xe s2):
 wpAny (model X.prog X.w) X.A (eval a X.env) (fun v s₁=>wpAny (model X.prog X.w) X.A (eval b X.env) (fun u s₂=>wpAny (model X.prog X.w) X.A (f v u) Q X.xe s₂) X.xe s₁) X.xe s:=by
 refine thn (ha pins s σ H _ I h) fun v s1 hE1=>hE1.elim fun x H1 I1 r1 q1=>?_
 refine thn (hb pins s1 σ H1 _ I1 q1) fun u s2 hE1=>hE1.elim fun y H2 I2 r2 q2=>?_
 exact hf v u s2 x y H2 I2 r1 r2 q2
theorem dK7{op:Operator}{r:R2}(ho:OpR X (binaryOp op) r)(ha:PE X a ta)(hb:PE X b tb):PE X (.BinOp a op b pos) (tOp r ta tb):=by
 intro pins s σ H Q I h
 exact wpAny_BinOp (eW5 ha hb I h fun v u s2 x y H2 I2 rx ry q=>ho pins s2 σ H2 x y v u Q I2 rx ry q)
theorem fC1{op:UnaryOp}{r:V→Hp→VK→Prop}(ho:UnR X (unaryOp op) r)(ha:PE X a ta):PE X (.UnaryOp op a pos) (tUn r ta):=by
 intro pins s σ H Q I h
 exact UnaryOp_ (thn (ha pins s σ H _ I h) fun v s1 hE1=>hE1.elim fun x H1 I1 r1 q1=>ho pins s1 σ H1 x v Q I1 r1 q1)
theorem opI{f:Value→Value→Sem Value}{C:Int→Int→Prop}{g:Int→Int→Int}
 (rule:∀(i j:Int) (t u:Tok) (s:Shared) (Q:VSP) (E:VSP),C i j→Q (.int (g i j) s.toks) {s with toks:=s.toks+1}→wpAny (model X.prog X.w) X.A (f (.int i t) (.int j u)) Q E s):
 OpR X f (rI C fun i j=>.int (g i j)):=by
 intro pins s σ H x y v u Q I rx ry h
 obtain⟨i,j,rfl,rfl,hc,q⟩:=h
 obtain⟨t,rfl⟩:=rx
 obtain⟨t',rfl⟩:=ry
 exact rule i j t t' s _ _ hc ⟨.int (g i j),H,I.tok _,⟨_,rfl⟩,q⟩
theorem fE2{f:Value→Value→Sem Value}{g:Int→Int→Int}
 (rule:∀(i j:Int) (t u:Tok) (s:Shared) (Q:VSP) (E:VSP),Q (.int (g i j) s.toks) {s with toks:=s.toks+1}→wpAny (model X.prog X.w) X.A (f (.int i t) (.int j u)) Q E s):
 OpR X f (rI0 fun i j=>.int (g i j)):=by
 intro pins s σ H x y v u Q I rx ry h
 obtain⟨i,j,rfl,rfl,q⟩:=h
 obtain⟨t,rfl⟩:=rx
 obtain⟨t',rfl⟩:=ry
 exact rule i j t t' s _ _ ⟨.int (g i j),H,I.tok _,⟨_,rfl⟩,q⟩
theorem fB6{f:Value→Value→Sem Value}{g:Int→Int→Bool}
 (rule:∀(i j:Int) (t u:Tok) (s:Shared) (Q:VSP) (E:VSP),Q (.bool (g i j)) s→wpAny (model X.prog X.w) X.A (f (.int i t) (.int j u)) Q E s):
 OpR X f (rI0 fun i j=>.bl (g i j)):=by
 intro pins s σ H x y v u Q I rx ry h
 obtain⟨i,j,rfl,rfl,q⟩:=h
 obtain⟨t,rfl⟩:=rx
 obtain⟨t',rfl⟩:=ry
 exact rule i j t t' s _ _ ⟨.bl (g i j),H,I,rfl,q⟩
noncomputable def dT8(i j:Int):Prop:=0≤j∧j≤1000000∧i.natAbs<2 ^ 64
noncomputable def bU7(i j:Int):Prop:=(-(2 ^ 64)<i∧i<2 ^ 64)∨(-(2 ^ 64)<j∧j<2 ^ 64)
theorem bU7.ok{i j:Int}(h:bU7 i j):IntMulOk i j:=by
 rcases h with⟨h1,h2⟩|⟨h1,h2⟩
 ·exact .of_left (intBits_le_64 h1 h2)
 ·exact .of_right (intBits_le_64 h1 h2)
theorem eP1:OpR X (binaryOp .Add) (rI0 fun i j=>.int (i+j)):=fE2 fun _ _ _ _ _ _ _ q=>add_int q
theorem eW4:OpR X (binaryOp .Sub) (rI0 fun i j=>.int (i-j)):=fE2 fun _ _ _ _ _ _ _ q=>sub_int q
theorem eO6:OpR X (binaryOp .Mult) (rI bU7 fun i j=>.int (i*j)):=opI fun _ _ _ _ _ _ _ hc q=>mul_int q hc.ok
theorem eY9:OpR X (binaryOp .Mod) (rI (fun _ j=>0<j) fun i j=>.int (i % j)):=opI fun i j _ _ _ _ _ hc q=>by
 have h1:(0:Int)<j:=hc
 exact mod_int' (by lia) (by rw[Int.fmod_eq_emod_of_nonneg i (by lia)];exact q)
theorem eV1:OpR X (binaryOp .Pow) (rI dT8 fun i j=>.int (i ^ j.toNat)):=opI fun _ _ _ _ _ _ _ hc q=>pow_int_small hc.1 hc.2.1 hc.2.2 q
theorem unI{f:Value→Sem Value}{g:Int→Int}
 (rule:∀(i:Int) (t:Tok) (s:Shared) (Q:VSP) (E:VSP),Q (.int (g i) s.toks) {s with toks:=s.toks+1}→wpAny (model X.prog X.w) X.A (f (.int i t)) Q E s):
 UnR X f (rU fun i=>.int (g i)):=by
 intro pins s σ H x v Q I rx h
 obtain⟨i,rfl,q⟩:=h
 obtain⟨t,rfl⟩:=rx
 exact rule i t s _ _ ⟨.int (g i),H,I.tok _,⟨_,rfl⟩,q⟩
theorem eY4:UnR X (unaryOp .USub) (rU fun i=>.int (-i)):=unI fun _ _ _ _ _ q=>neg_int q
end
section
variable{X:Cx}{a b c:Expr}{ta tb tc:TE}{pos:Pos}
theorem cV5{pins:PNS}{σ:St}{H:Hp}{s:Shared}{Q:VK}{k k':Bool}(I:Inv X pins σ H s)(q:Q (.bl k) H)(e:k=k'):EP X pins σ Q (.bool k') s:=by
 subst e
 exact⟨.bl k,H,I,rfl,q⟩
theorem fE1:OpR X (compareOp .LtE) (rI0 fun i j=>.bl (decide (i≤j))):=fB6 fun _ _ _ _ _ _ _ q=>le_int q
theorem fG2:OpR X (compareOp .Gt) (rI0 fun i j=>.bl (decide (j<i))):=fB6 fun _ _ _ _ _ _ _ q=>gt_int q
theorem dG8:OpR X (compareOp .In) (fun x y H Q=>∃i j,x= .str i∧y= .str j∧Q (.bl (!(Builtin.Str.occurrences j i 0 j.length 1).isEmpty)) H):=by
 intro pins s σ H x y v u Q I rx ry h
 obtain⟨i,j,rfl,rfl,q⟩:=h
 obtain⟨t,rfl⟩:=rx
 obtain⟨t',rfl⟩:=ry
 exact in_str (cV5 I q rfl)
theorem eR6:OpR X (compareOp .Is) (fun x y H Q=>y= .non∧Q (.bl (decide (x= .non))) H):=by
 intro pins s σ H x y v u Q I rx ry h
 obtain⟨rfl,q⟩:=h
 cases ry
 refine is_none_gen (cV5 I q ?_)
 cases x<;>first
  |(cases rx;rfl)
  |(obtain⟨t,rfl⟩:=rx;rfl)
theorem eD4:OpR X (compareOp .IsNot) (fun x y H Q=>y= .non∧Q (.bl (!decide (x= .non))) H):=by
 intro pins s σ H x y v u Q I rx ry h
 obtain⟨rfl,q⟩:=h
 cases ry
 refine isnot_none_gen (cV5 I q ?_)
 cases x<;>first
  |(cases rx;rfl)
  |(obtain⟨t,rfl⟩:=rx;rfl)
theorem OpR.or{f:Value→Value→Sem Value}{r r':R2}(h:OpR X f r)(h':OpR X f r'):OpR X f (fun x y H Q=>r x y H Q∨r' x y H Q):=by
 intro pins s σ H x y v u Q I rx ry q
 rcases q with q|q
 ·exact h pins s σ H x y v u Q I rx ry q
 ·exact h' pins s σ H x y v u Q I rx ry q
theorem eG1{op:CmpOp}{r:R2}(ho:OpR X (compareOp op) r)(ha:PE X a ta)(hb:PE X b tb)(hm:behindInMarks op b=false):PE X (.Compare a [op] [b] pos) (tOp r ta tb):=by
 intro pins s σ H Q I h
 exact wpAny_Compare1 (eW5 ha hb I h fun v u s2 x y H2 I2 rx ry q=>ho pins s2 σ H2 x y v u Q I2 rx ry q) hm
noncomputable def fE4(t:TE):TT:=fun σ H Q=>t σ H fun x H'=>∃k,x= .bl k∧Q k H'
theorem eC2{op:CmpOp}{r:R2}(ho:OpR X (compareOp op) r)(ha:PE X a ta)(hb:PE X b tb)(hm:behindInMarks op b=false):PT X (.Compare a [op] [b] pos) (fE4 (tOp r ta tb)):=by
 intro pins s σ H Q I h
 refine wpAny_isTrue_Compare1 (thn (ha pins s σ H _ I h) fun v s1 hE1=>hE1.elim fun x H1 I1 r1 q1=>thn (hb pins s1 σ H1 _ I1 q1) fun u s2 hE1=>hE1.elim fun y H2 I2 r2 q2=>
  thn (ho pins s2 σ H2 x y v u _ I2 r1 r2 q2) fun c s3 ⟨z,H3,I3,r3,k,e,q3⟩=>?_) hm
 subst e
 cases r3
 exact wpAny_truthy_bool ⟨H3,I3,q3⟩
noncomputable def eX4(r r':R2)(ta tb tc:TE):TE:=fun σ H Q=>ta σ H fun x H1=>tb σ H1 fun y H2=>r x y H2 fun z H3=>∃k,z= .bl k∧
 (if k=true then tc σ H3 fun w' H4=>r' y w' H4 Q else Q (.bl false) H3)
theorem dQ8{op op':CmpOp}{r r':R2}(ho:OpR X (compareOp op) r)(ho':OpR X (compareOp op') r')(ha:PE X a ta)(hb:PE X b tb)(hc:PE X c tc)
 (hm:lastMarks [op,op'] [b,c]=false):PE X (.Compare a [op,op'] [b,c] pos) (eX4 r r' ta tb tc):=by
 intro pins s σ H Q I h
 refine Compare_chain (thn (ha pins s σ H _ I h) fun v s1 hE1=>hE1.elim fun x H1 I1 r1 q1=>chain_link (thn (hb pins s1 σ H1 _ I1 q1) fun u s2 hE1=>hE1.elim fun y H2 I2 r2 q2=>
  thn (ho pins s2 σ H2 x y v u _ I2 r1 r2 q2) fun d s3 ⟨z,H3,I3,r3,k,e,q3⟩=>?_)) hm
 subst e
 cases r3
 refine wpAny_truthy_bool ?_
 cases k with
 |false=>exact ite_ff ⟨.bl false,H3,I3,rfl,q3⟩
 |true=>exact ite_tt (chain_last (thn (hc pins s3 σ H3 _ I3 q3) fun w' s4 ⟨z',H4,I4,r4,q4⟩=>ho' pins s4 σ H4 y z' u w' Q I4 r2 r4 q4))
def eT2(K:PySem.W.Frag)(x:V)(H:Hp)(k:Bool):Prop:=
 match x with
 | .non=>k=false
 | .bl b=>k=b
 | .int i=>k= (i != 0)
 | .str y=>y.length≤sizeLine∧k= ((y.length:Int) != 0)
 | .byt y=>y.size≤sizeLine∧k= ((y.size:Int) != 0)
 | .ref p=>(∃xs,SqL K H p xs∧k= !xs.isEmpty)∨(∃xs,SqT K H p xs∧k= !xs.isEmpty)∨∃kvs,H p=some (.dK kvs)∧k= !kvs.isEmpty
 |_=>False
theorem cU1{κ:Type}{kvs:List (κ×V)}{vs:List (κ×Value)}(r:KV kvs vs):(!vs.isEmpty)= !kvs.isEmpty:=by
 cases r<;>rfl
theorem bR4{xs:List V}{its:List Value}(r:w6 xs its):(!its.toArray.isEmpty)= !xs.isEmpty:=by
 cases r<;>simp
theorem aZ7:(sizeLine:Nat)<2 ^ 63:=by rw[sizeLine_eq];decide
theorem cR7:fM8 X (fun x H Q=>∃k,eT2 X.K x H k∧Q k H):=by
 intro pins s σ H x v Q I rx h
 obtain⟨k,e,q⟩:=h
 have hl:=aZ7
 have hs:sizeLine=16777216:=sizeLine_eq
 cases x with
 |non=>
   cases rx
   have e':k=false:=e
   subst e'
   exact truthy_none ⟨H,I,q⟩
 |bl b=>
   cases rx
   have e':k=b:=e
   subst e'
   exact wpAny_truthy_bool ⟨H,I,q⟩
 |int i=>
   obtain⟨t,rfl⟩:=rx
   have e':k= (i != 0):=e
   subst e'
   exact PySem.P.truthy_int ⟨H,I,q⟩
 |str y=>
   obtain⟨t,rfl⟩:=rx
   obtain⟨hy,e'⟩:y.length≤sizeLine∧k= ((y.length:Int) != 0):=e
   subst e'
   exact PySem.P.truthy_str (by lia) ⟨H,I.tok _,q⟩
 |byt y=>
   obtain⟨t,rfl⟩:=rx
   obtain⟨hy,e'⟩:y.size≤sizeLine∧k= ((y.size:Int) != 0):=e
   subst e'
   exact PySem.W.truthy_bytes (by lia) ⟨H,I.tok _,q⟩
 |ref p=>
   cases rx
   have e':(∃xs,SqL X.K H p xs∧k= !xs.isEmpty)∨(∃xs,SqT X.K H p xs∧k= !xs.isEmpty)∨∃kvs,H p=some (.dK kvs)∧k= !kvs.isEmpty:=e
   rcases e' with⟨xs,hx,e'⟩|⟨xs,hx,e'⟩|⟨kvs,hx,e'⟩
   · subst e'
     obtain⟨its,r,pl,hz⟩:=I.list hx
     have hlen:=r.length
     exact wpAny_truthy_list pl.isList (by simp only[List.size_toArray];lia) ⟨H,I.tok _,by rw[bR4 r];exact q⟩
   · subst e'
     obtain⟨its,r,pl,hz⟩:=I.tuple hx
     have hlen:=r.length
     exact truthy_tuple pl (by simp only[List.size_toArray];lia) ⟨H,I.tok _,by rw[bR4 r];exact q⟩
   · subst e'
     obtain⟨hz,hS,vs,r,m⟩:kvs.length≤sizeLine∧(p==sysModules)=false∧∃vs,KV kvs vs∧s.heap.DictOf (N6 X.prog X.w) p vs:=I.hok p _ hx
     have hlen:kvs.length=vs.length:=Paired.length r
     exact wpAny_truthy_dict hS m (by lia) ⟨H,I.tok _,by rw[cU1 r];exact q⟩
 |_=>exact(show False from e).elim
theorem dX3(ha:PE X a ta)(he:∀whole,isTrue a X.env whole= (do let v ←whole;standAt a.pos;holding [v] (truthy v))):
 PT X a (fun σ H Q=>ta σ H fun x H'=>∃k,eT2 X.K x H' k∧Q k H'):=by
 intro pins s σ H Q I h
 exact isTrue_plain (thn (ha pins s σ H _ I h) fun v s1 hE1=>hE1.elim fun x H1 I1 r1 q1=>cR7 pins s1 σ H1 x v Q I1 r1 q1) (he _)
theorem cU6:OpR X (binaryOp .Add) (fun x y H Q=>∃i j,x= .str i∧y= .str j∧i.length+j.length≤sizeLine∧Q (.str (i++j)) H):=by
 intro pins s σ H x y v u Q I rx ry h
 obtain⟨i,j,rfl,rfl,hz,q⟩:=h
 obtain⟨t,rfl⟩:=rx
 obtain⟨t',rfl⟩:=ry
 exact add_str (fun t' tk=>⟨.str (i++j),H,I.tok _,⟨_,rfl⟩,q⟩) hz
theorem aG5{x:V}{us:List Value}(r:w6 [x] us):∃u,us= [u]∧J2 x u:=by
 cases r with
 |cons r1 r2=>cases r2;exact⟨_,rfl,r1⟩
theorem cZ1{x y:V}{us:List Value}(r:w6 [x,y] us):∃u w',us= [u,w']∧J2 x u∧J2 y w':=by
 cases r with
 |cons r1 r2=>
   cases r2 with
   |cons r3 r4=>cases r4;exact⟨_,_,rfl,r1,r3⟩
theorem dH6:aC3 X (.type "int") (fun xs H Q=>(∃i,xs= [.int i]∧Q (.int i) H)∨∃k,xs= [.bl k]∧Q (.int (if k then 1 else 0)) H):=by
 intro pins s σ H xs us Q I r h
 rcases h with⟨i,rfl,q⟩|⟨k,rfl,q⟩
 · obtain⟨u,rfl,t,rfl⟩:=aG5 r
   exact call_int_int ⟨.int i,H,I,⟨_,rfl⟩,q⟩
 · obtain⟨u,rfl,r1⟩:=aG5 r
   cases r1
   exact call_int_bool ⟨.int (if k then 1 else 0),H,I.tok _,⟨_,rfl⟩,q⟩
end
structure ObjM(h:Heap)(x dx C:Addr)(mA:Str→Option Value):Prop where
 obj:h.get? x=some (PySem.W.instObj C dx)
 ns:h.Ns1 dx mA
 ne:dx≠x
section
variable{prog:Program}{w:World}{A:Around}{E:VSP}{s:Shared}{K:PySem.W.Frag}{x dx C f:Addr}{mA:Str→Option Value}{name:Str}{v:Value}
end
section
variable{P:Program}{w:World}{H H':Hp}{h h':Heap}{a C dx:Addr}{fs fs':List (Str×V)}
end
structure Cls(K:PySem.W.Frag)(C:Addr):Prop where
 pg:PySem.W.plainGet K C Str.empty=true
 hd:PySem.W.hasDictIn K C=true
 po:PySem.W.plainOver K C=true
 sa:PySem.W.findIn K (.ref C) "__setattr__" =some (some (.builtin "object.__setattr__"))
structure Con(K:PySem.W.Frag)(C:Addr)(f:Str)(v:V)(u:Value):Prop where
 at_:PySem.W.findIn K (.ref C) f=some (some u)
 rel:J2 v u
 get:PySem.W.specialIn K u "__get__" =some none
 cp:PySem.W.copiedNames.contains f=false
structure Meth(K:PySem.W.Frag)(C:Addr)(m:Str)(f:Addr):Prop where
 at_:PySem.W.findIn K (.ref C) m=some (some (.ref f))
 fn:PySem.W.isFn K (.ref f)=true
 kp:PySem.W.keepIn K (.ref f)=true
section
variable{X:Cx}{pins:PNS}{σ:St}{H:Hp}{s:Shared}{a C dx:Addr}{fs:List (Str×V)}{f:Str}{v:V}{A:Around}{E:VSP}
end
section
variable{X:Cx}{o e value:Expr}{f:Str}{pos pos' tpos:Pos}{ta tv:TE}
end
section
variable{X:Cx}{pins:PNS}{σ:St}{H:Hp}{s:Shared}{A:Around}{E:VSP}{Q:VSP}{c:Value}{b:Bool}
inductive bS2(K:PySem.W.Frag)(H:Hp):V→Value→Prop where
 |non:bS2 K H .non (.type "NoneType")
 |bl (x:Bool):bS2 K H (.bl x) (.type "bool")
 |int (i:Int):bS2 K H (.int i) (.type "int")
 |str (x:Str):bS2 K H (.str x) (.type "str")
 |flt (x:UInt64):bS2 K H (.flt x) (.type "float")
 |lst {a:Addr} {xs:List V} (e:H a=some (.lst xs)):bS2 K H (.ref a) (.type "list")
 |frz {a:Addr} {o:Obj} {xs:List V} (e:H a=some (.frz o (.lst xs))):bS2 K H (.ref a) (.type "list")
 |tup {a:Addr} {xs:List V} (e:H a=some (.tup xs)):bS2 K H (.ref a) (.type "tuple")
 |dK {a:Addr} {kvs:List (Key×V)} (e:H a=some (.dK kvs)):bS2 K H (.ref a) (.type "dict")
 |dT {a:Addr} {kvs:List (List Key×V)} (e:H a=some (.dT kvs)):bS2 K H (.ref a) (.type "dict")
 |ins {a C dx:Addr} {fs:List (Str×V)} (e:H a=some (.ins C dx fs)) (cl:Cls K C) (ha:PySem.W.findIn K (.ref C) "__class__" =some (some (.builtin "object.__class__")))
    (hn:PySem.W.specialIn K (.builtin "object.__class__") "__get__" =some (some (.builtin "getset_descriptor.__get__"))) (htk:PySem.W.takesIn K (.builtin "object.__class__")=some true)
    (hm:PySem.W.mroIn K C (.type "object")=some true):bS2 K H (.ref a) (.ref C)
end
structure X4(k:Nat)(A:Around):Prop where
 hd:A.handled=none
 dp:A.depth+3*k+5<recursionLimit
 un:A.units+16*k+200<cLine
theorem X4.mono{j k:Nat}{A:Around}(r:X4 k A)(h:j≤k):X4 j A:=⟨r.hd,by have:=r.dp;lia,by have:=r.un;lia⟩
theorem X4.deeper{k:Nat}{A:Around}(r:X4 (k+1) A)(env:Env):X4 k (A.deeper env):=
 ⟨r.hd,by have:=r.dp;show A.depth+1+3*k+5<_;lia,by have:=r.un;show A.units+3+16*k+200<_;lia⟩
theorem X4.in1{k:Nat}{A:Around}(r:X4 (k+1) A):X4 k A.in1:=
 ⟨r.hd,by have:=r.dp;show A.depth+3*k+5<_;lia,by have:=r.un;show A.units+1+16*k+200<_;lia⟩
theorem X4.depth{k:Nat}{A:Around}(r:X4 k A):A.depth<recursionLimit:=by have:=r.dp;lia
theorem X4.units{k:Nat}{A:Around}(r:X4 k A):A.units+64<cLine:=by have:=r.un;lia
noncomputable def fD1:TA:=fun _ H Q=>Q [] H
noncomputable def fD4(ta:TE)(tr:TA):TA:=fun σ H Q=>ta σ H fun x H1=>tr σ H1 fun xs H2=>Q (x::xs) H2
section
variable{X:Cx}{e:Expr}{es:List Expr}{te:TE}{t:TA}{pos:Pos}
theorem eN5:PA X [] fD1:=fun _ _ _ _ H Q I h=>Calls.spliced_nil ⟨[],H,I,.nil,h⟩
theorem eG8(ha:PE X e te)(hr:PA X es t)(hs:starEach (e::es) X.env= (false,eval e X.env)::starEach es X.env):PA X (e::es) (fD4 te t):=by
 intro pos pins s σ H Q I h
 rw[hs]
 show wpAny _ _ (spliced ((false,eval e X.env)::backTo pos (starEach es X.env))) _ _ s
 refine Calls.spliced_cons (thn (ha pins s σ H _ I h) fun u s1 hE1=>hE1.elim fun x H1 I1 r1 q1=>?_)
 exact thn (hr pos pins s1 σ H1 _ I1 q1) fun us s2 hE1=>hE1.elim fun xs H2 I2 r2 q2=>⟨x::xs,H2,I2,.cons r1 r2,q2⟩
def fK3(t:TA):TE:=fun σ H Q=>t σ H fun xs H1=>xs.length≤sizeLine∧∀p,H1 p=none→Q (.ref p) (upd H1 p (.tup xs))
def fO7(t:TA):TE:=fun σ H Q=>t σ H fun xs H1=>xs.length≤sizeLine∧∀p,H1 p=none→Q (.ref p) (upd H1 p (.lst xs))
theorem eT5{x1}(h:PA X es t):PE X (.Tuple es x1 pos) (fK3 t):=by
 intro pins s σ H Q I hq
 refine wpAny_Tuple_spliced (thn (h pos pins s σ H _ I hq) fun us s1 ⟨xs,H1,I1,r,z,q⟩=>⟨by rw[←r.length];exact z,?_⟩)
 have hf:H1 s1.heap.objs.size=none:=I1.hok.fresh (Nat.le_refl _)
 refine⟨.ref s1.heap.objs.size,upd H1 s1.heap.objs.size (.tup xs),I1.laid (t':=s1.toks) (fun b u e=>Heap.get?_push_of_some _ e) (Nat.le_refl _) ?_,rfl,q _ hf⟩
 exact⟨z,us,r,⟨_,Heap.get?_push_size _ rfl,rfl,_,rfl⟩⟩
theorem eV0(h:PA X es t):PE X (.List es pos) (fO7 t):=by
 intro pins s σ H Q I hq
 refine wpAny_List_spliced (thn (h pos pins s σ H _ I hq) fun us s1 ⟨xs,H1,I1,r,z,q⟩=>⟨by rw[←r.length];exact z,?_⟩)
 have hf:H1 s1.heap.objs.size=none:=I1.hok.fresh (Nat.le_refl _)
 refine⟨.ref s1.heap.objs.size,upd H1 s1.heap.objs.size (.lst xs),I1.laid (t':=s1.toks) (fun b u e=>Heap.get?_push_of_some _ e) (Nat.le_refl _) ?_,rfl,q _ hf⟩
 exact⟨z,us,0,r,Heap.get?_push_size _ rfl⟩
end
noncomputable abbrev Sp:=List V→Hp→VK→XK→Prop
noncomputable abbrev CXT:=List Env→Hp→Shared→XK→VSP
structure dY2(P:Program)(w:World)(K:PySem.W.Frag)(mg:Str→Option Value)(base:Heap)(A:Around)(outer:List Env)(s:Shared)(H:Hp):Prop where
 frames:A.frames=some outer
 mod:Mod K mg base
 bs:∀b o,base.get? b=some o→s.heap.get? b=some o∧H b=none
 bsz:base.objs.size≤s.heap.objs.size
 funs:s.heap.FunFrames base outer
 frf:∀b∈frs outer,H b=none
 hok:HOk P w H s.heap
 bare:AllBare s.gens
def CE(outer:List Env)(P:Program)(w:World)(H:Hp)(s:Shared)(Q:VK)(u:Value)(s':Shared):Prop:=
 ∃v H',s'.os=s.os∧AllBare s'.gens∧Un (frs outer) [] H H' s.heap s'.heap∧HOk P w H' s'.heap∧J2 v u∧Q v H'
def CR(CX:CXT)(outer:List Env)(P:Program)(w:World)(H:Hp)(s:Shared)(Q:VK)(E:XK)(r:Result)(s':Shared):Prop:=
 match r with
 | .ok (.ret u)=>CE outer P w H s Q u s'
 | .ok _=>False
 | .error e=>CX outer H s E e s'
structure J6(P:Program)(w:World)(K:PySem.W.Frag)(mg:Str→Option Value)(base:Heap)(CX:CXT)(k:Nat)(f:Addr)(fd:FuncData)(ps:List Str)(sp:Sp):Prop where
 len:∀vs H Q E,sp vs H Q E→vs.length=ps.length
 run:∀(A:Around) (outer:List Env) (s:Shared) (H:Hp) (args:Args) (us:List Value) (vs:List V) (Q:VK) (E:XK),X4 k A→dY2 P w K mg base A outer s H→BindsTo s fd args (ps.zip us)→w6 vs us→sp vs H Q E→
  codeAny (model P w) A (.call (.ref f) args) (CR CX outer P w H s Q E) s
theorem J6.imp{P:Program}{w:World}{K:PySem.W.Frag}{mg:Str→Option Value}{base:Heap}{CX:CXT}{k:Nat}{f:Addr}{fd:FuncData}{ps:List Str}{sp sp':Sp}(F:J6 P w K mg base CX k f fd ps sp)
 (h:∀vs H Q E,sp' vs H Q E→sp vs H Q E):J6 P w K mg base CX k f fd ps sp':=
 ⟨fun vs H Q E q=>F.len vs H Q E (h _ _ _ _ q),fun A outer s H args us vs Q E hr he hb hv hs=>F.run A outer s H args us vs Q E hr he hb hv (h _ _ _ _ hs)⟩
section
variable{X:Cx}{pins:PNS}{σ:St}{H:Hp}{s s':Shared}
theorem Inv.env0(I:Inv X pins σ H s):dY2 X.prog X.w X.K X.mg X.base X.A X.stack s H:=
 ⟨I.ok.frames,I.ok.mod,I.bs,Nat.le_trans I.ok.bsz I.sz,I.stack,I.stkFree,I.hok,I.bare⟩
theorem Inv.after{Q:VK}{u:Value}(I:Inv X pins σ H s)(h:CE X.stack X.prog X.w H s Q u s'):EP X pins σ Q u s':=by
 obtain⟨v,H',os,bare,un,hok,r,q⟩:=h
 obtain⟨hh,g,d,t,os'⟩:=s'
 obtain rfl:os'=s.os:=os
 exact⟨v,H',I.call (h':=hh) (g':=g) (d':=d) (t':=t) (ch:= []) un hok bare (fun b z=>absurd z (by simp)),r,q⟩
end
noncomputable def eM4(sp:Sp)(dvs:List V)(E:XK)(t:TA):TE:=fun σ H Q=>t σ H fun vs H1=>sp (vs++dvs) H1 Q E
noncomputable def aS4(K:PySem.W.Frag)(fd:FuncData)(ps:List Str)(ds:List Value):Prop:=
 ∀(s:Shared) (us:List Value),K.In s.heap→(us++ds).length=ps.length→BindsTo s fd ⟨us, []⟩ (ps.zip (us++ds))
theorem aS4.all{K:PySem.W.Frag}{fd:FuncData}{ps:List Str}(h:∀us:List Value,us.length=ps.length→bindArgs fd ⟨us, []⟩=pure (ps.zip us)):aS4 K fd ps []:=fun s us _ hl=>by
 rw[List.append_nil]at hl ⊢
 exact .of_eq (h us hl)
noncomputable def cD6(CX:CXT)(X:Cx)(E:XK):Prop:=∀(pins:PNS) (σ:St) (H:Hp) (s:Shared) (e:Value) (s':Shared),Inv X pins σ H s→CX X.stack H s E e s'→X.xe e s'
section
variable{X:Cx}{CX:CXT}{k:Nat}{f C:Addr}{fd:FuncData}{ps:List Str}{sp:Sp}{dvs:List V}{ds:List Value}{E:XK}{x m:Str}{p pos apos:Pos}{e o:Expr}{es:List Expr}{ta:TE}{t:TA}
theorem cR9{pins:PNS}{σ:St}{H:Hp}{s:Shared}{Q:VK}{us:List Value}{vs:List V}(F:J6 X.prog X.w X.K X.mg X.base CX k f fd ps sp)(hr:X4 k X.A)(hb:aS4 X.K fd ps ds)(hd:w6 dvs ds)(hx:cD6 CX X E)
 (I:Inv X pins σ H s) (r:w6 vs us) (h:sp (vs++dvs) H Q E):wpAny (model X.prog X.w) X.A (call (.ref f) us) (EP X pins σ Q) X.xe s:=by
 have r2:w6 (vs++dvs) (us++ds):=r.append hd
 have hl:(us++ds).length=ps.length:=by rw[←r2.length];exact F.len _ _ _ _ h
 refine wpAny_call (codeAny_mono (F.run X.A X.stack s H ⟨us, []⟩ (us++ds) (vs++dvs) Q E hr I.env0 (hb s us I.kIn hl) r2 h) fun r s' hq=>?_)
 cases r with
 |error e=>exact hx pins σ H s e s' I hq
 |ok fl=>
   cases fl with
   |ret u=>exact I.after hq
   |next=>exact False.elim hq
   |brk=>exact False.elim hq
   |cont=>exact False.elim hq
theorem dZ2(F:J6 X.prog X.w X.K X.mg X.base CX k f fd ps sp)(hr:X4 k X.A)(hg:Gl X x)(hm:X.mg x=some (.ref f))(hk:PySem.W.keepIn X.K (.ref f)=true)(hb:aS4 X.K fd ps ds)(hd:w6 dvs ds)(hx:cD6 CX X E)
 (ha:PA X (e::es) t) (hdb:(x==("__debug__" :Str))=false) (he:starEach (e::es) X.env= (false,eval e X.env)::starEach es X.env) (hpl:(backTo pos (starEach es X.env)).any (·.1)=false):
 PE X (.Call (.Name x p) (e::es) [] pos) (eM4 sp dvs E t):=by
 intro pins s σ H Q I h
 refine wpAny_Call_Name_kw (bN3 I hg hm ?_ hdb)
 refine PySem.W.callWith_K (h₀:=X.base) I.ok.mod.kin hk (thn (ha pos pins s σ H _ I h) fun us s1 hE1=>hE1.elim fun vs H1 I1 r q=>⟨I1.kIn,?_⟩) he hpl
 exact cR9 F hr hb hd hx I1 r q
theorem dR0(F:J6 X.prog X.w X.K X.mg X.base CX k f fd ps sp)(hr:X4 k X.A)(hg:Gl X x)(hm:X.mg x=some (.ref f))(hk:PySem.W.keepIn X.K (.ref f)=true)(hb:aS4 X.K fd ps ds)(hd:w6 dvs ds)(hx:cD6 CX X E)
 (hdb:(x==("__debug__" :Str))=false):PE X (.Call (.Name x p) [] [] pos) (eM4 sp dvs E fD1):=by
 intro pins s σ H Q I h
 refine wpAny_Call_Name_kw (bN3 I hg hm ?_ hdb)
 exact PySem.W.callWith_K0 I.kIn hk (cR9 (us:= []) F hr hb hd hx I .nil h)
structure Mk(K:PySem.W.Frag)(C f:Addr):Prop where
 makes:PySem.W.makesIn K C=true
 init:PySem.W.findIn K (.ref C) "__init__" =some (some (.ref f))
 fn:PySem.W.isFn K (.ref f)=true
 kp:PySem.W.keepIn K (.ref C)=true
end
section
variable{X:Cx}{CX:CXT}{k:Nat}{f C:Addr}{fd:FuncData}{ps ks:List Str}{sp:Sp}{E:XK}{x m:Str}{p pos apos kpos:Pos}{e o:Expr}{es:List Expr}{kws:List Keyword}{te ta:TE}{t tk:TA}{nm:Option Str}
structure KBinds(K:PySem.W.Frag)(fd:FuncData)(ps ks:List Str)(g:List Value→List Value→List Value)(gV:List V→List V→List V):Prop where
 to:∀(s:Shared) (us ws:List Value),K.In s.heap→(g us ws).length=ps.length→BindsTo s fd ⟨us,ks.zip ws⟩ (ps.zip (g us ws))
 rel:∀ {vs:List V} {us:List Value} {zs:List V} {ws:List Value},w6 vs us→w6 zs ws→w6 (gV vs zs) (g us ws)
variable{g:List Value→List Value→List Value}{gV:List V→List V→List V}
end
structure m6(N P:List Str)(sc:Scope):Prop where
 kind:sc.kind= .function
 co:sc.isCoroutine=false
 gen:sc.isGenerator=false
 nd:N.Nodup
 pre:N.take P.length=P
 par:∀x∈P,sc.names.lookup x=some .local∨sc.names.lookup x=some .cell
 nofree:∀y∈sc.names,y.2≠ .free
theorem bX1{kindOf:Str→Option NameKind}{x:Str}:∀ {binds:List (Str×Value)} {m:Str→Option Value},(∀v,(x,v)∉binds)→bindL kindOf binds m x=m x
 |[],_,_=>rfl
 |(n,v)::r,m,h=>by
  unfold bindL
  rw[bX1 fun w hw=>h w (List.mem_cons_of_mem _ hw)]
  split
  · have:x≠n:=by rintro rfl;exact h v List.mem_cons_self
    simp[this]
  ·rfl
theorem bY5{kindOf:Str→Option NameKind}{x:Str}:∀ {binds:List (Str×Value)} {m:Str→Option Value},(∀v,(x,v)∉binds)→bindC kindOf binds m x=m x
 |[],_,_=>rfl
 |(n,v)::r,m,h=>by
  unfold bindC
  rw[bY5 fun w hw=>h w (List.mem_cons_of_mem _ hw)]
  split
  ·rfl
  · have:x≠n:=by rintro rfl;exact h v List.mem_cons_self
    simp[this]
theorem bX8{kindOf:Str→Option NameKind}{x:Str}{v:Value}:∀ {P:List Str} {vs:List Value} {i:Nat} {m:Str→Option Value},P.Nodup→P[i]? =some x→vs[i]? =some v→kindOf x=some .local→
 bindL kindOf (P.zip vs) m x=some v
 |[],_,_,_,_,h,_,_=>by simp at h
 |_::_, [],_,_,_,_,h,_=>by simp at h
 |p::P,w::vs,0,m,nd,h1,h2,hk=>by
   simp at h1 h2;subst h1;subst h2
   show bindL kindOf ((p,w)::P.zip vs) m p=_
   unfold bindL
   rw[bX1 fun v hv=>(List.nodup_cons.mp nd).1 (List.of_mem_zip hv).1,if_pos hk]
   simp
 |p::P,w::vs,i+1,m,nd,h1,h2,hk=>by
   show bindL kindOf ((p,w)::P.zip vs) m x=_
   unfold bindL
   exact bX8 (i:=i) (List.nodup_cons.mp nd).2 (by simpa using h1) (by simpa using h2) hk
theorem bZ7{kindOf:Str→Option NameKind}{x:Str}{v:Value}:∀ {P:List Str} {vs:List Value} {i:Nat} {m:Str→Option Value},P.Nodup→P[i]? =some x→vs[i]? =some v→kindOf x≠some .local→
 bindC kindOf (P.zip vs) m x=some v
 |[],_,_,_,_,h,_,_=>by simp at h
 |_::_, [],_,_,_,_,h,_=>by simp at h
 |p::P,w::vs,0,m,nd,h1,h2,hk=>by
   simp at h1 h2;subst h1;subst h2
   show bindC kindOf ((p,w)::P.zip vs) m p=_
   unfold bindC
   rw[bY5 fun v hv=>(List.nodup_cons.mp nd).1 (List.of_mem_zip hv).1,if_neg hk]
   simp
 |p::P,w::vs,i+1,m,nd,h1,h2,hk=>by
   show bindC kindOf ((p,w)::P.zip vs) m x=_
   unfold bindC
   exact bZ7 (i:=i) (List.nodup_cons.mp nd).2 (by simpa using h1) (by simpa using h2) hk
noncomputable def start(N:List Str)(vs:List V):St:=vs.map some++List.replicate (N.length-vs.length) none
noncomputable def cQ0(CX:CXT)(P:Program)(w:World)(K:PySem.W.Frag)(mg:Str→Option Value)(base:Heap)(N:List Str)(qual:Str)(scope:Scope)(f:Addr)(cd:Value)(A:Around)(outer:List Env)(s:Shared)(H:Hp)(E:XK):Cx where
 prog:=P
 w:=w
 K:=K
 mg:=mg
 base:=base
 A:=A.deeper (envOfC qual scope s.heap.objs.size f cd)
 N:=N
 s₀:=s
 H₀:=H
 env:=envOfC qual scope s.heap.objs.size f cd
 outer:=outer
 stack:=envOfC qual scope s.heap.objs.size f cd::outer
 ex:= []
 calm:=true
 fn:=fun _=>true
 pn:= []
 xe:=fun e s'=>wpAny (model P w) (A.deeper (envOfC qual scope s.heap.objs.size f cd)) (leaving (envOfC qual scope s.heap.objs.size f cd) e) (fun _ s''=>CX outer H s E e s'') (fun e' s''=>CX outer H s E e' s'') s'
theorem cP6{sc:Scope}{n:Nat}{x:Str}(h:sc.names.lookup x=some .cell):∃c,(cellsFrom n sc.names []).lookup x=some c:=by
 have q:=PySem.W.cellsFrom_some sc.names n [] (.inl h)
 exact Option.isSome_iff_exists.mp q
theorem dD0{CX:CXT}{P:Program}{w:World}{K:PySem.W.Frag}{mg:Str→Option Value}{base:Heap}{N ps:List Str}{qual:Str}{scope:Scope}{f:Addr}{cd:Value}{A:Around}{outer:List Env}{s s1:Shared}{H:Hp}{E:XK}{us:List Value}{vs:List V}
 (S:m6 N ps scope) (hd:A.handled=none) (e0:dY2 P w K mg base A outer s H) (hl:vs.length=ps.length) (r:w6 vs us)
 (x:InCallC s s.heap.objs.size (bindL (envOfC qual scope s.heap.objs.size f cd).kindOf (ps.zip us) fun _=>none) (cellsFrom (s.heap.objs.size+1) scope.names []) (bindC (envOfC qual scope s.heap.objs.size f cd).kindOf (ps.zip us) fun _=>none) s1):
 Inv (cQ0 CX P w K mg base N qual scope f cd A outer s H E) [] (start N vs) H s1:=by
 have hpl:ps.length≤N.length:=by have:=congrArg List.length S.pre;rw[List.length_take]at this;lia
 obtain⟨h1,tk,rfl,hk⟩:=x.done
 have noA:∀b:Addr,b∉(cQ0 CX P w K mg base N qual scope f cd A outer s H E).ex:=fun b z=>absurd (show b∈([]:List Addr)from z) (by simp)
 refine⟨⟨e0.mod,S.kind,rfl,rfl,Nat.le_refl _,fun y z c h1 h2=>?_,fun y hy=>?_,fun y c _ h=>?_,fun _=>hd,Around.frames_deeper e0.frames,.inr ⟨rfl,rfl⟩,fun b z=>absurd z (noA b),e0.bs,e0.bsz,fun b _ _=>noA b,fun b z=>absurd z (noA b),e0.funs,e0.frf⟩,
  rfl,e0.bare,Un.kept hk,⟨_,x.toInCall.ns,fun i y v h1 h2 h3=>?_⟩,fun y c h=>⟨_,x.cell y c h⟩,e0.hok.fresh (Nat.le_refl _),fun y c h=>?_,fun p hp=>absurd (show p∈([]:PNS)from hp) (by simp),e0.hok.kept hk,?_⟩
 ·exact name_of_addr x.apart (PySem.mem_of_lookup h1) (PySem.mem_of_lookup h2)
 · have hy:scope.names.lookup y=some .cell∨scope.names.lookup y=some .free:=hy
   rcases hy with hy|hy
   ·exact cP6 hy
   ·exact absurd rfl (S.nofree _ (PySem.mem_of_lookup hy))
 ·exact Nat.le_of_lt (x.above y c (PySem.mem_of_lookup h))
 · have hi:i<vs.length:=by
    unfold start at h2
    by_cases hi:i<vs.length
    ·exact hi
    · rw[List.getElem?_append_right (by simpa using hi)]at h2
      rw[List.getElem?_replicate]at h2
      split at h2<;>cases h2
   have ha:vs[i]? =some v:=by
    unfold start at h2
    rw[List.getElem?_append_left (by simpa using hi),List.getElem?_map]at h2
    cases e:vs[i]? with
    |none=>rw[e]at h2;cases h2
    |some a=>rw[e]at h2;cases h2;rfl
   obtain⟨u,hu,rv⟩:=r.get ha
   have hp:ps[i]? =some y:=by
    rw[←S.pre,List.getElem?_take_of_lt (by lia)];exact h1
   have ndP:ps.Nodup:=by rw[←S.pre];exact S.nd.sublist (List.take_sublist _ _)
   refine⟨u,rv,?_⟩
   rcases S.par y (List.mem_of_getElem? hp)with k|k
   ·exact .inl ⟨k,bX8 ndP hp hu k⟩
   · obtain⟨c,e⟩:=cP6 (n:=s.heap.objs.size+1) k
     refine .inr ⟨.inl k,c,e,?_⟩
     have q:=x.cell y c e
     rw[bZ7 ndP hp hu (by show scope.names.lookup y≠_;rw[k];decide)]at q
     exact q
 ·exact e0.hok.fresh (Nat.le_of_lt (x.above y c (PySem.mem_of_lookup h)))
 · unfold start
   show _=N.length
   rw[List.length_append,List.length_map,List.length_replicate]
   lia
theorem fH4{CX:CXT}{P:Program}{w:World}{K:PySem.W.Frag}{mg:Str→Option Value}{base:Heap}{k:Nat}{f:Addr}{name qual:Str}{params:Arguments}{body:List Stmt}{scope:Scope}{dV kV doc pm cdv ct oc:Value}{an od:Option Addr}
 {osl:Array (Option Value)} {N ps:List Str} {sp:Sp} (lk:K.lookup f=some ⟨oc,od,.func (PySem.W.fnOf name qual params body scope dV kV doc pm an cdv ct),osl⟩) (hcd:PySem.W.codeIn K cdv qual=true) (S:m6 N ps scope)
 (len:∀vs H Q E,sp vs H Q E→vs.length=ps.length)
 (hbody:∀(A:Around) (outer:List Env) (s:Shared) (H:Hp) (vs:List V) (Q:VK) (E:XK),X4 k (A.deeper (envOfC qual scope s.heap.objs.size f cdv))→sp vs H Q E→
   ∃t,PSs (cQ0 CX P w K mg base N qual scope f cdv A outer s H E) body t∧t {nx:=fun _ H'=>Q .non H',rt:=Q} (start N vs) H):
 J6 P w K mg base CX (k+1) f (PySem.W.fnOf name qual params body scope dV kV doc pm an cdv ct) ps sp:=by
 refine⟨len,fun A outer s H args us vs Q E hr e0 hb r hsp=>?_⟩
 have hl:=len _ _ _ _ hsp
 have KX:K.In s.heap:=e0.mod.kin.keeps fun b o e=>(e0.bs b o e).1
 have lim:s.heap.NoLimit:=e0.mod.nolimit.keeps fun b o e=>(e0.bs b o e).1
 have hkind:∀y∈ps.zip us,scope.names.lookup y.1=some .local∨(scope.names.lookup y.1=some .cell∧((cellsFrom (s.heap.objs.size+1) scope.names []).lookup y.1).isSome=true):=fun⟨n,v⟩ hy=>by
  rcases S.par n (List.of_mem_zip hy).1 with q|q
  ·exact .inl q
  ·exact .inr ⟨q,PySem.W.cellsFrom_some _ _ _ (.inl q)⟩
 refine codeAny_call_function hr.depth (KX _ _ lk) rfl S.co S.gen rfl (PySem.W.codeRec_of KX hcd) (hb _ _ _ _ ?_)
 refine wpAny_newFunctionEnv_cells S.kind hkind fun env he s1 x=>?_
 subst he
 refine⟨lim.keeps x.toInCall.keep,codeAny_func ?_⟩
 obtain⟨t,ht,hq⟩:=hbody A outer s H vs Q E (hr.deeper _) hsp
 have I:Inv (cQ0 CX P w K mg base N qual scope f cdv A outer s H E) [] (start N vs) H s1:=dD0 S hr.hd e0 hl r x
 refine wpAny_mono (ht [] s1 (start N vs) H _ I hq) (fun fl s' hs=>?_) fun e s' hs=>hs
 have fin:∀ {σ':St} {H':Hp} {v:V} {u:Value},Inv (cQ0 CX P w K mg base N qual scope f cdv A outer s H E) [] σ' H' s'→J2 v u→Q v H'→CE outer P w H s Q u s':=
  fun {σ' H' v u} J rv q=>⟨v,H',J.os,J.bare,J.base,J.hok,rv,q⟩
 cases fl with
 |ret u=>
   obtain⟨v,σ',H',J,rv,q⟩:=hs
   exact fin J rv q
 |next=>
   obtain⟨σ',H',J,q⟩:=hs
   exact fin (v:=V.non) (u:=Value.none) J rfl q
 |brk=>
   obtain⟨_,_,_,q⟩:=hs
   exact False.elim q
 |cont=>
   obtain⟨_,_,_,q⟩:=hs
   exact False.elim q
section
variable{X:Cx}{x:Str}{p pos:Pos}{e:Expr}{es:List Expr}{t:TA}{id T:String}{r:List V→Hp→VK→Prop}
noncomputable def tCB(r:List V→Hp→VK→Prop)(t:TA):TE:=fun σ H Q=>t σ H fun vs H1=>r vs H1 Q
theorem dK1(hc:aC3 X (.builtin id) r)(hg:Gl X x)(hm:X.mg x=none)(hv:bootBuiltins x=some (.builtin id))(ha:PA X (e::es) t)(hn:x≠ "__name__")(hdb:(x==("__debug__" :Str))=false)
 (he:starEach (e::es) X.env= (false,eval e X.env)::starEach es X.env) (hpl:(backTo pos (starEach es X.env)).any (·.1)=false):PE X (.Call (.Name x p) (e::es) [] pos) (tCB r t):=by
 intro pins s σ H Q I h
 refine wpAny_Call_Name_kw (aL9 I hg hm hv ?_ hn hdb)
 exact PyProof.Rows.callWith_builtin1 (thn (ha pos pins s σ H _ I h) fun us s1 hE1=>hE1.elim fun vs H1 I1 r1 q1=>hc pins s1 σ H1 vs us Q I1 r1 q1) he hpl
theorem dF3(hc:aC3 X (.type T) r)(hg:Gl X x)(hm:X.mg x=none)(hv:bootBuiltins x=some (.type T))(ha:PA X (e::es) t)(hn:x≠ "__name__")(hdb:(x==("__debug__" :Str))=false)
 (he:starEach (e::es) X.env= (false,eval e X.env)::starEach es X.env) (hpl:(backTo pos (starEach es X.env)).any (·.1)=false):PE X (.Call (.Name x p) (e::es) [] pos) (tCB r t):=by
 intro pins s σ H Q I h
 refine wpAny_Call_Name_kw (aL9 I hg hm hv ?_ hn hdb)
 exact PyProof.Rows.callWith_type1 (thn (ha pos pins s σ H _ I h) fun us s1 hE1=>hE1.elim fun vs H1 I1 r1 q1=>hc pins s1 σ H1 vs us Q I1 r1 q1) he hpl
end
end L2
namespace HT
open PySem PyProof.Rows
section
open PySem.SeqAt
open PySem.AutoSeq1 (wpAny_loadPart')
open PySem.MeetsSeq PySem.MeetsSeq2 PySem.MeetsSeq3
end
section
variable{prog:Program}{w:World}{A:Around}{E:VSP}{s:Shared}
theorem cat_tup{t b:Addr}{vs ws:List Value}{Q:VSP}(ht:IsTup s.heap t vs.toArray)(hb:IsTup s.heap b ws.toArray)(hv:vs≠ [])
 (h1:ws= []→Q (.ref t) s) (h2:ws≠ []→Q (.ref s.heap.objs.size) {s with heap:=s.heap.push {cls:=.type "tuple",data:=.seq (vs++ws).toArray}})
 (hsz:vs.length+ws.length≤sizeLine):wpAny (model prog w) A (binaryOp .Add (.ref t) (.ref b)) Q E s:=by
 obtain⟨⟨cls,dd,data,sl⟩,ho,hc,n,hd⟩:=id ht
 obtain⟨⟨cls2,dd2,data2,sl2⟩,ho2,hc2,n2,hd2⟩:=id hb
 simp only at hc hd hc2 hd2
 subst hc hd hc2 hd2
 have e:vs.toArray++ws.toArray= (vs++ws).toArray:=by simp
 by_cases hw:ws= []
 · exact concat_meets ⟨_,ho,rfl⟩ ⟨_,ho2,rfl⟩ noFill_tuple_add seq_tuple_add PySem.F.slot_tuple_add PySem.F.entry_tuple_add (PySem.F.args_tuple_add_2 _ _)
    (tuple_addW1 t b vs.toArray ws.toArray n n2 dd dd2 sl sl2 (by simpa using hv) (by simp[hw])) ⟨ho,ho2,h1 hw⟩
 · refine concat_meets ⟨_,ho,rfl⟩ ⟨_,ho2,rfl⟩ noFill_tuple_add seq_tuple_add PySem.F.slot_tuple_add PySem.F.entry_tuple_add (PySem.F.args_tuple_add_2 _ _)
    (tuple_addW2 t b vs.toArray ws.toArray n n2 dd dd2 sl sl2 (by simpa using hv) (by simpa using hw) (by rw[List.size_toArray,List.size_toArray];exact hsz)) ⟨ho,ho2,?_⟩
   rw[e]
   exact h2 hw
noncomputable def sIx(n d:Nat):Option Int→Nat
 |none=>d
 |some v=>if v<0 then (v+(n:Int)).toNat else min v.toNat n
theorem sIx_none(n d:Nat):sIx n d none=d:=rfl
theorem sIx_nat(n d k:Nat):sIx n d (some (k:Int))=min k n:=by
 show (if (k:Int)<0 then ((k:Int)+(n:Int)).toNat else min (k:Int).toNat n)=min k n
 rw[if_neg (by lia),Int.toNat_natCast]
theorem eS8(n d:Nat)(hd:d≤n)(o:Option Int):sIx n d o≤n:=by
 cases o with
 |none=>exact hd
 |some v=>
   show (if v<0 then (v+(n:Int)).toNat else min v.toNat n)≤n
   by_cases hv:v<0
   ·rw[if_pos hv];lia
   ·rw[if_neg hv];exact Nat.min_le_right _ _
theorem dA4(v:Int)(n d:Nat):(if v<0 then max (v+(n:Int)) 0 else min v (n:Int))= ((sIx n d (some v):Nat):Int):=by
 show (if v<0 then max (v+(n:Int)) 0 else min v (n:Int))= (((if v<0 then (v+(n:Int)).toNat else min v.toNat n):Nat):Int)
 by_cases hv:v<0
 ·simp only[if_pos hv];lia
 ·simp only[if_neg hv];lia
theorem cQ9(lo hi:Option Int)(n:Nat):Builtin.Slice.sliceAdjust lo hi 1 (n:Int)= (((sIx n 0 lo:Nat):Int),((sIx n n hi:Nat):Int)):=by
 have h1:¬((1:Int)<0):=by lia
 unfold Builtin.Slice.sliceAdjust
 simp only[h1,if_false]
 refine Prod.ext ?_ ?_
 · cases lo with
   |none=>rfl
   |some v=>exact dA4 v n 0
 · cases hi with
   |none=>rfl
   |some v=>exact dA4 v n n
theorem cR5(i j:Nat):Builtin.Slice.slicePlaces (i:Int) (j:Int) 1=j-i:=by
 unfold Builtin.Slice.slicePlaces
 have h1:(1:Int)>0:=by lia
 simp only[h1,if_true,Int.ediv_one]
 split<;>lia
theorem bP4{v:Value}{o:Option Int}{Q:Option Int→Shared→Prop}(p:IsPart v o)(h:Q o s):wpAny (model prog w) A (Builtin.Slice.slicePartIndex v) Q E s:=by
 cases p with
 |none=>exact slicePart_none h
 |int i t=>exact slicePart_int h
theorem sliceApplied_gen{sl:Addr}{vl vu:Value}{lo hi:Option Int}{n:Nat}{Q:Int×Int×Nat→Shared→Prop}(hs:s.heap.IsSliceOf sl vl vu .none)(pl:IsPart vl lo)(pu:IsPart vu hi)
 (h:Q (((sIx n 0 lo:Nat):Int),1,sIx n n hi-sIx n 0 lo) s):wpAny (model prog w) A (Builtin.Slice.sliceApplied (.ref sl) (pure (n:Int))) Q E s:=by
 obtain⟨os,hos,hcs,hds⟩:=id hs
 unfold Builtin.Slice.sliceApplied Builtin.Slice.sliceFields
 refine wpAny_bind (wpAny_bind (wpAny_field hos hds (x:=vl) rfl (wpAny_bind (wpAny_field hos hds (x:=vu) rfl (wpAny_bind (wpAny_field hos hds (x:=.none) rfl (wpAny_pure ?_)))))))
 refine wpAny_bind (slicePart_none ?_)
 show wpAny _ _ (if ((1:Int)==0)=true then _ else _) _ _ s
 rw[if_neg (by decide)]
 refine wpAny_bind (bP4 pl (wpAny_bind (bP4 pu (wpAny_bind (wpAny_pure ?_)))))
 show wpAny _ _ (match Builtin.Slice.sliceAdjust lo hi 1 (n:Int) with|(lo,hi)=>pure (lo,(1:Int),Builtin.Slice.slicePlaces lo hi 1)) _ _ s
 rw[cQ9 lo hi n]
 show wpAny _ _ (pure (((sIx n 0 lo:Nat):Int),(1:Int),Builtin.Slice.slicePlaces ((sIx n 0 lo:Nat):Int) ((sIx n n hi:Nat):Int) 1)) _ _ s
 rw[cR5]
 exact wpAny_pure h
theorem dV4(xs:Array Value)(i k:Nat):((List.range k).filterMap fun(m:Nat)=>xs[((i:Int)+(m:Int)*1).toNat]?).toArray= ((xs.toList.drop i).take k).toArray:=by
 have e:(fun(m:Nat)=>xs[((i:Int)+(m:Int)*1).toNat]?)=fun m=>xs[i+m]? :=by
  funext m
  have:((i:Int)+(m:Int)*1).toNat=i+m:=by lia
  rw[this]
 rw[e]
 have:=pick_run xs i k
 rw[List.filterMap_map]at this
 have e2:((fun x=>xs[x]?)∘fun x=>i+x)=fun m=>xs[i+m]? :=rfl
 rw[e2]at this
 rw[this]
theorem getItem_tuple_cut{t sl:Addr}{items:Array Value}{vl vu:Value}{lo hi:Option Int}{Q:VSP}(ht:IsTup s.heap t items)(hs:s.heap.IsSliceOf sl vl vu .none)(pl:IsPart vl lo)(pu:IsPart vu hi)
 (hw:¬(sIx items.size 0 lo=0∧sIx items.size items.size hi=items.size))
 (h:Q (.ref s.heap.objs.size) {s with heap:=s.heap.push {cls:=.type "tuple",data:=.seq ((items.toList.drop (sIx items.size 0 lo)).take (sIx items.size items.size hi-sIx items.size 0 lo)).toArray}})
 (hsz:items.size≤sizeLine):wpAny (model prog w) A (getItem (.ref t) (.ref sl)) Q E s:=by
 have htake:sizeOk (.seq ((items.toList.drop (sIx items.size 0 lo)).take (sIx items.size items.size hi-sIx items.size 0 lo)).toArray):=by
  show ((items.toList.drop (sIx items.size 0 lo)).take (sIx items.size items.size hi-sIx items.size 0 lo)).toArray.size≤sizeLine
  rw[List.size_toArray,List.length_take,List.length_drop,Array.length_toList]
  lia
 have hj:sIx items.size items.size hi≤items.size:=eS8 _ _ (Nat.le_refl _) hi
 obtain⟨os,hos,hcs,hds⟩:=id hs
 have hTs:s.TypeIs (.ref sl) "slice":=⟨os,hos,hcs⟩
 unfold getItem
 try with_reducible refine wpAny_holding ?_
 first|refine wpAny_bind (wpAny_pure ?_)|skip
 refine wpAny_bind (wpAny_sequenceKey ht.typeIs (by decide) ?_)
 refine wpAny_bind (wpAny_callSpecial?_slot (name:=Str.ofString "__getitem__") ht.typeIs PyProof.Rows.slot_tuple_getitem
  (wpAny_call_entry PyProof.Rows.slot_tuple_getitem ht.typeIs entry_tuple_getitem ?_ (args_tuple_getitem _ _)))
 show wpAny _ _ (Builtin.Tuple.tupleItemsOf (.ref t) >>= _) _ _ s
 refine wpAny_bind (tupleItemsOf_ ht ?_)
 refine wpAny_bind (wpAny_typeOf hTs ?_)
 rw[if_pos (by decide)]
 refine wpAny_bind (sliceApplied_gen hs pl pu ?_)
 have hno:¬((((sIx items.size 0 lo:Nat):Int)==0&&(1:Int)==1&&(sIx items.size items.size hi-sIx items.size 0 lo)==items.size)=true):=by
  intro q
  rw[Bool.and_eq_true,Bool.and_eq_true]at q
  have q1:((sIx items.size 0 lo:Nat):Int)=0:=eq_of_beq q.1.1
  have q2:sIx items.size items.size hi-sIx items.size 0 lo=items.size:=eq_of_beq q.2
  exact hw ⟨by lia,by lia⟩
 show wpAny _ _ (if (((sIx items.size 0 lo:Nat):Int)==0&&(1:Int)==1&&(sIx items.size items.size hi-sIx items.size 0 lo)==items.size)=true then _ else _) _ _ s
 rw[if_neg hno,dV4]
 first
  |exact wpAny_bind (m:=Builtin.Tuple.tupleExact _) (wpAny_newObj_type (wpAny_pure ⟨_,rfl,wpAny_pure h⟩) htake)
  |exact wpAny_bind (m:=Builtin.Tuple.tupleExact _) (wpAny_newObj_type (wpAny_bind (wpAny_pure (wpAny_pure ⟨_,rfl,wpAny_pure h⟩))) htake)
  |exact wpAny_bind (wpAny_bind (m:=Builtin.Tuple.tupleExact _) (wpAny_newObj_type (wpAny_pure (wpAny_pure ⟨_,rfl,wpAny_pure h⟩)) htake))
  |exact wpAny_bind (wpAny_bind (m:=Builtin.Tuple.tupleExact _) (wpAny_newObj_type (wpAny_pure ⟨_,rfl,wpAny_pure h⟩) htake))
end
end HT
namespace L2
open PySem PySem.Spec PyProof.Rows
noncomputable abbrev TO:=St→Hp→(Option Int→Hp→Prop)→Prop
noncomputable def PO(X:Cx)(e:Option Expr)(t:TO):Prop:=
 ∀(pins:PNS) (s:Shared) (σ:St) (H:Hp) (Q:Option Int→Hp→Prop),Inv X pins σ H s→t σ H Q→
  wpAny (model X.prog X.w) X.A (evalPart e X.env) (fun u s'=>∃o H',Inv X pins σ H' s'∧IsPart u o∧Q o H') X.xe s
noncomputable def eC7:TO:=fun _ H Q=>Q none H
noncomputable def fB5(t:TE):TO:=fun σ H Q=>t σ H fun x H1=>∃i,x= .int i∧Q (some i) H1
section
variable{X:Cx}{e:Expr}{te:TE}{lo hi:Option Expr}{tl th:TO}{pos p2:Pos}
theorem eA4:PO X none eC7:=by
 intro pins s σ H Q I h
 rw[evalPart_none]
 exact wpAny_pure ⟨none,H,I,.none,h⟩
theorem eC8(h:PE X e te):PO X (some e) (fB5 te):=by
 intro pins s σ H Q I hw
 rw[evalPart_some]
 refine thn (h pins s σ H _ I hw) fun u s1 hE1=>hE1.elim fun x H1 I1 r1 q1=>?_
 obtain⟨i,rfl,q⟩:=q1
 obtain⟨t,rfl⟩:=r1
 exact⟨some i,H1,I1,.int i t,q⟩
def SlR(X:Cx)(r:V→Option Int→Option Int→Hp→VK→Prop):Prop:=
 ∀(pins:PNS) (s:Shared) (σ:St) (H:Hp) (x:V) (v vl vu:Value) (lo hi:Option Int) (sl:Addr) (Q:VK),Inv X pins σ H s→J2 x v→s.heap.IsSliceOf sl vl vu .none→IsPart vl lo→IsPart vu hi→r x lo hi H Q→
  ∃T id,typeLookup (.type T) "__getitem__" =pure (some (.builtin id))∧s.TypeIs v T∧wpAny (model X.prog X.w) X.A (getItem v (.ref sl)) (EP X pins σ Q) X.xe s
theorem SlR.or{r r':V→Option Int→Option Int→Hp→VK→Prop}(h:SlR X r)(h':SlR X r'):SlR X (fun x lo hi H Q=>r x lo hi H Q∨r' x lo hi H Q):=by
 intro pins s σ H x v vl vu lo hi sl Q I rx hs pl pu q
 rcases q with q|q
 ·exact h pins s σ H x v vl vu lo hi sl Q I rx hs pl pu q
 ·exact h' pins s σ H x v vl vu lo hi sl Q I rx hs pl pu q
noncomputable def tSl(r:V→Option Int→Option Int→Hp→VK→Prop)(te:TE)(tl th:TO):TE:=fun σ H Q=>te σ H fun x H1=>tl σ H1 fun l H2=>th σ H2 fun u H3=>r x l u H3 Q
theorem dS2{r:V→Option Int→Option Int→Hp→VK→Prop}(hr:SlR X r)(he:PE X e te)(hl:PO X lo tl)(hu:PO X hi th):PE X (.Subscript e (.Slice lo hi none p2) pos) (tSl r te tl th):=by
 intro pins s σ H Q I h
 refine Subscript_ (thn (he pins s σ H _ I h) fun v s1 hE1=>hE1.elim fun x H1 I1 r1 q1=>?_)
 refine wpAny_Slice (thn (hl pins s1 σ H1 _ I1 q1) fun vl s2 ⟨l,H2,I2,pl,q2⟩=>thn (hu pins s2 σ H2 _ I2 q2) fun vu s3 ⟨u,H3,I3,pu,q3⟩=>?_)
 rw[evalPart_none]
 refine wpAny_pure ?_
 have I4:Inv X pins σ H3 {s3 with heap:=s3.heap.push {cls:=.type "slice",data:=.fields #[vl,vu,.none]}}:=I3.kept (t':=s3.toks) fun b ob q=>Heap.get?_push_of_some _ q
 obtain⟨T,id,hT,ht,hg⟩:=hr pins {s3 with heap:=s3.heap.push {cls:=.type "slice",data:=.fields #[vl,vu,.none]}} σ H3 x v vl vu l u s3.heap.objs.size Q I4 r1 (Heap.IsSliceOf.new ..) pl pu q3
 show wpAny (model X.prog X.w) X.A (subscriptTail e (.Slice lo hi none p2) v (.ref s3.heap.objs.size)) (EP X pins σ Q) X.xe {s3 with heap:=s3.heap.push {cls:=.type "slice",data:=.fields #[vl,vu,.none]}}
 exact tail_any (ops:= [.ref s3.heap.objs.size,v]) ht hT hg (by with_unfolding_all rfl)
def bW4(xs:List V)(lo hi:Option Int):List V:=(xs.drop (HT.sIx xs.length 0 lo)).take (HT.sIx xs.length xs.length hi-HT.sIx xs.length 0 lo)
theorem bJ4(xs:List V)(lo hi:Option Int):(bW4 xs lo hi).length≤xs.length:=by
 unfold bW4
 rw[List.length_take,List.length_drop]
 lia
def fO5(K:PySem.W.Frag):V→Option Int→Option Int→Hp→VK→Prop:=fun x lo hi H Q=>∃a xs,x= .ref a∧SqT K H a xs∧
 ¬(HT.sIx xs.length 0 lo=0∧HT.sIx xs.length xs.length hi=xs.length)∧∀p,H p=none→Q (.ref p) (upd H p (.tup (bW4 xs lo hi)))
theorem sl_tup:SlR X (fO5 X.K):=by
 intro pins s σ H x v vl vu lo hi sl Q I rx hs pl pu h
 obtain⟨a,xs,rfl,hx,hw,q⟩:=h
 cases rx
 obtain⟨its,r,ht,hz⟩:=I.tuple hx
 have hlen:its.toArray.size=xs.length:=by rw[List.size_toArray];exact r.length.symm
 refine⟨"tuple",_,PyProof.Rows.slot_tuple_getitem.lookup,ht.typeIs,?_⟩
 refine HT.getItem_tuple_cut ht hs pl pu (by rw[hlen];exact hw) ?_ (by rw[hlen];exact hz)
 rw[hlen]
 refine⟨.ref s.heap.objs.size,_,I.laid (t':=s.toks) (o:=.tup (bW4 xs lo hi)) (fun b ob q=>Heap.get?_push_of_some _ q) (Nat.le_refl _) ?_,rfl,q _ (I.hok.fresh (Nat.le_refl _))⟩
 exact⟨Nat.le_trans (bJ4 xs lo hi) hz,_,(r.drop (HT.sIx xs.length 0 lo)).take (HT.sIx xs.length xs.length hi-HT.sIx xs.length 0 lo),aB6.new _ _⟩
def fB3(K:PySem.W.Frag):R2:=fun x y H Q=>∃a b xs ys,x= .ref a∧y= .ref b∧SqT K H a xs∧SqT K H b ys∧xs≠ []∧xs.length+ys.length≤sizeLine∧
 (ys= []→Q (.ref a) H)∧(ys≠ []→∀p,H p=none→Q (.ref p) (upd H p (.tup (xs++ys))))
theorem w6.nil_iff{xs:List V}{us:List Value}(r:w6 xs us):us= []↔xs= []:=by
 cases r with
 |nil=>simp
 |cons _ _=>simp
theorem eA2:OpR X (binaryOp .Add) (fB3 X.K):=by
 intro pins s σ H x y v u Q I rx ry h
 obtain⟨a,b,xs,ys,rfl,rfl,ha,hb,hx,hz,q1,q2⟩:=h
 cases rx
 cases ry
 obtain⟨its,r1,p1,_⟩:=I.tuple ha
 obtain⟨its2,r2,p2,_⟩:=I.tuple hb
 refine HT.cat_tup p1 p2 (fun z=>hx (r1.nil_iff.mp z)) (fun z=>⟨.ref a,H,I,rfl,q1 (r2.nil_iff.mp z)⟩) (fun z=>?_) (by rw[←r1.length,←r2.length];exact hz)
 refine⟨.ref s.heap.objs.size,_,I.laid (t':=s.toks) (o:=.tup (xs++ys)) (fun b ob q=>Heap.get?_push_of_some _ q) (Nat.le_refl _) ?_,rfl,q2 (fun w=>z (r2.nil_iff.mpr w)) _ (I.hok.fresh (Nat.le_refl _))⟩
 exact⟨by rw[List.length_append];exact hz,_,r1.append r2,aB6.new _ _⟩
end
noncomputable def ixN(n:Nat)(i:Int):Option Nat:=if 0≤i then (if i<n then some i.toNat else none)else if -(n:Int)≤i then some (i+n).toNat else none
def atI{α:Type}(xs:List α)(i:Int):Option α:=(ixN xs.length i).bind fun j=>xs[j]?
theorem cW5{n:Nat}{i:Int}{j:Nat}(h:ixN n i=some j):seqIndex? i n=some j∧j<n∧ -(n:Int)≤i∧i<n:=by
 unfold ixN at h
 by_cases h0:0≤i
 · rw[if_pos h0]at h
   by_cases h1:i<n
   · rw[if_pos h1]at h
     have e:i.toNat=j:=Option.some.inj h
     exact⟨by rw[seqIndex_of h0 h1,e],by lia,by lia,h1⟩
   ·rw[if_neg h1]at h;cases h
 · rw[if_neg h0]at h
   by_cases h1: -(n:Int)≤i
   · rw[if_pos h1]at h
     have e:(i+n).toNat=j:=Option.some.inj h
     exact⟨by rw[seqIndex_neg (by lia) h1,e],by lia,h1,by lia⟩
   ·rw[if_neg h1]at h;cases h
theorem cD3{α:Type}{xs:List α}{i:Int}{v:α}(h:atI xs i=some v):∃j,seqIndex? i xs.length=some j∧xs[j]? =some v∧j<xs.length∧ -(xs.length:Int)≤i∧i<xs.length:=by
 unfold atI at h
 cases e:ixN xs.length i with
 |none=>rw[e]at h;cases h
 |some j=>
   rw[e]at h
   obtain⟨h1,h2,h3,h4⟩:=cW5 e
   exact⟨j,h1,h,h2,h3,h4⟩
theorem atI_nat{α:Type}{xs:List α}{j:Nat}{v:α}(h:xs[j]? =some v):atI xs (j:Int)=some v:=by
 have hj:j<xs.length:=(List.getElem?_eq_some_iff.mp h).1
 have e:ixN xs.length (j:Int)=some j:=by
  unfold ixN
  rw[if_pos (by lia),if_pos (by lia)];simp
 unfold atI;rw[e];exact h
noncomputable def cH4(b:Expr):Prop:=∀o i,subscripted b false o i=operate [o,i] (getItem o i)
def IxR(X:Cx)(r:R2):Prop:=
 ∀(value slice:Expr) (pins:PNS) (s:Shared) (σ:St) (H:Hp) (x y:V) (v u:Value) (Q:VK),Inv X pins σ H s→J2 x v→J2 y u→r x y H Q→
  subscripted slice false v u=operate [v,u] (getItem v u)→wpAny (model X.prog X.w) X.A (subscriptTail value slice v u) (EP X pins σ Q) X.xe s
def MtR(X:Cx)(id:String)(r:V→List V→Hp→VK→Prop):Prop:=
 ∀(pins:PNS) (s:Shared) (σ:St) (H:Hp) (x:V) (xs:List V) (v:Value) (us:List Value) (Q:VK),Inv X pins σ H s→J2 x v→w6 xs us→r x xs H Q→
  wpAny (model X.prog X.w) X.A (call (.builtin id) (v::us)) (EP X pins σ Q) X.xe s
section
variable{X:Cx}{a b:Expr}{ta tb:TE}{pos:Pos}
theorem IxR.or{r r':R2}(h:IxR X r)(h':IxR X r'):IxR X (fun x y H Q=>r x y H Q∨r' x y H Q):=by
 intro value slice pins s σ H x y v u Q I rx ry q hs
 rcases q with q|q
 ·exact h value slice pins s σ H x y v u Q I rx ry q hs
 ·exact h' value slice pins s σ H x y v u Q I rx ry q hs
theorem fC6{r:R2}(hr:IxR X r)(ha:PE X a ta)(hb:PE X b tb)(hs:cH4 b):PE X (.Subscript a b pos) (tOp r ta tb):=by
 intro pins s σ H Q I h
 exact Subscript_ (eW5 ha hb I h fun v u s2 x y H2 I2 rx ry q=>hr a b pins s2 σ H2 x y v u Q I2 rx ry q (hs _ _))
def fN9(K:PySem.W.Frag):R2:=fun x y H Q=>∃p xs i v,x= .ref p∧y= .int i∧SqL K H p xs∧atI xs i=some v∧Q v H
def fK4(K:PySem.W.Frag):R2:=fun x y H Q=>∃p xs i v,x= .ref p∧y= .int i∧SqT K H p xs∧atI xs i=some v∧Q v H
def fN2:R2:=fun x y H Q=>∃z i c,x= .str z∧y= .int i∧z.length≤sizeLine∧atI z.cps.toList i=some c∧Q (.str ⟨#[c]⟩) H
theorem eD3:IxR X (fN9 X.K):=by
 intro value slice pins s σ H x y v u Q I rx ry h hs
 obtain⟨p,xs,i,z,rfl,rfl,hq,he,q⟩:=h
 cases rx
 obtain⟨t,rfl⟩:=ry
 obtain⟨its,r,pl,hz⟩:=I.list hq
 obtain⟨j,h1,h2,h3,h4,h5⟩:=cD3 he
 obtain⟨w,ew,rw'⟩:=r.get h2
 have hl:=r.length
 have hn:=aZ7
 have fin:EP X pins σ Q w s:=⟨z,H,I,rw',q⟩
 by_cases h0:0≤i
 · have hj:i.toNat=j:=by
    rw[seqIndex_of h0 h5]at h1
    exact Option.some.inj h1
   exact item_listR pl.isList h0 (by lia) (by rw[hj];simpa using ew) fin hs
 · have hj:(i+(its.toArray.size:Int)).toNat=j:=by
    rw[seqIndex_neg (by lia) h4]at h1
    rw[List.size_toArray,←hl]
    exact Option.some.inj h1
   exact subscriptTail_builtinR (x:=w) pl.isList.typeIs slot_list_getitem.lookup
    (wpAny_getItem_list_neg (Q:=fun r s'=>r=w∧EP X pins σ Q r s') pl.isList (by lia) (by rw[List.size_toArray]<;>lia) (by lia) (by rw[hj];simpa using ew) ⟨rfl,fin⟩) hs
theorem ix_tup:IxR X (fK4 X.K):=by
 intro value slice pins s σ H x y v u Q I rx ry h hs
 obtain⟨p,xs,i,z,rfl,rfl,hq,he,q⟩:=h
 cases rx
 obtain⟨t,rfl⟩:=ry
 obtain⟨its,r,pl,hz⟩:=I.tuple hq
 obtain⟨j,h1,h2,h3,h4,h5⟩:=cD3 he
 obtain⟨w,ew,rw'⟩:=r.get h2
 have hl:=r.length
 have hn:=aZ7
 have fin:EP X pins σ Q w s:=⟨z,H,I,rw',q⟩
 exact subscriptTail_builtinR (x:=w) pl.typeIs slot_tuple_getitem.lookup
  (getItem_tuple (j:=j) (Q:=fun r s'=>r=w∧EP X pins σ Q r s') pl (by lia) (by lia) (by rw[List.size_toArray,←hl];exact h1) (by simpa using ew) ⟨rfl,fin⟩) hs
theorem eP0:IxR X fN2:=by
 intro value slice pins s σ H x y v u Q I rx ry h hs
 obtain⟨z,i,c,rfl,rfl,hz,he,q⟩:=h
 obtain⟨t,rfl⟩:=rx
 obtain⟨t',rfl⟩:=ry
 obtain⟨j,h1,h2,h3,h4,h5⟩:=cD3 he
 have hl:z.cps.toList.length=z.length:=by simp[Str.length]
 rw[hl]at h1 h4 h5
 have hn:=aZ7
 exact tail_any (typeIs_str s z t) slot_str_getitem.lookup (getItem_str (c:=c) (by
  have e1:decide (i < -(2 ^ 63:Int))=false:=decide_eq_false (by lia)
  have e2:decide (i≥2 ^ 63)=false:=decide_eq_false (by lia)
  rw[e1,e2,Bool.or_false]) (by rw[h1];simpa using h2) ⟨.str ⟨#[c]⟩,H,I.tok _,⟨_,rfl⟩,q⟩) hs
theorem cU7(its:List Value)(n j:Nat)(u:Value):Obj.mapSeq (·.setIfInBounds j u) {cls:=.type "list",data:=.seq its.toArray n}= {cls:=.type "list",data:=.seq (its.set j u).toArray n}:=by
 simp[Obj.mapSeq]
theorem Inv.lst{pins:PNS}{σ:St}{H:Hp}{s:Shared}{p:Addr}{xs:List V}(I:Inv X pins σ H s)(h:H p=some (.lst xs)):
 ∃(its:List Value) (n:Nat),w6 xs its∧s.heap.get? p=some {cls:=.type "list",data:=.seq its.toArray n}∧xs.length≤sizeLine:=by
 obtain⟨z,its,n,r,e⟩:=I.hok p _ h
 exact⟨its,n,r,e,z⟩
theorem Inv.lstUpd{pins:PNS}{σ:St}{H:Hp}{s:Shared}{p:Addr}{xs ys:List V}{its its':List Value}{n n':Nat}{f:Obj→Obj}(I:Inv X pins σ H s)(h:H p=some (.lst xs))
 (ho:s.heap.get? p=some {cls:=.type "list",data:=.seq its.toArray n}) (hf:f {cls:=.type "list",data:=.seq its.toArray n}= {cls:=.type "list",data:=.seq its'.toArray n'}) (r:w6 ys its') (hz:ys.length≤sizeLine) (t:Nat):
 Inv X pins σ (upd H p (.lst ys)) {s with heap:=s.heap.update p f,toks:=t}:=by
 have e:(s.heap.update p f).get? p=some {cls:=.type "list",data:=.seq its'.toArray n'}:=by
  rw[Heap.get?_update_self f ho (by rw[hf]<;>rfl),hf]
 refine I.write (x:=p) (e:=p) (by rw[h];trivial) (.inl rfl) (fun b u hb q=>(Heap.get?_update_other _ _ (Ne.symm hb)).trans q) ⟨_,e⟩ ?_
 exact⟨hz,its',n',r,e⟩
def fC2:V→V→V→Hp→(Hp→Prop)→Prop:=fun o i v H Q=>∃p xs k j,o= .ref p∧i= .int k∧H p=some (.lst xs)∧ixN xs.length k=some j∧Q (upd H p (.lst (xs.set j v)))
theorem dP9:eR3 X fC2:=by
 intro pins s σ H o i v ov iv u Q I ro ri rv h
 obtain⟨p,xs,k,j,rfl,rfl,hp,hj,q⟩:=h
 cases ro
 obtain⟨t,rfl⟩:=ri
 obtain⟨its,n,r,ho,hz⟩:=I.lst hp
 obtain⟨h1,h2,h3,h4⟩:=cW5 hj
 have hl:=r.length
 have hn:=aZ7
 have I':Inv X pins σ (upd H p (.lst (xs.set j v))) {s with heap:=s.heap.update p (Obj.mapSeq (·.setIfInBounds j u))}:=
  I.lstUpd hp ho (cU7 its n j u) (r.set rv j) (by rw[List.length_set];exact hz) s.toks
 by_cases h0:0≤k
 · have hk:k.toNat=j:=by
    rw[seqIndex_of h0 h4]at h1
    exact Option.some.inj h1
   exact PySem.W.ki_setAt ho h0 (by lia) (by rw[List.size_toArray,←hl];exact h4) (by rw[hk];exact⟨_,I',q⟩)
 · have hk:(k+(its.toArray.size:Int)).toNat=j:=by
    rw[seqIndex_neg (by lia) h3]at h1
    rw[List.size_toArray,←hl]
    exact Option.some.inj h1
   exact PySem.W.ki_setBack ho (by lia) (by rw[List.size_toArray,←hl];exact h3) (by lia) (by rw[hk];exact⟨_,I',q⟩)
theorem cG0(lo hi:Option Int)(n:Nat):(sliceBounds lo hi none n).1= ((HT.sIx n 0 lo:Nat):Int)∧(sliceBounds lo hi none n).2.1= ((HT.sIx n n hi:Nat):Int)∧(sliceBounds lo hi none n).2.2=1:=by
 refine⟨?_,?_,rfl⟩
 · cases lo with
   |none=>simp[sliceBounds,HT.sIx]
   |some i=>
     simp only[sliceBounds,HT.sIx,Option.getD_none,show (1:Int)>0 by decide,if_true]
     by_cases h:i<0
     ·simp only[h,if_true]<;>lia
     ·simp only[h,if_false]<;>lia
 · cases hi with
   |none=>simp[sliceBounds,HT.sIx]
   |some i=>
     simp only[sliceBounds,HT.sIx,Option.getD_none,show (1:Int)>0 by decide,if_true]
     by_cases h:i<0
     ·simp only[h,if_true]<;>lia
     ·simp only[h,if_false]<;>lia
theorem bU9(its:List Value)(lo hi:Option Int):slicePick its.toArray lo hi none= ((its.drop (HT.sIx its.length 0 lo)).take (HT.sIx its.length its.length hi-HT.sIx its.length 0 lo)).toArray:=by
 obtain⟨h1,h2,h3⟩:=cG0 lo hi its.toArray.size
 unfold slicePick
 rw[h1,h2,h3]
 simp only[sliceRange_one,pick_run,List.size_toArray]<;>rfl
def fM9(K:PySem.W.Frag):V→Option Int→Option Int→Hp→VK→Prop:=fun x lo hi H Q=>∃a xs,x= .ref a∧SqL K H a xs∧∀p,H p=none→Q (.ref p) (upd H p (.lst (bW4 xs lo hi)))
theorem eE4:SlR X (fM9 X.K):=by
 intro pins s σ H x v vl vu lo hi sl Q I rx hs pl pu h
 obtain⟨a,xs,rfl,hx,q⟩:=h
 cases rx
 obtain⟨its,r,ht,hz⟩:=I.list hx
 have hlen:=r.length
 refine⟨"list",_,slot_list_getitem.lookup,ht.isList.typeIs,?_⟩
 refine wpAny_getItem_list_slice ht.isList hs pl pu .none (by simp) ?_ (by rw[List.size_toArray]<;>lia)
 rw[bU9,←hlen]
 refine⟨.ref s.heap.objs.size,_,I.laid (t':=s.toks) (o:=.lst (bW4 xs lo hi)) (fun b ob q=>Heap.get?_push_of_some _ q) (Nat.le_refl _) ?_,rfl,q _ (I.hok.fresh (Nat.le_refl _))⟩
 exact⟨Nat.le_trans (bJ4 xs lo hi) hz,_,0,(r.drop (HT.sIx xs.length 0 lo)).take (HT.sIx xs.length xs.length hi-HT.sIx xs.length 0 lo),Heap.get?_push_size _ rfl⟩
noncomputable def aZ0:V→Bool
 | .non=>true
 | .bl _=>true
 | .int _=>true
 | .str _=>true
 |_=>false
noncomputable def eqV:V→V→Bool
 | .non,.non=>true
 | .bl a,.bl b=>a==b
 | .bl a,.int b=>(if a then 1 else 0)==b
 | .int a,.bl b=>a==(if b then 1 else 0)
 | .int a,.int b=>a==b
 | .str a,.str b=>a==b
 |_,_=>false
theorem eV2{A:Around}{s:Shared}{y x:V}{u v:Value}(ry:J2 y u)(rx:J2 x v)(fy:aZ0 y=true)(fx:aZ0 x=true):SeqAt.EqAt A s u v (eqV y x):=by
 cases y with
 |non=>
   cases ry
   cases x with
   |non=>cases rx;exact SeqAt.EqAt.same _
   |bl b=>cases rx;exact SeqAt.EqAt.none_bool b
   |int b=>obtain⟨t,rfl⟩:=rx;exact SeqAt.EqAt.none_int b t
   |str b=>obtain⟨t,rfl⟩:=rx;exact SeqAt.EqAt.none_str b t
   |_=>exact absurd (show false=true from fx) Bool.false_ne_true
 |bl a=>
   cases ry
   cases x with
   |non=>cases rx;exact SeqAt.EqAt.bool_none a
   |bl b=>cases rx;exact SeqAt.EqAt.bool_bool a b
   |int b=>obtain⟨t,rfl⟩:=rx;exact SeqAt.EqAt.bool_int a b t
   |str b=>obtain⟨t,rfl⟩:=rx;exact SeqAt.EqAt.bool_str a b t
   |_=>exact absurd (show false=true from fx) Bool.false_ne_true
 |int a=>
   obtain⟨t',rfl⟩:=ry
   cases x with
   |non=>cases rx;exact SeqAt.EqAt.int_none a t'
   |bl b=>cases rx;exact SeqAt.EqAt.int_bool a t' b
   |int b=>obtain⟨t,rfl⟩:=rx;exact SeqAt.EqAt.int_int a t' b t
   |str b=>obtain⟨t,rfl⟩:=rx;exact SeqAt.EqAt.int_str a t' b t
   |_=>exact absurd (show false=true from fx) Bool.false_ne_true
 |str a=>
   obtain⟨t',rfl⟩:=ry
   cases x with
   |non=>cases rx;exact SeqAt.EqAt.str_none a t'
   |bl b=>cases rx;exact SeqAt.EqAt.str_bool a t' b
   |int b=>obtain⟨t,rfl⟩:=rx;exact SeqAt.EqAt.str_int a t' b t
   |str b=>obtain⟨t,rfl⟩:=rx;exact SeqAt.EqAt.str_str a t' b t
   |_=>exact absurd (show false=true from fx) Bool.false_ne_true
 |_=>exact absurd (show false=true from fy) Bool.false_ne_true
def eqU(x:V)(u:Value):Bool:=match u with
 | .none=>eqV .non x
 | .bool b=>eqV (.bl b) x
 | .int i _=>eqV (.int i) x
 | .str z _=>eqV (.str z) x
 |_=>false
theorem dJ4{x y:V}{u:Value}(r:J2 y u)(f:aZ0 y=true):eqU x u=eqV y x:=by
 cases y with
 |non=>cases r;rfl
 |bl b=>cases r;rfl
 |int i=>obtain⟨t,rfl⟩:=r;rfl
 |str z=>obtain⟨t,rfl⟩:=r;rfl
 |_=>exact absurd (show false=true from f) Bool.false_ne_true
theorem bN7{x:V}{xs:List V}{us:List Value}(h:w6 xs us)(f:xs.all aZ0=true):us.any (eqU x)=xs.any fun y=>eqV y x:=by
 induction h with
 |nil=>rfl
 |cons r t ih=>
   rw[List.all_cons,Bool.and_eq_true]at f
   rw[List.any_cons,List.any_cons,dJ4 r f.1,ih f.2]
theorem aT9{A:Around}{s:Shared}{x:V}{v:Value}(rx:J2 x v)(fx:aZ0 x=true):∀ {xs:List V} {us:List Value},w6 xs us→xs.all aZ0=true→∀u∈us,SeqAt.EqAt A s u v (eqU x u)
 |_,_,.nil,_=>fun u hu=>by cases hu
 |y::xs,u::us,.cons r t,f=>fun u' hu=>by
   rw[List.all_cons,Bool.and_eq_true]at f
   rcases List.mem_cons.mp hu with rfl|hu
   ·rw[dJ4 r f.1];exact eV2 r rx f.1 fx
   ·exact aT9 rx fx t f.2 u' hu
def inV(x:V)(xs:List V):Bool:=xs.any fun y=>eqV y x
def rIn(K:PySem.W.Frag)(neg:Bool):R2:=fun x y H Q=>∃p xs,y= .ref p∧(SqL K H p xs∨SqT K H p xs)∧aZ0 x=true∧xs.all aZ0=true∧Q (.bl (if neg then !inV x xs else inV x xs)) H
theorem dI0:OpR X (compareOp .In) (rIn X.K false):=by
 intro pins s σ H x y v u Q I rx ry h
 obtain⟨p,xs,rfl,hq,fx,fs,q⟩:=h
 cases ry
 rcases hq with hq|hq
 · obtain⟨its,r,pl,hz⟩:=I.list hq
   refine SeqAt.in_listAt (eqU x) pl.isList (fun w hw=>aT9 rx fx r fs w (by simpa using hw)) ⟨.bl _,H,I,rfl,?_⟩
   rw[show its.toArray.any (eqU x)=its.any (eqU x) by simp,bN7 r fs]
   exact q
 · obtain⟨its,r,pl,hz⟩:=I.tuple hq
   refine SeqAt.in_tupleAt (eqU x) pl (fun w hw=>aT9 rx fx r fs w (by simpa using hw)) ⟨.bl _,H,I,rfl,?_⟩
   rw[show its.toArray.any (eqU x)=its.any (eqU x) by simp,bN7 r fs]
   exact q
theorem cE2:OpR X (compareOp .NotIn) (rIn X.K true):=by
 intro pins s σ H x y v u Q I rx ry h
 obtain⟨p,xs,rfl,hq,fx,fs,q⟩:=h
 cases ry
 rcases hq with hq|hq
 · obtain⟨its,r,pl,hz⟩:=I.list hq
   refine SeqAt.notIn_listAt (eqU x) pl.isList (fun w hw=>aT9 rx fx r fs w (by simpa using hw)) ⟨.bl _,H,I,rfl,?_⟩
   rw[show its.toArray.any (eqU x)=its.any (eqU x) by simp,bN7 r fs]
   exact q
 · obtain⟨its,r,pl,hz⟩:=I.tuple hq
   refine SeqAt.notIn_tupleAt (eqU x) pl (fun w hw=>aT9 rx fx r fs w (by simpa using hw)) ⟨.bl _,H,I,rfl,?_⟩
   rw[show its.toArray.any (eqU x)=its.any (eqU x) by simp,bN7 r fs]
   exact q
theorem cB6:OpR X (compareOp .NotIn) (fun x y H Q=>∃i j,x= .str i∧y= .str j∧Q (.bl (!(!(Builtin.Str.occurrences j i 0 j.length 1).isEmpty))) H):=by
 intro pins s σ H x y v u Q I rx ry h
 obtain⟨i,j,rfl,rfl,q⟩:=h
 obtain⟨t,rfl⟩:=rx
 obtain⟨t',rfl⟩:=ry
 exact notIn_str ⟨.bl _,H,I,rfl,q⟩
theorem cI2:aC3 X (.builtin "len") (fun xs H Q=>∃p ys,xs= [.ref p]∧(SqL X.K H p ys∨SqT X.K H p ys)∧Q (.int ys.length) H):=by
 intro pins s σ H xs us Q I r h
 obtain⟨p,ys,rfl,hq,q⟩:=h
 obtain⟨u,rfl,rx⟩:=aG5 r
 cases rx
 have hn:=aZ7
 rcases hq with hq|hq
 · obtain⟨its,r',pl,hz⟩:=I.list hq
   have hlen:=r'.length
   exact Calls.call_len_list pl.isList (by simp only[List.size_toArray]<;>lia) ⟨.int ys.length,H,I.tok _,⟨s.toks+1,by rw[List.size_toArray,hlen]⟩,q⟩
 · obtain⟨its,r',pl,hz⟩:=I.tuple hq
   have hlen:=r'.length
   exact len_tuple pl (by simp only[List.size_toArray]<;>lia) ⟨.int ys.length,H,I.tok _,⟨s.toks+1,by rw[List.size_toArray,hlen]⟩,q⟩
theorem cF5:aC3 X (.builtin "len") (fun xs H Q=>∃z,xs= [.str z]∧z.length≤sizeLine∧Q (.int z.length) H):=by
 intro pins s σ H xs us Q I r h
 obtain⟨z,rfl,hz,q⟩:=h
 obtain⟨u,rfl,t,rfl⟩:=aG5 r
 have hn:=aZ7
 exact len_str (by lia) ⟨.int z.length,H,I.tok _,⟨_,rfl⟩,q⟩
theorem aC3.or{f:Value}{r r':List V→Hp→VK→Prop}(h:aC3 X f r)(h':aC3 X f r'):aC3 X f (fun xs H Q=>r xs H Q∨r' xs H Q):=by
 intro pins s σ H xs us Q I rs q
 rcases q with q|q
 ·exact h pins s σ H xs us Q I rs q
 ·exact h' pins s σ H xs us Q I rs q
theorem cB3:aC3 X (.type "list") (fun xs H Q=>∃p ys,xs= [.ref p]∧(SqL X.K H p ys∨SqT X.K H p ys)∧∀l,H l=none→Q (.ref l) (upd H l (.lst ys))):=by
 intro pins s σ H xs us Q I r h
 obtain⟨p,ys,rfl,hq,q⟩:=h
 obtain⟨u,rfl,rx⟩:=aG5 r
 cases rx
 have fin:∀(its:List Value),w6 ys its→ys.length≤sizeLine→∀(h':Heap) (c':Nat),(∀b o',s.heap.get? b=some o'→h'.get? b=some o')→
  h'.get? s.heap.objs.size=some {cls:=.type "list",dict:=none,data:=.seq its.toArray c',slots:= #[]}→EP X pins σ Q (.ref s.heap.objs.size) {s with heap:=h'}:=fun its r' hz h' c' kp e=>
  ⟨.ref s.heap.objs.size,_,I.laid (t':=s.toks) kp (Nat.le_refl _) (show U9 X.prog X.w _ h' _ (.lst ys) from⟨hz,its,c',r',e⟩),rfl,q _ (I.hok.fresh (Nat.le_refl _))⟩
 rcases hq with hq|hq
 · obtain⟨its,r',pl,hz⟩:=I.list hq
   have hlen:=r'.length
   obtain⟨o,ho,hc,n,hd⟩:=pl.isList
   exact call_list_seq p (.inl rfl) ho hc hd (fun h' c' kp e=>fin its r' hz h' c' kp e) (by simp only[List.size_toArray]<;>lia)
 · obtain⟨its,r',pl,hz⟩:=I.tuple hq
   have hlen:=r'.length
   obtain⟨o,ho,hc,n,hd⟩:=pl
   exact call_list_seq p (.inr rfl) ho hc hd (fun h' c' kp e=>fin its r' hz h' c' kp e) (by simp only[List.size_toArray]<;>lia)
theorem bV4:aC3 X (.type "tuple") (fun xs H Q=>∃p ys,xs= [.ref p]∧((SqL X.K H p ys∧∀l,H l=none→Q (.ref l) (upd H l (.tup ys)))∨(SqT X.K H p ys∧Q (.ref p) H))):=by
 intro pins s σ H xs us Q I r h
 obtain⟨p,ys,rfl,h⟩:=h
 obtain⟨u,rfl,rx⟩:=aG5 r
 cases rx
 rcases h with⟨hq,q⟩|⟨hq,q⟩
 · obtain⟨its,r',pl,hz⟩:=I.list hq
   have hlen:=r'.length
   refine call_tuple_list pl.isList (fun h' kp=>?_) (by simp only[List.size_toArray]<;>lia)
   have I1:Inv X pins σ H {s with heap:=h'}:=I.kept (t':=s.toks) kp
   have I2:Inv X pins σ (upd H h'.objs.size (.tup ys)) {s with heap:=h'.push {cls:=.type "tuple",data:=.seq its.toArray}}:=
    I1.laid (t':=s.toks) (fun b o e=>Heap.get?_push_of_some _ e) (Nat.le_refl _) (show U9 X.prog X.w _ _ _ (.tup ys) from⟨hz,its,r',aB6.new _ _⟩)
   exact⟨.ref h'.objs.size,_,I2,rfl,q _ (I1.hok.fresh (Nat.le_refl _))⟩
 · obtain⟨its,r',pl,hz⟩:=I.tuple hq
   exact call_tuple_same pl ⟨.ref p,H,I,rfl,q⟩
def tyV(K:PySem.W.Frag)(T:String)(x:V)(H:Hp):Prop:=match x with
 | .str _=>T= "str"
 | .int _=>T= "int"
 | .ref p=>(T= "list"∧∃xs,SqL K H p xs)∨(T= "tuple"∧∃o,K.lookup p=some o∧o.cls= .type "tuple"∧o.dict=none)∨
    (T= "dict"∧((∃kvs,H p=some (.dK kvs))∨∃kvs,H p=some (.dT kvs)))∨(T= "set"∧∃S n,H p=some (.set S n))
 |_=>False
theorem dL2{pins:PNS}{σ:St}{H:Hp}{s:Shared}{T:String}{x:V}{v:Value}(I:Inv X pins σ H s)(r:J2 x v)(ty:tyV X.K T x H):
 s.TypeIs v T∧∀a,v= .ref a→∃ob,s.heap.get? a=some ob∧ob.dict=none:=by
 cases x with
 |str z=>
   obtain⟨t,rfl⟩:=r
   cases (show T= "str" from ty)
   exact⟨typeIs_str s z t,fun _ e=>nomatch e⟩
 |int i=>
   obtain⟨t,rfl⟩:=r
   cases (show T= "int" from ty)
   exact⟨typeIs_int s i t,fun _ e=>nomatch e⟩
 |ref p=>
   cases r
   rcases ty with⟨rfl,xs,hq⟩|⟨rfl,o,hk,hc,hd⟩|⟨rfl,hk⟩|⟨rfl,S,n,hk⟩
   · obtain⟨its,_,pl,_⟩:=I.list hq
     refine⟨pl.isList.typeIs,fun a e=>?_⟩
     cases e
     obtain⟨o,n,e,c,hd,_⟩:=pl
     exact⟨o,e,hd⟩
   · refine⟨⟨o,I.kIn p o hk,hc⟩,fun a e=>?_⟩
     cases e
     exact⟨o,I.kIn _ o hk,hd⟩
   · have z:∃o,s.heap.get? p=some o∧o.ExactDict:=by
      rcases hk with⟨kvs,hk⟩|⟨kvs,hk⟩
      · obtain⟨_,_,_,_,o,_,_,e,ex,_⟩:=I.hok p _ hk
        exact⟨o,e,ex⟩
      · obtain⟨_,_,_,_,o,_,_,e,ex,_⟩:=I.hok p _ hk
        exact⟨o,e,ex⟩
     obtain⟨o,e,ex⟩:=z
     refine⟨⟨o,e,ex.1⟩,fun a e2=>?_⟩
     cases e2
     exact⟨o,e,ex.2.1⟩
   · obtain⟨o,_,_,_,e,ex,_⟩:=I.hok p _ hk
     refine⟨⟨o,e,ex.1⟩,fun a e2=>?_⟩
     cases e2
     exact⟨o,e,ex.2.1⟩
 |_=>exact False.elim ty
def fK8(K:PySem.W.Frag)(T:String)(r:V→List V→Hp→VK→Prop)(to:TE):TE:=fun σ H Q=>to σ H fun x H1=>tyV K T x H1∧r x [] H1 Q
def tBM(K:PySem.W.Frag)(T:String)(r:V→List V→Hp→VK→Prop)(to:TE)(t:TA):TE:=fun σ H Q=>to σ H fun x H1=>tyV K T x H1∧t σ H1 fun xs H2=>r x xs H2 Q
variable{o e:Expr}{es:List Expr}{to:TE}{t:TA}{name:Str}{apos cpos:Pos}{T id:String}{r:V→List V→Hp→VK→Prop}
theorem eO8(pa:PlainAttrs T)(slot:Slot T name id)(hty:typeOf (.builtin id)=pure (.type "method_descriptor"))(hm:MtR X id r)(ho:PE X o to)
 (hbase:attributeBase o name X.env (eval o X.env)=eval o X.env) (hline:(apos.endLine==cpos.line)=true):PE X (.Call (.Attribute o name apos) [] [] cpos) (fK8 X.K T r to):=by
 intro pins s σ H Q I h
 refine wpAny_Call_method0_late hbase hline (thn (ho pins s σ H _ I h) fun v s1 ⟨x,H1,I1,r1,ty,q1⟩=>?_)
 obtain⟨h1,h2⟩:=dL2 I1 r1 ty
 exact⟨T,id,pa,slot,hty,h1,h2,Calls.callWith_builtin rfl (PySem.evalArgs_none (hm pins s1 σ H1 x [] v [] Q I1 r1 .nil q1))⟩
theorem eL6(pa:PlainAttrs T)(slot:Slot T name id)(hty:typeOf (.builtin id)=pure (.type "method_descriptor"))(hm:MtR X id r)(ho:PE X o to)(ha:PA X (e::es) t)
 (hbase:attributeBase o name X.env (eval o X.env)=eval o X.env)
 (hfew:((backTo cpos (starEach (e::es) X.env)).all (fun x=> !x.1)&&(backToKw cpos (keywordEach [] X.env)).all (fun x=>x.1.isSome)
   && decide ((e::es).length+([]:List Keyword).length+(if ([]:List Keyword).isEmpty then 0 else 1)<30))=true)
 (hline:(apos.endLine==cpos.line)=true) (hs:starEach (e::es) X.env= (false,eval e X.env)::starEach es X.env) (hplain:(backTo cpos (starEach es X.env)).any (·.1)=false):
 PE X (.Call (.Attribute o name apos) (e::es) [] cpos) (tBM X.K T r to t):=by
 intro pins s σ H Q I h
 refine wpAny_Call_method_late hbase hfew hline rfl (thn (ho pins s σ H _ I h) fun v s1 ⟨x,H1,I1,r1,ty,q1⟩=>?_)
 obtain⟨h1,h2⟩:=dL2 I1 r1 ty
 refine⟨T,id,pa,slot,hty,h1,h2,?_⟩
 have hA:=ha cpos pins s1 σ H1 _ I1 q1
 rw[hs]at hA ⊢
 refine Calls.callWith_builtin (by show (false||(backTo cpos (starEach es X.env)).any (·.1))=false;rw[hplain]<;>rfl) (Calls.evalArgs_plain ?_)
 exact thn hA fun us s2 hE1=>hE1.elim fun vs H2 I2 r2 q2=>hm pins s2 σ H2 x vs v us Q I2 r1 r2 q2
end
def MtM(X:Cx)(id:String)(r:V→List V→Hp→VK→Prop):Prop:=
 ∀(pins:PNS) (s:Shared) (σ:St) (H:Hp) (x:V) (xs:List V) (v:Value) (us:List Value) (Q:VK),Inv X pins σ H s→J2 x v→w6 xs us→r x xs H Q→
  wpAny (model X.prog X.w) X.A (call (.builtin id) (v::us)) (EP X pins σ Q) X.xe s
theorem w6.one{x:V}{us:List Value}(h:w6 [x] us):∃u,us= [u]∧J2 x u:=by
 cases h with
 |cons r t=>cases t;exact⟨_,rfl,r⟩
theorem w6.zero:∀ {us:List Value},w6 [] us→us= []
 |_,.nil=>rfl
theorem w6.dropLast{xs:List V}{us:List Value}(h:w6 xs us):w6 xs.dropLast us.dropLast:=by
 induction h with
 |nil=>exact .nil
 |cons r t ih=>
   cases t with
   |nil=>exact .nil
   |cons q t'=>exact .cons r ih
theorem cT5{α:Type}(l:List α):l.eraseIdx (l.length-1)=l.dropLast:=by
 induction l with
 |nil=>rfl
 |cons a r ih=>
   cases r with
   |nil=>rfl
   |cons b r=>
     have e:(a::b::r).length-1= ((b::r).length-1)+1:=by
      have h1:(a::b::r).length=r.length+2:=rfl
      have h2:(b::r).length=r.length+1:=rfl
      lia
     rw[e,List.eraseIdx_cons_succ,ih]
     all_goals rfl
section
variable{X:Cx}{pins:PNS}{σ:St}{H:Hp}{s:Shared}{l b:Addr}{xs ys zs:List V}
theorem Inv.lset{its its':List Value}{n:Nat}{f:Array Value→Array Value}{t':Nat}(I:Inv X pins σ H s)(hH:H l=some (.lst xs))
 (e:s.heap.get? l=some {cls:=.type "list",data:=.seq its.toArray n}) (hf:f its.toArray=its'.toArray) (hv:w6 ys its') (hz:ys.length≤sizeLine):
 Inv X pins σ (upd H l (.lst ys)) {s with heap:=s.heap.update l (Obj.mapSeq f),toks:=t'}:=by
 have q:=PySem.IsL.update e f
 rw[hf]at q
 refine I.write (x:=l) (e:=l) (by rw[hH];exact trivial) (.inl rfl) (fun b' u hb hu=>(Heap.get?_update_other s.heap (Obj.mapSeq f) (Ne.symm hb)).trans hu) ⟨_,q⟩ ?_
 exact⟨hz,its',_,hv,q⟩
theorem Inv.lnew{its:List Value}{t':Nat}(I:Inv X pins σ H s)(hv:w6 ys its)(hz:ys.length≤sizeLine):
 Inv X pins σ (upd H s.heap.objs.size (.lst ys)) {s with heap:=s.heap.push {cls:=.type "list",data:=.seq its.toArray},toks:=t'}:=
 I.laid (fun _ _ q=>Heap.get?_push_of_some _ q) (Nat.le_refl _) ⟨hz,its,0,hv,Heap.get?_push_size _ rfl⟩
theorem Inv.fresh(I:Inv X pins σ H s):H s.heap.objs.size=none:=I.hok.fresh (Nat.le_refl _)
theorem Inv.lstM(I:Inv X pins σ H s)(hH:H l=some (.lst xs)):xs.length≤sizeLine∧∃(its:List Value) (n:Nat),w6 xs its∧xs.length=its.length∧s.heap.get? l=some {cls:=.type "list",data:=.seq its.toArray n}:=by
 obtain⟨z,its,n,r,e⟩:=I.hok l _ hH
 exact⟨z,its,n,r,r.length,e⟩
theorem dN8{n:Nat}(h:n≤sizeLine):Builtin.List.listTooLong n=false:=by
 unfold Builtin.List.listTooLong
 exact decide_eq_false (by lia)
end
section
variable{X:Cx}
def dX8:V→List V→Hp→VK→Prop:=fun x vs H Q=>∃l xs y,x= .ref l∧vs= [y]∧H l=some (.lst xs)∧xs.length<sizeLine∧Q .non (upd H l (.lst (xs++[y])))
theorem cA6:MtM X "list.append" dX8:=by
 intro pins s σ H x vs v us Q I rx rv h
 obtain⟨l,xs,y,rfl,rfl,hH,hz,q⟩:=h
 cases rx
 obtain⟨u,rfl,ru⟩:=rv.one
 obtain⟨z,its,n,r,hl,e⟩:=I.lstM hH
 refine call_meets F.slot_list_append ⟨_,e,rfl⟩ F.entry_list_append (F.args_list_append_2 _ _) (PySem.list_append l its.toArray n u (by rw[List.size_toArray];lia)) ⟨e,?_⟩
 refine⟨.non,_,I.lset (its':=its++[u]) hH e (by simp) (r.append (.cons ru .nil)) ?_,rfl,q⟩
 rw[List.length_append,List.length_singleton]
 lia
def eE1:V→List V→Hp→VK→Prop:=fun x vs H Q=>∃l b xs zs,x= .ref l∧vs= [.ref b]∧H l=some (.lst xs)∧H b=some (.lst zs)∧xs.length+zs.length≤sizeLine∧Q .non (upd H l (.lst (xs++zs)))
theorem dC8:MtM X "list.extend" eE1:=by
 intro pins s σ H x vs v us Q I rx rv h
 obtain⟨l,b,xs,zs,rfl,rfl,hH,hB,hz,q⟩:=h
 cases rx
 obtain⟨u,rfl,ru⟩:=rv.one
 cases ru
 obtain⟨z,its,n,r,hl,e⟩:=I.lstM hH
 obtain⟨z2,its2,n2,r2,hl2,e2⟩:=I.lstM hB
 have hsz:its.toArray.size+its2.toArray.size≤sizeLine:=by rw[List.size_toArray,List.size_toArray];lia
 have hlong:¬(!its.toArray.isEmpty&&Builtin.List.listTooLong (its.toArray.size+its2.toArray.size))=true:=by
  rw[dN8 hsz,Bool.and_false]
  exact Bool.false_ne_true
 refine call_meets F.slot_list_extend ⟨_,e,rfl⟩ F.entry_list_extend (F.args_list_extend_2 _ _)
  (AutoSeq1.list_extend_list_list_0 l its.toArray n b its2.toArray n2 hlong (by rw[List.size_toArray];lia) (by lia)) ⟨e,e2,?_⟩
 refine⟨.non,_,I.lset (its':=its++its2) hH e (by simp) (r.append r2) ?_,rfl,q⟩
 rw[List.length_append]
 lia
def fN0:V→List V→Hp→VK→Prop:=fun x vs H Q=>∃l xs y,x= .ref l∧vs= []∧H l=some (.lst xs)∧xs[xs.length-1]? =some y∧Q y (upd H l (.lst xs.dropLast))
theorem eR4:MtM X "list.pop" fN0:=by
 intro pins s σ H x vs v us Q I rx rv h
 obtain⟨l,xs,y,rfl,rfl,hH,hy,q⟩:=h
 cases rx
 have hus:=rv.zero
 subst hus
 obtain⟨z,its,n,r,hl,e⟩:=I.lstM hH
 obtain⟨u,hu,ru⟩:=r.get hy
 have hy':its.toArray[its.toArray.size-1]? =some u:=by
  show its.toArray[its.length-1]? =some u
  rw[←Array.getElem?_toList,←hl]
  exact hu
 refine call_meets F.slot_list_pop ⟨_,e,rfl⟩ F.entry_list_pop (F.args_list_pop_1 _) (MeetsSeq.list_pop_last l its.toArray n u hy' (by rw[List.size_toArray];lia)) ⟨e,?_⟩
 refine⟨y,_,I.lset (its':=its.dropLast) hH e ?_ r.dropLast ?_,ru,q⟩
 · show its.toArray.eraseIdxIfInBounds (its.toArray.size-1)=its.dropLast.toArray
   rw[List.size_toArray,List.eraseIdxIfInBounds_toArray,cT5]
 · rw[List.length_dropLast]
   lia
def fK7:R2:=fun x y H Q=>∃l b xs zs,x= .ref l∧y= .ref b∧H l=some (.lst xs)∧H b=some (.lst zs)∧xs.length+zs.length≤sizeLine∧∀p,H p=none→Q (.ref p) (upd H p (.lst (xs++zs)))
theorem eS5:OpR X (binaryOp .Add) fK7:=by
 intro pins s σ H x y v u Q I rx ry h
 obtain⟨l,b,xs,zs,rfl,rfl,hH,hB,hz,q⟩:=h
 cases rx
 cases ry
 obtain⟨z,its,n,r,hl,e⟩:=I.lstM hH
 obtain⟨z2,its2,n2,r2,hl2,e2⟩:=I.lstM hB
 refine PySem.P.add_list e e2 ?_ (by rw[List.size_toArray,List.size_toArray];lia)
 have ea:its.toArray++its2.toArray= (its++its2).toArray:=by simp
 rw[ea]
 exact⟨.ref _,_,I.lnew (t':=s.toks) (r.append r2) (by rw[List.length_append];lia),rfl,q _ I.fresh⟩
end
section
variable{prog:Program}{w:World}{A:Around}{E:VSP}{s:Shared}
end
section
variable{X:Cx}
end
end L2
namespace Att
open PySem PySem.W PySem.Calls PyProof.Rows
theorem bM2{P:Params}{h:Heap}:∀(ns:List Int) (vs:List Value),WellAll P h vs (ns.map WData.int)→IntsAre vs ns:=by
 intro ns
 induction ns with
 |nil=>
   intro vs w
   rw[List.map_nil]at w
   cases w
   exact .nil
 |cons n ns ih=>
   intro vs w
   rw[List.map_cons]at w
   cases w with
   |cons a b=>
     cases a
     exact .cons _ _ (ih _ b)
theorem dJ1{l:OpenLaw}{n:Nat}(hn:l.most=some n){P:Params}{h:Heap}{args:List WData}{vals:List Value}
 (hpre:l.row.toRowW.claim.pre args=true) (hwl:WellAll P h vals args):
 ∃a vs ns,vals= [Value.ref a]∧args= [WData.list (ns.map WData.int)]∧h.get? a=some {cls:=.type "list",data:=.seq vs.toArray}∧IntsAre vs ns∧ns.length≤n:=by
 have hsh:WShape.hasAll [] args [.list .int]=true:=(pre_splitW hpre).1
 have hc:l.pre.holds [] {args:=args}=true:=(pre_splitW hpre).2
 obtain⟨d,r,rfl,h1,h2⟩:=hasAllW_cons hsh
 obtain rfl:=hasAllW_nil h2
 obtain⟨xs,rfl,h3⟩:=hasW_list h1
 obtain⟨ns,rfl⟩:=items_int h3
 have hlen:ns.length≤n:=by
  unfold OpenLaw.pre at hc
  have h4:(WTm.not (.lt (.lit (.int (n:Int))) (.len (.arg 0)))).holds [] {args:= [.list (ns.map .int)]}=true:=by
   have h4:=(holds_andW hc).1
   rw[hn]at h4
   exact h4
  have h5:=condW_of h4 (w_not (w_lt w_lit (w_len_list (w_arg rfl))))
  rw[List.length_map]at h5
  refine Nat.le_of_not_lt fun q=>?_
  have q':(n:Int)<((ns.length:Nat):Int):=by lia
  first
   |(rw[decide_eq_true q']at h5;exact absurd h5 (by decide))
   |(simp at h5;lia)
 cases hwl with
 |cons w1 w2=>
   cases w2
   cases w1 with
   |list ho hall=>exact⟨_,_,ns,rfl,rfl,ho,bM2 ns _ hall,hlen⟩
theorem dJ2(l:OpenLaw)(args:List WData):l.row.toRowW.claim.post args (.bool true) args=true:=
 postW_of (r:=l.row.toRowW) (X:=(true==true))
  (show WShape.has [] (.bool true) .bool=true by first|rfl|decide|simp[WShape.has,WShape.arms,WShape.armsAll])
  (show (WTm.eq .res (.lit (.bool true))).value [] {args:=args,res:=some (.bool true),after:=args}=some (.bool (true==true))from w_eq_bool (w_res rfl) w_lit) rfl
theorem attach_call{l:OpenLaw}{n:Nat}{q:Program}{loose:List Str}{XP:(Str→Option Value)→Heap→Prop}{YP:World→Heap→Prop}{d:DefRec}
 (hn:l.most=some n) (hdf:d.params.defaults= [])
 (call:∀(w:World) (s₀ s₁:Shared) (mg mb:Str→Option Value) (fa:Addr) (o:Obj) (pm cd doc:Value) (a:Addr) (vs:List Value) (ns:List Int),
   Ground q loose [] XP w s₀ mg mb s₁.heap→YP w s₁.heap→
   s₁.heap.get? fa=some o→o.data= .func (docDef d.name d.params d.body d.scope pm cd doc)→s₁.heap.CodeRec cd d.name→mg d.name=some (.ref fa)→
   s₁.heap.get? a=some {cls:=.type "list",data:=.seq vs.toArray}→IntsAre vs ns→ns.length≤n→s₁.gens= #[]→
   codeAny (model l.prog w) callerA (.call (.ref fa) ⟨[.ref a], []⟩) (fun r s'=>r= .ok (.ret (.bool true))∧OldK s₁.heap s'.heap∧s'.os=s₁.os∧AllBare s'.gens) s₁):
 WalkO q loose XP YP l.row.toRowW d [] (fun f vs=>PySem.call f vs):=by
 intro w s₀ s₁ mg mb G Y fa o pm cd doc dV kV ho hd hcd hD hmg hg args vals as hpre hlay hrd hwl hlo
 obtain rfl:dV= .none:=Dflts.none hD hdf
 obtain rfl:kV= .none:=Dflts.noKw hD
 obtain⟨a,vs,ns,rfl,rfl,hobj,hints,hlen⟩:=dJ1 hn hpre hwl
 refine enter_call (codeAny_mono (call w s₀ s₁ mg mb fa o pm cd doc a vs ns G Y ho (fd_plain hd) hcd hmg hobj hints hlen hg) fun r s' hq=>?_)
 obtain⟨rfl,h2,h3,h4⟩:=hq
 exact⟨.inl ⟨.bool true,.bool true, [],rfl,fun _=>rfl,.bool true,dJ2 l _,fun _=>⟨List.Pairwise.nil,fun _ hm=>(nomatch hm)⟩⟩,h2,h3,h4⟩
section
variable{prog:Program}{w:World}{A:Around}{E:VSP}{s:Shared}{K:Frag}
end
end Att
namespace L2
open PySem PySem.Spec PyProof.Rows
theorem cB0:∀ {vs:List Value} {ns:List Int},IntsAre vs ns→w6 (ns.map V.int) vs
 |_,_,.nil=>.nil
 |_,_,.cons n t h=>.cons ⟨t,rfl⟩ (cB0 h)
noncomputable def Only(H:Hp):Prop:=∀b,H b=none∨∃o xs,H b=some (.frz o (.lst xs))
theorem dK5{P:Program}{w:World}{K:PySem.W.Frag}{mg mb:Str→Option Value}{CX:CXT}{k:Nat}{fa a:Addr}{fd:FuncData}{x:Str}{sp:Sp}{s₁:Shared}{vs:List Value}{ns:List Int}
 (KX:K.In s₁.heap) (hns:s₁.heap.Ns mainGlobals mg) (hb:s₁.heap.Ns builtinsNs mb) (hbb:∀x:Str,x≠ "__name__"→mb x=bootBuiltins x) (hlim:s₁.heap.NoLimit) (hg:s₁.gens= #[])
 (ha:s₁.heap.get? a=some {cls:=.type "list",data:=.seq vs.toArray}) (hi:IntsAre vs ns) (hl:ns.length≤sizeLine) (hr:X4 k callerA)
 (F:∀base:Heap,K.In base→base.Ns mainGlobals mg→J6 P w K mg base CX k fa fd [x] sp) (hbind:∀(s:Shared) (u:Value),BindsTo s fd ⟨[u], []⟩ [(x,u)])
 (hsp:∀H:Hp,Only H→SqL K H a (ns.map V.int)→sp [.ref a] H (fun v _=>v= .bl true) fun _ _ _=>False)
 (hCX:∀H e s',CX [] H s₁ (fun _ _ _=>False) e s'→False):
 codeAny (model P w) callerA (.call (.ref fa) ⟨[.ref a], []⟩) (fun r s'=>r= .ok (.ret (.bool true))∧OldK s₁.heap s'.heap∧s'.os=s₁.os∧AllBare s'.gens) s₁:=by
 have rv:=cB0 hi
 have lenV:=hi.length
 -- from an abstract heap in which nothing but the script may be tracked
 have core:∀H:Hp,Only H→SqL K H a (ns.map V.int)→HOk P w H s₁.heap→(∀b,H b≠none→b=a)→(H a≠none→K.lookup a=none)→
  codeAny (model P w) callerA (.call (.ref fa) ⟨[.ref a], []⟩) (fun r s'=>r= .ok (.ret (.bool true))∧OldK s₁.heap s'.heap∧s'.os=s₁.os∧AllBare s'.gens) s₁:=by
  intro H hO hS hok hA hK
  have base_of:∀ {b:Addr} {o:Obj},s₁.heap.get? b=some o→H b=none→(cC8 s₁.heap H).get? b=some o:=fun e n=>dJ8 e n
  have noA:∀ {b:Addr} {o:Obj} {es:Array DictEntry} {ep:Nat},s₁.heap.get? b=some o→o.data= .dict es ep→H b=none:=fun {b o es ep} e d=>by
   cases q:H b with
   |none=>rfl
   |some u=>
     have e':b=a:=hA b (by rw[q];simp)
     subst e'
     rw[ha]at e;cases e
     have d':Data.seq vs.toArray _=Data.dict es ep:=d
     cases d'
  have nsK:∀ {b:Addr} {m:Str→Option Value},s₁.heap.Ns b m→(cC8 s₁.heap H).Ns b m:=fun {b m} ⟨o,es,ep,e,d,r⟩=>⟨o,es,ep,base_of e (noA e d),d,r⟩
  have hKb:K.In (cC8 s₁.heap H):=fun b o e=>base_of (KX b o e) (by
   cases q:H b with
   |none=>rfl
   |some u=>
     have e':b=a:=hA b (by rw[q];simp)
     subst e'
     rw[hK (by rw[q];simp)]at e;cases e)
  have hM:Mod K mg (cC8 s₁.heap H):=⟨hKb,nsK hns,⟨mb,nsK hb,hbb⟩,let ⟨mc,h1,h2⟩:=hlim;⟨mc,nsK h1,h2⟩⟩
  have e0:dY2 P w K mg (cC8 s₁.heap H) callerA [] s₁ H:=⟨rfl,hM,fun b o e=>eA8 e,Nat.le_of_eq (dG4 _ _),trivial,fun b hb=>absurd (show b∈([]:List Addr)from hb) (by simp),hok,.of_eq hg⟩
  refine codeAny_mono ((F _ hKb (nsK hns)).run callerA [] s₁ H ⟨[.ref a], []⟩ [.ref a] [.ref a] _ _ hr e0 (hbind s₁ (.ref a)) (.cons rfl .nil) (hsp H hO hS)) fun r s' h=>?_
  cases r with
  |error e=>exact(hCX H e s' h).elim
  |ok fl=>
    cases fl with
    |next=>exact False.elim h
    |brk=>exact False.elim h
    |cont=>exact False.elim h
    |ret u=>
      obtain⟨v,H',os,bare,un,hok',r',q⟩:=h
      have q':v= .bl true:=q
      subst q'
      obtain rfl:u=Value.bool true:=r'
      refine⟨rfl,OldK.of_keep fun b o e=>?_,os,bare⟩
      cases q:H b with
      |none=>exact un.keep b o e q (by intro z;exact absurd (show b∈([]:List Addr)from z) (by simp)) (by simp)
      |some u=>
        rcases hO b with z|⟨ob,xs,z⟩
        ·rw[q]at z;cases z
        · have z2:=un.frzs b ob _ z
          obtain⟨e1,_⟩:=hok b _ z
          obtain⟨e2,_⟩:=hok' b _ z2
          rw[e]at e1;cases e1
          exact e2
 cases hk:K.lookup a with
 |some o=>
   -- the script is one of the module's own objects
   have e:=KX a o hk
   rw[ha]at e
   cases e
   refine core (fun _=>none) (fun _=>.inl rfl) (.inr ⟨_,vs.toArray,_,hk,rfl,rfl,rfl,by rw[List.size_toArray,lenV];exact hl,by simpa using rv⟩) (fun b u z=>by have z':(none:Option HO)=some u:=z;cases z') (fun b z=>absurd rfl z) fun z=>absurd rfl z
 |none=>
   refine core (fun b=>if b=a then some (.frz {cls:=.type "list",data:=.seq vs.toArray} (.lst (ns.map V.int)))else none) (fun b=>?_) (.inl (.inr ⟨{cls:=.type "list",data:=.seq vs.toArray},if_pos rfl⟩)) (fun b u z=>?_) (fun b z=>?_) fun _=>hk
   · by_cases hb:b=a
     ·exact .inr ⟨_,_,if_pos hb⟩
     ·exact .inl (if_neg hb)
   · by_cases hb:b=a
     · have z':=(if_pos hb).symm.trans z
       cases z'
       subst hb
       exact⟨ha,by rw[List.length_map];exact hl,vs,_,rv,ha⟩
     · have z':=(if_neg hb).symm.trans z
       cases z'
   · by_cases hb:b=a
     ·exact hb
     ·exact absurd (if_neg hb) z
theorem walk_of{l:PySem.W.OpenLaw}{n k:Nat}{q:Program}{loose:List Str}{XP:(Str→Option Value)→Heap→Prop}{YP:World→Heap→Prop}{d:DefRec}{K:Params→PySem.W.Frag}{CX:World→CXT}{sp:World→Sp}{x:Str}
 (hn:l.most=some n) (hn2:n≤sizeLine) (hdf:d.params.defaults= []) (hr:X4 k callerA)
 (hY:∀(w:World) (h:Heap),YP w h→(K w.params).In h)
 (F:∀(w:World) (mg:Str→Option Value) (fa:Addr) (h:Heap),(K w.params).In h→h.Ns mainGlobals mg→mg d.name=some (.ref fa)→
   ∃fd:FuncData,(∀(s:Shared) (u:Value),BindsTo s fd ⟨[u], []⟩ [(x,u)])∧
    ∀base:Heap,(K w.params).In base→base.Ns mainGlobals mg→J6 l.prog w (K w.params) mg base (CX w) k fa fd [x] (sp w))
 (hsp:∀(w:World) (H:Hp) (a:Addr) (ns:List Int),ns.length≤n→Only H→SqL (K w.params) H a (ns.map V.int)→sp w [.ref a] H (fun v _=>v= .bl true) fun _ _ _=>False)
 (hCX:∀(w:World) (H:Hp) (s:Shared) (e:Value) (s':Shared),CX w [] H s (fun _ _ _=>False) e s'→False):
 PySem.W.WalkO q loose XP YP l.row.toRowW d [] (fun f vs=>PySem.call f vs):=by
 refine Att.attach_call hn hdf fun w s₀ s₁ mg mb fa o pm cd doc a vs ns G Y ho hd hcd hmg hobj hints hlen hg=>?_
 have KX:=hY w _ Y
 obtain⟨fd,hb,hF⟩:=F w mg fa _ KX G.T.g hmg
 exact dK5 KX G.T.g G.T.b G.T.builtins G.T.nolimit hg hobj hints (Nat.le_trans hlen hn2) hr hF hb (fun H hO hS=>hsp w H a ns hlen hO hS) fun H e s'=>hCX w H s₁ e s'
noncomputable def aA4(s:Stmt):Arguments:=match s with
 | .FunctionDef _ a _ _ _ _ _ _ _ _=>a
 |_=>{posonlyargs:= [],args:= [],vararg:=none,kwonlyargs:= [],kw_defaults:= [],kwarg:=none,defaults:= []}
noncomputable def W3(s:Stmt):List Stmt:=match s with
 | .FunctionDef _ _ b _ _ _ _ _ _ _=>b
 |_=> []
noncomputable def j6(s:Stmt):Scope:=match s with
 | .FunctionDef _ _ _ _ _ _ sc _ _ _=>sc
 |_=>{kind:=.function,names:= [],isGenerator:=false,isCoroutine:=false}
noncomputable abbrev CX0:CXT:=fun _ _ _ _ _ _=>False
noncomputable abbrev E0:XK:=fun _ _ _=>False
theorem dQ7{X:Cx}:cD6 CX0 X E0:=fun _ _ _ _ _ _ _ h=>h.elim
structure Fun(K:PySem.W.Frag)(x qual:Str)(st:Stmt)(f:Addr)(fd:FuncData):Prop where
 ex:∃(oc:Value) (od:Option Addr) (kV doc pm:Value) (an:Option Addr) (cdv ct:Value) (osl:Array (Option Value)),
  fd=PySem.W.fnOf x qual (aA4 st) (W3 st) (j6 st) .none kV doc pm an cdv ct∧K.lookup f=some ⟨oc,od,.func fd,osl⟩∧PySem.W.codeIn K cdv qual=true
 kp:PySem.W.keepIn K (.ref f)=true
section
variable{P:Program}{w:World}{K:PySem.W.Frag}{mg:Str→Option Value}{base:Heap}
theorem Fun.ok{x qual:Str}{st:Stmt}{f:Addr}{fd:FuncData}{N ps:List Str}{k:Nat}{sp:Sp}(F:Fun K x qual st f fd)(S:m6 N ps (j6 st))(len:∀vs H Q E,sp vs H Q E→vs.length=ps.length)
 (hbody:∀(cdv:Value) (A:Around) (outer:List Env) (s:Shared) (H:Hp) (vs:List V) (Q:VK) (E:XK),X4 k (A.deeper (envOfC qual (j6 st) s.heap.objs.size f cdv))→sp vs H Q E→
   ∃t,PSs (cQ0 CX0 P w K mg base N qual (j6 st) f cdv A outer s H E).nox (W3 st) t∧t {nx:=fun _ H'=>Q .non H',rt:=Q} (start N vs) H):J6 P w K mg base CX0 (k+1) f fd ps sp:=by
 obtain⟨oc,od,kV,doc,pm,an,cdv,ct,osl,rfl,lk,hcd⟩:=F.ex
 refine fH4 lk hcd S len fun A outer s H vs Q E hr hsp=>?_
 obtain⟨t,h,q⟩:=hbody cdv A outer s H vs Q E hr hsp
 exact⟨t,h.nox,q⟩
theorem Fun.binds{x qual:Str}{st:Stmt}{f:Addr}{fd:FuncData}{ps:List Str}(F:Fun K x qual st f fd)
 (h:∀(kV doc pm:Value) (an:Option Addr) (cdv ct:Value) (us:List Value),us.length=ps.length→bindArgs (PySem.W.fnOf x qual (aA4 st) (W3 st) (j6 st) .none kV doc pm an cdv ct) ⟨us, []⟩=pure (ps.zip us)):aS4 K fd ps []:=by
 obtain⟨oc,od,kV,doc,pm,an,cdv,ct,osl,rfl,lk,hcd⟩:=F.ex
 exact .all (h kV doc pm an cdv ct)
theorem cG1{x qual:Str}{st:Stmt}{f:Addr}{oc:Value}{od an:Option Addr}{osl:Array (Option Value)}{kV doc pm cdv ct:Value}(l:K.lookup f=some ⟨oc,od,.func (PySem.W.fnOf x qual (aA4 st) (W3 st) (j6 st) .none kV doc pm an cdv ct),osl⟩)
 (c:PySem.W.codeIn K cdv qual=true) (k:PySem.W.keepIn K (.ref f)=true):Fun K x qual st f (PySem.W.fnOf x qual (aA4 st) (W3 st) (j6 st) .none kV doc pm an cdv ct):=⟨⟨oc,od,kV,doc,pm,an,cdv,ct,osl,rfl,l,c⟩,k⟩
end
section
variable{X:Cx}
end
section
variable{κ:Type}[DecidableEq κ]
noncomputable def aX4(kvs:List (κ×V))(k:κ):Option V:=(kvs.find? fun kv=>decide (kv.1=k)).map (·.2)
noncomputable def aP7(kvs:List (κ×V))(k:κ)(v:V):List (κ×V):=
 if (kvs.any fun kv=>decide (kv.1=k))=true then kvs.map (fun kv=>if kv.1=k then (kv.1,v)else kv)else kvs++[(k,v)]
theorem bF6{p:κ×V}{r:List (κ×V)}{k:κ}(e:p.1=k):aX4 (p::r) k=some p.2:=by simp[aX4,List.find?_cons,e]
theorem bG2{p:κ×V}{r:List (κ×V)}{k:κ}(e:¬p.1=k):aX4 (p::r) k=aX4 r k:=by simp[aX4,List.find?_cons,e]
theorem cK4(k:κ):∀kvs:List (κ×V),(kvs.any fun kv=>decide (kv.1=k))= (aX4 kvs k).isSome
 |[]=>rfl
 |p::r=>by
   rw[List.any_cons]
   by_cases e:p.1=k
   ·simp only[bF6 e,decide_eq_true e,Bool.true_or,Option.isSome_some]
   ·rw[bG2 e,decide_eq_false e,Bool.false_or];exact cK4 k r
theorem bJ8(kvs:List (κ×V))(k:κ)(v:V):(aP7 kvs k v).length≤kvs.length+1:=by
 unfold aP7
 split
 ·rw[List.length_map];lia
 ·rw[List.length_append,List.length_cons,List.length_nil];lia
theorem cK9.isSome_eq{o:Option V}{u:Option Value}(r:cK9 o u):o.isSome=u.isSome:=by
 cases o with
 |none=>cases u with
   |none=>rfl
   |some _=>exact(show False from r).elim
 |some _=>cases u with
   |none=>exact(show False from r).elim
   |some _=>rfl
theorem cK9.getD{o:Option V}{u:Option Value}{d:V}{d':Value}(r:cK9 o u)(rd:J2 d d'):J2 (o.getD d) (u.getD d'):=by
 cases o with
 |none=>cases u with
   |none=>exact rd
   |some _=>exact(show False from r).elim
 |some _=>cases u with
   |none=>exact(show False from r).elim
   |some _=>exact r
theorem KV.val{kvs:List (κ×V)}{vs:List (κ×Value)}(r:KV kvs vs)(k:κ):cK9 (aX4 kvs k) (valueAt vs k):=by
 unfold KV at r
 induction r with
 |nil=>exact True.intro
 |@cons p q ps qs h t ih=>
   obtain⟨h1,h2⟩:=h
   by_cases e:p.1=k
   · have e':q.1=k:=h1.symm.trans e
     have b:valueAt (q::qs) k=some q.2:=by simp[valueAt,List.find?_cons,e']
     rw[bF6 e,b];exact h2
   · have e':¬q.1=k:=fun z=>e (h1.trans z)
     have b:valueAt (q::qs) k=valueAt qs k:=by simp[valueAt,List.find?_cons,e']
     rw[bG2 e,b];exact ih
theorem KV.any{kvs:List (κ×V)}{vs:List (κ×Value)}(r:KV kvs vs)(k:κ):(kvs.any fun kv=>decide (kv.1=k))=vs.any fun kv=>decide (kv.1=k):=by
 unfold KV at r
 induction r with
 |nil=>rfl
 |cons h t ih=>rw[List.any_cons,List.any_cons,ih,h.1]
theorem KV.repl{kvs:List (κ×V)}{vs:List (κ×Value)}(r:KV kvs vs)(k:κ){y:V}{u:Value}(ry:J2 y u):
 KV (kvs.map fun kv=>if kv.1=k then (kv.1,y)else kv) (vs.map fun kv=>if kv.1=k then (kv.1,u)else kv):=by
 unfold KV at r ⊢
 induction r with
 |nil=>exact .nil
 |@cons p q ps qs h t ih=>
   rw[List.map_cons,List.map_cons]
   refine .cons ?_ ih
   obtain⟨h1,h2⟩:=h
   by_cases e:p.1=k
   ·rw[if_pos e,if_pos (h1.symm.trans e)];exact⟨h1,ry⟩
   ·rw[if_neg e,if_neg (fun z=>e (h1.trans z))];exact⟨h1,h2⟩
theorem KV.put{kvs:List (κ×V)}{vs:List (κ×Value)}(r:KV kvs vs)(k:κ){y:V}{u:Value}(ry:J2 y u):KV (aP7 kvs k y) (stored vs k u):=by
 unfold aP7 stored
 rw[r.any k]
 by_cases e:(vs.any fun kv=>decide (kv.1=k))=true
 ·rw[if_pos e,if_pos e];exact r.repl k ry
 ·rw[if_neg e,if_neg e];exact Paired.snoc r ⟨rfl,ry⟩
theorem KV.length{kvs:List (κ×V)}{vs:List (κ×Value)}(r:KV kvs vs):kvs.length=vs.length:=Paired.length r
end
theorem cA7{P:Program}{w:World}{k:Key}{u:Value}(r:J2 (kV k) u):(N6 P w).is k u=true:=by
 cases k with
 |inl i=>obtain⟨t,e⟩:=(show ∃t,u=Value.int i t from r);subst e;exact cP0 P w i t
 |inr x=>obtain⟨t,e⟩:=(show ∃t,u=Value.str x t from r);subst e;exact cM6 P w x t
theorem bZ0{P:Program}{w:World}:∀ {ks:List Key} {us:List Value},w6 (ks.map kV) us→ItemsAre (N6 P w) ks us
 |[],_,r=>by rw[List.map_nil]at r;cases r;exact .nil
 |k::ks,_,r=>by
   rw[List.map_cons]at r
   cases r with
   |cons h t=>exact .cons (cA7 h) (bZ0 t)
abbrev KT(H:Hp):List (List Key×V)→List (List Key×Addr×Value)→Prop:=Paired fun p q=>p.1=q.1∧H q.2.1=some (.tup (p.1.map kV))∧J2 p.2 q.2.2
theorem KT.val{H:Hp}{kvs:List (List Key×V)}{xs:List (List Key×Addr×Value)}(r:KT H kvs xs)(k:List Key):cK9 (aX4 kvs k) ((atKey xs k).map (·.2)):=by
 induction r with
 |nil=>exact True.intro
 |@cons p q ps qs h t ih=>
   obtain⟨h1,_,h2⟩:=h
   by_cases e:p.1=k
   · have e':q.1=k:=h1.symm.trans e
     have b:atKey (q::qs) k=some q.2:=by simp[atKey,List.find?_cons,e']
     rw[bF6 e,b];exact h2
   · have e':¬q.1=k:=fun z=>e (h1.trans z)
     have b:atKey (q::qs) k=atKey qs k:=by simp[atKey,List.find?_cons,e']
     rw[bG2 e,b];exact ih
theorem KT.repl{H:Hp}{kvs:List (List Key×V)}{xs:List (List Key×Addr×Value)}(r:KT H kvs xs)(k:List Key){y:V}{u:Value}(ry:J2 y u):
 KT H (kvs.map fun kv=>if kv.1=k then (kv.1,y)else kv) (xs.map (putAt k u)):=by
 induction r with
 |nil=>exact .nil
 |@cons p q ps qs h t ih=>
   rw[List.map_cons,List.map_cons]
   refine .cons ?_ ih
   obtain⟨h1,h2,h3⟩:=h
   unfold putAt
   by_cases e:p.1=k
   ·rw[if_pos e,if_pos (h1.symm.trans e)];exact⟨h1,h2,ry⟩
   ·rw[if_neg e,if_neg (fun z=>e (h1.trans z))];exact⟨h1,h2,h3⟩
theorem KT.put{H:Hp}{kvs:List (List Key×V)}{xs:List (List Key×Addr×Value)}(r:KT H kvs xs)(k:List Key){b:Addr}{y:V}{u:Value}(hb:H b=some (.tup (k.map kV)))(ry:J2 y u):
 KT H (aP7 kvs k y) (storedH xs k b u):=by
 have e:(kvs.any fun kv=>decide (kv.1=k))= (atKey xs k).isSome:=by
  rw[cK4,(r.val k).isSome_eq,Option.isSome_map]
 unfold aP7 storedH
 rw[e]
 by_cases q:(atKey xs k).isSome=true
 ·rw[if_pos q,if_pos q];exact r.repl k ry
 ·rw[if_neg q,if_neg q];exact Paired.snoc r ⟨rfl,hb,ry⟩
theorem KT.keeps{H H':Hp}{kvs:List (List Key×V)}{xs:List (List Key×Addr×Value)}(r:KT H kvs xs)(ht:∀b ys,H b=some (.tup ys)→H' b=some (.tup ys)):KT H' kvs xs:=
 Paired.mapP r fun _ _ z=>⟨z.1,ht _ _ z.2.1,z.2.2⟩
section
variable{P:Program}{w:World}{H:Hp}{h:Heap}{a:Addr}
theorem eK2{u:HO}(ok:HOk P w H h)(e:Rd H a u):U9 P w H h a u:=e.ok ok
theorem cN6{kvs:List (Key×V)}(ok:HOk P w H h)(e:Rd H a (.dK kvs)):kvs.length≤sizeLine∧(a==sysModules)=false∧∃vs,KV kvs vs∧h.DictOf (N6 P w) a vs:=
 show U9 P w H h a (.dK kvs)from eK2 ok e
theorem dR5{kvs:List (Key×V)}(ok:HOk P w H h)(e:H a=some (.dK kvs)):kvs.length≤sizeLine∧(a==sysModules)=false∧∃vs,KV kvs vs∧h.DictOf (N6 P w) a vs:=cN6 ok (.inl e)
theorem bO5{ks:List Key}(ok:HOk P w H h)(e:H a=some (.tup (ks.map kV))):(tupleKind (N6 P w)).is h ks a:=by
 obtain⟨_,its,r,o,h1,h2,n,h3⟩:=(show U9 P w H h a (.tup (ks.map kV))from ok a _ e)
 exact⟨o,its.toArray,n,h1,h2,(Prod.mk.inj h3).1,by simpa using bZ0 r⟩
theorem dB4{kvs:List (List Key×V)}(ok:HOk P w H h)(e:Rd H a (.dT kvs)):kvs.length≤sizeLine∧(a==sysModules)=false∧
 ∃xs,KT H kvs xs∧h.DictOfH (tupleKind (N6 P w)) a xs:=by
 obtain⟨z,y,xs,r,o,es,ep,h1,h2,h3,h4,h5⟩:=(show U9 P w H h a (.dT kvs)from eK2 ok e)
 refine⟨z,y,xs,r,o,es,ep,h1,h2,h3,h4,fun x hx=>?_,h5⟩
 have all:∀ {l:List (List Key×V)} {m:List (List Key×Addr×Value)},KT H l m→∀x∈m,(tupleKind (N6 P w)).is h x.1 x.2.1:=by
  intro l m q
  induction q with
  |nil=>intro x hx;exact nomatch hx
  |@cons p q ps qs hq t ih=>
    intro x hx
    rcases List.mem_cons.mp hx with e|hx
    · subst e
      exact bO5 ok (by rw[←hq.1];exact hq.2.1)
    ·exact ih x hx
 exact all r x hx
theorem fA8{kvs:List (List Key×V)}(ok:HOk P w H h)(e:H a=some (.dT kvs)):kvs.length≤sizeLine∧(a==sysModules)=false∧
 ∃xs,KT H kvs xs∧h.DictOfH (tupleKind (N6 P w)) a xs:=dB4 ok (.inl e)
end
def cJ9(H:Hp)(a:Addr)(y:V)(r:Option V):Prop:=
 (∃kvs k,Rd H a (.dK kvs)∧y=kV k∧r=aX4 kvs k)∨∃kvs k b,Rd H a (.dT kvs)∧y= .ref b∧H b=some (.tup (k.map kV))∧r=aX4 kvs k
def dZ9(H:Hp)(a:Addr)(y v:V)(H':Hp):Prop:=
 (∃kvs k,H a=some (.dK kvs)∧y=kV k∧kvs.length<sizeLine∧H'=upd H a (.dK (aP7 kvs k v)))∨
 ∃kvs k b,H a=some (.dT kvs)∧y= .ref b∧H b=some (.tup (k.map kV))∧kvs.length<sizeLine∧H'=upd H a (.dT (aP7 kvs k v))
theorem cJ9.k{H:Hp}{a:Addr}{kvs:List (Key×V)}{k:Key}(e:H a=some (.dK kvs)):cJ9 H a (kV k) (aX4 kvs k):=.inl ⟨kvs,k,.inl e,rfl,rfl⟩
theorem dZ9.k{H:Hp}{a:Addr}{kvs:List (Key×V)}{k:Key}{v:V}(e:H a=some (.dK kvs))(hl:kvs.length<sizeLine):dZ9 H a (kV k) v (upd H a (.dK (aP7 kvs k v))):=.inl ⟨kvs,k,e,rfl,hl,rfl⟩
section
variable{X:Cx}{pins:PNS}{σ:St}{H:Hp}{s:Shared}{a:Addr}{y v:V}{u r:Value}{o:Option V}{A:Around}{E:VSP}
theorem Inv.big(I:Inv X pins σ H s):sysModules<s.heap.objs.size:=by
 have h:mainGlobals<s.heap.objs.size:=(I.mod.glob.keeps I.bk).lt
 exact Nat.lt_trans (by decide) h
theorem fO9{Q:VSP}(hu:A.units+1<cLine)(I:Inv X pins σ H s)(g:cJ9 H a y o)(ry:J2 y u)(h:∀s',Inv X pins σ H s'→Q (.bool o.isSome) s'):
 wpAny (model X.prog X.w) A (compareOp .In u (.ref a)) Q E s:=by
 rcases g with⟨kvs,k,e,ey,l⟩|⟨kvs,k,b,e,ey,eb,l⟩
 · subst ey
   obtain⟨z,hd,vs,rel,dd⟩:=cN6 I.hok e
   refine wpAny_in_of (cA7 ry) hd dd.mapOf ?_
   rw[←(rel.val k).isSome_eq,←l]
   exact h _ (I.tok _)
 · subst ey
   cases (show u=Value.ref b from ry)
   obtain⟨z,hd,xs,rel,dd⟩:=dB4 I.hok e
   refine wpAny_in_heap (tupleKind_room_in1 hu) (bO5 I.hok eb) hd dd ?_
   have q:=(rel.val k).isSome_eq
   rw[Option.isSome_map]at q
   rw[←q,←l]
   exact h _ (I.tok _)
theorem eC0{Q:VSP}(hu:A.units+1<cLine)(I:Inv X pins σ H s)(g:cJ9 H a y o)(ry:J2 y u)(h:∀s',Inv X pins σ H s'→Q (.bool (!o.isSome)) s'):
 wpAny (model X.prog X.w) A (compareOp .NotIn u (.ref a)) Q E s:=by
 rcases g with⟨kvs,k,e,ey,l⟩|⟨kvs,k,b,e,ey,eb,l⟩
 · subst ey
   obtain⟨z,hd,vs,rel,dd⟩:=cN6 I.hok e
   refine wpAny_notIn_of (cA7 ry) hd dd.mapOf ?_
   rw[←(rel.val k).isSome_eq,←l]
   exact h _ (I.tok _)
 · subst ey
   cases (show u=Value.ref b from ry)
   obtain⟨z,hd,xs,rel,dd⟩:=dB4 I.hok e
   refine wpAny_notIn_heap (tupleKind_room_in1 hu) (bO5 I.hok eb) hd dd ?_
   have q:=(rel.val k).isSome_eq
   rw[Option.isSome_map]at q
   rw[←q,←l]
   exact h _ (I.tok _)
theorem cW8{h':Heap}{t':Nat}{ob:HO}(I:Inv X pins σ H s)(mu:Mut (H a))(hs:Heap.SameBut a s.heap h')(he:∃q,h'.get? a=some q)(new:U9 X.prog X.w (upd H a ob) h' a ob):
 Inv X pins σ (upd H a ob) {s with heap:=h',toks:=t'}:=
 I.write (x:=a) (e:=a) mu (.inl rfl) (fun b q hb z=>(hs.2 b hb).trans z) he new
theorem dQ5{P:Program}{w:World}{H':Hp}{h':Heap}{kvs:List (Key×V)}{vs:List (Key×Value)}(z:kvs.length≤sizeLine)(hd:(a==sysModules)=false)(rel:KV kvs vs)(dd:h'.DictOf (N6 P w) a vs):
 U9 P w H' h' a (.dK kvs):=⟨z,hd,vs,rel,dd⟩
theorem dI2{H':Hp}{Q:Unit→Shared→Prop}(hu:A.units+1<cLine)(I:Inv X pins σ H s)(g:dZ9 H a y v H')(ry:J2 y u)(rv:J2 v r)(h:∀s',Inv X pins σ H' s'→Q () s'):
 wpAny (model X.prog X.w) A (setItem (.ref a) u r) Q E s:=by
 rcases g with⟨kvs,k,e,ey,l,eH⟩|⟨kvs,k,b,e,ey,eb,l,eH⟩
 · subst ey eH
   obtain⟨z,hd,vs,rel,dd⟩:=dR5 I.hok e
   have hz:vs.length≤sizeLine:=by rw[←rel.length];exact z
   have hl:(aP7 kvs k v).length≤sizeLine:=by have:=bJ8 kvs k v;lia
   refine wpAny_setItem_pairs (hsz:=hz) (cA7 ry) dd fun h' dd' hs=>h _ ?_
   have he:∃q,h'.get? a=some q:=let ⟨q,_,_,hq,_⟩:=dd';⟨q,hq⟩
   exact cW8 I (by rw[e];exact True.intro) hs he (dQ5 hl hd (rel.put k rv) dd')
 · subst ey eH
   cases (show u=Value.ref b from ry)
   obtain⟨z,hd,xs,rel,dd⟩:=fA8 I.hok e
   have hz:xs.length≤sizeLine:=by rw[←Paired.length rel];exact z
   have hl:(aP7 kvs k v).length≤sizeLine:=by have:=bJ8 kvs k v;lia
   refine wpAny_setItem_heap (hsz:=hz) (tupleKind_room_in1 hu) (bO5 I.hok eb) dd fun h' dd' hs=>h _ ?_
   obtain⟨q,es,ep,hq,h2,h3,h4,_,h5⟩:=dd'
   refine cW8 I (by rw[e];exact True.intro) hs ⟨q,hq⟩ ⟨hl,hd,_,(rel.put k eb rv).keeps fun c ys ec=>?_,q,es,ep,hq,h2,h3,h4,h5⟩
   rw[o8 (fH8 ec e (fun z=>nomatch z))]
   exact ec
end
section
variable{X:Cx}{pins:PNS}{σ:St}{H:Hp}{s:Shared}{a:Addr}{kvs:List (Key×V)}{k:Key}{u:Value}{A:Around}{E:VSP}
theorem fH7{Q:VSP}(I:Inv X pins σ H s)(e:Rd H a (.dK kvs))(h:∀t s',Inv X pins σ H s'→Q (.int kvs.length t) s'):wpAny (model X.prog X.w) A (call (.builtin "len") [.ref a]) Q E s:=by
 obtain⟨z,hd,vs,rel,dd⟩:=cN6 I.hok e
 refine call_len_dict hd dd (by rw[←rel.length];rw[sizeLine_eq]at z;lia) ?_
 rw[←rel.length]
 exact h _ _ (I.tok _)
end
section
variable{X:Cx}{o i e value:Expr}{pos pos' tpos:Pos}{td ty tv:TE}
end
section
variable{X:Cx}{pos:Pos}
end
structure M1(X:Cx)(o:Expr)(m:Str)(apos:Pos)(e:Expr)(cpos:Pos):Prop where
 base:attributeBase o m X.env (eval o X.env)=eval o X.env
 few:((backTo cpos (starEach [e] X.env)).all (fun x=> !x.1)&&(backToKw cpos (keywordEach [] X.env)).all (fun x=>x.1.isSome)
  && decide (([e]:List Expr).length+([]:List Keyword).length+(if ([]:List Keyword).isEmpty then 0 else 1)<30))=true
 line:(apos.endLine==cpos.line)=true
 trees:backTo cpos (starEach [e] X.env)= [(false,eval e X.env)]
structure M2(X:Cx)(o:Expr)(m:Str)(apos:Pos)(e f:Expr)(cpos:Pos):Prop where
 base:attributeBase o m X.env (eval o X.env)=eval o X.env
 few:((backTo cpos (starEach [e,f] X.env)).all (fun x=> !x.1)&&(backToKw cpos (keywordEach [] X.env)).all (fun x=>x.1.isSome)
  && decide (([e,f]:List Expr).length+([]:List Keyword).length+(if ([]:List Keyword).isEmpty then 0 else 1)<30))=true
 line:(apos.endLine==cpos.line)=true
 trees:backTo cpos (starEach [e,f] X.env)= [(false,eval e X.env),(false,eval f X.env)]
section
variable{X:Cx}{pins:PNS}{σ:St}{H:Hp}{s:Shared}{a:Addr}{y d:V}{u r:Value}{o:Option V}{A:Around}{E:VSP}
theorem eQ3{Q:VSP}(hu:A.units+1<cLine)(I:Inv X pins σ H s)(g:cJ9 H a y o)(ry:J2 y u)(rd:J2 d r)(h:∀w' s',Inv X pins σ H s'→J2 (o.getD d) w'→Q w' s'):
 wpAny (model X.prog X.w) A (call (.builtin "dict.get") [.ref a,u,r]) Q E s:=by
 rcases g with⟨kvs,k,e,ey,l⟩|⟨kvs,k,b,e,ey,eb,l⟩
 · subst ey
   obtain⟨z,hd,vs,rel,dd⟩:=cN6 I.hok e
   refine call_meetsIn PySem.F.slot_dict_get dd.typeIs PySem.F.entry_dict_get (PySem.F.args_dict_get_3 _ _ _) (meets_dict_get_default (N6 X.prog X.w) a (cA7 ry) hd r) ⟨_,dd.mapOf,h _ _ (I.tok _) ?_⟩
   rw[l]
   exact(rel.val k).getD rd
 · subst ey
   cases (show u=Value.ref b from ry)
   obtain⟨z,hd,xs,rel,dd⟩:=dB4 I.hok e
   refine call_meetsIn PySem.F.slot_dict_get dd.typeIs PySem.F.entry_dict_get (PySem.F.args_dict_get_3 _ _ _) (meetsH_dict_get_default (tupleKind (N6 X.prog X.w)) a b hd r) ⟨tupleKind_room_in1 hu,k,xs,bO5 I.hok eb,dd,h _ _ (I.tok _) ?_⟩
   rw[l]
   exact(rel.val k).getD rd
end
section
variable{X:Cx}{o e f:Expr}{apos cpos:Pos}{td ty tx:TE}
end
section
variable{X:Cx}{pins:PNS}{σ:St}{H:Hp}{s:Shared}{a:Addr}{kvs:List (Key×V)}{A:Around}{E:VSP}
end
section
variable{X:Cx}{pins:PNS}{σ:St}{H:Hp}{s:Shared}{a:Addr}{y:V}{u:Value}{A:Around}{E:VSP}
end
section
variable{X:Cx}
theorem dI8:aC3 X (.builtin "len") (fun xs H Q=>∃a kvs,xs= [V.ref a]∧H a=some (.dK kvs)∧Q (.int kvs.length) H):=by
 intro pins s σ H xs us Q I r h
 obtain⟨a,kvs,rfl,ha,q⟩:=h
 obtain⟨u,rfl,ru⟩:=aG5 r
 cases ru
 exact fH7 I (.inl ha) fun t s' I'=>⟨.int kvs.length,H,I',⟨t,rfl⟩,q⟩
end
section
variable{κ:Type}[DecidableEq κ]
end
end L2
namespace DL
open PySem PySem.Spec L2
open PyProof.Rows hiding St
inductive D where
 |non|bl (b:Bool)|int (i:Int)|str (x:Str)|tup (l:List D)|ref (i:Nat)|fn (x:Str)|ty (n:String)
inductive DO where
 |lst (l:List D)|rol (l:List D)|dct (l:List (Key×D))|rod (l:List (Key×D))
noncomputable abbrev DH:=List DO
abbrev DPP:=D→DH→Prop
noncomputable abbrev DSt:=List (Option D)
structure Wc where
 K:PySem.W.Frag
 mg:Str→Option Value
noncomputable abbrev wc(X:Cx):Wc:=⟨X.K,X.mg⟩
mutual
noncomputable def g8(c:Wc)(μ:List Addr)(H:Hp):D→V→Prop
 | .non,v=>v= .non
 | .bl b,v=>v= .bl b
 | .int i,v=>v= .int i
 | .str x,v=>v= .str x
 | .ty n,v=>v= .ty n
 | .fn x,v=>∃a,c.mg x=some (.ref a)∧v= .ref a
 | .ref i,v=>∃a,μ[i]? =some a∧v= .ref a
 | .tup l,v=>∃a vs,v= .ref a∧SqT c.K H a vs∧o5 c μ H l vs
noncomputable def o5(c:Wc)(μ:List Addr)(H:Hp):List D→List V→Prop
 |[],vs=>vs= []
 |d::ds,vs=>∃v r,vs=v::r∧g8 c μ H d v∧o5 c μ H ds r
end
def aA9(c:Wc)(μ:List Addr)(H:Hp):List (Key×D)→List (Key×V)→Prop
 |[],kvs=>kvs= []
 |(k,d)::r,kvs=>∃v t,kvs= (k,v)::t∧g8 c μ H d v∧aA9 c μ H r t
structure Ext(μ:List Addr)(H:Hp)(μ':List Addr)(H':Hp):Prop where
 pre:μ <+:μ'
 new:∀a∈μ',a∉μ→H a=none
 oth:∀b o,H b=some o→b∉μ→H' b=some o
 tup:∀b xs,H b=some (.tup xs)→H' b=some (.tup xs)
 frz:∀b o u,H b=some (.frz o u)→H' b=some (.frz o u)
theorem Ext.refl(μ:List Addr)(H:Hp):Ext μ H μ H:=⟨List.prefix_refl _,fun a h n=>absurd h n,fun _ _ h _=>h,fun _ _ h=>h,fun _ _ _ h=>h⟩
theorem Ext.trans{μ μ1 μ2:List Addr}{H H1 H2:Hp}(a:Ext μ H μ1 H1)(b:Ext μ1 H1 μ2 H2):Ext μ H μ2 H2 where
 pre:=a.pre.trans b.pre
 new:=fun x h n=>by
  by_cases h1:x∈μ1
  ·exact a.new x h1 n
  · have e1:=b.new x h h1
    rcases e:H x with _|o
    ·rfl
    ·rw[a.oth x o e n]at e1;exact eH2 e1
 oth:=fun x o e n=>by
  refine b.oth x o (a.oth x o e n) fun h1=>?_
  have:=a.new x h1 n
  rw[e]at this;exact eH2 this
 tup:=fun x xs e=>b.tup x xs (a.tup x xs e)
 frz:=fun x o u e=>b.frz x o u (a.frz x o u e)
theorem Ext.lay{μ:List Addr}{H:Hp}{p:Addr}(h:H p=none)(o:HO):Ext μ H μ (upd H p o):=
 ⟨List.prefix_refl _,fun a h n=>absurd h n,fun b o' q _=>by rw[o8 (t7 q h)];exact q,fun b xs q=>by rw[o8 (t7 q h)];exact q,fun b o' u q=>by rw[o8 (t7 q h)];exact q⟩
theorem Ext.add{μ:List Addr}{H:Hp}{p:Addr}(h:H p=none)(o:HO):Ext μ H (μ++[p]) (upd H p o):=
 ⟨List.prefix_append _ _,fun a ha n=>by
  rcases List.mem_append.mp ha with z|z
  ·exact absurd z n
  ·rw[List.mem_singleton.mp z];exact h,fun b o' q _=>by rw[o8 (t7 q h)];exact q,fun b xs q=>by rw[o8 (t7 q h)];exact q,fun b o' u q=>by rw[o8 (t7 q h)];exact q⟩
theorem Ext.mut{μ:List Addr}{H:Hp}{p:Addr}{o':HO}(hp:p∈μ)(h:H p=some o')(n1:∀xs,o'≠ .tup xs)(n2:∀o u,o'≠ .frz o u)(o:HO):Ext μ H μ (upd H p o):=
 ⟨List.prefix_refl _,fun a h n=>absurd h n,fun b o2 q n=>by rw[o8 (fun e=>n (by rw[e];exact hp))];exact q,fun b xs q=>by
  rw[o8 (fun e=>by subst e;rw[h]at q;cases q;exact n1 _ rfl)];exact q,
  fun b oo u q=>by
   rw[o8 (fun e=>by subst e;rw[h]at q;cases q;exact n2 _ _ rfl)];exact q⟩
theorem Ext.sqT{μ μ':List Addr}{K:PySem.W.Frag}{H H':Hp}(k:Ext μ H μ' H'){a:Addr}{xs:List V}(h:SqT K H a xs):SqT K H' a xs:=by
 rcases h with(h|⟨o,h⟩)|h
 ·exact .inl (.inl (k.tup _ _ h))
 ·exact .inl (.inr ⟨o,k.frz _ _ _ h⟩)
 ·exact .inr h
def RoL(K:PySem.W.Frag)(H:Hp)(a:Addr)(xs:List V):Prop:=(∃o,H a=some (.frz o (.lst xs)))∨(SqL K (fun _=>none) a xs)
theorem dU1{K:PySem.W.Frag}{H:Hp}{a:Addr}{xs:List V}(h:SqL K (fun _=>none) a xs):SqL K H a xs:=by
 rcases h with(h|⟨o,h⟩)|h
 ·exact K4 h
 ·exact K4 h
 ·exact .inr h
theorem RoL.sq{K:PySem.W.Frag}{H:Hp}{a:Addr}{xs:List V}(h:RoL K H a xs):SqL K H a xs:=by
 rcases h with⟨o,h⟩|h
 ·exact .inl (.inr ⟨o,h⟩)
 ·exact dU1 h
theorem Ext.roL{μ μ':List Addr}{K:PySem.W.Frag}{H H':Hp}(k:Ext μ H μ' H'){a:Addr}{xs:List V}(h:RoL K H a xs):RoL K H' a xs:=by
 rcases h with⟨o,h⟩|h
 ·exact .inl ⟨o,k.frz _ _ _ h⟩
 ·exact .inr h
section
variable{c:Wc}{μ μ':List Addr}{H H':Hp}
theorem cC0{μ μ':List Addr}(h:μ <+:μ'){i:Nat}{a:Addr}(e:μ[i]? =some a):μ'[i]? =some a:=by
 obtain⟨t,rfl⟩:=h
 have:i<μ.length:=by
  rcases Nat.lt_or_ge i μ.length with q|q
  ·exact q
  ·rw[List.getElem?_eq_none q]at e;exact K4 e
 rw[List.getElem?_append_left this];exact e
mutual
theorem g8.mono(x:Ext μ H μ' H'):∀ {d:D} {v:V},g8 c μ H d v→g8 c μ' H' d v
 | .non,_,h=>h
 | .bl _,_,h=>h
 | .int _,_,h=>h
 | .str _,_,h=>h
 | .ty _,_,h=>h
 | .fn _,_,h=>h
 | .ref i,v,h=>by
   unfold g8 at h ⊢
   obtain⟨a,e,r⟩:=h
   exact⟨a,cC0 x.pre e,r⟩
 | .tup l,v,h=>by
   unfold g8 at h ⊢
   obtain⟨a,vs,e,q,r⟩:=h
   exact⟨a,vs,e,x.sqT q,o5.mono x r⟩
theorem o5.mono(x:Ext μ H μ' H'):∀ {l:List D} {vs:List V},o5 c μ H l vs→o5 c μ' H' l vs
 |[],_,h=>h
 |d::ds,vs,h=>by
   unfold o5 at h ⊢
   obtain⟨v,r,e,q,t⟩:=h
   exact⟨v,r,e,g8.mono x q,o5.mono x t⟩
end
theorem aA9.mono(x:Ext μ H μ' H'):∀ {l:List (Key×D)} {vs:List (Key×V)},aA9 c μ H l vs→aA9 c μ' H' l vs
 |[],_,h=>h
 |(_,d)::ds,vs,h=>by
  obtain⟨v,r,e,q,t⟩:=h
  exact⟨v,r,e,g8.mono x q,aA9.mono x t⟩
theorem o5.nil:o5 c μ H [] []:=rfl
theorem o5.cons{d:D}{v:V}{ds:List D}{vs:List V}(h:g8 c μ H d v)(t:o5 c μ H ds vs):o5 c μ H (d::ds) (v::vs):=⟨v,vs,rfl,h,t⟩
theorem o5.length:∀ {l:List D} {vs:List V},o5 c μ H l vs→l.length=vs.length
 |[],_,h=>by cases h;rfl
 |_::_,_,h=>by obtain⟨v,r,rfl,_,t⟩:=h;simp[o5.length t]
theorem o5.get:∀ {l:List D} {vs:List V} {i:Nat} {d:D},o5 c μ H l vs→l[i]? =some d→∃v,vs[i]? =some v∧g8 c μ H d v
 |[],_,_,_,_,e=>by simp at e
 |_::_,_,0,_,h,e=>by
   obtain⟨v,r,rfl,q,t⟩:=h
   simp at e;subst e
   exact⟨v,rfl,q⟩
 |_::_,_,i+1,_,h,e=>by
   obtain⟨v,r,rfl,q,t⟩:=h
   simp at e
   obtain⟨w,h1,h2⟩:=o5.get t e
   exact⟨w,by simpa using h1,h2⟩
theorem o5.append:∀ {l l':List D} {vs vs':List V},o5 c μ H l vs→o5 c μ H l' vs'→o5 c μ H (l++l') (vs++vs')
 |[],_,_,_,h,t=>by cases h;exact t
 |_::_,_,_,_,h,t=>by
   obtain⟨v,r,rfl,q,u⟩:=h
   exact⟨v,r++_,rfl,q,o5.append u t⟩
theorem o5.take:∀(n:Nat) {l:List D} {vs:List V},o5 c μ H l vs→o5 c μ H (l.take n) (vs.take n)
 |0,_,_,_=>rfl
 |_+1, [],_,h=>by cases h;rfl
 |n+1,_::_,_,h=>by
   obtain⟨v,r,rfl,q,u⟩:=h
   exact⟨v,r.take n,rfl,q,o5.take n u⟩
theorem o5.drop:∀(n:Nat) {l:List D} {vs:List V},o5 c μ H l vs→o5 c μ H (l.drop n) (vs.drop n)
 |0,_,_,h=>h
 |_+1, [],_,h=>by cases h;rfl
 |n+1,_::_,_,h=>by
   obtain⟨v,r,rfl,q,u⟩:=h
   exact o5.drop n u
theorem o5.set{d:D}{v:V}(hv:g8 c μ H d v):∀(n:Nat) {l:List D} {vs:List V},o5 c μ H l vs→o5 c μ H (l.set n d) (vs.set n v)
 |_, [],_,h=>by cases h;rfl
 |0,_::_,_,h=>by
   obtain⟨w,r,rfl,q,u⟩:=h
   exact⟨v,r,rfl,hv,u⟩
 |n+1,_::_,_,h=>by
   obtain⟨w,r,rfl,q,u⟩:=h
   exact⟨w,r.set n v,rfl,q,o5.set hv n u⟩
theorem o5.dropLast{l:List D}{vs:List V}(h:o5 c μ H l vs):o5 c μ H l.dropLast vs.dropLast:=by
 rw[List.dropLast_eq_take,List.dropLast_eq_take,h.length]
 exact h.take _
noncomputable def aN8:Option DO→Prop
 |some (.rol _)=>True
 |some (.rod _)=>True
 |_=>False
def aM1(c:Wc)(μ:List Addr)(H:Hp)(a:Addr):DO→Prop
 | .lst l=>∃vs,H a=some (.lst vs)∧o5 c μ H l vs
 | .rol l=>∃vs,RoL c.K H a vs∧o5 c μ H l vs
 | .dct l=>∃kvs,H a=some (.dK kvs)∧aA9 c μ H l kvs
 | .rod l=>∃kvs o,H a=some (.frz o (.dK kvs))∧aA9 c μ H l kvs
structure t8(c:Wc)(μ:List Addr)(G:DH)(H:Hp):Prop where
 len:μ.length=G.length
 inj:∀(i j:Nat) (a:Addr),μ[i]? =some a→μ[j]? =some a→i=j∨aN8 G[i]? ∨aN8 G[j]?
 obj:∀(i:Nat) (o:DO) (a:Addr),G[i]? =some o→μ[i]? =some a→aM1 c μ H a o
variable{G:DH}
theorem lt_of_get{α:Type}{l:List α}{i:Nat}{x:α}(e:l[i]? =some x):i<l.length:=by
 rcases Nat.lt_or_ge i l.length with q|q
 ·exact q
 ·rw[List.getElem?_eq_none q]at e;exact K4 e
theorem aM1.mono(x:Ext μ H μ' H'){a:Addr}{o:DO}(h:aM1 c μ H a o)(e:H' a=H a∨aN8 (some o)):aM1 c μ' H' a o:=by
 rcases o with l|l|l|l
 ·
   obtain⟨vs,q,r⟩:=h
   rcases e with e|e
   ·exact⟨vs,e.trans q,r.mono x⟩
   ·exact e.elim
 ·obtain⟨vs,q,r⟩:=h;exact⟨vs,x.roL q,r.mono x⟩
 ·
   obtain⟨vs,q,r⟩:=h
   rcases e with e|e
   ·exact⟨vs,e.trans q,r.mono x⟩
   ·exact e.elim
 ·obtain⟨vs,o,q,r⟩:=h;exact⟨vs,o,x.frz _ _ _ q,r.mono x⟩
theorem aM1.some_of{a:Addr}{o:DO}(h:aM1 c μ H a o)(n:¬aN8 (some o)):∃u,H a=some u∧(∀xs,u≠ .tup xs)∧∀o' u',u≠ .frz o' u':=by
 rcases o with l|l|l|l
 ·obtain⟨vs,q,_⟩:=h;exact⟨_,q,(fun _ z=>nomatch z),(fun _ _ z=>nomatch z)⟩
 ·exact(n trivial).elim
 ·obtain⟨vs,q,_⟩:=h;exact⟨_,q,(fun _ z=>nomatch z),(fun _ _ z=>nomatch z)⟩
 ·exact(n trivial).elim
theorem t8.same(h:t8 c μ G H)(k:Ext μ H μ H')(e:∀a o,H a=some o→(∀xs,o≠ .tup xs)→H' a=some o):t8 c μ G H':=
 ⟨h.len,h.inj,fun i o a g m=>by
  have q:=h.obj i o a g m
  by_cases hr:aN8 (some o)
  ·exact q.mono k (.inr hr)
  · obtain⟨u,e1,n1,n2⟩:=q.some_of hr
    exact q.mono k (.inl ((e a u e1 n1).trans e1.symm))⟩
theorem t8.new{p:Addr}{o:DO}{u:HO}(h:t8 c μ G H)(hp:H p=none)(ho:aM1 c (μ++[p]) (upd H p u) p o):t8 c (μ++[p]) (G++[o]) (upd H p u):=by
 have k:Ext μ H (μ++[p]) (upd H p u):=Ext.add hp u
 have old:∀(i:Nat) (a:Addr),i<μ.length→(μ++[p])[i]? =some a→μ[i]? =some a:=fun i a hi e=>by
  rw[List.getElem?_append_left hi]at e;exact e
 refine⟨by simp[h.len],fun i j a ei ej=>?_,fun i o' a g m=>?_⟩
 · have li:=lt_of_get ei
   have lj:=lt_of_get ej
   simp only[List.length_append,List.length_singleton]at li lj
   by_cases hi:i<μ.length
   · have mi:=old i a hi ei
     have gi:(G++[o])[i]? =G[i]? :=List.getElem?_append_left (by rw[←h.len];exact hi)
     by_cases hj:j<μ.length
     · have mj:=old j a hj ej
       have gj:(G++[o])[j]? =G[j]? :=List.getElem?_append_left (by rw[←h.len];exact hj)
       rw[gi,gj]
       exact h.inj i j a mi mj
     · -- j is the new one:a=p
       have ej':j=μ.length:=by lia
       subst ej'
       have ea:a=p:=by simpa using ej.symm
       subst ea
       right;left
       rw[gi]
       have hg:i<G.length:=by rw[←h.len];exact hi
       have q:=h.obj i G[i] a (List.getElem?_eq_getElem hg) mi
       rw[List.getElem?_eq_getElem hg]
       refine Classical.byContradiction fun n=>?_
       obtain⟨u',e1,_⟩:=q.some_of n
       rw[hp]at e1;exact K4 e1
   · have ei':i=μ.length:=by lia
     by_cases hj:j<μ.length
     · have mj:=old j a hj ej
       have gj:(G++[o])[j]? =G[j]? :=List.getElem?_append_left (by rw[←h.len];exact hj)
       subst ei'
       have ea:a=p:=by simpa using ei.symm
       subst ea
       right;right
       rw[gj]
       have hg:j<G.length:=by rw[←h.len];exact hj
       have q:=h.obj j G[j] a (List.getElem?_eq_getElem hg) mj
       rw[List.getElem?_eq_getElem hg]
       refine Classical.byContradiction fun n=>?_
       obtain⟨u',e1,_⟩:=q.some_of n
       rw[hp]at e1;exact K4 e1
     ·left;lia
 · have li:=lt_of_get m
   simp only[List.length_append,List.length_singleton]at li
   by_cases hi:i<μ.length
   · have mi:=old i a hi m
     rw[List.getElem?_append_left (by rw[←h.len];exact hi)]at g
     have q:=h.obj i o' a g mi
     by_cases hr:aN8 (some o')
     ·exact q.mono k (.inr hr)
     · obtain⟨u',e1,_⟩:=q.some_of hr
       exact q.mono k (.inl (o8 (t7 e1 hp)))
   · have ei':i=μ.length:=by lia
     subst ei'
     have ea:a=p:=by simpa using m.symm
     subst ea
     rw[h.len]at g
     have eo:o'=o:=by simpa using g.symm
     subst eo
     exact ho
theorem t8.set{i:Nat}{a:Addr}{o o':DO}{u:HO}(h:t8 c μ G H)(g:G[i]? =some o)(n:¬aN8 (some o))(m:μ[i]? =some a)(k:Ext μ H μ (upd H a u))(n':¬aN8 (some o'))(ho:aM1 c μ (upd H a u) a o'):t8 c μ (G.set i o') (upd H a u):=by
 have hi:i<G.length:=lt_of_get g
 have get:∀j,(G.set i o')[j]? =if i=j then some o' else G[j]? :=fun j=>by
  rw[List.getElem?_set]
  by_cases e:i=j
  ·subst e;simp[hi]
  ·simp[e]
 refine⟨by simp[h.len],fun j l b ej el=>?_,fun j o2 b gj mj=>?_⟩
 · rcases h.inj j l b ej el with e|e|e
   ·exact .inl e
   · by_cases ij:i=j
     ·subst ij;rw[g]at e;exact(n e).elim
     ·right;left;rw[get,if_neg ij];exact e
   · by_cases ij:i=l
     ·subst ij;rw[g]at e;exact(n e).elim
     ·right;right;rw[get,if_neg ij];exact e
 · rw[get]at gj
   by_cases ij:i=j
   · subst ij
     rw[if_pos rfl]at gj
     cases gj
     rw[m]at mj
     cases mj
     exact ho
   · rw[if_neg ij]at gj
     have q:=h.obj j o2 b gj mj
     by_cases hr:aN8 (some o2)
     ·exact q.mono k (.inr hr)
     · have nb:b≠a:=fun e=>by
        subst e
        rcases h.inj i j b m mj with e|e|e
        ·exact ij e
        ·rw[g]at e;exact n e
        ·rw[gj]at e;exact hr e
       exact q.mono k (.inl (o8 nb))
def M5(c:Wc)(μ:List Addr)(H:Hp)(dσ:DSt)(σ:St):Prop:=dσ.length=σ.length∧∀(i:Nat) (d:D),dσ[i]? =some (some d)→∃v,σ[i]? =some (some v)∧g8 c μ H d v
theorem M5.mono(x:Ext μ H μ' H'){dσ:DSt}{σ:St}(h:M5 c μ H dσ σ):M5 c μ' H' dσ σ:=
 ⟨h.1,fun i d e=>let ⟨v,a,b⟩:=h.2 i d e;⟨v,a,b.mono x⟩⟩
theorem M5.put{dσ:DSt}{σ:St}(h:M5 c μ H dσ σ){d:D}{v:V}(r:g8 c μ H d v)(i:Nat):M5 c μ H (dσ.set i (some d)) (σ.set i (some v)):=by
 refine⟨by simp[h.1],fun j d' e=>?_⟩
 rw[List.getElem?_set]at e ⊢
 by_cases ij:i=j
 · subst ij
   rw[if_pos rfl]at e ⊢
   rw[←h.1]
   split at e
   · rename_i hl
     rw[if_pos hl]
     cases e
     exact⟨v,rfl,r⟩
   ·exact K4 e
 · rw[if_neg ij]at e ⊢
   exact h.2 j d' e
end
noncomputable def M(α:Type):=DH→Option (Except Str α×DH)
namespace M
noncomputable def pure{α:Type}(a:α):M α:=fun G=>some (.ok a,G)
noncomputable def bind{α β:Type}(m:M α)(f:α→M β):M β:=fun G=>match m G with
 |none=>none
 |some (.ok a,G1)=>f a G1
 |some (.error x,G1)=>some (.error x,G1)
noncomputable def stuck{α:Type}:M α:=fun _=>none
end M
noncomputable instance:Monad M:={pure:=M.pure,bind:=M.bind}
theorem M.bind_eq{α β:Type}(m:M α)(f:α→M β)(G:DH):(m >>= f) G=match m G with
 |none=>none
 |some (.ok a,G1)=>f a G1
 |some (.error x,G1)=>some (.error x,G1):=rfl
theorem M.bind_ok{α β:Type}{m:M α}{f:α→M β}{G G1:DH}{a:α}(h:m G=some (.ok a,G1)):(m >>= f) G=f a G1:=by rw[M.bind_eq,h]
theorem M.bind_assoc{α β γ:Type}(m:M α)(f:α→M β)(g:β→M γ):((m >>= f) >>= g)= (m >>= fun a=>f a >>= g):=by
 funext G
 simp only[M.bind_eq]
 rcases m G with _|p
 ·rfl
 ·obtain⟨r,G1⟩:=p;cases r<;>rfl
noncomputable abbrev XC:=Str→List Addr→DH→Hp→Prop
noncomputable def ZF:XC:=fun _ _ _ _=>False
noncomputable def d7{α:Type}(c:Wc)(Z:XC)(μ:List Addr)(H:Hp)(r:Option (Except Str α×DH))(K:α→List Addr→DH→Hp→Prop):Prop:=
 match r with
 |none=>False
 |some (.ok a,G')=>∀ μ' H',Ext μ H μ' H'→t8 c μ' G' H'→K a μ' G' H'
 |some (.error x,G')=>∀ μ' H',Ext μ H μ' H'→t8 c μ' G' H'→Z x μ' G' H'
section
variable{α β:Type}{c:Wc}{Z:XC}{μ μ':List Addr}{H H':Hp}
theorem d7.mono{r:Option (Except Str α×DH)}{K K':α→List Addr→DH→Hp→Prop}(h:d7 c Z μ H r K)
 (k:∀a μ' G' H',Ext μ H μ' H'→t8 c μ' G' H'→K a μ' G' H'→K' a μ' G' H'):d7 c Z μ H r K':=by
 match r,h with
 |some (.ok a,G'),h=>exact fun μ' H' p e=>k a μ' G' H' p e (h μ' H' p e)
 |some (.error x,G'),h=>exact h
theorem d7.from{r:Option (Except Str α×DH)}{K:α→List Addr→DH→Hp→Prop}(h:d7 c Z μ H r K)(p:Ext μ H μ' H'):d7 c Z μ' H' r K:=by
 match r,h with
 |some (.ok a,G'),h=>exact fun μ2 H2 p2 e=>h μ2 H2 (p.trans p2) e
 |some (.error x,G'),h=>exact fun μ2 H2 p2 e=>h μ2 H2 (p.trans p2) e
theorem d7.bind{m:M α}{f:α→M β}{G:DH}{K:β→List Addr→DH→Hp→Prop}(h:d7 c Z μ H ((m >>= f) G) K):
 d7 c Z μ H (m G) (fun a μ' G' H'=>d7 c Z μ' H' (f a G') K):=by
 rw[M.bind_eq]at h
 match m G,h with
 |some (.ok a,G'),h=>exact fun μ' H' p e=>d7.from h p
 |some (.error x,G'),h=>exact h
theorem d7.ok{a:α}{G:DH}{K:α→List Addr→DH→Hp→Prop}(h:d7 c Z μ H (some (.ok a,G)) K)(e:t8 c μ G H):K a μ G H:=h μ H (Ext.refl _ _) e
end
inductive Fl where
 |nx (σ:DSt)|rt (d:D)|bk (σ:DSt)|ct (σ:DSt)
section
variable(c:Wc)(Z:XC)
def bK2(f:DSt→M D):TE:=fun σ H Q=>∃dσ μ G,M5 c μ H dσ σ∧t8 c μ G H∧d7 c Z μ H (f dσ G) fun d μ' _ H'=>∀v,g8 c μ' H' d v→Q v H'
def bS5(f:DSt→M Bool):TT:=fun σ H Q=>∃dσ μ G,M5 c μ H dσ σ∧t8 c μ G H∧d7 c Z μ H (f dσ G) fun b μ' _ H'=>Q b H'
def cP3(f:DSt→M (List D)):TA:=fun σ H Q=>∃dσ μ G,M5 c μ H dσ σ∧t8 c μ G H∧d7 c Z μ H (f dσ G) fun ds μ' _ H'=>∀vs,o5 c μ' H' ds vs→Q vs H'
def bQ6(E:bP3)(fl:Fl)(μ:List Addr)(H:Hp):Prop:=match fl with
 | .nx dσ=>∀ σ,M5 c μ H dσ σ→E.nx σ H
 | .rt d=>∀v,g8 c μ H d v→E.rt v H
 | .bk dσ=>∀ σ,M5 c μ H dσ σ→E.bk σ H
 | .ct dσ=>∀ σ,M5 c μ H dσ σ→E.ct σ H
def bP7(f:DSt→M Fl):TS:=fun E σ H=>∃dσ μ G,M5 c μ H dσ σ∧t8 c μ G H∧d7 c Z μ H (f dσ G) fun fl μ' _ H'=>bQ6 c E fl μ' H'
end
theorem bK2.elim{c:Wc}{Z:XC}{P:Prop}{f:DSt→M D}{σ:St}{H:Hp}{Q:VK}(h:bK2 c Z f σ H Q)(k:∀dσ μ G,M5 c μ H dσ σ→t8 c μ G H→d7 c Z μ H (f dσ G) (fun d μ' _ H'=>∀v,g8 c μ' H' d v→Q v H')→P):P:=by
 obtain⟨e0,e1,e2,e3,e4,e5⟩:=h
 exact k e0 e1 e2 e3 e4 e5
theorem bS5.elim{c:Wc}{Z:XC}{P:Prop}{f:DSt→M Bool}{σ:St}{H:Hp}{Q:Bool→Hp→Prop}(h:bS5 c Z f σ H Q)(k:∀dσ μ G,M5 c μ H dσ σ→t8 c μ G H→d7 c Z μ H (f dσ G) (fun b μ' _ H'=>Q b H')→P):P:=by
 obtain⟨e0,e1,e2,e3,e4,e5⟩:=h
 exact k e0 e1 e2 e3 e4 e5
theorem cP3.elim{c:Wc}{Z:XC}{P:Prop}{f:DSt→M (List D)}{σ:St}{H:Hp}{Q:List V→Hp→Prop}(h:cP3 c Z f σ H Q)(k:∀dσ μ G,M5 c μ H dσ σ→t8 c μ G H→d7 c Z μ H (f dσ G) (fun ds μ' _ H'=>∀vs,o5 c μ' H' ds vs→Q vs H')→P):P:=by
 obtain⟨e0,e1,e2,e3,e4,e5⟩:=h
 exact k e0 e1 e2 e3 e4 e5
theorem bP7.elim{c:Wc}{Z:XC}{P:Prop}{f:DSt→M Fl}{E:bP3}{σ:St}{H:Hp}(h:bP7 c Z f E σ H)(k:∀dσ μ G,M5 c μ H dσ σ→t8 c μ G H→d7 c Z μ H (f dσ G) (fun fl μ' _ H'=>bQ6 c E fl μ' H')→P):P:=by
 obtain⟨e0,e1,e2,e3,e4,e5⟩:=h
 exact k e0 e1 e2 e3 e4 e5
structure DE(X:Cx)(Z:XC)(e:Expr)(f:DSt→M D):Prop where
 h:PE X e (bK2 (wc X) Z f)
structure DT(X:Cx)(Z:XC)(e:Expr)(f:DSt→M Bool):Prop where
 h:PT X e (bS5 (wc X) Z f)
structure DA(X:Cx)(Z:XC)(e:List Expr)(f:DSt→M (List D)):Prop where
 h:PA X e (cP3 (wc X) Z f)
structure DS(X:Cx)(Z:XC)(e:Stmt)(f:DSt→M Fl):Prop where
 h:PS X e (bP7 (wc X) Z f)
structure DB(X:Cx)(Z:XC)(e:List Stmt)(f:DSt→M Fl):Prop where
 h:PSs X e (bP7 (wc X) Z f)
theorem PE.mono{X:Cx}{e:Expr}{t t':TE}(h:PE X e t)(k:∀ σ H Q,t' σ H Q→t σ H Q):PE X e t':=fun pins s σ H Q I q=>h pins s σ H Q I (k σ H Q q)
theorem PT.mono{X:Cx}{e:Expr}{t t':TT}(h:PT X e t)(k:∀ σ H Q,t' σ H Q→t σ H Q):PT X e t':=fun pins s σ H Q I q=>h pins s σ H Q I (k σ H Q q)
theorem PW.mono{X:Cx}{e:Expr}{t t':TT}(h:PW X e t)(k:∀ σ H Q,t' σ H Q→t σ H Q):PW X e t':=fun wh pins s σ H Q I q=>h wh pins s σ H Q I (k σ H Q q)
theorem PA.mono{X:Cx}{e:List Expr}{t t':TA}(h:PA X e t)(k:∀ σ H Q,t' σ H Q→t σ H Q):PA X e t':=fun pos pins s σ H Q I q=>h pos pins s σ H Q I (k σ H Q q)
theorem PS.mono{X:Cx}{e:Stmt}{t t':TS}(h:PS X e t)(k:∀E σ H,t' E σ H→t E σ H):PS X e t':=fun pins s σ H E I q=>h pins s σ H E I (k E σ H q)
theorem PSs.mono{X:Cx}{e:List Stmt}{t t':TS}(h:PSs X e t)(k:∀E σ H,t' E σ H→t E σ H):PSs X e t':=fun pins s σ H E I q=>h pins s σ H E I (k E σ H q)
theorem DE.of{X:Cx}{Z:XC}{e:Expr}{f:DSt→M D}{t:TE}(h:PE X e t)(k:∀ σ H Q,bK2 (wc X) Z f σ H Q→t σ H Q):DE X Z e f:=⟨PE.mono h k⟩
theorem DT.of{X:Cx}{Z:XC}{e:Expr}{f:DSt→M Bool}{t:TT}(h:PT X e t)(k:∀ σ H Q,bS5 (wc X) Z f σ H Q→t σ H Q):DT X Z e f:=⟨PT.mono h k⟩
theorem DA.of{X:Cx}{Z:XC}{e:List Expr}{f:DSt→M (List D)}{t:TA}(h:PA X e t)(k:∀ σ H Q,cP3 (wc X) Z f σ H Q→t σ H Q):DA X Z e f:=⟨PA.mono h k⟩
theorem DS.of{X:Cx}{Z:XC}{e:Stmt}{f:DSt→M Fl}{t:TS}(h:PS X e t)(k:∀E σ H,bP7 (wc X) Z f E σ H→t E σ H):DS X Z e f:=⟨PS.mono h k⟩
theorem DB.of{X:Cx}{Z:XC}{e:List Stmt}{f:DSt→M Fl}{t:TS}(h:PSs X e t)(k:∀E σ H,bP7 (wc X) Z f E σ H→t E σ H):DB X Z e f:=⟨PSs.mono h k⟩
end DL
namespace DL
open PySem PySem.Spec L2
open PyProof.Rows hiding St
noncomputable def U6:Expr→Bool
 | .Starred ..=>false
 |_=>true
theorem q14{e:Expr}{es:List Expr}{env:Env}(h:U6 e=true):starEach (e::es) env= (false,eval e env)::starEach es env:=by
 cases e<;>first
  |rfl
  |exact aB4 h
theorem aF4{e:Expr}{env:Env}(h:U6 e=true):starEach [e] env= [(false,eval e env)]:=q14 h
theorem cK0{a b:Expr}{env:Env}(h:U6 a=true)(h':U6 b=true):starEach [a,b] env= [(false,eval a env),(false,eval b env)]:=by rw[q14 h,aF4 h']
abbrev Fe:=DSt→M D
noncomputable def c7(i:Nat):Fe:=fun σ G=>match σ[i]? with
 |some (some d)=>some (.ok d,G)
 |_=>none
def cE(d:D):Fe:=fun _=>pure d
noncomputable def d9(o:D→D→M D)(a b:Fe):Fe:=fun σ=>do o (←a σ) (←b σ)
noncomputable def unE(o:D→M D)(a:Fe):Fe:=fun σ=>do o (←a σ)
def q11:DSt→M (List D):=fun _=>pure []
def q10(a:Fe)(r:DSt→M (List D)):DSt→M (List D):=fun σ=>do
 let x ←a σ
 let xs ←r σ
 pure (x::xs)
noncomputable def q12(F:List D→M D)(a:DSt→M (List D)):Fe:=fun σ=>do F (←a σ)
def dW3:D→M Bool
 | .bl b=>pure b
 |_=>M.stuck
def bU8(a:Fe):Fe:=fun σ=>do pure (.bl (!(←dW3 (←a σ))))
noncomputable def ifE(t:DSt→M Bool)(a b:Fe):Fe:=fun σ=>do if ←t σ then a σ else b σ
section
variable(c:Wc)(Z:XC)
def bG8(o:D→D→M D):R2:=fun x y H Q=>∃dx dy μ G,g8 c μ H dx x∧g8 c μ H dy y∧t8 c μ G H∧d7 c Z μ H (o dx dy G) fun d μ' _ H'=>∀v,g8 c μ' H' d v→Q v H'
def cT1(o:D→M D):V→Hp→VK→Prop:=fun x H Q=>∃dx μ G,g8 c μ H dx x∧t8 c μ G H∧d7 c Z μ H (o dx G) fun d μ' _ H'=>∀v,g8 c μ' H' d v→Q v H'
def aZ9(F:List D→M D):List V→Hp→VK→Prop:=fun xs H Q=>∃ds μ G,o5 c μ H ds xs∧t8 c μ G H∧d7 c Z μ H (F ds G) fun d μ' _ H'=>∀v,g8 c μ' H' d v→Q v H'
end
theorem bG8.elim{c:Wc}{Z:XC}{P:Prop}{o:D→D→M D}{x:V}{y:V}{H:Hp}{Q:VK}(h:bG8 c Z o x y H Q)(k:∀dx dy μ G,g8 c μ H dx x→g8 c μ H dy y→t8 c μ G H→d7 c Z μ H (o dx dy G) (fun d μ' _ H'=>∀v,g8 c μ' H' d v→Q v H')→P):P:=by
 obtain⟨e0,e1,e2,e3,e4,e5,e6,e7⟩:=h
 exact k e0 e1 e2 e3 e4 e5 e6 e7
theorem cT1.elim{c:Wc}{Z:XC}{P:Prop}{o:D→M D}{x:V}{H:Hp}{Q:VK}(h:cT1 c Z o x H Q)(k:∀dx μ G,g8 c μ H dx x→t8 c μ G H→d7 c Z μ H (o dx G) (fun d μ' _ H'=>∀v,g8 c μ' H' d v→Q v H')→P):P:=by
 obtain⟨e0,e1,e2,e3,e4,e5⟩:=h
 exact k e0 e1 e2 e3 e4 e5
theorem aZ9.elim{c:Wc}{Z:XC}{P:Prop}{F:List D→M D}{xs:List V}{H:Hp}{Q:VK}(h:aZ9 c Z F xs H Q)(k:∀ds μ G,o5 c μ H ds xs→t8 c μ G H→d7 c Z μ H (F ds G) (fun d μ' _ H'=>∀v,g8 c μ' H' d v→Q v H')→P):P:=by
 obtain⟨e0,e1,e2,e3,e4,e5⟩:=h
 exact k e0 e1 e2 e3 e4 e5
structure OpD(X:Cx)(Z:XC)(f:Value→Value→Sem Value)(o:D→D→M D):Prop where
 h:OpR X f (bG8 (wc X) Z o)
structure UnD(X:Cx)(Z:XC)(f:Value→Sem Value)(o:D→M D):Prop where
 h:UnR X f (cT1 (wc X) Z o)
structure aD0(X:Cx)(Z:XC)(f:Value)(F:List D→M D):Prop where
 h:aC3 X f (aZ9 (wc X) Z F)
theorem OpR.mono{X:Cx}{f:Value→Value→Sem Value}{r r':R2}(h:OpR X f r)(k:∀x y H Q,r' x y H Q→r x y H Q):OpR X f r':=fun pins s σ H x y v u Q I rx ry q=>h pins s σ H x y v u Q I rx ry (k x y H Q q)
theorem aC3.mono{X:Cx}{f:Value}{r r':List V→Hp→VK→Prop}(h:aC3 X f r)(k:∀xs H Q,r' xs H Q→r xs H Q):aC3 X f r':=fun pins s σ H xs us Q I rx q=>h pins s σ H xs us Q I rx (k xs H Q q)
theorem OpD.of{X:Cx}{Z:XC}{f:Value→Value→Sem Value}{o:D→D→M D}{r:R2}(h:OpR X f r)(k:∀x y H Q,bG8 (wc X) Z o x y H Q→r x y H Q):OpD X Z f o:=⟨OpR.mono h k⟩
theorem aD0.of{X:Cx}{Z:XC}{f:Value}{F:List D→M D}{r:List V→Hp→VK→Prop}(h:aC3 X f r)(k:∀xs H Q,aZ9 (wc X) Z F xs H Q→r xs H Q):aD0 X Z f F:=⟨aC3.mono h k⟩
section
variable{X:Cx}{Z:XC}{a b c e:Expr}{es:List Expr}{fa fb fc:Fe}{pos:Pos}
theorem bF7{cc:Wc}{o:D→D→M D}(σ:St)(H:Hp)(Q:VK)(h:bK2 cc Z (d9 o fa fb) σ H Q):tOp (bG8 cc Z o) (bK2 cc Z fa) (bK2 cc Z fb) σ H Q:=by
 obtain⟨dσ,μ,G,s,h,p⟩:=h
 exact⟨dσ,μ,G,s,h,(d7.bind p).mono fun x μ1 G1 H1 x' h1 p1 v rv=>⟨dσ,μ1,G1,s.mono x',h1,(d7.bind p1).mono fun y μ2 G2 H2 x2 h2 p2 u ru=>⟨x,y,μ2,G2,rv.mono x2,ru,h2,p2⟩⟩⟩
theorem eV3{i:Nat}(h:PE X e (fJ6 i)):DE X Z e (c7 i):=DE.of h fun σ H Q hE0=>hE0.elim fun dσ μ G s h p=>by
 delta c7 at p
 rcases he:dσ[i]? with _|_|d
 ·rw[he]at p;exact p.elim
 ·rw[he]at p;exact p.elim
 · rw[he]at p
   obtain⟨v,e1,r⟩:=s.2 i d he
   exact⟨v,e1,d7.ok p h v r⟩
theorem dS0{d:D}{v:V}(h:PE X e (tC v))(r:∀ μ H,g8 (wc X) μ H d v):DE X Z e (cE d):=DE.of h fun σ H Q hE0=>hE0.elim fun dσ μ G s h p=>d7.ok p h v (r _ _)
theorem q17{i j pos}:DE X Z (.Constant (.int i) j pos) (cE (.int i)):=dS0 dP7 fun _ _=>by unfold g8;rfl
theorem fI9{i j pos}:DE X Z (.Constant (.bool i) j pos) (cE (.bl i)):=dS0 fJ9 fun _ _=>by unfold g8;rfl
theorem eS2{j pos}:DE X Z (.Constant .none j pos) (cE .non):=dS0 eW2 fun _ _=>by unfold g8;rfl
theorem eM9{i j pos}:DE X Z (.Constant (.str i) j pos) (cE (.str i)):=dS0 eV5 fun _ _=>by unfold g8;rfl
theorem fL2(i:Nat){x:Str}{pos:Pos}(hN:X.N[i]? =some x)(hv:Vis X.env.scope x)(hd:(x==("__debug__" :Str))=false)
 (hcd:(x==("__classdict__" :Str))=false):DE X Z (.Name x pos) (c7 i):=eV3 (eY3 hN hv hd hcd)
theorem fF1{op:Operator}{o:D→D→M D}(ho:OpD X Z (binaryOp op) o)(ha:DE X Z a fa)(hb:DE X Z b fb):DE X Z (.BinOp a op b pos) (d9 o fa fb):=
 DE.of (dK7 ho.h ha.h hb.h) bF7
theorem eR0{op:CmpOp}{o:D→D→M D}(ho:OpD X Z (compareOp op) o)(ha:DE X Z a fa)(hb:DE X Z b fb)(hm:behindInMarks op b=false):DE X Z (.Compare a [op] [b] pos) (d9 o fa fb):=
 DE.of (eG1 ho.h ha.h hb.h hm) bF7
theorem fC0{op:UnaryOp}{o:D→M D}(ho:UnD X Z (unaryOp op) o)(ha:DE X Z a fa):DE X Z (.UnaryOp op a pos) (unE o fa):=
 DE.of (fC1 ho.h ha.h) fun σ H Q hE0=>hE0.elim fun dσ μ G s h p=>⟨dσ,μ,G,s,h,(d7.bind p).mono fun x μ1 G1 H1 x' h1 p1 v rv=>⟨x,μ1,G1,rv,h1,p1⟩⟩
theorem cB2{α:Type}{cc:Wc}{μ:List Addr}{H:Hp}{d:D}{f:Bool→M α}{G:DH}{K:α→List Addr→DH→Hp→Prop}(p:d7 cc Z μ H ((dW3 d >>= f) G) K):∃k,d= .bl k∧d7 cc Z μ H (f k G) K:=by
 cases d with
 |bl k=>exact⟨k,rfl,p⟩
 |_=>exact p.elim
theorem eN7{op}{f:Fe}(h:DE X Z a f):DE X Z (.BoolOp op [a] pos) f:=⟨eX9 h.h⟩
theorem eO0(ha:DE X Z a fa):DE X Z (.UnaryOp .Not a pos) (bU8 fa):=
 DE.of (eU6 ha.h) fun σ H Q hE0=>hE0.elim fun dσ μ G s h p=>⟨dσ,μ,G,s,h,(d7.bind p).mono fun x μ1 G1 H1 x' h1 p1 v rv=>by
  obtain⟨k',rfl,p2⟩:=cB2 p1
  unfold g8 at rv
  exact⟨k',rv,d7.ok p2 h1 _ (by unfold g8;rfl)⟩⟩
def J8(f:Fe):DSt→M Bool:=fun σ=>do dW3 (←f σ)
def aN6(a b:DSt→M Bool):DSt→M Bool:=fun σ=>do if ←a σ then b σ else pure false
def orT(a b:DSt→M Bool):DSt→M Bool:=fun σ=>do if ←a σ then pure true else b σ
def aN7(a:DSt→M Bool):DSt→M Bool:=fun σ=>do pure (!(←a σ))
structure DW(X:Cx)(Z:XC)(e:Expr)(f:DSt→M Bool):Prop where
 h:PW X e (bS5 (wc X) Z f)
theorem DW.of{X:Cx}{Z:XC}{e:Expr}{f:DSt→M Bool}{t:TT}(h:PW X e t)(k:∀ σ H Q,bS5 (wc X) Z f σ H Q→t σ H Q):DW X Z e f:=⟨PW.mono h k⟩
variable{ta tb:DSt→M Bool}{V8:List Expr}
theorem DW.dt(h:DW X Z a ta):DT X Z a ta:=⟨fun pins s σ H Q I q=>h.h _ pins s σ H Q I q⟩
theorem eN4{op:CmpOp}{o:D→D→M D}(ho:OpD X Z (compareOp op) o)(ha:DE X Z a fa)(hb:DE X Z b fb)(hm:behindInMarks op b=false):DT X Z (.Compare a [op] [b] pos) (J8 (d9 o fa fb)):=
 DT.of (eC2 ho.h ha.h hb.h hm) fun σ H Q hE0=>hE0.elim fun dσ μ G s h p=>bF7 σ H _ ⟨dσ,μ,G,s,h,(d7.bind p).mono fun x μ1 G1 H1 x' h1 p1 v rv=>by
  cases x with
  |bl k'=>unfold g8 at rv;exact⟨k',rv,d7.ok p1 h1⟩
  |_=>exact p1.elim⟩
theorem eH8(ha:DT X Z a ta):DW X Z (.BoolOp .And [a] pos) ta:=⟨eD0 ha.h⟩
theorem eV6(ha:DT X Z a ta):DW X Z (.BoolOp .Or [a] pos) ta:=⟨eZ3 ha.h⟩
theorem fA2(ha:DT X Z a ta)(hb:DW X Z (.BoolOp .And (b::V8) pos) tb):DW X Z (.BoolOp .And (a::b::V8) pos) (aN6 ta tb):=
 DW.of (eQ5 ha.h hb.h) fun σ H Q hE0=>hE0.elim fun dσ μ G s h p=>⟨dσ,μ,G,s,h,(d7.bind p).mono fun x μ1 G1 H1 x' h1 p1=>by
  cases x with
  |true=>exact⟨dσ,μ1,G1,s.mono x',h1,p1⟩
  |false=>exact d7.ok p1 h1⟩
theorem fI5(ha:DT X Z a ta)(hb:DW X Z (.BoolOp .Or (b::V8) pos) tb):DW X Z (.BoolOp .Or (a::b::V8) pos) (orT ta tb):=
 DW.of (fH2 ha.h hb.h) fun σ H Q hE0=>hE0.elim fun dσ μ G s h p=>⟨dσ,μ,G,s,h,(d7.bind p).mono fun x μ1 G1 H1 x' h1 p1=>by
  cases x with
  |false=>exact⟨dσ,μ1,G1,s.mono x',h1,p1⟩
  |true=>exact d7.ok p1 h1⟩
theorem eN2(ha:DT X Z a ta):DT X Z (.UnaryOp .Not a pos) (aN7 ta):=
 DT.of (eV8 ha.h) fun σ H Q hE0=>hE0.elim fun dσ μ G s h p=>⟨dσ,μ,G,s,h,(d7.bind p).mono fun x μ1 G1 H1 x' h1 p1=>d7.ok p1 h1⟩
theorem fH6(hc:DT X Z c ta)(ha:DE X Z a fa)(hb:DE X Z b fb):DE X Z (.IfExp c a b pos) (ifE ta fa fb):=
 DE.of (dL3 hc.h ha.h hb.h) fun σ H Q hE0=>hE0.elim fun dσ μ G s h p=>⟨dσ,μ,G,s,h,(d7.bind p).mono fun x μ1 G1 H1 x' h1 p1=>by
  cases x with
  |true=>exact⟨dσ,μ1,G1,s.mono x',h1,p1⟩
  |false=>exact⟨dσ,μ1,G1,s.mono x',h1,p1⟩⟩
variable{fs:DSt→M (List D)}
theorem q16:DA X Z [] q11:=DA.of eN5 fun σ H Q hE0=>hE0.elim fun dσ μ G s h p=>d7.ok p h [] rfl
theorem q15(ha:DE X Z e fa)(hr:DA X Z es fs)(hs:starEach (e::es) X.env= (false,eval e X.env)::starEach es X.env):DA X Z (e::es) (q10 fa fs):=
 DA.of (eG8 ha.h hr.h hs) fun σ H Q hE0=>hE0.elim fun dσ μ G s h p=>⟨dσ,μ,G,s,h,(d7.bind p).mono fun x μ1 G1 H1 x' h1 p1 v rv=>
  ⟨dσ,μ1,G1,s.mono x',h1,(d7.bind p1).mono fun xs μ2 G2 H2 x2 h2 p2 vs rvs=>d7.ok p2 h2 (v::vs) ⟨v,vs,rfl,rv.mono x2,rvs⟩⟩⟩
def o4(fs:DSt→M (List D)):Fe:=fun σ=>do
 let xs ←fs σ
 if xs.length≤sizeLine then pure (.tup xs)else M.stuck
noncomputable def R1(o:DO):M D:=fun G=>some (.ok (.ref G.length),G++[o])
def Z7(fs:DSt→M (List D)):Fe:=fun σ=>do
 let xs ←fs σ
 if xs.length≤sizeLine then R1 (.lst xs)else M.stuck
theorem bC2{cc:Wc}{μ:List Addr}{H:Hp}{G:DH}{xs:List D}{vs:List V}{Q:VK}(h:t8 cc μ G H)(r:o5 cc μ H xs vs)
 (p:d7 cc Z μ H (some (Except.ok (.tup xs),G)) fun d μ' _ H'=>∀v,g8 cc μ' H' d v→Q v H') (q:Addr) (hq:H q=none):Q (.ref q) (upd H q (.tup vs)):=by
 have k:Ext μ H μ (upd H q (.tup vs)):=Ext.lay hq _
 refine p μ _ k (h.same k fun a o e n=>?_) _ ?_
 ·rw[o8 (t7 e hq)];exact e
 · unfold g8
   exact⟨q,vs,rfl,SqT.of P0,r.mono k⟩
theorem aF5{cc:Wc}{μ:List Addr}{H:Hp}{G:DH}{xs:List D}{vs:List V}{Q:VK}(h:t8 cc μ G H)(r:o5 cc μ H xs vs)
 (p:d7 cc Z μ H (R1 (.lst xs) G) fun d μ' _ H'=>∀v,g8 cc μ' H' d v→Q v H') (q:Addr) (hq:H q=none):Q (.ref q) (upd H q (.lst vs)):=by
 have k:Ext μ H (μ++[q]) (upd H q (.lst vs)):=Ext.add hq _
 refine p (μ++[q]) _ k (h.new hq ⟨vs,P0,r.mono k⟩) _ ?_
 unfold g8
 exact⟨q,by rw[←h.len];simp,rfl⟩
theorem eO7{x1}(h:DA X Z es fs):DE X Z (.Tuple es x1 pos) (o4 fs):=
 DE.of (eT5 h.h) fun σ H Q hE0=>hE0.elim fun dσ μ G s h p=>⟨dσ,μ,G,s,h,(d7.bind p).mono fun xs μ1 G1 H1 x' h1 p1 vs rv=>by
  split at p1
  · rename_i hz
    exact⟨by rw[←rv.length];exact hz,fun q hq=>bC2 h1 rv p1 q hq⟩
  ·exact p1.elim⟩
theorem eY2(h:DA X Z es fs):DE X Z (.List es pos) (Z7 fs):=
 DE.of (eV0 h.h) fun σ H Q hE0=>hE0.elim fun dσ μ G s h p=>⟨dσ,μ,G,s,h,(d7.bind p).mono fun xs μ1 G1 H1 x' h1 p1 vs rv=>by
  split at p1
  · rename_i hz
    exact⟨by rw[←rv.length];exact hz,fun q hq=>aF5 h1 rv p1 q hq⟩
  ·exact p1.elim⟩
theorem cA9{cc:Wc}{F:List D→M D}(σ:St)(H:Hp)(Q:VK)(h:bK2 cc Z (q12 F fs) σ H Q):tCB (aZ9 cc Z F) (cP3 cc Z fs) σ H Q:=by
 obtain⟨dσ,μ,G,s,h,p⟩:=h
 exact⟨dσ,μ,G,s,h,(d7.bind p).mono fun x μ1 G1 H1 x' h1 p1 vs rv=>⟨x,μ1,G1,rv,h1,p1⟩⟩
theorem dS1{F:List D→M D}{id:String}{x:Str}{p:Pos}(hc:aD0 X Z (.builtin id) F)(hg:Gl X x)(hm:X.mg x=none)(hv:bootBuiltins x=some (.builtin id))(ha:DA X Z (e::es) fs)(hn:x≠ "__name__")(hdb:(x==("__debug__" :Str))=false)
 (he:starEach (e::es) X.env= (false,eval e X.env)::starEach es X.env) (hpl:(backTo pos (starEach es X.env)).any (·.1)=false):DE X Z (.Call (.Name x p) (e::es) [] pos) (q12 F fs):=
 DE.of (dK1 hc.h hg hm hv ha.h hn hdb he hpl) cA9
theorem dC6{F:List D→M D}{T:String}{x:Str}{p:Pos}(hc:aD0 X Z (.type T) F)(hg:Gl X x)(hm:X.mg x=none)(hv:bootBuiltins x=some (.type T))(ha:DA X Z (e::es) fs)(hn:x≠ "__name__")(hdb:(x==("__debug__" :Str))=false)
 (he:starEach (e::es) X.env= (false,eval e X.env)::starEach es X.env) (hpl:(backTo pos (starEach es X.env)).any (·.1)=false):DE X Z (.Call (.Name x p) (e::es) [] pos) (q12 F fs):=
 DE.of (dF3 hc.h hg hm hv ha.h hn hdb he hpl) cA9
def spD(c:Wc)(n:Nat)(F:List D→M D):Sp:=fun vs H Q _=>vs.length=n∧∃ds μ G,o5 c μ H ds vs∧t8 c μ G H∧d7 c ZF μ H (F ds G) fun d μ' _ H'=>∀v,g8 c μ' H' d v→Q v H'
noncomputable def noX{α:Type}(m:M α):M α:=fun G=>match m G with
 |some (.ok a,G1)=>some (.ok a,G1)
 |_=>none
theorem bS6{α:Type}{cc:Wc}{μ:List Addr}{H:Hp}{m:M α}{G:DH}{K:α→List Addr→DH→Hp→Prop}(p:d7 cc Z μ H (noX m G) K):d7 cc ZF μ H (m G) K:=by
 unfold noX at p
 match m G,p with
 |some (.ok a,G1),p=>exact p
 |some (.error x,G1),p=>exact p.elim
 |none,p=>exact p.elim
def fnX(n:Nat)(F:List D→M D):List D→M D:=fun ds=>if ds.length=n then noX (F ds)else M.stuck
theorem cJ6{cc:Wc}{μ:List Addr}{H:Hp}{n:Nat}{F:List D→M D}{ds:List D}{G:DH}{K:D→List Addr→DH→Hp→Prop}(p:d7 cc Z μ H (fnX n F ds G) K):ds.length=n∧d7 cc ZF μ H (F ds G) K:=by
 unfold fnX at p
 split at p
 ·rename_i h;exact⟨h,bS6 p⟩
 ·exact p.elim
theorem eE0{F:List D→M D}{k n:Nat}{f:Addr}{fd:FuncData}{ps:List Str}{x:Str}{p:Pos}(hF:J6 X.prog X.w X.K X.mg X.base CX0 k f fd ps (spD (wc X) n F))(hr:X4 k X.A)(hg:Gl X x)(hm:X.mg x=some (.ref f))(hk:PySem.W.keepIn X.K (.ref f)=true)(hb:aS4 X.K fd ps [])
 (ha:DA X Z (e::es) fs)
 (hdb:(x==("__debug__" :Str))=false) (he:starEach (e::es) X.env= (false,eval e X.env)::starEach es X.env) (hpl:(backTo pos (starEach es X.env)).any (·.1)=false):
 DE X Z (.Call (.Name x p) (e::es) [] pos) (q12 (fnX n F) fs):=
 DE.of (dZ2 hF hr hg hm hk hb .nil dQ7 ha.h hdb he hpl) fun σ H Q hE0=>hE0.elim fun dσ μ G s h p=>by
  refine⟨dσ,μ,G,s,h,(d7.bind p).mono fun ds' μ1 G1 H1 x' h1 p1 vs rv=>?_⟩
  obtain⟨hl,p2⟩:=cJ6 p1
  show spD (wc X) n F (vs++[]) H1 Q E0
  rw[List.append_nil]
  exact⟨by rw[←rv.length];exact hl,ds',μ1,G1,rv,h1,p2⟩
end
abbrev Fs:=DSt→M Fl
def J9:Fs:=fun σ=>pure (.nx σ)
def m8(a b:Fs):Fs:=fun σ=>do
 match ←a σ with
 | .nx σ'=>b σ'
 |r=>pure r
def o6(f:Fe):Fs:=fun σ=>do pure (.rt (←f σ))
def aU9(f:Fe):Fs:=fun σ=>do
 let _ ←f σ
 pure (.nx σ)
noncomputable def ifS(t:DSt→M Bool)(a b:Fs):Fs:=fun σ=>do if ←t σ then a σ else b σ
abbrev Fg:=D→DSt→M DSt
abbrev Fgs:=List D→DSt→M DSt
def q13(i:Nat):Fg:=fun d σ=>pure (σ.set i (some d))
def aJ8:Fgs:=fun ds σ=>match ds with
 |[]=>pure σ
 |_=>M.stuck
def J4(g:Fg)(r:Fgs):Fgs:=fun ds σ=>match ds with
 |d::t=>do r t (←g d σ)
 |[]=>M.stuck
def aG0(n:Nat)(g:Fgs):Fg:=fun d σ=>match d with
 | .tup l=>if l.length=n then g l σ else M.stuck
 |_=>M.stuck
def K3(f:Fe)(g:Fg):Fs:=fun σ=>do
 let d ←f σ
 let σ' ←g d σ
 pure (.nx σ')
section
variable(c:Wc)(Z:XC)
def bY9(g:Fg):TG:=fun v σ H Q=>∃d dσ μ G,g8 c μ H d v∧M5 c μ H dσ σ∧t8 c μ G H∧d7 c Z μ H (g d dσ G) fun dσ' μ' _ H'=>∀ σ',M5 c μ' H' dσ' σ'→Q σ' H'
def cF3(g:Fgs):TGs:=fun vs σ H Q=>∃ds dσ μ G,o5 c μ H ds vs∧M5 c μ H dσ σ∧t8 c μ G H∧d7 c Z μ H (g ds dσ G) fun dσ' μ' _ H'=>∀ σ',M5 c μ' H' dσ' σ'→Q σ' H'
end
theorem bY9.elim{c:Wc}{Z:XC}{P:Prop}{g:Fg}{v:V}{σ:St}{H:Hp}{Q:St→Hp→Prop}(h:bY9 c Z g v σ H Q)(k:∀d dσ μ G,g8 c μ H d v→M5 c μ H dσ σ→t8 c μ G H→d7 c Z μ H (g d dσ G) (fun dσ' μ' _ H'=>∀ σ',M5 c μ' H' dσ' σ'→Q σ' H')→P):P:=by
 obtain⟨e0,e1,e2,e3,e4,e5,e6,e7⟩:=h
 exact k e0 e1 e2 e3 e4 e5 e6 e7
theorem cF3.elim{c:Wc}{Z:XC}{P:Prop}{g:Fgs}{vs:List V}{σ:St}{H:Hp}{Q:St→Hp→Prop}(h:cF3 c Z g vs σ H Q)(k:∀ds dσ μ G,o5 c μ H ds vs→M5 c μ H dσ σ→t8 c μ G H→d7 c Z μ H (g ds dσ G) (fun dσ' μ' _ H'=>∀ σ',M5 c μ' H' dσ' σ'→Q σ' H')→P):P:=by
 obtain⟨e0,e1,e2,e3,e4,e5,e6,e7⟩:=h
 exact k e0 e1 e2 e3 e4 e5 e6 e7
structure DG(X:Cx)(Z:XC)(tg:Expr)(g:Fg):Prop where
 h:PG X tg (bY9 (wc X) Z g)
structure DGs(X:Cx)(Z:XC)(tgs:List Expr)(g:Fgs):Prop where
 h:PGs X tgs (cF3 (wc X) Z g)
theorem PG.mono{X:Cx}{e:Expr}{t t':TG}(h:PG X e t)(k:∀v σ H Q,t' v σ H Q→t v σ H Q):PG X e t':=fun pins s σ H v u Q I r q=>h pins s σ H v u Q I r (k v σ H Q q)
theorem PGs.mono{X:Cx}{e:List Expr}{t t':TGs}(h:PGs X e t)(k:∀v σ H Q,t' v σ H Q→t v σ H Q):PGs X e t':=fun pins s σ H v u Q I r q=>h pins s σ H v u Q I r (k v σ H Q q)
theorem DG.of{X:Cx}{Z:XC}{e:Expr}{g:Fg}{t:TG}(h:PG X e t)(k:∀v σ H Q,bY9 (wc X) Z g v σ H Q→t v σ H Q):DG X Z e g:=⟨PG.mono h k⟩
theorem DGs.of{X:Cx}{Z:XC}{e:List Expr}{g:Fgs}{t:TGs}(h:PGs X e t)(k:∀v σ H Q,cF3 (wc X) Z g v σ H Q→t v σ H Q):DGs X Z e g:=⟨PGs.mono h k⟩
section
variable{X:Cx}{Z:XC}{a b c e tg:Expr}{es:List Expr}{fa fb:Fe}{pos:Pos}{st:Stmt}{V8 sa sb:List Stmt}{f g:Fs}
theorem eU8:DB X Z [] J9:=DB.of eB1 fun E σ H hE0=>hE0.elim fun dσ μ G s h p=>d7.ok p h σ s
theorem eE7{cc:Wc}{E:bP3}{μ:List Addr}{G:DH}{H:Hp}{fl:Fl}(h:t8 cc μ G H)
 (p:d7 cc Z μ H ((match fl with| .nx σ'=>g σ'|r=>pure r:M Fl) G) fun fl μ' _ H'=>bQ6 cc E fl μ' H'):bQ6 cc {E with nx:=bP7 cc Z g E} fl μ H:=by
 cases fl with
 |nx dσ=>exact fun σ s=>⟨dσ,μ,G,s,h,p⟩
 |rt d=>exact d7.ok p h
 |bk dσ=>exact d7.ok p h
 |ct dσ=>exact d7.ok p h
theorem cX3(h1:DS X Z st f)(h2:DB X Z V8 g):DB X Z (st::V8) (m8 f g):=
 DB.of (dM2 h1.h h2.h) fun E σ H hE0=>hE0.elim fun dσ μ G s h p=>⟨dσ,μ,G,s,h,(d7.bind p).mono fun fl μ1 G1 H1 x' h1 p1=>eE7 h1 p1⟩
theorem dJ7(h1:DS X Z st f):DB X Z [st] f:=⟨eF1 h1.h⟩
theorem eB8(he:DE X Z e fa)(hs:swapsWith e none pos.line X.env=pure false):DS X Z (.Expr e pos) (aU9 fa):=
 DS.of (eI6 he.h hs) fun E σ H hE0=>hE0.elim fun dσ μ G s h p=>⟨dσ,μ,G,s,h,(d7.bind p).mono fun d μ1 G1 H1 x' h1 p1 v rv=>d7.ok p1 h1 σ (s.mono x')⟩
theorem eU0(he:DE X Z e fa):DS X Z (.Return (some e) pos) (o6 fa):=
 DS.of (eS1 he.h) fun E σ H hE0=>hE0.elim fun dσ μ G s h p=>⟨dσ,μ,G,s,h,(d7.bind p).mono fun d μ1 G1 H1 x' h1 p1 v rv=>d7.ok p1 h1 v rv⟩
theorem fF9{t:DSt→M Bool}(hc:DT X Z c t)(ha:DB X Z sa f)(hb:DB X Z sb g):DS X Z (.If c sa sb pos) (ifS t f g):=
 DS.of (fH5 hc.h ha.h hb.h) fun E σ H hE0=>hE0.elim fun dσ μ G s h p=>⟨dσ,μ,G,s,h,(d7.bind p).mono fun x μ1 G1 H1 x' h1 p1=>by
  cases x with
  |true=>exact⟨dσ,μ1,G1,s.mono x',h1,p1⟩
  |false=>exact⟨dσ,μ1,G1,s.mono x',h1,p1⟩⟩
theorem cZ5{i:Nat}{x:Str}(hN:X.N.Nodup)(hi:X.N[i]? =some x)(hx:Loc X.env.scope x)(hf:X.fn x=true∨X.env.scope.names.lookup x=some .local):DG X Z (.Name x pos) (q13 i):=
 DG.of (eF3 hN hi hx hf) fun v σ H Q hE0=>hE0.elim fun d dσ μ G r s h p=>d7.ok p h _ (s.put r i)
theorem eH4:DGs X Z [] aJ8:=DGs.of eE3 fun vs σ H Q hE0=>hE0.elim fun ds dσ μ G r s h p=>by
 cases ds with
 |nil=>cases r;exact⟨rfl,d7.ok p h _ s⟩
 |cons _ _=>exact p.elim
theorem dV3{gg:Fg}{gr:Fgs}(h1:DG X Z e gg)(h2:DGs X Z es gr)(hs:(assignEach (e::es) X.env).map (·.2)=assign e X.env::(assignEach es X.env).map (·.2)):DGs X Z (e::es) (J4 gg gr):=
 DGs.of (dV0 h1.h h2.h hs) fun vs σ H Q hE0=>hE0.elim fun ds dσ μ G r s h p=>by
  cases ds with
  |nil=>exact p.elim
  |cons d t=>
    obtain⟨v,vr,rfl,rv,rt⟩:=r
    exact⟨v,vr,rfl,d,dσ,μ,G,rv,s,h,(d7.bind p).mono fun dσ1 μ1 G1 H1 x' h1 p1 σ1 s1=>⟨t,dσ1,μ1,G1,rt.mono x',s1,h1,p1⟩⟩
theorem eR5{gs:Fgs}{k n:Nat}(hc:X.calm=true)(h:DGs X Z es gs)(hn:(assignEach es X.env).length=n)(hst:(assignEach es X.env).findIdx? (·.1)=none):DG X Z (.Tuple es k pos) (aG0 n gs):=
 DG.of (eW3 hc h.h hn hst) fun v σ H Q hE0=>hE0.elim fun d dσ μ G r s h p=>by
  cases d with
  |tup l=>
    unfold g8 at r
    obtain⟨a,vs,rfl,q,rl⟩:=r
    have p':d7 (wc X) Z μ H ((if l.length=n then gs l dσ else M.stuck:M DSt) G) fun dσ' μ' _ H'=>∀ σ',M5 (wc X) μ' H' dσ' σ'→Q σ' H':=p
    split at p'
    · rename_i hl
      exact⟨a,vs,rfl,q,by rw[←rl.length];exact hl,l,dσ,μ,G,rl,s,h,p'⟩
    ·exact p'.elim
  |_=>exact p.elim
theorem eT1{gg:Fg}(he:DE X Z e fa)(hg:DG X Z tg gg)(hs:swapsWithSole [tg] e pos.line X.env=pure false)(hw:swappedStores [tg] e X.env=pure none)
 (h1:(assignEach [tg] X.env).map (·.2)= [assign tg X.env]):DS X Z (.Assign [tg] e pos) (K3 fa gg):=
 DS.of (eX6 he.h hg.h hs hw h1) fun E σ H hE0=>hE0.elim fun dσ μ G s h p=>⟨dσ,μ,G,s,h,(d7.bind p).mono fun d μ1 G1 H1 x' h1 p1 v rv=>
  ⟨d,dσ,μ1,G1,rv,s.mono x',h1,(d7.bind p1).mono fun dσ2 μ2 G2 H2 x2 h2 p2 σ2 s2=>d7.ok p2 h2 σ2 s2⟩⟩
end
def V7:Nat→(DSt→M Bool)→Fs→Fs
 |0,_,_=>fun _=>M.stuck
 |n+1,t,b=>fun σ=>do
   if ←t σ then
    match ←b σ with
    | .nx σ'=>V7 n t b σ'
    | .ct σ'=>V7 n t b σ'
    | .bk σ'=>pure (.nx σ')
    | .rt d=>pure (.rt d)
   else pure (.nx σ)
open Classical in
def aT8(t:DSt→M Bool)(b:Fs):Fs:=fun σ G=>if h:∃n,(V7 n t b σ G).isSome=true then V7 (Classical.choose h) t b σ G else none
theorem M.bind_mono{α β:Type}{m:M α}{f g:α→M β}{G:DH}{r:Except Str β×DH}(h:(m >>= f) G=some r)(k:∀a G',f a G'=some r→g a G'=some r):(m >>= g) G=some r:=by
 rw[M.bind_eq]at h ⊢
 match m G,h with
 |some (.ok a,G'),h=>exact k a G' h
 |some (.error x,G'),h=>exact h
theorem aS8{t:DSt→M Bool}{b:Fs}:∀ {n:Nat} {σ:DSt} {G:DH} {r:Except Str Fl×DH},V7 n t b σ G=some r→V7 (n+1) t b σ G=some r
 |0,_,_,_,h=>by exact K4 h
 |n+1,σ,G,r,h=>by
   unfold V7 at h ⊢
   refine M.bind_mono h fun c G1 h1=>?_
   cases c with
   |true=>
     refine M.bind_mono h1 fun fl G2 h2=>?_
     cases fl with
     |nx σ'=>exact aS8 h2
     |ct σ'=>exact aS8 h2
     |bk σ'=>exact h2
     |rt d=>exact h2
   |false=>exact h1
theorem bY7{t:DSt→M Bool}{b:Fs}{n m:Nat}(hm:n≤m){σ:DSt}{G:DH}{r:Except Str Fl×DH}(h:V7 n t b σ G=some r):V7 m t b σ G=some r:=by
 induction hm with
 |refl=>exact h
 |step _ ih=>exact aS8 ih
section
variable{X:Cx}{Z:XC}{c:Expr}{pos:Pos}{body:List Stmt}{t:DSt→M Bool}{f:Fs}
theorem dO4(hp:PassesOwn (model X.prog X.w) X.A X.env X.xe)(hc:DT X Z c t)(hb:DB X Z body f):DS X Z (.While c body [] pos) (aT8 t f):=
 DS.of (dQ4 hp hc.h hb.h) fun E σ H hE0=>hE0.elim fun dσ μ G s h p=>by
  unfold aT8 at p
  split at p
  · rename_i ex
    refine⟨fun m σ H=>∃dσ μ G,M5 (wc X) μ H dσ σ∧t8 (wc X) μ G H∧d7 (wc X) Z μ H (V7 m t f dσ G) fun fl μ' _ H'=>bQ6 (wc X) E fl μ' H',⟨_,dσ,μ,G,s,h,p⟩,?_⟩
    rintro m σ H ⟨dσ,μ,G,s,h,p⟩
    cases m with
    |zero=>exact p.elim
    |succ m=>
      refine⟨dσ,μ,G,s,h,(d7.bind p).mono fun x μ1 G1 H1 x' h1 p1=>?_⟩
      cases x with
      |false=>exact d7.ok p1 h1 σ (s.mono x')
      |true=>
        refine⟨fun σ' H'=>∃dσ μ G,M5 (wc X) μ H' dσ σ'∧t8 (wc X) μ G H'∧d7 (wc X) Z μ H' (V7 m t f dσ G) fun fl μ' _ H'=>bQ6 (wc X) E fl μ' H',fun σ' H' w=>⟨m,Nat.lt_succ_self _,w⟩,dσ,μ1,G1,s.mono x',h1,(d7.bind p1).mono fun fl μ2 G2 H2 x2 h2 p2=>?_⟩
        cases fl with
        |nx dσ'=>exact fun σ' s'=>⟨dσ',μ2,G2,s',h2,p2⟩
        |ct dσ'=>exact fun σ' s'=>⟨dσ',μ2,G2,s',h2,p2⟩
        |bk dσ'=>exact fun σ' s'=>d7.ok p2 h2 σ' s'
        |rt d=>exact fun v r=>d7.ok p2 h2 v r
  ·exact p.elim
end
def aK0(g:Fg)(b:Fs)(ck:DH→Bool):List D→Fs
 |[]=>fun σ G=>if ck G then some (.ok (.nx σ),G)else none
 | d :: r => fun σ G => if ck G then (do
    match ←b (←g d σ) with
    | .nx σ'=>aK0 g b ck r σ'
    | .ct σ'=>aK0 g b ck r σ'
    | .bk σ'=>pure (.nx σ')
    | .rt d=>pure (.rt d):M Fl) G else none
structure Src where
 items:List D
 ck:DH→Bool
def aS6(it:DSt→M Src)(g:Fg)(b:Fs):Fs:=fun σ=>do
 let s ←it σ
 aK0 g b s.ck s.items σ
def ItD(c:Wc)(μ:List Addr)(H:Hp)(J:It)(s:Src):Prop:=∀ μ' G' H',Ext μ H μ' H'→t8 c μ' G' H'→s.ck G'=true→∀i:Nat,
 (∀d,s.items[i]? =some d→J.go i H'∧∀x H2,J.yld i H' x H2→Ext μ' H' μ' H2∧t8 c μ' G' H2∧g8 c μ' H2 d x)∧(s.items.length≤i→J.stop i H')
def cX0(c:Wc)(Z:XC)(it:DSt→M Src):TI:=fun σ H R=>∃dσ μ G,M5 c μ H dσ σ∧t8 c μ G H∧d7 c Z μ H (it dσ G) fun s μ' _ H'=>∀J,ItD c μ' H' J s→R J H'
theorem cX0.elim{c:Wc}{Z:XC}{P:Prop}{it:DSt→M Src}{σ:St}{H:Hp}{R:It→Hp→Prop}(h:cX0 c Z it σ H R)(k:∀dσ μ G,M5 c μ H dσ σ→t8 c μ G H→d7 c Z μ H (it dσ G) (fun s μ' _ H'=>∀J,ItD c μ' H' J s→R J H')→P):P:=by
 obtain⟨e0,e1,e2,e3,e4,e5⟩:=h
 exact k e0 e1 e2 e3 e4 e5
structure DI(X:Cx)(Z:XC)(tg e:Expr)(it:DSt→M Src):Prop where
 h:PI X tg e (cX0 (wc X) Z it)
theorem PI.mono{X:Cx}{tg e:Expr}{t t':TI}(h:PI X tg e t)(k:∀ σ H R,t' σ H R→t σ H R):PI X tg e t':=fun pins s σ H R I q=>h pins s σ H R I (k σ H R q)
theorem DI.of{X:Cx}{Z:XC}{tg e:Expr}{it:DSt→M Src}{t:TI}(h:PI X tg e t)(k:∀ σ H R,cX0 (wc X) Z it σ H R→t σ H R):DI X Z tg e it:=⟨PI.mono h k⟩
section
variable{X:Cx}{Z:XC}{iter tg:Expr}{pos:Pos}{body:List Stmt}{f:Fs}{gg:Fg}{it:DSt→M Src}
def fL0(c:Wc)(E:bP3)(fl:Fl)(μ:List Addr)(_:DH)(H:Hp):Prop:=bQ6 c E fl μ H
inductive fB7(c:Wc)(Z:XC)(gg:Fg)(f:Fs)(sr:Src)(E:bP3)(μ1:List Addr)(H1:Hp)(i:Nat)(σ:St)(H:Hp):Prop
 |mk (dσ:DSt) (μ:List Addr) (G:DH) (k:Ext μ1 H1 μ H) (s:M5 c μ H dσ σ) (h:t8 c μ G H) (p:d7 c Z μ H (aK0 gg f sr.ck (sr.items.drop i) dσ G) (fL0 c E))
theorem eN8(hp:PassesOwn (model X.prog X.w) X.A X.env X.xe)(hc:X.calm=true)(hi:DI X Z tg iter it)(hg:DG X Z tg gg)(hb:DB X Z body f)(hs:∀x,foldedSetIterable iter X.env x=pure x):
 DS X Z (.For tg iter body [] pos) (aS6 it gg f):=
 DS.of (eN1 hp hc hi.h hg.h hb.h hs) fun E σ H hE0=>hE0.elim fun dσ μ G s h p=>⟨dσ,μ,G,s,h,(d7.bind p).mono fun sr μ1 G1 H1 x' h1 p1 J hJ=>by
  refine⟨fun i m σ' H'=>m=sr.items.length-i∧i≤sr.items.length∧fB7 (wc X) Z gg f sr E μ1 H1 i σ' H',
   ⟨sr.items.length,rfl,Nat.zero_le _,dσ,μ1,G1,Ext.refl _ _,s.mono x',h1,p1⟩,?_⟩
  rintro i m σ' H' ⟨rfl,hi',dσ',μ',G',k',s',h',p'⟩
  by_cases hlt:i<sr.items.length
  · rw[List.drop_eq_getElem_cons hlt]at p'
    unfold aK0 at p'
    split at p'
    · rename_i ck
      obtain⟨q1,_⟩:=hJ μ' G' H' k' h' ck i
      obtain⟨go,yl⟩:=q1 _ (List.getElem?_eq_getElem hlt)
      refine .inr ⟨go,fun σ2 H2=>fB7 (wc X) Z gg f sr E μ1 H1 (i+1) σ2 H2,fun σ2 H2 w=>⟨sr.items.length-(i+1),Nat.sub_succ_lt_self _ _ hlt,rfl,hlt,w⟩,fun x H2 y=>?_⟩
      obtain⟨k2,h2,rx⟩:=yl x H2 y
      have p2:=d7.bind (p'.from k2)
      refine⟨_,dσ',μ',G',rx,s'.mono k2,h2,p2.mono fun dσ3 μ3 G3 H3 x3 h3 p3 σ3 s3=>?_⟩
      refine⟨dσ3,μ3,G3,s3,h3,(d7.bind p3).mono fun fl μ4 G4 H4 x4 h4 p4=>?_⟩
      cases fl with
      |nx dσ4=>exact fun σ4 s4=>⟨dσ4,μ4,G4,k'.trans (k2.trans (x3.trans x4)),s4,h4,p4⟩
      |ct dσ4=>exact fun σ4 s4=>⟨dσ4,μ4,G4,k'.trans (k2.trans (x3.trans x4)),s4,h4,p4⟩
      |bk dσ4=>exact fun σ4 s4=>d7.ok p4 h4 σ4 s4
      |rt d=>exact fun v r=>d7.ok p4 h4 v r
    ·exact p'.elim
  · have e:i=sr.items.length:=Nat.le_antisymm hi' (Nat.le_of_not_lt hlt)
    subst e
    rw[List.drop_length]at p'
    unfold aK0 at p'
    split at p'
    · rename_i ck
      obtain⟨_,q2⟩:=hJ μ' G' H' k' h' ck sr.items.length
      exact .inl ⟨q2 (Nat.le_refl _),d7.ok p' h' σ' s'⟩
    ·exact p'.elim⟩
end
noncomputable def aO0(env:Env):List (Str×NameKind)→List (Str×Addr)→List (Str×Addr)
 |[],cs=>cs
 |(n,k)::r,cs=>aO0 env r (if k == .free then (match env.cells.lookup n with|some c=>(n,c)::cs|none=>cs)else cs)
theorem cI7{env:Env}:∀(l:List (Str×NameKind)) (cs:List (Str×Addr)),(∀p∈l,p.2= .free→∃c,env.cells.lookup p.1=some c)→
 (forIn l cs (fun(x:Str×NameKind) (cs:List (Str×Addr))=>(match x with|(name,kind)=>if (kind==NameKind.free)=true then do let c ←cellOf env name;pure (ForInStep.yield ((name,c)::cs))else pure (ForInStep.yield cs):Sem (ForInStep (List (Str×Addr))))):Sem (List (Str×Addr)))=pure (aO0 env l cs)
 |[],cs,_=>rfl
 |(n,k)::r,cs,h=>by
  have ih:=fun cs'=>cI7 r cs' fun p hp=>h p (List.mem_cons_of_mem _ hp)
  rw[List.forIn_cons]
  unfold aO0
  rcases hk:(k==NameKind.free)with _|_
  ·
    have e:(match ((n,k):Str×NameKind) with|(name,kind)=>if (kind==NameKind.free)=true then do let c ←cellOf env name;pure (ForInStep.yield ((name,c)::cs))else pure (ForInStep.yield cs):Sem (ForInStep (List (Str×Addr))))=pure (ForInStep.yield cs):=by
     show (if (k==NameKind.free)=true then _ else _)=_
     rw[hk];rfl
    rw[e]
    exact ih cs
  ·
    obtain⟨c,hc⟩:=h (n,k) List.mem_cons_self (by simpa using hk)
    have hcell:cellOf env n=pure c:=by unfold cellOf;rw[hc]
    have e:(match ((n,k):Str×NameKind) with|(name,kind)=>if (kind==NameKind.free)=true then do let c ←cellOf env name;pure (ForInStep.yield ((name,c)::cs))else pure (ForInStep.yield cs):Sem (ForInStep (List (Str×Addr))))=pure (ForInStep.yield ((n,c)::cs)):=by
     show (if (k==NameKind.free)=true then (do let c ←cellOf env n;pure (ForInStep.yield ((n,c)::cs)))else _)=_
     rw[hk,hcell];rfl
    rw[e,hc]
    exact ih ((n,c)::cs)
theorem bG9{env:Env}{scope:Scope}(h:∀p∈scope.names,p.2= .free→∃c,env.cells.lookup p.1=some c):closureFor scope env=pure (aO0 env scope.names []):=by
 have q:=cI7 scope.names [] h
 unfold closureFor
 dsimp only
 rw[q]
 rfl
theorem bY4{env:Env}{x:Str}{c:Addr}:∀(l:List (Str×NameKind)) (cs:List (Str×Addr)),(cs.lookup x=some c→env.cells.lookup x=some c)→(aO0 env l cs).lookup x=some c→env.cells.lookup x=some c
 |[],cs,h,e=>h e
 |(n,k)::r,cs,h,e=>by
  unfold aO0 at e
  refine bY4 r _ (fun e1=>?_) e
  split at e1
  · split at e1
    · rename_i c' hc
      rw[List.lookup_cons]at e1
      split at e1
      · rename_i hx
        have hx':x=n:=by simpa using hx
        subst hx'
        cases e1
        exact hc
      ·exact h e1
    ·exact h e1
  ·exact h e1
theorem Z4{env:Env}{x:Str}{c:Addr}{l:List (Str×NameKind)}(h:(aO0 env l []).lookup x=some c):env.cells.lookup x=some c:=bY4 l [] (fun z=>by exact K4 z) h
theorem bQ8{env:Env}{x:Str}:∀(l:List (Str×NameKind)) (cs:List (Str×Addr)),(∃c,cs.lookup x=some c)→∃c,(aO0 env l cs).lookup x=some c
 |[],cs,h=>h
 |(n,k)::r,cs,h=>by
  unfold aO0
  refine bQ8 r _ ?_
  split
  · split
    · rename_i c' hc
      rw[List.lookup_cons]
      split
      ·exact⟨_,rfl⟩
      ·exact h
    ·exact h
  ·exact h
theorem bI4{env:Env}{x:Str}{c:Addr}(hc:env.cells.lookup x=some c):∀(l:List (Str×NameKind)) (cs:List (Str×Addr)),(x,NameKind.free)∈l→∃c,(aO0 env l cs).lookup x=some c
 |[],cs,h=>by simp at h
 |(n,k)::r,cs,h=>by
  unfold aO0
  rcases List.mem_cons.mp h with e|h
  · cases e
    refine bQ8 r _ ?_
    rw[hc]
    simp
  ·exact bI4 hc r _ h
section
variable{prog:Program}{w:World}{A:Around}{E:VSP}{R:Result→Shared→Prop}{s:Shared}
theorem cC2{elt target iter:Expr}{ifs:List Expr}{scope:Scope}{pos:Pos}{it acc:Value}{env:Env}(I:Nat→Shared→Prop)
 (turn:∀n s,I n s→wpAny (model prog w) A (pyNext it) (fun r s₁=>match r with
   |none=>R (.ok .next) s₁
   | some v => wpAny (model prog w) A (letOwnedTupleGo target it v) (fun _ s₁' => wpAny (model prog w) A (assign target env v) (fun _ s₂ =>
      wpAny (model prog w) A (forIn ifs true fun c r=>if r=true then do let ok ←isTrue c env (eval c env);pure (ForInStep.yield ok)else pure (ForInStep.yield r)) (fun ok s₃=>
       if ok=true then wpAny (model prog w) A (eval elt env) (fun x s₄=>
        wpAny (model prog w) A (call (.builtin "list.append") [acc,x]) (fun _ s₅=>∃m,m<n∧I m s₅) (fun _ _=>False) s₄) (fun _ _=>False) s₃
       else ∃m,m<n∧I m s₃) (fun _ _=>False) s₂) (fun _ _=>False) s₁') (fun _ _=>False) s₁) (fun _ _=>False) s)
 (n:Nat) (h:I n s):
 codeAny (model prog w) A (.compLoop (.ListComp elt [⟨target,iter,ifs,0⟩] scope pos) 0 it acc env) R s:=by
 refine codeAny_loop rfl I (fun n s hI=>?_) n h
 show wpAny _ A ((compTurn (.ListComp elt [⟨target,iter,ifs,0⟩] scope pos) 0 it acc env).onRaise (fun x=>do noteFrame x env;theTreesLotGoes x)) _ _ s
 refine wpAny_noted ?_
 rw[compTurn_list]
 refine wpAny_bind (wpAny_standAt (wpAny_bind (wpAny_mono (turn n s hI) (fun r s₁ h₁=>?_) fun _ _ h'=>h'.elim)))
 rcases r with _|v
 ·exact wpAny_pure h₁
 ·
   refine wpAny_bind (wpAny_mono h₁ (fun _ s₁' h₁'=>?_) fun _ _ h'=>h'.elim)
   refine wpAny_bind (wpAny_mono h₁' (fun _ s₂ h₂=>wpAny_bind (wpAny_mono h₂ (fun ok s₃ h₃=>?_) fun _ _ h'=>h'.elim)) fun _ _ h'=>h'.elim)
   rcases ok with _|_
   ·
     exact wpAny_pure ⟨rfl,h₃⟩
   ·
     exact wpAny_bind (wpAny_bind (wpAny_mono h₃ (fun x s₄ h₄=>wpAny_bind (wpAny_mono h₄ (fun _ s₅ h₅=>wpAny_pure (wpAny_pure ⟨rfl,h₅⟩)) fun _ _ h'=>h'.elim)) fun _ _ h'=>h'.elim))
end
def S9(X:Cx)(scope:Scope)(N:List Str)(C:Addr)(s:Shared)(H:Hp)(ex:List Addr):Cx where
 prog:=X.prog
 w:=X.w
 K:=X.K
 mg:=X.mg
 base:=X.base
 A:=X.A
 N:=N
 s₀:=s
 H₀:=H
 env:=compEnvC scope (aO0 X.env scope.names []) C X.env
 outer:=X.stack
 stack:=X.stack
 ex:=ex
 fn:=fun _=>false
 calm:=X.calm
 pn:= []
 xe:=fun _ _=>False
structure aE1(X:Cx)(scope:Scope)(N:List Str)(caps:List (Option Nat)):Prop where
 kind:scope.kind= .function
 cell:∀y∈scope.names,y.2≠ .cell
 names:∀y∈scope.names,y.2= .local→scope.names.lookup y.1=some .local
 free:∀y∈scope.names,y.2= .free→X.env.kindOf y.1=some .cell∨X.env.kindOf y.1=some .free
 frees:∀y∈scope.names,y.2= .free→scope.names.lookup y.1=some .free
 len:caps.length=N.length
 caps:∀(i j:Nat),caps[i]? =some (some j)→∃x,N[i]? =some x∧X.N[j]? =some x∧(x,NameKind.free)∈scope.names
def aB3{α:Type}(caps:List (Option Nat))(σ:List (Option α)):List (Option α):=caps.map fun o=>o.bind fun j=>(σ[j]?).join
theorem bB2{env:Env}{x:Str}:∀names:List (Str×NameKind),(names.map fun(n,k)=>if (k==NameKind.free&&env.scope.kind == .function&&env.kindOf n==some .cell)then (n,NameKind.cell)else (n,k)).lookup x=
 (names.lookup x).map fun k=>if (k==NameKind.free&&env.scope.kind == .function&&env.kindOf x==some .cell)then NameKind.cell else k
 |[]=>rfl
 |(n,k)::r=>by
  have ih:=bB2 (env:=env) (x:=x) r
  rw[List.map_cons]
  by_cases hx:x=n
  · subst hx
    dsimp only
    split
    ·rename_i h;simp[List.lookup_cons];simp at h;simp[h]
    ·rename_i h;simp[List.lookup_cons];simp at h;intro a b c;exact absurd c (h a b)
  · have hb:(x==n)=false:=by simpa using hx
    dsimp only
    split
    ·rw[List.lookup_cons,List.lookup_cons,hb];exact ih
    ·rw[List.lookup_cons,List.lookup_cons,hb];exact ih
section
variable{X:Cx}{scope:Scope}{N:List Str}{caps:List (Option Nat)}{C:Addr}{pins:PNS}{σ:St}{H:Hp}{s:Shared}{ex:List Addr}
theorem aE1.isFree(k:aE1 X scope N caps){x:Str}(h:(relabel scope X.env).names.lookup x=some .cell∨(relabel scope X.env).names.lookup x=some .free):(x,NameKind.free)∈scope.names:=by
 have e:(relabel scope X.env).names.lookup x= (scope.names.lookup x).map fun k=>if (k==NameKind.free&&X.env.scope.kind == .function&&X.env.kindOf x==some .cell)then NameKind.cell else k:=bB2 scope.names
 rw[e]at h
 rcases hl:scope.names.lookup x with _|kd
 ·rw[hl]at h;rcases h with h|h<;>exact K4 h
 ·
   rw[hl]at h
   have hm:=PySem.mem_of_lookup hl
   have hn:=k.cell _ hm
   simp only[Option.map_some]at h
   cases kd with
   |free=>exact hm
   |cell=>exact absurd rfl hn
   |_=>rcases h with h|h<;>simp at h
theorem aE1.cells(k:aE1 X scope N caps)(ok:X.Ok):∀p∈scope.names,p.2= .free→∃c,X.env.cells.lookup p.1=some c:=fun p hp e=>ok.has p.1 (k.free p hp e)
theorem dD7(I:Inv X pins σ H s)(k:aE1 X scope N caps)(hC:s.heap.objs.size≤C)(hex:∀b∈ex,aH2 X pins H b)(hlt:∀b∈ex,b<s.heap.objs.size):(S9 X scope N C s H ex).Ok where
 mod:=I.ok.mod
 kind:=k.kind
 glob:=I.ok.glob
 blt:=I.ok.blt
 above:=hC
 inj:=fun x y c h1 h2=>I.ok.inj x y c (Z4 h1) (Z4 h2)
 has:=fun x hx=>by
  have hm:=k.isFree hx
  obtain⟨c,hc⟩:=k.cells I.ok _ hm rfl
  exact bI4 hc _ _ hm
 cab:=fun x c h=>by exact aB4 h
 hd:=I.ok.hd
 frames:=I.ok.frames
 stk:=.inl rfl
 exf:=fun b hb=>⟨Nat.ne_of_lt (Nat.lt_of_lt_of_le (hlt b hb) hC),fun x c e=>(hex b hb).2.2.2.2.1 x c (Z4 e)⟩
 bs:=I.bs
 bsz:=Nat.le_trans I.ok.bsz I.sz
 noex:=fun b o e hb=>by
  rcases (hex b hb).2.2.2.1 with z|z
  ·exact I.ok.noex b o e z
  ·exact absurd (Nat.lt_of_lt_of_le (Heap.lt_size (I.ok.bs b o e).1) z) (Nat.lt_irrefl _)
 exfs:=fun b hb z=>by
  rcases List.mem_cons.mp (I.stkSub b z)with e|e
  ·exact(hex b hb).2.1 e
  ·exact(hex b hb).2.2.1 e
 funs:=I.stack
 frf:=I.stkFree
theorem bX0{α:Type}{caps:List (Option Nat)}{σ:List (Option α)}{i:Nat}{v:α}(h:(aB3 caps σ)[i]? =some (some v)):∃j,caps[i]? =some (some j)∧σ[j]? =some (some v):=by
 unfold aB3 at h
 rw[List.getElem?_map]at h
 rcases e:caps[i]? with _|o
 ·rw[e]at h;exact K4 h
 ·
   rw[e]at h
   rcases o with _|j
   ·cases h
   ·
     refine⟨j,rfl,?_⟩
     simp only[Option.map_some,Option.bind_some,Option.some.injEq]at h
     rcases e2:σ[j]? with _|w
     ·rw[e2]at h;exact K4 h
     ·rw[e2]at h;simp at h;rw[h]
theorem cR2{h₁:Heap}{tk:Nat}(I:Inv X pins σ H s)(k:aE1 X scope N caps)(hC:s.heap.objs.size<C)(hex:∀b∈ex,aH2 X pins H b)(hlt:∀b∈ex,b<s.heap.objs.size)
 (old:∀b o,s.heap.get? b=some o→h₁.get? b=some o) (hns:h₁.Ns C fun _=>none) (hacc:h₁.get? s.heap.objs.size=some {cls:=.type "list",data:=.seq ([]:List Value).toArray 0}):
 Inv (S9 X scope N C s H ex) [] (aB3 caps σ) (upd H s.heap.objs.size (.lst [])) {s with heap:=h₁,toks:=tk}:=by
 have hD:H s.heap.objs.size=none:=I.hok.fresh (Nat.le_refl _)
 refine⟨dD7 I k (Nat.le_of_lt hC) hex hlt,rfl,I.bare,Un.laid old (Nat.le_refl _) hD,⟨_,hns,fun i x v h1 h2 h3=>?_⟩,fun x c e=>?_,?_,fun x c e=>?_,fun p hp=>absurd (show p∈([]:PNS)from hp) (by simp),?_,?_⟩
 · obtain⟨j,e1,e2⟩:=bX0 h2
   obtain⟨y,e3,e4,e5⟩:=k.caps i j e1
   have exy:y=x:=by
    have:some y=some x:=e3.symm.trans h1
    exact Option.some.inj this
   subst exy
   have hk:=k.free _ e5 rfl
   obtain⟨m,hn,hl⟩:=I.loc
   obtain⟨u,r,l⟩:=hl j y v e4 e2 (by rcases hk with z|z;exact .inr (.inl z);exact .inr (.inr z))
   refine⟨u,r,.inr ?_⟩
   rcases l with⟨z,_⟩|⟨_,c,ec,hc⟩
   ·rcases hk with z'|z'<;>(rw[z]at z';cases z')
   · refine⟨?_,c,?_,?_⟩
     · rcases h3 with h3|h3|h3
       · exfalso
         have e:(relabel scope X.env).names.lookup y= (scope.names.lookup y).map fun k=>if (k==NameKind.free&&X.env.scope.kind == .function&&X.env.kindOf y==some .cell)then NameKind.cell else k:=bB2 scope.names
         have h3':(relabel scope X.env).names.lookup y=some .local:=h3
         rw[e]at h3'
         rw[k.frees _ e5 rfl]at h3'
         simp only[Option.map_some]at h3'
         split at h3'<;>cases h3'
       ·exact .inl h3
       ·exact .inr h3
     · obtain⟨c',ec'⟩:=bI4 ec scope.names [] e5
       have:=Z4 ec'
       rw[ec]at this
       cases this
       exact ec'
     · obtain⟨o,ho,hd⟩:=hc
       exact⟨o,old _ _ ho,hd⟩
 · obtain⟨v,o,ho,hd⟩:=I.cell x c (Z4 e)
   exact⟨v,o,old _ _ ho,hd⟩
 · show upd H s.heap.objs.size (.lst []) C=none
   rw[o8 (Nat.ne_of_gt hC)]
   exact I.hok.fresh (Nat.le_of_lt hC)
 · obtain⟨v,o,ho,hd⟩:=I.cell x c (Z4 e)
   rw[o8 (Nat.ne_of_lt (Heap.lt_size ho))]
   exact I.freeC x c (Z4 e)
 ·exact I.hok.laid old (Nat.le_refl _) ⟨Nat.zero_le _, [],0,.nil,hacc⟩
 · show (aB3 caps σ).length=N.length
   unfold aB3
   rw[List.length_map];exact k.len
theorem dS4{pins':PNS}{σ':St}{H':Hp}{s':Shared}{h':Heap}(I:Inv X pins σ H s)(hex:∀b∈ex,aH2 X pins H b)(hC:s.heap.objs.size<C)
 (I':Inv (S9 X scope N C s H ex) pins' σ' H' s') (sb:Heap.SameBut C s'.heap h'):Inv X pins σ H' {s' with heap:=h'}:=by
 have hos:s'.os=s.os:=I'.os
 have hfree:H' C=none:=I'.free
 have neC:∀b o,s.heap.get? b=some o→b≠C:=fun b o e z=>by
  have:=Heap.lt_size e
  rw[z]at this
  exact absurd (Nat.lt_trans hC this) (Nat.lt_irrefl _)
 have hun:Un (frs X.stack) ex H H' s.heap s'.heap:=I'.base
 have hun2:Un (frs X.stack) ex H H' s.heap h':=by
  refine⟨fun b o e n hb hx=>(sb.2 b (neC b o e)).trans (hun.keep b o e n hb hx),fun b o e n hb hx=>?_,hun.free,fun b o e hx=>?_,hun.tups,hun.frzs,hun.tbls⟩
  · obtain⟨sl,q⟩:=hun.slot b o e n hb hx
    exact⟨sl,(sb.2 b (neC b o e)).trans q⟩
  · obtain⟨o',q⟩:=hun.there b o e hx
    exact⟨o',(sb.2 b (neC b o e)).trans q⟩
 have hok2:HOk X.prog X.w H' h':=fun a o e=>by
  have nc:∀c u,H' c=some u→c≠C:=fun c u q z=>by rw[z,hfree]at q;exact K4 q
  refine(I'.hok a o e).stay (fun b u hb q=>?_) (fun _ q=>q) fun _ _ q=>q
  rcases hb with rfl|hb
  ·exact(sb.2 b (nc b o e)).trans q
  ·exact(sb.2 b (nc b _ hb)).trans q
 obtain⟨hh,g,d,t,os'⟩:=s'
 obtain rfl:os'=s.os:=hos
 have fin:=I.call (h':=h') (g':=g) (d':=d) (t':=t) (ch:=ex) hun2 hok2 I'.bare fun b hb=>⟨(hex b hb).2.2.2.1,(hex b hb).2.1,(hex b hb).2.2.2.2.1,(hex b hb).2.2.2.2.2⟩
 exact fin
end
noncomputable def hide(q:Addr)(H:Hp):Hp:=fun b=>if b=q then none else H b
theorem aH3{q:Addr}{H:Hp}:hide q H q=none:=by unfold hide;rw[if_pos rfl]
theorem W0{q b:Addr}{H:Hp}(h:b≠q):hide q H b=H b:=by unfold hide;rw[if_neg h]
theorem T3{q b:Addr}{H:Hp}{o:HO}(h:hide q H b=some o):b≠q∧H b=some o:=by
 by_cases e:b=q
 ·rw[e,aH3]at h;exact K4 h
 ·rw[W0 e]at h;exact⟨e,h⟩
theorem dK3{q:Addr}{H:Hp}{o:HO}(h:H q=some o):upd (hide q H) q o=H:=by
 funext b
 by_cases e:b=q
 ·rw[e,P0,h]
 ·rw[o8 e,W0 e]
theorem aU5{q:Addr}{H:Hp}{o:HO}:hide q (upd H q o)=hide q H:=by
 funext b
 by_cases e:b=q
 ·rw[e,aH3,aH3]
 ·rw[W0 e,W0 e,o8 e]
theorem aW1{q:Addr}{H:Hp}(h:H q=none):hide q H=H:=by
 funext b
 by_cases e:b=q
 ·rw[e,aH3,h]
 ·rw[W0 e]
section
variable{c:Wc}{μ μ':List Addr}{H H':Hp}{G:DH}{q:Addr}{vs:List V}
mutual
theorem g8.sq(k:∀a xs,SqT c.K H a xs→SqT c.K H' a xs):∀ {d:D} {v:V},g8 c μ H d v→g8 c μ H' d v
 | .non,_,h=>h
 | .bl _,_,h=>h
 | .int _,_,h=>h
 | .str _,_,h=>h
 | .ty _,_,h=>h
 | .fn _,_,h=>h
 | .ref i,v,h=>by unfold g8 at h ⊢;exact h
 | .tup l,v,h=>by
   unfold g8 at h ⊢
   obtain⟨a,vs,e,q,r⟩:=h
   exact⟨a,vs,e,k _ _ q,o5.sq k r⟩
theorem o5.sq(k:∀a xs,SqT c.K H a xs→SqT c.K H' a xs):∀ {l:List D} {vs:List V},o5 c μ H l vs→o5 c μ H' l vs
 |[],_,h=>h
 |d::ds,vs,h=>by
   unfold o5 at h ⊢
   obtain⟨v,r,e,q,t⟩:=h
   exact⟨v,r,e,g8.sq k q,o5.sq k t⟩
end
theorem aA9.sq(k:∀a xs,SqT c.K H a xs→SqT c.K H' a xs):∀ {l:List (Key×D)} {vs:List (Key×V)},aA9 c μ H l vs→aA9 c μ H' l vs
 |[],_,h=>h
 |(_,d)::ds,vs,h=>by
  obtain⟨v,r,e,q,t⟩:=h
  exact⟨v,r,e,g8.sq k q,aA9.sq k t⟩
theorem aI7(hq:H q=some (.lst vs)){K:PySem.W.Frag}(a:Addr)(xs:List V)(h:SqT K H a xs):SqT K (hide q H) a xs:=by
 rcases h with(h|⟨o,h⟩)|h
 ·exact .inl (.inl (by rw[W0 (fun e=>by rw[e,hq]at h;cases h)];exact h))
 ·exact .inl (.inr ⟨o,by rw[W0 (fun e=>by rw[e,hq]at h;cases h)];exact h⟩)
 ·exact .inr h
theorem aJ0{K:PySem.W.Frag}(a:Addr)(xs:List V)(h:SqT K (hide q H) a xs):SqT K H a xs:=by
 rcases h with(h|⟨o,h⟩)|h
 ·exact .inl (.inl (T3 h).2)
 ·exact .inl (.inr ⟨o,(T3 h).2⟩)
 ·exact .inr h
theorem M5.sq(k:∀a xs,SqT c.K H a xs→SqT c.K H' a xs){dσ:DSt}{σ:St}(h:M5 c μ H dσ σ):M5 c μ H' dσ σ:=⟨h.1,fun i d e=>let ⟨v,a,b⟩:=h.2 i d e;⟨v,a,b.sq k⟩⟩
theorem Ext.hide(x:Ext μ H μ' H')(n:q∉μ)(hq:H q=some (.lst vs)):H' q=some (.lst vs)∧q∉μ'∧Ext μ (DL.hide q H) μ' (DL.hide q H'):=by
 refine⟨x.oth q _ hq n,fun h=>?_,x.pre,fun a h1 h2=>?_,fun b o e nb=>?_,fun b xs e=>?_,fun b o u e=>?_⟩
 ·have:=x.new q h n;rw[hq]at this;exact eH2 this
 · by_cases e:a=q
   ·rw[e,aH3]
   ·rw[W0 e];exact x.new a h1 h2
 ·obtain⟨e1,e2⟩:=T3 e;rw[W0 e1];exact x.oth b o e2 nb
 ·obtain⟨e1,e2⟩:=T3 e;rw[W0 e1];exact x.tup b xs e2
 ·obtain⟨e1,e2⟩:=T3 e;rw[W0 e1];exact x.frz b o u e2
theorem Ext.unhide(x:Ext μ H μ' (DL.hide q H')):Ext μ H μ' H':=
 ⟨x.pre,x.new,fun b o e n=>(T3 (x.oth b o e n)).2,fun b xs e=>(T3 (x.tup b xs e)).2,fun b o u e=>(T3 (x.frz b o u e)).2⟩
theorem t8.hide(h:t8 c μ G H)(n:q∉μ)(hq:H q=some (.lst vs)):t8 c μ G (DL.hide q H):=
 ⟨h.len,h.inj,fun i o a g m=>by
  have na:a≠q:=fun e=>n (by rw[←e];exact List.mem_of_getElem? m)
  have r:=h.obj i o a g m
  cases o with
  |lst l=>obtain⟨ws,e,r⟩:=r;exact⟨ws,by rw[W0 na];exact e,r.sq (aI7 hq)⟩
  |dct l=>obtain⟨ws,e,r⟩:=r;exact⟨ws,by rw[W0 na];exact e,r.sq (aI7 hq)⟩
  |rod l=>obtain⟨ws,o,e,r⟩:=r;exact⟨ws,o,by rw[W0 na];exact e,r.sq (aI7 hq)⟩
  |rol l=>
    obtain⟨ws,e,r⟩:=r
    refine⟨ws,?_,r.sq (aI7 hq)⟩
    rcases e with⟨o,e⟩|e
    ·exact .inl ⟨o,by rw[W0 na];exact e⟩
    ·exact .inr e⟩
theorem t8.unhide(h:t8 c μ G (DL.hide q H)):t8 c μ G H:=
 ⟨h.len,h.inj,fun i o a g m=>by
  have r:=h.obj i o a g m
  cases o with
  |lst l=>obtain⟨ws,e,r⟩:=r;exact⟨ws,(T3 e).2,r.sq aJ0⟩
  |dct l=>obtain⟨ws,e,r⟩:=r;exact⟨ws,(T3 e).2,r.sq aJ0⟩
  |rod l=>obtain⟨ws,o,e,r⟩:=r;exact⟨ws,o,(T3 e).2,r.sq aJ0⟩
  |rol l=>
    obtain⟨ws,e,r⟩:=r
    refine⟨ws,?_,r.sq aJ0⟩
    rcases e with⟨o,e⟩|e
    ·exact .inl ⟨o,(T3 e).2⟩
    ·exact .inr e⟩
inductive UH{α:Type}(c:Wc)(q:Addr)(vs:List V)(μ:List Addr)(H:Hp)(K:α→List Addr→DH→Hp→Prop)(a:α)(μ':List Addr)(G':DH)(H':Hp):Prop
 |mk (e:H' q=some (.lst vs)) (n:q∉μ') (h:t8 c μ' G' (DL.hide q H')) (x:Ext μ (DL.hide q H) μ' (DL.hide q H')) (k:K a μ' G' (DL.hide q H'))
theorem d7.unhide{α:Type}{Z:XC}{r:Option (Except Str α×DH)}{K:α→List Addr→DH→Hp→Prop}(n:q∉μ)(hq:H q=some (.lst vs))(p:d7 c ZF μ (DL.hide q H) r K):
 d7 c Z μ H r (UH c q vs μ H K):=by
 match r,p with
 |some (.ok a,G'),p=>
   intro μ' H' x h
   obtain⟨e1,e2,e3⟩:=x.hide n hq
   have h2:=h.hide e2 e1
   exact⟨e1,e2,h2,e3,p μ' _ e3 h2⟩
 |some (.error z,G'),p=>
   intro μ' H' x h
   obtain⟨e1,e2,e3⟩:=x.hide n hq
   exact(p μ' _ e3 (h.hide e2 e1)).elim
theorem t8.mem_lt{X:Cx}{pins:PNS}{σ:St}{s:Shared}(I:Inv X pins σ H s)(h:t8 (wc X) μ G H){a:Addr}(ha:a∈μ):a<s.heap.objs.size:=by
 obtain⟨i,hi⟩:=List.getElem?_of_mem ha
 have hl:i<G.length:=by rw[←h.len];exact lt_of_get hi
 have r:=h.obj i G[i] a (List.getElem?_eq_getElem hl) hi
 rcases e:G[i]with l|l|l|l
 ·rw[e]at r;obtain⟨_,e,_⟩:=r;exact I.hok.lt e
 ·
   rw[e]at r
   obtain⟨ws,e,_⟩:=r
   rcases e with⟨o,e⟩|e
   ·exact I.hok.lt e
   · rcases e with(e|⟨o,e⟩)|⟨o,its,n,e,_⟩
     ·exact K4 e
     ·exact K4 e
     ·exact Heap.lt_size (I.kIn a o e)
 ·rw[e]at r;obtain⟨_,e,_⟩:=r;exact I.hok.lt e
 ·rw[e]at r;obtain⟨_,_,e,_⟩:=r;exact I.hok.lt e
end
def PTs(X:Cx)(ifs:List Expr)(t:TT):Prop:=
 ∀(pins:PNS) (s:Shared) (σ:St) (H:Hp) (Q:Bool→Hp→Prop),Inv X pins σ H s→t σ H Q→
  wpAny (model X.prog X.w) X.A (forIn ifs true fun c r=>if r=true then do let ok ←isTrue c X.env (eval c X.env);pure (ForInStep.yield ok)else pure (ForInStep.yield r)) (TP X pins σ Q) X.xe s
structure DTs(X:Cx)(Z:XC)(ifs:List Expr)(f:DSt→M Bool):Prop where
 h:PTs X ifs (bS5 (wc X) Z f)
def M4:DSt→M Bool:=fun _=>pure true
theorem eG3{X:Cx}{Z:XC}:DTs X Z [] M4:=⟨fun pins s σ H Q I hE0=>hE0.elim fun dσ μ G sr h p=>wpAny_tests_nil ⟨H,I,d7.ok p h⟩⟩
theorem dY8{X:Cx}{Z:XC}{c:Expr}{t:DSt→M Bool}(h:DT X Z c t):DTs X Z [c] t:=⟨fun pins s σ H Q I q=>wpAny_tests_one (h.h pins s σ H Q I q)⟩
def M9(g:Fg)(t:DSt→M Bool)(e:Fe)(ck:DH→Bool):List D→DSt→M (List D)
 |[]=>fun _ G=>if ck G then some (.ok [],G)else none
 | d :: r => fun σ G => if ck G then (do
    let σ1 ←g d σ
    if ←t σ1 then do
     let y ←e σ1
     let ys ←M9 g t e ck r σ1
     pure (y::ys)
    else M9 g t e ck r σ1:M (List D)) G else none
def K8(it:DSt→M Src)(caps:List (Option Nat))(g:Fg)(t:DSt→M Bool)(e:Fe):Fe:=fun σ=>do
 let s ←it σ
 if s.items.length≤sizeLine then do
  let ys ←noX (M9 g t e s.ck s.items (aB3 caps σ))
  R1 (.lst ys)
 else M.stuck
theorem dF5{c:Wc}{μ:List Addr}{H:Hp}{caps:List (Option Nat)}{dσ:DSt}{σ:St}(h:M5 c μ H dσ σ):M5 c μ H (aB3 caps dσ) (aB3 caps σ):=by
 refine⟨by simp[aB3],fun i d e=>?_⟩
 obtain⟨j,e1,e2⟩:=bX0 e
 obtain⟨v,e3,r⟩:=h.2 j d e2
 refine⟨v,?_,r⟩
 unfold aB3
 rw[List.getElem?_map,e1]
 simp[e3]
section
variable{X:Cx}{Z:XC}{elt tg iter:Expr}{ifs:List Expr}{scope:Scope}{pos:Pos}{N:List Str}{caps:List (Option Nat)}{it:DSt→M Src}{gg:Fg}{tt:DSt→M Bool}{fe:Fe}
set_option maxHeartbeats 1000000 in
def CKV(c:Wc)(Q:VK)(d:D)(μ':List Addr)(_:DH)(H':Hp):Prop:=∀v,g8 c μ' H' d v→Q v H'
def CKR(c:Wc)(Z:XC)(Q:VK)(ys V8:List D)(μ:List Addr)(G:DH)(H:Hp):Prop:=d7 c Z μ H (R1 (.lst (ys++V8)) G) (CKV c Q)
def eK1(gg:Fg)(tt:DSt→M Bool)(fe:Fe)(ck:DH→Bool)(items:List D)(σ:DSt)(y:D):M (List D):=do let ys ←M9 gg tt fe ck items σ;pure (y::ys)
def cZ9(gg:Fg)(tt:DSt→M Bool)(fe:Fe)(ck:DH→Bool)(items:List D)(σ:DSt)(b:Bool):M (List D):=if b=true then (do let y ←fe σ;let ys ←M9 gg tt fe ck items σ;pure (y::ys))else M9 gg tt fe ck items σ
def eP4(gg:Fg)(tt:DSt→M Bool)(fe:Fe)(ck:DH→Bool)(items:List D)(σ:DSt):M (List D):=do if ←tt σ then do {let y ←fe σ;let ys ←M9 gg tt fe ck items σ;pure (y::ys)}else M9 gg tt fe ck items σ
inductive CG(X:Cx)(Z:XC)(Q:VK)(vs:List V)(DD:Addr)(ys:List D)(μ':List Addr)(H5:Hp)(m:DSt→M (List D))(σ6:St)(H6:Hp):Prop
 |mk (dσ6:DSt) (μ6:List Addr) (G6:DH) (s:M5 (wc X) μ6 H6 dσ6 σ6) (h:t8 (wc X) μ6 G6 H6) (u:UH (wc X) DD vs μ' H5 (fun dσ μ G H=>d7 (wc X) ZF μ H (m dσ G) (CKR (wc X) Z Q ys)) dσ6 μ6 G6 H6)
inductive CT(X:Cx)(Z:XC)(Q:VK)(vs:List V)(DD:Addr)(ys:List D)(dσ6:DSt)(σ6:St)(μ6:List Addr)(H6:Hp)(m:Bool→M (List D))(b:Bool)(H7:Hp):Prop
 |mk (μ7:List Addr) (G7:DH) (s:M5 (wc X) μ7 H7 dσ6 σ6) (h:t8 (wc X) μ7 G7 H7) (u:UH (wc X) DD vs μ6 H6 (fun b μ G H=>d7 (wc X) ZF μ H (m b G) (CKR (wc X) Z Q ys)) b μ7 G7 H7)
inductive CE(X:Cx)(Z:XC)(Q:VK)(vs:List V)(DD:Addr)(ys:List D)(dσ6:DSt)(σ6:St)(μ7:List Addr)(H7:Hp)(m:D→M (List D))(v:V)(H8:Hp):Prop
 |mk (y:D) (μ8:List Addr) (G8:DH) (r:g8 (wc X) μ8 H8 y v) (s:M5 (wc X) μ8 H8 dσ6 σ6) (h:t8 (wc X) μ8 G8 H8) (u:UH (wc X) DD vs μ7 H7 (fun y μ G H=>d7 (wc X) ZF μ H (m y G) (CKR (wc X) Z Q ys)) y μ8 G8 H8)
inductive eY8(Y:Cx)(Z:XC)(Q:VK)(gg:Fg)(tt:DSt→M Bool)(fe:Fe)(src:Src)(fp:List Addr)(tn:Nat→Heap→Prop)(DD:Addr)(μ2:List Addr)(H2:Hp)(n:Nat)(s':Shared):Prop
 |mk (i:Nat) (ys:List D) (vs:List V) (σ':St) (H':Hp) (dσ':DSt) (μ':List Addr) (G':DH) (e:n=src.items.length-i) (hi:i≤src.items.length) (hv:vs.length≤i)
    (I:Inv Y [] σ' H' s') (st:tn i s'.heap) (fr:∀b∈fp,H' b=none) (hs:H' DD=some (.lst vs)) (nD:DD∉μ')
    (x:Ext μ2 H2 μ' (hide DD H')) (h:t8 (wc Y) μ' G' (hide DD H')) (sr:M5 (wc Y) μ' (hide DD H') dσ' σ') (rl:o5 (wc Y) μ' (hide DD H') ys vs)
    (p:d7 (wc Y) ZF μ' (hide DD H') (M9 gg tt fe src.ck (src.items.drop i) dσ' G') (CKR (wc Y) Z Q ys))
theorem dD5{Y:Cx}{Q:VK}{src:Src}{fp:List Addr}{tn:Nat→Heap→Prop}{DD it:Addr}{μ2:List Addr}{H2:Hp}{J:It}{R:Result→Shared→Prop}(hcX:Y.calm=true)(hg:DG Y ZF tg gg)(ht:DTs Y ZF ifs tt)(he:DE Y ZF elt fe)(T:bM0 Y.prog Y.w Y.K tg J fp it tn)
 (fpX:∀(H':Hp) (b:Addr),b∈fp→H' b=none→aH2 Y [] H' b) (hJ:ItD (wc Y) μ2 H2 J src) (hlen:src.items.length≤sizeLine) (fin:∀(H':Hp) (σ':St) (s4:Shared),Inv Y [] σ' H' s4→Q (.ref DD) H'→R (.ok .next) s4) (n:Nat) (s':Shared) (h:eY8 Y Z Q gg tt fe src fp tn DD μ2 H2 n s') {NX:Shared→Prop} (nx:∀m s,m<n→eY8 Y Z Q gg tt fe src fp tn DD μ2 H2 m s→NX s):
 wpAny (model Y.prog Y.w) Y.A (pyNext (.ref it)) (fun r s₁=>match r with
  |none=>R (.ok .next) s₁
  | some v => wpAny (model Y.prog Y.w) Y.A (letOwnedTupleGo tg (.ref it) v) (fun _ s₁' => wpAny (model Y.prog Y.w) Y.A (assign tg Y.env v) (fun _ s₂ =>
     wpAny (model Y.prog Y.w) Y.A (forIn ifs true fun c r=>if r=true then do let ok ←isTrue c Y.env (eval c Y.env);pure (ForInStep.yield ok)else pure (ForInStep.yield r)) (fun ok s₃=>
      if ok=true then wpAny (model Y.prog Y.w) Y.A (eval elt Y.env) (fun x s₄=>
       wpAny (model Y.prog Y.w) Y.A (call (.builtin "list.append") [.ref DD,x]) (fun _ s₅=>NX s₅) Y.xe s₄) Y.xe s₃
      else NX s₃) Y.xe s₂) Y.xe s₁') Y.xe s₁) Y.xe s':=by
 obtain⟨i,ys,vs,σ',H',dσ',μ',G',rfl,hi',hvl,I',st',fr',hvs,nD',x',h',sr',rl,p'⟩:=h
 by_cases hlt:i<src.items.length
 · rw[List.drop_eq_getElem_cons hlt]at p'
   unfold M9 at p'
   split at p'
   case isFalse=>exact p'.elim
   rename_i ck
   obtain⟨q1,_⟩:=hJ μ' G' H' x'.unhide h'.unhide ck i
   obtain⟨go,yl⟩:=q1 _ (List.getElem?_eq_getElem hlt)
   refine thn (T.item (Y) rfl rfl rfl hcX i [] s' σ' H' Y.xe I' (fun b hb=>fpX H' b hb (fr' b hb)) st' go) fun r s4 z4=>?_
   obtain⟨u,rfl,h4⟩:=z4
   refine thn h4 fun _ s5 z5=>?_
   obtain⟨x,H5,I5,r5,y5,st5,fr5⟩:=z5
   obtain⟨k5,h5,rx5⟩:=yl x H5 y5
   obtain⟨e5,n5,k5'⟩:=k5.hide nD' hvs
   have I5':=I5.pinned (fun b hb=>fpX H5 b hb (fr5 b hb)) (T.obj _ _ st5)
   have keepIt:∀ {σ7:St} {H7:Hp} {s7:Shared},Inv (Y) ([]++bO8 fp s5.heap) σ7 H7 s7→Inv (Y) [] σ7 H7 s7∧tn (i+1) s7.heap∧∀b∈fp,H7 b=none:=fun {σ7 H7 s7} I7=>by
    refine⟨I7.unpinned,T.keep _ _ _ st5 fun b hb o e=>(I7.pin (b,o) (List.mem_append_right _ (List.mem_append_right _ (aB8 hb e)))).1,fun b hb=>?_⟩
    obtain⟨o,e,d⟩:=T.obj _ _ st5 b hb
    exact(I7.pin (b,o) (List.mem_append_right _ (List.mem_append_right _ (aB8 hb e)))).2.1
   have p5:=d7.unhide (Z:=ZF) n5 e5 (d7.bind (p'.from k5'))
   refine thn (hg.h _ s5 σ' H5 x u _ I5' r5 ⟨_,dσ',μ',G',rx5,(sr'.mono k5').sq aJ0,h5,p5.mono fun dσ6 μ6 G6 H6 x6 h6 q6 σ6 sr6=>(⟨dσ6,μ6,G6,sr6,h6,q6⟩:CG Y Z Q vs DD ys μ' H5 (eP4 gg tt fe src.ck (src.items.drop (i+1))) σ6 H6)⟩) fun _ s6 z6=>?_
   obtain⟨σ6,H6,I6,dσ6,μ6,G6,sr6,h6,e6,n6,hh6,x6,p6⟩:=z6
   have p6':=d7.unhide (Z:=ZF) n6 e6 (d7.bind p6)
   refine thn (ht.h _ s6 σ6 H6 (CT Y Z Q vs DD ys dσ6 σ6 μ6 H6 (cZ9 gg tt fe src.ck (src.items.drop (i+1)) dσ6)) I6 ⟨dσ6,μ6,G6,sr6,h6,p6'.mono fun b μ7 G7 H7 x7 h7 q7=>⟨μ7,G7,sr6.mono x7,h7,q7⟩⟩) fun b s7 z7=>?_
   obtain⟨H7,I7,μ7,G7,sr7,h7,e7,n7,hh7,x7,p7⟩:=z7
   unfold cZ9 at p7
   have x27:Ext μ2 H2 μ7 (hide DD H7):=x'.trans (k5'.trans (x6.trans x7))
   have rl7:o5 (wc Y) μ7 (hide DD H7) ys vs:=rl.mono (k5'.trans (x6.trans x7))
   rcases b with _|_
   ·
     rw[if_neg Bool.false_ne_true]at p7 ⊢
     obtain⟨I8,st8,fr8⟩:=keepIt I7
     exact nx _ _ (Nat.sub_succ_lt_self _ _ hlt) ⟨i+1,ys,vs,σ6,H7,dσ6,μ7,G7,rfl,hlt,Nat.le_succ_of_le hvl,I8,st8,fr8,e7,n7,x27,hh7,sr7.sq (aI7 e7),rl7,p7⟩
   ·
     rw[if_pos rfl]at p7 ⊢
     have p7':=d7.unhide (Z:=ZF) n7 e7 (d7.bind p7)
     refine thn (he.h _ s7 σ6 H7 (CE Y Z Q vs DD ys dσ6 σ6 μ7 H7 (eK1 gg tt fe src.ck (src.items.drop (i+1)) dσ6)) I7 ⟨dσ6,μ7,G7,sr7,h7,p7'.mono fun y μ8 G8 H8 x8 h8 q8 v rv=>⟨y,μ8,G8,rv,sr7.mono x8,h8,q8⟩⟩) fun yu s8 z8=>?_
     obtain⟨yv,H8,I8,ry,y,μ8,G8,ryd,sr8,h8,e8,n8,hh8,x8,p8⟩:=z8
     unfold eK1 at p8
     refine thn (cA6 _ s8 σ6 H8 (.ref DD) [yv] (.ref DD) [yu] (fun _ H9=>H9=upd H8 DD (.lst (vs++[yv]))) I8 rfl (.cons ry .nil) ⟨DD,vs,yv,rfl,rfl,e8,by lia,rfl⟩) fun _ s9 z9=>?_
     obtain⟨_,H9,I9,_,rfl⟩:=z9
     obtain⟨I10,st10,fr10⟩:=keepIt I9
     have hd9:hide DD (upd H8 DD (.lst (vs++[yv])))=hide DD H8:=aU5
     refine nx _ _ (Nat.sub_succ_lt_self _ _ hlt) ⟨i+1,ys++[y],vs++[yv],σ6,_,dσ6,μ8,G8,rfl,hlt,by rw[List.length_append];exact Nat.succ_le_succ hvl,I10,st10,fr10,P0,n8,?_,?_,?_,?_,?_⟩
     ·rw[hd9];exact x27.trans x8
     ·rw[hd9];exact hh8
     ·rw[hd9];exact sr8.sq (aI7 e8)
     ·rw[hd9];exact(rl7.mono x8).append ⟨yv, [],rfl,ryd.sq (aI7 e8),rfl⟩
     · rw[hd9]
       refine(d7.bind p8).mono fun V8 μ'' G'' H'' x'' h'' q''=>?_
       have q3:=d7.ok q'' h''
       show d7 (wc Y) Z μ'' H'' (R1 (.lst (ys++[y]++V8)) G'') (CKV (wc Y) Q)
       rw[List.append_assoc]
       exact q3
 · have e:i=src.items.length:=by lia
   subst e
   rw[List.drop_length]at p'
   unfold M9 at p'
   split at p'
   case isFalse=>exact p'.elim
   rename_i ck
   obtain⟨_,q2⟩:=hJ μ' G' H' x'.unhide h'.unhide ck src.items.length
   refine thn (T.done (Y) rfl rfl rfl hcX src.items.length [] s' σ' H' Y.xe I' (fun b hb=>fpX H' b hb (fr' b hb)) st' (q2 (Nat.le_refl _))) fun r s4 ⟨hr,I4⟩=>?_
   subst hr
   have p9:d7 (wc Y) Z μ' (hide DD H') (R1 (.lst (ys++[])) G') (CKV (wc Y) Q):=d7.ok p' h'
   rw[List.append_nil]at p9
   have q9:=aF5 (q:=DD) h' rl p9 aH3
   rw[dK3 hvs]at q9
   exact fin H' σ' s4 I4 q9
theorem cA4{use:Option (Value→Sem Unit)}{PQ:VSP}{Q:VK}{ps:Pos}{pins:PNS}{s:Shared}{σ:St}{H:Hp}{dσ:DSt}{μ:List Addr}{G:DH}(hc:X.calm=true)(hi:DI X Z tg iter it)(k:aE1 X scope N caps)
 (hg:∀C s H ex,DG (S9 X scope N C s H ex) ZF tg gg) (ht:∀C s H ex,DTs (S9 X scope N C s H ex) ZF ifs tt) (he:∀C s H ex,DE (S9 X scope N C s H ex) ZF elt fe)
 (hs:∀x,foldedSetIterable iter X.env x=pure x) (I:Inv X pins σ H s) (sr:M5 (wc X) μ H dσ σ) (hr:t8 (wc X) μ G H) (p:d7 (wc X) Z μ H (K8 it caps gg tt fe dσ G) fun d μ' _ H'=>∀v,g8 (wc X) μ' H' d v→Q v H')
 (fin:∀(DD C:Addr) (s4:Shared) (H':Hp) (m:Str→Option Value) (o:Flow),s4.heap.Ns C m→(∀h'',Heap.SameBut C s4.heap h''→Inv X pins σ H' {s4 with heap:=h''})→H' C=none→(∀H9:Hp,H9 C=none→aH2 X pins H9 C)→Q (.ref DD) H'→compPost (model X.prog X.w) X.A X.xe use PQ (.ref DD) C (.ok o) s4):
 wpAny (model X.prog X.w) X.A (comprehension (.ListComp elt [⟨tg,iter,ifs,0⟩] scope pos) scope X.env ps (newList []) false (eval iter X.env) use) PQ X.xe s:=by
 replace p:d7 (wc X) Z μ H (K8 it caps gg tt fe dσ G) (CKV (wc X) Q):=p
 have p1:=d7.bind p
 refine wpAny_comprehension_free (use:=use) rfl hs (bG9 (k.cells I.ok)) k.kind k.names ?_
 refine thn (hi.h pins s σ H (fun J H1=>∃src μ1 G1,Ext μ H μ1 H1∧t8 (wc X) μ1 G1 H1∧ItD (wc X) μ1 H1 J src∧
  d7 (wc X) Z μ1 H1 ((if src.items.length≤sizeLine then (do let ys ←noX (M9 gg tt fe src.ck src.items (aB3 caps dσ));R1 (.lst ys))else M.stuck:M D) G1) (CKV (wc X) Q))
  I ⟨dσ,μ,G,sr,hr,p1.mono fun src μ1 G1 H1 x1 h1 p1 J hJ=>⟨src,μ1,G1,x1,h1,hJ,p1⟩⟩) fun v s1 q1=>thn q1 fun itv s2 q2=>?_
 obtain⟨itA,fp,tn,J,H2,rfl,I2,T,st2,f2,src,μ2,G2,x2,h2,hJ,p2⟩:=q2
 split at p2
 case isFalse=>exact p2.elim
 rename_i hlen
 have hfp:∀b∈fp,b<s2.heap.objs.size:=fun b hb=>by obtain⟨o,e,_⟩:=T.obj _ _ st2 b hb;exact Heap.lt_size e
 refine wpAny_newObj_type (wpAny_newFunctionEnv k.cell (by intro y hy;simp at hy) (fun h₁ hns₁ hsb₁=>?_) k.kind)
 dsimp only at hns₁ hsb₁ ⊢
 generalize hHP:s2.heap.push {cls:=.type "list",dict:=none,data:=.seq ([]:List Value).toArray}=HP at hns₁ hsb₁ ⊢
 have hC:HP.objs.size=s2.heap.objs.size+1:=by rw[←hHP,Heap.size_push]
 have hCl:s2.heap.objs.size<HP.objs.size:=by rw[hC];exact Nat.lt_succ_self _
 have hDC:s2.heap.objs.size≠HP.objs.size:=Nat.ne_of_lt hCl
 have old:∀b o,s2.heap.get? b=some o→h₁.get? b=some o:=fun b o e=>hsb₁.extBut b o (by have:=Heap.lt_size e;exact Nat.ne_of_lt (Nat.lt_trans this hCl)) (Heap.get?_push_of_some _ (hHP▸Heap.get?_push_of_some _ e))
 have hacc:h₁.get? s2.heap.objs.size=some {cls:=.type "list",data:=.seq ([]:List Value).toArray 0}:=hsb₁.extBut _ _ hDC (Heap.get?_push_of_some _ (hHP▸Heap.get?_push_size _ rfl))
 have hD:H2 s2.heap.objs.size=none:=I2.hok.fresh (Nat.le_refl _)
 have nD:s2.heap.objs.size∉μ2:=fun z=>Nat.lt_irrefl _ (h2.mem_lt I2 z)
 have st1:tn 0 h₁:=T.keep _ _ _ st2 fun b _ o e=>old b o e
 have fpX:∀(H':Hp) (b:Addr),b∈fp→H' b=none→aH2 (S9 X scope N HP.objs.size s2 H2 fp) [] H' b:=fun H' b hb hn=>
  ⟨hn,Nat.ne_of_lt (Nat.lt_trans (hfp b hb) hCl),fun z=>by
   rcases List.mem_cons.mp (I2.stkSub b z)with e|e
   ·exact(f2 b hb).2.1 e
   ·exact(f2 b hb).2.2.1 e,.inl hb,fun x c e=>(f2 b hb).2.2.2.2.1 x c (Z4 e),fun p hp=>absurd (show p∈([]:PNS)from hp) (by simp)⟩
 have hcX:(S9 X scope N HP.objs.size s2 H2 fp).calm=true:=hc
 have p3:=bS6 (d7.bind p2)
 generalize hDD:s2.heap.objs.size=DD at *
 have loop:∀s₃:Shared,s₃= {s2 with heap:=h₁,toks:=s2.toks+([]:List (Str×Value)).length}→
  codeAny (model X.prog X.w) X.A (.compLoop (.ListComp elt [⟨tg,iter,ifs,0⟩] scope pos) 0 (.ref itA) (.ref DD) (compEnvC scope (aO0 X.env scope.names []) HP.objs.size X.env))
   (compPost (model X.prog X.w) X.A X.xe use PQ (.ref DD) HP.objs.size) s₃:=by
  rintro s₃ rfl
  refine cC2 (eY8 (S9 X scope N HP.objs.size s2 H2 fp) Z Q gg tt fe src fp tn DD μ2 H2) (fun n s' h=>dD5 (Y:=S9 X scope N HP.objs.size s2 H2 fp) hcX (hg _ _ _ _) (ht _ _ _ _) (he _ _ _ _) T fpX hJ hlen (fun H' σ' s4 I4 q9=>?_) n s' h fun m s h1 h2=>⟨m,h1,h2⟩) src.items.length
   ⟨0, [], [],aB3 caps σ,upd H2 DD (.lst []),aB3 caps dσ,μ2,G2,rfl,Nat.zero_le _,Nat.le_refl _,?_,st1,fun b hb=>?_,P0,nD,?_,?_,?_,rfl,?_⟩
  · obtain⟨m,hn,_⟩:=I4.loc
    exact fin DD HP.objs.size s4 H' m _ hn (fun h'' sb=>dS4 I2 (fun b hb=>f2 b hb) (by rw[hDD];exact hCl) I4 sb) I4.free (fun H9 hn9=>I2.fpOk (by rw[hDD];exact Nat.le_of_lt hCl) hn9) q9
  · have:=cR2 (h₁:=h₁) (tk:=s2.toks+([]:List (Str×Value)).length) I2 k (C:=HP.objs.size) (by rw[hDD];exact hCl) f2 (fun b hb=>by rw[hDD];exact hfp b hb) old hns₁ (by rw[hDD];exact hacc)
    rw[hDD]at this
    exact this
  ·rw[o8 (Nat.ne_of_lt (hfp b hb))];exact(f2 b hb).1
  ·rw[aU5,aW1 hD];exact Ext.refl _ _
  ·rw[aU5,aW1 hD];exact h2
  ·rw[aU5,aW1 hD];exact dF5 (sr.mono x2)
  · rw[aU5,aW1 hD,List.drop_zero]
    exact p3
 exact codeAny_compStart_list (loop _ rfl) (T.self _ 0 _ _ _ st1 (loop _ rfl))
theorem eG9(hc:X.calm=true)(hi:DI X Z tg iter it)(k:aE1 X scope N caps)
 (hg:∀C s H ex,DG (S9 X scope N C s H ex) ZF tg gg) (ht:∀C s H ex,DTs (S9 X scope N C s H ex) ZF ifs tt) (he:∀C s H ex,DE (S9 X scope N C s H ex) ZF elt fe)
 (hs:∀x,foldedSetIterable iter X.env x=pure x):DE X Z (.ListComp elt [⟨tg,iter,ifs,0⟩] scope pos) (K8 it caps gg tt fe):=⟨by
 intro pins s σ H Q I hE0
 refine hE0.elim fun dσ μ G sr hr p=>?_
 rw[eval_ListComp]
 exact cA4 (use:=none) hc hi k hg ht he hs I sr hr p fun DD C s4 H' m o hn fin _ _ q9=>⟨m,hn,fun h'' sb=>⟨.ref DD,H',fin h'' sb,rfl,q9⟩⟩⟩
end
noncomputable def Q7(r:Nat):M DO:=fun G=>match G[r]? with
 |some o=>some (.ok o,G)
 |none=>none
def listOf:DO→M (List D)
 | .lst l=>pure l
 | .rol l=>pure l
 | .dct _=>M.stuck
 | .rod _=>M.stuck
def fM6:D→M (List D)
 | .tup l=>pure l
 | .ref r=>Q7 r >>= listOf
 |_=>M.stuck
def aS5{α:Type}:Option α→M α
 |some a=>pure a
 |none=>M.stuck
section
variable{X:Cx}{Z:XC}
theorem IxR.mono{r r':R2}(h:IxR X r)(k:∀x y H Q,r' x y H Q→r x y H Q):IxR X r':=fun va sl pins s σ H x y v u Q I rx ry q hs=>h va sl pins s σ H x y v u Q I rx ry (k x y H Q q) hs
variable{c:Wc}{μ:List Addr}{H:Hp}{G:DH}
theorem Q6{α:Type}{r:Nat}{f:DO→M α}{K:α→List Addr→DH→Hp→Prop}(p:d7 c Z μ H ((Q7 r >>= f) G) K):∃o,G[r]? =some o∧d7 c Z μ H (f o G) K:=by
 rw[M.bind_eq]at p
 unfold Q7 at p
 rcases e:G[r]? with _|o
 ·rw[e]at p;exact p.elim
 ·rw[e]at p;exact⟨o,rfl,p⟩
theorem aC1{α β:Type}{r:Option β}{f:β→M α}{K:α→List Addr→DH→Hp→Prop}(p:d7 c Z μ H ((aS5 r >>= f) G) K):∃o,r=some o∧d7 c Z μ H (f o G) K:=by
 rcases r with _|o
 ·exact p.elim
 ·exact⟨o,rfl,p⟩
theorem bG7{α:Type}{d:D}{v:V}{f:List D→M α}{K:α→List Addr→DH→Hp→Prop}(h:t8 c μ G H)(r:g8 c μ H d v)(p:d7 c Z μ H ((fM6 d >>= f) G) K):
 ∃l a vs,v= .ref a∧o5 c μ H l vs∧d7 c Z μ H (f l G) K∧((d= .tup l∧SqT c.K H a vs)∨(∃i,d= .ref i∧μ[i]? =some a∧((G[i]? =some (.lst l)∧H a=some (.lst vs))∨(G[i]? =some (.rol l)∧RoL c.K H a vs)))):=by
 rcases d with _|_|_|_|l|i|_|_<;>try (exact p.elim;done)
 ·
   unfold g8 at r
   obtain⟨a,vs,e,q,rl⟩:=r
   exact⟨l,a,vs,e,rl,p,.inl ⟨rfl,q⟩⟩
 ·
   unfold g8 at r
   obtain⟨a,m,e⟩:=r
   have p':d7 c Z μ H ((Q7 i >>= fun o=>listOf o >>= f) G) K:=by rw[←M.bind_assoc];exact p
   obtain⟨o,g,p2⟩:=Q6 p'
   have ro:=h.obj i o a g m
   rcases o with l|l|l|l
   ·obtain⟨vs,q,rl⟩:=ro;exact⟨l,a,vs,e,rl,p2,.inr ⟨i,rfl,m,.inl ⟨g,q⟩⟩⟩
   ·obtain⟨vs,q,rl⟩:=ro;exact⟨l,a,vs,e,rl,p2,.inr ⟨i,rfl,m,.inr ⟨g,q⟩⟩⟩
   ·exact p2.elim
   ·exact p2.elim
theorem aM6{i:Int}{v:V}(r:g8 c μ H (.int i) v):v= .int i:=by unfold g8 at r;exact r
theorem bA7{i:Str}{v:V}(r:g8 c μ H (.str i) v):v= .str i:=by unfold g8 at r;exact r
theorem bW6{i:Bool}{v:V}(r:g8 c μ H (.bl i) v):v= .bl i:=by unfold g8 at r;exact r
theorem dO9{v:V}(r:g8 c μ H .non v):v= .non:=by unfold g8 at r;exact r
theorem ofI{i:Int}:g8 c μ H (.int i) (.int i):=by unfold g8;rfl
theorem ofS{i:Str}:g8 c μ H (.str i) (.str i):=by unfold g8;rfl
theorem ofB{i:Bool}:g8 c μ H (.bl i) (.bl i):=by unfold g8;rfl
theorem ofN:g8 c μ H .non .non:=by unfold g8;rfl
def dR2(g:Int→Int→M D):D→D→M D:=fun x y=>match x,y with
 | .int i,.int j=>g i j
 |_,_=>M.stuck
theorem dA5{f:Value→Value→Sem Value}{C:Int→Int→Prop}[∀i j,Decidable (C i j)]{g:Int→Int→Int}(h:OpR X f (rI C fun i j=>.int (g i j))):OpD X Z f (dR2 fun i j=>if C i j then pure (.int (g i j))else M.stuck):=
 OpD.of h fun x y H Q hE0=>hE0.elim fun dx dy μ G rx ry hr p=>by
  rcases dx with _|_|_|_|_|_|_|_<;>rcases dy with _|_|_|_|_|_|_|_<;>first
   |exact p.elim
   |skip
  rename_i i j
  unfold dR2 at p
  dsimp only at p
  split at p
  · rename_i hc
    exact⟨i,j,aM6 rx,aM6 ry,hc,d7.ok p hr _ ofI⟩
  ·exact p.elim
def fN3:D→D→M D:=dR2 fun i j=>pure (.int (i-j))
noncomputable instance (i j:Int):Decidable (bU7 i j):=by unfold bU7;infer_instance
noncomputable def bZ1(_ j:Int):Prop:=0<j∧j<2 ^ 100
noncomputable instance (i j:Int):Decidable (bZ1 i j):=by unfold bZ1;infer_instance
theorem dT9:OpR X (binaryOp .FloorDiv) (rI bZ1 fun i j=>.int (i / j)):=opI fun i j _ _ _ _ _ hc q=>by
 have h1:(0:Int)<j:=hc.1
 have h2:j<2 ^ 100:=hc.2
 refine floordiv_int (by lia) (by rw[Int.fdiv_eq_ediv_of_nonneg i (by lia)];exact q) (.inl (PyProof.noPylong_of_log2 ?_))
 have h3:j.natAbs<2 ^ 100:=by lia
 have h4:j.natAbs≠0:=by lia
 have:=(Nat.log2_lt h4).mpr h3
 lia
def cM5:D→D→M D:=dR2 fun i j=>if bZ1 i j then pure (.int (i / j))else M.stuck
theorem eE2:OpD X Z (binaryOp .FloorDiv) cM5:=dA5 dT9
def bV5:D→D→M D:=dR2 fun i j=>if 0<j then pure (.int (i % j))else M.stuck
theorem eQ9:OpD X Z (binaryOp .Mod) bV5:=dA5 (C:=fun _ j=>0<j) eY9
noncomputable instance (i j:Int):Decidable (dT8 i j):=by unfold dT8;infer_instance
theorem dW8{prog:Program}{w:World}{A:Around}{E:VSP}{s:Shared}{t b:Addr}{ws:List Value}{Q:VSP}(ht:IsTup s.heap t #[])(hb:IsTup s.heap b ws.toArray)
 (h1:Q (.ref b) s):wpAny (model prog w) A (binaryOp .Add (.ref t) (.ref b)) Q E s:=by
 obtain⟨⟨cls,dd,data,sl⟩,ho,hc,n,hd⟩:=id ht
 obtain⟨⟨cls2,dd2,data2,sl2⟩,ho2,hc2,n2,hd2⟩:=id hb
 simp only at hc hd hc2 hd2
 subst hc hd hc2 hd2
 exact concat_meets ⟨_,ho,rfl⟩ ⟨_,ho2,rfl⟩ noFill_tuple_add seq_tuple_add PySem.F.slot_tuple_add PySem.F.entry_tuple_add (PySem.F.args_tuple_add_2 _ _)
  (tuple_addW0 t b #[] ws.toArray n n2 dd dd2 sl sl2 (by simp)) ⟨ho,ho2,h1⟩
def eZ4(K:PySem.W.Frag):R2:=fun x y H Q=>∃a b ys,x= .ref a∧y= .ref b∧SqT K H a []∧SqT K H b ys∧Q (.ref b) H
theorem dO5:OpR X (binaryOp .Add) (eZ4 X.K):=by
 intro pins s σ H x y v u Q I rx ry h
 obtain⟨a,b,ys,rfl,rfl,ha,hb,q⟩:=h
 cases rx
 cases ry
 obtain⟨its,r,p,_⟩:=I.tuple ha
 obtain⟨its2,r2,p2,_⟩:=I.tuple hb
 cases r
 exact dW8 p p2 ⟨.ref b,H,I,rfl,q⟩
def aG2:D→D→M D:=fun x y=>match x,y with
 | .int i,.int j=>pure (.int (i+j))
 | .str a,.str b=>if a.length+b.length≤sizeLine then pure (.str (a++b))else M.stuck
 | .tup a,.tup b=>if a.length+b.length≤sizeLine then pure (.tup (a++b))else M.stuck
 | .ref i,.ref j=>do
   match ←Q7 i,←Q7 j with
   | .lst a,.lst b=>if a.length+b.length≤sizeLine then R1 (.lst (a++b))else M.stuck
   |_,_=>M.stuck
 |_,_=>M.stuck
theorem bH4{xs:List D}{vs:List V}{Q:VK}(h:t8 c μ G H){a:Addr}(q:SqT c.K H a vs)(r:o5 c μ H xs vs)
 (p:d7 c Z μ H (some (Except.ok (.tup xs),G)) fun d μ' _ H'=>∀v,g8 c μ' H' d v→Q v H'):Q (.ref a) H:=d7.ok p h _ (by unfold g8;exact⟨a,vs,rfl,q,r⟩)
theorem eW7:OpD X Z (binaryOp .Add) aG2:=
 OpD.of (OpR.or eP1 (OpR.or cU6 (OpR.or eA2 (OpR.or dO5 eS5)))) fun x y H Q hE0=>hE0.elim fun dx dy μ G rx ry hr p=>by
  rcases dx with _|_|_|_|_|_|_|_<;>rcases dy with _|_|_|_|_|_|_|_<;>first
   |exact p.elim
   |skip
  ·exact .inl ⟨_,_,aM6 rx,aM6 ry,d7.ok p hr _ ofI⟩
  · rename_i a b
    refine .inr (.inl ?_)
    unfold aG2 at p
    dsimp only at p
    split at p
    · rename_i hz
      exact⟨a,b,bA7 rx,bA7 ry,hz,d7.ok p hr _ ofS⟩
    ·exact p.elim
  · rename_i a b
    unfold g8 at rx ry
    obtain⟨ax,vx,rfl,qx,lx⟩:=rx
    obtain⟨ay,vy,rfl,qy,ly⟩:=ry
    unfold aG2 at p
    dsimp only at p
    split at p
    · rename_i hz
      by_cases hv:vx= []
      · subst hv
        rcases a with _|⟨_,_⟩
        ·exact .inr (.inr (.inr (.inl ⟨ax,ay,vy,rfl,rfl,qx,qy,bH4 hr qy ly p⟩)))
        ·obtain⟨_,_,z,_⟩:=lx;cases z
      · refine .inr (.inr (.inl ⟨ax,ay,vx,vy,rfl,rfl,qx,qy,hv,by rw[←lx.length,←ly.length];exact hz,?_⟩))
        refine⟨fun hy=>?_,fun hy q hq=>bC2 hr (lx.append ly) p q hq⟩
        subst hy
        refine bH4 hr qx ?_ p
        rcases b with _|⟨_,_⟩
        ·rw[List.append_nil];exact lx
        ·obtain⟨_,_,z,_⟩:=ly;cases z
    ·exact p.elim
  · rename_i i j
    unfold g8 at rx ry
    obtain⟨ax,mx,rfl⟩:=rx
    obtain⟨ay,my,rfl⟩:=ry
    obtain⟨ox,gx,p⟩:=Q6 p
    obtain⟨oy,gy,p⟩:=Q6 p
    have hx:=hr.obj i ox ax gx mx
    have hy:=hr.obj j oy ay gy my
    rcases ox with _|_|_|_<;>rcases oy with _|_|_|_<;>first
     |exact p.elim
     |skip
    obtain⟨vx,ex,lx⟩:=hx
    obtain⟨vy,ey,ly⟩:=hy
    dsimp only at p
    split at p
    · rename_i hz
      exact .inr (.inr (.inr (.inr ⟨ax,ay,vx,vy,rfl,rfl,ex,ey,by rw[←lx.length,←ly.length];exact hz,fun q hq=>aF5 hr (lx.append ly) p q hq⟩)))
    ·exact p.elim
end
noncomputable def aB7(G:DH):D→Option (Bool×List D)
 | .tup l=>some (true,l)
 | .ref i=>match G[i]? with
   |some (.lst l)=>some (false,l)
   |some (.rol l)=>some (false,l)
   |_=>none
 |_=>none
noncomputable def aL6:D→Bool
 | .non=>true
 | .bl _=>true
 | .int _=>true
 | .str _=>true
 |_=>false
def eqS:D→D→Option Bool
 | .non,.non=>some true
 | .bl a,.bl b=>some (a==b)
 | .int a,.int b=>some (a==b)
 | .str a,.str b=>some (a==b)
 | .bl a,.int b=>some ((if a then (1:Int)else 0)==b)
 | .int a,.bl b=>some (a==(if b then (1:Int)else 0))
 |x,y=>if aL6 x&&aL6 y then some false else none
noncomputable def eqL(f:D→D→Option Bool):List D→List D→Option Bool
 |[], []=>some true
 |[],_::_=>some false
 |_::_, []=>some false
 |x::xs,y::ys=>match f x y,eqL f xs ys with
   |some e,some r=>some (e&&r)
   |_,_=>none
def eqN:Nat→DH→D→D→Option Bool
 |0,_,_,_=>none
 |n+1,G,x,y=>match aB7 G x,aB7 G y with
   |some (k1,a),some (k2,b)=>if k1=k2 then (if k1=false∧a.length≠b.length then some false else eqL (eqN n G) a b)else some false
   |some _,none=>if aL6 y then some false else none
   |none,some _=>if aL6 x then some false else none
   |none,none=>eqS x y
theorem aY4{n:Nat}{G:DH}{x y:D}:eqN (n+1) G x y=match aB7 G x,aB7 G y with
 |some (k1,a),some (k2,b)=>if k1=k2 then (if k1=false∧a.length≠b.length then some false else eqL (eqN n G) a b)else some false
 |some _,none=>if aL6 y then some false else none
 |none,some _=>if aL6 x then some false else none
 |none,none=>eqS x y:=rfl
theorem bE9{f:D→D→Option Bool}{x y:D}{xs ys:List D}:eqL f (x::xs) (y::ys)=match f x y,eqL f xs ys with
 |some e,some r=>some (e&&r)
 |_,_=>none:=rfl
theorem bY6{f:D→D→Option Bool}{e:Nat→Bool}:∀(a b:List D) (r:Bool),eqL f a b=some r→(∀(j:Nat) x y,a[j]? =some x→b[j]? =some y→f x y=some (e j))→r= ((List.range (min a.length b.length)).all e&&a.length==b.length)
 |[], [],r,h,_=>by cases h;rfl
 |[],_::_,r,h,_=>by cases h;simp
 |_::_, [],r,h,_=>by cases h;simp
 |x::xs,y::ys,r,h,he=>by
   rw[bE9]at h
   have h0:=he 0 x y rfl rfl
   rw[h0]at h
   rcases hr:eqL f xs ys with _|r'
   ·rw[hr]at h;exact K4 h
   ·
     rw[hr]at h
     have ih:=bY6 (e:=fun j=>e (j+1)) xs ys r' hr fun j x' y' h1 h2=>he (j+1) x' y' (by simpa using h1) (by simpa using h2)
     cases h
     rw[ih]
     have:min (x::xs).length (y::ys).length=min xs.length ys.length+1:=by simp only[List.length_cons];lia
     rw[this,List.range_succ_eq_map,List.all_cons,List.all_map]
     simp[Bool.and_assoc,Function.comp_def]
theorem bS1{f:D→D→Option Bool}:∀(a b:List D) (r:Bool),eqL f a b=some r→∀(j:Nat) x y,a[j]? =some x→b[j]? =some y→∃e,f x y=some e
 |[],_,_,_,_,_,_,h,_=>by simp at h
 |_::_, [],_,_,_,_,_,_,h=>by simp at h
 |x::xs,y::ys,r,h,j,x',y',h1,h2=>by
   rw[bE9]at h
   rcases hf:f x y with _|e
   ·rw[hf]at h;exact K4 h
   ·
     rcases hr:eqL f xs ys with _|r'
     ·rw[hf,hr]at h;exact K4 h
     ·
       cases j with
       |zero=>simp at h1 h2;subst h1 h2;exact⟨e,hf⟩
       |succ j=>exact bS1 xs ys r' hr j x' y' (by simpa using h1) (by simpa using h2)
section
variable{X:Cx}{pins:PNS}{σ:St}{H:Hp}{s:Shared}{μ:List Addr}{G:DH}
noncomputable def cQ3(s:Shared)(k:Bool)(a:Addr)(its:List Value):Prop:=if k then s.heap.IsTuple a its.toArray else s.heap.IsList a its.toArray
theorem aG8(I:Inv X pins σ H s)(h:t8 (wc X) μ G H){d:D}{x:V}{v:Value}{k:Bool}{l:List D}(e:aB7 G d=some (k,l))(r:g8 (wc X) μ H d x)(rv:J2 x v):
 ∃a vs its,x= .ref a∧v= .ref a∧o5 (wc X) μ H l vs∧w6 vs its∧cQ3 s k a its∧(if k then SqT X.K H a vs else SqL X.K H a vs):=by
 rcases d with _|_|_|_|l'|i|_|_<;>try (cases e;done)
 ·
   unfold aB7 at e
   cases e
   unfold g8 at r
   obtain⟨a,vs,rfl,q,rl⟩:=r
   obtain⟨its,rr,p,_⟩:=I.tuple q
   exact⟨a,vs,its,rfl,rv,rl,rr,p,q⟩
 ·
   have e':(match G[i]? with|some (.lst l)=>some (false,l)|some (.rol l)=>some (false,l)|_=>none)=some (k,l):=e
   unfold g8 at r
   obtain⟨a,m,rfl⟩:=r
   have key:∀vs,SqL X.K H a vs→o5 (wc X) μ H l vs→k=false→∃a' vs its,V.ref a= .ref a'∧v= .ref a'∧o5 (wc X) μ H l vs∧w6 vs its∧cQ3 s k a' its∧(if k then SqT X.K H a' vs else SqL X.K H a' vs):=fun vs q rl hk=>by
    subst hk
    obtain⟨its,rr,p,_⟩:=I.list q
    exact⟨a,vs,its,rfl,rv,rl,rr,p.isList,q⟩
   generalize g:G[i]? =o at e'
   rcases o with _|l'|l'|_|_<;>cases e'
   · obtain⟨vs,q,rl⟩:=h.obj i _ a g m
     exact key vs (SqL.of q) rl rfl
   · obtain⟨vs,q,rl⟩:=h.obj i _ a g m
     exact key vs q.sq rl rfl
theorem bT4{d:D}{a:Addr}{c:Wc}(hs:aL6 d=true)(r:g8 c μ H d (.ref a)):False:=by
 cases d<;>first
  |exact absurd (show false=true from hs) Bool.false_ne_true
  |(unfold g8 at r;cases r)
theorem cP1{x y:D}{b:Bool}(h:eqS x y=some b):aL6 x=true∧aL6 y=true:=by
 rcases x with _|_|_|_|_|_|_|_<;>rcases y with _|_|_|_|_|_|_|_<;>first
  |exact⟨rfl,rfl⟩
  |(cases h;done)
theorem dM5{x y:D}{b:Bool}{v:V}{c:Wc}(h:eqS x y=some b)(rx:g8 c μ H x v)(ry:g8 c μ H y v):b=true:=by
 obtain⟨s1,s2⟩:=cP1 h
 rcases x with _|_|_|_|_|_|_|_<;>rcases y with _|_|_|_|_|_|_|_<;>first
  |(cases s1;done)
  |(cases s2;done)
  |(unfold g8 at rx ry;rw[rx]at ry;cases ry;done)
  |(unfold g8 at rx ry;rw[rx]at ry;cases ry;cases h;first|rfl|simp)
theorem cU3(I:Inv X pins σ H s){k k':Bool}{a:Addr}{its its':List Value}(h1:cQ3 s k a its)(h2:cQ3 s k' a its'):k=k':=by
 cases k<;>cases k'<;>first
  |rfl
  |exact absurd rfl (SeqAt.ne_of_list_tuple h1 h2)
  |exact absurd rfl (SeqAt.ne_of_list_tuple h2 h1)
theorem eqL_same{c:Wc}{f:D→D→Option Bool}:∀(l l':List D) (vs:List V) (b:Bool),o5 c μ H l vs→o5 c μ H l' vs→(∀d d' v b,v∈vs→g8 c μ H d v→g8 c μ H d' v→f d d'=some b→b=true)→eqL f l l'=some b→b=true
 |[], [],_,b,_,_,_,e=>by cases e;rfl
 |[],_::_,vs,b,r1,r2,_,_=>by cases r1;obtain⟨_,_,z,_⟩:=r2;exact cA1 z
 |_::_, [],vs,b,r1,r2,_,_=>by cases r2;obtain⟨_,_,z,_⟩:=r1;cases z
 |d::ds,d'::ds',vs,b,r1,r2,k,e=>by
   obtain⟨v0,vr,rfl,q0,t0⟩:=r1
   obtain⟨v1,vr',e1,q1,t1⟩:=r2
   cases e1
   rw[bE9]at e
   rcases hf:f d d' with _|e0
   ·rw[hf]at e;exact K4 e
   ·
     rcases hr:eqL f ds ds' with _|r'
     ·rw[hf,hr]at e;exact K4 e
     ·
       rw[hf,hr]at e
       cases e
       have z1:=k d d' v0 e0 List.mem_cons_self q0 q1 hf
       have z2:=eqL_same ds ds' vr r' t0 t1 (fun a a' v b hm=>k a a' v b (List.mem_cons_of_mem _ hm)) hr
       rw[z1,z2];rfl
theorem cL1(I:Inv X pins σ H s)(h:t8 (wc X) μ G H):∀(n:Nat) {dx dy:D} {x:V} {v:Value} {b:Bool},g8 (wc X) μ H dx x→g8 (wc X) μ H dy x→J2 x v→eqN n G dx dy=some b→b=true
 |0,_,_,_,_,_,_,_,_,e=>by exact K4 e
 |n+1,dx,dy,x,v,b,rx,ry,rv,e=>by
   rw[aY4]at e
   rcases hx:aB7 G dx with _|p
   ·
     rw[hx]at e
     rcases hy:aB7 G dy with _|p
     ·rw[hy]at e;exact dM5 e rx ry
     ·
       obtain⟨k,l⟩:=p
       rw[hy]at e
       dsimp only at e
       split at e
       · rename_i hs
         obtain⟨a,_,_,rfl,_⟩:=aG8 I h hy ry rv
         exact(bT4 hs rx).elim
       ·exact K4 e
   ·
     obtain⟨k,l⟩:=p
     rw[hx]at e
     rcases hy:aB7 G dy with _|p'
     ·
       rw[hy]at e
       dsimp only at e
       split at e
       · rename_i hs
         obtain⟨a,_,_,rfl,_⟩:=aG8 I h hx rx rv
         exact(bT4 hs ry).elim
       ·exact K4 e
     ·
       obtain⟨k',l'⟩:=p'
       rw[hy]at e
       dsimp only at e
       obtain⟨a,vs,its,rfl,rfl,rl,rr,sq,q⟩:=aG8 I h hx rx rv
       obtain⟨a',vs',its',ea,_,rl',rr',sq',q'⟩:=aG8 I h hy ry rv
       cases ea
       have hk:k=k':=cU3 I sq sq'
       subst hk
       have hvs:vs=vs':=by
        rcases k with _|_
        ·exact I.list_inj q q'
        ·exact I.tuple_inj q q'
       subst hvs
       rw[if_pos rfl,if_neg (by rw[rl.length,rl'.length];simp)]at e
       have hv:∀v∈vs,∃u,J2 v u:=fun v hv=>by
        obtain⟨i,hi⟩:=List.getElem?_of_mem hv
        obtain⟨u,_,ru⟩:=rr.get hi
        exact⟨u,ru⟩
       exact eqL_same l l' vs b rl rl' (fun d d' v b hm r1 r2 ef=>by
        obtain⟨u,ru⟩:=hv v hm
        exact cL1 I h n r1 r2 ru ef) e
theorem eP3{A:Around}{dx dy:D}{x y:V}{v u:Value}{b:Bool}{c:Wc}(rx:g8 c μ H dx x)(ry:g8 c μ H dy y)(rv:J2 x v)(ru:J2 y u)(e:eqS dx dy=some b):
 SeqAt.RcAt A s v u b∧SeqAt.RcNeAt A s v u (!b)∧SeqAt.EqAt A s v u b:=by
 obtain⟨s1,s2⟩:=cP1 e
 rcases dx with _|i|i|i|_|_|_|_<;>try (cases s1;done)
 ·
   unfold g8 at rx;subst rx;cases rv
   rcases dy with _|j|j|j|_|_|_|_<;>try (cases s2;done)
   ·unfold g8 at ry;subst ry;cases ru;cases e;exact⟨SeqAt.RcAt.none_none,SeqAt.RcNeAt.none_none,SeqAt.EqAt.same _⟩
   ·unfold g8 at ry;subst ry;cases ru;cases e;exact⟨SeqAt.RcAt.none_bool _,SeqAt.RcNeAt.none_bool _,SeqAt.EqAt.none_bool _⟩
   ·unfold g8 at ry;subst ry;obtain⟨t,rfl⟩:=ru;cases e;exact⟨SeqAt.RcAt.none_int _ _,SeqAt.RcNeAt.none_int _ _,SeqAt.EqAt.none_int _ _⟩
   ·unfold g8 at ry;subst ry;obtain⟨t,rfl⟩:=ru;cases e;exact⟨SeqAt.RcAt.none_str _ _,SeqAt.RcNeAt.none_str _ _,SeqAt.EqAt.none_str _ _⟩
 ·
   unfold g8 at rx;subst rx;cases rv
   rcases dy with _|j|j|j|_|_|_|_<;>try (cases s2;done)
   ·unfold g8 at ry;subst ry;cases ru;cases e;exact⟨SeqAt.RcAt.bool_none _,SeqAt.RcNeAt.bool_none _,SeqAt.EqAt.bool_none _⟩
   ·unfold g8 at ry;subst ry;cases ru;cases e;exact⟨SeqAt.RcAt.bool_bool _ _,SeqAt.RcNeAt.bool_bool _ _,SeqAt.EqAt.bool_bool _ _⟩
   ·unfold g8 at ry;subst ry;obtain⟨t,rfl⟩:=ru;cases e;exact⟨SeqAt.RcAt.bool_int _ _ _,SeqAt.RcNeAt.bool_int _ _ _,SeqAt.EqAt.bool_int _ _ _⟩
   ·unfold g8 at ry;subst ry;obtain⟨t,rfl⟩:=ru;cases e;exact⟨SeqAt.RcAt.bool_str _ _ _,SeqAt.RcNeAt.bool_str _ _ _,SeqAt.EqAt.bool_str _ _ _⟩
 ·
   unfold g8 at rx;subst rx;obtain⟨t,rfl⟩:=rv
   rcases dy with _|j|j|j|_|_|_|_<;>try (cases s2;done)
   ·unfold g8 at ry;subst ry;cases ru;cases e;exact⟨SeqAt.RcAt.int_none _ _,SeqAt.RcNeAt.int_none _ _,SeqAt.EqAt.int_none _ _⟩
   ·unfold g8 at ry;subst ry;cases ru;cases e;exact⟨SeqAt.RcAt.int_bool _ _ _,SeqAt.RcNeAt.int_bool _ _ _,SeqAt.EqAt.int_bool _ _ _⟩
   ·unfold g8 at ry;subst ry;obtain⟨t,rfl⟩:=ru;cases e;exact⟨SeqAt.RcAt.int_int _ _ _ _,SeqAt.RcNeAt.int_int _ _ _ _,SeqAt.EqAt.int_int _ _ _ _⟩
   ·unfold g8 at ry;subst ry;obtain⟨t,rfl⟩:=ru;cases e;exact⟨SeqAt.RcAt.int_str _ _ _ _,SeqAt.RcNeAt.int_str _ _ _ _,SeqAt.EqAt.int_str _ _ _ _⟩
 ·
   unfold g8 at rx;subst rx;obtain⟨t,rfl⟩:=rv
   rcases dy with _|j|j|j|_|_|_|_<;>try (cases s2;done)
   ·unfold g8 at ry;subst ry;cases ru;cases e;exact⟨SeqAt.RcAt.str_none _ _,SeqAt.RcNeAt.str_none _ _,SeqAt.EqAt.str_none _ _⟩
   ·unfold g8 at ry;subst ry;cases ru;cases e;exact⟨SeqAt.RcAt.str_bool _ _ _,SeqAt.RcNeAt.str_bool _ _ _,SeqAt.EqAt.str_bool _ _ _⟩
   ·unfold g8 at ry;subst ry;obtain⟨t,rfl⟩:=ru;cases e;exact⟨SeqAt.RcAt.str_int _ _ _ _,SeqAt.RcNeAt.str_int _ _ _ _,SeqAt.EqAt.str_int _ _ _ _⟩
   ·unfold g8 at ry;subst ry;obtain⟨t,rfl⟩:=ru;cases e;exact⟨SeqAt.RcAt.str_str _ _ _ _,SeqAt.RcNeAt.str_str _ _ _ _,SeqAt.EqAt.str_str _ _ _ _⟩
theorem bJ6{A:Around}(hu:A.units<cLine){k:Bool}{a:Addr}{its:List Value}(sq:cQ3 s k a its){dy:D}{y:V}{u:Value}{c:Wc}(ry:g8 c μ H dy y)(ru:J2 y u)(hs:aL6 dy=true):
 (SeqAt.RcAt A s (.ref a) u false∧SeqAt.RcNeAt A s (.ref a) u true∧SeqAt.EqAt A s (.ref a) u false)∧(SeqAt.RcAt A s u (.ref a) false∧SeqAt.RcNeAt A s u (.ref a) true∧SeqAt.EqAt A s u (.ref a) false):=by
 rcases k with _|_
 ·
   rcases dy with _|j|j|j|_|_|_|_<;>try (cases hs;done)
   ·unfold g8 at ry;subst ry;cases ru;exact⟨⟨.list_none sq hu,.list_none sq hu,.list_none sq hu⟩,.none_list sq hu,.none_list sq hu,.none_list sq hu⟩
   ·unfold g8 at ry;subst ry;cases ru;exact⟨⟨.list_bool _ sq hu,.list_bool _ sq hu,.list_bool _ sq hu⟩,.bool_list _ sq hu,.bool_list _ sq hu,.bool_list _ sq hu⟩
   ·unfold g8 at ry;subst ry;obtain⟨t,rfl⟩:=ru;exact⟨⟨.list_int _ _ sq hu,.list_int _ _ sq hu,.list_int _ _ sq hu⟩,.int_list _ _ sq hu,.int_list _ _ sq hu,.int_list _ _ sq hu⟩
   ·unfold g8 at ry;subst ry;obtain⟨t,rfl⟩:=ru;exact⟨⟨.list_str _ _ sq hu,.list_str _ _ sq hu,.list_str _ _ sq hu⟩,.str_list _ _ sq hu,.str_list _ _ sq hu,.str_list _ _ sq hu⟩
 ·
   rcases dy with _|j|j|j|_|_|_|_<;>try (cases hs;done)
   ·unfold g8 at ry;subst ry;cases ru;exact⟨⟨.tuple_none sq hu,.tuple_none sq hu,.tuple_none sq hu⟩,.none_tuple sq hu,.none_tuple sq hu,.none_tuple sq hu⟩
   ·unfold g8 at ry;subst ry;cases ru;exact⟨⟨.tuple_bool _ sq hu,.tuple_bool _ sq hu,.tuple_bool _ sq hu⟩,.bool_tuple _ sq hu,.bool_tuple _ sq hu,.bool_tuple _ sq hu⟩
   ·unfold g8 at ry;subst ry;obtain⟨t,rfl⟩:=ru;exact⟨⟨.tuple_int _ _ sq hu,.tuple_int _ _ sq hu,.tuple_int _ _ sq hu⟩,.int_tuple _ _ sq hu,.int_tuple _ _ sq hu,.int_tuple _ _ sq hu⟩
   ·unfold g8 at ry;subst ry;obtain⟨t,rfl⟩:=ru;exact⟨⟨.tuple_str _ _ sq hu,.tuple_str _ _ sq hu,.tuple_str _ _ sq hu⟩,.str_tuple _ _ sq hu,.str_tuple _ _ sq hu,.str_tuple _ _ sq hu⟩
theorem cJ3(I:Inv X pins σ H s)(h:t8 (wc X) μ G H):∀(n:Nat) (A:Around),A.units+n<cLine→∀ {dx dy:D} {x y:V} {v u:Value} {b:Bool},g8 (wc X) μ H dx x→g8 (wc X) μ H dy y→J2 x v→J2 y u→eqN n G dx dy=some b→
 SeqAt.RcAt A s v u b∧SeqAt.RcNeAt A s v u (!b)∧SeqAt.EqAt A s v u b
 |0,_,_,_,_,_,_,_,_,_,_,_,_,_,e=>by exact K4 e
 |n+1,A,hu,dx,dy,x,y,v,u,b,rx,ry,rv,ru,e=>by
   have hu0:A.units<cLine:=by lia
   have hu1:A.in1.units+n<cLine:=by show A.units+1+n<cLine;lia
   have e0:=e
   rw[aY4]at e
   rcases hx:aB7 G dx with _|p
   ·
     rw[hx]at e
     rcases hy:aB7 G dy with _|p
     ·rw[hy]at e;exact eP3 rx ry rv ru e
     ·
       obtain⟨k,l⟩:=p
       rw[hy]at e
       dsimp only at e
       split at e
       · rename_i hs
         cases e
         obtain⟨a,vs,its,rfl,rfl,_,_,sq,_⟩:=aG8 I h hy ry ru
         exact(bJ6 hu0 sq rx rv hs).2
       ·exact K4 e
   ·
     obtain⟨k,l⟩:=p
     rw[hx]at e
     obtain⟨a,vs,its,rfl,rfl,rl,rr,sq,q⟩:=aG8 I h hx rx rv
     rcases hy:aB7 G dy with _|p'
     ·
       rw[hy]at e
       dsimp only at e
       split at e
       · rename_i hs
         cases e
         exact(bJ6 hu0 sq ry ru hs).1
       ·exact K4 e
     ·
       obtain⟨k',l'⟩:=p'
       rw[hy]at e
       dsimp only at e
       obtain⟨a',vs',its',rfl,rfl,rl',rr',sq',q'⟩:=aG8 I h hy ry ru
       -- the two at one place
       have main:SeqAt.RcAt A s (.ref a) (.ref a') b∧SeqAt.RcNeAt A s (.ref a) (.ref a') (!b):=by
        have len1:its.toArray.size=l.length:=by rw[List.size_toArray,←rr.length,rl.length]
        have len2:its'.toArray.size=l'.length:=by rw[List.size_toArray,←rr'.length,rl'.length]
        by_cases hk:k=k'
        · subst hk
          rw[if_pos rfl]at e
          by_cases hlen:k=false∧l.length≠l'.length
          · rw[if_pos hlen]at e
            cases e
            obtain⟨rfl,hne⟩:=hlen
            have hz:(its.toArray.size != its'.toArray.size)=true:=by rw[len1,len2];simpa using hne
            exact⟨SeqAt.RcAt.lists_lengths sq sq' hz hu0,SeqAt.RcNeAt.lists_lengths sq sq' hz hu0⟩
          · rw[if_neg hlen]at e
            have items:∀j (h1:j<its.toArray.size) (h2:j<its'.toArray.size),∃e,eqN n G (l.getD j .non) (l'.getD j .non)=some e∧SeqAt.EqAt A.in1 s its.toArray[j] its'.toArray[j] e:=fun j h1 h2=>by
             have j1:j<l.length:=by rw[←len1];exact h1
             have j2:j<l'.length:=by rw[←len2];exact h2
             have g1:l[j]? =some l[j]:=List.getElem?_eq_getElem j1
             have g2:l'[j]? =some l'[j]:=List.getElem?_eq_getElem j2
             obtain⟨e1,he1⟩:=bS1 l l' b e j _ _ g1 g2
             obtain⟨v1,hv1,r1⟩:=rl.get g1
             obtain⟨v2,hv2,r2⟩:=rl'.get g2
             obtain⟨u1,hu1',ru1⟩:=rr.get hv1
             obtain⟨u2,hu2',ru2⟩:=rr'.get hv2
             have w1:its.toArray[j]=u1:=by
              have:its.toArray[j]? =some u1:=by simpa using hu1'
              rw[Array.getElem?_eq_getElem h1]at this
              exact Option.some.inj this
             have w2:its'.toArray[j]=u2:=by
              have:its'.toArray[j]? =some u2:=by simpa using hu2'
              rw[Array.getElem?_eq_getElem h2]at this
              exact Option.some.inj this
             rw[w1,w2]
             refine⟨e1,?_,(cJ3 I h n A.in1 hu1 r1 r2 ru1 ru2 he1).2.2⟩
             rw[List.getD_eq_getElem?_getD,List.getD_eq_getElem?_getD,g1,g2]
             exact he1
            have hr:=bY6 (e:=fun j=>(eqN n G (l.getD j .non) (l'.getD j .non)).getD false) l l' b e fun j x y g1 g2=>by
             obtain⟨e1,he1⟩:=bS1 l l' b e j x y g1 g2
             rw[List.getD_eq_getElem?_getD,List.getD_eq_getElem?_getD,g1,g2]
             simp only[Option.getD_some]
             rw[he1];rfl
            have he:∀j (h1:j<its.toArray.size) (h2:j<its'.toArray.size),SeqAt.EqAt A.in1 s its.toArray[j] its'.toArray[j] ((eqN n G (l.getD j .non) (l'.getD j .non)).getD false):=fun j h1 h2=>by
             obtain⟨e1,he1,hh⟩:=items j h1 h2
             rw[he1];exact hh
            rcases k with _|_
            ·
              have hl:l.length=l'.length:=Classical.byContradiction fun z=>hlen ⟨rfl,z⟩
              have hsz:its.toArray.size=its'.toArray.size:=by rw[len1,len2,hl]
              have z1:=SeqAt.RcAt.lists (A:=A) sq sq' hsz hu0 he
              have z2:=SeqAt.RcNeAt.lists (A:=A) sq sq' hsz hu0 he
              have hr2:b= (List.range its.toArray.size).all fun j=>(eqN n G (l.getD j .non) (l'.getD j .non)).getD false:=by
               rw[hr,len1,hl];simp
              rw[←hr2]at z1 z2
              exact⟨z1,z2⟩
            ·
              have z1:=SeqAt.RcAt.tuples (A:=A) sq sq' hu0 he
              have z2:=SeqAt.RcNeAt.tuples (A:=A) sq sq' hu0 he
              rw[len1,len2,←hr]at z1 z2
              exact⟨z1,z2⟩
        · rw[if_neg hk]at e
          cases e
          cases k<;>cases k'<;>first
           |exact absurd rfl hk
           |exact⟨SeqAt.RcAt.list_tuple sq sq' hu0,SeqAt.RcNeAt.list_tuple sq sq' hu0⟩
           |exact⟨SeqAt.RcAt.tuple_list sq sq' hu0,SeqAt.RcNeAt.tuple_list sq sq' hu0⟩
       refine⟨main.1,main.2,?_⟩
       by_cases ha:a=a'
       · subst ha
         have:b=true:=cL1 I h (n+1) rx ry rv e0
         rw[this]
         exact SeqAt.EqAt.same _
       ·exact SeqAt.EqAt.of_refs ha main.1
end
section
variable{X:Cx}{Z:XC}
def eqD:D→D→M D:=fun x y G=>match eqN 40 G x y with
 |some b=>some (.ok (.bl b),G)
 |none=>none
def neD:D→D→M D:=fun x y G=>match eqN 40 G x y with
 |some b=>some (.ok (.bl (!b)),G)
 |none=>none
theorem fD9(hu:X.A.units+64<cLine):OpD X Z (compareOp .Eq) eqD:=⟨by
 intro pins s σ H x y v u Q I rx ry hE0
 refine hE0.elim fun dx dy μ G rdx rdy hr p=>?_
 unfold eqD at p
 rcases e:eqN 40 G dx dy with _|b
 ·rw[e]at p;exact p.elim
 ·
   rw[e]at p
   exact(cJ3 I hr 40 X.A (by lia) rdx rdy rx ry e).1 X.prog X.w X.xe _ ⟨.bl b,H,I,rfl,d7.ok p hr _ ofB⟩⟩
theorem fF3(hu:X.A.units+64<cLine):OpD X Z (compareOp .NotEq) neD:=⟨by
 intro pins s σ H x y v u Q I rx ry hE0
 refine hE0.elim fun dx dy μ G rdx rdy hr p=>?_
 unfold neD at p
 rcases e:eqN 40 G dx dy with _|b
 ·rw[e]at p;exact p.elim
 ·
   rw[e]at p
   exact(cJ3 I hr 40 X.A (by lia) rdx rdy rx ry e).2.1 X.prog X.w X.xe _ ⟨.bl (!b),H,I,rfl,d7.ok p hr _ ofB⟩⟩
def leD:D→D→M D:=fun x y=>match x,y with
 | .int i,.int j=>pure (.bl (decide (i≤j)))
 | .str i,.str j=>pure (.bl (!decide (j.cps.toList<i.cps.toList)))
 |_,_=>M.stuck
def gtD:D→D→M D:=fun x y=>match x,y with
 | .int i,.int j=>pure (.bl (decide (j<i)))
 | .str i,.str j=>pure (.bl (decide (j.cps.toList<i.cps.toList)))
 |_,_=>M.stuck
theorem dA7{op:CmpOp}{fi:Int→Int→Bool}{fs:Str→Str→Bool}{o:D→D→M D}(hi:OpR X (compareOp op) (rI0 fun i j=>.bl (fi i j)))
 (hs:∀(i j:Str) (t u:Tok) (s:Shared) (Q:VSP) (E:VSP),Q (.bool (fs i j)) s→wpAny (model X.prog X.w) X.A (compareOp op (.str i t) (.str j u)) Q E s)
 (h1:∀i j,o (.int i) (.int j)=pure (.bl (fi i j))) (h2:∀i j,o (.str i) (.str j)=pure (.bl (fs i j)))
 (h3:∀x y,(∀i j,¬(x= .int i∧y= .int j))→(∀i j,¬(x= .str i∧y= .str j))→o x y=M.stuck):OpD X Z (compareOp op) o:=⟨by
 intro pins s σ H x y v u Q I rx ry hE0
 refine hE0.elim fun dx dy μ G rdx rdy hr p=>?_
 by_cases c1:∃i j,dx= .int i∧dy= .int j
 · obtain⟨i,j,rfl,rfl⟩:=c1
   rw[h1]at p
   exact hi pins s σ H x y v u Q I rx ry ⟨i,j,aM6 rdx,aM6 rdy,d7.ok p hr _ ofB⟩
 · by_cases c2:∃i j,dx= .str i∧dy= .str j
   · obtain⟨i,j,rfl,rfl⟩:=c2
     rw[h2]at p
     have e1:=bA7 rdx
     have e2:=bA7 rdy
     subst e1 e2
     obtain⟨t,rfl⟩:=rx
     obtain⟨t',rfl⟩:=ry
     exact hs i j t t' s _ _ ⟨.bl (fs i j),H,I,rfl,d7.ok p hr _ ofB⟩
   · rw[h3 dx dy (fun i j z=>c1 ⟨i,j,z⟩) (fun i j z=>c2 ⟨i,j,z⟩)]at p
     exact p.elim⟩
theorem fF0:OpD X Z (compareOp .LtE) leD:=dA7 fE1 (fun _ _ _ _ _ _ _ q=>PySem.P.le_str q) (fun _ _=>rfl) (fun _ _=>rfl) fun x y n1 n2=>by
 rcases x with _|_|_|_|_|_|_|_<;>rcases y with _|_|_|_|_|_|_|_<;>first
  |rfl
  |exact absurd ⟨rfl,rfl⟩ (n1 _ _)
  |exact absurd ⟨rfl,rfl⟩ (n2 _ _)
theorem fG3:OpD X Z (compareOp .Gt) gtD:=dA7 fG2 (fun _ _ _ _ _ _ _ q=>PySem.P.gt_str q) (fun _ _=>rfl) (fun _ _=>rfl) fun x y n1 n2=>by
 rcases x with _|_|_|_|_|_|_|_<;>rcases y with _|_|_|_|_|_|_|_<;>first
  |rfl
  |exact absurd ⟨rfl,rfl⟩ (n1 _ _)
  |exact absurd ⟨rfl,rfl⟩ (n2 _ _)
noncomputable def cF7:D→Bool
 | .non=>true
 |_=>false
theorem cX2{c:Wc}{μ:List Addr}{H:Hp}{d:D}{v:V}(r:g8 c μ H d v):decide (v= .non)=cF7 d:=by
 cases d with
 |non=>rw[dO9 r];rfl
 |tup l=>unfold g8 at r;obtain⟨a,_,rfl,_⟩:=r;rfl
 |ref l=>unfold g8 at r;obtain⟨a,_,rfl⟩:=r;rfl
 |fn l=>unfold g8 at r;obtain⟨a,_,rfl⟩:=r;rfl
 |_=>unfold g8 at r;subst r;rfl
def dO8:D→M D:=fun x=>match x with
 | .int i=>pure (.int (-i))
 |_=>M.stuck
theorem eR1:UnD X Z (unaryOp .USub) dO8:=⟨by
 intro pins s σ H x v Q I rx hE0
 refine hE0.elim fun dx μ G rdx hr p=>?_
 cases dx<;>first
  |exact p.elim
  |exact eY4 pins s σ H x v Q I rx ⟨_,aM6 rdx,d7.ok p hr _ ofI⟩⟩
noncomputable instance (x:Str) (n:Int):Decidable (PySem.MulOk x n):=by unfold PySem.MulOk;infer_instance
def cH1:D→D→M D:=fun x y=>match x,y with
 | .int i,.int j=>if bU7 i j then pure (.int (i*j))else M.stuck
 | .str x,.int n=>if PySem.MulOk x n then pure (.str (Txt.mul x n))else M.stuck
 |_,_=>M.stuck
theorem cT0:OpR X (binaryOp .Mult) (fun x y H Q=>∃z n,x= .str z∧y= .int n∧PySem.MulOk z n∧Q (.str (Txt.mul z n)) H):=by
 intro pins s σ H x y v u Q I rx ry h
 obtain⟨z,n,rfl,rfl,hk,q⟩:=h
 obtain⟨t,rfl⟩:=rx
 obtain⟨t',rfl⟩:=ry
 exact PySem.SB.mul hk fun t' k=>⟨.str _,H,I.tok _,⟨_,rfl⟩,q⟩
theorem eT6:OpD X Z (binaryOp .Mult) cH1:=
 OpD.of (OpR.or eO6 cT0) fun x y H Q hE0=>hE0.elim fun dx dy μ G rdx rdy hr p=>by
  rcases dx with _|_|_|_|_|_|_|_<;>rcases dy with _|_|_|_|_|_|_|_<;>first
   |exact p.elim
   |skip
  · unfold cH1 at p
    dsimp only at p
    split at p
    ·rename_i hc;exact .inl ⟨_,_,aM6 rdx,aM6 rdy,hc,d7.ok p hr _ ofI⟩
    ·exact p.elim
  · unfold cH1 at p
    dsimp only at p
    split at p
    ·rename_i hc;exact .inr ⟨_,_,bA7 rdx,aM6 rdy,hc,d7.ok p hr _ ofS⟩
    ·exact p.elim
end
noncomputable def cR3(A:Around)(s:Shared)(y x:Value)(b:Bool):Prop:=
 ∀(prog:Program) (w:World) (E:VSP) (Q:VSP),Q (.bool b) s→wpAny (model prog w) A (richCompare .Lt y x) Q E s
inductive LtR(A:Around)(s:Shared):List Value→List Value→Bool→Prop
 |nil:LtR A s [] [] false
 |nilc {y ys}:LtR A s [] (y::ys) true
 |cnil {x xs}:LtR A s (x::xs) [] false
 |eq {x y xs ys b}:SeqAt.EqAt A s x y true→LtR A s xs ys b→LtR A s (x::xs) (y::ys) b
 |ne {x y xs ys b}:SeqAt.EqAt A s x y false→cR3 A s x y b→LtR A s (x::xs) (y::ys) b
section
open PySem.SeqAt
open PySem.AutoSeq1 (wpAny_loadPart')
open PySem.MeetsSeq PySem.MeetsSeq2 PySem.MeetsSeq3
theorem cS7(l b:Addr)(items items2:Array Value)(n n2:Nat)(dd dd2:Option Addr)(sl sl2:Array (Option Value))(k:Bool):
 Meets (Builtin.«tuple.__lt__» ⟨[.ref l,.ref b], []⟩)
  (fun A R s=>s.heap.get? l=some {cls:=.type "tuple",dict:=dd,data:=.seq items n,slots:=sl}∧s.heap.get? b=some {cls:=.type "tuple",dict:=dd2,data:=.seq items2 n2,slots:=sl2}∧
    LtR A.in1 s items.toList items2.toList k∧R (.ok (.ret (.bool k))) s):=
 .of_wp fun prog w A R s h=>by
  obtain⟨hp,g,d,tk,os⟩:=s;obtain⟨hl,hb,hk,h⟩:=h
  have f2:=AutoSeq1.sub_tuple_tuple
  wp_walk using wpAny_loadPart' hl,wpAny_loadPart' hb,wpAny_forIn_list _ (fun V8 b s'=>b.1=none∧s'= ⟨hp,g,d,tk,os⟩∧∃(vs ws:List Value),V8=vs.zip ws∧
   vs.length+items2.size=ws.length+items.size∧LtR A.in1 ⟨hp,g,d,tk,os⟩ vs ws k) _
  case turn=>
   rintro⟨y,x⟩ V8 b s' ⟨hb',rfl,vs,ws,hz,hlen,hR⟩
   cases hR with
   |nil=>exact cJ5 hz
   |nilc=>exact cJ5 hz
   |cnil=>exact cJ5 hz
   |eq he hR'=>
     rw[List.zip_cons_cons]at hz
     injection hz with hyx hrest
     injection hyx with hy hx
     subst hy hx
     refine wpAny_bind (he prog w _ _ ?_)
     wp_walk
     simp only[List.length_cons]at hlen
     exact⟨rfl,rfl,_,_,hrest,by lia,hR'⟩
   |ne he hc=>
     rw[List.zip_cons_cons]at hz
     injection hz with hyx hrest
     injection hyx with hy hx
     subst hy hx
     refine wpAny_bind (he prog w _ _ ?_)
     have hri:=hc prog w
     wp_walk using hri
     exact⟨_,rfl,h⟩
  case fin=>
   rintro⟨b1,b2⟩ s' ⟨hb',rfl,vs,ws,hz,hlen,hR⟩
   simp only at hb'
   subst hb'
   have hv:k=decide (items.size<items2.size):=by
    cases hR with
    |nil=>simp only[List.length_nil]at hlen;exact(decide_eq_false (by lia)).symm
    |nilc=>simp only[List.length_nil,List.length_cons]at hlen;exact(decide_eq_true (by lia)).symm
    |cnil=>simp only[List.length_nil,List.length_cons]at hlen;exact(decide_eq_false (by lia)).symm
    |eq _ _=>rw[List.zip_cons_cons]at hz;exact cA1 hz
    |ne _ _=>rw[List.zip_cons_cons]at hz;exact cA1 hz
   rw[hv]at h
   wp_walk
   exact⟨_,rfl,by simpa [Builtin.Tuple.tupleCompareSizes]using h⟩
  case h=>
   exact⟨rfl,rfl,items.toList,items2.toList,rfl,by simp;lia,hk⟩
theorem dF8(l b:Addr)(items items2:Array Value)(n n2:Nat)(dd dd2:Option Addr)(sl sl2:Array (Option Value))(k:Bool):∀(vs ws:List Value) (i:Nat),items.toList.drop i=vs→items2.toList.drop i=ws→i≤items.size→i≤items2.size→
 Meets (Builtin.«list.__eq__.loop» ⟨[.ref l,.ref b,rawInt i,rawInt 0], []⟩)
  (fun A R s=>s.heap.get? l=some {cls:=.type "list",dict:=dd,data:=.seq items n,slots:=sl}∧s.heap.get? b=some {cls:=.type "list",dict:=dd2,data:=.seq items2 n2,slots:=sl2}∧
    LtR A.in1 s vs ws k∧R (.ok (.ret (.bool k))) s):=by
 have dropn:∀(a:Array Value) (i:Nat),a.toList.drop i= []→i≤a.size→i=a.size:=fun a i e hi=>by
  have:=List.drop_eq_nil_iff.mp e
  simp at this;lia
 have dropc:∀(a:Array Value) (i:Nat) (v:Value) (r:List Value),a.toList.drop i=v::r→i<a.size∧a[((i:Nat):Int).toNat]? =some v∧a.toList.drop (i+1)=r:=fun a i v r e=>by
  have hlt:i<a.toList.length:=by
   rcases Nat.lt_or_ge i a.toList.length with q|q
   ·exact q
   ·rw[List.drop_eq_nil_of_le q]at e;exact cA1 e
  rw[List.drop_eq_getElem_cons hlt]at e
  injection e with e1 e2
  refine⟨by simpa using hlt,?_,e2⟩
  simp at hlt
  simp[hlt]
  simpa using e1
 intro vs
 induction vs with
 |nil=>
   intro ws i hv hw hi hi2 prog w A R s h
   obtain⟨hp,g,d,tk,os⟩:=s;obtain⟨hl,hb,he,h⟩:=h
   have e1:=dropn items i hv hi
   wp_walk using wpAny_loadPart' hl,wpAny_loadPart' hb
   have hi1:items[((i:Nat):Int).toNat]? =none:=by simp;lia
   rw[hi1]
   rcases ws with _|⟨y,ys⟩
   ·
     have e2:=dropn items2 i hw hi2
     cases he
     wp_walk using wpAny_loadPart' hl,wpAny_loadPart' hb
     show R (.ok (.ret (.bool (decide (items.size<items2.size))))) _
     rw[decide_eq_false (by lia)]
     exact h
   ·
     obtain⟨hlt,_,_⟩:=dropc items2 i y ys hw
     cases he
     wp_walk using wpAny_loadPart' hl,wpAny_loadPart' hb
     show R (.ok (.ret (.bool (decide (items.size<items2.size))))) _
     rw[decide_eq_true (by lia)]
     exact h
 |cons x xs ih=>
   intro ws i hv hw hi hi2 prog w A R s h
   obtain⟨hp,g,d,tk,os⟩:=s;obtain⟨hl,hb,he,h⟩:=h
   obtain⟨hlt,g1,d1⟩:=dropc items i x xs hv
   wp_walk using wpAny_loadPart' hl,wpAny_loadPart' hb
   rcases ws with _|⟨y,ys⟩
   ·
     have e2:=dropn items2 i hw hi2
     have hi2':items2[((i:Nat):Int).toNat]? =none:=by simp;lia
     rw[g1,hi2']
     cases he
     wp_walk using wpAny_loadPart' hl,wpAny_loadPart' hb
     show R (.ok (.ret (.bool (decide (items.size<items2.size))))) _
     rw[decide_eq_false (by lia)]
     exact h
   ·
     obtain⟨hlt2,g2,d2⟩:=dropc items2 i y ys hw
     have hc:((i:Int)+1)= ((i+1:Nat):Int):=by push_cast;rfl
     rw[g1,g2]
     cases he with
     |eq he he'=>
       refine wpAny_bind (he prog w _ _ ?_)
       wp_walk
       rw[hc]
       exact⟨plainId_quiet plain_eq_loop _,codeAny_builtin entry_eq_loop (by
        rw[Around.under_plainId plain_eq_loop _]
        exact ih ys (i+1) d1 d2 (by lia) (by lia) prog w A R _ ⟨hl,hb,he',h⟩)⟩
     |ne he hcmp=>
       refine wpAny_bind (he prog w _ _ ?_)
       have hri:=hcmp prog w
       wp_walk using wpAny_loadPart' hl,wpAny_loadPart' hb
       rw[g1,g2]
       wp_walk using hri
       exact h
theorem dD3(l b:Addr)(items items2:Array Value)(n n2:Nat)(dd dd2:Option Addr)(sl sl2:Array (Option Value))(k:Bool):
 Meets (Builtin.«list.__lt__» ⟨[.ref l,.ref b], []⟩)
  (fun A R s=>s.heap.get? l=some {cls:=.type "list",dict:=dd,data:=.seq items n,slots:=sl}∧s.heap.get? b=some {cls:=.type "list",dict:=dd2,data:=.seq items2 n2,slots:=sl2}∧
    LtR A.in1 s items.toList items2.toList k∧R (.ok (.ret (.bool k))) s):=by
 intro prog w A R s h
 obtain⟨hp,g,d,tk,os⟩:=s;obtain⟨hl,hb,he,h⟩:=h
 have f3:=AutoSeq1.sub_list_list
 wp_walk using wpAny_loadPart' hl,wpAny_loadPart' hb
 exact⟨plainId_quiet plain_eq_loop _,codeAny_builtin entry_eq_loop (by
  rw[Around.under_plainId plain_eq_loop _]
  exact dF8 l b items items2 n n2 dd dd2 sl sl2 k items.toList items2.toList 0 rfl rfl (Nat.zero_le _) (Nat.zero_le _) prog w A R _ ⟨hl,hb,he,h⟩)⟩
end
noncomputable def ltS:D→D→Option Bool
 | .int a,.int b=>some (decide (a<b))
 | .str a,.str b=>some (decide (a.cps.toList<b.cps.toList))
 | .bl a,.bl b=>some (decide (b2i a<b2i b))
 |_,_=>none
noncomputable def ltL(eq lt:D→D→Option Bool):List D→List D→Option Bool
 |[], []=>some false
 |[],_::_=>some true
 |_::_, []=>some false
 |x::xs,y::ys=>match eq x y with
   |some true=>ltL eq lt xs ys
   |some false=>lt x y
   |none=>none
def ltN:Nat→DH→D→D→Option Bool
 |0,_,_,_=>none
 |n+1,G,x,y=>match aB7 G x,aB7 G y with
   |some (k1,a),some (k2,b)=>if k1=k2 then ltL (eqN n G) (ltN n G) a b else none
   |none,none=>ltS x y
   |_,_=>none
theorem fF2{n:Nat}{G:DH}{x y:D}:ltN (n+1) G x y=match aB7 G x,aB7 G y with
 |some (k1,a),some (k2,b)=>if k1=k2 then ltL (eqN n G) (ltN n G) a b else none
 |none,none=>ltS x y
 |_,_=>none:=rfl
section
variable{X:Cx}{Z:XC}{pins:PNS}{σ:St}{H:Hp}{s:Shared}{μ:List Addr}{G:DH}
theorem fA1{A:Around}{dx dy:D}{x y:V}{v u:Value}{b:Bool}{c:Wc}(rx:g8 c μ H dx x)(ry:g8 c μ H dy y)(rv:J2 x v)(ru:J2 y u)(e:ltS dx dy=some b):cR3 A s v u b:=by
 intro prog w E Q hq
 rcases dx with _|_|_|_|_|_|_|_<;>rcases dy with _|_|_|_|_|_|_|_<;>first
  |(cases e;done)
  |skip
 · cases e
   unfold g8 at rx ry;subst rx ry;cases rv;cases ru
   exact(lt_bool hq:wpAny (model prog w) A (compareOp .Lt _ _) Q E s)
 · cases e
   unfold g8 at rx ry;subst rx ry;obtain⟨t,rfl⟩:=rv;obtain⟨t',rfl⟩:=ru
   exact(lt_int hq:wpAny (model prog w) A (compareOp .Lt _ _) Q E s)
 · cases e
   unfold g8 at rx ry;subst rx ry;obtain⟨t,rfl⟩:=rv;obtain⟨t',rfl⟩:=ru
   exact(lt_str hq:wpAny (model prog w) A (compareOp .Lt _ _) Q E s)
theorem eL9(I:Inv X pins σ H s)(h:t8 (wc X) μ G H):∀(n:Nat) (A:Around),A.units+n<cLine→∀ {dx dy:D} {x y:V} {v u:Value} {b:Bool},g8 (wc X) μ H dx x→g8 (wc X) μ H dy y→J2 x v→J2 y u→ltN n G dx dy=some b→cR3 A s v u b
 |0,_,_,_,_,_,_,_,_,_,_,_,_,_,e=>by exact K4 e
 |n+1,A,hu,dx,dy,x,y,v,u,b,rx,ry,rv,ru,e=>by
   have hu0:A.units<cLine:=by lia
   have hu1:A.in1.units+n<cLine:=by show A.units+1+n<cLine;lia
   rw[fF2]at e
   rcases hx:aB7 G dx with _|p
   ·
     rw[hx]at e
     rcases hy:aB7 G dy with _|p
     ·rw[hy]at e;exact fA1 rx ry rv ru e
     ·rw[hy]at e;exact K4 e
   ·
     obtain⟨k,l⟩:=p
     rw[hx]at e
     rcases hy:aB7 G dy with _|p'
     ·rw[hy]at e;exact K4 e
     ·
       obtain⟨k',l'⟩:=p'
       rw[hy]at e
       dsimp only at e
       split at e
       case isFalse=>exact K4 e
       rename_i hk
       subst hk
       obtain⟨a,vs,its,rfl,rfl,rl,rr,sq,q⟩:=aG8 I h hx rx rv
       obtain⟨a',vs',its',rfl,rfl,rl',rr',sq',q'⟩:=aG8 I h hy ry ru
       have main:∀(l l':List D) (vs vs':List V) (its its':List Value),o5 (wc X) μ H l vs→o5 (wc X) μ H l' vs'→w6 vs its→w6 vs' its'→ltL (eqN n G) (ltN n G) l l'=some b→LtR A.in1 s its its' b:=by
        intro l
        induction l with
        |nil=>
          intro l' vs vs' its its' r r' q q' e
          cases r;cases q
          rcases l' with _|⟨_,_⟩
          ·cases r';cases q';cases e;exact .nil
          ·
            obtain⟨_,_,rfl,_,_⟩:=r'
            cases q'
            cases e
            exact .nilc
        |cons d ds ih=>
          intro l' vs vs' its its' r r' q q' e
          obtain⟨v0,vr,rfl,r0,rt⟩:=r
          cases q with
          |cons q0 qt=>
            rcases l' with _|⟨d',ds'⟩
            ·cases r';cases q';cases e;exact .cnil
            ·
              obtain⟨v1,vr',rfl,r1,rt'⟩:=r'
              cases q' with
              |cons q1 qt'=>
                unfold ltL at e
                rcases he:eqN n G d d' with _|b0
                ·rw[he]at e;exact K4 e
                ·
                  rw[he]at e
                  have hE:=(cJ3 I h n A.in1 hu1 r0 r1 q0 q1 he).2.2
                  rcases b0 with _|_
                  ·exact .ne hE (eL9 I h n A.in1 hu1 r0 r1 q0 q1 e)
                  ·exact .eq hE (ih ds' vr vr' _ _ rt rt' qt qt' e)
       have hR:=main l l' vs vs' its its' rl rl' rr rr' e
       intro prog w E Q hq
       rcases k with _|_
       ·
         obtain⟨⟨cls,dd,data,sl⟩,ho,hc,m,hd⟩:=id sq
         obtain⟨⟨cls2,dd2,data2,sl2⟩,ho2,hc2,m2,hd2⟩:=id sq'
         simp only at hc hd hc2 hd2
         subst hc hd hc2 hd2
         exact richCompare_meets_room (op:=.Lt) ⟨_,ho,rfl⟩ ⟨_,ho2,rfl⟩ PySem.F.slot_list_lt PySem.F.entry_list_lt (PySem.F.args_list_lt_2 _ _) (dD3 a a' its.toArray its'.toArray m m2 dd dd2 sl sl2 b)
          ⟨ho,ho2,hR,show Value.bool b≠Value.notImplemented∧Q (.bool b) s from⟨(fun x=>nomatch x),hq⟩⟩ hu0
       ·
         obtain⟨⟨cls,dd,data,sl⟩,ho,hc,m,hd⟩:=id sq
         obtain⟨⟨cls2,dd2,data2,sl2⟩,ho2,hc2,m2,hd2⟩:=id sq'
         simp only at hc hd hc2 hd2
         subst hc hd hc2 hd2
         exact richCompare_meets_room (op:=.Lt) ⟨_,ho,rfl⟩ ⟨_,ho2,rfl⟩ PySem.F.slot_tuple_lt PySem.F.entry_tuple_lt (PySem.F.args_tuple_lt_2 _ _) (cS7 a a' its.toArray its'.toArray m m2 dd dd2 sl sl2 b)
          ⟨ho,ho2,hR,show Value.bool b≠Value.notImplemented∧Q (.bool b) s from⟨(fun x=>nomatch x),hq⟩⟩ hu0
def ltD:D→D→M D:=fun x y G=>match ltN 40 G x y with
 |some b=>some (.ok (.bl b),G)
 |none=>none
theorem fF4(hu:X.A.units+64<cLine):OpD X Z (compareOp .Lt) ltD:=⟨by
 intro pins s σ H x y v u Q I rx ry hE0
 refine hE0.elim fun dx dy μ G rdx rdy hr p=>?_
 unfold ltD at p
 rcases e:ltN 40 G dx dy with _|b
 ·rw[e]at p;exact p.elim
 ·
   rw[e]at p
   exact eL9 I hr 40 X.A (by lia) rdx rdy rx ry e X.prog X.w X.xe _ ⟨.bl b,H,I,rfl,d7.ok p hr _ ofB⟩⟩
end
noncomputable def aA6:D→Bool
 | .non=>true
 | .bl _=>true
 | .int _=>true
 | .str _=>true
 |_=>false
noncomputable def toV:D→V
 | .bl b=>.bl b
 | .int i=>.int i
 | .str x=>.str x
 |_=>.non
noncomputable def cE8:D→Option Key
 | .int i=>some (.inl i)
 | .str x=>some (.inr x)
 |_=>none
noncomputable def W4(l:List (Key×D))(k:Key):Option D:=(l.find? fun kv=>decide (kv.1=k)).map (·.2)
def inB(x y:D)(G:DH):Option Bool:=match y with
 | .str j=>match x with
   | .str i=>some (!(Builtin.Str.occurrences j i 0 j.length 1).isEmpty)
   |_=>none
 | .ref r=>match G[r]? with
   |some (.dct l)=>(cE8 x).map fun k=>(W4 l k).isSome
   |some (.rod _)=>none
   |some (.lst l)=>if aA6 x&&l.all aA6 then some (inV (toV x) (l.map toV))else none
   |some (.rol l)=>if aA6 x&&l.all aA6 then some (inV (toV x) (l.map toV))else none
   |none=>none
 | .tup l=>if aA6 x&&l.all aA6 then some (inV (toV x) (l.map toV))else none
 |_=>none
def inD:D→D→M D:=fun x y G=>match inB x y G with
 |some b=>some (.ok (.bl b),G)
 |none=>none
def bO7:D→D→M D:=fun x y G=>match inB x y G with
 |some b=>some (.ok (.bl (!b)),G)
 |none=>none
section
variable{X:Cx}{Z:XC}{c:Wc}{μ:List Addr}{H:Hp}{G:DH}
theorem cM1{d:D}{v:V}(f:aA6 d=true)(r:g8 c μ H d v):v=toV d∧aZ0 v=true:=by
 cases d<;>first
  |exact absurd (show false=true from f) Bool.false_ne_true
  |(unfold g8 at r;subst r;exact⟨rfl,rfl⟩)
theorem bX4:∀ {l:List D} {vs:List V},l.all aA6=true→o5 c μ H l vs→vs=l.map toV∧vs.all aZ0=true
 |[],_,_,r=>by cases r;exact⟨rfl,rfl⟩
 |d::ds,_,f,r=>by
   obtain⟨v,t,rfl,q,rt⟩:=r
   rw[List.all_cons,Bool.and_eq_true]at f
   obtain⟨e1,e2⟩:=cM1 f.1 q
   obtain⟨e3,e4⟩:=bX4 f.2 rt
   refine⟨by rw[List.map_cons,←e1,←e3],?_⟩
   rw[List.all_cons,e2,e4];rfl
theorem cG5{d:D}{k:Key}{v:V}(e:cE8 d=some k)(r:g8 c μ H d v):v=kV k:=by
 cases d<;>first
  |(cases e;unfold g8 at r;exact r)
  |exact K4 e
theorem bH3{k:Key}:∀ {l:List (Key×D)} {kvs:List (Key×V)},aA9 c μ H l kvs→match W4 l k with|some d=>∃v,aX4 kvs k=some v∧g8 c μ H d v|none=>aX4 kvs k=none
 |[],_,r=>by cases r;exact rfl
 |(k',d)::t,_,r=>by
  obtain⟨v,kt,rfl,q,rt⟩:=r
  by_cases e:k'=k
  · have h1:W4 ((k',d)::t) k=some d:=by unfold W4;simp[e]
    rw[h1]
    exact⟨v,bF6 e,q⟩
  · have h1:W4 ((k',d)::t) k=W4 t k:=by unfold W4;simp[e]
    rw[h1]
    have ih:=bH3 (k:=k) rt
    rw[bG2 e]
    exact ih
theorem cV1{k:Key}{l:List (Key×D)}{kvs:List (Key×V)}(r:aA9 c μ H l kvs):(W4 l k).isSome= (aX4 kvs k).isSome:=by
 have q:=bH3 (k:=k) r
 rcases e:W4 l k with _|d
 ·rw[e]at q;rw[q];rfl
 ·rw[e]at q;obtain⟨v,q,_⟩:=q;rw[q];rfl
theorem eM3(hu:X.A.units+64<cLine){pins:PNS}{σ:St}{s:Shared}{x y:V}{v u:Value}{dx dy:D}{b:Bool}{Q:VK}(I:Inv X pins σ H s)(hr:t8 (wc X) μ G H)(rdx:g8 (wc X) μ H dx x)(rdy:g8 (wc X) μ H dy y)(rx:J2 x v)(ry:J2 y u)
 (e:inB dx dy G=some b):
 (Q (.bl b) H→wpAny (model X.prog X.w) X.A (compareOp .In v u) (EP X pins σ Q) X.xe s)∧(Q (.bl (!b)) H→wpAny (model X.prog X.w) X.A (compareOp .NotIn v u) (EP X pins σ Q) X.xe s):=by
 have seq:∀(p:Addr) (l:List D) (vs:List V),y= .ref p→(SqL X.K H p vs∨SqT X.K H p vs)→o5 (wc X) μ H l vs→(if (aA6 dx&&l.all aA6)=true then some (inV (toV dx) (l.map toV))else none)=some b→
  (Q (.bl b) H→wpAny (model X.prog X.w) X.A (compareOp .In v u) (EP X pins σ Q) X.xe s)∧(Q (.bl (!b)) H→wpAny (model X.prog X.w) X.A (compareOp .NotIn v u) (EP X pins σ Q) X.xe s):=by
  intro p l vs hy hq rl e
  split at e
  · rename_i hf
    rw[Bool.and_eq_true]at hf
    cases e
    obtain⟨e1,e2⟩:=cM1 hf.1 rdx
    obtain⟨e3,e4⟩:=bX4 hf.2 rl
    rw[←e1,←e3]
    exact⟨fun q=>dI0 pins s σ H x y v u Q I rx ry ⟨p,vs,hy,hq,e2,e4,q⟩,fun q=>cE2 pins s σ H x y v u Q I rx ry ⟨p,vs,hy,hq,e2,e4,q⟩⟩
  ·exact K4 e
 rcases dy with _|_|_|j|l|i|_|_<;>try (cases e;done)
 ·
   rcases dx with _|_|_|i|_|_|_|_<;>try (cases e;done)
   ·
     cases e
     have e1:=bA7 rdx
     have e2:=bA7 rdy
     exact⟨fun q=>dG8 pins s σ H x y v u Q I rx ry ⟨i,j,e1,e2,q⟩,fun q=>cB6 pins s σ H x y v u Q I rx ry ⟨i,j,e1,e2,q⟩⟩
 ·
   unfold g8 at rdy
   obtain⟨a,vs,hy,q,rl⟩:=rdy
   exact seq a l vs hy (.inr q) rl e
 ·
   unfold g8 at rdy
   obtain⟨a,m,hy⟩:=rdy
   rcases g:G[i]? with _|o
   ·unfold inB at e;simp only[g]at e;exact K4 e
   ·
     have ro:=hr.obj i o a g m
     rcases o with l|l|l|l
     ·
       obtain⟨vs,q,rl⟩:=ro
       unfold inB at e;simp only[g]at e
       exact seq a l vs hy (.inl (SqL.of q)) rl e
     ·
       obtain⟨vs,q,rl⟩:=ro
       unfold inB at e;simp only[g]at e
       exact seq a l vs hy (.inl q.sq) rl e
     ·
       obtain⟨kvs,q,rk⟩:=ro
       unfold inB at e;simp only[g]at e
       rcases hk:cE8 dx with _|k
       ·rw[hk]at e;exact K4 e
       ·
         rw[hk]at e
         cases e
         have ek:=cG5 hk rdx
         have dg:cJ9 H a x (aX4 kvs k):=by rw[ek];exact cJ9.k q
         subst hy
         cases ry
         dsimp only
         rw[cV1 rk]
         exact⟨fun q=>fO9 (by lia) I dg rx fun s' I'=>⟨.bl _,H,I',rfl,q⟩,fun q=>eC0 (by lia) I dg rx fun s' I'=>⟨.bl _,H,I',rfl,q⟩⟩
     ·unfold inB at e;simp only[g]at e;exact K4 e
theorem fB2(hu:X.A.units+64<cLine):OpD X Z (compareOp .In) inD:=⟨by
 intro pins s σ H x y v u Q I rx ry hE0
 refine hE0.elim fun dx dy μ G rdx rdy hr p=>?_
 unfold inD at p
 rcases e:inB dx dy G with _|b
 ·rw[e]at p;exact p.elim
 ·rw[e]at p;exact(eM3 hu I hr rdx rdy rx ry e).1 (d7.ok p hr _ ofB)⟩
theorem dJ5(hu:X.A.units+64<cLine):OpD X Z (compareOp .NotIn) bO7:=⟨by
 intro pins s σ H x y v u Q I rx ry hE0
 refine hE0.elim fun dx dy μ G rdx rdy hr p=>?_
 unfold bO7 at p
 rcases e:inB dx dy G with _|b
 ·rw[e]at p;exact p.elim
 ·rw[e]at p;exact(eM3 hu I hr rdx rdy rx ry e).2 (d7.ok p hr _ ofB)⟩
inductive Ty where
 |int|bool|str|tuple|list|dict
 deriving DecidableEq
noncomputable def Ty.name:Ty→String
 | .int=> "int"| .bool=> "bool"| .str=> "str"| .tuple=> "tuple"| .list=> "list"| .dict=> "dict"
noncomputable def Ty.of(n:String):Option Ty:=if n= "int" then some .int else if n= "bool" then some .bool else if n= "str" then some .str else if n= "tuple" then some .tuple else if n= "list" then some .list else if n= "dict" then some .dict else none
theorem Ty.of_name{n:String}{T:Ty}(h:Ty.of n=some T):n=T.name:=by
 unfold Ty.of at h
 split at h
 ·rename_i e;cases h;exact e
 split at h
 ·rename_i e;cases h;exact e
 split at h
 ·rename_i e;cases h;exact e
 split at h
 ·rename_i e;cases h;exact e
 split at h
 ·rename_i e;cases h;exact e
 split at h
 ·rename_i e;cases h;exact e
 ·exact K4 h
inductive Kd where
 |non|bool|int|str|tuple|list|dict
noncomputable def Kd.is:Kd→Ty→Bool
 | .bool,.int=>true
 | .bool,.bool=>true
 | .int,.int=>true
 | .str,.str=>true
 | .tuple,.tuple=>true
 | .list,.list=>true
 | .dict,.dict=>true
 |_,_=>false
def Kd.name:Kd→String
 | .non=> "NoneType"| .bool=> "bool"| .int=> "int"| .str=> "str"| .tuple=> "tuple"| .list=> "list"| .dict=> "dict"
noncomputable def dG2(G:DH):D→Option Kd
 | .non=>some .non
 | .bl _=>some .bool
 | .int _=>some .int
 | .str _=>some .str
 | .tup _=>some .tuple
 | .ref i=>match G[i]? with
   |some (.lst _)=>some .list
   |some (.rol _)=>some .list
   |some (.dct _)=>some .dict
   |some (.rod _)=>some .dict
   |none=>none
 |_=>none
def bX5:List D→Option (List Ty)
 |[]=>some []
 | .ty n::r=>match Ty.of n,bX5 r with
   |some T,some Ts=>some (T::Ts)
   |_,_=>none
 |_=>none
def M8:List D→M D:=fun ds G=>match ds with
 |[d,.ty n]=>match dG2 G d,Ty.of n with
   |some k,some T=>some (.ok (.bl (k.is T)),G)
   |_,_=>none
 |[d,.tup l]=>match dG2 G d,bX5 l with
   |some k,some Ts=>some (.ok (.bl (Ts.any k.is)),G)
   |_,_=>none
 |_=>none
theorem eA0(K:PySem.W.Frag)(k:Kd)(T:Ty):PySem.W.kitOne K (.type k.name) (.type T.name)=some (k.is T):=by
 cases k<;>cases T<;>rfl
theorem dP6{A:Around}{E:VSP}{pins:PNS}{σ:St}{s:Shared}{d:D}{x:V}{v:Value}{k:Kd}(I:Inv X pins σ H s)(hr:t8 (wc X) μ G H)(r:g8 (wc X) μ H d x)(rv:J2 x v)(e:dG2 G d=some k):
 ∃HH:Heap→Prop,PySem.W.KitX X.K v (.type k.name) HH∧HH s.heap∧v≠ .builtin "__main__.__loader__#opaque":=by
 rcases d with _|b|b|b|l|i|_|_<;>try (cases e;done)
 ·cases e;unfold g8 at r;subst r;cases rv;exact⟨_,PySem.W.kitx_none,True.intro,fun z=>nomatch z⟩
 ·cases e;unfold g8 at r;subst r;cases rv;exact⟨_,PySem.W.kitx_bool,True.intro,fun z=>nomatch z⟩
 ·cases e;unfold g8 at r;subst r;obtain⟨t,rfl⟩:=rv;exact⟨_,PySem.W.kitx_int,True.intro,fun z=>nomatch z⟩
 ·cases e;unfold g8 at r;subst r;obtain⟨t,rfl⟩:=rv;exact⟨_,PySem.W.kitx_str,True.intro,fun z=>nomatch z⟩
 ·
   cases e
   unfold g8 at r
   obtain⟨a,vs,rfl,q,_⟩:=r
   cases rv
   obtain⟨its,_,⟨o,h1,h2,_⟩,_⟩:=I.tuple q
   exact⟨_,PySem.W.kitx_tuple,⟨o,h1,h2⟩,fun z=>nomatch z⟩
 ·
   unfold g8 at r
   obtain⟨a,m,rfl⟩:=r
   cases rv
   unfold dG2 at e
   rcases g:G[i]? with _|o
   ·simp only[g]at e;exact K4 e
   ·
     have ro:=hr.obj i o a g m
     simp only[g]at e
     rcases o with l|l|l|l
     ·
       cases e
       obtain⟨vs,q,_⟩:=ro
       obtain⟨its,_,⟨o,n,h1,h2,_⟩,_⟩:=I.list (SqL.of q)
       exact⟨_,PySem.W.kitx_list,⟨o,h1,h2⟩,fun z=>nomatch z⟩
     ·
       cases e
       obtain⟨vs,q,_⟩:=ro
       obtain⟨its,_,⟨o,n,h1,h2,_⟩,_⟩:=I.list q.sq
       exact⟨_,PySem.W.kitx_list,⟨o,h1,h2⟩,fun z=>nomatch z⟩
     ·
       cases e
       obtain⟨kvs,q,_⟩:=ro
       obtain⟨_,_,vs,_,o,es,ep,h1,h2,_⟩:=(show U9 X.prog X.w H s.heap a (.dK kvs)from I.hok a _ q)
       exact⟨_,PySem.W.kitx_dict,⟨o,h1,h2.1⟩,fun z=>nomatch z⟩
     ·
       cases e
       obtain⟨kvs,ob,q,_⟩:=ro
       obtain⟨_,_,_,vs,_,o,es,ep,h1,h2,_⟩:=(show U9 X.prog X.w H s.heap a (.frz ob (.dK kvs))from I.hok a _ q)
       exact⟨_,PySem.W.kitx_dict,⟨o,h1,h2.1⟩,fun z=>nomatch z⟩
theorem dA3:∀ {l:List D} {vs:List V} {us:List Value} {Ts:List Ty},bX5 l=some Ts→o5 c μ H l vs→w6 vs us→us=Ts.map fun T=>.type T.name
 |[],_,_,_,e,r,q=>by cases e;cases r;cases q;rfl
 |d::ds,_,_,Ts,e,r,q=>by
   obtain⟨v,t,rfl,r0,rt⟩:=r
   cases q with
   |cons q0 qt=>
     rcases d with _|_|_|_|_|_|_|n<;>try (cases e;done)
     ·
       replace e:(match Ty.of n,bX5 ds with|some T,some Ts=>some (T::Ts)|_,_=>none)=some Ts:=e
       rcases h1:Ty.of n with _|T
       ·rw[h1]at e;exact K4 e
       ·
         rcases h2:bX5 ds with _|Ts'
         ·rw[h1,h2]at e;exact K4 e
         ·
           rw[h1,h2]at e
           cases e
           unfold g8 at r0
           subst r0
           rw[dA3 h2 rt qt,List.map_cons,show _=Value.type n from q0,Ty.of_name h1]
theorem cY4(K:PySem.W.Frag)(k:Kd):∀Ts:List Ty,PySem.W.kitAny K (.type k.name) (Ts.map fun T=>.type T.name)=some (Ts.any k.is)
 |[]=>rfl
 |T::Ts=>by
   have ih:=cY4 K k Ts
   cases k<;>cases T<;>first
    |rfl
    |exact ih
theorem dD9:aD0 X Z (.builtin "isinstance") M8:=⟨by
 intro pins s σ H xs us Q I r hE0
 obtain⟨ds,μ,G,rl,hr,p⟩:=hE0
 rcases ds with _|⟨d,_|⟨_|_|_|_|l|_|_|n,_|⟨_,_⟩⟩⟩<;>try exact p.elim
 all_goals (delta M8 at p;dsimp only at p)
 · obtain⟨v,t,rfl,r0,v1,t1,rfl,r1,e⟩:=rl
   cases e
   obtain⟨u,u',rfl,ru,ru'⟩:=cZ1 r
   unfold g8 at r1
   obtain⟨a,vs,rfl,q,rll⟩:=r1
   cases ru'
   rcases hk:dG2 G d with _|k
   ·rw[hk]at p;exact p.elim
   ·
     rcases hT:bX5 l with _|Ts
     ·rw[hk,hT]at p;exact p.elim
     ·
       rw[hk,hT]at p
       obtain⟨HH,kx,hh,hne⟩:=dP6 (A:=X.A) (E:=X.xe) I hr r0 ru hk
       obtain⟨its,rr,⟨⟨cls,dd,data,sl⟩,h1,h2,n,h3⟩,_⟩:=I.tuple q
       simp only at h2 h3
       subst h2 h3
       exact PySem.W.kia_tup kx I.kIn hh h1 (by rw[dA3 hT rll rr];exact cY4 X.K k Ts) hne fun tk=>⟨.bl _,H,I.tok tk,rfl,d7.ok p hr _ ofB⟩
 · obtain⟨v,t,rfl,r0,v1,t1,rfl,r1,e⟩:=rl
   cases e
   obtain⟨u,u',rfl,ru,ru'⟩:=cZ1 r
   unfold g8 at r1
   subst r1
   cases ru'
   rcases hk:dG2 G d with _|k
   ·rw[hk]at p;exact p.elim
   ·
     rcases hT:Ty.of n with _|T
     ·rw[hk,hT]at p;exact p.elim
     ·
       rw[hk,hT]at p
       rw[Ty.of_name hT]
       obtain⟨HH,kx,hh,hne⟩:=dP6 (A:=X.A) (E:=X.xe) I hr r0 ru hk
       exact PySem.W.kia_one kx I.kIn hh (eA0 X.K k T) hne fun tk=>⟨.bl _,H,I.tok tk,rfl,d7.ok p hr _ ofB⟩⟩
end
theorem cW0{c:Wc}{μ:List Addr}{H:Hp}{l:List D}{vs:List V}{i:Int}{d:D}(r:o5 c μ H l vs)(e:atI l i=some d):∃v,atI vs i=some v∧g8 c μ H d v:=by
 unfold atI at e ⊢
 rw[←r.length]
 cases h:ixN l.length i with
 |none=>rw[h]at e;cases e
 |some j=>
   rw[h]at e
   obtain⟨v,h1,h2⟩:=r.get e
   exact⟨v,h1,h2⟩
def ixD:D→D→M D:=fun x y=>match x,y with
 | .tup l,.int i=>aS5 (atI l i)
 | .str z,.int i=>if z.length≤sizeLine then do
    let c ←aS5 (atI z.cps.toList i)
    pure (.str ⟨#[c]⟩)
   else M.stuck
 | .ref r,.int i=>do
   let l ←Q7 r >>= listOf
   aS5 (atI l i)
 |_,_=>M.stuck
section
variable{X:Cx}{Z:XC}{a b e:Expr}{fa fb:Fe}{pos:Pos}
def IxD(X:Cx)(Z:XC)(o:D→D→M D):Prop:=IxR X (bG8 (wc X) Z o)
theorem eS6{o:D→D→M D}(ho:IxD X Z o)(ha:DE X Z a fa)(hb:DE X Z b fb)(hs:cH4 b):DE X Z (.Subscript a b pos) (d9 o fa fb):=DE.of (fC6 ho ha.h hb.h hs) bF7
theorem cI6{c:Wc}{μ:List Addr}{H:Hp}{G:DH}{r:Option D}{K:D→List Addr→DH→Hp→Prop}(h:t8 c μ G H)(p:d7 c Z μ H (aS5 r G) K):∃d,r=some d∧K d μ G H:=by
 cases r with
 |none=>exact p.elim
 |some d=>exact⟨d,rfl,d7.ok p h⟩
theorem fD3:IxD X Z ixD:=IxR.mono (eD3.or (ix_tup.or eP0)) fun x y H Q hE0=>hE0.elim fun dx dy μ G rx ry hr p=>by
 rcases dx with _|_|_|_|_|_|_|_<;>rcases dy with _|_|_|_|_|_|_|_<;>first
  |exact p.elim
  |skip
 · rename_i z i
   refine .inr (.inr ?_)
   unfold ixD at p
   dsimp only at p
   split at p
   · rename_i hz
     obtain⟨c,ec,p2⟩:=aC1 p
     exact⟨z,i,c,bA7 rx,aM6 ry,hz,ec,d7.ok p2 hr _ ofS⟩
   ·exact p.elim
 · rename_i l i
   refine .inr (.inl ?_)
   unfold g8 at rx
   obtain⟨a,vs,rfl,q,rl⟩:=rx
   obtain⟨d,ed,k⟩:=cI6 hr p
   obtain⟨v,ev,rv⟩:=cW0 rl ed
   exact⟨a,vs,i,v,rfl,aM6 ry,q,ev,k v rv⟩
 · rename_i r i
   refine .inl ?_
   obtain⟨l,a,vs,rfl,rl,p2,hq⟩:=bG7 (d:=.ref r) (f:=fun l=>aS5 (atI l i)) hr rx p
   obtain⟨d,ed,k⟩:=cI6 hr p2
   obtain⟨v,ev,rv⟩:=cW0 rl ed
   rcases hq with⟨z,_⟩|⟨_,_,_,⟨_,q⟩|⟨_,q⟩⟩
   ·cases z
   ·exact⟨a,vs,i,v,rfl,aM6 ry,SqL.of q,ev,k v rv⟩
   ·exact⟨a,vs,i,v,rfl,aM6 ry,q.sq,ev,k v rv⟩
theorem fJ4(ha:DE X Z a fa)(hb:DE X Z b fb)(hs:cH4 b):DE X Z (.Subscript a b pos) (d9 ixD fa fb):=eS6 fD3 ha hb hs
def cutD(xs:List D)(lo hi:Option Int):List D:=(xs.drop (HT.sIx xs.length 0 lo)).take (HT.sIx xs.length xs.length hi-HT.sIx xs.length 0 lo)
abbrev Fo:=DSt→M (Option Int)
def aQ3:Fo:=fun _=>pure none
def aR6(f:Fe):Fo:=fun σ=>do
 match ←f σ with
 | .int i=>pure (some i)
 |_=>M.stuck
def cW1(c:Wc)(Z:XC)(f:Fo):TO:=fun σ H Q=>∃dσ μ G,M5 c μ H dσ σ∧t8 c μ G H∧d7 c Z μ H (f dσ G) fun o _ _ H'=>Q o H'
theorem cW1.elim{c:Wc}{Z:XC}{P:Prop}{f:Fo}{σ:St}{H:Hp}{Q:Option Int→Hp→Prop}(h:cW1 c Z f σ H Q)(k:∀dσ μ G,M5 c μ H dσ σ→t8 c μ G H→d7 c Z μ H (f dσ G) (fun o _ _ H'=>Q o H')→P):P:=by
 obtain⟨e0,e1,e2,e3,e4,e5⟩:=h
 exact k e0 e1 e2 e3 e4 e5
structure DOp(X:Cx)(Z:XC)(e:Option Expr)(f:Fo):Prop where
 h:PO X e (cW1 (wc X) Z f)
theorem PO.mono{e:Option Expr}{t t':TO}(h:PO X e t)(k:∀ σ H Q,t' σ H Q→t σ H Q):PO X e t':=fun pins s σ H Q I q=>h pins s σ H Q I (k σ H Q q)
theorem DOp.of{e:Option Expr}{f:Fo}{t:TO}(h:PO X e t)(k:∀ σ H Q,cW1 (wc X) Z f σ H Q→t σ H Q):DOp X Z e f:=⟨PO.mono h k⟩
theorem eI1:DOp X Z none aQ3:=DOp.of eA4 fun σ H Q hE0=>hE0.elim fun dσ μ G s h p=>d7.ok p h
theorem dY1(h:DE X Z e fa):DOp X Z (some e) (aR6 fa):=DOp.of (eC8 h.h) fun σ H Q hE0=>hE0.elim fun dσ μ G s h p=>⟨dσ,μ,G,s,h,(d7.bind p).mono fun d μ1 G1 H1 x1 h1 p1 v rv=>by
 cases d with
 |int i=>exact⟨i,aM6 rv,d7.ok p1 h1⟩
 |_=>exact p1.elim⟩
def slD:D→Option Int→Option Int→M D:=fun x lo hi=>match x with
 | .tup l=>pure (.tup (cutD l lo hi))
 | .ref r=>do
   let l ←Q7 r >>= listOf
   R1 (.lst (cutD l lo hi))
 |_=>M.stuck
def SlD(X:Cx)(Z:XC)(o:D→Option Int→Option Int→M D):Prop:=
 SlR X fun x lo hi H Q=>∃dx μ G,g8 (wc X) μ H dx x∧t8 (wc X) μ G H∧d7 (wc X) Z μ H (o dx lo hi G) fun d μ' _ H'=>∀v,g8 (wc X) μ' H' d v→Q v H'
theorem SlR.mono{r r':V→Option Int→Option Int→Hp→VK→Prop}(h:SlR X r)(k:∀x lo hi H Q,r' x lo hi H Q→r x lo hi H Q):SlR X r':=fun pins s σ H x v vl vu lo hi sl Q I rx hs pl pu q=>h pins s σ H x v vl vu lo hi sl Q I rx hs pl pu (k x lo hi H Q q)
theorem aX5{prog:Program}{w:World}{A:Around}{E:VSP}{s:Shared}{t sl:Addr}{items:Array Value}{vl vu:Value}{lo hi:Option Int}{Q:VSP}(ht:IsTup s.heap t items)(hs:s.heap.IsSliceOf sl vl vu .none)(pl:IsPart vl lo)(pu:IsPart vu hi)
 (hw:HT.sIx items.size 0 lo=0∧HT.sIx items.size items.size hi=items.size) (h:Q (.ref t) s):wpAny (model prog w) A (getItem (.ref t) (.ref sl)) Q E s:=by
 obtain⟨os,hos,hcs,hds⟩:=id hs
 have hTs:s.TypeIs (.ref sl) "slice":=⟨os,hos,hcs⟩
 unfold getItem
 try with_reducible refine wpAny_holding ?_
 first|refine wpAny_bind (wpAny_pure ?_)|skip
 refine wpAny_bind (wpAny_sequenceKey ht.typeIs (by decide) ?_)
 refine wpAny_bind (wpAny_callSpecial?_slot (name:=Str.ofString "__getitem__") ht.typeIs PyProof.Rows.slot_tuple_getitem
  (wpAny_call_entry PyProof.Rows.slot_tuple_getitem ht.typeIs entry_tuple_getitem ?_ (args_tuple_getitem _ _)))
 show wpAny _ _ (Builtin.Tuple.tupleItemsOf (.ref t) >>= _) _ _ s
 refine wpAny_bind (tupleItemsOf_ ht ?_)
 refine wpAny_bind (wpAny_typeOf hTs ?_)
 rw[if_pos (by decide)]
 refine wpAny_bind (HT.sliceApplied_gen hs pl pu ?_)
 have hyes:(((HT.sIx items.size 0 lo:Nat):Int)==0&&(1:Int)==1&&(HT.sIx items.size items.size hi-HT.sIx items.size 0 lo)==items.size)=true:=by
  rw[hw.1,hw.2];simp
 show wpAny _ _ (if (((HT.sIx items.size 0 lo:Nat):Int)==0&&(1:Int)==1&&(HT.sIx items.size items.size hi-HT.sIx items.size 0 lo)==items.size)=true then _ else _) _ _ s
 rw[if_pos hyes]
 unfold Builtin.Tuple.tupleIsExact
 refine wpAny_bind (wpAny_bind (wpAny_typeOf ht.typeIs (wpAny_pure ?_)))
 rw[if_pos (by decide)]
 exact wpAny_bind (wpAny_rule (wpAny_pure ⟨_,rfl,wpAny_pure h⟩))
def fO0(K:PySem.W.Frag):V→Option Int→Option Int→Hp→VK→Prop:=fun x lo hi H Q=>∃a xs,x= .ref a∧SqT K H a xs∧(HT.sIx xs.length 0 lo=0∧HT.sIx xs.length xs.length hi=xs.length)∧Q (.ref a) H
theorem dZ7:SlR X (fO0 X.K):=by
 intro pins s σ H x v vl vu lo hi sl Q I rx hs pl pu h
 obtain⟨a,xs,rfl,hx,hw,q⟩:=h
 cases rx
 obtain⟨its,r,ht,hz⟩:=I.tuple hx
 have hlen:its.toArray.size=xs.length:=by rw[List.size_toArray];exact r.length.symm
 exact⟨"tuple",_,PyProof.Rows.slot_tuple_getitem.lookup,ht.typeIs,aX5 ht hs pl pu (by rw[hlen];exact hw) ⟨.ref a,H,I,rfl,q⟩⟩
theorem cF9{c:Wc}{μ:List Addr}{H:Hp}{l:List D}{vs:List V}(r:o5 c μ H l vs)(lo hi:Option Int):o5 c μ H (cutD l lo hi) (bW4 vs lo hi):=by
 unfold cutD bW4
 rw[r.length]
 exact(r.drop _).take _
theorem fG4:SlD X Z slD:=SlR.mono (sl_tup.or (dZ7.or eE4)) fun x lo hi H Q ⟨dx,μ,G,rx,hr,p⟩=>by
 rcases dx with _|_|_|_|l|r|_|_<;>try (exact p.elim;done)
 ·
   unfold g8 at rx
   obtain⟨a,vs,rfl,q,rl⟩:=rx
   by_cases hw:HT.sIx vs.length 0 lo=0∧HT.sIx vs.length vs.length hi=vs.length
   · refine .inr (.inl ⟨a,vs,rfl,q,hw,bH4 hr q ?_ p⟩)
     have e:bW4 vs lo hi=vs:=by unfold bW4;rw[hw.1,hw.2];simp
     have:=cF9 rl lo hi
     rw[e]at this
     exact this
   ·exact .inl ⟨a,vs,rfl,q,hw,fun p' hp=>bC2 hr (cF9 rl lo hi) p p' hp⟩
 ·
   obtain⟨l,a,vs,rfl,rl,p2,hq⟩:=bG7 (d:=.ref r) (f:=fun l=>R1 (.lst (cutD l lo hi))) hr rx p
   have hs:SqL (wc X).K H a vs:=by
    rcases hq with⟨z,_⟩|⟨_,_,_,⟨_,q⟩|⟨_,q⟩⟩
    ·cases z
    ·exact SqL.of q
    ·exact q.sq
   exact .inr (.inr ⟨a,vs,rfl,hs,fun p' hp=>aF5 hr (cF9 rl lo hi) p2 p' hp⟩)
variable{lo hi:Option Expr}{fl fh:Fo}{p2:Pos}
end
noncomputable def bM5(r:Nat)(o:DO):M Unit:=fun G=>some (.ok (),G.set r o)
noncomputable def bK3(l:List (Key×D))(k:Key)(d:D):List (Key×D):=if l.any (fun kv=>decide (kv.1=k))then l.map (fun kv=>if kv.1=k then (kv.1,d)else kv)else l++[(k,d)]
def dO1:D→D→D→M Unit:=fun o i d=>match o with
 | .ref r=>do
   match ←Q7 r with
   | .lst l=>match i with
     | .int k=>match ixN l.length k with
       |some j=>bM5 r (.lst (l.set j d))
       |none=>M.stuck
     |_=>M.stuck
   | .dct l=>match cE8 i with
     |some k=>if l.length<sizeLine then bM5 r (.dct (bK3 l k d))else M.stuck
     |none=>M.stuck
   | .rol _=>M.stuck
   | .rod _=>M.stuck
 |_=>M.stuck
def dF6(fo fi:Fe):Fg:=fun d σ=>do
 let o ←fo σ
 let i ←fi σ
 let _ ←dO1 o i d
 pure σ
section
variable{X:Cx}{Z:XC}{c:Wc}{μ:List Addr}{H:Hp}{G:DH}
theorem cI4{k:Key}{d:D}{v:V}(rv:g8 c μ H d v):∀ {l:List (Key×D)} {kvs:List (Key×V)},aA9 c μ H l kvs→aA9 c μ H (bK3 l k d) (aP7 kvs k v):=by
 have any_eq:∀ {l:List (Key×D)} {kvs:List (Key×V)},aA9 c μ H l kvs→(l.any fun kv=>decide (kv.1=k))= (kvs.any fun kv=>decide (kv.1=k)):=by
  intro l
  induction l with
  |nil=>intro kvs r;cases r;rfl
  |cons p t ih=>
    intro kvs r
    obtain⟨v',kt,rfl,_,rt⟩:=r
    rw[List.any_cons,List.any_cons,ih rt]
 have map_eq:∀ {l:List (Key×D)} {kvs:List (Key×V)},aA9 c μ H l kvs→aA9 c μ H (l.map fun kv=>if kv.1=k then (kv.1,d)else kv) (kvs.map fun kv=>if kv.1=k then (kv.1,v)else kv):=by
  intro l
  induction l with
  |nil=>intro kvs r;cases r;rfl
  |cons p t ih=>
    intro kvs r
    obtain⟨k',d'⟩:=p
    obtain⟨v',kt,rfl,q,rt⟩:=r
    rw[List.map_cons,List.map_cons]
    by_cases e:k'=k
    · simp only[e,if_true]
      exact⟨v,_,rfl,rv,ih rt⟩
    · simp only[e,if_false]
      exact⟨v',_,rfl,q,ih rt⟩
 have app_eq:∀ {l:List (Key×D)} {kvs:List (Key×V)},aA9 c μ H l kvs→aA9 c μ H (l++[(k,d)]) (kvs++[(k,v)]):=by
  intro l
  induction l with
  |nil=>intro kvs r;cases r;exact⟨v, [],rfl,rv,rfl⟩
  |cons p t ih=>
    intro kvs r
    obtain⟨v',kt,rfl,q,rt⟩:=r
    exact⟨v',_,rfl,q,ih rt⟩
 intro l kvs r
 unfold bK3 aP7
 rw[any_eq r]
 split
 ·exact map_eq r
 ·exact app_eq r
theorem aA9.length:∀ {l:List (Key×D)} {kvs:List (Key×V)},aA9 c μ H l kvs→l.length=kvs.length
 |[],_,r=>by cases r;rfl
 |_::_,_,r=>by obtain⟨_,_,rfl,_,t⟩:=r;simp[aA9.length t]
theorem cP7{r:Nat}{a:Addr}{o o':DO}{u:HO}{Q:List Addr→DH→Hp→Prop}(h:t8 c μ G H)(g:G[r]? =some o)(n:¬aN8 (some o))(m:μ[r]? =some a)(n':¬aN8 (some o'))(ho:∀x:Ext μ H μ (upd H a u),aM1 c μ (upd H a u) a o')
 (p:d7 c Z μ H (bM5 r o' G) fun _ μ' G' H'=>Q μ' G' H'):Q μ (G.set r o') (upd H a u):=by
 obtain⟨u',e,n1,n2⟩:=(h.obj r o a g m).some_of n
 have x:Ext μ H μ (upd H a u):=Ext.mut (List.mem_of_getElem? m) e n1 n2 u
 exact p μ _ x (h.set g n m x n' (ho x))
def eH7(c:Wc)(Z:XC)(f:D→D→D→M Unit):eB3:=fun o i v H Q=>∃d1 d2 d3 μ G,g8 c μ H d1 o∧g8 c μ H d2 i∧g8 c μ H d3 v∧t8 c μ G H∧d7 c Z μ H (f d1 d2 d3 G) fun _ _ _ H'=>Q H'
theorem eQ0(hu:X.A.units+64<cLine):eR3 X (eH7 (wc X) Z dO1):=by
 intro pins s σ H o i v ov iv u Q I ro ri rv hE0
 obtain⟨d1,d2,d3,μ,G,r1,r2,r3,hr,p⟩:=hE0
 rcases d1 with _|_|_|_|_|r|_|_<;>try (exact p.elim;done)
 ·
   unfold g8 at r1
   obtain⟨a,m,rfl⟩:=r1
   obtain⟨ob,g,p1⟩:=Q6 p
   have rob:=hr.obj r ob a g m
   rcases ob with l|l|l|l
   ·
     obtain⟨vs,ea,rl⟩:=rob
     rcases d2 with _|_|k|_|_|_|_|_<;>try (exact p1.elim;done)
     ·
       dsimp only at p1
       rcases hk:ixN l.length k with _|j
       ·simp only[hk]at p1;exact p1.elim
       ·
         simp only[hk]at p1
         exact dP9 pins s σ H (.ref a) i v ov iv u Q I ro ri rv ⟨a,vs,k,j,rfl,aM6 r2,ea,by rw[←rl.length];exact hk,cP7 (o':=.lst (l.set j d3)) (Q:=fun _ _ H'=>Q H') hr g (fun z=>z) m (fun z=>z) (fun x=>⟨_,P0,(rl.mono x).set (r3.mono x) j⟩) p1⟩
   ·exact p1.elim
   ·
     obtain⟨kvs,ea,rk⟩:=rob
     dsimp only at p1
     rcases hk:cE8 d2 with _|k
     ·simp only[hk]at p1;exact p1.elim
     ·
       simp only[hk]at p1
       split at p1
       · rename_i hz
         have ei:=cG5 hk r2
         subst ei
         cases ro
         refine dI2 (by lia) I (dZ9.k ea (by rw[←rk.length];exact hz)) ri rv fun s' I'=>⟨_,I',?_⟩
         exact cP7 (o':=.dct (bK3 l k d3)) (Q:=fun _ _ H'=>Q H') hr g (fun z=>z) m (fun z=>z) (fun x=>⟨_,P0,cI4 (r3.mono x) (rk.mono x)⟩) p1
       ·exact p1.elim
   ·exact p1.elim
variable{a b e o i:Expr}{fa fb fo fi:Fe}{pos:Pos}
theorem eN3(hu:X.A.units+64<cLine)(ho:DE X Z o fo)(hi:DE X Z i fi)
 (ha:∀v,assign (.Subscript o i pos) X.env v= (do
   let ov ←holding [v] (eval o X.env)
   let iv ←holding [v,ov] (eval i X.env)
   standAt pos
   holding [v,ov,iv] (setItem ov iv v)
   release [v,ov,iv] [])):DG X Z (.Subscript o i pos) (dF6 fo fi):=
 DG.of (eX5 ho.h hi.h (eQ0 hu) ha) fun v σ H Q hE0=>hE0.elim fun d dσ μ G r s h p=>⟨dσ,μ,G,s,h,(d7.bind p).mono fun d1 μ1 G1 H1 x1 h1 p1 v1 r1=>
  ⟨dσ,μ1,G1,s.mono x1,h1,(d7.bind p1).mono fun d2 μ2 G2 H2 x2 h2 p2 v2 r2=>⟨d1,d2,d,μ2,G2,r1.mono x2,r2,r.mono (x1.trans x2),h2,(d7.bind p2).mono fun _ μ3 G3 H3 x3 h3 p3=>d7.ok p3 h3 σ (s.mono (x1.trans (x2.trans x3)))⟩⟩⟩
def X7:D→M Unit:=fun x=>match x with
 | .ref r=>do
   match ←Q7 r with
   | .lst _=>pure ()
   |_=>M.stuck
 |_=>M.stuck
noncomputable def mtE(t:D→M Unit)(m:D→List D→M D)(fo:Fe)(fs:DSt→M (List D)):Fe:=fun σ=>do
 let x ←fo σ
 let _ ←t x
 let xs ←fs σ
 m x xs
def lstM(r:Nat):M (List D):=do
 match ←Q7 r with
 | .lst l=>pure l
 |_=>M.stuck
def aW2:D→List D→M D:=fun x xs=>match x,xs with
 | .ref r, [y]=>do
   let l ←lstM r
   if l.length<sizeLine then do
    let _ ←bM5 r (.lst (l++[y]))
    pure .non
   else M.stuck
 |_,_=>M.stuck
def aL5:D→List D→M D:=fun x xs=>match x,xs with
 | .ref r, [.ref q]=>do
   let l ←lstM r
   let k ←lstM q
   if l.length+k.length≤sizeLine then do
    let _ ←bM5 r (.lst (l++k))
    pure .non
   else M.stuck
 |_,_=>M.stuck
def eG2:D→List D→M D:=fun x xs=>match x,xs with
 | .ref r, []=>do
   let l ←lstM r
   match l.getLast? with
   |some y=>do
     let _ ←bM5 r (.lst l.dropLast)
     pure y
   |none=>M.stuck
 |_,_=>M.stuck
theorem aX2{α:Type}{r:Nat}{a:Addr}{f:List D→M α}{K:α→List Addr→DH→Hp→Prop}(h:t8 c μ G H)(m:μ[r]? =some a)(p:d7 c Z μ H ((lstM r >>= f) G) K):
 ∃l vs,G[r]? =some (.lst l)∧H a=some (.lst vs)∧o5 c μ H l vs∧d7 c Z μ H (f l G) K:=by
 have p':d7 c Z μ H ((Q7 r >>= fun o=>(match o with| .lst l=>pure l|_=>M.stuck:M (List D)) >>= f) G) K:=by rw[←M.bind_assoc];exact p
 obtain⟨o,g,p2⟩:=Q6 p'
 have ro:=h.obj r o a g m
 rcases o with l|_|_|_<;>try (exact p2.elim;done)
 ·obtain⟨vs,e,rl⟩:=ro;exact⟨l,vs,g,e,rl,p2⟩
def MtD(X:Cx)(Z:XC)(id:String)(m:D→List D→M D):Prop:=
 MtR X id fun x xs H Q=>∃d ds μ G,g8 (wc X) μ H d x∧o5 (wc X) μ H ds xs∧t8 (wc X) μ G H∧d7 (wc X) Z μ H (m d ds G) fun d μ' _ H'=>∀v,g8 (wc X) μ' H' d v→Q v H'
theorem bO2{α:Type}{r:Nat}{a:Addr}{l l':List D}{vs':List V}{f:M α}{K:α→List Addr→DH→Hp→Prop}(h:t8 c μ G H)(g:G[r]? =some (.lst l))(m:μ[r]? =some a)(rl:∀x:Ext μ H μ (upd H a (.lst vs')),o5 c μ (upd H a (.lst vs')) l' vs')
 (p:d7 c Z μ H ((bM5 r (.lst l') >>= fun _=>f) G) K):Ext μ H μ (upd H a (.lst vs'))∧t8 c μ (G.set r (.lst l')) (upd H a (.lst vs'))∧d7 c Z μ (upd H a (.lst vs')) (f (G.set r (.lst l'))) K:=by
 obtain⟨u',e,n1,n2⟩:=(h.obj r _ a g m).some_of (fun z=>z)
 have x:Ext μ H μ (upd H a (.lst vs')):=Ext.mut (List.mem_of_getElem? m) e n1 n2 _
 have h':t8 c μ (G.set r (.lst l')) (upd H a (.lst vs')):=h.set g (fun z=>z) m x (fun z=>z) ⟨vs',P0,rl x⟩
 exact⟨x,h',d7.from p x⟩
theorem dE1:MtD X Z "list.append" aW2:=by
 intro pins s σ H x xs v us Q I rx rs hE0
 obtain⟨d,ds,μ,G,rd,rds,hr,p⟩:=hE0
 rcases d with _|_|_|_|_|r|_|_<;>try (exact p.elim;done)
 ·
   unfold g8 at rd
   obtain⟨a,m,rfl⟩:=rd
   rcases ds with _|⟨y,t⟩
   ·exact p.elim
   ·
     rcases t with _|⟨_,_⟩
     ·
       obtain⟨yv,tv,rfl,ry,e⟩:=rds
       cases e
       obtain⟨l,vs,g,ea,rl,p1⟩:=aX2 hr m p
       split at p1
       · rename_i hz
         obtain⟨x1,h1,p2⟩:=bO2 (l':=l++[y]) (vs':=vs++[yv]) hr g m (fun x=>(rl.mono x).append (o5.cons (ry.mono x) o5.nil)) p1
         exact cA6 pins s σ H (.ref a) [yv] v us Q I rx rs ⟨a,vs,yv,rfl,rfl,ea,by rw[←rl.length];exact hz,d7.ok p2 h1 _ ofN⟩
       ·exact p1.elim
     ·exact p.elim
theorem dD6:MtD X Z "list.extend" aL5:=by
 intro pins s σ H x xs v us Q I rx rs hE0
 obtain⟨d,ds,μ,G,rd,rds,hr,p⟩:=hE0
 rcases d with _|_|_|_|_|r|_|_<;>try (exact p.elim;done)
 ·
   unfold g8 at rd
   obtain⟨a,m,rfl⟩:=rd
   rcases ds with _|⟨y,t⟩
   ·exact p.elim
   ·
     rcases t with _|⟨_,_⟩
     ·
       obtain⟨yv,tv,rfl,ry,e⟩:=rds
       cases e
       rcases y with _|_|_|_|_|q|_|_<;>try (exact p.elim;done)
       ·
         unfold g8 at ry
         obtain⟨b,m2,rfl⟩:=ry
         obtain⟨l,vs,g,ea,rl,p1⟩:=aX2 hr m p
         obtain⟨k,ws,g2,eb,rk,p2⟩:=aX2 hr m2 p1
         split at p2
         · rename_i hz
           obtain⟨x1,h1,p3⟩:=bO2 (vs':=vs++ws) hr g m (fun x=>(rl.mono x).append (rk.mono x)) p2
           exact dC8 pins s σ H (.ref a) [.ref b] v us Q I rx rs ⟨a,b,vs,ws,rfl,rfl,ea,eb,by rw[←rl.length,←rk.length];exact hz,d7.ok p3 h1 _ ofN⟩
         ·exact p2.elim
     ·cases y<;>exact p.elim
theorem eW9:MtD X Z "list.pop" eG2:=by
 intro pins s σ H x xs v us Q I rx rs hE0
 obtain⟨d,ds,μ,G,rd,rds,hr,p⟩:=hE0
 rcases d with _|_|_|_|_|r|_|_<;>try (exact p.elim;done)
 ·
   unfold g8 at rd
   obtain⟨a,m,rfl⟩:=rd
   rcases ds with _|⟨_,_⟩
   ·
     cases rds
     obtain⟨l,vs,g,ea,rl,p1⟩:=aX2 hr m p
     rcases hy:l.getLast? with _|y
     ·simp only[hy]at p1;exact p1.elim
     ·
       simp only[hy]at p1
       obtain⟨x1,h1,p2⟩:=bO2 (vs':=vs.dropLast) hr g m (fun x=>(rl.mono x).dropLast) p1
       rw[List.getLast?_eq_getElem?]at hy
       obtain⟨yv,e1,ry⟩:=rl.get hy
       rw[rl.length]at e1
       exact eR4 pins s σ H (.ref a) [] v us Q I rx rs ⟨a,vs,yv,rfl,rfl,ea,e1,d7.ok p2 h1 _ (ry.mono x1)⟩
   ·exact p.elim
variable{es:List Expr}{fs:DSt→M (List D)}{name:Str}{apos cpos:Pos}{id:String}{mm:D→List D→M D}
theorem bJ5{α:Type}{d:D}{v:V}{f:Unit→M α}{K:α→List Addr→DH→Hp→Prop}(h:t8 c μ G H)(r:g8 c μ H d v)(p:d7 c Z μ H ((X7 d >>= f) G) K):tyV c.K "list" v H∧d7 c Z μ H (f () G) K:=by
 rcases d with _|_|_|_|_|i|_|_<;>try (exact p.elim;done)
 ·
   unfold g8 at r
   obtain⟨a,m,rfl⟩:=r
   have p':d7 c Z μ H ((Q7 i >>= fun o=>(match o with| .lst _=>pure ()|_=>M.stuck:M Unit) >>= f) G) K:=by rw[←M.bind_assoc];exact p
   obtain⟨o,g,p2⟩:=Q6 p'
   have ro:=h.obj i o a g m
   rcases o with l|_|_|_<;>try (exact p2.elim;done)
   ·obtain⟨vs,e,rl⟩:=ro;exact⟨.inl ⟨rfl,vs,SqL.of e⟩,p2⟩
theorem eK0(slot:Slot "list" name id)(hty:typeOf (.builtin id)=pure (.type "method_descriptor"))(hm:MtD X Z id mm)(ho:DE X Z o fo)(ha:DA X Z (e::es) fs)
 (hbase:attributeBase o name X.env (eval o X.env)=eval o X.env)
 (hfew:((backTo cpos (starEach (e::es) X.env)).all (fun x=> !x.1)&&(backToKw cpos (keywordEach [] X.env)).all (fun x=>x.1.isSome)
   && decide ((e::es).length+([]:List Keyword).length+(if ([]:List Keyword).isEmpty then 0 else 1)<30))=true)
 (hline:(apos.endLine==cpos.line)=true) (hs:starEach (e::es) X.env= (false,eval e X.env)::starEach es X.env) (hplain:(backTo cpos (starEach es X.env)).any (·.1)=false):
 DE X Z (.Call (.Attribute o name apos) (e::es) [] cpos) (mtE X7 mm fo fs):=
 DE.of (eL6 PySem.F.plainAttrs_list slot hty hm ho.h ha.h hbase hfew hline hs hplain) fun σ H Q hE0=>hE0.elim fun dσ μ G s h p=>⟨dσ,μ,G,s,h,(d7.bind p).mono fun d μ1 G1 H1 x1 h1 p1 v rv=>by
  obtain⟨ty,p2⟩:=bJ5 h1 rv p1
  exact⟨ty,dσ,μ1,G1,s.mono x1,h1,(d7.bind p2).mono fun ds μ2 G2 H2 x2 h2 p3 vs rvs=>⟨d,ds,μ2,G2,rv.mono x2,rvs,h2,p3⟩⟩⟩
theorem eO3(slot:Slot "list" name id)(hty:typeOf (.builtin id)=pure (.type "method_descriptor"))(hm:MtD X Z id mm)(ho:DE X Z o fo)
 (hbase:attributeBase o name X.env (eval o X.env)=eval o X.env) (hline:(apos.endLine==cpos.line)=true):DE X Z (.Call (.Attribute o name apos) [] [] cpos) (mtE X7 mm fo q11):=
 DE.of (eO8 PySem.F.plainAttrs_list slot hty hm ho.h hbase hline) fun σ H Q hE0=>hE0.elim fun dσ μ G s h p=>⟨dσ,μ,G,s,h,(d7.bind p).mono fun d μ1 G1 H1 x1 h1 p1 v rv=>by
  obtain⟨ty,p2⟩:=bJ5 h1 rv p1
  exact⟨ty,d, [],μ1,G1,rv,rfl,h1,p2⟩⟩
end
noncomputable def SI(k:Bool)(h:Heap)(it a:Addr)(i:Nat):Prop:=if k then h.IsTupleIter it a i else h.IsListIter it a i
noncomputable def SC(k:Bool)(h:Heap)(a:Addr)(items:Array Value):Prop:=if k then h.IsTuple a items else h.IsList a items
section
variable{prog:Program}{w:World}{A:Around}{E:VSP}{s:Shared}{k:Bool}
theorem SI.keep{h h':Heap}{it a:Addr}{i:Nat}(x:SI k h it a i)(q:∀o,h.get? it=some o→h'.get? it=some o):SI k h' it a i:=by
 rcases k with _|_
 ·exact Heap.IsListIter.at (show h.IsListIter it a i from x) q
 ·exact Heap.IsTupleIter.at (show h.IsTupleIter it a i from x) q
theorem SC.keep{h h':Heap}{a:Addr}{its:Array Value}(x:SC k h a its)(q:∀o,h.get? a=some o→h'.get? a=some o):SC k h' a its:=by
 rcases k with _|_
 ·obtain⟨o,e,r⟩:=(show h.IsList a its from x);exact⟨o,q o e,r⟩
 ·obtain⟨o,e,r⟩:=(show h.IsTuple a its from x);exact⟨o,q o e,r⟩
theorem SI.there{h:Heap}{it a:Addr}{i:Nat}(x:SI k h it a i):∃o,h.get? it=some o∧∀v,o.data≠ .cell v:=by
 rcases k with _|_
 ·obtain⟨o,e,c,d⟩:=(show h.IsListIter it a i from x);exact⟨o,e,fun v z=>by rw[d]at z;cases z⟩
 ·obtain⟨o,e,c,d⟩:=(show h.IsTupleIter it a i from x);exact⟨o,e,fun v z=>by rw[d]at z;cases z⟩
theorem bD3{it t:Addr}{i:Nat}{items:Array Value}{x:Value}{Q:VSP}(hit:s.heap.IsTupleIter it t i)(ht:s.heap.IsTuple t items)(hx:items[i]? =some x)
 (hQ:∀h',h'.IsTupleIter it t (i+1)→Heap.SameBut it s.heap h'→Q x {s with heap:=h'}):wpAny (model prog w) A (Builtin.SmallTypes.nextOf (.ref it)) Q E s:=by
 obtain⟨ob,hob,hcls,hdat⟩:=id hit
 obtain⟨ot,hot,_,nt,hdt⟩:=ht
 unfold Builtin.SmallTypes.nextOf
 refine wpAny_bind (wpAny_callSpecial?_slot (name:=Str.ofString "__next__") hit.typeIs F.slot_tuple_iterator_next (wpAny_call_entry F.slot_tuple_iterator_next hit.typeIs F.entry_tuple_iterator_next ?_ (F.args_tuple_iterator_next_1 _)))
 show wpAny _ _ (field (.ref it) 0 >>= _) _ _ s
 refine wpAny_bind (wpAny_field hob hdat (x:=.ref t) rfl ?_)
 show wpAny _ _ (if (Value.ref t==Value.none)=true then _ else _) _ _ s
 rw[if_neg (show ¬((Value.ref t==Value.none)=true)from Bool.false_ne_true)]
 show wpAny _ _ (field (.ref it) 1 >>= _) _ _ s
 refine wpAny_bind (wpAny_field hob hdat (x:=.int i 0) rfl ?_)
 show wpAny _ _ (seqItems? (.ref t) >>= _) _ _ s
 refine wpAny_bind (wpAny_seqItems hot hdt ?_)
 simp only[Int.toNat_natCast,hx]
 refine wpAny_bind (wpAny_setField hob hdat (by simp) (wpAny_pure ⟨x,rfl,wpAny_pure (hQ _ ?_ (Heap.SameBut.update ..))⟩))
 exact⟨_,Heap.get?_update_self _ hob (Obj.isFreed_of_fields (Obj.data_mapFields hdat _)),(Obj.cls_mapFields ..).trans hcls,by rw[Obj.data_mapFields hdat];simp[rawInt]⟩
theorem bI5{it t:Addr}{i:Nat}{items:Array Value}{Q:VSP}(hh:A.handled=none)(hit:s.heap.IsTupleIter it t i)(ht:s.heap.IsTuple t items)(hx:items[i]? =none)
 (hE:∀h' e,Heap.ExtBut it s.heap h'→(∃o,h'.get? e=some o∧o.cls= .type "StopIteration")→E (.ref e) {s with heap:=h'}):wpAny (model prog w) A (Builtin.SmallTypes.nextOf (.ref it)) Q E s:=by
 obtain⟨ob,hob,hcls,hdat⟩:=id hit
 obtain⟨ot,hot,_,nt,hdt⟩:=ht
 unfold Builtin.SmallTypes.nextOf
 refine wpAny_bind (wpAny_callSpecial?_slot (name:=Str.ofString "__next__") hit.typeIs F.slot_tuple_iterator_next (wpAny_call_entry F.slot_tuple_iterator_next hit.typeIs F.entry_tuple_iterator_next ?_ (F.args_tuple_iterator_next_1 _)))
 show wpAny _ _ (field (.ref it) 0 >>= _) _ _ s
 refine wpAny_bind (wpAny_field hob hdat (x:=.ref t) rfl ?_)
 show wpAny _ _ (if (Value.ref t==Value.none)=true then _ else _) _ _ s
 rw[if_neg (show ¬((Value.ref t==Value.none)=true)from Bool.false_ne_true)]
 show wpAny _ _ (field (.ref it) 1 >>= _) _ _ s
 refine wpAny_bind (wpAny_field hob hdat (x:=.int i 0) rfl ?_)
 show wpAny _ _ (seqItems? (.ref t) >>= _) _ _ s
 refine wpAny_bind (wpAny_seqItems hot hdt ?_)
 simp only[Int.toNat_natCast,hx]
 refine wpAny_bind (wpAny_rule (wpAny_bind (wpAny_setField hob hdat (by simp) ?_)))
 show wpAny _ _ (newExc (.type "StopIteration") [] >>= _) _ _ _
 refine wpAny_bind ?_
 simp only[newExc,newTuple]
 refine wpAny_bind (wpAny_newObj_type ?_ (by size_fits))
 refine wpAny_bind (m:=firstArgMember _ _) (wpAny_of_eq (a:=Value.none) (by first|rfl|(simp only[firstArgMember];rfl)) ?_)
 refine wpAny_newObj_type ?_ (by size_fits)
 delta raiseNew;dsimp only
 refine wpAny_bind (wpAny_handled ?_)
 first|rw[show A.in1.handled=none from hh]|rw[hh]
 refine wpAny_bind (wpAny_pure (wpAny_throw ?_))
 exact hE _ _ (((Heap.SameBut.update ..).extBut.push _).push _) ⟨_,Heap.get?_push_size _ rfl,rfl⟩
theorem aC5{it a:Addr}{i:Nat}{items:Array Value}{x:Value}{Q:VSP}(hit:SI k s.heap it a i)(hl:SC k s.heap a items)(hx:items[i]? =some x)
 (hQ:∀h',SI k h' it a (i+1)→Heap.SameBut it s.heap h'→Q x {s with heap:=h'}):wpAny (model prog w) A (Builtin.SmallTypes.nextOf (.ref it)) Q E s:=by
 rcases k with _|_
 ·exact wpAny_nextOf_list_item hit hl hx hQ
 ·exact bD3 hit hl hx hQ
theorem aQ1{it a:Addr}{i:Nat}{items:Array Value}{Q:VSP}(hh:A.handled=none)(hit:SI k s.heap it a i)(hl:SC k s.heap a items)(hx:items[i]? =none)
 (hE:∀h' e,Heap.ExtBut it s.heap h'→(∃o,h'.get? e=some o∧o.cls= .type "StopIteration")→E (.ref e) {s with heap:=h'}):wpAny (model prog w) A (Builtin.SmallTypes.nextOf (.ref it)) Q E s:=by
 rcases k with _|_
 ·exact wpAny_nextOf_list_end hh hit hl hx hE
 ·exact bI5 hh hit hl hx hE
structure ZA(z TI TO i1 i2:Addr):Prop where
 TIz:TI≠z
 TOz:TO≠z
 i1z:i1≠z
 i2z:i2≠z
 TITO:TI≠TO
 TIi1:TI≠i1
 TIi2:TI≠i2
 TOi1:TO≠i1
 TOi2:TO≠i2
 i12:i1≠i2
theorem eK7(n:Nat):ZA (n+4:Nat) (n+2:Nat) (n+3:Nat) n (n+1:Nat):=⟨(by show @Ne Nat _ _;lia),(by show @Ne Nat _ _;lia),(by show @Ne Nat _ _;lia),(by show @Ne Nat _ _;lia),(by show @Ne Nat _ _;lia),(by show @Ne Nat _ _;lia),(by show @Ne Nat _ _;lia),(by show @Ne Nat _ _;lia),(by show @Ne Nat _ _;lia),(by show @Ne Nat _ _;lia)⟩
theorem bS0{l n:Nat}(h:l<n):¬ @Membership.mem Addr (List Addr) List.instMembership [(n+4:Nat),(n+3:Nat),n,(n+1:Nat)] l:=by
 simp only[List.mem_cons,List.not_mem_nil,or_false,not_or]
 exact⟨(by show ¬ @Eq Nat _ _;lia),(by show ¬ @Eq Nat _ _;lia),(by show ¬ @Eq Nat _ _;lia),(by show ¬ @Eq Nat _ _;lia)⟩
theorem fI8{l1 l2 n m:Nat}(h1:l1<n)(h2:l2<n)(e:m=n+5):∀b, @Membership.mem Addr (List Addr) List.instMembership [(n+4:Nat),(n+2:Nat),(n+3:Nat),n,(n+1:Nat),l1,l2] b→ @LT.lt Nat instLTNat b m:=fun b hb=>by
 subst e
 simp only[List.mem_cons,List.not_mem_nil,or_false]at hb
 rcases hb with rfl|rfl|rfl|rfl|rfl|rfl|rfl<;>(show @LT.lt Nat instLTNat _ _;lia)
theorem fI0{n:Nat}{b:Addr}(hb: @Membership.mem Addr (List Addr) List.instMembership [(n+4:Nat),(n+2:Nat),(n+3:Nat),n,(n+1:Nat)] b): @LE.le Nat instLENat n b:=by
 simp only[List.mem_cons,List.not_mem_nil,or_false]at hb
 rcases hb with rfl|rfl|rfl|rfl|rfl<;>(show @LE.le Nat instLENat _ _;lia)
theorem eT7{b n:Nat}(h:b<n):¬ @Membership.mem Addr (List Addr) List.instMembership [(n+4:Nat),(n+3:Nat),n,(n+1:Nat)] b:=bS0 h
variable{z TI TO i1 i2 l1 l2:Addr}{xs ys:Array Value}{k1 k2:Bool}{i:Nat}
theorem dP2{x y a b:Value}{Q:VSP}(Ap:ZA z TI TO i1 i2)(n1:l1∉ [z,TO,i1,i2])(n2:l2∉ [z,TO,i1,i2])
 (hz:IsZip s.heap z TI TO .none) (hTI:IsPair s.heap TI (.ref i1) (.ref i2)) (hTO:IsPair s.heap TO a b)
 (h1:SI k1 s.heap i1 l1 i) (h2:SI k2 s.heap i2 l2 i) (hl1:SC k1 s.heap l1 xs) (hl2:SC k2 s.heap l2 ys) (hx:xs[i]? =some x) (hy:ys[i]? =some y)
 (hQ:∀h',IsZip h' z TI TO (rawInt s.heap.objs.size)→IsPair h' TO x y→SI k1 h' i1 l1 (i+1)→SI k2 h' i2 l2 (i+1)→IsPair h' s.heap.objs.size x y→h'.objs.size=s.heap.objs.size+1→
   (∀c o,c≠z→c≠TO→c≠i1→c≠i2→s.heap.get? c=some o→h'.get? c=some o)→Q (.ref s.heap.objs.size) {s with heap:=h'}):
 wpAny (model prog w) A (Builtin.«zip.__next__» ⟨[.ref z], []⟩) (fun fin s'=>∃v,fin= .done (.ret v)∧Q v s') E s:=by
 simp only[List.mem_cons,List.not_mem_nil,or_false,not_or]at n1 n2
 show wpAny _ _ (field (.ref z) 2 >>= _) _ _ _
 refine wpAny_bind (wpAny_field hz rfl (x:=.bool false) rfl ?_)
 show wpAny _ _ (field (.ref z) 3 >>= _) _ _ _
 refine wpAny_bind (wpAny_field hz rfl (x:=.ref TI) rfl ?_)
 refine wpAny_bind (wpAny_seqItems hTI rfl ?_)
 show wpAny _ _ (Builtin.SmallTypes.ownedTupleIsFree (.ref z) >>= _) _ _ _
 refine wpAny_bind ?_
 unfold Builtin.SmallTypes.ownedTupleIsFree
 refine wpAny_bind (wpAny_field hz rfl (x:=.none) rfl (wpAny_pure ?_))
 simp only[if_true]
 refine wpAny_bind (wpAny_rule ?_)
 refine wpAny_bind (wpAny_field hz rfl (x:=.ref TO) rfl ?_)
 refine wpAny_bind (wpAny_setField_rec hz (by simp) fun g₁ hz₁ hs₁=>?_)
 replace hz₁:IsZip g₁ z TI TO .ellipsis:=hz₁
 refine wpAny_bind ?_
 simp only[List.zipIdx_cons,List.zipIdx_nil,List.forIn_cons,List.forIn_nil]
 refine wpAny_bind (wpAny_bind (wpAny_onRaise ?_))
 show wpAny _ _ (Builtin.SmallTypes.nextOf (.ref i1) >>= _) _ _ _
 refine wpAny_bind (aC5 (h1.keep fun o e=>hs₁.extBut _ _ Ap.i1z e) (hl1.keep fun o e=>hs₁.extBut _ _ n1.1 e) hx fun g₂ h1₂ hs₂=>wpAny_pure ?_)
 have hTO₂:IsPair g₂ TO a b:=hs₂.extBut _ _ Ap.TOi1 (hs₁.extBut _ _ Ap.TOz hTO)
 refine wpAny_bind (wpAny_seqItems hTO₂ rfl ?_)
 refine wpAny_bind (wpAny_updateSeq_pair hTO₂ fun g₃ hTO₃ hs₃=>?_)
 replace hTO₃:IsPair g₃ TO x b:=hTO₃
 refine wpAny_bind (wpAny_letGo (wpAny_pure ?_))
 refine wpAny_bind (wpAny_bind (wpAny_onRaise ?_))
 show wpAny _ _ (Builtin.SmallTypes.nextOf (.ref i2) >>= _) _ _ _
 have up3:∀c o,c≠z→c≠TO→c≠i1→s.heap.get? c=some o→g₃.get? c=some o:=fun c o c1 c2 c3 e=>hs₃.extBut _ _ c2 (hs₂.extBut _ _ c3 (hs₁.extBut _ _ c1 e))
 refine wpAny_bind (aC5 (h2.keep fun o e=>up3 _ _ Ap.i2z Ap.TOi2.symm Ap.i12.symm e) (hl2.keep fun o e=>up3 _ _ n2.1 n2.2.1 n2.2.2.1 e) hy fun g₄ h2₄ hs₄=>wpAny_pure ?_)
 have hTO₄:IsPair g₄ TO x b:=hs₄.extBut _ _ Ap.TOi2 hTO₃
 refine wpAny_bind (wpAny_seqItems hTO₄ rfl ?_)
 refine wpAny_bind (wpAny_updateSeq_pair hTO₄ fun g₅ hTO₅ hs₅=>?_)
 replace hTO₅:IsPair g₅ TO x y:=hTO₅
 refine wpAny_bind (wpAny_letGo (wpAny_pure (wpAny_pure ?_)))
 refine wpAny_bind (wpAny_seqItems hTO₅ rfl ?_)
 refine wpAny_bind (wpAny_newTuple ?_)
 have hsz:g₅.objs.size=s.heap.objs.size:=by rw[hs₅.1,hs₄.1,hs₃.1,hs₂.1,hs₁.1]
 have hz₅:IsZip g₅ z TI TO .ellipsis:=hs₅.extBut _ _ Ap.TOz.symm (hs₄.extBut _ _ Ap.i2z.symm (hs₃.extBut _ _ Ap.TOz.symm (hs₂.extBut _ _ Ap.i1z.symm hz₁)))
 have hk₅:∀c o,c≠z→c≠TO→c≠i1→c≠i2→s.heap.get? c=some o→g₅.get? c=some o:=fun c o c1 c2 c3 c4 e=>hs₅.extBut _ _ c2 (hs₄.extBut _ _ c4 (up3 c o c1 c2 c3 e))
 have h1₅:SI k1 g₅ i1 l1 (i+1):=h1₂.keep fun o e=>hs₅.extBut _ _ Ap.TOi1.symm (hs₄.extBut _ _ Ap.i12 (hs₃.extBut _ _ Ap.TOi1.symm e))
 have h2₅:SI k2 g₅ i2 l2 (i+1):=h2₄.keep fun o e=>hs₅.extBut _ _ Ap.TOi2.symm e
 have hzlt:z<g₅.objs.size:=Heap.lt_size hz₅
 show wpAny _ _ (Builtin.SmallTypes.ownedTupleHandOut (.ref z) (.ref g₅.objs.size) >>= _) _ _ _
 refine wpAny_bind ?_
 unfold Builtin.SmallTypes.ownedTupleHandOut
 have hz₆:IsZip (g₅.push {cls:=.type "tuple",data:=.seq #[x,y]}) z TI TO .ellipsis:=Heap.get?_push_of_some _ hz₅
 refine wpAny_bind (wpAny_setField_rec hz₆ (by simp) fun g₇ hz₇ hs₇=>?_)
 replace hz₇:IsZip g₇ z TI TO (rawInt g₅.objs.size):=hz₇
 refine wpAny_setField_rec hz₇ (by simp) fun g₈ hz₈ hs₈=>?_
 replace hz₈:IsZip g₈ z TI TO (rawInt g₅.objs.size):=hz₈
 have up:∀c o,c≠z→g₅.get? c=some o→g₈.get? c=some o:=fun c o c1 e=>hs₈.extBut _ _ c1 (hs₇.extBut _ _ c1 (Heap.get?_push_of_some _ e))
 have hT₈:IsPair g₈ g₅.objs.size x y:=hs₈.extBut _ _ (Nat.ne_of_gt hzlt) (hs₇.extBut _ _ (Nat.ne_of_gt hzlt) (Heap.get?_push_size _ rfl))
 have hz8:g₈.objs.size=g₅.objs.size+1:=by rw[hs₈.1,hs₇.1,Heap.size_push]
 rw[hsz]at hz₈ hT₈ hz8
 refine wpAny_pure ⟨_,rfl,?_⟩
 show Q (.ref g₅.objs.size) _
 rw[hsz]
 exact hQ g₈ hz₈ (up _ _ Ap.TOz hTO₅) (h1₅.keep fun o e=>up _ o Ap.i1z e) (h2₅.keep fun o e=>up _ o Ap.i2z e) hT₈ hz8 fun c o c1 c2 c3 c4 e=>up c o c1 (hk₅ c o c1 c2 c3 c4 e)
theorem eD8{a b:Value}{Q:Fin→Shared→Prop}(hh:A.handled=none)(Ap:ZA z TI TO i1 i2)(n1:l1∉ [z,TO,i1,i2])(n2:l2∉ [z,TO,i1,i2])
 (hz:IsZip s.heap z TI TO .none) (hTI:IsPair s.heap TI (.ref i1) (.ref i2)) (hTO:IsPair s.heap TO a b)
 (h1:SI k1 s.heap i1 l1 i) (h2:SI k2 s.heap i2 l2 i) (hl1:SC k1 s.heap l1 xs) (hl2:SC k2 s.heap l2 ys) (hend:xs[i]? =none∨ys[i]? =none)
 (hE:∀h' e,(∀c o,c≠z→c≠TO→c≠i1→c≠i2→s.heap.get? c=some o→h'.get? c=some o)→(∃o,h'.get? e=some o∧o.cls= .type "StopIteration")→E (.ref e) {s with heap:=h'}):
 wpAny (model prog w) A (Builtin.«zip.__next__» ⟨[.ref z], []⟩) Q E s:=by
 simp only[List.mem_cons,List.not_mem_nil,or_false,not_or]at n1 n2
 show wpAny _ _ (field (.ref z) 2 >>= _) _ _ _
 refine wpAny_bind (wpAny_field hz rfl (x:=.bool false) rfl ?_)
 show wpAny _ _ (field (.ref z) 3 >>= _) _ _ _
 refine wpAny_bind (wpAny_field hz rfl (x:=.ref TI) rfl ?_)
 refine wpAny_bind (wpAny_seqItems hTI rfl ?_)
 show wpAny _ _ (Builtin.SmallTypes.ownedTupleIsFree (.ref z) >>= _) _ _ _
 refine wpAny_bind ?_
 unfold Builtin.SmallTypes.ownedTupleIsFree
 refine wpAny_bind (wpAny_field hz rfl (x:=.none) rfl (wpAny_pure ?_))
 simp only[if_true]
 refine wpAny_bind (wpAny_rule ?_)
 refine wpAny_bind (wpAny_field hz rfl (x:=.ref TO) rfl ?_)
 refine wpAny_bind (wpAny_setField_rec hz (by simp) fun g₁ hz₁ hs₁=>?_)
 replace hz₁:IsZip g₁ z TI TO .ellipsis:=hz₁
 refine wpAny_bind ?_
 simp only[List.zipIdx_cons,List.zipIdx_nil,List.forIn_cons,List.forIn_nil]
 refine wpAny_bind (wpAny_bind (wpAny_onRaise ?_))
 show wpAny _ _ (Builtin.SmallTypes.nextOf (.ref i1) >>= _) _ _ _
 rcases hx:xs[i]? with _|x
 ·
   refine wpAny_bind (aQ1 hh (h1.keep fun o e=>hs₁.extBut _ _ Ap.i1z e) (hl1.keep fun o e=>hs₁.extBut _ _ n1.1 e) hx fun g₂ e hs₂ he=>?_)
   obtain⟨oe,hoe,hce⟩:=he
   have hz₂:IsZip g₂ z TI TO .ellipsis:=hs₂ _ _ Ap.i1z.symm hz₁
   have hez:e≠z:=fun q=>by subst q;rw[hz₂]at hoe;cases hoe;simp at hce
   exact wpAny_setField_rec hz₂ (by simp) fun g₃ _ hs₃=>hE g₃ e (fun c o c1 _ c3 _ q=>hs₃.extBut _ _ c1 (hs₂ _ _ c3 (hs₁.extBut _ _ c1 q))) ⟨oe,hs₃.extBut _ _ hez hoe,hce⟩
 ·
   have hy:ys[i]? =none:=by
    rcases hend with h|h
    ·rw[hx]at h;exact eH2 h
    ·exact h
   refine wpAny_bind (aC5 (h1.keep fun o e=>hs₁.extBut _ _ Ap.i1z e) (hl1.keep fun o e=>hs₁.extBut _ _ n1.1 e) hx fun g₂ h1₂ hs₂=>wpAny_pure ?_)
   have hTO₂:IsPair g₂ TO a b:=hs₂.extBut _ _ Ap.TOi1 (hs₁.extBut _ _ Ap.TOz hTO)
   refine wpAny_bind (wpAny_seqItems hTO₂ rfl ?_)
   refine wpAny_bind (wpAny_updateSeq_pair hTO₂ fun g₃ hTO₃ hs₃=>?_)
   refine wpAny_bind (wpAny_letGo (wpAny_pure ?_))
   refine wpAny_bind (wpAny_bind (wpAny_onRaise ?_))
   show wpAny _ _ (Builtin.SmallTypes.nextOf (.ref i2) >>= _) _ _ _
   have up3:∀c o,c≠z→c≠TO→c≠i1→s.heap.get? c=some o→g₃.get? c=some o:=fun c o c1 c2 c3 e=>hs₃.extBut _ _ c2 (hs₂.extBut _ _ c3 (hs₁.extBut _ _ c1 e))
   refine wpAny_bind (aQ1 hh (h2.keep fun o e=>up3 _ _ Ap.i2z Ap.TOi2.symm Ap.i12.symm e) (hl2.keep fun o e=>up3 _ _ n2.1 n2.2.1 n2.2.2.1 e) hy fun g₄ e hs₄ he=>?_)
   obtain⟨oe,hoe,hce⟩:=he
   have hz₄:IsZip g₄ z TI TO .ellipsis:=hs₄ _ _ Ap.i2z.symm (hs₃.extBut _ _ Ap.TOz.symm (hs₂.extBut _ _ Ap.i1z.symm hz₁))
   have hez:e≠z:=fun q=>by subst q;rw[hz₄]at hoe;cases hoe;simp at hce
   exact wpAny_setField_rec hz₄ (by simp) fun g₅ _ hs₅=>hE g₅ e (fun c o c1 c2 c3 c4 q=>hs₅.extBut _ _ c1 (hs₄ _ _ c4 (up3 c o c1 c2 c3 q))) ⟨oe,hs₅.extBut _ _ hez hoe,hce⟩
theorem aR9{x y a b:Value}{Q:Option Value→Shared→Prop}(Ap:ZA z TI TO i1 i2)(n1:l1∉ [z,TO,i1,i2])(n2:l2∉ [z,TO,i1,i2])
 (hz:IsZip s.heap z TI TO .none) (hTI:IsPair s.heap TI (.ref i1) (.ref i2)) (hTO:IsPair s.heap TO a b)
 (h1:SI k1 s.heap i1 l1 i) (h2:SI k2 s.heap i2 l2 i) (hl1:SC k1 s.heap l1 xs) (hl2:SC k2 s.heap l2 ys) (hx:xs[i]? =some x) (hy:ys[i]? =some y)
 (hQ:∀h',IsZip h' z TI TO (rawInt s.heap.objs.size)→IsPair h' TO x y→SI k1 h' i1 l1 (i+1)→SI k2 h' i2 l2 (i+1)→IsPair h' s.heap.objs.size x y→h'.objs.size=s.heap.objs.size+1→
   (∀c o,c≠z→c≠TO→c≠i1→c≠i2→s.heap.get? c=some o→h'.get? c=some o)→Q (some (.ref s.heap.objs.size)) {s with heap:=h'}):
 wpAny (model prog w) A (pyNext (.ref z)) Q E s:=by
 have hT:s.TypeIs (.ref z) "zip":=⟨_,hz,rfl⟩
 unfold pyNext
 exact wpAny_bind (wpAny_attempt (wpAny_callSpecial?_slot (name:=Str.ofString "__next__") hT F.slot_zip_next (wpAny_call_entry F.slot_zip_next hT F.entry_zip_next
  (dP2 Ap n1 n2 hz hTI hTO h1 h2 hl1 hl2 hx hy fun h' a1 a2 a3 a4 a5 a6 a7=>wpAny_pure (hQ h' a1 a2 a3 a4 a5 a6 a7)) (F.args_zip_next_1 _))))
theorem aV7{a b:Value}{Q:Option Value→Shared→Prop}(hh:A.handled=none)(Ap:ZA z TI TO i1 i2)(n1:l1∉ [z,TO,i1,i2])(n2:l2∉ [z,TO,i1,i2])
 (hz:IsZip s.heap z TI TO .none) (hTI:IsPair s.heap TI (.ref i1) (.ref i2)) (hTO:IsPair s.heap TO a b)
 (h1:SI k1 s.heap i1 l1 i) (h2:SI k2 s.heap i2 l2 i) (hl1:SC k1 s.heap l1 xs) (hl2:SC k2 s.heap l2 ys) (hend:xs[i]? =none∨ys[i]? =none)
 (hQ:∀h',(∀c o,c≠z→c≠TO→c≠i1→c≠i2→s.heap.get? c=some o→h'.get? c=some o)→Q none {s with heap:=h'}):wpAny (model prog w) A (pyNext (.ref z)) Q E s:=by
 have hT:s.TypeIs (.ref z) "zip":=⟨_,hz,rfl⟩
 unfold pyNext
 refine wpAny_bind (wpAny_attempt (wpAny_callSpecial?_slot (name:=Str.ofString "__next__") hT F.slot_zip_next (wpAny_call_entry F.slot_zip_next hT F.entry_zip_next
  (eD8 hh Ap n1 n2 hz hTI hTO h1 h2 hl1 hl2 hend fun h' e hk he=>?_) (F.args_zip_next_1 _))))
 obtain⟨o,ho,hc⟩:=he
 exact wpAny_bind (wpAny_isInstance (T:= "StopIteration") (b:=true) ⟨o,ho,hc⟩ isSubtype_stop (wpAny_pure (hQ _ hk)))
end
noncomputable def cB1(k:Bool)(a:Addr):Obj:={cls:=.type (if k then "tuple_iterator" else "list_iterator"),data:=.fields #[.ref a,.int 0 0]}
abbrev zh1(k1:Bool)(h:Heap)(l1:Addr):Heap:=h.push (cB1 k1 l1)
abbrev zh2(k1 k2:Bool)(h:Heap)(l1 l2:Addr):Heap:=(zh1 k1 h l1).push (cB1 k2 l2)
noncomputable abbrev zh3(k1 k2:Bool)(h:Heap)(l1 l2:Addr):Heap:=(zh2 k1 k2 h l1 l2).push {cls:=.type "tuple",data:=.seq #[.ref h.objs.size,.ref (zh1 k1 h l1).objs.size]}
noncomputable abbrev zh4(k1 k2:Bool)(h:Heap)(l1 l2:Addr):Heap:=(zh3 k1 k2 h l1 l2).push {cls:=.type "tuple",data:=.seq #[.none,.none]}
noncomputable abbrev zh5(k1 k2:Bool)(h:Heap)(l1 l2:Addr):Heap:=(zh4 k1 k2 h l1 l2).push {cls:=.type "zip",data:=.fields #[.none,.bool false,.bool false,.ref (zh2 k1 k2 h l1 l2).objs.size,.ref (zh3 k1 k2 h l1 l2).objs.size]}
theorem bO0{prog:Program}{w:World}{A:Around}{E:VSP}{s:Shared}{k:Bool}{a:Addr}{items:Array Value}{Q:VSP}(hl:SC k s.heap a items)(h:Q (.ref s.heap.objs.size) {s with heap:=s.heap.push (cB1 k a)}):wpAny (model prog w) A (pyIter (.ref a)) Q E s:=by
 rcases k with _|_
 ·exact wpAny_pyIter_list hl h
 ·exact wpAny_pyIter_tuple hl h
theorem eE8(k1 k2:Bool)(l1 l2:Addr)(xs ys:Array Value):
 Meets (Builtin.«zip.__new__» ⟨[.type "zip",.ref l1,.ref l2], []⟩) (fun _ R s=>SC k1 s.heap l1 xs∧SC k2 s.heap l2 ys∧R (.ok (.ret (.ref (zh4 k1 k2 s.heap l1 l2).objs.size))) {s with heap:=zh5 k1 k2 s.heap l1 l2}):=
 .of_wp fun prog w A R s h=>by
  obtain⟨hp,g,d,tk,os⟩:=s
  obtain⟨hl1,hl2,h⟩:=h
  have hsub:=sub_zip
  have hL1:SC k1 (Shared.heap ⟨hp,g,d,tk,os⟩) l1 xs:=hl1
  have hL2:SC k2 (Shared.heap ⟨hp.push (cB1 k1 l1),g,d,tk,os⟩) l2 ys:=hl2.keep fun o e=>Heap.get?_push_of_some _ e
  wp_walk using bO0 hL1,bO0 hL2
  exact⟨_,rfl,h⟩
section
variable{X:Cx}{pins:PNS}{σ:St}{H:Hp}{s:Shared}
theorem bI2{h':Heap}{t':Nat}{ch:List Addr}{vs:List V}{us:List Value}(I:Inv X pins σ H s)(hf:∀b∈ch,aH2 X pins H b)(k:∀b o,b∉ch→s.heap.get? b=some o→h'.get? b=some o)
 (hz:vs.length≤sizeLine) (rv:w6 vs us) (ht:aB6 h' s.heap.objs.size us.toArray):Inv X pins σ (upd H s.heap.objs.size (.tup vs)) {s with heap:=h',toks:=t'}:=by
 have hq:H s.heap.objs.size=none:=I.hok.fresh (Nat.le_refl _)
 have neq:∀b o,s.heap.get? b=some o→b≠s.heap.objs.size:=fun b o e=>Nat.ne_of_lt (Heap.lt_size e)
 have nch:∀b u,H b=some u→b∉ch:=fun b u e z=>by rw[(hf b z).1]at e;cases e
 refine I.step (g':=s.gens) (d':=s.drawn) (ch:=ch) (fun b hb=>⟨(hf b hb).2.2.2.1,(hf b hb).2.1,(hf b hb).2.2.2.2.1,(hf b hb).2.2.2.2.2⟩) (fun b o _ _ hc e _=>k b o hc e) (fun b o _ _ hc e _=>⟨o.slots,k b o hc e⟩)
  (fun b o _ e n=>by rw[o8 (neq b o e)];exact n) (fun b o hc e=>⟨o,k b o hc e⟩) (fun b xs e=>by rw[o8 (t7 e hq)];exact e) (fun b o u e=>by rw[o8 (t7 e hq)];exact e)
  (fun b ps e=>⟨#[],by rw[o8 (t7 e hq),e];simp⟩) (fun m hm=>?_) (fun b u e=>?_) I.bare
 · obtain⟨o,es,ep,ho,r⟩:=hm
   exact⟨o,es,ep,k _ o (fun z=>(hf _ z).2.1 rfl) ho,r⟩
 · by_cases hb:b=s.heap.objs.size
   · subst hb
     rw[P0]at e
     cases e
     exact⟨hz,us,rv,ht⟩
   · rw[o8 hb]at e
     refine(I.hok b u e).stay (fun c v hc q=>k c v ?_ q) (fun c q=>by rw[o8 (t7 q hq)];exact q) fun c xs q=>by rw[o8 (t7 q hq)];exact q
     rcases hc with z|z
     ·rw[z];exact nch b u e
     ·exact nch c _ z
theorem aH9{h':Heap}{t':Nat}{ch:List Addr}(I:Inv X pins σ H s)(hf:∀b∈ch,aH2 X pins H b)(k:∀b o,b∉ch→s.heap.get? b=some o→h'.get? b=some o):Inv X pins σ H {s with heap:=h',toks:=t'}:=by
 have nch:∀b u,H b=some u→b∉ch:=fun b u e z=>by rw[(hf b z).1]at e;cases e
 refine I.step (g':=s.gens) (d':=s.drawn) (ch:=ch) (fun b hb=>⟨(hf b hb).2.2.2.1,(hf b hb).2.1,(hf b hb).2.2.2.2.1,(hf b hb).2.2.2.2.2⟩) (fun b o _ _ hc e _=>k b o hc e) (fun b o _ _ hc e _=>⟨o.slots,k b o hc e⟩)
  (fun _ _ _ _ n=>n) (fun b o hc e=>⟨o,k b o hc e⟩) (fun _ _ e=>e) (fun _ _ _ e=>e) (fun b ps e=>⟨#[],by rw[e];simp⟩) (fun m hm=>?_) (fun b u e=>?_) I.bare
 · obtain⟨o,es,ep,ho,r⟩:=hm
   exact⟨o,es,ep,k _ o (fun z=>(hf _ z).2.1 rfl) ho,r⟩
 · refine(I.hok b u e).stay (fun c v hc q=>k c v ?_ q) (fun _ q=>q) fun _ _ q=>q
   rcases hc with z|z
   ·rw[z];exact nch b u e
   ·exact nch c _ z
end
def Sq(K:PySem.W.Frag)(k:Bool)(H:Hp)(a:Addr)(vs:List V):Prop:=if k then SqT K H a vs else SqL K H a vs
theorem bX3{X:Cx}{pins:PNS}{σ:St}{H:Hp}{s:Shared}{k:Bool}{a:Addr}{vs:List V}(I:Inv X pins σ H s)(h:Sq X.K k H a vs):∃its:List Value,w6 vs its∧SC k s.heap a its.toArray∧vs.length≤sizeLine:=by
 rcases k with _|_
 ·obtain⟨its,r,p,z⟩:=I.list h;exact⟨its,r,p.isList,z⟩
 ·obtain⟨its,r,p,z⟩:=I.tuple h;exact⟨its,r,p,z⟩
theorem dN3{X:Cx}{pins:PNS}{σ:St}{H:Hp}{s:Shared}{k:Bool}{a:Addr}{vs ws:List V}(I:Inv X pins σ H s)(h:Sq X.K k H a vs)(h':Sq X.K k H a ws):vs=ws:=by
 rcases k with _|_
 ·exact I.list_inj h h'
 ·exact I.tuple_inj h h'
def Itz(K:PySem.W.Frag)(k1 k2:Bool)(a b:Addr):It:=
 ⟨fun i H=>∃xs ys x y,Sq K k1 H a xs∧Sq K k2 H b ys∧xs[i]? =some x∧ys[i]? =some y,
  fun i H v H'=>∃q x y,H q=none∧v= .ref q∧H'=upd H q (.tup [x,y])∧(∀xs,Sq K k1 H a xs→xs[i]? =some x)∧∀ys,Sq K k2 H b ys→ys[i]? =some y,
  fun i H=>∃xs ys,Sq K k1 H a xs∧Sq K k2 H b ys∧(xs.length≤i∨ys.length≤i)⟩
theorem aX1{vs:List V}{its:List Value}(r:w6 vs its){i:Nat}{x:V}(h:vs[i]? =some x):∃u,its.toArray[i]? =some u∧J2 x u:=by
 obtain⟨u,e,ru⟩:=r.get h
 exact⟨u,by simpa using e,ru⟩
theorem dP5{P:Program}{w:World}{K:PySem.W.Frag}{es:List Expr}{x1:Nat}{tp:Pos}{k1 k2:Bool}{l1 l2 z TI TO i1 i2:Addr}(Ap:ZA z TI TO i1 i2)(n1:l1∉ [z,TO,i1,i2])(n2:l2∉ [z,TO,i1,i2]):
 bM0 P w K (.Tuple es x1 tp) (Itz K k1 k2 l1 l2) [z,TI,TO,i1,i2] z (fun i h=>IsZip h z TI TO .none∧IsPair h TI (.ref i1) (.ref i2)∧(∃a b,IsPair h TO a b)∧SI k1 h i1 l1 i∧SI k2 h i2 l2 i) where
 mem:=by simp
 obj:=fun i h st b hb=>by
  obtain⟨s1,s2,⟨a,c,s3⟩,s4,s5⟩:=st
  simp only[List.mem_cons,List.not_mem_nil,or_false]at hb
  rcases hb with rfl|rfl|rfl|rfl|rfl
  ·exact⟨_,s1,fun v z=>nomatch z⟩
  ·exact⟨_,s2,fun v z=>nomatch z⟩
  ·exact⟨_,s3,fun v z=>nomatch z⟩
  ·exact s4.there
  ·exact s5.there
 keep:=fun i h h' st k=>by
  obtain⟨s1,s2,⟨a,c,s3⟩,s4,s5⟩:=st
  exact⟨k _ (by simp) _ s1,k _ (by simp) _ s2,⟨a,c,k _ (by simp) _ s3⟩,s4.keep (k _ (by simp)),s5.keep (k _ (by simp))⟩
 item:=by
  intro X hP hw hK hc i pins s σ H E I hf st hg
  subst hP hw hK
  obtain⟨xs,ys,x,y,q1,q2,hx,hy⟩:=hg
  obtain⟨its1,r1,c1,z1⟩:=bX3 I q1
  obtain⟨its2,r2,c2,z2⟩:=bX3 I q2
  obtain⟨u1,e1,ru1⟩:=aX1 r1 hx
  obtain⟨u2,e2,ru2⟩:=aX1 r2 hy
  obtain⟨s1,s2,⟨a,c,s3⟩,s4,s5⟩:=st
  refine aR9 Ap n1 n2 s1 s2 s3 s4 s5 c1 c2 e1 e2 fun g b1 b2 b3 b4 b5 b6 b7=>⟨_,rfl,?_⟩
  refine wpAny_letOwnedTupleGo_zip b1 fun g2 c1' sb=>?_
  have keep:∀b o,b∉ [z,TI,TO,i1,i2]→s.heap.get? b=some o→g2.get? b=some o:=fun b o hb e=>by
   simp only[List.mem_cons,List.not_mem_nil,or_false,not_or]at hb
   exact(sb.2 b hb.1).trans (b7 b o hb.1 hb.2.2.1 hb.2.2.2.1 hb.2.2.2.2 e)
  have zlt:z<s.heap.objs.size:=Heap.lt_size s1
  have hnew:aB6 g2 s.heap.objs.size [u1,u2].toArray:=⟨_,(sb.2 _ (Nat.ne_of_gt zlt)).trans b5,rfl,_,rfl⟩
  have hq:H s.heap.objs.size=none:=I.hok.fresh (Nat.le_refl _)
  refine⟨.ref s.heap.objs.size,upd H s.heap.objs.size (.tup [x,y]),bI2 I hf keep (by show 2≤sizeLine;decide) (.cons ru1 (.cons ru2 .nil)) hnew,rfl,⟨_,x,y,hq,rfl,rfl,fun xs' h=>by rw[dN3 I h q1];exact hx,fun ys' h=>by rw[dN3 I h q2];exact hy⟩,?_,fun b hb=>?_⟩
  · refine⟨c1',?_,⟨_,_,(sb.2 _ Ap.TOz).trans b2⟩,b3.keep fun o e=>(sb.2 _ Ap.i1z).trans e,b4.keep fun o e=>(sb.2 _ Ap.i2z).trans e⟩
    exact(sb.2 _ Ap.TIz).trans (b7 TI _ Ap.TIz Ap.TITO Ap.TIi1 Ap.TIi2 s2)
  · have hb':b<s.heap.objs.size:=by
     simp only[List.mem_cons,List.not_mem_nil,or_false]at hb
     rcases hb with rfl|rfl|rfl|rfl|rfl
     ·exact zlt
     ·exact Heap.lt_size s2
     ·exact Heap.lt_size s3
     ·obtain⟨_,e,_⟩:=s4.there;exact Heap.lt_size e
     ·obtain⟨_,e,_⟩:=s5.there;exact Heap.lt_size e
    rw[o8 (Nat.ne_of_lt hb')]
    exact(hf b hb).1
 done:=by
  intro X hP hw hK hc i pins s σ H E I hf st hg
  subst hP hw hK
  obtain⟨xs,ys,q1,q2,hend⟩:=hg
  obtain⟨its1,r1,c1,z1⟩:=bX3 I q1
  obtain⟨its2,r2,c2,z2⟩:=bX3 I q2
  obtain⟨s1,s2,⟨a,c,s3⟩,s4,s5⟩:=st
  have hl1:=r1.length
  have hl2:=r2.length
  refine aV7 (I.ok.hd hc) Ap n1 n2 s1 s2 s3 s4 s5 c1 c2 (by rcases hend with h|h;left;simp;lia;right;simp;lia) fun g b7=>⟨rfl,aH9 (t':=s.toks) I hf fun b o hb e=>?_⟩
  simp only[List.mem_cons,List.not_mem_nil,or_false,not_or]at hb
  exact b7 b o hb.1 hb.2.2.1 hb.2.2.2.1 hb.2.2.2.2 e
 self:=fun _ _ _ _ _ st h=>wpAny_pyIter_zip st.1 h
def fL6(K:PySem.W.Frag)(ta:TA):TI:=fun σ H R=>ta σ H fun vs H1=>∃k1 k2 a b xs ys,vs= [.ref a,.ref b]∧Sq K k1 H1 a xs∧Sq K k2 H1 b ys∧R (Itz K k1 k2 a b) H1
section
variable{X:Cx}{Z:XC}
theorem cD1{prog:Program}{w:World}{A:Around}{E:VSP}{s:Shared}{k1 k2:Bool}{l1 l2:Addr}{xs ys:Array Value}{Q:VSP}(hl1:SC k1 s.heap l1 xs)(hl2:SC k2 s.heap l2 ys)
 (h:Q (.ref (zh4 k1 k2 s.heap l1 l2).objs.size) {s with heap:=zh5 k1 k2 s.heap l1 l2}):wpAny (model prog w) A (call (.type "zip") [.ref l1,.ref l2]) Q E s:=by
 refine callType_new F.called_zip (by decide) (F.typeCall_zip_2 _ _) (F.newCall_zip_2 _ _) (fun obj=>F.args_object_init_3 obj _ _) F.entry_zip_new (eE8 k1 k2 l1 l2 xs ys) ⟨hl1,hl2,?_⟩
 exact⟨⟨_,Heap.get?_push_size _ rfl,rfl⟩,h⟩
structure ZMk(k1 k2:Bool)(h h5:Heap)(l1 l2:Addr)(n:Nat):Prop where
 keep:∀b o,h.get? b=some o→h5.get? b=some o
 sz:h5.objs.size=n+5
 g5:IsZip h5 (n+4:Nat) (n+2:Nat) (n+3:Nat) .none
 g4:IsPair h5 (n+3:Nat) .none .none
 g3:IsPair h5 (n+2:Nat) (.ref n) (.ref (n+1:Nat))
 s1:SI k1 h5 n l1 0
 s2:SI k2 h5 (n+1:Nat) l2 0
theorem zmk{k1 k2:Bool}{h:Heap}{l1 l2:Addr}:(zh4 k1 k2 h l1 l2).objs.size=h.objs.size+4∧ZMk k1 k2 h (zh5 k1 k2 h l1 l2) l1 l2 h.objs.size:=by
 have z1:(zh1 k1 h l1).objs.size=h.objs.size+1:=Heap.size_push ..
 have z2:(zh2 k1 k2 h l1 l2).objs.size=h.objs.size+2:=by rw[Heap.size_push,z1]
 have z3:(zh3 k1 k2 h l1 l2).objs.size=h.objs.size+3:=by rw[Heap.size_push,z2]
 have z4:(zh4 k1 k2 h l1 l2).objs.size=h.objs.size+4:=by rw[Heap.size_push,z3]
 have z5:(zh5 k1 k2 h l1 l2).objs.size=h.objs.size+5:=by rw[Heap.size_push,z4]
 have g5:IsZip (zh5 k1 k2 h l1 l2) (zh4 k1 k2 h l1 l2).objs.size (zh2 k1 k2 h l1 l2).objs.size (zh3 k1 k2 h l1 l2).objs.size .none:=Heap.get?_push_size _ rfl
 have g4:IsPair (zh5 k1 k2 h l1 l2) (zh3 k1 k2 h l1 l2).objs.size .none .none:=Heap.get?_push_of_some _ (Heap.get?_push_size _ rfl)
 have g3:IsPair (zh5 k1 k2 h l1 l2) (zh2 k1 k2 h l1 l2).objs.size (.ref h.objs.size) (.ref (zh1 k1 h l1).objs.size):=Heap.get?_push_of_some _ (Heap.get?_push_of_some _ (Heap.get?_push_size _ rfl))
 have g2:(zh5 k1 k2 h l1 l2).get? (zh1 k1 h l1).objs.size=some (cB1 k2 l2):=Heap.get?_push_of_some _ (Heap.get?_push_of_some _ (Heap.get?_push_of_some _ (Heap.get?_push_size _ (by cases k2<;>rfl))))
 have g1:(zh5 k1 k2 h l1 l2).get? h.objs.size=some (cB1 k1 l1):=Heap.get?_push_of_some _ (Heap.get?_push_of_some _ (Heap.get?_push_of_some _ (Heap.get?_push_of_some _ (Heap.get?_push_size _ (by cases k1<;>rfl)))))
 rw[z4,z2,z3]at g5
 rw[z3]at g4
 rw[z2,z1]at g3
 rw[z1]at g2
 refine⟨z4,fun b o e=>Heap.get?_push_of_some _ (Heap.get?_push_of_some _ (Heap.get?_push_of_some _ (Heap.get?_push_of_some _ (Heap.get?_push_of_some _ e)))),z5,g5,g4,g3,?_,?_⟩
 · rcases k1 with _|_
   ·exact⟨_,g1,rfl,rfl⟩
   ·exact⟨_,g1,rfl,rfl⟩
 · rcases k2 with _|_
   ·exact⟨_,g2,rfl,rfl⟩
   ·exact⟨_,g2,rfl,rfl⟩
theorem SC.lt{k:Bool}{h:Heap}{a:Addr}{xs:Array Value}(c:SC k h a xs): @LT.lt Nat instLTNat a h.objs.size:=by
 rcases k with _|_
 ·obtain⟨o,e,_⟩:=(show h.IsList a _ from c);exact Heap.lt_size e
 ·obtain⟨o,e,_⟩:=(show h.IsTuple a _ from c);exact Heap.lt_size e
theorem bK0{prog:Program}{w:World}{A:Around}{E:VSP}{s:Shared}{k1 k2:Bool}{l1 l2:Addr}{xs ys:Array Value}{Q:VSP}(hl1:SC k1 s.heap l1 xs)(hl2:SC k2 s.heap l2 ys)
 (h:∀(h5:Heap) (n:Nat),n=s.heap.objs.size→ZMk k1 k2 s.heap h5 l1 l2 n→Q (.ref (n+4:Nat)) {s with heap:=h5}):wpAny (model prog w) A (call (.type "zip") [.ref l1,.ref l2]) Q E s:=by
 refine cD1 hl1 hl2 ?_
 have:=zmk (k1:=k1) (k2:=k2) (h:=s.heap) (l1:=l1) (l2:=l2)
 rw[this.1]
 exact h _ _ rfl this.2
theorem eP8{es:List Expr}{x1:Nat}{tp:Pos}{a b:Expr}{ta:TA}{p pos:Pos}(hg:Gl X "zip")(hm:X.mg "zip" =none)(ha:PA X [a,b] ta)(hs:starEach [a,b] X.env= [(false,eval a X.env),(false,eval b X.env)])(hs2:starEach [b] X.env= [(false,eval b X.env)])(hbt:bootBuiltins "zip" =some (.type "zip")):
 PI X (.Tuple es x1 tp) (.Call (.Name "zip" p) [a,b] [] pos) (fL6 X.K ta):=by
 intro pins s σ H R I h
 refine Call_ (aL9 I hg hm hbt (PyProof.Rows.callWith_type1 (thn (ha pos pins s σ H _ I h) fun us s1 hE1=>hE1.elim fun vs H1 I1 r1 q1=>?_) (by rw[hs,hs2]) (by rw[hs2];rfl)))
 obtain⟨k1,k2,l1,l2,xs,ys,rfl,q1,q2,q⟩:=q1
 obtain⟨u1,u2,rfl,ru1,ru2⟩:=cZ1 r1
 cases ru1
 cases ru2
 obtain⟨its1,rr1,c1,z1⟩:=bX3 I1 q1
 obtain⟨its2,rr2,c2,z2⟩:=bX3 I1 q2
 refine bK0 c1 c2 fun h5 n en Z=>?_
 have n1:=bS0 (en▸c1.lt)
 have n2:=bS0 (en▸c2.lt)
 refine wpAny_pyIter_zip Z.g5 ?_
 refine⟨(n+4:Nat),_,_,Itz X.K k1 k2 l1 l2,H1,rfl,I1.kept (t':=s1.toks) Z.keep,dP5 (eK7 n) n1 n2,⟨Z.g5,Z.g3,⟨_,_,Z.g4⟩,Z.s1,Z.s2⟩,fun b hb=>?_,q⟩
 have hb':s1.heap.objs.size≤b:=en▸fI0 hb
 exact I1.fpOk hb' (I1.hok.fresh hb')
end
def Ite(K:PySem.W.Frag)(a:Addr):It:=
 ⟨fun i H=>∃xs x,SqL K H a xs∧xs[i]? =some x,
  fun i H v H'=>∃q x,H q=none∧v= .ref q∧H'=upd H q (.tup [.int i,x])∧∀xs,SqL K H a xs→xs[i]? =some x,
  fun i H=>∃xs,SqL K H a xs∧xs.length≤i⟩
theorem dJ0{P:Program}{w:World}{K:PySem.W.Frag}{es:List Expr}{x1:Nat}{tp:Pos}{l e it:Addr}(hne:e≠it):
 bM0 P w K (.Tuple es x1 tp) (Ite K l) [e,it] e (fun i h=>(∃old,IsEnum h e it i old)∧h.IsListIter it l i) where
 mem:=by simp
 obj:=fun i h st b hb=>by
  obtain⟨⟨old,s1⟩,s2⟩:=st
  simp only[List.mem_cons,List.not_mem_nil,or_false]at hb
  rcases hb with rfl|rfl
  ·exact⟨_,s1,fun v z=>nomatch z⟩
  · obtain⟨o,q,c,d⟩:=s2
    exact⟨o,q,fun v z=>by rw[d]at z;cases z⟩
 keep:=fun i h h' st k=>by
  obtain⟨⟨old,s1⟩,s2⟩:=st
  exact⟨⟨old,k _ (by simp) _ s1⟩,s2.at fun o q=>k _ (by simp) o q⟩
 item:=by
  intro X hP hw hK hc i pins s σ H E I hf st hg
  subst hP hw hK
  obtain⟨xs,x,q1,hx⟩:=hg
  obtain⟨its,r1,c1,z1⟩:=I.list q1
  obtain⟨u,e1,ru⟩:=aX1 r1 hx
  obtain⟨⟨old,s1⟩,s2⟩:=st
  refine wpAny_pyNext_enum_item s1 s2 c1.isList e1 hne fun g b1 b2 b3 b4 b5=>⟨_,rfl,?_⟩
  refine wpAny_letOwnedTupleGo_enum b1 fun g2 c1' sb=>?_
  have elt:e<s.heap.objs.size:=Heap.lt_size s1
  have ilt:it<s.heap.objs.size:=by obtain⟨_,q,_⟩:=s2;exact Heap.lt_size q
  have keep:∀b o,b∉ [e,it]→s.heap.get? b=some o→g2.get? b=some o:=fun b o hb q=>by
   simp only[List.mem_cons,List.not_mem_nil,or_false,not_or]at hb
   exact(sb.2 b hb.1).trans (b5 b o hb.1 hb.2 q)
  have hnew:aB6 g2 s.heap.objs.size [.int (i:Int) s.toks,u].toArray:=⟨_,(sb.2 _ (Nat.ne_of_gt elt)).trans b3,rfl,_,rfl⟩
  have hq:H s.heap.objs.size=none:=I.hok.fresh (Nat.le_refl _)
  refine⟨.ref s.heap.objs.size,upd H s.heap.objs.size (.tup [.int i,x]),bI2 I hf keep (by show 2≤sizeLine;decide) (.cons ⟨_,rfl⟩ (.cons ru .nil)) hnew,rfl,⟨_,x,hq,rfl,rfl,fun xs' h=>by rw[I.list_inj h q1];exact hx⟩,?_,fun b hb=>?_⟩
  ·exact⟨⟨_,c1'⟩,b2.at fun o q=>(sb.2 _ (Ne.symm hne)).trans q⟩
  · have hb':b<s.heap.objs.size:=by
     simp only[List.mem_cons,List.not_mem_nil,or_false]at hb
     rcases hb with rfl|rfl
     ·exact elt
     ·exact ilt
    rw[o8 (Nat.ne_of_lt hb')]
    exact(hf b hb).1
 done:=by
  intro X hP hw hK hc i pins s σ H E I hf st hg
  subst hP hw hK
  obtain⟨xs,q1,hend⟩:=hg
  obtain⟨its,r1,c1,z1⟩:=I.list q1
  obtain⟨⟨old,s1⟩,s2⟩:=st
  have hl:=r1.length
  refine wpAny_pyNext_enum_end (I.ok.hd hc) s1 s2 c1.isList (by simp;lia) fun g b7=>⟨rfl,aH9 (t':=s.toks) I hf fun b o hb q=>?_⟩
  simp only[List.mem_cons,List.not_mem_nil,or_false,not_or]at hb
  exact b7 b o hb.2 q
 self:=fun _ _ _ _ _ st h=>by obtain⟨⟨old,s1⟩,_⟩:=st;exact wpAny_pyIter_enum s1 h
def fE5(K:PySem.W.Frag)(ta:TA):TI:=fun σ H R=>ta σ H fun vs H1=>∃a xs,vs= [.ref a]∧SqL K H1 a xs∧R (Ite K a) H1
section
variable{X:Cx}{Z:XC}
theorem eG0{es:List Expr}{x1:Nat}{tp:Pos}{a:Expr}{ta:TA}{p pos:Pos}(hg:Gl X "enumerate")(hm:X.mg "enumerate" =none)(ha:PA X [a] ta)(hs:starEach [a] X.env= [(false,eval a X.env)])(hbt:bootBuiltins "enumerate" =some (.type "enumerate")):
 PI X (.Tuple es x1 tp) (.Call (.Name "enumerate" p) [a] [] pos) (fE5 X.K ta):=by
 intro pins s σ H R I h
 refine Call_ (aL9 I hg hm hbt (PyProof.Rows.callWith_type1 (thn (ha pos pins s σ H _ I h) fun us s1 hE1=>hE1.elim fun vs H1 I1 r1 q1=>?_) hs rfl))
 obtain⟨l,xs,rfl,q1,q⟩:=q1
 obtain⟨u1,rfl,ru1⟩:=aG5 r1
 cases ru1
 obtain⟨its,rr,c1,z1⟩:=I1.list q1
 refine call_enumerate_list c1.isList fun g b1 b2 b3 b4=>wpAny_pyIter_enum b1 ?_
 have hne: @Ne Nat (s1.heap.objs.size+1) s1.heap.objs.size:=by lia
 refine⟨s1.heap.objs.size+1, [s1.heap.objs.size+1,s1.heap.objs.size],_,Ite X.K l,H1,rfl,I1.kept (t':=s1.toks) b4,dJ0 hne,⟨⟨_,b1⟩,b2⟩,fun b hb=>?_,q⟩
 have hb':s1.heap.objs.size≤b:=by
  simp only[List.mem_cons,List.not_mem_nil,or_false]at hb
  rcases hb with rfl|rfl
  ·exact Nat.le_succ _
  ·exact Nat.le_refl _
 exact I1.fpOk hb' (I1.hok.fresh hb')
variable{tg e:Expr}
open Classical in
noncomputable def ckO(r:Nat)(o:DO):DH→Bool:=fun G=>decide (G[r]? =some o)
def aJ9:D→M Src:=fun x=>match x with
 | .tup l=>pure ⟨l,fun _=>true⟩
 | .ref r=>do
   let o ←Q7 r
   let l ←listOf o
   pure ⟨l,ckO r o⟩
 |_=>M.stuck
def fF5(c:Wc)(μ:List Addr)(H:Hp)(k:Bool)(a:Addr)(s:Src):Prop:=∀ μ' G' H',Ext μ H μ' H'→t8 c μ' G' H'→s.ck G'=true→∃vs,Sq c.K k H' a vs∧o5 c μ' H' s.items vs
theorem aW6{α:Type}{c:Wc}{μ:List Addr}{H:Hp}{G:DH}{d:D}{v:V}{f:Src→M α}{K:α→List Addr→DH→Hp→Prop}(h:t8 c μ G H)(r:g8 c μ H d v)(p:d7 c Z μ H ((aJ9 d >>= f) G) K):
 ∃s k a vs,v= .ref a∧Sq c.K k H a vs∧o5 c μ H s.items vs∧fF5 c μ H k a s∧s.ck G=true∧(∀i,d= .ref i→k=false)∧d7 c Z μ H (f s G) K:=by
 rcases d with _|_|_|_|l|i|_|_<;>try (exact p.elim;done)
 ·
   unfold g8 at r
   obtain⟨a,vs,rfl,q,rl⟩:=r
   exact⟨⟨l,fun _=>true⟩,true,a,vs,rfl,q,rl,fun μ' G' H' x h' _=>⟨vs,x.sqT q,rl.mono x⟩,rfl,(fun i z=>nomatch z),p⟩
 ·
   unfold g8 at r
   obtain⟨a,m,rfl⟩:=r
   have p':d7 c Z μ H ((Q7 i >>= fun o=>(listOf o >>= fun l=>(pure ⟨l,ckO i o⟩:M Src)) >>= f) G) K:=by rw[←M.bind_assoc];exact p
   obtain⟨o,g,p2⟩:=Q6 p'
   have ro:=h.obj i o a g m
   have ck:ckO i o G=true:=by unfold ckO;simp[g]
   cases o with
   |lst l=>
     obtain⟨vs,q,rl⟩:=ro
     refine⟨⟨l,ckO i (.lst l)⟩,false,a,vs,rfl,SqL.of q,rl,fun μ' G' H' x h' hck=>?_,ck,(fun _ _=>rfl),p2⟩
     have g':G'[i]? =some (.lst l):=by unfold ckO at hck;simpa using hck
     obtain⟨vs',q',rl'⟩:=h'.obj i _ a g' (cC0 x.pre m)
     exact⟨vs',SqL.of q',rl'⟩
   |rol l=>
     obtain⟨vs,q,rl⟩:=ro
     refine⟨⟨l,ckO i (.rol l)⟩,false,a,vs,rfl,q.sq,rl,fun μ' G' H' x h' hck=>?_,ck,(fun _ _=>rfl),p2⟩
     have g':G'[i]? =some (.rol l):=by unfold ckO at hck;simpa using hck
     obtain⟨vs',q',rl'⟩:=h'.obj i _ a g' (cC0 x.pre m)
     exact⟨vs',q'.sq,rl'⟩
   |dct l=>exact p2.elim
   |rod l=>exact p2.elim
theorem cW9{c:Wc}{μ:List Addr}{H:Hp}{l:List D}{vs:List V}{i:Nat}{d:D}{x:V}(r:o5 c μ H l vs)(h:l[i]? =some d)(hx:vs[i]? =some x):g8 c μ H d x:=by
 obtain⟨v,e,q⟩:=r.get h
 rw[hx]at e
 cases e
 exact q
noncomputable def aD3(lo:Int)(n:Nat):List D:=(List.range n).map fun(i:Nat)=>D.int (lo+(i:Int))
def aW0(fs:DSt→M (List D)):DSt→M Src:=fun σ=>do
 match ←fs σ with
 |[.int j]=>if -(2 ^ 62)≤j∧j<2 ^ 62 then pure ⟨aD3 0 j.toNat,fun _=>true⟩else M.stuck
 |_=>M.stuck
theorem dE4{c:Wc}{μ:List Addr}{H:Hp}(lo:Int)(n:Nat):ItD c μ H (Itr lo n) ⟨aD3 lo n,fun _=>true⟩:=fun μ' G' H' x' h' _ i=>by
 refine⟨fun d hd=>?_,fun hi=>?_⟩
 · have hi:i<n:=by have:=lt_of_get hd;simpa [aD3]using this
   have e:d= .int (lo+i):=by
    unfold aD3 at hd
    rw[List.getElem?_map,List.getElem?_range hi]at hd
    simp at hd
    exact hd.symm
   subst e
   exact⟨hi,fun x H2 ⟨e1,e2⟩=>by subst e1 e2;exact⟨Ext.refl _ _,h',ofI⟩⟩
 · show n≤i
   simpa [aD3]using hi
theorem eI2{a:Expr}{fs:DSt→M (List D)}{p pos:Pos}(hg:Gl X "range")(hm:X.mg "range" =none)(ha:DA X Z [a] fs)(hs:starEach [a] X.env= [(false,eval a X.env)]):DI X Z tg (.Call (.Name "range" p) [a] [] pos) (aW0 fs):=
 DI.of (dI3 hg hm ha.h hs) fun σ H R hE0=>hE0.elim fun dσ μ G s h p=>⟨dσ,μ,G,s,h,(d7.bind p).mono fun ds μ1 G1 H1 x1 h1 p1 vs rv=>by
  rcases ds with _|⟨_|_|j|_|_|_|_|_,_|⟨_,_⟩⟩<;>dsimp only at p1<;>try exact p1.elim
  · split at p1
    · rename_i hj
      obtain⟨v,t,rfl,r0,e⟩:=rv
      cases e
      exact⟨j,by rw[aM6 r0],hj.1,hj.2,d7.ok p1 h1 _ (dE4 0 _)⟩
    ·exact p1.elim⟩
def bU0(fs:DSt→M (List D)):DSt→M Src:=fun σ=>do
 match ←fs σ with
 |[a,b]=>do
   let s1 ←aJ9 a
   let s2 ←aJ9 b
   pure ⟨(s1.items.zip s2.items).map fun p=>.tup [p.1,p.2],fun G=>s1.ck G&&s2.ck G⟩
 |_=>M.stuck
def bG5(fs:DSt→M (List D)):DSt→M Src:=fun σ=>do
 match ←fs σ with
 |[.ref r]=>do
   let s ←aJ9 (.ref r)
   pure ⟨s.items.zipIdx.map fun p=>.tup [.int ((p.2:Nat):Int),p.1],s.ck⟩
 |_=>M.stuck
theorem cH6{c:Wc}{μ:List Addr}{H:Hp}{G:DH}{q:Addr}{ds:List D}{vs:List V}(h:t8 c μ G H)(hq:H q=none)(r:o5 c μ H ds vs):Ext μ H μ (upd H q (.tup vs))∧t8 c μ G (upd H q (.tup vs))∧g8 c μ (upd H q (.tup vs)) (.tup ds) (.ref q):=by
 have k:Ext μ H μ (upd H q (.tup vs)):=Ext.lay hq _
 refine⟨k,h.same k fun a o e n=>by rw[o8 (t7 e hq)];exact e,?_⟩
 unfold g8
 exact⟨q,vs,rfl,SqT.of P0,r.mono k⟩
theorem eT4{es:List Expr}{x1:Nat}{tp:Pos}{a b:Expr}{fs:DSt→M (List D)}{p pos:Pos}(hg:Gl X "zip")(hm:X.mg "zip" =none)(ha:DA X Z [a,b] fs)(hs:starEach [a,b] X.env= [(false,eval a X.env),(false,eval b X.env)])(hs2:starEach [b] X.env= [(false,eval b X.env)])(hbt:bootBuiltins "zip" =some (.type "zip")):
 DI X Z (.Tuple es x1 tp) (.Call (.Name "zip" p) [a,b] [] pos) (bU0 fs):=
 DI.of (eP8 hg hm ha.h hs hs2 hbt) fun σ H R hE0=>hE0.elim fun dσ μ G s h p=>⟨dσ,μ,G,s,h,(d7.bind p).mono fun ds μ1 G1 H1 x1 h1 p1 vs rv=>by
  rcases ds with _|⟨d1,_|⟨d2,_|⟨_,_⟩⟩⟩<;>dsimp only at p1<;>try exact p1.elim
  · obtain⟨v1,t1,rfl,r1,v2,t2,rfl,r2,e⟩:=rv
    cases e
    obtain⟨s1,k1,a1,w1,rfl,q1,l1,is1,ck1,_,p2⟩:=aW6 h1 r1 p1
    obtain⟨s2,k2,a2,w2,rfl,q2,l2,is2,ck2,_,p3⟩:=aW6 h1 r2 p2
    refine⟨k1,k2,a1,a2,w1,w2,rfl,q1,q2,d7.ok p3 h1 _ fun μ' G' H' x' h' ck' i=>?_⟩
    have ck'':s1.ck G'=true∧s2.ck G'=true:=by simpa using ck'
    obtain⟨u1,q1',l1'⟩:=is1 μ' G' H' x' h' ck''.1
    obtain⟨u2,q2',l2'⟩:=is2 μ' G' H' x' h' ck''.2
    refine⟨fun d hd=>?_,fun hi=>?_⟩
    · rw[List.getElem?_map]at hd
      rcases hz:(s1.items.zip s2.items)[i]? with _|pr
      ·rw[hz]at hd;cases hd
      ·
        rw[hz]at hd
        obtain⟨e1,e2⟩:=pr
        have hd':d= .tup [e1,e2]:=by simpa using hd.symm
        subst hd'
        rw[List.getElem?_zip_eq_some]at hz
        obtain⟨y1,hy1,ry1⟩:=l1'.get hz.1
        obtain⟨y2,hy2,ry2⟩:=l2'.get hz.2
        refine⟨⟨u1,u2,y1,y2,q1',q2',hy1,hy2⟩,fun x H2 ⟨q,z1,z2,hq,ex,eH,f1,f2⟩=>?_⟩
        subst ex eH
        have g1:=f1 u1 q1'
        have g2:=f2 u2 q2'
        rw[hy1]at g1
        rw[hy2]at g2
        cases g1
        cases g2
        exact cH6 h' hq ⟨y1,_,rfl,ry1,y2,_,rfl,ry2,rfl⟩
    · refine⟨u1,u2,q1',q2',?_⟩
      rw[←l1'.length,←l2'.length]
      simp at hi
      lia⟩
theorem eI0{es:List Expr}{x1:Nat}{tp:Pos}{a:Expr}{fs:DSt→M (List D)}{p pos:Pos}(hg:Gl X "enumerate")(hm:X.mg "enumerate" =none)(ha:DA X Z [a] fs)(hs:starEach [a] X.env= [(false,eval a X.env)])(hbt:bootBuiltins "enumerate" =some (.type "enumerate")):
 DI X Z (.Tuple es x1 tp) (.Call (.Name "enumerate" p) [a] [] pos) (bG5 fs):=
 DI.of (eG0 hg hm ha.h hs hbt) fun σ H R hE0=>hE0.elim fun dσ μ G s h p=>⟨dσ,μ,G,s,h,(d7.bind p).mono fun ds μ1 G1 H1 x1 h1 p1 vs rv=>by
  rcases ds with _|⟨_|_|_|_|_|r|_|_,_|⟨_,_⟩⟩<;>dsimp only at p1<;>try exact p1.elim
  · obtain⟨v1,t1,rfl,r1,e⟩:=rv
    cases e
    obtain⟨s1,k1,a1,w1,rfl,q1,l1,is1,ck1,hk,p2⟩:=aW6 h1 r1 p1
    have hk:=hk r rfl
    subst hk
    refine⟨a1,w1,rfl,q1,d7.ok p2 h1 _ fun μ' G' H' x' h' ck' i=>?_⟩
    obtain⟨u1,q1',l1'⟩:=is1 μ' G' H' x' h' ck'
    refine⟨fun d hd=>?_,fun hi=>?_⟩
    · rw[List.getElem?_map,List.getElem?_zipIdx]at hd
      rcases hz:s1.items[i]? with _|e1
      ·rw[hz]at hd;cases hd
      ·
        rw[hz]at hd
        have hd':d= .tup [.int ((i:Nat):Int),e1]:=by simpa using hd.symm
        subst hd'
        obtain⟨y1,hy1,ry1⟩:=l1'.get hz
        refine⟨⟨u1,y1,q1',hy1⟩,fun x H2 ⟨q,z1,hq,ex,eH,f1⟩=>?_⟩
        subst ex eH
        have g1:=f1 u1 q1'
        rw[hy1]at g1
        cases g1
        exact cH6 h' hq ⟨_,_,rfl,ofI,y1,_,rfl,ry1,rfl⟩
    · refine⟨u1,q1',?_⟩
      rw[←l1'.length]
      simpa using hi⟩
end
def aO3:List D→M D:=fun ds=>match ds with
 |[.str z]=>if z.length≤sizeLine then pure (.int z.length)else M.stuck
 |[.tup l]=>pure (.int l.length)
 |[.ref r]=>do
   match ←Q7 r with
   | .lst l=>pure (.int l.length)
   | .rol l=>pure (.int l.length)
   | .dct l=>pure (.int l.length)
   | .rod _=>M.stuck
 |_=>M.stuck
def aI4:List D→M D:=fun ds=>match ds with
 |[.tup l]=>pure (.tup l)
 |[.ref r]=>do
   let l ←Q7 r >>= listOf
   pure (.tup l)
 |_=>M.stuck
def aY8:List D→M D:=fun ds=>match ds with
 |[.tup l]=>R1 (.lst l)
 |[.ref r]=>do
   let l ←Q7 r >>= listOf
   R1 (.lst l)
 |_=>M.stuck
def dM9:List D→M D:=fun ds=>match ds with
 |[.int i]=>pure (.int i)
 |[.bl k]=>pure (.int (if k then 1 else 0))
 |_=>M.stuck
noncomputable def aU1:List D→Option (List Int)
 |[]=>some []
 | .int i::r=>(aU1 r).map (i :: ·)
 |_=>none
noncomputable def bG0:List D→Option (List Bool)
 |[]=>some []
 | .bl b::r=>(bG0 r).map (b :: ·)
 |_=>none
def dC2:List D→M D:=fun ds=>match ds with
 |[.ref r]=>do
   let l ←Q7 r >>= listOf
   let ns ←aS5 (aU1 l)
   pure (.int ns.sum)
 |_=>M.stuck
def aI2:List D→M D:=fun ds=>match ds with
 |[.ref r]=>do
   let l ←Q7 r >>= listOf
   let bs ←aS5 (bG0 l)
   pure (.bl (bs.all id))
 |_=>M.stuck
def cS0:List D→M D:=fun ds=>match ds with
 |[.ref r]=>do
   let l ←Q7 r >>= listOf
   let bs ←aS5 (bG0 l)
   pure (.bl (bs.any id))
 |_=>M.stuck
theorem cV9{α:Type}{F:List D→M α}{c:Wc}{Z:XC}{μ:List Addr}{H:Hp}{G:DH}{K:α→List Addr→DH→Hp→Prop}{ds:List D}(p:d7 c Z μ H (F ds G) K)(h0:F []=M.stuck)(h2:∀a b t,F (a::b::t)=M.stuck)(hn:F [.non]=M.stuck)(hb:∀b,F [.bl b]=M.stuck)(hi:∀b,F [.int b]=M.stuck)(hs:∀b,F [.str b]=M.stuck)(ht:∀b,F [.tup b]=M.stuck)(hf:∀b,F [.fn b]=M.stuck)(hy:∀b,F [.ty b]=M.stuck):∃r,ds= [.ref r]:=by
 rcases ds with _|⟨d,_|⟨_,_⟩⟩
 ·rw[h0]at p;exact p.elim
 · rcases d with _|b|b|b|b|b|b|b
   ·rw[hn]at p;exact p.elim
   ·rw[hb]at p;exact p.elim
   ·rw[hi]at p;exact p.elim
   ·rw[hs]at p;exact p.elim
   ·rw[ht]at p;exact p.elim
   ·exact⟨b,rfl⟩
   ·rw[hf]at p;exact p.elim
   ·rw[hy]at p;exact p.elim
 ·rw[h2]at p;exact p.elim
section
variable{X:Cx}{Z:XC}{c:Wc}{μ:List Addr}{H:Hp}{G:DH}
theorem bA4{d:D}{vs:List V}(r:o5 c μ H [d] vs):∃v,vs= [v]∧g8 c μ H d v:=by
 obtain⟨v,t,rfl,q,e⟩:=r
 cases e
 exact⟨v,rfl,q⟩
theorem fK9{d e:D}{vs:List V}(r:o5 c μ H [d,e] vs):∃v w,vs= [v,w]∧g8 c μ H d v∧g8 c μ H e w:=by
 obtain⟨v,t,rfl,q,v',t',rfl,q',z⟩:=r
 cases z
 exact⟨v,v',rfl,q,q'⟩
theorem eP2:aD0 X Z (.builtin "len") aO3:=aD0.of (aC3.or cI2 (aC3.or cF5 dI8)) fun xs H Q hE0=>hE0.elim fun ds μ G rl hr p=>by
 rcases ds with _|⟨_|_|_|z|l|i|_|_,_|⟨_,_⟩⟩<;>try exact p.elim
 all_goals (delta aO3 at p;dsimp only at p)
 · obtain⟨v,rfl,r⟩:=bA4 rl
   split at p
   · rename_i hz
     exact .inr (.inl ⟨z,by rw[bA7 r],hz,d7.ok p hr _ ofI⟩)
   ·exact p.elim
 · obtain⟨v,rfl,r⟩:=bA4 rl
   unfold g8 at r
   obtain⟨a,vs,rfl,q,rl'⟩:=r
   exact .inl ⟨a,vs,rfl,.inr q,by rw[←rl'.length];exact d7.ok p hr _ ofI⟩
 · obtain⟨v,rfl,r⟩:=bA4 rl
   unfold g8 at r
   obtain⟨a,m,rfl⟩:=r
   obtain⟨o,g,p1⟩:=Q6 p
   have ro:=hr.obj i o a g m
   rcases o with l|l|l|l
   ·obtain⟨vs,q,rl'⟩:=ro;exact .inl ⟨a,vs,rfl,.inl (SqL.of q),by rw[←rl'.length];exact d7.ok p1 hr _ ofI⟩
   ·obtain⟨vs,q,rl'⟩:=ro;exact .inl ⟨a,vs,rfl,.inl q.sq,by rw[←rl'.length];exact d7.ok p1 hr _ ofI⟩
   ·obtain⟨kvs,q,rk⟩:=ro;exact .inr (.inr ⟨a,kvs,rfl,q,by rw[←rk.length];exact d7.ok p1 hr _ ofI⟩)
   ·exact p1.elim
theorem Z5{α:Type}{r:Nat}{v:V}{f:List D→M α}{K:α→List Addr→DH→Hp→Prop}(h:t8 c μ G H)(rv:g8 c μ H (.ref r) v)(p:d7 c Z μ H (((Q7 r >>= listOf) >>= f) G) K):
 ∃l a vs,v= .ref a∧o5 c μ H l vs∧SqL c.K H a vs∧d7 c Z μ H (f l G) K:=by
 obtain⟨l,a,vs,rfl,rl,p2,hq⟩:=bG7 (d:=.ref r) (f:=f) h rv p
 refine⟨l,a,vs,rfl,rl,?_,p2⟩
 rcases hq with⟨z,_⟩|⟨_,_,_,⟨_,q⟩|⟨_,q⟩⟩
 ·cases z
 ·exact SqL.of q
 ·exact q.sq
theorem dT2:aD0 X Z (.type "tuple") aI4:=aD0.of bV4 fun xs H Q hE0=>hE0.elim fun ds μ G rl hr p=>by
 rcases ds with _|⟨_|_|_|_|l|i|_|_,_|⟨_,_⟩⟩<;>try exact p.elim
 all_goals (delta aI4 at p;dsimp only at p)
 · obtain⟨v,rfl,r⟩:=bA4 rl
   have r':=r
   unfold g8 at r'
   obtain⟨a,vs,rfl,q,rl'⟩:=r'
   exact⟨a,vs,rfl,.inr ⟨q,d7.ok p hr _ r⟩⟩
 · obtain⟨v,rfl,r⟩:=bA4 rl
   obtain⟨l,a,vs,rfl,rl',q,p2⟩:=Z5 hr r p
   exact⟨a,vs,rfl,.inl ⟨q,fun l' hl=>bC2 hr rl' p2 l' hl⟩⟩
theorem eE5:aD0 X Z (.type "list") aY8:=aD0.of cB3 fun xs H Q hE0=>hE0.elim fun ds μ G rl hr p=>by
 rcases ds with _|⟨_|_|_|_|l|i|_|_,_|⟨_,_⟩⟩<;>try exact p.elim
 all_goals (delta aY8 at p;dsimp only at p)
 · obtain⟨v,rfl,r⟩:=bA4 rl
   unfold g8 at r
   obtain⟨a,vs,rfl,q,rl'⟩:=r
   exact⟨a,vs,rfl,.inr q,fun l' hl=>aF5 hr rl' p l' hl⟩
 · obtain⟨v,rfl,r⟩:=bA4 rl
   obtain⟨l,a,vs,rfl,rl',q,p2⟩:=Z5 hr r p
   exact⟨a,vs,rfl,.inl q,fun l' hl=>aF5 hr rl' p2 l' hl⟩
theorem eO5:aD0 X Z (.type "int") dM9:=aD0.of dH6 fun xs H Q hE0=>hE0.elim fun ds μ G rl hr p=>by
 rcases ds with _|⟨_|_|_|_|_|_|_|_,_|⟨_,_⟩⟩<;>try exact p.elim
 all_goals (delta dM9 at p;dsimp only at p)
 · obtain⟨v,rfl,r⟩:=bA4 rl
   exact .inr ⟨_,by rw[bW6 r],d7.ok p hr _ ofI⟩
 · obtain⟨v,rfl,r⟩:=bA4 rl
   exact .inl ⟨_,by rw[aM6 r],d7.ok p hr _ ofI⟩
theorem bY1:∀ {l:List D} {ns:List Int} {vs:List V} {us:List Value},aU1 l=some ns→o5 c μ H l vs→w6 vs us→us.length=ns.length∧∀(i:Nat) (u:Value),us[i]? =some u→∃t,u=Value.int (ns.getD i 0) t
 |[],_,_,_,e,r,q=>by cases e;cases r;cases q;exact⟨rfl,fun i u h=>by simp at h⟩
 |d::ds,ns,_,_,e,r,q=>by
   obtain⟨v,t,rfl,r0,rt⟩:=r
   cases q with
   |cons q0 qt=>
     rcases d with _|_|n|_|_|_|_|_<;>try (cases e;done)
     ·
       replace e:(aU1 ds).map (n :: ·)=some ns:=e
       rcases h:aU1 ds with _|ms
       ·rw[h]at e;exact K4 e
       ·
         rw[h]at e
         cases e
         obtain⟨h1,h2⟩:=bY1 h rt qt
         refine⟨by simp[h1],fun i u hu=>?_⟩
         cases i with
         |zero=>
           simp at hu;subst hu
           rw[aM6 r0]at q0
           exact q0
         |succ i=>simpa using h2 i u (by simpa using hu)
theorem bR2:∀ {l:List D} {bs:List Bool} {vs:List V} {us:List Value},bG0 l=some bs→o5 c μ H l vs→w6 vs us→us.length=bs.length∧∀(i:Nat) (u:Value),us[i]? =some u→u=Value.bool (bs.getD i false)
 |[],_,_,_,e,r,q=>by cases e;cases r;cases q;exact⟨rfl,fun i u h=>by simp at h⟩
 |d::ds,ns,_,_,e,r,q=>by
   obtain⟨v,t,rfl,r0,rt⟩:=r
   cases q with
   |cons q0 qt=>
     rcases d with _|n|_|_|_|_|_|_<;>try (cases e;done)
     ·
       replace e:(bG0 ds).map (n :: ·)=some ns:=e
       rcases h:bG0 ds with _|ms
       ·rw[h]at e;exact K4 e
       ·
         rw[h]at e
         cases e
         obtain⟨h1,h2⟩:=bR2 h rt qt
         refine⟨by simp[h1],fun i u hu=>?_⟩
         cases i with
         |zero=>
           simp at hu;subst hu
           rw[bW6 r0]at q0
           exact q0
         |succ i=>simpa using h2 i u (by simpa using hu)
theorem dB9(bs:List Bool):((List.range bs.length).all fun i=>bs.getD i false)=bs.all id:=by
 induction bs with
 |nil=>rfl
 |cons b t ih=>rw[List.length_cons,List.range_succ_eq_map,List.all_cons,List.all_map,List.all_cons];simp[Function.comp_def];rw[←ih];simp
theorem dH3(bs:List Bool):((List.range bs.length).any fun i=>bs.getD i false)=bs.any id:=by
 induction bs with
 |nil=>rfl
 |cons b t ih=>rw[List.length_cons,List.range_succ_eq_map,List.any_cons,List.any_map,List.any_cons];simp[Function.comp_def];rw[←ih];simp
theorem bH2{pins:PNS}{σ:St}{s:Shared}{a:Addr}{its:List Value}(hc:X.calm=true)(I:Inv X pins σ H s)(hl:s.heap.IsList a its.toArray){Q:VSP}{E:VSP}
 (h:Walks X.prog X.w X.A.in1 s.heap.objs.size [s.heap.objs.size,a] [s.heap.objs.size] its.toArray.size (fun i v=>its.toArray[i]? =some v) (fun i h=>h.IsListIter s.heap.objs.size a i∧h.IsList a its.toArray)→
   ∀h2:Heap,(h2.IsListIter s.heap.objs.size a 0∧h2.IsList a its.toArray)→(∀b∈ [s.heap.objs.size,a],b<h2.objs.size)→(∀h' tk,(∀b o,b∉ [s.heap.objs.size]→h2.get? b=some o→h'.get? b=some o)→Inv X pins σ H {s with heap:=h',toks:=tk})→Q (.ref s.heap.objs.size) {s with heap:=h2}):
 wpAny (model X.prog X.w) X.A.in1 (pyIter (.ref a)) Q E s:=by
 have hlt:a<s.heap.objs.size:=by obtain⟨_,e,_⟩:=hl;exact Heap.lt_size e
 refine wpAny_pyIter_list hl ?_
 have hh:X.A.in1.handled=none:=I.ok.hd hc
 refine h (Walks.list hh s.heap.objs.size a (Nat.ne_of_lt hlt) its.toArray) _ ⟨⟨_,Heap.get?_push_size _ rfl,rfl,rfl⟩,hl.push _⟩ (fun b hb=>?_) fun h' tk k=>?_
 · rw[Heap.size_push]
   simp only[List.mem_cons,List.not_mem_nil,or_false]at hb
   rcases hb with rfl|rfl
   ·exact Nat.lt_succ_self _
   ·exact Nat.lt_succ_of_lt hlt
 ·exact I.kept fun b o e=>k b o (by simp only[List.mem_singleton];exact Nat.ne_of_lt (Heap.lt_size e)) (Heap.get?_push_of_some _ e)
theorem eS4(hc:X.calm=true):aD0 X Z (.builtin "sum") dC2:=⟨by
 intro pins s σ H xs us Q I r hE0
 obtain⟨ds,μ,G,rl,hr,p⟩:=hE0
 obtain⟨i,rfl⟩:=cV9 (F:=dC2) p rfl (fun a _ _=>by cases a<;>rfl) rfl (fun _=>rfl) (fun _=>rfl) (fun _=>rfl) (fun _=>rfl) (fun _=>rfl) fun _=>rfl
 · obtain⟨v,rfl,rv⟩:=bA4 rl
   obtain⟨u,rfl,ru⟩:=aG5 r
   obtain⟨l,a,vs,rfl,rl',q,p2⟩:=Z5 hr rv p
   cases ru
   obtain⟨ns,en,p3⟩:=aC1 p2
   obtain⟨its,rr,pl,hz⟩:=I.list q
   obtain⟨h1,h2⟩:=bY1 en rl' rr
   refine call_sum_walkG (bH2 hc I pl.isList fun W g hg hb hk=>⟨_,_,_,_,_,_,fun i=>ns.getD i 0,rfl,W,hg,hb,fun i v hv=>h2 i v (by simpa using hv),fun h' tk t' k=>?_⟩)
   refine⟨.int ns.sum,H,hk h' tk k,⟨t',?_⟩,d7.ok p3 hr _ ofI⟩
   have e:=preSum_getD ns its.toArray.size
   rw[e,List.take_of_length_le (by rw[List.size_toArray];lia)]⟩
theorem eU1(hc:X.calm=true):aD0 X Z (.builtin "all") aI2:=⟨by
 intro pins s σ H xs us Q I r hE0
 obtain⟨ds,μ,G,rl,hr,p⟩:=hE0
 obtain⟨i,rfl⟩:=cV9 (F:=aI2) p rfl (fun a _ _=>by cases a<;>rfl) rfl (fun _=>rfl) (fun _=>rfl) (fun _=>rfl) (fun _=>rfl) (fun _=>rfl) fun _=>rfl
 · obtain⟨v,rfl,rv⟩:=bA4 rl
   obtain⟨u,rfl,ru⟩:=aG5 r
   obtain⟨l,a,vs,rfl,rl',q,p2⟩:=Z5 hr rv p
   cases ru
   obtain⟨bs,en,p3⟩:=aC1 p2
   obtain⟨its,rr,pl,hz⟩:=I.list q
   obtain⟨h1,h2⟩:=bR2 en rl' rr
   refine call_all_walk (bH2 hc I pl.isList fun W g hg hb hk=>⟨_,_,_,_,_,_,fun i=>bs.getD i false,rfl,W,hg,fun i v s' Q' E' hv hq=>?_,fun h' tk k=>?_⟩)
   · rw[h2 i v (by simpa using hv)]
     exact wpAny_truthy_bool hq
   · refine⟨.bl (bs.all id),H,hk h' tk k,?_,d7.ok p3 hr _ ofB⟩
     have e:its.toArray.size=bs.length:=by rw[List.size_toArray];exact h1
     rw[e,dB9];rfl⟩
theorem eX7(hc:X.calm=true):aD0 X Z (.builtin "any") cS0:=⟨by
 intro pins s σ H xs us Q I r hE0
 obtain⟨ds,μ,G,rl,hr,p⟩:=hE0
 obtain⟨i,rfl⟩:=cV9 (F:=cS0) p rfl (fun a _ _=>by cases a<;>rfl) rfl (fun _=>rfl) (fun _=>rfl) (fun _=>rfl) (fun _=>rfl) (fun _=>rfl) fun _=>rfl
 · obtain⟨v,rfl,rv⟩:=bA4 rl
   obtain⟨u,rfl,ru⟩:=aG5 r
   obtain⟨l,a,vs,rfl,rl',q,p2⟩:=Z5 hr rv p
   cases ru
   obtain⟨bs,en,p3⟩:=aC1 p2
   obtain⟨its,rr,pl,hz⟩:=I.list q
   obtain⟨h1,h2⟩:=bR2 en rl' rr
   refine call_any_walk (bH2 hc I pl.isList fun W g hg hb hk=>⟨_,_,_,_,_,_,fun i=>bs.getD i false,rfl,W,hg,fun i v s' Q' E' hv hq=>?_,fun h' tk k=>?_⟩)
   · rw[h2 i v (by simpa using hv)]
     exact wpAny_truthy_bool hq
   · refine⟨.bl (bs.any id),H,hk h' tk k,?_,d7.ok p3 hr _ ofB⟩
     have e:its.toArray.size=bs.length:=by rw[List.size_toArray];exact h1
     rw[e,dH3];rfl⟩
theorem fI3{x:Str}{n:String}{pos:Pos}(hg:Gl X x)(hm:X.mg x=none)(hv:bootBuiltins x=some (.type n))(hn:x≠ "__name__")(hd:(x==("__debug__" :Str))=false):DE X Z (.Name x pos) (cE (.ty n)):=
 dS0 (v:=.ty n) (dX9 hg hm hv rfl hn hd) fun _ _=>by unfold g8;rfl
end
def aD5:D→M Bool:=fun x=>match x with
 | .non=>pure false
 | .bl b=>pure b
 | .int i=>pure (i != 0)
 | .str y=>if y.length≤sizeLine then pure ((y.length:Int) != 0)else M.stuck
 | .tup l=>pure (!l.isEmpty)
 | .ref r=>do
   match ←Q7 r with
   | .lst l=>pure (!l.isEmpty)
   | .rol l=>pure (!l.isEmpty)
   | .dct l=>pure (!l.isEmpty)
   | .rod _=>M.stuck
 |_=>M.stuck
def J5(f:Fe):DSt→M Bool:=fun σ=>do aD5 (←f σ)
section
variable{X:Cx}{Z:XC}{a b c e:Expr}{fa fb fc:Fe}{pos:Pos}
theorem aE7{cc:Wc}{μ:List Addr}{H:Hp}{l:List D}{vs:List V}(r:o5 cc μ H l vs):vs.isEmpty=l.isEmpty:=by
 cases l with
 |nil=>cases r;rfl
 |cons _ _=>obtain⟨_,_,rfl,_⟩:=r;rfl
theorem bQ5{cc:Wc}{μ:List Addr}{H:Hp}{l:List (Key×D)}{vs:List (Key×V)}(r:aA9 cc μ H l vs):vs.isEmpty=l.isEmpty:=by
 cases l with
 |nil=>cases r;rfl
 |cons _ _=>obtain⟨_,_,rfl,_⟩:=r;rfl
theorem dR4(ha:DE X Z a fa)(he:∀whole,isTrue a X.env whole= (do let v ←whole;standAt a.pos;holding [v] (truthy v))):DT X Z a (J5 fa):=
 DT.of (dX3 ha.h he) fun σ H Q hE0=>hE0.elim fun dσ μ G s h p=>⟨dσ,μ,G,s,h,(d7.bind p).mono fun d μ1 G1 H1 x1 h1 p1 v rv=>by
  cases d with
  |non=>rw[dO9 rv];exact⟨false,rfl,d7.ok p1 h1⟩
  |bl b=>rw[bW6 rv];exact⟨b,rfl,d7.ok p1 h1⟩
  |int b=>rw[aM6 rv];exact⟨_,rfl,d7.ok p1 h1⟩
  |str y=>
    rw[bA7 rv]
    unfold aD5 at p1
    dsimp only at p1
    split at p1
    ·rename_i hz;exact⟨_,⟨hz,rfl⟩,d7.ok p1 h1⟩
    ·exact p1.elim
  |tup l=>
    unfold g8 at rv
    obtain⟨a,vs,rfl,q,rl⟩:=rv
    exact⟨!vs.isEmpty,.inr (.inl ⟨vs,q,rfl⟩),by rw[aE7 rl];exact d7.ok p1 h1⟩
  |ref r=>
    unfold g8 at rv
    obtain⟨a,m,rfl⟩:=rv
    obtain⟨o,g,p2⟩:=Q6 p1
    have ro:=h1.obj r o a g m
    cases o with
    |lst l=>obtain⟨vs,q,rl⟩:=ro;exact⟨!vs.isEmpty,.inl ⟨vs,SqL.of q,rfl⟩,by rw[aE7 rl];exact d7.ok p2 h1⟩
    |rol l=>obtain⟨vs,q,rl⟩:=ro;exact⟨!vs.isEmpty,.inl ⟨vs,q.sq,rfl⟩,by rw[aE7 rl];exact d7.ok p2 h1⟩
    |dct l=>obtain⟨vs,q,rl⟩:=ro;exact⟨!vs.isEmpty,.inr (.inr ⟨vs,q,rfl⟩),by rw[bQ5 rl];exact d7.ok p2 h1⟩
    |rod l=>exact p2.elim
  |_=>exact p1.elim⟩
def cC1(o o':D→D→M D)(fa fb fc:Fe):Fe:=fun σ=>do
 let x ←fa σ
 let y ←fb σ
 if ←dW3 (←o x y)then o' y (←fc σ)else pure (.bl false)
theorem dM1{op op':CmpOp}{o o':D→D→M D}(ho:OpD X Z (compareOp op) o)(ho':OpD X Z (compareOp op') o')(ha:DE X Z a fa)(hb:DE X Z b fb)(hc:DE X Z c fc)
 (hm:lastMarks [op,op'] [b,c]=false):DE X Z (.Compare a [op,op'] [b,c] pos) (cC1 o o' fa fb fc):=
 DE.of (dQ8 ho.h ho'.h ha.h hb.h hc.h hm) fun σ H Q hE0=>hE0.elim fun dσ μ G s h p=>⟨dσ,μ,G,s,h,(d7.bind p).mono fun x μ1 G1 H1 x1 h1 p1 v rv=>
  ⟨dσ,μ1,G1,s.mono x1,h1,(d7.bind p1).mono fun y μ2 G2 H2 x2 h2 p2 u ru=>⟨x,y,μ2,G2,rv.mono x2,ru,h2,(d7.bind p2).mono fun z μ3 G3 H3 x3 h3 p3 w rw'=>by
   obtain⟨k,rfl,p4⟩:=cB2 p3
   refine⟨k,bW6 rw',?_⟩
   cases k with
   |true=>exact⟨dσ,μ3,G3,s.mono (x1.trans (x2.trans x3)),h3,(d7.bind p4).mono fun t μ4 G4 H4 x4 h4 p5 q rq=>⟨y,t,μ4,G4,ru.mono (x3.trans x4),rq,h4,p5⟩⟩
   |false=>exact d7.ok p4 h3 _ ofB⟩⟩⟩
end
noncomputable def bM8(osc scope:Scope)(N XN:List Str)(caps:List (Option Nat)):Bool:=
 decide (scope.kind= .function)&&scope.names.all (fun y=>decide (y.2≠ .cell))&&scope.names.all (fun y=>decide (y.2= .local→scope.names.lookup y.1=some .local)) &&
 scope.names.all (fun y=>decide (y.2= .free→(osc.names.lookup y.1=some .cell∨osc.names.lookup y.1=some .free)))&&scope.names.all (fun y=>decide (y.2= .free→scope.names.lookup y.1=some .free)) &&
 decide (caps.length=N.length)&&(List.range caps.length).all fun i=>match caps[i]? with
  |some (some j)=>match N[i]?,XN[j]? with
    |some x,some y=>decide (x=y)&&decide ((x,NameKind.free)∈scope.names)
    |_,_=>false
  |_=>true
theorem aE1.of{X:Cx}{osc scope:Scope}{N XN:List Str}{caps:List (Option Nat)}(h:bM8 osc scope N XN caps=true)(hs:X.env.scope=osc)(hN:X.N=XN):aE1 X scope N caps:=by
 unfold bM8 at h
 simp only[Bool.and_eq_true,decide_eq_true_eq,List.all_eq_true]at h
 obtain⟨⟨⟨⟨⟨⟨h1,h2⟩,h3⟩,h4⟩,h5⟩,h6⟩,h7⟩:=h
 refine⟨h1,h2,h3,fun y hy e=>?_,h5,h6,fun i j e=>?_⟩
 · have:=h4 y hy e
   show X.env.scope.names.lookup y.1=_∨X.env.scope.names.lookup y.1=_
   rw[hs];exact this
 · have hi:i∈List.range caps.length:=by rw[List.mem_range];exact lt_of_get e
   have q:=h7 i hi
   simp only[e]at q
   rw[hN]
   split at q
   · rename_i x y e1 e2
     simp only[Bool.and_eq_true,decide_eq_true_eq]at q
     exact⟨x,e1,by rw[e2,q.1],q.2⟩
   ·exact aB4 q
def J1(m:Nat)(fb:Fs):List D→M D:=fun ds=>do
 match ←fb (ds.map some++List.replicate (m-ds.length) none) with
 | .nx _=>pure .non
 | .rt d=>pure d
 |_=>M.stuck
structure FF(K:PySem.W.Frag)(mg:Str→Option Value)(x:Str)(st:Stmt)(ps:List Str)(f:Addr)(fd:FuncData):Prop where
 F:Fun K x x st f fd
 b:aS4 K fd ps []
 m:mg x=some (.ref f)
theorem dE8{c:Wc}{μ:List Addr}{H:Hp}{N:List Str}{ds:List D}{vs:List V}(r:o5 c μ H ds vs):M5 c μ H (ds.map some++List.replicate (N.length-ds.length) none) (L2.start N vs):=by
 unfold L2.start
 rw[r.length]
 refine⟨by simp[r.length],fun i d e=>?_⟩
 by_cases hi:i<ds.length
 · rw[List.getElem?_append_left (by simpa using hi),List.getElem?_map]at e
   have hd:ds[i]? =some d:=by
    cases h:ds[i]? with
    |none=>rw[h]at e;exact K4 e
    |some d'=>rw[h]at e;simpa using e
   obtain⟨v,hv,rv⟩:=r.get hd
   refine⟨v,?_,rv⟩
   rw[List.getElem?_append_left (by simp;rw[←r.length];exact hi),List.getElem?_map,hv]
   rfl
 · rw[List.getElem?_append_right (by simpa using hi),List.getElem?_replicate]at e
   split at e<;>cases e
theorem Q4{P:Program}{w:World}{K:PySem.W.Frag}{mg:Str→Option Value}{base:Heap}{x:Str}{st:Stmt}{f:Addr}{fd:FuncData}{N ps:List Str}{k n m:Nat}{fb:Fs}(F:FF K mg x st ps f fd)(S:m6 N ps (j6 st))(hn:ps.length=n)(hm:N.length=m)
 (hbody:∀(cdv:Value) (A:Around) (outer:List Env) (s:Shared) (H:Hp) (E:XK),X4 k (A.deeper (envOfC x (j6 st) s.heap.objs.size f cdv))→DB (cQ0 CX0 P w K mg base N x (j6 st) f cdv A outer s H E).nox ZF (W3 st) fb):
 J6 P w K mg base CX0 (k+1) f fd ps (spD ⟨K,mg⟩ n (J1 m fb)):=by
 refine F.F.ok S (fun vs H Q E h=>by rw[hn];exact h.1) fun cdv A outer s H vs Q E hr h=>⟨_,(hbody cdv A outer s H E hr).h,?_⟩
 obtain⟨hl,ds,μ,G,rl,hG,p⟩:=h
 subst hm
 refine⟨_,μ,G,dE8 rl,hG,(d7.bind p).mono fun fl μ1 G1 H1 x1 h1 p1=>?_⟩
 cases fl with
 |nx dσ=>exact fun σ _=>d7.ok p1 h1 _ ofN
 |rt d=>exact fun v rv=>d7.ok p1 h1 v rv
 |bk _=>exact p1.elim
 |ct _=>exact p1.elim
def cW4(K:PySem.W.Frag):Sp:=fun vs H Q _=>∃(a:Addr) (ns:List Int),vs= [.ref a]∧SqL K H a (ns.map V.int)∧Only H∧ns.length≤63∧∀H',Q (.bl true) H'
theorem cJ7{c:Wc}{μ:List Addr}{H:Hp}:∀ns:List Int,o5 c μ H (ns.map D.int) (ns.map V.int)
 |[]=>rfl
 |n::t=>⟨.int n,_,rfl,ofI,cJ7 t⟩
theorem eQ4{P:Program}{w:World}{K:PySem.W.Frag}{mg:Str→Option Value}{base:Heap}{f:Addr}{fd:FuncData}{k:Nat}{F:List D→M D}(hF:J6 P w K mg base CX0 k f fd ["script"] (spD ⟨K,mg⟩ 1 F))
 (pure:∀ns:List Int,ns.length≤63→∃G',F [.ref 0] [.rol (ns.map D.int)]=some (.ok (.bl true),G')):J6 P w K mg base CX0 k f fd ["script"] (cW4 K):=
 hF.imp fun vs H Q E h=>by
  obtain⟨a,ns,rfl,hS,hO,hl,q⟩:=h
  obtain⟨G',e⟩:=pure ns hl
  refine⟨rfl, [.ref 0], [a], [.rol (ns.map D.int)],⟨.ref a, [],rfl,by unfold g8;exact⟨a,rfl,rfl⟩,rfl⟩,⟨rfl,fun i j b e1 e2=>?_,fun i o b e1 e2=>?_⟩,?_⟩
  · have h1:=lt_of_get e1
    have h2:=lt_of_get e2
    simp at h1 h2
    left;lia
  · have h1:=lt_of_get e2
    simp at h1
    subst h1
    have e1':o= .rol (ns.map D.int):=by simpa using e1.symm
    have e2':b=a:=by simpa using e2.symm
    subst e1' e2'
    refine⟨ns.map V.int,?_,cJ7 ns⟩
    rcases hS with(hS|⟨o,hS⟩)|hS
    · rcases hO b with z|⟨o,xs,z⟩
      ·rw[z]at hS;exact K4 hS
      ·rw[z]at hS;cases hS
    ·exact .inl ⟨o,hS⟩
    ·exact .inr (.inr hS)
  · rw[e]
    exact fun μ' H' _ _ v rv=>by rw[bW6 rv];exact q H'
theorem eY6:bootBuiltins "len" =some (.builtin "len"):=by decide +kernel
theorem bW5:bootBuiltins "isinstance" =some (.builtin "isinstance"):=by decide +kernel
theorem eP5:bootBuiltins "all" =some (.builtin "all"):=by decide +kernel
theorem eZ5:bootBuiltins "any" =some (.builtin "any"):=by decide +kernel
theorem eQ8:bootBuiltins "sum" =some (.builtin "sum"):=by decide +kernel
theorem dE2:bootBuiltins "sorted" =some (.builtin "sorted"):=by decide +kernel
theorem dW9:bootBuiltins "tuple" =some (.type "tuple"):=by decide +kernel
theorem dB2:bootBuiltins "list" =some (.type "list"):=by decide +kernel
theorem eT9:bootBuiltins "int" =some (.type "int"):=by decide +kernel
theorem eC3:bootBuiltins "dict" =some (.type "dict"):=by decide +kernel
theorem dL0:bootBuiltins "zip" =some (.type "zip"):=by decide +kernel
theorem bE4:bootBuiltins "enumerate" =some (.type "enumerate"):=by decide +kernel
end DL
namespace DL
open PySem L2
noncomputable def Wp{α:Type}(m:M α)(G:DH)(Q:α→DH→Prop):Prop:=∃a G',m G=some (.ok a,G')∧Q a G'
section
variable{α β:Type}{G:DH}{Q Q':α→DH→Prop}
theorem Wp.mono{m:M α}(h:Wp m G Q)(k:∀a G',Q a G'→Q' a G'):Wp m G Q':=let ⟨a,G',e,q⟩:=h;⟨a,G',e,k a G' q⟩
theorem j7{a:α}:Wp (pure a) G Q↔Q a G:=by
 constructor
 · rintro⟨b,G',e,q⟩
   cases e
   exact q
 ·exact fun q=>⟨a,G,rfl,q⟩
theorem aI8:Wp (M.stuck:M α) G Q↔False:=by
 constructor
 · rintro⟨b,G',e,q⟩
   exact K4 e
 ·exact False.elim
theorem j8{m:M β}{f:β→M α}:Wp (m >>= f) G Q↔Wp m G fun a G1=>Wp (f a) G1 Q:=by
 constructor
 · rintro⟨a,G',e,q⟩
   rw[M.bind_eq]at e
   match h:m G,e with
   |some (.ok b,G1),e=>exact⟨b,G1,h,a,G',e,q⟩
 · rintro⟨b,G1,e,a,G',e',q⟩
   exact⟨a,G',by rw[M.bind_ok e];exact e',q⟩
theorem aW9{m:M α}{a:α}{G':DH}(h:m G=some (.ok a,G')):Wp m G Q↔Q a G':=⟨fun⟨b,G2,e,q⟩=>by rw[h]at e;cases e;exact q,fun q=>⟨a,G',h,q⟩⟩
theorem aV3{o:Option α}:Wp (aS5 o) G Q↔∃a,o=some a∧Q a G:=by
 rcases o with _|a
 ·
   constructor
   · rintro⟨_,_,e,_⟩
     exact K4 e
   · rintro⟨_,e,_⟩
     exact K4 e
 ·
   constructor
   · rintro⟨_,_,e,q⟩
     cases e
     exact⟨_,rfl,q⟩
   · rintro⟨_,e,q⟩
     cases e
     exact⟨_,_,rfl,q⟩
theorem R0{r:Nat}{Q:DO→DH→Prop}:Wp (Q7 r) G Q↔∃o,G[r]? =some o∧Q o G:=by
 constructor
 · rintro⟨a,G',e,q⟩
   delta Q7 at e
   rcases h:G[r]? with _|o
   ·rw[h]at e;exact K4 e
   ·rw[h]at e;cases e;exact⟨_,rfl,q⟩
 · rintro⟨o,e,q⟩
   refine⟨o,G,?_,q⟩
   delta Q7
   rw[e]
theorem W6{o:DO}{Q:DPP}:Wp (R1 o) G Q↔Q (.ref G.length) (G++[o]):=aW9 rfl
theorem cD4{r:Nat}{o:DO}{Q:Unit→DH→Prop}:Wp (bM5 r o) G Q↔Q () (G.set r o):=aW9 rfl
end
section
variable{G:DH}{σ:DSt}{Q:DPP}{a b c:Fe}{t u:DSt→M Bool}{P:Fl→DH→Prop}{B:Bool→DH→Prop}
theorem aM7{i:Nat}:Wp (c7 i σ) G Q↔∃d,σ[i]? =some (some d)∧Q d G:=by
 constructor
 · rintro⟨d,G',e,q⟩
   delta c7 at e
   rcases h:σ[i]? with _|o
   ·rw[h]at e;exact K4 e
   ·
     rw[h]at e
     rcases o with _|d'
     ·exact K4 e
     ·cases e;exact⟨_,rfl,q⟩
 · rintro⟨d,h,q⟩
   exact⟨d,G,by delta c7;rw[h],q⟩
theorem eN0{d:D}:Wp (cE d σ) G Q↔Q d G:=j7
theorem bT2{o:D→D→M D}:Wp (d9 o a b σ) G Q↔Wp (a σ) G fun x G1=>Wp (b σ) G1 fun y G2=>Wp (o x y) G2 Q:=by unfold d9;simp only[j8]
theorem aQ8{α:Type}{k:Bool}{m n:M α}{R:α→DH→Prop}:Wp (if k=true then m else n) G R↔if k=true then Wp m G R else Wp n G R:=by cases k<;>exact Iff.rfl
theorem cB9{d:D}:Wp (dW3 d) G B↔∃k,d= .bl k∧B k G:=by
 constructor
 · rintro⟨k,G',e,q⟩
   rcases d with _|b|_|_|_|_|_|_<;>try (cases e;done)
   ·cases e;exact⟨_,rfl,q⟩
 · rintro⟨k,e,q⟩
   subst e
   exact⟨k,G,rfl,q⟩
theorem cH2:Wp (bU8 a σ) G Q↔Wp (a σ) G fun x G1=>∃k,x= .bl k∧Q (.bl (!k)) G1:=by unfold bU8;simp only[j8,cB9,j7]
theorem bH7:Wp (ifE t a b σ) G Q↔Wp (t σ) G fun k G1=>if k=true then Wp (a σ) G1 Q else Wp (b σ) G1 Q:=by unfold ifE;simp only[j8,aQ8]
theorem dB0:Wp (J8 a σ) G B↔Wp (a σ) G fun x G1=>∃k,x= .bl k∧B k G1:=by unfold J8;simp only[j8,cB9]
theorem aF3:Wp (J5 a σ) G B↔Wp (a σ) G fun x G1=>Wp (aD5 x) G1 B:=by unfold J5;simp only[j8]
theorem eD9:Wp (aN6 t u σ) G B↔Wp (t σ) G fun k G1=>if k=true then Wp (u σ) G1 B else B false G1:=by unfold aN6;simp only[j8,aQ8,j7]
theorem eX2:Wp (orT t u σ) G B↔Wp (t σ) G fun k G1=>if k=true then B true G1 else Wp (u σ) G1 B:=by unfold orT;simp only[j8,aQ8,j7]
theorem cF2:Wp (aN7 t σ) G B↔Wp (t σ) G fun k G1=>B (!k) G1:=by unfold aN7;simp only[j8,j7]
variable{R:List D→DH→Prop}{fs:DSt→M (List D)}
theorem G9:Wp (q11 σ) G R↔R [] G:=j7
theorem aK6:Wp (q10 a fs σ) G R↔Wp (a σ) G fun x G1=>Wp (fs σ) G1 fun xs G2=>R (x::xs) G2:=by unfold q10;simp only[j8,j7]
theorem aR0{F:List D→M D}:Wp (q12 F fs σ) G Q↔Wp (fs σ) G fun ds G1=>Wp (F ds) G1 Q:=by unfold q12;simp only[j8]
theorem cS5{α:Type}{m:M α}{R:α→DH→Prop}:Wp (noX m) G R↔Wp m G R:=by
 constructor
 · rintro⟨x,G',e,q⟩
   delta noX at e
   rcases h:m G with _|p
   ·rw[h]at e;exact K4 e
   ·
     rw[h]at e
     obtain⟨_|y,G1⟩:=p
     ·exact K4 e
     ·cases e;exact⟨_,_,h,q⟩
 · rintro⟨x,G',e,q⟩
   exact⟨x,G',by delta noX;rw[e],q⟩
theorem aF8{n:Nat}{F:List D→M D}{ds:List D}:Wp (fnX n F ds) G Q↔ds.length=n∧Wp (F ds) G Q:=by
 unfold fnX
 by_cases h:ds.length=n
 ·rw[if_pos h,cS5];exact⟨fun q=>⟨h,q⟩,fun q=>q.2⟩
 ·rw[if_neg h];exact⟨fun q=>(aI8.mp q).elim,fun q=>(h q.1).elim⟩
theorem aG4:Wp (o4 fs σ) G Q↔Wp (fs σ) G fun xs G1=>xs.length≤sizeLine∧Q (.tup xs) G1:=by
 unfold o4
 simp only[j8]
 constructor
 · rintro⟨xs,G1,e,q⟩
   refine⟨xs,G1,e,?_⟩
   by_cases h:xs.length≤sizeLine
   ·rw[if_pos h]at q;exact⟨h,j7.mp q⟩
   ·rw[if_neg h]at q;exact(aI8.mp q).elim
 · rintro⟨xs,G1,e,h,q⟩
   exact⟨xs,G1,e,by dsimp only;rw[if_pos h];exact j7.mpr q⟩
theorem aJ4:Wp (Z7 fs σ) G Q↔Wp (fs σ) G fun xs G1=>xs.length≤sizeLine∧Q (.ref G1.length) (G1++[.lst xs]):=by
 unfold Z7
 simp only[j8]
 constructor
 · rintro⟨xs,G1,e,q⟩
   refine⟨xs,G1,e,?_⟩
   by_cases h:xs.length≤sizeLine
   ·rw[if_pos h]at q;exact⟨h,W6.mp q⟩
   ·rw[if_neg h]at q;exact(aI8.mp q).elim
 · rintro⟨xs,G1,e,h,q⟩
   exact⟨xs,G1,e,by dsimp only;rw[if_pos h];exact W6.mpr q⟩
variable{f g:Fs}{gg:Fg}
theorem N5:Wp (J9 σ) G P↔P (.nx σ) G:=j7
theorem m9:Wp (m8 f g σ) G P↔Wp (f σ) G fun fl G1=>match fl with
 | .nx σ'=>Wp (g σ') G1 P
 |r=>P r G1:=by
 delta m8
 refine Iff.trans j8 ?_
 constructor
 · rintro⟨fl,G1,e,q⟩
   refine⟨fl,G1,e,?_⟩
   cases fl<;>first
    |exact q
    |exact j7.mp q
 · rintro⟨fl,G1,e,q⟩
   refine⟨fl,G1,e,?_⟩
   cases fl<;>first
    |exact q
    |exact j7.mpr q
theorem bR0:Wp (o6 a σ) G P↔Wp (a σ) G fun d G1=>P (.rt d) G1:=by unfold o6;simp only[j8,j7]
theorem aW3:Wp (aU9 a σ) G P↔Wp (a σ) G fun _ G1=>P (.nx σ) G1:=by unfold aU9;simp only[j8,j7]
theorem dM3:Wp (ifS t f g σ) G P↔Wp (t σ) G fun k G1=>if k=true then Wp (f σ) G1 P else Wp (g σ) G1 P:=by unfold ifS;simp only[j8,aQ8]
theorem cU5:Wp (K3 a gg σ) G P↔Wp (a σ) G fun d G1=>Wp (gg d σ) G1 fun σ' G2=>P (.nx σ') G2:=by unfold K3;simp only[j8,j7]
theorem S5{i:Nat}{d:D}{S:DSt→DH→Prop}:Wp (q13 i d σ) G S↔S (σ.set i (some d)) G:=j7
theorem bD0{m:Nat}{ds:List D}:Wp (J1 m f ds) G Q↔Wp (f (ds.map some++List.replicate (m-ds.length) none)) G fun fl G1=>match fl with
 | .nx _=>Q .non G1
 | .rt d=>Q d G1
 |_=>False:=by
 delta J1
 refine Iff.trans j8 ?_
 constructor
 · rintro⟨fl,G1,e,q⟩
   refine⟨fl,G1,e,?_⟩
   cases fl<;>first
    |exact j7.mp q
    |exact aI8.mp q
 · rintro⟨fl,G1,e,q⟩
   refine⟨fl,G1,e,?_⟩
   cases fl<;>first
    |exact j7.mpr q
    |exact aI8.mpr q
noncomputable def eR8(o:Option Bool)(g:Bool→Bool)(G:DH):Option (Except Str D×DH):=match o with
 |some b=>some (.ok (.bl (g b)),G)
 |none=>none
theorem bG1{m:M D}{o:Option Bool}{g:Bool→Bool}(h:m G=eR8 o g G):Wp m G Q↔∃k,o=some k∧Q (.bl (g k)) G:=by
 unfold Wp
 rw[h]
 rcases o with _|k
 ·
   constructor
   · rintro⟨_,_,e,_⟩
     exact K4 e
   · rintro⟨_,e,_⟩
     exact K4 e
 ·
   constructor
   · rintro⟨_,_,e,q⟩
     cases e
     exact⟨_,rfl,q⟩
   · rintro⟨_,e,q⟩
     cases e
     exact⟨_,_,rfl,q⟩
theorem bT7{x y:D}:Wp (eqD x y) G Q↔∃k,eqN 40 G x y=some k∧Q (.bl k) G:=bG1 (g:=id) rfl
theorem bP1{x y:D}:Wp (neD x y) G Q↔∃k,eqN 40 G x y=some k∧Q (.bl (!k)) G:=bG1 (g:=not) rfl
theorem dU9{x y:D}:Wp (ltD x y) G Q↔∃k,ltN 40 G x y=some k∧Q (.bl k) G:=bG1 (g:=id) rfl
end
end DL
namespace DL
open PySem PySem.Spec L2
open PyProof.Rows hiding St
section
variable{X:Cx}{Z:XC}{elt tg iter:Expr}{ifs:List Expr}{scope:Scope}{pos:Pos}{N:List Str}{caps:List (Option Nat)}{it:DSt→M Src}{gg:Fg}{tt:DSt→M Bool}{fe:Fe}
theorem dO0{y:Str}{py spos:Pos}{g2:Fg}(hc:X.calm=true)(hi:DI X Z tg iter it)(k:aE1 X scope N caps)
 (hg:∀C s H ex,DG (S9 X scope N C s H ex) ZF tg gg) (ht:∀C s H ex,DTs (S9 X scope N C s H ex) ZF ifs tt) (he:∀C s H ex,DE (S9 X scope N C s H ex) ZF elt fe)
 (hs:∀x,foldedSetIterable iter X.env x=pure x) (hgo:DG X Z (.Name y py) g2) (hsw:swapsWith (.ListComp elt [⟨tg,iter,ifs,0⟩] scope pos) (some (.Name y py)) spos.line X.env=pure true):
 DS X Z (.Assign [.Name y py] (.ListComp elt [⟨tg,iter,ifs,0⟩] scope pos) spos) (K3 (K8 it caps gg tt fe) g2):=by
 refine⟨?_⟩
 intro pins s σ H En I hE0
 refine hE0.elim fun dσ μ G sr hr p0=>?_
 obtain⟨Q,hQ,p⟩:∃Q:VK,(∀v H',Q v H'→bY9 (wc X) Z g2 v σ H' En.nx)∧d7 (wc X) Z μ H (K8 it caps gg tt fe dσ G) fun d μ' _ H'=>∀v,g8 (wc X) μ' H' d v→Q v H':=
  ⟨fun v H'=>bY9 (wc X) Z g2 v σ H' En.nx,fun _ _ z=>z,(d7.bind p0).mono fun d μ1 G1 H1 x' h1 p1 v rv=>⟨d,dσ,μ1,G1,rv,sr.mono x',h1,(d7.bind p1).mono fun dσ2 μ2 G2 H2 x2 h2 p2 σ2 s2=>d7.ok p2 h2 σ2 s2⟩⟩
 rw[exec_Assign_Name_used _ _ _ _ hsw]
 refine wpAny_bind (wpAny_standAt (wpAny_bind ?_))
 show wpAny _ X.A (do let _ ←comprehension (.ListComp elt [⟨tg,iter,ifs,0⟩] scope pos) scope X.env _ (newList []) false (eval iter X.env) (some (assign (.Name y py) X.env))) _ _ s
 refine wpAny_bind (wpAny_mono (cA4 (use:=some (assign (.Name y py) X.env)) (PQ:=fun _ s'=>SP X pins En .next s') hc hi k hg ht he hs I sr hr p fun DD C s4 H' m o hn fin hCn hf q9=>?_) (fun _ s' hq=>wpAny_pure (wpAny_pure hq)) fun _ _ e=>e)
 have fC:∀ {H9:Hp},H9 C=none→∀b∈ [C],aH2 X pins H9 b:=fun {H9} hn9 b hb=>by
  rw[List.mem_singleton]at hb
  subst hb
  exact hf H9 hn9
 obtain⟨oC,zC1,zC2,hoC,zC3⟩:=id hn
 have I5:=(fin s4.heap ⟨rfl,fun _ _=>rfl⟩).pinned (fp:= [C]) (fC hCn) (fun b hb=>by
  rw[List.mem_singleton]at hb
  subst hb
  exact⟨oC,hoC,fun v z=>by first|(rw[zC3.1]at z;cases z)|(rw[zC3.2.1]at z;cases z)⟩)
 refine thn (hgo.h _ s4 σ H' (.ref DD) (.ref DD) _ I5 rfl (hQ _ _ q9)) fun _ s5 ⟨σ5,H5,I6,q6⟩=>?_
 obtain⟨g5,g5n,_⟩:=I6.pin (C,oC) (List.mem_append_right _ (List.mem_append_right _ (aB8 (by simp) hoC)))
 refine⟨m,hn.at' (fun o e=>by rw[hoC]at e;cases e;exact g5),fun h'' sb=>⟨σ5,H5,aH9 (t':=s5.toks) I6.unpinned (fC g5n) fun b o hb e=>(sb.2 b (by simpa using hb)).trans e,q6⟩⟩
end
noncomputable def aL7:List (Key×D)→Option (List Str)
 |[]=>some []
 |(.inr x,_)::r=>(aL7 r).map (x :: ·)
 |_=>none
section
variable{prog:Program}{w:World}{A:Around}{E:VSP}{s:Shared}{T:String}{r d:Addr}{n:Nat}{P:Nat→Value→Prop}{OK:Heap→Prop}{Q:VSP}
end
section
variable{X:Cx}{Z:XC}{c:Wc}{μ:List Addr}{H:Hp}{G:DH}
theorem bJ1:∀ {l:List (Key×D)} {ss:List Str},aL7 l=some ss→ss.length=l.length
 |[],_,e=>by cases e;rfl
 |(.inr x,_)::r,ss,e=>by
  replace e:=show (aL7 r).map (_ :: ·)=some _ from e
  rcases h:aL7 r with _|t
  ·rw[h]at e;cases e
  ·rw[h]at e;cases e;simp[bJ1 h]
 |(.inl _,_)::_,_,e=>by cases e
theorem bD8{P:Program}{w:World}:∀ {l:List (Key×D)} {ss:List Str} {kvs:List (Key×V)} {xs:List (Key×Value)} {vs:List Value},aL7 l=some ss→aA9 c μ H l kvs→KV kvs xs→vs.length=xs.length→
 (∀(j:Nat) (v:Value),vs[j]? =some v→∃k x,xs[j]? =some (k,x)∧(N6 P w).is k v=true)→StrsAre vs ss
 |[],_,_,xs,vs,e,r,kv,hl,hv=>by
   cases e;cases r;cases kv
   rcases vs with _|⟨_,_⟩
   ·exact .nil
   ·simp at hl
 |(.inr x,d)::t,ss,kvs,xs,vs,e,r,kv,hl,hv=>by
  replace e:=show (aL7 t).map (_ :: ·)=some _ from e
  rcases h:aL7 t with _|q
  ·rw[h]at e;cases e
  ·
    rw[h]at e
    cases e
    obtain⟨v0,tl,rfl,r0,rt⟩:=r
    cases kv with
    |cons hk ht=>
      cases vs with
      |nil=>simp at hl
      |cons u us=>
        obtain⟨k,y,e1,e2⟩:=hv 0 u rfl
        simp only[List.getElem?_cons_zero,Option.some.injEq]at e1
        have hk1:(Sum.inr x:Key)=_:=hk.1
        rw[e1]at hk1
        have e3:bP2 (.inr x) u=true:=by rw[hk1];exact e2
        rcases Q0 e3 with⟨_,_,z,_⟩|⟨x',t',z,eu⟩
        ·cases z
        · cases z
          subst eu
          exact .cons _ _ (bD8 (P:=P) (w:=w) h rt ht (by simpa using hl) fun j v hj=>by simpa using hv (j+1) v (by simpa using hj))
 |(.inl _,_)::_,_,_,_,_,e,_,_,_,_=>by cases e
theorem cJ2:∀ {out:List Value} {ss:List Str},StrsAre out ss→∃vs,vs=ss.map V.str∧w6 vs out∧o5 c μ H (ss.map D.str) vs
 |_,_,.nil=>⟨[],rfl,.nil,rfl⟩
 |_,_,.cons x t q=>by
   obtain⟨vs,e,h1,h2⟩:=cJ2 q
   subst e
   exact⟨_,rfl,.cons ⟨t,rfl⟩ h1,_,_,rfl,by unfold g8;rfl,h2⟩
end
noncomputable def Its(z:Str):It:=⟨fun i _=>∃c,z.cps[i]? =some c,fun i H x H'=>H'=H∧∃c,z.cps[i]? =some c∧x= .str ⟨#[c]⟩,fun i _=>z.cps[i]? =none⟩
theorem cU0{P:Program}{w:World}{K:PySem.W.Frag}{tg:Expr}(z:Str)(t:Tok)(it:Addr):bM0 P w K tg (Its z) [it] it (fun i h=>h.IsStrIter it "str_ascii_iterator" z t i) where
 mem:=by simp
 obj:=fun i h st b hb=>by
  have e:b=it:=by simpa using hb
  subst e
  obtain⟨o,e,c,d⟩:=st
  exact⟨o,e,fun v z=>by rw[d]at z;cases z⟩
 keep:=fun i h h' st k=>let ⟨o,ho,r⟩:=st;⟨o,k it (by simp) o ho,r⟩
 item:=by
  intro X hP hw hK hc i pins s σ H E I hf st hg
  subst hP hw hK
  obtain⟨c,hx⟩:=hg
  obtain⟨f0,f1,f2,f3,f4,f5⟩:=hf it (by simp)
  refine wpAny_pyNext_ascii_item st hx fun h' st' sb=>?_
  have I1:Inv X pins σ H {s with heap:=h',toks:=s.toks+1}:=I.turned (t':=s.toks+1) (fun b o hb e=>(sb.2 b hb).trans e) f0 f1 f3 f4 f5
  obtain⟨o,e,cc,d⟩:=id st'
  exact⟨_,rfl,bZ5 (s:={s with heap:=h',toks:=s.toks+1}) e cc d (by decide) ⟨.str ⟨#[c]⟩,H,I1,⟨_,rfl⟩,⟨rfl,c,hx,rfl⟩,st',fun b hb=>(hf b hb).1⟩⟩
 done:=by
  intro X hP hw hK hc i pins s σ H E I hf st hg
  subst hP hw hK
  obtain⟨f0,f1,f2,f3,f4,f5⟩:=hf it (by simp)
  exact wpAny_pyNext_ascii_end (I.ok.hd hc) st hg fun h' eb=>⟨rfl,I.turned (t':=s.toks) (fun b o hb e=>eb b o hb e) f0 f1 f3 f4 f5⟩
 self:=fun _ _ _ _ _ st h=>wpAny_pyIter_striter_ascii st h
theorem dH9{P:Program}{w:World}{K:PySem.W.Frag}{tg:Expr}(z:Str)(t:Tok)(it:Addr):bM0 P w K tg (Its z) [it] it (fun i h=>h.IsStrIter it "str_iterator" z t i) where
 mem:=by simp
 obj:=fun i h st b hb=>by
  have e:b=it:=by simpa using hb
  subst e
  obtain⟨o,e,c,d⟩:=st
  exact⟨o,e,fun v z=>by rw[d]at z;cases z⟩
 keep:=fun i h h' st k=>let ⟨o,ho,r⟩:=st;⟨o,k it (by simp) o ho,r⟩
 item:=by
  intro X hP hw hK hc i pins s σ H E I hf st hg
  subst hP hw hK
  obtain⟨c,hx⟩:=hg
  obtain⟨f0,f1,f2,f3,f4,f5⟩:=hf it (by simp)
  refine wpAny_pyNext_wide_item st hx fun h' st' sb=>?_
  have I1:Inv X pins σ H {s with heap:=h',toks:=s.toks+1}:=I.turned (t':=s.toks+1) (fun b o hb e=>(sb.2 b hb).trans e) f0 f1 f3 f4 f5
  obtain⟨o,e,cc,d⟩:=id st'
  exact⟨_,rfl,bZ5 (s:={s with heap:=h',toks:=s.toks+1}) e cc d (by decide) ⟨.str ⟨#[c]⟩,H,I1,⟨_,rfl⟩,⟨rfl,c,hx,rfl⟩,st',fun b hb=>(hf b hb).1⟩⟩
 done:=by
  intro X hP hw hK hc i pins s σ H E I hf st hg
  subst hP hw hK
  obtain⟨f0,f1,f2,f3,f4,f5⟩:=hf it (by simp)
  exact wpAny_pyNext_wide_end (I.ok.hd hc) st hg fun h' eb=>⟨rfl,I.turned (t':=s.toks) (fun b o hb e=>eb b o hb e) f0 f1 f3 f4 f5⟩
 self:=fun _ _ _ _ _ st h=>wpAny_pyIter_striter_wide st h
section
variable{X:Cx}{Z:XC}{tg e:Expr}
noncomputable def aI0(z:Str):List D:=z.cps.toList.map fun c=>.str ⟨#[c]⟩
def dX6:D→M Src:=fun x=>match x with
 | .str z=>pure ⟨aI0 z,fun _=>true⟩
 | .tup l=>aJ9 (.tup l)
 | .ref r=>aJ9 (.ref r)
 |_=>M.stuck
end
section
variable{X:Cx}{Z:XC}{pos p q:Pos}
end
theorem cO2{P:Program}{w:World}{K:PySem.W.Frag}{mg:Str→Option Value}{base:Heap}{CX:CXT}{k n:Nat}{f:Addr}{fd:FuncData}{ps:List Str}(hn:ps.length=n):J6 P w K mg base CX k f fd ps (spD ⟨K,mg⟩ n fun _=>M.stuck):=
 ⟨fun vs H Q E h=>by rw[hn];exact h.1,fun A outer s H args us vs Q E hr=>by
  intros
  rename_i h
  first
   |exact h.2.elim
   |(obtain⟨_,_,_,_,_,_,z⟩:=h;exact z.elim)⟩
end DL
namespace W
open PySem PySem.Spec L2 DL
open PyProof.Rows hiding St
theorem st1{d:D}{n:Nat}:([d].map some++List.replicate n none:DSt)[0]? =some (some d):=by rfl
theorem fJ8{b:Bool}{P:Bool→Prop}:(∃k,D.bl b= .bl k∧P k)↔P b:=⟨fun⟨k,e,p⟩=>by cases e;exact p,fun p=>⟨b,rfl,p⟩⟩
theorem S7{α:Type}{b:α}{P:α→Prop}:(∃k,some b=some k∧P k)↔P b:=⟨fun⟨k,e,p⟩=>by cases e;exact p,fun p=>⟨b,rfl,p⟩⟩
theorem ix_tup{l:List D}{i:Int}{G:DH}{Q:DPP}:Wp (ixD (.tup l) (.int i)) G Q↔∃d,atI l i=some d∧Q d G:=aV3
theorem Z6{b:Bool}{G:DH}{B:Bool→DH→Prop}:Wp (aD5 (.bl b)) G B↔B b G:=j7
theorem eB7{l:List D}{G:DH}{Q:DPP}:Wp (aO3 [.tup l]) G Q↔Q (.int l.length) G:=j7
theorem bI1{i j:Int}{G:DH}{Q:DPP}:Wp (eqD (.int i) (.int j)) G Q↔Q (.bl (decide (i=j))) G:=by
 have e:eqN 40 G (.int i) (.int j)=some (decide (i=j)):=by rfl
 rw[bT7,e];exact S7
theorem aK1{α:Type}{m:M α}{G:DH}{x:α}(h:Wp m G fun a G'=>a=x∧G'=G):m G=some (.ok x,G):=by
 obtain⟨a,G',e,e1,e2⟩:=h
 subst e1 e2
 exact e
theorem aN5{g:Fg}{t:DSt→M Bool}{e:Fe}{ck:DH→Bool}{f:D→D}{G:DH}{I:DSt→Prop}(hck:ck G=true):∀(items:List D) (σ:DSt),I σ→
 (∀d∈items,∀ σ,I σ→∃ σ1,g d σ G=some (.ok σ1,G)∧I σ1∧t σ1 G=some (.ok true,G)∧e σ1 G=some (.ok (f d),G))→M9 g t e ck items σ G=some (.ok (items.map f),G)
 |[],σ,_,_=>by unfold M9;simp only[hck,if_true,List.map]
 |d::r,σ,i,h=>by
   obtain⟨σ1,h1,i1,h2,h3⟩:=h d (by simp) σ i
   have h4:=aN5 hck r σ1 i1 fun d hd=>h d (by simp[hd])
   unfold M9
   simp only[hck,if_true]
   rw[M.bind_ok h1,M.bind_ok h2,if_pos rfl,M.bind_ok h3,M.bind_ok h4]
   rfl
theorem cG4{α:Type}{f:α→Bool}:∀l:List α,bG0 (l.map fun x=>D.bl (f x))=some (l.map f)
 |[]=>rfl
 |a::r=>by show (bG0 (r.map fun x=>D.bl (f x))).map (f a :: ·)=_;rw[cG4 r];rfl
theorem bT5{G:DH}{r:Nat}{l:List D}{f:D→Bool}{Q:DPP}(h:G[r]? =some (.lst (l.map fun x=>.bl (f x)))):Wp (aI2 [.ref r]) G Q↔Q (.bl (l.all f)) G:=by
 unfold aI2
 simp only[j8,R0,h,S7,DL.listOf,j7,aV3,cG4]
 simp[List.all_map,Function.comp_def]
theorem cV7{i j:Int}{G:DH}{Q:DPP}:Wp (ltD (.int i) (.int j)) G Q↔Q (.bl (decide (i<j))) G:=by
 have e:ltN 40 G (.int i) (.int j)=some (decide (i<j)):=by rfl
 rw[dU9,e];exact S7
theorem bM9{i j:Int}{G:DH}{Q:DPP}:Wp (aG2 (.int i) (.int j)) G Q↔Q (.int (i+j)) G:=j7
theorem eL7(l:List D):DL.cutD l (some 1) none=l.drop 1:=by
 unfold DL.cutD
 rw[HT.sIx_none,show (some (1:Int))=some ((1:Nat):Int)from rfl,HT.sIx_nat]
 rcases l with _|⟨a,r⟩
 ·rfl
 ·simp[List.length_cons]
section
variable{G:DH}{σ:DSt}{P:Fl→DH→Prop}{g:Fg}{b:Fs}{ck:DH→Bool}
theorem aP6:Wp (aK0 g b ck [] σ) G P↔ck G=true∧P (.nx σ) G:=by
 unfold aK0
 constructor
 · rintro⟨a,G',e,q⟩
   by_cases h:ck G=true
   ·simp only[h,if_true]at e;cases e;exact⟨h,q⟩
   ·simp only[h]at e;exact K4 e
 · rintro⟨h,q⟩
   exact⟨_,G,by simp only[h,if_true],q⟩
theorem aK8{d:D}{r:List D}:Wp (aK0 g b ck (d::r) σ) G P↔ck G=true∧Wp (g d σ) G fun σ1 G1=>Wp (b σ1) G1 fun fl G2=>match fl with
 | .nx σ'=>Wp (aK0 g b ck r σ') G2 P
 | .ct σ'=>Wp (aK0 g b ck r σ') G2 P
 | .bk σ'=>P (.nx σ') G2
 | .rt d=>P (.rt d) G2:=by
 have e:Wp (aK0 g b ck (d::r) σ) G P↔ck G=true∧Wp (do
  match ←b (←g d σ) with
  | .nx σ'=>aK0 g b ck r σ'
  | .ct σ'=>aK0 g b ck r σ'
  | .bk σ'=>pure (.nx σ')
  | .rt d=>pure (.rt d):M Fl) G P:=by
  rw[aK0]
  constructor
  · rintro⟨a,G',e,q⟩
    by_cases h:ck G=true
    ·simp only[h,if_true]at e;exact⟨h,a,G',e,q⟩
    ·simp only[h]at e;exact K4 e
  · rintro⟨h,a,G',e,q⟩
    exact⟨a,G',by simp only[h,if_true];exact e,q⟩
 rw[e]
 simp only[j8]
 refine and_congr_right fun _=>?_
 constructor
 · rintro⟨σ1,G1,e1,fl,G2,e2,q⟩
   refine⟨σ1,G1,e1,fl,G2,e2,?_⟩
   cases fl<;>first
    |exact q
    |exact j7.mp q
 · rintro⟨σ1,G1,e1,fl,G2,e2,q⟩
   refine⟨σ1,G1,e1,fl,G2,e2,?_⟩
   cases fl<;>first
    |exact q
    |exact j7.mpr q
theorem aZ2{it:DSt→M Src}:Wp (aS6 it g b σ) G P↔Wp (it σ) G fun s G1=>Wp (aK0 g b s.ck s.items σ) G1 P:=by unfold aS6;simp only[j8]
end
theorem eC5{i j:Int}{G:DH}{Q:DPP}:Wp (fN3 (.int i) (.int j)) G Q↔Q (.int (i-j)) G:=j7
theorem atI_nat{l:List D}{k:Nat}{s:D}(h:l[k]? =some s):atI l (k:Int)=some s:=by
 have hk:k<l.length:=by
  by_cases hk:k<l.length
  ·exact hk
  ·rw[List.getElem?_eq_none (by omega)]at h;exact K4 h
 unfold atI ixN
 rw[if_pos (by omega),if_pos (by omega)]
 simpa using h
section
variable{G:DH}{σ:DSt}{Q:DPP}
theorem aO9{i j:Int}(h:0<j):Wp (bV5 (.int i) (.int j)) G Q↔Q (.int (i % j)) G:=by
 have e:bV5 (.int i) (.int j)=if 0<j then pure (.int (i % j))else M.stuck:=rfl
 rw[e,if_pos h];exact j7
theorem cP8{i j:Int}(h:0<j∧j<2 ^ 100):Wp (cM5 (.int i) (.int j)) G Q↔Q (.int (i / j)) G:=by
 have e:cM5 (.int i) (.int j)=if bZ1 i j then pure (.int (i / j))else M.stuck:=rfl
 rw[e,if_pos (show bZ1 i j from h)];exact j7
theorem bF3{i j:Int}(h:bU7 i j):Wp (cH1 (.int i) (.int j)) G Q↔Q (.int (i*j)) G:=by
 have e:cH1 (.int i) (.int j)=if bU7 i j then pure (.int (i*j))else M.stuck:=rfl
 rw[e,if_pos h];exact j7
theorem bS8{r:Nat}{l:List D}{i:Int}(h:G[r]? =some (.lst l)):Wp (ixD (.ref r) (.int i)) G Q↔∃d,atI l i=some d∧Q d G:=by
 have e:ixD (.ref r) (.int i)= (do
  let l ←Q7 r >>= DL.listOf
  aS5 (atI l i)):=rfl
 rw[e]
 simp only[j8,R0,h,S7,DL.listOf,j7,aV3]
theorem eF4{r:Nat}{l:List D}{k:Int}{j:Nat}{d:D}{R:Unit→DH→Prop}(h:G[r]? =some (.lst l))(hj:ixN l.length k=some j):Wp (dO1 (.ref r) (.int k) d) G R↔R () (G.set r (.lst (l.set j d))):=by
 unfold dO1
 simp only[j8,R0,h,S7,hj,cD4]
theorem eM6{fo fi:Fe}{d:D}{S:DSt→DH→Prop}:Wp (dF6 fo fi d σ) G S↔Wp (fo σ) G fun o G1=>Wp (fi σ) G1 fun i G2=>Wp (dO1 o i d) G2 fun _ G3=>S σ G3:=by
 unfold dF6;simp only[j8,j7]
end
noncomputable def aA8(G:DH)(r:Nat):Prop:=∃a b c e:Int,G[r]? =some (.lst [.int a,.int b,.int c,.int e])∧0≤b∧b<2 ^ 40
def Fr(r:Nat)(G G':DH):Prop:=G.length≤G'.length∧(∀i,i≠r→i<G.length→G'[i]? =G[i]?)∧aA8 G' r
theorem aA8.lt{G:DH}{r:Nat}(h:aA8 G r):r<G.length:=by
 obtain⟨a,b,c,e,hr,_⟩:=h
 by_cases hi:r<G.length
 ·exact hi
 ·rw[List.getElem?_eq_none (by omega)]at hr;exact K4 hr
theorem aA8.app{G t:DH}{r:Nat}(h:aA8 G r):aA8 (G++t) r:=by
 have hl:=h.lt
 obtain⟨a,b,c,e,hr,hb⟩:=h
 exact⟨a,b,c,e,by rw[List.getElem?_append_left hl];exact hr,hb⟩
theorem Fr.refl{r:Nat}{G:DH}(h:aA8 G r):Fr r G G:=⟨Nat.le_refl _,fun _ _ _=>rfl,h⟩
theorem Fr.trans{r:Nat}{G G1 G2:DH}(h:Fr r G G1)(k:Fr r G1 G2):Fr r G G2:=
 ⟨Nat.le_trans h.1 k.1,fun i hi hl=>by rw[k.2.1 i hi (by have:=h.1;omega),h.2.1 i hi hl],k.2.2⟩
theorem Fr.app{r:Nat}{G t:DH}(h:aA8 G r):Fr r G (G++t):=⟨by simp,fun i _ hl=>List.getElem?_append_left hl,h.app⟩
theorem Fr.set{r:Nat}{G:DH}{o:DO}(h:aA8 (G.set r o) r):Fr r G (G.set r o):=⟨by simp,fun i hi hl=>by rw[List.getElem?_set_ne (Ne.symm hi)],h⟩
theorem dY4{i:Int}{G:DH}{Q:DPP}:Wp (dO8 (.int i)) G Q↔Q (.int (-i)) G:=j7
theorem cN2{l:List D}{k:Int}(h0:0≤k)(h1:k<l.length):∃d,d∈l∧atI l k=some d:=by
 obtain⟨n,rfl⟩:=Int.eq_ofNat_of_zero_le h0
 have hn:n<l.length:=by omega
 exact⟨l[n],List.getElem_mem hn,atI_nat (List.getElem?_eq_getElem hn)⟩
theorem sz{l:List D}(h:Nat.ble l.length 100=true:=by rfl):l.length≤sizeLine:=Nat.le_trans (Nat.le_of_ble_eq_true h) (by decide)
theorem Fr.lt{r:Nat}{G G':DH}(h:Fr r G G'):r<G'.length:=h.2.2.lt
theorem Fr.at{r p:Nat}{G G':DH}{o:DO}(h:Fr r G G')(hp:p≠r)(e:G[p]? =some o):G'[p]? =some o:=by
 have hl:p<G.length:=by
  by_cases hi:p<G.length
  ·exact hi
  ·rw[List.getElem?_eq_none (by omega)]at e;exact K4 e
 rw[h.2.1 p hp hl];exact e
theorem eY5{G t:DH}{k:Nat}:(G++t)[G.length+k]? =t[k]? :=by
 rw[List.getElem?_append_right (by omega)];congr 1;omega
theorem cY0{G t:DH}:(G++t)[G.length]? =t[0]? :=eY5 (k:=0)
section
variable{G:DH}{σ:DSt}{Q:DPP}
theorem bD9{t:D→M Unit}{m:D→List D→M D}{fo:Fe}{fs:DSt→M (List D)}:Wp (mtE t m fo fs σ) G Q↔Wp (fo σ) G fun x G1=>Wp (t x) G1 fun _ G2=>Wp (fs σ) G2 fun xs G3=>Wp (m x xs) G3 Q:=by
 unfold mtE;simp only[j8]
theorem Z9{r:Nat}{l:List D}{R:Unit→DH→Prop}(h:G[r]? =some (.lst l)):Wp (X7 (.ref r)) G R↔R () G:=by
 delta X7;exact j8.trans ((R0.trans (by rw[h];exact S7)).trans j7)
theorem aZ3{r:Nat}{l:List D}{y:D}(h:G[r]? =some (.lst l))(hl:l.length<sizeLine):Wp (aW2 (.ref r) [y]) G Q↔Q .non (G.set r (.lst (l++[y]))):=by
 have e:aW2 (.ref r) [y]= (do
  let l ←lstM r
  if l.length<sizeLine then do
   let _ ←bM5 r (.lst (l++[y]))
   pure .non
  else M.stuck):=rfl
 rw[e]
 unfold lstM
 simp only[j8,R0,h,S7,j7,hl,if_true,cD4]
theorem aH4{r:Nat}{l:List D}(h:G[r]? =some (.lst l)):Wp (aI4 [.ref r]) G Q↔Q (.tup l) G:=by
 have e:aI4 [.ref r]= (do
  let l ←Q7 r >>= DL.listOf
  pure (.tup l)):=rfl
 rw[e]
 simp only[j8,R0,h,S7,DL.listOf,j7]
theorem dW2{l:List D}:Wp (aY8 [.tup l]) G Q↔Q (.ref G.length) (G++[.lst l]):=W6
theorem eY7{fs:DSt→M (List D)}{R:Src→DH→Prop}:Wp (aW0 fs σ) G R↔Wp (fs σ) G fun xs G1=>Wp (match xs with
 |[.int j]=>if -(2 ^ 62)≤j∧j<2 ^ 62 then pure ⟨aD3 0 j.toNat,fun _=>true⟩else M.stuck
 |_=>M.stuck:M Src) G1 R:=by
 delta aW0;exact j8
theorem bR1{j:Int}{R:Src→DH→Prop}(h: -(2 ^ 62)≤j∧j<2 ^ 62):Wp (match [D.int j] with
 |[.int j]=>if -(2 ^ 62)≤j∧j<2 ^ 62 then pure ⟨aD3 0 j.toNat,fun _=>true⟩else M.stuck
 |_=>M.stuck:M Src) G R↔R ⟨aD3 0 j.toNat,fun _=>true⟩ G:=by
 show Wp (if -(2 ^ 62)≤j∧j<2 ^ 62 then pure ⟨aD3 0 j.toNat,fun _=>true⟩else M.stuck:M Src) G R↔_
 rw[if_pos h];exact j7
theorem dA2{n:Nat}{g:Fgs}{l:List D}{S:DSt→DH→Prop}(h:l.length=n):Wp (aG0 n g (.tup l) σ) G S↔Wp (g l σ) G S:=by
 have e:aG0 n g (.tup l) σ=if l.length=n then g l σ else M.stuck:=rfl
 rw[e,if_pos h]
theorem eE9{g:Fgs}{a b:D}{S:DSt→DH→Prop}:Wp (aG0 2 g (.tup [a,b]) σ) G S↔Wp (g [a,b] σ) G S:=dA2 rfl
theorem bU6{g:Fg}{t:Fgs}{d:D}{l:List D}{S:DSt→DH→Prop}:Wp (J4 g t (d::l) σ) G S↔Wp (g d σ) G fun σ1 G1=>Wp (t l σ1) G1 S:=by
 have e:J4 g t (d::l) σ= (do t l (←g d σ)):=rfl
 rw[e];simp only[j8]
theorem cG2{S:DSt→DH→Prop}:Wp (aJ8 [] σ) G S↔S σ G:=j7
theorem bN2{i j:Nat}{a b:List D}(ha:G[i]? =some (.lst a))(hb:G[j]? =some (.lst b))(hl:a.length+b.length≤sizeLine):Wp (aG2 (.ref i) (.ref j)) G Q↔Q (.ref G.length) (G++[.lst (a++b)]):=by
 have e:aG2 (.ref i) (.ref j)= (do
  match ←Q7 i,←Q7 j with
  | .lst a,.lst b=>if a.length+b.length≤sizeLine then R1 (.lst (a++b))else M.stuck
  |_,_=>M.stuck):=rfl
 rw[e]
 simp only[j8,R0,ha,hb,S7,if_pos hl,W6]
theorem bN0{a b:List D}(hl:a.length+b.length≤sizeLine):Wp (aG2 (.tup a) (.tup b)) G Q↔Q (.tup (a++b)) G:=by
 have e:aG2 (.tup a) (.tup b)=if a.length+b.length≤sizeLine then pure (.tup (a++b))else M.stuck:=rfl
 rw[e,if_pos hl];exact j7
theorem dC9{R:Option Int→DH→Prop}:Wp (aQ3 σ) G R↔R none G:=j7
theorem dY7{f:Fe}{R:Option Int→DH→Prop}:Wp (aR6 f σ) G R↔Wp (f σ) G fun x G1=>∃i,x= .int i∧R (some i) G1:=by
 delta aR6
 refine Iff.trans j8 ?_
 constructor
 · rintro⟨x,G1,e,q⟩
   refine⟨x,G1,e,?_⟩
   rcases x with _|_|i|_|_|_|_|_<;>try (exact(aI8.mp q).elim;done)
   ·exact⟨i,rfl,j7.mp q⟩
 · rintro⟨x,G1,e,i,rfl,q⟩
   exact⟨_,G1,e,j7.mpr q⟩
theorem sl_tup{l:List D}{lo hi:Option Int}:Wp (slD (.tup l) lo hi) G Q↔Q (.tup (DL.cutD l lo hi)) G:=j7
theorem cH5(l:List D)(lo hi:Option Int):(DL.cutD l lo hi).length≤l.length:=by
 unfold DL.cutD
 rw[List.length_take,List.length_drop]
 omega
end
theorem j9{G:DH}{o:DO}:(G++[o])[G.length]? =some o:=cY0
theorem Q3{G t:DH}{p:Nat}{o:DO}(e:G[p]? =some o):(G++t)[p]? =some o:=by
 have hlt:p<G.length:=by
  by_cases hi:p<G.length
  ·exact hi
  ·rw[List.getElem?_eq_none (by omega)]at e;exact K4 e
 rw[List.getElem?_append_left hlt];exact e
noncomputable def Gr(G G':DH):Prop:=G.length≤G'.length∧∀i,i<G.length→G'[i]? =G[i]?
theorem Gr.trans{G G1 G2:DH}(h:Gr G G1)(k:Gr G1 G2):Gr G G2:=⟨Nat.le_trans h.1 k.1,fun i hi=>by rw[k.2 i (by have:=h.1;omega),h.2 i hi]⟩
theorem Gr.app{G t:DH}:Gr G (G++t):=⟨by simp,fun i hi=>List.getElem?_append_left hi⟩
theorem Gr.of{r:Nat}{G G1 G2:DH}(h:Gr G G1)(f:Fr r G1 G2)(hr:G.length≤r):Gr G G2:=⟨Nat.le_trans h.1 f.1,fun i hi=>by rw[f.2.1 i (by omega) (by have:=h.1;omega),h.2 i hi]⟩
theorem Gr.at{p:Nat}{G G':DH}{o:DO}(h:Gr G G')(e:G[p]? =some o):G'[p]? =some o:=by
 have hl:p<G.length:=by
  by_cases hi:p<G.length
  ·exact hi
  ·rw[List.getElem?_eq_none (by omega)]at e;cases e
 rw[h.2 p hl];exact e
theorem cL0:∀ns:List Int,aU1 (ns.map D.int)=some ns
 |[]=>rfl
 |a::r=>by show (aU1 (r.map D.int)).map (a :: ·)=_;rw[cL0 r];rfl
theorem dZ8{G:DH}{p:Nat}{ns:List Int}{Q:DPP}(e:G[p]? =some (.rol (ns.map D.int))):Wp (dC2 [.ref p]) G Q↔Q (.int ns.sum) G:=by
 have h:dC2 [.ref p]= (do
  let l ←Q7 p >>= DL.listOf
  let ns ←aS5 (aU1 l)
  pure (.int ns.sum)):=rfl
 rw[h]
 simp only[j8,R0,e,S7,DL.listOf,j7,aV3,cL0]
theorem eC1{G:DH}{p q:Nat}{xs:List D}{Q:DPP}(e:G[p]? =some (.rol xs))(eq:G[q]? =some (.lst [])):Wp (neD (.ref p) (.ref q)) G Q↔Q (.bl (!xs.isEmpty)) G:=by
 have h:eqN 40 G (.ref p) (.ref q)=some xs.isEmpty:=by
  have h1:aB7 G (.ref p)=some (false,xs):=by delta aB7;dsimp only;rw[e]
  have h2:aB7 G (.ref q)=some (false, []):=by delta aB7;dsimp only;rw[eq]
  rw[aY4,h1,h2]
  cases xs<;>rfl
 rw[bP1,h];exact S7
theorem bN1{G:DH}{σ:DSt}{p:Nat}{l:List D}{R:Src→DH→Prop}(e:G[p]? =some (.lst l)):Wp (aJ9 (.ref p)) G R↔R ⟨l,ckO p (.lst l)⟩ G:=by
 have h:aJ9 (.ref p)= (do
  let o ←Q7 p
  let l ←DL.listOf o
  pure ⟨l,ckO p o⟩):=rfl
 rw[h]
 simp only[j8,R0,e,S7,DL.listOf,j7]
theorem eN6{G:DH}{p:Nat}{l:List D}{lo hi:Option Int}{Q:DPP}(e:G[p]? =some (.rol l)):Wp (slD (.ref p) lo hi) G Q↔Q (.ref G.length) (G++[.lst (DL.cutD l lo hi)]):=by
 have h:slD (.ref p) lo hi= (do
  let l ←Q7 p >>= DL.listOf
  R1 (.lst (DL.cutD l lo hi))):=rfl
 rw[h]
 simp only[j8,R0,e,S7,DL.listOf,j7,W6]
theorem dR6{G:DH}{σ:DSt}{fs:DSt→M (List D)}{R:Src→DH→Prop}:Wp (bG5 fs σ) G R↔Wp (fs σ) G fun xs G1=>Wp (match xs with
 |[.ref r]=>do
   let s ←aJ9 (.ref r)
   pure ⟨s.items.zipIdx.map fun p=>.tup [.int ((p.2:Nat):Int),p.1],s.ck⟩
 |_=>M.stuck:M Src) G1 R:=by
 delta bG5;exact j8
theorem dT5{G:DH}{p:Nat}{l:List D}{R:Src→DH→Prop}(e:G[p]? =some (.lst l)):Wp (match [D.ref p] with
 |[.ref r]=>do
   let s ←aJ9 (.ref r)
   pure ⟨s.items.zipIdx.map fun p=>.tup [.int ((p.2:Nat):Int),p.1],s.ck⟩
 |_=>M.stuck:M Src) G R↔R ⟨l.zipIdx.map fun p=>.tup [.int ((p.2:Nat):Int),p.1],ckO p (.lst l)⟩ G:=by
 show Wp (do
  let s ←aJ9 (.ref p)
  pure ⟨s.items.zipIdx.map fun p=>.tup [.int ((p.2:Nat):Int),p.1],s.ck⟩:M Src) G R↔_
 simp only[j8]
 rw[bN1 (σ:= []) e]
 exact j7
section
variable{G:DH}{σ:DSt}{Q:DPP}
theorem dK4{o o':D→D→M D}{a b c:Fe}:Wp (cC1 o o' a b c σ) G Q↔Wp (a σ) G fun x G1=>Wp (b σ) G1 fun y G2=>Wp (o x y) G2 fun z G3=>∃k,z= .bl k∧if k=true then Wp (c σ) G3 fun w G4=>Wp (o' y w) G4 Q else Q (.bl false) G3:=by
 unfold cC1;simp only[j8,cB9,aQ8,j7]
theorem wp_trueT{B:Bool→DH→Prop}:Wp (M4 σ) G B↔B true G:=j7
variable{g:Fg}{t:DSt→M Bool}{e:Fe}{ck:DH→Bool}{R:List D→DH→Prop}
theorem aM8:Wp (M9 g t e ck [] σ) G R↔ck G=true∧R [] G:=by
 unfold M9
 constructor
 · rintro⟨a,G',e,q⟩
   by_cases h:ck G=true
   ·simp only[h,if_true]at e;cases e;exact⟨h,q⟩
   ·simp only[h]at e;exact K4 e
 · rintro⟨h,q⟩
   exact⟨_,G,by simp only[h,if_true],q⟩
theorem aN9{d:D}{r:List D}:Wp (M9 g t e ck (d::r) σ) G R↔ck G=true∧Wp (g d σ) G fun σ1 G1=>Wp (t σ1) G1 fun b G2=>if b=true then Wp (e σ1) G2 fun y G3=>Wp (M9 g t e ck r σ1) G3 fun ys G4=>R (y::ys) G4 else Wp (M9 g t e ck r σ1) G2 R:=by
 have h0:Wp (M9 g t e ck (d::r) σ) G R↔ck G=true∧Wp (do
  let σ1 ←g d σ
  if ←t σ1 then do
   let y ←e σ1
   let ys ←M9 g t e ck r σ1
   pure (y::ys)
  else M9 g t e ck r σ1:M (List D)) G R:=by
  rw[M9]
  constructor
  · rintro⟨a,G',e,q⟩
    by_cases h:ck G=true
    ·simp only[h,if_true]at e;exact⟨h,a,G',e,q⟩
    ·simp only[h]at e;exact K4 e
  · rintro⟨h,a,G',e,q⟩
    exact⟨a,G',by simp only[h,if_true];exact e,q⟩
 rw[h0]
 simp only[j8,aQ8,j7]
theorem wp_comp{it:DSt→M Src}{caps:List (Option Nat)}:Wp (K8 it caps g t e σ) G Q↔Wp (it σ) G fun s G1=>s.items.length≤sizeLine∧Wp (M9 g t e s.ck s.items (aB3 caps σ)) G1 fun ys G2=>Q (.ref G2.length) (G2++[.lst ys]):=by
 unfold K8
 simp only[j8]
 constructor
 · rintro⟨s,G1,e1,q⟩
   refine⟨s,G1,e1,?_⟩
   by_cases h:s.items.length≤sizeLine
   · rw[if_pos h]at q
     simp only[j8,cS5,W6]at q
     exact⟨h,q⟩
   ·rw[if_neg h]at q;exact(aI8.mp q).elim
 · rintro⟨s,G1,e1,h,q⟩
   refine⟨s,G1,e1,?_⟩
   dsimp only
   rw[if_pos h]
   simp only[j8,cS5,W6]
   exact q
theorem bL2{p:D→Bool}{G:DH}(hck:ck G=true)(S:DSt→Prop):∀(items:List D) (σ:DSt),S σ→
 (∀d∈items,∀ σ,S σ→∃ σ1,g d σ G=some (.ok σ1,G)∧S σ1∧t σ1 G=some (.ok (p d),G)∧e σ1 G=some (.ok d,G))→M9 g t e ck items σ G=some (.ok (items.filter p),G)
 |[],σ,_,_=>by unfold M9;simp only[hck,if_true,List.filter_nil]
 |d::r,σ,i,h=>by
   obtain⟨σ1,h1,i1,h2,h3⟩:=h d (by simp) σ i
   have h4:=bL2 hck S r σ1 i1 fun d hd=>h d (by simp[hd])
   unfold M9
   simp only[hck,if_true]
   rw[M.bind_ok h1,M.bind_ok h2]
   by_cases hp:p d=true
   · rw[if_pos hp,M.bind_ok h3,M.bind_ok h4,List.filter_cons_of_pos hp]
     rfl
   ·rw[if_neg hp,h4,List.filter_cons_of_neg hp]
end
section
variable{G:DH}{σ:DSt}{Q:DPP}
theorem eT8{a b:Str}:Wp (eqD (.str a) (.str b)) G Q↔Q (.bl (a==b)) G:=by
 have e:eqN 40 G (.str a) (.str b)=some (a==b):=by rfl
 rw[bT7,e];exact S7
theorem cY9{a b:Str}:Wp (leD (.str a) (.str b)) G Q↔Q (.bl (!decide (b.cps.toList<a.cps.toList))) G:=j7
theorem cL5{z:Str}(h:z.length≤sizeLine):Wp (aO3 [.str z]) G Q↔Q (.int z.length) G:=by
 have e:aO3 [.str z]=if z.length≤sizeLine then pure (.int z.length)else M.stuck:=rfl
 rw[e,if_pos h];exact j7
theorem dW6{x y:D}:Wp (bO7 x y) G Q↔∃k,inB x y G=some k∧Q (.bl (!k)) G:=bG1 (g:=not) (by unfold bO7 eR8;cases inB x y G<;>rfl)
theorem eL5{x y:D}:Wp (inD x y) G Q↔∃k,inB x y G=some k∧Q (.bl k) G:=bG1 (g:=id) (by unfold inD eR8;cases inB x y G<;>rfl)
theorem dS3{p:Nat}{l:List D}{R:Src→DH→Prop}(e:G[p]? =some (.lst l)):Wp (dX6 (.ref p)) G R↔R ⟨l,ckO p (.lst l)⟩ G:=bN1 (σ:= []) e
end
noncomputable def eH6(c:Nat):Bool:=decide (97≤c)&&decide (c≤122)
def cZ2(z:Str):Bool:=z.cps.toList.all eH6
theorem fP2(c:Nat):(!decide ((⟨#[c]⟩:Str).cps.toList<("a" :Str).cps.toList))=decide (97≤c):=by
 have e:("a" :Str).cps.toList= [97]:=by rfl
 rw[e]
 show (!decide ([c] < [97]))=_
 by_cases h:97≤c
 · have:¬c<97:=by lia
   simp[h,List.cons_lt_cons_iff,this]
 · have:c<97:=by lia
   simp[h,List.cons_lt_cons_iff,this]
theorem fL7(c:Nat):(!decide (("z" :Str).cps.toList<(⟨#[c]⟩:Str).cps.toList))=decide (c≤122):=by
 have e:("z" :Str).cps.toList= [122]:=by rfl
 rw[e]
 show (!decide ([122] < [c]))=_
 by_cases h:c≤122
 · have:¬122<c:=by lia
   simp[h,List.cons_lt_cons_iff,this]
 · have:122<c:=by lia
   simp[h,List.cons_lt_cons_iff,this]
end W
namespace DL
open PySem PySem.Spec L2
open PyProof.Rows hiding St
section
variable{prog:Program}{w:World}{A:Around}{E:VSP}{s:Shared}{I l:Addr}{items:Array Value}
end
section
variable{X:Cx}{Z:XC}{e:Expr}{fa:Fe}{p1 p2 pos1 pos2:Pos}
end
end DL
namespace DL
open PySem PySem.Spec L2 Builtin Builtin.Str
open PyProof.Rows hiding St
section
variable{X:Cx}{Z:XC}{e:Expr}{fa:Fe}{p2 pos:Pos}{lo hi:Option Expr}{fl fh:Fo}
theorem cY6{v:Value}{o:Option Int}(p:IsPart v o):∃l:Option (Int×Tok),v=partValue l∧l.map (·.1)=o:=by
 cases p with
 |none=>exact⟨none,rfl,rfl⟩
 |int i t=>exact⟨some (i,t),rfl,rfl⟩
theorem eU2:SlR X (fun x lo hi H Q=>∃z,x= .str z∧z.length≤sizeLine∧Q (.str (Txt.slice z lo hi)) H):=by
 intro pins s σ H x v vl vu lo hi sl Q I rx hs pl pu h
 obtain⟨z,rfl,hz,q⟩:=h
 obtain⟨t,rfl⟩:=rx
 obtain⟨l,el,eml⟩:=cY6 pl
 obtain⟨u,eu,emu⟩:=cY6 pu
 subst el eu eml emu
 refine⟨"str",_,PySem.F.slot_str_getitem.lookup,typeIs_str _ z t,?_⟩
 refine wpAny_getItem_str_slice (l:=l) (u:=u) (st:=none) (let ⟨o,h1,h2,h3⟩:=hs;⟨o,h1,h2,h3⟩) rfl ?_
 unfold sliceMade
 unfold Txt.slice at q
 unfold slicePicked
 have e1:((Option.map (fun x:Int×Tok=>x.1) none).getD 1)= (1:Int):=rfl
 simp only[e1]
 by_cases hc:((1:Int)==1&&(strSliceIndices (l.map (·.1)) (u.map (·.1)) 1 z.length).length==z.length)=true
 · rw[if_pos hc]at q
   rw[if_pos hc]
   exact⟨.str z,H,I,⟨t,rfl⟩,q⟩
 · rw[if_neg hc]at q
   rw[if_neg hc]
   refine⟨?_,.str _,H,I.tok _,⟨_,rfl⟩,q⟩
   have hle:=Txt.slice_le z (l.map (·.1)) (u.map (·.1))
   unfold Txt.slice at hle
   rw[if_neg hc]at hle
   exact Nat.le_trans hle hz
def slT:D→Option Int→Option Int→M D:=fun x lo hi=>match x with
 | .str z=>if z.length≤sizeLine then pure (.str (Txt.slice z lo hi))else M.stuck
 | .tup l=>slD (.tup l) lo hi
 | .ref r=>slD (.ref r) lo hi
 |_=>M.stuck
def aJ7(f:Fe)(lo hi:Fo):Fe:=fun σ=>do
 let x ←f σ
 let l ←lo σ
 let h ←hi σ
 slT x l h
theorem fA3:SlD X Z slT:=SlR.mono (eU2.or (fG4 (Z:=Z))) fun x lo hi H Q ⟨dx,μ,G,rx,hr,p⟩=>by
 rcases dx with _|_|_|z|l|r|_|_<;>try (exact p.elim;done)
 ·
   unfold slT at p
   dsimp only at p
   split at p
   · rename_i hz
     exact .inl ⟨z,bA7 rx,hz,d7.ok p hr _ (by unfold g8;rfl)⟩
   ·exact p.elim
 ·exact .inr ⟨.tup l,μ,G,rx,hr,p⟩
 ·exact .inr ⟨.ref r,μ,G,rx,hr,p⟩
theorem dG7(he:DE X Z e fa)(hl:DOp X Z lo fl)(hu:DOp X Z hi fh):DE X Z (.Subscript e (.Slice lo hi none p2) pos) (aJ7 fa fl fh):=
 DE.of (dS2 fA3 he.h hl.h hu.h) fun σ H Q hE0=>hE0.elim fun dσ μ G s h p=>⟨dσ,μ,G,s,h,(d7.bind p).mono fun d μ1 G1 H1 x1 h1 p1 v rv=>
  ⟨dσ,μ1,G1,s.mono x1,h1,(d7.bind p1).mono fun l μ2 G2 H2 x2 h2 p2=>⟨dσ,μ2,G2,s.mono (x1.trans x2),h2,(d7.bind p2).mono fun u μ3 G3 H3 x3 h3 p3=>⟨d,μ3,G3,rv.mono (x2.trans x3),h3,p3⟩⟩⟩⟩
end
section
variable{X:Cx}{Z:XC}{e:Expr}{fa:Fe}{p2 pos:Pos}
end
end DL
namespace W
open PySem PySem.Spec L2 DL Builtin Builtin.Str
open PyProof.Rows hiding St
section
variable{G:DH}{σ:DSt}{Q:DPP}
theorem aN2{f:Fe}{lo hi:Fo}:Wp (aJ7 f lo hi σ) G Q↔Wp (f σ) G fun x G1=>Wp (lo σ) G1 fun l G2=>Wp (hi σ) G2 fun h G3=>Wp (slT x l h) G3 Q:=by
 unfold aJ7;simp only[j8]
theorem cE1{l:List D}{lo hi:Option Int}:Wp (slT (.tup l) lo hi) G Q↔Q (.tup (DL.cutD l lo hi)) G:=j7
end
end W
namespace DL
open PySem PySem.Spec L2
open PyProof.Rows hiding St
def bF5:D→D→M D:=fun x y=>match y with
 | .non=>pure (.bl (cF7 x))
 | .bl c=>match x with
   | .bl d=>pure (.bl (d==c))
   |_=>M.stuck
 |_=>M.stuck
def aR4:D→D→M D:=fun x y=>match y with
 | .non=>pure (.bl (!cF7 x))
 | .bl c=>match x with
   | .bl d=>pure (.bl (d != c))
   |_=>M.stuck
 |_=>M.stuck
def cR0(a b:Fe):Fe:=fun σ=>do
 let x ←a σ
 if ←aD5 x then pure x else b σ
def X5(a b:Fe):Fe:=fun σ=>do
 let x ←a σ
 if ←aD5 x then b σ else pure x
section
variable{X:Cx}{Z:XC}{a b:Expr}{fa fb:Fe}{pos:Pos}
theorem eX8:OpR X (compareOp .Is) (fun x y H Q=>(y= .non∧Q (.bl (decide (x= .non))) H)∨∃c d,x= .bl c∧y= .bl d∧Q (.bl (c==d)) H):=by
 intro pins s σ H x y v u Q I rx ry h
 rcases h with h|⟨c,d,rfl,rfl,q⟩
 ·exact eR6 pins s σ H x y v u Q I rx ry h
 · cases rx
   cases ry
   exact is_bool ⟨.bl (c==d),H,I,rfl,q⟩
theorem dC1:OpR X (compareOp .IsNot) (fun x y H Q=>(y= .non∧Q (.bl (!decide (x= .non))) H)∨∃c d,x= .bl c∧y= .bl d∧Q (.bl (c != d)) H):=by
 intro pins s σ H x y v u Q I rx ry h
 rcases h with h|⟨c,d,rfl,rfl,q⟩
 ·exact eD4 pins s σ H x y v u Q I rx ry h
 · cases rx
   cases ry
   exact isnot_bool ⟨.bl (c != d),H,I,rfl,q⟩
theorem eZ7:OpD X Z (compareOp .Is) bF5:=OpD.of eX8 fun x y H Q hE0=>hE0.elim fun dx dy μ G rdx rdy hr p=>by
 rcases dy with _|d|_|_|_|_|_|_<;>try (exact p.elim;done)
 ·exact .inl ⟨dO9 rdy,by rw[cX2 rdx];exact d7.ok p hr _ ofB⟩
 ·
   rcases dx with _|c|_|_|_|_|_|_<;>try (exact p.elim;done)
   ·exact .inr ⟨c,d,bW6 rdx,bW6 rdy,d7.ok p hr _ ofB⟩
theorem dH1:OpD X Z (compareOp .IsNot) aR4:=OpD.of dC1 fun x y H Q hE0=>hE0.elim fun dx dy μ G rdx rdy hr p=>by
 rcases dy with _|d|_|_|_|_|_|_<;>try (exact p.elim;done)
 ·exact .inl ⟨dO9 rdy,by rw[cX2 rdx];exact d7.ok p hr _ ofB⟩
 ·
   rcases dx with _|c|_|_|_|_|_|_<;>try (exact p.elim;done)
   ·exact .inr ⟨c,d,bW6 rdx,bW6 rdy,d7.ok p hr _ ofB⟩
theorem bJ0{α:Type}{μ:List Addr}{H:Hp}{G:DH}{d:D}{v:V}{f:Bool→M α}{K:α→List Addr→DH→Hp→Prop}(h:t8 (wc X) μ G H)(rv:g8 (wc X) μ H d v)(p:d7 (wc X) Z μ H ((aD5 d >>= f) G) K):
 ∃k,eT2 X.K v H k∧d7 (wc X) Z μ H (f k G) K:=by
 have p1:=d7.bind p
 rcases d with _|b|b|y|l|r|_|_<;>try (exact p1.elim;done)
 ·rw[dO9 rv];exact⟨false,rfl,d7.ok p1 h⟩
 ·rw[bW6 rv];exact⟨b,rfl,d7.ok p1 h⟩
 ·rw[aM6 rv];exact⟨_,rfl,d7.ok p1 h⟩
 ·
   rw[bA7 rv]
   unfold aD5 at p1
   dsimp only at p1
   split at p1
   ·rename_i hz;exact⟨_,⟨hz,rfl⟩,d7.ok p1 h⟩
   ·exact p1.elim
 ·
   unfold g8 at rv
   obtain⟨a,vs,rfl,q,rl⟩:=rv
   exact⟨!vs.isEmpty,.inr (.inl ⟨vs,q,rfl⟩),by rw[aE7 rl];exact d7.ok p1 h⟩
 ·
   unfold g8 at rv
   obtain⟨a,m,rfl⟩:=rv
   obtain⟨o,g,p2⟩:=Q6 p1
   have ro:=h.obj r o a g m
   rcases o with l|l|l|l
   ·obtain⟨vs,q,rl⟩:=ro;exact⟨!vs.isEmpty,.inl ⟨vs,SqL.of q,rfl⟩,by rw[aE7 rl];exact d7.ok p2 h⟩
   ·obtain⟨vs,q,rl⟩:=ro;exact⟨!vs.isEmpty,.inl ⟨vs,q.sq,rfl⟩,by rw[aE7 rl];exact d7.ok p2 h⟩
   ·obtain⟨vs,q,rl⟩:=ro;exact⟨!vs.isEmpty,.inr (.inr ⟨vs,q,rfl⟩),by rw[bQ5 rl];exact d7.ok p2 h⟩
   ·exact p2.elim
theorem eP6{V8:List Expr}(ha:DE X Z a fa)(hb:DE X Z (.BoolOp .Or (b::V8) pos) fb):DE X Z (.BoolOp .Or (a::b::V8) pos) (cR0 fa fb):=by
 refine⟨?_⟩
 intro pins s σ H Q I hE0
 refine hE0.elim fun dσ μ G sr h p=>?_
 refine BoolOp_or (thn (ha.h pins s σ H _ I ⟨dσ,μ,G,sr,h,(d7.bind p).mono fun d μ1 G1 H1 x1 h1 p1 v rv=>(⟨d,μ1,G1,x1,rv,h1,p1⟩:∃d μ1 G1,Ext μ H μ1 H1∧g8 (wc X) μ1 H1 d v∧t8 (wc X) μ1 G1 H1∧d7 (wc X) Z μ1 H1 ((aD5 d >>= fun k=>if k=true then pure d else fb dσ) G1) fun d μ' _ H'=>∀v,g8 (wc X) μ' H' d v→Q v H')⟩) fun v s1 ⟨x,H1,I1,r1,d,μ1,G1,x1,rd,h1,p1⟩=>?_)
 obtain⟨k,tk,p2⟩:=bJ0 h1 rd p1
 refine thn (cR7 pins s1 σ H1 x v (fun c H'=>c=k∧H'=H1) I1 r1 ⟨k,tk,rfl,rfl⟩) fun c s2 ⟨H2,I2,e1,e2⟩=>?_
 subst e1 e2
 rcases c with _|_
 ·exact hb.h pins s2 σ H2 Q I2 ⟨dσ,μ1,G1,sr.mono x1,h1,p2⟩
 ·exact⟨x,H2,I2,r1,d7.ok p2 h1 _ rd⟩
theorem dY0{V8:List Expr}(ha:DE X Z a fa)(hb:DE X Z (.BoolOp .And (b::V8) pos) fb):DE X Z (.BoolOp .And (a::b::V8) pos) (X5 fa fb):=by
 refine⟨?_⟩
 intro pins s σ H Q I hE0
 refine hE0.elim fun dσ μ G sr h p=>?_
 refine BoolOp_and (thn (ha.h pins s σ H _ I ⟨dσ,μ,G,sr,h,(d7.bind p).mono fun d μ1 G1 H1 x1 h1 p1 v rv=>(⟨d,μ1,G1,x1,rv,h1,p1⟩:∃d μ1 G1,Ext μ H μ1 H1∧g8 (wc X) μ1 H1 d v∧t8 (wc X) μ1 G1 H1∧d7 (wc X) Z μ1 H1 ((aD5 d >>= fun k=>if k=true then fb dσ else pure d) G1) fun d μ' _ H'=>∀v,g8 (wc X) μ' H' d v→Q v H')⟩) fun v s1 ⟨x,H1,I1,r1,d,μ1,G1,x1,rd,h1,p1⟩=>?_)
 obtain⟨k,tk,p2⟩:=bJ0 h1 rd p1
 refine thn (cR7 pins s1 σ H1 x v (fun c H'=>c=k∧H'=H1) I1 r1 ⟨k,tk,rfl,rfl⟩) fun c s2 ⟨H2,I2,e1,e2⟩=>?_
 subst e1 e2
 rcases c with _|_
 ·exact⟨x,H2,I2,r1,d7.ok p2 h1 _ rd⟩
 ·exact hb.h pins s2 σ H2 Q I2 ⟨dσ,μ1,G1,sr.mono x1,h1,p2⟩
end
end DL
namespace W
open PySem PySem.Spec L2 DL
open PyProof.Rows hiding St
section
variable{G:DH}{σ:DSt}{Q:DPP}{a b:Fe}
theorem eZ8:Wp (cR0 a b σ) G Q↔Wp (a σ) G fun x G1=>Wp (aD5 x) G1 fun k G2=>if k=true then Q x G2 else Wp (b σ) G2 Q:=by unfold cR0;simp only[j8,aQ8,j7]
theorem bC7:Wp (X5 a b σ) G Q↔Wp (a σ) G fun x G1=>Wp (aD5 x) G1 fun k G2=>if k=true then Wp (b σ) G2 Q else Q x G2:=by unfold X5;simp only[j8,aQ8,j7]
theorem dX5{x:D}:Wp (bF5 x .non) G Q↔Q (.bl (cF7 x)) G:=j7
end
end W
namespace DL
open PySem PySem.Spec L2
open PyProof.Rows hiding St
structure b8(F:List D→M D)(n:Nat)(x:Str)(P:Program)(w:World)(K:PySem.W.Frag)(mg:Str→Option Value)(base:Heap)(k:Nat):Prop where
 ex:∃f fd ps,J6 P w K mg base CX0 k f fd ps (spD ⟨K,mg⟩ n F)∧mg x=some (.ref f)∧PySem.W.keepIn K (.ref f)=true∧aS4 K fd ps []
theorem b8.of{P:Program}{w:World}{K:PySem.W.Frag}{mg:Str→Option Value}{base:Heap}{k n:Nat}{x:Str}{st:Stmt}{ps:List Str}{f:Addr}{fd:FuncData}{F:List D→M D}(c:FF K mg x st ps f fd)(h:J6 P w K mg base CX0 k f fd ps (spD ⟨K,mg⟩ n F)):b8 F n x P w K mg base k:=
 ⟨f,fd,ps,h,c.m,c.F.kp,c.b⟩
noncomputable def bltL:List Str:= ["len", "isinstance", "all", "any", "sum", "min", "max", "abs", "sorted", "tuple", "list", "int", "str", "bool", "dict", "zip", "enumerate", "range", "reversed", "set"]
structure BLs(mg:Str→Option Value):Prop where
 h:∀b∈bltL,mg b=none
theorem aQ9{p:Pos}{l:List (Bool×Sem Value)}:(backTo p l).any (·.1)=l.any (·.1):=by
 unfold backTo
 rw[List.any_map]
 rfl
theorem aU7{env:Env}:∀ {es:List Expr},es.all U6=true→(starEach es env).any (·.1)=false
 |[],_=>rfl
 |e::es,h=>by
   rw[List.all_cons,Bool.and_eq_true]at h
   rw[q14 h.1,List.any_cons,aU7 h.2]
   rfl
section
variable{X:Cx}{Z:XC}{a b c e:Expr}{es:List Expr}{fa fb fc:Fe}{fs:DSt→M (List D)}{pos p:Pos}{x:Str}
theorem fK0{i:Nat}(hN:∃N ps sc,m6 N ps sc∧X.N=N)(hi:X.N[i]? =some x)(hx:Loc X.env.scope x)(hf:X.fn x=true∨X.env.scope.names.lookup x=some .local):DG X Z (.Name x pos) (q13 i):=by
 obtain⟨N,ps,sc,S,e⟩:=hN
 exact cZ5 (by rw[e];exact S.nd) hi hx hf
theorem fM3(ha:DE X Z e fa)(hr:DA X Z es fs)(hs:U6 e=true):DA X Z (e::es) (q10 fa fs):=q15 ha hr (q14 hs)
theorem dU7{F:List D→M D}{n:Nat}(hF:∃k kk,b8 F n x X.prog X.w X.K X.mg X.base k∧X4 kk X.A∧k≤kk)(hg:Gl X x)(ha:DA X Z (e::es) fs)(hdb:(x==("__debug__" :Str))=false)(hs:(e::es).all U6=true):
 DE X Z (.Call (.Name x p) (e::es) [] pos) (q12 (fnX n F) fs):=by
 obtain⟨k,kk,hF,hr,hk⟩:=hF
 obtain⟨f,fd,ps,h1,h2,h3,h4⟩:=hF.ex
 rw[List.all_cons,Bool.and_eq_true]at hs
 exact eE0 h1 (hr.mono hk) hg h2 h3 h4 ha hdb (q14 hs.1) (by rw[aQ9];exact aU7 hs.2)
structure BD(F:List D→M D)(x:Str)(X:Cx)(Z:XC):Prop where
 ex:(∃id,aD0 X Z (.builtin id) F∧bootBuiltins x=some (.builtin id))∨(∃T,aD0 X Z (.type T) F∧bootBuiltins x=some (.type T))
theorem eT0{F:List D→M D}(hc:X.calm=true)(hF:X.calm=true→BD F x X Z)(hb:BLs X.mg)(hx:bltL.elem x=true)(hg:Gl X x)(ha:DA X Z (e::es) fs)(hn:x≠ "__name__")(hdb:(x==("__debug__" :Str))=false)(hs:(e::es).all U6=true):
 DE X Z (.Call (.Name x p) (e::es) [] pos) (q12 F fs):=by
 have hm:=hb.h x (List.elem_iff.mp hx)
 rw[List.all_cons,Bool.and_eq_true]at hs
 rcases (hF hc).ex with⟨id,h1,h2⟩|⟨T,h1,h2⟩
 ·exact dS1 h1 hg hm h2 ha hn hdb (q14 hs.1) (by rw[aQ9];exact aU7 hs.2)
 ·exact dC6 h1 hg hm h2 ha hn hdb (q14 hs.1) (by rw[aQ9];exact aU7 hs.2)
theorem eT3(_:X.calm=true):BD aO3 "len" X Z:=⟨.inl ⟨_,eP2,eY6⟩⟩
theorem bV2(_:X.calm=true):BD M8 "isinstance" X Z:=⟨.inl ⟨_,dD9,bW5⟩⟩
theorem fA5(h:X.calm=true):BD aI2 "all" X Z:=⟨.inl ⟨_,eU1 h,eP5⟩⟩
theorem eZ2(h:X.calm=true):BD cS0 "any" X Z:=⟨.inl ⟨_,eX7 h,eZ5⟩⟩
theorem eO4(h:X.calm=true):BD dC2 "sum" X Z:=⟨.inl ⟨_,eS4 h,eQ8⟩⟩
theorem dX1(_:X.calm=true):BD aI4 "tuple" X Z:=⟨.inr ⟨_,dT2,dW9⟩⟩
theorem eD6(_:X.calm=true):BD aY8 "list" X Z:=⟨.inr ⟨_,eE5,dB2⟩⟩
theorem eS3(_:X.calm=true):BD dM9 "int" X Z:=⟨.inr ⟨_,eO5,eT9⟩⟩
theorem eB0:∀n∈ ["int", "bool", "str", "tuple", "list", "dict"],bootBuiltins (Str.ofString n)=some (.type n):=by decide +kernel
theorem eU7{n:String}(hb:BLs X.mg)(hn:n∈ ["int", "bool", "str", "tuple", "list", "dict"])(hx:bltL.elem (Str.ofString n)=true)(hg:Gl X (Str.ofString n))(hnn:Str.ofString n≠ "__name__")(hd:(Str.ofString n==("__debug__" :Str))=false):DE X Z (.Name (Str.ofString n) pos) (cE (.ty n)):=
 fI3 hg (hb.h _ (List.elem_iff.mp hx)) (eB0 n hn) hnn hd
variable{tg:Expr}{tp:Pos}{x1:Nat}{es1:List Expr}
theorem fI7(hb:BLs X.mg)(hg:Gl X "range")(ha:DA X Z [a] fs)(hs:U6 a=true):DI X Z tg (.Call (.Name "range" p) [a] [] pos) (aW0 fs):=eI2 hg (hb.h _ (by decide +kernel)) ha (aF4 hs)
theorem fO1(hb:BLs X.mg)(hg:Gl X "zip")(ha:DA X Z [a,b] fs)(hs:U6 a=true)(hs2:U6 b=true):DI X Z (.Tuple es1 x1 tp) (.Call (.Name "zip" p) [a,b] [] pos) (bU0 fs):=eT4 hg (hb.h _ (by decide +kernel)) ha (cK0 hs hs2) (aF4 hs2) dL0
theorem fL8(hb:BLs X.mg)(hg:Gl X "enumerate")(ha:DA X Z [a] fs)(hs:U6 a=true):DI X Z (.Tuple es1 x1 tp) (.Call (.Name "enumerate" p) [a] [] pos) (bG5 fs):=eI0 hg (hb.h _ (by decide +kernel)) ha (aF4 hs) bE4
noncomputable def aG1(sc:Scope):List Str:=(sc.names.filterMap fun y=>if y.2 == .local&&y.1 != (".0" :Str)then some y.1 else none)++(sc.names.filterMap fun y=>if y.2 == .free then some y.1 else none)
variable{elt iter:Expr}{ifs:List Expr}{scope:Scope}{caps:List (Option Nat)}{it:DSt→M Src}{gg:Fg}{tt:DSt→M Bool}{fe:Fe}
theorem eF9(hc:X.calm=true)(hi:DI X Z tg iter it)(k:∃XN ps osc,m6 XN ps osc∧X.env.scope=osc∧X.N=XN∧bM8 osc scope (aG1 scope) XN caps=true)(nd:(aG1 scope).Nodup)
 (hg:(aG1 scope).Nodup→∀C s H ex,DG (S9 X scope (aG1 scope) C s H ex) ZF tg gg) (ht:∀C s H ex,DTs (S9 X scope (aG1 scope) C s H ex) ZF ifs tt) (he:∀C s H ex,DE (S9 X scope (aG1 scope) C s H ex) ZF elt fe)
 (hf:∀x,foldedSetIterable iter X.env x=pure x):DE X Z (.ListComp elt [⟨tg,iter,ifs,0⟩] scope pos) (K8 it caps gg tt fe):=let ⟨_,_,_,_,hs,hN,k⟩:=k;eG9 hc hi (aE1.of k hs hN) (hg nd) ht he hf
theorem dQ6{y:Str}{py spos:Pos}{g2:Fg}(hc:X.calm=true)(hi:DI X Z tg iter it)(k:∃XN ps osc,m6 XN ps osc∧X.env.scope=osc∧X.N=XN∧bM8 osc scope (aG1 scope) XN caps=true)(nd:(aG1 scope).Nodup)
 (hg:(aG1 scope).Nodup→∀C s H ex,DG (S9 X scope (aG1 scope) C s H ex) ZF tg gg) (ht:∀C s H ex,DTs (S9 X scope (aG1 scope) C s H ex) ZF ifs tt) (he:∀C s H ex,DE (S9 X scope (aG1 scope) C s H ex) ZF elt fe)
 (hf:∀x,foldedSetIterable iter X.env x=pure x) (hgo:DG X Z (.Name y py) g2) (hsw:swapsWith (.ListComp elt [⟨tg,iter,ifs,0⟩] scope pos) (some (.Name y py)) spos.line X.env=pure true):
 DS X Z (.Assign [.Name y py] (.ListComp elt [⟨tg,iter,ifs,0⟩] scope pos) spos) (K3 (K8 it caps gg tt fe) g2):=let ⟨_,_,_,_,hs,hN,k⟩:=k;dO0 hc hi (aE1.of k hs hN) (hg nd) ht he hf hgo hsw
end
section
variable{X:Cx}{Z:XC}
end
end DL
namespace W
open PySem PySem.Spec L2 DL
open PyProof.Rows hiding St
section
variable{G:DH}{Q:DPP}
end
end W
namespace DL
open PySem PySem.Spec L2
open PyProof.Rows hiding St
def Itd(a:Addr)(o:Obj)(kvs:List (Key×V)):It:=
 ⟨fun i H=>H a=some (.frz o (.dK kvs))∧∃kv,kvs[i]? =some kv,fun i H x H'=>H'=H∧∃kv,kvs[i]? =some kv∧x=kV kv.1,fun i H=>H a=some (.frz o (.dK kvs))∧kvs.length≤i⟩
theorem dX0{κ:Type}:∀ {kvs:List (κ×V)} {vs:List (κ×Value)} {i:Nat} {kv:κ×V},KV kvs vs→kvs[i]? =some kv→∃v,vs[i]? =some (kv.1,v)
 |_,_,_,_,.nil,e=>by simp at e
 |_,_,0,_,.cons h t,e=>by
   simp only[List.getElem?_cons_zero,Option.some.injEq]at e
   subst e
   exact⟨_,by rw[List.getElem?_cons_zero,h.1]⟩
 |_,_,i+1,_,.cons h t,e=>by
   simp only[List.getElem?_cons_succ]at e ⊢
   exact dX0 t e
theorem eQ2{P:Program}{w:World}{k:Key}{u:Value}(h:(N6 P w).is k u=true):J2 (kV k) u:=by
 rcases Q0 (k:=k) (v:=u) h with⟨i,t,rfl,rfl⟩|⟨x,t,rfl,rfl⟩
 ·exact⟨t,rfl⟩
 ·exact⟨t,rfl⟩
theorem dJ9{X:Cx}{pins:PNS}{s:Shared}{σ:St}{H:Hp}{a:Addr}{o:Obj}{es:Array DictEntry}{ep:Nat}{kvs:List (Key×V)}(I:Inv X pins σ H s)(ho:o.data= .dict es ep)(e:H a=some (.frz o (.dK kvs))):
 (a==sysModules)=false∧∃vs,KV kvs vs∧s.heap.DictAt (N6 X.prog X.w) a vs ep:=by
 obtain⟨hget,hz,hS,vs,r,m⟩:=(show U9 X.prog X.w H s.heap a (.frz o (.dK kvs))from I.hok a _ e)
 obtain⟨ep',dat⟩:=m.dictAt
 have hep:ep'=ep:=by
  obtain⟨o',es',h1,_,h3,_⟩:=id dat
  rw[hget]at h1
  cases h1
  rw[ho]at h3
  cases h3
  rfl
 subst hep
 exact⟨hS,vs,r,dat⟩
theorem bY2{P:Program}{w:World}{K:PySem.W.Frag}{tg:Expr}{a:Addr}{o:Obj}{es:Array DictEntry}{ep:Nat}{kvs:List (Key×V)}(ho:o.data= .dict es ep)(it:Addr):bM0 P w K tg (Itd a o kvs) [it] it (fun i h=>h.IsKeyIter it a i kvs.length ep) where
 mem:=by simp
 obj:=fun i h st b hb=>by
  have e:b=it:=by simpa using hb
  subst e
  obtain⟨o,e,c,d⟩:=st
  exact⟨o,e,fun v z=>by rw[d]at z;cases z⟩
 keep:=fun i h h' st k=>let ⟨o,ho,r⟩:=st;⟨o,k it (by simp) o ho,r⟩
 item:=by
  intro X hP hw hK hc i pins s σ H E I hf st hg
  subst hP hw hK
  obtain⟨hfr,kv,hx⟩:=hg
  obtain⟨f0,f1,f2,f3,f4,f5⟩:=hf it (by simp)
  obtain⟨hS,vs,rel,dat⟩:=dJ9 I ho hfr
  obtain⟨v,hv⟩:=dX0 rel hx
  have hlen:kvs.length=vs.length:=Paired.length rel
  rw[hlen]at st
  refine wpAny_pyNext_dict_item st dat hv fun key h' hk st' sb=>?_
  have I1:Inv X pins σ H {s with heap:=h'}:=I.turned (t':=s.toks) (fun b o hb e=>(sb.2 b hb).trans e) f0 f1 f3 f4 f5
  obtain⟨o',e,cc,d⟩:=id st'
  refine⟨_,rfl,bZ5 (s:={s with heap:=h'}) e cc d (by decide) ⟨kV kv.1,H,I1,eQ2 hk,⟨rfl,kv,hx,rfl⟩,by rw[hlen];exact st',fun b hb=>(hf b hb).1⟩⟩
 done:=by
  intro X hP hw hK hc i pins s σ H E I hf st hg
  subst hP hw hK
  obtain⟨hfr,hi⟩:=hg
  obtain⟨f0,f1,f2,f3,f4,f5⟩:=hf it (by simp)
  obtain⟨hS,vs,rel,dat⟩:=dJ9 I ho hfr
  have hlen:kvs.length=vs.length:=Paired.length rel
  rw[hlen]at st hi
  exact wpAny_pyNext_dict_end (I.ok.hd hc) st dat (List.getElem?_eq_none hi) fun h' eb=>⟨rfl,I.turned (t':=s.toks) (fun b o hb e=>eb b o hb e) f0 f1 f3 f4 f5⟩
 self:=fun _ _ _ _ _ st h=>wpAny_pyIter_keyiter st h
theorem t8.setR{c:Wc}{μ:List Addr}{G:DH}{H:Hp}{i:Nat}{a:Addr}{o o':DO}{u:HO}(h:t8 c μ G H)(g:G[i]? =some o)(n:¬aN8 (some o))(m:μ[i]? =some a)(k:Ext μ H μ (upd H a u))(ho:aM1 c μ (upd H a u) a o'):t8 c μ (G.set i o') (upd H a u):=by
 have hi:i<G.length:=lt_of_get g
 have get:∀j,(G.set i o')[j]? =if i=j then some o' else G[j]? :=fun j=>by
  rw[List.getElem?_set]
  by_cases e:i=j
  ·subst e;simp[hi]
  ·simp[e]
 refine⟨by simp[h.len],fun j l b ej el=>?_,fun j o2 b gj mj=>?_⟩
 · rcases h.inj j l b ej el with e|e|e
   ·exact .inl e
   · by_cases ij:i=j
     ·subst ij;rw[g]at e;exact(n e).elim
     ·right;left;rw[get,if_neg ij];exact e
   · by_cases ij:i=l
     ·subst ij;rw[g]at e;exact(n e).elim
     ·right;right;rw[get,if_neg ij];exact e
 · rw[get]at gj
   by_cases ij:i=j
   · subst ij
     rw[if_pos rfl]at gj
     cases gj
     rw[m]at mj
     cases mj
     exact ho
   · rw[if_neg ij]at gj
     have q:=h.obj j o2 b gj mj
     by_cases hr:aN8 (some o2)
     ·exact q.mono k (.inr hr)
     · have nb:b≠a:=fun e=>by
        subst e
        rcases h.inj i j b m mj with e|e|e
        ·exact ij e
        ·rw[g]at e;exact n e
        ·rw[gj]at e;exact hr e
       exact q.mono k (.inl (o8 nb))
section
variable{X:Cx}{Z:XC}{tg e:Expr}
theorem Inv.freeze{pins:PNS}{s:Shared}{σ:St}{H:Hp}{a:Addr}{o:Obj}{kvs:List (Key×V)}(I:Inv X pins σ H s)(e:H a=some (.dK kvs))(ho:s.heap.get? a=some o):Inv X pins σ (upd H a (.frz o (.dK kvs))) s:=by
 have q:U9 X.prog X.w H s.heap a (.dK kvs):=I.hok a _ e
 exact I.write (x:=a) (e:=a) (t':=s.toks) (h':=s.heap) (by rw[e];exact trivial) (.inl rfl) (fun b u _ z=>z) ⟨o,ho⟩ ⟨ho,q⟩
def iW(K:PySem.W.Frag)(tl:TE):TI:=fun σ H R=>tl σ H fun x H1=>((∃z,x= .str z∧R (Its z) H1)∨(∃k a xs,x= .ref a∧Sq K k H1 a xs∧R (if k=true then Itt K a else Itl K a) H1))∨
 (∃a kvs,x= .ref a∧H1 a=some (.dK kvs)∧∀o,R (Itd a o kvs) (upd H1 a (.frz o (.dK kvs))))∨(∃a o kvs,x= .ref a∧H1 a=some (.frz o (.dK kvs))∧R (Itd a o kvs) H1)
theorem fP0{tl:TE}(hl:PE X e tl):PI X tg e (iW X.K tl):=by
 intro pins s σ H R I h
 refine thn (hl pins s σ H _ I h) fun v s1 hE1=>hE1.elim fun x H1 I1 r1 q1=>?_
 have fpo:∀b∈ [s1.heap.objs.size],aH2 X pins H1 b:=fun b hb=>by
  have z:b=s1.heap.objs.size:=by simpa using hb
  subst z
  exact I1.fpOk (Nat.le_refl _) (I1.hok.fresh (Nat.le_refl _))
 rcases q1 with(⟨z,rfl,q⟩|⟨k,a,xs,rfl,hq,q⟩)|⟨a,kvs,rfl,hq,q⟩|⟨a,o,kvs,rfl,hq,q⟩
 · obtain⟨t,rfl⟩:=(show ∃t,v=Value.str z t from r1)
   refine wpAny_pyIter_strU ?_
   have I2:Inv X pins σ H1 {s1 with heap:=s1.heap.push {cls:=.type (strIterType z),data:=.fields #[.str z t,.int 0 0]}}:=I1.kept (t':=s1.toks) fun b o z=>Heap.get?_push_of_some _ z
   have hg:(s1.heap.push {cls:=.type (strIterType z),data:=.fields #[.str z t,.int 0 0]}).get? s1.heap.objs.size=some {cls:=.type (strIterType z),data:=.fields #[.str z t,.int 0 0]}:=Heap.get?_push_size _ rfl
   by_cases ha:z.cps.all (· < 128)=true
   · have e:strIterType z= "str_ascii_iterator":=by unfold strIterType;rw[if_pos ha]
     refine⟨s1.heap.objs.size, [s1.heap.objs.size],_,_,H1,rfl,I2,cU0 z t _,?_,fpo,q⟩
     rw[e]at hg ⊢
     exact⟨_,hg,rfl,rfl⟩
   · have e:strIterType z= "str_iterator":=by unfold strIterType;rw[if_neg ha]
     refine⟨s1.heap.objs.size, [s1.heap.objs.size],_,_,H1,rfl,I2,dH9 z t _,?_,fpo,q⟩
     rw[e]at hg ⊢
     exact⟨_,hg,rfl,rfl⟩
 · cases r1
   rcases k with _|_
   ·
     obtain⟨its,rv,p,hz⟩:=I1.list hq
     exact wpAny_pyIter_list p.isList ⟨s1.heap.objs.size, [s1.heap.objs.size],_,_,H1,rfl,I1.kept (t':=s1.toks) fun b o z=>Heap.get?_push_of_some _ z,dI4 a _,⟨_,Heap.get?_push_size _ rfl,rfl,rfl⟩,fpo,q⟩
   ·
     obtain⟨its,rv,p,hz⟩:=I1.tuple hq
     exact wpAny_pyIter_tuple (show s1.heap.IsTuple a its.toArray from p) ⟨s1.heap.objs.size, [s1.heap.objs.size],_,_,H1,rfl,I1.kept (t':=s1.toks) fun b o z=>Heap.get?_push_of_some _ z,cS1 a _,⟨_,Heap.get?_push_size _ rfl,rfl,rfl⟩,fpo,q⟩
 · cases r1
   obtain⟨hz,hS,vs,rel,dd⟩:=dR5 I1.hok hq
   obtain⟨ep,dat⟩:=dd.dictAt
   obtain⟨o,es,h1,h2,h3,h4⟩:=id dat
   have hlen:kvs.length=vs.length:=Paired.length rel
   have I2:=DL.Inv.freeze I1 hq h1
   have fpo2:∀b∈ [s1.heap.objs.size],aH2 X pins (upd H1 a (.frz o (.dK kvs))) b:=fun b hb=>by
    have z:b=s1.heap.objs.size:=by simpa using hb
    subst z
    exact I2.fpOk (Nat.le_refl _) (I2.hok.fresh (Nat.le_refl _))
   refine wpAny_pyIter_dict hS dat ⟨s1.heap.objs.size, [s1.heap.objs.size],_,_,upd H1 a (.frz o (.dK kvs)),rfl,I2.kept (t':=s1.toks) fun b o z=>Heap.get?_push_of_some _ z,bY2 (kvs:=kvs) h3 _,?_,fpo2,q o⟩
   rw[hlen]
   exact⟨_,Heap.get?_push_size _ rfl,rfl,rfl⟩
 · cases r1
   obtain⟨hget,hz,hS,vs,rel,dd⟩:=(show U9 X.prog X.w H1 s1.heap a (.frz o (.dK kvs))from I1.hok a _ hq)
   obtain⟨ep,dat⟩:=dd.dictAt
   obtain⟨o',es,h1,h2,h3,h4⟩:=id dat
   rw[hget]at h1
   cases h1
   have hlen:kvs.length=vs.length:=Paired.length rel
   refine wpAny_pyIter_dict hS dat ⟨s1.heap.objs.size, [s1.heap.objs.size],_,_,H1,rfl,I1.kept (t':=s1.toks) fun b o z=>Heap.get?_push_of_some _ z,bY2 (kvs:=kvs) h3 _,?_,fpo,q⟩
   rw[hlen]
   exact⟨_,Heap.get?_push_size _ rfl,rfl,rfl⟩
noncomputable def dS5:Key→D
 | .inl i=>.int i
 | .inr x=>.str x
def cO9(l:List (Key×D)):List D:=l.map fun kv=>dS5 kv.1
def dM0:D→M Src:=fun x=>match x with
 | .ref r=>do
   match ←Q7 r with
   | .dct l=>do
     let _ ←bM5 r (.rod l)
     pure ⟨cO9 l,fun _=>true⟩
   | .rod l=>pure ⟨cO9 l,fun _=>true⟩
   |_=>dX6 (.ref r)
 |d=>dX6 d
def itW(f:Fe):DSt→M Src:=fun σ=>do dM0 (←f σ)
theorem cF0{μ1:List Addr}{G1:DH}{H1:Hp}{d:D}{v:V}{R:It→Hp→Prop}(h1:t8 (wc X) μ1 G1 H1)(rv:g8 (wc X) μ1 H1 d v)(p1:d7 (wc X) Z μ1 H1 (dX6 d G1) fun s μ' _ H'=>∀J,ItD (wc X) μ' H' J s→R J H'):
 (∃z,v= .str z∧R (Its z) H1)∨(∃k a xs,v= .ref a∧Sq X.K k H1 a xs∧R (if k=true then Itt X.K a else Itl X.K a) H1):=by
 have main:∀dd:D,(∀z,dd≠ .str z)→g8 (wc X) μ1 H1 dd v→d7 (wc X) Z μ1 H1 (aJ9 dd G1) (fun s μ' _ H'=>∀J,ItD (wc X) μ' H' J s→R J H')→(∃z,v= .str z∧R (Its z) H1)∨(∃k a xs,v= .ref a∧Sq X.K k H1 a xs∧R (if k=true then Itt X.K a else Itl X.K a) H1):=by
  intro dd _ rv p1
  have p1':d7 (wc X) Z μ1 H1 ((aJ9 dd >>= fun s=>(pure s:M Src)) G1) fun s μ' _ H'=>∀J,ItD (wc X) μ' H' J s→R J H':=by
   have e:(aJ9 dd >>= fun s=>(pure s:M Src))=aJ9 dd:=by
    funext G
    rw[M.bind_eq]
    rcases aJ9 dd G with _|q
    ·rfl
    ·obtain⟨r,G'⟩:=q;cases r<;>rfl
   rw[e];exact p1
  obtain⟨sr,k,a,vs,rfl,q,rl,is,ck,_,p2⟩:=aW6 h1 rv p1'
  refine .inr ⟨k,a,vs,rfl,q,d7.ok p2 h1 _ fun μ' G' H' x' h' ck' i=>?_⟩
  obtain⟨vs',q',rl'⟩:=is μ' G' H' x' h' ck'
  refine⟨fun d hd=>?_,fun hi=>?_⟩
  · obtain⟨y,hy,ry⟩:=rl'.get hd
    cases k with
    |true=>
      rw[if_pos rfl]
      exact⟨⟨vs',y,q',hy⟩,fun x H2 ⟨e1,e2⟩=>by subst e1;exact⟨Ext.refl _ _,h',cW9 rl' hd (e2 vs' q')⟩⟩
    |false=>
      rw[if_neg Bool.false_ne_true]
      exact⟨⟨vs',y,q',hy⟩,fun x H2 ⟨e1,e2⟩=>by subst e1;exact⟨Ext.refl _ _,h',cW9 rl' hd (e2 vs' q')⟩⟩
  · cases k with
    |true=>rw[if_pos rfl];exact⟨vs',q',by rw[←rl'.length];exact hi⟩
    |false=>rw[if_neg Bool.false_ne_true];exact⟨vs',q',by rw[←rl'.length];exact hi⟩
 cases d with
 |str z=>
   refine .inl ⟨z,bA7 rv,d7.ok p1 h1 _ fun μ' G' H' x' h' ck' i=>⟨fun d hd=>?_,fun hi=>?_⟩⟩
   · simp only[aI0,List.getElem?_map]at hd
     cases hc:z.cps.toList[i]? with
     |none=>rw[hc]at hd;cases hd
     |some c=>
       rw[hc]at hd
       cases hd
       have hc':z.cps[i]? =some c:=by rw[←Array.getElem?_toList];exact hc
       exact⟨⟨c,hc'⟩,fun x H2 ⟨e1,c2,e2,e3⟩=>by
        subst e1
        rw[hc']at e2
        cases e2
        exact⟨Ext.refl _ _,h',by rw[e3];unfold g8;rfl⟩⟩
   · simp only[aI0,List.length_map]at hi
     show z.cps[i]? =none
     rw[←Array.getElem?_toList]
     exact List.getElem?_eq_none hi
 |tup l=>exact main (.tup l) (fun z q=>nomatch q) rv p1
 |ref r=>exact main (.ref r) (fun z q=>nomatch q) rv p1
 |_=>exact p1.elim
theorem cJ4{c:Wc}{μ:List Addr}{H:Hp}:∀ {l:List (Key×D)} {kvs:List (Key×V)} {i:Nat} {kd:Key×D},aA9 c μ H l kvs→l[i]? =some kd→∃v,kvs[i]? =some (kd.1,v)
 |[],_,_,_,_,e=>by simp at e
 |(k,d)::r,_,0,_,h,e=>by
  obtain⟨v,t,rfl,_,_⟩:=h
  simp only[List.getElem?_cons_zero,Option.some.injEq]at e
  subst e
  exact⟨v,rfl⟩
 |(k,d)::r,_,i+1,_,h,e=>by
  obtain⟨v,t,rfl,_,ht⟩:=h
  simp only[List.getElem?_cons_succ]at e ⊢
  exact cJ4 ht e
theorem dZ6{c:Wc}{μ:List Addr}{H:Hp}(k:Key):g8 c μ H (dS5 k) (kV k):=by
 cases k<;>(unfold dS5 g8;rfl)
theorem dM7{c:Wc}{μ:List Addr}{H:Hp}{a:Addr}{o:Obj}{l:List (Key×D)}{kvs:List (Key×V)}(e:H a=some (.frz o (.dK kvs)))(rk:aA9 c μ H l kvs):ItD c μ H (Itd a o kvs) ⟨cO9 l,fun _=>true⟩:=by
 intro μ' G' H' x h' _ i
 have e':=x.frz _ _ _ e
 refine⟨fun d hd=>?_,fun hi=>⟨e',by rw[←rk.length];simpa [cO9]using hi⟩⟩
 simp only[cO9,List.getElem?_map]at hd
 cases hl:l[i]? with
 |none=>rw[hl]at hd;cases hd
 |some kd=>
   rw[hl]at hd
   cases hd
   obtain⟨v,hv⟩:=cJ4 rk hl
   exact⟨⟨e',_,hv⟩,fun y H2 ⟨e1,kv,e2,e3⟩=>by
    subst e1
    rw[hv]at e2
    cases e2
    exact⟨Ext.refl _ _,h',by rw[e3];exact dZ6 _⟩⟩
theorem fN5{f:Fe}(he:DE X Z e f):DI X Z tg e (itW f):=
 DI.of (fP0 he.h) fun σ H R hE0=>hE0.elim fun dσ μ G s h p=>⟨dσ,μ,G,s,h,(d7.bind p).mono fun d μ1 G1 H1 x1 h1 p1 v rv=>by
  cases d with
  |ref r=>
    have rv':=rv
    unfold g8 at rv'
    obtain⟨a,m,rfl⟩:=rv'
    obtain⟨o,g,p2⟩:=Q6 p1
    have ro:=h1.obj r o a g m
    rcases o with l|l|l|l
    ·exact .inl (cF0 h1 rv p2)
    ·exact .inl (cF0 h1 rv p2)
    ·
      obtain⟨kvs,q,rk⟩:=ro
      refine .inr (.inl ⟨a,kvs,rfl,q,fun o=>?_⟩)
      have x:Ext μ1 H1 μ1 (upd H1 a (.frz o (.dK kvs))):=Ext.mut (List.mem_of_getElem? m) q (fun _ z=>nomatch z) (fun _ _ z=>nomatch z) _
      have hk':=rk.mono x
      have h2:t8 (wc X) μ1 (G1.set r (.rod l)) (upd H1 a (.frz o (.dK kvs))):=h1.setR g (fun z=>z) m x ⟨kvs,o,P0,hk'⟩
      have p3:=d7.from p2 x
      exact d7.ok p3 h2 _ (dM7 P0 hk')
    ·
      obtain⟨kvs,o,q,rk⟩:=ro
      exact .inr (.inr ⟨a,o,kvs,rfl,q,d7.ok p2 h1 _ (dM7 q rk)⟩)
  |_=>exact .inl (cF0 h1 rv p1)⟩
end
end DL
namespace W
open PySem PySem.Spec L2 DL
open PyProof.Rows hiding St
section
variable{G:DH}{σ:DSt}{R:Src→DH→Prop}
theorem wp_itW{f:Fe}:Wp (itW f σ) G R↔Wp (f σ) G fun x G1=>Wp (dM0 x) G1 R:=by
 unfold itW;simp only[j8]
theorem srcW_tup{l:List D}:Wp (dM0 (.tup l)) G R↔R ⟨l,fun _=>true⟩ G:=j7
theorem aB5{p:Nat}{l:List D}(e:G[p]? =some (.lst l)):Wp (dM0 (.ref p)) G R↔R ⟨l,ckO p (.lst l)⟩ G:=by
 unfold dM0
 simp only[j8,R0,e,S7]
 exact dS3 e
end
end W
namespace DL
open PySem PySem.Spec L2
open PyProof.Rows hiding St
section
variable{prog:Program}{w:World}{A:Around}{E:VSP}{s:Shared}{Q:VSP}
end
section
variable{X:Cx}{Z:XC}
end
end DL
namespace W
open PySem PySem.Spec L2 DL
open PyProof.Rows hiding St
section
variable{G:DH}{Q:DPP}
end
end W
namespace DL
open PySem
theorem bW7:typeLookup (.type "tuple") "keys" =pure none:=by rw[typeLookup_type,builtinLookup_eq_fast];kernel_rfl
theorem cI1:typeLookup (.type "list") "keys" =pure none:=by rw[typeLookup_type,builtinLookup_eq_fast];kernel_rfl
section
variable{prog:Program}{w:World}{A:Around}{E:VSP}
theorem bR6{h:Heap}{g:Array GenState}{d:Drawn}{t:Nat}{os:OsState}{a:Addr}{o:Obj}{xs:Array Value}{k:Nat}{Q:Option Value→Shared→Prop}
 (hx:h.get? a=some o) (hc:o.cls= .type "list") (hdat:o.data= .seq xs k) (hd:o.dict=none) (hA:A.handled=none)
 (hq:∀h' tk,(∀b ob,h.get? b=some ob→h'.get? b=some ob)→Q none ⟨h',g,d,tk,os⟩):
 wpAny (model prog w) A (getAttr? (.ref a) "keys") Q E ⟨h,g,d,t,os⟩:=by
 obtain⟨c,dct,dat,sl⟩:=o
 simp only at hc hdat hd
 subst hc hdat hd
 have hT:∀tk',(⟨h,g,d,tk',os⟩:Shared).TypeIs (.ref a) "list":=fun _=>⟨_,hx,rfl⟩
 have f1:=sub_AttributeError
 have f3:=F.slot_list_getattribute.lookup
 have f4:=F.slot_list_getattribute.bind (.ref a)
 have f5:=am_list_getattr_none
 unfold getAttr? getAttrBy? getAttrBy
 repeat (any_goals (first|assumption|exact hT _|((with_reducible show wpAny _ _ (call (Value.builtin "list.__getattribute__") _ _) _ _ _);refine call_meets F.slot_list_getattribute (hT _) am_entry_list_getattribute (F.args_list_getattribute_2 _ _) (meets_getattribute_miss_list a xs k sl "keys" _ cI1 (by decide +kernel) (by decide +kernel)) ⟨hx,hA,fun h' tk' e hx'=>?_⟩)|wp_step))
 obtain⟨t',u',he⟩:=hx'.there
 have hTe:∀tk'',(⟨h',g,d,tk'',os⟩:Shared).TypeIs (.ref e) "AttributeError":=fun _=>⟨_,he,rfl⟩
 show wpAny _ _ (getattributeRaised _ _ _ _ _ _ _) _ _ _
 unfold getattributeRaised
 repeat (any_goals (first|assumption|exact hTe _|wp_step))
 exact hq _ _ hx'.keeps
theorem bL7{h:Heap}{g:Array GenState}{d:Drawn}{t:Nat}{os:OsState}{a:Addr}{o:Obj}{xs:Array Value}{k:Nat}{Q:Option Value→Shared→Prop}
 (hx:h.get? a=some o) (hc:o.cls= .type "tuple") (hdat:o.data= .seq xs k) (hd:o.dict=none) (hA:A.handled=none)
 (hq:∀h' tk,(∀b ob,h.get? b=some ob→h'.get? b=some ob)→Q none ⟨h',g,d,tk,os⟩):
 wpAny (model prog w) A (getAttr? (.ref a) "keys") Q E ⟨h,g,d,t,os⟩:=by
 obtain⟨c,dct,dat,sl⟩:=o
 simp only at hc hdat hd
 subst hc hdat hd
 have hT:∀tk',(⟨h,g,d,tk',os⟩:Shared).TypeIs (.ref a) "tuple":=fun _=>⟨_,hx,rfl⟩
 have f1:=sub_AttributeError
 have f3:=F.slot_tuple_getattribute.lookup
 have f4:=F.slot_tuple_getattribute.bind (.ref a)
 have f5:=am_tuple_getattr_none
 unfold getAttr? getAttrBy? getAttrBy
 repeat (any_goals (first|assumption|exact hT _|((with_reducible show wpAny _ _ (call (Value.builtin "tuple.__getattribute__") _ _) _ _ _);refine call_meets F.slot_tuple_getattribute (hT _) am_entry_tuple_getattribute (F.args_tuple_getattribute_2 _ _) (meets_getattribute_miss_tuple a xs k sl "keys" _ bW7 (by decide +kernel) (by decide +kernel)) ⟨hx,hA,fun h' tk' e hx'=>?_⟩)|wp_step))
 obtain⟨t',u',he⟩:=hx'.there
 have hTe:∀tk'',(⟨h',g,d,tk'',os⟩:Shared).TypeIs (.ref e) "AttributeError":=fun _=>⟨_,he,rfl⟩
 show wpAny _ _ (getattributeRaised _ _ _ _ _ _ _) _ _ _
 unfold getattributeRaised
 repeat (any_goals (first|assumption|exact hTe _|wp_step))
 exact hq _ _ hx'.keeps
end
end DL
namespace DL
open PySem
open PyProof.Rows (IsTup)
theorem aS2:entryFor table "dict.update.loop" =some Builtin.«dict.update.loop»:=entryFor_of_tree (by kernel_rfl)
theorem W5:plainId "dict.update.loop" =true:=by decide +kernel
section
variable{prog:Program}{w:World}{A:Around}{R:Result→Shared→Prop}{I:Addr}{fp wr:List Addr}{n:Nat}{P:Nat→Value→Prop}{St:Nat→Heap→Prop}{K:Type}[DecidableEq K]{knd:KeyKind prog w K}
theorem cS3{s:Shared}{ta:Addr}{x y:Value}{Q:List Value→Shared→Prop}{E:VSP}(h:IsTup s.heap ta #[x,y])(q:Q [x,y] s):wpAny (model prog w) A (Builtin.Dict.pairItems (.ref ta)) Q E s:=by
 obtain⟨o,ho,hc,m,hd⟩:=h
 have hT:s.TypeIs (.ref ta) "tuple":=⟨_,ho,hc⟩
 unfold Builtin.Dict.pairItems
 refine wpAny_bind (wpAny_typeOf hT ?_)
 rw[if_pos (by decide)]
 exact wpAny_bind (wpAny_seqItems ho hd (wpAny_pure q))
theorem aL4(W:Walks prog w A.in1 I fp wr n P St)(S:Addr)(hSf:S∉fp)(h0:Heap)(ps:List (K×Value))(hn:ps.length=n)
 (hval:∀i v,P i v→∃ta key kv,v= .ref ta∧ps[i]? =some kv∧IsTup h0 ta #[key,kv.2]∧knd.is kv.1 key=true∧ta≠S∧ta∉wr) (hsz:n≤sizeLine):
 ∀(k i:Nat) (s:Shared) (m:Int) (tk:Tok),n-i=k→i≤n→St i s.heap→s.heap.DictOf knd S (merged [] (ps.take i))→(∀b o,b≠S→b∉wr→h0.get? b=some o→s.heap.get? b=some o)→
  (∀h' tk',h'.DictOf knd S (merged [] ps)→(∀b o,b≠S→b∉wr→h0.get? b=some o→h'.get? b=some o)→R (.ok (.ret .none)) {s with heap:=h',toks:=tk'})→
  codeAny (model prog w) A (.builtin "dict.update.loop" ⟨[.ref S,.ref I,.int m tk,.none], []⟩) R s:=by
 have hSw:S∉wr:=fun h=>hSf (W.sub _ h)
 intro k
 induction k with
 |zero=>
   intro i s m tk hk hi hst hS hh hR
   have hin:i=n:=by lia
   subst hin
   refine codeAny_builtin aS2 ?_
   rw[Around.under_plainId W5 _]
   show wpAny _ A.in1 (pyNext (.ref I) >>= _) _ _ s
   refine wpAny_bind (W.done s _ _ hst fun h' tk' hm=>?_)
   show wpAny _ A.in1 (Builtin.Dict.addKeywords S [] >>= _) _ _ _
   refine wpAny_bind (wpAny_pure ?_)
   refine wpAny_pure (hR h' tk' ?_ fun b o hb hb' e=>hm b o hb' (hh b o hb hb' e))
   rw[List.take_of_length_le (by lia)]at hS
   obtain⟨o,es,ep,ho,V8⟩:=hS
   exact⟨o,es,ep,hm S _ hSw ho,V8⟩
 |succ k ih=>
   intro i s m tk hk hi hst hS hh hR
   have hlt:i<n:=by lia
   refine codeAny_builtin aS2 ?_
   rw[Around.under_plainId W5 _]
   show wpAny _ A.in1 (pyNext (.ref I) >>= _) _ _ s
   refine wpAny_bind (W.item i s _ _ hlt hst fun v h' tk' hP hst' hm=>?_)
   obtain⟨ta,key,kv,rfl,hkv,⟨ot,hot,hct,mt,hdt⟩,hkey,hne,hnw⟩:=hval i v hP
   have hS':h'.DictOf knd S (merged [] (ps.take i)):=by
    obtain⟨o,es,ep,ho,V8⟩:=hS
    exact⟨o,es,ep,hm S _ hSw ho,V8⟩
   have ht':IsTup h' ta #[key,kv.2]:=⟨ot,hm ta _ hnw (hh ta _ hne hnw hot),hct,mt,hdt⟩
   refine wpAny_bind (wpAny_holding ?_)
   refine wpAny_bind (wpAny_tryCatch (cS3 ht' ?_))
   refine wpAny_holding ?_
   have hlen:(merged [] (ps.take i)).length≤sizeLine:=by
    have:=merged_length_le (K:=K) [] (ps.take i)
    rw[List.length_take,List.length_nil]at this
    lia
   refine wpAny_dictSet_pairs (hsz:=hlen) hkey hS' fun h'' hd'' hsb=>?_
   refine wpAny_pure ⟨plainId_quiet W5 _,ih (i+1) _ _ _ (by lia) hlt (W.frame _ _ _ hst' fun b hb o e=>?_) ?_ (fun b o hb hb' e=>?_) fun h3 tk3 hd3 hk3=>hR h3 tk3 hd3 hk3⟩
   ·rw[hsb.2 b (fun h:b=S=>hSf (by rw[←h];exact hb))];exact e
   ·rw[merged_take_succ [] ps i kv hkv];exact hd''
   ·rw[hsb.2 b hb];exact hm b o hb' (hh b o hb hb' e)
end
section
variable{prog:Program}{w:World}{A:Around}{E:VSP}{s:Shared}{K:Type}[DecidableEq K]{knd:KeyKind prog w K}
theorem bN9{src:Addr}{o:Obj}{items:Array Value}{m:Nat}{ps:List (K×Value)}{Q:VSP}(hx:s.heap.get? src=some o)(hc:o.cls= .type "list")(hd:o.data= .seq items m)(hdict:o.dict=none)(hA:A.handled=none)
 (hn:ps.length=items.size) (hsz:items.size≤sizeLine) (hval:∀(i:Nat) (v:Value),items[i]? =some v→∃(ta:Addr) (key:Value) (kv:K×Value),v= .ref ta∧ps[i]? =some kv∧IsTup s.heap ta #[key,kv.2]∧knd.is kv.1 key=true)
 (h:∀h' tk,h'.DictOf knd s.heap.objs.size (merged [] ps)→(∀b o,s.heap.get? b=some o→h'.get? b=some o)→Q (.ref s.heap.objs.size) {s with heap:=h',toks:=tk}):
 wpAny (model prog w) A (call (.type "dict") [.ref src]) Q E s:=by
 refine callType_codes (Q₁:=fun obj s₁=>obj= .ref s.heap.objs.size∧s₁= {s with heap:=s.heap.push {cls:=.type "dict",data:=.dict #[]}}) F.kt_called_dict (F.kt_typeCall_dict_1 _) F.entry_dict_init (kt_code_dict_new _ ⟨rfl,rfl⟩) ?_
 rintro obj s₁ ⟨rfl,rfl⟩
 have hnew:(s.heap.push {cls:=.type "dict",data:=.dict #[]}).DictOf knd s.heap.objs.size []:=Heap.DictOf.new s.heap
 have hlt:src<s.heap.objs.size:=Heap.lt_size hx
 have hx1:(s.heap.push {cls:=.type "dict",data:=.dict #[]}).get? src=some o:=Heap.get?_push_of_some _ hx
 have hT1:Shared.TypeIs {s with heap:=s.heap.push {cls:=.type "dict",data:=.dict #[]}} (.ref src) "list":=⟨_,hx1,hc⟩
 refine⟨hnew.typeIs,F.args_dict_init_2 _ _,?_⟩
 unfold Builtin.«dict.__init__»
 refine wpAny_bind ?_
 unfold Builtin.Dict.selfAndRest
 refine wpAny_bind (wpAny_notOrdered_dict hnew.typeIs ?_)
 show wpAny _ _ (pure (s.heap.objs.size, [Value.ref src])) _ _ _
 refine wpAny_pure ?_
 show wpAny _ _ (Builtin.Dict.updateFrom "dict.__init__" s.heap.objs.size (.ref src) [] .none) _ _ _
 unfold Builtin.Dict.updateFrom
 refine wpAny_bind (wpAny_typeOf hT1 ?_)
 rw[if_pos (by decide)]
 have hA2:A.in1.in1.handled=none:=by simp[hA]
 refine wpAny_bind (bR6 hx1 hc hd hdict hA2 fun h2 tk2 k2=>?_)
 simp only[Option.isNone_none,if_true]
 refine wpAny_bind (wpAny_rule ?_)
 have hx2:h2.get? src=some o:=k2 _ _ hx1
 have hl2:h2.IsList src items:=⟨o,hx2,hc,m,hd⟩
 have hS2:h2.DictOf knd s.heap.objs.size []:=by
  obtain⟨o,es,ep,ho,V8⟩:=hnew
  exact⟨o,es,ep,k2 _ _ ho,V8⟩
 have hlt2:s.heap.objs.size<h2.objs.size:=by
  obtain⟨o,es,ep,ho,V8⟩:=hS2
  exact Heap.lt_size ho
 refine wpAny_bind (wpAny_pyIter_list hl2 ?_)
 have hA1:A.in1.in1.handled=none:=hA2
 refine wpAny_pure ⟨plainId_quiet W5 _,?_⟩
 have hkeep:∀b ob,s.heap.get? b=some ob→h2.get? b=some ob:=fun b ob e=>k2 _ _ (Heap.get?_push_of_some _ e)
 refine aL4 (knd:=knd) (Walks.list (A:=A.in1.in1) hA1 h2.objs.size src (Nat.ne_of_lt (Nat.lt_trans hlt hlt2)) items) s.heap.objs.size ?_ s.heap ps hn ?_ hsz items.size 0 _ _ _ (by lia) (Nat.zero_le _) ?_ ?_ ?_ ?_
 · simp only[List.mem_cons,List.not_mem_nil,or_false,not_or]
   exact⟨Nat.ne_of_lt hlt2,Nat.ne_of_gt hlt⟩
 · intro i v hv
   obtain⟨ta,key,kv,e1,e2,e3,e4⟩:=hval i v hv
   have hta:ta<s.heap.objs.size:=by obtain⟨_,e,_⟩:=e3;exact Heap.lt_size e
   exact⟨ta,key,kv,e1,e2,e3,e4,Nat.ne_of_lt hta,by simp only[List.mem_cons,List.not_mem_nil,or_false];exact Nat.ne_of_lt (Nat.lt_trans hta hlt2)⟩
 ·exact⟨⟨_,Heap.get?_push_size _ rfl,rfl,rfl⟩,hl2.push _⟩
 · show Heap.DictOf knd (h2.push _) _ _
   exact hS2.push _
 · intro b ob hb hb' e
   exact Heap.get?_push_of_some _ (hkeep b ob e)
 · intro h' tk' hd' hk'
   refine⟨rfl,h h' tk' hd' fun b ob e=>hk' b ob ?_ ?_ e⟩
   ·exact Nat.ne_of_lt (Heap.lt_size e)
   · simp only[List.mem_cons,List.not_mem_nil,or_false]
     exact Nat.ne_of_lt (Nat.lt_trans (Heap.lt_size e) hlt2)
theorem bM4{src:Addr}{o:Obj}{items:Array Value}{m:Nat}{ps:List (K×Value)}{Q:VSP}(hx:s.heap.get? src=some o)(hc:o.cls= .type "tuple")(hd:o.data= .seq items m)(hdict:o.dict=none)(hA:A.handled=none)
 (hn:ps.length=items.size) (hsz:items.size≤sizeLine) (hval:∀(i:Nat) (v:Value),items[i]? =some v→∃(ta:Addr) (key:Value) (kv:K×Value),v= .ref ta∧ps[i]? =some kv∧IsTup s.heap ta #[key,kv.2]∧knd.is kv.1 key=true)
 (h:∀h' tk,h'.DictOf knd s.heap.objs.size (merged [] ps)→(∀b o,s.heap.get? b=some o→h'.get? b=some o)→Q (.ref s.heap.objs.size) {s with heap:=h',toks:=tk}):
 wpAny (model prog w) A (call (.type "dict") [.ref src]) Q E s:=by
 refine callType_codes (Q₁:=fun obj s₁=>obj= .ref s.heap.objs.size∧s₁= {s with heap:=s.heap.push {cls:=.type "dict",data:=.dict #[]}}) F.kt_called_dict (F.kt_typeCall_dict_1 _) F.entry_dict_init (kt_code_dict_new _ ⟨rfl,rfl⟩) ?_
 rintro obj s₁ ⟨rfl,rfl⟩
 have hnew:(s.heap.push {cls:=.type "dict",data:=.dict #[]}).DictOf knd s.heap.objs.size []:=Heap.DictOf.new s.heap
 have hlt:src<s.heap.objs.size:=Heap.lt_size hx
 have hx1:(s.heap.push {cls:=.type "dict",data:=.dict #[]}).get? src=some o:=Heap.get?_push_of_some _ hx
 have hT1:Shared.TypeIs {s with heap:=s.heap.push {cls:=.type "dict",data:=.dict #[]}} (.ref src) "tuple":=⟨_,hx1,hc⟩
 refine⟨hnew.typeIs,F.args_dict_init_2 _ _,?_⟩
 unfold Builtin.«dict.__init__»
 refine wpAny_bind ?_
 unfold Builtin.Dict.selfAndRest
 refine wpAny_bind (wpAny_notOrdered_dict hnew.typeIs ?_)
 show wpAny _ _ (pure (s.heap.objs.size, [Value.ref src])) _ _ _
 refine wpAny_pure ?_
 show wpAny _ _ (Builtin.Dict.updateFrom "dict.__init__" s.heap.objs.size (.ref src) [] .none) _ _ _
 unfold Builtin.Dict.updateFrom
 refine wpAny_bind (wpAny_typeOf hT1 ?_)
 rw[if_pos (by decide)]
 have hA2:A.in1.in1.handled=none:=by simp[hA]
 refine wpAny_bind (bL7 hx1 hc hd hdict hA2 fun h2 tk2 k2=>?_)
 simp only[Option.isNone_none,if_true]
 refine wpAny_bind (wpAny_rule ?_)
 have hx2:h2.get? src=some o:=k2 _ _ hx1
 have hl2:h2.IsTuple src items:=⟨o,hx2,hc,m,hd⟩
 have hS2:h2.DictOf knd s.heap.objs.size []:=by
  obtain⟨o,es,ep,ho,V8⟩:=hnew
  exact⟨o,es,ep,k2 _ _ ho,V8⟩
 have hlt2:s.heap.objs.size<h2.objs.size:=by
  obtain⟨o,es,ep,ho,V8⟩:=hS2
  exact Heap.lt_size ho
 refine wpAny_bind (wpAny_pyIter_tuple hl2 ?_)
 have hA1:A.in1.in1.handled=none:=hA2
 refine wpAny_pure ⟨plainId_quiet W5 _,?_⟩
 have hkeep:∀b ob,s.heap.get? b=some ob→h2.get? b=some ob:=fun b ob e=>k2 _ _ (Heap.get?_push_of_some _ e)
 refine aL4 (knd:=knd) (Walks.tuple (A:=A.in1.in1) hA1 h2.objs.size src (Nat.ne_of_lt (Nat.lt_trans hlt hlt2)) items) s.heap.objs.size ?_ s.heap ps hn ?_ hsz items.size 0 _ _ _ (by lia) (Nat.zero_le _) ?_ ?_ ?_ ?_
 · simp only[List.mem_cons,List.not_mem_nil,or_false,not_or]
   exact⟨Nat.ne_of_lt hlt2,Nat.ne_of_gt hlt⟩
 · intro i v hv
   obtain⟨ta,key,kv,e1,e2,e3,e4⟩:=hval i v hv
   have hta:ta<s.heap.objs.size:=by obtain⟨_,e,_⟩:=e3;exact Heap.lt_size e
   exact⟨ta,key,kv,e1,e2,e3,e4,Nat.ne_of_lt hta,by simp only[List.mem_cons,List.not_mem_nil,or_false];exact Nat.ne_of_lt (Nat.lt_trans hta hlt2)⟩
 ·exact⟨⟨_,Heap.get?_push_size _ rfl,rfl,rfl⟩,hl2.push _⟩
 · show Heap.DictOf knd (h2.push _) _ _
   exact hS2.push _
 · intro b ob hb hb' e
   exact Heap.get?_push_of_some _ (hkeep b ob e)
 · intro h' tk' hd' hk'
   refine⟨rfl,h h' tk' hd' fun b ob e=>hk' b ob ?_ ?_ e⟩
   ·exact Nat.ne_of_lt (Heap.lt_size e)
   · simp only[List.mem_cons,List.not_mem_nil,or_false]
     exact Nat.ne_of_lt (Nat.lt_trans (Heap.lt_size e) hlt2)
end
end DL
namespace DL
open PySem PySem.Spec L2
open PyProof.Rows hiding St
def bZ4:D→Option (Key×D)
 | .tup [k,v]=>match cE8 k with
   |some q=>some (q,v)
   |none=>none
 |_=>none
def aG3:List D→Option (List (Key×D))
 |[]=>some []
 |d::r=>match bZ4 d,aG3 r with
   |some p,some ps=>some (p::ps)
   |_,_=>none
def putAll(acc:List (Key×D))(l:List (Key×D)):List (Key×D):=l.foldl (fun acc kv=>bK3 acc kv.1 kv.2) acc
def aV5:List D→M D:=fun ds=>match ds with
 |[.tup l]=>do
   let ps ←aS5 (aG3 l)
   R1 (.dct (putAll [] ps))
 |[.ref r]=>do
   let l ←Q7 r >>= listOf
   let ps ←aS5 (aG3 l)
   R1 (.dct (putAll [] ps))
 |_=>M.stuck
section
variable{X:Cx}{Z:XC}{c:Wc}{μ:List Addr}{H:Hp}{G:DH}
theorem dL1{d:D}{p:Key×D}(h:bZ4 d=some p):∃k,d= .tup [k,p.2]∧cE8 k=some p.1:=by
 rcases d with _|_|_|_|l|_|_|_<;>try (cases h;done)
 rcases l with _|⟨k,_|⟨v,_|⟨_,_⟩⟩⟩<;>try (cases h;done)
 delta bZ4 at h
 dsimp only at h
 rcases e:cE8 k with _|q
 ·rw[e]at h;cases h
 ·rw[e]at h;cases h;exact⟨k,rfl,e⟩
theorem bG6{pins:PNS}{s:Shared}{σ:St}(I:Inv X pins σ H s):∀ {l:List D} {ps:List (Key×D)} {vs:List V} {its:List Value},aG3 l=some ps→o5 (wc X) μ H l vs→w6 vs its→
 ∃(kvs:List (Key×V)) (ws:List (Key×Value)),aA9 (wc X) μ H ps kvs∧KV kvs ws∧ws.length=its.length∧∀(i:Nat) (v:Value),its[i]? =some v→∃(ta:Addr) (key:Value) (kv:Key×Value),v= .ref ta∧ws[i]? =some kv∧IsTup s.heap ta #[key,kv.2]∧(N6 X.prog X.w).is kv.1 key=true
 |[],ps,vs,its,e,rl,rv=>by
   cases e;cases rl;cases rv
   exact⟨[], [],rfl,.nil,rfl,fun i v h=>by simp at h⟩
 |d::r,ps,vs,its,e,rl,rv=>by
   replace e:(match bZ4 d,aG3 r with|some p,some ps=>some (p::ps)|_,_=>none)=some ps:=e
   rcases e1:bZ4 d with _|p
   ·rw[e1]at e;cases e
   ·
     rcases e2:aG3 r with _|qs
     ·rw[e1,e2]at e;cases e
     ·
       rw[e1,e2]at e
       cases e
       obtain⟨v,t,rfl,r0,rt⟩:=rl
       cases rv with
       |cons q0 qt=>
         obtain⟨kvs,ws,h1,h2,h3,h4⟩:=bG6 I e2 rt qt
         obtain⟨k,rfl,hk⟩:=dL1 e1
         unfold g8 at r0
         obtain⟨a,us,rfl,hq,ru⟩:=r0
         obtain⟨x,y,rfl,rx,ry⟩:=fK9 ru
         obtain⟨its2,rr,ht,_⟩:=I.tuple hq
         obtain⟨p1,p2⟩:=p
         cases rr with
         |cons rr0 rr1=>
           cases rr1 with
           |cons rr2 rr3=>
             cases rr3
             rename_i w0 w1
             have ex:=cG5 hk rx
             subst ex
             cases (show _=Value.ref a from q0)
             refine⟨(p1,y)::kvs,(p1,w1)::ws,⟨y,kvs,rfl,ry,h1⟩,.cons ⟨rfl,rr2⟩ h2,by simp[h3],fun i v hv=>?_⟩
             cases i with
             |zero=>
               simp only[List.getElem?_cons_zero,Option.some.injEq]at hv
               subst hv
               exact⟨a,w0,(p1,w1),rfl,rfl,ht,cA7 rr0⟩
             |succ i=>exact h4 i v (by simpa using hv)
theorem cL7:∀ {ps:List (Key×D)} {kvs:List (Key×V)} {acc:List (Key×D)} {acc':List (Key×V)},aA9 c μ H ps kvs→aA9 c μ H acc acc'→aA9 c μ H (putAll acc ps) (kvs.foldl (fun acc kv=>aP7 acc kv.1 kv.2) acc')
 |[],_,_,_,r,q=>by cases r;exact q
 |(k,d)::t,_,_,_,r,q=>by
  obtain⟨v,kt,rfl,rv,rt⟩:=r
  have z:=cL7 rt (cI4 (k:=k) rv q)
  exact z
theorem dW0:∀ {kvs:List (Key×V)} {ws:List (Key×Value)} {acc:List (Key×V)} {acc':List (Key×Value)},KV kvs ws→KV acc acc'→KV (kvs.foldl (fun acc kv=>aP7 acc kv.1 kv.2) acc) (merged acc' ws)
 |_,_,_,_,.nil,q=>q
 |_,_,_,_,.cons (a:=p) (b:=r) ⟨e,rv⟩ t,q=>by
   obtain⟨k,v⟩:=p
   obtain⟨k',u⟩:=r
   cases (show k=k' from e)
   have z:=dW0 t (q.put k rv)
   exact z
theorem cM0{pins:PNS}{s:Shared}{σ:St}{Q:VK}{ps:List (Key×D)}{kvs:List (Key×V)}{ws:List (Key×Value)}{h':Heap}{tk:Nat}(I:Inv X pins σ H s)(hr:t8 (wc X) μ G H)(h1:aA9 (wc X) μ H ps kvs)(h2:KV kvs ws)(hz:ws.length≤sizeLine)
 (p:d7 (wc X) Z μ H (R1 (.dct (putAll [] ps)) G) fun d μ' _ H'=>∀v,g8 (wc X) μ' H' d v→Q v H')
 (hd:h'.DictOf (N6 X.prog X.w) s.heap.objs.size (merged [] ws)) (hk:∀b o,s.heap.get? b=some o→h'.get? b=some o):EP X pins σ Q (.ref s.heap.objs.size) {s with heap:=h',toks:=tk}:=by
 have k3:=dW0 h2 (.nil:KV [] [])
 have hl:(kvs.foldl (fun acc kv=>aP7 acc kv.1 kv.2) []).length≤sizeLine:=by
  rw[k3.length]
  have:=merged_length_le (K:=Key) [] ws
  rw[List.length_nil]at this
  lia
 have hq:H s.heap.objs.size=none:=I.hok.fresh (Nat.le_refl _)
 refine⟨.ref s.heap.objs.size,_,I.laid (t':=tk) (o:=.dK (kvs.foldl (fun acc kv=>aP7 acc kv.1 kv.2) [])) hk (Nat.le_refl _) (dQ5 hl (beq_eq_false_iff_ne.mpr (Ne.symm (Nat.ne_of_lt I.big))) k3 hd),rfl,?_⟩
 have k:Ext μ H (μ++[s.heap.objs.size]) (upd H s.heap.objs.size (.dK (kvs.foldl (fun acc kv=>aP7 acc kv.1 kv.2) []))):=Ext.add hq _
 have e0:aA9 (wc X) μ H (putAll [] ps) (kvs.foldl (fun acc kv=>aP7 acc kv.1 kv.2) []):=cL7 h1 rfl
 refine p (μ++[s.heap.objs.size]) _ k (hr.new hq ⟨_,P0,e0.mono k⟩) _ ?_
 unfold g8
 exact⟨s.heap.objs.size,by rw[←hr.len];simp,rfl⟩
theorem eB9(hc:X.calm=true):aD0 X Z (.type "dict") aV5:=⟨by
 intro pins s σ H xs us Q I r hE0
 obtain⟨ds,μ,G,rl,hr,p⟩:=hE0
 have hh:X.A.handled=none:=I.ok.hd hc
 rcases ds with _|⟨_|_|_|_|l|i|_|_,_|⟨_,_⟩⟩<;>try exact p.elim
 all_goals (delta aV5 at p;dsimp only at p)
 · obtain⟨v,rfl,rv⟩:=bA4 rl
   obtain⟨u,rfl,ru⟩:=aG5 r
   unfold g8 at rv
   obtain⟨a,vs,rfl,q,rl'⟩:=rv
   cases ru
   obtain⟨ps,eps,p2⟩:=aC1 p
   obtain⟨its,rr,⟨o,g1,g2,n,g3⟩,hz⟩:=I.tupleN q
   obtain⟨kvs,ws,h1,h2,h3,h4⟩:=bG6 I eps rl' rr
   have hlen:=rr.length
   exact bM4 (knd:=N6 X.prog X.w) (ps:=ws) g1 g2 (Prod.mk.inj g3).1 (Prod.mk.inj g3).2 hh (by simpa using h3) (by simp only[List.size_toArray];lia) (fun i v hv=>h4 i v (by simpa using hv)) fun h' tk hd hk=>cM0 I hr h1 h2 (by lia) p2 hd hk
 · obtain⟨v,rfl,rv⟩:=bA4 rl
   obtain⟨u,rfl,ru⟩:=aG5 r
   obtain⟨l,a,vs,rfl,rl',q,p1⟩:=Z5 hr rv p
   cases ru
   obtain⟨ps,eps,p2⟩:=aC1 p1
   obtain⟨its,rr,⟨o,n,g1,g2,g3,g4⟩,hz⟩:=I.list q
   obtain⟨kvs,ws,h1,h2,h3,h4⟩:=bG6 I eps rl' rr
   have hlen:=rr.length
   exact bN9 (knd:=N6 X.prog X.w) (ps:=ws) g1 g2 g4 g3 hh (by simpa using h3) (by simp only[List.size_toArray];lia) (fun i v hv=>h4 i v (by simpa using hv)) fun h' tk hd hk=>cM0 I hr h1 h2 (by lia) p2 hd hk⟩
theorem eD5(h:X.calm=true):BD aV5 "dict" X Z:=⟨.inr ⟨_,eB9 h,eC3⟩⟩
end
end DL
namespace W
open PySem PySem.Spec L2 DL
open PyProof.Rows hiding St
theorem dM8{l:List D}{ps:List (Key×D)}{G:DH}{Q:DPP}(h:aG3 l=some ps):Wp (aV5 [.tup l]) G Q↔Q (.ref G.length) (G++[.dct (putAll [] ps)]):=by
 unfold aV5
 simp only[j8,h,aV3,W6,Option.some.injEq,exists_eq_left']
end W
namespace DL
open PySem PySem.Spec L2
open PyProof.Rows hiding St
section
variable{X:Cx}{Z:XC}{c:Wc}{μ:List Addr}{H:Hp}
end
end DL
namespace W
open PySem PySem.Spec L2 DL
open PyProof.Rows hiding St
end W
namespace DL
open PySem PySem.Spec L2
open PyProof.Rows hiding St
section
variable{X:Cx}{Z:XC}{a b e:Expr}{fa fb:Fe}{pos:Pos}
end
end DL
namespace W
open PySem PySem.Spec L2 DL
open PyProof.Rows hiding St
end W
namespace DL
open PySem PySem.W
open PyProof.Rows hiding St
noncomputable def tOk{α:Type}(lt:Nat→Nat→Bool)(n:Nat):KasT α→(α→Prop)→Prop
 | .ret a,Q=>Q a
 | .ask i j k,Q=>i<n∧j<n∧tOk lt n (k (lt i j)) Q
section
variable{α β:Type}{lt:Nat→Nat→Bool}{n:Nat}
theorem tOk.bind{f:α→KasT β}{Q:β→Prop}:∀(t:KasT α),tOk lt n t (fun a=>tOk lt n (f a) Q)→tOk lt n (t.bind f) Q
 | .ret _,h=>h
 | .ask i j k,h=>⟨h.1,h.2.1,tOk.bind (k (lt i j)) h.2.2⟩
theorem tOk.mono{Q Q':α→Prop}(hq:∀a,Q a→Q' a):∀(t:KasT α),tOk lt n t Q→tOk lt n t Q'
 | .ret a,h=>hq a h
 | .ask i j k,h=>⟨h.1,h.2.1,tOk.mono hq (k (lt i j)) h.2.2⟩
theorem tOk.wp{cmp:Nat→Nat→(Bool→Shared→Prop)→Shared→Prop}{s:Shared}{Q:α→Prop}(hc:∀i j (C:Bool→Shared→Prop),i<n→j<n→C (lt i j) s→cmp i j C s):∀(t:KasT α),tOk lt n t Q→t.kasWp cmp (fun a s'=>s'=s∧Q a) s
 | .ret a,h=>⟨rfl,h⟩
 | .ask i j k,h=>hc i j _ h.1 h.2.1 (tOk.wp hc (k (lt i j)) h.2.2)
end
structure bV1(lt:Nat→Nat→Bool)(n:Nat):Prop where
 tr:∀i j k,lt i j=true→lt j k=true→lt i k=true
 tot:∀i j,i<n→j<n→i≠j→lt i j=false→lt j i=true
structure aC4(p:Array Nat)(n:Nat):Prop where
 pm:p.toList.Perm (List.range n)
section
variable{lt:Nat→Nat→Bool}{n:Nat}{p:Array Nat}
theorem aC4.size(h:aC4 p n):p.size=n:=by have:=h.pm.length_eq;simpa using this
theorem aC4.bd(h:aC4 p n){k:Nat}(hk:k<n):p.getD k 0<n:=by
 have hs:=h.size
 have e:p.getD k 0=p[k]'(by lia):=by simp[Array.getD,hs,hk]
 rw[e]
 have:p[k]'(by lia)∈p.toList:=by simp
 have:=h.pm.mem_iff.mp this
 simpa using this
theorem aC4.ne(h:aC4 p n){i j:Nat}(hi:i<n)(hj:j<n)(hij:i≠j):p.getD i 0≠p.getD j 0:=by
 have hs:=h.size
 have nd:p.toList.Nodup:=h.pm.nodup_iff.mpr List.nodup_range
 have e1:p.getD i 0=p.toList[i]'(by simp;lia):=by simp[Array.getD,hs,hi]
 have e2:p.getD j 0=p.toList[j]'(by simp;lia):=by simp[Array.getD,hs,hj]
 rw[e1,e2]
 intro e
 exact hij ((List.getElem_inj nd).mp e)
noncomputable def bM6(lt:Nat→Nat→Bool)(p:Array Nat)(m:Nat):Prop:=∀i j,i<j→j<m→lt (p.getD i 0) (p.getD j 0)=true
noncomputable def dC7(lt:Nat→Nat→Bool)(p:Array Nat)(m:Nat):Prop:=∀i j,i<j→j<m→lt (p.getD j 0) (p.getD i 0)=true
theorem dY3(O:bV1 lt n){k:Nat}(hk:1≤k)(h:bM6 lt p k)(hl:lt (p.getD (k-1) 0) (p.getD k 0)=true):bM6 lt p (k+1):=by
 intro i j hij hj
 by_cases hj':j<k
 ·exact h i j hij hj'
 · have ej:j=k:=by lia
   subst ej
   by_cases hi:i=j-1
   ·rw[hi];exact hl
   ·exact O.tr _ _ _ (h i (j-1) (by lia) (by lia)) hl
theorem eC9(O:bV1 lt n){k:Nat}(hk:1≤k)(h:dC7 lt p k)(hl:lt (p.getD k 0) (p.getD (k-1) 0)=true):dC7 lt p (k+1):=by
 intro i j hij hj
 by_cases hj':j<k
 ·exact h i j hij hj'
 · have ej:j=k:=by lia
   subst ej
   by_cases hi:i=j-1
   ·rw[hi];exact hl
   ·exact O.tr _ _ _ hl (h i (j-1) (by lia) (by lia))
theorem cT3(O:bV1 lt n)(P:aC4 p n):∀(f k:Nat),1≤k→k+f≤n→bM6 lt p k→tOk lt n (kas_asc p f k) (fun m=>k≤m∧m≤k+f∧bM6 lt p m∧(m<k+f→lt (p.getD m 0) (p.getD (m-1) 0)=true))
 |0,k,h1,h2,u=>⟨Nat.le_refl _,Nat.le_refl _,u,fun z=>by lia⟩
 |f+1,k,h1,h2,u=>by
   unfold kas_asc
   refine⟨P.bd (by lia),P.bd (by lia),?_⟩
   rcases e:lt (p.getD k 0) (p.getD (k-1) 0)with _|_
   ·
     have hl:=O.tot _ _ (P.bd (show k<n by lia)) (P.bd (show k-1<n by lia)) (P.ne (by lia) (by lia) (by lia)) e
     simp only[Bool.false_eq_true,if_false]
     exact(cT3 O P f (k+1) (by lia) (by lia) (dY3 O h1 u hl)).mono fun m ⟨a,b,c,d⟩=>⟨by lia,by lia,c,fun z=>d (by lia)⟩
   ·exact⟨Nat.le_refl _,by lia,u,fun _=>e⟩
theorem cZ4(O:bV1 lt n)(P:aC4 p n):∀(f k:Nat),1≤k→k+f≤n→dC7 lt p k→tOk lt n (kas_desc f p k 0) (fun r=>r.1=p∧r.2.2=0∧k≤r.2.1∧r.2.1≤k+f∧dC7 lt p r.2.1)
 |0,k,h1,h2,u=>⟨rfl,rfl,Nat.le_refl _,Nat.le_refl _,u⟩
 |f+1,k,h1,h2,u=>by
   unfold kas_desc
   refine⟨P.bd (by lia),P.bd (by lia),?_⟩
   rcases e:lt (p.getD k 0) (p.getD (k-1) 0)with _|_
   ·
     have hl:=O.tot _ _ (P.bd (show k<n by lia)) (P.bd (show k-1<n by lia)) (P.ne (by lia) (by lia) (by lia)) e
     simp only[Bool.false_eq_true,if_false]
     refine⟨P.bd (by lia),P.bd (by lia),?_⟩
     rw[hl]
     exact⟨rfl,rfl,Nat.le_refl _,Nat.le_add_right _ _,u⟩
   ·
     simp only[if_true,Nat.lt_irrefl,if_false,gt_iff_lt]
     exact(cZ4 O P f (k+1) (by lia) (by lia) (eC9 O h1 u e)).mono fun r ⟨a,b,c,d,g⟩=>⟨a,b,by lia,by lia,g⟩
theorem aV4(p:Array Nat)(k:Nat):p.getD k 0= (p[k]?).getD 0:=by
 by_cases h:k<p.size<;>simp[Array.getD,h]
theorem cI5{i j:Nat}(P:aC4 p n):aC4 (kas_rev p i j) n:=⟨(Array.perm_iff_toList_perm.mp (mirror_perm p i j _)).trans P.pm⟩
theorem eY0(P:aC4 p n){m:Nat}(hm:m≤n)(d:dC7 lt p m):bM6 lt (kas_rev p 0 m) m:=by
 intro i j hij hj
 have hs:=P.size
 have e:∀k,k<m→(kas_rev p 0 m).getD k 0=p.getD (m-1-k) 0:=fun k hk=>by
  rw[aV4,aV4]
  unfold kas_rev
  rw[getElem?_mirror_all (by lia),if_pos ⟨Nat.zero_le _,hk⟩,Nat.zero_add]
 rw[e i (by lia),e j hj]
 exact d (m-1-j) (m-1-i) (by lia) (by lia)
theorem cN1(O:bV1 lt n)(P:aC4 p n)(h2:2≤n)(d:dC7 lt p 2):tOk lt n (kas_descPart 1 n p) (fun r=>aC4 r.2 n∧1≤r.1∧r.1≤n∧bM6 lt r.2 r.1):=by
 unfold kas_descPart
 refine tOk.bind _ ((cZ4 O P (n-(1+1)) (1+1) (by lia) (by lia) d).mono fun r ⟨a,b,c,e,g⟩=>?_)
 obtain⟨r1,r2,r3⟩:=r
 dsimp only at a b c e g ⊢
 subst a b
 rw[if_neg (Nat.lt_irrefl 0)]
 unfold kas_tail3
 refine tOk.bind _ ((cT3 O (cI5 P) (n-r2) r2 (by lia) (by lia) (eY0 P (by lia) g)).mono fun m ⟨a1,a2,a3,_⟩=>?_)
 exact⟨cI5 P,by lia,by lia,a3⟩
theorem dO3(O:bV1 lt n)(P:aC4 p n)(h2:2≤n):tOk lt n (kas_count n p) (fun r=>aC4 r.2 n∧1≤r.1∧r.1≤n∧bM6 lt r.2 r.1):=by
 unfold kas_count
 refine tOk.bind _ ((cT3 O P (n-1) 1 (Nat.le_refl _) (by lia) (fun i j _ _=>by lia)).mono fun m ⟨a1,a2,a3,a4⟩=>?_)
 by_cases hm:m=n
 · rw[if_pos (by simpa using hm)]
   exact⟨P,a1,by lia,a3⟩
 · rw[if_neg (by simpa using hm)]
   by_cases h1:m>1
   · rw[if_pos h1]
     refine⟨P.bd (by lia),P.bd (by lia),?_⟩
     rw[a3 0 (m-1) (by lia) (by lia)]
     exact⟨P,a1,by lia,a3⟩
   · rw[if_neg h1]
     have em:m=1:=by lia
     subst em
     refine cN1 O P h2 fun i j hij hj=>?_
     have e1:i=0:=by lia
     have e2:j=1:=by lia
     subst e1 e2
     exact a4 (by lia)
theorem bS3(O:bV1 lt n)(P:aC4 p n){k:Nat}(hk:k<n)(u:bM6 lt p k):∀(f l r:Nat),l≤r→r≤k→r-l≤f→(∀i,i<l→lt (p.getD i 0) (p.getD k 0)=true)→(∀i,r≤i→i<k→lt (p.getD k 0) (p.getD i 0)=true)→
 tOk lt n (kas_place p k f l r) (fun L=>L≤k∧(∀i,i<L→lt (p.getD i 0) (p.getD k 0)=true)∧∀i,L≤i→i<k→lt (p.getD k 0) (p.getD i 0)=true)
 |0,l,r,h1,h2,h3,a,b=>⟨by lia,a,fun i hi=>b i (by lia)⟩
 |f+1,l,r,h1,h2,h3,a,b=>by
   unfold kas_place
   by_cases h:l≥r
   · rw[if_pos h]
     exact⟨by lia,a,fun i hi=>b i (by lia)⟩
   · rw[if_neg h]
     have hm1:l≤(l+r) / 2:=by lia
     have hm2:(l+r) / 2<r:=by lia
     refine⟨P.bd hk,P.bd (by lia),?_⟩
     rcases e:lt (p.getD k 0) (p.getD ((l+r) / 2) 0)with _|_
     ·
       simp only[Bool.false_eq_true,if_false]
       have hl:=O.tot _ _ (P.bd hk) (P.bd (show (l+r) / 2<n by lia)) (P.ne hk (by lia) (by lia)) e
       refine bS3 O P hk u f _ r (by lia) h2 (by lia) (fun i hi=>?_) b
       by_cases ei:i= (l+r) / 2
       ·rw[ei];exact hl
       ·exact O.tr _ _ _ (u i ((l+r) / 2) (by lia) (by lia)) hl
     ·
       simp only[if_true]
       refine bS3 O P hk u f l _ hm1 (by lia) (by lia) a fun i hi hik=>?_
       by_cases ei:i= (l+r) / 2
       ·rw[ei];exact e
       ·exact O.tr _ _ _ e (u _ i (by lia) hik)
theorem dP1(O:bV1 lt n):∀(f k:Nat) (p:Array Nat),aC4 p n→k+f=n→bM6 lt p k→tOk lt n (kas_bin f p k) (fun q=>aC4 q n∧bM6 lt q n)
 |0,k,p,P,h,u=>⟨P,by rw[←h];exact u⟩
 |f+1,k,p,P,h,u=>by
   unfold kas_bin
   refine tOk.bind _ ((bS3 O P (show k<n by lia) u k 0 k (Nat.zero_le _) (Nat.le_refl _) (by lia) (fun i hi=>by lia) (fun i h1 h2=>by lia)).mono fun L ⟨hL,a,b⟩=>?_)
   have hs:=P.size
   refine dP1 O f (k+1) _ ⟨(Array.perm_iff_toList_perm.mp (bubble_perm p k (k-L))).trans P.pm⟩ (by lia) ?_
   have e:∀i,(bubble p k (k-L)).getD i 0=if i=L then p.getD k 0 else if L<i∧i≤k then p.getD (i-1) 0 else p.getD i 0:=fun i=>by
    rw[aV4,getElem?_bubble (by lia) _ (by lia),show k-(k-L)=L by lia]
    split
    ·rw[←aV4]
    ·split<;>rw[←aV4]
   intro i j hij hj
   rw[e i,e j]
   by_cases h1:i=L
   · rw[if_pos h1,if_neg (by lia),if_pos (by lia)]
     exact b (j-1) (by lia) (by lia)
   · rw[if_neg h1]
     by_cases h2:j=L
     · rw[if_pos h2,if_neg (by lia)]
       exact a i (by lia)
     · rw[if_neg h2]
       by_cases h3:L<i
       · rw[if_pos (by lia),if_pos (by lia)]
         exact u _ _ (by lia) (by lia)
       · rw[if_neg (by lia)]
         by_cases h4:L<j
         · rw[if_pos (by lia)]
           by_cases h5:i<j-1
           ·exact u _ _ h5 (by lia)
           ·lia
         · rw[if_neg (by lia)]
           exact u _ _ hij (by lia)
theorem eF5(O:bV1 lt n)(h2:2≤n):tOk lt n (kas_sort n) (fun q=>aC4 q n∧bM6 lt q n):=by
 unfold kas_sort
 refine tOk.bind _ ((dO3 O ⟨by simp⟩ h2).mono fun r ⟨a,b,c,d⟩=>?_)
 by_cases h:r.1<n
 · rw[if_pos h,show max r.1 1=r.1 by lia]
   exact dP1 O _ _ _ a (by lia) d
 · rw[if_neg h]
   exact⟨a,by rw[show n=r.1 by lia];exact d⟩
end
end DL
namespace DL
open PySem PySem.Spec L2
open PyProof.Rows hiding St
def aK7(F:List D→M D):List D→M (List D)
 |[]=>pure []
 |d::r=>do
   let k ←noX (F [d])
   let ks ←aK7 F r
   pure (k::ks)
noncomputable def Cx.rm(X:Cx)(A:Around):Cx:={X with A:=A,xe:=fun _ _=>False}
section
variable{X:Cx}{pins:PNS}{σ:St}{H:Hp}{s:Shared}{A:Around}
theorem eU5(I:Inv X pins σ H s)(h1:A.handled=X.A.handled)(h2:A.frames=X.A.frames):Inv (Cx.rm X A) pins σ H s:=
 ⟨⟨I.ok.mod,I.ok.kind,I.ok.glob,I.ok.blt,I.ok.above,I.ok.inj,I.ok.has,I.ok.cab,fun c=>h1.trans (I.ok.hd c),h2.trans I.ok.frames,I.ok.stk,I.ok.exf,I.ok.bs,I.ok.bsz,I.ok.noex,I.ok.exfs,I.ok.funs,I.ok.frf⟩,I.os,I.bare,I.base,I.loc,I.cell,I.free,I.freeC,I.pin,I.hok,I.len⟩
theorem dQ2(I:Inv (Cx.rm X A) pins σ H s)(h1:A.handled=X.A.handled)(h2:A.frames=X.A.frames):Inv X pins σ H s:=
 ⟨⟨I.ok.mod,I.ok.kind,I.ok.glob,I.ok.blt,I.ok.above,I.ok.inj,I.ok.has,I.ok.cab,fun c=>h1.symm.trans (I.ok.hd c),h2.symm.trans I.ok.frames,I.ok.stk,I.ok.exf,I.ok.bs,I.ok.bsz,I.ok.noex,I.ok.exfs,I.ok.funs,I.ok.frf⟩,I.os,I.bare,I.base,I.loc,I.cell,I.free,I.freeC,I.pin,I.hok,I.len⟩
end
section
variable{X:Cx}{pins:PNS}{σ:St}{A:Around}{F:List D→M D}{k:Nat}{f:Addr}{fd:FuncData}{ps:List Str}
theorem cX9(hF:J6 X.prog X.w X.K X.mg X.base CX0 k f fd ps (spD (wc X) 1 F))(hb:aS4 X.K fd ps [])(hA:X4 k A)(h1:A.handled=X.A.handled)(h2:A.frames=X.A.frames){a kS:Addr}{e1:Nat}
 (fa:∀H':Hp,H' a=none→aH2 X pins H' a) (fk:∀H':Hp,H' kS=none→aH2 X pins H' kS) (ne:a≠kS) {E:VSP} {R:Shared→Prop} {body:Value→PUnit→Sem (ForInStep PUnit)}
 (hbd:∀x s (R:Shared→Prop),wpAny (model X.prog X.w) A (call (.ref f) [x]) (fun k s'=>∃ks e,List.length ks<64∧s'.heap.get? kS=some (seqObj "list" (List.toArray ks) e)∧R {s' with heap:=s'.heap.update kS (Obj.mapSeq (·.push k))}) (fun _ _=>False) s→
   wpAny (model X.prog X.w) A (body x ⟨⟩) (fun r s'=>r= .yield ⟨⟩∧R s') E s):∀(r:List D) (rv:List V) (ru:List Value) (dn:List D) (dv:List V) (du:List Value) (e:Nat) (μ:List Addr) (G:DH) (H:Hp) (s:Shared),
   o5 (wc X) μ H r rv→w6 rv ru→o5 (wc X) μ H dn dv→w6 dv du→t8 (wc X) μ G H→Inv X pins σ H s→s.heap.get? kS=some (seqObj "list" (List.toArray du) e)→s.heap.get? a=some (seqObj "list" #[] e1)→H a=none→H kS=none→du.length+ru.length<64→
   d7 (wc X) ZF μ H (aK7 F r G) (fun ks μ' G' H'=>∀(s':Shared) (kv:List V) (ku:List Value) (e':Nat),Ext μ H μ' H'→t8 (wc X) μ' G' H'→o5 (wc X) μ' H' (dn++ks) kv→w6 kv ku→Inv X pins σ H' s'→s'.heap.get? kS=some (seqObj "list" (List.toArray ku) e')→s'.heap.get? a=some (seqObj "list" #[] e1)→H' a=none→H' kS=none→R s')→
   wpAny (model X.prog X.w) A (forIn ru PUnit.unit body) (fun _ s'=>R s') E s
 |[],_,_,dn,dv,du,e,μ,G,H,s,r1,r2,q1,q2,hr,I,g1,g2,n1,n2,hl,p=>by
   cases r1;cases r2
   rw[List.forIn_nil]
   exact wpAny_pure (d7.ok p hr s dv du e (Ext.refl _ _) hr (by rw[List.append_nil];exact q1) q2 I g1 g2 n1 n2)
 |d::r,_,_,dn,dv,du,e,μ,G,H,s,r1,r2,q1,q2,hr,I,g1,g2,n1,n2,hl,p=>by
   obtain⟨v,rv,rfl,rd,rr⟩:=r1
   cases r2 with
   |cons ru rur=>
   rename_i u ur
   rw[List.forIn_cons]
   have hfp:∀b∈ [a,kS],aH2 X pins H b:=fun b hb=>by
    rcases List.mem_cons.mp hb with rfl|hb
    ·exact fa H n1
    ·rw[List.mem_singleton]at hb;subst hb;exact fk H n2
   have IX:=eU5 (A:=A) (I.pinned (fp:= [a,kS]) hfp (fun b hb=>by
    rcases List.mem_cons.mp hb with rfl|hb
    ·exact⟨_,g2,fun v z=>by cases z⟩
    ·rw[List.mem_singleton]at hb;subst hb;exact⟨_,g1,fun v z=>by cases z⟩)) h1 h2
   have pb:=bS6 (d7.bind p)
   have call:=cR9 (X:=Cx.rm X A) (dvs:= []) (ds:= []) (Q:=fun v' H'=>∃k μ1 G1,Ext μ H μ1 H'∧t8 (wc X) μ1 G1 H'∧g8 (wc X) μ1 H' k v'∧d7 (wc X) ZF μ1 H' ((aK7 F r >>= fun ks=>pure (k::ks)) G1) _) hF hA hb .nil dQ7 IX (show w6 [v] [u]from .cons ru .nil)
    (⟨rfl, [d],μ,G,⟨v, [],rfl,rd,rfl⟩,hr,pb.mono fun k μ1 G1 H1 x1 hr1 p1 v' rv'=>⟨k,μ1,G1,x1,hr1,rv',p1⟩⟩)
   refine wpAny_bind (wpAny_mono (hbd u s (fun s'=>wpAny (model X.prog X.w) A (forIn ur PUnit.unit body) (fun _ s'=>R s') E s') (wpAny_mono call (fun kv s' hk=>?_) fun _ _ z=>z)) (fun q s' hq=>?_) fun _ _ z=>z)
   · obtain⟨v',H',I',rv',k0,μ1,G1,x1,hr1,rk,p1⟩:=hk
     have I2:=dQ2 I' h1 h2
     obtain⟨g1',n2',_⟩:=I2.pin (kS,seqObj "list" (List.toArray du) e) (List.mem_append_right _ (List.mem_append_right _ (aB8 (by simp) g1)))
     obtain⟨g2',n1',_⟩:=I2.pin (a,seqObj "list" #[] e1) (List.mem_append_right _ (List.mem_append_right _ (aB8 (by simp) g2)))
     rw[List.length_cons]at hl
     refine⟨du,e,by lia,g1',?_⟩
     have ea:(List.toArray du).push kv=List.toArray (du++[kv]):=by simp
     obtain⟨c2,hc2⟩:∃c2,(s'.heap.update kS (Obj.mapSeq (·.push kv))).get? kS=some (seqObj "list" (List.toArray (du++[kv])) c2):=⟨_,by rw[←ea];exact get?_update_seq g1' (·.push kv)⟩
     have I3:=aH9 (h':=s'.heap.update kS (Obj.mapSeq (·.push kv))) (t':=s'.toks) (ch:= [kS]) I2.unpinned (fun b hb=>by rw[List.mem_singleton]at hb;subst hb;exact fk H' n2') (fun b o hb e=>by
      rw[List.mem_singleton]at hb
      rw[Heap.get?_update_ne _ _ _ _ hb];exact e)
     refine cX9 hF hb hA h1 h2 fa fk ne hbd r rv ur (dn++[k0]) (dv++[v']) (du++[kv]) c2 μ1 G1 H' _ (rr.mono x1) rur (o5.append (q1.mono x1) ⟨v', [],rfl,rk,rfl⟩) (q2.append (show w6 [v'] [kv]from .cons rv' .nil)) hr1 I3 hc2 (by rw[Heap.get?_update_ne _ _ _ _ ne];exact g2') n1' n2' (by rw[List.length_append,List.length_singleton];lia) ?_
     refine(d7.bind p1).mono fun ks μ2 G2 H2 x2 hr2 p2 s3 kv2 ku2 e2 x2' hr2' a1 a2 a3 a4 a5 a6 a7=>?_
     exact d7.ok p2 hr2 s3 kv2 ku2 e2 (x1.trans x2) hr2 (by rw[List.append_assoc]at a1;exact a1) a2 a3 a4 a5 a6 a7
   · obtain⟨rfl,hq⟩:=hq
     exact hq
end
section
variable{X:Cx}{pins:PNS}{σ:St}{H:Hp}{s:Shared}
theorem dI6{h':Heap}{t':Nat}{ch:List Addr}{a:Addr}{ws:List V}(I:Inv X pins σ H s)(hf:∀b∈ch,aH2 X pins H b)(ha:a∈ch)(k:∀b o,b∉ch→s.heap.get? b=some o→h'.get? b=some o)
 (new:U9 X.prog X.w (upd H a (.lst ws)) h' a (.lst ws)):Inv X pins σ (upd H a (.lst ws)) {s with heap:=h',toks:=t'}:=by
 have hq:H a=none:=(hf a ha).1
 have nch:∀b u,H b=some u→b∉ch:=fun b u e z=>by rw[(hf b z).1]at e;cases e
 refine I.step (g':=s.gens) (d':=s.drawn) (ch:=ch) (fun b hb=>⟨(hf b hb).2.2.2.1,(hf b hb).2.1,(hf b hb).2.2.2.2.1,(hf b hb).2.2.2.2.2⟩) (fun b o _ _ hc e _=>k b o hc e) (fun b o _ _ hc e _=>⟨o.slots,k b o hc e⟩)
  (fun b o hc e n=>by rw[o8 (fun z=>hc (by rw[z];exact ha))];exact n) (fun b o hc e=>⟨o,k b o hc e⟩) (fun b xs e=>by rw[o8 (t7 e hq)];exact e) (fun b o u e=>by rw[o8 (t7 e hq)];exact e)
  (fun b ps e=>⟨#[],by rw[o8 (t7 e hq),e];simp⟩) (fun m hm=>?_) (fun b u e=>?_) I.bare
 · obtain⟨o,es,ep,ho,r⟩:=hm
   exact⟨o,es,ep,k _ o (fun z=>(hf _ z).2.1 rfl) ho,r⟩
 · by_cases hb:b=a
   · subst hb
     rw[P0]at e
     cases e
     exact new
   · rw[o8 hb]at e
     refine(I.hok b u e).stay (fun c v hc q=>k c v ?_ q) (fun c q=>by rw[o8 (t7 q hq)];exact q) fun c xs q=>by rw[o8 (t7 q hq)];exact q
     rcases hc with z|z
     ·rw[z];exact nch b u e
     ·exact nch c _ z
end
section
variable{prog:Program}{w:World}{A:Around}{E:VSP}{s:Shared}{C:Bool→Shared→Prop}
theorem cZ3{st:SortSt}{a kS:Addr}{e e1:Nat}{ku out:List Value}{P:PySem.Fin→Shared→Prop}(hout:(arrOf st).map (·.2)=List.toArray out)(hz:out.length<64)(hkz:ku.length<64)(hf:failedOf st=none)(ho1:s.heap.get? kS=some (seqObj "list" (List.toArray ku) e))(ho2:s.heap.get? a=some (seqObj "list" #[] e1))(ne:a≠kS)
 (h:∀(h':Heap) (e':Nat),(∀b o,b∉ [a,kS]→s.heap.get? b=some o→h'.get? b=some o)→h'.get? a=some (seqObj "list" (List.toArray out) e')→P (.done (.ret .none)) {s with heap:=h'}):wpAny (model prog w) A (ksk_tail a false e1 (.ref kS) st) P E s:=by
 have na:(s.heap.update kS (Obj.mapSeq fun _=>(#[]:Array Value))).get? a=some (seqObj "list" #[] e1):=by rw[Heap.get?_update_ne _ _ _ _ ne];exact ho2
 obtain⟨c2,hc2⟩:∃c2,((s.heap.update kS (Obj.mapSeq fun _=>(#[]:Array Value))).update a (Obj.mapSeq fun _=>List.toArray out)).get? a=some (seqObj "list" (List.toArray out) c2):=⟨_,get?_update_seq na fun _=>List.toArray out⟩
 unfold ksk_tail
 try dsimp only
 rw[hout]
 refine wpAny_bind (listUpdate_at ho1 rfl ?_ (by rw[List.size_toArray,sizeLine_eq];lia) (Nat.zero_le _))
 refine wpAny_bind (wpAny_letGo ?_)
 refine wpAny_bind (seqEpoch_at na rfl ?_)
 refine wpAny_bind (listUpdate_at na rfl ?_ (Nat.zero_le _) (Nat.le_trans (Nat.le_of_eq (List.size_toArray ..)) (by rw[sizeLine_eq];lia)))
 rw[hf]
 simp only[bne_self_eq_false,Bool.false_eq_true,if_false]
 refine wpAny_pure (h _ c2 (fun b o hb eo=>?_) hc2)
 have hb':b≠a∧b≠kS:=by simpa using hb
 rw[Heap.get?_update_ne _ _ _ _ hb'.1,Heap.get?_update_ne _ _ _ _ hb'.2]
 exact eo
end
section
variable{X:Cx}{Z:XC}{pins:PNS}{σ:St}{H:Hp}{s:Shared}{F:List D→M D}{k:Nat}{f:Addr}{fd:FuncData}{ps:List Str}{μ:List Addr}{G:DH}
theorem cR1{α:Type}{p:List Nat}{n:Nat}{l:List α}{d:α}(h:p.Perm (List.range n))(hn:l.length=n):(p.map fun i=>l.getD i d).Perm l:=by
 have e:(List.range n).map (fun i=>l.getD i d)=l:=by
  apply List.ext_getElem
  ·simp[hn]
  · intro i hi hj
    simp[hj]
 have:=h.map fun i=>l.getD i d
 rw[e]at this
 exact this
end
section
variable{X:Cx}{Z:XC}{e:Expr}{fe:Fe}{p pf kp pos:Pos}{x:Str}{F:List D→M D}
end
def CR(K:PySem.W.Frag)(mg:Str→Option Value)(d:D)(u:Value):Prop:=∃v,J2 v u∧∀ μ H,g8 ⟨K,mg⟩ μ H d v
def CRL(K:PySem.W.Frag)(mg:Str→Option Value)(l:List D)(us:List Value):Prop:=∃vs,w6 vs us∧∀ μ H,o5 ⟨K,mg⟩ μ H l vs
section
variable{K:PySem.W.Frag}{mg:Str→Option Value}
theorem bO6{x:Str}{t:Tok}:CR K mg (.str x) (.str x t):=⟨.str x,⟨t,rfl⟩,fun μ H=>by unfold g8;rfl⟩
theorem eL0{b:Bool}:CR K mg (.bl b) (.bool b):=⟨.bl b,rfl,fun μ H=>by unfold g8;rfl⟩
theorem cC7:CR K mg .non .none:=⟨.non,rfl,fun μ H=>by unfold g8;rfl⟩
theorem V9:CRL K mg [] []:=⟨[],.nil,fun _ _=>rfl⟩
theorem K7{d:D}{l:List D}{u:Value}{us:List Value}(h:CR K mg d u)(t:CRL K mg l us):CRL K mg (d::l) (u::us):=by
 obtain⟨v,r,h⟩:=h
 obtain⟨vs,rs,t⟩:=t
 exact⟨v::vs,.cons r rs,fun μ H=>⟨v,vs,rfl,h μ H,t μ H⟩⟩
theorem aC0{a:Addr}{l:List D}{us:List Value}{n:Nat}{sl:Array (Option Value)}(hl:K.lookup a=some ⟨.type "tuple",none,.seq us.toArray n,sl⟩)(hz:Nat.ble us.length 100=true)(h:CRL K mg l us):CR K mg (.tup l) (.ref a):=by
 obtain⟨vs,rs,t⟩:=h
 refine⟨.ref a,rfl,fun μ H=>?_⟩
 unfold g8
 refine⟨a,vs,rfl,.inr ⟨_,us.toArray,n,hl,rfl,rfl,?_,rs⟩,t μ H⟩
 rw[List.size_toArray]
 exact Nat.le_trans (Nat.le_of_ble_eq_true hz) (by decide)
end
structure cY1(K:PySem.W.Frag)(mg:Str→Option Value)(x:Str)(d:D):Prop where
 ex:∃u,mg x=some u∧CR K mg d u
section
variable{X:Cx}{Z:XC}{pos:Pos}{x:Str}{d:D}
theorem fA0(hc:cY1 X.K X.mg x d)(hg:Gl X x)(hdb:(x==("__debug__" :Str))=false):DE X Z (.Name x pos) (cE d):=⟨by
 intro pins s σ H Q I hE0
 refine hE0.elim fun dσ μ G sr hr p=>?_
 obtain⟨u,hm,v,ru,rv⟩:=hc.ex
 exact bN3 I hg hm ⟨v,H,I,ru,d7.ok p hr v (rv μ H)⟩ hdb⟩
end
section
variable{X:Cx}{Z:XC}{o e:Expr}{es:List Expr}{fo:Fe}{fs:DSt→M (List D)}{name:Str}{id:String}{mm:D→List D→M D}{apos cpos:Pos}
end
section
variable{X:Cx}{Z:XC}
end
end DL
namespace W
open PySem PySem.Spec L2 DL
open PyProof.Rows hiding St
section
variable{G:DH}{σ:DSt}{Q:DPP}
end
end W
namespace DL
open PySem PySem.Spec L2
open PyProof.Rows hiding St
section
variable{X:Cx}{Z:XC}{c:Wc}{μ:List Addr}{H:Hp}
variable{e t:Expr}{lo hi:Option Expr}{fa:Fe}{fl fh ft:Fo}{p2 pos:Pos}
end
end DL
namespace W
open PySem PySem.Spec L2 DL
open PyProof.Rows hiding St
section
variable{G:DH}{σ:DSt}{Q:DPP}
end
end W
namespace DL
open PySem PySem.Spec L2
open PyProof.Rows hiding St
section
variable{X:Cx}{Z:XC}{a b c:Expr}{fa fb fc:Fe}{pos p:Pos}{x:Str}
theorem dE5{F:List D→M D}(hF:∃k kk,b8 F 0 x X.prog X.w X.K X.mg X.base k∧X4 kk X.A∧k≤kk)(hg:Gl X x)(hdb:(x==("__debug__" :Str))=false):
 DE X Z (.Call (.Name x p) [] [] pos) (q12 (fnX 0 F) q11):=by
 obtain⟨k,kk,hF,hr,hk⟩:=hF
 obtain⟨f,fd,ps,h1,h2,h3,h4⟩:=hF.ex
 exact DE.of (dR0 h1 (hr.mono hk) hg h2 h3 h4 .nil dQ7 hdb) fun σ H Q hE0=>hE0.elim fun dσ μ G s h p=>by
  obtain⟨hl,p2⟩:=cJ6 (show d7 (wc X) Z μ H (fnX 0 F [] G) _ from p)
  exact⟨rfl, [],μ,G,rfl,h,p2⟩
end
section
variable{X:Cx}{Z:XC}{pos:Pos}
end
end DL
namespace W
open PySem PySem.Spec L2 DL
open PyProof.Rows hiding St
end W
namespace DL
open PySem PySem.Spec L2
open PyProof.Rows hiding St
def bB6:D→M Unit:=fun x=>match x with
 | .ref r=>do
   match ←Q7 r with
   | .dct _=>pure ()
   |_=>M.stuck
 |_=>M.stuck
def getD:D→List D→M D:=fun x ds=>match x,ds with
 | .ref r, [.str z,d]=>do
   match ←Q7 r with
   | .dct l=>pure ((W4 l (.inr z)).getD d)
   |_=>M.stuck
 |_,_=>M.stuck
section
variable{X:Cx}{Z:XC}{o e:Expr}{es:List Expr}{fo:Fe}{fs:DSt→M (List D)}{name:Str}{id:String}{mm:D→List D→M D}{apos cpos:Pos}
theorem cP4{α:Type}{c:Wc}{μ:List Addr}{H:Hp}{G:DH}{d:D}{v:V}{f:Unit→M α}{K:α→List Addr→DH→Hp→Prop}(h:t8 c μ G H)(r:g8 c μ H d v)(p:d7 c Z μ H ((bB6 d >>= f) G) K):tyV c.K "dict" v H∧d7 c Z μ H (f () G) K:=by
 rcases d with _|_|_|_|_|i|_|_<;>try (exact p.elim;done)
 ·
   unfold g8 at r
   obtain⟨a,m,rfl⟩:=r
   have p':d7 c Z μ H ((Q7 i >>= fun o=>(match o with| .dct _=>pure ()|_=>M.stuck:M Unit) >>= f) G) K:=by rw[←M.bind_assoc];exact p
   obtain⟨o,g,p2⟩:=Q6 p'
   have ro:=h.obj i o a g m
   rcases o with _|_|l|_<;>try (exact p2.elim;done)
   ·obtain⟨vs,e,rl⟩:=ro;exact⟨.inr (.inr (.inl ⟨rfl,.inl ⟨vs,e⟩⟩)),p2⟩
theorem eO1(slot:Slot "dict" name id)(hty:typeOf (.builtin id)=pure (.type "method_descriptor"))(hm:MtD X Z id mm)(ho:DE X Z o fo)(ha:DA X Z (e::es) fs)
 (hbase:attributeBase o name X.env (eval o X.env)=eval o X.env)
 (hfew:((backTo cpos (starEach (e::es) X.env)).all (fun x=> !x.1)&&(backToKw cpos (keywordEach [] X.env)).all (fun x=>x.1.isSome)
   && decide ((e::es).length+([]:List Keyword).length+(if ([]:List Keyword).isEmpty then 0 else 1)<30))=true)
 (hline:(apos.endLine==cpos.line)=true) (hs:starEach (e::es) X.env= (false,eval e X.env)::starEach es X.env) (hplain:(backTo cpos (starEach es X.env)).any (·.1)=false):
 DE X Z (.Call (.Attribute o name apos) (e::es) [] cpos) (mtE bB6 mm fo fs):=
 DE.of (eL6 PySem.F.plainAttrs_dict slot hty hm ho.h ha.h hbase hfew hline hs hplain) fun σ H Q hE0=>hE0.elim fun dσ μ G s h p=>⟨dσ,μ,G,s,h,(d7.bind p).mono fun d μ1 G1 H1 x1 h1 p1 v rv=>by
  obtain⟨ty,p2⟩:=cP4 h1 rv p1
  exact⟨ty,dσ,μ1,G1,s.mono x1,h1,(d7.bind p2).mono fun ds μ2 G2 H2 x2 h2 p3 vs rvs=>⟨d,ds,μ2,G2,rv.mono x2,rvs,h2,p3⟩⟩⟩
theorem eW8(hu:X.A.units+64<cLine):MtD X Z "dict.get" getD:=by
 intro pins s σ H x xs v us Q I rx rvs hE0
 obtain⟨d,ds,μ,G,rd,rl,hr,p⟩:=hE0
 delta getD at p
 rcases d with _|_|_|_|_|r|_|_<;>try exact p.elim
 rcases ds with _|⟨_|_|_|z|_|_|_|_,_|⟨y,_|⟨_,_⟩⟩⟩<;>dsimp only at p<;>try exact p.elim
 · unfold g8 at rd
   obtain⟨a,m,rfl⟩:=rd
   obtain⟨zv,t1,rfl,rz,yv,t2,rfl,ry,e⟩:=rl
   cases e
   obtain⟨u1,us1,rfl,ru1,rv1⟩:∃u1 us1,us=u1::us1∧J2 zv u1∧w6 [yv] us1:=by
    cases rvs with|cons h t=>exact⟨_,_,rfl,h,t⟩
   obtain⟨u2,rfl,ru2⟩:=aG5 rv1
   obtain⟨o,g,p1⟩:=Q6 p
   have ro:=hr.obj r o a g m
   rcases o with _|_|l|_<;>try (exact p1.elim;done)
   ·
     obtain⟨kvs,q,rk⟩:=ro
     cases rx
     have ez:=bA7 rz
     subst ez
     have dg:cJ9 H a (V.str z) (aX4 kvs (.inr z)):=.inl ⟨kvs,.inr z,.inl q,rfl,rfl⟩
     refine eQ3 (by lia) I dg ru1 ru2 fun w' s' I' rw'=>⟨_,H,I',rw',?_⟩
     have lk:=bH3 (k:=.inr z) rk
     rcases el:W4 l (.inr z)with _|w
     ·
       rw[el]at lk
       dsimp only at lk p1
       rw[el]at p1
       rw[lk]
       exact d7.ok p1 hr _ ry
     ·
       rw[el]at lk
       obtain⟨v',e1,r1⟩:=lk
       dsimp only at p1
       rw[el]at p1
       rw[e1]
       exact d7.ok p1 hr _ r1
end
section
variable{X:Cx}{Z:XC}{a b e:Expr}{fa fb:Fe}{pos:Pos}
end
def aS0(G:DH)(x:D):List D→Option Bool
 |[]=>some false
 |d::t=>match eqN 40 G d x,aS0 G x t with
   |some a,some b=>some (a||b)
   |_,_=>none
theorem eE6{G:DH}{x d:D}{t:List D}:aS0 G x (d::t)=match eqN 40 G d x,aS0 G x t with
 |some a,some b=>some (a||b)
 |_,_=>none:=rfl
def cJ1(x y:D)(G:DH):Option Bool:=match y with
 | .tup l=>aS0 G x l
 | .ref r=>match G[r]? with
   |some (.lst l)=>aS0 G x l
   |some (.rol l)=>aS0 G x l
   |_=>none
 |_=>none
def inX:D→D→M D:=fun x y G=>match cJ1 x y G with
 |some b=>some (.ok (.bl b),G)
 |none=>none
section
variable{X:Cx}{Z:XC}{μ:List Addr}{H:Hp}{G:DH}
theorem dC5{pins:PNS}{σ:St}{s:Shared}{x:V}{v:Value}{dx:D}(hu:X.A.units+64<cLine)(I:Inv X pins σ H s)(hr:t8 (wc X) μ G H)(rdx:g8 (wc X) μ H dx x)(rx:J2 x v):
 ∀ {l:List D} {vs:List V} {us:List Value} {b:Bool},o5 (wc X) μ H l vs→w6 vs us→aS0 G dx l=some b→
  (∀u∈us,∃c,SeqAt.EqAt X.A.in1 s u v c)∧(b=true→∃u∈us,SeqAt.EqAt X.A.in1 s u v true)∧(b=false→∀u∈us,SeqAt.EqAt X.A.in1 s u v false):=by
 intro l
 induction l with
 |nil=>
   intro vs us b rl rv e
   cases rl
   cases rv
   cases e
   exact⟨fun u hu=>(by cases hu),fun z=>absurd z Bool.false_ne_true,fun _ u hu=>(by cases hu)⟩
 |cons d t ih=>
   intro vs us b rl rv e
   obtain⟨w,tv,rfl,q,rt⟩:=rl
   cases rv with
   |cons r1 rs=>
   rename_i u us1
   rw[eE6]at e
   rcases e1:eqN 40 G d dx with _|a
   ·rw[e1]at e;cases e
   ·
     rcases e2:aS0 G dx t with _|b2
     ·rw[e1,e2]at e;cases e
     ·
       rw[e1,e2]at e
       cases e
       have h1:=(cJ3 I hr 40 X.A.in1 (by show X.A.units+1+40<cLine;lia) q rdx r1 rx e1).2.2
       obtain⟨k1,k2,k3⟩:=ih rt rs e2
       refine⟨fun u' hu'=>?_,fun z=>?_,fun z u' hu'=>?_⟩
       · rcases List.mem_cons.mp hu' with rfl|hu'
         ·exact⟨a,h1⟩
         ·exact k1 u' hu'
       · rcases a with _|_
         ·
           obtain⟨u',h3,h4⟩:=k2 z
           exact⟨u',List.mem_cons_of_mem _ h3,h4⟩
         ·exact⟨u,List.mem_cons_self,h1⟩
       · rcases a with _|_
         ·
           rcases List.mem_cons.mp hu' with rfl|hu'
           ·exact h1
           ·exact k3 z u' hu'
         ·cases z
open Classical in
theorem cP2{pins:PNS}{σ:St}{s:Shared}{x:V}{v:Value}{dx:D}(hu:X.A.units+64<cLine)(I:Inv X pins σ H s)(hr:t8 (wc X) μ G H)(rdx:g8 (wc X) μ H dx x)(rx:J2 x v)
 {l:List D} {vs:List V} {us:List Value} {b:Bool} (rl:o5 (wc X) μ H l vs) (rv:w6 vs us) (e:aS0 G dx l=some b):
  ∃f:Value→Bool,(∀u∈us,SeqAt.EqAt X.A.in1 s u v (f u))∧us.any f=b:=by
 obtain⟨k1,k2,k3⟩:=dC5 hu I hr rdx rx rl rv e
 rcases b with _|_
 ·exact⟨fun _=>false,fun u hu=>k3 rfl u hu,by simp⟩
 ·
   refine⟨fun u=>decide (SeqAt.EqAt X.A.in1 s u v true),fun u hu=>?_,?_⟩
   · dsimp only
     by_cases c:SeqAt.EqAt X.A.in1 s u v true
     ·rw[decide_eq_true c];exact c
     · rw[decide_eq_false c]
       obtain⟨c',hc⟩:=k1 u hu
       rcases c' with _|_
       ·exact hc
       ·exact absurd hc c
   · obtain⟨u,hu,h⟩:=k2 rfl
     exact List.any_eq_true.mpr ⟨u,hu,decide_eq_true h⟩
theorem eX0(hu:X.A.units+64<cLine){pins:PNS}{σ:St}{s:Shared}{x y:V}{v u:Value}{dx dy:D}{b:Bool}{Q:VK}(I:Inv X pins σ H s)(hr:t8 (wc X) μ G H)(rdx:g8 (wc X) μ H dx x)(rdy:g8 (wc X) μ H dy y)(rx:J2 x v)(ry:J2 y u)
 (e:cJ1 dx dy G=some b):
 (Q (.bl b) H→wpAny (model X.prog X.w) X.A (compareOp .In v u) (EP X pins σ Q) X.xe s)∧(Q (.bl (!b)) H→wpAny (model X.prog X.w) X.A (compareOp .NotIn v u) (EP X pins σ Q) X.xe s):=by
 have seq:∀(p:Addr) (l:List D) (vs:List V),y= .ref p→(SqL X.K H p vs∨SqT X.K H p vs)→o5 (wc X) μ H l vs→aS0 G dx l=some b→
  (Q (.bl b) H→wpAny (model X.prog X.w) X.A (compareOp .In v u) (EP X pins σ Q) X.xe s)∧(Q (.bl (!b)) H→wpAny (model X.prog X.w) X.A (compareOp .NotIn v u) (EP X pins σ Q) X.xe s):=by
  intro p l vs hy hq rl e
  subst hy
  cases ry
  rcases hq with hq|hq
  · obtain⟨its,r,pl,hz⟩:=I.list hq
    obtain⟨f,h1,h2⟩:=cP2 hu I hr rdx rx rl r e
    have h3:its.toArray.any f=b:=by rw[←h2];simp
    exact⟨fun q=>SeqAt.in_listAt f pl.isList (fun w hw=>h1 w (by simpa using hw)) ⟨.bl _,H,I,rfl,by rw[h3];exact q⟩,fun q=>SeqAt.notIn_listAt f pl.isList (fun w hw=>h1 w (by simpa using hw)) ⟨.bl _,H,I,rfl,by rw[h3];exact q⟩⟩
  · obtain⟨its,r,pl,hz⟩:=I.tuple hq
    obtain⟨f,h1,h2⟩:=cP2 hu I hr rdx rx rl r e
    have h3:its.toArray.any f=b:=by rw[←h2];simp
    exact⟨fun q=>SeqAt.in_tupleAt f pl (fun w hw=>h1 w (by simpa using hw)) ⟨.bl _,H,I,rfl,by rw[h3];exact q⟩,fun q=>SeqAt.notIn_tupleAt f pl (fun w hw=>h1 w (by simpa using hw)) ⟨.bl _,H,I,rfl,by rw[h3];exact q⟩⟩
 rcases dy with _|_|_|_|l|i|_|_<;>try (cases e;done)
 ·
   unfold g8 at rdy
   obtain⟨a,vs,hy,q,rl⟩:=rdy
   exact seq a l vs hy (.inr q) rl e
 ·
   unfold g8 at rdy
   obtain⟨a,m,hy⟩:=rdy
   rcases g:G[i]? with _|o
   ·unfold cJ1 at e;simp only[g]at e;cases e
   ·
     have ro:=hr.obj i o a g m
     rcases o with l|l|_|_<;>try (unfold cJ1 at e;simp only[g]at e;cases e;done)
     ·
       obtain⟨vs,q,rl⟩:=ro
       unfold cJ1 at e;simp only[g]at e
       exact seq a l vs hy (.inl (SqL.of q)) rl e
     ·
       obtain⟨vs,q,rl⟩:=ro
       unfold cJ1 at e;simp only[g]at e
       exact seq a l vs hy (.inl q.sq) rl e
theorem eV4(hu:X.A.units+64<cLine):OpD X Z (compareOp .In) inX:=⟨by
 intro pins s σ H x y v u Q I rx ry hE0
 refine hE0.elim fun dx dy μ G rdx rdy hr p=>?_
 unfold inX at p
 rcases e:cJ1 dx dy G with _|b
 ·rw[e]at p;exact p.elim
 ·rw[e]at p;exact(eX0 hu I hr rdx rdy rx ry e).1 (d7.ok p hr _ ofB)⟩
end
section
variable{X:Cx}{Z:XC}
end
end DL
namespace W
open PySem PySem.Spec L2 DL
open PyProof.Rows hiding St
theorem eI8{r:Nat}{z:Str}{d:D}{l:List (Key×D)}{G:DH}{Q:DPP}(h:G[r]? =some (.dct l)):Wp (getD (.ref r) [.str z,d]) G Q↔Q ((W4 l (.inr z)).getD d) G:=by
 have e:getD (.ref r) [.str z,d]= (Q7 r >>= fun o=>match o with| .dct l=>pure ((W4 l (.inr z)).getD d)|_=>M.stuck:M D):=rfl
 rw[e]
 simp only[j8,R0,h,S7,j7]
theorem dG5{r:Nat}{l:List (Key×D)}{G:DH}{Q:Unit→DH→Prop}(h:G[r]? =some (.dct l)):Wp (bB6 (.ref r)) G Q↔Q () G:=by
 have e:bB6 (.ref r)= (Q7 r >>= fun o=>match o with| .dct l=>pure ()|_=>M.stuck:M Unit):=rfl
 rw[e]
 simp only[j8,R0,h,S7,j7]
end W
namespace DL
open PySem PySem.Spec L2
open PyProof.Rows hiding St
section
variable{prog:Program}{w:World}{A:Around}{E:VSP}{s:Shared}{j t:Addr}{k:Nat}{ys:Array Value}
theorem cV2{x:Value}{Q:VSP}(a:s.heap.IsTupleIter j t k)(b:s.heap.IsTuple t ys)(c:ys[k]? =some x)(q:∀g,g.IsTupleIter j t (k+1)→Heap.SameBut j s.heap g→Q x {s with heap:=g}):wpAny (model prog w) A (Builtin.SmallTypes.nextOf (.ref j)) Q E s:=by
 obtain⟨o,h1,h2,h3⟩:=id a;obtain⟨o2,h4,_,m,h5⟩:=b;unfold Builtin.SmallTypes.nextOf
 refine wpAny_bind (wpAny_callSpecial?_slot (name:=Str.ofString "__next__") a.typeIs F.slot_tuple_iterator_next (wpAny_call_entry F.slot_tuple_iterator_next a.typeIs F.entry_tuple_iterator_next ?_ (F.args_tuple_iterator_next_1 _)))
 show wpAny _ _ (field (.ref j) 0 >>= _) _ _ s;refine wpAny_bind (wpAny_field h1 h3 (x:=.ref t) rfl ?_);show wpAny _ _ (if (Value.ref t==Value.none)=true then _ else _) _ _ s;refine wpAny_ite_false (by rfl) ?_
 show wpAny _ _ (field (.ref j) 1 >>= _) _ _ s;refine wpAny_bind (wpAny_field h1 h3 (x:=.int k 0) rfl ?_);show wpAny _ _ (seqItems? (.ref t) >>= _) _ _ s;refine wpAny_bind (wpAny_seqItems h4 h5 ?_);simp only[Int.toNat_natCast,c]
 refine wpAny_bind (wpAny_setField h1 h3 (by simp) (wpAny_pure ⟨x,rfl,wpAny_pure (q _ ⟨_,Heap.get?_update_self _ h1 (Obj.isFreed_of_fields (Obj.data_mapFields h3 _)),(Obj.cls_mapFields ..).trans h2,by rw[Obj.data_mapFields h3];simp[rawInt]⟩ (Heap.SameBut.update ..))⟩))
theorem cA5{Q:VSP}(hh:A.handled=none)(a:s.heap.IsTupleIter j t k)(b:s.heap.IsTuple t ys)(c:ys[k]? =none)(q:∀g e,Heap.ExtBut j s.heap g→(∃o,g.get? e=some o∧o.cls= .type "StopIteration")→E (.ref e) {s with heap:=g}):wpAny (model prog w) A (Builtin.SmallTypes.nextOf (.ref j)) Q E s:=by
 obtain⟨o,h1,h2,h3⟩:=id a;obtain⟨o2,h4,_,m,h5⟩:=b;unfold Builtin.SmallTypes.nextOf
 refine wpAny_bind (wpAny_callSpecial?_slot (name:=Str.ofString "__next__") a.typeIs F.slot_tuple_iterator_next (wpAny_call_entry F.slot_tuple_iterator_next a.typeIs F.entry_tuple_iterator_next ?_ (F.args_tuple_iterator_next_1 _)))
 show wpAny _ _ (field (.ref j) 0 >>= _) _ _ s;refine wpAny_bind (wpAny_field h1 h3 (x:=.ref t) rfl ?_);show wpAny _ _ (if (Value.ref t==Value.none)=true then _ else _) _ _ s;refine wpAny_ite_false (by rfl) ?_
 show wpAny _ _ (field (.ref j) 1 >>= _) _ _ s;refine wpAny_bind (wpAny_field h1 h3 (x:=.int k 0) rfl ?_);show wpAny _ _ (seqItems? (.ref t) >>= _) _ _ s;refine wpAny_bind (wpAny_seqItems h4 h5 ?_);simp only[Int.toNat_natCast,c]
 refine wpAny_bind (wpAny_rule (wpAny_bind (wpAny_setField h1 h3 (by simp) ?_)));show wpAny _ _ (newExc (.type "StopIteration") [] >>= _) _ _ _;refine wpAny_bind ?_;simp only[newExc,newTuple]
 refine wpAny_bind (wpAny_newObj_type ?_ (by size_fits));refine wpAny_bind (m:=firstArgMember _ _) (wpAny_of_eq (a:=Value.none) (by first|rfl|(simp only[firstArgMember];rfl)) ?_);refine wpAny_newObj_type ?_ (by size_fits);delta raiseNew;dsimp only
 refine wpAny_bind (wpAny_handled ?_);(first|rw[show A.in1.handled=none from hh]|rw[hh]);refine wpAny_bind (wpAny_pure (wpAny_throw ?_))
 exact q _ _ (((Heap.SameBut.update ..).extBut.push _).push _) ⟨_,Heap.get?_push_size _ rfl,rfl⟩
end
theorem cO7{prog:Program}{w:World}{A:Around}(hh:A.handled=none)(j t:Addr)(hne:t≠j)(ys:Array Value):
 Draws prog w A j [j,t] ys.size (fun i v=>ys[i]? =some v) (fun i h=>h.IsTupleIter j t i∧h.IsTuple t ys) where
 live:=fun _ _ st=>by obtain⟨o,ho,_⟩:=st.1;exact⟨o,ho⟩
 frame:=fun _ _ _ st hk=>by
  refine⟨st.1.at fun o e=>hk j (by simp) o e,?_⟩
  obtain⟨o,ho,r⟩:=st.2
  exact⟨o,hk t (by simp) o ho,r⟩
 item:=fun i s Q E hi st hQ=>cV2 st.1 st.2 (x:=ys[i]) (by simp[hi]) fun g a b=>hQ _ g s.toks (by simp[hi]) ⟨a,by obtain⟨o,ho,r⟩:=st.2;exact⟨o,b.extBut _ _ hne ho,r⟩⟩ b
 done:=fun s Q E st hE=>cA5 hh st.1 st.2 (by simp) hE
theorem eA3{α:Type}{M:Model}{A:Around}{x:α}{Q:α→Shared→Prop}{E:VSP}{s:Shared}(h:∀b,Q b s):wpAny M A (pure x) Q E s:=wpAny_pure (h x)
theorem dI1(l:Addr)(items:Array Value)(n:Nat)(dct:Option Addr)(sl:Array (Option Value)):
 Meets (Builtin.«enumerate.__new__» ⟨[.type "enumerate",.ref l], []⟩) (fun _ R s=>s.heap.get? l=some {cls:=.type "tuple",dict:=dct,data:=.seq items n,slots:=sl}∧
  R (.ok (.ret (.ref (s.heap.push {cls:=.type "tuple_iterator",data:=.fields #[.ref l,.int 0 0]}).objs.size)))
   {s with heap:=(s.heap.push {cls:=.type "tuple_iterator",data:=.fields #[.ref l,.int 0 0]}).push {cls:=.type "enumerate",data:=.fields #[.none,.bool false,.ref s.heap.objs.size,rawInt 0,.none,.none]}}):=
 .of_wp fun prog w A R s h=>by
  obtain⟨hp,g,d,tk,os⟩:=s;obtain⟨hl,h⟩:=h
  have hsub:=sub_enumerate;have hL:Heap.IsTuple (Shared.heap ⟨hp,g,d,tk,os⟩) l items:=⟨_,hl,rfl,n,rfl⟩
  wp_walk using AutoSeq1.wpAny_loadPart' hl
  refine wpAny_stack_any fun st=>eA3 fun b=>?_
  cases b<;>(wp_walk using AutoSeq1.wpAny_loadPart' hl,wpAny_pyIter_tuple hL;exact⟨_,rfl,h⟩)
theorem cV0{prog:Program}{w:World}{A:Around}{E:VSP}{s:Shared}{l:Addr}{items:Array Value}{Q:VSP}(hL:s.heap.IsTuple l items)
 (h:∀g,IsEnum g (s.heap.objs.size+1) s.heap.objs.size 0 .none→g.IsTupleIter s.heap.objs.size l 0→g.objs.size=s.heap.objs.size+2→(∀b o,s.heap.get? b=some o→g.get? b=some o)→Q (.ref (s.heap.objs.size+1)) {s with heap:=g}):
 wpAny (model prog w) A (call (.type "enumerate") [.ref l]) Q E s:=by
 obtain⟨⟨c,dct,dt,sl⟩,hl,hc,n,hd⟩:=hL
 dsimp only at hc hd
 subst hc hd
 refine callType_new F.called_enumerate (by decide) (F.typeCall_enumerate_1 _) (F.newCall_enumerate_1 _) (fun obj=>F.args_object_init_2 obj _) F.entry_enumerate_new (dI1 l items n dct sl) ⟨hl,?_⟩
 have hz:(s.heap.push {cls:=.type "tuple_iterator",data:=.fields #[.ref l,.int 0 0]}).objs.size=s.heap.objs.size+1:=Heap.size_push ..
 show _∧_
 rw[hz]
 have he:IsEnum ((s.heap.push {cls:=.type "tuple_iterator",data:=.fields #[.ref l,.int 0 0]}).push {cls:=.type "enumerate",data:=.fields #[.none,.bool false,.ref s.heap.objs.size,rawInt 0,.none,.none]}) (s.heap.objs.size+1) s.heap.objs.size 0 .none:=by
  have:=Heap.get?_push_size (s.heap.push {cls:=.type "tuple_iterator",data:=.fields #[.ref l,.int 0 0]}) (o:={cls:=.type "enumerate",data:=.fields #[.none,.bool false,.ref s.heap.objs.size,rawInt 0,.none,.none]}) rfl
  rw[hz]at this;exact this
 exact⟨⟨_,he,rfl⟩,h _ he ⟨_,Heap.get?_push_of_some _ (Heap.get?_push_size _ rfl),rfl,rfl⟩ (by rw[Heap.size_push,hz]) fun b o y=>Heap.get?_push_of_some _ (Heap.get?_push_of_some _ y)⟩
theorem aQ7{prog:Program}{w:World}{A:Around}{E:VSP}{s:Shared}{e j l:Addr}{k:Nat}{ys:Array Value}{old:Value}{Q:Option Value→Shared→Prop}(hh:A.handled=none)(he:IsEnum s.heap e j k old)(a:s.heap.IsTupleIter j l k)(b:s.heap.IsTuple l ys)(c:ys[k]? =none)
 (q:∀g,Heap.ExtBut j s.heap g→Q none {s with heap:=g}):wpAny (model prog w) A (pyNext (.ref e)) Q E s:=by
 have hT:s.TypeIs (.ref e) "enumerate":=⟨_,he,rfl⟩;unfold pyNext
 refine wpAny_bind (wpAny_attempt (wpAny_callSpecial?_slot (name:=Str.ofString "__next__") hT F.slot_enumerate_next (wpAny_call_entry F.slot_enumerate_next hT F.entry_enumerate_next ?_ (F.args_enumerate_next_1 _))))
 show wpAny _ _ (field (.ref e) 2 >>= _) _ _ _;refine wpAny_bind (wpAny_field he rfl (x:=.ref j) rfl ?_)
 refine wpAny_bind (cA5 hh a b c fun g x k1 k2=>?_);obtain⟨o,k3,k4⟩:=k2
 refine wpAny_bind (wpAny_isInstance (T:= "StopIteration") (b:=true) ⟨o,k3,k4⟩ isSubtype_stop ?_);exact wpAny_pure (q _ k1)
def eU4(K:PySem.W.Frag)(a:Addr):It:=
 ⟨fun i H=>∃xs x,SqT K H a xs∧xs[i]? =some x,
  fun i H v H'=>∃q x,H q=none∧v= .ref q∧H'=upd H q (.tup [.int i,x])∧∀xs,SqT K H a xs→xs[i]? =some x,
  fun i H=>∃xs,SqT K H a xs∧xs.length≤i⟩
theorem cR6{P:Program}{w:World}{K:PySem.W.Frag}{es:List Expr}{x1:Nat}{tp:Pos}{l e it:Addr}(hne:e≠it):
 bM0 P w K (.Tuple es x1 tp) (eU4 K l) [e,it] e (fun i h=>(∃old,IsEnum h e it i old)∧h.IsTupleIter it l i) where
 mem:=by simp
 obj:=fun i h st b hb=>by
  obtain⟨⟨old,s1⟩,s2⟩:=st
  simp only[List.mem_cons,List.not_mem_nil,or_false]at hb
  rcases hb with rfl|rfl
  ·exact⟨_,s1,fun v z=>nomatch z⟩
  · obtain⟨o,q,c,d⟩:=s2
    exact⟨o,q,fun v z=>by rw[d]at z;cases z⟩
 keep:=fun i h h' st k=>by
  obtain⟨⟨old,s1⟩,s2⟩:=st
  exact⟨⟨old,k _ (by simp) _ s1⟩,s2.at fun o q=>k _ (by simp) o q⟩
 item:=by
  intro X hP hw hK hc i pins s σ H E I hf st hg
  subst hP hw hK
  obtain⟨xs,x,q1,hx⟩:=hg
  obtain⟨its,r1,c1,z1⟩:=I.tuple q1
  obtain⟨u,e1,ru⟩:=aX1 r1 hx
  obtain⟨⟨old,s1⟩,s2⟩:=st
  have c2:s.heap.IsTuple l its.toArray:=c1
  have hl1:l≠it:=fun z=>by
   subst z
   obtain⟨o,a,b,_⟩:=s2
   obtain⟨o2,a2,b2,_⟩:=c2
   rw[a]at a2
   cases a2
   rw[b]at b2
   exact absurd b2 (by decide)
  have hl2:e∉ [it,l]:=fun z=>by
   simp only[List.mem_cons,List.not_mem_nil,or_false]at z
   rcases z with z|z
   ·exact hne z
   · subst z
     obtain⟨o2,a2,b2,_⟩:=c2
     rw[s1]at a2
     cases a2
     have b3:Value.type "enumerate" =Value.type "tuple":=b2
     exact absurd b3 (by decide)
  have hlt:i<its.toArray.size:=by
   rcases Nat.lt_or_ge i its.toArray.size with z|z
   ·exact z
   ·rw[Array.getElem?_eq_none z]at e1;cases e1
  refine wpAny_pyNext_enum_itemD (cO7 (A:=X.A.in1) (I.ok.hd hc) it l hl1 its.toArray) s1 ⟨s2,c2⟩ hlt hne hl2 fun y g tk b0 b1 b2 b3 b4 b5=>⟨_,rfl,?_⟩
  have hy:y=u:=by rw[e1]at b0;cases b0;rfl
  subst hy
  refine wpAny_letOwnedTupleGo_enum b1 fun g2 c1' sb=>?_
  have elt:e<s.heap.objs.size:=Heap.lt_size s1
  have ilt:it<s.heap.objs.size:=by obtain⟨_,q,_⟩:=s2;exact Heap.lt_size q
  have keep:∀b o,b∉ [e,it]→s.heap.get? b=some o→g2.get? b=some o:=fun b o hb q=>by
   simp only[List.mem_cons,List.not_mem_nil,or_false,not_or]at hb
   exact(sb.2 b hb.1).trans (b5 b o hb.1 hb.2 q)
  have hnew:aB6 g2 s.heap.objs.size [.int (i:Int) tk,y].toArray:=⟨_,(sb.2 _ (Nat.ne_of_gt elt)).trans b3,rfl,_,rfl⟩
  have hq:H s.heap.objs.size=none:=I.hok.fresh (Nat.le_refl _)
  refine⟨.ref s.heap.objs.size,upd H s.heap.objs.size (.tup [.int i,x]),bI2 I hf keep (by show 2≤sizeLine;decide) (.cons ⟨_,rfl⟩ (.cons ru .nil)) hnew,rfl,⟨_,x,hq,rfl,rfl,fun xs' h=>by rw[I.tuple_inj h q1];exact hx⟩,?_,fun b hb=>?_⟩
  ·exact⟨⟨_,c1'⟩,b2.1.at fun o q=>(sb.2 _ (Ne.symm hne)).trans q⟩
  · have hb':b<s.heap.objs.size:=by
     simp only[List.mem_cons,List.not_mem_nil,or_false]at hb
     rcases hb with rfl|rfl
     ·exact elt
     ·exact ilt
    rw[o8 (Nat.ne_of_lt hb')]
    exact(hf b hb).1
 done:=by
  intro X hP hw hK hc i pins s σ H E I hf st hg
  subst hP hw hK
  obtain⟨xs,q1,hend⟩:=hg
  obtain⟨its,r1,c1,z1⟩:=I.tuple q1
  obtain⟨⟨old,s1⟩,s2⟩:=st
  have hl:=r1.length
  have c2:s.heap.IsTuple l its.toArray:=c1
  refine aQ7 (I.ok.hd hc) s1 s2 c2 (by simp;lia) fun g b7=>⟨rfl,aH9 (t':=s.toks) I hf fun b o hb q=>?_⟩
  simp only[List.mem_cons,List.not_mem_nil,or_false,not_or]at hb
  exact b7 b o hb.2 q
 self:=fun _ _ _ _ _ st h=>by obtain⟨⟨old,s1⟩,_⟩:=st;exact wpAny_pyIter_enum s1 h
def eZ6(K:PySem.W.Frag)(ta:TA):TI:=fun σ H R=>ta σ H fun vs H1=>∃a xs,vs= [.ref a]∧SqT K H1 a xs∧R (eU4 K a) H1
section
variable{X:Cx}{Z:XC}
theorem dN9{es:List Expr}{x1:Nat}{tp:Pos}{a:Expr}{ta:TA}{p pos:Pos}(hg:Gl X "enumerate")(hm:X.mg "enumerate" =none)(ha:PA X [a] ta)(hs:starEach [a] X.env= [(false,eval a X.env)])(hbt:bootBuiltins "enumerate" =some (.type "enumerate")):
 PI X (.Tuple es x1 tp) (.Call (.Name "enumerate" p) [a] [] pos) (eZ6 X.K ta):=by
 intro pins s σ H R I h
 refine Call_ (aL9 I hg hm hbt (PyProof.Rows.callWith_type1 (thn (ha pos pins s σ H _ I h) fun us s1 hE1=>hE1.elim fun vs H1 I1 r1 q1=>?_) hs rfl))
 obtain⟨l,xs,rfl,q1,q⟩:=q1
 obtain⟨u1,rfl,ru1⟩:=aG5 r1
 cases ru1
 obtain⟨its,rr,c1,z1⟩:=I1.tuple q1
 refine cV0 (show s1.heap.IsTuple l its.toArray from c1) fun g b1 b2 b3 b4=>wpAny_pyIter_enum b1 ?_
 have hne: @Ne Nat (s1.heap.objs.size+1) s1.heap.objs.size:=by lia
 refine⟨s1.heap.objs.size+1, [s1.heap.objs.size+1,s1.heap.objs.size],_,eU4 X.K l,H1,rfl,I1.kept (t':=s1.toks) b4,cR6 hne,⟨⟨_,b1⟩,b2⟩,fun b hb=>?_,q⟩
 have hb':s1.heap.objs.size≤b:=by
  simp only[List.mem_cons,List.not_mem_nil,or_false]at hb
  rcases hb with rfl|rfl
  ·exact Nat.le_succ _
  ·exact Nat.le_refl _
 exact I1.fpOk hb' (I1.hok.fresh hb')
def bN5(fs:DSt→M (List D)):DSt→M Src:=fun σ=>do
 match ←fs σ with
 |[.tup l]=>pure ⟨l.zipIdx.map fun p=>.tup [.int ((p.2:Nat):Int),p.1],fun _=>true⟩
 |_=>M.stuck
theorem fF8{es:List Expr}{x1:Nat}{tp:Pos}{a:Expr}{fs:DSt→M (List D)}{p pos:Pos}(hb:BLs X.mg)(hg:Gl X "enumerate")(ha:DA X Z [a] fs)(hs:U6 a=true):
 DI X Z (.Tuple es x1 tp) (.Call (.Name "enumerate" p) [a] [] pos) (bN5 fs):=
 DI.of (dN9 hg (hb.h _ (by decide +kernel)) ha.h (aF4 hs) bE4) fun σ H R hE0=>hE0.elim fun dσ μ G s h p=>⟨dσ,μ,G,s,h,(d7.bind p).mono fun ds μ1 G1 H1 x1 h1 p1 vs rv=>by
  rcases ds with _|⟨_|_|_|_|l|_|_|_,_|⟨_,_⟩⟩<;>dsimp only at p1<;>try exact p1.elim
  · obtain⟨v1,t1,rfl,r1,e⟩:=rv
    cases e
    unfold g8 at r1
    obtain⟨a1,w1,rfl,q1,rl⟩:=r1
    refine⟨a1,w1,rfl,q1,d7.ok p1 h1 _ fun μ' G' H' x' h' ck' i=>?_⟩
    have q1':=x'.sqT q1
    have l1':=rl.mono x'
    refine⟨fun d hd=>?_,fun hi=>?_⟩
    · rw[List.getElem?_map,List.getElem?_zipIdx]at hd
      rcases hz:l[i]? with _|e1
      ·rw[hz]at hd;cases hd
      ·
        rw[hz]at hd
        have hd':d= .tup [.int ((i:Nat):Int),e1]:=by simpa using hd.symm
        subst hd'
        obtain⟨y1,hy1,ry1⟩:=l1'.get hz
        refine⟨⟨w1,y1,q1',hy1⟩,fun x H2 ⟨q,z1,hq,ex,eH,f1⟩=>?_⟩
        subst ex eH
        have g1:=f1 w1 q1'
        rw[hy1]at g1
        cases g1
        exact cH6 h' hq ⟨_,_,rfl,ofI,y1,_,rfl,ry1,rfl⟩
    · refine⟨w1,q1',?_⟩
      rw[←l1'.length]
      simpa using hi⟩
end
end DL
namespace W
open PySem PySem.Spec L2 DL
open PyProof.Rows hiding St
theorem dD1{G:DH}{σ:DSt}{fs:DSt→M (List D)}{R:Src→DH→Prop}{l:List D}(h:Wp (fs σ) G fun xs G1=>xs= [.tup l]∧R ⟨l.zipIdx.map fun p=>.tup [.int ((p.2:Nat):Int),p.1],fun _=>true⟩ G1):Wp (bN5 fs σ) G R:=by
 delta bN5
 refine j8.mpr (Wp.mono h fun xs G1 ⟨e,q⟩=>?_)
 subst e
 exact j7.mpr q
end W
namespace DL
open PySem PySem.Spec L2
open PyProof.Rows hiding St
theorem d8{α:Type}{m:M α}{a:α}{G G':DH}{Q:α→DH→Prop}(e:m G=some (.ok a,G'))(q:Q a G'):Wp m G Q:=⟨a,G',e,q⟩
noncomputable def PB(Q:DPP):Fl→DH→Prop
 | .nx _,G=>Q .non G
 | .rt d,G=>Q d G
 |_,_=>False
section
variable{m:Nat}{f S g:Fs}{ds as:List D}{d:D}{G G':DH}{Q:DPP}{P A:Fl→DH→Prop}{σ σ':DSt}{F:List D→M D}{e:Fe}
theorem J3(w:Wp (f (ds.map some++List.replicate (m-ds.length) none)) G (PB Q)):Wp (J1 m f ds) G Q:=
 bD0.mpr (w.mono fun fl G1 h=>match fl,h with
  | .nx _,h=>h
  | .rt _,h=>h
  | .bk _,h=>h.elim
  | .ct _,h=>h.elim)
theorem K5(q:Q d G):PB Q (.rt d) G:=q
theorem aF0(e:f (ds.map some++List.replicate (m-ds.length) none) G=some (.ok (.rt d),G'))(q:Q d G'):Wp (J1 m f ds) G Q:=J3 (d8 e q)
theorem o7(e:S σ G=some (.ok (.nx σ'),G'))(w:Wp (g σ') G' P):Wp (m8 S g σ) G P:=m9.mpr (d8 e w)
theorem dU0(e:S σ G=some (.ok (.rt d),G'))(q:P (.rt d) G'):Wp (m8 S g σ) G P:=m9.mpr (d8 e q)
end
section
variable{α:Type}{m n:Nat}{f g:Fs}{a b c:Fe}{t:DSt→M Bool}{fs:DSt→M (List D)}{as:List D}{d x y z:D}{k:Bool}{G G1 G2:DH}{Q:DPP}{P:Fl→DH→Prop}{R:List D→DH→Prop}{B:Bool→DH→Prop}{σ:DSt}{F:List D→M D}{o:D→D→M D}
theorem cS8(e:t σ G=some (.ok true,G1))(w:Wp (f σ) G1 P):Wp (ifS t f g σ) G P:=dM3.mpr (d8 e w)
theorem eS9(e:t σ G=some (.ok false,G1))(w:Wp (g σ) G1 P):Wp (ifS t f g σ) G P:=dM3.mpr (d8 e w)
theorem aL8(w:Wp (t σ) G fun k G1=>(k=true→Wp (f σ) G1 P)∧(k=false→Wp (g σ) G1 P)):Wp (ifS t f g σ) G P:=
 dM3.mpr (w.mono fun k G1 h=>by cases k with|true=>exact h.1 rfl|false=>exact h.2 rfl)
theorem cA3{u:DSt→M Bool}(w:Wp (t σ) G fun k G1=>(k=true→Wp (u σ) G1 B)∧(k=false→B false G1)):Wp (aN6 t u σ) G B:=
 eD9.mpr (w.mono fun k G1 h=>by cases k with|true=>exact h.1 rfl|false=>exact h.2 rfl)
theorem dV2{u:DSt→M Bool}(w:Wp (t σ) G fun k G1=>(k=true→B true G1)∧(k=false→Wp (u σ) G1 B)):Wp (orT t u σ) G B:=
 eX2.mpr (w.mono fun k G1 h=>by cases k with|true=>exact h.1 rfl|false=>exact h.2 rfl)
theorem bF0{i:Nat}{S:DSt→Prop}{R:DPP}(hS:S (σ.set i (some d)))(w:Wp (a (σ.set i (some d))) G R):Wp (q13 i d σ) G fun σ1 G1=>G1=G∧S σ1∧Wp (M4 σ1) G fun b G2=>b=true∧G2=G∧Wp (a σ1) G R:=
 S5.mpr ⟨rfl,hS,W.wp_trueT.mpr ⟨rfl,rfl,w⟩⟩
theorem X8{g:Fg}{caps:List (Option Nat)}{l:List D}(e:b σ G=some (.ok (.tup l),G1))(h:l.length≤10000)(w:Wp (M9 g t a (fun _=>true) l (aB3 caps σ)) G1 fun ys G2=>Q (.ref G2.length) (G2++[.lst ys])):Wp (K8 (itW b) caps g t a σ) G Q:=
 W.wp_comp.mpr (W.wp_itW.mpr (d8 e (W.srcW_tup.mpr ⟨Nat.le_trans h (show 10000≤sizeLine by decide),w⟩)))
theorem cS9{A:Fl→DH→Prop}(w:Wp (t σ) G fun k G1=>(k=true→Wp (f σ) G1 A)∧(k=false→Wp (g σ) G1 A))(k:∀fl G1,A fl G1→P fl G1):Wp (ifS t f g σ) G P:=(aL8 w).mono k
theorem fC8(e:t σ G=some (.ok true,G1))(w:Wp (a σ) G1 Q):Wp (ifE t a b σ) G Q:=bH7.mpr (d8 e w)
theorem eK5(e:t σ G=some (.ok false,G1))(w:Wp (b σ) G1 Q):Wp (ifE t a b σ) G Q:=bH7.mpr (d8 e w)
theorem Q5{i:Nat}(w:Wp (a σ) G fun d G1=>P (.nx (σ.set i (some d))) G1):Wp (K3 a (q13 i) σ) G P:=cU5.mpr (w.mono fun _ _ h=>S5.mpr h)
theorem K9(w:Wp (a σ) G fun d G1=>P (.rt d) G1):Wp (o6 a σ) G P:=bR0.mpr w
theorem m7(e:fs σ G=some (.ok as,G1))(h:as.length=n)(w:Wp (F as) G1 Q):Wp (q12 (fnX n F) fs σ) G Q:=aR0.mpr (d8 e (aF8.mpr ⟨h,w⟩))
theorem bL1(e:fs σ G=some (.ok as,G1))(w:Wp (F as) G1 Q):Wp (q12 F fs σ) G Q:=aR0.mpr (d8 e w)
theorem R9(w:Wp (fs σ) G fun as G1=>Wp (F as) G1 Q):Wp (q12 F fs σ) G Q:=aR0.mpr w
theorem aD9(ea:a σ G=some (.ok x,G1))(eb:b σ G1=some (.ok y,G2))(w:Wp (o x y) G2 Q):Wp (d9 o a b σ) G Q:=bT2.mpr (d8 ea (d8 eb w))
theorem K6(w:Wp (a σ) G fun x G1=>Wp (b σ) G1 fun y G2=>Wp (o x y) G2 Q):Wp (d9 o a b σ) G Q:=bT2.mpr w
theorem aD2(e:a σ G=some (.ok x,G1))(w:Wp (fs σ) G1 fun xs G2=>R (x::xs) G2):Wp (q10 a fs σ) G R:=aK6.mpr (d8 e w)
theorem u0(w:Wp (a σ) G fun x G1=>Wp (fs σ) G1 fun xs G2=>R (x::xs) G2):Wp (q10 a fs σ) G R:=aK6.mpr w
theorem S8(w:Wp (a σ) G fun x G1=>∃k,x= .bl k∧B k G1):Wp (J8 a σ) G B:=dB0.mpr w
end
def FH(K:PySem.W.Frag)(x:Str)(st:Stmt):Prop:=∃(f:Addr) (od an:Option Addr) (sl:Array (Option Value)) (oc kV dc pm cd ct:Value),PySem.W.nsIn K mainGlobals x=some (some (.ref f))∧
 K.lookup f=some ⟨oc,od,.func (PySem.W.fnOf x x (aA4 st) (W3 st) (j6 st) .none kV dc pm an cd ct),sl⟩∧PySem.W.codeIn K cd x=true∧PySem.W.keepIn K (.ref f)=true
section
variable{K:PySem.W.Frag}{h:Heap}{mg:Str→Option Value}{x:Str}{st:Stmt}
theorem FH.of{f:Addr}{od an:Option Addr}{sl:Array (Option Value)}{oc kV dc pm cd ct:Value}(a:PySem.W.nsIn K mainGlobals x=some (some (.ref f)))
 (l:K.lookup f=some ⟨oc,od,.func (PySem.W.fnOf x x (aA4 st) (W3 st) (j6 st) .none kV dc pm an cd ct),sl⟩) (e:PySem.W.codeIn K cd x=true) (k:PySem.W.keepIn K (.ref f)=true):FH K x st:=
 ⟨f,od,an,sl,oc,kV,dc,pm,cd,ct,a,l,e,k⟩
variable{ps:List Str}{p1 p2 p3 p4 p5 p6:Str}
theorem FH.ff(H:FH K x st)(X:K.In h)(G:h.Ns mainGlobals mg)(b:∀(kV doc pm:Value) (an:Option Addr) (cdv ct:Value) (us:List Value),us.length=ps.length→bindArgs (PySem.W.fnOf x x (aA4 st) (W3 st) (j6 st) .none kV doc pm an cdv ct) ⟨us, []⟩=pure (ps.zip us)):∃f fd,FF K mg x st ps f fd:=by
 obtain⟨f,od,an,sl,oc,kV,dc,pm,cd,ct,a,l,e,k⟩:=H
 exact⟨_,_,cG1 l e k,(cG1 l e k).binds b,PySem.W.mg_of X G a⟩
theorem aV9{α:Type}{us:List α}{n:Nat}(h:us.length=n+1):∃a t,us=a::t∧t.length=n:=by
 rcases us with _|⟨a,t⟩
 ·cases h
 ·exact⟨a,t,rfl,Nat.succ.inj h⟩
theorem FH.ff0(H:FH K x st)(X:K.In h)(G:h.Ns mainGlobals mg)(b:∀kV doc pm an cdv ct,bindArgs (PySem.W.fnOf x x (aA4 st) (W3 st) (j6 st) .none kV doc pm an cdv ct) ⟨[], []⟩=pure []):∃f fd,FF K mg x st [] f fd:=
 H.ff X G fun kV doc pm an cdv ct us hl=>by cases List.eq_nil_of_length_eq_zero hl;exact b _ _ _ _ _ _
theorem FH.ff1(H:FH K x st)(X:K.In h)(G:h.Ns mainGlobals mg)(b:∀kV doc pm an cdv ct v1,bindArgs (PySem.W.fnOf x x (aA4 st) (W3 st) (j6 st) .none kV doc pm an cdv ct) ⟨[v1], []⟩=pure [(p1,v1)]):∃f fd,FF K mg x st [p1] f fd:=
 H.ff X G fun kV doc pm an cdv ct us h0=>by
  obtain⟨v1,w1,rfl,h1⟩:=aV9 h0
  cases List.eq_nil_of_length_eq_zero h1
  exact b _ _ _ _ _ _ _
theorem FH.ff2(H:FH K x st)(X:K.In h)(G:h.Ns mainGlobals mg)(b:∀kV doc pm an cdv ct v1 v2,bindArgs (PySem.W.fnOf x x (aA4 st) (W3 st) (j6 st) .none kV doc pm an cdv ct) ⟨[v1,v2], []⟩=pure [(p1,v1),(p2,v2)]):∃f fd,FF K mg x st [p1,p2] f fd:=
 H.ff X G fun kV doc pm an cdv ct us h0=>by
  obtain⟨v1,w1,rfl,h1⟩:=aV9 h0
  obtain⟨v2,w2,rfl,h2⟩:=aV9 h1
  cases List.eq_nil_of_length_eq_zero h2
  exact b _ _ _ _ _ _ _ _
theorem FH.ff3(H:FH K x st)(X:K.In h)(G:h.Ns mainGlobals mg)(b:∀kV doc pm an cdv ct v1 v2 v3,bindArgs (PySem.W.fnOf x x (aA4 st) (W3 st) (j6 st) .none kV doc pm an cdv ct) ⟨[v1,v2,v3], []⟩=pure [(p1,v1),(p2,v2),(p3,v3)]):∃f fd,FF K mg x st [p1,p2,p3] f fd:=
 H.ff X G fun kV doc pm an cdv ct us h0=>by
  obtain⟨v1,w1,rfl,h1⟩:=aV9 h0
  obtain⟨v2,w2,rfl,h2⟩:=aV9 h1
  obtain⟨v3,w3,rfl,h3⟩:=aV9 h2
  cases List.eq_nil_of_length_eq_zero h3
  exact b _ _ _ _ _ _ _ _ _
theorem FH.ff5(H:FH K x st)(X:K.In h)(G:h.Ns mainGlobals mg)(b:∀kV doc pm an cdv ct v1 v2 v3 v4 v5,bindArgs (PySem.W.fnOf x x (aA4 st) (W3 st) (j6 st) .none kV doc pm an cdv ct) ⟨[v1,v2,v3,v4,v5], []⟩=pure [(p1,v1),(p2,v2),(p3,v3),(p4,v4),(p5,v5)]):∃f fd,FF K mg x st [p1,p2,p3,p4,p5] f fd:=
 H.ff X G fun kV doc pm an cdv ct us h0=>by
  obtain⟨v1,w1,rfl,h1⟩:=aV9 h0
  obtain⟨v2,w2,rfl,h2⟩:=aV9 h1
  obtain⟨v3,w3,rfl,h3⟩:=aV9 h2
  obtain⟨v4,w4,rfl,h4⟩:=aV9 h3
  obtain⟨v5,w5,rfl,h5⟩:=aV9 h4
  cases List.eq_nil_of_length_eq_zero h5
  exact b _ _ _ _ _ _ _ _ _ _ _
theorem BLs.of(X:K.In h)(G:h.Ns mainGlobals mg)(z:∀b∈bltL,PySem.W.nsIn K mainGlobals b=some none):BLs mg:=⟨fun b hb=>PySem.W.mg_none_of X G (z b hb)⟩
end
theorem dI7:typeLookup (.type "zip") "__len__" =pure none:=by rw[typeLookup_type,builtinLookup_eq_fast];kernel_rfl
theorem cU2:typeLookup (.type "zip") "__length_hint__" =pure none:=by rw[typeLookup_type,builtinLookup_eq_fast];kernel_rfl
noncomputable abbrev aI3(h:Heap)(z TI TO:Addr)(f0:Value)(b:Bool):Prop:=
 h.get? z=some {cls:=.type "zip",dict:=none,data:=.fields #[f0,.bool b,.bool false,.ref TI,.ref TO],slots:= #[]}
section
variable{prog:Program}{w:World}{A:Around}{E:VSP}{s:Shared}{k1 k2:Bool}{i:Nat}{z TI TO i1 i2 l1 l2 T:Addr}{xs ys:Array Value}{b:Bool}
theorem cJ8{a:Addr}{Q:Option Obj→Shared→Prop}(h:Q (s.heap.get? a) s):wpAny (model prog w) A (loadIfAlive a) Q E s:=by
 intro Γ p _
 show Sem.wp _ _ (Sem.loadIfAlive a .pure) _ _ _ _
 rw[Sem.wp_loadIfAlive]
 exact h
theorem cL9{Q:Bool→Shared→Prop}(hz:aI3 s.heap z TI TO (rawInt T) b)(hT:∃o,s.heap.get? T=some o)
 (hQ:∀h',aI3 h' z TI TO (rawInt T) true→Heap.SameBut z s.heap h'→Q false {s with heap:=h'}):wpAny (model prog w) A (Builtin.SmallTypes.ownedTupleIsFree (.ref z)) Q E s:=by
 obtain⟨o,ho⟩:=hT
 unfold Builtin.SmallTypes.ownedTupleIsFree
 refine wpAny_bind (wpAny_field hz rfl (x:=rawInt T) rfl ?_)
 show wpAny _ _ (loadIfAlive (Int.toNat (T:Int)) >>= _) _ _ _
 refine wpAny_bind (cJ8 ?_)
 rw[Int.toNat_natCast,ho]
 show wpAny _ _ (field (.ref z) 1 >>= _) _ _ _
 refine wpAny_bind (wpAny_field hz rfl (x:=.bool b) rfl ?_)
 cases b with
 |true=>exact wpAny_pure (hQ s.heap hz ⟨rfl,fun _ _=>rfl⟩)
 |false=>
   show wpAny _ _ (setField (.ref z) 1 (.bool true) >>= _) _ _ _
   refine wpAny_bind (wpAny_setField_rec hz (by simp) fun g hg hs=>wpAny_pure (hQ g hg hs))
theorem dB8{x y:Value}{Q:VSP}(Ap:ZA z TI TO i1 i2)(n1:l1∉ [z,TO,i1,i2])(n2:l2∉ [z,TO,i1,i2])
 (hz:aI3 s.heap z TI TO (rawInt T) b) (hT:∃o,s.heap.get? T=some o) (hTI:IsPair s.heap TI (.ref i1) (.ref i2))
 (h1:SI k1 s.heap i1 l1 i) (h2:SI k2 s.heap i2 l2 i) (hl1:SC k1 s.heap l1 xs) (hl2:SC k2 s.heap l2 ys) (hx:xs[i]? =some x) (hy:ys[i]? =some y)
 (hQ:∀h',aI3 h' z TI TO (rawInt T) true→SI k1 h' i1 l1 (i+1)→SI k2 h' i2 l2 (i+1)→IsPair h' s.heap.objs.size x y→h'.objs.size=s.heap.objs.size+1→
   (∀c o,c≠z→c≠i1→c≠i2→s.heap.get? c=some o→h'.get? c=some o)→Q (.ref s.heap.objs.size) {s with heap:=h'}):
 wpAny (model prog w) A (Builtin.«zip.__next__» ⟨[.ref z], []⟩) (fun fin s'=>∃v,fin= .done (.ret v)∧Q v s') E s:=by
 simp only[List.mem_cons,List.not_mem_nil,or_false,not_or]at n1 n2
 show wpAny _ _ (field (.ref z) 2 >>= _) _ _ _
 refine wpAny_bind (wpAny_field hz rfl (x:=.bool false) rfl ?_)
 show wpAny _ _ (field (.ref z) 3 >>= _) _ _ _
 refine wpAny_bind (wpAny_field hz rfl (x:=.ref TI) rfl ?_)
 refine wpAny_bind (wpAny_seqItems hTI rfl ?_)
 show wpAny _ _ (Builtin.SmallTypes.ownedTupleIsFree (.ref z) >>= _) _ _ _
 refine wpAny_bind (cL9 hz hT fun g₁ hz₁ hs₁=>?_)
 simp only[Bool.false_eq_true,if_false,←Array.forIn_toList,List.forIn_cons,List.forIn_nil]
 refine wpAny_bind (wpAny_bind (wpAny_bind (wpAny_holding ?_)))
 show wpAny _ _ (Builtin.SmallTypes.nextOf (.ref i1) >>= _) _ _ _
 refine wpAny_bind (aC5 (h1.keep fun o e=>hs₁.extBut _ _ Ap.i1z e) (hl1.keep fun o e=>hs₁.extBut _ _ n1.1 e) hx fun g₂ h1₂ hs₂=>wpAny_pure (wpAny_pure ?_))
 have up2:∀c o,c≠z→c≠i1→s.heap.get? c=some o→g₂.get? c=some o:=fun c o c1 c2 e=>hs₂.extBut _ _ c2 (hs₁.extBut _ _ c1 e)
 refine wpAny_bind (wpAny_bind (wpAny_holding ?_))
 show wpAny _ _ (Builtin.SmallTypes.nextOf (.ref i2) >>= _) _ _ _
 refine wpAny_bind (aC5 (h2.keep fun o e=>up2 _ _ Ap.i2z Ap.i12.symm e) (hl2.keep fun o e=>up2 _ _ n2.1 n2.2.2.1 e) hy fun g₃ h2₃ hs₃=>wpAny_pure (wpAny_pure (wpAny_pure ?_)))
 have hsz:g₃.objs.size=s.heap.objs.size:=by rw[hs₃.1,hs₂.1,hs₁.1]
 show wpAny _ _ (newTuple [x,y] >>= _) _ _ _
 refine wpAny_bind (wpAny_newTuple ?_)
 refine wpAny_pure ⟨_,rfl,?_⟩
 have hz₃:aI3 g₃ z TI TO (rawInt T) true:=hs₃.extBut _ _ Ap.i2z.symm (hs₂.extBut _ _ Ap.i1z.symm hz₁)
 have hT₃:IsPair (g₃.push {cls:=.type "tuple",data:=.seq #[x,y]}) s.heap.objs.size x y:=by rw[←hsz];exact Heap.get?_push_size _ rfl
 show Q (.ref g₃.objs.size) _
 rw[hsz]
 exact hQ _ (Heap.get?_push_of_some _ hz₃) ((h1₂.keep fun o e=>hs₃.extBut _ _ Ap.i12 e).keep fun o e=>Heap.get?_push_of_some _ e) (h2₃.keep fun o e=>Heap.get?_push_of_some _ e) hT₃ (by rw[Heap.size_push,hsz])
  fun c o c1 c2 c3 e=>Heap.get?_push_of_some _ (hs₃.extBut _ _ c3 (up2 c o c1 c2 e))
theorem dQ9{Q:Fin→Shared→Prop}(hh:A.handled=none)(Ap:ZA z TI TO i1 i2)(n1:l1∉ [z,TO,i1,i2])(n2:l2∉ [z,TO,i1,i2])
 (hz:aI3 s.heap z TI TO (rawInt T) b) (hT:∃o,s.heap.get? T=some o) (hTI:IsPair s.heap TI (.ref i1) (.ref i2))
 (h1:SI k1 s.heap i1 l1 i) (h2:SI k2 s.heap i2 l2 i) (hl1:SC k1 s.heap l1 xs) (hl2:SC k2 s.heap l2 ys) (hend:xs[i]? =none∨ys[i]? =none)
 (hE:∀h' e,(∀c o,c≠z→c≠i1→c≠i2→s.heap.get? c=some o→h'.get? c=some o)→(∃o,h'.get? e=some o∧o.cls= .type "StopIteration")→E (.ref e) {s with heap:=h'}):
 wpAny (model prog w) A (Builtin.«zip.__next__» ⟨[.ref z], []⟩) Q E s:=by
 simp only[List.mem_cons,List.not_mem_nil,or_false,not_or]at n1 n2
 show wpAny _ _ (field (.ref z) 2 >>= _) _ _ _
 refine wpAny_bind (wpAny_field hz rfl (x:=.bool false) rfl ?_)
 show wpAny _ _ (field (.ref z) 3 >>= _) _ _ _
 refine wpAny_bind (wpAny_field hz rfl (x:=.ref TI) rfl ?_)
 refine wpAny_bind (wpAny_seqItems hTI rfl ?_)
 show wpAny _ _ (Builtin.SmallTypes.ownedTupleIsFree (.ref z) >>= _) _ _ _
 refine wpAny_bind (cL9 hz hT fun g₁ hz₁ hs₁=>?_)
 simp only[Bool.false_eq_true,if_false,←Array.forIn_toList,List.forIn_cons,List.forIn_nil]
 refine wpAny_bind (wpAny_bind (wpAny_bind (wpAny_holding ?_)))
 show wpAny _ _ (Builtin.SmallTypes.nextOf (.ref i1) >>= _) _ _ _
 cases hx:xs[i]? with
 |none=>
   exact wpAny_bind (aQ1 hh (h1.keep fun o e=>hs₁.extBut _ _ Ap.i1z e) (hl1.keep fun o e=>hs₁.extBut _ _ n1.1 e) hx fun g₂ e hs₂ he=>hE g₂ e (fun c o c1 c2 _ q=>hs₂ _ _ c2 (hs₁.extBut _ _ c1 q)) he)
 |some x=>
   have hy:ys[i]? =none:=by
    rcases hend with h|h
    ·rw[hx]at h;cases h
    ·exact h
   refine wpAny_bind (aC5 (h1.keep fun o e=>hs₁.extBut _ _ Ap.i1z e) (hl1.keep fun o e=>hs₁.extBut _ _ n1.1 e) hx fun g₂ h1₂ hs₂=>wpAny_pure (wpAny_pure ?_))
   have up2:∀c o,c≠z→c≠i1→s.heap.get? c=some o→g₂.get? c=some o:=fun c o c1 c2 e=>hs₂.extBut _ _ c2 (hs₁.extBut _ _ c1 e)
   refine wpAny_bind (wpAny_bind (wpAny_holding ?_))
   show wpAny _ _ (Builtin.SmallTypes.nextOf (.ref i2) >>= _) _ _ _
   exact wpAny_bind (aQ1 hh (h2.keep fun o e=>up2 _ _ Ap.i2z Ap.i12.symm e) (hl2.keep fun o e=>up2 _ _ n2.1 n2.2.2.1 e) hy fun g₃ e hs₃ he=>hE g₃ e (fun c o c1 c2 c3 q=>hs₃ _ _ c3 (up2 c o c1 c2 q)) he)
theorem bG3{x y:Value}{Q:Option Value→Shared→Prop}(Ap:ZA z TI TO i1 i2)(n1:l1∉ [z,TO,i1,i2])(n2:l2∉ [z,TO,i1,i2])
 (hz:aI3 s.heap z TI TO (rawInt T) b) (hT:∃o,s.heap.get? T=some o) (hTI:IsPair s.heap TI (.ref i1) (.ref i2))
 (h1:SI k1 s.heap i1 l1 i) (h2:SI k2 s.heap i2 l2 i) (hl1:SC k1 s.heap l1 xs) (hl2:SC k2 s.heap l2 ys) (hx:xs[i]? =some x) (hy:ys[i]? =some y)
 (hQ:∀h',aI3 h' z TI TO (rawInt T) true→SI k1 h' i1 l1 (i+1)→SI k2 h' i2 l2 (i+1)→IsPair h' s.heap.objs.size x y→h'.objs.size=s.heap.objs.size+1→
   (∀c o,c≠z→c≠i1→c≠i2→s.heap.get? c=some o→h'.get? c=some o)→Q (some (.ref s.heap.objs.size)) {s with heap:=h'}):
 wpAny (model prog w) A (pyNext (.ref z)) Q E s:=by
 have hY:s.TypeIs (.ref z) "zip":=⟨_,hz,rfl⟩
 unfold pyNext
 exact wpAny_bind (wpAny_attempt (wpAny_callSpecial?_slot (name:=Str.ofString "__next__") hY F.slot_zip_next (wpAny_call_entry F.slot_zip_next hY F.entry_zip_next
  (dB8 Ap n1 n2 hz hT hTI h1 h2 hl1 hl2 hx hy fun h' a1 a3 a4 a5 a6 a7=>wpAny_pure (hQ h' a1 a3 a4 a5 a6 a7)) (F.args_zip_next_1 _))))
theorem bL9{Q:Option Value→Shared→Prop}(hh:A.handled=none)(Ap:ZA z TI TO i1 i2)(n1:l1∉ [z,TO,i1,i2])(n2:l2∉ [z,TO,i1,i2])
 (hz:aI3 s.heap z TI TO (rawInt T) b) (hT:∃o,s.heap.get? T=some o) (hTI:IsPair s.heap TI (.ref i1) (.ref i2))
 (h1:SI k1 s.heap i1 l1 i) (h2:SI k2 s.heap i2 l2 i) (hl1:SC k1 s.heap l1 xs) (hl2:SC k2 s.heap l2 ys) (hend:xs[i]? =none∨ys[i]? =none)
 (hQ:∀h',(∀c o,c≠z→c≠i1→c≠i2→s.heap.get? c=some o→h'.get? c=some o)→Q none {s with heap:=h'}):wpAny (model prog w) A (pyNext (.ref z)) Q E s:=by
 have hY:s.TypeIs (.ref z) "zip":=⟨_,hz,rfl⟩
 unfold pyNext
 refine wpAny_bind (wpAny_attempt (wpAny_callSpecial?_slot (name:=Str.ofString "__next__") hY F.slot_zip_next (wpAny_call_entry F.slot_zip_next hY F.entry_zip_next
  (dQ9 hh Ap n1 n2 hz hT hTI h1 h2 hl1 hl2 hend fun h' e hk he=>?_) (F.args_zip_next_1 _))))
 obtain⟨o,ho,hc⟩:=he
 exact wpAny_bind (wpAny_isInstance (T:= "StopIteration") (b:=true) ⟨o,ho,hc⟩ isSubtype_stop (wpAny_pure (hQ _ hk)))
noncomputable def aE6(n0 m:Nat):List Value:=(List.range m).map fun j=>Value.ref (n0+j:Nat)
theorem cL3{n0 m:Nat}:(aE6 n0 m).toArray.push (.ref (n0+m:Nat))= (aE6 n0 (m+1)).toArray:=by simp[aE6,List.range_succ]
noncomputable def bD5(xs ys:Array Value)(n0 m:Nat)(h:Heap):Prop:=∀j,j<m→∃x y,xs[j]? =some x∧ys[j]? =some y∧IsPair h (n0+j:Nat) x y
structure ZSt(k1 k2:Bool)(z TI TO i1 i2 l1 l2:Addr)(xs ys:Array Value)(n0 i:Nat)(h:Heap):Prop where
 hz:(IsZip h z TI TO .none∧∃a b,IsPair h TO a b)∨∃T b,aI3 h z TI TO (rawInt ((n0+T:Nat):Int)) b∧T<i
 hTI:IsPair h TI (.ref i1) (.ref i2)
 h1:SI k1 h i1 l1 i
 h2:SI k2 h i2 l2 i
 c1:SC k1 h l1 xs
 c2:SC k2 h l2 ys
theorem eX3{a b:Nat}:a≤min a b∨b≤min a b:=(Nat.le_total a b).imp (fun h=>Nat.le_of_eq (Nat.min_eq_left h).symm) fun h=>Nat.le_of_eq (Nat.min_eq_right h).symm
theorem cX7{n0 m:Nat}:(aE6 n0 m).toArray.size=m:=by rw[List.size_toArray,aE6,List.length_map,List.length_range]
theorem dX4{R:Result→Shared→Prop}(hh:A.handled=none)(Ap:ZA z TI TO i1 i2)(n1:l1∉ [z,TO,i1,i2])(n2:l2∉ [z,TO,i1,i2])(S:Addr)(hS:S∉ [z,TI,TO,i1,i2,l1,l2])(res:Value){n0:Nat}
 (lt:∀b∈ [z,TI,TO,i1,i2,l1,l2,S], @LT.lt Nat instLTNat b n0) {m:Nat} (m1:m≤xs.size) (m2:m≤ys.size) (m3:xs.size≤m∨ys.size≤m) (hn:m≤sizeLine):
 ∀(k i:Nat) (s:Shared) (c:Nat),m-i=k→i≤m→ZSt k1 k2 z TI TO i1 i2 l1 l2 xs ys n0 i s.heap→
 s.heap.get? S=some {cls:=.type "list",dict:=none,data:=.seq (aE6 n0 i).toArray c,slots:= #[]}→s.heap.objs.size=n0+i→bD5 xs ys n0 i s.heap→
 (∀h' c',(∀b o,b∉ [z,TO,i1,i2,S]→s.heap.get? b=some o→h'.get? b=some o)→h'.get? S=some {cls:=.type "list",dict:=none,data:=.seq (aE6 n0 (m)).toArray c',slots:= #[]}→
   bD5 xs ys n0 (m) h'→R (.ok (.ret res)) {s with heap:=h'})→
 codeAny (model prog w) A (.builtin "list.extend.loop" ⟨[.ref S,.ref z,res], []⟩) R s:=by
 simp only[List.mem_cons,List.not_mem_nil,or_false,not_or]at hS
 have neA:∀ {b:Addr} {j:Nat},b∈ [z,TI,TO,i1,i2,l1,l2,S]→(n0+j:Nat)≠b:=fun hb e=>by
  have q:=lt _ hb
  rw[←e]at q
  exact absurd q (Nat.not_lt.mpr (Nat.le_add_right _ _))
 intro k
 induction k with
 |zero=>
   intro i s c hk hi hst hL hsz hp hR
   have hin:i=m:=Nat.le_antisymm hi (Nat.sub_eq_zero_iff_le.mp hk)
   refine codeAny_builtin F.entry_extend_loop ?_
   rw[Around.under_plainId F.plain_extend_loop _]
   show wpAny _ A.in1 (pyNext (.ref z) >>= _) _ _ s
   have hend:xs[i]? =none∨ys[i]? =none:=hin▸m3.imp Array.getElem?_eq_none Array.getElem?_eq_none
   have fin:∀h',(∀c o,c≠z→c≠TO→c≠i1→c≠i2→s.heap.get? c=some o→h'.get? c=some o)→R (.ok (.ret res)) {s with heap:=h'}:=fun h' hk=>by
    rw[hin]at hL hp
    refine hR h' c (fun b o hb e=>?_) (hk _ _ hS.1 hS.2.2.1 hS.2.2.2.1 hS.2.2.2.2.1 hL) fun j hj=>?_
    · simp only[List.mem_cons,List.not_mem_nil,or_false,not_or]at hb
      exact hk _ _ hb.1 hb.2.1 hb.2.2.1 hb.2.2.2.1 e
    · obtain⟨x,y,e1,e2,e3⟩:=hp j hj
      exact⟨x,y,e1,e2,hk _ _ (neA (by simp)) (neA (by simp)) (neA (by simp)) (neA (by simp)) e3⟩
   rcases hst.hz with⟨hz,a,b,hTO⟩|⟨T,b,hz,hT⟩
   ·exact wpAny_bind (aV7 hh Ap n1 n2 hz hst.hTI hTO hst.h1 hst.h2 hst.c1 hst.c2 hend fun h' hk=>wpAny_pure (fin h' hk))
   · obtain⟨x,y,_,_,e3⟩:=hp T hT
     exact wpAny_bind (bL9 hh Ap n1 n2 hz ⟨_,e3⟩ hst.hTI hst.h1 hst.h2 hst.c1 hst.c2 hend fun h' hk=>wpAny_pure (fin h' fun c o c1 _ c3 c4 e=>hk c o c1 c3 c4 e))
 |succ k ih=>
   intro i s c hk hi hst hL hsz hp hR
   have hlt:i<m:=Nat.lt_of_sub_eq_succ hk
   refine codeAny_builtin F.entry_extend_loop ?_
   rw[Around.under_plainId F.plain_extend_loop _]
   show wpAny _ A.in1 (pyNext (.ref z) >>= _) _ _ s
   obtain⟨x,hx⟩:∃x,xs[i]? =some x:=⟨_,Array.getElem?_eq_getElem (Nat.lt_of_lt_of_le hlt m1)⟩
   obtain⟨y,hy⟩:∃y,ys[i]? =some y:=⟨_,Array.getElem?_eq_getElem (Nat.lt_of_lt_of_le hlt m2)⟩
   have fin:∀h',((IsZip h' z TI TO .none∧∃a b,IsPair h' TO a b)∨∃T b,aI3 h' z TI TO (rawInt ((n0+T:Nat):Int)) b∧T<i+1)→SI k1 h' i1 l1 (i+1)→SI k2 h' i2 l2 (i+1)→IsPair h' s.heap.objs.size x y→h'.objs.size=s.heap.objs.size+1→
    (∀c o,c≠z→c≠TO→c≠i1→c≠i2→s.heap.get? c=some o→h'.get? c=some o)→
    wpAny (model prog w) A.in1 (updateSeq S (·.push (.ref s.heap.objs.size)) >>= fun _=>again (.builtin "list.extend.loop" ⟨[.ref S,.ref z,res], []⟩)) (fun fin s'=>match fin with| .done f=>R (.ok f) s'| .again c'=>c'.quiet=true∧codeAny (model prog w) A c' R s') (fun e s'=>R (.error e) s') {s with heap:=h'}:=by
    intro h' hz' q1 q2 qp qs qk
    have hL':=qk S _ hS.1 hS.2.2.1 hS.2.2.2.1 hS.2.2.2.2.1 hL
    have oth:∀b o,S≠b→h'.get? b=some o→(h'.update S (Obj.mapSeq (·.push (.ref s.heap.objs.size)))).get? b=some o:=fun b o hb e=>(Heap.get?_update_other _ _ hb).trans e
    obtain⟨c2,hL2⟩:∃c2,(h'.update S (Obj.mapSeq (·.push (.ref s.heap.objs.size)))).get? S=some {cls:=.type "list",dict:=none,data:=.seq (aE6 n0 (i+1)).toArray c2,slots:= #[]}:=by
     rw[←cL3,←hsz]
     exact⟨_,Heap.get?_update_self (Obj.mapSeq (·.push (Value.ref s.heap.objs.size))) hL' rfl⟩
    refine wpAny_bind (wpAny_updateSeq hL' rfl (wpAny_pure ⟨plainId_quiet F.plain_extend_loop _,ih (i+1) _ c2 (congrArg Nat.pred hk) hlt ?_ hL2 ?_ ?_ fun h2 c' k2 k3 k4=>?_⟩) (cX7▸Nat.le_trans hi hn) (by rw[Array.size_push,cX7];exact Nat.succ_le_succ (Nat.le_trans hi hn)))
    · refine⟨?_,oth _ _ hS.2.1 (qk _ _ Ap.TIz Ap.TITO Ap.TIi1 Ap.TIi2 hst.hTI),q1.keep fun o e=>oth _ o hS.2.2.2.1 e,q2.keep fun o e=>oth _ o hS.2.2.2.2.1 e,hst.c1.keep fun o e=>oth _ o hS.2.2.2.2.2.1 (qk _ _ ?_ ?_ ?_ ?_ e),hst.c2.keep fun o e=>oth _ o hS.2.2.2.2.2.2 (qk _ _ ?_ ?_ ?_ ?_ e)⟩
      · rcases hz' with⟨a1,a,b,a2⟩|⟨T,b,a1,a2⟩
        ·exact .inl ⟨oth _ _ hS.1 a1,a,b,oth _ _ hS.2.2.1 a2⟩
        ·exact .inr ⟨T,b,oth _ _ hS.1 a1,a2⟩
      all_goals simp only[List.mem_cons,List.not_mem_nil,or_false,not_or]at n1 n2
      ·exact n1.1
      ·exact n1.2.1
      ·exact n1.2.2.1
      ·exact n1.2.2.2
      ·exact n2.1
      ·exact n2.2.1
      ·exact n2.2.2.1
      ·exact n2.2.2.2
    · show (h'.update S _).objs.size=_
      rw[Heap.size_update,qs,hsz]
      rfl
    · intro j hj
      by_cases q:j=i
      · subst q
        rw[hsz]at qp
        exact⟨x,y,hx,hy,oth _ _ (neA (by simp)).symm qp⟩
      · obtain⟨x',y',e1,e2,e3⟩:=hp j (Nat.lt_of_le_of_ne (Nat.le_of_lt_succ hj) q)
        exact⟨x',y',e1,e2,oth _ _ (neA (by simp)).symm (qk _ _ (neA (by simp)) (neA (by simp)) (neA (by simp)) (neA (by simp)) e3)⟩
    · refine hR h2 c' (fun b o hb e=>?_) k3 k4
      have hb':=hb
      simp only[List.mem_cons,List.not_mem_nil,or_false,not_or]at hb'
      exact k2 b o hb (oth _ _ (Ne.symm hb'.2.2.2.2) (qk _ _ hb'.1 hb'.2.1 hb'.2.2.1 hb'.2.2.2.1 e))
   rcases hst.hz with⟨hz,a,b,hTO⟩|⟨T,b,hz,hT⟩
   · refine wpAny_bind (aR9 Ap n1 n2 hz hst.hTI hTO hst.h1 hst.h2 hst.c1 hst.c2 hx hy fun h' a1 a2 a3 a4 a5 a6 a7=>?_)
     refine fin h' (.inr ⟨i,false,?_,Nat.lt_succ_self _⟩) a3 a4 a5 a6 a7
     rw[hsz]at a1
     exact a1
   · obtain⟨x',y',_,_,e3⟩:=hp T hT
     exact wpAny_bind (bG3 Ap n1 n2 hz ⟨_,e3⟩ hst.hTI hst.h1 hst.h2 hst.c1 hst.c2 hx hy fun h' a1 a3 a4 a5 a6 a7=>fin h' (.inr ⟨T,true,a1,Nat.lt_succ_of_lt hT⟩) a3 a4 a5 a6 fun c o c1 _ c3 c4 e=>a7 c o c1 c3 c4 e)
theorem dJ3{R:Result→Shared→Prop}(hh:A.handled=none)(Ap:ZA z TI TO i1 i2)(n1:l1∉ [z,TO,i1,i2])(n2:l2∉ [z,TO,i1,i2])(S:Addr)(hS:S∉ [z,TI,TO,i1,i2,l1,l2])(res:Value){c:Nat}
 (lt:∀b∈ [z,TI,TO,i1,i2,l1,l2,S], @LT.lt Nat instLTNat b s.heap.objs.size) (hn:min xs.size ys.size≤sizeLine) (hst:ZSt k1 k2 z TI TO i1 i2 l1 l2 xs ys s.heap.objs.size 0 s.heap) (hL:s.heap.get? S=some {cls:=.type "list",data:=.seq #[] c})
 (hR:∀h' c',(∀b o,b∉ [z,TO,i1,i2,S]→s.heap.get? b=some o→h'.get? b=some o)→h'.get? S=some {cls:=.type "list",dict:=none,data:=.seq (aE6 s.heap.objs.size (min xs.size ys.size)).toArray c',slots:= #[]}→
   bD5 xs ys s.heap.objs.size (min xs.size ys.size) h'→R (.ok (.ret res)) {s with heap:=h'}):
 wpAny (model prog w) A.in1 (Builtin.List.listExtendWith (.ref S) (.ref z) res)
  (fun fin s'=>match fin with| .done f=>R (.ok f) s'| .again c'=>c'.quiet=true∧codeAny (model prog w) A c' R s') (fun e s'=>R (.error e) s') s:=by
 obtain⟨hz,hTI,h1,h2,c1,c2⟩:=hst
 rcases hz with⟨hz,a,b,hTO⟩|⟨T,b,_,q⟩
 · have hS':=hS
   simp only[List.mem_cons,List.not_mem_nil,or_false,not_or]at hS'
   have hT:s.TypeIs (.ref z) "zip":=⟨_,hz,rfl⟩
   unfold Builtin.List.listExtendWith
   refine wpAny_bind (wpAny_typeOf (T:= "zip") hT ?_)
   have e1:Builtin.List.listSameRef (.ref S) (.ref z)=false:=by simp[Builtin.List.listSameRef,hS'.1]
   rw[if_neg (by rw[e1];decide)]
   refine wpAny_bind (wpAny_pyIter_zip hz ?_)
   refine wpAny_bind (wpAny_holding ?_)
   unfold Builtin.List.listLengthHint
   refine wpAny_bind (wpAny_specialOf hT dI7 ?_)
   show wpAny _ A.in1 (specialOf (Value.ref z) (Str.ofString "__length_hint__") >>= _) _ _ _
   refine wpAny_bind (wpAny_specialOf hT cU2 ?_)
   refine wpAny_pure ?_
   show wpAny _ A.in1 (rule "list.extend.makes-room" >>= fun _=>Builtin.List.listTouch (.ref S) >>= fun _=>again (.builtin "list.extend.loop" ⟨[.ref S,.ref z,res], []⟩)) _ _ _
   refine wpAny_bind (wpAny_rule ?_)
   refine wpAny_bind ?_
   show wpAny _ A.in1 (updateSeq S (·.push .none) >>= fun _=>updateSeq S (·.pop)) _ _ _
   refine wpAny_bind (wpAny_updateSeq hL rfl ?_)
   have hS₂:=Heap.get?_update_self (Obj.mapSeq (·.push Value.none)) hL rfl
   refine wpAny_updateSeq hS₂ rfl ?_
   have hS₃:=Heap.get?_update_self (Obj.mapSeq (·.pop)) hS₂ rfl
   have oth:∀b o,S≠b→s.heap.get? b=some o→((s.heap.update S (Obj.mapSeq (·.push Value.none))).update S (Obj.mapSeq (·.pop))).get? b=some o:=
    fun b o hb e=>(Heap.get?_update_other _ _ hb).trans ((Heap.get?_update_other _ _ hb).trans e)
   have hsz:((s.heap.update S (Obj.mapSeq (·.push Value.none))).update S (Obj.mapSeq (·.pop))).objs.size=s.heap.objs.size+0:=by rw[Heap.size_update,Heap.size_update];rfl
   refine wpAny_pure ⟨plainId_quiet F.plain_extend_loop _,dX4 (k1:=k1) (k2:=k2) (xs:=xs) (ys:=ys) hh Ap n1 n2 S hS res (n0:=s.heap.objs.size) lt (Nat.min_le_left _ _) (Nat.min_le_right _ _) eX3 hn _ 0 _ _ rfl (Nat.zero_le _)
    ⟨.inl ⟨oth _ _ hS'.1 hz,a,b,oth _ _ hS'.2.2.1 hTO⟩,oth _ _ hS'.2.1 hTI,h1.keep fun o e=>oth _ o hS'.2.2.2.1 e,h2.keep fun o e=>oth _ o hS'.2.2.2.2.1 e,c1.keep fun o e=>oth _ o hS'.2.2.2.2.2.1 e,c2.keep fun o e=>oth _ o hS'.2.2.2.2.2.2 e⟩ hS₃ hsz (fun j hj=>absurd hj (Nat.not_lt_zero _)) fun h' c' q1 q2 q3=>?_⟩
   refine hR h' c' (fun b o hb e=>q1 b o hb (oth b o ?_ e)) q2 q3
   simp only[List.mem_cons,List.not_mem_nil,or_false,not_or]at hb
   exact Ne.symm hb.2.2.2.2
 ·exact absurd q (Nat.not_lt_zero _)
theorem eB2{Q:VSP}(hh:A.handled=none)(Ap:ZA z TI TO i1 i2)(n1:l1∉ [z,TO,i1,i2])(n2:l2∉ [z,TO,i1,i2])
 (lt:∀b∈ [z,TI,TO,i1,i2,l1,l2], @LT.lt Nat instLTNat b s.heap.objs.size) (hn:min xs.size ys.size≤sizeLine)
 (hz:IsZip s.heap z TI TO .none) (hTO:∃a b,IsPair s.heap TO a b) (hTI:IsPair s.heap TI (.ref i1) (.ref i2)) (h1:SI k1 s.heap i1 l1 0) (h2:SI k2 s.heap i2 l2 0) (c1:SC k1 s.heap l1 xs) (c2:SC k2 s.heap l2 ys)
 (hQ:∀h' c',(∀b o,b∉ [z,TO,i1,i2]→s.heap.get? b=some o→h'.get? b=some o)→h'.get? s.heap.objs.size=some {cls:=.type "list",dict:=none,data:=.seq (aE6 (s.heap.objs.size+1) (min xs.size ys.size)).toArray c',slots:= #[]}→
   bD5 xs ys (s.heap.objs.size+1) (min xs.size ys.size) h'→Q (.ref s.heap.objs.size) {s with heap:=h'}):
 wpAny (model prog w) A (call (.type "list") [.ref z]) Q E s:=by
 refine callType_codes (Q₁:=fun obj s₁=>obj= .ref s.heap.objs.size∧s₁= {s with heap:=s.heap.push {cls:=.type "list",data:=.seq #[]}}) PySem.F.called_list (PySem.F.typeCall_list_1 _) PySem.F.entry_list_init
  (code_list_new _ ⟨rfl,rfl⟩) fun obj s₁ h₁=>?_
 obtain⟨rfl,rfl⟩:=h₁
 have hS:(s.heap.push {cls:=.type "list",data:=.seq #[]}).get? s.heap.objs.size=some {cls:=.type "list",data:=.seq #[]}:=Heap.get?_push_size _ rfl
 refine⟨⟨_,hS,rfl⟩,PySem.F.args_list_init_2 _ _,?_⟩
 show wpAny _ _ (do let old ←Builtin.List.listItems (.ref s.heap.objs.size);Builtin.List.listUpdate (.ref s.heap.objs.size) (fun _=> #[]);letGo old.toList.reverse;Builtin.List.listExtendWith (.ref s.heap.objs.size) (.ref z) .none) _ _ _
 refine wpAny_bind ?_
 unfold Builtin.List.listItems
 refine wpAny_bind (wpAny_seqItems hS rfl (wpAny_pure ?_))
 show wpAny _ _ (updateSeq s.heap.objs.size (fun _=> #[]) >>= fun _=>letGo (#[]:Array Value).toList.reverse >>= fun _=>Builtin.List.listExtendWith (.ref s.heap.objs.size) (.ref z) .none) _ _ _
 refine wpAny_bind (wpAny_updateSeq hS rfl ?_)
 have hS₂:=Heap.get?_update_self (Obj.mapSeq (fun _=>(#[]:Array Value))) hS rfl
 refine wpAny_bind (wpAny_letGo ?_)
 have ne:∀b∈ [z,TI,TO,i1,i2,l1,l2],s.heap.objs.size≠b:=fun b hb=>Ne.symm (Nat.ne_of_lt (lt b hb))
 have oth:∀b o,s.heap.get? b=some o→((s.heap.push {cls:=.type "list",data:=.seq #[]}).update s.heap.objs.size (Obj.mapSeq (fun _=>(#[]:Array Value)))).get? b=some o:=
  fun b o e=>(Heap.get?_update_other _ _ (Ne.symm (Nat.ne_of_lt (Heap.lt_size e)))).trans (Heap.get?_push_of_some _ e)
 have hsz:((s.heap.push {cls:=.type "list",data:=.seq #[]}).update s.heap.objs.size (Obj.mapSeq (fun _=>(#[]:Array Value)))).objs.size=s.heap.objs.size+1:=by rw[Heap.size_update,Heap.size_push]
 obtain⟨a,b,hTO⟩:=hTO
 refine dJ3 (k1:=k1) (k2:=k2) (xs:=xs) (ys:=ys) (TI:=TI) (TO:=TO) (i1:=i1) (i2:=i2) (l1:=l1) (l2:=l2) (A:=A.in1) hh Ap n1 n2 _ (fun hm=>ne _ hm rfl) .none (fun b hb=>?_) hn ⟨.inl ⟨oth _ _ hz,a,b,oth _ _ hTO⟩,oth _ _ hTI,h1.keep fun o e=>oth _ o e,h2.keep fun o e=>oth _ o e,c1.keep fun o e=>oth _ o e,c2.keep fun o e=>oth _ o e⟩ hS₂ fun h' c' q1 q2 q3=>?_
 · show b<(Heap.update _ _ _).objs.size
   rw[hsz]
   rcases List.mem_append.mp (show b∈ [z,TI,TO,i1,i2,l1,l2]++[s.heap.objs.size]from hb)with q|q
   ·exact Nat.lt_succ_of_lt (lt b q)
   ·rw[List.mem_singleton.mp q];exact Nat.lt_succ_self _
 · have q2':=q2
   have q3':=q3
   dsimp only at q2' q3'
   rw[hsz]at q2' q3'
   refine⟨rfl,hQ h' c' (fun b o hb e=>q1 b o (fun hm=>?_) (oth b o e)) q2' q3'⟩
   rcases List.mem_append.mp (show b∈ [z,TO,i1,i2]++[s.heap.objs.size]from hm)with q|q
   ·exact hb q
   ·exact Nat.lt_irrefl _ (by have:=Heap.lt_size e;rw[List.mem_singleton.mp q]at this;exact this)
end
theorem dF2{X:Cx}{pins:PNS}{σ:St}{H H':Hp}{s:Shared}{h':Heap}{t':Nat}(I:Inv X pins σ H s)(k:∀b u,s.heap.get? b=some u→h'.get? b=some u)(same:∀b u,H b=some u→H' b=some u)
 (new:∀b u,H' b=some u→H b=some u∨s.heap.objs.size≤b∧U9 X.prog X.w H' h' b u):Inv X pins σ H' {s with heap:=h',toks:=t'}:=by
 refine I.un ⟨fun b u q _ _ _=>k b u q,fun b u q _ _ _=>⟨u.slots,k b u q⟩,fun b o q n _=>?_,fun b u q _=>⟨u,k b u q⟩,fun b xs q=>same _ _ q,fun b o u q=>same _ _ q,fun b ps q=>⟨#[],by rw[same _ _ q];simp⟩⟩ fun b u e=>?_
 · cases e:H' b with
   |none=>rfl
   |some u=>
     rcases new b u e with z|z
     ·rw[n]at z;cases z
     ·exact absurd (Nat.lt_of_lt_of_le (Heap.lt_size q) z.1) (Nat.lt_irrefl _)
 · rcases new b u e with z|z
   ·exact(I.hok b u z).stay (fun c v _ q=>k c v q) (fun c q=>same _ _ q) fun c xs q=>same _ _ q
   ·exact z.2
def aR8(H:Hp)(n0:Nat)(ws:List (V×V)):Hp:=fun b=>if (n0:Nat)≤b∧b<n0+ws.length then some (.tup [(ws.getD (b-n0) (.non,.non)).1,(ws.getD (b-n0) (.non,.non)).2])else H b
section
variable{H:Hp}{n0:Nat}{ws:List (V×V)}
theorem aN3(fr:∀b,n0≤b→H b=none){b:Addr}{u:HO}(e:H b=some u):aR8 H n0 ws b=some u:=by
 unfold aR8
 rw[if_neg,e]
 intro q
 rw[fr b q.1]at e
 cases e
theorem dU3{j:Nat}{p:V×V}(e:ws[j]? =some p):aR8 H n0 ws (n0+j:Nat)=some (.tup [p.1,p.2]):=by
 have hj:=lt_of_get e
 unfold aR8
 rw[if_pos ⟨Nat.le_add_right _ _,Nat.add_lt_add_left hj _⟩,Nat.add_sub_cancel_left,List.getD_eq_getElem?_getD,e]
 rfl
theorem dF1{b:Addr}{u:HO}(e:aR8 H n0 ws b=some u):H b=some u∨∃j p,b= (n0+j:Nat)∧ws[j]? =some p∧u= .tup [p.1,p.2]:=by
 unfold aR8 at e
 by_cases q:n0≤b∧b<n0+ws.length
 · rw[if_pos q]at e
   have hj:b-n0<ws.length:=Nat.sub_lt_left_of_lt_add q.1 q.2
   refine .inr ⟨b-n0,ws[b-n0],(Nat.add_sub_cancel' q.1).symm,List.getElem?_eq_getElem hj,?_⟩
   rw[List.getD_eq_getElem?_getD,List.getElem?_eq_getElem hj]at e
   cases e;rfl
 ·rw[if_neg q]at e;exact .inl e
end
def bK8:List D→M D:=fun ds=>match ds with
 |[.ref r,.ref q]=>do
   let l ←Q7 r >>= listOf
   let m ←Q7 q >>= listOf
   R1 (.lst ((l.zip m).map fun p=>.tup [p.1,p.2]))
 |_=>M.stuck
noncomputable def bK7(n0 m:Nat):List V:=(List.range m).map fun j=>V.ref (n0+j:Nat)
theorem dI9{n0 m:Nat}:w6 (bK7 n0 m) (aE6 n0 m):=by
 unfold bK7 aE6
 induction List.range m with
 |nil=>exact .nil
 |cons j l ih=>exact .cons rfl ih
theorem bS9{c:Wc}{μ:List Addr}{H:Hp}:∀ {l:List D} {vs:List V},l.length=vs.length→(∀(j:Nat) d v,l[j]? =some d→vs[j]? =some v→g8 c μ H d v)→o5 c μ H l vs
 |[], [],_,_=>rfl
 |d::l,v::vs,e,h=>⟨v,vs,rfl,h 0 d v rfl rfl,bS9 (Nat.succ.inj e) fun j d v a b=>h (j+1) d v a b⟩
theorem dL5{c:Wc}{Z:XC}{μ:List Addr}{H:Hp}{G:DH}{K:D→List Addr→DH→Hp→Prop}{ds:List D}(p:d7 c Z μ H (bK8 ds G) K):∃i j,ds= [.ref i,.ref j]:=by
 match ds,p with
 |[.ref i,.ref j],_=>exact⟨i,j,rfl⟩
theorem cC6{μ:List Addr}{H:Hp}{n0:Nat}{ws:List (V×V)}(fr:∀b:Addr,n0≤b→H b=none):Ext μ H μ (aR8 H n0 ws):=
 ⟨List.prefix_refl _,fun a ha n=>absurd ha n,fun b o q _=>aN3 fr q,fun b xs q=>aN3 fr q,fun b o u q=>aN3 fr q⟩
theorem dG1{n0 m j:Nat}{v:V}(hj:j<m)(ev:(bK7 n0 m)[j]? =some v):v= .ref (n0+j:Nat):=by
 unfold bK7 at ev
 rw[List.getElem?_map,List.getElem?_range hj]at ev
 exact(Option.some.inj ev).symm
theorem eS0{c:Wc}{μ:List Addr}{H:Hp}{n0:Nat}{dl1 dl2:List D}{vs1 vs2:List V}(fr:∀b:Addr,n0≤b→H b=none)(rl1:o5 c μ H dl1 vs1)(rl2:o5 c μ H dl2 vs2):
 o5 c μ (aR8 H n0 (vs1.zip vs2)) ((dl1.zip dl2).map fun p=>.tup [p.1,p.2]) (bK7 n0 (vs1.zip vs2).length):=by
 refine bS9 (by rw[List.length_map,List.length_zip,rl1.length,rl2.length,bK7,List.length_map,List.length_range,List.length_zip]) fun j d v ed ev=>?_
 rw[List.getElem?_map]at ed
 obtain⟨pr,hz,rfl⟩:=Option.map_eq_some_iff.mp ed
 have hz2:=List.getElem?_zip_eq_some.mp hz
 obtain⟨y1,hy1,ry1⟩:=rl1.get hz2.1
 obtain⟨y2,hy2,ry2⟩:=rl2.get hz2.2
 have hw:(vs1.zip vs2)[j]? =some (y1,y2):=List.getElem?_zip_eq_some.mpr ⟨hy1,hy2⟩
 unfold g8
 exact⟨_, [y1,y2],dG1 (lt_of_get hw) ev,SqT.of (dU3 hw),o5.cons (ry1.mono (cC6 fr)) (o5.cons (ry2.mono (cC6 fr)) o5.nil)⟩
theorem eX1{X:Cx}{pins:PNS}{σ:St}{H:Hp}{s:Shared}{h':Heap}{n0 L c':Nat}{vs1 vs2:List V}{its1 its2:List Value}(I:Inv X pins σ H s)(k:∀b u,s.heap.get? b=some u→h'.get? b=some u)
 (hL:s.heap.objs.size≤L) (e0:n0=L+1) (rr1:w6 vs1 its1) (rr2:w6 vs2 its2) (z1:vs1.length≤sizeLine)
 (q2:h'.get? L=some {cls:=.type "list",dict:=none,data:=.seq (aE6 n0 (vs1.zip vs2).length).toArray c',slots:= #[]}) (q3:bD5 its1.toArray its2.toArray n0 (vs1.zip vs2).length h'):
 aR8 H n0 (vs1.zip vs2) L=none∧Inv X pins σ (upd (aR8 H n0 (vs1.zip vs2)) L (.lst (bK7 n0 (vs1.zip vs2).length))) {s with heap:=h'}:=by
 have h0:s.heap.objs.size≤n0:=e0▸Nat.le_trans hL (Nat.le_succ _)
 have fr:∀b:Addr,n0≤b→H b=none:=fun b hb=>I.hok.fresh (Nat.le_trans h0 hb)
 have hS:aR8 H n0 (vs1.zip vs2) L=none:=by
  unfold aR8
  rw[if_neg fun q=>Nat.not_succ_le_self L (Nat.le_trans (Nat.le_of_eq e0.symm) q.1)]
  exact I.hok.fresh hL
 refine⟨hS,dF2 (s:=s) (t':=s.toks) I k (fun b u q=>?_) fun b u q=>?_⟩
 · have:=aN3 (ws:=vs1.zip vs2) fr q
   rw[o8 (t7 this hS)];exact this
 · by_cases hb:b=L
   · subst hb
     rw[P0]at q
     cases q
     exact .inr ⟨hL,by unfold bK7;rw[List.length_map,List.length_range,List.length_zip];exact Nat.le_trans (Nat.min_le_left _ _) z1,_,c',dI9,q2⟩
   · rw[o8 hb]at q
     rcases dF1 q with z|⟨j,pr,rfl,hw,rfl⟩
     ·exact .inl z
     · refine .inr ⟨Nat.le_trans h0 (Nat.le_add_right _ _),by show 2≤sizeLine;decide,?_⟩
       have hw2:=List.getElem?_zip_eq_some.mp (show (vs1.zip vs2)[j]? =some (pr.1,pr.2)from hw)
       obtain⟨x,y,ex,ey,ep⟩:=q3 j (lt_of_get hw)
       obtain⟨w1,f1,rw1⟩:=aX1 rr1 hw2.1
       obtain⟨w2,f2,rw2⟩:=aX1 rr2 hw2.2
       rw[ex]at f1;cases f1
       rw[ey]at f2;cases f2
       exact⟨[x,y],.cons rw1 (.cons rw2 .nil),_,ep,rfl,_,rfl⟩
section
variable{X:Cx}{Z:XC}{a b:Expr}{fs:DSt→M (List D)}{p1 p2 pos1 pos2:Pos}
theorem fD8{pins:PNS}{s1:Shared}{σ:St}{H1:Hp}{Q:VK}{vs:List V}{us:List Value}(hc:X.calm=true)(I1:Inv X pins σ H1 s1)(r1:w6 vs us)(hl:aZ9 (wc X) Z bK8 vs H1 Q):
 wpAny (model X.prog X.w) X.A (call (.type "zip") us) (fun z s2=>wpAny (model X.prog X.w) X.A (call (.type "list") [z]) (EP X pins σ Q) X.xe s2) X.xe s1:=by
 obtain⟨ds,μ1,G1,rd,h1,p1⟩:=hl
 obtain⟨i,j,rfl⟩:=dL5 p1
 obtain⟨v1,t1,rfl,ra1,v2,t2,rfl,ra2,e⟩:=rd
 cases e
 obtain⟨dl1,l1,vs1,rfl,rl1,hq1,p2⟩:=Z5 h1 ra1 p1
 obtain⟨dl2,l2,vs2,rfl,rl2,hq2,p3⟩:=Z5 h1 ra2 p2
 obtain⟨u1,u2,rfl,ru1,ru2⟩:=cZ1 r1
 cases ru1
 cases ru2
 obtain⟨its1,rr1,ht1,z1⟩:=I1.list hq1
 obtain⟨its2,rr2,ht2,z2⟩:=I1.list hq2
 have c1:SC false s1.heap l1 its1.toArray:=ht1.isList
 have c2:SC false s1.heap l2 its2.toArray:=ht2.isList
 refine bK0 c1 c2 fun h5 n en Z=>?_
 have hm:min its1.toArray.size its2.toArray.size= (vs1.zip vs2).length:=by rw[List.length_zip,rr1.length,rr2.length,List.size_toArray,List.size_toArray]
 refine eB2 (k1:=false) (k2:=false) (xs:=its1.toArray) (ys:=its2.toArray) (s:={s1 with heap:=h5}) (I1.ok.hd hc) (eK7 n) (bS0 (en▸c1.lt)) (bS0 (en▸c2.lt)) (fI8 (en▸c1.lt) (en▸c2.lt) Z.sz) (by rw[hm,List.length_zip];exact Nat.le_trans (Nat.min_le_left _ _) z1) Z.g5 ⟨_,_,Z.g4⟩ Z.g3 Z.s1 Z.s2 (c1.keep fun o e=>Z.keep _ o e) (c2.keep fun o e=>Z.keep _ o e) fun h' c' q1 q2 q3=>?_
 rw[hm]at q2 q3
 have e5:({s1 with heap:=h5}:Shared).heap.objs.size=n+5:=Z.sz
 rw[e5]at q2 q3 ⊢
 obtain⟨hS,I2⟩:=eX1 (h':=h') (n0:=n+5+1) I1 (fun b u q=>q1 b u (eT7 (en▸Heap.lt_size q)) (Z.keep _ _ q)) (en▸Nat.le_add_right _ _) rfl rr1 rr2 z1 q2 q3
 have fr:∀b:Addr,n+5+1≤b→H1 b=none:=fun b hb=>I1.hok.fresh (en▸Nat.le_trans (Nat.le_add_right n 6) hb)
 exact⟨.ref (n+5:Nat),_,I2,rfl,aF5 (h1.same (cC6 fr) fun a o e _=>aN3 fr e) (eS0 fr rl1 rl2) (d7.from p3 (cC6 fr)) _ hS⟩
theorem cR4(ha:DA X Z [a,b] fs)(hc:X.calm=true)(hg1:Gl X "list")(hm1:X.mg "list" =none)(hg2:Gl X "zip")(hm2:X.mg "zip" =none)
 (hs1:starEach [Expr.Call (.Name "zip" p2) [a,b] [] pos2] X.env= [(false,eval (.Call (.Name "zip" p2) [a,b] [] pos2) X.env)]) (hs:starEach [a,b] X.env= [(false,eval a X.env),(false,eval b X.env)]) (hs2:starEach [b] X.env= [(false,eval b X.env)])
 (hb1:bootBuiltins "list" =some (.type "list")) (hb2:bootBuiltins "zip" =some (.type "zip")):
 DE X Z (.Call (.Name "list" p1) [.Call (.Name "zip" p2) [a,b] [] pos2] [] pos1) (q12 bK8 fs):=by
 refine⟨?_⟩
 intro pins s σ H Q I hE0
 refine hE0.elim fun dσ μ G sr h p=>?_
 refine Call_ (aL9 I hg1 hm1 hb1 (PyProof.Rows.callWith_type1 ?_ hs1 rfl))
 rw[hs1]
 refine Calls.spliced_cons (Call_ (aL9 I hg2 hm2 hb2 (PyProof.Rows.callWith_type1 (thn (ha.h pos2 pins s σ H _ I ⟨dσ,μ,G,sr,h,(d7.bind p).mono fun ds μ1 G1 H1 x1 h1 p1 vs rv=>(⟨ds,μ1,G1,rv,h1,p1⟩:aZ9 (wc X) Z bK8 vs H1 Q)⟩) fun us s1 hu=>hu.elim fun vs H1 I1 r1 hl=>?_) (by rw[hs,hs2]) (by rw[hs2];rfl))))
 exact wpAny_mono (fD8 hc I1 r1 hl) (fun z s2 h=>Calls.spliced_nil h) fun _ _ h=>h
theorem dY9(ha:DA X Z [a,b] fs)(hc:X.calm=true)(hb:BLs X.mg)(hg1:Gl X "list")(hg2:Gl X "zip")(hs:U6 a=true)(hs2:U6 b=true):DE X Z (.Call (.Name "list" p1) [.Call (.Name "zip" p2) [a,b] [] pos2] [] pos1) (q12 bK8 fs):=
 cR4 ha hc hg1 (hb.h _ (by decide +kernel)) hg2 (hb.h _ (by decide +kernel)) (aF4 rfl) (cK0 hs hs2) (aF4 hs2) dB2 dL0
end
end DL
namespace TS
open PySem PyProof.Rows
section
variable{prog:Program}{w:World}{A:Around}{E:VSP}{s:Shared}
noncomputable def kz(p:Keyed):Int:=numOf p.1
end
def leK(x y:Keyed):Prop:=kz x≤kz y
def Srt(l:List Keyed):Prop:=l.Pairwise leK
structure MI(L out A B:List Keyed):Prop where
 perm:(out++(A++B)).Perm L
 so:Srt out
 oa:∀x∈out,∀y∈A,leK x y
 ob:∀x∈out,∀y∈B,leK x y
 sa:Srt A
 sb:Srt B
structure MJ(L A B S:List Keyed):Prop where
 perm:(A++(B++S)).Perm L
 ss:Srt S
 as:∀x∈A,∀y∈S,leK x y
 bs:∀x∈B,∀y∈S,leK x y
 sa:Srt A
 sb:Srt B
structure LI(a b:Array Keyed)(out:Array Keyed)(ia ib:Nat):Prop where
 mi:MI (a.toList++b.toList) out.toList (a.toList.drop ia) (b.toList.drop ib)
 ha:ia+1<a.size
 hb:ib<b.size
 sz:out.size=ia+ib
section
variable{a b out:Array Keyed}{ia ib:Nat}
end
section
variable{prog:Program}{w:World}{A:Around}{E:VSP}{s:Shared}
end
section
variable{prog:Program}{w:World}{A:Around}{E:VSP}{s:Shared}
end
structure HI(a b:Array Keyed)(out:Array Keyed)(na nb:Nat):Prop where
 mj:MJ (a.toList++b.toList) (a.toList.take na) (b.toList.take nb) out.toList.reverse
 ha:0<na
 hb:1<nb
 la:na≤a.size
 lb:nb≤b.size
 sz:out.size+na+nb=a.size+b.size
section
variable{a b out:Array Keyed}{na nb:Nat}
end
section
variable{prog:Program}{w:World}{A:Around}{E:VSP}{s:Shared}
end
section
variable{prog:Program}{w:World}{A:Around}{E:VSP}{s:Shared}
structure Aft(st st':SortSt)(l:List Keyed)(p:Array (Nat×Nat×Nat)):Prop where
 kind:kindOf st'=oneType'
 arr:(arrOf st').toList=l
 pend:pendingOf st'=p
 fail:failedOf st'=none
end
structure Run(lo:Nat)(st st':SortSt):Prop where
 kind:kindOf st'=oneType'
 pend:pendingOf st'=pendingOf st
 fail:failedOf st'=none
 perm:(arrOf st').Perm (arrOf st)
 low:∀i,i<lo→(arrOf st')[i]? = (arrOf st)[i]?
section
variable{prog:Program}{w:World}{A:Around}{E:VSP}{s:Shared}
end
section
variable{prog:Program}{w:World}{A:Around}{E:VSP}{s:Shared}
end
noncomputable def lay:Nat→List (List Keyed)→List Nat→List (Nat×Nat×Nat)
 |o,r::rs,p::ps=>(o,r.length,p)::lay (o+r.length) rs ps
 |_,_,_=> []
structure GI(a0:List Keyed)(st:SortSt)(rs:List (List Keyed))(ps:List Nat)(T:List Keyed):Prop where
 kind:kindOf st=oneType'
 fail:failedOf st=none
 arr:(arrOf st).toList=rs.flatten++T
 perm:(arrOf st).toList.Perm a0
 len:rs.length=ps.length
 pend:pendingOf st= (lay 0 rs ps).toArray
 ok:∀r∈rs,0<r.length∧Srt r
section
variable{prog:Program}{w:World}{A:Around}{E:VSP}{s:Shared}
end
section
variable{prog:Program}{w:World}{A:Around}{E:VSP}{s:Shared}
end
section
variable{prog:Program}{w:World}{A:Around}{E:VSP}{s:Shared}
end
end TS
namespace DL
open PySem PySem.Spec L2
open PyProof.Rows hiding St
section
variable{prog:Program}{w:World}{A:Around}{E:VSP}{s:Shared}{T:String}{r d:Addr}{n:Nat}{P:Nat→Value→Prop}{OK:Heap→Prop}{Q:VSP}
end
section
variable{X:Cx}{Z:XC}{c:Wc}{μ:List Addr}{H:Hp}{G:DH}
end
section
variable{prog:Program}{w:World}{A:Around}{E:VSP}
end
section
variable{prog:Program}{w:World}{A:Around}{E:VSP}
end
section
variable{X:Cx}{Z:XC}{c:Wc}{μ:List Addr}{H:Hp}{G:DH}
end
section
variable{X:Cx}{Z:XC}{e:Expr}{fe:Fe}{p pn kp pos:Pos}{j:_}
end
structure cT6(X:Cx)(e:Expr)(k:Int):Prop where
 h:PE X e (tC (.int k))
section
variable{X:Cx}{Z:XC}{pos:Pos}{e f:Expr}{i j k:Int}
theorem eO2{m pos}:cT6 X (.Constant (.int i) m pos) i:=⟨dP7⟩
theorem eV9(he:cT6 X e i)(hf:cT6 X f j)(hc:dT8 i j)(hk:i ^ j.toNat=k):cT6 X (.BinOp e .Pow f pos) k:=⟨by
 subst hk
 exact PE.mono (dK7 eV1 he.h hf.h) fun σ H Q q=>⟨i,j,rfl,rfl,hc,q⟩⟩
theorem eU3(he:cT6 X e i)(hf:cT6 X f j)(hk:i-j=k):cT6 X (.BinOp e .Sub f pos) k:=⟨by
 subst hk
 exact PE.mono (dK7 eW4 he.h hf.h) fun σ H Q q=>⟨i,j,rfl,rfl,q⟩⟩
end
end DL
namespace DL
open PySem PySem.W
open PyProof.Rows hiding St
structure WO(lt:Nat→Nat→Bool):Prop where
 tr:∀i j k,lt j i=false→lt k j=false→lt k i=false
 as:∀i j,lt i j=true→lt j i=false
section
variable{lt:Nat→Nat→Bool}{n:Nat}{p:Array Nat}
end
end DL
namespace DL
open PySem PySem.Spec L2
open PyProof.Rows hiding St
section
variable{X:Cx}{pins:PNS}{σ:St}{H:Hp}{s:Shared}
end
section
variable{prog:Program}{w:World}{A:Around}{E:VSP}{s:Shared}{C:Bool→Shared→Prop}
end
section
variable{X:Cx}{Z:XC}{pins:PNS}{σ:St}{H:Hp}{s:Shared}{F:List D→M D}{k:Nat}{f:Addr}{fd:FuncData}{ps:List Str}{μ:List Addr}{G:DH}
end
section
variable{X:Cx}{Z:XC}{e:Expr}{fe:Fe}{p pf kp pos:Pos}{x:Str}{F:List D→M D}
end
section
variable{prog:Program}{w:World}{A:Around}{E:VSP}{s:Shared}
end
section
variable{X:Cx}{Z:XC}{es:List Expr}{pos:Pos}
end
section
variable{X:Cx}{Z:XC}
end
section
variable{X:Cx}{Z:XC}
end
section
variable{prog:Program}{w:World}{A:Around}{E:VSP}{s:Shared}
end
section
variable{prog:Program}{w:World}{A:Around}{E:VSP}{s:Shared}
end
section
variable{prog:Program}{w:World}{A:Around}{E:VSP}{s:Shared}
end
section
variable{X:Cx}{Z:XC}{c:Wc}{μ:List Addr}{H:Hp}{G:DH}
end
section
variable{X:Cx}{Z:XC}{ea eb:Expr}{fa fb:Fe}{p p1 p2 q1 q2 q3 pos:Pos}
end
noncomputable def eY1(A:Around)(s:Shared)(y x:Value)(b:Bool):Prop:=
 ∀(prog:Program) (w:World) (E:VSP) (Q:VSP),Q (.bool b) s→wpAny (model prog w) A (richCompare .GtE y x) Q E s
inductive GeR(A:Around)(s:Shared):List Value→List Value→Bool→Prop
 |nil:GeR A s [] [] true
 |eq {x y xs ys b}:SeqAt.EqAt A s x y true→GeR A s xs ys b→GeR A s (x::xs) (y::ys) b
 |ne {x y xs ys b}:SeqAt.EqAt A s x y false→eY1 A s x y b→GeR A s (x::xs) (y::ys) b
section
open PySem.SeqAt
open PySem.AutoSeq1 (wpAny_loadPart')
open PySem.MeetsSeq PySem.MeetsSeq2 PySem.MeetsSeq3
end
section
variable{X:Cx}{Z:XC}
end
section
variable{X:Cx}{Z:XC}
end
section
variable{X:Cx}{Z:XC}{pins:PNS}{σ:St}{k:Nat}{f:Addr}{fd:FuncData}{ps:List Str}{F:List D→M D}{A:Around}
end
section
variable{X:Cx}{Z:XC}{F:List D→M D}{x:Str}{e:Expr}{fe:Fe}{p pf kp pos:Pos}
end
section
variable{prog:Program}{w:World}{A:Around}{E:VSP}{s:Shared}{K:Type}[DecidableEq K]{knd:KeyKind prog w K}
end
section
variable{X:Cx}{Z:XC}{ea:Expr}{fa:Fe}{p q1 ap pos:Pos}
end
noncomputable def cE4:D→Option Str
 | .str x=>some x
 |_=>none
def aL3:List D→Option (List (Str))
 |[]=>some []
 |d::r=>match cE4 d,aL3 r with
   |some a,some b=>some (a::b)
   |_,_=>none
noncomputable def aO1(p q:Str):Bool:=decide (p.cps.toList<q.cps.toList)
def bI8(p q:Str×D):Bool:= !aO1 q.1 p.1
def aK2(qs:List (Str))(l:List D):List D:=((qs.zip l).mergeSort bI8).map (·.2)
def aP4(F:List D→M D)(l:List D):M D:=do
 let ks ←aK7 F l
 let qs ←aS5 (aL3 ks)
 if qs.Nodup then R1 (.lst (aK2 qs l))else M.stuck
def bC8(F:List D→M D):D→M D
 | .tup l=>if l.length<64 then aP4 F l else M.stuck
 | .ref r=>do
   match ←Q7 r with
   | .lst l=>if l.length<64 then aP4 F l else M.stuck
   | .dct l=>do
     let ss ←aS5 (aL7 l)
     if ss.length<64 then aP4 F (ss.map .str)else M.stuck
   |_=>M.stuck
 |_=>M.stuck
def bB7(F:List D→M D)(f:Fe):Fe:=fun σ=>do
 let x ←f σ
 bC8 F x
theorem bI0(p:Str):aO1 p p=false:=decide_eq_false (List.lt_irrefl _)
theorem bE3{p q r:Str}(h1:aO1 p q=true)(h2:aO1 q r=true):aO1 p r=true:=decide_eq_true (List.lt_trans (of_decide_eq_true h1) (of_decide_eq_true h2))
theorem bH1{p q:Str}(h:p≠q)(h1:aO1 p q=false):aO1 q p=true:=by
 refine decide_eq_true ?_
 have n1:=of_decide_eq_false h1
 have le:q.cps.toList≤p.cps.toList:=List.not_lt.mp n1
 rcases List.le_iff_lt_or_eq.mp le with z|z
 ·exact z
 ·exact absurd (by cases p;cases q;congr 1;exact Array.toList_inj.mp z.symm) h
theorem cI0{qs:List (Str)}{l:List D}(nd:qs.Nodup):∀a∈qs.zip l,∀b∈qs.zip l,a.1=b.1→a=b:=by
 intro a ha b hb e
 obtain⟨i,hi,rfl⟩:=List.mem_iff_getElem.mp ha
 obtain⟨j,hj,rfl⟩:=List.mem_iff_getElem.mp hb
 simp only[List.getElem_zip]at e ⊢
 have:=(List.getElem_inj nd).mp e
 subst this
 rfl
theorem cQ6{qs:List (Str)}{l:List D}(nd:qs.Nodup){z:List (Str×D)}(hp:z.Perm (qs.zip l))(hs:z.Pairwise fun a b=>bI8 a b=true):z.map (·.2)=aK2 qs l:=by
 unfold aK2
 congr 1
 have h2:((qs.zip l).mergeSort bI8).Pairwise fun a b=>bI8 a b=true:=List.pairwise_mergeSort (fun a b c h1 h2=>by
  unfold bI8 at *
  simp only[Bool.not_eq_true']at *
  refine Bool.eq_false_iff.mpr fun h=>?_
  by_cases e:a.1=b.1
  ·rw[e]at h;rw[h]at h2;cases h2
  · have:=bE3 h (bH1 (fun z=>e z.symm) h1)
    rw[this]at h2;cases h2) (fun a b=>by
  unfold bI8
  by_cases e:a.1=b.1
  ·rw[e,bI0];rfl
  · cases q:aO1 b.1 a.1 with
    |false=>rfl
    |true=>
      have:aO1 a.1 b.1=false:=by
       refine Bool.eq_false_iff.mpr fun h=>?_
       have:=bE3 q h
       rw[bI0]at this;cases this
      rw[this];rfl) _
 refine List.Perm.eq_of_pairwise (fun a b ha hb h1 h2=>?_) hs h2 (hp.trans (List.mergeSort_perm _ _).symm)
 refine cI0 nd a (hp.mem_iff.mp ha) b ((List.mergeSort_perm _ _).mem_iff.mp hb) (Classical.byContradiction fun n=>?_)
 unfold bI8 at *
 simp only[Bool.not_eq_true']at *
 have:=bH1 (fun z=>n z.symm) h1
 rw[this]at h2;cases h2
section
variable{X:Cx}{pins:PNS}{σ:St}{H:Hp}{s:Shared}
noncomputable def bU5(h:Heap)(u:Value)(q:Str):Prop:=∃t,u= .str q t
theorem cK6{μ:List Addr}(I:Inv X pins σ H s):∀ {ks:List D} {qs:List (Str)} {kv:List V} {ku:List Value},aL3 ks=some qs→o5 (wc X) μ H ks kv→w6 kv ku→qs.length=ku.length∧∀(i:Nat) (q:Str),qs[i]? =some q→∃u,ku[i]? =some u∧bU5 s.heap u q
 |[],qs,kv,ku,e,r,rv=>by
   cases e;cases r;cases rv
   exact⟨rfl,fun i q z=>by simp at z⟩
 |d::r,qs,kv,ku,e,rr,rv=>by
   obtain⟨v,tl,rfl,rd,rt⟩:=rr
   cases rv with
   |cons ru rur=>
   rename_i u ur
   unfold aL3 at e
   rcases h1:cE4 d with _|a
   ·rw[h1]at e;cases e
   ·
     rcases h2:aL3 r with _|b
     ·rw[h1,h2]at e;cases e
     ·
       rw[h1,h2]at e
       cases e
       obtain⟨hl,hk⟩:=cK6 I h2 rt rur
       refine⟨by simp[hl],fun i q z=>?_⟩
       cases i with
       |succ i=>simpa using hk i q (by simpa using z)
       |zero=>
         simp at z
         subst z
         refine⟨u,rfl,?_⟩
         unfold cE4 at h1
         split at h1
         · cases h1
           rw[bA7 rd]at ru
           obtain⟨t,rfl⟩:=ru
           exact⟨t,rfl⟩
         ·cases h1
end
section
variable{prog:Program}{w:World}{A:Around}{E:VSP}{s:Shared}{C:Bool→Shared→Prop}
theorem eA6{u u':Value}{q q':Str}(hx:bU5 s.heap u q)(hy:bU5 s.heap u' q')(h:C (aO1 q q') s):wpAny (model prog w) A (keyLt' oneType' u u') C E s:=by
 obtain⟨t,rfl⟩:=hx
 obtain⟨t',rfl⟩:=hy
 rw[keyLt'_oneType]
 exact oneLt_str h
theorem dG3:∀ {ku:List Value} {qs:List Str} {h:Heap},qs.length=ku.length→(∀(i:Nat) (q:Str),qs[i]? =some q→∃u,ku[i]? =some u∧bU5 h u q)→StrsAre ku qs:=by
 intro ku
 induction ku with
 |nil=>
   intro qs h hl _
   rcases qs with _|⟨q,r⟩
   ·exact .nil
   ·simp at hl
 |cons u r ih=>
   intro qs h hl hk
   rcases qs with _|⟨q,qr⟩
   ·simp at hl
   · obtain⟨u',e1,t,rfl⟩:=hk 0 q rfl
     simp at e1
     subst e1
     exact .cons q t (ih (by simpa using hl) fun i q hq=>by simpa using hk (i+1) q (by simpa using hq))
theorem eI4{a kS:Addr}{e e1:Nat}{ku vs:List Value}{qs:List (Str)}{P:PySem.Fin→Shared→Prop}(hl:ku.length=vs.length)(h64:vs.length<64)(hq:qs.length=ku.length)(hk:∀(i:Nat) (q:Str),qs[i]? =some q→∃u,ku[i]? =some u∧bU5 s.heap u q)(nd:qs.Nodup)
 (ho1:s.heap.get? kS=some (seqObj "list" (List.toArray ku) e)) (ho2:s.heap.get? a=some (seqObj "list" #[] e1)) (ne:a≠kS)
 (h:∀(h':Heap) (e':Nat) (p:List Nat),p.Perm (List.range vs.length)→p.Pairwise (fun i j=>aO1 (qs.getD i "") (qs.getD j "")=true)→(∀b o,b∉ [a,kS]→s.heap.get? b=some o→h'.get? b=some o)→h'.get? a=some (seqObj "list" (List.toArray (p.map fun i=>vs.getD i Value.none)) e')→P (.done (.ret .none)) {s with heap:=h'}):
 wpAny (model prog w) A (ksk_end a false vs.toArray e1 (.ref kS) (List.toArray ku)) P E s:=by
 unfold ksk_end
 try dsimp only
 simp only[Bool.false_eq_true,if_false]
 by_cases h2:vs.toArray.size<2
 · rw[if_pos h2,if_pos h2]
   refine wpAny_bind (wpAny_pure ?_)
   rw[StateT.run_pure]
   refine wpAny_bind (wpAny_pure ?_)
   dsimp only
   have hv:(arrOf (SortSt.mk' general' ((List.toArray ku).zip vs.toArray) #[] 7 none)).map (·.2)=List.toArray ((List.range vs.length).map fun i=>vs.getD i Value.none):=by
    show ((List.toArray ku).zip vs.toArray).map (·.2)=_
    apply Array.toList_inj.mp
    rw[Array.toList_map]
    apply List.ext_getElem
    ·simp[hl]
    · intro i hi hj
      simp at hi hj ⊢
      simp[hj]
   refine cZ3 hv (by simp;lia) (by lia) rfl ho1 ho2 ne fun h' e' k1 k2=>h h' e' _ (List.Perm.refl _) ?_ k1 k2
   have:vs.length<2:=by simpa using h2
   match hn:vs.length,this with
   |0,_=>simp
   |1,_=>simp[List.range_succ]
 · rw[if_neg h2,if_neg h2]
   have hn2:2≤vs.length:=by simpa using h2
   let lt:Nat→Nat→Bool:=fun i j=>aO1 (qs.getD i "") (qs.getD j "")
   have gq:∀i,i<vs.length→qs[i]? =some (qs.getD i ""):=fun i hi=>by
    rw[List.getD_eq_getElem?_getD,List.getElem?_eq_getElem (by lia)];rfl
   have O:bV1 lt vs.length:=⟨fun i j k h1 h2=>bE3 h1 h2,fun i j hi hj hij h=>bH1 (fun ee=>hij ?_) h⟩
   case refine_1=>
    have e1:=gq i hi
    have e2:=gq j hj
    rw[ee]at e1
    have li:i<qs.length:=by lia
    exact(List.getElem?_inj li nd).mp (e1.trans e2.symm)
   obtain⟨v1,v2,vr,ek⟩:∃v1 v2 vr,ku=v1::v2::vr:=by
    rcases ku with _|⟨v1,_|⟨v2,vr⟩⟩
    ·simp at hl;lia
    ·simp at hl;lia
    ·exact⟨v1,v2,vr,rfl⟩
   have hS:StrsAre ku qs:=dG3 hq hk
   have kk:keyKind' ku.toArray=pure oneType':=by rw[ek]at hS ⊢;exact keyKind_strs hS
   rw[kk]
   refine wpAny_bind (wpAny_pure ?_)
   · have run:=tOk.wp (s:=s) (cmp:=PySem.W.kas_ask prog w A oneType' ku) (fun i j C hi hj hC=>by
      obtain⟨u,u1,u2⟩:=hk i _ (gq i hi)
      obtain⟨v,v1,v2⟩:=hk j _ (gq j hj)
      unfold PySem.W.kas_ask
      rw[List.getD_eq_getElem?_getD,List.getD_eq_getElem?_getD,u1,v1]
      exact eA6 u2 v2 hC) _ (eF5 O hn2)
     refine wpAny_bind (wpAny_mono (PySem.W.kat_run (Q:=fun st' s'=>∃p:Array Nat,p.size=vs.length∧arrOf st'=p.map (PySem.W.kas_item ((List.toArray ku).zip vs.toArray))∧failedOf st'=none∧s'=s∧aC4 p vs.length∧bM6 lt p vs.length) hl hn2 h64 (fun p st' s' a1 a2 a3 a4=>⟨p,a1,a2,a3,a4⟩) run) ?_ fun _ _ x=>x)
     rintro⟨⟨⟩,st'⟩ s' ⟨p,hp,har,hf,rfl,P1,U⟩
     try dsimp only
     refine cZ3 (PySem.W.kat_snds hl har) (by rw[List.length_map,Array.length_toList,hp];exact h64) (by lia) hf ho1 ho2 ne fun h' e' k1 k2=>h h' e' p.toList P1.pm ?_ k1 k2
     rw[List.pairwise_iff_getElem]
     intro i j hi hj hij
     have hi':i<p.size:=by simpa using hi
     have hj':j<p.size:=by simpa using hj
     have:=U i j hij (by lia)
     simpa [Array.getD,hi',hj',lt]using this
end
section
variable{X:Cx}{Z:XC}{pins:PNS}{σ:St}{H:Hp}{s:Shared}{F:List D→M D}{k:Nat}{f:Addr}{fd:FuncData}{ps:List Str}{μ:List Addr}{G:DH}
theorem cD2{qs:List (Str)}{l:List D}{i:Nat}(h1:i<qs.length)(h2:i<l.length):(qs.zip l).getD i ("",.non)= (qs[i],l[i]):=by
 rw[List.getD_eq_getElem?_getD,List.getElem?_eq_getElem (by simp;lia),List.getElem_zip];rfl
theorem cO3{qs:List (Str)}{l:List D}{ws:List V}{vs:List Value}{p:List Nat}(hl:qs.length=l.length)(rl:o5 (wc X) μ H l ws)(rv:w6 ws vs)(nd:qs.Nodup)(hp:p.Perm (List.range vs.length))(hs:p.Pairwise (fun i j=>aO1 (qs.getD i "") (qs.getD j "")=true)):
 ∃ws',w6 ws' (p.map fun i=>vs.getD i Value.none)∧o5 (wc X) μ H (aK2 qs l) ws'∧ws'.length=vs.length:=by
 have hlv:l.length=vs.length:=by rw[rl.length,rv.length]
 have hz:(qs.zip l).length=vs.length:=by simp[hl,hlv]
 have e:=cQ6 (l:=l) nd (z:=p.map fun i=>(qs.zip l).getD i ("",.non)) (cR1 hp hz) (by
  rw[List.pairwise_map]
  refine hs.imp_of_mem fun {i j} hi hj h=>?_
  have li:i<vs.length:=by simpa using hp.mem_iff.mp hi
  have lj:j<vs.length:=by simpa using hp.mem_iff.mp hj
  have ei:((qs.zip l).getD i ("",.non)).1=qs.getD i "":=by rw[cD2 (by lia) (by lia),List.getD_eq_getElem?_getD,List.getElem?_eq_getElem (by lia)];rfl
  have ej:((qs.zip l).getD j ("",.non)).1=qs.getD j "":=by rw[cD2 (by lia) (by lia),List.getD_eq_getElem?_getD,List.getElem?_eq_getElem (by lia)];rfl
  unfold bI8
  rw[ei,ej]
  simp only[Bool.not_eq_true']
  refine Bool.eq_false_iff.mpr fun h2=>?_
  have:=bE3 h h2
  rw[bI0]at this;cases this)
 rw[List.map_map]at e
 have main:∀p:List Nat,(∀i∈p,i<vs.length)→∃ws',w6 ws' (p.map fun i=>vs.getD i Value.none)∧o5 (wc X) μ H (p.map fun i=>((qs.zip l).getD i ("",.non)).2) ws'∧ws'.length=p.length:=by
  intro p
  induction p with
  |nil=>exact fun _=>⟨[],.nil,rfl,rfl⟩
  |cons i r ih=>
    intro hi
    obtain⟨ws',a1,a2,a3⟩:=ih fun j hj=>hi j (List.mem_cons_of_mem _ hj)
    have li:=hi i (by simp)
    obtain⟨v,e1,r1⟩:=rl.get (i:=i) (d:=l[i]'(by lia)) (List.getElem?_eq_getElem (by lia))
    obtain⟨u,e2,r2⟩:=rv.get e1
    refine⟨v::ws',?_,⟨v,ws',rfl,?_,a2⟩,by simp[a3]⟩
    · have:vs.getD i Value.none=u:=by rw[List.getD_eq_getElem?_getD,e2];rfl
      rw[List.map_cons,this]
      exact .cons r2 a1
    · have:((qs.zip l).getD i ("",.non)).2=l[i]'(by lia):=by rw[cD2 (by lia) (by lia)]
      show g8 (wc X) μ H (((qs.zip l).getD i ("",.non)).2) v
      rw[this]
      exact r1
 obtain⟨ws',a1,a2,a3⟩:=main p fun i hi=>by simpa using hp.mem_iff.mp hi
 exact⟨ws',a1,by rw[←e];exact a2,by rw[a3,hp.length_eq];simp⟩
theorem cM8{u:Value}{l:List D}{Q:VK}(hF:J6 X.prog X.w X.K X.mg X.base CX0 k f fd ps (spD (wc X) 1 F))(hb:aS4 X.K fd ps [])(hrm:X4 (k+2) X.A)(I:Inv X pins σ H s)(hr:t8 (wc X) μ G H)(h64:l.length<64)
 (hcol:∀(Q':List Value→Shared→Prop),(∀(h1:Heap) (tk:Nat) (vs:List Value) (ws:List V),(∀b o,s.heap.get? b=some o→h1.get? b=some o)→w6 ws vs→o5 (wc X) μ H l ws→Q' vs {s with heap:=h1,toks:=tk})→wpAny (model X.prog X.w) X.A.in1 (collect u) Q' X.xe s)
 (p:d7 (wc X) Z μ H (aP4 F l G) (fun d μ' _ H'=>∀v,g8 (wc X) μ' H' d v→Q v H')):wpAny (model X.prog X.w) X.A (call (.builtin "sorted") [u] [(Str.ofString "key",.ref f)]) (EP X pins σ Q) X.xe s:=by
 refine call_function_entry_kw kind_sorted plain_sorted entry_sorted (ksk_s1 _ _) ?_
 unfold Builtin.«sorted»
 refine wpAny_bind (m:=checkCount "sorted" 1 1 _) (wpAny_pure ?_)
 refine wpAny_bind (hcol _ fun h1 tk vs ws k1 rv rl=>?_)
 have hlv:l.length=vs.length:=by rw[rl.length,rv.length]
 refine wpAny_bind (wpAny_newList ?_ (by rw[sizeLine_eq];lia))
 have I1:Inv X pins σ H {s with heap:=h1,toks:=tk}:=I.kept k1
 have hoL:(h1.push (seqObj "list" vs.toArray 0)).get? h1.objs.size=some (seqObj "list" vs.toArray 0):=Heap.get?_push_size _ rfl
 refine wpAny_bind (wpAny_holding (wpAny_call_entry_kw slot_list_sort ⟨_,hoL,rfl⟩ entry_list_sort ?_ (ksk_l1 _ _)))
 show wpAny (model X.prog X.w) X.A.in1.in1 (Builtin.«list.sort» ⟨[.ref h1.objs.size], [(Str.ofString "key",.ref f)]⟩) _ _ _
 rw[ksk_t1]
 unfold ksk_tree
 refine wpAny_bind (listItems_at hoL rfl ?_)
 refine wpAny_bind (listUpdate_at hoL rfl ?_ (by rw[List.size_toArray,sizeLine_eq];lia) (Nat.zero_le _))
 obtain⟨e1,ho1⟩:∃e1,((h1.push (seqObj "list" vs.toArray 0)).update h1.objs.size (Obj.mapSeq fun _=>(#[]:Array Value))).get? h1.objs.size=some (seqObj "list" #[] e1):=⟨_,get?_update_seq hoL fun _=> #[]⟩
 refine wpAny_bind (seqEpoch_at ho1 rfl ?_)
 refine wpAny_bind (wpAny_newTuple ?_ (by show vs.length≤_;rw[sizeLine_eq];lia))
 refine wpAny_bind (wpAny_newList ?_ (Nat.zero_le _))
 refine wpAny_holding ?_
 have hsz:((h1.push (seqObj "list" vs.toArray 0)).update h1.objs.size (Obj.mapSeq fun _=>(#[]:Array Value))).objs.size=h1.objs.size+1:=by rw[Heap.size_update,size_push']
 have hkS:(((h1.push (seqObj "list" vs.toArray 0)).update h1.objs.size (Obj.mapSeq fun _=>(#[]:Array Value))).push (seqObj "tuple" vs.toArray 0)).objs.size=h1.objs.size+2:=by rw[size_push',hsz]
 have keep:∀b o,h1.get? b=some o→((((h1.push (seqObj "list" vs.toArray 0)).update h1.objs.size (Obj.mapSeq fun _=>(#[]:Array Value))).push (seqObj "tuple" vs.toArray 0)).push (seqObj "list" #[] 0)).get? b=some o:=fun b o q=>by
  have hlt:b<h1.objs.size:=Heap.lt_size q
  rw[Heap.get?_push_ne _ _ _ (by rw[hkS];exact Nat.ne_of_lt (Nat.lt_succ_of_lt (Nat.lt_succ_of_lt hlt))),Heap.get?_push_ne _ _ _ (by rw[hsz];exact Nat.ne_of_lt (Nat.lt_succ_of_lt hlt)),Heap.get?_update_ne _ _ _ _ (Nat.ne_of_lt hlt),Heap.get?_push_ne _ _ _ (Nat.ne_of_lt hlt)]
  exact q
 have I2:Inv X pins σ H {s with heap:=(((h1.push (seqObj "list" vs.toArray 0)).update h1.objs.size (Obj.mapSeq fun _=>(#[]:Array Value))).push (seqObj "tuple" vs.toArray 0)).push (seqObj "list" #[] 0),toks:=tk}:=I1.kept keep
 have na:H h1.objs.size=none:=I1.hok.fresh (Nat.le_refl _)
 have nk:H (h1.objs.size+2)=none:=I1.hok.fresh (Nat.le_add_right _ _)
 have ga:((((h1.push (seqObj "list" vs.toArray 0)).update h1.objs.size (Obj.mapSeq fun _=>(#[]:Array Value))).push (seqObj "tuple" vs.toArray 0)).push (seqObj "list" #[] 0)).get? h1.objs.size=some (seqObj "list" #[] e1):=Heap.get?_push_of_some _ (Heap.get?_push_of_some _ ho1)
 have gk:((((h1.push (seqObj "list" vs.toArray 0)).update h1.objs.size (Obj.mapSeq fun _=>(#[]:Array Value))).push (seqObj "tuple" vs.toArray 0)).push (seqObj "list" #[] 0)).get? (h1.objs.size+2)=some (seqObj "list" (List.toArray []) 0):=by
  rw[←hkS];exact Heap.get?_push_size _ rfl
 have fa:∀H':Hp,H' h1.objs.size=none→aH2 X pins H' h1.objs.size:=fun H' hn=>I1.fpOk (Nat.le_refl _) hn
 have fk:∀H':Hp,H' (h1.objs.size+2)=none→aH2 X pins H' (h1.objs.size+2):=fun H' hn=>I1.fpOk (Nat.le_add_right _ _) hn
 have ne:h1.objs.size≠h1.objs.size+2:=by lia
 unfold aP4 at p
 have pk:d7 (wc X) ZF μ H (aK7 F l G) (fun ks μ' G' H'=>ks.length=l.length∧d7 (wc X) Z μ' H' ((aS5 (aL3 ks) >>= fun qs=>if qs.Nodup then R1 (.lst (aK2 qs l))else M.stuck) G') (fun d μ' _ H'=>∀v,g8 (wc X) μ' H' d v→Q v H')):=by
  have q:=d7.bind p
  have hkl:∀(l:List D) (G:DH) (ks:List D) (G':DH),aK7 F l G=some (.ok ks,G')→ks.length=l.length:=by
   intro l
   induction l with
   |nil=>intro G ks G' z;cases z;rfl
   |cons d r ih=>
     intro G ks G' z
     unfold aK7 at z
     rw[M.bind_eq]at z
     match h:noX (F [d]) G,z with
     |some (.ok kk,G1),z=>
       dsimp only at z
       rw[M.bind_eq]at z
       match h2:aK7 F r G1,z with
       |some (.ok ks,G2),z=>
         cases z
         simp[ih _ _ _ h2]
  have kne:∀(l:List D) (G:DH) (x:Str) (G':DH),aK7 F l G≠some (.error x,G'):=by
   intro l
   induction l with
   |nil=>intro G x G' z;cases z
   |cons d r ih=>
     intro G x G' z
     unfold aK7 at z
     rw[M.bind_eq]at z
     have nx:∀x G',noX (F [d]) G≠some (.error x,G'):=fun x G' z=>by
      unfold noX at z
      try dsimp only at z
      split at z<;>cases z
     match h:noX (F [d]) G,z with
     |some (.error y,G1),z=>exact nx _ _ h
     |some (.ok kk,G1),z=>
       dsimp only at z
       rw[M.bind_eq]at z
       match h2:aK7 F r G1,z with
       |some (.error y,G2),z=>exact ih _ _ _ h2
       |some (.ok ks,G2),z=>cases z
  match hh:aK7 F l G,q with
  |some (.ok ks,G1),q=>exact fun μ' H' x h=>⟨hkl _ _ _ _ hh,q μ' H' x h⟩
  |some (.error x,G1),q=>exact(kne _ _ _ _ hh).elim
 rw[hkS]
 show wpAny (model X.prog X.w) X.A.in1.in1 (ksk_rest h1.objs.size (.ref f) false vs.toArray e1 (.ref (h1.objs.size+2))) _ _ _
 unfold ksk_rest
 refine wpAny_bind (wpAny_rule ?_)
 first
  |rw[List.forIn_toArray]
  |(rw[←Array.forIn_toList];simp only[List.toList_toArray])
  |rw[←Array.forIn_toList]
 refine wpAny_bind (cX9 (X:=X) (pins:=pins) (σ:=σ) (A:=X.A.in1.in1) hF hb hrm.in1.in1 rfl rfl fa fk ne (fun x s0 R hx=>?_) l ws vs [] [] [] 0 μ G H _ rl rv rfl .nil hr I2 gk ga na nk (by simp;lia) ?_)
 · refine wpAny_bind (wpAny_attempt (wpAny_mono hx (fun kv s'' hk=>?_) fun _ _ hF=>hF.elim))
   obtain⟨ks,e,hks,g,hR⟩:=hk
   try dsimp only
   refine wpAny_bind (listUpdate_at g rfl ?_ (by rw[List.size_toArray,sizeLine_eq];lia) (Nat.le_trans (Nat.le_of_eq (Array.size_push ..)) (by rw[List.size_toArray,sizeLine_eq];lia)))
   exact wpAny_pure ⟨rfl,hR⟩
 · refine pk.mono fun ks μ' G' H' x1 hr1 ⟨hks,p1⟩ s' kv ku e' _ _ q1 q2 I' g1 g2 n1 n2=>?_
   rw[List.nil_append]at q1
   obtain⟨qs,eq,p2⟩:=aC1 p1
   split at p2
   case isFalse=>exact p2.elim
   rename_i nd
   obtain⟨hl1,hk1⟩:=cK6 I' eq q1 q2
   try dsimp only
   refine wpAny_bind (listItems_at g1 rfl ?_)
   have hkv:ku.length=vs.length:=by
    rw[←q2.length,←q1.length,hks,hlv]
   refine eI4 hkv (by lia) hl1 hk1 nd g1 g2 ne fun h' e2 pp hp hs keep2 gg=>?_
   have rl':o5 (wc X) μ' H' l ws:=rl.mono x1
   obtain⟨ws',a1,a2,a3⟩:=cO3 (by rw[hl1,hkv,hlv]) rl' rv nd hp hs
   refine⟨_,rfl,wpAny_pure ⟨_,rfl,.ref h1.objs.size,upd H' h1.objs.size (.lst ws'),dI6 (t':=s'.toks) (ch:= [h1.objs.size,h1.objs.size+2]) I' (fun b hb=>?_) (by simp) keep2 ⟨by rw[a3,sizeLine_eq];lia,_,e2,a1,gg⟩,rfl,aF5 hr1 a2 p2 _ n1⟩⟩
   rcases List.mem_cons.mp hb with rfl|hb
   ·exact fa _ n1
   ·rw[List.mem_singleton]at hb;subst hb;exact fk _ n2
theorem eD2{v:V}{u:Value}{d:D}{Q:VK}(hc:X.calm=true)(hF:J6 X.prog X.w X.K X.mg X.base CX0 k f fd ps (spD (wc X) 1 F))(hb:aS4 X.K fd ps [])(hrm:X4 (k+2) X.A)(I:Inv X pins σ H s)(hr:t8 (wc X) μ G H)(rd:g8 (wc X) μ H d v)(ru:J2 v u)
 (p:d7 (wc X) Z μ H (bC8 F d G) (fun d μ' _ H'=>∀v,g8 (wc X) μ' H' d v→Q v H')):wpAny (model X.prog X.w) X.A (call (.builtin "sorted") [u] [(Str.ofString "key",.ref f)]) (EP X pins σ Q) X.xe s:=by
 have seq:∀ {a:Addr} {T:String} {o:Obj} {its:List Value} {vs:List V} {n:Nat} {l:List D},(T= "list"∨T= "tuple")→s.heap.get? a=some o→o.cls= .type T→o.data= .seq its.toArray n→w6 vs its→o5 (wc X) μ H l vs→vs.length≤sizeLine→
  d7 (wc X) Z μ H ((if l.length<64 then aP4 F l else M.stuck:M D) G) (fun d μ' _ H'=>∀v,g8 (wc X) μ' H' d v→Q v H')→wpAny (model X.prog X.w) X.A (call (.builtin "sorted") [.ref a] [(Str.ofString "key",.ref f)]) (EP X pins σ Q) X.xe s:=by
  intro a T o its vs n l hT h1 h2 h3 rv rl hz p
  split at p
  case isFalse=>exact p.elim
  rename_i h64
  refine cM8 hF hb hrm I hr h64 (fun Q' hQ=>wpAny_collect_seq a hT h1 h2 h3 (fun h' kk=>?_) (by rw[List.size_toArray,←rv.length];exact hz)) p
  exact hQ h' s.toks its vs kk rv rl
 unfold bC8 at p
 split at p
 · rename_i l
   unfold g8 at rd
   obtain⟨a,vs,rfl,q,rl⟩:=rd
   cases ru
   obtain⟨its,rv,⟨o,h1,h2,n,h3⟩,hz⟩:=I.tuple q
   exact seq (.inr rfl) h1 h2 h3 rv rl hz p
 · rename_i i
   unfold g8 at rd
   obtain⟨a,m,rfl⟩:=rd
   cases ru
   obtain⟨o,g,p1⟩:=Q6 p
   have ro:=hr.obj i o a g m
   rcases o with l|l|l|l
   ·
     obtain⟨vs,q,rl⟩:=ro
     obtain⟨its,rv,pl,hz⟩:=I.list (SqL.of q)
     obtain⟨o,h1,h2,n,h3⟩:=pl.isList
     exact seq (.inl rfl) h1 h2 h3 rv rl hz p1
   ·exact p1.elim
   ·
     obtain⟨kvs,q,rk⟩:=ro
     obtain⟨ss,es,p2⟩:=aC1 p1
     split at p2
     case isFalse=>exact p2.elim
     rename_i h64
     obtain⟨z,hd,vs,rel,dd⟩:=dR5 I.hok q
     obtain⟨ep,hat⟩:=dd.dictAt
     have hn:vs.length=ss.length:=by rw[bJ1 es,←rel.length,←rk.length]
     refine cM8 hF hb hrm I hr (l:=ss.map .str) (by simpa using h64) (fun Q' hQ=>PySem.W.kdu_collect (PySem.W.kdl_dict (knd:=N6 X.prog X.w) (kvs:=vs) (ep:=ep) hd) (I.ok.hd hc) hat (by rw[sizeLine_eq];omega) fun h1 tk acc hk hacc=>?_) p2
     have hS:StrsAre acc.toList ss:=bD8 es rk rel (by rw[Array.length_toList];exact hacc.1) fun j v e=>hacc.2 j v (by rw[←Array.getElem?_toList];exact e)
     obtain⟨ws,ew,rv,rl2⟩:=cJ2 (c:=wc X) (μ:=μ) (H:=H) hS
     exact hQ h1 tk acc.toList ws hk rv rl2
   ·exact p1.elim
 ·exact p.elim
end
section
variable{X:Cx}{Z:XC}{e:Expr}{fe:Fe}{p pf kp pos:Pos}{x:Str}{F:List D→M D}
theorem dE3(hc:X.calm=true)(hF:∃k kk,b8 F 1 x X.prog X.w X.K X.mg X.base k∧X4 kk X.A∧k+2≤kk)(hbl:BLs X.mg)(hgs:Gl X "sorted")(hg:Gl X x)(he:DE X Z e fe)(hs:U6 e=true)(hdb:(x==("__debug__" :Str))=false):
 DE X Z (.Call (.Name "sorted" p) [e] [⟨some "key",.Name x pf,kp⟩] pos) (bB7 F fe):=⟨by
 intro pins s σ H Q I h
 obtain⟨k,kk,hF,hrm,hk⟩:=hF
 obtain⟨f,fd,ps,f1,f2,f3,f4⟩:=hF.ex
 have hbs:bootBuiltins ("sorted" :Str)=some (.builtin "sorted"):=dE2
 refine wpAny_Call_Name_kw (aL9 I hgs (hbl.h _ (by decide +kernel)) hbs ?_ (by decide) (by decide))
 obtain⟨dσ,μ,G,sr,hr,pp⟩:=h
 unfold bB7 at pp
 have pa:=d7.bind pp
 have hst:starEach [e] X.env= (false,eval e X.env)::starEach [] X.env:=aF4 hs
 refine callWith_builtin_kwB (by rw[aQ9];exact aU7 (by rw[List.all_cons,hs];rfl)) rfl (evalArgs_kw2 rfl ?_ hst)
 have ha:DA X Z [e] (q10 fe q11):=q15 he q16 hst
 refine thn (ha.h pos pins s σ H (fun vs H1=>∃v d μ1 G1,vs= [v]∧g8 (wc X) μ1 H1 d v∧t8 (wc X) μ1 G1 H1∧d7 (wc X) Z μ1 H1 (bC8 F d G1) (fun d μ' _ H'=>∀v,g8 (wc X) μ' H' d v→Q v H')) I ?_) fun us s1 ⟨vs,H1,I1,r1,v,d,μ1,G1,e1,rd,hr1,p1⟩=>?_
 · refine⟨dσ,μ,G,sr,hr,?_⟩
   show d7 (wc X) Z μ H ((fe dσ >>= fun y=>(pure [y]:M (List D))) G) _
   match hm:fe dσ G,pa with
   |some (.ok y,G1),pa=>
     rw[M.bind_ok hm]
     intro μ' H' x1 h1 vs rv
     obtain⟨v,ev,rv2⟩:=bA4 rv
     subst ev
     exact⟨v,y,μ',G1,rfl,rv2,h1,pa μ' H' x1 h1⟩
   |some (.error y,G1),pa=>
     rw[M.bind_eq,hm]
     exact pa
 · subst e1
   obtain⟨u,rfl,ru⟩:=aG5 r1
   show wpAny _ _ (evalAll [(do let v ←eval (.Name x pf) X.env;standAt pos;pure v)]) _ _ s1
   refine wpAny_evalAll_cons (wpAny_bind (bN3 I1 hg f2 (wpAny_bind (wpAny_standAt (wpAny_pure (wpAny_evalAll_nil ?_)))) hdb))
   exact eD2 hc f1 f4 (hrm.mono hk) I1 hr1 rd ru p1⟩
end
end DL
namespace W
open PySem PySem.Spec L2 DL
open PyProof.Rows hiding St
def YA:Fs:=(K3 (d9 aG2 (c7 1) (Z7 (q10 (o4 (q10 (cE (.str ("list" :Str))) (q10 (o4 (q10 (c7 2) (q11))) (q11)))) (q10 (o4 (q10 (cE (.str ("record" :Str))) (q10 (o4 (q10 (o4 (q10 (cE (.str ("a" :Str))) (q10 (c7 2) (q11)))) (q11))) (q11)))) (q10 (o4 (q10 (cE (.str ("record" :Str))) (q10 (o4 (q10 (o4 (q10 (cE (.str ("c" :Str))) (q10 (c7 2) (q11)))) (q11))) (q11)))) (q11)))))) (q13 1))
def YB:Fs:=(K3 (d9 aG2 (c7 1) (Z7 (q10 (o4 (q10 (cE (.str ("list" :Str))) (q10 (o4 (q10 (c7 2) (q10 (c7 3) (q11)))) (q11)))) (q10 (o4 (q10 (cE (.str ("record" :Str))) (q10 (o4 (q10 (o4 (q10 (cE (.str ("a" :Str))) (q10 (c7 2) (q11)))) (q10 (o4 (q10 (cE (.str ("c" :Str))) (q10 (c7 3) (q11)))) (q11)))) (q11)))) (q11))))) (q13 1))
def YP:Fe:=(Z7 (q10 (unE dO8 (cE (.int 2))) (q10 (unE dO8 (cE (.int 1))) (q10 (cE (.int 0)) (q10 (cE (.int 1)) (q10 (cE (.int 2)) (q10 (cE (.int 3)) (q10 (cE (.str ("" :Str))) (q10 (cE (.str ("a" :Str))) (q10 (cE (.str ("q" :Str))) (q10 (cE (.bl false)) (q10 (cE (.bl true)) (q10 (o4 (q10 (cE (.str ("list" :Str))) (q10 (o4 (q11)) (q11)))) (q10 (o4 (q10 (cE (.str ("record" :Str))) (q10 (o4 (q11)) (q11)))) (q11)))))))))))))))
def aF1:Fs:=m8 (K3 YP (q13 0)) (m8 (K3 (q12 aY8 (q10 (c7 0) (q11))) (q13 1)) (m8 (aS6 (itW (c7 0)) (q13 2) YA) (m8 (aS6 (itW (c7 0)) (q13 2) (aS6 (itW (c7 0)) (q13 3) YB)) (o6 (c7 1)))))
def X3:List D→M D:=J1 4 aF1
def aT3:Fs:=m8 (K3 (cE (.int 0)) (q13 3)) (m8 (ifS (J8 (d9 neD (c7 0) (Z7 (q11)))) (K3 (d9 bV5 (q12 dC2 (q10 (c7 0) (q11))) (cE (.int 2))) (q13 3)) (J9)) (o6 (Z7 (q10 (c7 1) (q10 (d9 bV5 (d9 cH1 (d9 aG2 (d9 aG2 (d9 bV5 (c7 1) (cE (.int 2147483629))) (d9 cH1 (cE (.int 7919)) (c7 2))) (cE (.int 1))) (cE (.int 48271))) (cE (.int 2147483647))) (q10 (c7 3) (q10 (cE (.int 0)) (q11))))))))
def aC6:List D→M D:=J1 4 aT3
def aV8:Fs:=m8 (ifS (J8 (d9 eqD (d9 ixD (c7 0) (cE (.int 2))) (cE (.int 0)))) (m8 (K3 (d9 bV5 (d9 ixD (c7 0) (cE (.int 0))) (c7 1)) (q13 2)) (m8 (K3 (d9 cM5 (d9 ixD (c7 0) (cE (.int 0))) (c7 1)) (dF6 (c7 0) (cE (.int 0)))) (o6 (c7 2)))) (J9)) (m8 (K3 (d9 aG2 (d9 bV5 (d9 cH1 (d9 ixD (c7 0) (cE (.int 1))) (d9 ixD (c7 0) (cE (.int 1)))) (cE (.int 2147483629))) (cE (.int 3))) (dF6 (c7 0) (cE (.int 1)))) (o6 (d9 bV5 (d9 cM5 (d9 bV5 (d9 cH1 (d9 ixD (c7 0) (cE (.int 1))) (cE (.int 69621))) (cE (.int 2147483563))) (cE (.int 8))) (c7 1))))
def m5:List D→M D:=J1 3 aV8
def aH1:Fs:=m8 (K3 (Z7 (q10 (o4 (q11)) (q10 (o4 (q10 (o4 (q10 (cE .non) (q10 (cE .non) (q11)))) (q11))) (q10 (o4 (q10 (o4 (q10 (cE (.int 0)) (q10 (cE (.int 0)) (q11)))) (q11))) (q10 (o4 (q10 (o4 (q10 (cE (.int 0)) (q10 (cE (.int 1)) (q11)))) (q11))) (q10 (o4 (q10 (o4 (q10 (cE (.int 0)) (q10 (cE (.int 0)) (q11)))) (q10 (o4 (q10 (cE (.int 2)) (q10 (cE (.int 2)) (q11)))) (q11)))) (q10 (o4 (q10 (o4 (q10 (cE .non) (q10 (cE (.int 0)) (q11)))) (q11))) (q10 (o4 (q10 (o4 (q10 (cE (.int 1)) (q10 (cE .non) (q11)))) (q11))) (q11))))))))) (q13 1)) (m8 (aU9 (mtE X7 aW2 (c7 1) (q10 (o4 (q10 (o4 (q10 (cE .non) (q10 (unE dO8 (cE (.int 1))) (q11)))) (q10 (o4 (q10 (cE (.int 1)) (q10 (cE (.int 2)) (q11)))) (q11)))) (q11)))) (m8 (K3 (Z7 (q10 (o4 (q10 (cE (.str ("of" :Str))) (q10 (o4 (q11)) (q11)))) (q10 (o4 (q10 (cE (.str ("but" :Str))) (q10 (o4 (q11)) (q11)))) (q10 (o4 (q10 (cE (.str ("of" :Str))) (q10 (o4 (q10 (cE (.str ("" :Str))) (q11))) (q11)))) (q10 (o4 (q10 (cE (.str ("of" :Str))) (q10 (o4 (q10 (cE (.str ("a" :Str))) (q11))) (q11)))) (q10 (o4 (q10 (cE (.str ("of" :Str))) (q10 (o4 (q10 (cE (.str ("" :Str))) (q10 (cE (.str ("a" :Str))) (q11)))) (q11)))) (q10 (o4 (q10 (cE (.str ("but" :Str))) (q10 (o4 (q10 (cE (.str ("a" :Str))) (q11))) (q11)))) (q11)))))))) (q13 2)) (m8 (aU9 (mtE X7 aW2 (c7 2) (q10 (o4 (q10 (cE (.str ("but" :Str))) (q10 (o4 (q10 (cE (.str ("" :Str))) (q10 (cE (.str ("a" :Str))) (q11)))) (q11)))) (q11)))) (m8 (K3 (Z7 (q10 (o4 (q11)) (q10 (o4 (q10 (cE (.bl false)) (q11))) (q10 (o4 (q10 (cE (.bl true)) (q11))) (q10 (o4 (q10 (cE (.bl false)) (q10 (cE (.bl true)) (q11)))) (q11)))))) (q13 3)) (o6 (o4 (q10 (d9 ixD (c7 1) (q12 (fnX 2 m5) (q10 (c7 0) (q10 (cE (.int 8)) (q11))))) (q10 (d9 ixD (c7 2) (q12 (fnX 2 m5) (q10 (c7 0) (q10 (cE (.int 7)) (q11))))) (q10 (d9 ixD (c7 3) (q12 (fnX 2 m5) (q10 (c7 0) (q10 (cE (.int 4)) (q11))))) (q11))))))))))
def R3:List D→M D:=J1 4 aH1
def aV2:Fs:=o6 (o4 (q10 (o4 (q11)) (q10 (o4 (q10 (cE (.str ("of" :Str))) (q10 (o4 (q11)) (q11)))) (q10 (o4 (q11)) (q10 (cE .non) (q10 (cE .non) (q11)))))))
def M7:List D→M D:=J1 0 aV2
def bB9:Fs:=o6 (o4 (q10 (o4 (q10 (o4 (q10 (cE .non) (q10 (cE .non) (q11)))) (q11))) (q10 (o4 (q10 (cE (.str ("but" :Str))) (q10 (o4 (q11)) (q11)))) (q10 (o4 (q10 (cE (.bl false)) (q10 (cE (.bl true)) (q11)))) (q10 (o4 (q10 (o4 (q11)) (q10 (cE (.str ("any" :Str))) (q11)))) (q10 (o4 (q10 (o4 (q11)) (q10 (cE (.str ("any" :Str))) (q11)))) (q11)))))))
def aA3:List D→M D:=J1 0 bB9
def IB:Fs:=(K3 (d9 aG2 (c7 2) (o4 (q10 (d9 ixD (Z7 (q10 (cE .non) (q10 (d9 ixD (q12 (fnX 0 aA3) (q11)) (c7 3)) (q11)))) (q12 (fnX 2 m5) (q10 (c7 0) (q10 (cE (.int 2)) (q11))))) (q11)))) (q13 2))
def aG9:Fs:=m8 (K3 (q12 (fnX 2 m5) (q10 (c7 0) (q10 (cE (.int 4)) (q11)))) (q13 1)) (m8 (ifS (J8 (d9 eqD (c7 1) (cE (.int 0)))) (o6 (d9 ixD (Z7 (q10 (cE (.str ("any" :Str))) (q10 (q12 (fnX 0 M7) (q11)) (q10 (q12 (fnX 0 M7) (q11)) (q11))))) (q12 (fnX 2 m5) (q10 (c7 0) (q10 (cE (.int 3)) (q11)))))) (J9)) (m8 (K3 (q12 (fnX 1 R3) (q10 (c7 0) (q11))) (q13 2)) (m8 (aS6 (itW (Z7 (q10 (cE (.int 3)) (q10 (cE (.int 4)) (q11))))) (q13 3) IB) (o6 (d9 ixD (Z7 (q10 (cE (.str ("any" :Str))) (q10 (c7 2) (q11)))) (q12 dM9 (q10 (d9 neD (c7 2) (q12 (fnX 0 aA3) (q11))) (q11))))))))
def U0:List D→M D:=J1 4 aG9
def RL:Fs:=(ifS (J8 (d9 gtD (q12 (fnX 2 m5) (q10 (c7 0) (q10 (cE (.int 3)) (q11)))) (cE (.int 0)))) (K3 (o4 (q10 (q12 aI4 (q10 (K8 (aW0 (q10 (q12 (fnX 2 m5) (q10 (c7 0) (q10 (cE (.int 2)) (q11)))) (q11))) [none,some 0] (q13 0) (M4) (q12 (fnX 1 U0) (q10 (c7 1) (q11)))) (q11))) (q10 (q12 (fnX 1 U0) (q10 (c7 0) (q11))) (q11)))) (q13 1)) (J9))
def RR:Fs:=(ifS (J8 (d9 gtD (q12 (fnX 2 m5) (q10 (c7 0) (q10 (cE (.int 3)) (q11)))) (cE (.int 0)))) (m8 (K3 (K8 (aW0 (q10 (q12 (fnX 2 m5) (q10 (c7 0) (q10 (cE (.int 2)) (q11)))) (q11))) [none,some 0] (q13 0) (M4) (o4 (q10 (cE (.str ("a" :Str))) (q10 (d9 eqD (q12 (fnX 2 m5) (q10 (c7 1) (q10 (cE (.int 2)) (q11)))) (cE (.int 1))) (q10 (q12 (fnX 1 U0) (q10 (c7 1) (q11))) (q11)))))) (q13 3)) (K3 (o4 (q10 (q12 aI4 (q10 (c7 3) (q11))) (q10 (q12 (fnX 1 U0) (q10 (c7 0) (q11))) (q11)))) (q13 2))) (J9))
def aO8:Fs:=m8 (K3 (cE .non) (q13 1)) (m8 (K3 (cE .non) (q13 2)) (m8 RL (m8 RR (o6 (d9 aG2 (q12 (fnX 1 R3) (q10 (c7 0) (q11))) (o4 (q10 (c7 1) (q10 (c7 2) (q11)))))))))
def U5:List D→M D:=J1 4 aO8
def aF9:Fs:=o6 (ifE (orT (J8 (d9 bF5 (c7 0) (cE .non))) (J8 (d9 inX (cE (.tup [.tup [],.tup [.str ("of" :Str),.tup []],.tup [],.non,.non])) (d9 ixD (c7 0) (cE (.int 0)))))) (cE .non) (c7 0))
def W7:List D→M D:=J1 1 aF9
def aD6:Fs:=m8 (ifS (orT (J8 (d9 bF5 (c7 0) (cE .non))) (J5 (q12 cS0 (q10 (K8 (itW (d9 ixD (c7 0) (cE (.int 0)))) [none,none,none] (aG0 3 (J4 (q13 0) (J4 (q13 1) (J4 (q13 2) (aJ8))))) (M4) (X5 (c7 1) (d9 eqD (c7 2) (cE (.tup [.tup [],.tup [.str ("of" :Str),.tup []],.tup [],.non,.non]))))) (q11))))) (o6 (cE .non)) (J9)) (o6 (o4 (q10 (q12 aI4 (q10 (K8 (itW (d9 ixD (c7 0) (cE (.int 0)))) [none,some 0] (q13 0) (orT (J5 (d9 ixD (c7 0) (cE (.int 1)))) (J8 (d9 neD (d9 ixD (c7 0) (cE (.int 2))) (d9 ixD (c7 1) (cE (.int 1)))))) (c7 0)) (q11))) (q10 (d9 ixD (c7 0) (cE (.int 1))) (q11)))))
def T9:List D→M D:=J1 1 aD6
def cU9:Fs:=m8 (K3 (o4 (q10 (c7 0) (q10 (c7 1) (q10 (c7 2) (q10 (q12 (fnX 1 W7) (q10 (c7 3) (q11))) (q10 (q12 (fnX 1 T9) (q10 (c7 4) (q11))) (q11))))))) (q13 5)) (o6 (ifE (J8 (d9 eqD (c7 5) (cE (.tup [.tup [.tup [.non,.non]],.tup [.str ("but" :Str),.tup []],.tup [.bl false,.bl true],.tup [.tup [],.str ("any" :Str)],.tup [.tup [],.str ("any" :Str)]])))) (cE (.str ("any" :Str))) (c7 5)))
def Z0:List D→M D:=J1 6 cU9
def aK3:Fs:=o6 (q12 (fnX 5 Z0) (q10 (d9 ixD (c7 0) (cE (.int 0))) (q10 (d9 ixD (c7 0) (cE (.int 1))) (q10 (d9 ixD (c7 0) (cE (.int 2))) (q10 (d9 ixD (c7 0) (cE (.int 3))) (q10 (d9 ixD (c7 0) (cE (.int 4))) (q11)))))))
def T8:List D→M D:=J1 1 aK3
def aH0:Fs:=m8 (K3 (q12 (fnX 2 m5) (q10 (c7 0) (q10 (cE (.int 5)) (q11)))) (q13 2)) (o6 (d9 aG2 (d9 aG2 (aJ7 (c7 1) (aQ3) (aR6 (c7 2))) (aJ7 (q12 (fnX 1 U5) (q10 (c7 0) (q11))) (aR6 (c7 2)) (aR6 (d9 aG2 (c7 2) (cE (.int 1)))))) (aJ7 (c7 1) (aR6 (d9 aG2 (c7 2) (cE (.int 1)))) (aQ3))))
def T4:List D→M D:=J1 3 aH0
def aE9:Fs:=o6 (q12 (fnX 5 Z0) (q10 (o4 (q11)) (q10 (o4 (q10 (cE (.str ("of" :Str))) (q10 (o4 (q11)) (q11)))) (q10 (o4 (q11)) (q10 (cE .non) (q10 (o4 (q10 (c7 0) (q10 (c7 1) (q11)))) (q11)))))))
def U4:List D→M D:=J1 2 aE9
def bT8:Fs:=o6 (X5 (d9 aR4 (c7 0) (cE .non)) (X5 (d9 aR4 (c7 1) (cE .non)) (d9 gtD (c7 0) (c7 1))))
def U3:List D→M D:=J1 2 bT8
def aX0:Fs:=o6 (ifE (J5 (q12 (fnX 2 U3) (q10 (c7 0) (q10 (c7 1) (q11))))) (cE (.tup [.tup [],.tup [.str ("of" :Str),.tup []],.tup [],.non,.non])) (q12 (fnX 5 Z0) (q10 (o4 (q10 (o4 (q10 (c7 0) (q10 (c7 1) (q11)))) (q11))) (q10 (o4 (q10 (cE (.str ("of" :Str))) (q10 (o4 (q11)) (q11)))) (q10 (o4 (q11)) (q10 (cE .non) (q10 (cE .non) (q11))))))))
def aE5:List D→M D:=J1 2 aX0
def aK4:Fs:=o6 (q12 (fnX 5 Z0) (q10 (o4 (q11)) (q10 (o4 (q10 (cE (.str ("of" :Str))) (q10 (o4 (q11)) (q11)))) (q10 (o4 (q11)) (q10 (o4 (q10 (c7 0) (q10 (c7 1) (q11)))) (q10 (cE .non) (q11)))))))
def Z8:List D→M D:=J1 2 aK4
def aU4(R:List D→M D):Fs:=m8 (ifS (J5 (q12 M8 (q10 (c7 0) (q10 (cE (.ty "bool")) (q11))))) (o6 (q12 (fnX 5 Z0) (q10 (o4 (q11)) (q10 (o4 (q10 (cE (.str ("of" :Str))) (q10 (o4 (q11)) (q11)))) (q10 (o4 (q10 (c7 0) (q11))) (q10 (cE .non) (q10 (cE .non) (q11)))))))) (J9)) (m8 (ifS (J5 (q12 M8 (q10 (c7 0) (q10 (cE (.ty "int")) (q11))))) (o6 (q12 (fnX 2 aE5) (q10 (c7 0) (q10 (c7 0) (q11))))) (J9)) (m8 (ifS (J5 (q12 M8 (q10 (c7 0) (q10 (cE (.ty "str")) (q11))))) (o6 (q12 (fnX 5 Z0) (q10 (o4 (q11)) (q10 (o4 (q10 (cE (.str ("of" :Str))) (q10 (o4 (q10 (c7 0) (q11))) (q11)))) (q10 (o4 (q11)) (q10 (cE .non) (q10 (cE .non) (q11)))))))) (J9)) (m8 (ifS (J8 (d9 eqD (d9 ixD (c7 0) (cE (.int 0))) (cE (.str ("list" :Str))))) (o6 (q12 (fnX 2 Z8) (q10 (q12 aI4 (q10 (K8 (itW (d9 ixD (c7 0) (cE (.int 1)))) [none] (q13 0) (M4) (q12 (fnX 1 R) (q10 (c7 0) (q11)))) (q11))) (q10 (cE (.tup [.tup [],.tup [.str ("of" :Str),.tup []],.tup [],.non,.non])) (q11))))) (J9)) (o6 (q12 (fnX 2 U4) (q10 (q12 aI4 (q10 (K8 (itW (d9 ixD (c7 0) (cE (.int 1)))) [none,none] (aG0 2 (J4 (q13 0) (J4 (q13 1) (aJ8)))) (M4) (o4 (q10 (c7 0) (q10 (cE (.bl true)) (q10 (q12 (fnX 1 R) (q10 (c7 1) (q11))) (q11)))))) (q11))) (q10 (cE (.tup [.tup [],.tup [.str ("of" :Str),.tup []],.tup [],.non,.non])) (q11))))))))
def aT2:Nat→List D→M D
 |0=>fun _=>M.stuck
 |n+1=>J1 1 (aU4 (aT2 n))
def bB5:List D→M D:=aT2 4
def aQ6:Fs:=o6 (X5 (bU8 (q12 (fnX 2 U3) (q10 (c7 1) (q10 (c7 0) (q11))))) (bU8 (q12 (fnX 2 U3) (q10 (c7 0) (q10 (c7 2) (q11))))))
def Q8:List D→M D:=J1 3 aQ6
def bA9:Fs:=o6 (ifE (J8 (d9 ltD (c7 1) (q12 aO3 (q10 (d9 ixD (c7 0) (cE (.int 0))) (q11))))) (d9 ixD (d9 ixD (c7 0) (cE (.int 0))) (c7 1)) (d9 ixD (c7 0) (cE (.int 1))))
def W2:List D→M D:=J1 2 bA9
def aE8:Fs:=o6 (q12 aV5 (q10 (K8 (itW (d9 ixD (c7 0) (cE (.int 0)))) [none,none,none] (aG0 3 (J4 (q13 0) (J4 (q13 1) (J4 (q13 2) (aJ8))))) (M4) (o4 (q10 (c7 0) (q10 (o4 (q10 (c7 1) (q10 (c7 2) (q11)))) (q11))))) (q11)))
def K1:List D→M D:=J1 1 aE8
def bA0:Fs:=o6 (mtE bB6 getD (c7 0) (q10 (c7 2) (q10 (o4 (q10 (cE (.bl false)) (q10 (c7 1) (q11)))) (q11))))
def V6:List D→M D:=J1 3 bA0
def aI9(R:List D→M D):Fs:=m8 (ifS (orT (J8 (d9 bF5 (c7 1) (cE .non))) (J8 (d9 ltD (q12 aO3 (q10 (c7 0) (q11))) (q12 aO3 (q10 (d9 ixD (c7 1) (cE (.int 0))) (q11)))))) (o6 (cE (.bl false))) (J9)) (o6 (q12 aI2 (q10 (K8 (bN5 (q10 (c7 0) (q11))) [none,none,some 1] (aG0 2 (J4 (q13 0) (J4 (q13 1) (aJ8)))) (M4) (q12 (fnX 2 R) (q10 (c7 1) (q10 (q12 (fnX 2 W2) (q10 (c7 2) (q10 (c7 0) (q11)))) (q11))))) (q11))))
def R6(R:List D→M D):List D→M D:=J1 2 (aI9 R)
def RA:Fs:=(ifS (aN7 (J5 (q12 aI2 (q10 (K8 (itW (d9 ixD (c7 1) (cE (.int 0)))) [none,none,none,some 2] (aG0 3 (J4 (q13 0) (J4 (q13 1) (J4 (q13 2) (aJ8))))) (M4) (cR0 (d9 inD (c7 0) (c7 3)) (bU8 (c7 1)))) (q11))))) (o6 (cE (.bl false))) (J9))
def RZ(R:List D→M D):Fs:=(o6 (q12 aI2 (q10 (K8 (itW (c7 0)) [none,none,some 1,some 3] (aG0 2 (J4 (q13 0) (J4 (q13 1) (aJ8)))) (M4) (q12 (fnX 2 R) (q10 (c7 1) (q10 (d9 ixD (q12 (fnX 3 V6) (q10 (c7 3) (q10 (d9 ixD (c7 2) (cE (.int 1))) (q10 (c7 0) (q11))))) (cE (.int 1))) (q11))))) (q11))))
def aA5(R:List D→M D):Fs:=m8 (ifS (J8 (d9 bF5 (c7 1) (cE .non))) (o6 (cE (.bl false))) (J9)) (m8 (K3 (q12 aV5 (q10 (c7 0) (q11))) (q13 2)) (m8 RA (m8 (K3 (q12 (fnX 1 K1) (q10 (c7 1) (q11))) (q13 3)) (RZ R))))
def N7(R:List D→M D):List D→M D:=J1 4 (aA5 R)
def aN0(R:List D→M D):Fs:=m8 (ifS (J8 (d9 eqD (c7 1) (cE (.str ("any" :Str))))) (o6 (cE (.bl true))) (J9)) (m8 (ifS (J5 (q12 M8 (q10 (c7 0) (q10 (cE (.ty "bool")) (q11))))) (o6 (d9 inD (c7 0) (d9 ixD (c7 1) (cE (.int 2))))) (J9)) (m8 (ifS (J5 (q12 M8 (q10 (c7 0) (q10 (cE (.ty "int")) (q11))))) (o6 (q12 cS0 (q10 (K8 (itW (d9 ixD (c7 1) (cE (.int 0)))) [none,none,some 0] (aG0 2 (J4 (q13 0) (J4 (q13 1) (aJ8)))) (M4) (q12 (fnX 3 Q8) (q10 (c7 2) (q10 (c7 0) (q10 (c7 1) (q11)))))) (q11)))) (J9)) (m8 (ifS (J5 (q12 M8 (q10 (c7 0) (q10 (cE (.ty "str")) (q11))))) (o6 (d9 eqD (d9 inD (c7 0) (d9 ixD (d9 ixD (c7 1) (cE (.int 1))) (cE (.int 1)))) (d9 eqD (d9 ixD (d9 ixD (c7 1) (cE (.int 1))) (cE (.int 0))) (cE (.str ("of" :Str)))))) (J9)) (m8 (ifS (J8 (d9 eqD (d9 ixD (c7 0) (cE (.int 0))) (cE (.str ("list" :Str))))) (o6 (q12 (fnX 2 (R6 R)) (q10 (d9 ixD (c7 0) (cE (.int 1))) (q10 (d9 ixD (c7 1) (cE (.int 3))) (q11))))) (J9)) (o6 (q12 (fnX 2 (N7 R)) (q10 (d9 ixD (c7 0) (cE (.int 1))) (q10 (d9 ixD (c7 1) (cE (.int 4))) (q11)))))))))
def aW4:Nat→List D→M D
 |0=>fun _=>M.stuck
 |n+1=>J1 2 (aN0 (aW4 n))
def V1:List D→M D:=aW4 60
def bO9:List D→M D:=R6 V1
def bH5:List D→M D:=N7 V1
def bL3:Fs:=o6 (X5 (q12 M8 (q10 (c7 0) (q10 (cE (.ty "tuple")) (q11)))) (X5 (d9 eqD (q12 aO3 (q10 (c7 0) (q11))) (cE (.int 2))) (q12 M8 (q10 (d9 ixD (c7 0) (cE (.int 0))) (q10 (cE (.ty "tuple")) (q11))))))
def aC2:List D→M D:=J1 1 bL3
def aO6:Fs:=o6 (cR0 (d9 bF5 (c7 0) (cE .non)) (q12 (fnX 1 aC2) (q10 (c7 0) (q11))))
def U7:List D→M D:=J1 1 aO6
def cJ0:Fs:=o6 (q12 aI2 (q10 (K8 (bU0 (q10 (c7 0) (q10 (aJ7 (c7 0) (aR6 (cE (.int 1))) (aQ3)) (q11)))) [none,none] (aG0 2 (J4 (q13 0) (J4 (q13 1) (aJ8)))) (M4) (d9 ltD (c7 0) (c7 1))) (q11)))
def aD8:List D→M D:=J1 1 cJ0
def bS4:Fs:=o6 (K8 (itW (c7 0)) [none] (q13 0) (M4) (d9 ixD (c7 0) (cE (.int 0))))
def aJ5:List D→M D:=J1 1 bS4
def cA0:Fs:=o6 (X5 (q12 M8 (q10 (c7 0) (q10 (cE (.ty "str")) (q11)))) (q12 aI2 (q10 (K8 (itW (c7 0)) [none] (q13 0) (M4) (cC1 leD leD (cE (.str ("a" :Str))) (c7 0) (cE (.str ("z" :Str))))) (q11))))
def aE4:List D→M D:=J1 1 cA0
def bX6:Fs:=o6 (X5 (q12 (fnX 1 aE4) (q10 (c7 0) (q11))) (d9 gtD (q12 aO3 (q10 (c7 0) (q11))) (cE (.int 0))))
def aO4:List D→M D:=J1 1 bX6
def bP0:Fs:=o6 (X5 (q12 M8 (q10 (c7 0) (q10 (cE (.ty "tuple")) (q11)))) (X5 (d9 eqD (q12 aO3 (q10 (c7 0) (q11))) (cE (.int 3))) (X5 (q12 (fnX 1 aO4) (q10 (d9 ixD (c7 0) (cE (.int 0))) (q11))) (q12 M8 (q10 (d9 ixD (c7 0) (cE (.int 1))) (q10 (cE (.ty "bool")) (q11)))))))
def aI5:List D→M D:=J1 1 bP0
def aH5:Fs:=m8 (ifS (J8 (d9 bF5 (c7 0) (cE .non))) (o6 (cE (.bl true))) (J9)) (m8 (ifS (aN7 (aN6 (J5 (q12 (fnX 1 aC2) (q10 (c7 0) (q11)))) (J5 (q12 aI2 (q10 (K8 (itW (d9 ixD (c7 0) (cE (.int 0)))) [none] (q13 0) (M4) (q12 (fnX 1 aI5) (q10 (c7 0) (q11)))) (q11)))))) (o6 (cE (.bl false))) (J9)) (o6 (q12 (fnX 1 aD8) (q10 (q12 (fnX 1 aJ5) (q10 (d9 ixD (c7 0) (cE (.int 0))) (q11))) (q11)))))
def R8:List D→M D:=J1 1 aH5
def bF1:Fs:=o6 (X5 (d9 aR4 (d9 ixD (c7 0) (cE (.int 1))) (cE .non)) (X5 (d9 aR4 (d9 ixD (c7 1) (cE (.int 0))) (cE .non)) (d9 ltD (d9 aG2 (d9 ixD (c7 0) (cE (.int 1))) (cE (.int 1))) (d9 ixD (c7 1) (cE (.int 0))))))
def aD4:List D→M D:=J1 2 bF1
def bT6:Fs:=o6 (X5 (q12 M8 (q10 (c7 0) (q10 (cE (.ty "int")) (q11)))) (bU8 (q12 M8 (q10 (c7 0) (q10 (cE (.ty "bool")) (q11))))))
def aP9:List D→M D:=J1 1 bT6
def cN7:Fs:=o6 (cR0 (d9 bF5 (c7 0) (cE .non)) (q12 (fnX 1 aP9) (q10 (c7 0) (q11))))
def aV1:List D→M D:=J1 1 cN7
def bE1:Fs:=m8 (ifS (aN7 (aN6 (J5 (q12 M8 (q10 (c7 0) (q10 (cE (.ty "tuple")) (q11))))) (J8 (d9 eqD (q12 aO3 (q10 (c7 0) (q11))) (cE (.int 2)))))) (o6 (cE (.bl false))) (J9)) (m8 (ifS (aN7 (aN6 (J5 (q12 (fnX 1 aV1) (q10 (d9 ixD (c7 0) (cE (.int 0))) (q11)))) (J5 (q12 (fnX 1 aV1) (q10 (d9 ixD (c7 0) (cE (.int 1))) (q11)))))) (o6 (cE (.bl false))) (J9)) (o6 (bU8 (q12 (fnX 2 U3) (q10 (d9 ixD (c7 0) (cE (.int 0))) (q10 (d9 ixD (c7 0) (cE (.int 1))) (q11)))))))
def aD1:List D→M D:=J1 1 bE1
def bE7:Fs:=m8 (ifS (aN7 (aN6 (J5 (q12 M8 (q10 (c7 0) (q10 (cE (.ty "tuple")) (q11))))) (J5 (q12 aI2 (q10 (K8 (itW (c7 0)) [none] (q13 0) (M4) (q12 (fnX 1 aD1) (q10 (c7 0) (q11)))) (q11)))))) (o6 (cE (.bl false))) (J9)) (o6 (q12 aI2 (q10 (K8 (bU0 (q10 (c7 0) (q10 (aJ7 (c7 0) (aR6 (cE (.int 1))) (aQ3)) (q11)))) [none,none] (aG0 2 (J4 (q13 0) (J4 (q13 1) (aJ8)))) (M4) (q12 (fnX 2 aD4) (q10 (c7 0) (q10 (c7 1) (q11))))) (q11))))
def aC9:List D→M D:=J1 1 bE7
def bK1:Fs:=m8 (ifS (aN7 (aN6 (J5 (q12 M8 (q10 (c7 0) (q10 (cE (.ty "tuple")) (q11))))) (J8 (d9 eqD (q12 aO3 (q10 (c7 0) (q11))) (cE (.int 2)))))) (o6 (cE (.bl false))) (J9)) (o6 (X5 (q12 M8 (q10 (d9 ixD (c7 0) (cE (.int 0))) (q10 (cE (.ty "str")) (q11)))) (X5 (d9 eqD (d9 ixD (c7 0) (cE (.int 0))) (c7 1)) (q12 M8 (q10 (d9 ixD (c7 0) (cE (.int 1))) (q10 (cE (.ty "tuple")) (q11)))))))
def aF2:List D→M D:=J1 2 bK1
def bE2:Fs:=o6 (o4 (q10 (q12 aO3 (q10 (c7 0) (q11))) (q10 (c7 0) (q11))))
def aC7:List D→M D:=J1 1 bE2
def bQ3:Fs:=m8 (ifS (aN7 (orT (J5 (q12 (fnX 2 aF2) (q10 (c7 0) (q10 (cE (.str ("of" :Str))) (q11))))) (J5 (q12 (fnX 2 aF2) (q10 (c7 0) (q10 (cE (.str ("but" :Str))) (q11))))))) (o6 (cE (.bl false))) (J9)) (m8 (ifS (aN7 (J5 (q12 aI2 (q10 (K8 (itW (d9 ixD (c7 0) (cE (.int 1)))) [none] (q13 0) (M4) (q12 (fnX 1 aE4) (q10 (c7 0) (q11)))) (q11))))) (o6 (cE (.bl false))) (J9)) (o6 (q12 (fnX 1 aD8) (q10 (K8 (itW (d9 ixD (c7 0) (cE (.int 1)))) [none] (q13 0) (M4) (q12 (fnX 1 aC7) (q10 (c7 0) (q11)))) (q11)))))
def aI6:List D→M D:=J1 1 bQ3
def bJ3:Fs:=m8 (ifS (aN7 (J5 (q12 M8 (q10 (c7 0) (q10 (cE (.ty "tuple")) (q11)))))) (o6 (cE (.bl false))) (J9)) (o6 (X5 (q12 aI2 (q10 (K8 (itW (c7 0)) [none] (q13 0) (M4) (q12 M8 (q10 (c7 0) (q10 (cE (.ty "bool")) (q11))))) (q11))) (q12 (fnX 1 aD8) (q10 (c7 0) (q11)))))
def aF6:List D→M D:=J1 1 bJ3
def aV0:Fs:=m8 (ifS (J5 (q12 M8 (q10 (c7 0) (q10 (cE (.ty "str")) (q11))))) (o6 (d9 eqD (c7 0) (cE (.str ("any" :Str))))) (J9)) (m8 (ifS (aN7 (aN6 (J5 (q12 M8 (q10 (c7 0) (q10 (cE (.ty "tuple")) (q11))))) (J8 (d9 eqD (q12 aO3 (q10 (c7 0) (q11))) (cE (.int 5)))))) (o6 (cE (.bl false))) (J9)) (m8 (ifS (aN7 (aN6 (J5 (q12 (fnX 1 aC9) (q10 (d9 ixD (c7 0) (cE (.int 0))) (q11)))) (aN6 (J5 (q12 (fnX 1 aI6) (q10 (d9 ixD (c7 0) (cE (.int 1))) (q11)))) (J5 (q12 (fnX 1 aF6) (q10 (d9 ixD (c7 0) (cE (.int 2))) (q11))))))) (o6 (cE (.bl false))) (J9)) (o6 (X5 (q12 (fnX 1 U7) (q10 (d9 ixD (c7 0) (cE (.int 3))) (q11))) (q12 (fnX 1 R8) (q10 (d9 ixD (c7 0) (cE (.int 4))) (q11)))))))
def R5:List D→M D:=J1 1 aV0
def IL:Fs:=(ifS (J8 (d9 aR4 (d9 ixD (c7 0) (cE (.int 3))) (cE .non))) (aU9 (mtE X7 aL5 (c7 1) (q10 (d9 aG2 (q12 aY8 (q10 (d9 ixD (d9 ixD (c7 0) (cE (.int 3))) (cE (.int 0))) (q11))) (Z7 (q10 (d9 ixD (d9 ixD (c7 0) (cE (.int 3))) (cE (.int 1))) (q11)))) (q11)))) (J9))
def IR:Fs:=(ifS (J8 (d9 aR4 (d9 ixD (c7 0) (cE (.int 4))) (cE .non))) (aU9 (mtE X7 aL5 (c7 1) (q10 (d9 aG2 (K8 (itW (d9 ixD (d9 ixD (c7 0) (cE (.int 4))) (cE (.int 0)))) [none] (q13 0) (M4) (d9 ixD (c7 0) (cE (.int 2)))) (Z7 (q10 (d9 ixD (d9 ixD (c7 0) (cE (.int 4))) (cE (.int 1))) (q11)))) (q11)))) (J9))
def aD7:Fs:=m8 (K3 (Z7 (q11)) (q13 1)) (m8 (ifS (J8 (d9 eqD (c7 0) (cE (.str ("any" :Str))))) (o6 (c7 1)) (J9)) (m8 IL (m8 IR (o6 (c7 1)))))
def T5:List D→M D:=J1 2 aD7
def bD7:Fs:=m8 (ifS (J8 (d9 eqD (c7 0) (cE (.str ("any" :Str))))) (o6 (o4 (q10 (cE (.str ("any" :Str))) (q11)))) (J9)) (m8 (K3 (ifE (J8 (d9 bF5 (d9 ixD (c7 0) (cE (.int 3))) (cE .non))) (cE .non) (q12 aO3 (q10 (d9 ixD (d9 ixD (c7 0) (cE (.int 3))) (cE (.int 0))) (q11)))) (q13 1)) (m8 (K3 (ifE (J8 (d9 bF5 (d9 ixD (c7 0) (cE (.int 4))) (cE .non))) (cE .non) (K8 (itW (d9 ixD (d9 ixD (c7 0) (cE (.int 4))) (cE (.int 0)))) [none] (q13 0) (M4) (o4 (q10 (d9 ixD (c7 0) (cE (.int 0))) (q10 (d9 ixD (c7 0) (cE (.int 1))) (q11)))))) (q13 2)) (o6 (o4 (q10 (d9 ixD (c7 0) (cE (.int 0))) (q10 (d9 ixD (c7 0) (cE (.int 1))) (q10 (d9 ixD (c7 0) (cE (.int 2))) (q10 (c7 1) (q10 (c7 2) (q11))))))))))
def aA2:List D→M D:=J1 3 bD7
def Z1:Fs:=(K3 (mtE X7 eG2 (c7 2) q11) (q13 3))
def Z2:Fs:=(ifS (J8 (d9 neD (q12 (fnX 1 aA2) (q10 (d9 ixD (c7 3) (cE (.int 0))) (q11))) (q12 (fnX 1 aA2) (q10 (d9 ixD (c7 3) (cE (.int 1))) (q11))))) (o6 (cE (.bl false))) (J9))
def Z3:Fs:=(aU9 (mtE X7 aL5 (c7 2) (q10 (q12 bK8 (q10 (q12 (fnX 1 T5) (q10 (d9 ixD (c7 3) (cE (.int 0))) (q11))) (q10 (q12 (fnX 1 T5) (q10 (d9 ixD (c7 3) (cE (.int 1))) (q11))) (q11)))) (q11))))
def aQ4:Fs:=m8 (K3 (Z7 (q10 (o4 (q10 (c7 0) (q10 (c7 1) (q11)))) (q11))) (q13 2)) (m8 (aT8 (J5 (c7 2)) (m8 Z1 (m8 Z2 Z3))) (o6 (cE (.bl true))))
def aJ6:List D→M D:=J1 4 aQ4
def cP5:Fs:=o6 (ifE (J5 (d9 ixD (c7 0) (cE (.int 1)))) (d9 neD (d9 ixD (c7 0) (cE (.int 2))) (cE (.tup [.tup [],.tup [.str ("of" :Str),.tup []],.tup [],.non,.non]))) (bU8 (q12 (fnX 2 aJ6) (q10 (d9 ixD (c7 0) (cE (.int 2))) (q10 (c7 1) (q11))))))
def aM9:List D→M D:=J1 2 cP5
def aU0:Fs:=m8 (ifS (J8 (d9 eqD (c7 0) (cE (.str ("any" :Str))))) (o6 (cE (.bl true))) (J9)) (m8 (ifS (aN6 (J8 (d9 aR4 (d9 ixD (c7 0) (cE (.int 3))) (cE .non))) (aN7 (J5 (q12 aI2 (q10 (K8 (itW (d9 ixD (d9 ixD (c7 0) (cE (.int 3))) (cE (.int 0)))) [none] (q13 0) (M4) (d9 neD (c7 0) (cE (.tup [.tup [],.tup [.str ("of" :Str),.tup []],.tup [],.non,.non])))) (q11)))))) (o6 (cE (.bl false))) (J9)) (m8 (ifS (aN6 (J8 (d9 aR4 (d9 ixD (c7 0) (cE (.int 4))) (cE .non))) (aN7 (J5 (q12 aI2 (q10 (K8 (itW (d9 ixD (d9 ixD (c7 0) (cE (.int 4))) (cE (.int 0)))) [none,some 0] (q13 0) (M4) (q12 (fnX 2 aM9) (q10 (c7 0) (q10 (d9 ixD (d9 ixD (c7 1) (cE (.int 4))) (cE (.int 1))) (q11))))) (q11)))))) (o6 (cE (.bl false))) (J9)) (o6 (d9 neD (c7 0) (cE (.tup [.tup [.tup [.non,.non]],.tup [.str ("but" :Str),.tup []],.tup [.bl false,.bl true],.tup [.tup [],.str ("any" :Str)],.tup [.tup [],.str ("any" :Str)]]))))))
def V0:List D→M D:=J1 1 aU0
def V2:Fs:=(ifS (aN7 (J5 (q12 (fnX 1 R5) (q10 (c7 3) (q11))))) (o6 (cE (.bl false))) (J9))
def V3:Fs:=(aU9 (mtE X7 aW2 (c7 1) (q10 (c7 3) (q11))))
def V4:Fs:=(aU9 (mtE X7 aL5 (c7 2) (q10 (q12 (fnX 1 T5) (q10 (c7 3) (q11))) (q11))))
def bD2:Fs:=m8 (K3 (Z7 (q11)) (q13 1)) (m8 (K3 (Z7 (q10 (c7 0) (q11))) (q13 2)) (m8 (aT8 (J5 (c7 2)) (m8 Z1 (m8 V2 (m8 V3 V4)))) (o6 (q12 aI2 (q10 (K8 (itW (c7 1)) [none] (q13 0) (M4) (q12 (fnX 1 V0) (q10 (c7 0) (q11)))) (q11))))))
def aU8:List D→M D:=J1 4 bD2
def bC6:Fs:=o6 (d9 ixD (c7 0) (cE (.int 0)))
def T6:List D→M D:=J1 1 bC6
def OL:Fs:=(ifS (aN6 (J8 (d9 bF5 (c7 6) (cE .non))) (J8 (d9 eqD (q12 (fnX 2 m5) (q10 (c7 0) (q10 (cE (.int 2)) (q11)))) (cE (.int 1))))) (K3 (d9 ixD (Z7 (q10 (o4 (q10 (o4 (q10 (c7 2) (q11))) (q10 (cE (.str ("any" :Str))) (q11)))) (q10 (o4 (q10 (o4 (q10 (cE (.str ("any" :Str))) (q10 (c7 2) (q11)))) (q10 (c7 2) (q11)))) (q11)))) (q12 (fnX 2 m5) (q10 (c7 0) (q10 (cE (.int 2)) (q11))))) (q13 6)) (J9))
def MT:DSt→M Bool:=(aN6 (J8 (d9 bO7 (c7 0) (c7 2))) (J8 (d9 eqD (q12 (fnX 2 m5) (q10 (c7 1) (q10 (cE (.int 2)) (q11)))) (cE (.int 1)))))
def OE:Fs:=(m8 (K3 (K8 (itW (d9 ixD (c7 7) (cE (.int 0)))) [none] (q13 0) (M4) (d9 ixD (c7 0) (cE (.int 0)))) (q13 8)) (m8 (K3 (K8 (itW (Z7 (q10 (cE (.str ("a" :Str))) (q10 (cE (.str ("b" :Str))) (q10 (cE (.str ("zz" :Str))) (q11)))))) [none,some 0,some 8] (q13 0) MT (c7 0)) (q13 9)) (m8 (K3 (d9 aG2 (q12 aY8 (q10 (d9 ixD (c7 7) (cE (.int 0))) (q11))) (K8 (itW (c7 9)) [none,some 7] (q13 0) (M4) (o4 (q10 (c7 0) (q10 (cE (.bl false)) (q10 (d9 ixD (c7 1) (cE (.int 1))) (q11))))))) (q13 10)) (K3 (o4 (q10 (q12 aI4 (q10 (bB7 T6 (c7 10)) (q11))) (q10 (d9 ixD (c7 7) (cE (.int 1))) (q11)))) (q13 7)))))
def OR:Fs:=(ifS (aN6 (J8 (d9 bF5 (c7 7) (cE .non))) (J8 (d9 eqD (q12 (fnX 2 m5) (q10 (c7 0) (q10 (cE (.int 2)) (q11)))) (cE (.int 1))))) (K3 (o4 (q10 (o4 (q10 (o4 (q10 (cE (.str ("a" :Str))) (q10 (cE (.bl false)) (q10 (c7 2) (q11))))) (q10 (o4 (q10 (cE (.str ("b" :Str))) (q10 (cE (.bl true)) (q10 (c7 2) (q11))))) (q11)))) (q10 (cE (.str ("any" :Str))) (q11)))) (q13 7)) (ifS (J8 (d9 aR4 (c7 7) (cE .non))) OE (J9)))
def aA1:Fs:=m8 (K3 (q12 (fnX 0 M7) (q11)) (q13 2)) (m8 (K3 (c7 1) (aG0 5 (J4 (q13 3) (J4 (q13 4) (J4 (q13 5) (J4 (q13 6) (J4 (q13 7) (aJ8)))))))) (m8 OL (m8 OR (o6 (o4 (q10 (c7 3) (q10 (c7 4) (q10 (c7 5) (q10 (c7 6) (q10 (c7 7) (q11)))))))))))
def U8:List D→M D:=J1 11 aA1
def AE:Fe:=K8 (itW (c7 1)) [none,some 13] (q13 0) (J5 (q12 (fnX 2 V1) (q10 (c7 0) (q10 (c7 1) (q11))))) (c7 0)
def LP:Fs:=(ifS (J8 (d9 neD (q12 (fnX 1 T8) (q10 (q12 (fnX 2 U8) (q10 (c7 4) (q10 (c7 5) (q11)))) (q11))) (c7 6))) (o6 (cE (.bl false))) (J9))
def LZ:Fs:=m8 (K3 (d9 ixD (c7 1) (q12 (fnX 2 m5) (q10 (c7 4) (q10 (q12 aO3 (q10 (c7 1) (q11))) (q11))))) (q13 12)) (m8 (K3 (q12 (fnX 1 bB5) (q10 (c7 12) (q11))) (q13 13)) (m8 (K3 AE (q13 14)) (ifS (orT (J8 (d9 neD (c7 14) (Z7 (q10 (c7 12) (q11))))) (J8 (d9 aR4 (q12 (fnX 1 aU8) (q10 (c7 6) (q11))) (cE (.bl true))))) (o6 (cE (.bl false))) (J9))))
def cX6:Fs:=m8 (K3 (q12 (fnX 0 X3) (q11)) (q13 1)) (m8 (aS6 (bG5 (q10 (aJ7 (c7 0) (aQ3) (aR6 (cE (.int 8)))) (q11))) (aG0 2 (J4 (q13 2) (J4 (q13 3) (aJ8)))) (m8 (K3 (q12 (fnX 3 aC6) (q10 (c7 0) (q10 (c7 3) (q10 (c7 2) (q11))))) (q13 4)) (m8 (K3 (q12 (fnX 1 U5) (q10 (c7 4) (q11))) (q13 5)) (m8 (K3 (q12 (fnX 1 T8) (q10 (c7 5) (q11))) (q13 6)) (m8 (K3 (K8 (itW (c7 1)) [none,some 6] (q13 0) (M4) (q12 (fnX 2 V1) (q10 (c7 0) (q10 (c7 1) (q11))))) (q13 7)) (m8 (aS6 (aW0 (q10 (cE (.int 3)) (q11))) (q13 8) LP) (m8 (K3 (q12 (fnX 2 T4) (q10 (c7 4) (q10 (c7 5) (q11)))) (q13 9)) (m8 (aS6 (itW (Z7 (q10 (c7 9) (q10 (q12 (fnX 2 T4) (q10 (c7 4) (q10 (c7 9) (q11)))) (q10 (q12 (fnX 1 U5) (q10 (c7 4) (q11))) (q11)))))) (q13 10) (m8 (K3 (q12 (fnX 1 T8) (q10 (c7 10) (q11))) (q13 11)) (ifS (J8 (d9 neD (d9 eqD (c7 11) (c7 6)) (d9 eqD (c7 7) (K8 (itW (c7 1)) [none,some 11] (q13 0) (M4) (q12 (fnX 2 V1) (q10 (c7 0) (q10 (c7 1) (q11)))))))) (o6 (cE (.bl false))) (J9)))) LZ)))))))) (o6 (cE (.bl true))))
def cO0:List D→M D:=J1 15 cX6
local macro_rules | `(tactic| walk_at "cl") => `(tactic| (refine ⟨?k, ?kk, ?a, ?b, ?c⟩; (case a => first | (dsimp only [Cx.nox, cQ0]; with_reducible assumption) | assumption); (case b => assumption); (case c => first | decide | omega)))
local macro_rules | `(tactic| walk_at "ck") => `(tactic| (refine ⟨?k, ?kk, ?kkk, ?a, ?b, ?c, ?d⟩; (case a => assumption); (case b => rfl); (case c => rfl); (case d => decide +kernel)))
local macro_rules | `(tactic| walk_at "od") => `(tactic| first
 |with_reducible exact eW7
 |with_reducible exact eT6
 |with_reducible exact eE2
 |with_reducible exact eQ9
 |with_reducible exact fF0
 |with_reducible exact fG3
 |with_reducible exact eZ7
 |with_reducible exact dH1
 |((with_reducible refine fD9 ?_);exact X4.units (by assumption))
 |((with_reducible refine fF3 ?_);exact X4.units (by assumption))
 |((with_reducible refine fF4 ?_);exact X4.units (by assumption))
 |((with_reducible refine fB2 ?_);exact X4.units (by assumption))
 |((with_reducible refine eV4 ?_);exact X4.units (by assumption))
 |((with_reducible refine dJ5 ?_);exact X4.units (by assumption)))
local macro_rules | `(tactic| walk_at "bd") => `(tactic| first
 |with_reducible exact eT3
 |with_reducible exact bV2
 |with_reducible exact fA5
 |with_reducible exact eZ2
 |with_reducible exact eO4
 |with_reducible exact dX1
 |with_reducible exact eD6
 |with_reducible exact eS3
 |with_reducible exact eD5)
local macro_rules | `(tactic| walk_at "da") => `(tactic| first
 |with_reducible exact q16
 |((with_reducible refine fM3 ?_ ?_ ?_);walk_at "de";walk_at "da";rfl))
local macro_rules | `(tactic| walk_at "do") => `(tactic| first
 |with_reducible exact eI1
 |((with_reducible refine dY1 ?_);walk_at "de"))
local macro_rules | `(tactic| walk_at "pk") => `(tactic| first | exact eO2 | ((apply eV9); walk_at "pk"; walk_at "pk"; (unfold dT8; decide); rfl) | ((apply eU3); walk_at "pk"; walk_at "pk"; rfl))
local macro_rules | `(tactic| walk_at "de") => `(tactic| first
 |with_reducible exact q17
 |with_reducible exact fI9
 |with_reducible exact eM9
 |with_reducible exact eS2
 |((with_reducible refine fL2 _ ?_ ?_ ?_ ?_);rfl;(first|exact Or.inl rfl|exact Or.inr (Or.inl rfl)|exact Or.inr (Or.inr rfl));decide;decide)
 |((with_reducible refine eU7 ?_ ?_ ?_ ?_ ?_ ?_);assumption;decide;decide +kernel;rfl;decide;decide)
 |((with_reducible refine fA0 ?_ ?_ ?_);assumption;rfl;decide)
 |((with_reducible refine fF1 ?_ ?_ ?_);walk_at "od";walk_at "de";walk_at "de")
 |((with_reducible refine fC0 eR1 ?_);walk_at "de")
 |((with_reducible refine eO0 ?_);walk_at "de")
 |((with_reducible refine eR0 ?_ ?_ ?_ ?_);walk_at "od";walk_at "de";walk_at "de";with_unfolding_all rfl)
 |((with_reducible refine dM1 ?_ ?_ ?_ ?_ ?_ ?_);walk_at "od";walk_at "od";walk_at "de";walk_at "de";walk_at "de";with_unfolding_all rfl)
 |((with_reducible refine eN7 ?_);walk_at "de")
 |((with_reducible refine dY0 ?_ ?_);walk_at "de";walk_at "de")
 |((with_reducible refine eP6 ?_ ?_);walk_at "de";walk_at "de")
 |((with_reducible refine fH6 ?_ ?_ ?_);walk_at "dt";walk_at "de";walk_at "de")
 |((with_reducible refine eO7 ?_);walk_at "da")
 |((with_reducible refine eY2 ?_);walk_at "da")
 |((with_reducible refine dG7 ?_ ?_ ?_);walk_at "de";walk_at "do";walk_at "do")
 |((with_reducible refine fJ4 ?_ ?_ ?_);walk_at "de";walk_at "de";exact fun _ _=>rfl)
 |((with_reducible refine dY9 ?_ ?_ ?_ ?_ ?_ ?_ ?_);walk_at "da";rfl;assumption;rfl;rfl;rfl;rfl)
 |((with_reducible refine dU7 ?_ ?_ ?_ ?_ ?_);walk_at "cl";rfl;walk_at "da";decide;rfl)
 |((with_reducible refine dE5 ?_ ?_ ?_);walk_at "cl";rfl;decide)
 |((with_reducible refine dE3 ?_ ?_ ?_ ?_ ?_ ?_ ?_ ?_);rfl;walk_at "cl";assumption;rfl;rfl;walk_at "de";rfl;decide)
 |((with_reducible refine eT0 ?_ ?_ ?_ ?_ ?_ ?_ ?_ ?_ ?_);rfl;walk_at "bd";assumption;decide +kernel;rfl;walk_at "da";decide;decide;rfl)
 |((with_reducible refine eK0 PySem.F.slot_list_append PySem.F.type_list_append dE1 ?_ ?_ ?_ ?_ ?_ ?_ ?_);walk_at "de";walk_at "da";rfl;rfl;rfl;exact q14 rfl;rfl)
 |((with_reducible refine eK0 PySem.F.slot_list_extend PySem.F.type_list_extend dD6 ?_ ?_ ?_ ?_ ?_ ?_ ?_);walk_at "de";walk_at "da";rfl;rfl;rfl;exact q14 rfl;rfl)
 |((with_reducible refine eO1 PySem.F.slot_dict_get PySem.F.type_dict_get (eW8 ?_) ?_ ?_ ?_ ?_ ?_ ?_ ?_);exact X4.units (by assumption);walk_at "de";walk_at "da";rfl;rfl;rfl;exact q14 rfl;rfl)
 |((with_reducible refine eO3 PySem.F.slot_list_pop PySem.F.type_list_pop eW9 ?_ ?_ ?_);walk_at "de";rfl;rfl)
 |((with_reducible refine eF9 ?_ ?_ ?_ ?_ ?_ ?_ ?_ ?_);rfl;walk_at "di";walk_at "ck";decide +kernel;(intro _ _ _ _ _;walk_at "dg");(intro _ _ _ _;walk_at "dts");(intro _ _ _ _;walk_at "de");exact fun _=>rfl))
local macro_rules | `(tactic| walk_at "dt") => `(tactic| first
 |((with_reducible refine DW.dt ?_);walk_at "dw")
 |((with_reducible refine eN2 ?_);walk_at "dt")
 |((with_reducible refine eN4 ?_ ?_ ?_ ?_);walk_at "od";walk_at "de";walk_at "de";with_unfolding_all rfl)
 |((with_reducible refine dR4 ?_ ?_);walk_at "de";exact fun _=>rfl))
local macro_rules | `(tactic| walk_at "dw") => `(tactic| first
 |((with_reducible refine eH8 ?_);walk_at "dt")
 |((with_reducible refine eV6 ?_);walk_at "dt")
 |((with_reducible refine fA2 ?_ ?_);walk_at "dt";walk_at "dw")
 |((with_reducible refine fI5 ?_ ?_);walk_at "dt";walk_at "dw"))
local macro_rules | `(tactic| walk_at "dts") => `(tactic| first
 |with_reducible exact eG3
 |((with_reducible refine dY8 ?_);walk_at "dt"))
local macro_rules | `(tactic| walk_at "di") => `(tactic| first
 |((with_reducible refine fI7 ?_ ?_ ?_ ?_);assumption;rfl;walk_at "da";rfl)
 |((with_reducible refine fO1 ?_ ?_ ?_ ?_ ?_);assumption;rfl;walk_at "da";rfl;rfl)
 |((with_reducible refine fL8 ?_ ?_ ?_ ?_);assumption;rfl;walk_at "da";rfl)
 |((with_reducible refine fF8 ?_ ?_ ?_ ?_);assumption;rfl;walk_at "da";rfl)
 |((with_reducible refine fN5 ?_);walk_at "de"))
local macro_rules | `(tactic| walk_at "dg") => `(tactic| first
 |((with_reducible refine fK0 ?_ ?_ ?_ ?_);exact⟨_,_,_, ‹m6 _ _ _›,rfl⟩;rfl;(first|exact Or.inl rfl|exact Or.inr rfl);(first|exact .inl rfl|exact .inr rfl))
 |((with_reducible refine cZ5 ?_ ?_ ?_ ?_);assumption;rfl;(first|exact Or.inl rfl|exact Or.inr rfl);(first|exact .inl rfl|exact .inr rfl))
 |((with_reducible refine eR5 ?_ ?_ ?_ ?_);rfl;walk_at "dgs";rfl;rfl)
 |((with_reducible refine eN3 ?_ ?_ ?_ ?_);exact X4.units (by assumption);walk_at "de";walk_at "de";exact fun _=>rfl))
local macro_rules | `(tactic| walk_at "dgs") => `(tactic| first
 |with_reducible exact eH4
 |((with_reducible refine dV3 ?_ ?_ ?_);walk_at "dg";walk_at "dgs";rfl))
local macro_rules | `(tactic| walk_at "ds") => `(tactic| first
 |((with_reducible refine eU0 ?_);walk_at "de")
 |((with_reducible refine fF9 ?_ ?_ ?_);walk_at "dt";walk_at "db";walk_at "db")
 |((with_reducible refine dQ6 ?_ ?_ ?_ ?_ ?_ ?_ ?_ ?_ ?_ ?_);rfl;walk_at "di";walk_at "ck";decide +kernel;(intro _ _ _ _ _;walk_at "dg");(intro _ _ _ _;walk_at "dts");(intro _ _ _ _;walk_at "de");(exact fun _=>rfl);walk_at "dg";rfl)
 |((with_reducible refine eT1 ?_ ?_ ?_ ?_ ?_);walk_at "de";walk_at "dg";rfl;rfl;rfl)
 |((with_reducible refine eB8 ?_ ?_);walk_at "de";rfl)
 |((with_reducible refine eN8 ?_ ?_ ?_ ?_ ?_ ?_);exact PassesOwn.never;rfl;walk_at "di";walk_at "dg";walk_at "db";exact fun _=>rfl)
 |((with_reducible refine dO4 ?_ ?_ ?_);exact PassesOwn.never;walk_at "dt";walk_at "db"))
local macro_rules | `(tactic| walk_at "db") => `(tactic| first
 |with_reducible exact eU8
 |((with_reducible refine dJ7 ?_);walk_at "ds")
 |((with_reducible refine cX3 ?_ ?_);walk_at "ds";walk_at "db"))
local macro_rules | `(tactic| walk_at "db0") => `(tactic| first
 |(refine dJ7 ?_;walk_at "ds")
 |(refine cX3 ?_ ?_;walk_at "ds";walk_at "db"))
set_option maxHeartbeats 2000000
local macro_rules | `(tactic| walk_at "sc") => `(tactic| exact ⟨rfl, rfl, rfl, by decide +kernel, rfl, by decide +kernel, by decide +kernel⟩)
structure BC(K:PySem.W.Frag)(mg:Str→Option Value):Prop where
 b:BLs mg
 c_NOTHING:cY1 K mg "NOTHING" (.tup [.tup [],.tup [.str ("of" :Str),.tup []],.tup [],.non,.non])
 c_ALL_PARTS:cY1 K mg "ALL_PARTS" (.tup [.tup [.tup [.non,.non]],.tup [.str ("but" :Str),.tup []],.tup [.bl false,.bl true],.tup [.tup [],.str ("any" :Str)],.tup [.tup [],.str ("any" :Str)]])
 c_ANY:cY1 K mg "ANY" (.str ("any" :Str))
def top(i:Nat):Stmt:=PySem.Challenge.pw_allmeet_k18_whole_one_form.main.body.getD i (.Pass ⟨0,0,0,0⟩)
abbrev aM5:Stmt:=top 61
abbrev aT7:Stmt:=top 46
abbrev aT6:Stmt:=top 47
abbrev aQ5:Stmt:=top 55
abbrev aH7:Stmt:=top 53
abbrev aO7:Stmt:=top 54
abbrev aQ2:Stmt:=top 56
abbrev bA8:Stmt:=top 57
abbrev aF7:Stmt:=top 43
abbrev aC8:Stmt:=top 44
abbrev cQ5:Stmt:=top 42
abbrev aV6:Stmt:=top 62
abbrev aP2:Stmt:=top 58
abbrev aM2:Stmt:=top 41
abbrev bA3:Stmt:=top 11
abbrev bI7:Stmt:=top 39
abbrev aT1:Stmt:=top 40
abbrev aT4:Stmt:=top 38
abbrev aR2:Stmt:=top 35
abbrev bA5:Stmt:=top 20
abbrev aE3:Stmt:=top 21
abbrev aZ5:Stmt:=top 22
abbrev aO2:Stmt:=top 34
abbrev V5:Stmt:=top 36
abbrev R4:Stmt:=top 37
abbrev aU2:Stmt:=top 23
abbrev aE0:Stmt:=top 25
abbrev bP8:Stmt:=top 5
abbrev bA1:Stmt:=top 6
abbrev bG4:Stmt:=top 2
abbrev bH8:Stmt:=top 3
abbrev aZ1:Stmt:=top 24
abbrev aB9:Stmt:=top 26
abbrev aP8:Stmt:=top 12
abbrev bB0:Stmt:=top 1
abbrev bN8:Stmt:=top 9
abbrev aR3:Stmt:=top 10
abbrev aP0:Stmt:=top 13
abbrev aT0:Stmt:=top 4
abbrev aP3:Stmt:=top 7
abbrev aZ8:Stmt:=top 14
abbrev aU6:Stmt:=top 15
abbrev aI1:Stmt:=top 27
abbrev aR1:Stmt:=top 28
abbrev aP1:Stmt:=top 29
abbrev aZ4:Stmt:=top 30
abbrev bQ4:Stmt:=top 31
abbrev aJ2:Stmt:=top 32
abbrev bT1:Stmt:=top 33
abbrev aP5:Stmt:=top 60
abbrev aE2:Stmt:=top 59
abbrev bO1:Stmt:=top 63
theorem aU3:m6 ["plain", "values", "one", "other"] [] (j6 aM5):=by walk_at "sc"
theorem bC5:m6 ["script", "cell", "k", "way"] ["script", "cell", "k"] (j6 aT7):=by walk_at "sc"
theorem bB4:m6 ["hand", "limit", "got"] ["hand", "limit"] (j6 aT6):=by walk_at "sc"
theorem aX9:m6 ["hand", "numbers", "texts", "truths"] ["hand"] (j6 aQ5):=by walk_at "sc"
theorem aS3:m6 [] [] (j6 aH7):=by walk_at "sc"
theorem aY7:m6 [] [] (j6 aO7):=by walk_at "sc"
theorem aY3:m6 ["hand", "kind", "parts", "at"] ["hand"] (j6 aQ2):=by walk_at "sc"
theorem bL5:m6 ["hand", "lists", "records", "fields"] ["hand"] (j6 bA8):=by walk_at "sc"
theorem aN4:m6 ["lists"] ["lists"] (j6 aF7):=by walk_at "sc"
theorem aJ1:m6 ["records"] ["records"] (j6 aC8):=by walk_at "sc"
theorem cX5:m6 ["numbers", "texts", "truths", "lists", "records", "parts"] ["numbers", "texts", "truths", "lists", "records"] (j6 cQ5):=by walk_at "sc"
theorem bF8:m6 ["parts"] ["parts"] (j6 aV6):=by walk_at "sc"
theorem aX8:m6 ["hand", "parts", "at"] ["hand", "parts"] (j6 aP2):=by walk_at "sc"
theorem aS7:m6 ["fields", "more"] ["fields", "more"] (j6 aM2):=by walk_at "sc"
theorem bL0:m6 ["low", "high"] ["low", "high"] (j6 bA3):=by walk_at "sc"
theorem bR7:m6 ["low", "high"] ["low", "high"] (j6 bI7):=by walk_at "sc"
theorem bB8:m6 ["fronts", "more"] ["fronts", "more"] (j6 aT1):=by walk_at "sc"
theorem bZ8:m6 ["value"] ["value"] (j6 aT4):=by walk_at "sc"
theorem aY0:m6 ["number", "low", "high"] ["number", "low", "high"] (j6 aR2):=by walk_at "sc"
theorem bJ2:m6 ["lists", "place"] ["lists", "place"] (j6 bA5):=by walk_at "sc"
theorem aL2:m6 ["records"] ["records"] (j6 aE3):=by walk_at "sc"
theorem bK5:m6 ["told", "more", "name"] ["told", "more", "name"] (j6 aZ5):=by walk_at "sc"
theorem bP5:m6 ["value", "some"] ["value", "some"] (j6 aO2):=by walk_at "sc"
theorem aR7:m6 ["values", "lists"] ["values", "lists"] (j6 V5):=by walk_at "sc"
theorem aK9:m6 ["pairs", "records", "there", "told"] ["pairs", "records"] (j6 R4):=by walk_at "sc"
theorem bC9:m6 ["thing"] ["thing"] (j6 aU2):=by walk_at "sc"
theorem aK5:m6 ["thing"] ["thing"] (j6 aE0):=by walk_at "sc"
theorem bZ6:m6 ["keys"] ["keys"] (j6 bP8):=by walk_at "sc"
theorem bI9:m6 ["pairs"] ["pairs"] (j6 bA1):=by walk_at "sc"
theorem bR9:m6 ["thing"] ["thing"] (j6 bG4):=by walk_at "sc"
theorem bR3:m6 ["thing"] ["thing"] (j6 bH8):=by walk_at "sc"
theorem bL4:m6 ["thing"] ["thing"] (j6 aZ1):=by walk_at "sc"
theorem aG6:m6 ["thing"] ["thing"] (j6 aB9):=by walk_at "sc"
theorem aX7:m6 ["lower", "upper"] ["lower", "upper"] (j6 aP8):=by walk_at "sc"
theorem bK6:m6 ["thing"] ["thing"] (j6 bB0):=by walk_at "sc"
theorem bY3:m6 ["thing"] ["thing"] (j6 bN8):=by walk_at "sc"
theorem aY9:m6 ["thing"] ["thing"] (j6 aR3):=by walk_at "sc"
theorem aY1:m6 ["thing"] ["thing"] (j6 aP0):=by walk_at "sc"
theorem bE6:m6 ["thing", "word"] ["thing", "word"] (j6 aT0):=by walk_at "sc"
theorem aY2:m6 ["text"] ["text"] (j6 aP3):=by walk_at "sc"
theorem bK9:m6 ["thing"] ["thing"] (j6 aZ8):=by walk_at "sc"
theorem bD4:m6 ["thing"] ["thing"] (j6 aU6):=by walk_at "sc"
theorem aR5:m6 ["thing"] ["thing"] (j6 aI1):=by walk_at "sc"
theorem aY5:m6 ["thing", "inner"] ["thing"] (j6 aR1):=by walk_at "sc"
theorem aX6:m6 ["some", "fronts", "fields"] ["some"] (j6 aP1):=by walk_at "sc"
theorem bK4:m6 ["one", "other", "waiting", "pair"] ["one", "other"] (j6 aZ4):=by walk_at "sc"
theorem bX9:m6 ["field", "more"] ["field", "more"] (j6 bQ4):=by walk_at "sc"
theorem aS1:m6 ["some"] ["some"] (j6 aJ2):=by walk_at "sc"
theorem bY0:m6 ["thing", "found", "waiting", "some"] ["thing"] (j6 bT1):=by walk_at "sc"
theorem aY6:m6 ["field"] ["field"] (j6 aP5):=by walk_at "sc"
theorem aL1:m6 ["hand", "parts", "none", "numbers", "texts", "truths", "lists", "records", "names", "more", "fields"] ["hand", "parts"] (j6 aE2):=by walk_at "sc"
theorem dV1:m6 ["script", "values", "k", "cell", "hand", "parts", "some", "told", "j", "near", "other", "its", "value", "lone", "alone"] ["script"] (j6 bO1):=by walk_at "sc"
section
variable{P:Program}{w:World}{K:PySem.W.Frag}{mg:Str→Option Value}{base:Heap}{a:Addr}{d:FuncData}(zb:BC K mg)
include zb
theorem bQ1(c:FF K mg "_law_values" aM5 [] a d):J6 P w K mg base CX0 1 a d [] (spD ⟨K,mg⟩ 0 X3):=by
 unfold X3
 exact Q4 c aU3 rfl rfl fun _ _ _ _ _ _ _=>by obtain⟨_,_,_,_⟩:=zb;have:=aU3;unfold aF1;unfold YP YA YB;walk_at "db0"
theorem cH9(c:FF K mg "_law_hand" aT7 ["script", "cell", "k"] a d):J6 P w K mg base CX0 1 a d ["script", "cell", "k"] (spD ⟨K,mg⟩ 3 aC6):=by
 unfold aC6
 exact Q4 c bC5 rfl rfl fun _ _ _ _ _ _ _=>by obtain⟨_,_,_,_⟩:=zb;have:=bC5;unfold aT3;walk_at "db0"
theorem cG6(c:FF K mg "_law_draw" aT6 ["hand", "limit"] a d):J6 P w K mg base CX0 1 a d ["hand", "limit"] (spD ⟨K,mg⟩ 2 m5):=by
 unfold m5
 exact Q4 c bB4 rfl rfl fun _ _ _ _ _ _ _=>by obtain⟨_,_,_,_⟩:=zb;have:=bB4;unfold aV8;walk_at "db0"
theorem bV9(c:FF K mg "_law_plain" aQ5 ["hand"] a d)(k2:b8 m5 2 "_law_draw" P w K mg base 1):J6 P w K mg base CX0 2 a d ["hand"] (spD ⟨K,mg⟩ 1 R3):=by
 unfold R3
 exact Q4 c aX9 rfl rfl fun _ _ _ _ _ _ _=>by obtain⟨_,_,_,_⟩:=zb;have:=aX9;unfold aH1;walk_at "db0"
theorem bL8(c:FF K mg "_law_nothing" aH7 [] a d):J6 P w K mg base CX0 1 a d [] (spD ⟨K,mg⟩ 0 M7):=by
 unfold M7
 exact Q4 c aS3 rfl rfl fun _ _ _ _ _ _ _=>by obtain⟨_,_,_,_⟩:=zb;have:=aS3;unfold aV2;walk_at "db0"
theorem bW3(c:FF K mg "_law_every" aO7 [] a d):J6 P w K mg base CX0 1 a d [] (spD ⟨K,mg⟩ 0 aA3):=by
 unfold aA3
 exact Q4 c aY7 rfl rfl fun _ _ _ _ _ _ _=>by obtain⟨_,_,_,_⟩:=zb;have:=aY7;unfold bB9;walk_at "db0"
theorem bW8(c:FF K mg "_law_inner" aQ2 ["hand"] a d)(k2:b8 m5 2 "_law_draw" P w K mg base 1)(k3:b8 R3 1 "_law_plain" P w K mg base 2)(k4:b8 M7 0 "_law_nothing" P w K mg base 1)(k5:b8 aA3 0 "_law_every" P w K mg base 1):J6 P w K mg base CX0 3 a d ["hand"] (spD ⟨K,mg⟩ 1 U0):=by
 unfold U0
 exact Q4 c aY3 rfl rfl fun _ _ _ _ _ _ _=>by obtain⟨_,_,_,_⟩:=zb;have:=aY3;unfold aG9;unfold IB;walk_at "db0"
theorem cK1(c:FF K mg "_law_raw" bA8 ["hand"] a d)(k2:b8 m5 2 "_law_draw" P w K mg base 1)(k3:b8 R3 1 "_law_plain" P w K mg base 2)(k6:b8 U0 1 "_law_inner" P w K mg base 3):J6 P w K mg base CX0 4 a d ["hand"] (spD ⟨K,mg⟩ 1 U5):=by
 unfold U5
 exact Q4 c bL5 rfl rfl fun _ _ _ _ _ _ _=>by obtain⟨_,_,_,_⟩:=zb;have:=bL5;unfold aO8;unfold RR RL;walk_at "db0"
theorem bH9(c:FF K mg "lists_in_form" aF7 ["lists"] a d):J6 P w K mg base CX0 1 a d ["lists"] (spD ⟨K,mg⟩ 1 W7):=by
 unfold W7
 exact Q4 c aN4 rfl rfl fun _ _ _ _ _ _ _=>by obtain⟨_,_,_,_⟩:=zb;have:=aN4;unfold aF9;walk_at "db0"
theorem bA6(c:FF K mg "records_in_form" aC8 ["records"] a d):J6 P w K mg base CX0 1 a d ["records"] (spD ⟨K,mg⟩ 1 T9):=by
 unfold T9
 exact Q4 c aJ1 rfl rfl fun _ _ _ _ _ _ _=>by obtain⟨_,_,_,_⟩:=zb;have:=aJ1;unfold aD6;walk_at "db0"
theorem eF0(c:FF K mg "made" cQ5 ["numbers", "texts", "truths", "lists", "records"] a d)(k8:b8 W7 1 "lists_in_form" P w K mg base 1)(k9:b8 T9 1 "records_in_form" P w K mg base 1):J6 P w K mg base CX0 2 a d ["numbers", "texts", "truths", "lists", "records"] (spD ⟨K,mg⟩ 5 Z0):=by
 unfold Z0
 exact Q4 c cX5 rfl rfl fun _ _ _ _ _ _ _=>by obtain⟨_,_,_,_⟩:=zb;have:=cX5;unfold cU9;walk_at "db0"
theorem cG8(c:FF K mg "_law_made" aV6 ["parts"] a d)(k10:b8 Z0 5 "made" P w K mg base 2):J6 P w K mg base CX0 3 a d ["parts"] (spD ⟨K,mg⟩ 1 T8):=by
 unfold T8
 exact Q4 c bF8 rfl rfl fun _ _ _ _ _ _ _=>by obtain⟨_,_,_,_⟩:=zb;have:=bF8;unfold aK3;walk_at "db0"
theorem bV8(c:FF K mg "_law_other" aP2 ["hand", "parts"] a d)(k2:b8 m5 2 "_law_draw" P w K mg base 1)(k7:b8 U5 1 "_law_raw" P w K mg base 4):J6 P w K mg base CX0 5 a d ["hand", "parts"] (spD ⟨K,mg⟩ 2 T4):=by
 unfold T4
 exact Q4 c aX8 rfl rfl fun _ _ _ _ _ _ _=>by obtain⟨_,_,_,_⟩:=zb;have:=aX8;unfold aH0;walk_at "db0"
theorem bT9(c:FF K mg "records_set" aM2 ["fields", "more"] a d)(k10:b8 Z0 5 "made" P w K mg base 2):J6 P w K mg base CX0 3 a d ["fields", "more"] (spD ⟨K,mg⟩ 2 U4):=by
 unfold U4
 exact Q4 c aS7 rfl rfl fun _ _ _ _ _ _ _=>by obtain⟨_,_,_,_⟩:=zb;have:=aS7;unfold aE9;walk_at "db0"
theorem cK3(c:FF K mg "is_empty" bA3 ["low", "high"] a d):J6 P w K mg base CX0 1 a d ["low", "high"] (spD ⟨K,mg⟩ 2 U3):=by
 unfold U3
 exact Q4 c bL0 rfl rfl fun _ _ _ _ _ _ _=>by obtain⟨_,_,_,_⟩:=zb;have:=bL0;unfold bT8;walk_at "db0"
theorem cQ7(c:FF K mg "stretch" bI7 ["low", "high"] a d)(k14:b8 U3 2 "is_empty" P w K mg base 1)(k10:b8 Z0 5 "made" P w K mg base 2):J6 P w K mg base CX0 3 a d ["low", "high"] (spD ⟨K,mg⟩ 2 aE5):=by
 unfold aE5
 exact Q4 c bR7 rfl rfl fun _ _ _ _ _ _ _=>by obtain⟨_,_,_,_⟩:=zb;have:=bR7;unfold aX0;walk_at "db0"
theorem cH3(c:FF K mg "lists_set" aT1 ["fronts", "more"] a d)(k10:b8 Z0 5 "made" P w K mg base 2):J6 P w K mg base CX0 3 a d ["fronts", "more"] (spD ⟨K,mg⟩ 2 Z8):=by
 unfold Z8
 exact Q4 c bB8 rfl rfl fun _ _ _ _ _ _ _=>by obtain⟨_,_,_,_⟩:=zb;have:=bB8;unfold aK4;walk_at "db0"
theorem cM9(c:FF K mg "set_of" aT4 ["value"] a d)(k13:b8 U4 2 "records_set" P w K mg base 3)(k10:b8 Z0 5 "made" P w K mg base 2)(k15:b8 aE5 2 "stretch" P w K mg base 3)(k16:b8 Z8 2 "lists_set" P w K mg base 3){R:List D→M D}{lv kk:Nat}(k_R:b8 R 1 "set_of" P w K mg base lv)(h1:lv≤kk)(h2:3≤kk):J6 P w K mg base CX0 (kk+1) a d ["value"] (spD ⟨K,mg⟩ 1 (J1 1 (aU4 R))):=
 Q4 c bZ8 rfl rfl fun _ _ _ _ _ _ _=>by obtain⟨_,_,_,_⟩:=zb;have:=bZ8;unfold aU4;walk_at "db0"
theorem bQ2(c:FF K mg "set_of" aT4 ["value"] a d)(k13:b8 U4 2 "records_set" P w K mg base 3)(k10:b8 Z0 5 "made" P w K mg base 2)(k15:b8 aE5 2 "stretch" P w K mg base 3)(k16:b8 Z8 2 "lists_set" P w K mg base 3):∀n,J6 P w K mg base CX0 (3+n) a d ["value"] (spD ⟨K,mg⟩ 1 (aT2 n))
 |0=>cO2 rfl
 |n+1=>cM9 zb c k13 k10 k15 k16 (b8.of c (bQ2 c k13 k10 k15 k16 n)) (Nat.le_refl _) (Nat.le_add_right _ _)
theorem dH0(c:FF K mg "set_of" aT4 ["value"] a d)(k13:b8 U4 2 "records_set" P w K mg base 3)(k10:b8 Z0 5 "made" P w K mg base 2)(k15:b8 aE5 2 "stretch" P w K mg base 3)(k16:b8 Z8 2 "lists_set" P w K mg base 3):J6 P w K mg base CX0 7 a d ["value"] (spD ⟨K,mg⟩ 1 bB5):=bQ2 zb c k13 k10 k15 k16 4
theorem bV7(c:FF K mg "is_between" aR2 ["number", "low", "high"] a d)(k14:b8 U3 2 "is_empty" P w K mg base 1):J6 P w K mg base CX0 2 a d ["number", "low", "high"] (spD ⟨K,mg⟩ 3 Q8):=by
 unfold Q8
 exact Q4 c aY0 rfl rfl fun _ _ _ _ _ _ _=>by obtain⟨_,_,_,_⟩:=zb;have:=aY0;unfold aQ6;walk_at "db0"
theorem cL8(c:FF K mg "front_at" bA5 ["lists", "place"] a d):J6 P w K mg base CX0 1 a d ["lists", "place"] (spD ⟨K,mg⟩ 2 W2):=by
 unfold W2
 exact Q4 c bJ2 rfl rfl fun _ _ _ _ _ _ _=>by obtain⟨_,_,_,_⟩:=zb;have:=bJ2;unfold bA9;walk_at "db0"
theorem bF9(c:FF K mg "fields_by_name" aE3 ["records"] a d):J6 P w K mg base CX0 1 a d ["records"] (spD ⟨K,mg⟩ 1 K1):=by
 unfold K1
 exact Q4 c aL2 rfl rfl fun _ _ _ _ _ _ _=>by obtain⟨_,_,_,_⟩:=zb;have:=aL2;unfold aE8;walk_at "db0"
theorem cK2(c:FF K mg "field_of" aZ5 ["told", "more", "name"] a d):J6 P w K mg base CX0 1 a d ["told", "more", "name"] (spD ⟨K,mg⟩ 3 V6):=by
 unfold V6
 exact Q4 c bK5 rfl rfl fun _ _ _ _ _ _ _=>by obtain⟨_,_,_,_⟩:=zb;have:=bK5;unfold bA0;walk_at "db0"
theorem aO5(c:FF K mg "list_lies_in" V5 ["values", "lists"] a d)(k19:b8 W2 2 "front_at" P w K mg base 1){R:List D→M D}{lv:Nat}(k_R:b8 R 2 "lies_in" P w K mg base lv)(h2:2≤lv):J6 P w K mg base CX0 (lv+1) a d ["values", "lists"] (spD ⟨K,mg⟩ 2 (R6 R)):=by
 unfold R6
 exact Q4 c aR7 rfl rfl fun _ _ _ _ _ _ _=>by obtain⟨_,_,_,_⟩:=zb;have:=aR7;unfold aI9;walk_at "db0"
theorem aJ3(c:FF K mg "record_lies_in" R4 ["pairs", "records"] a d)(k20:b8 K1 1 "fields_by_name" P w K mg base 1)(k21:b8 V6 3 "field_of" P w K mg base 1){R:List D→M D}{lv:Nat}(k_R:b8 R 2 "lies_in" P w K mg base lv)(h2:2≤lv):J6 P w K mg base CX0 (lv+1) a d ["pairs", "records"] (spD ⟨K,mg⟩ 2 (N7 R)):=by
 unfold N7
 exact Q4 c aK9 rfl rfl fun _ _ _ _ _ _ _=>by obtain⟨_,_,_,_⟩:=zb;have:=aK9;unfold aA5;unfold RZ RA;walk_at "db0"
theorem cE9(c:FF K mg "lies_in" aO2 ["value", "some"] a d)(k18:b8 Q8 3 "is_between" P w K mg base 2){R:List D→M D}{lv:Nat}(k_R:b8 R 2 "lies_in" P w K mg base lv)(k23:b8 (R6 R) 2 "list_lies_in" P w K mg base (lv+1))(k24:b8 (N7 R) 2 "record_lies_in" P w K mg base (lv+1))(h2:2≤lv):J6 P w K mg base CX0 (lv+2) a d ["value", "some"] (spD ⟨K,mg⟩ 2 (J1 2 (aN0 R))):=
 Q4 c bP5 rfl rfl fun _ _ _ _ _ _ _=>by obtain⟨_,_,_,_⟩:=zb;have:=bP5;unfold aN0;walk_at "db0"
theorem bJ7(c:FF K mg "lies_in" aO2 ["value", "some"] a d){a23:Addr}{d23:FuncData}(c23:FF K mg "list_lies_in" V5 ["values", "lists"] a23 d23){a24:Addr}{d24:FuncData}(c24:FF K mg "record_lies_in" R4 ["pairs", "records"] a24 d24)(k18:b8 Q8 3 "is_between" P w K mg base 2)(k19:b8 W2 2 "front_at" P w K mg base 1)(k20:b8 K1 1 "fields_by_name" P w K mg base 1)(k21:b8 V6 3 "field_of" P w K mg base 1):∀n,J6 P w K mg base CX0 (2+2*n) a d ["value", "some"] (spD ⟨K,mg⟩ 2 (aW4 n))
 |0=>cO2 rfl
 |n+1=>by
   have kR:=b8.of c (bJ7 c c23 c24 k18 k19 k20 k21 n)
   have h23:=b8.of c23 (aO5 zb c23 k19 kR (Nat.le_add_right _ _))
   have h24:=b8.of c24 (aJ3 zb c24 k20 k21 kR (Nat.le_add_right _ _))
   exact cE9 zb c k18 kR h23 h24 (Nat.le_add_right _ _)
theorem cT4(c:FF K mg "lies_in" aO2 ["value", "some"] a d){a23:Addr}{d23:FuncData}(c23:FF K mg "list_lies_in" V5 ["values", "lists"] a23 d23){a24:Addr}{d24:FuncData}(c24:FF K mg "record_lies_in" R4 ["pairs", "records"] a24 d24)(k18:b8 Q8 3 "is_between" P w K mg base 2)(k19:b8 W2 2 "front_at" P w K mg base 1)(k20:b8 K1 1 "fields_by_name" P w K mg base 1)(k21:b8 V6 3 "field_of" P w K mg base 1):J6 P w K mg base CX0 122 a d ["value", "some"] (spD ⟨K,mg⟩ 2 V1):=bJ7 zb c c23 c24 k18 k19 k20 k21 60
theorem bM7(c:FF K mg "list_lies_in" V5 ["values", "lists"] a d)(k19:b8 W2 2 "front_at" P w K mg base 1)(k22:b8 V1 2 "lies_in" P w K mg base 122):J6 P w K mg base CX0 123 a d ["values", "lists"] (spD ⟨K,mg⟩ 2 bO9):=aO5 zb c k19 k22 (by decide)
theorem bC1(c:FF K mg "record_lies_in" R4 ["pairs", "records"] a d)(k20:b8 K1 1 "fields_by_name" P w K mg base 1)(k21:b8 V6 3 "field_of" P w K mg base 1)(k22:b8 V1 2 "lies_in" P w K mg base 122):J6 P w K mg base CX0 123 a d ["pairs", "records"] (spD ⟨K,mg⟩ 2 bH5):=aJ3 zb c k20 k21 k22 (by decide)
theorem cC3(c:FF K mg "is_couple" aU2 ["thing"] a d):J6 P w K mg base CX0 1 a d ["thing"] (spD ⟨K,mg⟩ 1 aC2):=by
 unfold aC2
 exact Q4 c bC9 rfl rfl fun _ _ _ _ _ _ _=>by obtain⟨_,_,_,_⟩:=zb;have:=bC9;unfold bL3;walk_at "db0"
theorem bE8(c:FF K mg "has_lists_form" aE0 ["thing"] a d)(k25:b8 aC2 1 "is_couple" P w K mg base 1):J6 P w K mg base CX0 2 a d ["thing"] (spD ⟨K,mg⟩ 1 U7):=by
 unfold U7
 exact Q4 c aK5 rfl rfl fun _ _ _ _ _ _ _=>by obtain⟨_,_,_,_⟩:=zb;have:=aK5;unfold aO6;walk_at "db0"
theorem dC0(c:FF K mg "rising" bP8 ["keys"] a d):J6 P w K mg base CX0 1 a d ["keys"] (spD ⟨K,mg⟩ 1 aD8):=by
 unfold aD8
 exact Q4 c bZ6 rfl rfl fun _ _ _ _ _ _ _=>by obtain⟨_,_,_,_⟩:=zb;have:=bZ6;unfold cJ0;walk_at "db0"
theorem cK5(c:FF K mg "names_of" bA1 ["pairs"] a d):J6 P w K mg base CX0 1 a d ["pairs"] (spD ⟨K,mg⟩ 1 aJ5):=by
 unfold aJ5
 exact Q4 c bI9 rfl rfl fun _ _ _ _ _ _ _=>by obtain⟨_,_,_,_⟩:=zb;have:=bI9;unfold bS4;walk_at "db0"
theorem cT7(c:FF K mg "is_text" bG4 ["thing"] a d):J6 P w K mg base CX0 1 a d ["thing"] (spD ⟨K,mg⟩ 1 aE4):=by
 unfold aE4
 exact Q4 c bR9 rfl rfl fun _ _ _ _ _ _ _=>by obtain⟨_,_,_,_⟩:=zb;have:=bR9;unfold cA0;walk_at "db0"
theorem cV4(c:FF K mg "is_name" bH8 ["thing"] a d)(k29:b8 aE4 1 "is_text" P w K mg base 1):J6 P w K mg base CX0 2 a d ["thing"] (spD ⟨K,mg⟩ 1 aO4):=by
 unfold aO4
 exact Q4 c bR3 rfl rfl fun _ _ _ _ _ _ _=>by obtain⟨_,_,_,_⟩:=zb;have:=bR3;unfold bX6;walk_at "db0"
theorem cO4(c:FF K mg "is_field" aZ1 ["thing"] a d)(k30:b8 aO4 1 "is_name" P w K mg base 2):J6 P w K mg base CX0 3 a d ["thing"] (spD ⟨K,mg⟩ 1 aI5):=by
 unfold aI5
 exact Q4 c bL4 rfl rfl fun _ _ _ _ _ _ _=>by obtain⟨_,_,_,_⟩:=zb;have:=bL4;unfold bP0;walk_at "db0"
theorem aX3(c:FF K mg "has_records_form" aB9 ["thing"] a d)(k27:b8 aD8 1 "rising" P w K mg base 1)(k28:b8 aJ5 1 "names_of" P w K mg base 1)(k25:b8 aC2 1 "is_couple" P w K mg base 1)(k31:b8 aI5 1 "is_field" P w K mg base 3):J6 P w K mg base CX0 4 a d ["thing"] (spD ⟨K,mg⟩ 1 R8):=by
 unfold R8
 exact Q4 c aG6 rfl rfl fun _ _ _ _ _ _ _=>by obtain⟨_,_,_,_⟩:=zb;have:=aG6;unfold aH5;walk_at "db0"
theorem bV6(c:FF K mg "lies_clear" aP8 ["lower", "upper"] a d):J6 P w K mg base CX0 1 a d ["lower", "upper"] (spD ⟨K,mg⟩ 2 aD4):=by
 unfold aD4
 exact Q4 c aX7 rfl rfl fun _ _ _ _ _ _ _=>by obtain⟨_,_,_,_⟩:=zb;have:=aX7;unfold bF1;walk_at "db0"
theorem cO1(c:FF K mg "is_whole" bB0 ["thing"] a d):J6 P w K mg base CX0 1 a d ["thing"] (spD ⟨K,mg⟩ 1 aP9):=by
 unfold aP9
 exact Q4 c bK6 rfl rfl fun _ _ _ _ _ _ _=>by obtain⟨_,_,_,_⟩:=zb;have:=bK6;unfold bT6;walk_at "db0"
theorem dH8(c:FF K mg "is_end" bN8 ["thing"] a d)(k34:b8 aP9 1 "is_whole" P w K mg base 1):J6 P w K mg base CX0 2 a d ["thing"] (spD ⟨K,mg⟩ 1 aV1):=by
 unfold aV1
 exact Q4 c bY3 rfl rfl fun _ _ _ _ _ _ _=>by obtain⟨_,_,_,_⟩:=zb;have:=bY3;unfold cN7;walk_at "db0"
theorem bW1(c:FF K mg "is_stretch" aR3 ["thing"] a d)(k14:b8 U3 2 "is_empty" P w K mg base 1)(k35:b8 aV1 1 "is_end" P w K mg base 2):J6 P w K mg base CX0 3 a d ["thing"] (spD ⟨K,mg⟩ 1 aD1):=by
 unfold aD1
 exact Q4 c aY9 rfl rfl fun _ _ _ _ _ _ _=>by obtain⟨_,_,_,_⟩:=zb;have:=aY9;unfold bE1;walk_at "db0"
theorem bV0(c:FF K mg "is_numbers" aP0 ["thing"] a d)(k33:b8 aD4 2 "lies_clear" P w K mg base 1)(k36:b8 aD1 1 "is_stretch" P w K mg base 3):J6 P w K mg base CX0 4 a d ["thing"] (spD ⟨K,mg⟩ 1 aC9):=by
 unfold aC9
 exact Q4 c aY1 rfl rfl fun _ _ _ _ _ _ _=>by obtain⟨_,_,_,_⟩:=zb;have:=aY1;unfold bE7;walk_at "db0"
theorem cE3(c:FF K mg "is_tagged" aT0 ["thing", "word"] a d):J6 P w K mg base CX0 1 a d ["thing", "word"] (spD ⟨K,mg⟩ 2 aF2):=by
 unfold aF2
 exact Q4 c bE6 rfl rfl fun _ _ _ _ _ _ _=>by obtain⟨_,_,_,_⟩:=zb;have:=bE6;unfold bK1;walk_at "db0"
theorem bW2(c:FF K mg "text_order" aP3 ["text"] a d):J6 P w K mg base CX0 1 a d ["text"] (spD ⟨K,mg⟩ 1 aC7):=by
 unfold aC7
 exact Q4 c aY2 rfl rfl fun _ _ _ _ _ _ _=>by obtain⟨_,_,_,_⟩:=zb;have:=aY2;unfold bE2;walk_at "db0"
theorem cI8(c:FF K mg "is_texts" aZ8 ["thing"] a d)(k27:b8 aD8 1 "rising" P w K mg base 1)(k38:b8 aF2 2 "is_tagged" P w K mg base 1)(k39:b8 aC7 1 "text_order" P w K mg base 1)(k29:b8 aE4 1 "is_text" P w K mg base 1):J6 P w K mg base CX0 2 a d ["thing"] (spD ⟨K,mg⟩ 1 aI6):=by
 unfold aI6
 exact Q4 c bK9 rfl rfl fun _ _ _ _ _ _ _=>by obtain⟨_,_,_,_⟩:=zb;have:=bK9;unfold bQ3;walk_at "db0"
theorem cB5(c:FF K mg "is_truths" aU6 ["thing"] a d)(k27:b8 aD8 1 "rising" P w K mg base 1):J6 P w K mg base CX0 2 a d ["thing"] (spD ⟨K,mg⟩ 1 aF6):=by
 unfold aF6
 exact Q4 c bD4 rfl rfl fun _ _ _ _ _ _ _=>by obtain⟨_,_,_,_⟩:=zb;have:=bD4;unfold bJ3;walk_at "db0"
theorem bM1(c:FF K mg "has_set_form" aI1 ["thing"] a d)(k26:b8 U7 1 "has_lists_form" P w K mg base 2)(k32:b8 R8 1 "has_records_form" P w K mg base 4)(k37:b8 aC9 1 "is_numbers" P w K mg base 4)(k40:b8 aI6 1 "is_texts" P w K mg base 2)(k41:b8 aF6 1 "is_truths" P w K mg base 2):J6 P w K mg base CX0 5 a d ["thing"] (spD ⟨K,mg⟩ 1 R5):=by
 unfold R5
 exact Q4 c aR5 rfl rfl fun _ _ _ _ _ _ _=>by obtain⟨_,_,_,_⟩:=zb;have:=aR5;unfold aV0;walk_at "db0"
theorem bV3(c:FF K mg "inner_sets" aR1 ["thing"] a d):J6 P w K mg base CX0 1 a d ["thing"] (spD ⟨K,mg⟩ 1 T5):=by
 unfold T5
 exact Q4 c aY5 rfl rfl fun _ _ _ _ _ _ _=>by obtain⟨_,_,_,_⟩:=zb;have:=aY5;unfold aD7;unfold IR IL;walk_at "db0"
theorem bW0(c:FF K mg "outer_form" aP1 ["some"] a d):J6 P w K mg base CX0 1 a d ["some"] (spD ⟨K,mg⟩ 1 aA2):=by
 unfold aA2
 exact Q4 c aX6 rfl rfl fun _ _ _ _ _ _ _=>by obtain⟨_,_,_,_⟩:=zb;have:=aX6;unfold bD7;walk_at "db0"
theorem cK7(c:FF K mg "same_set" aZ4 ["one", "other"] a d)(k44:b8 aA2 1 "outer_form" P w K mg base 1)(k43:b8 T5 1 "inner_sets" P w K mg base 1):J6 P w K mg base CX0 2 a d ["one", "other"] (spD ⟨K,mg⟩ 2 aJ6):=by
 unfold aJ6
 exact Q4 c bK4 rfl rfl fun _ _ _ _ _ _ _=>by obtain⟨_,_,_,_⟩:=zb;have:=bK4;unfold aQ4;unfold Z3 Z2 Z1;walk_at "db0"
theorem dE9(c:FF K mg "is_due" bQ4 ["field", "more"] a d)(k45:b8 aJ6 2 "same_set" P w K mg base 2):J6 P w K mg base CX0 3 a d ["field", "more"] (spD ⟨K,mg⟩ 2 aM9):=by
 unfold aM9
 exact Q4 c bX9 rfl rfl fun _ _ _ _ _ _ _=>by obtain⟨_,_,_,_⟩:=zb;have:=bX9;unfold cP5;walk_at "db0"
theorem bM3(c:FF K mg "has_one_form" aJ2 ["some"] a d)(k46:b8 aM9 2 "is_due" P w K mg base 3):J6 P w K mg base CX0 4 a d ["some"] (spD ⟨K,mg⟩ 1 V0):=by
 unfold V0
 exact Q4 c aS1 rfl rfl fun _ _ _ _ _ _ _=>by obtain⟨_,_,_,_⟩:=zb;have:=aS1;unfold aU0;walk_at "db0"
theorem dH7(c:FF K mg "is_set" bT1 ["thing"] a d)(k42:b8 R5 1 "has_set_form" P w K mg base 5)(k43:b8 T5 1 "inner_sets" P w K mg base 1)(k47:b8 V0 1 "has_one_form" P w K mg base 4):J6 P w K mg base CX0 6 a d ["thing"] (spD ⟨K,mg⟩ 1 aU8):=by
 unfold aU8
 exact Q4 c bY0 rfl rfl fun _ _ _ _ _ _ _=>by obtain⟨_,_,_,_⟩:=zb;have:=bY0;unfold bD2;unfold V4 V2 V3 Z1;walk_at "db0"
theorem bW9(c:FF K mg "_law_first" aP5 ["field"] a d):J6 P w K mg base CX0 1 a d ["field"] (spD ⟨K,mg⟩ 1 T6):=by
 unfold T6
 exact Q4 c aY6 rfl rfl fun _ _ _ _ _ _ _=>by obtain⟨_,_,_,_⟩:=zb;have:=aY6;unfold bC6;walk_at "db0"
theorem bC0(c:FF K mg "_law_otherwise" aE2 ["hand", "parts"] a d)(k4:b8 M7 0 "_law_nothing" P w K mg base 1)(k2:b8 m5 2 "_law_draw" P w K mg base 1)(k49:b8 T6 1 "_law_first" P w K mg base 1):J6 P w K mg base CX0 4 a d ["hand", "parts"] (spD ⟨K,mg⟩ 2 U8):=by
 unfold U8
 exact Q4 c aL1 rfl rfl fun _ _ _ _ _ _ _=>by obtain⟨_,_,_,_⟩:=zb;have:=aL1;unfold aA1;unfold OR OE MT OL;walk_at "db0"
theorem eQ6(c:FF K mg "law" bO1 ["script"] a d)(k0:b8 X3 0 "_law_values" P w K mg base 1)(k1:b8 aC6 3 "_law_hand" P w K mg base 1)(k7:b8 U5 1 "_law_raw" P w K mg base 4)(k11:b8 T8 1 "_law_made" P w K mg base 3)(k12:b8 T4 2 "_law_other" P w K mg base 5)(k17:b8 bB5 1 "set_of" P w K mg base 7)(k22:b8 V1 2 "lies_in" P w K mg base 122)(k2:b8 m5 2 "_law_draw" P w K mg base 1)(k48:b8 aU8 1 "is_set" P w K mg base 6)(k50:b8 U8 2 "_law_otherwise" P w K mg base 4):J6 P w K mg base CX0 123 a d ["script"] (spD ⟨K,mg⟩ 1 cO0):=by
 unfold cO0
 exact Q4 c dV1 rfl rfl fun _ _ _ _ _ _ _=>by obtain⟨_,_,_,_⟩:=zb;have:=dV1;unfold cX6;unfold LZ AE LP;walk_at "db0"
end
set_option maxHeartbeats 4000000 in
theorem all_mk{l:PySem.W.OpenLaw}{w:World}{K:PySem.W.Frag}{h:Heap}{mg:Str→Option Value}{fa:Addr}(X:K.In h)(G:h.Ns mainGlobals mg)(hfa:mg "law" =some (.ref fa))
 (Y0:FH K "_law_values" aM5) (Y1:FH K "_law_hand" aT7) (Y2:FH K "_law_draw" aT6) (Y3:FH K "_law_plain" aQ5) (Y4:FH K "_law_nothing" aH7) (Y5:FH K "_law_every" aO7) (Y6:FH K "_law_inner" aQ2) (Y7:FH K "_law_raw" bA8) (Y8:FH K "lists_in_form" aF7) (Y9:FH K "records_in_form" aC8) (Y10:FH K "made" cQ5) (Y11:FH K "_law_made" aV6) (Y12:FH K "_law_other" aP2) (Y13:FH K "records_set" aM2) (Y14:FH K "is_empty" bA3) (Y15:FH K "stretch" bI7) (Y16:FH K "lists_set" aT1) (Y17:FH K "set_of" aT4) (Y18:FH K "is_between" aR2) (Y19:FH K "front_at" bA5) (Y20:FH K "fields_by_name" aE3) (Y21:FH K "field_of" aZ5) (Y22:FH K "lies_in" aO2) (Y23:FH K "list_lies_in" V5) (Y24:FH K "record_lies_in" R4) (Y25:FH K "is_couple" aU2) (Y26:FH K "has_lists_form" aE0) (Y27:FH K "rising" bP8) (Y28:FH K "names_of" bA1) (Y29:FH K "is_text" bG4) (Y30:FH K "is_name" bH8) (Y31:FH K "is_field" aZ1) (Y32:FH K "has_records_form" aB9) (Y33:FH K "lies_clear" aP8) (Y34:FH K "is_whole" bB0) (Y35:FH K "is_end" bN8) (Y36:FH K "is_stretch" aR3) (Y37:FH K "is_numbers" aP0) (Y38:FH K "is_tagged" aT0) (Y39:FH K "text_order" aP3) (Y40:FH K "is_texts" aZ8) (Y41:FH K "is_truths" aU6) (Y42:FH K "has_set_form" aI1) (Y43:FH K "inner_sets" aR1) (Y44:FH K "outer_form" aP1) (Y45:FH K "same_set" aZ4) (Y46:FH K "is_due" bQ4) (Y47:FH K "has_one_form" aJ2) (Y48:FH K "is_set" bT1) (Y49:FH K "_law_first" aP5) (Y50:FH K "_law_otherwise" aE2) (Y51:FH K "law" bO1)
 {a_NOTHING:Addr} {n_NOTHING:Nat} {sl_NOTHING:Array (Option Value)} {a_NOTHING_0:Addr} {n_NOTHING_0:Nat} {sl_NOTHING_0:Array (Option Value)} {a_NOTHING_1:Addr} {n_NOTHING_1:Nat} {sl_NOTHING_1:Array (Option Value)} {t_NOTHING_1_0:Tok} {a_NOTHING_1_1:Addr} {n_NOTHING_1_1:Nat} {sl_NOTHING_1_1:Array (Option Value)} {a_NOTHING_2:Addr} {n_NOTHING_2:Nat} {sl_NOTHING_2:Array (Option Value)}
 (g_NOTHING:PySem.W.nsIn K mainGlobals "NOTHING" =some (some (.ref a_NOTHING))) (l_NOTHING:K.lookup a_NOTHING=some ⟨.type "tuple",none,.seq #[.ref a_NOTHING_0,.ref a_NOTHING_1,.ref a_NOTHING_2,.none,.none] n_NOTHING,sl_NOTHING⟩) (l_NOTHING_0:K.lookup a_NOTHING_0=some ⟨.type "tuple",none,.seq #[] n_NOTHING_0,sl_NOTHING_0⟩) (l_NOTHING_1:K.lookup a_NOTHING_1=some ⟨.type "tuple",none,.seq #[.str "of" t_NOTHING_1_0,.ref a_NOTHING_1_1] n_NOTHING_1,sl_NOTHING_1⟩) (l_NOTHING_1_1:K.lookup a_NOTHING_1_1=some ⟨.type "tuple",none,.seq #[] n_NOTHING_1_1,sl_NOTHING_1_1⟩) (l_NOTHING_2:K.lookup a_NOTHING_2=some ⟨.type "tuple",none,.seq #[] n_NOTHING_2,sl_NOTHING_2⟩)
 {a_ALL_PARTS:Addr} {n_ALL_PARTS:Nat} {sl_ALL_PARTS:Array (Option Value)} {a_ALL_PARTS_0:Addr} {n_ALL_PARTS_0:Nat} {sl_ALL_PARTS_0:Array (Option Value)} {a_ALL_PARTS_0_0:Addr} {n_ALL_PARTS_0_0:Nat} {sl_ALL_PARTS_0_0:Array (Option Value)} {a_ALL_PARTS_1:Addr} {n_ALL_PARTS_1:Nat} {sl_ALL_PARTS_1:Array (Option Value)} {t_ALL_PARTS_1_0:Tok} {a_ALL_PARTS_1_1:Addr} {n_ALL_PARTS_1_1:Nat} {sl_ALL_PARTS_1_1:Array (Option Value)} {a_ALL_PARTS_2:Addr} {n_ALL_PARTS_2:Nat} {sl_ALL_PARTS_2:Array (Option Value)} {a_ALL_PARTS_3:Addr} {n_ALL_PARTS_3:Nat} {sl_ALL_PARTS_3:Array (Option Value)} {a_ALL_PARTS_3_0:Addr} {n_ALL_PARTS_3_0:Nat} {sl_ALL_PARTS_3_0:Array (Option Value)} {t_ALL_PARTS_3_1:Tok} {a_ALL_PARTS_4:Addr} {n_ALL_PARTS_4:Nat} {sl_ALL_PARTS_4:Array (Option Value)} {a_ALL_PARTS_4_0:Addr} {n_ALL_PARTS_4_0:Nat} {sl_ALL_PARTS_4_0:Array (Option Value)} {t_ALL_PARTS_4_1:Tok}
 (g_ALL_PARTS:PySem.W.nsIn K mainGlobals "ALL_PARTS" =some (some (.ref a_ALL_PARTS))) (l_ALL_PARTS:K.lookup a_ALL_PARTS=some ⟨.type "tuple",none,.seq #[.ref a_ALL_PARTS_0,.ref a_ALL_PARTS_1,.ref a_ALL_PARTS_2,.ref a_ALL_PARTS_3,.ref a_ALL_PARTS_4] n_ALL_PARTS,sl_ALL_PARTS⟩) (l_ALL_PARTS_0:K.lookup a_ALL_PARTS_0=some ⟨.type "tuple",none,.seq #[.ref a_ALL_PARTS_0_0] n_ALL_PARTS_0,sl_ALL_PARTS_0⟩) (l_ALL_PARTS_0_0:K.lookup a_ALL_PARTS_0_0=some ⟨.type "tuple",none,.seq #[.none,.none] n_ALL_PARTS_0_0,sl_ALL_PARTS_0_0⟩) (l_ALL_PARTS_1:K.lookup a_ALL_PARTS_1=some ⟨.type "tuple",none,.seq #[.str "but" t_ALL_PARTS_1_0,.ref a_ALL_PARTS_1_1] n_ALL_PARTS_1,sl_ALL_PARTS_1⟩) (l_ALL_PARTS_1_1:K.lookup a_ALL_PARTS_1_1=some ⟨.type "tuple",none,.seq #[] n_ALL_PARTS_1_1,sl_ALL_PARTS_1_1⟩) (l_ALL_PARTS_2:K.lookup a_ALL_PARTS_2=some ⟨.type "tuple",none,.seq #[.bool false,.bool true] n_ALL_PARTS_2,sl_ALL_PARTS_2⟩) (l_ALL_PARTS_3:K.lookup a_ALL_PARTS_3=some ⟨.type "tuple",none,.seq #[.ref a_ALL_PARTS_3_0,.str "any" t_ALL_PARTS_3_1] n_ALL_PARTS_3,sl_ALL_PARTS_3⟩) (l_ALL_PARTS_3_0:K.lookup a_ALL_PARTS_3_0=some ⟨.type "tuple",none,.seq #[] n_ALL_PARTS_3_0,sl_ALL_PARTS_3_0⟩) (l_ALL_PARTS_4:K.lookup a_ALL_PARTS_4=some ⟨.type "tuple",none,.seq #[.ref a_ALL_PARTS_4_0,.str "any" t_ALL_PARTS_4_1] n_ALL_PARTS_4,sl_ALL_PARTS_4⟩) (l_ALL_PARTS_4_0:K.lookup a_ALL_PARTS_4_0=some ⟨.type "tuple",none,.seq #[] n_ALL_PARTS_4_0,sl_ALL_PARTS_4_0⟩)
 {t_ANY:Tok}
 (g_ANY:PySem.W.nsIn K mainGlobals "ANY" =some (some (.str "any" t_ANY)))
 (z:∀b∈bltL,PySem.W.nsIn K mainGlobals b=some none)
 (pure:∀ns:List Int,ns.length≤63→∃G',cO0 [.ref 0] [.rol (ns.map D.int)]=some (.ok (.bl true),G')):
 ∃fd:FuncData,(∀(s:Shared) (v:Value),BindsTo s fd ⟨[v], []⟩ [("script",v)])∧∀base:Heap,K.In base→base.Ns mainGlobals mg→J6 l.prog w K mg base CX0 123 fa fd ["script"] (cW4 K):=by
 obtain⟨_,_,an_law,_,_,kV_law,dc_law,pm_law,cd_law,ct_law,a51,l_law,e_law,k51⟩:=Y51
 have e:=hfa.symm.trans (PySem.W.mg_of X G a51)
 cases e
 obtain⟨_,_,C0⟩:=Y0.ff0 X G fun _ _ _ _ _ _=>rfl
 obtain⟨_,_,C1⟩:=Y1.ff3 (p1:= "script") (p2:= "cell") (p3:= "k") X G fun _ _ _ _ _ _ _ _ _=>rfl
 obtain⟨_,_,C2⟩:=Y2.ff2 (p1:= "hand") (p2:= "limit") X G fun _ _ _ _ _ _ _ _=>rfl
 obtain⟨_,_,C3⟩:=Y3.ff1 (p1:= "hand") X G fun _ _ _ _ _ _ _=>rfl
 obtain⟨_,_,C4⟩:=Y4.ff0 X G fun _ _ _ _ _ _=>rfl
 obtain⟨_,_,C5⟩:=Y5.ff0 X G fun _ _ _ _ _ _=>rfl
 obtain⟨_,_,C6⟩:=Y6.ff1 (p1:= "hand") X G fun _ _ _ _ _ _ _=>rfl
 obtain⟨_,_,C7⟩:=Y7.ff1 (p1:= "hand") X G fun _ _ _ _ _ _ _=>rfl
 obtain⟨_,_,C8⟩:=Y8.ff1 (p1:= "lists") X G fun _ _ _ _ _ _ _=>rfl
 obtain⟨_,_,C9⟩:=Y9.ff1 (p1:= "records") X G fun _ _ _ _ _ _ _=>rfl
 obtain⟨_,_,C10⟩:=Y10.ff5 (p1:= "numbers") (p2:= "texts") (p3:= "truths") (p4:= "lists") (p5:= "records") X G fun _ _ _ _ _ _ _ _ _ _ _=>rfl
 obtain⟨_,_,C11⟩:=Y11.ff1 (p1:= "parts") X G fun _ _ _ _ _ _ _=>rfl
 obtain⟨_,_,C12⟩:=Y12.ff2 (p1:= "hand") (p2:= "parts") X G fun _ _ _ _ _ _ _ _=>rfl
 obtain⟨_,_,C13⟩:=Y13.ff2 (p1:= "fields") (p2:= "more") X G fun _ _ _ _ _ _ _ _=>rfl
 obtain⟨_,_,C14⟩:=Y14.ff2 (p1:= "low") (p2:= "high") X G fun _ _ _ _ _ _ _ _=>rfl
 obtain⟨_,_,C15⟩:=Y15.ff2 (p1:= "low") (p2:= "high") X G fun _ _ _ _ _ _ _ _=>rfl
 obtain⟨_,_,C16⟩:=Y16.ff2 (p1:= "fronts") (p2:= "more") X G fun _ _ _ _ _ _ _ _=>rfl
 obtain⟨_,_,C17⟩:=Y17.ff1 (p1:= "value") X G fun _ _ _ _ _ _ _=>rfl
 obtain⟨_,_,C18⟩:=Y18.ff3 (p1:= "number") (p2:= "low") (p3:= "high") X G fun _ _ _ _ _ _ _ _ _=>rfl
 obtain⟨_,_,C19⟩:=Y19.ff2 (p1:= "lists") (p2:= "place") X G fun _ _ _ _ _ _ _ _=>rfl
 obtain⟨_,_,C20⟩:=Y20.ff1 (p1:= "records") X G fun _ _ _ _ _ _ _=>rfl
 obtain⟨_,_,C21⟩:=Y21.ff3 (p1:= "told") (p2:= "more") (p3:= "name") X G fun _ _ _ _ _ _ _ _ _=>rfl
 obtain⟨_,_,C22⟩:=Y22.ff2 (p1:= "value") (p2:= "some") X G fun _ _ _ _ _ _ _ _=>rfl
 obtain⟨_,_,C23⟩:=Y23.ff2 (p1:= "values") (p2:= "lists") X G fun _ _ _ _ _ _ _ _=>rfl
 obtain⟨_,_,C24⟩:=Y24.ff2 (p1:= "pairs") (p2:= "records") X G fun _ _ _ _ _ _ _ _=>rfl
 obtain⟨_,_,C25⟩:=Y25.ff1 (p1:= "thing") X G fun _ _ _ _ _ _ _=>rfl
 obtain⟨_,_,C26⟩:=Y26.ff1 (p1:= "thing") X G fun _ _ _ _ _ _ _=>rfl
 obtain⟨_,_,C27⟩:=Y27.ff1 (p1:= "keys") X G fun _ _ _ _ _ _ _=>rfl
 obtain⟨_,_,C28⟩:=Y28.ff1 (p1:= "pairs") X G fun _ _ _ _ _ _ _=>rfl
 obtain⟨_,_,C29⟩:=Y29.ff1 (p1:= "thing") X G fun _ _ _ _ _ _ _=>rfl
 obtain⟨_,_,C30⟩:=Y30.ff1 (p1:= "thing") X G fun _ _ _ _ _ _ _=>rfl
 obtain⟨_,_,C31⟩:=Y31.ff1 (p1:= "thing") X G fun _ _ _ _ _ _ _=>rfl
 obtain⟨_,_,C32⟩:=Y32.ff1 (p1:= "thing") X G fun _ _ _ _ _ _ _=>rfl
 obtain⟨_,_,C33⟩:=Y33.ff2 (p1:= "lower") (p2:= "upper") X G fun _ _ _ _ _ _ _ _=>rfl
 obtain⟨_,_,C34⟩:=Y34.ff1 (p1:= "thing") X G fun _ _ _ _ _ _ _=>rfl
 obtain⟨_,_,C35⟩:=Y35.ff1 (p1:= "thing") X G fun _ _ _ _ _ _ _=>rfl
 obtain⟨_,_,C36⟩:=Y36.ff1 (p1:= "thing") X G fun _ _ _ _ _ _ _=>rfl
 obtain⟨_,_,C37⟩:=Y37.ff1 (p1:= "thing") X G fun _ _ _ _ _ _ _=>rfl
 obtain⟨_,_,C38⟩:=Y38.ff2 (p1:= "thing") (p2:= "word") X G fun _ _ _ _ _ _ _ _=>rfl
 obtain⟨_,_,C39⟩:=Y39.ff1 (p1:= "text") X G fun _ _ _ _ _ _ _=>rfl
 obtain⟨_,_,C40⟩:=Y40.ff1 (p1:= "thing") X G fun _ _ _ _ _ _ _=>rfl
 obtain⟨_,_,C41⟩:=Y41.ff1 (p1:= "thing") X G fun _ _ _ _ _ _ _=>rfl
 obtain⟨_,_,C42⟩:=Y42.ff1 (p1:= "thing") X G fun _ _ _ _ _ _ _=>rfl
 obtain⟨_,_,C43⟩:=Y43.ff1 (p1:= "thing") X G fun _ _ _ _ _ _ _=>rfl
 obtain⟨_,_,C44⟩:=Y44.ff1 (p1:= "some") X G fun _ _ _ _ _ _ _=>rfl
 obtain⟨_,_,C45⟩:=Y45.ff2 (p1:= "one") (p2:= "other") X G fun _ _ _ _ _ _ _ _=>rfl
 obtain⟨_,_,C46⟩:=Y46.ff2 (p1:= "field") (p2:= "more") X G fun _ _ _ _ _ _ _ _=>rfl
 obtain⟨_,_,C47⟩:=Y47.ff1 (p1:= "some") X G fun _ _ _ _ _ _ _=>rfl
 obtain⟨_,_,C48⟩:=Y48.ff1 (p1:= "thing") X G fun _ _ _ _ _ _ _=>rfl
 obtain⟨_,_,C49⟩:=Y49.ff1 (p1:= "field") X G fun _ _ _ _ _ _ _=>rfl
 obtain⟨_,_,C50⟩:=Y50.ff2 (p1:= "hand") (p2:= "parts") X G fun _ _ _ _ _ _ _ _=>rfl
 have C51:FF K mg "law" bO1 ["script"] _ _:=⟨cG1 l_law e_law k51,(cG1 l_law e_law k51).binds (ps:= ["script"]) (fun _ _ _ _ _ _ us hl=>match us,hl with|[_],_=>rfl),PySem.W.mg_of X G a51⟩
 have zb0:=BLs.of X G z
 have zb:BC K mg:=⟨zb0,⟨_,PySem.W.mg_of X G g_NOTHING,aC0 (us:= [.ref a_NOTHING_0,.ref a_NOTHING_1,.ref a_NOTHING_2,.none,.none]) l_NOTHING rfl (K7 (aC0 (us:= []) l_NOTHING_0 rfl (V9)) (K7 (aC0 (us:= [.str "of" t_NOTHING_1_0,.ref a_NOTHING_1_1]) l_NOTHING_1 rfl (K7 (bO6) (K7 (aC0 (us:= []) l_NOTHING_1_1 rfl (V9)) (V9)))) (K7 (aC0 (us:= []) l_NOTHING_2 rfl (V9)) (K7 (cC7) (K7 (cC7) (V9))))))⟩,⟨_,PySem.W.mg_of X G g_ALL_PARTS,aC0 (us:= [.ref a_ALL_PARTS_0,.ref a_ALL_PARTS_1,.ref a_ALL_PARTS_2,.ref a_ALL_PARTS_3,.ref a_ALL_PARTS_4]) l_ALL_PARTS rfl (K7 (aC0 (us:= [.ref a_ALL_PARTS_0_0]) l_ALL_PARTS_0 rfl (K7 (aC0 (us:= [.none,.none]) l_ALL_PARTS_0_0 rfl (K7 (cC7) (K7 (cC7) (V9)))) (V9))) (K7 (aC0 (us:= [.str "but" t_ALL_PARTS_1_0,.ref a_ALL_PARTS_1_1]) l_ALL_PARTS_1 rfl (K7 (bO6) (K7 (aC0 (us:= []) l_ALL_PARTS_1_1 rfl (V9)) (V9)))) (K7 (aC0 (us:= [.bool false,.bool true]) l_ALL_PARTS_2 rfl (K7 (eL0) (K7 (eL0) (V9)))) (K7 (aC0 (us:= [.ref a_ALL_PARTS_3_0,.str "any" t_ALL_PARTS_3_1]) l_ALL_PARTS_3 rfl (K7 (aC0 (us:= []) l_ALL_PARTS_3_0 rfl (V9)) (K7 (bO6) (V9)))) (K7 (aC0 (us:= [.ref a_ALL_PARTS_4_0,.str "any" t_ALL_PARTS_4_1]) l_ALL_PARTS_4 rfl (K7 (aC0 (us:= []) l_ALL_PARTS_4_0 rfl (V9)) (K7 (bO6) (V9)))) (V9))))))⟩,⟨_,PySem.W.mg_of X G g_ANY,bO6⟩⟩
 refine⟨PySem.W.fnOf "law" "law" (aA4 bO1) (W3 bO1) (j6 bO1) .none kV_law dc_law pm_law an_law cd_law ct_law,fun s v=>.of_eq rfl,fun base _ _=>eQ4 ?_ pure⟩
 have O0:=bQ1 (P:=l.prog) (w:=w) (base:=base) zb C0
 have O1:=cH9 (P:=l.prog) (w:=w) (base:=base) zb C1
 have O2:=cG6 (P:=l.prog) (w:=w) (base:=base) zb C2
 have O3:=bV9 (P:=l.prog) (w:=w) (base:=base) zb C3 (b8.of C2 O2)
 have O4:=bL8 (P:=l.prog) (w:=w) (base:=base) zb C4
 have O5:=bW3 (P:=l.prog) (w:=w) (base:=base) zb C5
 have O6:=bW8 (P:=l.prog) (w:=w) (base:=base) zb C6 (b8.of C2 O2) (b8.of C3 O3) (b8.of C4 O4) (b8.of C5 O5)
 have O7:=cK1 (P:=l.prog) (w:=w) (base:=base) zb C7 (b8.of C2 O2) (b8.of C3 O3) (b8.of C6 O6)
 have O8:=bH9 (P:=l.prog) (w:=w) (base:=base) zb C8
 have O9:=bA6 (P:=l.prog) (w:=w) (base:=base) zb C9
 have O10:=eF0 (P:=l.prog) (w:=w) (base:=base) zb C10 (b8.of C8 O8) (b8.of C9 O9)
 have O11:=cG8 (P:=l.prog) (w:=w) (base:=base) zb C11 (b8.of C10 O10)
 have O12:=bV8 (P:=l.prog) (w:=w) (base:=base) zb C12 (b8.of C2 O2) (b8.of C7 O7)
 have O13:=bT9 (P:=l.prog) (w:=w) (base:=base) zb C13 (b8.of C10 O10)
 have O14:=cK3 (P:=l.prog) (w:=w) (base:=base) zb C14
 have O15:=cQ7 (P:=l.prog) (w:=w) (base:=base) zb C15 (b8.of C14 O14) (b8.of C10 O10)
 have O16:=cH3 (P:=l.prog) (w:=w) (base:=base) zb C16 (b8.of C10 O10)
 have O17:=dH0 (P:=l.prog) (w:=w) (base:=base) zb C17 (b8.of C13 O13) (b8.of C10 O10) (b8.of C15 O15) (b8.of C16 O16)
 have O18:=bV7 (P:=l.prog) (w:=w) (base:=base) zb C18 (b8.of C14 O14)
 have O19:=cL8 (P:=l.prog) (w:=w) (base:=base) zb C19
 have O20:=bF9 (P:=l.prog) (w:=w) (base:=base) zb C20
 have O21:=cK2 (P:=l.prog) (w:=w) (base:=base) zb C21
 have O22:=cT4 (P:=l.prog) (w:=w) (base:=base) zb C22 C23 C24 (b8.of C18 O18) (b8.of C19 O19) (b8.of C20 O20) (b8.of C21 O21)
 have O23:=bM7 (P:=l.prog) (w:=w) (base:=base) zb C23 (b8.of C19 O19) (b8.of C22 O22)
 have O24:=bC1 (P:=l.prog) (w:=w) (base:=base) zb C24 (b8.of C20 O20) (b8.of C21 O21) (b8.of C22 O22)
 have O25:=cC3 (P:=l.prog) (w:=w) (base:=base) zb C25
 have O26:=bE8 (P:=l.prog) (w:=w) (base:=base) zb C26 (b8.of C25 O25)
 have O27:=dC0 (P:=l.prog) (w:=w) (base:=base) zb C27
 have O28:=cK5 (P:=l.prog) (w:=w) (base:=base) zb C28
 have O29:=cT7 (P:=l.prog) (w:=w) (base:=base) zb C29
 have O30:=cV4 (P:=l.prog) (w:=w) (base:=base) zb C30 (b8.of C29 O29)
 have O31:=cO4 (P:=l.prog) (w:=w) (base:=base) zb C31 (b8.of C30 O30)
 have O32:=aX3 (P:=l.prog) (w:=w) (base:=base) zb C32 (b8.of C27 O27) (b8.of C28 O28) (b8.of C25 O25) (b8.of C31 O31)
 have O33:=bV6 (P:=l.prog) (w:=w) (base:=base) zb C33
 have O34:=cO1 (P:=l.prog) (w:=w) (base:=base) zb C34
 have O35:=dH8 (P:=l.prog) (w:=w) (base:=base) zb C35 (b8.of C34 O34)
 have O36:=bW1 (P:=l.prog) (w:=w) (base:=base) zb C36 (b8.of C14 O14) (b8.of C35 O35)
 have O37:=bV0 (P:=l.prog) (w:=w) (base:=base) zb C37 (b8.of C33 O33) (b8.of C36 O36)
 have O38:=cE3 (P:=l.prog) (w:=w) (base:=base) zb C38
 have O39:=bW2 (P:=l.prog) (w:=w) (base:=base) zb C39
 have O40:=cI8 (P:=l.prog) (w:=w) (base:=base) zb C40 (b8.of C27 O27) (b8.of C38 O38) (b8.of C39 O39) (b8.of C29 O29)
 have O41:=cB5 (P:=l.prog) (w:=w) (base:=base) zb C41 (b8.of C27 O27)
 have O42:=bM1 (P:=l.prog) (w:=w) (base:=base) zb C42 (b8.of C26 O26) (b8.of C32 O32) (b8.of C37 O37) (b8.of C40 O40) (b8.of C41 O41)
 have O43:=bV3 (P:=l.prog) (w:=w) (base:=base) zb C43
 have O44:=bW0 (P:=l.prog) (w:=w) (base:=base) zb C44
 have O45:=cK7 (P:=l.prog) (w:=w) (base:=base) zb C45 (b8.of C44 O44) (b8.of C43 O43)
 have O46:=dE9 (P:=l.prog) (w:=w) (base:=base) zb C46 (b8.of C45 O45)
 have O47:=bM3 (P:=l.prog) (w:=w) (base:=base) zb C47 (b8.of C46 O46)
 have O48:=dH7 (P:=l.prog) (w:=w) (base:=base) zb C48 (b8.of C42 O42) (b8.of C43 O43) (b8.of C47 O47)
 have O49:=bW9 (P:=l.prog) (w:=w) (base:=base) zb C49
 have O50:=bC0 (P:=l.prog) (w:=w) (base:=base) zb C50 (b8.of C4 O4) (b8.of C2 O2) (b8.of C49 O49)
 have O51:=eQ6 (P:=l.prog) (w:=w) (base:=base) zb C51 (b8.of C0 O0) (b8.of C1 O1) (b8.of C7 O7) (b8.of C11 O11) (b8.of C12 O12) (b8.of C17 O17) (b8.of C22 O22) (b8.of C2 O2) (b8.of C48 O48) (b8.of C50 O50)
 exact O51
theorem walk{l:PySem.W.OpenLaw}{q:Program}{loose:List Str}{XP:(Str→Option Value)→Heap→Prop}{YP:World→Heap→Prop}{d:DefRec}{K:Params→PySem.W.Frag}(hn:l.most=some 63)(hdf:d.params.defaults= [])
 (hY:∀(w:World) (h:Heap),YP w h→(K w.params).In h)
 (F:∀(w:World) (mg:Str→Option Value) (fa:Addr) (h:Heap),(K w.params).In h→h.Ns mainGlobals mg→mg d.name=some (.ref fa)→
   ∃fd:FuncData,(∀(s:Shared) (u:Value),BindsTo s fd ⟨[u], []⟩ [("script",u)])∧∀base:Heap,(K w.params).In base→base.Ns mainGlobals mg→J6 l.prog w (K w.params) mg base CX0 123 fa fd ["script"] (cW4 (K w.params))):
 PySem.W.WalkO q loose XP YP l.row.toRowW d [] (fun f vs=>PySem.call f vs):=
 L2.walk_of (n:=63) (k:=123) (x:= "script") (CX:=fun _=>CX0) (sp:=fun w=>cW4 (K w.params)) hn (by decide) hdf ⟨rfl,by decide,by decide⟩ hY F (fun _ _ a ns hl hO hS=>⟨a,ns,rfl,hS,hO,hl,fun _=>rfl⟩) fun _ _ _ _ _ z=>z
mutual
noncomputable def szD:D→Nat
 | .tup l=>1+szL l
 | .str _=>1
 | .ref _=>1
 | .fn _=>1
 | .ty _=>1
 | .non=>1
 | .bl _=>1
 | .int _=>1
noncomputable def szL:List D→Nat
 |[]=>0
 |d::r=>szD d+szL r
end
theorem cD0:∀d:D,1≤szD d:=fun d=>by cases d<;>unfold szD<;>lia
theorem bN6:∀l:List D,l.length≤szL l
 |[]=>by simp[szL]
 |d::r=>by
   have:=bN6 r
   have:=cD0 d
   unfold szL
   simp only[List.length_cons]
   lia
theorem aG7:∀a b:List D,szL (a++b)=szL a+szL b
 |[],b=>by simp[szL]
 |d::r,b=>by
   have:=aG7 r b
   simp only[List.cons_append,szL]
   lia
noncomputable abbrev aT5:Str:= "list"
noncomputable abbrev dG6:Str:= "record"
noncomputable def Ap(G G':DH):Prop:=∃t,G'=G++t
theorem Ap.refl{G:DH}:Ap G G:=⟨[],by simp⟩
theorem Ap.trans{G G1 G2:DH}(h:Ap G G1)(k:Ap G1 G2):Ap G G2:=by
 obtain⟨t,rfl⟩:=h
 obtain⟨u,rfl⟩:=k
 exact⟨t++u,by simp⟩
theorem Ap.one{G:DH}{o:DO}:Ap G (G++[o]):=⟨_,rfl⟩
theorem Ap.at{G G':DH}{p:Nat}{o:DO}(h:Ap G G')(e:G[p]? =some o):G'[p]? =some o:=by
 obtain⟨t,rfl⟩:=h
 exact Q3 e
theorem Ap.len{G G':DH}(h:Ap G G'):G.length≤G'.length:=by
 obtain⟨t,rfl⟩:=h
 simp
section
variable{g:Fg}{t:DSt→M Bool}{e:Fe}{ck:DH→Bool}
theorem aA0(J:DH→Prop)(S:DSt→Prop)(f:D→D)(hck:∀G,J G→ck G=true):∀(items:List D) (σ:DSt) (G:DH),S σ→J G→
 (∀d∈items,∀ σ G,S σ→J G→Wp (g d σ) G fun σ1 G1=>G1=G∧S σ1∧Wp (t σ1) G fun b G2=>b=true∧G2=G∧Wp (e σ1) G fun y G3=>J G3∧y=f d)→
 Wp (M9 g t e ck items σ) G fun ys G'=>J G'∧ys=items.map f
 |[],σ,G,s,j,_=>by
   rw[aM8]
   exact⟨hck G j,j,rfl⟩
 |d::r,σ,G,s,j,step=>by
   rw[aN9]
   refine⟨hck G j,Wp.mono (step d (by simp) σ G s j) fun σ1 G1 ⟨e1,s1,w1⟩=>?_⟩
   subst e1
   refine Wp.mono w1 fun b G2 ⟨eb,e2,w2⟩=>?_
   subst eb e2
   rw[if_pos rfl]
   refine Wp.mono w2 fun y G3 ⟨j3,py⟩=>?_
   refine Wp.mono (aA0 J S f hck r σ1 G3 s1 j3 fun d hd=>step d (by simp[hd])) fun ys G4 ⟨j4,l4⟩=>⟨j4,by simp[l4,py]⟩
end
theorem eQ1{G:DH}{p:Nat}{l:List D}{lo hi:Option Int}{Q:DPP}(e:G[p]? =some (.lst l)):Wp (slD (.ref p) lo hi) G Q↔Q (.ref G.length) (G++[.lst (DL.cutD l lo hi)]):=by
 have h:slD (.ref p) lo hi= (do
  let l ←Q7 p >>= DL.listOf
  R1 (.lst (DL.cutD l lo hi))):=rfl
 rw[h]
 simp only[j8,R0,e,S7,DL.listOf,j7,W6]
theorem big:1000000<sizeLine:=by decide
section
variable{t:DSt→M Bool}{b:Fs}{σ:DSt}{G:DH}{P:Fl→DH→Prop}
theorem bH6{n:Nat}:Wp (V7 (n+1) t b σ) G P↔Wp (t σ) G fun k G1=>if k=true then Wp (b σ) G1 fun fl G2=>match fl with
 | .nx σ'=>Wp (V7 n t b σ') G2 P
 | .ct σ'=>Wp (V7 n t b σ') G2 P
 | .bk σ'=>P (.nx σ') G2
 | .rt d=>P (.rt d) G2
 else P (.nx σ) G1:=by
 rw[V7]
 simp only[j8,aQ8,j7]
 constructor
 · rintro⟨k,G1,e,q⟩
   refine⟨k,G1,e,?_⟩
   rcases k with _|_
   ·exact q
   ·
     simp only[if_true]at q ⊢
     obtain⟨fl,G2,e2,q⟩:=q
     refine⟨fl,G2,e2,?_⟩
     cases fl<;>first
      |exact q
      |exact j7.mp q
 · rintro⟨k,G1,e,q⟩
   refine⟨k,G1,e,?_⟩
   rcases k with _|_
   ·exact q
   ·
     simp only[if_true]at q ⊢
     obtain⟨fl,G2,e2,q⟩:=q
     refine⟨fl,G2,e2,?_⟩
     cases fl<;>first
      |exact q
      |exact j7.mpr q
theorem cN4{n:Nat}(h:Wp (V7 n t b σ) G P):Wp (aT8 t b σ) G P:=by
 obtain⟨a,G',e,q⟩:=h
 refine⟨a,G',?_,q⟩
 have hx:∃n,(V7 n t b σ G).isSome=true:=⟨n,by rw[e];rfl⟩
 unfold aT8
 rw[dif_pos hx]
 have hs:=Classical.choose_spec hx
 obtain⟨r,hr⟩:=Option.isSome_iff_exists.mp hs
 rw[hr]
 have e1:=bY7 (Nat.le_max_left n (Classical.choose hx)) e
 have e2:=bY7 (Nat.le_max_right n (Classical.choose hx)) hr
 rw[e1]at e2
 exact e2.symm
end
theorem cZ6{r:Nat}{l:List D}{y:D}{G:DH}{Q:DPP}(h:G[r]? =some (.lst (l++[y]))):Wp (eG2 (.ref r) []) G Q↔Q y (G.set r (.lst l)):=by
 have e:eG2 (.ref r) []= (do
  let l ←lstM r
  match l.getLast? with
  |some y=>do
    let _ ←bM5 r (.lst l.dropLast)
    pure y
  |none=>M.stuck):=rfl
 rw[e]
 unfold lstM
 simp only[j8,R0,h,S7,j7,List.getLast?_append,List.getLast?_singleton,Option.some_or,List.dropLast_concat,cD4]
theorem bB1{r q:Nat}{l k:List D}{G:DH}{Q:DPP}(h:G[r]? =some (.lst l))(hq:G[q]? =some (.lst k))(hl:l.length+k.length≤sizeLine):Wp (aL5 (.ref r) [.ref q]) G Q↔Q .non (G.set r (.lst (l++k))):=by
 have e:aL5 (.ref r) [.ref q]= (do
  let l ←lstM r
  let k ←lstM q
  if l.length+k.length≤sizeLine then do
   let _ ←bM5 r (.lst (l++k))
   pure .non
  else M.stuck):=rfl
 rw[e]
 unfold lstM
 simp only[j8,R0,h,hq,S7,j7,if_pos hl,cD4]
theorem bI6{p:Nat}{xs:List D}{G:DH}{B:Bool→DH→Prop}(e:G[p]? =some (.lst xs)):Wp (aD5 (.ref p)) G B↔B (!xs.isEmpty) G:=by
 unfold aD5
 simp only[j8,R0,e,S7,j7]
theorem lt_of_get{G:DH}{p:Nat}{o:DO}(e:G[p]? =some o):p<G.length:=by
 by_cases hi:p<G.length
 ·exact hi
 ·rw[List.getElem?_eq_none (by lia)]at e;exact K4 e
section
variable{bd n:Nat}
end
theorem dV5(l:List D)(n:Nat):DL.cutD l none (some (n:Int))=l.take n:=by
 unfold DL.cutD
 rw[HT.sIx_none,HT.sIx_nat,List.drop_zero,Nat.sub_zero]
 by_cases h:n≤l.length
 ·rw[Nat.min_eq_left h]
 ·rw[Nat.min_eq_right (by lia),List.take_of_length_le (Nat.le_refl _),List.take_of_length_le (by lia)]
section
variable{G:DH}{Q:DPP}
theorem fE3{a c:Bool}:Wp (eqD (.bl a) (.bl c)) G Q↔Q (.bl (a==c)) G:=by
 have e:eqN 40 G (.bl a) (.bl c)=some (a==c):=by rfl
 rw[bT7,e];exact S7
end
section
variable{α β:Type}{R S:α→β→Prop}
end
noncomputable abbrev aB1:Str:= "any"
abbrev wOf:Str:= "of"
noncomputable def S6(p:Str×D):D:=.tup [.str p.1,p.2]
noncomputable def stD(p:D×D):D:=.tup [p.1,p.2]
noncomputable def fdD(f:Str×Bool×D):D:=.tup [.str f.1,.bl f.2.1,f.2.2]
def mkS(ns:List (D×D))(w:Str)(ts:List Str)(tr:List Bool)(li re:D):D:=.tup [.tup (ns.map stD),.tup [.str w,.tup (ts.map D.str)],.tup (tr.map D.bl),li,re]
def VW(b:Nat):Nat→D→Prop
 |0,_=>False
 |n+1,d=>(∃i,d= .int i)∨(∃k,d= .bl k)∨(∃z:Str,d= .str z∧z.length≤1000+b)∨(∃l,d= .tup [.str aT5,.tup l]∧l.length≤b∧∀x∈l,VW b n x)∨
    ∃ps:List (Str×D),d= .tup [.str dG6,.tup (ps.map S6)]∧ps.length≤b∧(ps.map (·.1)).Nodup∧∀p∈ps,p.1.length≤1000∧VW b n p.2
noncomputable def aZ6:D→Prop
 | .non=>True
 | .int _=>True
 |_=>False
def bA2(p:D×D):Prop:=aZ6 p.1∧aZ6 p.2∧∀a b,p.1= .int a→p.2= .int b→a≤b∧b-a<2 ^ 90
noncomputable def LiP(S:D→Prop)(li:D):Prop:=li= .non∨∃fs m,li= .tup [.tup fs,m]∧fs.length≤100∧(∀x∈fs,S x)∧S m
def ReP(S:D→Prop)(re:D):Prop:=re= .non∨∃(fs:List (Str×Bool×D)) (m:D),re= .tup [.tup (fs.map fdD),m]∧fs.length≤40∧(fs.map (·.1)).Nodup∧(∀f∈fs,f.1.length≤1000∧S f.2.2)∧S m
def SB:Nat→D→Prop
 |0,_=>False
 |n+1,d=>d= .str aB1∨∃ns w ts tr li re,d=mkS ns w ts tr li re∧(∀p∈ns,bA2 p)∧ns.length≤100∧(∀z∈ts,z.length≤1000)∧ts.length≤100∧tr.length≤100∧LiP (SB n) li∧ReP (SB n) re
noncomputable def loB(i:Int):D→Bool
 | .int x=>decide (x≤i)
 |_=>true
noncomputable def hiB(i:Int):D→Bool
 | .int y=>decide (i≤y)
 |_=>true
def cI3(i:Int):D→Bool
 | .tup [a,b]=>loB i a&&hiB i b
 |_=>true
noncomputable def nmD(nm:Str):D→Bool
 | .tup (.str z::_)=>decide (z=nm)
 |_=>false
def aN1(fs:List D)(m:D)(nm:Str):D:=match fs.find? (nmD nm) with
 |some (.tup [_,_,s])=>s
 |_=>m
def bE0(l:List D):D→Bool
 | .tup [.str nm,.bl b,_]=>l.any (nmD nm)||!b
 |_=>true
def dQ3(f:D→D→Bool)(fs:List D)(m:D):D→Bool
 | .tup [.str nm,v]=>f v (aN1 fs m nm)
 |_=>true
def aH6(f:D→D→Bool)(l:List D):D→Bool
 | .tup [.tup fs,m]=>decide (fs.length≤l.length)&&(List.range l.length).all fun k=>f (l.getD k .non) ((fs++List.replicate l.length m).getD k .non)
 |_=>false
def W8(f:D→D→Bool)(l:List D):D→Bool
 | .tup [.tup fs,m]=>fs.all (bE0 l)&&l.all (dQ3 f fs m)
 |_=>false
def inP:Nat→D→D→Bool
 |0,_,_=>false
 |n+1,v,s=>match s with
   | .tup [.tup ns,.tup [.str w,.tup ts],.tup tr,li,re]=>match v with
     | .bl b=>inV (.bl b) (tr.map toV)
     | .int i=>ns.any (cI3 i)
     | .str z=>inV (.str z) (ts.map toV)==(w==wOf)
     | .tup [.str k,.tup l]=>if k=aT5 then aH6 (inP n) l li else W8 (inP n) l re
     |_=>false
   |_=>true
section
variable{n:Nat}{ns:List (D×D)}{w:Str}{ts:List Str}{tr:List Bool}{li re:D}
theorem dK0{b:Bool}:inP (n+1) (.bl b) (mkS ns w ts tr li re)=inV (.bl b) ((tr.map D.bl).map toV):=rfl
theorem dX7{i:Int}:inP (n+1) (.int i) (mkS ns w ts tr li re)= (ns.map stD).any (cI3 i):=rfl
theorem cX1{z:Str}:inP (n+1) (.str z) (mkS ns w ts tr li re)= (inV (.str z) ((ts.map D.str).map toV)==(w==wOf)):=rfl
theorem bO3{l:List D}:inP (n+1) (.tup [.str aT5,.tup l]) (mkS ns w ts tr li re)=aH6 (inP n) l li:=by
 show (if aT5=aT5 then aH6 (inP n) l li else W8 (inP n) l re)=_
 exact if_pos rfl
theorem bU4{l:List D}:inP (n+1) (.tup [.str dG6,.tup l]) (mkS ns w ts tr li re)=W8 (inP n) l re:=by
 show (if dG6=aT5 then aH6 (inP n) l li else W8 (inP n) l re)=_
 exact if_neg (by decide)
end
noncomputable def cE6:D→D→Bool
 | .int x,.int y=>decide (x>y)
 |_,_=>false
theorem cB7{i j:Int}{G:DH}{Q:DPP}:Wp (gtD (.int i) (.int j)) G Q↔Q (.bl (decide (i>j))) G:=j7
theorem aL0{a b:D}{G:DH}{Q:DPP}(ha:aZ6 a)(hb:aZ6 b):Wp (U3 [a,b]) G Q↔Q (.bl (cE6 a b)) G:=aW9 (by
 cases a<;>cases b<;>first
  |exact ha.elim
  |exact hb.elim
  |rfl)
theorem cR8{i:Int}{a b:D}{G:DH}{Q:DPP}(ha:aZ6 a)(hb:aZ6 b):Wp (Q8 [.int i,a,b]) G Q↔Q (.bl (cI3 i (.tup [a,b]))) G:=by
 unfold Q8 aQ6
 have s0:([.int i,a,b].map some++List.replicate (3 - [D.int i,a,b].length) none:DSt)= [some (.int i),some a,some b]:=rfl
 simp only[bD0,s0,bR0,bC7,cH2,aR0,aF8,aK6,G9,aM7,List.getElem?_cons_zero,List.getElem?_cons_succ,Option.some.injEq,exists_eq_left',aL0 ha (show aZ6 (.int i)from trivial),aL0 (show aZ6 (.int i)from trivial) hb,Z6]
 have e1:(!cE6 a (.int i))=loB i a:=by
  cases a<;>first
   |exact ha.elim
   |rfl
   |(simp only[cE6,loB,decide_not.symm];congr 1;exact propext ⟨fun z=>by omega,fun z=>by omega⟩)
 have e2:(!cE6 (.int i) b)=hiB i b:=by
  cases b<;>first
   |exact hb.elim
   |rfl
   |(simp only[cE6,hiB,decide_not.symm];congr 1;exact propext ⟨fun z=>by omega,fun z=>by omega⟩)
 have e3:cI3 i (.tup [a,b])= (loB i a&&hiB i b):=rfl
 rw[e3,←e1,←e2]
 generalize cE6 a (.int i)=x
 generalize cE6 (.int i) b=y
 cases x<;>cases y<;>simp
theorem dE0{i:Int}{G:DH}{ck:DH→Bool}(hck:ck G=true){ns:List (D×D)}(h:∀p∈ns,bA2 p)(σ:DSt)(hσ:∃u v,σ= [u,v,some (.int i)]):
 M9 (aG0 2 (J4 (q13 0) (J4 (q13 1) (aJ8)))) M4 (q12 (fnX 3 Q8) (q10 (c7 2) (q10 (c7 0) (q10 (c7 1) (q11))))) ck (ns.map stD) σ G=some (.ok ((ns.map stD).map fun d=>.bl (cI3 i d)),G):=by
 refine aN5 (I:=fun σ=>∃u v,σ= [u,v,some (.int i)]) hck _ _ hσ fun d hd σ hσ=>?_
 obtain⟨p,hp,rfl⟩:=List.mem_map.mp hd
 obtain⟨u,v,rfl⟩:=hσ
 refine⟨[some p.1,some p.2,some (.int i)],aK1 ?_,⟨_,_,rfl⟩,rfl,aK1 ?_⟩
 · unfold stD
   rw[eE9]
   simp only[bU6,cG2,S5,List.set_cons_succ,List.set_cons_zero]
   exact⟨trivial,trivial⟩
 · simp only[aR0,aK6,G9,aM7,aF8,List.getElem?_cons_zero,List.getElem?_cons_succ,Option.some.injEq,exists_eq_left',cR8 (h p hp).1 (h p hp).2.1]
   exact⟨rfl,rfl,trivial⟩
theorem cP9{fs:List D}{m:D}{k n:Nat}(hk:k<n):(fs++List.replicate n m).getD k .non=if k<fs.length then fs.getD k .non else m:=by
 by_cases h:k<fs.length
 ·rw[if_pos h,List.getD_eq_getElem?_getD,List.getElem?_append_left h,←List.getD_eq_getElem?_getD]
 ·rw[if_neg h,List.getD_eq_getElem?_getD,List.getElem?_append_right (by omega),List.getElem?_replicate,if_pos (by omega)];rfl
theorem dL6{fs:List D}{m:D}{k n:Nat}(hk:k<n){G:DH}{Q:DPP}(hz:fs.length≤sizeLine):Wp (W2 [.tup [.tup fs,m],.int (k:Int)]) G Q↔Q ((fs++List.replicate n m).getD k .non) G:=by
 rw[cP9 hk]
 unfold W2 bA9
 have s0:([.tup [.tup fs,m],.int (k:Int)].map some++List.replicate (2 - [D.tup [.tup fs,m],.int (k:Int)].length) none:DSt)= [some (.tup [.tup fs,m]),some (.int (k:Int))]:=rfl
 have a0:atI [D.tup fs,m] 0=some (.tup fs):=rfl
 have a1:atI [D.tup fs,m] 1=some m:=rfl
 simp only[bD0,s0,bR0,bH7,dB0,bT2,aR0,aK6,G9,eN0,aM7,List.getElem?_cons_zero,List.getElem?_cons_succ,Option.some.injEq,exists_eq_left',ix_tup,a0,a1,eB7,cV7,fJ8]
 by_cases h:k<fs.length
 · rw[if_pos (by simpa using h),if_pos h]
   have e:atI fs (k:Int)=some (fs.getD k .non):=atI_nat (by rw[List.getD_eq_getElem?_getD,List.getElem?_eq_getElem h];rfl)
   simp only[e,Option.some.injEq,exists_eq_left']
 ·rw[if_neg (by simpa using h),if_neg h]
theorem eH5{g:D→Bool}{F:Nat→Bool}{l:List D}(h:∀(k:Nat) (v:D),l[k]? =some v→g (.tup [.int (k:Int),v])=F k):((l.zipIdx.map fun p=>D.tup [.int ((p.2:Nat):Int),p.1]).all g)= (List.range l.length).all F:=by
 rw[Bool.eq_iff_iff,List.all_eq_true,List.all_eq_true]
 constructor
 · intro H k hk
   have hk':k<l.length:=by simpa using hk
   have:=H (.tup [.int (k:Int),l[k]]) (List.mem_map.mpr ⟨(l[k],k),List.mem_zipIdx_iff_getElem?.mpr (by simp[hk']),rfl⟩)
   rw[h k l[k] (by simp[hk'])]at this
   exact this
 · intro H d hd
   obtain⟨p,hp,rfl⟩:=List.mem_map.mp hd
   have hp':=List.mem_zipIdx_iff_getElem?.mp hp
   have hlt:p.2<l.length:=by
    rcases Nat.lt_or_ge p.2 l.length with z|z
    ·exact z
    ·rw[List.getElem?_eq_none z]at hp';cases hp'
   rw[h p.2 p.1 hp']
   exact H p.2 (by simpa using hlt)
def liG(n:Nat)(len:Nat)(fs:List D)(m:D):D→Bool
 | .tup [.int k,v]=>inP n v ((fs++List.replicate len m).getD k.toNat .non)
 |_=>true
theorem dT7{fs:List D}{m:D}{k n:Nat}(hk:k<n):(fs++List.replicate n m).getD k .non∈fs∨(fs++List.replicate n m).getD k .non=m:=by
 rw[cP9 hk]
 by_cases h:k<fs.length
 ·rw[if_pos h,List.getD_eq_getElem?_getD,List.getElem?_eq_getElem h];exact .inl (List.getElem_mem h)
 ·rw[if_neg h];exact .inr rfl
theorem dZ4{R:List D→M D}{n:Nat}{l fs:List D}{m:D}{G:DH}(hl:l.length≤1000)(hf:fs.length≤100)(hR:∀v∈l,∀s,s∈fs∨s=m→∀G,Wp (R [v,s]) G fun x G'=>x= .bl (inP n v s)∧Ap G G'):
 Wp (R6 R [.tup l,.tup [.tup fs,m]]) G fun x G'=>x= .bl (aH6 (inP n) l (.tup [.tup fs,m]))∧Ap G G':=by
 have bg:=big
 refine J3 (show Wp (aI9 R [some (.tup l),some (.tup [.tup fs,m])]) G _ from ?_)
 refine m9.mpr<| aL8<| dV2<| d8 (a:=false) (G':=G) rfl ⟨fun z=>(nomatch z),fun _=>S8<| aD9 (x:=.int l.length) (y:=.int fs.length) rfl rfl<| cV7.mpr ⟨_,rfl,fun hlt=>?_,fun hlt=>N5.mpr ?_⟩⟩
 · have hlt:(l.length:Int)<fs.length:=of_decide_eq_true hlt
   refine d8 (a:=.rt (.bl false)) rfl (K5 ⟨?_,Ap.refl⟩)
   have:decide (fs.length≤l.length)=false:=decide_eq_false (by omega)
   show _=D.bl (decide (fs.length≤l.length)&&_)
   rw[this];rfl
 · have hlt:¬(l.length:Int)<fs.length:=of_decide_eq_false hlt
   refine K9<| R9<| u0<| wp_comp.mpr<| dD1 (l:=l)<| d8 (a:= [.tup l]) rfl ⟨rfl,by simp;omega,?_⟩
   refine(aA0 (fun G'=>Ap G G') (fun σ=>∃u v,σ= [u,v,some (.tup [.tup fs,m])]) (fun d=>.bl (liG n l.length fs m d)) (fun _ _=>rfl) _ _ G ⟨_,_,rfl⟩ Ap.refl ?_).mono ?_
   · rintro d hd σ G1 ⟨u,v,rfl⟩ j1
     obtain⟨p,hp,rfl⟩:=List.mem_map.mp hd
     have hp':=List.mem_zipIdx_iff_getElem?.mp hp
     have hm:p.1∈l:=List.mem_of_getElem? hp'
     have hlt:p.2<l.length:=by
      rcases Nat.lt_or_ge p.2 l.length with z|z
      ·exact z
      ·rw[List.getElem?_eq_none z]at hp';cases hp'
     refine d8 (a:= [some (.int p.2),some p.1,some (.tup [.tup fs,m])]) rfl ⟨rfl,⟨_,_,rfl⟩,d8 rfl ⟨rfl,rfl,?_⟩⟩
     refine R9<| aD2 (x:=p.1) rfl<| u0<| m7 (as:= [.tup [.tup fs,m],.int p.2]) rfl rfl<| (dL6 hlt (show fs.length≤sizeLine by omega)).mpr<| G9.mpr<| aF8.mpr ⟨rfl,(hR p.1 hm _ (dT7 hlt) G1).mono fun x G2 z=>⟨j1.trans z.2,?_⟩⟩
     rw[z.1]
     show _=D.bl (inP n p.1 ((fs++List.replicate l.length m).getD (Int.toNat (p.2:Int)) .non))
     rw[Int.toNat_natCast]
   · rintro _ G1 ⟨j1,rfl⟩
     refine G9.mpr<| (bT5 (f:=liG n l.length fs m) j9).mpr<| K5 ⟨?_,j1.trans Ap.one⟩
     have hd:decide (fs.length≤l.length)=true:=decide_eq_true (by omega)
     show _=D.bl (decide (fs.length≤l.length)&&_)
     rw[hd,Bool.true_and,eH5 (F:=fun k=>inP n (l.getD k .non) ((fs++List.replicate l.length m).getD k .non))]
     intro k v hv
     show inP n v ((fs++List.replicate l.length m).getD (Int.toNat (k:Int)) .non)=_
     rw[Int.toNat_natCast,List.getD_eq_getElem?_getD,List.getD_eq_getElem?_getD,hv];rfl
theorem list_none{R:List D→M D}{l:List D}{G:DH}:Wp (R6 R [.tup l,.non]) G fun x G'=>x= .bl false∧Ap G G':=aF0 (d:=.bl false) rfl ⟨rfl,Ap.refl⟩
theorem bZ2(f:Str×D→D):∀(ps:List (Str×D)) (z:Str),W4 (ps.map fun p=>((.inr p.1:Key),f p)) (.inr z)= (ps.find? fun p=>decide (p.1=z)).map f
 |[],z=>rfl
 |p::r,z=>by
   have ih:=bZ2 f r z
   unfold W4 at ih ⊢
   by_cases e:p.1=z
   ·simp[List.find?_cons,e]
   · have e':¬((.inr p.1:Key)= .inr z):=fun q=>e (Sum.inr.inj q)
     simp only[List.map_cons,List.find?_cons,e,e',decide_false,ih]
theorem bX7:∀ps:List (Str×D),aG3 (ps.map S6)=some (ps.map fun p=>((.inr p.1:Key),p.2))
 |[]=>rfl
 |p::r=>by
   rw[List.map_cons,List.map_cons]
   show (match bZ4 (S6 p),aG3 (r.map S6) with|some p,some ps=>some (p::ps)|_,_=>none)=_
   rw[bX7 r];rfl
theorem cD8:∀(r acc:List (Str×D)),((acc++r).map (·.1)).Nodup→DL.putAll (acc.map fun p=>((.inr p.1:Key),p.2)) (r.map fun p=>((.inr p.1:Key),p.2))= (acc++r).map fun p=>((.inr p.1:Key),p.2)
 |[],acc,h=>by simp[DL.putAll]
 |p::r,acc,h=>by
   have hn:¬((acc.map fun p=>((.inr p.1:Key),p.2)).any fun kv=>decide (kv.1= .inr p.1))=true:=by
    intro q
    obtain⟨kv,hk,e⟩:=List.any_eq_true.mp q
    obtain⟨x,hx,rfl⟩:=List.mem_map.mp hk
    have ex:x.1=p.1:=Sum.inr.inj (of_decide_eq_true e)
    rw[List.map_append,List.nodup_append]at h
    exact h.2.2 x.1 (List.mem_map.mpr ⟨x,hx,rfl⟩) p.1 (by simp) ex
   have e1:bK3 (acc.map fun p=>((.inr p.1:Key),p.2)) (.inr p.1) p.2= (acc++[p]).map fun p=>((.inr p.1:Key),p.2):=by
    unfold bK3
    rw[if_neg hn,List.map_append];rfl
   have ih:=cD8 r (acc++[p]) (by simpa using h)
   show DL.putAll (bK3 (acc.map fun p=>((.inr p.1:Key),p.2)) (.inr p.1) p.2) (r.map fun p=>((.inr p.1:Key),p.2))=_
   rw[e1,ih]
   simp
theorem dZ5{G:DH}{q:Nat}{l:List (Key×D)}{z:Str}(e:G[q]? =some (.dct l)):inB (.str z) (.ref q) G=some (W4 l (.inr z)).isSome:=by
 show (match G[q]? with
  |some (.dct l)=>(cE8 (.str z)).map fun k=>(W4 l k).isSome
  |some (.rod _)=>none
  |some (.lst l)=>if aA6 (.str z)&&l.all aA6 then some (inV (toV (.str z)) (l.map toV))else none
  |some (.rol l)=>if aA6 (.str z)&&l.all aA6 then some (inV (toV (.str z)) (l.map toV))else none
  |none=>none)=_
 rw[e];rfl
theorem dK8{r:Nat}{l:List D}{ps:List (Key×D)}{G:DH}{Q:DPP}(e:G[r]? =some (.lst l))(h:aG3 l=some ps):Wp (aV5 [.ref r]) G Q↔Q (.ref G.length) (G++[.dct (putAll [] ps)]):=by
 unfold aV5
 simp only[j8,R0,e,S7,DL.listOf,j7,aV3,h,W6]
theorem cW3{g:Fgs}{a b c:D}{σ:DSt}{G:DH}{S:DSt→DH→Prop}:Wp (aG0 3 g (.tup [a,b,c]) σ) G S↔Wp (g [a,b,c] σ) G S:=dA2 rfl
noncomputable def kv(f:Str×D):Key×D:=(.inr f.1,f.2)
noncomputable def tv(f:Str×Bool×D):Key×D:=(.inr f.1,.tup [.bl f.2.1,f.2.2])
theorem dN6{ps:List (Str×D)}{G:DH}{Q:DPP}(h:(ps.map (·.1)).Nodup):Wp (aV5 [.tup (ps.map S6)]) G Q↔Q (.ref G.length) (G++[.dct (ps.map kv)]):=by
 rw[dM8 (bX7 ps)]
 have:=cD8 ps [] (by simpa using h)
 simp only[List.map_nil,List.nil_append]at this
 rw[this];rfl
theorem cK8{α:Type}(f:α→Bool):∀l:List α,(l.find? f).isSome=l.any f
 |[]=>rfl
 |a::r=>by
   rw[List.any_cons]
   cases h:f a with
   |true=>rw[List.find?_cons_of_pos h];rfl
   |false=>rw[List.find?_cons_of_neg (by simp[h]),cK8 f r];rfl
theorem eD7{ps:List (Str×D)}{z:Str}:(W4 (ps.map kv) (.inr z)).isSome= (ps.map S6).any (nmD z):=by
 show (W4 (ps.map fun p=>((.inr p.1:Key),p.2)) (.inr z)).isSome=_
 rw[bZ2 (fun p=>p.2),Option.isSome_map,cK8,List.any_map];rfl
theorem cZ8:∀(fs:List (Str×Bool×D)) (z:Str),W4 (fs.map tv) (.inr z)= (fs.find? fun f=>decide (f.1=z)).map fun f=>.tup [.bl f.2.1,f.2.2]
 |[],z=>rfl
 |f::r,z=>by
   rw[List.map_cons]
   by_cases e:f.1=z
   · have h1:W4 (tv f::r.map tv) (.inr z)=some (.tup [.bl f.2.1,f.2.2]):=by unfold W4 tv;simp[e]
     rw[h1,List.find?_cons_of_pos (by simpa using e)];rfl
   · have h1:W4 (tv f::r.map tv) (.inr z)=W4 (r.map tv) (.inr z):=by unfold W4 tv;simp[e]
     rw[h1,List.find?_cons_of_neg (by simpa using e)]
     exact cZ8 r z
theorem cN5(fs:List (Str×Bool×D))(m:D)(z:Str):aN1 (fs.map fdD) m z= ((fs.find? fun f=>decide (f.1=z)).map (·.2.2)).getD m:=by
 unfold aN1
 rw[List.find?_map]
 have e:(nmD z∘fdD)=fun f:Str×Bool×D=>decide (f.1=z):=rfl
 rw[e]
 cases fs.find? fun f=>decide (f.1=z)<;>rfl
theorem cQ8{fs:List (Str×Bool×D)}{m:D}{z:Str}:(∃f∈fs,aN1 (fs.map fdD) m z=f.2.2)∨aN1 (fs.map fdD) m z=m:=by
 rw[cN5]
 cases e:fs.find? fun f=>decide (f.1=z) with
 |none=>exact .inr rfl
 |some f=>exact .inl ⟨f,List.mem_of_find?_eq_some e,rfl⟩
theorem dL8{q:Nat}{fs:List (Str×Bool×D)}{m:D}{z:Str}{G:DH}{Q:DPP}(e:G[q]? =some (.dct (fs.map tv))):Wp (V6 [.ref q,m,.str z]) G Q↔∃b,Q (.tup [.bl b,aN1 (fs.map fdD) m z]) G∧b= ((fs.find? fun f=>decide (f.1=z)).map (·.2.1)).getD false:=by
 unfold V6 bA0
 have s0:([.ref q,m,.str z].map some++List.replicate (3 - [D.ref q,m,.str z].length) none:DSt)= [some (.ref q),some m,some (.str z)]:=rfl
 simp only[bD0,s0,bR0,bD9,aK6,G9,aG4,eN0,aM7,List.getElem?_cons_zero,List.getElem?_cons_succ,Option.some.injEq,exists_eq_left',dG5 e,eI8 e,cZ8,cN5]
 have hs:2≤sizeLine:=by decide
 cases fs.find? fun f=>decide (f.1=z) with
 |none=>simp[hs]
 |some f=>simp[hs]
theorem cM3:∀fs:List (Str×Bool×D),aG3 (fs.map fun f=>.tup [.str f.1,.tup [.bl f.2.1,f.2.2]])=some (fs.map tv)
 |[]=>rfl
 |f::r=>by
   have:=cM3 r
   rw[List.map_cons,List.map_cons]
   unfold aG3
   simp only[this]
   rfl
theorem fA6(fs:List (Str×Bool×D))(h:(fs.map (·.1)).Nodup):putAll [] (fs.map tv)=fs.map tv:=by
 have e:fs.map tv= (fs.map fun f=>((f.1,.tup [.bl f.2.1,f.2.2]):Str×D)).map fun p=>((.inr p.1:Key),p.2):=by rw[List.map_map];rfl
 have:=cD8 (fs.map fun f=>((f.1,.tup [.bl f.2.1,f.2.2]):Str×D)) [] (by simpa [List.map_map,Function.comp_def]using h)
 simp only[List.map_nil,List.nil_append]at this
 rw[e,this]
theorem dI5{fs:List (Str×Bool×D)}{m:D}{G:DH}{Q:DPP}(h:(fs.map (·.1)).Nodup)(hl:fs.length≤100)(q:∀o,Q (.ref (G.length+1)) (G++[o]++[.dct (fs.map tv)])):Wp (K1 [.tup [.tup (fs.map fdD),m]]) G Q:=by
 have bg:=big
 unfold K1 aE8
 have s0:([D.tup [.tup (fs.map fdD),m]].map some++List.replicate (1 - [D.tup [.tup (fs.map fdD),m]].length) none:DSt)= [some (.tup [.tup (fs.map fdD),m])]:=rfl
 have a0:atI [D.tup (fs.map fdD),m] 0=some (.tup (fs.map fdD)):=rfl
 simp only[bD0,s0,bR0,aR0,aK6,G9,wp_comp,wp_itW,bT2,eN0,aM7,List.getElem?_cons_zero,Option.some.injEq,exists_eq_left',ix_tup,a0,srcW_tup]
 refine⟨by rw[List.length_map];omega,?_⟩
 have hc:M9 (aG0 3 (J4 (q13 0) (J4 (q13 1) (J4 (q13 2) (aJ8))))) M4 (o4 (q10 (c7 0) (q10 (o4 (q10 (c7 1) (q10 (c7 2) (q11)))) (q11)))) (fun _=>true) (fs.map fdD) (aB3 [none,none,none] [some (.tup [.tup (fs.map fdD),m])]) G=some (.ok ((fs.map fdD).map fun d=>match d with| .tup [a,b,c]=>.tup [a,.tup [b,c]]|_=>.non),G):=by
  refine aN5 (I:=fun σ=>σ.length=3) rfl _ _ rfl fun d hd σ hσ=>?_
  obtain⟨f,hf,rfl⟩:=List.mem_map.mp hd
  match σ,hσ with
  |[u,v,w],_=>
    refine⟨[some (.str f.1),some (.bl f.2.1),some f.2.2],aK1 ?_,rfl,rfl,aK1 ?_⟩
    · unfold fdD
      rw[cW3]
      simp only[bU6,cG2,S5,List.set_cons_succ,List.set_cons_zero]
      exact⟨trivial,trivial⟩
    · simp only[aG4,aK6,G9,aM7,List.getElem?_cons_zero,List.getElem?_cons_succ,Option.some.injEq,exists_eq_left']
      exact⟨sz,sz,rfl,trivial⟩
 refine(aW9 hc).mpr ?_
 have ed:((fs.map fdD).map fun d=>match d with| .tup [a,b,c]=>D.tup [a,.tup [b,c]]|_=>.non)=fs.map fun f=>.tup [.str f.1,.tup [.bl f.2.1,f.2.2]]:=by rw[List.map_map];rfl
 rw[ed,dK8 j9 (cM3 fs),fA6 fs h]
 have hlen:(G++[DO.lst (fs.map fun f=>D.tup [.str f.1,.tup [.bl f.2.1,f.2.2]])]).length=G.length+1:=by simp
 rw[hlen]
 exact q _
theorem cV6{q:Nat}{ps:List (Str×D)}{fs:List (Str×Bool×D)}{G:DH}(e:G[q]? =some (.dct (ps.map kv)))(σ:DSt)(hσ:∃a b c,σ= [a,b,c,some (.ref q)]):
 M9 (aG0 3 (J4 (q13 0) (J4 (q13 1) (J4 (q13 2) (aJ8))))) M4 (cR0 (d9 inD (c7 0) (c7 3)) (bU8 (c7 1))) (fun _=>true) (fs.map fdD) σ G=some (.ok ((fs.map fdD).map fun d=>.bl (bE0 (ps.map S6) d)),G):=by
 refine aN5 (I:=fun σ=>∃a b c,σ= [a,b,c,some (.ref q)]) rfl _ _ hσ fun d hd σ hσ=>?_
 obtain⟨f,hf,rfl⟩:=List.mem_map.mp hd
 obtain⟨u,v,w,rfl⟩:=hσ
 refine⟨[some (.str f.1),some (.bl f.2.1),some f.2.2,some (.ref q)],aK1 ?_,⟨_,_,_,rfl⟩,rfl,aK1 ?_⟩
 · unfold fdD
   rw[cW3]
   simp only[bU6,cG2,S5,List.set_cons_succ,List.set_cons_zero]
   exact⟨trivial,trivial⟩
 · simp only[eZ8,bT2,cH2,aM7,List.getElem?_cons_zero,List.getElem?_cons_succ,Option.some.injEq,exists_eq_left',eL5,dZ5 e,eD7,Z6]
   have em:bE0 (ps.map S6) (fdD f)= ((ps.map S6).any (nmD f.1)||!f.2.1):=rfl
   rw[em]
   cases (ps.map S6).any (nmD f.1)<;>simp
theorem dV8{R:List D→M D}{l:List D}{G:DH}:Wp (N7 R [.tup l,.non]) G fun x G'=>x= .bl false∧Ap G G':=aF0 (d:=.bl false) rfl ⟨rfl,Ap.refl⟩
theorem fG0{R:List D→M D}:aA5 R=m8 (ifS (J8 (d9 bF5 (c7 1) (cE .non))) (o6 (cE (.bl false))) (J9)) (m8 (K3 (q12 aV5 (q10 (c7 0) (q11))) (q13 2)) (m8 RA (m8 (K3 (q12 (fnX 1 K1) (q10 (c7 1) (q11))) (q13 3)) (RZ R)))):=rfl
section
variable{ps:List (Str×D)}{fs:List (Str×Bool×D)}{m:D}{G:DH}
theorem fI1{q:Nat}(e:G[q]? =some (.dct (ps.map kv)))(hf:fs.length≤100):Wp (RA [some (.tup (ps.map S6)),some (.tup [.tup (fs.map fdD),m]),some (.ref q),none]) G fun fl G'=>Ap G G'∧if (fs.map fdD).all (bE0 (ps.map S6))=true then fl= .nx [some (.tup (ps.map S6)),some (.tup [.tup (fs.map fdD),m]),some (.ref q),none]else fl= .rt (.bl false):=by
 have bg:=big
 refine aL8<| cF2.mpr<| aF3.mpr<| R9<| u0<| X8 (l:=fs.map fdD) rfl (by rw[List.length_map];omega)<| d8 (cV6 e _ ⟨_,_,_,rfl⟩)<| G9.mpr<| (bT5 (f:=bE0 (ps.map S6)) j9).mpr<| Z6.mpr ⟨fun g=>?_,fun g=>?_⟩
 · have g:(fs.map fdD).all (bE0 (ps.map S6))=false:=by simpa using g
   exact d8 rfl ⟨Ap.one,by rw[g];rfl⟩
 · have g:(fs.map fdD).all (bE0 (ps.map S6))=true:=by simpa using g
   exact N5.mpr ⟨Ap.one,by rw[g];rfl⟩
theorem fA9{R:List D→M D}{n q r:Nat}(e:G[q]? =some (.dct (fs.map tv)))(hp:ps.length≤1000)(hR:∀p∈ps,∀s,(∃f∈fs,s=f.2.2)∨s=m→∀G,Wp (R [p.2,s]) G fun x G'=>x= .bl (inP n p.2 s)∧Ap G G'):
 Wp (RZ R [some (.tup (ps.map S6)),some (.tup [.tup (fs.map fdD),m]),some (.ref r),some (.ref q)]) G fun fl G'=>Ap G G'∧fl= .rt (.bl ((ps.map S6).all (dQ3 (inP n) (fs.map fdD) m))):=by
 have bg:=big
 refine K9<| R9<| u0<| X8 (l:=ps.map S6) rfl (by rw[List.length_map];omega) ?_
 refine(aA0 (fun G'=>Ap G G') (fun σ=>∃u v,σ= [u,v,some (.tup [.tup (fs.map fdD),m]),some (.ref q)]) (fun d=>.bl (dQ3 (inP n) (fs.map fdD) m d)) (fun _ _=>rfl) _ _ G ⟨_,_,rfl⟩ Ap.refl ?_).mono ?_
 · rintro d hd σ G1 ⟨u,v,rfl⟩ j1
   obtain⟨p,hp',rfl⟩:=List.mem_map.mp hd
   refine d8 (a:= [some (.str p.1),some p.2,some (.tup [.tup (fs.map fdD),m]),some (.ref q)]) rfl ⟨rfl,⟨_,_,rfl⟩,d8 rfl ⟨rfl,rfl,?_⟩⟩
   refine R9<| aD2 (x:=p.2) rfl<| u0<| K6<| m7 (as:= [.ref q,m,.str p.1]) rfl rfl<| (dL8 (j1.at e)).mpr ⟨_,d8 (a:=.int 1) rfl<| ix_tup.mpr ⟨_,rfl,G9.mpr<| aF8.mpr ⟨rfl,(hR p hp' _ cQ8 G1).mono fun x G2 z=>⟨j1.trans z.2,z.1⟩⟩⟩,rfl⟩
 · rintro _ G1 ⟨j1,rfl⟩
   exact G9.mpr<| (bT5 (f:=dQ3 (inP n) (fs.map fdD) m) j9).mpr ⟨j1.trans Ap.one,rfl⟩
theorem eV7{R:List D→M D}{n:Nat}(hp:ps.length≤1000)(hf:fs.length≤100)(hn:(ps.map (·.1)).Nodup)(hn2:(fs.map (·.1)).Nodup)(hR:∀p∈ps,∀s,(∃f∈fs,s=f.2.2)∨s=m→∀G,Wp (R [p.2,s]) G fun x G'=>x= .bl (inP n p.2 s)∧Ap G G'):
 Wp (N7 R [.tup (ps.map S6),.tup [.tup (fs.map fdD),m]]) G fun x G'=>x= .bl (W8 (inP n) (ps.map S6) (.tup [.tup (fs.map fdD),m]))∧Ap G G':=by
 refine J3 (show Wp (aA5 R [some (.tup (ps.map S6)),some (.tup [.tup (fs.map fdD),m]),none,none]) G _ from ?_)
 rw[fG0]
 refine o7 (G':=G) rfl<| m9.mpr<| Q5<| bL1 (as:= [.tup (ps.map S6)]) rfl<| (dN6 hn).mpr<| m9.mpr<| (fI1 (m:=m) (fs:=fs) j9 hf).mono ?_
 rintro fl G1 ⟨j1,hfl⟩
 have ei:W8 (inP n) (ps.map S6) (.tup [.tup (fs.map fdD),m])= ((fs.map fdD).all (bE0 (ps.map S6))&&(ps.map S6).all (dQ3 (inP n) (fs.map fdD) m)):=rfl
 rw[ei]
 cases hb:(fs.map fdD).all (bE0 (ps.map S6)) with
 |false=>
   rw[hb,if_neg (by simp)]at hfl
   subst hfl
   exact⟨rfl,Ap.one.trans j1⟩
 |true=>
   rw[hb,if_pos rfl]at hfl
   subst hfl
   refine m9.mpr<| Q5<| m7 (as:= [.tup [.tup (fs.map fdD),m]]) rfl rfl<| dI5 hn2 hf fun o=>?_
   have e2:(G1++[o]++[DO.dct (fs.map tv)])[G1.length+1]? =some (.dct (fs.map tv)):=by
    have:=j9 (G:=G1++[o]) (o:=DO.dct (fs.map tv))
    simpa using this
   refine(fA9 e2 hp hR).mono ?_
   rintro _ G3 ⟨j3,rfl⟩
   exact⟨rfl,((Ap.one.trans j1).trans (Ap.one.trans Ap.one)).trans j3⟩
end
theorem dK6{x:D}{l:List D}{G:DH}{Q:DPP}(h:(aA6 x&&l.all aA6)=true):Wp (inD x (.tup l)) G Q↔Q (.bl (inV (toV x) (l.map toV))) G:=by
 rw[eL5]
 have e:inB x (.tup l) G=some (inV (toV x) (l.map toV)):=by
  show (if (aA6 x&&l.all aA6)=true then some (inV (toV x) (l.map toV))else none)=_
  rw[if_pos h]
 simp only[e,Option.some.injEq,exists_eq_left']
theorem dO2{G:DH}{r:Nat}{l:List D}{f:D→Bool}{Q:DPP}(h:G[r]? =some (.lst (l.map fun x=>.bl (f x)))):Wp (cS0 [.ref r]) G Q↔Q (.bl (l.any f)) G:=by
 have h0:cS0 [.ref r]= (do
  let l ←Q7 r >>= DL.listOf
  let bs ←aS5 (bG0 l)
  pure (.bl (bs.any id))):=rfl
 rw[h0]
 simp only[j8,R0,h,S7,DL.listOf,j7,aV3,cG4,List.any_map]
 rfl
theorem eF2(tr:List Bool):(tr.map D.bl).all aA6=true:=by rw[List.all_map];exact List.all_eq_true.mpr fun _ _=>rfl
theorem dT1(ts:List Str):(ts.map D.str).all aA6=true:=by rw[List.all_map];exact List.all_eq_true.mpr fun _ _=>rfl
theorem eW1{a b c d:D}{z o:Str}{ts:List Str}{w:Str}{G:DH}{Q:DPP}(q:Q (.bl (inV (.str z) ((ts.map D.str).map toV)==(w==o))) G):Wp ((d9 eqD (d9 inD (c7 0) (d9 ixD (d9 ixD (c7 1) (cE (.int 1))) (cE (.int 1)))) (d9 eqD (d9 ixD (d9 ixD (c7 1) (cE (.int 1))) (cE (.int 0))) (cE (.str o)))) [some (.str z),some (.tup [a,.tup [.str w,.tup (ts.map D.str)],b,c,d])]) G Q:=
 K6 (aD9 (x:=.str z) (y:=.tup (ts.map D.str)) rfl rfl ((dK6 (by rw[dT1];rfl)).mpr (aD9 (x:=.str w) (y:=.str o) rfl rfl (eT8.mpr (fE3.mpr q)))))
theorem dG9{R:List D→M D}{b n k:Nat}{v s:D}{G:DH}(hb:b≤1000)(hR:∀v s G,VW b n v→SB k s→Wp (R [v,s]) G fun x G'=>x= .bl (inP n v s)∧Ap G G')(hv:VW b (n+1) v)(hs:SB (k+1) s):
 Wp (J1 2 (aN0 R) [v,s]) G fun x G'=>x= .bl (inP (n+1) v s)∧Ap G G':=by
 have bg:=big
 refine J3 (show Wp (aN0 R [some v,some s]) G _ from ?_)
 rcases hs with rfl|⟨ns,w,ts,tr,li,re,rfl,h1,h2,h3,h4,h5,h6,h7⟩
 ·exact dU0 (d:=.bl true) rfl ⟨rfl,Ap.refl⟩
 · rcases hv with⟨i,rfl⟩|⟨c,rfl⟩|⟨z,rfl,hz⟩|⟨l,rfl,hl,hv⟩|⟨ps,rfl,hl,hn,hv⟩
   · refine o7 rfl (o7 rfl (m9.mpr (cS8 (G1:=G) rfl (K9 (R9 (u0 (wp_comp.mpr (wp_itW.mpr (d8 (a:=.tup (ns.map stD)) rfl (srcW_tup.mpr ⟨?_,d8 (dE0 rfl h1 _ ⟨_,_,rfl⟩) (G9.mpr ((dO2 (f:=cI3 i) j9).mpr ⟨rfl,Ap.one⟩))⟩))))))))))
     show (ns.map stD).length≤sizeLine
     rw[List.length_map];omega
   ·exact o7 rfl (m9.mpr (cS8 (G1:=G) rfl (K9 (aD9 (x:=.bl c) (y:=.tup (tr.map D.bl)) rfl rfl ((dK6 (by rw[eF2];rfl)).mpr ⟨rfl,Ap.refl⟩)))))
   ·exact o7 rfl (o7 rfl (o7 rfl (m9.mpr (cS8 (G1:=G) rfl (K9 (eW1 ⟨rfl,Ap.refl⟩))))))
   · refine o7 rfl (o7 rfl (o7 rfl (o7 rfl (m9.mpr (cS8 (G1:=G) rfl (K9 (m7 (as:= [.tup l,li]) rfl rfl ?_)))))))
     rw[show inP (n+1) (.tup [.str aT5,.tup l]) (mkS ns w ts tr li re)=aH6 (inP n) l li from bO3]
     rcases h6 with rfl|⟨fs,m,rfl,hf,hfs,hm⟩
     ·exact list_none
     · refine dZ4 (by omega) hf fun v hv' s hs' G=>hR v s G (hv v hv') ?_
       rcases hs' with hs'|rfl
       ·exact hfs s hs'
       ·exact hm
   · refine o7 rfl (o7 rfl (o7 rfl (o7 rfl (o7 rfl (K9 (m7 (as:= [.tup (ps.map S6),re]) rfl rfl ?_))))))
     rw[show inP (n+1) (.tup [.str dG6,.tup (ps.map S6)]) (mkS ns w ts tr li re)=W8 (inP n) (ps.map S6) re from bU4]
     rcases h7 with rfl|⟨fs,m,rfl,hf0,hn2,hfs,hm⟩
     ·exact dV8
     · refine eV7 (by omega) (by omega) hn hn2 fun p hp s hs' G=>hR p.2 s G (hv p hp).2 ?_
       rcases hs' with⟨f,hf',rfl⟩|rfl
       ·exact(hfs f hf').2
       ·exact hm
theorem cY3{b:Nat}(hb:b≤1000):∀(n k j:Nat) (v s:D) (G:DH),n≤j→VW b n v→SB k s→Wp (aW4 j [v,s]) G fun x G'=>x= .bl (inP n v s)∧Ap G G'
 |0,_,_,_,_,_,_,hv,_=>hv.elim
 |n+1,0,_,_,_,_,_,_,hs=>hs.elim
 |n+1,k+1,0,_,_,_,h,_,_=>absurd h (by omega)
 |n+1,k+1,j+1,v,s,G,h,hv,hs=>dG9 hb (fun v s G hv hs=>cY3 hb n k j v s G (by omega) hv hs) hv hs
section
variable{ps:List (Str×D)}{fs:List (Str×Bool×D)}{m s v:D}{G:DH}
end
noncomputable abbrev cI9:Str:= "but"
section
variable{n:Nat}{ns:List (D×D)}{w:Str}{ts:List Str}{tr:List Bool}{li re:D}
end
theorem aW7{a:D}(h:aZ6 a):a= .non∨∃i,a= .int i:=match a,h with
 | .non,_=>.inl rfl
 | .int i,_=>.inr ⟨i,rfl⟩
section
variable{ps:List (Str×D)}{fs:List (Str×Bool×D)}{m:D}{G:DH}
end
section
variable{ps:List (Str×D)}{fs:List (Str×Bool×D)}{m s v:D}{G:DH}
end
section
variable{G:DH}{Q:DPP}
end
def TX(z:Str):Prop:=cZ2 z=true∧z.length≤1000
def NM(z:Str):Prop:=TX z∧0<z.length
noncomputable def LtS(a b:Str):Prop:=a.cps.toList<b.cps.toList
noncomputable def Clr(p q:D×D):Prop:=∃a b:Int,p.2= .int a∧q.1= .int b∧a+1<b
def StP(ns:List (D×D)):Prop:=(∀p∈ns,bA2 p)∧ns.Pairwise Clr
def fD0(a b:Str):Prop:=a.length<b.length∨(a.length=b.length∧LtS a b)
def dD8(xs:List Str):Prop:=(∀z∈xs,TX z)∧xs.Pairwise fD0
theorem ixv{r:Nat}{l:List D}{j:Int}{a b:Fe}{σ:DSt}{d:D}{G G1:DH}{Q:DPP}(ha:a σ G=some (.ok (.ref r),G))(hb:b σ G=some (.ok (.int j),G))(e:G[r]? =some (.lst l))(hd:atI l j=some d)(q:Q d G):Wp (d9 ixD a b σ) G Q:=aD9 ha hb ((bS8 e).mpr ⟨d,hd,q⟩)
theorem fC4{r:Nat}{l:List D}{k:Int}{j:Nat}{a b:Fe}{σ:DSt}{d:D}{G:DH}{S:DSt→DH→Prop}(ha:a σ G=some (.ok (.ref r),G))(hb:b σ G=some (.ok (.int k),G))(e:G[r]? =some (.lst l))(hj:ixN l.length k=some j)(q:S σ (G.set r (.lst (l.set j d)))):Wp (dF6 a b d σ) G S:=eM6.mpr (d8 ha (d8 hb ((eF4 e hj).mpr q)))
theorem eH9{r:Nat}{n:Int}{G:DH}(h:aA8 G r)(hn:0<n∧n<2 ^ 100):Wp (m5 [.ref r,.int n]) G fun x G'=>∃k,x= .int k∧0≤k∧k<n∧∃o,G'=G.set r o∧aA8 G' r:=by
 have hlt:=h.lt
 obtain⟨a,b,c,e,hr,hb1,hb2⟩:=h
 refine J3 (show Wp (aV8 [some (.ref r),some (.int n),none]) G _ from ?_)
 refine m9.mpr (aL8 (S8 (K6 (ixv (G1:=G) rfl rfl hr rfl (d8 (a:=.int 0) rfl (bI1.mpr ⟨_,rfl,fun _=>?_,fun _=>?_⟩))))))
 · refine m9.mpr (Q5 (K6 (ixv (G1:=G) rfl rfl hr rfl (d8 (a:=.int n) rfl ((aO9 hn.1).mpr ?_)))))
   refine m9.mpr (cU5.mpr (K6 (ixv (G1:=G) rfl rfl hr rfl (d8 (a:=.int n) rfl ((cP8 hn).mpr (fC4 (k:=0) rfl rfl hr rfl ?_))))))
   refine d8 (a:=.rt (.int (a % n))) rfl (K5 ⟨_,rfl,Int.emod_nonneg _ (by lia),Int.emod_lt_of_pos _ hn.1,_,rfl,a / n,b,c,e,?_,hb1,hb2⟩)
   exact List.getElem?_set_self hlt
 · have b1:0≤b*b % 2147483629:=Int.emod_nonneg _ (by lia)
   have b2:b*b % 2147483629<2147483629:=Int.emod_lt_of_pos _ (by lia)
   have hr2:(G.set r (.lst [.int a,.int (b*b % 2147483629+3),.int c,.int e]))[r]? =some (.lst [.int a,.int (b*b % 2147483629+3),.int c,.int e]):=List.getElem?_set_self hlt
   refine N5.mpr (m9.mpr (cU5.mpr (K6 (K6 (K6 (ixv (G1:=G) rfl rfl hr rfl (ixv (G1:=G) rfl rfl hr rfl ((bF3 (Or.inl ⟨by lia,by lia⟩)).mpr (d8 (a:=.int 2147483629) rfl ((aO9 (by decide)).mpr (d8 (a:=.int 3) rfl (bM9.mpr (fC4 (k:=1) rfl rfl hr rfl ?_)))))))))))))
   refine K9 (K6 (K6 (K6 (K6 (ixv (G1:=G) rfl rfl hr2 rfl (d8 (a:=.int 69621) rfl ((bF3 (Or.inr ⟨by lia,by lia⟩)).mpr (d8 (a:=.int 2147483563) rfl ((aO9 (by decide)).mpr (d8 (a:=.int 8) rfl ((cP8 (by decide)).mpr (d8 (a:=.int n) rfl ((aO9 hn.1).mpr ?_)))))))))))))
   exact⟨_,rfl,Int.emod_nonneg _ (by lia),Int.emod_lt_of_pos _ hn.1,_,rfl,a,b*b % 2147483629+3,c,e,hr2,by lia,by lia⟩
theorem cF1{r:Nat}{n:Int}{G:DH}(h:aA8 G r)(hn:0<n∧n<2 ^ 100):Wp (m5 [.ref r,.int n]) G fun x G'=>∃k,x= .int k∧0≤k∧k<n∧Fr r G G':=
 Wp.mono (eH9 h hn) fun x G' ⟨k,e,h1,h2,o,e2,hh⟩=>⟨k,e,h1,h2,by subst e2;exact Fr.set hh⟩
theorem eG4{r:Nat}{G:DH}{n:Int}{ds:List D}{Q:DPP}(h:aA8 G r)(hn:(ds.length:Int)=n)(h0:0<n)(h1:n<2 ^ 100)(q:∀d∈ds,∀G',Fr r G G'→Fr r (G++[.lst ds]) G'→Q d G'):
 Wp (m5 [.ref r,.int n]) (G++[.lst ds]) fun y G2=>Wp (ixD (.ref G.length) y) G2 Q:=by
 refine Wp.mono (cF1 h.app ⟨h0,h1⟩) fun x G2 ⟨k,e,h3,h4,f2⟩=>?_
 subst e
 have hne:G.length≠r:=by have:=h.lt;lia
 have hg:=f2.at hne (o:=.lst ds) cY0
 rw[bS8 hg]
 obtain⟨d,hd,e⟩:=cN2 (l:=ds) h3 (by lia)
 exact⟨d,e,q d hd G2 ((Fr.app h).trans f2) f2⟩
theorem bE5{r p:Nat}{G:DH}{n:Int}{ds:List D}{Q:DPP}(h:aA8 G r)(hp:p≠r)(e:G[p]? =some (.lst ds))(hn:(ds.length:Int)=n)(h0:0<n)(h1:n<2 ^ 100)(q:∀d∈ds,∀G',Fr r G G'→Q d G'):
 Wp (m5 [.ref r,.int n]) G fun y G2=>Wp (ixD (.ref p) y) G2 Q:=by
 refine Wp.mono (cF1 h ⟨h0,h1⟩) fun x G2 ⟨k,ek,h3,h4,f2⟩=>?_
 subst ek
 rw[bS8 (f2.at hp e)]
 obtain⟨d,hd,e⟩:=cN2 (l:=ds) h3 (by lia)
 exact⟨d,e,q d hd G2 f2⟩
theorem aM0{r:Nat}{n:Int}{G:DH}{Q:DPP}(h:aA8 G r)(hn:0<n∧n<2 ^ 100)(q:∀k:Int,0≤k→k<n→∀G',Fr r G G'→Q (.int k) G'):Wp (m5 [.ref r,.int n]) G Q:=
 Wp.mono (cF1 h hn) fun x G' ⟨k,e,h1,h2,f⟩=>by subst e;exact q k h1 h2 G' f
theorem dL9{r:Nat}{n:Int}{fs:DSt→M (List D)}{σ:DSt}{G:DH}{Q:DPP}(hσ:σ[0]? =some (some (.ref r)))(h0:0<n)(h1:n<2 ^ 100)(w:Wp (fs σ) G fun ds G1=>ds.length≤sizeLine∧aA8 G1 r∧(ds.length:Int)=n∧∀d∈ds,∀G',Fr r G1 G'→Q d G'):
 Wp (d9 ixD (Z7 fs) (q12 (fnX 2 m5) (q10 (c7 0) (q10 (cE (.int n)) (q11)))) σ) G Q:=
 K6 (aJ4.mpr (w.mono fun ds G1 q=>⟨q.1,R9 (u0 (aM7.mpr ⟨_,hσ,aD2 rfl (G9.mpr (aF8.mpr ⟨rfl,eG4 q.2.1 q.2.2.1 h0 h1 fun d hd G' f _=>q.2.2.2 d hd G' f⟩))⟩))⟩))
theorem eH3{G:DH}{p:Nat}{ns:List Int}{c k:Int}(e:G[p]? =some (.rol (ns.map D.int)))(hk:0≤k∧k<64):Wp (aC6 [.ref p,.int c,.int k]) G fun d G'=>∃r,d= .ref r∧G.length≤r∧aA8 G' r∧Gr G G':=by
 have m1:bU7 7919 k:=Or.inl ⟨by lia,by lia⟩
 have b1:0≤c % 2147483629:=Int.emod_nonneg _ (by lia)
 have b2:c % 2147483629<2147483629:=Int.emod_lt_of_pos _ (by lia)
 have m2:bU7 (c % 2147483629+7919*k+1) 48271:=Or.inr ⟨by lia,by lia⟩
 have ln:G.length≤(G++[DO.lst []]).length:=by simp
 refine J3 (show Wp (aT3 [some (.ref p),some (.int c),some (.int k),none]) G _ from ?_)
 refine o7 (σ':= [some (.ref p),some (.int c),some (.int k),some (.int 0)]) rfl ?_
 refine m9.mpr (cS9 (A:=fun fl G1=>∃w,fl= .nx [some (.ref p),some (.int c),some (.int k),some (.int w)]∧G1=G++[.lst []]) (S8 (K6 (d8 (a:=.ref p) rfl (aJ4.mpr (G9.mpr ⟨sz,(eC1 (Q3 e) j9).mpr ⟨_,rfl,fun _=>?_,fun _=>?_⟩⟩))))) ?_)
 · rintro _ _ ⟨w,rfl,rfl⟩
   refine K9<| aJ4.mpr<| aD2 (x:=.int c) rfl<| u0<| K6<| K6<| K6<| K6<| aD9 (x:=.int c) (y:=.int 2147483629) rfl rfl<| (aO9 (by decide)).mpr<| aD9 (x:=.int 7919) (y:=.int k) rfl rfl<| (bF3 m1).mpr<| bM9.mpr<| d8 (a:=.int 1) rfl<| bM9.mpr<| d8 (a:=.int 48271) rfl<| (bF3 m2).mpr<| d8 (a:=.int 2147483647) rfl<| (aO9 (by decide)).mpr<| d8 (a:= [.int w,.int 0]) rfl ⟨sz,?_⟩
   exact⟨_,rfl,ln,⟨_,_,_,_,j9,Int.emod_nonneg _ (by lia),Int.lt_trans (Int.emod_lt_of_pos _ (by lia)) (by decide)⟩,Gr.app.trans Gr.app⟩
 ·exact Q5 (K6 (bL1 (as:= [.ref p]) rfl ((dZ8 (Q3 e)).mpr (d8 (a:=.int 2) rfl ((aO9 (by decide)).mpr ⟨_,rfl,rfl⟩)))))
 ·exact N5.mpr ⟨_,rfl,rfl⟩
def noS:D:=mkS [] wOf [] [] .non .non
theorem SB.le:∀ {n m:Nat} {d:D},n≤m→SB n d→SB m d
 |0,_,_,_,h=>h.elim
 |n+1,0,_,hm,_=>absurd hm (by lia)
 |n+1,m+1,d,hm,h=>by
   rcases h with rfl|⟨ns,w,ts,tr,li,re,rfl,h1,h2,h3,h4,h5,h6,h7⟩
   ·exact .inl rfl
   · refine .inr ⟨ns,w,ts,tr,li,re,rfl,h1,h2,h3,h4,h5,?_,?_⟩
     · rcases h6 with rfl|⟨fs,m',rfl,a,b,c⟩
       ·exact .inl rfl
       ·exact .inr ⟨fs,m',rfl,a,fun x hx=>SB.le (by lia) (b x hx),SB.le (by lia) c⟩
     · rcases h7 with rfl|⟨fs,m',rfl,a,a',b,c⟩
       ·exact .inl rfl
       ·exact .inr ⟨fs,m',rfl,a,a',fun x hx=>⟨(b x hx).1,SB.le (by lia) (b x hx).2⟩,SB.le (by lia) c⟩
theorem aM3{n:Nat}:SB (n+1) noS:=.inr ⟨[],wOf, [], [],.non,.non,rfl,(fun p hp=>by cases hp),by simp,(fun p hp=>by cases hp),by simp,by simp,.inl rfl,.inl rfl⟩
noncomputable def M3:Nat→D→Bool
 |_,.non=>true
 |_,.bl _=>true
 |_,.int _=>true
 |_,.str _=>true
 |n+1,.tup l=>l.all (M3 n)
 |_,_=>false
theorem cG9{f:D→D→Option Bool}:∀(a b:List D),(∀x∈a,∀y∈b,∃k,f x y=some k)→∃k,eqL f a b=some k
 |[], [],_=>⟨_,rfl⟩
 |[],_::_,_=>⟨_,rfl⟩
 |_::_, [],_=>⟨_,rfl⟩
 |x::xs,y::ys,h=>by
   obtain⟨k,e⟩:=h x (by simp) y (by simp)
   obtain⟨k',e'⟩:=cG9 xs ys fun a ha b hb=>h a (by simp[ha]) b (by simp[hb])
   exact⟨k&&k',by simp only[eqL,e,e']⟩
theorem eG7{x y:D}(hx:aL6 x=true)(hy:aL6 y=true):∃k,eqS x y=some k:=by
 rcases x with _|_|_|_|_|_|_|_<;>rcases y with _|_|_|_|_|_|_|_<;>first|cases hx;done|cases hy;done|exact⟨_,rfl⟩
theorem aW5{G:DH}:∀(n m:Nat) (x y:D),n<m→M3 n x=true→M3 n y=true→∃k,eqN m G x y=some k
 |n,0,x,y,h,_,_=>by lia
 |n,m+1,x,y,h,hx,hy=>by
   have sc:∀ {d:D},M3 n d=true→(∃l,d= .tup l∧∃k,n=k+1∧∀z∈l,M3 k z=true)∨(aL6 d=true∧aB7 G d=none):=fun {d} hd=>by
    rcases d with _|_|_|_|l|i|i|i<;>try (exact .inr ⟨rfl,rfl⟩;done)
    ·
      cases n with
      |zero=>exact aB4 hd
      |succ k=>exact .inl ⟨l,rfl,k,rfl,fun z hz=>List.all_eq_true.mp (show l.all (M3 k)=true from hd) z hz⟩
    ·cases n<;>exact aB4 hd
    ·cases n<;>exact aB4 hd
    ·cases n<;>exact aB4 hd
   rcases sc hx with⟨l,rfl,k,rfl,hl⟩|⟨s1,q1⟩
   · rcases sc hy with⟨l',rfl,k',e',hl'⟩|⟨s2,q2⟩
     · have ek:k=k':=by lia
       subst ek
       obtain⟨b,e⟩:=cG9 (f:=eqN m G) l l' fun a ha b hb=>aW5 k m a b (by lia) (hl a ha) (hl' b hb)
       refine⟨b,?_⟩
       show (if true=true then (if true=false∧l.length≠l'.length then some false else eqL (eqN m G) l l')else some false)=some b
       simp[e]
     ·exact⟨false,by rw[aY4];rw[q2];simp only[aB7,s2,if_true]⟩
   · rcases sc hy with⟨l',rfl,k',e',hl'⟩|⟨s2,q2⟩
     ·exact⟨false,by rw[aY4];rw[q1];simp only[aB7,s1,if_true]⟩
     · obtain⟨b,e⟩:=eG7 s1 s2
       exact⟨b,by rw[aY4];rw[q1,q2];exact e⟩
theorem bN4:∀ {n m:Nat} {d:D},n≤m→M3 n d=true→M3 m d=true
 |n,m,.non,_,_=>by cases m<;>rfl
 |n,m,.bl _,_,_=>by cases m<;>rfl
 |n,m,.int _,_,_=>by cases m<;>rfl
 |n,m,.str _,_,_=>by cases m<;>rfl
 |0,m,.tup l,_,h=>by exact aB4 h
 |n+1,0,.tup l,h,_=>by lia
 |n+1,m+1,.tup l,h,k=>by
   show l.all (M3 m)=true
   exact List.all_eq_true.mpr fun x hx=>bN4 (by lia) (List.all_eq_true.mp (show l.all (M3 n)=true from k) x hx)
 |n,m,.ref _,_,h=>by cases n<;>exact aB4 h
 |n,m,.fn _,_,h=>by cases n<;>exact aB4 h
 |n,m,.ty _,_,h=>by cases n<;>exact aB4 h
theorem cA8(n:Nat)(ss:List Str):M3 (n+1) (.tup (ss.map D.str))=true:=by
 show (ss.map D.str).all (M3 n)=true
 rw[List.all_map,List.all_eq_true]
 intro x _
 cases n<;>rfl
theorem bS7(n:Nat)(bs:List Bool):M3 (n+1) (.tup (bs.map D.bl))=true:=by
 show (bs.map D.bl).all (M3 n)=true
 rw[List.all_map,List.all_eq_true]
 intro x _
 cases n<;>rfl
theorem cB8(n:Nat){ns:List (D×D)}(h:∀p∈ns,bA2 p):M3 (n+2) (.tup (ns.map stD))=true:=by
 show (ns.map stD).all (M3 (n+1))=true
 rw[List.all_map,List.all_eq_true]
 intro p hp
 have h1:=(h p hp).1
 have h2:=(h p hp).2.1
 have e:∀d,aZ6 d→M3 n d=true:=fun d hd=>by
  cases d<;>first|exact hd.elim|(cases n<;>rfl)
 show [p.1,p.2].all (M3 n)=true
 simp[e _ h1,e _ h2]
theorem SB.data:∀ {n:Nat} {d:D},SB n d→M3 (4*n) d=true
 |0,_,h=>h.elim
 |n+1,d,h=>by
   rcases h with rfl|⟨ns,w,ts,tr,li,re,rfl,h1,h2,h3,h4,h5,h6,h7⟩
   ·exact rfl
   · have q1:=cB8 (4*n+1) h1
     have q2:M3 (4*n+3) (.tup [.str w,.tup (ts.map D.str)])=true:=by
      have:=cA8 (4*n+1) ts
      show ([D.str w,.tup (ts.map D.str)].all (M3 (4*n+2)))=true
      simp only[List.all_cons,List.all_nil,this,Bool.and_true]
      rfl
     have q3:=bS7 (4*n+2) tr
     have q4:M3 (4*n+3) li=true:=by
      rcases h6 with rfl|⟨fs,m,rfl,a,b,c⟩
      ·rfl
      · show ([D.tup fs,m].all (M3 (4*n+2)))=true
        have z:M3 (4*n+2) (.tup fs)=true:=by
         show fs.all (M3 (4*n+1))=true
         exact List.all_eq_true.mpr fun x hx=>bN4 (by lia) (b x hx).data
        simp[z,bN4 (show 4*n≤4*n+2 by lia) c.data]
     have q5:M3 (4*n+3) re=true:=by
      rcases h7 with rfl|⟨fs,m,rfl,a,a',b,c⟩
      ·rfl
      · show ([D.tup (fs.map fdD),m].all (M3 (4*n+2)))=true
        have z:M3 (4*n+2) (.tup (fs.map fdD))=true:=by
         show (fs.map fdD).all (M3 (4*n+1))=true
         rw[List.all_map]
         refine List.all_eq_true.mpr fun x hx=>?_
         show ([D.str x.1,.bl x.2.1,x.2.2].all (M3 (4*n)))=true
         have z1:M3 (4*n) (.str x.1)=true:=by cases (4*n)<;>rfl
         have z2:M3 (4*n) (.bl x.2.1)=true:=by cases (4*n)<;>rfl
         simp[z1,z2,(b x hx).2.data]
        simp[z,bN4 (show 4*n≤4*n+2 by lia) c.data]
     show [D.tup (ns.map stD),.tup [.str w,.tup (ts.map D.str)],.tup (tr.map D.bl),li,re].all (M3 (4*n+3))=true
     simp only[List.all_cons,List.all_nil,q1,q2,q3,q4,q5];rfl
theorem M6{f:D→D→Option Bool}{x y:D}{xs ys:List D}(h:eqL f (x::xs) (y::ys)=some true):f x y=some true∧eqL f xs ys=some true:=by
 unfold eqL at h
 rcases e:f x y with _|a
 ·rw[e]at h;exact K4 h
 ·
   rcases e':eqL f xs ys with _|b
   ·rw[e,e']at h;exact K4 h
   ·
     rw[e,e']at h
     rcases a with _|_<;>rcases b with _|_<;>first|(cases h;done)|exact⟨rfl,rfl⟩
theorem eqL_same{f:D→D→Option Bool}:∀ {a b:List D},eqL f a b=some true→(∀x∈a,∀y∈b,f x y=some true→x=y)→a=b
 |[], [],_,_=>rfl
 |[],_::_,h,_=>by cases h
 |_::_, [],h,_=>by cases h
 |x::xs,y::ys,h,k=>by
   have h':=M6 h
   rw[k x (by simp) y (by simp) h'.1,eqL_same h'.2 fun a ha b hb=>k a (by simp[ha]) b (by simp[hb])]
theorem cG3{n:Nat}{G:DH}{a b:List D}:eqN (n+1) G (.tup a) (.tup b)=eqL (eqN n G) a b:=by
 show (if true=true then (if true=false∧a.length≠b.length then some false else eqL (eqN n G) a b)else some false)=_
 simp
theorem eqT{n:Nat}{G:DH}{a b:List D}(h:eqN n G (.tup a) (.tup b)=some true):∃m,n=m+1∧eqL (eqN m G) a b=some true:=by
 cases n with
 |zero=>exact K4 h
 |succ m=>exact⟨m,rfl,by rw[←cG3];exact h⟩
theorem aS9{n:Nat}{G:DH}{a b:Str}(h:eqN n G (.str a) (.str b)=some true):a=b:=by
 cases n with
 |zero=>exact K4 h
 |succ m=>exact eq_of_beq (Option.some.inj (show some (a==b)=some true from h))
theorem cE0{n:Nat}{G:DH}{a b:Bool}(h:eqN n G (.bl a) (.bl b)=some true):a=b:=by
 cases n with
 |zero=>exact K4 h
 |succ m=>exact eq_of_beq (Option.some.inj (show some (a==b)=some true from h))
theorem cN0{n:Nat}{G:DH}{a b:D}(ha:aZ6 a)(hb:aZ6 b)(h:eqN n G a b=some true):a=b:=by
 cases n with
 |zero=>exact K4 h
 |succ m=>
   rcases aW7 ha with rfl|⟨i,rfl⟩<;>rcases aW7 hb with rfl|⟨j,rfl⟩<;>first
    |rfl
    |(cases h;done)
    |skip
   rw[eq_of_beq (Option.some.inj (show some (i==j)=some true from h))]
theorem eK8{n:Nat}{G:DH}{ns ms:List (D×D)}(h1:∀p∈ns,bA2 p)(h2:∀p∈ms,bA2 p)(h:eqN n G (.tup (ns.map stD)) (.tup (ms.map stD))=some true):ns.map stD=ms.map stD:=by
 obtain⟨m,rfl,h⟩:=eqT h
 refine eqL_same h fun x hx y hy e=>?_
 obtain⟨p,hp,rfl⟩:=List.mem_map.mp hx
 obtain⟨q,hq,rfl⟩:=List.mem_map.mp hy
 obtain⟨k,rfl,e⟩:=eqT (a:= [p.1,p.2]) (b:= [q.1,q.2]) e
 have e1:=M6 e
 have e2:=M6 e1.2
 unfold stD
 rw[cN0 (h1 p hp).1 (h2 q hq).1 e1.1,cN0 (h1 p hp).2.1 (h2 q hq).2.1 e2.1]
theorem cX4{n:Nat}{G:DH}{a b:List Str}(h:eqN n G (.tup (a.map D.str)) (.tup (b.map D.str))=some true):a.map D.str=b.map D.str:=by
 obtain⟨m,rfl,h⟩:=eqT h
 refine eqL_same h fun x hx y hy e=>?_
 obtain⟨p,hp,rfl⟩:=List.mem_map.mp hx
 obtain⟨q,hq,rfl⟩:=List.mem_map.mp hy
 rw[aS9 e]
theorem dT3{n:Nat}{G:DH}{a b:List Bool}(h:eqN n G (.tup (a.map D.bl)) (.tup (b.map D.bl))=some true):a.map D.bl=b.map D.bl:=by
 obtain⟨m,rfl,h⟩:=eqT h
 refine eqL_same h fun x hx y hy e=>?_
 obtain⟨p,hp,rfl⟩:=List.mem_map.mp hx
 obtain⟨q,hq,rfl⟩:=List.mem_map.mp hy
 rw[cE0 e]
theorem eJ8{n:Nat}{G:DH}{l:List D}:eqN n G .non (.tup l)≠some true:=by
 cases n with
 |zero=>exact fun h=>by exact K4 h
 |succ m=>exact fun h=>by cases h
theorem eJ5{n:Nat}{G:DH}{l:List D}:eqN n G (.tup l) .non≠some true:=by
 cases n with
 |zero=>exact fun h=>by exact K4 h
 |succ m=>exact fun h=>by cases h
theorem fI6{n:Nat}{G:DH}{z:Str}{l:List D}:eqN n G (.str z) (.tup l)≠some true:=by
 cases n with
 |zero=>exact fun h=>by exact K4 h
 |succ m=>exact fun h=>by cases h
theorem fK2{n:Nat}{G:DH}{z:Str}{l:List D}:eqN n G (.tup l) (.str z)≠some true:=by
 cases n with
 |zero=>exact fun h=>by exact K4 h
 |succ m=>exact fun h=>by cases h
def EqS(S:D→Prop)(G:DH):Prop:=∀n x y,S x→S y→eqN n G x y=some true→x=y
theorem fK1{S:D→Prop}{n:Nat}{G:DH}{a b:D}(ih:EqS S G)(ha:LiP S a)(hb:LiP S b)(h:eqN n G a b=some true):a=b:=by
 rcases ha with rfl|⟨fs,c,rfl,_,a2,a3⟩
 · rcases hb with rfl|⟨_,_,rfl,_⟩
   ·rfl
   ·exact(eJ8 h).elim
 · rcases hb with rfl|⟨gs,d,rfl,_,b2,b3⟩
   ·exact(eJ5 h).elim
   · obtain⟨_,_,z⟩:=eqT h
     have z1:=M6 z
     obtain⟨_,_,z3⟩:=eqT z1.1
     rw[eqL_same z3 fun x hx y hy e=>ih _ _ _ (a2 x hx) (b2 y hy) e,ih _ _ _ a3 b3 (M6 z1.2).1]
theorem fD6{S:D→Prop}{n:Nat}{G:DH}{f g:Str×Bool×D}(ih:EqS S G)(hf:S f.2.2)(hg:S g.2.2)(h:eqN n G (fdD f) (fdD g)=some true):fdD f=fdD g:=by
 obtain⟨_,_,e⟩:=eqT (a:= [D.str f.1,.bl f.2.1,f.2.2]) (b:= [D.str g.1,.bl g.2.1,g.2.2]) h
 have y1:=M6 e
 have y2:=M6 y1.2
 unfold fdD
 rw[aS9 y1.1,cE0 y2.1,ih _ _ _ hf hg (M6 y2.2).1]
theorem fE6{S:D→Prop}{n:Nat}{G:DH}{a b:D}(ih:EqS S G)(ha:ReP S a)(hb:ReP S b)(h:eqN n G a b=some true):a=b:=by
 rcases ha with rfl|⟨fs,c,rfl,_,_,a2,a3⟩
 · rcases hb with rfl|⟨_,_,rfl,_⟩
   ·rfl
   ·exact(eJ8 h).elim
 · rcases hb with rfl|⟨gs,d,rfl,_,_,b2,b3⟩
   ·exact(eJ5 h).elim
   · obtain⟨_,_,z⟩:=eqT h
     have z1:=M6 z
     obtain⟨_,_,z3⟩:=eqT z1.1
     rw[eqL_same z3 ?_,ih _ _ _ a3 b3 (M6 z1.2).1]
     intro x hx y hy e
     obtain⟨f,hf,rfl⟩:=List.mem_map.mp hx
     obtain⟨g,hg,rfl⟩:=List.mem_map.mp hy
     exact fD6 ih (a2 f hf).2 (b2 g hg).2 e
theorem fD5{S:D→Prop}{n:Nat}{G:DH}{ns ns':List (D×D)}{w w':Str}{ts ts':List Str}{tr tr':List Bool}{li re li' re':D}(ih:EqS S G)(h1:∀p∈ns,bA2 p)(g1:∀p∈ns',bA2 p)(h6:LiP S li)(g6:LiP S li')(h7:ReP S re)(g7:ReP S re')(h:eqN n G (mkS ns w ts tr li re) (mkS ns' w' ts' tr' li' re')=some true):mkS ns w ts tr li re=mkS ns' w' ts' tr' li' re':=by
 obtain⟨_,_,h⟩:=eqT h
 have e1:=M6 h
 have e2:=M6 e1.2
 have e3:=M6 e2.2
 have e4:=M6 e3.2
 obtain⟨_,_,t⟩:=eqT e2.1
 have t1:=M6 t
 unfold mkS
 rw[eK8 h1 g1 e1.1,aS9 t1.1,cX4 (M6 t1.2).1,dT3 e3.1,fK1 ih h6 g6 e4.1,fE6 ih h7 g7 (M6 e4.2).1]
theorem SB.eqs{G:DH}:∀ {k:Nat},EqS (SB k) G
 |0=>fun _ _ _ h _ _=>h.elim
 |k+1=>fun n x y hx hy h=>by
   rcases hx with rfl|⟨ns,w,ts,tr,li,re,rfl,h1,_,_,_,_,h6,h7⟩
   · rcases hy with rfl|⟨_,_,_,_,_,_,rfl,_⟩
     ·rfl
     ·exact(fI6 h).elim
   · rcases hy with rfl|⟨ns',w',ts',tr',li',re',rfl,g1,_,_,_,_,g6,g7⟩
     ·exact(fK2 h).elim
     ·exact fD5 SB.eqs h1 g1 h6 g6 h7 g7 h
theorem SB.eq{G:DH}{k n:Nat}{x y:D}(hx:SB k x)(hy:SB k y)(h:eqN n G x y=some true):x=y:=SB.eqs n x y hx hy h
theorem bU2{x:D}(h:aL6 x=true):eqS x x=some true:=by
 cases x<;>first|(cases h;done)|rfl|(simp[eqS])
theorem bO4{f:D→D→Option Bool}:∀ {l:List D},(∀x∈l,f x x=some true)→eqL f l l=some true
 |[],_=>rfl
 |x::r,h=>by unfold eqL;rw[h x (by simp),bO4 fun y hy=>h y (by simp[hy])];rfl
theorem bP9{G:DH}:∀ {n m:Nat} {x:D},n<m→M3 n x=true→eqN m G x x=some true
 |n,0,x,h,_=>by lia
 |n,m+1,x,h,hx=>by
   rcases x with _|b|b|b|l|i|i|i
   ·rfl
   ·exact bU2 (x:=.bl b) rfl
   ·exact bU2 (x:=.int b) rfl
   ·exact bU2 (x:=.str b) rfl
   ·
     cases n with
     |zero=>simp[M3]at hx
     |succ k=>
       rw[cG3]
       exact bO4 fun x hx'=>bP9 (n:=k) (by lia) (List.all_eq_true.mp (by simpa [M3]using hx) x hx')
   ·cases n<;>simp[M3]at hx
   ·cases n<;>simp[M3]at hx
   ·cases n<;>simp[M3]at hx
theorem SB.eqN{G:DH}{k:Nat}{x y:D}(hk:k≤9)(hx:SB k x)(hy:SB k y):∃b,DL.eqN 40 G x y=some b∧(b=true↔x=y):=by
 obtain⟨b,e⟩:=aW5 (G:=G) (4*k) 40 x y (by lia) hx.data hy.data
 refine⟨b,e,?_,?_⟩
 ·rintro rfl;exact hx.eq hy e
 · rintro rfl
   have:=bP9 (G:=G) (n:=4*k) (m:=40) (by lia) hx.data
   rw[this]at e
   exact(Option.some.inj e).symm
def LiF(li li':D):Prop:=(li= .non∧li'= .non)∨∃fs m,li= .tup [.tup fs,m]∧((noS∈fs∧li'= .non)∨(noS∉fs∧li'=li))
noncomputable def dZ1(m:D)(f:Str×Bool×D):Prop:=f.2.1=false∧f.2.2=m
def ReF(re re':D):Prop:=(re= .non∧re'= .non)∨∃(fs:List (Str×Bool×D)) (m:D),re= .tup [.tup (fs.map fdD),m]∧
 (((∃f∈fs,f.2.1=true∧f.2.2=noS)∧re'= .non)∨((∀f∈fs,f.2.1=true→f.2.2≠noS)∧∃p:Str×Bool×D→Bool,(∀f∈fs,p f=false↔dZ1 m f)∧re'= .tup [.tup ((fs.filter p).map fdD),m]))
theorem eP9{f g:Str×Bool×D}(h:fdD f=fdD g):f=g:=by
 obtain⟨a,b,c⟩:=f
 obtain⟨a',b',c'⟩:=g
 unfold fdD at h
 simp only[D.tup.injEq,List.cons.injEq,D.str.injEq,D.bl.injEq,and_true]at h
 rw[h.1,h.2.1,h.2.2]
theorem cH0{α β:Type}{f:α→β}(hf:∀a b,f a=f b→a=b):∀ {l k:List α},l.map f=k.map f→l=k
 |[], [],_=>rfl
 |[],_::_,h=>by exact cA1 h
 |_::_, [],h=>by exact cJ5 h
 |a::l,b::k,h=>by
   rw[List.map_cons,List.map_cons,List.cons.injEq]at h
   rw[hf a b h.1,cH0 hf h.2]
section
variable{a b c:Option D}{n:Nat}{li re:D}{G:DH}
end
def evS:D:=mkS [(.non,.non)] ("but" :Str) [] [false,true] (.tup [.tup [],.str aB1]) (.tup [.tup [],.str aB1])
theorem dR7{n:Nat}:SB (n+2) evS:=.inr ⟨_,_,_,_,_,_,rfl,(fun p hp=>by rw[List.mem_singleton]at hp;subst hp;exact⟨trivial,trivial,fun a b ea=>by cases ea⟩),by simp,(fun p hp=>by cases hp),by simp,by simp,.inr ⟨[],.str aB1,rfl,by simp,(fun x hx=>by cases hx),.inl rfl⟩,.inr ⟨[],.str aB1,rfl,by simp,List.nodup_nil,(fun x hx=>by cases hx),.inl rfl⟩⟩
section
variable{k:Nat}{G:DH}
theorem dS7:∀ {fs:List D},k≤8→(∀x∈fs,SB k x)→∃b,aS0 G noS fs=some b∧(b=true↔noS∈fs)
 |[],_,_=>⟨false,rfl,by simp⟩
 |f::r,hk,h=>by
   obtain⟨b,e,hb⟩:=SB.eqN (G:=G) (k:=k+1) (by omega) (SB.le (by omega) (h f (by simp))) (aM3 (n:=k))
   obtain⟨c,e',hc⟩:=dS7 (fs:=r) hk fun x hx=>h x (by simp[hx])
   refine⟨b||c,by unfold aS0;rw[e,e'],?_⟩
   rw[Bool.or_eq_true,hb,hc,List.mem_cons]
   exact⟨fun z=>z.imp Eq.symm id,fun z=>z.imp Eq.symm id⟩
theorem fI4{li:D}(hk:k≤8)(hl:LiP (SB k) li):Wp (W7 [li]) G fun x G'=>G'=G∧LiF li x∧LiP (SB k) x:=by
 rcases hl with rfl|⟨fs,m,rfl,h1,h2,h3⟩
 ·exact aF0 (d:=.non) rfl ⟨rfl,.inl ⟨rfl,rfl⟩,.inl rfl⟩
 · obtain⟨b,e,hb⟩:=dS7 (G:=G) hk h2
   have ei:inX noS (.tup fs) G=some (.ok (.bl b),G):=by unfold inX cJ1;simp only[e]
   refine J3 (show Wp (aF9 [some (.tup [.tup fs,m])]) G _ from ?_)
   refine K9<| bH7.mpr<| dV2<| d8 (a:=false) (G':=G) rfl ⟨fun z=>(nomatch z),fun _=>S8<| aD9 (x:=noS) (y:=.tup fs) rfl rfl<| d8 ei ⟨_,rfl,?_⟩⟩
   rcases b with _|_
   ·exact d8 (a:=.tup [.tup fs,m]) rfl (K5 ⟨rfl,.inr ⟨fs,m,rfl,.inr ⟨fun z=>(nomatch hb.mpr z),rfl⟩⟩,.inr ⟨fs,m,rfl,h1,h2,h3⟩⟩)
   ·exact d8 (a:=.non) rfl (K5 ⟨rfl,.inr ⟨fs,m,rfl,.inl ⟨hb.mp rfl,rfl⟩⟩,.inl rfl⟩)
def noB(G:DH):D→Bool
 | .tup [_,.bl t,s]=>t&&(eqN 40 G s noS).getD false
 |_=>false
def stB(G:DH)(m:D)(f:Str×Bool×D):Bool:=f.2.1||!(eqN 40 G f.2.2 m).getD false
theorem fE8{re:D}(hk:k≤8)(hr:ReP (SB k) re):Wp (T9 [re]) G fun x G'=>Ap G G'∧ReF re x∧ReP (SB k) x:=by
 rcases hr with rfl|⟨fs,m,rfl,h1,h2,h3,h4⟩
 ·exact aF0 (d:=.non) rfl ⟨Ap.refl,.inl ⟨rfl,rfl⟩,.inl rfl⟩
 · have hc1:M9 (aG0 3 (J4 (q13 0) (J4 (q13 1) (J4 (q13 2) (aJ8))))) M4 (X5 (c7 1) (d9 eqD (c7 2) (cE (.tup [.tup [],.tup [.str ("of" :Str),.tup []],.tup [],.non,.non])))) (fun _=>true) (fs.map fdD) (aB3 [none,none,none] [some (.tup [.tup (fs.map fdD),m])]) G=some (.ok ((fs.map fdD).map fun d=>.bl (noB G d)),G):=by
    refine aN5 (I:=fun σ=>∃a b c,σ= [a,b,c]) rfl _ _ ⟨_,_,_,rfl⟩ fun d hd σ hσ=>?_
    obtain⟨f,hf,rfl⟩:=List.mem_map.mp hd
    obtain⟨a,b,c,rfl⟩:=hσ
    obtain⟨q,e,_⟩:=SB.eqN (G:=G) (k:=k+1) (by omega) (SB.le (by omega) (h3 f hf).2) (aM3 (n:=k))
    refine⟨[some (.str f.1),some (.bl f.2.1),some f.2.2],rfl,⟨_,_,_,rfl⟩,rfl,aK1 ?_⟩
    have en:noB G (fdD f)= (f.2.1&&(eqN 40 G f.2.2 noS).getD false):=rfl
    rw[en,e]
    refine bC7.mpr<| d8 (a:=.bl f.2.1) (G':=G) rfl<| Z6.mpr ?_
    rcases f.2.1 with _|_
    ·exact⟨rfl,rfl⟩
    ·exact aD9 (x:=f.2.2) (y:=noS) rfl rfl<| bT7.mpr ⟨q,e,rfl,rfl⟩
   have hb:(fs.map fdD).any (noB G)=true↔∃f∈fs,f.2.1=true∧f.2.2=noS:=by
    rw[List.any_map,List.any_eq_true]
    refine exists_congr fun f=>and_congr_right fun hf=>?_
    obtain⟨q,e,hq⟩:=SB.eqN (G:=G) (k:=k+1) (by omega) (SB.le (by omega) (h3 f hf).2) (aM3 (n:=k))
    show (f.2.1&&(eqN 40 G f.2.2 noS).getD false)=true↔_
    rw[e,Bool.and_eq_true]
    exact and_congr_right fun _=>hq
   refine J3 (show Wp (aD6 [some (.tup [.tup (fs.map fdD),m])]) G _ from ?_)
   refine m9.mpr<| aL8<| dV2<| d8 (a:=false) (G':=G) rfl ⟨fun z=>(nomatch z),fun _=>aF3.mpr<| R9<| u0<| X8 (l:=fs.map fdD) rfl (by rw[List.length_map];omega)<| d8 hc1<| G9.mpr<| (dO2 (f:=noB G) j9).mpr<| Z6.mpr ⟨fun g=>?_,fun g=>N5.mpr ?_⟩⟩
   ·exact d8 (a:=.rt .non) rfl (K5 ⟨Ap.one,.inr ⟨fs,m,rfl,.inl ⟨hb.mp g,rfl⟩⟩,.inl rfl⟩)
   · have hn:∀f∈fs,f.2.1=true→f.2.2≠noS:=fun f hf a b=>by
      have:=hb.mpr ⟨f,hf,a,b⟩
      rw[this]at g
      cases g
     have j1:Ap G (G++[.lst ((fs.map fdD).map fun d=>.bl (noB G d))]):=Ap.one
     generalize G++[DO.lst ((fs.map fdD).map fun d=>.bl (noB G d))]=G1 at j1
     have hc:M9 (q13 0) (orT (J5 (d9 ixD (c7 0) (cE (.int 1)))) (J8 (d9 neD (d9 ixD (c7 0) (cE (.int 2))) (d9 ixD (c7 1) (cE (.int 1)))))) (c7 0) (fun _=>true) (fs.map fdD) (aB3 [none,some 0] [some (.tup [.tup (fs.map fdD),m])]) G1=some (.ok ((fs.map fdD).filter fun d=>match d with| .tup [_,.bl t,s]=>t||!(eqN 40 G1 s m).getD false|_=>false),G1):=by
      refine bL2 rfl (fun σ=>∃u,σ= [u,some (.tup [.tup (fs.map fdD),m])]) _ _ ⟨none,rfl⟩ fun d hd σ hσ=>?_
      obtain⟨f,hf,rfl⟩:=List.mem_map.mp hd
      obtain⟨u,rfl⟩:=hσ
      refine⟨[some (fdD f),some (.tup [.tup (fs.map fdD),m])],rfl,⟨_,rfl⟩,aK1 ?_,rfl⟩
      obtain⟨q,e,_⟩:=SB.eqN (G:=G1) (by omega) (h3 f hf).2 h4
      refine dV2<| d8 (a:=f.2.1) (G':=G1) rfl ⟨fun g=>⟨?_,rfl⟩,fun g=>S8<| aD9 (x:=f.2.2) (y:=m) rfl rfl<| bP1.mpr ⟨q,e,_,rfl,?_,rfl⟩⟩
      ·show true= (f.2.1||!(eqN 40 G1 f.2.2 m).getD false);rw[g];rfl
      ·show (!q)= (f.2.1||!(eqN 40 G1 f.2.2 m).getD false);rw[g,e];rfl
     have ef:((fs.map fdD).filter fun d=>match d with| .tup [_,.bl t,s]=>t||!(eqN 40 G1 s m).getD false|_=>false)= (fs.filter (stB G1 m)).map fdD:=by rw[List.filter_map];rfl
     rw[ef]at hc
     have hs:(fs.filter (stB G1 m)).Sublist fs:=List.filter_sublist
     refine K9<| aG4.mpr<| u0<| R9<| u0<| X8 (l:=fs.map fdD) rfl (by rw[List.length_map];omega)<| d8 hc<| G9.mpr<| (aH4 j9).mpr<| d8 (a:= [m]) rfl ⟨sz,K5 ⟨j1.trans Ap.one,.inr ⟨fs,m,rfl,.inr ⟨hn,stB G1 m,fun f hf=>?_,rfl⟩⟩,.inr ⟨_,m,rfl,by have:=hs.length_le;omega,(hs.map _).nodup h2,fun f hf=>h3 f (hs.subset hf),h4⟩⟩⟩
     obtain⟨q,e,hq⟩:=SB.eqN (G:=G1) (by omega) (h3 f hf).2 h4
     unfold stB dZ1
     rw[e,←hq]
     cases f.2.1<;>cases q<;>simp
end
def bJ9(p x:D):Prop:=∃ns w ts tr li re li' re',p=mkS ns w ts tr li re∧LiF li li'∧ReF re re'∧((mkS ns w ts tr li' re'=evS∧x= .str aB1)∨(mkS ns w ts tr li' re'≠evS∧x=mkS ns w ts tr li' re'))
theorem bF2{ns ns':List (D×D)}{w w':Str}{ts ts':List Str}{tr tr':List Bool}{li re li' re':D}(h:mkS ns w ts tr li re=mkS ns' w' ts' tr' li' re'):ns.map stD=ns'.map stD∧w=w'∧ts.map D.str=ts'.map D.str∧tr.map D.bl=tr'.map D.bl∧li=li'∧re=re':=by
 unfold mkS at h
 simp only[D.tup.injEq,List.cons.injEq,D.str.injEq,and_true]at h
 exact⟨h.1,h.2.1.1,h.2.1.2,h.2.2.1,h.2.2.2.1,h.2.2.2.2⟩
theorem cW2{k:Nat}{ns:List (D×D)}{w:Str}{ts:List Str}{tr:List Bool}{li re:D}{G:DH}(hk:k≤7)(h1:∀p∈ns,bA2 p)(h2:ns.length≤100)(h3:∀z∈ts,z.length≤1000)(h4:ts.length≤100)(h5:tr.length≤100)(h6:LiP (SB k) li)(h7:ReP (SB k) re):
 Wp (Z0 [.tup (ns.map stD),.tup [.str w,.tup (ts.map D.str)],.tup (tr.map D.bl),li,re]) G fun x G'=>Ap G G'∧bJ9 (mkS ns w ts tr li re) x∧SB (k+1) x:=by
 refine J3 (show Wp (cU9 [some (.tup (ns.map stD)),some (.tup [.str w,.tup (ts.map D.str)]),some (.tup (tr.map D.bl)),some li,some re,none]) G _ from ?_)
 refine m9.mpr<| Q5<| aG4.mpr<| aD2 (x:=.tup (ns.map stD)) rfl<| aD2 (x:=.tup [.str w,.tup (ts.map D.str)]) rfl<| aD2 (x:=.tup (tr.map D.bl)) rfl<| u0<| m7 (as:= [li]) rfl rfl<| (fI4 (by omega) h6).mono ?_
 rintro li' _ ⟨rfl,f1,f2⟩
 refine u0<| m7 (as:= [re]) rfl rfl<| (fE8 (by omega) h7).mono ?_
 rintro re' G1 ⟨j1,f3,f4⟩
 have hs:SB (k+1) (mkS ns w ts tr li' re'):=.inr ⟨ns,w,ts,tr,li',re',rfl,h1,h2,h3,h4,h5,f2,f4⟩
 obtain⟨b,e,hb⟩:=SB.eqN (G:=G1) (k:=k+2) (by omega) (SB.le (by omega) hs) (dR7 (n:=k))
 refine G9.mpr ⟨sz,K9<| bH7.mpr<| S8<| aD9 (x:=mkS ns w ts tr li' re') (y:=evS) rfl rfl<| bT7.mpr ⟨b,e,_,rfl,?_⟩⟩
 rcases b with _|_
 ·exact d8 (a:=mkS ns w ts tr li' re') rfl (K5 ⟨j1,⟨_,_,_,_,_,_,_,_,rfl,f1,f3,.inr ⟨fun z=>(nomatch hb.mpr z),rfl⟩⟩,hs⟩)
 ·exact d8 (a:=.str aB1) rfl (K5 ⟨j1,⟨_,_,_,_,_,_,_,_,rfl,f1,f3,.inl ⟨hb.mp rfl,rfl⟩⟩,.inl rfl⟩)
def fC3:D→Bool
 | .str s=>eH6 (s.cps.getD 0 0)
 |_=>false
theorem dF4(z:Str):(aI0 z).all fC3=cZ2 z:=by
 unfold aI0 cZ2
 rw[List.all_map]
 rfl
theorem dD4(z:Str):(aI0 z).length=z.length:=by
 unfold aI0
 rw[List.length_map]
 rfl
theorem dC4{z:Str}{d:D}(h:d∈aI0 z):∃c,d= .str ⟨#[c]⟩:=by
 unfold aI0 at h
 obtain⟨c,_,rfl⟩:=List.mem_map.mp h
 exact⟨c,rfl⟩
theorem eC6{c:Nat}{G:DH}{Q:DPP}:Wp (leD (.str ("a" :Str)) (.str ⟨#[c]⟩)) G Q↔Q (.bl (decide (97≤c))) G:=by rw[cY9,fP2]
theorem eH0{c:Nat}{G:DH}{Q:DPP}:Wp (leD (.str ⟨#[c]⟩) (.str ("z" :Str))) G Q↔Q (.bl (decide (c≤122))) G:=by rw[cY9,fL7]
theorem eC4(c:Nat):fC3 (.str ⟨#[c]⟩)=eH6 c:=rfl
theorem dZ0{G:DH}{σ:DSt}{fs:DSt→M (List D)}{R:Src→DH→Prop}:Wp (bU0 fs σ) G R↔Wp (fs σ) G fun xs G1=>Wp (match xs with
 |[a,b]=>do
   let s1 ←aJ9 a
   let s2 ←aJ9 b
   pure ⟨(s1.items.zip s2.items).map fun p=>.tup [p.1,p.2],fun G=>s1.ck G&&s2.ck G⟩
 |_=>M.stuck:M Src) G1 R:=by
 unfold bU0;simp only[j8]<;>rfl
theorem eF8{G:DH}{p q:Nat}{k l:List D}{R:Src→DH→Prop}(ep:G[p]? =some (.lst k))(eq:G[q]? =some (.lst l)):Wp (match [D.ref p,D.ref q] with
 |[a,b]=>do
   let s1 ←aJ9 a
   let s2 ←aJ9 b
   pure ⟨(s1.items.zip s2.items).map fun p=>.tup [p.1,p.2],fun G=>s1.ck G&&s2.ck G⟩
 |_=>M.stuck:M Src) G R↔R ⟨(k.zip l).map fun p=>.tup [p.1,p.2],fun G=>ckO p (.lst k) G&&ckO q (.lst l) G⟩ G:=by
 show Wp (do
  let s1 ←aJ9 (.ref p)
  let s2 ←aJ9 (.ref q)
  pure ⟨(s1.items.zip s2.items).map fun p=>.tup [p.1,p.2],fun G=>s1.ck G&&s2.ck G⟩:M Src) G R↔_
 simp only[j8]
 rw[bN1 (σ:= []) ep,bN1 (σ:= []) eq]
 exact j7
theorem bL6{b a:Fe}{caps:List (Option Nat)}{σ:DSt}{s:Src}{G:DH}{Q:DPP}(S:DSt→Prop)(e:itW b σ G=some (.ok s,G))(hl:s.items.length≤sizeLine)(hck:∀G',Ap G G'→s.ck G'=true)(hS:S (aB3 caps σ))
 (h:∀d∈s.items,∀ σ1 G1,S σ1→Ap G G1→S (σ1.set 0 (some d))∧Wp (a (σ1.set 0 (some d))) G1 fun y G2=>y= .bl true∧Ap G1 G2) (q:∀G',Ap G G'→Q (.bl true) G'):
 Wp (q12 aI2 (q10 (K8 (itW b) caps (q13 0) M4 a) q11) σ) G Q:=by
 refine R9<| u0<| wp_comp.mpr<| d8 e ⟨hl,(aA0 (Ap G) S (fun _=>.bl true) hck s.items _ G hS Ap.refl fun d hd σ1 G1 s1 j=>?_).mono ?_⟩
 · have:=h d hd σ1 G1 s1 j
   exact bF0 this.1 (this.2.mono fun y G2 q=>⟨j.trans q.2,q.1⟩)
 · rintro _ G2 ⟨j,rfl⟩
   refine G9.mpr ((bT5 (l:=s.items) (f:=fun _=>true) j9).mpr ?_)
   rw[List.all_eq_true.mpr fun _ _=>rfl]
   exact q _ (j.trans Ap.one)
noncomputable def One(σ:DSt):Prop:=∃u,σ= [u]
theorem bX2{z:Str}{G:DH}{Q:DPP}(h:TX z)(q:∀G',Ap G G'→Q (.bl true) G'):Wp (aE4 [.str z]) G Q:=by
 have bg:=big
 refine J3<| K9<| bC7.mpr<| d8 (a:=.bl true) rfl<| Z6.mpr ?_
 rw[if_pos rfl]
 refine bL6 One (s:=⟨aI0 z,fun _=>true⟩) rfl (by show (aI0 z).length≤_;rw[dD4];have:=h.2;lia) (fun _ _=>rfl) ⟨_,rfl⟩ ?_ fun G' a=>K5 (q G' a)
 rintro d hd _ G1 ⟨u,rfl⟩ j
 refine⟨⟨_,rfl⟩,?_⟩
 have hl:=List.all_eq_true.mp ((dF4 z).trans h.1) d hd
 obtain⟨c,rfl⟩:=dC4 hd
 rw[eC4]at hl
 have hl2:decide (97≤c)=true∧decide (c≤122)=true:=by
  unfold eH6 at hl
  exact Bool.and_eq_true _ _▸hl
 refine dK4.mpr<| d8 (a:=.str ("a" :Str)) rfl<| d8 (a:=.str ⟨#[c]⟩) rfl<| eC6.mpr ⟨_,rfl,?_⟩
 rw[if_pos hl2.1]
 refine d8 (a:=.str ("z" :Str)) rfl<| eH0.mpr ⟨?_,Ap.refl⟩
 rw[hl2.2]
section
variable{a b:Fe}{t:DSt→M Bool}{f g:Fs}{σ:DSt}{G G1:DH}{Q:DPP}{P:Fl→DH→Prop}{B:Bool→DH→Prop}
theorem cE5(e:a σ G=some (.ok (.bl true),G1))(w:Wp (b σ) G1 Q):Wp (X5 a b σ) G Q:=bC7.mpr (d8 e (Z6.mpr (by rw[if_pos rfl];exact w)))
theorem cC5(w:Wp (a σ) G fun x G1=>x= .bl true∧Wp (b σ) G1 Q):Wp (X5 a b σ) G Q:=bC7.mpr (w.mono fun x G1 q=>by
 obtain⟨rfl,q⟩:=q
 exact Z6.mpr (by rw[if_pos rfl];exact q))
theorem cQ1(w:Wp (t σ) G fun k G1=>k=true∧Wp (g σ) G1 P):Wp (ifS (aN7 t) f g σ) G P:=aL8 (cF2.mpr (w.mono fun k G1 q=>by
 obtain⟨rfl,q⟩:=q
 exact⟨fun z=>(by exact aB4 z),fun _=>q⟩))
theorem X6(w:Wp (a σ) G fun x G1=>x= .bl true∧B true G1):Wp (J5 a σ) G B:=aF3.mpr (w.mono fun x G1 q=>by
 obtain⟨rfl,q⟩:=q
 exact Z6.mpr q)
theorem dB6{u:DSt→M Bool}(w:Wp (t σ) G fun k G1=>k=true∧Wp (u σ) G1 B):Wp (aN6 t u σ) G B:=cA3 (w.mono fun k G1 q=>⟨fun _=>q.2,fun z=>by rw[q.1]at z;cases z⟩)
end
theorem dD2{z:Str}{G:DH}{Q:DPP}(h:NM z)(q:∀G',Ap G G'→Q (.bl true) G'):Wp (aO4 [.str z]) G Q:=by
 have bg:=big
 have h2:=h.1.2
 refine J3<| K9<| cC5<| m7 (as:= [.str z]) rfl rfl<| bX2 h.1 fun G' a=>⟨rfl,?_⟩
 refine K6<| bL1 (as:= [.str z]) rfl<| (cL5 (show z.length≤sizeLine by lia)).mpr<| d8 (a:=.int 0) rfl<| cB7.mpr<| K5 ?_
 rw[decide_eq_true (show (z.length:Int)>0 by have:=h.2;lia)]
 exact q G' a
theorem cT2{f:Str×Bool×D}{G:DH}{Q:DPP}(h:NM f.1)(q:∀G',Ap G G'→Q (.bl true) G'):Wp (aI5 [fdD f]) G Q:=
 J3<| K9<| cE5 rfl<| cE5 rfl<| cC5<| m7 (as:= [.str f.1]) rfl rfl<| dD2 h fun G' a=>⟨rfl,d8 (a:=.bl true) rfl (K5 (q G' a))⟩
theorem cU8{α:Type}{R:α→α→Prop}:∀ {l:List α},l.Pairwise R→∀p∈l.zip (l.drop 1),R p.1 p.2
 |[],_,p,hp=>by cases hp
 |[x],_,p,hp=>by cases hp
 |x::y::r,h,p,hp=>by
   have h':=List.pairwise_cons.mp h
   rcases List.mem_cons.mp (show p∈(x,y)::(y::r).zip r from hp)with rfl|hp
   ·exact h'.1 _ (by simp)
   ·exact cU8 (l:=y::r) h'.2 p hp
theorem eG5{G:DH}{p:Nat}{l:List D}{lo hi:Option Int}{Q:DPP}(e:G[p]? =some (.lst l)):Wp (slT (.ref p) lo hi) G Q↔Q (.ref G.length) (G++[.lst (DL.cutD l lo hi)]):=eQ1 e
noncomputable def SqD(G:DH)(d:D)(l:List D):Prop:=d= .tup l∨∃p,d= .ref p∧G[p]? =some (.lst l)
theorem dP3{d:D}{l:List D}{e:Fe}{G:DH}{Q:DPP}(hd:SqD G d l)(hl:l.length≤10000)
 (h:∀p∈l.zip (l.drop 1),∀G1,Ap G G1→Wp (e [some p.1,some p.2]) G1 fun y G2=>y= .bl true∧Ap G1 G2) (q:∀G',Ap G G'→Q (.bl true) G'):
 Wp (q12 aI2 (q10 (K8 (bU0 (q10 (c7 0) (q10 (aJ7 (c7 0) (aR6 (cE (.int 1))) (aQ3)) (q11)))) [none,none] (aG0 2 (J4 (q13 0) (J4 (q13 1) (aJ8)))) (M4) e) (q11)) [some d]) G Q:=by
 have bg:=big
 have hz:(l.zip (l.drop 1)).length≤sizeLine:=by rw[List.length_zip];lia
 have main:∀(ck:DH→Bool) (G0:DH),Ap G G0→(∀G',Ap G0 G'→ck G'=true)→Wp (M9 (aG0 2 (J4 (q13 0) (J4 (q13 1) (aJ8)))) M4 e ck ((l.zip (l.drop 1)).map fun p=>.tup [p.1,p.2]) [none,none]) G0 fun ys G2=>Wp (q11 [some d]) (G2++[.lst ys]) fun xs G3=>Wp (aI2 (.ref G2.length::xs)) G3 Q:=by
  intro ck G0 j0 hck
  refine(aA0 (Ap G0) (fun σ=>∃u v,σ= [u,v]) (fun _=>.bl true) hck _ _ G0 ⟨_,_,rfl⟩ Ap.refl ?_).mono ?_
  · rintro d hd _ G1 ⟨u,v,rfl⟩ j
    obtain⟨p,hp,rfl⟩:=List.mem_map.mp hd
    exact d8 (a:= [some p.1,some p.2]) rfl ⟨rfl,⟨_,_,rfl⟩,d8 (a:=true) rfl ⟨rfl,rfl,(h p hp G1 (j0.trans j)).mono fun y G2 q=>⟨j.trans q.2,q.1⟩⟩⟩
  · rintro _ G2 ⟨j,rfl⟩
    refine G9.mpr ((bT5 (l:=(l.zip (l.drop 1)).map fun p=>.tup [p.1,p.2]) (f:=fun _=>true) j9).mpr ?_)
    rw[List.all_eq_true.mpr fun _ _=>rfl]
    exact q _ ((j0.trans j).trans Ap.one)
 refine R9<| u0<| wp_comp.mpr ?_
 rcases hd with rfl|⟨p,rfl,ep⟩
 · refine d8 (a:=⟨(l.zip (DL.cutD l (some 1) none)).map fun p=>.tup [p.1,p.2],fun _=>true&&true⟩) (G':=G) rfl ?_
   rw[eL7]
   exact⟨by rw[List.length_map];exact hz,main _ G Ap.refl fun _ _=>rfl⟩
 · refine dZ0.mpr<| aD2 (x:=.ref p) rfl<| u0<| aN2.mpr<| d8 (a:=.ref p) rfl<| dY7.mpr<| d8 (a:=.int 1) rfl ⟨1,rfl,dC9.mpr<| (eG5 ep).mpr<| G9.mpr<| (eF8 (Q3 ep) j9).mpr ?_⟩
   rw[eL7]
   refine⟨by rw[List.length_map];exact hz,main _ _ Ap.one fun G' j=>?_⟩
   have h1:=j.at (Q3 ep)
   have h2:=j.at (j9 (G:=G) (o:=DO.lst (l.drop 1)))
   simp only[ckO,h1,h2]
   simp
noncomputable def dW7:D→D
 | .str z=>.tup [.int z.length,.str z]
 |_=>.non
noncomputable def txB(a b:Str):Bool:=if a.length=b.length then decide (a.cps.toList<b.cps.toList)else decide (a.length<b.length)
theorem fA4{G:DH}{a b:Str}:ltN 40 G (dW7 (.str a)) (dW7 (.str b))=some (txB a b):=by
 show ltL (eqN 39 G) (ltN 39 G) [.int a.length,.str a] [.int b.length,.str b]=_
 have e1:eqN 39 G (.int a.length) (.int b.length)=some (decide ((a.length:Int)=b.length)):=rfl
 have e2:eqN 39 G (.str a) (.str b)=some (a==b):=rfl
 unfold txB
 unfold ltL
 rw[e1]
 by_cases h:a.length=b.length
 · have h':((a.length:Int)=b.length):=by lia
   rw[if_pos h]
   simp only[h',decide_true]
   unfold ltL
   rw[e2]
   by_cases k:a=b
   · subst k
     simp[ltL,List.lt_irrefl]
   · have k':(a==b)=false:=by simpa using k
     rw[k']
     rfl
 · have h':¬((a.length:Int)=b.length):=by lia
   rw[if_neg h]
   simp only[h',decide_false]
   show some (decide ((a.length:Int)<b.length))=_
   congr 1
   by_cases k:a.length<b.length
   ·rw[decide_eq_true k,decide_eq_true (by lia)]
   ·rw[decide_eq_false k,decide_eq_false (by lia)]
theorem bQ9{d:D}{l:List D}{G:DH}{Q:DPP}(hd:SqD G d l)(hl:l.length≤10000)(h:l.Pairwise fun a b=>∀G,ltN 40 G a b=some true)(q:∀G',Ap G G'→Q (.bl true) G'):Wp (aD8 [d]) G Q:=
 J3<| K9<| dP3 hd hl (fun p hp G1 j=>K6<| d8 rfl<| d8 rfl<| dU9.mpr ⟨true,cU8 h p hp G1,rfl,Ap.refl⟩) fun G' a=>K5 (q G' a)
theorem eA1{ss:List Str}(h:ss.Pairwise LtS):(ss.map D.str).Pairwise fun a b=>∀G,ltN 40 G a b=some true:=
 List.pairwise_map.mpr (h.imp fun {a b} q G=>(show ltN 40 G (.str a) (.str b)=some (decide (a.cps.toList<b.cps.toList))from rfl).trans (by rw[decide_eq_true (show a.cps.toList<b.cps.toList from q)]))
theorem eI7{ts:List Str}(h:ts.Pairwise fD0):((ts.map D.str).map dW7).Pairwise fun a b=>∀G,ltN 40 G a b=some true:=by
 rw[List.map_map]
 refine List.pairwise_map.mpr (h.imp fun {a b} q G=>fA4.trans ?_)
 unfold txB
 rcases q with q|⟨q,q'⟩
 ·rw[if_neg (by lia),decide_eq_true q]
 ·rw[if_pos q,decide_eq_true (show a.cps.toList<b.cps.toList from q')]
noncomputable def TrP(tr:List Bool):Prop:=tr= []∨tr= [false]∨tr= [true]∨tr= [false,true]
theorem eW6{tr:List Bool}(h:TrP tr):(tr.map D.bl).Pairwise fun a b=>∀G,ltN 40 G a b=some true:=by
 rcases h with rfl|rfl|rfl|rfl
 ·exact .nil
 ·exact List.pairwise_singleton _ _
 ·exact List.pairwise_singleton _ _
 ·exact List.pairwise_cons.mpr ⟨fun y hy G=>(by rw[List.mem_singleton.mp hy];rfl),List.pairwise_singleton _ _⟩
theorem cN9{tr:List Bool}{G:DH}{Q:DPP}(h:TrP tr)(q:∀G',Ap G G'→Q (.bl true) G'):Wp (aF6 [.tup (tr.map D.bl)]) G Q:=by
 have hl:tr.length≤2:=by rcases h with rfl|rfl|rfl|rfl<;>decide
 have bg:=big
 refine J3<| o7 (σ':= [some (.tup (tr.map D.bl))]) rfl<| K9<| cC5<| bL6 One (s:=⟨tr.map D.bl,fun _=>true⟩) rfl (by show (tr.map D.bl).length≤_;rw[List.length_map];lia) (fun _ _=>rfl) ⟨_,rfl⟩ ?_ fun G' a=>⟨rfl,m7 (as:= [.tup (tr.map D.bl)]) rfl rfl<| bQ9 (.inl rfl) (by rw[List.length_map];lia) (eW6 h) fun G2 a2=>K5 (q G2 (a.trans a2))⟩
 rintro d hd _ G1 ⟨u,rfl⟩ j
 obtain⟨b,_,rfl⟩:=List.mem_map.mp hd
 exact⟨⟨_,rfl⟩,d8 (a:=.bl true) rfl ⟨rfl,Ap.refl⟩⟩
theorem cH7{z:Str}{G:DH}{Q:DPP}(h:TX z)(q:Q (dW7 (.str z)) G):Wp (aC7 [.str z]) G Q:=by
 have bg:=big
 have h2:=h.2
 exact J3<| K9<| aG4.mpr<| u0<| bL1 (as:= [.str z]) rfl<| (cL5 (show z.length≤sizeLine by lia)).mpr<| d8 (a:= [.str z]) (G':=G) rfl ⟨sz,K5 (show Q (.tup [.int z.length,.str z]) G from q)⟩
theorem cT9{w:Str}{ts:List Str}{G:DH}{Q:DPP}(hw:w=wOf∨w=cI9)(h:dD8 ts)(hl:ts.length≤100)(q:∀G',Ap G G'→Q (.bl true) G'):Wp (aI6 [.tup [.str w,.tup (ts.map D.str)]]) G Q:=by
 have bg:=big
 refine J3<| o7 (σ':= [some (.tup [.str w,.tup (ts.map D.str)])]) (G':=G) (by rcases hw with rfl|rfl<;>rfl)<| m9.mpr<| cQ1<| X6<| bL6 One (s:=⟨ts.map D.str,fun _=>true⟩) rfl (by show (ts.map D.str).length≤_;rw[List.length_map];lia) (fun _ _=>rfl) ⟨_,rfl⟩ ?_ fun G' a=>⟨rfl,rfl,N5.mpr ?_⟩
 · rintro d hd _ G1 ⟨u,rfl⟩ j
   obtain⟨z,hz,rfl⟩:=List.mem_map.mp hd
   exact⟨⟨_,rfl⟩,m7 (as:= [.str z]) rfl rfl<| bX2 (h.1 z hz) fun G2 a2=>⟨rfl,a2⟩⟩
 · refine K9<| R9<| u0<| X8 (l:=ts.map D.str) (G1:=G') rfl (by rw[List.length_map];lia)<| (aA0 (fun G2=>G2=G') One dW7 (fun _ _=>rfl) _ _ G' ⟨_,rfl⟩ rfl ?_).mono ?_
   · rintro d hd _ _ ⟨u,rfl⟩ rfl
     obtain⟨z,hz,rfl⟩:=List.mem_map.mp hd
     exact bF0 ⟨_,rfl⟩ (m7 (as:= [.str z]) rfl rfl<| cH7 (h.1 z hz) ⟨rfl,rfl⟩)
   · rintro _ _ ⟨rfl,rfl⟩
     exact G9.mpr<| aF8.mpr ⟨rfl,bQ9 (.inr ⟨_,rfl,j9⟩) (by rw[List.length_map,List.length_map];lia) (eI7 h.2) fun G2 a2=>K5 (q G2 ((a.trans Ap.one).trans a2))⟩
theorem cC9{p:D×D}{G:DH}(h:bA2 p):Wp (aD1 [stD p]) G fun y G2=>y= .bl true∧Ap G G2:=by
 obtain⟨a,b⟩:=p
 obtain⟨h1,h2,h3⟩:=h
 replace h1:aZ6 a:=h1
 replace h2:aZ6 b:=h2
 have he:cE6 a b=false:=by
  rcases aW7 h1 with rfl|⟨i,rfl⟩<;>rcases aW7 h2 with rfl|⟨j,rfl⟩<;>first
   |rfl
   |(exact decide_eq_false (Int.not_lt.mpr (h3 _ _ rfl rfl).1))
 refine J3<| o7 (σ':= [some (stD (a,b))]) rfl<| o7 (σ':= [some (stD (a,b))]) (G':=G) ?_<| K9<| cH2.mpr<| m7 (as:= [a,b]) rfl rfl<| (aL0 h1 h2).mpr ?_
 ·rcases aW7 h1 with rfl|⟨i,rfl⟩<;>rcases aW7 h2 with rfl|⟨j,rfl⟩<;>rfl
 · rw[he]
   exact⟨_,rfl,K5 ⟨rfl,Ap.refl⟩⟩
theorem cD9{p r:D×D}{G:DH}(h:Clr p r):Wp (aD4 [stD p,stD r]) G fun y G2=>y= .bl true∧Ap G G2:=by
 obtain⟨p1,p2⟩:=p
 obtain⟨r1,r2⟩:=r
 obtain⟨a,b,rfl,rfl,hab⟩:=h
 refine J3<| K9<| cE5 rfl<| cE5 rfl<| K6<| d8 (a:=.int (a+1)) rfl<| d8 (a:=.int b) rfl<| dU9.mpr ⟨decide (a+1<b),rfl,K5 ⟨?_,Ap.refl⟩⟩
 rw[decide_eq_true hab]
theorem cH8{ns:List (D×D)}{G:DH}{Q:DPP}(h:StP ns)(hl:ns.length≤100)(q:∀G',Ap G G'→Q (.bl true) G'):Wp (aC9 [.tup (ns.map stD)]) G Q:=by
 have bg:=big
 refine J3<| m9.mpr<| cQ1<| dB6<| X6<| d8 (a:=.bl true) rfl ⟨rfl,rfl,X6<| bL6 One (s:=⟨ns.map stD,fun _=>true⟩) rfl (by show (ns.map stD).length≤_;rw[List.length_map];lia) (fun _ _=>rfl) ⟨_,rfl⟩ ?_ fun G' a=>⟨rfl,rfl,N5.mpr ?_⟩⟩
 · rintro d hd _ G1 ⟨u,rfl⟩ j
   obtain⟨p,hp,rfl⟩:=List.mem_map.mp hd
   exact⟨⟨_,rfl⟩,m7 (as:= [stD p]) rfl rfl<| cC9 (h.1 p hp)⟩
 · refine K9<| dP3 (l:=ns.map stD) (.inl rfl) (by rw[List.length_map];lia) (fun p hp G1 j=>?_) fun G2 a2=>K5 (q G2 (a.trans a2))
   rw[←List.map_drop,List.zip_map,List.mem_map]at hp
   obtain⟨⟨x,y⟩,hxy,rfl⟩:=hp
   exact m7 (as:= [stD x,stD y]) rfl rfl<| cD9 (cU8 h.2 (x,y) hxy)
noncomputable def LiG(S:D→Prop)(li:D):Prop:=li= .non∨∃fs m,li= .tup [.tup fs,m]∧fs.length≤3∧(∀x∈fs,S x)∧S m
def ReG(S:D→Prop)(re:D):Prop:=re= .non∨∃(fs:List (Str×Bool×D)) (m:D),re= .tup [.tup (fs.map fdD),m]∧fs.length≤4∧(fs.map (·.1)).Pairwise LtS∧(∀f∈fs,NM f.1∧S f.2.2)∧S m
structure PtP(S:D→Prop)(ns:List (D×D))(w:Str)(ts:List Str)(tr:List Bool)(li re:D):Prop where
 st:StP ns
 nl:ns.length≤10
 wd:w=wOf∨w=cI9
 tx:dD8 ts
 tl:ts.length≤100
 tr:TrP tr
 li:LiG S li
 re:ReG S re
def NoN(li:D):Prop:=∀fs m,li= .tup [.tup fs,m]→noS∉fs
def Due(re:D):Prop:=∀(fs:List (Str×Bool×D)) (m:D),re= .tup [.tup (fs.map fdD),m]→∀f∈fs,(f.2.1=true→f.2.2≠noS)∧(f.2.1=false→f.2.2≠m)
def GS:Nat→D→Prop
 |0,_=>False
 |n+1,d=>d= .str aB1∨∃ns w ts tr li re,d=mkS ns w ts tr li re∧PtP (GS n) ns w ts tr li re∧NoN li∧Due re∧d≠evS
noncomputable def hd0:D→D
 | .tup (x::_)=>x
 |_=>.non
noncomputable def trd:D→D
 | .tup [_,_,x]=>x
 |_=>.non
section
variable{S:D→Prop}{G:DH}{Q:DPP}
theorem cS6{fs:List (Str×Bool×D)}(hl:fs.length≤100)(q:Q (.ref G.length) (G++[.lst ((fs.map (·.1)).map D.str)])):Wp (aJ5 [.tup (fs.map fdD)]) G Q:=by
 refine J3<| K9<| X8 (l:=fs.map fdD) (G1:=G) rfl (by rw[List.length_map];lia)<| (aA0 (fun G2=>G2=G) One hd0 (fun _ _=>rfl) _ _ G ⟨_,rfl⟩ rfl ?_).mono ?_
 · rintro d hd _ _ ⟨u,rfl⟩ rfl
   obtain⟨f,hf,rfl⟩:=List.mem_map.mp hd
   exact bF0 ⟨_,rfl⟩ (d8 (a:=.str f.1) rfl ⟨rfl,rfl⟩)
 · rintro _ _ ⟨rfl,rfl⟩
   rw[List.map_map]at q ⊢
   exact K5 q
theorem cD7{li:D}(h:LiG S li)(q:Q (.bl true) G):Wp (U7 [li]) G Q:=by
 rcases h with rfl|⟨fs,m,rfl,_⟩
 ·exact aF0 (d:=.bl true) rfl q
 ·exact aF0 (d:=.bl true) rfl q
theorem bQ7{re:D}(h:ReG S re)(q:∀G',Ap G G'→Q (.bl true) G'):Wp (R8 [re]) G Q:=by
 have bg:=big
 rcases h with rfl|⟨fs,m,rfl,hl,hn,hf,_⟩
 ·exact aF0 (d:=.bl true) rfl (q G Ap.refl)
 · refine J3<| o7 (σ':= [some (.tup [.tup (fs.map fdD),m])]) rfl<| m9.mpr<| cQ1<| dB6<| X6<| d8 (a:=.bl true) rfl ⟨rfl,rfl,X6<| bL6 One (s:=⟨fs.map fdD,fun _=>true⟩) rfl (by show (fs.map fdD).length≤_;rw[List.length_map];lia) (fun _ _=>rfl) ⟨_,rfl⟩ ?_ fun G' a=>⟨rfl,rfl,N5.mpr ?_⟩⟩
   · rintro d hd _ G1 ⟨u,rfl⟩ j
     obtain⟨f,hf',rfl⟩:=List.mem_map.mp hd
     exact⟨⟨_,rfl⟩,m7 (as:= [fdD f]) rfl rfl<| cT2 (hf f hf').1 fun G2 a2=>⟨rfl,a2⟩⟩
   ·exact K9<| R9<| u0<| m7 (as:= [.tup (fs.map fdD)]) rfl rfl<| cS6 (by lia)<| G9.mpr<| aF8.mpr ⟨rfl,bQ9 (.inr ⟨_,rfl,j9⟩) (by rw[List.length_map,List.length_map];lia) (eA1 hn) fun G2 a2=>K5 (q G2 ((a.trans Ap.one).trans a2))⟩
theorem cV8{ns:List (D×D)}{w:Str}{ts:List Str}{tr:List Bool}{li re:D}(h:PtP S ns w ts tr li re)(q:∀G',Ap G G'→Q (.bl true) G'):Wp (R5 [mkS ns w ts tr li re]) G Q:=by
 refine J3<| o7 (σ':= [some (mkS ns w ts tr li re)]) rfl<| o7 (σ':= [some (mkS ns w ts tr li re)]) rfl<| m9.mpr<| cQ1<| dB6<| X6<| m7 (as:= [.tup (ns.map stD)]) rfl rfl<| cH8 h.st (by have:=h.nl;lia) fun G1 a1=>⟨rfl,rfl,?_⟩
 refine dB6<| X6<| m7 (as:= [.tup [.str w,.tup (ts.map D.str)]]) rfl rfl<| cT9 h.wd h.tx h.tl fun G2 a2=>⟨rfl,rfl,?_⟩
 refine X6<| m7 (as:= [.tup (tr.map D.bl)]) rfl rfl<| cN9 h.tr fun G3 a3=>⟨rfl,rfl,N5.mpr ?_⟩
 exact K9<| cC5<| m7 (as:= [li]) rfl rfl<| cD7 h.li ⟨rfl,m7 (as:= [re]) rfl rfl<| bQ7 h.re fun G4 a4=>K5 (q G4 (((a1.trans a2).trans a3).trans a4))⟩
theorem cU4(q:Q (.bl true) G):Wp (R5 [.str aB1]) G Q:=aF0 (d:=.bl true) rfl q
theorem GS.form{n:Nat}{d:D}(h:GS n d)(q:∀G',Ap G G'→Q (.bl true) G'):Wp (R5 [d]) G Q:=by
 cases n with
 |zero=>exact h.elim
 |succ n=>
   rcases h with rfl|⟨ns,w,ts,tr,li,re,rfl,h,_⟩
   ·exact cU4 (q G Ap.refl)
   ·exact cV8 h q
end
noncomputable def liK:D→List D
 | .tup [.tup fs,m]=>fs++[m]
 |_=> []
def reK:D→List D
 | .tup [.tup fs,m]=>fs.map trd++[m]
 |_=> []
def aB2:D→List D
 | .tup [_,_,_,li,re]=>liK li++reK re
 |_=> []
theorem fG9:aD7=m8 (K3 (Z7 (q11)) (q13 1)) (m8 (ifS (J8 (d9 eqD (c7 0) (cE (.str ("any" :Str))))) (o6 (c7 1)) (J9)) (m8 IL (m8 IR (o6 (c7 1))))):=rfl
theorem Ap.set{G0 G:DH}{p:Nat}{o:DO}(h:Ap G0 G)(hp:G0.length≤p):Ap G0 (G.set p o):=by
 obtain⟨t,rfl⟩:=h
 exact⟨t.set (p-G0.length) o,List.set_append_right _ _ hp⟩
section
variable{S:D→Prop}{G G0:DH}{Q:DPP}{p:Nat}{ns:List (D×D)}{w:Str}{ts:List Str}{tr:List Bool}{li re:D}{l0:List D}
theorem eK6{d:D}{a b:Fe}{fs:List D}{m:D}{G1:DH}{P:Fl→DH→Prop}(hA:Ap G0 G)(hp:G0.length≤p)(e:G[p]? =some (.lst l0))(hl:l0.length≤10)(hf:fs.length≤10)(ha:Wp (a [some d,some (.ref p)]) G fun x G1=>x= .ref G.length∧G1=G++[.lst fs])(hb:∀G,b [some d,some (.ref p)] G=some (.ok m,G))(q:∀G',Ap G0 G'→G'[p]? =some (.lst (l0++(fs++[m])))→P (.nx [some d,some (.ref p)]) G'):
 Wp (aU9 (mtE X7 aL5 (c7 1) (q10 (d9 aG2 a (Z7 (q10 b (q11)))) (q11))) [some d,some (.ref p)]) G P:=by
 have bg:=big
 refine aW3.mpr<| bD9.mpr<| d8 (a:=.ref p) rfl<| (Z9 e).mpr<| u0<| K6<| ha.mono ?_
 rintro _ _ ⟨rfl,rfl⟩
 refine aJ4.mpr<| aD2 (hb _)<| G9.mpr ⟨sz,?_⟩
 refine(bN2 (Q3 j9) j9 (by show fs.length+1≤_;lia)).mpr<| G9.mpr ?_
 have e3:(G++[DO.lst fs]++[DO.lst [m]]++[DO.lst (fs++[m])])[p]? =some (.lst l0):=Q3 (Q3 (Q3 e))
 refine(bB1 e3 j9 (by rw[List.length_append];show l0.length+(fs.length+1)≤_;lia)).mpr ?_
 exact q _ (Ap.set (((hA.trans Ap.one).trans Ap.one).trans Ap.one) hp) (List.getElem?_set_self (lt_of_get e3))
theorem fM5{P:Fl→DH→Prop}(hA:Ap G0 G)(hp:G0.length≤p)(e:G[p]? =some (.lst l0))(hl:l0.length≤10)(h:LiG S li)(q:∀G',Ap G0 G'→G'[p]? =some (.lst (l0++liK li))→P (.nx [some (mkS ns w ts tr li re),some (.ref p)]) G'):
 Wp (IL [some (mkS ns w ts tr li re),some (.ref p)]) G P:=by
 rcases h with rfl|⟨fs,m,rfl,hf,_⟩
 · refine eS9 (G1:=G) rfl<| N5.mpr (q G hA ?_)
   rw[show liK .non= []from rfl,List.append_nil];exact e
 · refine cS8 (G1:=G) rfl ?_
   exact eK6 (G1:=G) hA hp e hl (by lia) (d8 (a:=.ref G.length) (G':=G++[.lst fs]) rfl ⟨rfl,rfl⟩) (fun _=>rfl) q
theorem fO8{P:Fl→DH→Prop}(hA:Ap G0 G)(hp:G0.length≤p)(e:G[p]? =some (.lst l0))(hl:l0.length≤10)(h:ReG S re)(q:∀G',Ap G0 G'→G'[p]? =some (.lst (l0++reK re))→P (.nx [some (mkS ns w ts tr li re),some (.ref p)]) G'):
 Wp (IR [some (mkS ns w ts tr li re),some (.ref p)]) G P:=by
 rcases h with rfl|⟨fs,m,rfl,hf,_⟩
 · refine eS9 (G1:=G) rfl<| N5.mpr (q G hA ?_)
   rw[show reK .non= []from rfl,List.append_nil];exact e
 · refine cS8 (G1:=G) rfl ?_
   refine eK6 (G1:=G) (fs:=(fs.map fdD).map trd) hA hp e hl (by rw[List.length_map,List.length_map];lia) ?_ (fun _=>rfl) q
   refine X8 (l:=fs.map fdD) (G1:=G) rfl (by rw[List.length_map];lia)<| (aA0 (fun G2=>G2=G) One trd (fun _ _=>rfl) _ _ G ⟨_,rfl⟩ rfl ?_).mono ?_
   · rintro d hd _ _ ⟨u,rfl⟩ rfl
     obtain⟨f,hf,rfl⟩:=List.mem_map.mp hd
     exact bF0 ⟨_,rfl⟩ (d8 (a:=f.2.2) rfl ⟨rfl,rfl⟩)
   · rintro _ _ ⟨rfl,rfl⟩
     exact⟨rfl,rfl⟩
theorem eI5(h:LiG S li):(liK li).length≤4:=by
 rcases h with rfl|⟨fs,m,rfl,hf,_⟩
 ·exact Nat.zero_le _
 · show (fs++[m]).length≤4
   rw[List.length_append];show fs.length+1≤4;lia
theorem cF6{n:Nat}{d:D}(h:GS n d)(q:∀p G',Ap G G'→G.length≤p→G'[p]? =some (.lst (aB2 d))→Q (.ref p) G'):Wp (T5 [d]) G Q:=by
 cases n with
 |zero=>exact h.elim
 |succ n=>
   rcases h with rfl|⟨ns,w,ts,tr,li,re,rfl,h,_⟩
   · refine J3 (show Wp (aD7 [some (.str aB1),none]) G _ from ?_)
     rw[fG9]
     exact o7 (σ':= [some (.str aB1),some (.ref G.length)]) (G':=G++[.lst []]) rfl<| dU0 (d:=.ref G.length) (G':=G++[.lst []]) rfl (K5 (q _ _ Ap.one (Nat.le_refl _) j9))
   · refine J3 (show Wp (aD7 [some (mkS ns w ts tr li re),none]) G _ from ?_)
     rw[fG9]
     refine o7 (σ':= [some (mkS ns w ts tr li re),some (.ref G.length)]) (G':=G++[.lst []]) rfl<| o7 (σ':= [some (mkS ns w ts tr li re),some (.ref G.length)]) (G':=G++[.lst []]) rfl ?_
     refine m9.mpr<| fM5 (Ap.one (G:=G)) (Nat.le_refl _) j9 (Nat.zero_le _) h.li fun G1 a1 e1=>m9.mpr<| fO8 a1 (Nat.le_refl _) e1 (by have:=eI5 h.li;simpa using Nat.le_trans this (by decide)) h.re fun G2 a2 e2=>?_
     exact d8 rfl (K5 (q _ _ a2 (Nat.le_refl _) e2))
end
noncomputable def frD:D→D
 | .tup [.tup fs,_]=>.int fs.length
 |_=>.non
noncomputable def nmO:D→D
 | .tup [a,b,_]=>.tup [a,b]
 |_=>.non
noncomputable def nmB(f:Str×Bool×D):D:=.tup [.str f.1,.bl f.2.1]
def RfP(G:DH)(re r:D):Prop:=(re= .non∧r= .non)∨∃(fs:List (Str×Bool×D)) (m:D) (p:Nat),re= .tup [.tup (fs.map fdD),m]∧r= .ref p∧G[p]? =some (.lst (fs.map nmB))
def dF9(S:D→Prop)(G:DH)(d o:D):Prop:=(d= .str aB1∧o= .tup [.str aB1])∨∃ns w ts tr li re r,d=mkS ns w ts tr li re∧o= .tup [.tup (ns.map stD),.tup [.str w,.tup (ts.map D.str)],.tup (tr.map D.bl),frD li,r]∧RfP G re r∧PtP S ns w ts tr li re
theorem dF9.up{S:D→Prop}{G G':DH}{d o:D}(h:dF9 S G d o)(a:Ap G G'):dF9 S G' d o:=by
 rcases h with h|⟨ns,w,ts,tr,li,re,r,e1,e2,h,p⟩
 ·exact .inl h
 · refine .inr ⟨ns,w,ts,tr,li,re,r,e1,e2,?_,p⟩
   rcases h with h|⟨fs,m,p,a1,a2,a3⟩
   ·exact .inl h
   ·exact .inr ⟨fs,m,p,a1,a2,a.at a3⟩
theorem cY5{G:DH}{Q:DPP}{n:Nat}{d:D}(h:GS (n+1) d)(q:∀o G',Ap G G'→dF9 (GS n) G' d o→Q o G'):Wp (aA2 [d]) G Q:=by
 rcases h with rfl|⟨ns,w,ts,tr,li,re,rfl,h,_⟩
 ·exact aF0 (d:=.tup [.str aB1]) rfl (q _ G Ap.refl (.inl ⟨rfl,rfl⟩))
 · refine J3<| o7 (σ':= [some (mkS ns w ts tr li re),none,none]) rfl<| o7 (σ':= [some (mkS ns w ts tr li re),some (frD li),none]) (G':=G) ?_ ?_
   ·rcases h.li with rfl|⟨fs,m,rfl,_⟩<;>rfl
   · have fin:∀r G',Ap G G'→RfP G' re r→Wp (o6 (o4 (q10 (d9 ixD (c7 0) (cE (.int 0))) (q10 (d9 ixD (c7 0) (cE (.int 1))) (q10 (d9 ixD (c7 0) (cE (.int 2))) (q10 (c7 1) (q10 (c7 2) (q11))))))) [some (mkS ns w ts tr li re),some (frD li),some r]) G' (PB Q):=fun r G' a hr=>
      K9<| d8 (a:=.tup [.tup (ns.map stD),.tup [.str w,.tup (ts.map D.str)],.tup (tr.map D.bl),frD li,r]) (G':=G') rfl<| K5<| q _ G' a (.inr ⟨ns,w,ts,tr,li,re,r,rfl,rfl,hr,h⟩)
     rcases h.re with e|⟨fs,m,e,hf,_⟩
     · refine o7 (σ':= [some (mkS ns w ts tr li re),some (frD li),some .non]) (G':=G) ?_ (fin .non G Ap.refl (.inl ⟨e,rfl⟩))
       rw[e];rfl
     · refine m9.mpr<| Q5<| eK5 (G1:=G) (by rw[e];rfl)<| X8 (l:=fs.map fdD) (G1:=G) (by rw[e];rfl) (by rw[List.length_map];lia)<| (aA0 (fun G2=>G2=G) One nmO (fun _ _=>rfl) _ _ G ⟨_,rfl⟩ rfl ?_).mono ?_
       · rintro d hd _ _ ⟨u,rfl⟩ rfl
         obtain⟨f,hf,rfl⟩:=List.mem_map.mp hd
         exact bF0 ⟨_,rfl⟩ (d8 (a:=nmB f) rfl ⟨rfl,rfl⟩)
       · rintro _ _ ⟨rfl,rfl⟩
         exact fin (.ref _) _ Ap.one (.inr ⟨fs,m,_,e,rfl,by rw[j9,List.map_map];rfl⟩)
theorem bD6{G:DH}{p:Nat}{l:List D}(e:G[p]? =some (.lst l)):aB7 G (.ref p)=some (false,l):=by
 show (match G[p]? with
  |some (.lst l)=>some (false,l)
  |some (.rol l)=>some (false,l)
  |_=>none)=_
 rw[e]
theorem fO2{f:D→D→Option Bool}{x1 x2 x3 x4 x5 y1 y2 y3 y4 y5:D}{b1 b2 b3 b4 b5:Bool}(h1:f x1 y1=some b1)(h2:f x2 y2=some b2)(h3:f x3 y3=some b3)(h4:f x4 y4=some b4)(h5:f x5 y5=some b5):eqL f [x1,x2,x3,x4,x5] [y1,y2,y3,y4,y5]=some (b1&&(b2&&(b3&&(b4&&(b5&&true))))):=by
 rw[bE9,h1,bE9,h2,bE9,h3,bE9,h4,bE9,h5];rfl
theorem fB9{S:D→Prop}{n:Nat}{G:DH}{li li':D}(h:LiG S li)(h':LiG S li'):∃b,eqN (n+1) G (frD li) (frD li')=some b∧(b=true→(liK li).length= (liK li').length∧(liK li=liK li'→li=li')):=by
 rcases h with rfl|⟨fs,m,rfl,_⟩<;>rcases h' with rfl|⟨fs',m',rfl,_⟩
 ·exact⟨true,rfl,fun _=>⟨rfl,fun _=>rfl⟩⟩
 ·exact⟨false,rfl,fun z=>by exact aB4 z⟩
 ·exact⟨false,rfl,fun z=>by exact aB4 z⟩
 · refine⟨((fs.length:Int)==(fs'.length:Int)),rfl,fun z=>⟨?_,fun e=>?_⟩⟩
   · have z:=eq_of_beq z
     show (fs++[m]).length= (fs'++[m']).length
     simp only[List.length_append,List.length_singleton];lia
   · have e:=List.append_inj' (show fs++[m]=fs'++[m']from e) rfl
     rw[e.1,(List.cons.inj e.2).1]
theorem eF6{f g:Str×Bool×D}(h:nmB f=nmB g)(k:f.2.2=g.2.2):f=g:=by
 obtain⟨a,b,c⟩:=f
 obtain⟨a',b',c'⟩:=g
 cases h;cases k;rfl
theorem eJ4:∀ {fs gs:List (Str×Bool×D)},fs.map nmB=gs.map nmB→(fs.map fdD).map trd= (gs.map fdD).map trd→fs=gs
 |[], [],_,_=>rfl
 |[],_::_,h,_=>by exact cA1 h
 |_::_, [],h,_=>by exact cJ5 h
 |f::fs,g::gs,h,k=>by
   have h:=List.cons.inj h
   have k:=List.cons.inj (show trd (fdD f)::(fs.map fdD).map trd=trd (fdD g)::(gs.map fdD).map trd from k)
   rw[eF6 h.1 k.1,eJ4 h.2 k.2]
theorem cY7{n:Nat}(f:Str×Bool×D):M3 (n+2) (nmB f)=true:=by
 show [D.str f.1,.bl f.2.1].all (M3 (n+1))=true
 rfl
theorem fE7{n:Nat}{G:DH}{re re' r r':D}(hn:4≤n)(h:RfP G re r)(h':RfP G re' r'):∃b,eqN (n+1) G r r'=some b∧(b=true→(reK re).length= (reK re').length∧(reK re=reK re'→re=re')):=by
 rcases h with⟨rfl,rfl⟩|⟨fs,m,p,rfl,rfl,e⟩<;>rcases h' with⟨rfl,rfl⟩|⟨gs,m',p',rfl,rfl,e'⟩
 ·exact⟨true,rfl,fun _=>⟨rfl,fun _=>rfl⟩⟩
 · refine⟨false,?_,fun z=>by exact aB4 z⟩
   rw[aY4,bD6 e'];rfl
 · refine⟨false,?_,fun z=>by exact aB4 z⟩
   rw[aY4,bD6 e];rfl
 · have hd:∀x∈fs.map nmB,∀y∈gs.map nmB,∃k,eqN n G x y=some k:=fun x hx y hy=>by
    obtain⟨f,_,rfl⟩:=List.mem_map.mp hx
    obtain⟨g,_,rfl⟩:=List.mem_map.mp hy
    exact aW5 2 n _ _ (by lia) (cY7 f) (cY7 g)
   obtain⟨k,hk⟩:=cG9 _ _ hd
   have h0:eqN (n+1) G (.ref p) (.ref p')=if (fs.map nmB).length≠(gs.map nmB).length then some false else eqL (eqN n G) (fs.map nmB) (gs.map nmB):=by
    rw[aY4,bD6 e,bD6 e']
    simp
   rw[h0]
   by_cases hl:(fs.map nmB).length≠(gs.map nmB).length
   ·exact⟨false,if_pos hl,fun z=>by exact aB4 z⟩
   · refine⟨k,by rw[if_neg hl];exact hk,fun z=>?_⟩
     subst z
     have e0:fs.map nmB=gs.map nmB:=eqL_same hk fun x hx y hy e=>by
      obtain⟨f,_,rfl⟩:=List.mem_map.mp hx
      obtain⟨g,_,rfl⟩:=List.mem_map.mp hy
      obtain⟨j,rfl,e⟩:=eqT (a:= [.str f.1,.bl f.2.1]) (b:= [.str g.1,.bl g.2.1]) e
      have e1:=M6 e
      have e2:=M6 e1.2
      show D.tup [.str f.1,.bl f.2.1]=D.tup [.str g.1,.bl g.2.1]
      rw[aS9 e1.1,cE0 e2.1]
     refine⟨?_,fun e=>?_⟩
     · show ((fs.map fdD).map trd++[m]).length= ((gs.map fdD).map trd++[m']).length
       have:=congrArg List.length e0
       simp only[List.length_append,List.length_map,List.length_singleton]at this ⊢
       lia
     · have e:=List.append_inj' (show (fs.map fdD).map trd++[m]= (gs.map fdD).map trd++[m']from e) rfl
       rw[eJ4 e0 e.1,(List.cons.inj e.2).1]
def Oeq(d e:D):Prop:=(aB2 d).length= (aB2 e).length∧(aB2 d=aB2 e→d=e)
theorem eO9{S:D→Prop}{G:DH}{d d' o o':D}(h:dF9 S G d o)(h':dF9 S G d' o'):∃b,eqN 40 G o o'=some b∧(b=true→Oeq d d'):=by
 rcases h with⟨rfl,rfl⟩|⟨ns,w,ts,tr,li,re,r,rfl,rfl,hr,hp⟩<;>rcases h' with⟨rfl,rfl⟩|⟨ns',w',ts',tr',li',re',r',rfl,rfl,hr',hp'⟩
 ·exact⟨true,rfl,fun _=>⟨rfl,fun _=>rfl⟩⟩
 ·exact⟨false,rfl,fun z=>by exact aB4 z⟩
 ·exact⟨false,rfl,fun z=>by exact aB4 z⟩
 · have dt:∀(w:Str) (ts:List Str),M3 3 (.tup [.str w,.tup (ts.map D.str)])=true:=fun w ts=>by
    have:=cA8 1 ts
    show ([D.str w,.tup (ts.map D.str)].all (M3 2))=true
    simp only[List.all_cons,List.all_nil,this,Bool.and_true]
    rfl
   obtain⟨b1,h1⟩:=aW5 (G:=G) 2 39 _ _ (by decide) (cB8 0 hp.st.1) (cB8 0 hp'.st.1)
   obtain⟨b2,h2⟩:=aW5 (G:=G) 3 39 _ _ (by decide) (dt w ts) (dt w' ts')
   obtain⟨b3,h3⟩:=aW5 (G:=G) 2 39 _ _ (by decide) (bS7 1 tr) (bS7 1 tr')
   obtain⟨b4,h4,k4⟩:=fB9 (n:=38) (G:=G) hp.li hp'.li
   obtain⟨b5,h5,k5⟩:=fE7 (n:=38) (by decide) hr hr'
   refine⟨_,(cG3 (n:=39)).trans (fO2 h1 h2 h3 h4 h5),fun z=>?_⟩
   rw[Bool.and_true]at z
   simp only[Bool.and_eq_true]at z
   obtain⟨rfl,rfl,rfl,rfl,rfl⟩:=z
   have k4:=k4 rfl
   have k5:=k5 rfl
   refine⟨?_,fun e=>?_⟩
   · show (liK li++reK re).length= (liK li'++reK re').length
     rw[List.length_append,List.length_append,k4.1,k5.1]
   · have e:=List.append_inj (show liK li++reK re=liK li'++reK re' from e) k4.1
     obtain⟨j,ej,h2⟩:=eqT h2
     have e1:=M6 h2
     have e2:=M6 e1.2
     unfold mkS
     rw[eK8 hp.st.1 hp'.st.1 h1,aS9 e1.1,cX4 e2.1,dT3 h3,k4.2 e.1,k5.2 e.2]
theorem LiG.mono{S T:D→Prop}(k:∀d,S d→T d){li:D}(h:LiG S li):LiG T li:=by
 rcases h with rfl|⟨fs,m,rfl,a,b,c⟩
 ·exact .inl rfl
 ·exact .inr ⟨fs,m,rfl,a,fun x hx=>k _ (b x hx),k _ c⟩
theorem ReG.mono{S T:D→Prop}(k:∀d,S d→T d){re:D}(h:ReG S re):ReG T re:=by
 rcases h with rfl|⟨fs,m,rfl,a,n,b,c⟩
 ·exact .inl rfl
 ·exact .inr ⟨fs,m,rfl,a,n,fun x hx=>⟨(b x hx).1,k _ (b x hx).2⟩,k _ c⟩
theorem PtP.mono{S T:D→Prop}(k:∀d,S d→T d){ns:List (D×D)}{w:Str}{ts:List Str}{tr:List Bool}{li re:D}(h:PtP S ns w ts tr li re):PtP T ns w ts tr li re:=⟨h.st,h.nl,h.wd,h.tx,h.tl,h.tr,h.li.mono k,h.re.mono k⟩
theorem GS.le:∀ {n m:Nat} {d:D},n≤m→GS n d→GS m d
 |0,_,_,_,h=>h.elim
 |n+1,0,_,hm,_=>absurd hm (by lia)
 |n+1,m+1,d,hm,h=>by
   rcases h with rfl|⟨ns,w,ts,tr,li,re,e,h,r⟩
   ·exact .inl rfl
   ·exact .inr ⟨ns,w,ts,tr,li,re,e,h.mono fun d hd=>GS.le (by lia) hd,r⟩
theorem GS.kids{n:Nat}{d:D}(h:GS (n+1) d):∀x∈aB2 d,GS n x:=by
 rcases h with rfl|⟨ns,w,ts,tr,li,re,rfl,h,_⟩
 ·intro x hx;cases hx
 · intro x hx
   rcases List.mem_append.mp (show x∈liK li++reK re from hx)with hx|hx
   · rcases h.li with e|⟨fs,m,e,a,b,c⟩<;>rw[e]at hx
     ·cases hx
     · rcases List.mem_append.mp (show x∈fs++[m]from hx)with hx|hx
       ·exact b x hx
       ·rw[List.mem_singleton.mp hx];exact c
   · rcases h.re with e|⟨fs,m,e,a,n,b,c⟩<;>rw[e]at hx
     ·cases hx
     · rcases List.mem_append.mp (show x∈(fs.map fdD).map trd++[m]from hx)with hx|hx
       · obtain⟨y,hy,rfl⟩:=List.mem_map.mp hx
         obtain⟨f,hf,rfl⟩:=List.mem_map.mp hy
         exact(b f hf).2
       ·rw[List.mem_singleton.mp hx];exact c
theorem aA7{l:List D}:szD (.tup l)=1+szL l:=by rw[szD]
theorem o9{d:D}{l:List D}:szL (d::l)=szD d+szL l:=by rw[szL]
theorem Q9:szL []=0:=by rw[szL]
theorem dQ1:∀(fs:List (Str×Bool×D)),szL ((fs.map fdD).map trd)+3*fs.length=szL (fs.map fdD)
 |[]=>rfl
 |f::fs=>by
   have ih:=dQ1 fs
   show szL (f.2.2::(fs.map fdD).map trd)+3*(fs.length+1)=szL (.tup [.str f.1,.bl f.2.1,f.2.2]::fs.map fdD)
   rw[o9,o9,aA7,o9,o9,o9,Q9,show szD (.str f.1)=1 from by rw[szD],show szD (.bl f.2.1)=1 from by rw[szD]]
   lia
theorem GS.ksz{n:Nat}{d:D}(h:GS n d):szL (aB2 d)<szD d:=by
 cases n with
 |zero=>exact h.elim
 |succ n=>
   rcases h with rfl|⟨ns,w,ts,tr,li,re,rfl,h,_⟩
   · show szL []<_
     rw[Q9];exact cD0 _
   · have h1:szL (liK li)≤szD li:=by
      rcases h.li with e|⟨fs,m,e,_⟩<;>rw[e]
      · show szL []≤_
        rw[Q9];exact Nat.zero_le _
      · show szL (fs++[m])≤_
        rw[aG7,aA7,o9,o9,Q9,aA7,o9,Q9];lia
     have h2:szL (reK re)≤szD re:=by
      rcases h.re with e|⟨fs,m,e,_⟩<;>rw[e]
      · show szL []≤_
        rw[Q9];exact Nat.zero_le _
      · show szL ((fs.map fdD).map trd++[m])≤_
        have:=dQ1 fs
        rw[aG7,aA7,o9,o9,Q9,aA7,o9,Q9];lia
     show szL (liK li++reK re)<szD (.tup [.tup (ns.map stD),.tup [.str w,.tup (ts.map D.str)],.tup (tr.map D.bl),li,re])
     rw[aG7,aA7,o9,o9,o9,o9,o9,Q9]
     lia
noncomputable def BN:Nat→Nat
 |0=>0
 |n+1=>154+9*BN n
theorem bT3{l:List D}{k:Nat}(h:∀x∈l,szD x≤k):szL l≤l.length*k:=by
 induction l with
 |nil=>rw[Q9];exact Nat.zero_le _
 |cons d l ih=>
   have h1:=h d (by simp)
   have h2:=ih fun x hx=>h x (by simp[hx])
   rw[o9,List.length_cons,Nat.succ_mul];lia
theorem PtP.bd{S:D→Prop}{k:Nat}{ns:List (D×D)}{w:Str}{ts:List Str}{tr:List Bool}{li re:D}(h:PtP S ns w ts tr li re)(hk:∀d,S d→szD d≤k):szD (mkS ns w ts tr li re)≤154+9*k:=by
 have h1:szL (ns.map stD)≤30:=by
  have:=bT3 (l:=ns.map stD) (k:=3) fun x hx=>by
   obtain⟨p,hp,rfl⟩:=List.mem_map.mp hx
   have e:∀d,aZ6 d→szD d=1:=fun d hd=>by cases d<;>first|exact hd.elim|rw[szD]
   show szD (.tup [p.1,p.2])≤3
   rw[aA7,o9,o9,Q9,e _ (h.st.1 p hp).1,e _ (h.st.1 p hp).2.1];lia
  rw[List.length_map]at this
  have:=h.nl;lia
 have h2:szL (ts.map D.str)≤100:=by
  have:=bT3 (l:=ts.map D.str) (k:=1) fun x hx=>by
   obtain⟨p,hp,rfl⟩:=List.mem_map.mp hx
   rw[szD];lia
  rw[List.length_map]at this
  have:=h.tl;lia
 have h3:szL (tr.map D.bl)≤2:=by
  have:=bT3 (l:=tr.map D.bl) (k:=1) fun x hx=>by
   obtain⟨p,hp,rfl⟩:=List.mem_map.mp hx
   rw[szD];lia
  rw[List.length_map]at this
  have h4:tr.length≤2:=by rcases h.tr with e|e|e|e<;>rw[e]<;>decide
  lia
 have h4:szD li≤2+4*k:=by
  rcases h.li with e|⟨fs,m,e,a,b,c⟩<;>rw[e]
  ·rw[szD];lia
  · have h5:=bT3 (l:=fs) fun x hx=>hk x (b x hx)
    have h6:=hk m c
    have h7:fs.length*k≤3*k:=Nat.mul_le_mul_right _ a
    rw[aA7,o9,o9,Q9,aA7];lia
 have h5:szD re≤14+5*k:=by
  rcases h.re with e|⟨fs,m,e,a,n,b,c⟩<;>rw[e]
  ·rw[szD];lia
  · have h5:=bT3 (l:=(fs.map fdD).map trd) (k:=k) fun x hx=>by
     obtain⟨y,hy,rfl⟩:=List.mem_map.mp hx
     obtain⟨f,hf,rfl⟩:=List.mem_map.mp hy
     exact hk _ (b f hf).2
    rw[List.length_map,List.length_map]at h5
    have h6:=hk m c
    have h7:fs.length*k≤4*k:=Nat.mul_le_mul_right _ a
    have h8:=dQ1 fs
    rw[aA7,o9,o9,Q9,aA7];lia
 show szD (.tup [.tup (ns.map stD),.tup [.str w,.tup (ts.map D.str)],.tup (tr.map D.bl),li,re])≤_
 have h9:szD (.tup [.str w,.tup (ts.map D.str)])=3+szL (ts.map D.str):=by rw[aA7,o9,o9,Q9,aA7,show szD (.str w)=1 from by rw[szD]];lia
 rw[aA7,o9,o9,o9,o9,o9,Q9,h9,aA7,aA7]
 lia
theorem GS.bd:∀ {n:Nat} {d:D},GS n d→szD d≤BN n
 |0,_,h=>h.elim
 |n+1,d,h=>by
   rcases h with rfl|⟨ns,w,ts,tr,li,re,rfl,h,_⟩
   ·rw[szD];show 1≤154+9*BN n;lia
   ·exact h.bd fun d hd=>GS.bd hd
theorem dN0{G:DH}{p q:Nat}{l m:List D}{Q:DPP}(e:G[p]? =some (.lst l))(e':G[q]? =some (.lst m))(h:Q (.ref G.length) (G++[.lst ((l.zip m).map stD)])):Wp (bK8 [.ref p,.ref q]) G Q:=by
 have ee:bK8 [.ref p,.ref q]= (do
  let l ←Q7 p >>= listOf
  let m ←Q7 q >>= listOf
  R1 (.lst ((l.zip m).map fun p=>.tup [p.1,p.2]))):=rfl
 have l1:Wp (Q7 p >>= listOf) G fun x G'=>x=l∧G'=G:=j8.mpr (R0.mpr (by rw[e];exact S7.mpr (j7.mpr ⟨rfl,rfl⟩)))
 have l2:Wp (Q7 q >>= listOf) G fun x G'=>x=m∧G'=G:=j8.mpr (R0.mpr (by rw[e'];exact S7.mpr (j7.mpr ⟨rfl,rfl⟩)))
 rw[ee]
 refine j8.mpr (l1.mono ?_)
 rintro _ _ ⟨rfl,rfl⟩
 refine j8.mpr (l2.mono ?_)
 rintro _ _ ⟨rfl,rfl⟩
 exact d8 rfl h
theorem dN7:∀ {a b:List D},a.length=b.length→a≠b→∃p∈a.zip b,p.1≠p.2
 |[], [],_,h=>(h rfl).elim
 |[],_::_,h,_=>by cases h
 |_::_, [],h,_=>by cases h
 |x::a,y::b,h,k=>by
   by_cases e:x=y
   · subst e
     obtain⟨p,hp,q⟩:=dN7 (a:=a) (b:=b) (Nat.succ.inj h) fun e=>k (by rw[e])
     exact⟨p,by rw[List.zip_cons_cons];exact List.mem_cons_of_mem _ hp,q⟩
   ·exact⟨(x,y),by rw[List.zip_cons_cons];exact List.mem_cons_self,e⟩
def ZT:DSt→M Bool:=J5 (c7 2)
theorem fM0:aQ4=m8 (K3 (Z7 (q10 (o4 (q10 (c7 0) (q10 (c7 1) (q11)))) (q11))) (q13 2)) (m8 (aT8 ZT (m8 Z1 (m8 Z2 Z3))) (o6 (cE (.bl true)))):=rfl
def Ws(n:Nat)(ws:List (D×D)):Prop:=∀q∈ws,GS (n+1) q.1∧GS (n+1) q.2
theorem eH1{ws:List (D×D)}(h:ws≠ []):∃(t:List (D×D)) (q:D×D),ws=t++[q]:=⟨ws.dropLast,ws.getLast h,(List.dropLast_concat_getLast h).symm⟩
theorem dK9{n p:Nat}{x y:Option D}{G0:DH}(hp:G0.length≤p):∀(fuel:Nat) (ws:List (D×D)) (u:Option D) (G:DH),Ap G0 G→G[p]? =some (.lst (ws.map stD))→szL (ws.map (·.1))<fuel→szL (ws.map (·.1))≤1000000→Ws n ws→(∃q∈ws,q.1≠q.2)→
 Wp (V7 fuel ZT (m8 Z1 (m8 Z2 Z3)) [x,y,some (.ref p),u]) G fun fl G'=>fl= .rt (.bl false)∧Ap G0 G'
 |0,ws,u,G,_,_,hf,_,_,_=>absurd hf (Nat.not_lt_zero _)
 |fuel+1,ws,u,G,hA,e,hf,hb,hw,hx=>by
   have bg:=big
   have hne:ws≠ []:=by rintro rfl;obtain⟨q,hq,_⟩:=hx;cases hq
   obtain⟨t,q,rfl⟩:=eH1 hne
   rw[List.map_append]at e
   refine bH6.mpr<| aF3.mpr<| d8 (a:=.ref p) rfl<| (bI6 e).mpr ?_
   rw[if_pos (by simp)]
   refine m9.mpr<| Q5<| bD9.mpr<| d8 (a:=.ref p) rfl<| (Z9 e).mpr<| G9.mpr<| (cZ6 e).mpr ?_
   have e1:(G.set p (.lst (t.map stD)))[p]? =some (.lst (t.map stD)):=List.getElem?_set_self (lt_of_get e)
   have a1:Ap G0 (G.set p (.lst (t.map stD))):=hA.set hp
   have hq:=hw q (by simp)
   have hs:szL ((t++[q]).map (·.1))=szL (t.map (·.1))+szD q.1:=by
    rw[List.map_append,aG7]
    show _+szL [q.1]=_
    rw[o9,Q9];rfl
   rw[hs]at hf hb
   refine m9.mpr<| aL8<| S8<| K6<| m7 (as:= [q.1]) rfl rfl<| cY5 hq.1 fun o1 G2 a2 h1=>m7 (as:= [q.2]) rfl rfl<| cY5 hq.2 fun o2 G3 a3 h2=>?_
   obtain⟨b,hb',kb⟩:=eO9 (h1.up a3) h2
   have a13:=(a1.trans a2).trans a3
   refine(aW9 (show neD o1 o2 G3=some (.ok (.bl (!b)),G3)from by unfold neD;rw[hb'])).mpr ⟨!b,rfl,fun z=>?_,fun z=>N5.mpr ?_⟩
   ·exact d8 (a:=Fl.rt (.bl false)) (G':=G3) rfl (show Fl.rt (.bl false)= .rt (.bl false)∧Ap G0 G3 from⟨rfl,a13⟩)
   · have ho:=kb (by cases b<;>first|rfl|cases z)
     have e3:=a3.at (a2.at e1)
     refine aW3.mpr<| bD9.mpr<| d8 (a:=.ref p) rfl<| (Z9 e3).mpr<| u0<| R9<| u0<| m7 (as:= [q.1]) rfl rfl<| cF6 hq.1 fun p1 G4 a4 l4 e4=>u0<| m7 (as:= [q.2]) rfl rfl<| cF6 hq.2 fun p2 G5 a5 l5 e5=>G9.mpr<| dN0 (a5.at e4) e5<| G9.mpr ?_
     have e6:(G5++[DO.lst (((aB2 q.1).zip (aB2 q.2)).map stD)])[p]? =some (.lst (t.map stD)):=Q3 (a5.at (a4.at e3))
     have hk:=hq.1.ksz
     have hz:((aB2 q.1).zip (aB2 q.2)).map (·.1)=aB2 q.1:=List.map_fst_zip (Nat.le_of_eq ho.1)
     have hn:szL ((t++(aB2 q.1).zip (aB2 q.2)).map (·.1))=szL (t.map (·.1))+szL (aB2 q.1):=by rw[List.map_append,aG7,hz]
     have hlen:=bN6 ((t++(aB2 q.1).zip (aB2 q.2)).map (·.1))
     rw[hn,List.length_map,List.length_append]at hlen
     refine(bB1 e6 j9 (by rw[List.length_map,List.length_map];lia)).mpr ?_
     refine dK9 (n:=n) hp fuel (t++(aB2 q.1).zip (aB2 q.2)) _ _ (((a13.trans a4).trans a5).trans Ap.one |>.set hp) ?_ (by rw[hn];lia) (by rw[hn];lia) (fun r hr=>?_) ?_
     ·rw[List.map_append];exact List.getElem?_set_self (lt_of_get e6)
     · rcases List.mem_append.mp hr with hr|hr
       ·exact hw r (by simp[hr])
       · have hr':=List.of_mem_zip (a:=r.1) (b:=r.2) hr
         exact⟨(hq.1.kids _ hr'.1).le (Nat.le_succ _),(hq.2.kids _ hr'.2).le (Nat.le_succ _)⟩
     · obtain⟨r,hr,nr⟩:=hx
       rcases List.mem_append.mp hr with hr|hr
       ·exact⟨r,by simp[hr],nr⟩
       · rw[List.mem_singleton]at hr
         subst hr
         obtain⟨s,hs,ns⟩:=dN7 ho.1 fun z=>nr (ho.2 z)
         exact⟨s,by simp[hs],ns⟩
theorem eQ7{n:Nat}{x y:D}{G:DH}{Q:DPP}(hn:BN (n+1)≤1000000)(hx:GS (n+1) x)(hy:GS (n+1) y)(ne:x≠y)(q:∀G',Ap G G'→Q (.bl false) G'):Wp (aJ6 [x,y]) G Q:=by
 refine J3 (show Wp (aQ4 [some x,some y,none,none]) G _ from ?_)
 rw[fM0]
 have hb:=hx.bd
 have hs:szL ([(x,y)].map (·.1))=szD x:=by show szL [x]=_;rw[o9,Q9];rfl
 refine o7 (σ':= [some x,some y,some (.ref G.length),none]) (G':=G++[.lst [stD (x,y)]]) rfl<| m9.mpr<| cN4 (n:=szD x+1)<| (dK9 (n:=n) (G0:=G) (Nat.le_refl _) (szD x+1) [(x,y)] none _ Ap.one j9 (by rw[hs];lia) (by rw[hs];lia) (fun q hq=>by rw[List.mem_singleton.mp hq];exact⟨hx,hy⟩) ⟨(x,y),by simp,ne⟩).mono ?_
 rintro _ G' ⟨rfl,a⟩
 exact K5 (q G' a)
theorem eP7{ss:List Str}(h:ss.Pairwise LtS):ss.Nodup:=h.imp fun {a b} q e=>by subst e;exact List.lt_irrefl _ q
theorem PtP.sb{S T:D→Prop}(k:∀d,S d→T d){ns:List (D×D)}{w:Str}{ts:List Str}{tr:List Bool}{li re:D}(h:PtP S ns w ts tr li re):(∀p∈ns,bA2 p)∧ns.length≤100∧(∀z∈ts,z.length≤1000)∧ts.length≤100∧tr.length≤100∧LiP T li∧ReP T re:=by
 refine⟨h.st.1,by have:=h.nl;lia,fun z hz=>(h.tx.1 z hz).2,h.tl,?_,?_,?_⟩
 ·rcases h.tr with e|e|e|e<;>rw[e]<;>decide
 · rcases h.li with e|⟨fs,m,e,a,b,c⟩
   ·exact .inl e
   ·exact .inr ⟨fs,m,e,by lia,fun x hx=>k _ (b x hx),k _ c⟩
 · rcases h.re with e|⟨fs,m,e,a,n,b,c⟩
   ·exact .inl e
   ·exact .inr ⟨fs,m,e,by lia,eP7 n,fun f hf=>⟨(b f hf).1.1.2,k _ (b f hf).2⟩,k _ c⟩
theorem GS.sb:∀ {n:Nat} {d:D},GS n d→SB n d
 |0,_,h=>h.elim
 |n+1,d,h=>by
   rcases h with rfl|⟨ns,w,ts,tr,li,re,e,h,_⟩
   ·exact .inl rfl
   · have:=h.sb (T:=SB n) fun d hd=>GS.sb hd
     exact .inr ⟨ns,w,ts,tr,li,re,e,this⟩
section
variable{n:Nat}{G:DH}{Q:DPP}{P:Fl→DH→Prop}
theorem eZ1{k:Nat}{x y:D}(hk:k≤9)(hx:SB k x)(hy:SB k y)(ne:x≠y)(q:Q (.bl true) G):Wp (neD x y) G Q:=by
 obtain⟨b,hb,kb⟩:=SB.eqN (G:=G) hk hx hy
 have:b=false:=by
  rcases b with _|_
  ·rfl
  ·exact(ne (kb.mp rfl)).elim
 subst this
 exact(aW9 (show neD x y G=some (.ok (.bl true),G)from by unfold neD;rw[hb];rfl)).mpr q
theorem eJ6{t u:DSt→M Bool}{f g:Fs}{σ:DSt}(e:t σ G=some (.ok true,G))(w:Wp (u σ) G fun k G2=>k=true∧Wp (g σ) G2 P):Wp (ifS (aN6 t (aN7 u)) f g σ) G P:=
 aL8<| cA3<| d8 e ⟨fun _=>cF2.mpr (w.mono fun k G2 q=>by
  obtain⟨rfl,q⟩:=q
  exact⟨fun z=>(by cases z),fun _=>q⟩),fun z=>(by cases z)⟩
theorem fB1{f:Str×Bool×D}{m:D}(hn:n≤8)(hb:BN (n+1)≤1000000)(hf:GS (n+1) f.2.2)(hm:GS (n+1) m)(h:(f.2.1=true→f.2.2≠noS)∧(f.2.1=false→f.2.2≠m))(q:∀G',Ap G G'→Q (.bl true) G'):Wp (aM9 [fdD f,m]) G Q:=by
 obtain⟨z,b,s⟩:=f
 refine J3<| K9 ?_
 rcases b with _|_
 ·exact eK5 (G1:=G) rfl<| cH2.mpr<| m7 (as:= [s,m]) rfl rfl<| eQ7 hb hf hm (h.2 rfl) fun G' a=>⟨_,rfl,K5 (q G' a)⟩
 ·exact fC8 (G1:=G) rfl<| aD9 (x:=s) (y:=noS) rfl rfl<| eZ1 (k:=n+1) (by lia) hf.sb aM3 (h.1 rfl) (K5 (q G Ap.refl))
theorem fG8{d:D}(hn:n≤6)(hb:BN (n+1)≤1000000)(h:GS (n+2) d)(q:∀G',Ap G G'→Q (.bl true) G'):Wp (V0 [d]) G Q:=by
 have bg:=big
 have hsb:=h.sb
 rcases h with rfl|⟨ns,w,ts,tr,li,re,rfl,h,h1,h2,h3⟩
 ·exact aF0 (d:=.bl true) rfl (q G Ap.refl)
 · refine J3<| o7 (σ':= [some (mkS ns w ts tr li re)]) rfl ?_
   have last:∀G',Ap G G'→Wp (o6 (d9 neD (c7 0) (cE (.tup [.tup [.tup [.non,.non]],.tup [.str ("but" :Str),.tup []],.tup [.bl false,.bl true],.tup [.tup [],.str ("any" :Str)],.tup [.tup [],.str ("any" :Str)]]))) [some (mkS ns w ts tr li re)]) G' (PB Q):=fun G' a=>
    K9<| aD9 (x:=mkS ns w ts tr li re) (y:=evS) rfl rfl<| eZ1 (k:=n+2) (by lia) hsb dR7 h3 (K5 (q G' a))
   have step2:∀G',Ap G G'→Wp (m8 (ifS (aN6 (J8 (d9 aR4 (d9 ixD (c7 0) (cE (.int 4))) (cE .non))) (aN7 (J5 (q12 aI2 (q10 (K8 (itW (d9 ixD (d9 ixD (c7 0) (cE (.int 4))) (cE (.int 0)))) [none,some 0] (q13 0) (M4) (q12 (fnX 2 aM9) (q10 (c7 0) (q10 (d9 ixD (d9 ixD (c7 1) (cE (.int 4))) (cE (.int 1))) (q11))))) (q11)))))) (o6 (cE (.bl false))) (J9)) (o6 (d9 neD (c7 0) (cE (.tup [.tup [.tup [.non,.non]],.tup [.str ("but" :Str),.tup []],.tup [.bl false,.bl true],.tup [.tup [],.str ("any" :Str)],.tup [.tup [],.str ("any" :Str)]])))) [some (mkS ns w ts tr li re)]) G' (PB Q):=by
    intro G' a
    rcases h.re with e|⟨fs,m,e,hl,_,hf,hm⟩
    ·exact o7 (σ':= [some (mkS ns w ts tr li re)]) (G':=G') (by rw[e];rfl) (last G' a)
    · subst e
      refine m9.mpr<| eJ6 rfl<| X6<| bL6 (fun σ=>∃u,σ= [u,some (mkS ns w ts tr li (.tup [.tup (fs.map fdD),m]))]) (s:=⟨fs.map fdD,fun _=>true⟩) rfl (by show (fs.map fdD).length≤_;rw[List.length_map];lia) (fun _ _=>rfl) ⟨_,rfl⟩ ?_ fun G2 a2=>⟨rfl,rfl,N5.mpr (last G2 (a.trans a2))⟩
      rintro d hd _ G1 ⟨u,rfl⟩ j
      obtain⟨f,hf',rfl⟩:=List.mem_map.mp hd
      exact⟨⟨_,rfl⟩,m7 (as:= [fdD f,m]) rfl rfl<| fB1 (by lia) hb (hf f hf').2 hm (h2 fs m rfl f hf') fun G2 a2=>⟨rfl,a2⟩⟩
   rcases h.li with e|⟨fs,m,e,hl,hf,hm⟩
   ·exact o7 (σ':= [some (mkS ns w ts tr li re)]) (G':=G) (by rw[e];rfl) (step2 G Ap.refl)
   · subst e
     refine m9.mpr<| eJ6 rfl<| X6<| bL6 One (s:=⟨fs,fun _=>true⟩) rfl (by show fs.length≤_;lia) (fun _ _=>rfl) ⟨_,rfl⟩ ?_ fun G2 a2=>⟨rfl,rfl,N5.mpr (step2 G2 a2)⟩
     rintro d hd _ G1 ⟨u,rfl⟩ j
     exact⟨⟨_,rfl⟩,aD9 (x:=d) (y:=noS) rfl rfl<| eZ1 (k:=n+1) (by lia) (hf d hd).sb aM3 (fun z=>h1 fs m rfl (z▸hd)) ⟨rfl,Ap.refl⟩⟩
end
theorem fL4:bD2=m8 (K3 (Z7 (q11)) (q13 1)) (m8 (K3 (Z7 (q10 (c7 0) (q11))) (q13 2)) (m8 (aT8 ZT (m8 Z1 (m8 V2 (m8 V3 V4)))) (o6 (q12 aI2 (q10 (K8 (itW (c7 1)) [none] (q13 0) (M4) (q12 (fnX 1 V0) (q10 (c7 0) (q11)))) (q11)))))):=rfl
theorem dU8{n p r:Nat}{x:Option D}{G0:DH}(hp:G0.length≤p)(hr:G0.length≤r)(hpr:p≠r):∀(fuel:Nat) (ws fd:List D) (u:Option D) (G:DH),Ap G0 G→G[p]? =some (.lst ws)→G[r]? =some (.lst fd)→szL ws<fuel→szL ws+fd.length≤1000000→(∀d∈ws,GS (n+1) d)→(∀d∈fd,GS (n+1) d)→
 Wp (V7 fuel ZT (m8 Z1 (m8 V2 (m8 V3 V4))) [x,some (.ref r),some (.ref p),u]) G fun fl G'=>∃u' fd',fl= .nx [x,some (.ref r),some (.ref p),u']∧Ap G0 G'∧G'[r]? =some (.lst fd')∧(∀d∈fd',GS (n+1) d)∧fd'.length≤1000000
 |0,ws,fd,u,G,_,_,_,hf,_,_,_=>absurd hf (Nat.not_lt_zero _)
 |fuel+1,ws,fd,u,G,hA,e,er,hf,hb,hw,hd=>by
   have bg:=big
   by_cases hne:ws= []
   · subst hne
     refine bH6.mpr<| aF3.mpr<| d8 (a:=.ref p) rfl<| (bI6 e).mpr ?_
     rw[if_neg (by simp)]
     exact⟨u,fd,rfl,hA,er,hd,by lia⟩
   · obtain⟨t,q,rfl⟩:∃(t:List D) (q:D),ws=t++[q]:=⟨ws.dropLast,ws.getLast hne,(List.dropLast_concat_getLast hne).symm⟩
     refine bH6.mpr<| aF3.mpr<| d8 (a:=.ref p) rfl<| (bI6 e).mpr ?_
     rw[if_pos (by simp)]
     refine m9.mpr<| Q5<| bD9.mpr<| d8 (a:=.ref p) rfl<| (Z9 e).mpr<| G9.mpr<| (cZ6 e).mpr ?_
     have e1:(G.set p (.lst t))[p]? =some (.lst t):=List.getElem?_set_self (lt_of_get e)
     have er1:(G.set p (.lst t))[r]? =some (.lst fd):=by rw[List.getElem?_set_ne hpr];exact er
     have a1:Ap G0 (G.set p (.lst t)):=hA.set hp
     have hq:=hw q (by simp)
     have hk:=hq.ksz
     have hs:szL (t++[q])=szL t+szD q:=by rw[aG7,o9,Q9];rfl
     rw[hs]at hf hb
     refine m9.mpr<| cQ1<| X6<| m7 (as:= [q]) rfl rfl<| hq.form fun G2 a2=>⟨rfl,rfl,N5.mpr ?_⟩
     have e2:=a2.at e1
     have er2:=a2.at er1
     refine m9.mpr<| aW3.mpr<| bD9.mpr<| d8 (a:=.ref r) rfl<| (Z9 er2).mpr<| d8 (a:= [q]) (G':=G2) rfl<| (aZ3 er2 (by lia)).mpr ?_
     have e3:(G2.set r (.lst (fd++[q])))[p]? =some (.lst t):=by rw[List.getElem?_set_ne (Ne.symm hpr)];exact e2
     have er3:(G2.set r (.lst (fd++[q])))[r]? =some (.lst (fd++[q])):=List.getElem?_set_self (lt_of_get er2)
     have a3:Ap G0 (G2.set r (.lst (fd++[q]))):=(a1.trans a2).set hr
     refine aW3.mpr<| bD9.mpr<| d8 (a:=.ref p) rfl<| (Z9 e3).mpr<| u0<| m7 (as:= [q]) rfl rfl<| cF6 hq fun p4 G4 a4 l4 e4=>G9.mpr ?_
     have e5:=a4.at e3
     have er5:=a4.at er3
     have hl1:=bN6 t
     have hl2:=bN6 (aB2 q)
     refine(bB1 e5 e4 (by lia)).mpr ?_
     refine dU8 (n:=n) hp hr hpr fuel (t++aB2 q) (fd++[q]) _ _ ((a3.trans a4).set hp) (List.getElem?_set_self (lt_of_get e5)) (by rw[List.getElem?_set_ne hpr];exact er5) (by rw[aG7];lia) (by rw[aG7,List.length_append,List.length_singleton];have:=cD0 q;lia) (fun d hd'=>?_) (fun d hd'=>?_)
     · rcases List.mem_append.mp hd' with hd'|hd'
       ·exact hw d (by simp[hd'])
       ·exact(hq.kids d hd').le (Nat.le_succ _)
     · rcases List.mem_append.mp hd' with hd'|hd'
       ·exact hd d hd'
       ·rw[List.mem_singleton.mp hd'];exact hq
theorem dP8{n:Nat}{d:D}{G:DH}{Q:DPP}(hn:n≤6)(hb:BN (n+2)≤1000000)(h:GS (n+2) d)(q:∀G',Ap G G'→Q (.bl true) G'):Wp (aU8 [d]) G Q:=by
 have bg:=big
 refine J3 (show Wp (bD2 [some d,none,none,none]) G _ from ?_)
 rw[fL4]
 have hd:=h.bd
 have hs:szL [d]=szD d:=by rw[o9,Q9];rfl
 have hb1:BN (n+1)≤1000000:=by have:BN (n+2)=154+9*BN (n+1):=rfl;lia
 refine o7 (σ':= [some d,some (.ref G.length),none,none]) (G':=G++[.lst []]) rfl<| o7 (σ':= [some d,some (.ref G.length),some (.ref (G++[DO.lst []]).length),none]) (G':=G++[.lst []]++[.lst [d]]) rfl ?_
 refine m9.mpr<| cN4 (n:=szD d+1)<| (dU8 (n:=n+1) (G0:=G) (p:=(G++[DO.lst []]).length) (r:=G.length) (by simp) (Nat.le_refl _) (by simp) (szD d+1) [d] [] none _ (Ap.one.trans Ap.one) j9 (Q3 j9) (by rw[hs];lia) (by rw[hs,List.length_nil];lia) (fun x hx=>by rw[List.mem_singleton.mp hx];exact h) (fun x hx=>by cases hx)).mono ?_
 rintro _ G1 ⟨u',fd,rfl,a1,e1,h1,hl⟩
 refine K9<| bL6 One (s:=⟨fd,ckO G.length (.lst fd)⟩) (aK1<| wp_itW.mpr<| d8 (a:=.ref G.length) rfl<| (aB5 e1).mpr ⟨rfl,rfl⟩) (by show fd.length≤_;lia) (fun G' a=>by show ckO G.length (.lst fd) G'=true;unfold ckO;rw[a.at e1];simp) ⟨_,rfl⟩ ?_ fun G2 a2=>K5 (q G2 (a1.trans a2))
 rintro x hx _ G2 ⟨u,rfl⟩ j
 exact⟨⟨_,rfl⟩,m7 (as:= [x]) rfl rfl<| fG8 hn hb1 (h1 x hx) fun G3 a3=>⟨rfl,a3⟩⟩
noncomputable abbrev Ns:=List (D×D)
noncomputable def n7:List Ns:= [[], [(.non,.non)], [(.int 0,.int 0)], [(.int 0,.int 1)], [(.int 0,.int 0),(.int 2,.int 2)], [(.non,.int 0)], [(.int 1,.non)]]
def N8:List Ns:=n7++[[(.non,.int (-1)),(.int 1,.int 2)]]
noncomputable def t6:List (Str×List Str):= [(wOf, []),(cI9, []),(wOf, [""]),(wOf, ["a"]),(wOf, ["", "a"]),(cI9, ["a"])]
def T7:List (Str×List Str):=t6++([(cI9, ["", "a"])]:List (Str×List Str))
noncomputable def B4:List (List Bool):= [[], [false], [true], [false,true]]
def nsD(ns:Ns):D:=.tup (ns.map stD)
noncomputable def txD(t:Str×List Str):D:=.tup [.str t.1,.tup (t.2.map D.str)]
noncomputable def blD(b:List Bool):D:=.tup (b.map D.bl)
def PlP(ns:Ns)(t:Str×List Str)(b:List Bool):Prop:=ns∈N8∧t∈T7∧b∈B4
theorem cO5{α β:Type}{f:α→β}{l:List α}{x:α}:l.map f++[f x]= (l++[x]).map f:=by rw[List.map_append];rfl
theorem dB1{G:DH}{o o':DO}:(G++[o]).set G.length o'=G++[o']:=by rw[List.set_append_right _ _ (Nat.le_refl _),Nat.sub_self];rfl
theorem cL6{r:Nat}{G:DH}(h:aA8 G r):Wp (R3 [.ref r]) G fun x G'=>(∃ns t b,PlP ns t b∧x= .tup [nsD ns,txD t,blD b])∧Fr r G G':=by
 have bg:1000≤sizeLine:=by decide
 refine J3 (show Wp (aH1 [some (.ref r),none,none,none]) G _ from ?_)
 unfold aH1
 refine o7 (σ':= [some (.ref r),some (.ref G.length),none,none]) (G':=G++[.lst (n7.map nsD)]) rfl ?_
 refine m9.mpr<| aW3.mpr<| bD9.mpr<| d8 (a:=.ref G.length) rfl<| (Z9 j9).mpr<| d8 (a:= [nsD [(.non,.int (-1)),(.int 1,.int 2)]]) rfl<| (aZ3 j9 (by decide)).mpr ?_
 rw[dB1,cO5]
 change Wp _ (G++[.lst (N8.map nsD)]) _
 have f1:Fr r G (G++[.lst (N8.map nsD)]):=Fr.app h
 have e1:(G++[.lst (N8.map nsD)])[G.length]? =some (.lst (N8.map nsD)):=j9
 have p1:G.length≠r:=by have:=h.lt;lia
 generalize G++[DO.lst (N8.map nsD)]=G1 at *
 generalize G.length=p at *
 refine o7 (σ':= [some (.ref r),some (.ref p),some (.ref G1.length),none]) (G':=G1++[.lst (t6.map txD)]) rfl ?_
 refine m9.mpr<| aW3.mpr<| bD9.mpr<| d8 (a:=.ref G1.length) rfl<| (Z9 j9).mpr<| d8 (a:= [txD (cI9, ["", "a"])]) rfl<| (aZ3 j9 (by decide)).mpr ?_
 rw[dB1,cO5]
 change Wp _ (G1++[.lst (T7.map txD)]) _
 have f2:Fr r G1 (G1++[.lst (T7.map txD)]):=Fr.app f1.2.2
 have e2:(G1++[.lst (T7.map txD)])[G1.length]? =some (.lst (T7.map txD)):=j9
 have p2:G1.length≠r:=by have:=f1.lt;lia
 have e1':=f2.at p1 e1
 generalize G1++[DO.lst (T7.map txD)]=G2 at *
 generalize G1.length=q at *
 refine o7 (σ':= [some (.ref r),some (.ref p),some (.ref q),some (.ref G2.length)]) (G':=G2++[.lst (B4.map blD)]) rfl ?_
 have f3:Fr r G2 (G2++[.lst (B4.map blD)]):=Fr.app f2.2.2
 have e3:(G2++[.lst (B4.map blD)])[G2.length]? =some (.lst (B4.map blD)):=j9
 have p3:G2.length≠r:=by have:=f2.lt;lia
 have e1'':=f3.at p1 e1'
 have e2':=f3.at p2 e2
 generalize G2++[DO.lst (B4.map blD)]=G3 at *
 generalize G2.length=u at *
 refine K9<| aG4.mpr<| u0<| K6<| d8 (a:=.ref p) (G':=G3) rfl<| m7 (as:= [.ref r,.int 8]) rfl rfl<| bE5 f3.2.2 p1 e1'' (by decide) (by decide) (by decide) fun d hd G4 f4=>?_
 refine u0<| K6<| d8 (a:=.ref q) (G':=G4) rfl<| m7 (as:= [.ref r,.int 7]) rfl rfl<| bE5 f4.2.2 p2 (f4.at p2 e2') (by decide) (by decide) (by decide) fun d' hd' G5 f5=>?_
 refine u0<| K6<| d8 (a:=.ref u) (G':=G5) rfl<| m7 (as:= [.ref r,.int 4]) rfl rfl<| bE5 f5.2.2 p3 (f5.at p3 (f4.at p3 e3)) (by decide) (by decide) (by decide) fun d2 hd2 G6 f6=>G9.mpr ⟨sz,K5 ⟨?_,f1.trans (f2.trans (f3.trans (f4.trans (f5.trans f6))))⟩⟩
 obtain⟨ns,hn,rfl⟩:=List.mem_map.mp hd
 obtain⟨t,ht,rfl⟩:=List.mem_map.mp hd'
 obtain⟨b,hb,rfl⟩:=List.mem_map.mp hd2
 exact⟨ns,t,b,⟨hn,ht,hb⟩,rfl⟩
theorem bZ9{g:Fg}{e:Fe}{ck:DH→Bool}(J:DH→Prop)(S:DSt→Prop)(rel:D→D→Prop)(hck:∀G,J G→ck G=true):∀(items:List D) (σ:DSt) (G:DH),S σ→J G→
 (∀d∈items,∀ σ G,S σ→J G→Wp (g d σ) G fun σ1 G1=>G1=G∧S σ1∧Wp (e σ1) G fun y G3=>J G3∧rel d y)→
 Wp (M9 g M4 e ck items σ) G fun ys G'=>J G'∧∃zs:List (D×D),zs.map (·.1)=items∧ys=zs.map (·.2)∧∀z∈zs,rel z.1 z.2
 |[],σ,G,s,j,_=>aM8.mpr ⟨hck G j,j, [],rfl,rfl,fun _ h=>nomatch h⟩
 |d::r,σ,G,s,j,step=>by
   refine aN9.mpr ⟨hck G j,(step d (List.mem_cons_self ..) σ G s j).mono fun σ1 G1 ⟨e1,s1,w1⟩=>?_⟩
   subst e1
   refine d8 (a:=true) rfl ?_
   rw[if_pos rfl]
   refine w1.mono fun y G3 ⟨j3,py⟩=>?_
   refine(bZ9 J S rel hck r σ1 G3 s1 j3 fun d hd=>step d (List.mem_cons_of_mem _ hd)).mono fun ys G4 ⟨j4,zs,h1,h2,h3⟩=>⟨j4,(d,y)::zs,by rw[List.map_cons,h1],by rw[List.map_cons,h2],fun z hz=>?_⟩
   rcases List.mem_cons.mp hz with rfl|hz
   ·exact py
   ·exact h3 z hz
section
variable{r:Nat}{G:DH}
end
theorem aQ0{p:Nat}{l:List D}{G:DH}(e:G[p]? =some (.lst l)):ckO p (.lst l) G=true:=by simp only[ckO,e];simp
noncomputable def lnD(k:Bool):D:=if k then .tup [.tup [],.str aB1]else .non
def InP(d:D):Prop:=d= .str aB1∨∃ns t b la lb,PlP ns t b∧d=mkS ns t.1 t.2 b (lnD la) (lnD lb)∧d≠evS
theorem bH0:InP (.str aB1):=.inl rfl
theorem fG7:noS≠evS:=fun h=>by cases h
theorem dO7:InP noS:=.inr ⟨[],(wOf, []), [],false,false,⟨List.Mem.head _,List.Mem.head _,List.Mem.head _⟩,rfl,fG7⟩
theorem eL1{r:Nat}{x1:Option D}{l:List D}{i:Int}{G:DH}(h:aA8 G r)(hi:i=3∨i=4)(hl:l.length≤5):Wp (IB [some (.ref r),x1,some (.tup l),some (.int i)]) G fun fl G'=>(∃k,fl= .nx [some (.ref r),x1,some (.tup (l++[lnD k])),some (.int i)])∧Fr r G G':=by
 have bg:1000≤sizeLine:=by decide
 refine Q5<| K6<| d8 (a:=.tup l) (G':=G) rfl<| aG4.mpr<| u0<| dL9 rfl (by decide) (by decide)<| d8 (a:= [.non,lnD true]) (G':=G) (by rcases hi with rfl|rfl<;>rfl) ⟨sz,h,rfl,fun d hd G1 f1=>G9.mpr ⟨sz,?_⟩⟩
 have:∃k,d=lnD k:=by
  rcases List.mem_cons.mp hd with rfl|hd
  ·exact⟨false,rfl⟩
  · rcases List.mem_cons.mp hd with rfl|hd
    ·exact⟨true,rfl⟩
    ·cases hd
 obtain⟨k,rfl⟩:=this
 exact(bN0 (by rw[List.length_cons,List.length_nil];lia)).mpr ⟨⟨k,rfl⟩,f1⟩
theorem fC5:aG9=m8 (K3 (q12 (fnX 2 m5) (q10 (c7 0) (q10 (cE (.int 4)) (q11)))) (q13 1)) (m8 (ifS (J8 (d9 eqD (c7 1) (cE (.int 0)))) (o6 (d9 ixD (Z7 (q10 (cE (.str ("any" :Str))) (q10 (q12 (fnX 0 M7) (q11)) (q10 (q12 (fnX 0 M7) (q11)) (q11))))) (q12 (fnX 2 m5) (q10 (c7 0) (q10 (cE (.int 3)) (q11)))))) (J9)) (m8 (K3 (q12 (fnX 1 R3) (q10 (c7 0) (q11))) (q13 2)) (m8 (aS6 (itW (Z7 (q10 (cE (.int 3)) (q10 (cE (.int 4)) (q11))))) (q13 3) IB) (o6 (d9 ixD (Z7 (q10 (cE (.str ("any" :Str))) (q10 (c7 2) (q11)))) (q12 dM9 (q10 (d9 neD (c7 2) (q12 (fnX 0 aA3) (q11))) (q11)))))))):=rfl
theorem bT0{ns:Ns}(h:ns∈N8):(∀p∈ns,bA2 p)∧ns.length≤100:=by
 unfold N8 n7 at h
 simp only[List.cons_append,List.nil_append,List.mem_cons,List.not_mem_nil,or_false]at h
 rcases h with rfl|rfl|rfl|rfl|rfl|rfl|rfl|rfl
 all_goals
  refine⟨fun p hp=>?_,by decide⟩
  simp only[List.mem_cons,List.not_mem_nil,or_false]at hp
  try rcases hp with rfl|rfl
  all_goals first
   |exact hp.elim
   |(subst hp;exact⟨trivial,trivial,fun a b ea eb=>by cases ea<;>cases eb<;>decide⟩)
   |exact⟨trivial,trivial,fun a b ea eb=>by cases ea<;>cases eb<;>decide⟩
theorem bR5:∀t∈T7,(∀z∈t.2,z.length≤1000)∧t.2.length≤100:=by decide +kernel
theorem dN4:∀b∈B4,b.length≤100:=by decide
theorem fE9{k:Bool}{S:D→Prop}(h:S (.str aB1)):LiP S (lnD k):=by
 cases k
 ·exact .inl rfl
 ·exact .inr ⟨[],_,rfl,by decide,(fun _ h=>nomatch h),h⟩
theorem fJ2{k:Bool}{S:D→Prop}(h:S (.str aB1)):ReP S (lnD k):=by
 cases k
 ·exact .inl rfl
 ·exact .inr ⟨[],_,rfl,by decide,List.nodup_nil,(fun _ h=>nomatch h),h⟩
theorem eK3{ns:Ns}{t:Str×List Str}{b:List Bool}{la lb:Bool}(h:PlP ns t b):SB 2 (mkS ns t.1 t.2 b (lnD la) (lnD lb)):=
 .inr ⟨ns,t.1,t.2,b,lnD la,lnD lb,rfl,(bT0 h.1).1,(bT0 h.1).2,(bR5 t h.2.1).1,(bR5 t h.2.1).2,dN4 b h.2.2,fE9 (.inl rfl),fJ2 (.inl rfl)⟩
theorem bB3{r:Nat}{G:DH}(h:aA8 G r):Wp (U0 [.ref r]) G fun x G'=>InP x∧Fr r G G':=by
 have bg:1000≤sizeLine:=by decide
 refine J3 (show Wp (aG9 [some (.ref r),none,none,none]) G _ from ?_)
 rw[fC5]
 refine m9.mpr<| Q5<| m7 (as:= [.ref r,.int 4]) rfl rfl<| aM0 h ⟨by decide,by decide⟩ fun k _ _ G1 f1=>?_
 refine m9.mpr<| aL8<| S8<| aD9 (x:=.int k) (y:=.int 0) rfl rfl<| bI1.mpr ⟨_,rfl,fun _=>?_,fun _=>N5.mpr ?_⟩
 · refine K9<| dL9 rfl (by decide) (by decide)<| d8 (a:= [.str aB1,noS,noS]) (G':=G1) rfl ⟨sz,f1.2.2,rfl,fun d hd G2 f2=>K5 ⟨?_,f1.trans f2⟩⟩
   rcases List.mem_cons.mp hd with rfl|hd
   ·exact bH0
   · rcases List.mem_cons.mp hd with rfl|hd
     ·exact dO7
     ·rw[List.mem_singleton.mp hd];exact dO7
 refine m9.mpr<| Q5<| m7 (as:= [.ref r]) rfl rfl<| (cL6 f1.2.2).mono ?_
 rintro _ G2 ⟨⟨ns,t,b,hp,rfl⟩,f2⟩
 refine m9.mpr<| aZ2.mpr<| wp_itW.mpr<| aJ4.mpr<| d8 (a:= [.int 3,.int 4]) (G':=G2) rfl ⟨sz,(aB5 j9).mpr ?_⟩
 have f3:Fr r G2 (G2++[.lst [.int 3,.int 4]]):=Fr.app f2.2.2
 have e3:(G2++[.lst [.int 3,.int 4]])[G2.length]? =some (.lst [.int 3,.int 4]):=j9
 have p3:G2.length≠r:=by have:=f2.lt;lia
 generalize G2++[DO.lst [.int 3,.int 4]]=G3 at *
 generalize G2.length=p at *
 refine aK8.mpr ⟨aQ0 e3,S5.mpr<| (eL1 (l:= [nsD ns,txD t,blD b]) f3.2.2 (.inl rfl) (show 3≤5 by decide)).mono ?_⟩
 rintro _ G4 ⟨⟨la,rfl⟩,f4⟩
 refine aK8.mpr ⟨aQ0 (f4.at p3 e3),S5.mpr<| (eL1 (l:= [nsD ns,txD t,blD b,lnD la]) f4.2.2 (.inr rfl) (show 4≤5 by decide)).mono ?_⟩
 rintro _ G5 ⟨⟨lb,rfl⟩,f5⟩
 refine aP6.mpr ⟨aQ0 (f5.at p3 (f4.at p3 e3)),?_⟩
 have ff:=f1.trans (f2.trans (f3.trans (f4.trans f5)))
 have f6:Fr r G5 (G5++[.lst [.str aB1,mkS ns t.1 t.2 b (lnD la) (lnD lb)]]):=Fr.app f5.2.2
 refine K9<| K6<| aJ4.mpr<| d8 (a:= [.str aB1,mkS ns t.1 t.2 b (lnD la) (lnD lb)]) (G':=G5) rfl ⟨sz,?_⟩
 have e6:(G5++[.lst [.str aB1,mkS ns t.1 t.2 b (lnD la) (lnD lb)]])[G5.length]? =some (.lst [.str aB1,mkS ns t.1 t.2 b (lnD la) (lnD lb)]):=j9
 generalize G5++[DO.lst [.str aB1,mkS ns t.1 t.2 b (lnD la) (lnD lb)]]=G6 at *
 refine R9<| u0<| K6<| d8 (a:=mkS ns t.1 t.2 b (lnD la) (lnD lb)) (G':=G6) rfl<| d8 (a:=evS) (G':=G6) rfl ?_
 obtain⟨kk,ek,ik⟩:=SB.eqN (G:=G6) (by decide) (eK3 (la:=la) (lb:=lb) hp) (dR7 (n:=0))
 by_cases e:mkS ns t.1 t.2 b (lnD la) (lnD lb)=evS
 · obtain rfl:=ik.mpr e
   exact bP1.mpr ⟨true,ek,G9.mpr<| d8 (a:=.int 0) (G':=G6) rfl<| (bS8 e6).mpr ⟨.str aB1,rfl,K5 ⟨bH0,ff.trans f6⟩⟩⟩
 · obtain rfl:kk=false:=by cases kk;rfl;exact absurd (ik.mp rfl) e
   exact bP1.mpr ⟨false,ek,G9.mpr<| d8 (a:=.int 1) (G':=G6) rfl<| (bS8 e6).mpr ⟨_,rfl,K5 ⟨.inr ⟨ns,t,b,la,lb,hp,rfl,e⟩,ff.trans f6⟩⟩⟩
def LsP(li:D):Prop:=li= .non∨∃fs m,li= .tup [.tup fs,m]∧fs.length≤1∧(∀x∈fs,InP x)∧InP m
def RsP(re:D):Prop:=re= .non∨∃(fs:List (Str×Bool×D)) (m:D),re= .tup [.tup (fs.map fdD),m]∧fs.length≤1∧(∀f∈fs,f.1= "a"∧InP f.2.2)∧InP m
def dP4(x:D):Prop:=∃ns t b li re,PlP ns t b∧LsP li∧RsP re∧x=mkS ns t.1 t.2 b li re
theorem fF7:aO8=m8 (K3 (cE .non) (q13 1)) (m8 (K3 (cE .non) (q13 2)) (m8 RL (m8 RR (o6 (d9 aG2 (q12 (fnX 1 R3) (q10 (c7 0) (q11))) (o4 (q10 (c7 1) (q10 (c7 2) (q11))))))))):=rfl
theorem dP0{m:Int}(h0:0≤m)(h1:m<2):(aD3 0 m.toNat).length≤1:=by unfold aD3;rw[List.length_map,List.length_range];lia
theorem fB8{r:Nat}{G:DH}(h:aA8 G r):Wp (RL [some (.ref r),some .non,some .non,none]) G fun fl G'=>(∃li,LsP li∧fl= .nx [some (.ref r),some li,some .non,none])∧Fr r G G':=by
 have bg:1000≤sizeLine:=by decide
 refine aL8<| S8<| K6<| m7 (as:= [.ref r,.int 3]) rfl rfl<| aM0 h ⟨by decide,by decide⟩ fun k _ _ G1 f1=>d8 (a:=.int 0) (G':=G1) rfl<| cB7.mpr ⟨_,rfl,fun _=>?_,fun _=>N5.mpr ⟨⟨.non,.inl rfl,rfl⟩,f1⟩⟩
 refine Q5<| aG4.mpr<| u0<| R9<| u0<| wp_comp.mpr<| eY7.mpr<| u0<| m7 (as:= [.ref r,.int 2]) rfl rfl<| aM0 f1.2.2 ⟨by decide,by decide⟩ fun m h0 h1 G2 f2=>G9.mpr<| (bR1 ⟨by lia,by lia⟩).mpr ?_
 have ln:=dP0 h0 h1
 refine⟨by show (aD3 0 m.toNat).length≤_;lia,(bZ9 (Fr r G2) (fun σ=>∃u,σ= [u,some (.ref r)]) (fun _ y=>InP y) (fun _ _=>rfl) _ _ G2 ⟨_,rfl⟩ (Fr.refl f2.2.2) ?_).mono ?_⟩
 · rintro d hd _ G3 ⟨v,rfl⟩ jj
   exact S5.mpr ⟨rfl,⟨_,rfl⟩,m7 (as:= [.ref r]) rfl rfl<| (bB3 jj.2.2).mono fun x G4 ⟨hx,f4⟩=>⟨jj.trans f4,hx⟩⟩
 · rintro _ G3 ⟨f3,zs,e1,rfl,hz⟩
   have lz:(zs.map (·.2)).length≤1:=by
    have:=congrArg List.length e1
    rw[List.length_map]at this
    rw[List.length_map,this]
    exact ln
   have f4:Fr r G3 (G3++[.lst (zs.map (·.2))]):=Fr.app f3.2.2
   refine G9.mpr<| (aH4 j9).mpr ?_
   generalize G3++[DO.lst (zs.map (·.2))]=G4 at *
   refine u0<| m7 (as:= [.ref r]) rfl rfl<| (bB3 f4.2.2).mono ?_
   rintro x G5 ⟨hx,f5⟩
   exact G9.mpr ⟨sz,⟨_,.inr ⟨_,x,rfl,lz,fun y hy=>by
    obtain⟨z,hzm,rfl⟩:=List.mem_map.mp hy
    exact hz z hzm,hx⟩,rfl⟩,f1.trans (f2.trans (f3.trans (f4.trans f5)))⟩
theorem dL7:∀ {l:List D},(∀y∈l,∃k x,y=fdD ("a",k,x)∧InP x)→∃fs:List (Str×Bool×D),l=fs.map fdD∧fs.length=l.length∧∀f∈fs,f.1= "a"∧InP f.2.2
 |[],_=>⟨[],rfl,rfl,fun _ h=>nomatch h⟩
 |y::r,h=>by
   obtain⟨k,x,rfl,hx⟩:=h y (List.mem_cons_self ..)
   obtain⟨fs,rfl,hl,hf⟩:=dL7 fun z hz=>h z (List.mem_cons_of_mem _ hz)
   refine⟨("a",k,x)::fs,rfl,by rw[List.length_cons,List.length_cons,hl],fun f hm=>?_⟩
   rcases List.mem_cons.mp hm with rfl|hm
   ·exact⟨rfl,hx⟩
   ·exact hf f hm
theorem fG1{r:Nat}{li:D}{G:DH}(h:aA8 G r):Wp (RR [some (.ref r),some li,some .non,none]) G fun fl G'=>(∃re u,RsP re∧fl= .nx [some (.ref r),some li,some re,u])∧Fr r G G':=by
 have bg:1000≤sizeLine:=by decide
 refine aL8<| S8<| K6<| m7 (as:= [.ref r,.int 3]) rfl rfl<| aM0 h ⟨by decide,by decide⟩ fun k _ _ G1 f1=>d8 (a:=.int 0) (G':=G1) rfl<| cB7.mpr ⟨_,rfl,fun _=>?_,fun _=>N5.mpr ⟨⟨.non,none,.inl rfl,rfl⟩,f1⟩⟩
 refine m9.mpr<| Q5<| wp_comp.mpr<| eY7.mpr<| u0<| m7 (as:= [.ref r,.int 2]) rfl rfl<| aM0 f1.2.2 ⟨by decide,by decide⟩ fun m h0 h1 G2 f2=>G9.mpr<| (bR1 ⟨by lia,by lia⟩).mpr ?_
 have ln:=dP0 h0 h1
 refine⟨by show (aD3 0 m.toNat).length≤_;lia,(bZ9 (Fr r G2) (fun σ=>∃u,σ= [u,some (.ref r)]) (fun _ y=>∃k x,y=fdD ("a",k,x)∧InP x) (fun _ _=>rfl) _ _ G2 ⟨_,rfl⟩ (Fr.refl f2.2.2) ?_).mono ?_⟩
 · rintro d hd _ G3 ⟨v,rfl⟩ jj
   refine S5.mpr ⟨rfl,⟨_,rfl⟩,aG4.mpr<| aD2 (x:=.str "a") (G1:=G3) rfl<| u0<| K6<| m7 (as:= [.ref r,.int 2]) rfl rfl<| aM0 jj.2.2 ⟨by decide,by decide⟩ fun i _ _ G4 f4=>d8 (a:=.int 1) (G':=G4) rfl<| bI1.mpr<| u0<| m7 (as:= [.ref r]) rfl rfl<| (bB3 f4.2.2).mono ?_⟩
   rintro x G5 ⟨hx,f5⟩
   exact G9.mpr ⟨sz,jj.trans (f4.trans f5),_,x,rfl,hx⟩
 · rintro _ G3 ⟨f3,zs,e1,rfl,hz⟩
   have lz:(zs.map (·.2)).length≤1:=by
    have:=congrArg List.length e1
    rw[List.length_map]at this
    rw[List.length_map,this]
    exact ln
   obtain⟨fs,e2,hl,hf⟩:=dL7 (l:=zs.map (·.2)) fun y hy=>by
    obtain⟨z,hzm,rfl⟩:=List.mem_map.mp hy
    exact hz z hzm
   rw[e2]
   have f4:Fr r G3 (G3++[.lst (fs.map fdD)]):=Fr.app f3.2.2
   refine Q5<| aG4.mpr<| u0<| bL1 (as:= [.ref G3.length]) rfl<| (aH4 j9).mpr ?_
   generalize G3++[DO.lst (fs.map fdD)]=G4 at *
   refine u0<| m7 (as:= [.ref r]) rfl rfl<| (bB3 f4.2.2).mono ?_
   rintro x G5 ⟨hx,f5⟩
   exact G9.mpr ⟨sz,⟨_,_,.inr ⟨fs,x,rfl,by lia,hf,hx⟩,rfl⟩,f1.trans (f2.trans (f3.trans (f4.trans f5)))⟩
theorem cS4{r:Nat}{G:DH}(h:aA8 G r):Wp (U5 [.ref r]) G fun x G'=>dP4 x∧Fr r G G':=by
 have bg:1000≤sizeLine:=by decide
 refine J3 (show Wp (aO8 [some (.ref r),none,none,none]) G _ from ?_)
 rw[fF7]
 refine o7 (σ':= [some (.ref r),some .non,none,none]) (G':=G) rfl<| o7 (σ':= [some (.ref r),some .non,some .non,none]) (G':=G) rfl<| m9.mpr<| (fB8 h).mono ?_
 rintro _ G1 ⟨⟨li,hli,rfl⟩,f1⟩
 refine m9.mpr<| (fG1 f1.2.2).mono ?_
 rintro _ G2 ⟨⟨re,u,hre,rfl⟩,f2⟩
 refine K9<| K6<| m7 (as:= [.ref r]) rfl rfl<| (cL6 f2.2.2).mono ?_
 rintro _ G3 ⟨⟨ns,t,b,hp,rfl⟩,f3⟩
 exact d8 (a:=.tup [li,re]) (G':=G3) rfl<| (bN0 (show 3+2≤_ by lia)).mpr<| K5 ⟨⟨ns,t,b,li,re,hp,hli,hre,rfl⟩,f1.trans (f2.trans f3)⟩
theorem cM4{r:Nat}{x:D}{G:DH}(h:aA8 G r)(hx:dP4 x):Wp (T4 [.ref r,x]) G fun y G'=>dP4 y∧Fr r G G':=by
 have bg:1000≤sizeLine:=by decide
 obtain⟨ns,t,b,li,re,hp,hl,hr,rfl⟩:=hx
 refine J3 (show Wp (aH0 [some (.ref r),some (mkS ns t.1 t.2 b li re),none]) G _ from ?_)
 unfold aH0
 refine m9.mpr<| Q5<| m7 (as:= [.ref r,.int 5]) rfl rfl<| aM0 h ⟨by decide,by decide⟩ fun k h0 h5 G1 f1=>?_
 refine K9<| K6<| K6<| aN2.mpr<| d8 (a:=mkS ns t.1 t.2 b li re) (G':=G1) rfl<| d8 (a:=none) (G':=G1) rfl<| d8 (a:=some k) (G':=G1) rfl<| cE1.mpr<| aN2.mpr<| m7 (as:= [.ref r]) rfl rfl<| (cS4 f1.2.2).mono ?_
 rintro _ G2 ⟨⟨ns',t',b',li',re',hp',hl',hr',rfl⟩,f2⟩
 have c1:=cH5 [.tup (ns.map stD),.tup [.str t.1,.tup (t.2.map D.str)],.tup (b.map D.bl),li,re] none (some k)
 have c2:=cH5 [.tup (ns'.map stD),.tup [.str t'.1,.tup (t'.2.map D.str)],.tup (b'.map D.bl),li',re'] (some k) (some (k+1))
 have c3:=cH5 [.tup (ns.map stD),.tup [.str t.1,.tup (t.2.map D.str)],.tup (b.map D.bl),li,re] (some (k+1)) none
 simp only[List.length_cons,List.length_nil]at c1 c2 c3
 refine d8 (a:=some k) (G':=G2) rfl<| d8 (a:=some (k+1)) (G':=G2) rfl<| cE1.mpr<| (bN0 (by lia)).mpr<| aN2.mpr<| d8 (a:=mkS ns t.1 t.2 b li re) (G':=G2) rfl<| d8 (a:=some (k+1)) (G':=G2) rfl<| d8 (a:=none) (G':=G2) rfl<| cE1.mpr<| (bN0 (by rw[List.length_append];lia)).mpr<| K5 ⟨?_,f1.trans f2⟩
 have hk:k=0∨k=1∨k=2∨k=3∨k=4:=by lia
 rcases hk with rfl|rfl|rfl|rfl|rfl
 ·exact⟨ns',t,b,li,re,⟨hp'.1,hp.2⟩,hl,hr,rfl⟩
 ·exact⟨ns,t',b,li,re,⟨hp.1,hp'.2.1,hp.2.2⟩,hl,hr,rfl⟩
 ·exact⟨ns,t,b',li,re,⟨hp.1,hp.2.1,hp'.2.2⟩,hl,hr,rfl⟩
 ·exact⟨ns,t,b,li',re,hp,hl',hr,rfl⟩
 ·exact⟨ns,t,b,li,re',hp,hl,hr',rfl⟩
theorem InP.sb{d:D}(h:InP d):SB 2 d:=by
 rcases h with rfl|⟨ns,t,b,la,lb,hp,rfl,_⟩
 ·exact .inl rfl
 ·exact eK3 hp
theorem LsP.li{d:D}(h:LsP d):LiP (SB 2) d:=by
 rcases h with rfl|⟨fs,m,rfl,hl,hf,hm⟩
 ·exact .inl rfl
 ·exact .inr ⟨fs,m,rfl,by lia,fun x hx=>(hf x hx).sb,hm.sb⟩
theorem RsP.re{d:D}(h:RsP d):ReP (SB 2) d:=by
 rcases h with rfl|⟨fs,m,rfl,hl,hf,hm⟩
 ·exact .inl rfl
 · refine .inr ⟨fs,m,rfl,by lia,?_,fun f hx=>⟨?_,(hf f hx).2.sb⟩,hm.sb⟩
   · rcases fs with _|⟨f,_|⟨g,r⟩⟩
     ·exact List.nodup_nil
     ·exact List.nodup_cons.mpr ⟨fun h=>(nomatch h),List.nodup_nil⟩
     ·rw[List.length_cons,List.length_cons]at hl;lia
   ·rw[(hf f hx).1];decide
theorem bU3{ns:Ns}{t:Str×List Str}{b:List Bool}{li re:D}{G:DH}(hp:PlP ns t b)(hl:LiP (SB 2) li)(hr:ReP (SB 2) re):Wp (T8 [mkS ns t.1 t.2 b li re]) G fun x G'=>bJ9 (mkS ns t.1 t.2 b li re) x∧SB 3 x∧Ap G G':=by
 refine J3 (show Wp (aK3 [some (mkS ns t.1 t.2 b li re)]) G _ from ?_)
 unfold aK3
 refine K9<| m7 (as:= [.tup (ns.map stD),.tup [.str t.1,.tup (t.2.map D.str)],.tup (b.map D.bl),li,re]) rfl rfl<| (cW2 (k:=2) (by decide) (bT0 hp.1).1 (bT0 hp.1).2 (bR5 t hp.2.1).1 (bR5 t hp.2.1).2 (dN4 b hp.2.2) hl hr).mono ?_
 rintro x G1 ⟨a1,hm,hs⟩
 exact K5 ⟨hm,hs,a1⟩
theorem bJ9.same{ns:List (D×D)}{w:Str}{ts:List Str}{tr:List Bool}{li re li2 re2 x y:D}(h:bJ9 (mkS ns w ts tr li re) x)(k:bJ9 (mkS ns w ts tr li2 re2) y)(hl:∀a b,LiF li a→LiF li2 b→a=b)(hr:∀a b,ReF re a→ReF re2 b→a=b):x=y:=by
 obtain⟨ns1,w1,ts1,tr1,l1,r1,l1',r1',e1,a1,b1,c1⟩:=h
 obtain⟨ns2,w2,ts2,tr2,l2,r2,l2',r2',e2,a2,b2,c2⟩:=k
 obtain⟨en,ew,et,eb,el,er⟩:=bF2 e1
 obtain⟨en',ew',et',eb',el',er'⟩:=bF2 e2
 subst el er el' er' ew ew'
 have z1:=hl _ _ a1 a2
 have z2:=hr _ _ b1 b2
 subst z1 z2
 have e:mkS ns1 w ts1 tr1 l1' r1'=mkS ns2 w ts2 tr2 l1' r1':=by unfold mkS;rw[←en,←et,←eb,en',et',eb']
 rw[←e]at c2
 rcases c1 with⟨u,rfl⟩|⟨u,rfl⟩<;>rcases c2 with⟨v,rfl⟩|⟨v,rfl⟩
 ·rfl
 ·exact absurd u v
 ·exact absurd v u
 ·rfl
def OtL(li li':D):Prop:=li'=li∨(li= .non∧∃fs m,li'= .tup [.tup fs,m]∧noS∈fs)
theorem LiF.one{li a b:D}(h:LiF li a)(k:LiF li b):a=b:=by
 rcases h with⟨rfl,rfl⟩|⟨fs,m,rfl,h⟩
 · rcases k with⟨_,rfl⟩|⟨fs,m,e,_⟩
   ·rfl
   ·cases e
 · rcases k with⟨e,_⟩|⟨fs',m',e,k⟩
   ·cases e
   · cases e
     rcases h with⟨p,rfl⟩|⟨p,rfl⟩<;>rcases k with⟨q,rfl⟩|⟨q,rfl⟩
     ·rfl
     ·exact absurd p q
     ·exact absurd q p
     ·rfl
theorem OtL.same{li li' a b:D}(o:OtL li li')(h:LiF li a)(k:LiF li' b):a=b:=by
 rcases o with rfl|⟨rfl,fs,m,rfl,hn⟩
 ·exact h.one k
 · rcases h with⟨_,rfl⟩|⟨_,_,e,_⟩
   · rcases k with⟨e,_⟩|⟨fs',m',e,k⟩
     ·cases e
     · cases e
       rcases k with⟨_,rfl⟩|⟨q,_⟩
       ·rfl
       ·exact absurd hn q
   ·cases e
def OtR(re re':D):Prop:=re'=re∨(re= .non∧∃(fs:List (Str×Bool×D)) (m:D),re'= .tup [.tup (fs.map fdD),m]∧∃f∈fs,f.2.1=true∧f.2.2=noS)
 ∨∃(fs gs fs':List (Str×Bool×D)) (m:D),re= .tup [.tup (fs.map fdD),m]∧re'= .tup [.tup (fs'.map fdD),m]∧fs'.Perm (fs++gs)∧(∀g∈gs,dZ1 m g)∧fs.length≤1
theorem dS9{α:Type}{l k:List α}(h:l.Perm k)(hk:k.length≤1):l=k:=by
 rcases k with _|⟨x,_|⟨y,r⟩⟩
 ·exact h.eq_nil
 ·exact List.perm_singleton.mp h
 ·rw[List.length_cons,List.length_cons]at hk;lia
theorem aW8{fs gs:List (Str×Bool×D)}(h:fs.map fdD=gs.map fdD):fs=gs:=cH0 (fun _ _=>eP9) h
theorem dB5{fs gs fs':List (Str×Bool×D)}{m a b:D}(hp:fs'.Perm (fs++gs))(hg:∀g∈gs,dZ1 m g)(hl:fs.length≤1)(h:ReF (.tup [.tup (fs.map fdD),m]) a)(k:ReF (.tup [.tup (fs'.map fdD),m]) b):a=b:=by
 rcases h with⟨e,_⟩|⟨f1,m1,e,h⟩
 ·cases e
 rcases k with⟨e',_⟩|⟨f2,m2,e',k⟩
 ·cases e'
 injection e with e;injection e with e1 e2;injection e1 with e1;injection e2 with e2 _
 injection e' with e';injection e' with e1' e2';injection e1' with e1';injection e2' with e2' _
 obtain rfl:=aW8 e1
 obtain rfl:=aW8 e1'
 subst e2 e2'
 have hm:∀f,f∈fs'↔f∈fs∨f∈gs:=fun f=>hp.mem_iff.trans List.mem_append
 rcases h with⟨⟨f,hf,p1,p2⟩,rfl⟩|⟨p,pf,hpf,rfl⟩
 · rcases k with⟨_,rfl⟩|⟨q,_⟩
   ·rfl
   ·exact absurd p2 (q f ((hm f).mpr (.inl hf)) p1)
 · rcases k with⟨⟨f,hf,p1,p2⟩,_⟩|⟨q,qf,hqf,rfl⟩
   · rcases (hm f).mp hf with z|z
     ·exact absurd p2 (p f z p1)
     ·have:=(hg f z).1;rw[p1]at this;cases this
   · have e3:fs'.filter qf=fs.filter pf:=by
      have h1:(fs'.filter qf).Perm ((fs++gs).filter qf):=hp.filter qf
      have h2:(fs++gs).filter qf=fs.filter pf:=by
       rw[List.filter_append]
       have h3:gs.filter qf= []:=List.filter_eq_nil_iff.mpr fun g hgm=>by
        rw[(hqf g ((hm g).mpr (.inr hgm))).mpr (hg g hgm)];decide
       rw[h3,List.append_nil]
       refine List.filter_congr fun f hf=>?_
       have i1:=hpf f hf
       have i2:=hqf f ((hm f).mpr (.inl hf))
       cases e4:qf f<;>cases e5:pf f
       ·rfl
       ·have:=i1.mpr (i2.mp e4);rw[e5]at this;cases this
       ·have:=i2.mpr (i1.mp e5);rw[e4]at this;cases this
       ·rfl
      rw[h2]at h1
      exact dS9 h1 (Nat.le_trans (List.length_filter_le ..) hl)
     rw[e3]
theorem OtR.same{re re' a b:D}(o:OtR re re')(hs:RsP re)(h:ReF re a)(k:ReF re' b):a=b:=by
 rcases o with rfl|⟨rfl,fs,m,rfl,f,hf,p1,p2⟩|⟨fs,gs,fs',m,rfl,rfl,hp,hg,hl⟩
 · rcases hs with rfl|⟨fs,m,rfl,hl,_,_⟩
   · rcases h with⟨_,rfl⟩|⟨_,_,e,_⟩
     · rcases k with⟨_,rfl⟩|⟨_,_,e,_⟩
       ·rfl
       ·cases e
     ·cases e
   ·exact dB5 (gs:= []) (by rw[List.append_nil]) (fun _ h=>nomatch h) hl h k
 · rcases h with⟨_,rfl⟩|⟨_,_,e,_⟩
   · rcases k with⟨e,_⟩|⟨f2,m2,e',k⟩
     ·cases e
     · injection e' with e';injection e' with e1' e2';injection e1' with e1';injection e2' with e2' _
       obtain rfl:=aW8 e1'
       rcases k with⟨_,rfl⟩|⟨q,_⟩
       ·rfl
       ·exact absurd p2 (q f hf p1)
   ·cases e
 ·exact dB5 hp hg hl h k
theorem cC4{α β:Type}{f:α→β}:∀ {l:List α},(l.map f).Nodup→∀a∈l,∀b∈l,f a=f b→a=b
 |[],_,a,ha,_,_,_=>nomatch ha
 |x::r,h,a,ha,b,hb,e=>by
   obtain⟨h1,h2⟩:=List.nodup_cons.mp (show (f x::r.map f).Nodup from h)
   rcases List.mem_cons.mp ha with ea|ha'
   · rcases List.mem_cons.mp hb with eb|hb'
     ·rw[ea,eb]
     ·exact absurd (List.mem_map.mpr ⟨b,hb',by rw[←e,ea]⟩) h1
   · rcases List.mem_cons.mp hb with eb|hb'
     ·exact absurd (List.mem_map.mpr ⟨a,ha',by rw[e,eb]⟩) h1
     ·exact cC4 h2 a ha' b hb' e
noncomputable def vI:List Int:= [-2, -1,0,1,2,3]
noncomputable def vS:List Str:= ["", "a", "q"]
noncomputable def eL:D:=.tup [.str aT5,.tup []]
noncomputable def eR:D:=.tup [.str dG6,.tup []]
def J0:List D:=vI.map D.int++vS.map D.str++[.bl false,.bl true,eL,eR]
def nK(ns:Ns):List Bool:=vI.map fun i=>(ns.map stD).any (cI3 i)
def tK(t:Str×List Str):List Bool:=vS.map fun z=>inV (.str z) ((t.2.map D.str).map toV)==(t.1==wOf)
def bK(b:List Bool):List Bool:= [inV (.bl false) ((b.map D.bl).map toV),inV (.bl true) ((b.map D.bl).map toV)]
theorem fL5:(N8.map nK).Nodup:=by decide +kernel
theorem fP1:(T7.map tK).Nodup:=by decide +kernel
theorem fL3:(B4.map bK).Nodup:=by decide +kernel
theorem bY8{n:Nat}{ns ns':Ns}{t t':Str×List Str}{b b':List Bool}{li re li' re':D}(h:PlP ns t b)(h':PlP ns' t' b')(e:∀v∈J0,inP (n+1) v (mkS ns t.1 t.2 b li re)=inP (n+1) v (mkS ns' t'.1 t'.2 b' li' re')):ns=ns'∧t=t'∧b=b':=by
 refine⟨cC4 fL5 _ h.1 _ h'.1 ?_,cC4 fP1 _ h.2.1 _ h'.2.1 ?_,cC4 fL3 _ h.2.2 _ h'.2.2 ?_⟩
 · refine List.map_congr_left fun i hi=>?_
   exact e (.int i) (List.mem_append_left _ (List.mem_append_left _ (List.mem_map.mpr ⟨i,hi,rfl⟩)))
 · refine List.map_congr_left fun z hz=>?_
   exact e (.str z) (List.mem_append_left _ (List.mem_append_right _ (List.mem_map.mpr ⟨z,hz,rfl⟩)))
 · have e1:=e (.bl false) (List.mem_append_right _ (List.mem_cons_self ..))
   have e2:=e (.bl true) (List.mem_append_right _ (List.mem_cons_of_mem _ (List.mem_cons_self ..)))
   rw[dK0,dK0]at e1 e2
   unfold bK
   rw[e1,e2]
theorem eJ9{n:Nat}{ns:Ns}{w:Str}{ts:List Str}{b:List Bool}{la:Bool}{re:D}:inP (n+2) eL (mkS ns w ts b (lnD la) re)=la:=by
 unfold eL;rw[bO3];cases la<;>rfl
theorem eM5{n:Nat}{ns:Ns}{w:Str}{ts:List Str}{b:List Bool}{lb:Bool}{li:D}:inP (n+2) eR (mkS ns w ts b li (lnD lb))=lb:=by
 unfold eR;rw[bU4];cases lb<;>rfl
theorem dU4:eL∈J0:=List.mem_append_right _ (List.mem_cons_of_mem _ (List.mem_cons_of_mem _ (List.mem_cons_self ..)))
theorem dJ6:eR∈J0:=List.mem_append_right _ (List.mem_cons_of_mem _ (List.mem_cons_of_mem _ (List.mem_cons_of_mem _ (List.mem_cons_self ..))))
theorem cS2{n:Nat}{ns ns':Ns}{t t':Str×List Str}{b b':List Bool}{la lb la' lb':Bool}(h:PlP ns t b)(h':PlP ns' t' b')(e:∀v∈J0,inP (n+2) v (mkS ns t.1 t.2 b (lnD la) (lnD lb))=inP (n+2) v (mkS ns' t'.1 t'.2 b' (lnD la') (lnD lb'))):mkS ns t.1 t.2 b (lnD la) (lnD lb)=mkS ns' t'.1 t'.2 b' (lnD la') (lnD lb'):=by
 obtain⟨rfl,rfl,rfl⟩:=bY8 h h' e
 have e1:=e eL dU4
 have e2:=e eR dJ6
 rw[eJ9,eJ9]at e1
 rw[eM5,eM5]at e2
 rw[e1,e2]
theorem cZ7:PlP [(.non,.non)] (cI9, []) [false,true]:=⟨List.Mem.tail _ (List.Mem.head _),List.Mem.tail _ (List.Mem.head _),List.Mem.tail _ (List.Mem.tail _ (List.Mem.tail _ (List.Mem.head _)))⟩
theorem dT4{n:Nat}:∀v∈J0,inP (n+2) v evS=true:=by
 intro v hv
 simp only[J0,vI,vS,List.map_cons,List.map_nil,List.cons_append,List.nil_append,List.mem_cons,List.not_mem_nil,or_false]at hv
 rcases hv with rfl|rfl|rfl|rfl|rfl|rfl|rfl|rfl|rfl|rfl|rfl|rfl|rfl<;>rfl
theorem W9{n:Nat}{x y:D}(hx:InP x)(hy:InP y)(e:∀v∈J0,inP (n+2) v x=inP (n+2) v y):x=y:=by
 rcases hx with rfl|⟨ns,t,b,la,lb,hp,rfl,ne⟩<;>rcases hy with rfl|⟨ns',t',b',la',lb',hp',rfl,ne'⟩
 ·rfl
 · refine absurd (Eq.symm (cS2 (n:=n) (la:=true) (lb:=true) cZ7 hp' fun v hv=>?_)) ne'
   rw[←e v hv]
   exact dT4 (n:=n) v hv
 · refine absurd (cS2 (n:=n) (la':=true) (lb':=true) hp cZ7 fun v hv=>?_) ne
   rw[e v hv]
   exact(dT4 (n:=n) v hv).symm
 ·exact cS2 hp hp' e
theorem cL2{n:Nat}{x:D}(hx:InP x)(ne:x≠noS):∃v∈J0,inP (n+2) v x=true:=by
 refine Classical.byContradiction fun h=>ne (W9 (n:=n) hx dO7 fun v hv=>?_)
 have h1:inP (n+2) v x=false:=by
  cases e:inP (n+2) v x
  ·rfl
  ·exact absurd ⟨v,hv,e⟩ h
 rw[h1]
 simp only[J0,vI,vS,List.map_cons,List.map_nil,List.cons_append,List.nil_append,List.mem_cons,List.not_mem_nil,or_false]at hv
 rcases hv with rfl|rfl|rfl|rfl|rfl|rfl|rfl|rfl|rfl|rfl|rfl|rfl|rfl<;>rfl
section
variable{f:D→D→Bool}{x m o p:D}
theorem cW7:aH6 f [] (.tup [.tup [],m])=true:=rfl
theorem eM1:aH6 f [] (.tup [.tup [x],m])=false:=rfl
theorem dN1:aH6 f [o] (.tup [.tup [],m])=f o m:=by show (true&&(f o m&&true))=_;rw[Bool.true_and,Bool.and_true]
theorem bZ3:aH6 f [o] (.tup [.tup [x],m])=f o x:=by show (true&&(f o x&&true))=_;rw[Bool.true_and,Bool.and_true]
theorem dV6:aH6 f [o,p] (.tup [.tup [x],m])= (f o x&&f p m):=by show (true&&(f o x&&(f p m&&true)))=_;rw[Bool.true_and,Bool.and_true]
end
inductive LsN:D→Prop
 |non:LsN .non
 |all (m:D) (h:InP m):LsN (.tup [.tup [],m])
 |one (x m:D) (hx:InP x) (ne:x≠noS) (h:InP m):LsN (.tup [.tup [x],m])
theorem LsP.nf{li li':D}(h:LsP li)(k:LiF li li'):LsN li':=by
 rcases h with rfl|⟨fs,m,rfl,hl,hf,hm⟩
 · rcases k with⟨_,rfl⟩|⟨_,_,e,_⟩
   ·exact .non
   ·cases e
 · rcases k with⟨e,_⟩|⟨fs',m',e,k⟩
   ·cases e
   · cases e
     rcases k with⟨_,rfl⟩|⟨q,rfl⟩
     ·exact .non
     · rcases fs with _|⟨x,_|⟨y,r⟩⟩
       ·exact .all m hm
       ·exact .one x m (hf x (List.mem_cons_self ..)) (fun z=>q (z▸List.mem_cons_self ..)) hm
       ·rw[List.length_cons,List.length_cons]at hl;lia
theorem dG0{n:Nat}{a b:D}(ha:LsN a)(hb:LsN b)(e0:aH6 (inP (n+2)) [] a=aH6 (inP (n+2)) [] b)(e1:∀o∈J0,aH6 (inP (n+2)) [o] a=aH6 (inP (n+2)) [o] b)(e2:∀o∈J0,∀p∈J0,aH6 (inP (n+2)) [o,p] a=aH6 (inP (n+2)) [o,p] b):a=b:=by
 rcases ha with _|⟨m,hm⟩|⟨x,m,hx,ne,hm⟩<;>rcases hb with _|⟨m',hm'⟩|⟨x',m',hx',ne',hm'⟩
 ·rfl
 ·rw[cW7]at e0;cases e0
 · obtain⟨v,hv,z⟩:=cL2 (n:=n) hx' ne'
   have:=e1 v hv
   rw[bZ3,z]at this;cases this
 ·rw[cW7]at e0;cases e0
 ·rw[W9 (n:=n) hm hm' fun v hv=>by have:=e1 v hv;rwa [dN1,dN1]at this]
 ·rw[cW7,eM1]at e0;cases e0
 · obtain⟨v,hv,z⟩:=cL2 (n:=n) hx ne
   have:=e1 v hv
   rw[bZ3,z]at this;cases this
 ·rw[cW7,eM1]at e0;cases e0
 · obtain rfl:=W9 (n:=n) hx hx' fun v hv=>by have:=e1 v hv;rwa [bZ3,bZ3]at this
   obtain⟨v,hv,z⟩:=cL2 (n:=n) hx ne
   rw[W9 (n:=n) hm hm' fun p hp=>by have:=e2 v hv p hp;rwa [dV6,dV6,z,Bool.true_and,Bool.true_and]at this]
noncomputable def fa(o:D):D:=.tup [.str "a",o]
noncomputable def fc(o:D):D:=.tup [.str "c",o]
section
variable{f:D→D→Bool}{x m o p:D}{k:Bool}
theorem eU9:W8 f [] (.tup [.tup [],m])=true:=rfl
theorem dA9:W8 f [fa o] (.tup [.tup [],m])=f o m:=by show (true&&(f o m&&true))=_;rw[Bool.true_and,Bool.and_true]
theorem eL3:W8 f [fc o] (.tup [.tup [],m])=f o m:=by show (true&&(f o m&&true))=_;rw[Bool.true_and,Bool.and_true]
theorem eI3:W8 f [] (.tup [.tup [fdD ("a",k,x)],m])= !k:=by cases k<;>rfl
theorem cA2:W8 f [fa o] (.tup [.tup [fdD ("a",k,x)],m])=f o x:=by
 show ((true||!k)&&true&&(f o x&&true))=_
 rw[Bool.true_or,Bool.and_true,Bool.true_and,Bool.and_true]
theorem dM4:W8 f [fc o] (.tup [.tup [fdD ("a",k,x)],m])= (!k&&f o m):=by
 show ((false||!k)&&true&&(f o m&&true))=_
 rw[Bool.false_or,Bool.and_true,Bool.and_true]
theorem dW4{p:D}:W8 f [fa o,fc p] (.tup [.tup [fdD ("a",k,x)],m])= (f o x&&f p m):=by
 show ((true||!k)&&true&&(f o x&&(f p m&&true)))=_
 rw[Bool.true_or,Bool.and_true,Bool.true_and,Bool.and_true]
end
inductive RsN:D→Prop
 |non:RsN .non
 |all (m:D) (h:InP m):RsN (.tup [.tup [],m])
 |one (k:Bool) (x m:D) (hx:InP x) (ne:k=true→x≠noS) (ng:k=false→x≠m) (h:InP m):RsN (.tup [.tup [fdD ("a",k,x)],m])
theorem RsP.nf{re re':D}(h:RsP re)(q:ReF re re'):RsN re':=by
 rcases h with rfl|⟨fs,m,rfl,hl,hf,hm⟩
 · rcases q with⟨_,rfl⟩|⟨_,_,e,_⟩
   ·exact .non
   ·cases e
 · rcases q with⟨e,_⟩|⟨fs',m',e',q⟩
   ·cases e
   · injection e' with e';injection e' with e1' e2';injection e1' with e1';injection e2' with e2' _
     obtain rfl:=aW8 e1'
     subst e2'
     rcases q with⟨_,rfl⟩|⟨q,pf,hpf,rfl⟩
     ·exact .non
     · rcases fs with _|⟨g,_|⟨y,r⟩⟩
       ·exact .all m hm
       · obtain⟨nm,k,x⟩:=g
         obtain⟨e3,hx⟩:=hf _ (List.mem_cons_self ..)
         simp only at e3 hx
         subst e3
         have hg:=hpf _ (List.mem_cons_self ..)
         rcases e4:pf ("a",k,x)with _|_
         · rw[List.filter_cons_of_neg (by rw[e4];decide)]
           exact .all m hm
         · rw[List.filter_cons_of_pos e4]
           refine .one k x m hx (fun z=>q _ (List.mem_cons_self ..) z) (fun z w=>?_) hm
           have:=hg.mpr ⟨z,w⟩
           rw[e4]at this;cases this
       ·rw[List.length_cons,List.length_cons]at hl;lia
theorem cN3{n:Nat}{a b:D}(ha:RsN a)(hb:RsN b)(e0:W8 (inP (n+2)) [] a=W8 (inP (n+2)) [] b)(e1:∀o∈J0,W8 (inP (n+2)) [fa o] a=W8 (inP (n+2)) [fa o] b)(e2:∀o∈J0,W8 (inP (n+2)) [fc o] a=W8 (inP (n+2)) [fc o] b)(e3:∀o∈J0,∀p∈J0,W8 (inP (n+2)) [fa o,fc p] a=W8 (inP (n+2)) [fa o,fc p] b):a=b:=by
 have mixed:∀ {m m' x':D} {k':Bool},InP m→InP m'→InP x'→(k'=false→x'≠m')→W8 (inP (n+2)) [] (.tup [.tup [],m])=W8 (inP (n+2)) [] (.tup [.tup [fdD ("a",k',x')],m'])→(∀o∈J0,W8 (inP (n+2)) [fa o] (.tup [.tup [],m])=W8 (inP (n+2)) [fa o] (.tup [.tup [fdD ("a",k',x')],m']))→(∀o∈J0,W8 (inP (n+2)) [fc o] (.tup [.tup [],m])=W8 (inP (n+2)) [fc o] (.tup [.tup [fdD ("a",k',x')],m']))→False:=by
  intro m m' x' k' hm hm' hx' ng' e0 e1 e2
  rw[eU9,eI3]at e0
  obtain rfl:k'=false:=by cases k';rfl;cases e0
  have z1:=W9 (n:=n) hm hm' fun v hv=>by have:=e2 v hv;rwa [eL3,dM4,Bool.not_false,Bool.true_and]at this
  have z2:=W9 (n:=n) hm hx' fun v hv=>by have:=e1 v hv;rwa [dA9,cA2]at this
  exact ng' rfl (z2.symm.trans z1)
 have nomix:∀ {m x:D} {k:Bool},InP x→(k=true→x≠noS)→W8 (inP (n+2)) [] (.tup [.tup [fdD ("a",k,x)],m])=false→(∀o∈J0,W8 (inP (n+2)) [fa o] (.tup [.tup [fdD ("a",k,x)],m])=false)→False:=by
  intro m x k hx ne e0 e1
  rw[eI3]at e0
  obtain rfl:k=true:=by cases k;cases e0;rfl
  obtain⟨v,hv,z⟩:=cL2 (n:=n) hx (ne rfl)
  have:=e1 v hv
  rw[cA2,z]at this;cases this
 rcases ha with _|⟨m,hm⟩|⟨k,x,m,hx,ne,ng,hm⟩<;>rcases hb with _|⟨m',hm'⟩|⟨k',x',m',hx',ne',ng',hm'⟩
 ·rfl
 ·rw[eU9]at e0;cases e0
 ·exact(nomix hx' ne' e0.symm fun o ho=>(e1 o ho).symm).elim
 ·rw[eU9]at e0;cases e0
 ·rw[W9 (n:=n) hm hm' fun v hv=>by have:=e1 v hv;rwa [dA9,dA9]at this]
 ·exact(mixed hm hm' hx' ng' e0 e1 e2).elim
 ·exact(nomix hx ne e0 e1).elim
 ·exact(mixed hm' hm hx ng e0.symm (fun o ho=>(e1 o ho).symm) (fun o ho=>(e2 o ho).symm)).elim
 · obtain rfl:k=k':=by
    rw[eI3,eI3]at e0
    cases k<;>cases k'<;>first|rfl|cases e0
   obtain rfl:=W9 (n:=n) hx hx' fun v hv=>by have:=e1 v hv;rwa [cA2,cA2]at this
   have em:m=m':=by
    rcases k with _|_
    ·exact W9 (n:=n) hm hm' fun v hv=>by have:=e2 v hv;rwa [dM4,dM4,Bool.not_false,Bool.true_and,Bool.true_and]at this
    · obtain⟨v,hv,z⟩:=cL2 (n:=n) hx (ne rfl)
      exact W9 (n:=n) hm hm' fun p hp=>by have:=e3 v hv p hp;rwa [dW4,dW4,z,Bool.true_and,Bool.true_and]at this
   rw[em]
noncomputable def lsV(l:List D):D:=.tup [.str aT5,.tup l]
noncomputable def rcV(l:List D):D:=.tup [.str dG6,.tup l]
def v1(o:D):List D:= [lsV [o],rcV [fa o],rcV [fc o]]
def v2(o p:D):List D:= [lsV [o,p],rcV [fa o,fc p]]
def VV1:List D:=J0.flatMap v1
def VV2:List D:=J0.flatMap fun o=>J0.flatMap (v2 o)
def R7:List D:=J0++VV1++VV2
section
variable{o p v:D}(ho:o∈J0)(hp:p∈J0)
include ho
theorem m_0:o∈R7:=List.mem_append_left _ (List.mem_append_left _ ho)
theorem m_1(h:v∈v1 o):v∈R7:=List.mem_append_left _ (List.mem_append_right _ (List.mem_flatMap.mpr ⟨o,ho,h⟩))
include hp
theorem m_2(h:v∈v2 o p):v∈R7:=List.mem_append_right _ (List.mem_flatMap.mpr ⟨o,ho,List.mem_flatMap.mpr ⟨p,hp,h⟩⟩)
end
theorem cF4{n:Nat}{ns ns':Ns}{t t':Str×List Str}{b b':List Bool}{li re li' re':D}(h:PlP ns t b)(h':PlP ns' t' b')(hl:LsN li)(hl':LsN li')(hr:RsN re)(hr':RsN re')(e:∀v∈R7,inP (n+3) v (mkS ns t.1 t.2 b li re)=inP (n+3) v (mkS ns' t'.1 t'.2 b' li' re')):mkS ns t.1 t.2 b li re=mkS ns' t'.1 t'.2 b' li' re':=by
 obtain⟨rfl,rfl,rfl⟩:=bY8 h h' fun v hv=>e v (m_0 hv)
 have ls:∀l,lsV l∈R7→aH6 (inP (n+2)) l li=aH6 (inP (n+2)) l li':=fun l hm=>by
  have:=e _ hm
  unfold lsV at this
  rwa [bO3,bO3]at this
 have rc:∀l,rcV l∈R7→W8 (inP (n+2)) l re=W8 (inP (n+2)) l re':=fun l hm=>by
  have:=e _ hm
  unfold rcV at this
  rwa [bU4,bU4]at this
 have e1:=dG0 (n:=n) hl hl' (ls [] (m_0 dU4)) (fun o ho=>ls _ (m_1 ho (List.mem_cons_self ..))) fun o ho p hp=>ls _ (m_2 ho hp (List.mem_cons_self ..))
 have e2:=cN3 (n:=n) hr hr' (rc [] (m_0 dJ6)) (fun o ho=>rc _ (m_1 ho (List.mem_cons_of_mem _ (List.mem_cons_self ..)))) (fun o ho=>rc _ (m_1 ho (List.mem_cons_of_mem _ (List.mem_cons_of_mem _ (List.mem_cons_self ..))))) fun o ho p hp=>rc _ (m_2 ho hp (List.mem_cons_of_mem _ (List.mem_cons_self ..)))
 rw[e1,e2]
theorem dV9{n:Nat}:∀v∈R7,inP (n+3) v evS=true:=by
 intro v hv
 rcases List.mem_append.mp hv with hv|hv
 · rcases List.mem_append.mp hv with hv|hv
   ·exact dT4 (n:=n+1) v hv
   · obtain⟨o,_,hv⟩:=List.mem_flatMap.mp hv
     simp only[v1,List.mem_cons,List.not_mem_nil,or_false]at hv
     rcases hv with rfl|rfl|rfl<;>rfl
 · obtain⟨o,_,hv⟩:=List.mem_flatMap.mp hv
   obtain⟨p,_,hv⟩:=List.mem_flatMap.mp hv
   simp only[v2,List.mem_cons,List.not_mem_nil,or_false]at hv
   rcases hv with rfl|rfl<;>rfl
def NfP(x:D):Prop:=x= .str aB1∨∃ns t b li re,PlP ns t b∧LsN li∧RsN re∧x=mkS ns t.1 t.2 b li re∧x≠evS
theorem dV7{n:Nat}{x y:D}(hx:NfP x)(hy:NfP y)(e:∀v∈R7,inP (n+3) v x=inP (n+3) v y):x=y:=by
 rcases hx with rfl|⟨ns,t,b,li,re,hp,hl,hr,rfl,ne⟩<;>rcases hy with rfl|⟨ns',t',b',li',re',hp',hl',hr',rfl,ne'⟩
 ·rfl
 · refine absurd (Eq.symm (cF4 (n:=n) cZ7 hp' (.all _ bH0) hl' (.all _ bH0) hr' fun v hv=>?_)) ne'
   rw[←e v hv]
   exact dV9 (n:=n) v hv
 · refine absurd (cF4 (n:=n) hp cZ7 hl (.all _ bH0) hr (.all _ bH0) fun v hv=>?_) ne
   rw[e v hv]
   exact(dV9 (n:=n) v hv).symm
 ·exact cF4 hp hp' hl hl' hr hr' e
theorem dK2{p x:D}(h:dP4 p)(k:bJ9 p x):NfP x:=by
 obtain⟨ns,t,b,li,re,hp,hl,hr,rfl⟩:=h
 obtain⟨ns1,w1,ts1,tr1,l1,r1,l1',r1',e1,a1,b1,c1⟩:=k
 obtain⟨en,ew,et,eb,el,er⟩:=bF2 e1
 subst el er ew
 have e:mkS ns1 t.1 ts1 tr1 l1' r1'=mkS ns t.1 t.2 b l1' r1':=by unfold mkS;rw[←en,←et,←eb]
 rw[e]at c1
 rcases c1 with⟨_,rfl⟩|⟨ne,rfl⟩
 ·exact .inl rfl
 ·exact .inr ⟨ns,t,b,l1',r1',hp,hl.nf a1,hr.nf b1,rfl,ne⟩
theorem fL1:aF1=m8 (K3 YP (q13 0)) (m8 (K3 (q12 aY8 (q10 (c7 0) (q11))) (q13 1)) (m8 (aS6 (itW (c7 0)) (q13 2) YA) (m8 (aS6 (itW (c7 0)) (q13 2) (aS6 (itW (c7 0)) (q13 3) YB)) (o6 (c7 1))))):=rfl
section
variable{p0:Nat}{l0:List D}
theorem cZ0{w:Option D}:∀(l acc:List D) (q:Nat) (u:Option D) (G:DH),G[p0]? =some (.lst l0)→G[q]? =some (.lst acc)→acc.length+3*l.length≤900→Wp (aK0 (q13 2) YA (ckO p0 (.lst l0)) l [some (.ref p0),some (.ref q),u,w]) G fun fl G'=>(∃q' u',fl= .nx [some (.ref p0),some (.ref q'),u',w]∧G'[q']? =some (.lst (acc++l.flatMap v1)))∧Ap G G'
 |[],acc,q,u,G,e0,e,hl=>aP6.mpr ⟨aQ0 e0,⟨q,u,rfl,by rw[List.flatMap_nil,List.append_nil];exact e⟩,Ap.refl⟩
 |o::r,acc,q,u,G,e0,e,hl=>by
   have bg:1000≤sizeLine:=by decide
   rw[List.length_cons]at hl
   refine aK8.mpr ⟨aQ0 e0,S5.mpr<| Q5<| K6<| d8 (a:=.ref q) (G':=G) rfl<| aJ4.mpr<| d8 (a:=v1 o) (G':=G) rfl ⟨sz,(bN2 (Q3 e) j9 (by show acc.length+3≤_;lia)).mpr ?_⟩⟩
   refine(cZ0 r (acc++v1 o) _ _ _ (Q3 (Q3 e0)) j9 (by rw[List.length_append];show acc.length+3+_≤_;lia)).mono ?_
   rintro _ G2 ⟨⟨q',u',rfl,e2⟩,a2⟩
   refine⟨⟨q',u',rfl,?_⟩,Ap.one.trans (Ap.one.trans a2)⟩
   rw[List.flatMap_cons,←List.append_assoc]
   exact e2
theorem dA0{o:D}:∀(l acc:List D) (q:Nat) (u:Option D) (G:DH),G[p0]? =some (.lst l0)→G[q]? =some (.lst acc)→acc.length+2*l.length≤900→Wp (aK0 (q13 3) YB (ckO p0 (.lst l0)) l [some (.ref p0),some (.ref q),some o,u]) G fun fl G'=>(∃q' u',fl= .nx [some (.ref p0),some (.ref q'),some o,u']∧G'[q']? =some (.lst (acc++l.flatMap (v2 o))))∧Ap G G'
 |[],acc,q,u,G,e0,e,hl=>aP6.mpr ⟨aQ0 e0,⟨q,u,rfl,by rw[List.flatMap_nil,List.append_nil];exact e⟩,Ap.refl⟩
 |p::r,acc,q,u,G,e0,e,hl=>by
   have bg:1000≤sizeLine:=by decide
   rw[List.length_cons]at hl
   refine aK8.mpr ⟨aQ0 e0,S5.mpr<| Q5<| K6<| d8 (a:=.ref q) (G':=G) rfl<| aJ4.mpr<| d8 (a:=v2 o p) (G':=G) rfl ⟨sz,(bN2 (Q3 e) j9 (by show acc.length+2≤_;lia)).mpr ?_⟩⟩
   refine(dA0 r (acc++v2 o p) _ _ _ (Q3 (Q3 e0)) j9 (by rw[List.length_append];show acc.length+2+_≤_;lia)).mono ?_
   rintro _ G2 ⟨⟨q',u',rfl,e2⟩,a2⟩
   refine⟨⟨q',u',rfl,?_⟩,Ap.one.trans (Ap.one.trans a2)⟩
   rw[List.flatMap_cons,←List.append_assoc]
   exact e2
end
theorem dT0{o:D}:∀l:List D,(l.flatMap (v2 o)).length=2*l.length
 |[]=>rfl
 |p::r=>by rw[List.flatMap_cons,List.length_append,dT0 r,List.length_cons];show 2+_=_;lia
theorem cY8{p0:Nat}:∀(l acc:List D) (q:Nat) (u w:Option D) (G:DH),G[p0]? =some (.lst J0)→G[q]? =some (.lst acc)→acc.length+26*l.length≤900→Wp (aK0 (q13 2) (aS6 (itW (c7 0)) (q13 3) YB) (ckO p0 (.lst J0)) l [some (.ref p0),some (.ref q),u,w]) G fun fl G'=>(∃q' u' w',fl= .nx [some (.ref p0),some (.ref q'),u',w']∧G'[q']? =some (.lst (acc++l.flatMap fun o=>J0.flatMap (v2 o))))∧Ap G G'
 |[],acc,q,u,w,G,e0,e,hl=>aP6.mpr ⟨aQ0 e0,⟨q,u,w,rfl,by rw[List.flatMap_nil,List.append_nil];exact e⟩,Ap.refl⟩
 |o::r,acc,q,u,w,G,e0,e,hl=>by
   rw[List.length_cons]at hl
   have l13:J0.length=13:=rfl
   refine aK8.mpr ⟨aQ0 e0,S5.mpr<| aZ2.mpr<| wp_itW.mpr<| d8 (a:=.ref p0) (G':=G) rfl<| (aB5 e0).mpr<| (dA0 (o:=o) J0 acc q w G e0 e (by rw[l13];lia)).mono ?_⟩
   rintro _ G1 ⟨⟨q1,u1,rfl,e1⟩,a1⟩
   refine(cY8 r (acc++J0.flatMap (v2 o)) q1 _ _ G1 (a1.at e0) e1 (by rw[List.length_append,dT0,l13];lia)).mono ?_
   rintro _ G2 ⟨⟨q',u',w',rfl,e2⟩,a2⟩
   refine⟨⟨q',u',w',rfl,?_⟩,a1.trans a2⟩
   rw[List.flatMap_cons,←List.append_assoc]
   exact e2
theorem dQ0{G:DH}{Q:DPP}{r:Nat}{l:List D}(h:G[r]? =some (.lst l)):Wp (aY8 [.ref r]) G Q↔Q (.ref G.length) (G++[.lst l]):=by
 have h0:aY8 [.ref r]= (do
  let l ←Q7 r >>= DL.listOf
  R1 (.lst l)):=rfl
 rw[h0]
 simp only[j8,R0,h,S7,DL.listOf,j7,W6]
theorem dH4{G:DH}:Wp (X3 []) G fun x G'=>∃p,x= .ref p∧G'[p]? =some (.lst R7)∧Ap G G':=by
 have bg:1000≤sizeLine:=by decide
 refine J3 (show Wp (aF1 [none,none,none,none]) G _ from ?_)
 rw[fL1]
 refine o7 (σ':= [some (.ref G.length),none,none,none]) (G':=G++[.lst J0]) rfl ?_
 have e0:(G++[.lst J0])[G.length]? =some (.lst J0):=j9
 have a0:Ap G (G++[.lst J0]):=Ap.one
 generalize G++[DO.lst J0]=G0 at *
 generalize G.length=p0 at *
 refine m9.mpr<| Q5<| bL1 (as:= [.ref p0]) rfl<| (dQ0 e0).mpr ?_
 refine m9.mpr<| aZ2.mpr<| wp_itW.mpr<| d8 (a:=.ref p0) rfl<| (aB5 (Q3 e0)).mpr<| (cZ0 J0 J0 G0.length none _ (Q3 e0) j9 (by decide)).mono ?_
 rintro _ G1 ⟨⟨q1,u1,rfl,e1⟩,a1⟩
 have e01:=a1.at (Q3 (t:= [DO.lst J0]) e0)
 refine m9.mpr<| aZ2.mpr<| wp_itW.mpr<| d8 (a:=.ref p0) (G':=G1) rfl<| (aB5 e01).mpr<| (cY8 J0 (J0++J0.flatMap v1) q1 u1 none G1 e01 e1 (by decide)).mono ?_
 rintro _ G2 ⟨⟨q2,u2,w2,rfl,e2⟩,a2⟩
 exact K9<| d8 (a:=.ref q2) (G':=G2) rfl<| K5 ⟨q2,rfl,e2,a0.trans (Ap.one.trans (a1.trans a2))⟩
theorem bC3{n:Nat}:∀v∈J0,VW 2 (n+1) v:=by
 intro v hv
 simp only[J0,vI,vS,List.map_cons,List.map_nil,List.cons_append,List.nil_append,List.mem_cons,List.not_mem_nil,or_false]at hv
 rcases hv with rfl|rfl|rfl|rfl|rfl|rfl|rfl|rfl|rfl|rfl|rfl|rfl|rfl
 all_goals first
  |exact .inl ⟨_,rfl⟩
  |exact .inr (.inl ⟨_,rfl⟩)
  |exact .inr (.inr (.inl ⟨_,rfl,by decide⟩))
  |exact .inr (.inr (.inr (.inl ⟨[],rfl,by decide,fun _ h=>nomatch h⟩)))
  |exact .inr (.inr (.inr (.inr ⟨[],rfl,by decide,List.nodup_nil,fun _ h=>nomatch h⟩)))
theorem eM2{n:Nat}{l:List D}(hl:l.length≤2)(h:∀x∈l,VW 2 n x):VW 2 (n+1) (lsV l):=.inr (.inr (.inr (.inl ⟨l,rfl,hl,h⟩)))
theorem dN2{n:Nat}{ps:List (Str×D)}(hl:ps.length≤2)(nd:(ps.map (·.1)).Nodup)(h:∀p∈ps,p.1.length≤1000∧VW 2 n p.2):VW 2 (n+1) (rcV (ps.map S6)):=.inr (.inr (.inr (.inr ⟨ps,rfl,hl,nd,h⟩)))
theorem eJ0:∀v∈R7,VW 2 3 v:=by
 intro v hv
 rcases List.mem_append.mp hv with hv|hv
 · rcases List.mem_append.mp hv with hv|hv
   ·exact bC3 (n:=2) v hv
   · obtain⟨o,ho,hv⟩:=List.mem_flatMap.mp hv
     have h1:=bC3 (n:=1) o ho
     simp only[v1,List.mem_cons,List.not_mem_nil,or_false]at hv
     rcases hv with rfl|rfl|rfl
     ·exact eM2 (by show 1≤2;decide) fun x hx=>by rw[List.mem_singleton.mp hx];exact h1
     ·exact dN2 (ps:= [("a",o)]) (by show 1≤2;decide) (by show ([("a" :Str)]).Nodup;decide) fun x hx=>by rw[List.mem_singleton.mp hx];exact⟨by show ("a" :Str).length≤1000;decide,h1⟩
     ·exact dN2 (ps:= [("c",o)]) (by show 1≤2;decide) (by show ([("c" :Str)]).Nodup;decide) fun x hx=>by rw[List.mem_singleton.mp hx];exact⟨by show ("c" :Str).length≤1000;decide,h1⟩
 · obtain⟨o,ho,hv⟩:=List.mem_flatMap.mp hv
   obtain⟨p,hp,hv⟩:=List.mem_flatMap.mp hv
   have h1:=bC3 (n:=1) o ho
   have h2:=bC3 (n:=1) p hp
   simp only[v2,List.mem_cons,List.not_mem_nil,or_false]at hv
   rcases hv with rfl|rfl
   · refine eM2 (by show 2≤2;decide) fun x hx=>?_
     rcases List.mem_cons.mp hx with rfl|hx
     ·exact h1
     ·rw[List.mem_singleton.mp hx];exact h2
   · refine dN2 (ps:= [("a",o),("c",p)]) (by show 2≤2;decide) (by show ([("a" :Str), "c"]).Nodup;decide) fun x hx=>?_
     rcases List.mem_cons.mp hx with rfl|hx
     ·exact⟨by show ("a" :Str).length≤1000;decide,h1⟩
     ·rw[List.mem_singleton.mp hx];exact⟨by show ("c" :Str).length≤1000;decide,h2⟩
theorem dS6{v s:D}{k:Nat}{G:DH}{Q:DPP}(hv:v∈R7)(hs:SB k s)(q:∀G',Ap G G'→Q (.bl (inP 3 v s)) G'):Wp (V1 [v,s]) G Q:=
 (cY3 (b:=2) (by decide) 3 k 60 v s G (by decide) (eJ0 v hv) hs).mono fun x G' ⟨e,a⟩=>e▸q G' a
theorem cM2{G:DH}:∀fs:List (Str×Bool×D),aK7 T6 (fs.map fdD) G=some (.ok (fs.map fun f=>.str f.1),G)
 |[]=>rfl
 |f::r=>by
   refine aK1 ?_
   show Wp (do
    let k ←noX (T6 [fdD f])
    let ks ←aK7 T6 (r.map fdD)
    pure (k::ks)) G _
   exact j8.mpr<| d8 (a:=.str f.1) (G':=G) rfl<| j8.mpr<| d8 (cM2 r)<| j7.mpr ⟨rfl,rfl⟩
theorem cM7:∀fs:List (Str×Bool×D),aL3 (fs.map fun f=>D.str f.1)=some (fs.map (·.1))
 |[]=>rfl
 |f::r=>by
   show (match cE4 (.str f.1),aL3 (r.map fun f=>D.str f.1) with
    |some a,some b=>some (a::b)
    |_,_=>none)=_
   rw[cM7 r];rfl
theorem dC3{fs:List (Str×Bool×D)}:∃fs':List (Str×Bool×D),aK2 (fs.map (·.1)) (fs.map fdD)=fs'.map fdD∧fs'.Perm fs:=by
 have hp:(aK2 (fs.map (·.1)) (fs.map fdD)).Perm (fs.map fdD):=by
  unfold aK2
  refine((List.mergeSort_perm _ _).map _).trans ?_
  rw[List.map_snd_zip (by rw[List.length_map,List.length_map];exact Nat.le_refl _)]
 have:∀(l:List D) (fs:List (Str×Bool×D)),l.Perm (fs.map fdD)→∃fs':List (Str×Bool×D),l=fs'.map fdD∧fs'.Perm fs:=by
  intro l
  induction l with
  |nil=>
    intro fs h
    have:=h.symm.eq_nil
    rw[List.map_eq_nil_iff]at this
    exact⟨[],rfl,this▸ .refl _⟩
  |cons x r ih=>
    intro fs h
    obtain⟨f,hf,rfl⟩:=List.mem_map.mp (h.mem_iff.mp (List.mem_cons_self ..))
    obtain⟨s,t,rfl⟩:=List.append_of_mem hf
    have h2:(fdD f::r).Perm (fdD f::(s++t).map fdD):=by
     refine h.trans ?_
     rw[←List.map_cons]
     exact(List.perm_middle).map _
    obtain⟨fs',rfl,hp'⟩:=ih (s++t) ((List.perm_cons _).mp h2)
    exact⟨f::fs',rfl,(hp'.cons f).trans List.perm_middle.symm⟩
 exact this _ _ hp
theorem dW1{fe:Fe}{σ:DSt}{p:Nat}{fs:List (Str×Bool×D)}{G:DH}{Q:DPP}(e:fe σ G=some (.ok (.ref p),G))(ep:G[p]? =some (.lst (fs.map fdD)))(nd:(fs.map (·.1)).Nodup)(h64:fs.length<64)(q:∀fs':List (Str×Bool×D),fs'.Perm fs→Q (.ref G.length) (G++[.lst (fs'.map fdD)])):Wp (bB7 T6 fe σ) G Q:=by
 obtain⟨fs',e1,hp⟩:=dC3 (fs:=fs)
 unfold bB7
 refine j8.mpr<| d8 e ?_
 unfold bC8
 simp only[j8,R0,ep,S7]
 rw[if_pos (by rw[List.length_map];exact h64)]
 unfold aP4
 refine j8.mpr<| d8 (cM2 fs) ?_
 simp only[j8,aV3,cM7,S7]
 rw[if_pos nd,W6,e1]
 exact q fs' hp
theorem fC7{r:Nat}{x1 x3 x4 x5 x7 x8 x9 x10:Option D}{li:D}{G:DH}(h:aA8 G r)(hl:LsP li):Wp (OL [some (.ref r),x1,some noS,x3,x4,x5,some li,x7,x8,x9,x10]) G fun fl G'=>(∃li',OtL li li'∧LiP (SB 2) li'∧fl= .nx [some (.ref r),x1,some noS,x3,x4,x5,some li',x7,x8,x9,x10])∧Fr r G G':=by
 have bg:1000≤sizeLine:=by decide
 refine aL8<| cA3<| S8<| aD9 (x:=li) (y:=.non) rfl rfl<| dX5.mpr ⟨_,rfl,fun hn=>?_,fun _=>⟨fun z=>aB4 z,fun _=>N5.mpr ⟨⟨li,.inl rfl,hl.li,rfl⟩,Fr.refl h⟩⟩⟩
 have en:li= .non:=by
  rcases hl with rfl|⟨fs,m,rfl,_⟩
  ·rfl
  ·cases hn
 refine S8<| K6<| m7 (as:= [.ref r,.int 2]) rfl rfl<| aM0 h ⟨by decide,by decide⟩ fun k _ _ G1 f1=>d8 (a:=.int 1) (G':=G1) rfl<| bI1.mpr ⟨_,rfl,fun _=>?_,fun _=>N5.mpr ⟨⟨li,.inl rfl,hl.li,rfl⟩,f1⟩⟩
 refine Q5<| dL9 rfl (by decide) (by decide)<| d8 (a:= [.tup [.tup [noS],.str aB1],.tup [.tup [.str aB1,noS],noS]]) (G':=G1) rfl ⟨sz,f1.2.2,rfl,fun d hd G2 f2=>?_⟩
 rcases List.mem_cons.mp hd with rfl|hd
 ·exact⟨⟨_,.inr ⟨en,_,_,rfl,List.mem_cons_self ..⟩,.inr ⟨_,_,rfl,by show 1≤100;decide,(fun x hx=>by rw[List.mem_singleton.mp hx];exact aM3),.inl rfl⟩,rfl⟩,f1.trans f2⟩
 · rw[List.mem_singleton.mp hd]
   refine⟨⟨_,.inr ⟨en,_,_,rfl,List.mem_cons_of_mem _ (List.mem_cons_self ..)⟩,.inr ⟨_,_,rfl,by show 2≤100;decide,(fun x hx=>?_),aM3⟩,rfl⟩,f1.trans f2⟩
   rcases List.mem_cons.mp hx with rfl|hx
   ·exact .inl rfl
   ·rw[List.mem_singleton.mp hx];exact aM3
theorem cN8{z:Str}:∀s:List Str,L2.inV (.str z) ((s.map D.str).map toV)=true↔z∈s
 |[]=>⟨fun h=>(nomatch h),fun h=>(nomatch h)⟩
 |a::r=>by
   have ih:=cN8 (z:=z) r
   have e:L2.inV (.str z) (((a::r).map D.str).map toV)= ((a==z)||L2.inV (.str z) ((r.map D.str).map toV)):=rfl
   rw[e,Bool.or_eq_true,ih,List.mem_cons,beq_iff_eq]
   exact⟨fun h=>h.imp Eq.symm id,fun h=>h.imp Eq.symm id⟩
theorem eZ9{G:DH}{q:Nat}{z:Str}{s:List Str}(e:G[q]? =some (.lst (s.map D.str))):inB (.str z) (.ref q) G=some (L2.inV (.str z) ((s.map D.str).map toV)):=by
 have hf:(s.map D.str).all aA6=true:=by rw[List.all_map];exact List.all_eq_true.mpr fun _ _=>rfl
 unfold inB
 simp only[e]
 rw[hf,if_pos (show (aA6 (D.str z)&&true)=true from rfl)]
 rfl
theorem fN6{r p:Nat}{z:Str}{ss:List Str}{G:DH}{B:Bool→DH→Prop}(h:aA8 G r)(e:G[p]? =some (.lst (ss.map D.str)))(q:∀k G',Fr r G G'→(k=true→z∉ss)→B k G'):Wp (MT [some (.str z),some (.ref r),some (.ref p)]) G B:=by
 refine cA3<| S8<| aD9 (x:=.str z) (y:=.ref p) rfl rfl<| dW6.mpr ⟨_,eZ9 e,_,rfl,fun hk=>?_,fun _=>q false G (Fr.refl h) fun z=>(nomatch z)⟩
 have hz:z∉ss:=fun hm=>by rw[(cN8 ss).mpr hm]at hk;cases hk
 exact S8<| K6<| m7 (as:= [.ref r,.int 2]) rfl rfl<| aM0 h ⟨by decide,by decide⟩ fun k _ _ G1 f1=>d8 (a:=.int 1) (G':=G1) rfl<| bI1.mpr ⟨_,rfl,q _ G1 f1 fun _=>hz⟩
theorem bI3{r p q:Nat}{ss:List Str}{l0:List D}:∀(zs:List Str) (u:Option D) (G:DH),aA8 G r→p≠r→q≠r→G[p]? =some (.lst (ss.map D.str))→G[q]? =some (.lst l0)→Wp (M9 (q13 0) MT (c7 0) (ckO q (.lst l0)) (zs.map D.str) [u,some (.ref r),some (.ref p)]) G fun ys G'=>∃ms:List Str,ys=ms.map D.str∧ms.Sublist zs∧(∀z∈ms,z∉ss)∧Fr r G G'
 |[],u,G,h,hp,hq,e,e'=>aM8.mpr ⟨aQ0 e', [],rfl,List.nil_sublist _,(fun _ h=>nomatch h),Fr.refl h⟩
 |z::zs,u,G,h,hp,hq,e,e'=>by
   refine aN9.mpr ⟨aQ0 e',S5.mpr<| fN6 h e fun k G1 f1 hz=>?_⟩
   rcases k with _|_
   · rw[if_neg (by decide)]
     refine(bI3 zs _ G1 f1.2.2 hp hq (f1.at hp e) (f1.at hq e')).mono ?_
     rintro _ G2 ⟨ms,rfl,hs,hn,f2⟩
     exact⟨ms,rfl,hs.cons _,hn,f1.trans f2⟩
   · rw[if_pos rfl]
     refine d8 (a:=.str z) (G':=G1) rfl<| (bI3 zs _ G1 f1.2.2 hp hq (f1.at hp e) (f1.at hq e')).mono ?_
     rintro _ G2 ⟨ms,rfl,hs,hn,f2⟩
     refine⟨z::ms,rfl,hs.cons_cons _,fun y hy=>?_,f1.trans f2⟩
     rcases List.mem_cons.mp hy with rfl|hy
     ·exact hz rfl
     ·exact hn y hy
theorem cX8{G:DH}:∀(fs:List (Str×Bool×D)) (u:Option D),M9 (q13 0) M4 (d9 ixD (c7 0) (cE (.int 0))) (fun _=>true) (fs.map fdD) [u] G=some (.ok ((fs.map (·.1)).map D.str),G)
 |[],u=>aK1 (aM8.mpr ⟨rfl,rfl,rfl⟩)
 | f :: r, u => aK1 (aN9.mpr ⟨rfl, d8 (a := [some (fdD f)]) (G' := G) rfl <| d8 (a := true) (G' := G) rfl <| by
    rw[if_pos rfl];exact d8 (a:=.str f.1) (G':=G) rfl<| d8 (cX8 r _) ⟨rfl,rfl⟩⟩)
theorem dA1{G:DH}{q:Nat}{l0 l1:List D}{m:D}(e:G[q]? =some (.lst l0)):∀(zs:List Str) (u:Option D),M9 (q13 0) M4 (o4 (q10 (c7 0) (q10 (cE (.bl false)) (q10 (d9 ixD (c7 1) (cE (.int 1))) (q11))))) (ckO q (.lst l0)) (zs.map D.str) [u,some (.tup [.tup l1,m])] G=some (.ok ((zs.map fun z=>(z,false,m)).map fdD),G)
 |[],u=>aK1 (aM8.mpr ⟨aQ0 e,rfl,rfl⟩)
 | z :: r, u => aK1 (aN9.mpr ⟨aQ0 e, d8 (a := [some (.str z), some (.tup [.tup l1, m])]) (G' := G) rfl <| d8 (a := true) (G' := G) rfl <| by
    rw[if_pos rfl];exact d8 (a:=fdD (z,false,m)) (G':=G) rfl<| d8 (dA1 e r _) ⟨rfl,rfl⟩⟩)
theorem fI2{r:Nat}{x1 x2 x3 x4 x5 x6:Option D}{fs:List (Str×Bool×D)}{m:D}{G:DH}(h:aA8 G r)(hl:fs.length≤1)(hf:∀f∈fs,f.1= "a"∧InP f.2.2)(hm:InP m):Wp (OE [some (.ref r),x1,x2,x3,x4,x5,x6,some (.tup [.tup (fs.map fdD),m]),none,none,none]) G fun fl G'=>(∃re' u8 u9 u10,OtR (.tup [.tup (fs.map fdD),m]) re'∧ReP (SB 2) re'∧fl= .nx [some (.ref r),x1,x2,x3,x4,x5,x6,some re',u8,u9,u10])∧Fr r G G':=by
 have bg:1000≤sizeLine:=by decide
 unfold OE
 refine m9.mpr<| Q5<| X8 (l:=fs.map fdD) (G1:=G) rfl (by rw[List.length_map];lia)<| d8 (cX8 fs none) ?_
 have f1:Fr r G (G++[.lst ((fs.map (·.1)).map D.str)]):=Fr.app h
 have e1:(G++[.lst ((fs.map (·.1)).map D.str)])[G.length]? =some (.lst ((fs.map (·.1)).map D.str)):=j9
 have p1:G.length≠r:=by have:=h.lt;lia
 generalize G++[DO.lst ((fs.map (·.1)).map D.str)]=G1 at *
 generalize G.length=p at *
 refine m9.mpr<| Q5<| wp_comp.mpr<| wp_itW.mpr<| aJ4.mpr<| d8 (a:=(["a", "b", "zz"]:List Str).map D.str) (G':=G1) rfl ⟨sz,?_⟩
 have f2:Fr r G1 (G1++[.lst ((["a", "b", "zz"]:List Str).map D.str)]):=Fr.app f1.2.2
 have e2:(G1++[.lst ((["a", "b", "zz"]:List Str).map D.str)])[G1.length]? =some (.lst ((["a", "b", "zz"]:List Str).map D.str)):=j9
 have p2:G1.length≠r:=by have:=f1.lt;lia
 generalize G1++[DO.lst ((["a", "b", "zz"]:List Str).map D.str)]=G2 at *
 generalize G1.length=q at *
 refine(aB5 e2).mpr ⟨by show 3≤sizeLine;lia,(bI3 (["a", "b", "zz"]:List Str) none G2 f2.2.2 p1 p2 (f2.at p1 e1) e2).mono ?_⟩
 rintro _ G3 ⟨ms,rfl,hs,hn,f3⟩
 have lm:ms.length≤3:=hs.length_le
 have f4:Fr r G3 (G3++[.lst (ms.map D.str)]):=Fr.app f3.2.2
 have e4:(G3++[.lst (ms.map D.str)])[G3.length]? =some (.lst (ms.map D.str)):=j9
 generalize G3++[DO.lst (ms.map D.str)]=G4 at *
 generalize G3.length=q3 at *
 refine m9.mpr<| Q5<| K6<| bL1 (as:= [.tup (fs.map fdD)]) (G1:=G4) rfl<| dW2.mpr<| wp_comp.mpr<| wp_itW.mpr<| d8 (a:=.ref q3) rfl<| (aB5 (Q3 e4)).mpr ⟨by rw[List.length_map];lia,d8 (dA1 (Q3 e4) ms none) ?_⟩
 refine(bN2 (Q3 j9) j9 (by rw[List.length_map,List.length_map,List.length_map];lia)).mpr ?_
 have f5:=(Fr.app (t:= [.lst (fs.map fdD)]) f4.2.2)
 have f6:=f5.trans (Fr.app (t:= [.lst ((ms.map fun z=>(z,false,m)).map fdD)]) f5.2.2)
 have f7:=f6.trans (Fr.app (t:= [.lst (fs.map fdD++(ms.map fun z=>(z,false,m)).map fdD)]) f6.2.2)
 rw[←List.map_append]at f7 ⊢
 have nd:((fs++ms.map fun z=>(z,false,m)).map (·.1)).Nodup:=by
  rw[List.map_append,List.map_map]
  have i1:ms.map ((fun f:Str×Bool×D=>f.1)∘fun z=>(z,false,m))=ms:=by
   conv=>rhs;rw[←List.map_id ms]
   rfl
  rw[i1]
  refine List.nodup_append.mpr ⟨?_,hs.nodup (by decide),fun a ha b hb e=>hn b hb (e▸ha)⟩
  rcases fs with _|⟨g,_|⟨y,t⟩⟩
  ·exact List.nodup_nil
  ·exact List.nodup_cons.mpr ⟨fun h=>(nomatch h),List.nodup_nil⟩
  ·rw[List.length_cons,List.length_cons]at hl;lia
 have ll:(fs++ms.map fun z=>(z,false,m)).length≤4:=by rw[List.length_append,List.length_map];lia
 refine Q5<| aG4.mpr<| u0<| R9<| u0<| dW1 (fs:=fs++ms.map fun z=>(z,false,m)) rfl j9 nd (by lia) fun fs' hp=>?_
 have f8:=f7.trans (Fr.app (t:= [.lst (fs'.map fdD)]) f7.2.2)
 refine G9.mpr<| (aH4 j9).mpr<| d8 (a:= [m]) rfl ⟨sz,⟨_,_,_,_,.inr (.inr ⟨fs,ms.map fun z=>(z,false,m),fs',m,rfl,rfl,hp,?_,hl⟩),.inr ⟨fs',m,rfl,?_,(hp.map _).nodup_iff.mpr nd,?_,hm.sb⟩,rfl⟩,f1.trans (f2.trans (f3.trans (f4.trans f8)))⟩
 · intro g hg
   obtain⟨z,_,rfl⟩:=List.mem_map.mp hg
   exact⟨rfl,rfl⟩
 ·rw[hp.length_eq];lia
 · intro g hg
   rcases List.mem_append.mp (hp.mem_iff.mp hg)with hg|hg
   ·rw[(hf g hg).1];exact⟨by decide,(hf g hg).2.sb⟩
   · obtain⟨z,hz,rfl⟩:=List.mem_map.mp hg
     have:∀z∈(["a", "b", "zz"]:List Str),z.length≤1000:=by decide
     exact⟨this z (hs.mem hz),hm.sb⟩
theorem fB0:aA1=m8 (K3 (q12 (fnX 0 M7) (q11)) (q13 2)) (m8 (K3 (c7 1) (aG0 5 (J4 (q13 3) (J4 (q13 4) (J4 (q13 5) (J4 (q13 6) (J4 (q13 7) (aJ8)))))))) (m8 OL (m8 OR (o6 (o4 (q10 (c7 3) (q10 (c7 4) (q10 (c7 5) (q10 (c7 6) (q10 (c7 7) (q11))))))))))):=rfl
theorem fJ1{r:Nat}{x1 x3 x4 x5 x6:Option D}{re:D}{G:DH}(h:aA8 G r)(hr:RsP re):Wp (OR [some (.ref r),x1,some noS,x3,x4,x5,x6,some re,none,none,none]) G fun fl G'=>(∃re' u8 u9 u10,OtR re re'∧ReP (SB 2) re'∧fl= .nx [some (.ref r),x1,some noS,x3,x4,x5,x6,some re',u8,u9,u10])∧Fr r G G':=by
 have bg:1000≤sizeLine:=by decide
 rcases hr with rfl|⟨fs,m,rfl,hl,hf,hm⟩
 · refine aL8<| cA3<| S8<| d8 (a:=.bl true) (G':=G) rfl ⟨_,rfl,fun _=>?_,fun z=>(nomatch z)⟩
   refine S8<| K6<| m7 (as:= [.ref r,.int 2]) rfl rfl<| aM0 h ⟨by decide,by decide⟩ fun k _ _ G1 f1=>d8 (a:=.int 1) (G':=G1) rfl<| bI1.mpr ⟨_,rfl,fun _=>?_,fun _=>?_⟩
   · refine Q5<| d8 (a:=.tup [.tup (([("a",false,noS),("b",true,noS)]:List (Str×Bool×D)).map fdD),.str aB1]) (G':=G1) rfl ⟨⟨_,_,_,_,.inr (.inl ⟨rfl,_,_,rfl,("b",true,noS),List.mem_cons_of_mem _ (List.mem_cons_self ..),rfl,rfl⟩),.inr ⟨_,_,rfl,by show 2≤40;decide,by show (["a", "b"]:List Str).Nodup;decide,fun f hf=>?_,.inl rfl⟩,rfl⟩,f1⟩
     rcases List.mem_cons.mp hf with rfl|hf
     ·exact⟨by show ("a" :Str).length≤1000;decide,aM3⟩
     ·rw[List.mem_singleton.mp hf];exact⟨by show ("b" :Str).length≤1000;decide,aM3⟩
   ·exact eS9 (G1:=G1) rfl<| N5.mpr ⟨⟨.non,_,_,_,.inl rfl,.inl rfl,rfl⟩,f1⟩
 · refine aL8<| cA3<| S8<| d8 (a:=.bl false) (G':=G) rfl ⟨_,rfl,fun z=>(nomatch z),fun _=>⟨fun z=>aB4 z,fun _=>?_⟩⟩
   exact cS8 (G1:=G) rfl<| fI2 h hl hf hm
theorem cF8{r:Nat}{ns:Ns}{t:Str×List Str}{b:List Bool}{li re:D}{G:DH}(h:aA8 G r)(hl:LsP li)(hr:RsP re):Wp (U8 [.ref r,mkS ns t.1 t.2 b li re]) G fun y G'=>(∃li' re',y=mkS ns t.1 t.2 b li' re'∧OtL li li'∧OtR re re'∧LiP (SB 2) li'∧ReP (SB 2) re')∧Fr r G G':=by
 refine J3 (show Wp (aA1 [some (.ref r),some (mkS ns t.1 t.2 b li re),none,none,none,none,none,none,none,none,none]) G _ from ?_)
 rw[fB0]
 refine o7 (σ':= [some (.ref r),some (mkS ns t.1 t.2 b li re),some noS,none,none,none,none,none,none,none,none]) (G':=G) rfl ?_
 refine o7 (σ':= [some (.ref r),some (mkS ns t.1 t.2 b li re),some noS,some (nsD ns),some (txD t),some (blD b),some li,some re,none,none,none]) (G':=G) rfl ?_
 refine m9.mpr<| (fC7 h hl).mono ?_
 rintro _ G1 ⟨⟨li',o1,s1,rfl⟩,f1⟩
 refine m9.mpr<| (fJ1 f1.2.2 hr).mono ?_
 rintro _ G2 ⟨⟨re',u8,u9,u10,o2,s2,rfl⟩,f2⟩
 exact K9<| d8 (a:=mkS ns t.1 t.2 b li' re') (G':=G2) rfl<| K5 ⟨⟨li',re',rfl,o1,o2,s1,s2⟩,f1.trans f2⟩
theorem eL8{ns:Ns}(h:ns∈N8):StP ns∧ns.length≤10:=by
 refine⟨⟨(bT0 h).1,?_⟩,?_⟩
 · unfold N8 n7 at h
   simp only[List.cons_append,List.nil_append,List.mem_cons,List.not_mem_nil,or_false]at h
   rcases h with rfl|rfl|rfl|rfl|rfl|rfl|rfl|rfl
   ·exact .nil
   ·exact List.pairwise_singleton ..
   ·exact List.pairwise_singleton ..
   ·exact List.pairwise_singleton ..
   ·exact List.pairwise_cons.mpr ⟨fun q hq=>by rw[List.mem_singleton.mp hq];exact⟨0,2,rfl,rfl,by decide⟩,List.pairwise_singleton ..⟩
   ·exact List.pairwise_singleton ..
   ·exact List.pairwise_singleton ..
   ·exact List.pairwise_cons.mpr ⟨fun q hq=>by rw[List.mem_singleton.mp hq];exact⟨-1,1,rfl,rfl,by decide⟩,List.pairwise_singleton ..⟩
 · unfold N8 n7 at h
   simp only[List.cons_append,List.nil_append,List.mem_cons,List.not_mem_nil,or_false]at h
   rcases h with rfl|rfl|rfl|rfl|rfl|rfl|rfl|rfl<;>decide
theorem dO6{t:Str×List Str}(h:t∈T7):(t.1=wOf∨t.1=cI9)∧dD8 t.2:=by
 unfold T7 t6 at h
 simp only[List.cons_append,List.nil_append,List.mem_cons,List.not_mem_nil,or_false]at h
 have te:TX "":=⟨by decide +kernel,by decide⟩
 have ta:TX "a":=⟨by decide +kernel,by decide⟩
 have r0:dD8 []:=⟨fun _ h=>(nomatch h),.nil⟩
 have r1:∀z,TX z→dD8 [z]:=fun z hz=>⟨fun y hy=>by rw[List.mem_singleton.mp hy];exact hz,List.pairwise_singleton ..⟩
 have r2:dD8 ["", "a"]:=⟨fun y hy=>by
  rcases List.mem_cons.mp hy with rfl|hy
  ·exact te
  ·rw[List.mem_singleton.mp hy];exact ta,List.pairwise_cons.mpr ⟨fun q hq=>by rw[List.mem_singleton.mp hq];exact .inl (by decide),List.pairwise_singleton ..⟩⟩
 rcases h with rfl|rfl|rfl|rfl|rfl|rfl|rfl
 ·exact⟨.inl rfl,r0⟩
 ·exact⟨.inr rfl,r0⟩
 ·exact⟨.inl rfl,r1 _ te⟩
 ·exact⟨.inl rfl,r1 _ ta⟩
 ·exact⟨.inl rfl,r2⟩
 ·exact⟨.inr rfl,r1 _ ta⟩
 ·exact⟨.inr rfl,r2⟩
theorem fD2{b:List Bool}(h:b∈B4):TrP b:=by
 unfold B4 at h
 simp only[List.mem_cons,List.not_mem_nil,or_false]at h
 exact h
theorem dR3{fs:List (Str×Bool×D)}{m m':D}(e:(.tup [.tup [],m']:D)= .tup [.tup (fs.map fdD),m]):fs= []:=by
 injection e with e;injection e with e1 _;injection e1 with e1
 exact List.map_eq_nil_iff.mp e1.symm
theorem fC9{k:Bool}:NoN (lnD k):=fun fs m e=>by
 cases k
 ·cases e
 ·cases e;exact fun h=>nomatch h
theorem eR7{k:Bool}:Due (lnD k):=fun fs m e f hf=>by
 cases k
 ·cases e
 ·rw[dR3 e]at hf;cases hf
theorem fJ5{k:Bool}{S:D→Prop}(h:S (.str aB1)):LiG S (lnD k):=by
 cases k
 ·exact .inl rfl
 ·exact .inr ⟨[],_,rfl,by decide,(fun _ h=>nomatch h),h⟩
theorem fB4{k:Bool}{S:D→Prop}(h:S (.str aB1)):ReG S (lnD k):=by
 cases k
 ·exact .inl rfl
 ·exact .inr ⟨[],_,rfl,by decide,.nil,(fun _ h=>nomatch h),h⟩
theorem eK9{S:D→Prop}{ns:Ns}{t:Str×List Str}{b:List Bool}{li re:D}(h:PlP ns t b)(hl:LiG S li)(hr:ReG S re):PtP S ns t.1 t.2 b li re:=⟨(eL8 h.1).1,(eL8 h.1).2,(dO6 h.2.1).1,(dO6 h.2.1).2,(bR5 t h.2.1).2,fD2 h.2.2,hl,hr⟩
theorem InP.gs{n:Nat}{d:D}(h:InP d):GS (n+2) d:=by
 rcases h with rfl|⟨ns,t,b,la,lb,hp,rfl,ne⟩
 ·exact .inl rfl
 ·exact .inr ⟨ns,t.1,t.2,b,lnD la,lnD lb,rfl,eK9 hp (fJ5 (.inl rfl)) (fB4 (.inl rfl)),fC9,eR7,ne⟩
theorem NfP.gs{n:Nat}{d:D}(h:NfP d):GS (n+3) d:=by
 rcases h with rfl|⟨ns,t,b,li,re,hp,hl,hr,rfl,ne⟩
 ·exact .inl rfl
 refine .inr ⟨ns,t.1,t.2,b,li,re,rfl,eK9 hp ?_ ?_,?_,?_,ne⟩
 · rcases hl with _|⟨m,hm⟩|⟨x,m,hx,_,hm⟩
   ·exact .inl rfl
   ·exact .inr ⟨[],m,rfl,by decide,(fun _ h=>nomatch h),hm.gs⟩
   ·exact .inr ⟨[x],m,rfl,by show 1≤3;decide,(fun y hy=>by rw[List.mem_singleton.mp hy];exact hx.gs),hm.gs⟩
 · rcases hr with _|⟨m,hm⟩|⟨k,x,m,hx,_,_,hm⟩
   ·exact .inl rfl
   ·exact .inr ⟨[],m,rfl,by decide,.nil,(fun _ h=>nomatch h),hm.gs⟩
   ·exact .inr ⟨[("a",k,x)],m,rfl,by show 1≤4;decide,List.pairwise_singleton ..,(fun y hy=>by rw[List.mem_singleton.mp hy];exact⟨⟨⟨by show cZ2 "a" =true;decide +kernel,by show ("a" :Str).length≤1000;decide⟩,by show 0<("a" :Str).length;decide⟩,hx.gs⟩),hm.gs⟩
 · intro fs m e
   rcases hl with _|⟨m',hm⟩|⟨x,m',hx,nx,hm⟩
   ·cases e
   ·cases e;exact fun h=>nomatch h
   ·cases e;exact fun h=>nx (List.mem_singleton.mp h).symm
 · intro fs m e f hf
   rcases hr with _|⟨m',hm⟩|⟨k,x,m',hx,nx,ng,hm⟩
   ·cases e
   ·rw[dR3 e]at hf;cases hf
   · injection e with e;injection e with e1 e2;injection e1 with e1;injection e2 with e2 _
     have e3:([("a",k,x)]:List (Str×Bool×D))=fs:=aW8 e1
     subst e3 e2
     rw[List.mem_singleton.mp hf]
     exact⟨nx,ng⟩
noncomputable def NMs:List (List Str):= [[], ["a"], ["c"], ["a", "c"]]
def VS:Nat→D→Prop
 |0,_=>False
 |n+1,d=>(∃i,d= .int i)∨(∃k,d= .bl k)∨(∃z:Str,d= .str z∧z.length≤1000)∨(∃l,d=lsV l∧l.length≤2∧∀x∈l,VS n x)∨
    ∃ps:List (Str×D),d=rcV (ps.map S6)∧ps.map (·.1)∈NMs∧∀p∈ps,VS n p.2
def Only(n:Nat)(v s:D):Prop:=inP n v s=true∧∀w,VS n w→inP n w s=true→w=v
theorem dW5{n:Nat}{ns:Ns}{w:Str}{ts:List Str}{b:List Bool}{li re:D}{l:List D}:inP (n+1) (lsV l) (mkS ns w ts b li re)=aH6 (inP n) l li:=bO3
theorem dL4{n:Nat}{ns:Ns}{w:Str}{ts:List Str}{b:List Bool}{li re:D}{l:List D}:inP (n+1) (rcV l) (mkS ns w ts b li re)=W8 (inP n) l re:=bU4
theorem bF4{P:Prop}{b:Bool}(h:b=true)(e:b=false):P:=by rw[h]at e;cases e
theorem bC4{w:D}:∀ {n:Nat},VS n w→inP n w noS=false
 |0,h=>h.elim
 |n+1,h=>by
   rcases h with⟨i,rfl⟩|⟨k,rfl⟩|⟨z,rfl,_⟩|⟨l,rfl,_,_⟩|⟨ps,rfl,_,_⟩
   ·rfl
   ·rfl
   ·rfl
   ·exact dW5
   ·exact dL4
theorem Only.ne{n:Nat}{v s:D}(h:Only n v s)(hv:VS n v):s≠noS:=fun e=>bF4 h.1 (by rw[e];exact bC4 hv)
theorem bU1{n:Nat}{ns:Ns}{ts:List Str}{b:List Bool}{li re v:D}(h:inP (n+1) v (mkS ns wOf ts b li re)=true)
 (hi:∀i,(ns.map stD).any (cI3 i)=true→ .int i=v) (hb:∀k,inV (.bl k) ((b.map D.bl).map toV)=true→ .bl k=v) (hz:∀z,inV (.str z) ((ts.map D.str).map toV)=true→ .str z=v)
 (hl:∀l,l.length≤2→(∀x∈l,VS n x)→aH6 (inP n) l li=true→lsV l=v) (hr:∀ps:List (Str×D),ps.map (·.1)∈NMs→(∀p∈ps,VS n p.2)→W8 (inP n) (ps.map S6) re=true→rcV (ps.map S6)=v):Only (n+1) v (mkS ns wOf ts b li re):=by
 refine⟨h,fun w hw e=>?_⟩
 rcases hw with⟨i,rfl⟩|⟨k,rfl⟩|⟨z,rfl,_⟩|⟨l,rfl,h1,h2⟩|⟨ps,rfl,h1,h2⟩
 ·exact hi i e
 ·exact hb k e
 · rw[cX1]at e
   exact hz z (by rw[show (wOf==wOf)=true from by decide,beq_iff_eq]at e;exact e)
 ·exact hl l h1 h2 (dW5.symm.trans e)
 ·exact hr ps h1 h2 (dL4.symm.trans e)
theorem dR8{n:Nat}{i:Int}:Only (n+1) (.int i) (mkS [(.int i,.int i)] wOf [] [] .non .non):=by
 refine bU1 ?_ (fun j h=>?_) (fun k h=>nomatch h) (fun z h=>nomatch h) (fun l _ _ h=>nomatch h) (fun ps _ _ h=>nomatch h)
 · rw[dX7]
   show (decide (i≤i)&&decide (i≤i)||false)=true
   simp
 · have e:(decide (i≤j)&&decide (j≤i)||false)=true:=h
   simp at e
   rw[show j=i by lia]
theorem eD1{n:Nat}{k:Bool}:Only (n+1) (.bl k) (mkS [] wOf [] [k] .non .non):=by
 refine bU1 ?_ (fun j h=>nomatch h) (fun k' h=>?_) (fun z h=>nomatch h) (fun l _ _ h=>nomatch h) (fun ps _ _ h=>nomatch h)
 ·cases k<;>rfl
 ·cases k<;>cases k'<;>first|rfl|exact nomatch h
theorem dU6{n:Nat}{z:Str}:Only (n+1) (.str z) (mkS [] wOf [z] [] .non .non):=by
 have e:∀y:Str,inV (.str y) (([z].map D.str).map toV)=true↔y=z:=by
  intro y
  show ((eqV (V.str z) (V.str y))||false)=true↔_
  rw[Bool.or_false]
  simp[eqV]
  exact eq_comm
 refine bU1 ?_ (fun j h=>nomatch h) (fun k' h=>nomatch h) (fun y h=>by rw[(e y).mp h]) (fun l _ _ h=>nomatch h) (fun ps _ _ h=>nomatch h)
 rw[cX1,(e z).mpr rfl];decide
section
variable{f:D→D→Bool}{x y m o p:D}
theorem fG5:aH6 f [o,p] (.tup [.tup [],m])= (f o m&&f p m):=by show (true&&(f o m&&(f p m&&true)))=_;rw[Bool.true_and,Bool.and_true]
theorem eJ7:aH6 f [o,p] (.tup [.tup [x,y],m])= (f o x&&f p y):=by show (true&&(f o x&&(f p y&&true)))=_;rw[Bool.true_and,Bool.and_true]
end
theorem cO6{α:Type}{l:List α}(h:l.length≤2):l= []∨(∃x,l= [x])∨∃x y,l= [x,y]:=by
 rcases l with _|⟨x,_|⟨y,_|⟨z,r⟩⟩⟩
 ·exact .inl rfl
 ·exact .inr (.inl ⟨x,rfl⟩)
 ·exact .inr (.inr ⟨x,y,rfl⟩)
 ·rw[List.length_cons,List.length_cons,List.length_cons]at h;lia
theorem cQ2{a b:Bool}(h:(a&&b)=true):a=true:=by cases a;cases h;rfl
theorem dA6{a b:Bool}(h:(a&&b)=true):b=true:=by cases a;cases h;exact h
theorem dY5{n:Nat}{zs:List (D×D)}(hl:zs.length≤2)(h:∀z∈zs,Only n z.1 z.2):Only (n+1) (lsV (zs.map (·.1))) (mkS [] wOf [] [] (.tup [.tup (zs.map (·.2)),noS]) .non):=by
 refine bU1 ?_ (fun j h=>nomatch h) (fun k' h=>nomatch h) (fun y h=>nomatch h) (fun l h1 h2 e=>?_) (fun ps _ _ h=>nomatch h)
 · rw[dW5]
   rcases cO6 hl with rfl|⟨x,rfl⟩|⟨x,y,rfl⟩
   ·rfl
   ·exact bZ3.trans (h x (List.mem_cons_self ..)).1
   ·exact eJ7.trans (by rw[(h x (List.mem_cons_self ..)).1,(h y (List.mem_cons_of_mem _ (List.mem_cons_self ..))).1];rfl)
 · rcases cO6 hl with rfl|⟨x,rfl⟩|⟨x,y,rfl⟩<;>rcases cO6 h1 with rfl|⟨o,rfl⟩|⟨o,p,rfl⟩
   ·rfl
   ·exact bF4 (dN1.symm.trans e) (bC4 (h2 o (List.mem_cons_self ..)))
   ·exact bF4 (cQ2 (fG5.symm.trans e)) (bC4 (h2 o (List.mem_cons_self ..)))
   ·exact nomatch e
   ·rw[(h x (List.mem_cons_self ..)).2 o (h2 o (List.mem_cons_self ..)) (bZ3.symm.trans e)];rfl
   ·exact bF4 (dA6 (dV6.symm.trans e)) (bC4 (h2 p (List.mem_cons_of_mem _ (List.mem_cons_self ..))))
   ·exact nomatch e
   ·exact nomatch e
   · have e':=eJ7.symm.trans e
     rw[(h x (List.mem_cons_self ..)).2 o (h2 o (List.mem_cons_self ..)) (cQ2 e'),(h y (List.mem_cons_of_mem _ (List.mem_cons_self ..))).2 p (h2 p (List.mem_cons_of_mem _ (List.mem_cons_self ..))) (dA6 e')];rfl
theorem nm4{α:Type}{l:List (Str×α)}(h:l.map (·.1)∈NMs):l= []∨(∃x,l= [(("a" :Str),x)])∨(∃x,l= [(("c" :Str),x)])∨∃x y,l= [(("a" :Str),x),(("c" :Str),y)]:=by
 simp only[NMs,List.mem_cons,List.not_mem_nil,or_false]at h
 rcases l with _|⟨⟨a,x⟩,_|⟨⟨b,y⟩,_|⟨z,r⟩⟩⟩
 ·exact .inl rfl
 · rcases h with h|h|h|h
   ·cases h
   ·injection h with h _;simp only at h;subst h;exact .inr (.inl ⟨x,rfl⟩)
   ·injection h with h _;simp only at h;subst h;exact .inr (.inr (.inl ⟨x,rfl⟩))
   ·injection h with _ h;cases h
 · rcases h with h|h|h|h
   ·cases h
   ·injection h with _ h;cases h
   ·injection h with _ h;cases h
   ·injection h with h1 h;injection h with h2 _;simp only at h1 h2;subst h1 h2;exact .inr (.inr (.inr ⟨x,y,rfl⟩))
 · rcases h with h|h|h|h
   ·cases h
   ·injection h with _ h;cases h
   ·injection h with _ h;cases h
   ·injection h with _ h;injection h with _ h;cases h
section
variable{f:D→D→Bool}{x y m o p:D}
theorem eJ1:W8 f [fc o] (.tup [.tup [fdD ("c",true,x)],m])=f o x:=by show (true&&(f o x&&true))=_;rw[Bool.true_and,Bool.and_true]
theorem fA7:W8 f [fa o,fc p] (.tup [.tup [],m])= (f o m&&f p m):=by show (true&&(f o m&&(f p m&&true)))=_;rw[Bool.true_and,Bool.and_true]
theorem fD7:W8 f [fa o,fc p] (.tup [.tup [fdD ("c",true,x)],m])= (f o m&&f p x):=by show (true&&(f o m&&(f p x&&true)))=_;rw[Bool.true_and,Bool.and_true]
theorem eM0:W8 f [fa o,fc p] (.tup [.tup [fdD ("a",true,x),fdD ("c",true,y)],m])= (f o x&&f p y):=by show (true&&(f o x&&(f p y&&true)))=_;rw[Bool.true_and,Bool.and_true]
end
def qV(q:Str×D×D):D:=S6 (q.1,q.2.1)
noncomputable def qS(q:Str×D×D):Str×Bool×D:=(q.1,true,q.2.2)
theorem eG6{n:Nat}{zs:List (Str×D×D)}(hl:zs.map (·.1)∈NMs)(h:∀z∈zs,Only n z.2.1 z.2.2):Only (n+1) (rcV (zs.map qV)) (mkS [] wOf [] [] .non (.tup [.tup ((zs.map qS).map fdD),noS])):=by
 refine bU1 ?_ (fun j h=>nomatch h) (fun k' h=>nomatch h) (fun y h=>nomatch h) (fun l h1 h2 e=>nomatch e) (fun ps h1 h2 e=>?_)
 · rw[dL4]
   rcases nm4 hl with rfl|⟨x,rfl⟩|⟨x,rfl⟩|⟨x,y,rfl⟩
   ·rfl
   ·exact(cA2 (k:=true)).trans (h _ (List.mem_cons_self ..)).1
   ·exact eJ1.trans (h _ (List.mem_cons_self ..)).1
   ·exact eM0.trans (by rw[(h _ (List.mem_cons_self ..)).1,(h _ (List.mem_cons_of_mem _ (List.mem_cons_self ..))).1];rfl)
 · rcases nm4 hl with rfl|⟨x,rfl⟩|⟨x,rfl⟩|⟨x,y,rfl⟩<;>rcases nm4 h1 with rfl|⟨o,rfl⟩|⟨o,rfl⟩|⟨o,p,rfl⟩
   ·rfl
   ·exact bF4 (dA9.symm.trans e) (bC4 (h2 _ (List.mem_cons_self ..)))
   ·exact bF4 (eL3.symm.trans e) (bC4 (h2 _ (List.mem_cons_self ..)))
   ·exact bF4 (cQ2 (fA7.symm.trans e)) (bC4 (h2 _ (List.mem_cons_self ..)))
   ·exact nomatch e
   ·rw[(h _ (List.mem_cons_self ..)).2 o (h2 _ (List.mem_cons_self ..)) ((cA2 (k:=true)).symm.trans e)];rfl
   ·exact nomatch e
   ·exact bF4 (dA6 ((dW4 (k:=true)).symm.trans e)) (bC4 (h2 _ (List.mem_cons_of_mem _ (List.mem_cons_self ..))))
   ·exact nomatch e
   ·exact nomatch e
   ·rw[(h _ (List.mem_cons_self ..)).2 o (h2 _ (List.mem_cons_self ..)) (eJ1.symm.trans e)];rfl
   ·exact bF4 (cQ2 (fD7.symm.trans e)) (bC4 (h2 _ (List.mem_cons_self ..)))
   ·exact nomatch e
   ·exact nomatch e
   ·exact nomatch e
   · have e':=eM0.symm.trans e
     rw[(h _ (List.mem_cons_self ..)).2 o (h2 _ (List.mem_cons_self ..)) (cQ2 e'),(h _ (List.mem_cons_of_mem _ (List.mem_cons_self ..))).2 p (h2 _ (List.mem_cons_of_mem _ (List.mem_cons_self ..))) (dA6 e')];rfl
theorem eA7{ns:Ns}{ts:List Str}{tr:List Bool}{li re x:D}(h:bJ9 (mkS ns wOf ts tr li re) x)(hl:∀a,LiF li a→a=li)(hr:∀a,ReF re a→a=re):x=mkS ns wOf ts tr li re:=by
 obtain⟨ns1,w1,ts1,tr1,l1,r1,l1',r1',e1,a1,b1,c1⟩:=h
 obtain⟨en,ew,et,eb,el,er⟩:=bF2 e1
 subst el er ew
 obtain rfl:=hl _ a1
 obtain rfl:=hr _ b1
 rcases c1 with⟨u,_⟩|⟨_,rfl⟩
 ·exact absurd (bF2 u).2.1 (by decide)
 ·unfold mkS;rw[en,et,eb]
theorem cD5{a:D}(h:LiF .non a):a= .non:=by
 rcases h with⟨_,rfl⟩|⟨_,_,e,_⟩
 ·rfl
 ·cases e
theorem cG7{a:D}(h:ReF .non a):a= .non:=by
 rcases h with⟨_,rfl⟩|⟨_,_,e,_⟩
 ·rfl
 ·cases e
theorem eS7{fs:List D}{m a:D}(hn:noS∉fs)(h:LiF (.tup [.tup fs,m]) a):a= .tup [.tup fs,m]:=by
 rcases h with⟨e,_⟩|⟨fs',m',e,h⟩
 ·cases e
 · cases e
   rcases h with⟨p,_⟩|⟨_,rfl⟩
   ·exact absurd p hn
   ·rfl
theorem eM8{fs:List (Str×Bool×D)}{m a:D}(hm:∀f∈fs,f.2.1=true)(hn:∀f∈fs,f.2.2≠noS)(h:ReF (.tup [.tup (fs.map fdD),m]) a):a= .tup [.tup (fs.map fdD),m]:=by
 rcases h with⟨e,_⟩|⟨f1,m1,e,h⟩
 ·cases e
 injection e with e;injection e with e1 e2;injection e1 with e1;injection e2 with e2 _
 obtain rfl:=aW8 e1
 subst e2
 rcases h with⟨⟨f,hf,_,p⟩,_⟩|⟨_,p,hp,rfl⟩
 ·exact absurd p (hn f hf)
 · rw[List.filter_eq_self.mpr fun f hf=>?_]
   rcases e:p f with _|_
   ·have:=((hp f hf).mp e).1;rw[hm f hf]at this;cases this
   ·rfl
def dE6(n:Nat)(v:D)(G:DH)(s:D)(G':DH):Prop:=Ap G G'∧SB (n+1) s∧Only n v s
theorem aH8{n:Nat}{v:D}{ns:Ns}{ts:List Str}{tr:List Bool}{li re:D}{G:DH}(hn:n+1≤7)(h1:∀p∈ns,bA2 p)(h2:ns.length≤100)(h3:∀z∈ts,z.length≤1000)(h4:ts.length≤100)(h5:tr.length≤100)(h6:LiP (SB (n+1)) li)(h7:ReP (SB (n+1)) re)(hl:∀a,LiF li a→a=li)(hr:∀a,ReF re a→a=re)(o:Only (n+1) v (mkS ns wOf ts tr li re)):Wp (Z0 [.tup (ns.map stD),.tup [.str wOf,.tup (ts.map D.str)],.tup (tr.map D.bl),li,re]) G (dE6 (n+1) v G):=
 (cW2 hn h1 h2 h3 h4 h5 h6 h7).mono fun x G' ⟨a,m,s⟩=>by
   obtain rfl:=eA7 m hl hr
   exact⟨a,s,o⟩
theorem eJ2{n:Nat}:SB (n+1) noS:=.inr ⟨[],wOf, [], [],.non,.non,rfl,(fun _ h=>nomatch h),by decide,(fun _ h=>nomatch h),by decide,by decide,.inl rfl,.inl rfl⟩
theorem cB4{α:Type}{l:List (Str×α)}(h:l.map (·.1)∈NMs):l.length≤2∧(l.map (·.1)).Nodup∧∀f∈l,f.1.length≤1000:=by
 have e:∀n∈NMs,n.length≤2∧n.Nodup∧∀z∈n,z.length≤1000:=by decide
 obtain⟨e1,e2,e3⟩:=e _ h
 rw[List.length_map]at e1
 exact⟨e1,e2,fun f hf=>e3 _ (List.mem_map.mpr ⟨f,hf,rfl⟩)⟩
theorem r0:∀p∈([]:Ns),bA2 p:=fun _ h=>nomatch h
theorem t0:∀z∈([]:List Str),z.length≤1000:=fun _ h=>nomatch h
theorem ri{i:Int}:∀p∈([(.int i,.int i)]:Ns),bA2 p:=fun p hp=>by
 rw[List.mem_singleton.mp hp]
 exact⟨trivial,trivial,fun a b ea eb=>by cases ea;cases eb;exact⟨by lia,by rw[Int.sub_self];decide⟩⟩
theorem cV3{n:Nat}{i:Int}{G:DH}(hn:n+1≤7):Wp (aE5 [.int i,.int i]) G (dE6 (n+1) (.int i) G):=by
 refine J3 (show Wp (aX0 [some (.int i),some (.int i)]) G _ from ?_)
 unfold aX0
 refine K9<| bH7.mpr<| aF3.mpr<| m7 (as:= [.int i,.int i]) rfl rfl<| (aL0 (a:=.int i) (b:=.int i) trivial trivial).mpr<| Z6.mpr ?_
 rw[show cE6 (.int i) (.int i)=false from by show decide (i>i)=false;simp]
 refine m7 (as:= [.tup ([((.int i,.int i):D×D)].map stD),.tup [.str wOf,.tup (([]:List Str).map D.str)],.tup (([]:List Bool).map D.bl),.non,.non]) (G1:=G) rfl rfl ?_
 refine(aH8 hn ri (show 1≤100 by decide) t0 (by decide) (by decide) (.inl rfl) (.inl rfl) (fun _=>cD5) (fun _=>cG7) dR8).mono fun x G' q=>K5 q
theorem dU2{n:Nat}{zs:List (D×D)}{G:DH}(hn:n+1≤7)(h1:zs.length≤2)(hz:∀z∈zs,SB (n+1) z.2∧VS n z.1∧Only n z.1 z.2):Wp (Z8 [.tup (zs.map (·.2)),noS]) G (dE6 (n+1) (lsV (zs.map (·.1))) G):=by
 generalize hf:zs.map (·.2)=fs
 refine J3 (show Wp (aK4 [some (.tup fs),some noS]) G _ from ?_)
 subst hf
 unfold aK4
 refine K9<| m7 (as:= [.tup (([]:Ns).map stD),.tup [.str wOf,.tup (([]:List Str).map D.str)],.tup (([]:List Bool).map D.bl),.tup [.tup (zs.map (·.2)),noS],.non]) (G1:=G) rfl rfl ?_
 refine(aH8 hn r0 (by decide) t0 (by decide) (by decide) (.inr ⟨_,_,rfl,by rw[List.length_map];lia,(fun x hx=>?_),eJ2⟩) (.inl rfl) (fun _=>eS7 fun hx=>?_) (fun _=>cG7) (dY5 h1 fun z hzm=>(hz z hzm).2.2)).mono fun x G' q=>K5 q
 · obtain⟨z,hzm,rfl⟩:=List.mem_map.mp hx
   exact(hz z hzm).1
 · obtain⟨z,hzm,e⟩:=List.mem_map.mp hx
   exact(hz z hzm).2.2.ne (hz z hzm).2.1 e
theorem cQ4{n:Nat}{qs:List (Str×D×D)}{G:DH}(hn:n+1≤7)(h1:qs.map (·.1)∈NMs)(hq:∀q∈qs,SB (n+1) q.2.2∧VS n q.2.1∧Only n q.2.1 q.2.2):Wp (U4 [.tup ((qs.map qS).map fdD),noS]) G (dE6 (n+1) (rcV (qs.map qV)) G):=by
 obtain⟨n1,n2,n3⟩:=cB4 h1
 generalize hf:(qs.map qS).map fdD=fs
 refine J3 (show Wp (aE9 [some (.tup fs),some noS]) G _ from ?_)
 subst hf
 unfold aE9
 refine K9<| m7 (as:= [.tup (([]:Ns).map stD),.tup [.str wOf,.tup (([]:List Str).map D.str)],.tup (([]:List Bool).map D.bl),.non,.tup [.tup ((qs.map qS).map fdD),noS]]) (G1:=G) rfl rfl ?_
 refine(aH8 hn r0 (by decide) t0 (by decide) (by decide) (.inl rfl) (.inr ⟨qs.map qS,_,rfl,by rw[List.length_map];lia,by rw[List.map_map];exact n2,(fun x hx=>?_),eJ2⟩) (fun _=>cD5) (fun _=>eM8 (fun f hf=>?_) fun f hf=>?_) (eG6 h1 fun q hqm=>(hq q hqm).2.2)).mono fun x G' q=>K5 q
 · obtain⟨q,hqm,rfl⟩:=List.mem_map.mp hx
   exact⟨n3 q hqm,(hq q hqm).1⟩
 · obtain⟨q,hqm,rfl⟩:=List.mem_map.mp hf
   rfl
 · obtain⟨q,hqm,rfl⟩:=List.mem_map.mp hf
   exact(hq q hqm).2.2.ne (hq q hqm).2.1
theorem eB4{p q:Str×D}(h:S6 p=S6 q):p=q:=by
 obtain⟨a,b⟩:=p
 obtain⟨c,d⟩:=q
 unfold S6 at h
 simp only[D.tup.injEq,List.cons.injEq,D.str.injEq,and_true]at h
 rw[h.1,h.2]
theorem eK4{R:Str×D×D→Prop}:∀zs:List (D×D),(∀z∈zs,∃q:Str×D×D,z.1=qV q∧z.2=fdD (qS q)∧R q)→∃qs:List (Str×D×D),zs.map (·.1)=qs.map qV∧zs.map (·.2)= (qs.map qS).map fdD∧∀q∈qs,R q
 |[],_=>⟨[],rfl,rfl,fun _ h=>nomatch h⟩
 |z::r,h=>by
   obtain⟨q,e1,e2,hq⟩:=h z (List.mem_cons_self ..)
   obtain⟨qs,f1,f2,hqs⟩:=eK4 r fun y hy=>h y (List.mem_cons_of_mem _ hy)
   refine⟨q::qs,by rw[List.map_cons,List.map_cons,e1,f1],by rw[List.map_cons,List.map_cons,List.map_cons,e2,f2],fun y hy=>?_⟩
   rcases List.mem_cons.mp hy with rfl|hy
   ·exact hq
   ·exact hqs y hy
theorem bQ0:∀(n m:Nat) (v:D) (G:DH),n≤5→n≤m→VS n v→Wp (aT2 m [v]) G (dE6 n v G)
 |0,_,_,_,_,_,h=>h.elim
 |n+1,0,_,_,_,h,_=>absurd h (by lia)
 |n+1,m+1,v,G,hn,hm,hv=>by
   have bg:1000≤sizeLine:=by decide
   refine J3 (show Wp (aU4 (aT2 m) [some v]) G _ from ?_)
   unfold aU4
   rcases hv with⟨i,rfl⟩|⟨k,rfl⟩|⟨z,rfl,hz⟩|⟨l,rfl,h1,h2⟩|⟨ps,rfl,h1,h2⟩
   · refine o7 (σ':= [some (.int i)]) (G':=G) rfl<| m9.mpr<| aL8<| X6<| d8 (a:=.bl true) (G':=G) rfl ⟨rfl,fun _=>?_,fun h=>nomatch h⟩
     exact K9<| m7 (as:= [.int i,.int i]) rfl rfl<| (cV3 (by lia)).mono fun x G' q=>K5 q
   · refine m9.mpr<| aL8<| X6<| d8 (a:=.bl true) (G':=G) rfl ⟨rfl,fun _=>?_,fun h=>nomatch h⟩
     exact K9<| m7 (as:= [.tup (([]:Ns).map stD),.tup [.str wOf,.tup (([]:List Str).map D.str)],.tup ([k].map D.bl),.non,.non]) (G1:=G) rfl rfl<| (aH8 (tr:= [k]) (by lia) r0 (by decide) t0 (by decide) (show 1≤100 by decide) (.inl rfl) (.inl rfl) (fun _=>cD5) (fun _=>cG7) eD1).mono fun x G' q=>K5 q
   · refine o7 (σ':= [some (.str z)]) (G':=G) rfl<| o7 (σ':= [some (.str z)]) (G':=G) rfl<| m9.mpr<| aL8<| X6<| d8 (a:=.bl true) (G':=G) rfl ⟨rfl,fun _=>?_,fun h=>nomatch h⟩
     exact K9<| m7 (as:= [.tup (([]:Ns).map stD),.tup [.str wOf,.tup ([z].map D.str)],.tup (([]:List Bool).map D.bl),.non,.non]) (G1:=G) rfl rfl<| (aH8 (ts:= [z]) (by lia) r0 (by decide) (fun y hy=>by rw[List.mem_singleton.mp hy];exact hz) (show 1≤100 by decide) (by decide) (.inl rfl) (.inl rfl) (fun _=>cD5) (fun _=>cG7) dU6).mono fun x G' q=>K5 q
   · refine o7 (σ':= [some (lsV l)]) (G':=G) rfl<| o7 (σ':= [some (lsV l)]) (G':=G) rfl<| o7 (σ':= [some (lsV l)]) (G':=G) rfl<| m9.mpr<| aL8<| S8<| d8 (a:=.bl true) (G':=G) rfl ⟨true,rfl,fun _=>?_,fun h=>nomatch h⟩
     refine K9<| R9<| u0<| R9<| u0<| X8 (l:=l) rfl (by lia)<| (bZ9 (Ap G) (fun σ=>∃u,σ= [u]) (fun d y=>SB (n+1) y∧Only n d y) (fun _ _=>rfl) l _ G ⟨_,rfl⟩ Ap.refl ?_).mono ?_
     · rintro d hd _ G1 ⟨u,rfl⟩ a1
       exact S5.mpr ⟨rfl,⟨_,rfl⟩,m7 (as:= [d]) rfl rfl<| (bQ0 n m d G1 (by lia) (by lia) (h2 d hd)).mono fun s G2 ⟨a2,s2,o2⟩=>⟨a1.trans a2,s2,o2⟩⟩
     · rintro _ G1 ⟨a1,zs,rfl,rfl,hz⟩
       rw[List.length_map]at h1
       exact G9.mpr<| (aH4 j9).mpr<| d8 (a:= [noS]) (G':=G1++[.lst (zs.map (·.2))]) rfl<| aF8.mpr ⟨rfl,(dU2 (by lia) h1 (fun z hzm=>⟨(hz z hzm).1,h2 _ (List.mem_map.mpr ⟨z,hzm,rfl⟩),(hz z hzm).2⟩)).mono fun x G' ⟨a,q⟩=>K5 ⟨a1.trans (Ap.one.trans a),q⟩⟩
   · refine o7 (σ':= [some (rcV (ps.map S6))]) (G':=G) rfl<| o7 (σ':= [some (rcV (ps.map S6))]) (G':=G) rfl<| o7 (σ':= [some (rcV (ps.map S6))]) (G':=G) rfl<| o7 (σ':= [some (rcV (ps.map S6))]) (G':=G) rfl ?_
     obtain⟨n1,n2,n3⟩:=cB4 h1
     refine K9<| R9<| u0<| R9<| u0<| X8 (l:=ps.map S6) rfl (by rw[List.length_map];lia)<| (bZ9 (Ap G) (fun σ=>∃u w,σ= [u,w]) (fun d y=>∃q:Str×D×D,d=qV q∧y=fdD (qS q)∧SB (n+1) q.2.2∧Only n q.2.1 q.2.2) (fun _ _=>rfl) (ps.map S6) _ G ⟨_,_,rfl⟩ Ap.refl ?_).mono ?_
     · rintro d hd _ G1 ⟨u,w,rfl⟩ a1
       obtain⟨p,hp,rfl⟩:=List.mem_map.mp hd
       refine d8 (a:= [some (.str p.1),some p.2]) (G':=G1) rfl ⟨rfl,⟨_,_,rfl⟩,aG4.mpr<| aD2 (x:=.str p.1) (G1:=G1) rfl<| aD2 (x:=.bl true) (G1:=G1) rfl<| u0<| m7 (as:= [p.2]) rfl rfl<| (bQ0 n m p.2 G1 (by lia) (by lia) (h2 p hp)).mono fun s G2 ⟨a2,s2,o2⟩=>G9.mpr ⟨sz,a1.trans a2,(p.1,p.2,s),rfl,rfl,s2,o2⟩⟩
     · rintro _ G1 ⟨a1,zs,e1,rfl,hz⟩
       obtain⟨qs,e2,e3,hq⟩:=eK4 zs hz
       rw[e2]at e1
       have e4:ps=qs.map fun q=>(q.1,q.2.1):=cH0 (fun _ _=>eB4) (e1.symm.trans (List.map_map ..).symm)
       subst e4
       rw[e3]
       have h1':qs.map (·.1)∈NMs:=by rw[List.map_map]at h1;exact h1
       obtain⟨n1,n2,n3⟩:=cB4 h1'
       have e5:((qs.map fun q=>(q.1,q.2.1)).map S6)=qs.map qV:=by rw[List.map_map];rfl
       rw[e5]
       exact G9.mpr<| (aH4 j9).mpr<| d8 (a:= [noS]) (G':=G1++[.lst ((qs.map qS).map fdD)]) rfl<| aF8.mpr ⟨rfl,(cQ4 (by lia) h1' (fun q hqm=>⟨(hq q hqm).1,h2 _ (List.mem_map.mpr ⟨q,hqm,rfl⟩),(hq q hqm).2⟩)).mono fun x G' ⟨a,q⟩=>K5 ⟨a1.trans (Ap.one.trans a),q⟩⟩
theorem dZ3{v:D}{G:DH}(h:VS 3 v):Wp (bB5 [v]) G (dE6 3 v G):=bQ0 3 4 v G (by decide) (by decide) h
theorem bD1{n:Nat}:∀v∈J0,VS (n+1) v:=by
 intro v hv
 simp only[J0,vI,vS,List.map_cons,List.map_nil,List.cons_append,List.nil_append,List.mem_cons,List.not_mem_nil,or_false]at hv
 rcases hv with rfl|rfl|rfl|rfl|rfl|rfl|rfl|rfl|rfl|rfl|rfl|rfl|rfl
 all_goals first
  |exact .inl ⟨_,rfl⟩
  |exact .inr (.inl ⟨_,rfl⟩)
  |exact .inr (.inr (.inl ⟨_,rfl,by decide⟩))
  |exact .inr (.inr (.inr (.inl ⟨[],rfl,by decide,fun _ h=>nomatch h⟩)))
  |exact .inr (.inr (.inr (.inr ⟨[],rfl,List.Mem.head _,fun _ h=>nomatch h⟩)))
theorem eL2{n:Nat}{l:List D}(hl:l.length≤2)(h:∀x∈l,VS n x):VS (n+1) (lsV l):=.inr (.inr (.inr (.inl ⟨l,rfl,hl,h⟩)))
theorem dR9{n:Nat}{ps:List (Str×D)}(hl:ps.map (·.1)∈NMs)(h:∀p∈ps,VS n p.2):VS (n+1) (rcV (ps.map S6)):=.inr (.inr (.inr (.inr ⟨ps,rfl,hl,h⟩)))
theorem cY2:∀v∈R7,VS 3 v:=by
 intro v hv
 rcases List.mem_append.mp hv with hv|hv
 · rcases List.mem_append.mp hv with hv|hv
   ·exact bD1 (n:=2) v hv
   · obtain⟨o,ho,hv⟩:=List.mem_flatMap.mp hv
     have h1:=bD1 (n:=1) o ho
     simp only[v1,List.mem_cons,List.not_mem_nil,or_false]at hv
     rcases hv with rfl|rfl|rfl
     ·exact eL2 (by show 1≤2;decide) fun x hx=>by rw[List.mem_singleton.mp hx];exact h1
     ·exact dR9 (ps:= [("a",o)]) (List.Mem.tail _ (List.Mem.head _)) fun x hx=>by rw[List.mem_singleton.mp hx];exact h1
     ·exact dR9 (ps:= [("c",o)]) (List.Mem.tail _ (List.Mem.tail _ (List.Mem.head _))) fun x hx=>by rw[List.mem_singleton.mp hx];exact h1
 · obtain⟨o,ho,hv⟩:=List.mem_flatMap.mp hv
   obtain⟨p,hp,hv⟩:=List.mem_flatMap.mp hv
   have h1:=bD1 (n:=1) o ho
   have h2:=bD1 (n:=1) p hp
   simp only[v2,List.mem_cons,List.not_mem_nil,or_false]at hv
   rcases hv with rfl|rfl
   · refine eL2 (by show 2≤2;decide) fun x hx=>?_
     rcases List.mem_cons.mp hx with rfl|hx
     ·exact h1
     ·rw[List.mem_singleton.mp hx];exact h2
   · refine dR9 (ps:= [("a",o),("c",p)]) (List.Mem.tail _ (List.Mem.tail _ (List.Mem.tail _ (List.Mem.head _)))) fun x hx=>?_
     rcases List.mem_cons.mp hx with rfl|hx
     ·exact h1
     ·rw[List.mem_singleton.mp hx];exact h2
noncomputable def cS(z:Str):Nat:=if z= "" then 6 else if z= "a" then 7 else 8
def c0:D→Nat
 | .int i=>(i+2).toNat
 | .str z=>cS z
 | .bl k=>if k then 10 else 9
 | .tup (.str k::_)=>if k=aT5 then 11 else 12
 |_=>13
def cL:List D→Nat
 |[]=>11
 |[o]=>100+c0 o
 |[o,p]=>1000+20*c0 o+c0 p
 |_=>0
def cR:List D→Nat
 |[]=>12
 |[.tup [.str n,o]]=>(if n= "a" then 200 else 300)+c0 o
 |[.tup [_,o],.tup [_,p]]=>2000+20*c0 o+c0 p
 |_=>0
def c1:D→Nat
 | .tup [.str k,.tup l]=>if k=aT5 then cL l else cR l
 |d=>c0 d
theorem eA9:R7.Nodup:=by
 have h:(R7.map c1).Nodup:=by decide +kernel
 exact List.Pairwise.of_map c1 (fun a b h e=>h (congrArg c1 e)) h
theorem bP6{α:Type}{p:α→Bool}{v:α}:∀ {l:List α},l.Nodup→v∈l→(∀w∈l,p w=true↔w=v)→l.filter p= [v]
 |[],_,h,_=>nomatch h
 |x::r,nd,h,hp=>by
   obtain⟨h1,h2⟩:=List.nodup_cons.mp nd
   rcases List.mem_cons.mp h with rfl|h
   · rw[List.filter_cons_of_pos ((hp _ (List.mem_cons_self ..)).mpr rfl),List.filter_eq_nil_iff.mpr fun w hw e=>h1 ?_]
     rw[←(hp w (List.mem_cons_of_mem _ hw)).mp e];exact hw
   · have ne:¬p x=true:=fun e=>h1 (by rw[(hp x (List.mem_cons_self ..)).mp e];exact h)
     rw[List.filter_cons_of_neg ne]
     exact bP6 h2 h fun w hw=>hp w (List.mem_cons_of_mem _ hw)
theorem eJ3{g:Fg}{t:DSt→M Bool}{e:Fe}{ck:DH→Bool}(J:DH→Prop)(S:DSt→Prop)(p:D→Bool)(hck:∀G,J G→ck G=true):∀(items:List D) (σ:DSt) (G:DH),S σ→J G→
 (∀d∈items,∀ σ G,S σ→J G→Wp (g d σ) G fun σ1 G1=>G1=G∧S σ1∧Wp (t σ1) G fun k G3=>k=p d∧J G3∧Wp (e σ1) G3 fun y G4=>y=d∧G4=G3)→
 Wp (M9 g t e ck items σ) G fun ys G'=>J G'∧ys=items.filter p
 |[],σ,G,s,j,_=>aM8.mpr ⟨hck G j,j,rfl⟩
 |d::r,σ,G,s,j,step=>by
   refine aN9.mpr ⟨hck G j,(step d (List.mem_cons_self ..) σ G s j).mono fun σ1 G1 ⟨e1,s1,w1⟩=>?_⟩
   subst e1
   refine w1.mono fun k G3 ⟨ek,j3,w3⟩=>?_
   have ih:=eJ3 J S p hck r σ1 G3 s1 j3 fun d hd=>step d (List.mem_cons_of_mem _ hd)
   subst ek
   rcases hp:p d with _|_
   · rw[if_neg (by decide),List.filter_cons_of_neg (by rw[hp];decide)]
     exact ih
   · rw[if_pos rfl,List.filter_cons_of_pos hp]
     refine w3.mono fun y G4 ⟨ey,eg⟩=>?_
     subst ey eg
     exact ih.mono fun ys G5 ⟨j5,e5⟩=>⟨j5,by rw[e5]⟩
def cO8(s:D):List D:=R7.map fun v=>.bl (inP 3 v s)
def TE(i:Nat):Fe:=K8 (itW (c7 1)) [none,some i] (q13 0) (M4) (q12 (fnX 2 V1) (q10 (c7 0) (q10 (c7 1) (q11))))
theorem dX2:R7.length=390:=by decide +kernel
theorem dN5{f:D→D}:∀ {zs:List (D×D)},(∀z∈zs,z.2=f z.1)→zs.map (·.2)= (zs.map (·.1)).map f
 |[],_=>rfl
 |z::r,h=>by rw[List.map_cons,List.map_cons,List.map_cons,h z (List.mem_cons_self ..),dN5 fun y hy=>h y (List.mem_cons_of_mem _ hy)]
theorem eL4{i:Nat}{σ:DSt}{p k:Nat}{s:D}{G:DH}{Q:DPP}(hv:σ[1]? =some (some (.ref p)))(hc:aB3 [none,some i] σ= [none,some s])(e:G[p]? =some (.lst R7))(hs:SB k s)(q:∀w G',Ap G G'→G'[w]? =some (.lst (cO8 s))→G.length≤w→Q (.ref w) G'):Wp (TE i σ) G Q:=by
 have bg:1000≤sizeLine:=by decide
 have ln:=dX2
 refine wp_comp.mpr<| wp_itW.mpr<| aM7.mpr ⟨_,hv,(aB5 e).mpr ⟨by show R7.length≤_;lia,?_⟩⟩
 rw[hc]
 refine(bZ9 (Ap G) (fun σ=>∃u,σ= [u,some s]) (fun d y=>y= .bl (inP 3 d s)) (fun G' a=>aQ0 (a.at e)) R7 _ G ⟨_,rfl⟩ Ap.refl ?_).mono ?_
 · rintro d hd _ G1 ⟨u,rfl⟩ a1
   exact S5.mpr ⟨rfl,⟨_,rfl⟩,m7 (as:= [d,s]) rfl rfl<| dS6 hd hs fun G2 a2=>⟨a1.trans a2,rfl⟩⟩
 · rintro _ G1 ⟨a1,zs,e1,rfl,hz⟩
   refine q _ _ (a1.trans Ap.one) ?_ a1.len
   rw[dN5 (f:=fun v=>.bl (inP 3 v s)) hz,e1]
   exact j9
theorem fH0{σ:DSt}{p k:Nat}{s:D}{G:DH}{Q:DPP}(hv:σ[1]? =some (some (.ref p)))(hc:aB3 [none,some 13] σ= [none,some s])(e:G[p]? =some (.lst R7))(hs:SB k s)(q:∀w G',Ap G G'→G'[w]? =some (.lst (R7.filter fun v=>inP 3 v s))→Q (.ref w) G'):Wp (AE σ) G Q:=by
 have bg:1000≤sizeLine:=by decide
 have ln:=dX2
 refine wp_comp.mpr<| wp_itW.mpr<| aM7.mpr ⟨_,hv,(aB5 e).mpr ⟨by show R7.length≤_;lia,?_⟩⟩
 rw[hc]
 refine(eJ3 (Ap G) (fun σ=>∃u,σ= [u,some s]) (fun v=>inP 3 v s) (fun G' a=>aQ0 (a.at e)) R7 _ G ⟨_,rfl⟩ Ap.refl ?_).mono ?_
 · rintro d hd _ G1 ⟨u,rfl⟩ a1
   refine S5.mpr ⟨rfl,⟨_,rfl⟩,aF3.mpr<| m7 (as:= [d,s]) rfl rfl<| dS6 hd hs fun G2 a2=>Z6.mpr ⟨rfl,a1.trans a2,d8 (a:=d) (G':=G2) rfl ⟨rfl,rfl⟩⟩⟩
 · rintro _ G1 ⟨a1,rfl⟩
   exact q _ _ (a1.trans Ap.one) j9
theorem cW6{n:Nat}{G:DH}{p q:Nat}{a b:List D}(ea:G[p]? =some (.lst a))(eb:G[q]? =some (.lst b))(hl:a.length=b.length):eqN (n+1) G (.ref p) (.ref q)=eqL (eqN n G) a b:=by
 have h1:aB7 G (.ref p)=some (false,a):=by simp only[aB7,ea]
 have h2:aB7 G (.ref q)=some (false,b):=by simp only[aB7,eb]
 rw[aY4,h1,h2]
 show (if false=false then (if false=false∧a.length≠b.length then some false else eqL (eqN n G) a b)else some false)=_
 rw[if_pos rfl,if_neg (fun h=>h.2 hl)]
theorem dT6{n:Nat}{G:DH}{f g:D→Bool}:∀l:List D,∃k,eqL (eqN (n+1) G) (l.map fun v=>.bl (f v)) (l.map fun v=>.bl (g v))=some k∧(k=true↔∀v∈l,f v=g v)
 |[]=>⟨true,rfl,fun _ _ h=>(nomatch h),fun _=>rfl⟩
 |x::r=>by
   obtain⟨k,e,i⟩:=dT6 (n:=n) (G:=G) (f:=f) (g:=g) r
   refine⟨f x==g x&&k,?_,?_⟩
   · rw[List.map_cons,List.map_cons,bE9,e]
     rfl
   · rw[Bool.and_eq_true,beq_iff_eq,i]
     constructor
     · rintro⟨h1,h2⟩ v hv
       rcases List.mem_cons.mp hv with rfl|hv
       ·exact h1
       ·exact h2 v hv
     ·exact fun h=>⟨h x (List.mem_cons_self ..),fun v hv=>h v (List.mem_cons_of_mem _ hv)⟩
theorem eF7{G:DH}{p q:Nat}{x y:D}(ea:G[p]? =some (.lst (cO8 x)))(eb:G[q]? =some (.lst (cO8 y))):∃k,eqN 40 G (.ref p) (.ref q)=some k∧(k=true↔∀v∈R7,inP 3 v x=inP 3 v y):=by
 obtain⟨k,e,i⟩:=dT6 (n:=38) (G:=G) (f:=fun v=>inP 3 v x) (g:=fun v=>inP 3 v y) R7
 exact⟨k,(cW6 ea eb (by unfold cO8;rw[List.length_map,List.length_map])).trans e,i⟩
theorem dH2:∀v∈R7,M3 8 v=true:=List.all_eq_true.mp (by decide +kernel)
theorem dU5{G:DH}{p q:Nat}{v:D}(hv:v∈R7)(ea:G[p]? =some (.lst [v]))(eb:G[q]? =some (.lst [v])):eqN 40 G (.ref p) (.ref q)=some true:=
 (cW6 ea eb rfl).trans (bO4 fun x hx=>by rw[List.mem_singleton.mp hx];exact bP9 (n:=8) (by decide) (dH2 v hv))
def LQ:Fs:=(m8 (K3 (q12 (fnX 1 T8) (q10 (c7 10) (q11))) (q13 11)) (ifS (J8 (d9 neD (d9 eqD (c7 11) (c7 6)) (d9 eqD (c7 7) (TE 11)))) (o6 (cE (.bl false))) (J9)))
def LB:Fs:=(m8 (K3 (q12 (fnX 3 aC6) (q10 (c7 0) (q10 (c7 3) (q10 (c7 2) (q11))))) (q13 4)) (m8 (K3 (q12 (fnX 1 U5) (q10 (c7 4) (q11))) (q13 5)) (m8 (K3 (q12 (fnX 1 T8) (q10 (c7 5) (q11))) (q13 6)) (m8 (K3 (TE 6) (q13 7)) (m8 (aS6 (aW0 (q10 (cE (.int 3)) (q11))) (q13 8) LP) (m8 (K3 (q12 (fnX 2 T4) (q10 (c7 4) (q10 (c7 5) (q11)))) (q13 9)) (m8 (aS6 (itW (Z7 (q10 (c7 9) (q10 (q12 (fnX 2 T4) (q10 (c7 4) (q10 (c7 9) (q11)))) (q10 (q12 (fnX 1 U5) (q10 (c7 4) (q11))) (q11)))))) (q13 10) LQ) LZ)))))))
theorem fJ7:cX6=m8 (K3 (q12 (fnX 0 X3) (q11)) (q13 1)) (m8 (aS6 (bG5 (q10 (aJ7 (c7 0) (aQ3) (aR6 (cE (.int 8)))) (q11))) (aG0 2 (J4 (q13 2) (J4 (q13 3) (aJ8)))) LB) (o6 (cE (.bl true)))):=rfl
theorem eA5{p:Nat}{l:List D}{G:DH}{Q:DPP}(e:G[p]? =some (.lst l)):Wp (aO3 [.ref p]) G Q↔Q (.int (l.length:Int)) G:=by
 unfold aO3
 simp only[j8,R0,e,S7,j7]
theorem Ap.fr{r:Nat}{G G':DH}(h:aA8 G r)(a:Ap G G'):Fr r G G':=by
 obtain⟨t,rfl⟩:=a
 exact Fr.app h
section
variable{a0 a1 a2 a3 a4 a5 a7 a8 a9 a10 a11 a12 a13 a14:Option D}
theorem dA8{r:Nat}{ns:Ns}{t:Str×List Str}{b:List Bool}{li re y:D}(hp:PlP ns t b)(hl:LsP li)(hr:RsP re)(hm:bJ9 (mkS ns t.1 t.2 b li re) y)(hs:SB 3 y):∀(l:List D) (u:Option D) (G:DH),aA8 G r→
 Wp (aK0 (q13 8) LP (fun _=>true) l [a0,a1,a2,a3,some (.ref r),some (mkS ns t.1 t.2 b li re),some y,a7,u,a9,a10,a11,a12,a13,a14]) G fun fl G'=>(∃u',fl= .nx [a0,a1,a2,a3,some (.ref r),some (mkS ns t.1 t.2 b li re),some y,a7,u',a9,a10,a11,a12,a13,a14])∧Fr r G G'
 |[],u,G,h=>aP6.mpr ⟨rfl,⟨u,rfl⟩,Fr.refl h⟩
 |d::l,u,G,h=>by
   refine aK8.mpr ⟨rfl,S5.mpr<| aL8<| S8<| K6<| R9<| u0<| m7 (as:= [.ref r,mkS ns t.1 t.2 b li re]) rfl rfl<| (cF8 h hl hr).mono ?_⟩
   rintro _ G1 ⟨⟨li',re',rfl,ol,or,hl',hr'⟩,f1⟩
   refine G9.mpr<| aF8.mpr ⟨rfl,(bU3 hp hl' hr').mono ?_⟩
   rintro z G2 ⟨m2,s2,j2⟩
   obtain rfl:y=z:=hm.same m2 (fun _ _ p q=>ol.same p q) (fun _ _ p q=>or.same hr p q)
   have f2:Fr r G1 G2:=j2.fr f1.2.2
   obtain⟨k,ek,ik⟩:=SB.eqN (G:=G2) (by decide) hs hs
   obtain rfl:=ik.mpr rfl
   refine d8 (a:=y) (G':=G2) rfl<| bP1.mpr ⟨true,ek,false,rfl,fun h=>(nomatch h),fun _=>N5.mpr ?_⟩
   refine(dA8 hp hl hr hm hs l _ G2 f2.2.2).mono ?_
   rintro _ G3 ⟨⟨u',rfl⟩,f3⟩
   exact⟨⟨u',rfl⟩,f1.trans (f2.trans f3)⟩
theorem dB7{p w w0:Nat}{y:D}{l0:List D}(hn:NfP y)(hs:SB 3 y):∀(l:List D) (u10 u11:Option D) (G:DH),(∀x∈l,dP4 x)→G[p]? =some (.lst R7)→G[w]? =some (.lst (cO8 y))→G[w0]? =some (.lst l0)→
 Wp (aK0 (q13 10) LQ (ckO w0 (.lst l0)) l [a0,some (.ref p),a2,a3,a4,a5,some y,some (.ref w),a8,a9,u10,u11,a12,a13,a14]) G fun fl G'=>(∃u10 u11,fl= .nx [a0,some (.ref p),a2,a3,a4,a5,some y,some (.ref w),a8,a9,u10,u11,a12,a13,a14])∧Ap G G'
 |[],u10,u11,G,_,_,_,e0=>aP6.mpr ⟨aQ0 e0,⟨_,_,rfl⟩,Ap.refl⟩
 |x::l,u10,u11,G,hx,ep,ew,e0=>by
   have h:=hx x (List.mem_cons_self ..)
   obtain⟨ns,t,b,li,re,hp,hl,hr,ex⟩:=h
   refine aK8.mpr ⟨aQ0 e0,S5.mpr<| m9.mpr<| Q5<| m7 (as:= [x]) rfl rfl ?_⟩
   rw[ex]
   refine(bU3 hp hl.li hr.re).mono ?_
   rintro z G1 ⟨m1,s1,j1⟩
   have nz:NfP z:=dK2 ⟨ns,t,b,li,re,hp,hl,hr,rfl⟩ m1
   obtain⟨k,ek,ik⟩:=SB.eqN (G:=G1) (by decide) s1 hs
   refine aL8<| S8<| K6<| aD9 (x:=z) (y:=y) rfl rfl<| bT7.mpr ⟨k,ek,?_⟩
   refine K6<| d8 (a:=.ref w) (G':=G1) rfl<| eL4 (p:=p) rfl rfl (j1.at ep) s1 fun w2 G2 j2 e2 _=>?_
   obtain⟨k2,ek2,ik2⟩:=eF7 (j2.at (j1.at ew)) e2
   refine bT7.mpr ⟨k2,ek2,?_⟩
   have same:k=k2:=by
    rcases k with _|_<;>rcases k2 with _|_
    ·rfl
    ·exact ik.mpr (dV7 (n:=0) nz hn fun v hv=>(ik2.mp rfl v hv).symm)
    ·exact(ik2.mpr fun v hv=>by rw[ik.mp rfl]).symm
    ·rfl
   subst same
   refine bP1.mpr ⟨true,by cases k<;>rfl,false,rfl,fun h=>(nomatch h),fun _=>N5.mpr ?_⟩
   refine(dB7 hn hs l _ _ G2 (fun x h=>hx x (List.mem_cons_of_mem _ h)) (j2.at (j1.at ep)) (j2.at (j1.at ew)) (j2.at (j1.at e0))).mono ?_
   rintro _ G3 ⟨⟨v10,v11,rfl⟩,j3⟩
   exact⟨⟨_,_,rfl⟩,j1.trans (j2.trans j3)⟩
theorem fH1{p r:Nat}{y:D}{G:DH}(h:aA8 G r)(hp:p≠r)(ep:G[p]? =some (.lst R7))(hn:NfP y):Wp (LZ [a0,some (.ref p),a2,a3,some (.ref r),a5,some y,a7,a8,a9,a10,a11,a12,a13,a14]) G fun fl G'=>(∃u12 u13 u14,fl= .nx [a0,some (.ref p),a2,a3,some (.ref r),a5,some y,a7,a8,a9,a10,a11,u12,u13,u14])∧Fr r G G':=by
 have ln:=dX2
 refine m9.mpr<| Q5<| K6<| d8 (a:=.ref p) (G':=G) rfl<| R9<| aD2 (x:=.ref r) (G1:=G) rfl<| u0<| bL1 (as:= [.ref p]) rfl<| (eA5 ep).mpr<| G9.mpr<| aF8.mpr ⟨rfl,?_⟩
 refine bE5 h hp ep rfl (by rw[ln];decide) (by rw[ln];decide) fun v hv G1 f1=>?_
 refine m9.mpr<| Q5<| m7 (as:= [v]) rfl rfl<| (dZ3 (cY2 v hv)).mono ?_
 rintro s G2 ⟨j2,s2,o2⟩
 refine m9.mpr<| Q5<| fH0 (p:=p) rfl rfl (j2.at (f1.at hp ep)) s2 fun w G3 j3 e3=>?_
 rw[bP6 eA9 hv fun w hw=>⟨o2.2 w (cY2 w hw),fun e=>e▸o2.1⟩]at e3
 refine aL8<| dV2<| S8<| K6<| d8 (a:=.ref w) (G':=G3) rfl<| aJ4.mpr<| d8 (a:= [v]) (G':=G3) rfl ⟨sz,bP1.mpr ⟨true,dU5 hv (Q3 e3) j9,false,rfl,fun h=>(nomatch h),fun _=>?_⟩⟩
 refine S8<| K6<| m7 (as:= [y]) rfl rfl<| dP8 (n:=1) (by decide) (by decide) hn.gs fun G4 j4=>d8 (a:=.bl true) (G':=G4) rfl<| d8 (a:=.bl false) (G':=G4) rfl ⟨false,rfl,fun h=>(nomatch h),fun _=>N5.mpr ⟨⟨_,_,_,rfl⟩,f1.trans (Ap.fr f1.2.2 (j2.trans (j3.trans (Ap.one.trans j4))))⟩⟩
end
theorem fJ3{ns:List Int}{p q:Nat}{k c:Int}{u4 u5 u6 u7 u8 u9 u10 u11 u12 u13 u14:Option D}{G:DH}(e:G[p]? =some (.rol (ns.map D.int)))(eq:G[q]? =some (.lst R7))(hk:0≤k∧k<64):
 Wp (LB [some (.ref p),some (.ref q),some (.int k),some (.int c),u4,u5,u6,u7,u8,u9,u10,u11,u12,u13,u14]) G fun fl G'=>Gr G G'∧∃u4 u5 u6 u7 u8 u9 u10 u11 u12 u13 u14,fl= .nx [some (.ref p),some (.ref q),some (.int k),some (.int c),u4,u5,u6,u7,u8,u9,u10,u11,u12,u13,u14]:=by
 refine m9.mpr<| Q5<| m7 (as:= [.ref p,.int c,.int k]) rfl rfl<| (eH3 e hk).mono ?_
 rintro _ G1 ⟨r,rfl,hr,hh,g1⟩
 have hlt:=hh.lt
 have hq:q≠r:=by have:=lt_of_get eq;lia
 refine m9.mpr<| Q5<| m7 (as:= [.ref r]) rfl rfl<| (cS4 hh).mono ?_
 rintro x G2 ⟨hx,f2⟩
 have hx':=hx
 obtain⟨ms,t,b,li,re,hp,hl,hre,rfl⟩:=hx'
 refine m9.mpr<| Q5<| m7 (as:= [mkS ms t.1 t.2 b li re]) rfl rfl<| (bU3 hp hl.li hre.re).mono ?_
 rintro y G3 ⟨m3,s3,j3⟩
 have hn:NfP y:=dK2 hx m3
 have f3:Fr r G2 G3:=j3.fr f2.2.2
 have e3:=f3.at hq (f2.at hq (g1.at eq))
 refine m9.mpr<| Q5<| eL4 (p:=q) rfl rfl e3 s3 fun w G4 j4 e4 hw=>?_
 have f4:Fr r G3 G4:=j4.fr f3.2.2
 have hwr:w≠r:=by have:=f3.lt;lia
 refine m9.mpr<| aZ2.mpr<| eY7.mpr<| d8 (a:= [D.int 3]) (G':=G4) rfl<| (bR1 (j:=3) ⟨by decide,by decide⟩).mpr<| (dA8 hp hl hre m3 s3 (aD3 0 (3:Int).toNat) _ G4 f4.2.2).mono ?_
 rintro _ G5 ⟨⟨v8,rfl⟩,f5⟩
 refine m9.mpr<| Q5<| m7 (as:= [.ref r,mkS ms t.1 t.2 b li re]) rfl rfl<| (cM4 f5.2.2 hx).mono ?_
 rintro x1 G6 ⟨hx1,f6⟩
 refine m9.mpr<| aZ2.mpr<| wp_itW.mpr<| aJ4.mpr<| aD2 (x:=x1) (G1:=G6) rfl<| u0<| m7 (as:= [.ref r,x1]) rfl rfl<| (cM4 f6.2.2 hx1).mono ?_
 rintro x2 G7 ⟨hx2,f7⟩
 refine u0<| m7 (as:= [.ref r]) rfl rfl<| (cS4 f7.2.2).mono ?_
 rintro x3 G8 ⟨hx3,f8⟩
 refine G9.mpr ⟨sz,(aB5 j9).mpr ?_⟩
 have f9:Fr r G8 (G8++[.lst [x1,x2,x3]]):=Fr.app f8.2.2
 have f49:=f5.trans (f6.trans (f7.trans (f8.trans f9)))
 refine(dB7 (p:=q) (w:=w) (w0:=G8.length) hn s3 [x1,x2,x3] _ _ _ (fun x h=>?_) (f49.at hq (f4.at hq e3)) (f49.at hwr e4) j9).mono ?_
 · rcases List.mem_cons.mp h with rfl|h
   ·exact hx1
   · rcases List.mem_cons.mp h with rfl|h
     ·exact hx2
     ·rw[List.mem_singleton.mp h];exact hx3
 rintro _ G10 ⟨⟨v10,v11,rfl⟩,j10⟩
 have f10:=j10.fr f49.2.2
 refine(fH1 f10.2.2 hq (f10.at hq (f49.at hq (f4.at hq e3))) hn).mono ?_
 rintro _ G11 ⟨⟨v12,v13,v14,rfl⟩,f11⟩
 exact⟨Gr.of g1 (f2.trans (f3.trans (f4.trans (f49.trans (f10.trans f11))))) hr,_,_,_,_,_,_,_,_,_,_,_,rfl⟩
theorem dB3{ns:List Int}{p q w:Nat}{L:List D}:∀(cs:List Int) (k:Nat) (u2 u3 u4 u5 u6 u7 u8 u9 u10 u11 u12 u13 u14:Option D) (G:DH),G[p]? =some (.rol (ns.map D.int))→G[q]? =some (.lst R7)→G[w]? =some (.lst L)→k+cs.length≤63→
 Wp (aK0 (aG0 2 (J4 (q13 2) (J4 (q13 3) aJ8))) LB (ckO w (.lst L)) (((cs.map D.int).zipIdx k).map fun p=>.tup [.int ((p.2:Nat):Int),p.1]) [some (.ref p),some (.ref q),u2,u3,u4,u5,u6,u7,u8,u9,u10,u11,u12,u13,u14]) G fun fl G'=>∃ σ,fl= .nx σ
 |[],k,u2,u3,u4,u5,u6,u7,u8,u9,u10,u11,u12,u13,u14,G,e,eq,ew,hk=>by
   simp only[List.map_nil,List.zipIdx_nil]
   exact aP6.mpr ⟨aQ0 ew,_,rfl⟩
 |c::r,k,u2,u3,u4,u5,u6,u7,u8,u9,u10,u11,u12,u13,u14,G,e,eq,ew,hk=>by
   simp only[List.map_cons,List.zipIdx_cons]
   simp only[List.length_cons]at hk
   refine aK8.mpr ⟨aQ0 ew,?_⟩
   refine d8 (a:= [some (.ref p),some (.ref q),some (.int k),some (.int c),u4,u5,u6,u7,u8,u9,u10,u11,u12,u13,u14]) (G':=G) rfl ?_
   refine(fJ3 e eq ⟨by lia,by lia⟩).mono ?_
   rintro _ G1 ⟨g1,v4,v5,v6,v7,v8,v9,v10,v11,v12,v13,v14,rfl⟩
   exact dB3 r (k+1) _ _ _ _ _ _ _ _ _ _ _ _ _ G1 (g1.at e) (g1.at eq) (g1.at ew) (by lia)
theorem eB5{G:DH}{p:Nat}{l:List D}{lo hi:Option Int}{Q:DPP}(e:G[p]? =some (.rol l)):Wp (slT (.ref p) lo hi) G Q↔Q (.ref G.length) (G++[.lst (DL.cutD l lo hi)]):=eN6 e
theorem fN1(ns:List Int):∃cs:List Int,DL.cutD (ns.map D.int) none (some 8)=cs.map D.int∧cs.length≤8:=by
 refine⟨ns.take 8,?_,by rw[List.length_take];lia⟩
 have:=dV5 (ns.map D.int) 8
 rw[←List.map_take]at this
 exact this
theorem eI9(ns:List Int)(hn:ns.length≤63):Wp (cO0 [.ref 0]) [.rol (ns.map D.int)] fun d _=>d= .bl true:=by
 have e0:([DO.rol (ns.map D.int)]:DH)[0]? =some (.rol (ns.map D.int)):=rfl
 generalize hG:([DO.rol (ns.map D.int)]:DH)=G at *
 refine J3 (show Wp (cX6 [some (.ref 0),none,none,none,none,none,none,none,none,none,none,none,none,none,none]) G _ from ?_)
 rw[fJ7]
 refine m9.mpr<| Q5<| m7 (as:= []) rfl rfl<| dH4.mono ?_
 rintro _ G1 ⟨q,rfl,eq,j1⟩
 have e1:=j1.at e0
 obtain⟨cs,ec,hc⟩:=fN1 ns
 refine m9.mpr<| aZ2.mpr<| dR6.mpr<| u0<| aN2.mpr<| d8 (a:=.ref 0) (G':=G1) rfl<| d8 (a:=none) (G':=G1) rfl<| d8 (a:=some 8) (G':=G1) rfl<| (eB5 e1).mpr<| G9.mpr<| (dT5 j9).mpr ?_
 simp only[ec]
 refine(dB3 (ns:=ns) cs 0 _ _ _ _ _ _ _ _ _ _ _ _ _ _ (Q3 e1) (Q3 eq) (by rw[←ec];exact j9) (by lia)).mono ?_
 rintro _ G7 ⟨σ,rfl⟩
 exact d8 rfl (K5 rfl)
theorem pure_law:∀ns:List Int,ns.length≤63→∃G',cO0 [.ref 0] [.rol (ns.map D.int)]=some (.ok (.bl true),G'):=fun ns hn=>by
 obtain⟨d,G',e,rfl⟩:=eI9 ns hn
 exact⟨G',e⟩
end W
namespace PySem.W.Fast
def tw16818382927662012208:=()
def tw12616570804986087278:=()
def tw5131938346833161173:=()
def tw10361513721363934622:=()
def tw1149945428714253420:=()
def tw7403542425597314903:=()
def tw2801347845922142223:=()
def tw15256075444119373004:=()
def tw380677026181945034:=()
def tw11414341227023696274:=()
def tw7884913605629687731:=()
def tw263188324154981481:=()
def tw6581148588898623058:=()
def tw13012418505772491151:=()
def tw1952020180918157337:=()
def tw13893072264424750256:=()
def tw16735796655845091738:=()
def tw9869766090901654200:=()
def tw16964023649965977245:=()
def tw9013739059801096418:=()
def tw9555213221211295968:=()
def tw2144734610786315756:=()
def tw14341337531689917037:=()
def tw15790736889096642649:=()
def tw17041510685163172234:=()
def tw8534188808404690380:=()
def tw11344346260981261590:=()
def tw12588265899322000801:=()
def tw5501124245089357156:=()
def tw11931479682437378026:=()
def tw18060308083177165363:=()
def tw12957615126400282426:=()
def tw7992923659763512185:=()
def tw318089536036671653:=()
def tw15434696364532569936:=()
def tw15330132816726099254:=()
def tw3035035281037262772:=()
def tw10464041135204868276:=()
def tw984213870013745925:=()
def tw9157233266377113550:=()
end PySem.W.Fast
set_option maxRecDepth 100000 in
set_option maxHeartbeats 0 in
theorem PySem.Challenge.cw_allmeet_k18_whole_one_form_holds : PySem.Challenge.rw_allmeet_k18_whole_one_form.Holds := by
 w_on;o_law;k_head;(case hw=>w_witness2)
 k_fill
 refine W.walk (l := PySem.Challenge.rw_allmeet_k18_whole_one_form) rfl rfl (fun w h Y => PySem.W.kIn_of Y) ?F
 case F=>
  intro w mg fa h KX G hmg
  refine' W.all_mk KX G hmg ?_ ?_ ?_ ?_ ?_ ?_ ?_ ?_ ?_ ?_ ?_ ?_ ?_ ?_ ?_ ?_ ?_ ?_ ?_ ?_ ?_ ?_ ?_ ?_ ?_ ?_ ?_ ?_ ?_ ?_ ?_ ?_ ?_ ?_ ?_ ?_ ?_ ?_ ?_ ?_ ?_ ?_ ?_ ?_ ?_ ?_ ?_ ?_ ?_ ?_ ?_ ?_ ?g_NOTHING ?l_NOTHING ?l_NOTHING_0 ?l_NOTHING_1 ?l_NOTHING_1_1 ?l_NOTHING_2 ?g_ALL_PARTS ?l_ALL_PARTS ?l_ALL_PARTS_0 ?l_ALL_PARTS_0_0 ?l_ALL_PARTS_1 ?l_ALL_PARTS_1_1 ?l_ALL_PARTS_2 ?l_ALL_PARTS_3 ?l_ALL_PARTS_3_0 ?l_ALL_PARTS_4 ?l_ALL_PARTS_4_0 ?g_ANY ?z W.pure_law
  (case g_NOTHING=>k_is)
  (case l_NOTHING=>k_is)
  (case l_NOTHING_0=>k_is)
  (case l_NOTHING_1=>k_is)
  (case l_NOTHING_1_1=>k_is)
  (case l_NOTHING_2=>k_is)
  (case g_ALL_PARTS=>k_is)
  (case l_ALL_PARTS=>k_is)
  (case l_ALL_PARTS_0=>k_is)
  (case l_ALL_PARTS_0_0=>k_is)
  (case l_ALL_PARTS_1=>k_is)
  (case l_ALL_PARTS_1_1=>k_is)
  (case l_ALL_PARTS_2=>k_is)
  (case l_ALL_PARTS_3=>k_is)
  (case l_ALL_PARTS_3_0=>k_is)
  (case l_ALL_PARTS_4=>k_is)
  (case l_ALL_PARTS_4_0=>k_is)
  (case g_ANY=>k_is)
  (case z=>intro b hb;simp only[DL.bltL,List.mem_cons,List.not_mem_nil,or_false]at hb;rcases hb with rfl|rfl|rfl|rfl|rfl|rfl|rfl|rfl|rfl|rfl|rfl|rfl|rfl|rfl|rfl|rfl|rfl|rfl|rfl|rfl<;>k_is)
  all_goals (refine' DL.FH.of ?a ?l ?e ?k;(case a=>k_is);(case l=>k_is);(case e=>k_is);(case k=>k_is))
