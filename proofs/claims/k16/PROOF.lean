import PyProof.Rows.All
import Wide.All
import OpenK.AllK
import Wide.FinOn
import Lean
import PyProof.EqAt
import PyProof.EqKinds
import PyProof.TupleCall
import PyProof.NeKinds
import PyProof.ZipIter
import PyProof.EnumFor
import PyProof.EnumMake
import PyProof.EnumStmt
import PyProof.Draws
import KE.KDictSum
import PyProof.Rows.SortStr
import PyProof.StrWalks
import KE.KRevIter
import KE.KDictList
import PyProof.CollectIter
import PyProof.SliceStr2
import PyProof.StrBlockI
import KE.KListMore
import PyProof.DictWalks
import PyProof.TupleOfSeq
import PyProof.AttrMissHeap
import PyProof.AttrMissSeq
import KE.KDictOf
import PyProof.WalksMore
import KE.KSortTup
import KE.KSortKey
import PyProof.Rows.StrJoin2
import PyProof.ListMulRoad
import PyProof.FactsAll.tuple_2
import PyProof.Rows.SortShell
import PyProof.WalkInts
import KE.KMinBuiltin
import KE.KIntText
import PyProof.CallStr
import PyProof.PureStr
import PyProof.Rows.SetFrom
import KE.KMinKey
import PyProof.DictItems
import PyProof.DictItemsLoops
import PyProof.ReprRoads
import PyProof.FitsInt
import PyProof.StrLawsRepr
import PySem.Challenge.RW_allmeet_k16_sets_of_values_and_kinds
set_option Elab.async false
set_option linter.all false
set_option maxRecDepth 100000
noncomputable section
abbrev VSP:=PySem.Value→PySem.Shared→Prop
abbrev PNS:=List (PySem.Addr×PySem.Obj)
namespace L2
open PySem PySem.Spec PyProof.Rows
theorem J1{α:Type}{a:α}{P:Prop}(h:none=some a):P:=nomatch h
theorem eH5{α:Type}{a:α}{P:Prop}(h:some a=none):P:=nomatch h
theorem aM7{P:Prop}(h:false=true):P:=nomatch h
theorem cJ3{α:Type}{a:α}{l:List α}{P:Prop}(h: []=a::l):P:=nomatch h
theorem cZ1{α:Type}{a:α}{l:List α}{P:Prop}(h:a::l= []):P:=nomatch h
noncomputable abbrev Key:=Sum Int Str
noncomputable def bQ8:Key→Value→Bool
 | .inl k,v=>Value.isInt k v
 | .inr x,v=>Value.isStrOf x v
noncomputable def fN1(w:World):Key→Int
 | .inl k=>hashInt k
 | .inr x=>hashStr w x
theorem R0:∀ {k:Key} {v:Value},bQ8 k v=true→(∃i t,k=Sum.inl i∧v=Value.int i t)∨(∃x t,k=Sum.inr x∧v=Value.str x t)
 | .inl i,v,h=>by
   obtain⟨t,e⟩:=Value.isInt_shape (k:=i) (v:=v) h
   exact .inl ⟨i,t,rfl,e⟩
 | .inr x,v,h=>by
   obtain⟨t,e⟩:=Value.isStrOf_shape (x:=x) (v:=v) h
   exact .inr ⟨x,t,rfl,e⟩
theorem dG4(i:Int)(t:Tok):bQ8 (.inl i) (.int i t)=true:=by simp[bQ8,Value.isInt]
theorem bH3(x:Str)(t:Tok):bQ8 (.inr x) (.str x t)=true:=by simp[bQ8,Value.isStrOf]
theorem eW8(a b:Int):decide ((Sum.inl a:Key)=Sum.inl b)= (a==b):=by
 by_cases e:a=b
 ·subst e;simp
 · have h:¬(Sum.inl a:Key)=Sum.inl b:=fun q=>e (Sum.inl.inj q)
   rw[decide_eq_false h]
   exact(beq_eq_false_iff_ne.mpr e).symm
theorem eX5(a b:Str):decide ((Sum.inr a:Key)=Sum.inr b)=decide (a=b):=by
 by_cases e:a=b
 ·subst e;simp
 · have h:¬(Sum.inr a:Key)=Sum.inr b:=fun q=>e (Sum.inr.inj q)
   rw[decide_eq_false h,decide_eq_false e]
theorem eM4(a:Int)(b:Str):decide ((Sum.inl a:Key)=Sum.inr b)=false:=decide_eq_false (fun q=>nomatch q)
theorem eO6(a:Str)(b:Int):decide ((Sum.inr a:Key)=Sum.inl b)=false:=decide_eq_false (fun q=>nomatch q)
def M3(prog:Program)(w:World):PySem.KeyKind prog w Key where
 is:=bQ8
 hash:=fN1 w
 inj:=fun v a b ha hb=>by
  rcases R0 ha with⟨i,t,rfl,rfl⟩|⟨x,t,rfl,rfl⟩
  · rcases R0 hb with⟨j,u,rfl,e⟩|⟨y,u,rfl,e⟩
    ·injection e with e1 _;rw[e1]
    ·exact nomatch e
  · rcases R0 hb with⟨j,u,rfl,e⟩|⟨y,u,rfl,e⟩
    ·exact nomatch e
    ·injection e with e1 _;rw[e1]
 byValue:=fun k v h=>by
  rcases R0 h with⟨i,t,rfl,rfl⟩|⟨x,t,rfl,rfl⟩<;>rfl
 pyHash:=fun hv h=>by
  rcases R0 hv with⟨i,t,rfl,rfl⟩|⟨x,t,rfl,rfl⟩
  ·exact wpAny_pyHash_int h
  ·exact wpAny_pyHash_str h
 eqBool:=fun hu hv h=>by
  rcases R0 hu with⟨i,t,rfl,rfl⟩|⟨x,t,rfl,rfl⟩
  · rcases R0 hv with⟨j,u,rfl,rfl⟩|⟨y,u,rfl,rfl⟩
    ·rw[eW8]at h;exact wpAny_eqBool_int h
    ·rw[eM4]at h;exact SeqAt.EqAt.int_str i t y u _ _ _ _ h
  · rcases R0 hv with⟨j,u,rfl,rfl⟩|⟨y,u,rfl,rfl⟩
    ·rw[eO6]at h;exact SeqAt.EqAt.str_int x t j u _ _ _ _ h
    ·rw[eX5]at h;exact wpAny_eqBool_str h
 «strs»:=fun k x t v h=>by
  rcases R0 h with⟨i,u,rfl,e⟩|⟨y,u,rfl,e⟩
  ·exact nomatch e
  · injection e with e1 _
    subst e1
    cases v<;>rfl
theorem cL4(prog:Program)(w:World)(i:Int)(t:Tok):(M3 prog w).is (.inl i) (.int i t)=true:=dG4 i t
theorem cO3(prog:Program)(w:World)(x:Str)(t:Tok):(M3 prog w).is (.inr x) (.str x t)=true:=bH3 x t
inductive V where
 |non|bl (b:Bool)|int (i:Int)|str (x:Str)|byt (b:Array UInt8)|flt (b:UInt64)|ref (a:Addr)|ty (n:String)
 deriving DecidableEq
noncomputable def J6:V→Value→Prop
 | .non,u=>u=Value.none
 | .bl b,u=>u=Value.bool b
 | .int i,u=>∃t,u=Value.int i t
 | .str x,u=>∃t,u=Value.str x t
 | .byt b,u=>∃t,u=Value.bytes b t
 | .flt b,u=>∃t,u=Value.float b t
 | .ref a,u=>u=Value.ref a
 | .ty n,u=>u=Value.type n
abbrev w6:List V→List Value→Prop:=Paired J6
theorem w6.length{xs:List V}{us:List Value}(r:w6 xs us):xs.length=us.length:=Paired.length r
theorem w6.get:∀ {xs:List V} {us:List Value} {i:Nat} {x:V},w6 xs us→xs[i]? =some x→∃u,us[i]? =some u∧J6 x u
 |_,_,_,_,.nil,e=>by simp at e
 |_,_,0,_,.cons r _,e=>by simp at e;subst e;exact⟨_,rfl,r⟩
 |_,_,i+1,x,.cons _ t,e=>by
   obtain⟨u,h1,h2⟩:=w6.get (i:=i) (x:=x) t (by simpa using e)
   exact⟨u,by simpa using h1,h2⟩
theorem w6.set{x:V}{u:Value}(r:J6 x u):∀ {xs:List V} {us:List Value} (i:Nat),w6 xs us→w6 (xs.set i x) (us.set i u)
 |_,_,_,.nil=>.nil
 |_,_,0,.cons _ t=>.cons r t
 |_,_,i+1,.cons q t=>.cons q (w6.set r i t)
theorem w6.append{xs ys:List V}{us ws:List Value}(h:w6 xs us)(k:w6 ys ws):w6 (xs++ys) (us++ws):=by
 induction h with
 |nil=>exact k
 |cons r t ih=>exact .cons r ih
theorem w6.take:∀ {xs:List V} {us:List Value} (n:Nat),w6 xs us→w6 (xs.take n) (us.take n)
 |_,_,0,_=>.nil
 |_,_,_+1,.nil=>.nil
 |_,_,n+1,.cons r t=>.cons r (w6.take n t)
theorem w6.drop:∀ {xs:List V} {us:List Value} (n:Nat),w6 xs us→w6 (xs.drop n) (us.drop n)
 |_,_,0,r=>r
 |_,_,_+1,.nil=>.nil
 |_,_,n+1,.cons _ t=>w6.drop n t
def bV1:Option V→Option Value→Prop
 |some v,some u=>J6 v u
 |none,none=>True
 |_,_=>False
def KV{κ:Type}:List (κ×V)→List (κ×Value)→Prop:=Paired fun(p:κ×V) (q:κ×Value)=>p.1=q.1∧J6 p.2 q.2
noncomputable def kV:Key→V
 | .inl i=>.int i
 | .inr x=>.str x
inductive HO where
 /-- a list -/
 |lst (xs:List V)
 /-- a tuple (never changes) -/
 |tup (xs:List V)
 /-- a dict whose keys are ints and texts;one whose keys are tuples of ints and texts (the empty one is both) -/
 |dK (kvs:List (Key×V))|dT (kvs:List (List Key×V))
 /-- a set of ints:its members,its size -/
 |set (S:Int→Bool) (n:Nat)
 /-- an instance of the class at C,its dict at dx,its attributes -/
 |ins (C dx:Addr) (fs:List (Str×V))
 /-- the dict of the instance at x -/
 |own (x:Addr)
 /-- the dict of an exception -/
 |xd (fs:List (Str×V))
 /-- a bound method,f of x -/
 |met (f x:Addr)
 /-- a range object lo,lo+1,.. below hi -/
 |rng (lo hi:Int)
 /-- a thing that is known to the object (the script;a dict while a loop walks it):read,never written while it is so -/
 |frz (o:Obj) (u:HO)
 /-- a code object's table -/
 |tbl (ps:Array Value)
 /-- any other thing,by what is true of its one object (a def of one's own:SetO a S n:=HO.ext fun h=>..) -/
 |ext (φ:Heap→Prop)
noncomputable abbrev Hp:=Addr→Option HO
noncomputable def upd(H:Hp)(a:Addr)(o:HO):Hp:=fun b=>if b=a then some o else H b
theorem R3{H:Hp}{a:Addr}{o:HO}:upd H a o a=some o:=by unfold upd;rw[if_pos rfl]
theorem J7{H:Hp}{a b:Addr}{o:HO}(h:b≠a):upd H a o b=H b:=by unfold upd;rw[if_neg h]
theorem fI6{H:Hp}{a b:Addr}{o u:HO}(h:H a=some o)(h':H b=some u)(d:o≠u):a≠b:=by
 intro e;subst e;rw[h]at h';exact d (Option.some.inj h')
theorem K4{H:Hp}{a b:Addr}{o:HO}(h:H a=some o)(h':H b=none):a≠b:=by
 intro e;subst e;rw[h]at h';cases h'
section
variable(P:Program)(w:World)
noncomputable def aB5(h:Heap)(a:Addr)(items:Array Value):Prop:=∃o,h.get? a=some o∧o.cls= .type "tuple"∧∃n,(o.data,o.dict)= (Data.seq items n,none)
theorem aB5.tup{h:Heap}{a:Addr}{items:Array Value}(x:aB5 h a items):IsTup h a items:=by
 obtain⟨o,e,c,n,d⟩:=x
 exact⟨o,e,c,n,(Prod.mk.inj d).1⟩
theorem aB5.new(h:Heap)(items:Array Value):aB5 (h.push {cls:=.type "tuple",data:=.seq items}) h.objs.size items:=⟨_,Heap.get?_push_size _ rfl,rfl,_,rfl⟩
def V1(H:Hp)(h:Heap)(a:Addr):HO→Prop
 | .lst xs=>xs.length≤sizeLine∧∃(its:List Value) (n:Nat),w6 xs its∧h.get? a=some {cls:=.type "list",data:=.seq its.toArray n}
 | .tup xs=>xs.length≤sizeLine∧∃its:List Value,w6 xs its∧aB5 h a its.toArray
 | .dK kvs=>kvs.length≤sizeLine∧(a==sysModules)=false∧∃vs,KV kvs vs∧h.DictOf (M3 P w) a vs
 | .dT kvs=>kvs.length≤sizeLine∧(a==sysModules)=false∧∃xs:List (List Key×Addr×Value),
    Paired (fun(p:List Key×V) (q:List Key×Addr×Value)=>p.1=q.1∧H q.2.1=some (.tup (p.1.map kV))∧J6 p.2 q.2.2) kvs xs∧
    ∃o es ep,h.get? a=some o∧o.ExactDict∧o.data= .dict es ep∧es.toList=xs.map (entryOfKey (tupleKind (M3 P w)))∧(xs.map (·.1)).Nodup
 | .set S n=>h.SetOf (intKind P w) a S n
 | .ins C dx fs=>H dx=some (.own a)∧fs.length≤1000∧dx≠a∧h.get? a=some (PySem.W.instObj C dx)∧
    ∃mA,h.Ns1 dx mA∧(∀f,bV1 (fs.lookup f) (mA f))∧PySem.Within mA (fs.map (·.1))
 | .own _=>∃o,h.get? a=some o
 | .xd fs=>∃mA,h.Ns1 a mA∧∀f,bV1 (fs.lookup f) (mA f)
 | .rng lo hi=>∃t u v,h.get? a=some {cls:=.type "range",data:=.fields #[.int lo t,.int hi u,.int 1 v]}
 | .frz o u=>h.get? a=some o∧V1 H h a u
 | .tbl ps=>h.get? a=some {cls:=.none,data:=.fields ps}
 | .met f x=>h.get? a=some (PySem.W.methodObj (.ref f) (.ref x))
 | .ext φ=>φ h∧(∃o,h.get? a=some o)∧∀h1 h2:Heap,φ h1→(∀o,h1.get? a=some o→h2.get? a=some o)→φ h2
def HOk(H:Hp)(h:Heap):Prop:=∀a o,H a=some o→V1 P w H h a o
end
section
variable{P:Program}{w:World}{H H':Hp}{h h':Heap}{a:Addr}{o:HO}
theorem V1.lt(x:V1 P w H h a o):a<h.objs.size:=by
 cases o with
 |lst xs=>obtain⟨_,_,_,_,e⟩:=x;exact Heap.lt_size e
 |tup xs=>obtain⟨_,_,_,p⟩:=x;exact(aB5.tup p).lt
 |dK kvs=>obtain⟨_,_,_,_,o,_,_,e,_⟩:=x;exact Heap.lt_size e
 |dT kvs=>obtain⟨_,_,_,_,o,_,_,e,_⟩:=x;exact Heap.lt_size e
 |set S n=>obtain⟨o,_,_,_,e,_⟩:=x;exact Heap.lt_size e
 |ins C dx fs=>obtain⟨_,_,_,e,_⟩:=x;exact Heap.lt_size e
 |own y=>obtain⟨_,e⟩:=x;exact Heap.lt_size e
 |xd fs=>obtain⟨_,⟨_,_,_,e,_⟩,_⟩:=x;exact Heap.lt_size e
 |rng lo hi=>obtain⟨_,_,_,e⟩:=x;exact Heap.lt_size e
 |frz ob u=>obtain⟨e,_⟩:=x;exact Heap.lt_size e
 |tbl ps=>exact Heap.lt_size (show h.get? a=some _ from x)
 |met f y=>exact Heap.lt_size (show h.get? a=some _ from x)
 |ext φ=>obtain⟨_,⟨_,e⟩,_⟩:=x;exact Heap.lt_size e
theorem Paired.mapP{α β:Type}{F G:α→β→Prop}{l₁:List α}{l₂:List β}(h:Paired F l₁ l₂)(f:∀a b,F a b→G a b):Paired G l₁ l₂:=by
 induction h with
 |nil=>exact .nil
 |cons r t ih=>exact .cons (f _ _ r) ih
theorem V1.stay(x:V1 P w H h a o)(k:∀b u,(b=a∨H b=some (.own a))→h.get? b=some u→h'.get? b=some u)
 (ho:∀b,H b=some (.own a)→H' b=some (.own a)) (ht:∀b xs,H b=some (.tup xs)→H' b=some (.tup xs)):V1 P w H' h' a o:=by
 induction o with
 |lst xs=>obtain⟨z,its,n,r,e⟩:=x;exact⟨z,its,n,r,k _ _ (.inl rfl) e⟩
 |tup xs=>obtain⟨z,its,r,ob,e,c⟩:=x;exact⟨z,its,r,ob,k _ _ (.inl rfl) e,c⟩
 |dK kvs=>obtain⟨z,y,vs,r,ob,es,ep,e,c⟩:=x;exact⟨z,y,vs,r,ob,es,ep,k _ _ (.inl rfl) e,c⟩
 |dT kvs=>
   obtain⟨z,y,xs,r,ob,es,ep,e,c⟩:=x
   exact⟨z,y,xs,Paired.mapP r fun p q z=>⟨z.1,ht _ _ z.2.1,z.2.2⟩,ob,es,ep,k _ _ (.inl rfl) e,c⟩
 |set S n=>obtain⟨ob,es,ep,t,e,c⟩:=x;exact⟨ob,es,ep,t,k _ _ (.inl rfl) e,c⟩
 |ins C dx fs=>
   obtain⟨d,z,ne,e,mA,⟨od,es,ep,e2,c⟩,r⟩:=x
   exact⟨ho _ d,z,ne,k _ _ (.inl rfl) e,mA,⟨od,es,ep,k _ _ (.inr d) e2,c⟩,r⟩
 |own y=>obtain⟨ob,e⟩:=x;exact⟨ob,k _ _ (.inl rfl) e⟩
 |xd fs=>obtain⟨mA,⟨od,es,ep,e,c⟩,r⟩:=x;exact⟨mA,⟨od,es,ep,k _ _ (.inl rfl) e,c⟩,r⟩
 |rng lo hi=>obtain⟨t,u,v,e⟩:=x;exact⟨t,u,v,k _ _ (.inl rfl) e⟩
 |frz ob u ih=>obtain⟨e,q⟩:=x;exact⟨k _ _ (.inl rfl) e,ih q⟩
 |tbl ps=>
   have e:h.get? a=some {cls:=.none,data:=.fields ps}:=x
   show h'.get? a=some {cls:=.none,data:=.fields ps}
   exact k a _ (.inl rfl) e
 |met f y=>
   have e:h.get? a=some (PySem.W.methodObj (.ref f) (.ref y)):=x
   show h'.get? a=some (PySem.W.methodObj (.ref f) (.ref y))
   exact k a _ (.inl rfl) e
 |ext φ=>obtain⟨p,⟨o,e⟩,st⟩:=x;exact⟨st _ _ p fun o q=>k _ _ (.inl rfl) q,⟨o,k _ _ (.inl rfl) e⟩,st⟩
theorem HOk.lt(x:HOk P w H h)(e:H a=some o):a<h.objs.size:=(x a o e).lt
theorem HOk.fresh(x:HOk P w H h)(e:h.objs.size≤a):H a=none:=by
 cases q:H a with
 |none=>rfl
 |some u=>exact absurd (Nat.lt_of_lt_of_le (x.lt q) e) (Nat.lt_irrefl _)
theorem HOk.kept(x:HOk P w H h)(k:∀b u,h.get? b=some u→h'.get? b=some u):HOk P w H h':=fun a o e=>
 (x a o e).stay (fun b u _ q=>k b u q) (fun _ q=>q) fun _ _ q=>q
theorem HOk.laid(x:HOk P w H h)(k:∀b u,h.get? b=some u→h'.get? b=some u)(hp:h.objs.size≤a)(new:V1 P w (upd H a o) h' a o):HOk P w (upd H a o) h':=fun b u e=>by
 have hn:=x.fresh hp
 by_cases hb:b=a
 ·subst hb;rw[R3]at e;cases e;exact new
 · rw[J7 hb]at e
   exact(x b u e).stay (fun c v _ q=>k c v q) (fun c q=>by rw[J7 (K4 q hn)];exact q) fun c xs q=>by rw[J7 (K4 q hn)];exact q
end
noncomputable def Rd(H:Hp)(a:Addr)(u:HO):Prop:=H a=some u∨∃o,H a=some (.frz o u)
theorem Rd.of{H:Hp}{a:Addr}{u:HO}(h:H a=some u):Rd H a u:=.inl h
theorem Rd.ok{P:Program}{w:World}{H:Hp}{h:Heap}{a:Addr}{u:HO}(r:Rd H a u)(x:HOk P w H h):V1 P w H h a u:=by
 rcases r with r|⟨o,r⟩
 ·exact x a u r
 · obtain⟨_,q⟩:=x a _ r
   exact q
noncomputable def Mut:Option HO→Prop
 |some (.lst _)=>True
 |some (.dK _)=>True
 |some (.dT _)=>True
 |some (.set _ _)=>True
 |some (.ins _ _ _)=>True
 |some (.ext _)=>True
 |_=>False
section
variable{P:Program}{w:World}{H:Hp}{h h':Heap}{x e:Addr}{o':HO}
theorem HOk.write(ok:HOk P w H h)(mu:Mut (H x))(he:e=x∨H e=some (.own x))(k:∀b u,b≠e→h.get? b=some u→h'.get? b=some u)(heo:∃u,h'.get? e=some u)
 (new:V1 P w (upd H x o') h' x o'):HOk P w (upd H x o') h':=fun b u q=>by
 have nown:∀c y,H c=some (.own y)→c≠x:=fun c y r z=>by subst z;rw[r]at mu;exact mu
 have ntup:∀c xs,H c=some (.tup xs)→c≠x:=fun c xs r z=>by subst z;rw[r]at mu;exact mu
 by_cases hb:b=x
 ·subst hb;rw[R3]at q;cases q;exact new
 · rw[J7 hb]at q
   by_cases hbe:b=e
   · have q':H b=some (.own x):=by
      rcases he with z|z
      ·exact absurd (hbe.trans z) hb
      ·rw[hbe];exact z
     rw[q]at q';cases q'
     obtain⟨v,hv⟩:=heo
     exact⟨v,by rw[hbe];exact hv⟩
   · refine(ok b u q).stay (fun c v hc r=>k c v ?_ r) (fun c r=>by rw[J7 (nown c b r)];exact r) fun c xs r=>by rw[J7 (ntup c xs r)];exact r
     rcases hc with rfl|hc
     ·exact hbe
     · rintro rfl
       rcases he with z|z
       ·exact nown c b hc z
       ·rw[hc]at z;cases z;exact hb rfl
end
structure Un(fs ex:List Addr)(H H':Hp)(h h':Heap):Prop where
 keep:∀b o,h.get? b=some o→H b=none→b∉fs→b∉ex→h'.get? b=some o
 slot:∀b o,h.get? b=some o→H b=none→b∈fs→b∉ex→∃sl,h'.get? b=some {o with slots:=sl}
 free:∀b o,h.get? b=some o→H b=none→b∉ex→H' b=none
 there:∀b o,h.get? b=some o→b∉ex→∃o',h'.get? b=some o'
 tups:∀b xs,H b=some (.tup xs)→H' b=some (.tup xs)
 frzs:∀b o u,H b=some (.frz o u)→H' b=some (.frz o u)
 tbls:∀b ps,H b=some (.tbl ps)→∃more,H' b=some (.tbl (ps++more))
section
variable{fs fs' ex ex':List Addr}{H H1 H2:Hp}{h h1 h2 h':Heap}{a x e:Addr}{o:HO}
theorem Un.any(u:Un fs ex H H1 h h1){b:Addr}{ob:Obj}(q:h.get? b=some ob)(n:H b=none)(hx:b∉ex):∃sl,h1.get? b=some {ob with slots:=sl}:=by
 by_cases hb:b∈fs
 ·exact u.slot b ob q n hb hx
 ·exact⟨ob.slots,u.keep b ob q n hb hx⟩
theorem Un.trans(a:Un fs ex H H1 h h1)(b:Un fs ex H1 H2 h1 h2):Un fs ex H H2 h h2 where
 keep:=fun c ob q n hc hx=>b.keep c ob (a.keep c ob q n hc hx) (a.free c ob q n hx) hc hx
 slot:=fun c ob q n hc hx=>by
  obtain⟨sl,e1⟩:=a.slot c ob q n hc hx
  obtain⟨sl',e2⟩:=b.slot c _ e1 (a.free c ob q n hx) hc hx
  exact⟨sl',e2⟩
 free:=fun c ob q n hx=>by
  obtain⟨o',e1⟩:=a.there c ob q hx
  exact b.free c o' e1 (a.free c ob q n hx) hx
 there:=fun c ob q hx=>by
  obtain⟨o',e1⟩:=a.there c ob q hx
  exact b.there c o' e1 hx
 tups:=fun c xs q=>b.tups c xs (a.tups c xs q)
 frzs:=fun c ob xs q=>b.frzs c ob xs (a.frzs c ob xs q)
 tbls:=fun c ps q=>by
  obtain⟨m1,e1⟩:=a.tbls c ps q
  obtain⟨m2,e2⟩:=b.tbls c _ e1
  exact⟨m1++m2,by rw[e2,Array.append_assoc]⟩
theorem Un.kept(k:∀b u,h.get? b=some u→h'.get? b=some u):Un fs ex H H h h':=
 ⟨fun b ob q _ _ _=>k b ob q,fun b ob q _ _ _=>⟨ob.slots,k b ob q⟩,fun _ _ _ n _=>n,fun b ob q _=>⟨ob,k b ob q⟩,fun _ _ q=>q,fun _ _ _ q=>q,fun _ ps q=>⟨#[],by rw[q];simp⟩⟩
theorem Un.refl:Un fs ex H H h h:=Un.kept fun _ _ q=>q
theorem Un.laid(k:∀b u,h.get? b=some u→h'.get? b=some u)(hp:h.objs.size≤a)(hn:H a=none):Un fs ex H (upd H a o) h h' where
 keep:=fun b u q _ _ _=>k b u q
 slot:=fun b u q _ _ _=>⟨u.slots,k b u q⟩
 free:=fun b u q n _=>by rw[J7 (Nat.ne_of_lt (Nat.lt_of_lt_of_le (Heap.lt_size q) hp))];exact n
 there:=fun b u q _=>⟨u,k b u q⟩
 tups:=fun b xs q=>by rw[J7 (K4 q hn)];exact q
 frzs:=fun b u xs q=>by rw[J7 (K4 q hn)];exact q
 tbls:=fun b ps q=>⟨#[],by rw[J7 (K4 q hn),q];simp⟩
theorem Un.write(mu:Mut (H x))(he:e=x∨H e=some (.own x))(k:∀b u,b≠e→h.get? b=some u→h'.get? b=some u)(heo:∃u,h'.get? e=some u):Un fs ex H (upd H x o) h h':=by
 have hx:∀b,H b=none→b≠x:=fun b n z=>by subst z;rw[n]at mu;exact mu
 have hb:∀b,H b=none→b≠e:=fun b n z=>by
  subst z
  rcases he with r|r
  ·exact hx b n r
  ·rw[n]at r;cases r
 have hm:∀b u,H b=some u→¬Mut (some u)→b≠x:=fun b u q nm z=>by subst z;rw[q]at mu;exact nm mu
 refine⟨fun b u q n _ _=>k b u (hb b n) q,fun b u q n _ _=>⟨u.slots,k b u (hb b n) q⟩,fun b u q n _=>by rw[J7 (hx b n)];exact n,fun b u q _=>?_,
  fun b xs q=>by rw[J7 (hm b _ q fun z=>z)];exact q,fun b u xs q=>by rw[J7 (hm b _ q fun z=>z)];exact q,fun b ps q=>⟨#[],by rw[J7 (hm b _ q fun z=>z),q];simp⟩⟩
 by_cases hbe:b=e
 ·subst hbe;exact heo
 ·exact⟨u,k b u hbe q⟩
theorem Un.mono(u:Un fs ex H H1 h h1)(hs:∀b∈fs,b∈fs')(hx:∀b∈ex,b∈ex'):Un fs' ex' H H1 h h1:=
 ⟨fun b ob q n hb he=>u.keep b ob q n (fun z=>hb (hs b z)) fun z=>he (hx b z),fun _ _ q n _ he=>u.any q n fun z=>he (hx _ z),fun b ob q n he=>u.free b ob q n fun z=>he (hx b z),fun b ob q he=>u.there b ob q fun z=>he (hx b z),u.tups,u.frzs,u.tbls⟩
end
noncomputable def trk(h:Heap)(H:Hp):List Addr:=(List.range h.objs.size).filter fun a=>(H a).isSome
def cC6(h:Heap)(H:Hp):Heap:=PySem.W.hideAll h (trk h H)
theorem dE4(h:Heap)(H:Hp):(cC6 h H).objs.size=h.objs.size:=PySem.W.hideAll_size _ _
theorem dM2{h:Heap}{H:Hp}{b:Addr}{o:Obj}(e:h.get? b=some o)(n:H b=none):(cC6 h H).get? b=some o:=
 PySem.W.hideAll_get _ e fun hm=>by
  have q:(H b).isSome=true:=(List.mem_filter.mp hm).2
  rw[n]at q;simp at q
theorem dY3{h:Heap}{H:Hp}{b:Addr}{o:Obj}(e:(cC6 h H).get? b=some o):h.get? b=some o∧H b=none:=by
 have e':h.get? b=some o:=PySem.W.of_hideAll (trk h H) e
 refine⟨e',?_⟩
 cases q:H b with
 |none=>rfl
 |some x=>
   have hm:b∈trk h H:=List.mem_filter.mpr ⟨List.mem_range.mpr (Heap.lt_size e'),by simp[q]⟩
   have z:(cC6 h H).get? b=none:=PySem.W.hideAll_none (trk h H) hm
   rw[z]at e;cases e
noncomputable def eC2(g h:Heap)(L:Addr):PNS:=(List.range h.objs.size).filterMap fun a=>if a=L∨(g.get? a).isSome=true then none else (h.get? a).map fun o=>(a,o)
def U9(g h:Heap)(L d:Addr):PNS:=(eC2 g h L).filter fun p=>decide (p.1≠d)
structure Mod(K:PySem.W.Frag)(mg:Str→Option Value)(base:Heap):Prop where
 kin:K.In base
 glob:base.Ns mainGlobals mg
 blt:∃mb,base.Ns builtinsNs mb∧∀x:Str,x≠ "__name__"→mb x=bootBuiltins x
 nolimit:base.NoLimit
structure Cx where
 prog:Program
 w:World
 K:PySem.W.Frag
 mg:Str→Option Value
 base:Heap
 A:Around
 N:List Str
 s₀:Shared
 H₀:Hp
 env:Env
 outer:List Env
 stack:List Env
 ex:List Addr
 fn:Str→Bool
 calm:Bool
 pn:PNS
 xe:VSP
noncomputable def frs(l:List Env):List Addr:=l.filterMap (·.frame)
abbrev Cx.fs(X:Cx):List Addr:=frs X.outer
noncomputable def Vis(sc:Scope)(x:Str):Prop:=sc.names.lookup x=some .local∨sc.names.lookup x=some .cell∨sc.names.lookup x=some .free
noncomputable def Loc(sc:Scope)(x:Str):Prop:=sc.names.lookup x=some .local∨sc.names.lookup x=some .cell
noncomputable def fO5(env:Env)(h:Heap)(m:Str→Option Value)(x:Str)(u:Value):Prop:=
 (env.kindOf x=some .local∧m x=some u)∨((env.kindOf x=some .cell∨env.kindOf x=some .free)∧∃c,env.cells.lookup x=some c∧h.IsCell c (some u))
structure Cx.Ok(X:Cx):Prop where
 mod:Mod X.K X.mg X.base
 kind:X.env.scope.kind= .function
 glob:X.env.globals=mainGlobals
 blt:X.env.builtins=builtinsNs
 above:X.s₀.heap.objs.size≤X.env.locals
 inj:∀x y c,X.env.cells.lookup x=some c→X.env.cells.lookup y=some c→x=y
 has:∀x,(X.env.kindOf x=some .cell∨X.env.kindOf x=some .free)→∃c,X.env.cells.lookup x=some c
 cab:∀x c,X.fn x=true→X.env.cells.lookup x=some c→X.s₀.heap.objs.size≤c
 hd:X.calm=true→X.A.handled=none
 frames:X.A.frames=some X.stack
 stk:X.stack=X.outer∨(X.stack=X.env::X.outer∧X.env.frame=some X.env.locals)
 exf:∀b∈X.ex,b≠X.env.locals∧∀x c,X.env.cells.lookup x=some c→c≠b
 bs:∀b o,X.base.get? b=some o→X.s₀.heap.get? b=some o∧X.H₀ b=none
 bsz:X.base.objs.size≤X.s₀.heap.objs.size
 noex:∀b o,X.base.get? b=some o→b∉X.ex
 exfs:∀b∈X.ex,b∉X.fs
 funs:X.s₀.heap.FunFrames X.base X.outer
 frf:∀b∈X.fs,X.H₀ b=none
 gd:X.A.guards=some []
structure Inv(X:Cx)(pins:PNS)(σ:List (Option V))(H:Hp)(s:Shared):Prop where
 ok:X.Ok
 os:s.os=X.s₀.os
 bare:AllBare s.gens
 base:Un X.fs X.ex X.H₀ H X.s₀.heap s.heap
 loc:∃m,s.heap.Ns X.env.locals m∧∀(i:Nat) (x:Str) (v:V),X.N[i]? =some x→σ[i]? =some (some v)→Vis X.env.scope x→∃u,J6 v u∧fO5 X.env s.heap m x u
 cell:∀x c,X.env.cells.lookup x=some c→∃v,s.heap.IsCell c v
 free:H X.env.locals=none
 freeC:∀x c,X.env.cells.lookup x=some c→H c=none
 pin:∀p∈X.pn++pins,s.heap.get? p.1=some p.2∧H p.1=none∧p.1≠X.env.locals∧p.1∉X.fs∧∀v,p.2.data≠ .cell v
 hok:HOk X.prog X.w H s.heap
 len:σ.length=X.N.length
section
variable{X:Cx}{pins:PNS}{σ:List (Option V)}{H H':Hp}{s:Shared}{h':Heap}
theorem Cx.Ok.nofr(ok:X.Ok){b:Addr}{o:Obj}(e:X.base.get? b=some o):b∉X.fs:=fun hb=>by
 have:=(ok.funs.mem hb).1
 rw[e]at this;cases this
theorem Inv.bs(I:Inv X pins σ H s):∀b o,X.base.get? b=some o→s.heap.get? b=some o∧H b=none:=fun b o e=>
 ⟨I.base.keep b o (I.ok.bs b o e).1 (I.ok.bs b o e).2 (I.ok.nofr e) (I.ok.noex b o e),I.base.free b o (I.ok.bs b o e).1 (I.ok.bs b o e).2 (I.ok.noex b o e)⟩
theorem Inv.bk(I:Inv X pins σ H s):∀b o,X.base.get? b=some o→s.heap.get? b=some o:=fun b o e=>(I.bs b o e).1
theorem Inv.mod(I:Inv X pins σ H s):Mod X.K X.mg X.base:=I.ok.mod
theorem Inv.kIn(I:Inv X pins σ H s):X.K.In s.heap:=I.ok.mod.kin.keeps I.bk
theorem Inv.nolimit(I:Inv X pins σ H s):s.heap.NoLimit:=I.ok.mod.nolimit.keeps I.bk
theorem Inv.fr(I:Inv X pins σ H s):∃m,Fr X.base X.env.locals s.heap m:=
 let ⟨m,hn,_⟩:=I.loc
 ⟨m,hn,I.bk,Nat.le_trans I.ok.bsz I.ok.above⟩
theorem Inv.lt(I:Inv X pins σ H s):X.env.locals<s.heap.objs.size:=let ⟨_,hn,_⟩:=I.loc;hn.lt
theorem Inv.sz(I:Inv X pins σ H s):X.s₀.heap.objs.size≤s.heap.objs.size:=Nat.le_trans I.ok.above (Nat.le_of_lt I.lt)
theorem Inv.nofs(I:Inv X pins σ H s){a:Addr}(h:s.heap.objs.size≤a):a∉X.fs:=fun hb=>by
 obtain⟨_,o,ho,_⟩:=I.ok.funs.mem hb
 exact absurd (Nat.lt_of_lt_of_le (Heap.lt_size ho) (Nat.le_trans I.sz h)) (Nat.lt_irrefl _)
theorem Inv.cne(I:Inv X pins σ H s):∀x c,X.env.cells.lookup x=some c→c≠X.env.locals:=fun x c e z=>by
 obtain⟨v,o,ho,hd⟩:=I.cell x c e
 obtain⟨m,⟨o',es,ep,ho',hd',_⟩,_⟩:=I.loc
 rw[z,ho']at ho;cases ho;rw[hd']at hd;cases hd
theorem Inv.funs(I:Inv X pins σ H s):s.heap.FunFrames X.base X.outer:=by
 have all:∀(l:List Env),(∀b∈frs l,b∈X.fs)→X.s₀.heap.FunFrames X.base l→s.heap.FunFrames X.base l:=by
  intro l
  induction l with
  |nil=>intro _ _;trivial
  |cons env r ih=>
    intro hs hl
    obtain⟨hk,⟨L,o,hf,hn,ho,hd⟩,hr⟩:=hl
    have hL:L∈X.fs:=hs L (by unfold frs;rw[List.filterMap_cons,hf];exact List.mem_cons_self)
    obtain⟨sl,e⟩:=I.base.slot L o ho (I.ok.frf L hL) hL fun z=>I.ok.exfs L z hL
    exact⟨hk,⟨L,_,hf,hn,e,hd⟩,ih (fun b hb=>hs b (by unfold frs;rw[List.filterMap_cons,hf];exact List.mem_cons_of_mem _ hb)) hr⟩
 exact all X.outer (fun _ hb=>hb) I.ok.funs
theorem Inv.stack(I:Inv X pins σ H s):s.heap.FunFrames X.base X.stack:=by
 rcases I.ok.stk with e|⟨e,hf⟩
 ·rw[e];exact I.funs
 · rw[e]
   obtain⟨m,hn,_⟩:=I.loc
   refine .cons (by rw[I.ok.kind];decide) hf hn ?_ I.funs
   exact Heap.get?_none_of_le (Nat.le_trans I.ok.bsz I.ok.above)
theorem Inv.stkSub(I:Inv X pins σ H s):∀b∈frs X.stack,b∈X.env.locals::X.fs:=fun b hb=>by
 rcases I.ok.stk with e|⟨e,hf⟩
 ·rw[e]at hb;exact List.mem_cons_of_mem _ hb
 · rw[e]at hb
   unfold frs at hb
   rw[List.filterMap_cons,hf]at hb
   exact hb
theorem Inv.stkFree(I:Inv X pins σ H s):∀b∈frs X.stack,H b=none:=fun b hb=>by
 rcases List.mem_cons.mp (I.stkSub b hb)with e|hb
 ·rw[e];exact I.free
 · obtain⟨_,o,ho,_⟩:=I.ok.funs.mem hb
   exact I.base.free b o ho (I.ok.frf b hb) fun z=>I.ok.exfs b z hb
theorem Inv.step{g':Array GenState}{t':Nat}{d':Drawn}{ch:List Addr}(I:Inv X pins σ H s)
 (hch:∀b∈ch,(b∈X.ex∨X.s₀.heap.objs.size≤b)∧b≠X.env.locals∧(∀x c,X.env.cells.lookup x=some c→c≠b)∧∀p∈X.pn++pins,p.1≠b)
 (keep:∀b o,b≠X.env.locals→b∉X.fs→b∉ch→s.heap.get? b=some o→H b=none→h'.get? b=some o)
 (slot:∀b o,b≠X.env.locals→b∈X.fs→b∉ch→s.heap.get? b=some o→H b=none→∃sl,h'.get? b=some {o with slots:=sl}) (free:∀b o,b∉ch→s.heap.get? b=some o→H b=none→H' b=none)
 (there:∀b o,b∉ch→s.heap.get? b=some o→∃o',h'.get? b=some o')
 (tups:∀b xs,H b=some (.tup xs)→H' b=some (.tup xs)) (frzs:∀b o u,H b=some (.frz o u)→H' b=some (.frz o u)) (tbls:∀b ps,H b=some (.tbl ps)→∃more,H' b=some (.tbl (ps++more)))
 (ns:∀m,s.heap.Ns X.env.locals m→h'.Ns X.env.locals m) (hok:HOk X.prog X.w H' h') (hg:AllBare g'):
 Inv X pins σ H' {s with heap:=h',gens:=g',drawn:=d',toks:=t'}:=by
 have neL:∀b o,X.s₀.heap.get? b=some o→b≠X.env.locals:=fun b o e=>Nat.ne_of_lt (Nat.lt_of_lt_of_le (Heap.lt_size e) I.ok.above)
 have neC:∀b o,X.s₀.heap.get? b=some o→b∉X.ex→b∉ch:=fun b o e hx hb=>by
  rcases (hch b hb).1 with z|z
  ·exact hx z
  ·exact absurd (Nat.lt_of_lt_of_le (Heap.lt_size e) z) (Nat.lt_irrefl _)
 have cellK:∀x c,X.env.cells.lookup x=some c→∀v,s.heap.IsCell c v→h'.IsCell c v:=fun x c e v ⟨o,ho,hd⟩=>by
  have nch:c∉ch:=fun z=>(hch c z).2.2.1 x c e rfl
  by_cases hc:c∈X.fs
  · obtain⟨sl,q⟩:=slot c o (I.cne x c e) hc nch ho (I.freeC x c e)
    exact⟨_,q,hd⟩
  ·exact⟨o,keep c o (I.cne x c e) hc nch ho (I.freeC x c e),hd⟩
 refine⟨I.ok,I.os,hg,⟨fun b o e n hb hx=>?_,fun b o e n hb hx=>?_,fun b o e n hx=>?_,fun b o e hx=>?_,fun b xs e=>tups b xs (I.base.tups b xs e),fun b o xs e=>frzs b o xs (I.base.frzs b o xs e),fun b ps e=>?_⟩,?_,fun x c e=>?_,?_,fun x c e=>?_,fun p hp=>?_,hok,I.len⟩
 ·exact keep b o (neL b o e) hb (neC b o e hx) (I.base.keep b o e n hb hx) (I.base.free b o e n hx)
 · obtain⟨sl,e1⟩:=I.base.slot b o e n hb hx
   obtain⟨sl',e2⟩:=slot b _ (neL b o e) hb (neC b o e hx) e1 (I.base.free b o e n hx)
   exact⟨sl',e2⟩
 · obtain⟨o',e1⟩:=I.base.there b o e hx
   exact free b o' (neC b o e hx) e1 (I.base.free b o e n hx)
 · obtain⟨o',e1⟩:=I.base.there b o e hx
   exact there b o' (neC b o e hx) e1
 · obtain⟨m1,e1⟩:=I.base.tbls b ps e
   obtain⟨m2,e2⟩:=tbls b _ e1
   exact⟨m1++m2,by rw[e2,Array.append_assoc]⟩
 · obtain⟨m,hn,hl⟩:=I.loc
   refine⟨m,ns m hn,fun i x v e1 e2 e3=>?_⟩
   obtain⟨u,r,l⟩:=hl i x v e1 e2 e3
   refine⟨u,r,?_⟩
   rcases l with l|⟨k,c,e,z⟩
   ·exact .inl l
   ·exact .inr ⟨k,c,e,cellK x c e _ z⟩
 · obtain⟨v,z⟩:=I.cell x c e
   exact⟨v,cellK x c e v z⟩
 · obtain⟨m,⟨o,_,_,ho,_⟩,_⟩:=I.loc
   exact free _ o (fun z=>(hch _ z).2.1 rfl) ho I.free
 · obtain⟨v,o,ho,hd⟩:=I.cell x c e
   exact free c o (fun z=>(hch c z).2.2.1 x c e rfl) ho (I.freeC x c e)
 · obtain⟨e,n,ne,nf,d⟩:=I.pin p hp
   have nch:p.1∉ch:=fun z=>(hch p.1 z).2.2.2 p hp rfl
   exact⟨keep p.1 p.2 ne nf nch e n,free p.1 p.2 nch e n,ne,nf,d⟩
theorem Inv.un{t':Nat}(I:Inv X pins σ H s)(u:Un X.fs [] H H' s.heap h')(hok:HOk X.prog X.w H' h'):Inv X pins σ H' {s with heap:=h',toks:=t'}:=by
 obtain⟨m,⟨o,es,ep,ho,r⟩,_⟩:=id I.loc
 obtain⟨sl,hL⟩:=u.any ho I.free (by simp)
 exact I.step (g':=s.gens) (d':=s.drawn) (ch:= []) (fun _ z=>nomatch z) (fun b o _ hb _ e n=>u.keep b o e n hb (by simp)) (fun b o _ hb _ e n=>u.slot b o e n hb (by simp)) (fun b o _ e n=>u.free b o e n (by simp)) (fun b o _ e=>u.there b o e (by simp)) u.tups u.frzs u.tbls (fun m' hm=>by
  obtain⟨o',es',ep',ho',r'⟩:=hm
  rw[ho]at ho';cases ho'
  exact⟨_,es',ep',hL,r'⟩) hok I.bare
theorem Inv.call{g':Array GenState}{t':Nat}{d':Drawn}{ch:List Addr}(I:Inv X pins σ H s)(u:Un (frs X.stack) ch H H' s.heap h')(hok:HOk X.prog X.w H' h')(hg:AllBare g')
 (hch:∀b∈ch,(b∈X.ex∨X.s₀.heap.objs.size≤b)∧b≠X.env.locals∧(∀x c,X.env.cells.lookup x=some c→c≠b)∧∀p∈X.pn++pins,p.1≠b):
 Inv X pins σ H' {s with heap:=h',gens:=g',drawn:=d',toks:=t'}:=by
 obtain⟨m,⟨o,es,ep,ho,r⟩,_⟩:=id I.loc
 obtain⟨sl,hL⟩:=u.any ho I.free fun z=>(hch _ z).2.1 rfl
 exact I.step (ch:=ch) hch (fun b o hL hb hc e n=>u.keep b o e n (fun z=>(List.mem_cons.mp (I.stkSub b z)).elim hL hb) hc) (fun b o _ _ hc e n=>u.any e n hc) (fun b o hc e n=>u.free b o e n hc) (fun b o hc e=>u.there b o e hc) u.tups u.frzs u.tbls (fun m' hm=>by
  obtain⟨o',es',ep',ho',r'⟩:=hm
  rw[ho]at ho';cases ho'
  exact⟨_,es',ep',hL,r'⟩) hok hg
theorem Inv.turned{t':Nat}{it:Addr}(I:Inv X pins σ H s)(k:∀b o,b≠it→s.heap.get? b=some o→h'.get? b=some o)(hn:H it=none)(hL:it≠X.env.locals)
 (h1:it∈X.ex∨X.s₀.heap.objs.size≤it) (h2:∀x c,X.env.cells.lookup x=some c→c≠it) (h3:∀p∈X.pn++pins,p.1≠it):Inv X pins σ H {s with heap:=h',toks:=t'}:=by
 have nit:∀b u,H b=some u→b≠it:=fun b u e z=>by rw[z,hn]at e;cases e
 refine I.step (g':=s.gens) (d':=s.drawn) (ch:= [it]) (fun b hb=>?_) (fun b o _ _ hc e _=>k b o (fun z=>hc (by simp[z])) e) (fun b o _ _ hc e _=>⟨o.slots,k b o (fun z=>hc (by simp[z])) e⟩) (fun _ _ _ _ n=>n)
  (fun b o hc e=>⟨o,k b o (fun z=>hc (by simp[z])) e⟩) (fun _ _ e=>e) (fun _ _ _ e=>e) (fun b ps e=>⟨#[],by rw[e];simp⟩) (fun m hm=>?_) (fun b u e=>?_) I.bare
 · have e:b=it:=by simpa using hb
   subst e
   exact⟨h1,hL,h2,h3⟩
 · obtain⟨o,es,ep,ho,r⟩:=hm
   exact⟨o,es,ep,k _ o (Ne.symm hL) ho,r⟩
 · refine(I.hok b u e).stay (fun c v hc q=>k c v ?_ q) (fun _ q=>q) fun _ _ q=>q
   rcases hc with z|z
   ·rw[z];exact nit b u e
   ·exact nit c _ z
theorem Inv.tok(I:Inv X pins σ H s)(t:Nat):Inv X pins σ H {s with toks:=t}:=I.un (h':=s.heap) (t':=t) Un.refl I.hok
theorem Inv.kept{t':Nat}(I:Inv X pins σ H s)(k:∀b u,s.heap.get? b=some u→h'.get? b=some u):Inv X pins σ H {s with heap:=h',toks:=t'}:=I.un (Un.kept k) (I.hok.kept k)
theorem Inv.laid{a:Addr}{o:HO}{t':Nat}(I:Inv X pins σ H s)(k:∀b u,s.heap.get? b=some u→h'.get? b=some u)(hp:s.heap.objs.size≤a)(new:V1 X.prog X.w (upd H a o) h' a o):
 Inv X pins σ (upd H a o) {s with heap:=h',toks:=t'}:=I.un (Un.laid k hp (I.hok.fresh hp)) (I.hok.laid k hp new)
theorem Inv.write{x e:Addr}{o:HO}{t':Nat}(I:Inv X pins σ H s)(mu:Mut (H x))(he:e=x∨H e=some (.own x))(k:∀b u,b≠e→s.heap.get? b=some u→h'.get? b=some u)(heo:∃u,h'.get? e=some u)
 (new:V1 X.prog X.w (upd H x o) h' x o):Inv X pins σ (upd H x o) {s with heap:=h',toks:=t'}:=I.un (Un.write mu he k heo) (I.hok.write mu he k heo new)
theorem Inv.pins_of{pins':PNS}(I:Inv X pins σ H s)(h:∀p∈pins',s.heap.get? p.1=some p.2∧H p.1=none∧p.1≠X.env.locals∧p.1∉X.fs∧∀v,p.2.data≠ .cell v):Inv X pins' σ H s:=
 ⟨I.ok,I.os,I.bare,I.base,I.loc,I.cell,I.free,I.freeC,fun p hp=>(List.mem_append.mp hp).elim (fun z=>I.pin p (List.mem_append_left _ z)) (h p),I.hok,I.len⟩
theorem cK7{N:List Str}(hN:N.Nodup){i j:Nat}{x:Str}(a:N[i]? =some x)(b:N[j]? =some x):i=j:=by
 obtain⟨h1,e1⟩:=List.getElem?_eq_some_iff.mp a
 obtain⟨h2,e2⟩:=List.getElem?_eq_some_iff.mp b
 exact(List.getElem_inj hN).mp (e1.trans e2.symm)
theorem dF6{M:Model}{A:Around}{E:VSP}{i:Nat}{x:Str}{v:V}{u:Value}{Q:Unit→Shared→Prop}(I:Inv X pins σ H s)(hN:X.N.Nodup)(hi:X.N[i]? =some x)(hx:Loc X.env.scope x)(r:J6 v u)
 (h:∀s',Inv X pins (σ.set i (some v)) H s'→(∃a,Heap.SameBut a s.heap s'.heap∧(a=X.env.locals∨X.env.cells.lookup x=some a))→Q () s') (hf:X.fn x=true∨X.env.scope.names.lookup x=some .local):wpAny M A (storeName X.env x u) Q E s:=by
 obtain⟨m,hn,hl⟩:=id I.loc
 have hcls:(X.env.scope.kind == .class||(X.env.scope.kind == .module&&X.env.locals != X.env.globals))=false:=by rw[I.ok.kind];rfl
 have hiσ:i<σ.length:=by rw[I.len];exact(List.getElem?_eq_some_iff.mp hi).1
 have cne:=I.cne
 have tracked:∀ {a:Addr} {h':Heap},(∃o,s.heap.get? a=some o∧H a=none)→Heap.SameBut a s.heap h'→HOk X.prog X.w H h':=fun {a h'} ha hs b ob e=>by
  obtain⟨_,_,hfree⟩:=ha
  refine(I.hok b ob e).stay (fun c w' hc q=>(hs.2 c ?_).trans q) (fun _ q=>q) fun _ _ q=>q
  rintro rfl
  rcases hc with rfl|hc
  ·rw[hfree]at e;cases e
  ·rw[hfree]at hc;cases hc
 rcases hx with hk|hk
 · refine wpAny_storeName_local hk hn (fun h' hn' hs=>?_) hcls
   obtain⟨oL,_,_,hoL,_⟩:=id hn
   refine h _ ⟨I.ok,I.os,I.bare,⟨fun b o e n hb hx=>?_,fun b o e n hb hx=>?_,I.base.free,fun b o e hx=>?_,I.base.tups,I.base.frzs,I.base.tbls⟩,⟨_,hn',fun j y v' e1 e2 e3=>?_⟩,fun y c e=>?_,I.free,I.freeC,fun p hp=>?_,tracked ⟨oL,hoL,I.free⟩ hs,by simpa using I.len⟩ ⟨_,hs,.inl rfl⟩
   ·exact(hs.2 b (Nat.ne_of_lt (Nat.lt_of_lt_of_le (Heap.lt_size e) I.ok.above))).trans (I.base.keep b o e n hb hx)
   · obtain⟨sl,e1⟩:=I.base.slot b o e n hb hx
     exact⟨sl,(hs.2 b (Nat.ne_of_lt (Nat.lt_of_lt_of_le (Heap.lt_size e) I.ok.above))).trans e1⟩
   · obtain⟨o',e1⟩:=I.base.there b o e hx
     exact⟨o',(hs.2 b (Nat.ne_of_lt (Nat.lt_of_lt_of_le (Heap.lt_size e) I.ok.above))).trans e1⟩
   · by_cases hj:j=i
     · subst hj
       rw[hi]at e1;cases e1
       rw[List.getElem?_set_self hiσ]at e2
       cases e2
       exact⟨u,r,.inl ⟨hk,by simp⟩⟩
     · rw[List.getElem?_set_ne (Ne.symm hj)]at e2
       obtain⟨u',r',q⟩:=hl j y v' e1 e2 e3
       refine⟨u',r',?_⟩
       rcases q with⟨k,e⟩|⟨k,c,e,z⟩
       · refine .inl ⟨k,?_⟩
         have:y≠x:=fun e=>hj (cK7 hN e1 (e▸hi))
         simp[this,e]
       ·exact .inr ⟨k,c,e,z.sameBut hs (cne y c e)⟩
   · obtain⟨w',z⟩:=I.cell y c e
     exact⟨w',z.sameBut hs (cne y c e)⟩
   · obtain⟨e,n,ne,nf,d⟩:=I.pin p hp
     exact⟨(hs.2 p.1 ne).trans e,n,ne,nf,d⟩
 · have hfn:X.fn x=true:=by
    rcases hf with z|z
    ·exact z
    ·rw[z]at hk;cases hk
   obtain⟨c,hc⟩:=I.ok.has x (.inl hk)
   obtain⟨w',z⟩:=I.cell x c hc
   refine wpAny_storeName_cell I.ok.kind hk hc z (fun h' hc' hs=>?_)
   obtain⟨oc,hoc,hocd⟩:=id z
   refine h {s with heap:=h'} ⟨I.ok,I.os,I.bare,⟨fun b o e n hb hx=>?_,fun b o e n hb hx=>?_,I.base.free,fun b o e hx=>?_,I.base.tups,I.base.frzs,I.base.tbls⟩,⟨m,hn.sameBut hs (Ne.symm (cne x c hc)),fun j y v' e1 e2 e3=>?_⟩,fun y c' e=>?_,I.free,I.freeC,fun p hp=>?_,tracked ⟨oc,hoc,I.freeC x c hc⟩ hs,by simpa using I.len⟩ ⟨c,hs,.inr hc⟩
   ·exact(hs.2 b (Nat.ne_of_lt (Nat.lt_of_lt_of_le (Heap.lt_size e) (I.ok.cab x c hfn hc)))).trans (I.base.keep b o e n hb hx)
   · obtain⟨sl,e1⟩:=I.base.slot b o e n hb hx
     exact⟨sl,(hs.2 b (Nat.ne_of_lt (Nat.lt_of_lt_of_le (Heap.lt_size e) (I.ok.cab x c hfn hc)))).trans e1⟩
   · obtain⟨o',e1⟩:=I.base.there b o e hx
     exact⟨o',(hs.2 b (Nat.ne_of_lt (Nat.lt_of_lt_of_le (Heap.lt_size e) (I.ok.cab x c hfn hc)))).trans e1⟩
   · by_cases hj:j=i
     · subst hj
       rw[hi]at e1;cases e1
       rw[List.getElem?_set_self hiσ]at e2
       cases e2
       exact⟨u,r,.inr ⟨.inl hk,c,hc,hc'⟩⟩
     · rw[List.getElem?_set_ne (Ne.symm hj)]at e2
       obtain⟨u',r',q⟩:=hl j y v' e1 e2 e3
       refine⟨u',r',?_⟩
       rcases q with q|⟨k,c',e,z'⟩
       ·exact .inl q
       · refine .inr ⟨k,c',e,z'.sameBut hs ?_⟩
         rintro rfl
         exact hj (cK7 hN e1 (I.ok.inj _ _ _ e hc▸hi))
   · by_cases hcc:c'=c
     ·subst hcc;exact⟨_,hc'⟩
     · obtain⟨w2,z2⟩:=I.cell y c' e
       exact⟨w2,z2.sameBut hs hcc⟩
   · obtain⟨e,n,ne,nf,d⟩:=I.pin p hp
     refine⟨(hs.2 p.1 ?_).trans e,n,ne,nf,d⟩
     intro q
     rw[q,hoc]at e
     have q':oc=p.2:=Option.some.inj e
     exact d w' (by rw[←q'];exact hocd)
theorem dS3{M:Model}{A:Around}{E:VSP}{i:Nat}{x:Str}{v:V}{u:Value}{Q:Unit→Shared→Prop}(I:Inv X pins σ H s)(hN:X.N.Nodup)(hi:X.N[i]? =some x)(hx:Loc X.env.scope x)(r:J6 v u)
 (h:∀s',Inv X pins (σ.set i (some v)) H s'→Q () s') (hf:X.fn x=true∨X.env.scope.names.lookup x=some .local):wpAny M A (storeName X.env x u) Q E s:=
 dF6 I hN hi hx r (fun s' I' _=>h s' I') hf
end
noncomputable abbrev XK:=Value→Option Addr→Hp→Prop
noncomputable abbrev St:=List (Option V)
noncomputable abbrev VK:=V→Hp→Prop
noncomputable abbrev TE:=St→Hp→VK→Prop
noncomputable abbrev TT:=St→Hp→(Bool→Hp→Prop)→Prop
noncomputable abbrev TA:=St→Hp→(List V→Hp→Prop)→Prop
structure bP1 where
 nx:St→Hp→Prop
 rt:VK
 bk:St→Hp→Prop:=fun _ _=>False
 ct:St→Hp→Prop:=fun _ _=>False
noncomputable abbrev TS:=bP1→St→Hp→Prop
def EP(X:Cx)(pins:PNS)(σ:St)(Q:VK)(u:Value)(s':Shared):Prop:=∃v H',Inv X pins σ H' s'∧J6 v u∧Q v H'
noncomputable def TP(X:Cx)(pins:PNS)(σ:St)(Q:Bool→Hp→Prop)(b:Bool)(s':Shared):Prop:=∃H',Inv X pins σ H' s'∧Q b H'
noncomputable def AP(X:Cx)(pins:PNS)(σ:St)(Q:List V→Hp→Prop)(us:List Value)(s':Shared):Prop:=∃vs H',Inv X pins σ H' s'∧w6 vs us∧Q vs H'
theorem EP.elim{X:Cx}{pins:PNS}{σ:St}{Q:VK}{u:Value}{s:Shared}{P:Prop}(h:EP X pins σ Q u s)(k:∀v H,Inv X pins σ H s→J6 v u→Q v H→P):P:=by
 obtain⟨a,b,c,d,e⟩:=h
 exact k a b c d e
theorem TP.elim{X:Cx}{pins:PNS}{σ:St}{Q:Bool→Hp→Prop}{u:Bool}{s:Shared}{P:Prop}(h:TP X pins σ Q u s)(k:∀H,Inv X pins σ H s→Q u H→P):P:=by
 obtain⟨b,c,e⟩:=h
 exact k b c e
theorem AP.elim{X:Cx}{pins:PNS}{σ:St}{Q:List V→Hp→Prop}{u:List Value}{s:Shared}{P:Prop}(h:AP X pins σ Q u s)(k:∀v H,Inv X pins σ H s→w6 v u→Q v H→P):P:=by
 obtain⟨a,b,c,d,e⟩:=h
 exact k a b c d e
def SP(X:Cx)(pins:PNS)(D:bP1)(f:Flow)(s':Shared):Prop:=
 match f with
 | .next=>∃ σ' H',Inv X pins σ' H' s'∧D.nx σ' H'
 | .brk=>∃ σ' H',Inv X pins σ' H' s'∧D.bk σ' H'
 | .cont=>∃ σ' H',Inv X pins σ' H' s'∧D.ct σ' H'
 | .ret u=>∃v σ' H',Inv X pins σ' H' s'∧J6 v u∧D.rt v H'
def PE(X:Cx)(e:Expr)(t:TE):Prop:=
 ∀(pins:PNS) (s:Shared) (σ:St) (H:Hp) (Q:VK),Inv X pins σ H s→t σ H Q→wpAny (model X.prog X.w) X.A (eval e X.env) (EP X pins σ Q) X.xe s
def PT(X:Cx)(e:Expr)(t:TT):Prop:=
 ∀(pins:PNS) (s:Shared) (σ:St) (H:Hp) (Q:Bool→Hp→Prop),Inv X pins σ H s→t σ H Q→wpAny (model X.prog X.w) X.A (isTrue e X.env (eval e X.env)) (TP X pins σ Q) X.xe s
def PW(X:Cx)(e:Expr)(t:TT):Prop:=
 ∀(whole:Sem Value) (pins:PNS) (s:Shared) (σ:St) (H:Hp) (Q:Bool→Hp→Prop),Inv X pins σ H s→t σ H Q→wpAny (model X.prog X.w) X.A (isTrue e X.env whole) (TP X pins σ Q) X.xe s
def PA(X:Cx)(es:List Expr)(t:TA):Prop:=
 ∀(pos:Pos) (pins:PNS) (s:Shared) (σ:St) (H:Hp) (Q:List V→Hp→Prop),Inv X pins σ H s→t σ H Q→wpAny (model X.prog X.w) X.A (spliced (backTo pos (starEach es X.env))) (AP X pins σ Q) X.xe s
def PS(X:Cx)(st:Stmt)(t:TS):Prop:=
 ∀(pins:PNS) (s:Shared) (σ:St) (H:Hp) (D:bP1),Inv X pins σ H s→t D σ H→wpAny (model X.prog X.w) X.A (exec st X.env) (SP X pins D) X.xe s
def PSs(X:Cx)(st:List Stmt)(t:TS):Prop:=
 ∀(pins:PNS) (s:Shared) (σ:St) (H:Hp) (D:bP1),Inv X pins σ H s→t D σ H→wpAny (model X.prog X.w) X.A (execs st X.env) (SP X pins D) X.xe s
theorem thn{α:Type}{t:Sem α}{Q Q':α→Shared→Prop}{M:Model}{A:Around}{E:VSP}{s:Shared}(h:wpAny M A t Q E s)(hQ:∀a s,Q a s→Q' a s):wpAny M A t Q' E s:=wpAny_mono h hQ fun _ _ x=>x
section
variable{X:Cx}
noncomputable def eN7(i:Nat):TE:=fun σ H Q=>∃v,σ[i]? =some (some v)∧Q v H
noncomputable def tC(v:V):TE:=fun _ H Q=>Q v H
theorem dR6{i:Nat}{x:Str}{pos:Pos}(hN:X.N[i]? =some x)(hv:Vis X.env.scope x)(hd:(x==("__debug__" :Str))=false)(hcd:(x==("__classdict__" :Str))=false):PE X (.Name x pos) (eN7 i):=by
 intro pins s σ H Q I h
 obtain⟨v,e,h⟩:=h
 obtain⟨m,hn,hl⟩:=I.loc
 obtain⟨u,r,l⟩:=hl i x v hN e hv
 have fin:EP X pins σ Q u s:=⟨v,H,I,r,h⟩
 rcases l with⟨hk,hm⟩|⟨hk,c,hc,hcell⟩
 ·exact wpAny_Name (wpAny_loadName_local I.ok.kind hk hn hm fin) hd
 · rcases hk with hk|hk
   ·exact wpAny_Name (wpAny_loadName_cell I.ok.kind hk hc hcell fin) hd
   ·exact wpAny_Name (wpAny_loadName_free I.ok.kind hk hc hcell fin hcd) hd
theorem cU9{i j pos}:PE X (.Constant (.int i) j pos) (tC (.int i)):=fun _ _ _ H _ I h=>wpAny_Constant_int ⟨.int i,H,I.tok _,⟨_,rfl⟩,h⟩
theorem fG2{b j pos}:PE X (.Constant (.bool b) j pos) (tC (.bl b)):=fun _ _ _ H _ I h=>Constant_bool ⟨.bl b,H,I,rfl,h⟩
theorem eZ9{j pos}:PE X (.Constant .none j pos) (tC .non):=fun _ _ _ H _ I h=>Constant_none ⟨.non,H,I,rfl,h⟩
theorem eU8{x j pos}:PE X (.Constant (.str x) j pos) (tC (.str x)):=fun _ _ _ H _ I h=>Calls.Constant_str ⟨.str x,H,I.tok _,⟨_,rfl⟩,h⟩
noncomputable def Gl(X:Cx)(x:Str):Prop:=X.env.kindOf x=some .globalImplicit
theorem bN5{E:VSP}{pins:PNS}{s:Shared}{σ:St}{H:Hp}{x:Str}{u:Value}{pos:Pos}{Q:VSP}(I:Inv X pins σ H s)(hg:Gl X x)(hm:X.mg x=some u)(h:Q u s)
 (hd:(x==("__debug__" :Str))=false):wpAny (model X.prog X.w) X.A (eval (.Name x pos) X.env) Q E s:=
 Calls.Name_function_global I.ok.kind hg (Calls.loadGlobal_global (by rw[I.ok.glob];exact I.mod.glob.keeps I.bk) hm h) hd
theorem aZ3{E:VSP}{pins:PNS}{s:Shared}{σ:St}{H:Hp}{x:Str}{u:Value}{pos:Pos}{Q:VSP}(I:Inv X pins σ H s)(hg:Gl X x)(hm:X.mg x=none)(hv:bootBuiltins x=some u)(h:Q u s)
 (hn:x≠ "__name__":=by decide) (hd:(x==("__debug__" :Str))=false:=by decide):wpAny (model X.prog X.w) X.A (eval (.Name x pos) X.env) Q E s:=by
 obtain⟨mb,h1,h2⟩:=I.mod.blt
 exact Calls.Name_function_global I.ok.kind hg (Calls.loadGlobal_builtin (by rw[I.ok.glob];exact I.mod.glob.keeps I.bk) hm (by rw[I.ok.blt];exact h1.keeps I.bk) ((h2 x hn).trans hv) h) hd
theorem eA8{x:Str}{v:V}{u:Value}{pos:Pos}(hg:Gl X x)(hm:X.mg x=none)(hv:bootBuiltins x=some u)(r:J6 v u)(hn:x≠ "__name__")(hd:(x==("__debug__" :Str))=false):PE X (.Name x pos) (tC v):=
 fun _ _ _ H _ I h=>aZ3 I hg hm hv ⟨v,H,I,r,h⟩ hn hd
variable{a b:Expr}{ta tb:TE}{pos:Pos}
variable{tA tB':TT}{U9:List Expr}
noncomputable def fN0(t u:TT):TT:=fun σ H Q=>t σ H fun c H1=>if c=true then u σ H1 Q else Q false H1
noncomputable def tOr(t u:TT):TT:=fun σ H Q=>t σ H fun c H1=>if c=true then Q true H1 else u σ H1 Q
noncomputable def fM1(t:TT):TT:=fun σ H Q=>t σ H fun c H1=>Q (!c) H1
theorem eG7(ha:PT X a tA):PW X (.BoolOp .And [a] pos) tA:=by
 intro wh pins s σ H Q I h
 refine isTrue_and (thn (ha pins s σ H Q I h) fun c s1 e=>?_)
 cases c with
 |true=>exact isTrue_and_nil e
 |false=>exact e
theorem eX9(ha:PT X a tA):PW X (.BoolOp .Or [a] pos) tA:=by
 intro wh pins s σ H Q I h
 refine isTrue_or (thn (ha pins s σ H Q I h) fun c s1 e=>?_)
 cases c with
 |false=>exact isTrue_or_nil e
 |true=>exact e
theorem eL8(ha:PT X a tA)(hb:PW X (.BoolOp .And (b::U9) pos) tB'):PW X (.BoolOp .And (a::b::U9) pos) (fN0 tA tB'):=by
 intro wh pins s σ H Q I h
 refine isTrue_and (thn (ha pins s σ H _ I h) fun c s1 hE1=>hE1.elim fun H1 I1 q1=>?_)
 cases c with
 |true=>exact hb wh pins s1 σ H1 Q I1 q1
 |false=>exact⟨H1,I1,q1⟩
theorem fG5(ha:PT X a tA)(hb:PW X (.BoolOp .Or (b::U9) pos) tB'):PW X (.BoolOp .Or (a::b::U9) pos) (tOr tA tB'):=by
 intro wh pins s σ H Q I h
 refine isTrue_or (thn (ha pins s σ H _ I h) fun c s1 hE1=>hE1.elim fun H1 I1 q1=>?_)
 cases c with
 |true=>exact⟨H1,I1,q1⟩
 |false=>exact hb wh pins s1 σ H1 Q I1 q1
theorem eP6(ha:PT X a tA):PT X (.UnaryOp .Not a pos) (fM1 tA):=by
 intro pins s σ H Q I h
 exact isTrue_not (ha pins s σ H (fun c H1=>Q (!c) H1) I h)
noncomputable def fI1(ta:TE):TE:=fun σ H Q=>ta σ H fun x H1=>∃c,x= .bl c∧Q (.bl (!c)) H1
theorem eN6{op}{t:TE}(h:PE X a t):PE X (.BoolOp op [a] pos) t:=fun pins s σ H Q I hw=>BoolOp_one (h pins s σ H Q I hw)
theorem eT6(ha:PE X a ta):PE X (.UnaryOp .Not a pos) (fI1 ta):=by
 intro pins s σ H Q I h
 refine UnaryOp_ (thn (ha pins s σ H _ I h) fun v s1 hE1=>hE1.elim fun x H1 I1 r1 q1=>?_)
 obtain⟨c,rfl,q1⟩:=q1
 cases r1
 exact not_of (wpAny_truthy_bool ⟨.bl (!c),H1,I1,rfl,q1⟩)
noncomputable def tIf(t:TT)(ta tb:TE):TE:=fun σ H Q=>t σ H fun c H1=>if c=true then ta σ H1 Q else tb σ H1 Q
theorem dN1{c:Expr}(hc:PT X c tA)(ha:PE X a ta)(hb:PE X b tb):PE X (.IfExp c a b pos) (tIf tA ta tb):=by
 intro pins s σ H Q I h
 refine wpAny_IfExp (thn (hc pins s σ H _ I h) fun d s1 hE1=>hE1.elim fun H1 I1 q1=>?_)
 cases d with
 |true=>exact ha pins s1 σ H1 Q I1 q1
 |false=>exact hb pins s1 σ H1 Q I1 q1
end
def SqL(K:PySem.W.Frag)(H:Hp)(a:Addr)(xs:List V):Prop:=
 Rd H a (.lst xs)∨
  ∃(o:Obj) (its:Array Value) (n:Nat),K.lookup a=some o∧o.cls= .type "list"∧o.dict=none∧o.data= .seq its n∧its.size≤sizeLine∧w6 xs its.toList
def SqT(K:PySem.W.Frag)(H:Hp)(a:Addr)(xs:List V):Prop:=
 Rd H a (.tup xs)∨
  ∃(o:Obj) (its:Array Value) (n:Nat),K.lookup a=some o∧o.cls= .type "tuple"∧(o.data,o.dict)= (Data.seq its n,none)∧its.size≤sizeLine∧w6 xs its.toList
noncomputable def fL8:Value→Option V
 | .none=>some .non
 | .bool b=>some (.bl b)
 | .int i _=>some (.int i)
 | .str x _=>some (.str x)
 | .bytes b _=>some (.byt b)
 | .float b _=>some (.flt b)
 | .ref a=>some (.ref a)
 | .type n=>some (.ty n)
 |_=>none
theorem J6.abs{x:V}{u:Value}(r:J6 x u):fL8 u=some x:=by
 cases x with
 |non=>cases r;rfl
 |bl _=>cases r;rfl
 |int _=>obtain⟨t,rfl⟩:=r;rfl
 |str _=>obtain⟨t,rfl⟩:=r;rfl
 |byt _=>obtain⟨t,rfl⟩:=r;rfl
 |flt _=>obtain⟨t,rfl⟩:=r;rfl
 |ref _=>cases r;rfl
 |ty _=>cases r;rfl
theorem J6.inj{x y:V}{u:Value}(r:J6 x u)(q:J6 y u):x=y:=Option.some.inj (r.abs.symm.trans q.abs)
theorem w6.inj{xs ys:List V}{us:List Value}(h:w6 xs us)(k:w6 ys us):xs=ys:=by
 induction h generalizing ys with
 |nil=>cases k;rfl
 |cons r t ih=>cases k with
   |cons r' t'=>rw[r.inj r',ih t']
section
variable{X:Cx}{pins:PNS}{σ:St}{H:Hp}{s:Shared}{a:Addr}{xs ys:List V}
theorem SqL.of{K:PySem.W.Frag}(h:H a=some (.lst xs)):SqL K H a xs:=.inl (.inl h)
theorem SqT.of{K:PySem.W.Frag}(h:H a=some (.tup xs)):SqT K H a xs:=.inl (.inl h)
theorem Inv.list(I:Inv X pins σ H s)(h:SqL X.K H a xs):∃its:List Value,w6 xs its∧PlainL s.heap a its.toArray∧xs.length≤sizeLine:=by
 rcases h with h|⟨o,its,n,hk,hc,hd,hs,hz,r⟩
 · obtain⟨z,its,n,r,e⟩:=h.ok I.hok
   exact⟨its,r,⟨_,n,e,rfl,rfl,rfl⟩,z⟩
 · refine⟨its.toList,r,⟨o,n,I.kIn a o hk,hc,hd,by simpa using hs⟩,?_⟩
   have e:=r.length
   simp only[Array.length_toList]at e
   lia
theorem Inv.tuple(I:Inv X pins σ H s)(h:SqT X.K H a xs):∃its:List Value,w6 xs its∧IsTup s.heap a its.toArray∧xs.length≤sizeLine:=by
 rcases h with h|⟨o,its,n,hk,hc,hs,hz,r⟩
 · obtain⟨z,its,r,p⟩:=h.ok I.hok
   exact⟨its,r,aB5.tup p,z⟩
 · refine⟨its.toList,r,⟨o,I.kIn a o hk,hc,n,by simpa using (Prod.mk.inj hs).1⟩,?_⟩
   have e:=r.length
   simp only[Array.length_toList]at e
   lia
theorem Inv.tupleN(I:Inv X pins σ H s)(h:SqT X.K H a xs):∃its:List Value,w6 xs its∧aB5 s.heap a its.toArray∧xs.length≤sizeLine:=by
 rcases h with h|⟨o,its,n,hk,hc,hs,hz,r⟩
 · obtain⟨z,its,r,p⟩:=h.ok I.hok
   exact⟨its,r,p,z⟩
 · refine⟨its.toList,r,⟨o,I.kIn a o hk,hc,n,by simpa using hs⟩,?_⟩
   have e:=r.length
   simp only[Array.length_toList]at e
   lia
theorem Inv.list_inj(I:Inv X pins σ H s)(h:SqL X.K H a xs)(h':SqL X.K H a ys):xs=ys:=by
 obtain⟨its,r,⟨o,n,e,_,_,d⟩,_⟩:=I.list h
 obtain⟨its',r',⟨o',n',e',_,_,d'⟩,_⟩:=I.list h'
 rw[e]at e';cases e'
 rw[d]at d'
 injection d' with d1 _
 have:its=its':=by simpa using congrArg Array.toList d1
 subst this
 exact r.inj r'
theorem Inv.tuple_inj(I:Inv X pins σ H s)(h:SqT X.K H a xs)(h':SqT X.K H a ys):xs=ys:=by
 obtain⟨its,r,⟨o,e,_,n,d⟩,_⟩:=I.tuple h
 obtain⟨its',r',⟨o',e',_,n',d'⟩,_⟩:=I.tuple h'
 rw[e]at e';cases e'
 rw[d]at d'
 injection d' with d1 _
 have:its=its':=by simpa using congrArg Array.toList d1
 subst this
 exact r.inj r'
end
noncomputable abbrev Cx.wish(X:Cx)(E:VSP):Cx:={X with xe:=E}
noncomputable abbrev Cx.nox(X:Cx):Cx:=X.wish fun _ _=>False
theorem Cx.Ok.wish{X:Cx}(ok:X.Ok)(E:VSP):(X.wish E).Ok:=
 ⟨ok.mod,ok.kind,ok.glob,ok.blt,ok.above,ok.inj,ok.has,ok.cab,ok.hd,ok.frames,ok.stk,ok.exf,ok.bs,ok.bsz,ok.noex,ok.exfs,ok.funs,ok.frf,ok.gd⟩
theorem Cx.Ok.unwish{X:Cx}{E:VSP}(ok:(X.wish E).Ok):X.Ok:=
 ⟨ok.mod,ok.kind,ok.glob,ok.blt,ok.above,ok.inj,ok.has,ok.cab,ok.hd,ok.frames,ok.stk,ok.exf,ok.bs,ok.bsz,ok.noex,ok.exfs,ok.funs,ok.frf,ok.gd⟩
section
variable{X:Cx}{pins:PNS}{σ:St}{H:Hp}{s:Shared}{E:VSP}
theorem Inv.wish(I:Inv X pins σ H s)(E:VSP):Inv (X.wish E) pins σ H s:=⟨I.ok.wish E,I.os,I.bare,I.base,I.loc,I.cell,I.free,I.freeC,I.pin,I.hok,I.len⟩
theorem Inv.unwish(I:Inv (X.wish E) pins σ H s):Inv X pins σ H s:=⟨I.ok.unwish,I.os,I.bare,I.base,I.loc,I.cell,I.free,I.freeC,I.pin,I.hok,I.len⟩
theorem SP.unwish{D:bP1}{f:Flow}{s':Shared}(h:SP (X.wish E) pins D f s'):SP X pins D f s':=by
 cases f with
 |next=>obtain⟨σ',H',I,q⟩:=h;exact⟨σ',H',I.unwish,q⟩
 |brk=>obtain⟨σ',H',I,q⟩:=h;exact⟨σ',H',I.unwish,q⟩
 |cont=>obtain⟨σ',H',I,q⟩:=h;exact⟨σ',H',I.unwish,q⟩
 |ret u=>obtain⟨v,σ',H',I,r,q⟩:=h;exact⟨v,σ',H',I.unwish,r,q⟩
theorem PE.nox{e:Expr}{t:TE}(h:PE X.nox e t):PE X e t:=fun pins s σ H Q I hw=>
 wpAny_mono (h pins s σ H Q (I.wish _) hw) (fun _ _ ⟨v,H',I',r,q⟩=>⟨v,H',I'.unwish,r,q⟩) fun _ _ z=>False.elim z
theorem PT.nox{e:Expr}{t:TT}(h:PT X.nox e t):PT X e t:=fun pins s σ H Q I hw=>
 wpAny_mono (h pins s σ H Q (I.wish _) hw) (fun _ _ ⟨H',I',q⟩=>⟨H',I'.unwish,q⟩) fun _ _ z=>False.elim z
theorem PSs.nox{st:List Stmt}{t:TS}(h:PSs X.nox st t):PSs X st t:=fun pins s σ H D I hw=>
 wpAny_mono (h pins s σ H D (I.wish _) hw) (fun _ _ q=>q.unwish) fun _ _ z=>False.elim z
end
section
variable{X:Cx}{st:Stmt}{U9:List Stmt}{t u:TS}{e:Expr}{te:TE}{pos:Pos}
noncomputable def fC8:TS:=fun D σ H=>D.nx σ H
noncomputable def fO9(t u:TS):TS:=fun D σ H=>t {D with nx:=u D} σ H
theorem eG9:PSs X [] fC8:=fun _ _ σ H _ I h=>wpAny_execs_nil ⟨σ,H,I,h⟩
theorem dK6(h1:PS X st t)(h2:PSs X U9 u):PSs X (st::U9) (fO9 t u):=by
 intro pins s σ H D I h
 refine wpAny_execs_cons (thn (h1 pins s σ H {D with nx:=u D} I h) fun f s1 q=>?_)
 cases f with
 |next=>
   obtain⟨σ',H',I',q⟩:=q
   exact h2 pins s1 σ' H' D I' q
 |ret v=>exact q
 |brk=>exact q
 |cont=>exact q
theorem eA4(h1:PS X st t):PSs X [st] t:=by
 intro pins s σ H D I h
 refine wpAny_execs_cons (thn (h1 pins s σ H D I h) fun f s1 q=>?_)
 cases f with
 |next=>exact wpAny_execs_nil q
 |ret v=>exact q
 |brk=>exact q
 |cont=>exact q
theorem Inv.quiet{pins:PNS}{σ:St}{H:Hp}{s:Shared}(I:Inv X pins σ H s):interactive X.env=false:=by simp[interactive,I.ok.kind]
noncomputable def fJ7(te:TE):TS:=fun D σ H=>te σ H fun _ H1=>D.nx σ H1
theorem dZ1(he:PE X e te)(hs:swapsWith e none pos.line X.env=pure false):PS X (.Expr e pos) (fJ7 te):=by
 intro pins s σ H D I h
 exact wpAny_Expr_any (thn (he pins s σ H _ I h) fun v s1 hE1=>hE1.elim fun x H1 I1 r1 q1=>⟨σ,H1,I1,q1⟩) I.quiet hs
noncomputable def fK8(te:TE):TS:=fun D σ H=>te σ H D.rt
theorem eW6(he:PE X e te):PS X (.Return (some e) pos) (fK8 te):=by
 intro pins s σ H D I h
 exact wpAny_Return_some (thn (he pins s σ H _ I h) fun v s1 hE1=>hE1.elim fun x H1 I1 r1 q1=>⟨x,σ,H1,I1,r1,q1⟩)
noncomputable def fO8(c:TT)(t u:TS):TS:=fun D σ H=>c σ H fun b H1=>if b=true then t D σ H1 else u D σ H1
theorem fB9{c:Expr}{a b:List Stmt}{tc:TT}(hc:PT X c tc)(ha:PSs X a t)(hb:PSs X b u):PS X (.If c a b pos) (fO8 tc t u):=by
 intro pins s σ H D I h
 refine wpAny_If (thn (hc pins s σ H _ I h) fun d s1 hE1=>hE1.elim fun H1 I1 q1=>?_)
 cases d with
 |true=>exact ha pins s1 σ H1 D I1 q1
 |false=>exact hb pins s1 σ H1 D I1 q1
end
noncomputable abbrev TG:=V→St→Hp→(St→Hp→Prop)→Prop
noncomputable abbrev TGs:=List V→St→Hp→(St→Hp→Prop)→Prop
def PG(X:Cx)(target:Expr)(t:TG):Prop:=
 ∀(pins:PNS) (s:Shared) (σ:St) (H:Hp) (v:V) (u:Value) (Q:St→Hp→Prop),Inv X pins σ H s→J6 v u→t v σ H Q→
  wpAny (model X.prog X.w) X.A (assign target X.env u) (fun _ s'=>∃ σ' H',Inv X pins σ' H' s'∧Q σ' H') X.xe s
noncomputable def PGs(X:Cx)(ts:List Expr)(t:TGs):Prop:=
 ∀(pins:PNS) (s:Shared) (σ:St) (H:Hp) (vs:List V) (us:List Value) (Q:St→Hp→Prop),Inv X pins σ H s→w6 vs us→t vs σ H Q→
  wpAny (model X.prog X.w) X.A (assignInOrder ((assignEach ts X.env).map (·.2)) us) (fun _ s'=>∃ σ' H',Inv X pins σ' H' s'∧Q σ' H') X.xe s
noncomputable abbrev eI7:=V→V→V→Hp→(Hp→Prop)→Prop
def eQ2(X:Cx)(t:eI7):Prop:=
 ∀(pins:PNS) (s:Shared) (σ:St) (H:Hp) (o i v:V) (ov iv u:Value) (Q:Hp→Prop),Inv X pins σ H s→J6 o ov→J6 i iv→J6 v u→t o i v H Q→
  wpAny (model X.prog X.w) X.A (setItem ov iv u) (fun _ s'=>∃H',Inv X pins σ H' s'∧Q H') X.xe s
section
variable{X:Cx}{pos:Pos}
noncomputable def fE3(i:Nat):TG:=fun v σ H Q=>Q (σ.set i (some v)) H
theorem eC6{i:Nat}{x:Str}(hN:X.N.Nodup)(hi:X.N[i]? =some x)(hx:Loc X.env.scope x)(hf:X.fn x=true∨X.env.scope.names.lookup x=some .local):PG X (.Name x pos) (fE3 i):=by
 intro pins s σ H v u Q I r h
 exact wpAny_assign_Name (dS3 I hN hi hx r (fun s' I'=>⟨_,H,I',h⟩) hf)
noncomputable def fL1:TGs:=fun vs σ H Q=>vs= []∧Q σ H
noncomputable def fE0(t:TG)(u:TGs):TGs:=fun vs σ H Q=>∃v r,vs=v::r∧t v σ H fun σ' H'=>u r σ' H' Q
theorem eE4:PGs X [] fL1:=by
 intro pins s σ H vs us Q I r h
 obtain⟨e,h⟩:=h
 subst e
 cases r
 exact assignInOrder_nil ⟨σ,H,I,h⟩
theorem dR1{e:Expr}{es:List Expr}{t:TG}{u:TGs}(h1:PG X e t)(h2:PGs X es u)
 (hs:(assignEach (e::es) X.env).map (·.2)=assign e X.env::(assignEach es X.env).map (·.2)):PGs X (e::es) (fE0 t u):=by
 intro pins s σ H vs us Q I r h
 obtain⟨v,vr,e1,h⟩:=h
 subst e1
 cases r with
 |cons r rr=>
   rw[hs]
   refine assignInOrder_cons (thn (h1 pins s σ H _ _ _ I r h) fun _ s1 ⟨σ1,H1,I1,q1⟩=>?_)
   exact h2 pins s1 σ1 H1 _ _ Q I1 rr q1
def fN8(K:PySem.W.Frag)(n:Nat)(t:TGs):TG:=fun v σ H Q=>∃a xs,v= .ref a∧SqT K H a xs∧xs.length=n∧t xs σ H Q
theorem eX6{es:List Expr}{k:Nat}{t:TGs}{n:Nat}(hc:X.calm=true)(h:PGs X es t)
 (hn:(assignEach es X.env).length=n) (hst:(assignEach es X.env).findIdx? (·.1)=none):PG X (.Tuple es k pos) (fN8 X.K n t):=by
 intro pins s σ H v u Q I r hw
 obtain⟨a,xs,e1,hq,hl,hw⟩:=hw
 subst e1
 cases r
 obtain⟨its,rv,ht,hz⟩:=I.tuple hq
 refine assign_Tuple_tuple (I.ok.hd hc) ht (by simp[hn,←hl,rv.length]) hst fun h' hx=>?_
 have I1:Inv X pins σ H {s with heap:=h'}:=I.kept (t':=s.toks) fun b o e=>hx b o (Nat.ne_of_lt (Heap.lt_size e)) e
 exact h pins _ σ H xs _ Q I1 (by simpa using rv) hw
noncomputable def fN6(to ti:TE)(t:eI7):TG:=fun v σ H Q=>to σ H fun o H1=>ti σ H1 fun i H2=>t o i v H2 fun H3=>Q σ H3
theorem eT0{o i:Expr}{to ti:TE}{t:eI7}(ho:PE X o to)(hi:PE X i ti)(hs:eQ2 X t)
 (ha:∀v,assign (.Subscript o i pos) X.env v= (do
   let ov ←holding [v] (eval o X.env)
   let iv ←holding [v,ov] (eval i X.env)
   standAt pos
   holding [v,ov,iv] (setItem ov iv v)
   release [v,ov,iv] [])):PG X (.Subscript o i pos) (fN6 to ti t):=by
 intro pins s σ H v u Q I r h
 rw[ha]
 refine wpAny_bind (wpAny_holding (thn (ho pins s σ H _ I h) fun ov s1 ⟨x,H1,I1,r1,q1⟩=>?_))
 refine wpAny_bind (wpAny_holding (thn (hi pins s1 σ H1 _ I1 q1) fun iv s2 ⟨y,H2,I2,r2,q2⟩=>?_))
 refine wpAny_bind (wpAny_standAt (wpAny_bind (wpAny_holding (thn (hs pins s2 σ H2 x y v ov iv u _ I2 r1 r2 r q2) fun _ s3 ⟨H3,I3,q3⟩=>?_))))
 exact wpAny_release ⟨σ,H3,I3,q3⟩
noncomputable def fM4(te:TE)(g:TG):TS:=fun D σ H=>te σ H fun x H1=>g x σ H1 D.nx
theorem eV8{tg e:Expr}{te:TE}{g:TG}(he:PE X e te)(hg:PG X tg g)(hs:swapsWithSole [tg] e pos.line X.env=pure false)(hw:swappedStores [tg] e X.env=pure none)
 (h1:(assignEach [tg] X.env).map (·.2)= [assign tg X.env]):PS X (.Assign [tg] e pos) (fM4 te g):=by
 intro pins s σ H D I h
 refine wpAny_Assign_stores (thn (he pins s σ H _ I h) fun v s1 hE1=>hE1.elim fun x H1 I1 r1 q1=>?_) hs hw
 rw[h1]
 exact thn (hg pins s1 σ H1 x v _ I1 r1 q1) fun _ s2 q=>q
end
section
variable{X:Cx}{pos:Pos}
noncomputable def eY5(c:TT)(tb:TS):TS:=fun D σ H=>∃W:Nat→St→Hp→Prop,(∃m,W m σ H)∧∀m σ H,W m σ H→
 c σ H fun b H1=>if b=true then ∃N:St→Hp→Prop,(∀ σ' H',N σ' H'→∃m',m'<m∧W m' σ' H')∧tb {D with nx:=N,ct:=N,bk:=D.nx} σ H1 else D.nx σ H1
theorem dT0{c:Expr}{body:List Stmt}{tc:TT}{tb:TS}(hp:PassesOwn (model X.prog X.w) X.A X.env X.xe)(hc:PT X c tc)(hb:PSs X body tb):PS X (.While c body [] pos) (eY5 tc tb):=by
 intro pins s σ H D I h
 obtain⟨W,⟨m0,w0⟩,turn⟩:=h
 refine wpAny_While (codeAny_whileLoop (fun n s'=>∃ σ' H',Inv X pins σ' H' s'∧W n σ' H') ?_ m0 ⟨σ,H,I,w0⟩)
 rintro n s1 ⟨σ1,H1,I1,w1⟩
 refine wpAny_passesOwn hp (thn (hc pins s1 σ1 H1 _ I1 (turn n σ1 H1 w1)) fun b s2 hE1=>hE1.elim fun H2 I2 q2=>?_)
 cases b with
 |true=>
   obtain⟨N,hN,q2⟩:=q2
   rw[if_pos rfl]
   refine wpAny_passesOwn hp (thn (hb pins s2 σ1 H2 _ I2 q2) fun f s3 q3=>?_)
   cases f with
   |next=>
     obtain⟨σ3,H3,I3,n3⟩:=q3
     obtain⟨m',hm,w3⟩:=hN σ3 H3 n3
     exact⟨m',hm,σ3,H3,I3,w3⟩
   |cont=>
     obtain⟨σ3,H3,I3,n3⟩:=q3
     obtain⟨m',hm,w3⟩:=hN σ3 H3 n3
     exact⟨m',hm,σ3,H3,I3,w3⟩
   |brk=>exact q3
   |ret v=>exact q3
 |false=>
   rw[if_neg Bool.false_ne_true]
   exact wpAny_execs_nil ⟨σ1,H2,I2,q2⟩
end
structure It where
 go:Nat→Hp→Prop
 yld:Nat→Hp→V→Hp→Prop
 stop:Nat→Hp→Prop
noncomputable def aS0(X:Cx)(pins:PNS)(H:Hp)(b:Addr):Prop:=
 H b=none∧b≠X.env.locals∧b∉X.fs∧(b∈X.ex∨X.s₀.heap.objs.size≤b)∧(∀x c,X.env.cells.lookup x=some c→c≠b)∧∀p∈X.pn++pins,p.1≠b
theorem Inv.fpOk{X:Cx}{pins:PNS}{σ:St}{H H':Hp}{s:Shared}{b:Addr}(I:Inv X pins σ H s)(hb:s.heap.objs.size≤b)(hn:H' b=none):aS0 X pins H' b:=by
 refine⟨hn,Nat.ne_of_gt (Nat.lt_of_lt_of_le I.lt hb),I.nofs hb,.inr (Nat.le_trans I.sz hb),fun x c e z=>?_,fun p hp z=>?_⟩
 · obtain⟨v,q⟩:=I.cell x c e
   exact absurd (Nat.lt_of_lt_of_le q.lt (by rw[z];exact hb)) (Nat.lt_irrefl _)
 ·exact absurd (Nat.lt_of_lt_of_le (Heap.lt_size (I.pin p hp).1) (by rw[z];exact hb)) (Nat.lt_irrefl _)
inductive TIt(X:Cx)(pins:PNS)(σ:St)(J:It)(fp:List Addr)(tn:Nat→Heap→Prop)(i:Nat)(H:Hp)(u:Value)(s2:Shared):Prop
 |mk (x:V) (H':Hp) (I:Inv X pins σ H' s2) (r:J6 x u) (y:J.yld i H x H') (st:tn (i+1) s2.heap) (fr:∀b∈fp,H' b=none)
structure bL6(P:Program)(w:World)(K:PySem.W.Frag)(tg:Expr)(J:It)(fp:List Addr)(it:Addr)(tn:Nat→Heap→Prop):Prop where
 mem:it∈fp
 obj:∀i h,tn i h→∀b∈fp,∃o,h.get? b=some o∧∀v,o.data≠ .cell v
 keep:∀i h h',tn i h→(∀b∈fp,∀o,h.get? b=some o→h'.get? b=some o)→tn i h'
 item:∀(X:Cx),X.prog=P→X.w=w→X.K=K→X.calm=true→∀(i:Nat) (pins:PNS) (s:Shared) (σ:St) (H:Hp) (E:VSP),Inv X pins σ H s→(∀b∈fp,aS0 X pins H b)→tn i s.heap→J.go i H→
  wpAny (model P w) X.A (pyNext (.ref it)) (fun r s1=>∃u,r=some u∧
   wpAny (model P w) X.A (letOwnedTupleGo tg (.ref it) u) (fun _ s2=>TIt X pins σ J fp tn i H u s2) E s1) E s
 done:∀(X:Cx),X.prog=P→X.w=w→X.K=K→X.calm=true→∀(i:Nat) (pins:PNS) (s:Shared) (σ:St) (H:Hp) (E:VSP),Inv X pins σ H s→(∀b∈fp,aS0 X pins H b)→tn i s.heap→J.stop i H→
  wpAny (model P w) X.A (pyNext (.ref it)) (fun r s1=>r=none∧Inv X pins σ H s1) E s
 self:∀(A:Around) (i:Nat) (s:Shared) (Q:VSP) (E:VSP),tn i s.heap→Q (.ref it) s→wpAny (model P w) A (pyIter (.ref it)) Q E s
noncomputable abbrev TI:=St→Hp→(It→Hp→Prop)→Prop
inductive PIE(X:Cx)(pins:PNS)(σ:St)(tg:Expr)(R:It→Hp→Prop)(itv:Value)(s2:Shared):Prop
 |mk (it:Addr) (fp:List Addr) (tn:Nat→Heap→Prop) (J:It) (H':Hp) (e:itv= .ref it) (I:Inv X pins σ H' s2) (T:bL6 X.prog X.w X.K tg J fp it tn) (st:tn 0 s2.heap) (f:∀b∈fp,aS0 X pins H' b) (r:R J H')
noncomputable def PI(X:Cx)(tg iter:Expr)(wi:TI):Prop:=
 ∀(pins:PNS) (s:Shared) (σ:St) (H:Hp) (R:It→Hp→Prop),Inv X pins σ H s→wi σ H R→
  wpAny (model X.prog X.w) X.A (eval iter X.env) (fun v s1=>wpAny (model X.prog X.w) X.A (pyIter v) (PIE X pins σ tg R) X.xe s1) X.xe s
theorem bX8{M:Model}{A:Around}{E:VSP}{s:Shared}{tg:Expr}{it:Addr}{u:Value}{o:Obj}{n:String}{vs:Array Value}{Q:Unit→Shared→Prop}(ho:s.heap.get? it=some o)(hc:o.cls= .type n)(hd:o.data= .fields vs)
 (hn: ["enumerate", "zip", "dict_itemiterator", "dict_reverseitemiterator", "odict_iterator", "itertools.zip_longest", "itertools.pairwise"].contains n=false) (hQ:Q () s):wpAny M A (letOwnedTupleGo tg (.ref it) u) Q E s:=by
 unfold letOwnedTupleGo
 cases tg<;>first
  |exact wpAny_pure hQ
  | (cases u <;> first
      |exact wpAny_pure hQ
      | (refine wpAny_bind (wpAny_load ho ?_)
         rw[hc,hd]
         show wpAny M A (if (["enumerate", "zip", "dict_itemiterator", "dict_reverseitemiterator", "odict_iterator", "itertools.zip_longest", "itertools.pairwise"].contains n&&vs[0]? == some (rawInt _))=true then _ else _) Q E s
         rw[if_neg (by intro h;rw[hn,Bool.false_and]at h;cases h)]
         exact wpAny_pure hQ))
def Itl(K:PySem.W.Frag)(a:Addr):It:=
 ⟨fun i H=>∃xs x,SqL K H a xs∧xs[i]? =some x,fun i H x H'=>H'=H∧∀xs,SqL K H a xs→xs[i]? =some x,fun i H=>∃xs,SqL K H a xs∧xs.length≤i⟩
def Itt(K:PySem.W.Frag)(a:Addr):It:=
 ⟨fun i H=>∃xs x,SqT K H a xs∧xs[i]? =some x,fun i H x H'=>H'=H∧∀xs,SqT K H a xs→xs[i]? =some x,fun i H=>∃xs,SqT K H a xs∧xs.length≤i⟩
noncomputable def Itr(lo:Int)(n:Nat):It:=⟨fun i _=>i<n,fun i H x H'=>H'=H∧x= .int (lo+i),fun i _=>n≤i⟩
theorem dI4{P:Program}{w:World}{K:PySem.W.Frag}{tg:Expr}(a it:Addr):bL6 P w K tg (Itl K a) [it] it (fun i h=>h.IsListIter it a i) where
 mem:=by simp
 obj:=fun i h st b hb=>by
  have e:b=it:=by simpa using hb
  subst e
  obtain⟨o,e,c,d⟩:=st
  exact⟨o,e,fun v z=>by rw[d]at z;cases z⟩
 keep:=fun i h h' st k=>st.at fun o e=>k it (by simp) o e
 item:=by
  intro X hP hw hK hc i pins s σ H E I hf st hg
  subst hP hw hK
  obtain⟨xs,x,hq,hx⟩:=hg
  obtain⟨its,rv,p,hz⟩:=I.list hq
  obtain⟨u,hu,ru⟩:=rv.get hx
  obtain⟨f0,f1,f2,f3,f4,f5⟩:=hf it (by simp)
  refine wpAny_pyNext_list_item st p.isList (x:=u) (by simpa using hu) fun h' st' sb=>?_
  have I1:Inv X pins σ H {s with heap:=h'}:=I.turned (t':=s.toks) (fun b o hb e=>(sb.2 b hb).trans e) f0 f1 f3 f4 f5
  obtain⟨o,e,c,d⟩:=id st'
  exact⟨u,rfl,bX8 (s:={s with heap:=h'}) e c d (by decide) ⟨x,H,I1,ru,⟨rfl,fun ys hy=>by rw[I.list_inj hy hq];exact hx⟩,st',fun b hb=>(hf b hb).1⟩⟩
 done:=by
  intro X hP hw hK hc i pins s σ H E I hf st hg
  subst hP hw hK
  obtain⟨xs,hq,hx⟩:=hg
  obtain⟨its,rv,p,hz⟩:=I.list hq
  obtain⟨f0,f1,f2,f3,f4,f5⟩:=hf it (by simp)
  have hl:=rv.length
  exact wpAny_pyNext_list_end (I.ok.hd hc) st p.isList (by simp;lia) fun h' eb=>⟨rfl,I.turned (t':=s.toks) (fun b o hb e=>eb b o hb e) f0 f1 f3 f4 f5⟩
 self:=fun _ _ _ _ _ st h=>wpAny_pyIter_listiter st h
theorem cS8{P:Program}{w:World}{K:PySem.W.Frag}{tg:Expr}(a it:Addr):bL6 P w K tg (Itt K a) [it] it (fun i h=>h.IsTupleIter it a i) where
 mem:=by simp
 obj:=fun i h st b hb=>by
  have e:b=it:=by simpa using hb
  subst e
  obtain⟨o,e,c,d⟩:=st
  exact⟨o,e,fun v z=>by rw[d]at z;cases z⟩
 keep:=fun i h h' st k=>st.at fun o e=>k it (by simp) o e
 item:=by
  intro X hP hw hK hc i pins s σ H E I hf st hg
  subst hP hw hK
  obtain⟨xs,x,hq,hx⟩:=hg
  obtain⟨its,rv,p,hz⟩:=I.tuple hq
  obtain⟨u,hu,ru⟩:=rv.get hx
  obtain⟨f0,f1,f2,f3,f4,f5⟩:=hf it (by simp)
  refine wpAny_pyNext_tuple_item st (show s.heap.IsTuple a its.toArray from p) (x:=u) (by simpa using hu) fun h' st' sb=>?_
  have I1:Inv X pins σ H {s with heap:=h'}:=I.turned (t':=s.toks) (fun b o hb e=>(sb.2 b hb).trans e) f0 f1 f3 f4 f5
  obtain⟨o,e,c,d⟩:=id st'
  exact⟨u,rfl,bX8 (s:={s with heap:=h'}) e c d (by decide) ⟨x,H,I1,ru,⟨rfl,fun ys hy=>by rw[I.tuple_inj hy hq];exact hx⟩,st',fun b hb=>(hf b hb).1⟩⟩
 done:=by
  intro X hP hw hK hc i pins s σ H E I hf st hg
  subst hP hw hK
  obtain⟨xs,hq,hx⟩:=hg
  obtain⟨its,rv,p,hz⟩:=I.tuple hq
  obtain⟨f0,f1,f2,f3,f4,f5⟩:=hf it (by simp)
  have hl:=rv.length
  exact wpAny_pyNext_tuple_end (I.ok.hd hc) st (show s.heap.IsTuple a its.toArray from p) (by simp;lia) fun h' eb=>⟨rfl,I.turned (t':=s.toks) (fun b o hb e=>eb b o hb e) f0 f1 f3 f4 f5⟩
 self:=fun _ _ _ _ _ st h=>wpAny_pyIter_tupleiter st h
theorem cT2{P:Program}{w:World}{K:PySem.W.Frag}{tg:Expr}(it:Addr)(lo:Int)(n:Nat):bL6 P w K tg (Itr lo n) [it] it (fun i h=>IsRangeIter h it (lo+(i:Nat)*1) ((n:Int)-(i:Nat)) 1) where
 mem:=by simp
 obj:=fun i h st b hb=>by
  have e:b=it:=by simpa using hb
  subst e
  exact⟨_,st,fun v z=>by
   have z':Data.fields _=Data.cell v:=z
   cases z'⟩
 keep:=fun i h h' st k=>k it (by simp) _ st
 item:=by
  intro X hP hw hK hc i pins s σ H E I hf st hg
  subst hP hw hK
  obtain⟨f0,f1,f2,f3,f4,f5⟩:=hf it (by simp)
  have W:=Walks.range (prog:=X.prog) (w:=X.w) (I.ok.hd hc) it lo 1 n
  refine W.item i s _ _ hg st fun v h' tk hv st' kk=>?_
  obtain⟨t,rfl⟩:=hv
  have I1:Inv X pins σ H {s with heap:=h',toks:=tk}:=I.turned (fun b o hb e=>kk b o (by simpa using hb) e) f0 f1 f3 f4 f5
  refine⟨_,rfl,bX8 (s:={s with heap:=h',toks:=tk}) (n:= "range_iterator") st' rfl rfl (by decide) ⟨.int (lo+i),H,I1,⟨t,?_⟩,⟨rfl,rfl⟩,st',fun b hb=>(hf b hb).1⟩⟩
  rw[Int.mul_one]
 done:=by
  intro X hP hw hK hc i pins s σ H E I hf st hg
  subst hP hw hK
  obtain⟨f0,f1,f2,f3,f4,f5⟩:=hf it (by simp)
  exact wpAny_pyNext_range_end (I.ok.hd hc) st (by have:n≤i:=hg;lia) fun h' eb=>⟨rfl,I.turned (t':=s.toks) (fun b o hb e=>eb b o hb e) f0 f1 f3 f4 f5⟩
 self:=fun _ _ _ _ _ st h=>wpAny_pyIter_rangeiter st h
section
variable{X:Cx}{tg:Expr}
theorem dO9{pins:PNS}{σ:St}{H:Hp}{s:Shared}{R:It→Hp→Prop}{E:VSP}{lo hi:Int}{t u v:Tok}{tk:Nat}(I:Inv X pins σ H s)(h1: -(2 ^ 62)≤lo)(h2:lo<2 ^ 62)(h3: -(2 ^ 62)≤hi)(h4:hi<2 ^ 62)
 (q:R (Itr lo (hi-lo).toNat) H):wpAny (model X.prog X.w) X.A (pyIter (.ref s.heap.objs.size)) (PIE X pins σ tg R) E {s with heap:=s.heap.push {cls:=.type "range",data:=.fields #[.int lo t,.int hi u,.int 1 v]},toks:=tk}:=by
 refine wpAny_pyIter_range (IsRange.new ..) (small_one h1 h2 h3 h4) ?_
 have I1:Inv X pins σ H {s with heap:=s.heap.push {cls:=.type "range",data:=.fields #[.int lo t,.int hi u,.int 1 v]},toks:=tk}:=I.kept fun b o e=>Heap.get?_push_of_some _ e
 refine⟨(s.heap.push {cls:=.type "range",data:=.fields #[.int lo t,.int hi u,.int 1 v]}).objs.size, [(s.heap.push {cls:=.type "range",data:=.fields #[.int lo t,.int hi u,.int 1 v]}).objs.size],_,_,H,rfl,
  I1.kept (t':=tk) fun b o e=>Heap.get?_push_of_some _ e,cT2 _ lo (hi-lo).toNat,?_,fun b hb=>?_,q⟩
 · have e1:lo+((0:Nat):Int)*1=lo:=by simp
   have e2:(((hi-lo).toNat:Nat):Int)-((0:Nat):Int)=Builtin.Range.rangeSize lo hi 1:=by rw[rangeSize_one];split<;>lia
   show IsRangeIter _ _ (lo+((0:Nat):Int)*1) ((((hi-lo).toNat:Nat):Int)-((0:Nat):Int)) 1
   rw[e1,e2]
   exact Heap.get?_push_size _ rfl
 · have e:b= (s.heap.push {cls:=.type "range",data:=.fields #[.int lo t,.int hi u,.int 1 v]}).objs.size:=by simpa using hb
   subst e
   exact I1.fpOk (Nat.le_refl _) (I1.hok.fresh (Nat.le_refl _))
def fB8(ta:TA):TI:=fun σ H R=>ta σ H fun vs H1=>∃j:Int,vs= [.int j]∧ -(2 ^ 62)≤j∧j<2 ^ 62∧R (Itr 0 j.toNat) H1
theorem dI8{a:Expr}{ta:TA}{p pos:Pos}(hg:Gl X "range")(hm:X.mg "range" =none)(ha:PA X [a] ta)(hs:starEach [a] X.env= [(false,eval a X.env)]):PI X tg (.Call (.Name "range" p) [a] [] pos) (fB8 ta):=by
 intro pins s σ H R I h
 refine Call_ (aZ3 I hg hm boot_range (PyProof.Rows.callWith_type1 (thn (ha pos pins s σ H _ I h) fun us s1 hE1=>hE1.elim fun vs H1 I1 r1 q1=>?_) hs rfl))
 obtain⟨j,e,q1,q2,q⟩:=q1
 subst e
 cases r1 with
 |cons r rr=>
   cases rr
   obtain⟨t,rfl⟩:=r
   exact call_range_1 (dO9 I1 (by lia) (by lia) q1 q2 (by simpa using q))
noncomputable def fM6(wi:TI)(g:TG)(tb:TS):TS:=fun D σ H=>wi σ H fun J H1=>∃W:Nat→Nat→St→Hp→Prop,(∃m,W 0 m σ H1)∧∀i m σ H,W i m σ H→
 (J.stop i H∧D.nx σ H)∨(J.go i H∧∃N:St→Hp→Prop,(∀ σ' H',N σ' H'→∃m',m'<m∧W (i+1) m' σ' H')∧∀x H',J.yld i H x H'→g x σ H' fun σ2 H2=>tb {D with nx:=N,ct:=N,bk:=D.nx} σ2 H2)
noncomputable def bT6(fp:List Addr)(h:Heap):PNS:=fp.filterMap fun b=>(h.get? b).map fun o=>(b,o)
theorem aI7{fp:List Addr}{h:Heap}{b:Addr}{o:Obj}(hb:b∈fp)(e:h.get? b=some o):(b,o)∈bT6 fp h:=List.mem_filterMap.mpr ⟨b,hb,by rw[e];rfl⟩
theorem dG7{fp:List Addr}{h:Heap}{p:Addr×Obj}(hp:p∈bT6 fp h):p.1∈fp∧h.get? p.1=some p.2:=by
 obtain⟨b,hb,e⟩:=List.mem_filterMap.mp hp
 cases q:h.get? b with
 |none=>rw[q]at e;cases e
 |some o=>
   rw[q]at e
   have e':(b,o)=p:=Option.some.inj e
   subst e'
   exact⟨hb,q⟩
theorem Inv.pinned{pins:PNS}{σ:St}{H:Hp}{s:Shared}{fp:List Addr}(I:Inv X pins σ H s)(hf:∀b∈fp,aS0 X pins H b)(ho:∀b∈fp,∃o,s.heap.get? b=some o∧∀v,o.data≠ .cell v):Inv X (pins++bT6 fp s.heap) σ H s:=
 I.pins_of fun p hp=>(List.mem_append.mp hp).elim (fun z=>I.pin p (List.mem_append_right _ z)) fun z=>by
  obtain⟨hb,e⟩:=dG7 z
  obtain⟨f0,f1,f2,_⟩:=hf p.1 hb
  obtain⟨o,e',d⟩:=ho p.1 hb
  rw[e]at e';cases e'
  exact⟨e,f0,f1,f2,d⟩
theorem Inv.unpinned{pins pl:PNS}{σ:St}{H:Hp}{s:Shared}(I:Inv X (pins++pl) σ H s):Inv X pins σ H s:=I.pins_of fun p hp=>I.pin p (List.mem_append_right _ (List.mem_append_left _ hp))
inductive eW2(X:Cx)(pins:PNS)(fp:List Addr)(tn:Nat→Heap→Prop)(W:Nat→Nat→St→Hp→Prop)(n:Nat)(s':Shared):Prop
 |mk (i:Nat) (σ':St) (H':Hp) (I:Inv X pins σ' H' s') (st:tn i s'.heap) (fr:∀b∈fp,H' b=none) (w:W i n σ' H')
theorem eG2{body:List Stmt}{g:TG}{tb:TS}{pins:PNS}{D:bP1}{it:Addr}{fp:List Addr}{tn:Nat→Heap→Prop}{J:It}{W:Nat→Nat→St→Hp→Prop}{EE:VSP}(hp:∀e s,X.xe e s→EE e s)(hc:X.calm=true)(hg:PG X tg g)(hb:PSs X body tb)
 (T:bL6 X.prog X.w X.K tg J fp it tn) (stat:∀ {H':Hp},(∀b∈fp,H' b=none)→∀b∈fp,aS0 X pins H' b)
 (turn:∀i m σ H,W i m σ H→
 (J.stop i H∧D.nx σ H)∨(J.go i H∧∃N:St→Hp→Prop,(∀ σ' H',N σ' H'→∃m',m'<m∧W (i+1) m' σ' H')∧∀x H',J.yld i H x H'→g x σ H' fun σ2 H2=>tb {D with nx:=N,ct:=N,bk:=D.nx} σ2 H2))
   {n:Nat} {s3:Shared} (h3:eW2 X pins fp tn W n s3) {NX:Shared→Prop} (nx:∀m s,m<n→eW2 X pins fp tn W m s→NX s):
   wpAny (model X.prog X.w) X.A (pyNext (.ref it)) (fun r s1=>match r with
    |none=>wpAny (model X.prog X.w) X.A (execs [] X.env) (fun f s2=>SP X pins D f s2) EE s1
    | some v => wpAny (model X.prog X.w) X.A (letOwnedTupleGo tg (.ref it) v) (fun _ s2 => wpAny (model X.prog X.w) X.A (assign tg X.env v) (fun _ s4 => wpAny (model X.prog X.w) X.A (execs body X.env) (fun f s5 => match f with
       | .next| .cont=>NX s5
       | .brk=>SP X pins D .next s5
       | .ret v=>SP X pins D (.ret v) s5) EE s4) EE s2) EE s1) EE s3:=by
 obtain⟨i,σ3,H3,I3,st3,fr3,w3⟩:=h3
 rcases turn i n σ3 H3 w3 with⟨stop,qn⟩|⟨go,N,hN,step⟩
 · refine wpAny_mono (T.done X rfl rfl rfl hc i pins s3 σ3 H3 X.xe I3 (stat fr3) st3 stop) (fun r s4 z1=>?_) hp
   obtain⟨hr,I4⟩:=z1
   subst hr
   exact wpAny_execs_nil ⟨σ3,H3,I4,qn⟩
 · refine wpAny_mono (T.item X rfl rfl rfl hc i pins s3 σ3 H3 X.xe I3 (stat fr3) st3 go) (fun r s4 z2=>?_) hp
   obtain⟨u,hr,h4⟩:=z2
   subst hr
   refine wpAny_mono h4 (fun _ s5 z3=>?_) hp
   obtain⟨x,H5,I5,r5,y5,st5,fr5⟩:=z3
   have I5':=I5.pinned (stat fr5) (T.obj _ _ st5)
   refine wpAny_mono (hg _ s5 σ3 H5 x u _ I5' r5 (step x H5 y5)) (fun _ s6 z4=>?_) hp
   obtain⟨σ6,H6,I6,q6⟩:=z4
   refine wpAny_mono (hb _ s6 σ6 H6 _ I6 q6) (fun f s7 q7=>?_) hp
   have again:∀ {σ7:St} {H7:Hp},Inv X (pins++bT6 fp s5.heap) σ7 H7 s7→N σ7 H7→NX s7:=fun {σ7 H7} I7 n7=>by
    obtain⟨m',hm,w7⟩:=hN σ7 H7 n7
    refine nx m' _ hm ⟨i+1,σ7,H7,I7.unpinned,T.keep _ _ _ st5 fun b hb o e=>(I7.pin (b,o) (List.mem_append_right _ (List.mem_append_right _ (aI7 hb e)))).1,fun b hb=>?_,w7⟩
    obtain⟨o,e,d⟩:=T.obj _ _ st5 b hb
    exact(I7.pin (b,o) (List.mem_append_right _ (List.mem_append_right _ (aI7 hb e)))).2.1
   cases f with
   |next=>obtain⟨σ7,H7,I7,n7⟩:=q7;exact again I7 n7
   |cont=>obtain⟨σ7,H7,I7,n7⟩:=q7;exact again I7 n7
   |brk=>obtain⟨σ7,H7,I7,q7⟩:=q7;exact⟨σ7,H7,I7.unpinned,q7⟩
   |ret v=>obtain⟨x7,σ7,H7,I7,r7,q7⟩:=q7;exact⟨x7,σ7,H7,I7.unpinned,r7,q7⟩
theorem eN0{iter:Expr}{body:List Stmt}{wi:TI}{g:TG}{tb:TS}{pos:Pos}(hp:PassesOwn (model X.prog X.w) X.A X.env X.xe)(hc:X.calm=true)(hi:PI X tg iter wi)(hg:PG X tg g)(hb:PSs X body tb)
 (hs:∀x,foldedSetIterable iter X.env x=pure x):PS X (.For tg iter body [] pos) (fM6 wi g tb):=by
 intro pins s σ H D I h
 refine wpAny_For (thn (hi pins s σ H _ I h) fun v s1 h1=>thn h1 fun itv s2 h2=>?_) hs
 obtain⟨it,fp,tn,J,H2,e,I2,T,st2,f2,W,⟨m0,w0⟩,turn⟩:=h2
 subst e
 -- what stays true of the iterator's objects through the loop
 have stat:∀ {H':Hp},(∀b∈fp,H' b=none)→∀b∈fp,aS0 X pins H' b:=fun hn b hb=>⟨hn b hb,(f2 b hb).2⟩
 exact codeAny_forLoop_any (eW2 X pins fp tn W) (fun n s3 h3=>eG2 hp hc hg hb T stat turn h3 fun m s h1 h2=>⟨m,h1,h2⟩) m0 ⟨0,σ,H2,I2,st2,fun b hb=>(f2 b hb).1,w0⟩
end
noncomputable abbrev R2:=V→V→Hp→VK→Prop
def OpR(X:Cx)(f:Value→Value→Sem Value)(r:R2):Prop:=
 ∀(pins:PNS) (s:Shared) (σ:St) (H:Hp) (x y:V) (v u:Value) (Q:VK),Inv X pins σ H s→J6 x v→J6 y u→r x y H Q→
  wpAny (model X.prog X.w) X.A (f v u) (EP X pins σ Q) X.xe s
def UnR(X:Cx)(f:Value→Sem Value)(r:V→Hp→VK→Prop):Prop:=
 ∀(pins:PNS) (s:Shared) (σ:St) (H:Hp) (x:V) (v:Value) (Q:VK),Inv X pins σ H s→J6 x v→r x H Q→
  wpAny (model X.prog X.w) X.A (f v) (EP X pins σ Q) X.xe s
def aB9(X:Cx)(f:Value)(r:List V→Hp→VK→Prop):Prop:=
 ∀(pins:PNS) (s:Shared) (σ:St) (H:Hp) (xs:List V) (us:List Value) (Q:VK),Inv X pins σ H s→w6 xs us→r xs H Q→
  wpAny (model X.prog X.w) X.A (call f us) (EP X pins σ Q) X.xe s
def fL7(X:Cx)(r:V→Hp→(Bool→Hp→Prop)→Prop):Prop:=
 ∀(pins:PNS) (s:Shared) (σ:St) (H:Hp) (x:V) (v:Value) (Q:Bool→Hp→Prop),Inv X pins σ H s→J6 x v→r x H Q→
  wpAny (model X.prog X.w) X.A (truthy v) (TP X pins σ Q) X.xe s
noncomputable def tOp(r:R2)(ta tb:TE):TE:=fun σ H Q=>ta σ H fun x H1=>tb σ H1 fun y H2=>r x y H2 Q
noncomputable def tUn(r:V→Hp→VK→Prop)(ta:TE):TE:=fun σ H Q=>ta σ H fun x H1=>r x H1 Q
noncomputable def rI(C:Int→Int→Prop)(g:Int→Int→V):R2:=fun x y H Q=>∃i j,x= .int i∧y= .int j∧C i j∧Q (g i j) H
noncomputable def rI0(g:Int→Int→V):R2:=fun x y H Q=>∃i j,x= .int i∧y= .int j∧Q (g i j) H
noncomputable def rU(g:Int→V):V→Hp→VK→Prop:=fun x H Q=>∃i,x= .int i∧Q (g i) H
section
variable{X:Cx}{a b c:Expr}{ta tb tc:TE}{pos:Pos}
theorem eW4(ha:PE X a ta)(hb:PE X b tb){pins:PNS}{s:Shared}{σ:St}{H:Hp}{R:V→V→Hp→Prop}(I:Inv X pins σ H s)
 (h:ta σ H fun x H1=>tb σ H1 fun y H2=>R x y H2) {Q:VSP} {f:Value→Value→Sem Value}
 (hf:∀v u s2 x y H2,Inv X pins σ H2 s2→J6 x v→J6 y u→R x y H2→wpAny (model X.prog X.w) X.A (f v u) Q X.xe s2):
 wpAny (model X.prog X.w) X.A (eval a X.env) (fun v s₁=>wpAny (model X.prog X.w) X.A (eval b X.env) (fun u s₂=>wpAny (model X.prog X.w) X.A (f v u) Q X.xe s₂) X.xe s₁) X.xe s:=by
 refine thn (ha pins s σ H _ I h) fun v s1 hE1=>hE1.elim fun x H1 I1 r1 q1=>?_
 refine thn (hb pins s1 σ H1 _ I1 q1) fun u s2 hE1=>hE1.elim fun y H2 I2 r2 q2=>?_
 exact hf v u s2 x y H2 I2 r1 r2 q2
theorem dS2{op:Operator}{r:R2}(ho:OpR X (binaryOp op) r)(ha:PE X a ta)(hb:PE X b tb):PE X (.BinOp a op b pos) (tOp r ta tb):=by
 intro pins s σ H Q I h
 exact wpAny_BinOp (eW4 ha hb I h fun v u s2 x y H2 I2 rx ry q=>ho pins s2 σ H2 x y v u Q I2 rx ry q)
theorem eL5{op:UnaryOp}{r:V→Hp→VK→Prop}(ho:UnR X (unaryOp op) r)(ha:PE X a ta):PE X (.UnaryOp op a pos) (tUn r ta):=by
 intro pins s σ H Q I h
 exact UnaryOp_ (thn (ha pins s σ H _ I h) fun v s1 hE1=>hE1.elim fun x H1 I1 r1 q1=>ho pins s1 σ H1 x v Q I1 r1 q1)
theorem opI{f:Value→Value→Sem Value}{C:Int→Int→Prop}{g:Int→Int→Int}
 (rule:∀(i j:Int) (t u:Tok) (s:Shared) (Q:VSP) (E:VSP),C i j→Q (.int (g i j) s.toks) {s with toks:=s.toks+1}→wpAny (model X.prog X.w) X.A (f (.int i t) (.int j u)) Q E s):
 OpR X f (rI C fun i j=>.int (g i j)):=by
 intro pins s σ H x y v u Q I rx ry h
 obtain⟨i,j,rfl,rfl,hc,q⟩:=h
 obtain⟨t,rfl⟩:=rx
 obtain⟨t',rfl⟩:=ry
 exact rule i j t t' s _ _ hc ⟨.int (g i j),H,I.tok _,⟨_,rfl⟩,q⟩
theorem fB3{f:Value→Value→Sem Value}{g:Int→Int→Int}
 (rule:∀(i j:Int) (t u:Tok) (s:Shared) (Q:VSP) (E:VSP),Q (.int (g i j) s.toks) {s with toks:=s.toks+1}→wpAny (model X.prog X.w) X.A (f (.int i t) (.int j u)) Q E s):
 OpR X f (rI0 fun i j=>.int (g i j)):=by
 intro pins s σ H x y v u Q I rx ry h
 obtain⟨i,j,rfl,rfl,q⟩:=h
 obtain⟨t,rfl⟩:=rx
 obtain⟨t',rfl⟩:=ry
 exact rule i j t t' s _ _ ⟨.int (g i j),H,I.tok _,⟨_,rfl⟩,q⟩
theorem fE7{f:Value→Value→Sem Value}{g:Int→Int→Bool}
 (rule:∀(i j:Int) (t u:Tok) (s:Shared) (Q:VSP) (E:VSP),Q (.bool (g i j)) s→wpAny (model X.prog X.w) X.A (f (.int i t) (.int j u)) Q E s):
 OpR X f (rI0 fun i j=>.bl (g i j)):=by
 intro pins s σ H x y v u Q I rx ry h
 obtain⟨i,j,rfl,rfl,q⟩:=h
 obtain⟨t,rfl⟩:=rx
 obtain⟨t',rfl⟩:=ry
 exact rule i j t t' s _ _ ⟨.bl (g i j),H,I,rfl,q⟩
noncomputable def dG0(i j:Int):Prop:=0≤j∧j≤1000000∧i.natAbs<2 ^ 64
noncomputable def bW2(i j:Int):Prop:=(-(2 ^ 64)<i∧i<2 ^ 64)∨(-(2 ^ 64)<j∧j<2 ^ 64)
theorem bW2.ok{i j:Int}(h:bW2 i j):IntMulOk i j:=by
 rcases h with⟨h1,h2⟩|⟨h1,h2⟩
 ·exact .of_left (intBits_le_64 h1 h2)
 ·exact .of_right (intBits_le_64 h1 h2)
theorem eT4:OpR X (binaryOp .Add) (rI0 fun i j=>.int (i+j)):=fB3 fun _ _ _ _ _ _ _ q=>add_int q
theorem dV5:OpR X (binaryOp .Sub) (rI0 fun i j=>.int (i-j)):=fB3 fun _ _ _ _ _ _ _ q=>sub_int q
theorem eT3:OpR X (binaryOp .Mult) (rI bW2 fun i j=>.int (i*j)):=opI fun _ _ _ _ _ _ _ hc q=>mul_int q hc.ok
theorem eM0:OpR X (binaryOp .Mod) (rI (fun _ j=>0<j) fun i j=>.int (i % j)):=opI fun i j _ _ _ _ _ hc q=>by
 have h1:(0:Int)<j:=hc
 exact mod_int' (by lia) (by rw[Int.fmod_eq_emod_of_nonneg i (by lia)];exact q)
theorem dN7:OpR X (binaryOp .Pow) (rI dG0 fun i j=>.int (i ^ j.toNat)):=opI fun _ _ _ _ _ _ _ hc q=>pow_int_small hc.1 hc.2.1 hc.2.2 q
theorem unI{f:Value→Sem Value}{g:Int→Int}
 (rule:∀(i:Int) (t:Tok) (s:Shared) (Q:VSP) (E:VSP),Q (.int (g i) s.toks) {s with toks:=s.toks+1}→wpAny (model X.prog X.w) X.A (f (.int i t)) Q E s):
 UnR X f (rU fun i=>.int (g i)):=by
 intro pins s σ H x v Q I rx h
 obtain⟨i,rfl,q⟩:=h
 obtain⟨t,rfl⟩:=rx
 exact rule i t s _ _ ⟨.int (g i),H,I.tok _,⟨_,rfl⟩,q⟩
theorem dP9:UnR X (unaryOp .USub) (rU fun i=>.int (-i)):=unI fun _ _ _ _ _ q=>neg_int q
end
section
variable{X:Cx}{a b c:Expr}{ta tb tc:TE}{pos:Pos}
theorem cW1{pins:PNS}{σ:St}{H:Hp}{s:Shared}{Q:VK}{k k':Bool}(I:Inv X pins σ H s)(q:Q (.bl k) H)(e:k=k'):EP X pins σ Q (.bool k') s:=by
 subst e
 exact⟨.bl k,H,I,rfl,q⟩
theorem fC0:OpR X (compareOp .LtE) (rI0 fun i j=>.bl (decide (i≤j))):=fE7 fun _ _ _ _ _ _ _ q=>le_int q
theorem fG6:OpR X (compareOp .Gt) (rI0 fun i j=>.bl (decide (j<i))):=fE7 fun _ _ _ _ _ _ _ q=>gt_int q
theorem dD0:OpR X (compareOp .In) (fun x y H Q=>∃i j,x= .str i∧y= .str j∧Q (.bl (!(Builtin.Str.occurrences j i 0 j.length 1).isEmpty)) H):=by
 intro pins s σ H x y v u Q I rx ry h
 obtain⟨i,j,rfl,rfl,q⟩:=h
 obtain⟨t,rfl⟩:=rx
 obtain⟨t',rfl⟩:=ry
 exact in_str (cW1 I q rfl)
theorem eP1:OpR X (compareOp .Is) (fun x y H Q=>y= .non∧Q (.bl (decide (x= .non))) H):=by
 intro pins s σ H x y v u Q I rx ry h
 obtain⟨rfl,q⟩:=h
 cases ry
 refine is_none_gen (cW1 I q ?_)
 cases x<;>first
  |(cases rx;rfl)
  |(obtain⟨t,rfl⟩:=rx;rfl)
theorem eB1:OpR X (compareOp .IsNot) (fun x y H Q=>y= .non∧Q (.bl (!decide (x= .non))) H):=by
 intro pins s σ H x y v u Q I rx ry h
 obtain⟨rfl,q⟩:=h
 cases ry
 refine isnot_none_gen (cW1 I q ?_)
 cases x<;>first
  |(cases rx;rfl)
  |(obtain⟨t,rfl⟩:=rx;rfl)
theorem OpR.or{f:Value→Value→Sem Value}{r r':R2}(h:OpR X f r)(h':OpR X f r'):OpR X f (fun x y H Q=>r x y H Q∨r' x y H Q):=by
 intro pins s σ H x y v u Q I rx ry q
 rcases q with q|q
 ·exact h pins s σ H x y v u Q I rx ry q
 ·exact h' pins s σ H x y v u Q I rx ry q
theorem eE3{op:CmpOp}{r:R2}(ho:OpR X (compareOp op) r)(ha:PE X a ta)(hb:PE X b tb)(hm:behindInMarks op b=false):PE X (.Compare a [op] [b] pos) (tOp r ta tb):=by
 intro pins s σ H Q I h
 exact wpAny_Compare1 (eW4 ha hb I h fun v u s2 x y H2 I2 rx ry q=>ho pins s2 σ H2 x y v u Q I2 rx ry q) hm
noncomputable def fI9(t:TE):TT:=fun σ H Q=>t σ H fun x H'=>∃k,x= .bl k∧Q k H'
theorem eA9{op:CmpOp}{r:R2}(ho:OpR X (compareOp op) r)(ha:PE X a ta)(hb:PE X b tb)(hm:behindInMarks op b=false):PT X (.Compare a [op] [b] pos) (fI9 (tOp r ta tb)):=by
 intro pins s σ H Q I h
 refine wpAny_isTrue_Compare1 (thn (ha pins s σ H _ I h) fun v s1 hE1=>hE1.elim fun x H1 I1 r1 q1=>thn (hb pins s1 σ H1 _ I1 q1) fun u s2 hE1=>hE1.elim fun y H2 I2 r2 q2=>
  thn (ho pins s2 σ H2 x y v u _ I2 r1 r2 q2) fun c s3 ⟨z,H3,I3,r3,k,e,q3⟩=>?_) hm
 subst e
 cases r3
 exact wpAny_truthy_bool ⟨H3,I3,q3⟩
noncomputable def eY7(r r':R2)(ta tb tc:TE):TE:=fun σ H Q=>ta σ H fun x H1=>tb σ H1 fun y H2=>r x y H2 fun z H3=>∃k,z= .bl k∧
 (if k=true then tc σ H3 fun w' H4=>r' y w' H4 Q else Q (.bl false) H3)
theorem dM0{op op':CmpOp}{r r':R2}(ho:OpR X (compareOp op) r)(ho':OpR X (compareOp op') r')(ha:PE X a ta)(hb:PE X b tb)(hc:PE X c tc)
 (hm:lastMarks [op,op'] [b,c]=false):PE X (.Compare a [op,op'] [b,c] pos) (eY7 r r' ta tb tc):=by
 intro pins s σ H Q I h
 refine Compare_chain (thn (ha pins s σ H _ I h) fun v s1 hE1=>hE1.elim fun x H1 I1 r1 q1=>chain_link (thn (hb pins s1 σ H1 _ I1 q1) fun u s2 hE1=>hE1.elim fun y H2 I2 r2 q2=>
  thn (ho pins s2 σ H2 x y v u _ I2 r1 r2 q2) fun d s3 ⟨z,H3,I3,r3,k,e,q3⟩=>?_)) hm
 subst e
 cases r3
 refine wpAny_truthy_bool ?_
 cases k with
 |false=>exact ite_ff ⟨.bl false,H3,I3,rfl,q3⟩
 |true=>exact ite_tt (chain_last (thn (hc pins s3 σ H3 _ I3 q3) fun w' s4 ⟨z',H4,I4,r4,q4⟩=>ho' pins s4 σ H4 y z' u w' Q I4 r2 r4 q4))
def eR8(K:PySem.W.Frag)(x:V)(H:Hp)(k:Bool):Prop:=
 match x with
 | .non=>k=false
 | .bl b=>k=b
 | .int i=>k= (i != 0)
 | .str y=>y.length≤sizeLine∧k= ((y.length:Int) != 0)
 | .byt y=>y.size≤sizeLine∧k= ((y.size:Int) != 0)
 | .ref p=>(∃xs,SqL K H p xs∧k= !xs.isEmpty)∨(∃xs,SqT K H p xs∧k= !xs.isEmpty)∨∃kvs,H p=some (.dK kvs)∧k= !kvs.isEmpty
 |_=>False
theorem cR3{κ:Type}{kvs:List (κ×V)}{vs:List (κ×Value)}(r:KV kvs vs):(!vs.isEmpty)= !kvs.isEmpty:=by
 cases r<;>rfl
theorem bP0{xs:List V}{its:List Value}(r:w6 xs its):(!its.toArray.isEmpty)= !xs.isEmpty:=by
 cases r<;>simp
theorem bA6:(sizeLine:Nat)<2 ^ 63:=by rw[sizeLine_eq];decide
theorem cW9:fL7 X (fun x H Q=>∃k,eR8 X.K x H k∧Q k H):=by
 intro pins s σ H x v Q I rx h
 obtain⟨k,e,q⟩:=h
 have hl:=bA6
 have hs:sizeLine=16777216:=sizeLine_eq
 cases x with
 |non=>
   cases rx
   have e':k=false:=e
   subst e'
   exact truthy_none ⟨H,I,q⟩
 |bl b=>
   cases rx
   have e':k=b:=e
   subst e'
   exact wpAny_truthy_bool ⟨H,I,q⟩
 |int i=>
   obtain⟨t,rfl⟩:=rx
   have e':k= (i != 0):=e
   subst e'
   exact PySem.P.truthy_int ⟨H,I,q⟩
 |str y=>
   obtain⟨t,rfl⟩:=rx
   obtain⟨hy,e'⟩:y.length≤sizeLine∧k= ((y.length:Int) != 0):=e
   subst e'
   exact PySem.P.truthy_str (by lia) ⟨H,I.tok _,q⟩
 |byt y=>
   obtain⟨t,rfl⟩:=rx
   obtain⟨hy,e'⟩:y.size≤sizeLine∧k= ((y.size:Int) != 0):=e
   subst e'
   exact PySem.W.truthy_bytes (by lia) ⟨H,I.tok _,q⟩
 |ref p=>
   cases rx
   have e':(∃xs,SqL X.K H p xs∧k= !xs.isEmpty)∨(∃xs,SqT X.K H p xs∧k= !xs.isEmpty)∨∃kvs,H p=some (.dK kvs)∧k= !kvs.isEmpty:=e
   rcases e' with⟨xs,hx,e'⟩|⟨xs,hx,e'⟩|⟨kvs,hx,e'⟩
   · subst e'
     obtain⟨its,r,pl,hz⟩:=I.list hx
     have hlen:=r.length
     exact wpAny_truthy_list pl.isList (by simp only[List.size_toArray];lia) ⟨H,I.tok _,by rw[bP0 r];exact q⟩
   · subst e'
     obtain⟨its,r,pl,hz⟩:=I.tuple hx
     have hlen:=r.length
     exact truthy_tuple pl (by simp only[List.size_toArray];lia) ⟨H,I.tok _,by rw[bP0 r];exact q⟩
   · subst e'
     obtain⟨hz,hS,vs,r,m⟩:kvs.length≤sizeLine∧(p==sysModules)=false∧∃vs,KV kvs vs∧s.heap.DictOf (M3 X.prog X.w) p vs:=I.hok p _ hx
     have hlen:kvs.length=vs.length:=Paired.length r
     exact wpAny_truthy_dict hS m (by lia) ⟨H,I.tok _,by rw[cR3 r];exact q⟩
 |_=>exact(show False from e).elim
theorem dL2(ha:PE X a ta)(he:∀whole,isTrue a X.env whole= (do let v ←whole;standAt a.pos;holding [v] (truthy v))):
 PT X a (fun σ H Q=>ta σ H fun x H'=>∃k,eR8 X.K x H' k∧Q k H'):=by
 intro pins s σ H Q I h
 exact isTrue_plain (thn (ha pins s σ H _ I h) fun v s1 hE1=>hE1.elim fun x H1 I1 r1 q1=>cW9 pins s1 σ H1 x v Q I1 r1 q1) (he _)
theorem cW6:OpR X (binaryOp .Add) (fun x y H Q=>∃i j,x= .str i∧y= .str j∧i.length+j.length≤sizeLine∧Q (.str (i++j)) H):=by
 intro pins s σ H x y v u Q I rx ry h
 obtain⟨i,j,rfl,rfl,hz,q⟩:=h
 obtain⟨t,rfl⟩:=rx
 obtain⟨t',rfl⟩:=ry
 exact add_str (fun t' tk=>⟨.str (i++j),H,I.tok _,⟨_,rfl⟩,q⟩) hz
theorem aE7{x:V}{us:List Value}(r:w6 [x] us):∃u,us= [u]∧J6 x u:=by
 cases r with
 |cons r1 r2=>cases r2;exact⟨_,rfl,r1⟩
theorem dN6{x y:V}{us:List Value}(r:w6 [x,y] us):∃u w',us= [u,w']∧J6 x u∧J6 y w':=by
 cases r with
 |cons r1 r2=>
   cases r2 with
   |cons r3 r4=>cases r4;exact⟨_,_,rfl,r1,r3⟩
theorem dE7:aB9 X (.type "int") (fun xs H Q=>(∃i,xs= [.int i]∧Q (.int i) H)∨∃k,xs= [.bl k]∧Q (.int (if k then 1 else 0)) H):=by
 intro pins s σ H xs us Q I r h
 rcases h with⟨i,rfl,q⟩|⟨k,rfl,q⟩
 · obtain⟨u,rfl,t,rfl⟩:=aE7 r
   exact call_int_int ⟨.int i,H,I,⟨_,rfl⟩,q⟩
 · obtain⟨u,rfl,r1⟩:=aE7 r
   cases r1
   exact call_int_bool ⟨.int (if k then 1 else 0),H,I.tok _,⟨_,rfl⟩,q⟩
end
structure ObjM(h:Heap)(x dx C:Addr)(mA:Str→Option Value):Prop where
 obj:h.get? x=some (PySem.W.instObj C dx)
 ns:h.Ns1 dx mA
 ne:dx≠x
section
variable{prog:Program}{w:World}{A:Around}{E:VSP}{s:Shared}{K:PySem.W.Frag}{x dx C f:Addr}{mA:Str→Option Value}{name:Str}{v:Value}
end
theorem bV1.some_of{v:V}{o:Option Value}(r:bV1 (some v) o):∃u,o=some u∧J6 v u:=by
 cases o with
 |none=>exact(show False from r).elim
 |some u=>exact⟨u,rfl,r⟩
section
variable{P:Program}{w:World}{H H':Hp}{h h':Heap}{a C dx:Addr}{fs fs':List (Str×V)}
end
structure Cls(K:PySem.W.Frag)(C:Addr):Prop where
 pg:PySem.W.plainGet K C Str.empty=true
 hd:PySem.W.hasDictIn K C=true
 po:PySem.W.plainOver K C=true
 sa:PySem.W.findIn K (.ref C) "__setattr__" =some (some (.builtin "object.__setattr__"))
theorem Cls.get{K:PySem.W.Frag}{C:Addr}(c:Cls K C)(f:Str):PySem.W.plainGet K C f=true:=c.pg
structure Con(K:PySem.W.Frag)(C:Addr)(f:Str)(v:V)(u:Value):Prop where
 at_:PySem.W.findIn K (.ref C) f=some (some u)
 rel:J6 v u
 get:PySem.W.specialIn K u "__get__" =some none
 cp:PySem.W.copiedNames.contains f=false
structure Meth(K:PySem.W.Frag)(C:Addr)(m:Str)(f:Addr):Prop where
 at_:PySem.W.findIn K (.ref C) m=some (some (.ref f))
 fn:PySem.W.isFn K (.ref f)=true
 kp:PySem.W.keepIn K (.ref f)=true
section
variable{X:Cx}{pins:PNS}{σ:St}{H:Hp}{s:Shared}{a C dx:Addr}{fs:List (Str×V)}{f:Str}{v:V}{A:Around}{E:VSP}
end
section
variable{X:Cx}{o e value:Expr}{f:Str}{pos pos' tpos:Pos}{ta tv:TE}
end
section
variable{X:Cx}{pins:PNS}{σ:St}{H:Hp}{s:Shared}{A:Around}{E:VSP}{Q:VSP}{c:Value}{b:Bool}
inductive bP9(K:PySem.W.Frag)(H:Hp):V→Value→Prop where
 |non:bP9 K H .non (.type "NoneType")
 |bl (x:Bool):bP9 K H (.bl x) (.type "bool")
 |int (i:Int):bP9 K H (.int i) (.type "int")
 |str (x:Str):bP9 K H (.str x) (.type "str")
 |flt (x:UInt64):bP9 K H (.flt x) (.type "float")
 |lst {a:Addr} {xs:List V} (e:H a=some (.lst xs)):bP9 K H (.ref a) (.type "list")
 |frz {a:Addr} {o:Obj} {xs:List V} (e:H a=some (.frz o (.lst xs))):bP9 K H (.ref a) (.type "list")
 |tup {a:Addr} {xs:List V} (e:H a=some (.tup xs)):bP9 K H (.ref a) (.type "tuple")
 |dK {a:Addr} {kvs:List (Key×V)} (e:H a=some (.dK kvs)):bP9 K H (.ref a) (.type "dict")
 |dT {a:Addr} {kvs:List (List Key×V)} (e:H a=some (.dT kvs)):bP9 K H (.ref a) (.type "dict")
 |ins {a C dx:Addr} {fs:List (Str×V)} (e:H a=some (.ins C dx fs)) (cl:Cls K C) (ha:PySem.W.findIn K (.ref C) "__class__" =some (some (.builtin "object.__class__")))
    (hn:PySem.W.specialIn K (.builtin "object.__class__") "__get__" =some (some (.builtin "getset_descriptor.__get__"))) (htk:PySem.W.takesIn K (.builtin "object.__class__")=some true)
    (hm:PySem.W.mroIn K C (.type "object")=some true):bP9 K H (.ref a) (.ref C)
end
structure aA5(k:Nat)(A:Around):Prop where
 hd:A.handled=none
 dp:A.depth+3*k+5<recursionLimit
 un:A.units+16*k+200<cLine
 gd:A.guards=some []
theorem aA5.mono{j k:Nat}{A:Around}(r:aA5 k A)(h:j≤k):aA5 j A:=⟨r.hd,by have:=r.dp;lia,by have:=r.un;lia,r.gd⟩
theorem aA5.deeper{k:Nat}{A:Around}(r:aA5 (k+1) A)(env:Env):aA5 k (A.deeper env):=
 ⟨r.hd,by have:=r.dp;show A.depth+1+3*k+5<_;lia,by have:=r.un;show A.units+3+16*k+200<_;lia,r.gd⟩
theorem aA5.in1{k:Nat}{A:Around}(r:aA5 (k+1) A):aA5 k A.in1:=
 ⟨r.hd,by have:=r.dp;show A.depth+3*k+5<_;lia,by have:=r.un;show A.units+1+16*k+200<_;lia,r.gd⟩
theorem aA5.depth{k:Nat}{A:Around}(r:aA5 k A):A.depth<recursionLimit:=by have:=r.dp;lia
theorem aA5.units{k:Nat}{A:Around}(r:aA5 k A):A.units+64<cLine:=by have:=r.un;lia
noncomputable def fC6:TA:=fun _ H Q=>Q [] H
noncomputable def fI4(ta:TE)(tr:TA):TA:=fun σ H Q=>ta σ H fun x H1=>tr σ H1 fun xs H2=>Q (x::xs) H2
section
variable{X:Cx}{e:Expr}{es:List Expr}{te:TE}{t:TA}{pos:Pos}
theorem eY2:PA X [] fC6:=fun _ _ _ _ H Q I h=>Calls.spliced_nil ⟨[],H,I,.nil,h⟩
theorem eI9(ha:PE X e te)(hr:PA X es t)(hs:starEach (e::es) X.env= (false,eval e X.env)::starEach es X.env):PA X (e::es) (fI4 te t):=by
 intro pos pins s σ H Q I h
 rw[hs]
 show wpAny _ _ (spliced ((false,eval e X.env)::backTo pos (starEach es X.env))) _ _ s
 refine Calls.spliced_cons (thn (ha pins s σ H _ I h) fun u s1 hE1=>hE1.elim fun x H1 I1 r1 q1=>?_)
 exact thn (hr pos pins s1 σ H1 _ I1 q1) fun us s2 hE1=>hE1.elim fun xs H2 I2 r2 q2=>⟨x::xs,H2,I2,.cons r1 r2,q2⟩
def fO6(t:TA):TE:=fun σ H Q=>t σ H fun xs H1=>xs.length≤sizeLine∧∀p,H1 p=none→Q (.ref p) (upd H1 p (.tup xs))
def fM8(t:TA):TE:=fun σ H Q=>t σ H fun xs H1=>xs.length≤sizeLine∧∀p,H1 p=none→Q (.ref p) (upd H1 p (.lst xs))
theorem eS0{x1}(h:PA X es t):PE X (.Tuple es x1 pos) (fO6 t):=by
 intro pins s σ H Q I hq
 refine wpAny_Tuple_spliced (thn (h pos pins s σ H _ I hq) fun us s1 ⟨xs,H1,I1,r,z,q⟩=>⟨by rw[←r.length];exact z,?_⟩)
 have hf:H1 s1.heap.objs.size=none:=I1.hok.fresh (Nat.le_refl _)
 refine⟨.ref s1.heap.objs.size,upd H1 s1.heap.objs.size (.tup xs),I1.laid (t':=s1.toks) (fun b u e=>Heap.get?_push_of_some _ e) (Nat.le_refl _) ?_,rfl,q _ hf⟩
 exact⟨z,us,r,⟨_,Heap.get?_push_size _ rfl,rfl,_,rfl⟩⟩
theorem eW9(h:PA X es t):PE X (.List es pos) (fM8 t):=by
 intro pins s σ H Q I hq
 refine wpAny_List_spliced (thn (h pos pins s σ H _ I hq) fun us s1 ⟨xs,H1,I1,r,z,q⟩=>⟨by rw[←r.length];exact z,?_⟩)
 have hf:H1 s1.heap.objs.size=none:=I1.hok.fresh (Nat.le_refl _)
 refine⟨.ref s1.heap.objs.size,upd H1 s1.heap.objs.size (.lst xs),I1.laid (t':=s1.toks) (fun b u e=>Heap.get?_push_of_some _ e) (Nat.le_refl _) ?_,rfl,q _ hf⟩
 exact⟨z,us,0,r,Heap.get?_push_size _ rfl⟩
end
noncomputable abbrev Sp:=List V→Hp→VK→XK→Prop
noncomputable abbrev CXT:=List Env→Hp→Shared→XK→VSP
structure cU6(P:Program)(w:World)(K:PySem.W.Frag)(mg:Str→Option Value)(base:Heap)(A:Around)(outer:List Env)(s:Shared)(H:Hp):Prop where
 frames:A.frames=some outer
 mod:Mod K mg base
 bs:∀b o,base.get? b=some o→s.heap.get? b=some o∧H b=none
 bsz:base.objs.size≤s.heap.objs.size
 funs:s.heap.FunFrames base outer
 frf:∀b∈frs outer,H b=none
 hok:HOk P w H s.heap
 bare:AllBare s.gens
def CE(outer:List Env)(P:Program)(w:World)(H:Hp)(s:Shared)(Q:VK)(u:Value)(s':Shared):Prop:=
 ∃v H',s'.os=s.os∧AllBare s'.gens∧Un (frs outer) [] H H' s.heap s'.heap∧HOk P w H' s'.heap∧J6 v u∧Q v H'
def CR(CX:CXT)(outer:List Env)(P:Program)(w:World)(H:Hp)(s:Shared)(Q:VK)(E:XK)(r:Result)(s':Shared):Prop:=
 match r with
 | .ok (.ret u)=>CE outer P w H s Q u s'
 | .ok _=>False
 | .error e=>CX outer H s E e s'
structure J8(P:Program)(w:World)(K:PySem.W.Frag)(mg:Str→Option Value)(base:Heap)(CX:CXT)(k:Nat)(f:Addr)(fd:FuncData)(ps:List Str)(sp:Sp):Prop where
 len:∀vs H Q E,sp vs H Q E→vs.length=ps.length
 run:∀(A:Around) (outer:List Env) (s:Shared) (H:Hp) (args:Args) (us:List Value) (vs:List V) (Q:VK) (E:XK),aA5 k A→cU6 P w K mg base A outer s H→BindsTo s fd args (ps.zip us)→w6 vs us→sp vs H Q E→
  codeAny (model P w) A (.call (.ref f) args) (CR CX outer P w H s Q E) s
theorem J8.mono{P:Program}{w:World}{K:PySem.W.Frag}{mg:Str→Option Value}{base:Heap}{CX:CXT}{j k:Nat}{f:Addr}{fd:FuncData}{ps:List Str}{sp:Sp}(F:J8 P w K mg base CX j f fd ps sp)(h:j≤k):
 J8 P w K mg base CX k f fd ps sp:=⟨F.len,fun A outer s H args us vs Q E hr=>F.run A outer s H args us vs Q E (hr.mono h)⟩
theorem J8.imp{P:Program}{w:World}{K:PySem.W.Frag}{mg:Str→Option Value}{base:Heap}{CX:CXT}{k:Nat}{f:Addr}{fd:FuncData}{ps:List Str}{sp sp':Sp}(F:J8 P w K mg base CX k f fd ps sp)
 (h:∀vs H Q E,sp' vs H Q E→sp vs H Q E):J8 P w K mg base CX k f fd ps sp':=
 ⟨fun vs H Q E q=>F.len vs H Q E (h _ _ _ _ q),fun A outer s H args us vs Q E hr he hb hv hs=>F.run A outer s H args us vs Q E hr he hb hv (h _ _ _ _ hs)⟩
theorem cU6.in1{P:Program}{w:World}{K:PySem.W.Frag}{mg:Str→Option Value}{base:Heap}{A:Around}{outer:List Env}{s:Shared}{H:Hp}(e:cU6 P w K mg base A outer s H):
 cU6 P w K mg base A.in1 outer s H:=⟨e.frames,e.mod,e.bs,e.bsz,e.funs,e.frf,e.hok,e.bare⟩
section
variable{X:Cx}{pins:PNS}{σ:St}{H:Hp}{s s':Shared}
theorem Inv.env0(I:Inv X pins σ H s):cU6 X.prog X.w X.K X.mg X.base X.A X.stack s H:=
 ⟨I.ok.frames,I.ok.mod,I.bs,Nat.le_trans I.ok.bsz I.sz,I.stack,I.stkFree,I.hok,I.bare⟩
theorem Inv.after{Q:VK}{u:Value}(I:Inv X pins σ H s)(h:CE X.stack X.prog X.w H s Q u s'):EP X pins σ Q u s':=by
 obtain⟨v,H',os,bare,un,hok,r,q⟩:=h
 obtain⟨hh,g,d,t,os'⟩:=s'
 obtain rfl:os'=s.os:=os
 exact⟨v,H',I.call (h':=hh) (g':=g) (d':=d) (t':=t) (ch:= []) un hok bare (fun b z=>absurd z (by simp)),r,q⟩
end
noncomputable def eK1(sp:Sp)(dvs:List V)(E:XK)(t:TA):TE:=fun σ H Q=>t σ H fun vs H1=>sp (vs++dvs) H1 Q E
noncomputable def bC6(K:PySem.W.Frag)(fd:FuncData)(ps:List Str)(ds:List Value):Prop:=
 ∀(s:Shared) (us:List Value),K.In s.heap→(us++ds).length=ps.length→BindsTo s fd ⟨us, []⟩ (ps.zip (us++ds))
theorem bC6.all{K:PySem.W.Frag}{fd:FuncData}{ps:List Str}(h:∀us:List Value,us.length=ps.length→bindArgs fd ⟨us, []⟩=pure (ps.zip us)):bC6 K fd ps []:=fun s us _ hl=>by
 rw[List.append_nil]at hl ⊢
 exact .of_eq (h us hl)
noncomputable def cE6(CX:CXT)(X:Cx)(E:XK):Prop:=∀(pins:PNS) (σ:St) (H:Hp) (s:Shared) (e:Value) (s':Shared),Inv X pins σ H s→CX X.stack H s E e s'→X.xe e s'
section
variable{X:Cx}{CX:CXT}{k:Nat}{f C:Addr}{fd:FuncData}{ps:List Str}{sp:Sp}{dvs:List V}{ds:List Value}{E:XK}{x m:Str}{p pos apos:Pos}{e o:Expr}{es:List Expr}{ta:TE}{t:TA}
theorem dQ5{pins:PNS}{σ:St}{H:Hp}{s:Shared}{Q:VK}{us:List Value}{vs:List V}(F:J8 X.prog X.w X.K X.mg X.base CX k f fd ps sp)(hr:aA5 k X.A)(hb:bC6 X.K fd ps ds)(hd:w6 dvs ds)(hx:cE6 CX X E)
 (I:Inv X pins σ H s) (r:w6 vs us) (h:sp (vs++dvs) H Q E):wpAny (model X.prog X.w) X.A (call (.ref f) us) (EP X pins σ Q) X.xe s:=by
 have r2:w6 (vs++dvs) (us++ds):=r.append hd
 have hl:(us++ds).length=ps.length:=by rw[←r2.length];exact F.len _ _ _ _ h
 refine wpAny_call (codeAny_mono (F.run X.A X.stack s H ⟨us, []⟩ (us++ds) (vs++dvs) Q E hr I.env0 (hb s us I.kIn hl) r2 h) fun r s' hq=>?_)
 cases r with
 |error e=>exact hx pins σ H s e s' I hq
 |ok fl=>
   cases fl with
   |ret u=>exact I.after hq
   |next=>exact False.elim hq
   |brk=>exact False.elim hq
   |cont=>exact False.elim hq
theorem eG1(F:J8 X.prog X.w X.K X.mg X.base CX k f fd ps sp)(hr:aA5 k X.A)(hg:Gl X x)(hm:X.mg x=some (.ref f))(hk:PySem.W.keepIn X.K (.ref f)=true)(hb:bC6 X.K fd ps ds)(hd:w6 dvs ds)(hx:cE6 CX X E)
 (ha:PA X (e::es) t) (hdb:(x==("__debug__" :Str))=false) (he:starEach (e::es) X.env= (false,eval e X.env)::starEach es X.env) (hpl:(backTo pos (starEach es X.env)).any (·.1)=false):
 PE X (.Call (.Name x p) (e::es) [] pos) (eK1 sp dvs E t):=by
 intro pins s σ H Q I h
 refine wpAny_Call_Name_kw (bN5 I hg hm ?_ hdb)
 refine PySem.W.callWith_K (h₀:=X.base) I.ok.mod.kin hk (thn (ha pos pins s σ H _ I h) fun us s1 hE1=>hE1.elim fun vs H1 I1 r q=>⟨I1.kIn,?_⟩) he hpl
 exact dQ5 F hr hb hd hx I1 r q
theorem dN4(F:J8 X.prog X.w X.K X.mg X.base CX k f fd ps sp)(hr:aA5 k X.A)(hg:Gl X x)(hm:X.mg x=some (.ref f))(hk:PySem.W.keepIn X.K (.ref f)=true)(hb:bC6 X.K fd ps ds)(hd:w6 dvs ds)(hx:cE6 CX X E)
 (hdb:(x==("__debug__" :Str))=false):PE X (.Call (.Name x p) [] [] pos) (eK1 sp dvs E fC6):=by
 intro pins s σ H Q I h
 refine wpAny_Call_Name_kw (bN5 I hg hm ?_ hdb)
 exact PySem.W.callWith_K0 I.kIn hk (dQ5 (us:= []) F hr hb hd hx I .nil h)
structure Mk(K:PySem.W.Frag)(C f:Addr):Prop where
 makes:PySem.W.makesIn K C=true
 init:PySem.W.findIn K (.ref C) "__init__" =some (some (.ref f))
 fn:PySem.W.isFn K (.ref f)=true
 kp:PySem.W.keepIn K (.ref C)=true
end
section
variable{X:Cx}{CX:CXT}{k:Nat}{f C:Addr}{fd:FuncData}{ps ks:List Str}{sp:Sp}{E:XK}{x m:Str}{p pos apos kpos:Pos}{e o:Expr}{es:List Expr}{kws:List Keyword}{te ta:TE}{t tk:TA}{nm:Option Str}
structure KBinds(K:PySem.W.Frag)(fd:FuncData)(ps ks:List Str)(g:List Value→List Value→List Value)(gV:List V→List V→List V):Prop where
 to:∀(s:Shared) (us ws:List Value),K.In s.heap→(g us ws).length=ps.length→BindsTo s fd ⟨us,ks.zip ws⟩ (ps.zip (g us ws))
 rel:∀ {vs:List V} {us:List Value} {zs:List V} {ws:List Value},w6 vs us→w6 zs ws→w6 (gV vs zs) (g us ws)
variable{g:List Value→List Value→List Value}{gV:List V→List V→List V}
end
structure m7(N P:List Str)(sc:Scope):Prop where
 kind:sc.kind= .function
 co:sc.isCoroutine=false
 gen:sc.isGenerator=false
 nd:N.Nodup
 pre:N.take P.length=P
 par:∀x∈P,sc.names.lookup x=some .local∨sc.names.lookup x=some .cell
 nofree:∀y∈sc.names,y.2≠ .free
theorem cA6{kindOf:Str→Option NameKind}{x:Str}:∀ {binds:List (Str×Value)} {m:Str→Option Value},(∀v,(x,v)∉binds)→bindL kindOf binds m x=m x
 |[],_,_=>rfl
 |(n,v)::r,m,h=>by
  unfold bindL
  rw[cA6 fun w hw=>h w (List.mem_cons_of_mem _ hw)]
  split
  · have:x≠n:=by rintro rfl;exact h v List.mem_cons_self
    simp[this]
  ·rfl
theorem cA8{kindOf:Str→Option NameKind}{x:Str}:∀ {binds:List (Str×Value)} {m:Str→Option Value},(∀v,(x,v)∉binds)→bindC kindOf binds m x=m x
 |[],_,_=>rfl
 |(n,v)::r,m,h=>by
  unfold bindC
  rw[cA8 fun w hw=>h w (List.mem_cons_of_mem _ hw)]
  split
  ·rfl
  · have:x≠n:=by rintro rfl;exact h v List.mem_cons_self
    simp[this]
theorem bZ4{kindOf:Str→Option NameKind}{x:Str}{v:Value}:∀ {P:List Str} {vs:List Value} {i:Nat} {m:Str→Option Value},P.Nodup→P[i]? =some x→vs[i]? =some v→kindOf x=some .local→
 bindL kindOf (P.zip vs) m x=some v
 |[],_,_,_,_,h,_,_=>by simp at h
 |_::_, [],_,_,_,_,h,_=>by simp at h
 |p::P,w::vs,0,m,nd,h1,h2,hk=>by
   simp at h1 h2;subst h1;subst h2
   show bindL kindOf ((p,w)::P.zip vs) m p=_
   unfold bindL
   rw[cA6 fun v hv=>(List.nodup_cons.mp nd).1 (List.of_mem_zip hv).1,if_pos hk]
   simp
 |p::P,w::vs,i+1,m,nd,h1,h2,hk=>by
   show bindL kindOf ((p,w)::P.zip vs) m x=_
   unfold bindL
   exact bZ4 (i:=i) (List.nodup_cons.mp nd).2 (by simpa using h1) (by simpa using h2) hk
theorem bY8{kindOf:Str→Option NameKind}{x:Str}{v:Value}:∀ {P:List Str} {vs:List Value} {i:Nat} {m:Str→Option Value},P.Nodup→P[i]? =some x→vs[i]? =some v→kindOf x≠some .local→
 bindC kindOf (P.zip vs) m x=some v
 |[],_,_,_,_,h,_,_=>by simp at h
 |_::_, [],_,_,_,_,h,_=>by simp at h
 |p::P,w::vs,0,m,nd,h1,h2,hk=>by
   simp at h1 h2;subst h1;subst h2
   show bindC kindOf ((p,w)::P.zip vs) m p=_
   unfold bindC
   rw[cA8 fun v hv=>(List.nodup_cons.mp nd).1 (List.of_mem_zip hv).1,if_neg hk]
   simp
 |p::P,w::vs,i+1,m,nd,h1,h2,hk=>by
   show bindC kindOf ((p,w)::P.zip vs) m x=_
   unfold bindC
   exact bY8 (i:=i) (List.nodup_cons.mp nd).2 (by simpa using h1) (by simpa using h2) hk
noncomputable def start(N:List Str)(vs:List V):St:=vs.map some++List.replicate (N.length-vs.length) none
noncomputable def cO0(CX:CXT)(P:Program)(w:World)(K:PySem.W.Frag)(mg:Str→Option Value)(base:Heap)(N:List Str)(qual:Str)(scope:Scope)(f:Addr)(cd:Value)(A:Around)(outer:List Env)(s:Shared)(H:Hp)(E:XK):Cx where
 prog:=P
 w:=w
 K:=K
 mg:=mg
 base:=base
 A:=A.deeper (envOfC qual scope s.heap.objs.size f cd)
 N:=N
 s₀:=s
 H₀:=H
 env:=envOfC qual scope s.heap.objs.size f cd
 outer:=outer
 stack:=envOfC qual scope s.heap.objs.size f cd::outer
 ex:= []
 calm:=true
 fn:=fun _=>true
 pn:= []
 xe:=fun e s'=>wpAny (model P w) (A.deeper (envOfC qual scope s.heap.objs.size f cd)) (leaving (envOfC qual scope s.heap.objs.size f cd) e) (fun _ s''=>CX outer H s E e s'') (fun e' s''=>CX outer H s E e' s'') s'
theorem cK0{sc:Scope}{n:Nat}{x:Str}(h:sc.names.lookup x=some .cell):∃c,(cellsFrom n sc.names []).lookup x=some c:=by
 have q:=PySem.W.cellsFrom_some sc.names n [] (.inl h)
 exact Option.isSome_iff_exists.mp q
theorem dD8{CX:CXT}{P:Program}{w:World}{K:PySem.W.Frag}{mg:Str→Option Value}{base:Heap}{N ps:List Str}{qual:Str}{scope:Scope}{f:Addr}{cd:Value}{A:Around}{outer:List Env}{s s1:Shared}{H:Hp}{E:XK}{us:List Value}{vs:List V}
 (S:m7 N ps scope) (hd:A.handled=none) (gd:A.guards=some []) (e0:cU6 P w K mg base A outer s H) (hl:vs.length=ps.length) (r:w6 vs us)
 (x:InCallC s s.heap.objs.size (bindL (envOfC qual scope s.heap.objs.size f cd).kindOf (ps.zip us) fun _=>none) (cellsFrom (s.heap.objs.size+1) scope.names []) (bindC (envOfC qual scope s.heap.objs.size f cd).kindOf (ps.zip us) fun _=>none) s1):
 Inv (cO0 CX P w K mg base N qual scope f cd A outer s H E) [] (start N vs) H s1:=by
 have hpl:ps.length≤N.length:=by have:=congrArg List.length S.pre;rw[List.length_take]at this;lia
 obtain⟨h1,tk,rfl,hk⟩:=x.done
 have noA:∀b:Addr,b∉(cO0 CX P w K mg base N qual scope f cd A outer s H E).ex:=fun b z=>absurd (show b∈([]:List Addr)from z) (by simp)
 refine⟨⟨e0.mod,S.kind,rfl,rfl,Nat.le_refl _,fun y z c h1 h2=>?_,fun y hy=>?_,fun y c _ h=>?_,fun _=>hd,Around.frames_deeper e0.frames,.inr ⟨rfl,rfl⟩,fun b z=>absurd z (noA b),e0.bs,e0.bsz,fun b _ _=>noA b,fun b z=>absurd z (noA b),e0.funs,e0.frf,gd⟩,
  rfl,e0.bare,Un.kept hk,⟨_,x.toInCall.ns,fun i y v h1 h2 h3=>?_⟩,fun y c h=>⟨_,x.cell y c h⟩,e0.hok.fresh (Nat.le_refl _),fun y c h=>?_,fun p hp=>absurd (show p∈([]:PNS)from hp) (by simp),e0.hok.kept hk,?_⟩
 ·exact name_of_addr x.apart (PySem.mem_of_lookup h1) (PySem.mem_of_lookup h2)
 · have hy:scope.names.lookup y=some .cell∨scope.names.lookup y=some .free:=hy
   rcases hy with hy|hy
   ·exact cK0 hy
   ·exact absurd rfl (S.nofree _ (PySem.mem_of_lookup hy))
 ·exact Nat.le_of_lt (x.above y c (PySem.mem_of_lookup h))
 · have hi:i<vs.length:=by
    unfold start at h2
    by_cases hi:i<vs.length
    ·exact hi
    · rw[List.getElem?_append_right (by simpa using hi)]at h2
      rw[List.getElem?_replicate]at h2
      split at h2<;>cases h2
   have ha:vs[i]? =some v:=by
    unfold start at h2
    rw[List.getElem?_append_left (by simpa using hi),List.getElem?_map]at h2
    cases e:vs[i]? with
    |none=>rw[e]at h2;cases h2
    |some a=>rw[e]at h2;cases h2;rfl
   obtain⟨u,hu,rv⟩:=r.get ha
   have hp:ps[i]? =some y:=by
    rw[←S.pre,List.getElem?_take_of_lt (by lia)];exact h1
   have ndP:ps.Nodup:=by rw[←S.pre];exact S.nd.sublist (List.take_sublist _ _)
   refine⟨u,rv,?_⟩
   rcases S.par y (List.mem_of_getElem? hp)with k|k
   ·exact .inl ⟨k,bZ4 ndP hp hu k⟩
   · obtain⟨c,e⟩:=cK0 (n:=s.heap.objs.size+1) k
     refine .inr ⟨.inl k,c,e,?_⟩
     have q:=x.cell y c e
     rw[bY8 ndP hp hu (by show scope.names.lookup y≠_;rw[k];decide)]at q
     exact q
 ·exact e0.hok.fresh (Nat.le_of_lt (x.above y c (PySem.mem_of_lookup h)))
 · unfold start
   show _=N.length
   rw[List.length_append,List.length_map,List.length_replicate]
   lia
theorem fJ8{CX:CXT}{P:Program}{w:World}{K:PySem.W.Frag}{mg:Str→Option Value}{base:Heap}{k:Nat}{f:Addr}{name qual:Str}{params:Arguments}{body:List Stmt}{scope:Scope}{dV kV doc pm cdv ct oc:Value}{an od:Option Addr}
 {osl:Array (Option Value)} {N ps:List Str} {sp:Sp} (lk:K.lookup f=some ⟨oc,od,.func (PySem.W.fnOf name qual params body scope dV kV doc pm an cdv ct),osl⟩) (hcd:PySem.W.codeIn K cdv qual=true) (S:m7 N ps scope)
 (len:∀vs H Q E,sp vs H Q E→vs.length=ps.length)
 (hbody:∀(A:Around) (outer:List Env) (s:Shared) (H:Hp) (vs:List V) (Q:VK) (E:XK),aA5 k (A.deeper (envOfC qual scope s.heap.objs.size f cdv))→sp vs H Q E→
   ∃t,PSs (cO0 CX P w K mg base N qual scope f cdv A outer s H E) body t∧t {nx:=fun _ H'=>Q .non H',rt:=Q} (start N vs) H):
 J8 P w K mg base CX (k+1) f (PySem.W.fnOf name qual params body scope dV kV doc pm an cdv ct) ps sp:=by
 refine⟨len,fun A outer s H args us vs Q E hr e0 hb r hsp=>?_⟩
 have hl:=len _ _ _ _ hsp
 have KX:K.In s.heap:=e0.mod.kin.keeps fun b o e=>(e0.bs b o e).1
 have lim:s.heap.NoLimit:=e0.mod.nolimit.keeps fun b o e=>(e0.bs b o e).1
 have hkind:∀y∈ps.zip us,scope.names.lookup y.1=some .local∨(scope.names.lookup y.1=some .cell∧((cellsFrom (s.heap.objs.size+1) scope.names []).lookup y.1).isSome=true):=fun⟨n,v⟩ hy=>by
  rcases S.par n (List.of_mem_zip hy).1 with q|q
  ·exact .inl q
  ·exact .inr ⟨q,PySem.W.cellsFrom_some _ _ _ (.inl q)⟩
 refine codeAny_call_function hr.depth (KX _ _ lk) rfl S.co S.gen rfl (PySem.W.codeRec_of KX hcd) (hb _ _ _ _ ?_)
 refine wpAny_newFunctionEnv_cells S.kind hkind fun env he s1 x=>?_
 subst he
 refine⟨lim.keeps x.toInCall.keep,codeAny_func ?_⟩
 obtain⟨t,ht,hq⟩:=hbody A outer s H vs Q E (hr.deeper _) hsp
 have I:Inv (cO0 CX P w K mg base N qual scope f cdv A outer s H E) [] (start N vs) H s1:=dD8 S hr.hd hr.gd e0 hl r x
 refine wpAny_mono (ht [] s1 (start N vs) H _ I hq) (fun fl s' hs=>?_) fun e s' hs=>hs
 have fin:∀ {σ':St} {H':Hp} {v:V} {u:Value},Inv (cO0 CX P w K mg base N qual scope f cdv A outer s H E) [] σ' H' s'→J6 v u→Q v H'→CE outer P w H s Q u s':=
  fun {σ' H' v u} J rv q=>⟨v,H',J.os,J.bare,J.base,J.hok,rv,q⟩
 cases fl with
 |ret u=>
   obtain⟨v,σ',H',J,rv,q⟩:=hs
   exact fin J rv q
 |next=>
   obtain⟨σ',H',J,q⟩:=hs
   exact fin (v:=V.non) (u:=Value.none) J rfl q
 |brk=>
   obtain⟨_,_,_,q⟩:=hs
   exact False.elim q
 |cont=>
   obtain⟨_,_,_,q⟩:=hs
   exact False.elim q
section
variable{X:Cx}{x:Str}{p pos:Pos}{e:Expr}{es:List Expr}{t:TA}{id T:String}{r:List V→Hp→VK→Prop}
noncomputable def tCB(r:List V→Hp→VK→Prop)(t:TA):TE:=fun σ H Q=>t σ H fun vs H1=>r vs H1 Q
theorem dU3(hc:aB9 X (.builtin id) r)(hg:Gl X x)(hm:X.mg x=none)(hv:bootBuiltins x=some (.builtin id))(ha:PA X (e::es) t)(hn:x≠ "__name__")(hdb:(x==("__debug__" :Str))=false)
 (he:starEach (e::es) X.env= (false,eval e X.env)::starEach es X.env) (hpl:(backTo pos (starEach es X.env)).any (·.1)=false):PE X (.Call (.Name x p) (e::es) [] pos) (tCB r t):=by
 intro pins s σ H Q I h
 refine wpAny_Call_Name_kw (aZ3 I hg hm hv ?_ hn hdb)
 exact PyProof.Rows.callWith_builtin1 (thn (ha pos pins s σ H _ I h) fun us s1 hE1=>hE1.elim fun vs H1 I1 r1 q1=>hc pins s1 σ H1 vs us Q I1 r1 q1) he hpl
theorem dJ5(hc:aB9 X (.type T) r)(hg:Gl X x)(hm:X.mg x=none)(hv:bootBuiltins x=some (.type T))(ha:PA X (e::es) t)(hn:x≠ "__name__")(hdb:(x==("__debug__" :Str))=false)
 (he:starEach (e::es) X.env= (false,eval e X.env)::starEach es X.env) (hpl:(backTo pos (starEach es X.env)).any (·.1)=false):PE X (.Call (.Name x p) (e::es) [] pos) (tCB r t):=by
 intro pins s σ H Q I h
 refine wpAny_Call_Name_kw (aZ3 I hg hm hv ?_ hn hdb)
 exact PyProof.Rows.callWith_type1 (thn (ha pos pins s σ H _ I h) fun us s1 hE1=>hE1.elim fun vs H1 I1 r1 q1=>hc pins s1 σ H1 vs us Q I1 r1 q1) he hpl
end
end L2
namespace HT
open PySem PyProof.Rows
section
open PySem.SeqAt
open PySem.AutoSeq1 (wpAny_loadPart')
open PySem.MeetsSeq PySem.MeetsSeq2 PySem.MeetsSeq3
end
section
variable{prog:Program}{w:World}{A:Around}{E:VSP}{s:Shared}
theorem cat_tup{t b:Addr}{vs ws:List Value}{Q:VSP}(ht:IsTup s.heap t vs.toArray)(hb:IsTup s.heap b ws.toArray)(hv:vs≠ [])
 (h1:ws= []→Q (.ref t) s) (h2:ws≠ []→Q (.ref s.heap.objs.size) {s with heap:=s.heap.push {cls:=.type "tuple",data:=.seq (vs++ws).toArray}})
 (hsz:vs.length+ws.length≤sizeLine):wpAny (model prog w) A (binaryOp .Add (.ref t) (.ref b)) Q E s:=by
 obtain⟨⟨cls,dd,data,sl⟩,ho,hc,n,hd⟩:=id ht
 obtain⟨⟨cls2,dd2,data2,sl2⟩,ho2,hc2,n2,hd2⟩:=id hb
 simp only at hc hd hc2 hd2
 subst hc hd hc2 hd2
 have e:vs.toArray++ws.toArray= (vs++ws).toArray:=by simp
 by_cases hw:ws= []
 · exact concat_meets ⟨_,ho,rfl⟩ ⟨_,ho2,rfl⟩ noFill_tuple_add seq_tuple_add PySem.F.slot_tuple_add PySem.F.entry_tuple_add (PySem.F.args_tuple_add_2 _ _)
    (tuple_addW1 t b vs.toArray ws.toArray n n2 dd dd2 sl sl2 (by simpa using hv) (by simp[hw])) ⟨ho,ho2,h1 hw⟩
 · refine concat_meets ⟨_,ho,rfl⟩ ⟨_,ho2,rfl⟩ noFill_tuple_add seq_tuple_add PySem.F.slot_tuple_add PySem.F.entry_tuple_add (PySem.F.args_tuple_add_2 _ _)
    (tuple_addW2 t b vs.toArray ws.toArray n n2 dd dd2 sl sl2 (by simpa using hv) (by simpa using hw) (by rw[List.size_toArray,List.size_toArray];exact hsz)) ⟨ho,ho2,?_⟩
   rw[e]
   exact h2 hw
noncomputable def sIx(n d:Nat):Option Int→Nat
 |none=>d
 |some v=>if v<0 then (v+(n:Int)).toNat else min v.toNat n
theorem sIx_none(n d:Nat):sIx n d none=d:=rfl
theorem sIx_nat(n d k:Nat):sIx n d (some (k:Int))=min k n:=by
 show (if (k:Int)<0 then ((k:Int)+(n:Int)).toNat else min (k:Int).toNat n)=min k n
 rw[if_neg (by lia),Int.toNat_natCast]
theorem eV2(n d:Nat)(hd:d≤n)(o:Option Int):sIx n d o≤n:=by
 cases o with
 |none=>exact hd
 |some v=>
   show (if v<0 then (v+(n:Int)).toNat else min v.toNat n)≤n
   by_cases hv:v<0
   ·rw[if_pos hv];lia
   ·rw[if_neg hv];exact Nat.min_le_right _ _
theorem dB9(v:Int)(n d:Nat):(if v<0 then max (v+(n:Int)) 0 else min v (n:Int))= ((sIx n d (some v):Nat):Int):=by
 show (if v<0 then max (v+(n:Int)) 0 else min v (n:Int))= (((if v<0 then (v+(n:Int)).toNat else min v.toNat n):Nat):Int)
 by_cases hv:v<0
 ·simp only[if_pos hv];lia
 ·simp only[if_neg hv];lia
theorem cU3(lo hi:Option Int)(n:Nat):Builtin.Slice.sliceAdjust lo hi 1 (n:Int)= (((sIx n 0 lo:Nat):Int),((sIx n n hi:Nat):Int)):=by
 have h1:¬((1:Int)<0):=by lia
 unfold Builtin.Slice.sliceAdjust
 simp only[h1,if_false]
 refine Prod.ext ?_ ?_
 · cases lo with
   |none=>rfl
   |some v=>exact dB9 v n 0
 · cases hi with
   |none=>rfl
   |some v=>exact dB9 v n n
theorem cS5(i j:Nat):Builtin.Slice.slicePlaces (i:Int) (j:Int) 1=j-i:=by
 unfold Builtin.Slice.slicePlaces
 have h1:(1:Int)>0:=by lia
 simp only[h1,if_true,Int.ediv_one]
 split<;>lia
theorem bQ7{v:Value}{o:Option Int}{Q:Option Int→Shared→Prop}(p:IsPart v o)(h:Q o s):wpAny (model prog w) A (Builtin.Slice.slicePartIndex v) Q E s:=by
 cases p with
 |none=>exact slicePart_none h
 |int i t=>exact slicePart_int h
theorem sliceApplied_gen{sl:Addr}{vl vu:Value}{lo hi:Option Int}{n:Nat}{Q:Int×Int×Nat→Shared→Prop}(hs:s.heap.IsSliceOf sl vl vu .none)(pl:IsPart vl lo)(pu:IsPart vu hi)
 (h:Q (((sIx n 0 lo:Nat):Int),1,sIx n n hi-sIx n 0 lo) s):wpAny (model prog w) A (Builtin.Slice.sliceApplied (.ref sl) (pure (n:Int))) Q E s:=by
 obtain⟨os,hos,hcs,hds⟩:=id hs
 unfold Builtin.Slice.sliceApplied Builtin.Slice.sliceFields
 refine wpAny_bind (wpAny_bind (wpAny_field hos hds (x:=vl) rfl (wpAny_bind (wpAny_field hos hds (x:=vu) rfl (wpAny_bind (wpAny_field hos hds (x:=.none) rfl (wpAny_pure ?_)))))))
 refine wpAny_bind (slicePart_none ?_)
 show wpAny _ _ (if ((1:Int)==0)=true then _ else _) _ _ s
 rw[if_neg (by decide)]
 refine wpAny_bind (bQ7 pl (wpAny_bind (bQ7 pu (wpAny_bind (wpAny_pure ?_)))))
 show wpAny _ _ (match Builtin.Slice.sliceAdjust lo hi 1 (n:Int) with|(lo,hi)=>pure (lo,(1:Int),Builtin.Slice.slicePlaces lo hi 1)) _ _ s
 rw[cU3 lo hi n]
 show wpAny _ _ (pure (((sIx n 0 lo:Nat):Int),(1:Int),Builtin.Slice.slicePlaces ((sIx n 0 lo:Nat):Int) ((sIx n n hi:Nat):Int) 1)) _ _ s
 rw[cS5]
 exact wpAny_pure h
theorem dW7(xs:Array Value)(i k:Nat):((List.range k).filterMap fun(m:Nat)=>xs[((i:Int)+(m:Int)*1).toNat]?).toArray= ((xs.toList.drop i).take k).toArray:=by
 have e:(fun(m:Nat)=>xs[((i:Int)+(m:Int)*1).toNat]?)=fun m=>xs[i+m]? :=by
  funext m
  have:((i:Int)+(m:Int)*1).toNat=i+m:=by lia
  rw[this]
 rw[e]
 have:=pick_run xs i k
 rw[List.filterMap_map]at this
 have e2:((fun x=>xs[x]?)∘fun x=>i+x)=fun m=>xs[i+m]? :=rfl
 rw[e2]at this
 rw[this]
theorem getItem_tuple_cut{t sl:Addr}{items:Array Value}{vl vu:Value}{lo hi:Option Int}{Q:VSP}(ht:IsTup s.heap t items)(hs:s.heap.IsSliceOf sl vl vu .none)(pl:IsPart vl lo)(pu:IsPart vu hi)
 (hw:¬(sIx items.size 0 lo=0∧sIx items.size items.size hi=items.size))
 (h:Q (.ref s.heap.objs.size) {s with heap:=s.heap.push {cls:=.type "tuple",data:=.seq ((items.toList.drop (sIx items.size 0 lo)).take (sIx items.size items.size hi-sIx items.size 0 lo)).toArray}})
 (hsz:items.size≤sizeLine):wpAny (model prog w) A (getItem (.ref t) (.ref sl)) Q E s:=by
 have htake:sizeOk (.seq ((items.toList.drop (sIx items.size 0 lo)).take (sIx items.size items.size hi-sIx items.size 0 lo)).toArray):=by
  show ((items.toList.drop (sIx items.size 0 lo)).take (sIx items.size items.size hi-sIx items.size 0 lo)).toArray.size≤sizeLine
  rw[List.size_toArray,List.length_take,List.length_drop,Array.length_toList]
  lia
 have hj:sIx items.size items.size hi≤items.size:=eV2 _ _ (Nat.le_refl _) hi
 obtain⟨os,hos,hcs,hds⟩:=id hs
 have hTs:s.TypeIs (.ref sl) "slice":=⟨os,hos,hcs⟩
 unfold getItem
 try with_reducible refine wpAny_holding ?_
 first|refine wpAny_bind (wpAny_pure ?_)|skip
 refine wpAny_bind (wpAny_sequenceKey ht.typeIs (by decide) ?_)
 refine wpAny_bind (wpAny_callSpecial?_slot (name:=Str.ofString "__getitem__") ht.typeIs PyProof.Rows.slot_tuple_getitem
  (wpAny_call_entry PyProof.Rows.slot_tuple_getitem ht.typeIs entry_tuple_getitem ?_ (args_tuple_getitem _ _)))
 show wpAny _ _ (Builtin.Tuple.tupleItemsOf (.ref t) >>= _) _ _ s
 refine wpAny_bind (tupleItemsOf_ ht ?_)
 refine wpAny_bind (wpAny_typeOf hTs ?_)
 rw[if_pos (by decide)]
 refine wpAny_bind (sliceApplied_gen hs pl pu ?_)
 have hno:¬((((sIx items.size 0 lo:Nat):Int)==0&&(1:Int)==1&&(sIx items.size items.size hi-sIx items.size 0 lo)==items.size)=true):=by
  intro q
  rw[Bool.and_eq_true,Bool.and_eq_true]at q
  have q1:((sIx items.size 0 lo:Nat):Int)=0:=eq_of_beq q.1.1
  have q2:sIx items.size items.size hi-sIx items.size 0 lo=items.size:=eq_of_beq q.2
  exact hw ⟨by lia,by lia⟩
 show wpAny _ _ (if (((sIx items.size 0 lo:Nat):Int)==0&&(1:Int)==1&&(sIx items.size items.size hi-sIx items.size 0 lo)==items.size)=true then _ else _) _ _ s
 rw[if_neg hno,dW7]
 first
  |exact wpAny_bind (m:=Builtin.Tuple.tupleExact _) (wpAny_newObj_type (wpAny_pure ⟨_,rfl,wpAny_pure h⟩) htake)
  |exact wpAny_bind (m:=Builtin.Tuple.tupleExact _) (wpAny_newObj_type (wpAny_bind (wpAny_pure (wpAny_pure ⟨_,rfl,wpAny_pure h⟩))) htake)
  |exact wpAny_bind (wpAny_bind (m:=Builtin.Tuple.tupleExact _) (wpAny_newObj_type (wpAny_pure (wpAny_pure ⟨_,rfl,wpAny_pure h⟩)) htake))
  |exact wpAny_bind (wpAny_bind (m:=Builtin.Tuple.tupleExact _) (wpAny_newObj_type (wpAny_pure ⟨_,rfl,wpAny_pure h⟩) htake))
end
end HT
namespace L2
open PySem PySem.Spec PyProof.Rows
noncomputable abbrev TO:=St→Hp→(Option Int→Hp→Prop)→Prop
noncomputable def PO(X:Cx)(e:Option Expr)(t:TO):Prop:=
 ∀(pins:PNS) (s:Shared) (σ:St) (H:Hp) (Q:Option Int→Hp→Prop),Inv X pins σ H s→t σ H Q→
  wpAny (model X.prog X.w) X.A (evalPart e X.env) (fun u s'=>∃o H',Inv X pins σ H' s'∧IsPart u o∧Q o H') X.xe s
noncomputable def eF9:TO:=fun _ H Q=>Q none H
noncomputable def fH3(t:TE):TO:=fun σ H Q=>t σ H fun x H1=>∃i,x= .int i∧Q (some i) H1
section
variable{X:Cx}{e:Expr}{te:TE}{lo hi:Option Expr}{tl th:TO}{pos p2:Pos}
theorem eE7:PO X none eF9:=by
 intro pins s σ H Q I h
 rw[evalPart_none]
 exact wpAny_pure ⟨none,H,I,.none,h⟩
theorem eD0(h:PE X e te):PO X (some e) (fH3 te):=by
 intro pins s σ H Q I hw
 rw[evalPart_some]
 refine thn (h pins s σ H _ I hw) fun u s1 hE1=>hE1.elim fun x H1 I1 r1 q1=>?_
 obtain⟨i,rfl,q⟩:=q1
 obtain⟨t,rfl⟩:=r1
 exact⟨some i,H1,I1,.int i t,q⟩
def SlR(X:Cx)(r:V→Option Int→Option Int→Hp→VK→Prop):Prop:=
 ∀(pins:PNS) (s:Shared) (σ:St) (H:Hp) (x:V) (v vl vu:Value) (lo hi:Option Int) (sl:Addr) (Q:VK),Inv X pins σ H s→J6 x v→s.heap.IsSliceOf sl vl vu .none→IsPart vl lo→IsPart vu hi→r x lo hi H Q→
  ∃T id,typeLookup (.type T) "__getitem__" =pure (some (.builtin id))∧s.TypeIs v T∧wpAny (model X.prog X.w) X.A (getItem v (.ref sl)) (EP X pins σ Q) X.xe s
theorem SlR.or{r r':V→Option Int→Option Int→Hp→VK→Prop}(h:SlR X r)(h':SlR X r'):SlR X (fun x lo hi H Q=>r x lo hi H Q∨r' x lo hi H Q):=by
 intro pins s σ H x v vl vu lo hi sl Q I rx hs pl pu q
 rcases q with q|q
 ·exact h pins s σ H x v vl vu lo hi sl Q I rx hs pl pu q
 ·exact h' pins s σ H x v vl vu lo hi sl Q I rx hs pl pu q
noncomputable def tSl(r:V→Option Int→Option Int→Hp→VK→Prop)(te:TE)(tl th:TO):TE:=fun σ H Q=>te σ H fun x H1=>tl σ H1 fun l H2=>th σ H2 fun u H3=>r x l u H3 Q
theorem dP3{r:V→Option Int→Option Int→Hp→VK→Prop}(hr:SlR X r)(he:PE X e te)(hl:PO X lo tl)(hu:PO X hi th):PE X (.Subscript e (.Slice lo hi none p2) pos) (tSl r te tl th):=by
 intro pins s σ H Q I h
 refine Subscript_ (thn (he pins s σ H _ I h) fun v s1 hE1=>hE1.elim fun x H1 I1 r1 q1=>?_)
 refine wpAny_Slice (thn (hl pins s1 σ H1 _ I1 q1) fun vl s2 ⟨l,H2,I2,pl,q2⟩=>thn (hu pins s2 σ H2 _ I2 q2) fun vu s3 ⟨u,H3,I3,pu,q3⟩=>?_)
 rw[evalPart_none]
 refine wpAny_pure ?_
 have I4:Inv X pins σ H3 {s3 with heap:=s3.heap.push {cls:=.type "slice",data:=.fields #[vl,vu,.none]}}:=I3.kept (t':=s3.toks) fun b ob q=>Heap.get?_push_of_some _ q
 obtain⟨T,id,hT,ht,hg⟩:=hr pins {s3 with heap:=s3.heap.push {cls:=.type "slice",data:=.fields #[vl,vu,.none]}} σ H3 x v vl vu l u s3.heap.objs.size Q I4 r1 (Heap.IsSliceOf.new ..) pl pu q3
 show wpAny (model X.prog X.w) X.A (subscriptTail e (.Slice lo hi none p2) v (.ref s3.heap.objs.size)) (EP X pins σ Q) X.xe {s3 with heap:=s3.heap.push {cls:=.type "slice",data:=.fields #[vl,vu,.none]}}
 exact tail_any (ops:= [.ref s3.heap.objs.size,v]) ht hT hg (by with_unfolding_all rfl)
def bW7(xs:List V)(lo hi:Option Int):List V:=(xs.drop (HT.sIx xs.length 0 lo)).take (HT.sIx xs.length xs.length hi-HT.sIx xs.length 0 lo)
theorem bJ2(xs:List V)(lo hi:Option Int):(bW7 xs lo hi).length≤xs.length:=by
 unfold bW7
 rw[List.length_take,List.length_drop]
 lia
def fL0(K:PySem.W.Frag):V→Option Int→Option Int→Hp→VK→Prop:=fun x lo hi H Q=>∃a xs,x= .ref a∧SqT K H a xs∧
 ¬(HT.sIx xs.length 0 lo=0∧HT.sIx xs.length xs.length hi=xs.length)∧∀p,H p=none→Q (.ref p) (upd H p (.tup (bW7 xs lo hi)))
theorem sl_tup:SlR X (fL0 X.K):=by
 intro pins s σ H x v vl vu lo hi sl Q I rx hs pl pu h
 obtain⟨a,xs,rfl,hx,hw,q⟩:=h
 cases rx
 obtain⟨its,r,ht,hz⟩:=I.tuple hx
 have hlen:its.toArray.size=xs.length:=by rw[List.size_toArray];exact r.length.symm
 refine⟨"tuple",_,PyProof.Rows.slot_tuple_getitem.lookup,ht.typeIs,?_⟩
 refine HT.getItem_tuple_cut ht hs pl pu (by rw[hlen];exact hw) ?_ (by rw[hlen];exact hz)
 rw[hlen]
 refine⟨.ref s.heap.objs.size,_,I.laid (t':=s.toks) (o:=.tup (bW7 xs lo hi)) (fun b ob q=>Heap.get?_push_of_some _ q) (Nat.le_refl _) ?_,rfl,q _ (I.hok.fresh (Nat.le_refl _))⟩
 exact⟨Nat.le_trans (bJ2 xs lo hi) hz,_,(r.drop (HT.sIx xs.length 0 lo)).take (HT.sIx xs.length xs.length hi-HT.sIx xs.length 0 lo),aB5.new _ _⟩
def fC5(K:PySem.W.Frag):R2:=fun x y H Q=>∃a b xs ys,x= .ref a∧y= .ref b∧SqT K H a xs∧SqT K H b ys∧xs≠ []∧xs.length+ys.length≤sizeLine∧
 (ys= []→Q (.ref a) H)∧(ys≠ []→∀p,H p=none→Q (.ref p) (upd H p (.tup (xs++ys))))
theorem w6.nil_iff{xs:List V}{us:List Value}(r:w6 xs us):us= []↔xs= []:=by
 cases r with
 |nil=>simp
 |cons _ _=>simp
theorem dY0:OpR X (binaryOp .Add) (fC5 X.K):=by
 intro pins s σ H x y v u Q I rx ry h
 obtain⟨a,b,xs,ys,rfl,rfl,ha,hb,hx,hz,q1,q2⟩:=h
 cases rx
 cases ry
 obtain⟨its,r1,p1,_⟩:=I.tuple ha
 obtain⟨its2,r2,p2,_⟩:=I.tuple hb
 refine HT.cat_tup p1 p2 (fun z=>hx (r1.nil_iff.mp z)) (fun z=>⟨.ref a,H,I,rfl,q1 (r2.nil_iff.mp z)⟩) (fun z=>?_) (by rw[←r1.length,←r2.length];exact hz)
 refine⟨.ref s.heap.objs.size,_,I.laid (t':=s.toks) (o:=.tup (xs++ys)) (fun b ob q=>Heap.get?_push_of_some _ q) (Nat.le_refl _) ?_,rfl,q2 (fun w=>z (r2.nil_iff.mpr w)) _ (I.hok.fresh (Nat.le_refl _))⟩
 exact⟨by rw[List.length_append];exact hz,_,r1.append r2,aB5.new _ _⟩
end
noncomputable def ixN(n:Nat)(i:Int):Option Nat:=if 0≤i then (if i<n then some i.toNat else none)else if -(n:Int)≤i then some (i+n).toNat else none
def atI{α:Type}(xs:List α)(i:Int):Option α:=(ixN xs.length i).bind fun j=>xs[j]?
theorem cY7{n:Nat}{i:Int}{j:Nat}(h:ixN n i=some j):seqIndex? i n=some j∧j<n∧ -(n:Int)≤i∧i<n:=by
 unfold ixN at h
 by_cases h0:0≤i
 · rw[if_pos h0]at h
   by_cases h1:i<n
   · rw[if_pos h1]at h
     have e:i.toNat=j:=Option.some.inj h
     exact⟨by rw[seqIndex_of h0 h1,e],by lia,by lia,h1⟩
   ·rw[if_neg h1]at h;cases h
 · rw[if_neg h0]at h
   by_cases h1: -(n:Int)≤i
   · rw[if_pos h1]at h
     have e:(i+n).toNat=j:=Option.some.inj h
     exact⟨by rw[seqIndex_neg (by lia) h1,e],by lia,h1,by lia⟩
   ·rw[if_neg h1]at h;cases h
theorem cH2{α:Type}{xs:List α}{i:Int}{v:α}(h:atI xs i=some v):∃j,seqIndex? i xs.length=some j∧xs[j]? =some v∧j<xs.length∧ -(xs.length:Int)≤i∧i<xs.length:=by
 unfold atI at h
 cases e:ixN xs.length i with
 |none=>rw[e]at h;cases h
 |some j=>
   rw[e]at h
   obtain⟨h1,h2,h3,h4⟩:=cY7 e
   exact⟨j,h1,h,h2,h3,h4⟩
theorem atI_nat{α:Type}{xs:List α}{j:Nat}{v:α}(h:xs[j]? =some v):atI xs (j:Int)=some v:=by
 have hj:j<xs.length:=(List.getElem?_eq_some_iff.mp h).1
 have e:ixN xs.length (j:Int)=some j:=by
  unfold ixN
  rw[if_pos (by lia),if_pos (by lia)];simp
 unfold atI;rw[e];exact h
noncomputable def bM6(b:Expr):Prop:=∀o i,subscripted b false o i=operate [o,i] (getItem o i)
def IxR(X:Cx)(r:R2):Prop:=
 ∀(value slice:Expr) (pins:PNS) (s:Shared) (σ:St) (H:Hp) (x y:V) (v u:Value) (Q:VK),Inv X pins σ H s→J6 x v→J6 y u→r x y H Q→
  subscripted slice false v u=operate [v,u] (getItem v u)→wpAny (model X.prog X.w) X.A (subscriptTail value slice v u) (EP X pins σ Q) X.xe s
def MtR(X:Cx)(id:String)(r:V→List V→Hp→VK→Prop):Prop:=
 ∀(pins:PNS) (s:Shared) (σ:St) (H:Hp) (x:V) (xs:List V) (v:Value) (us:List Value) (Q:VK),Inv X pins σ H s→J6 x v→w6 xs us→r x xs H Q→
  wpAny (model X.prog X.w) X.A (call (.builtin id) (v::us)) (EP X pins σ Q) X.xe s
section
variable{X:Cx}{a b:Expr}{ta tb:TE}{pos:Pos}
theorem IxR.or{r r':R2}(h:IxR X r)(h':IxR X r'):IxR X (fun x y H Q=>r x y H Q∨r' x y H Q):=by
 intro value slice pins s σ H x y v u Q I rx ry q hs
 rcases q with q|q
 ·exact h value slice pins s σ H x y v u Q I rx ry q hs
 ·exact h' value slice pins s σ H x y v u Q I rx ry q hs
theorem MtR.or{id:String}{r r':V→List V→Hp→VK→Prop}(h:MtR X id r)(h':MtR X id r'):MtR X id (fun x xs H Q=>r x xs H Q∨r' x xs H Q):=by
 intro pins s σ H x xs v us Q I rx rs q
 rcases q with q|q
 ·exact h pins s σ H x xs v us Q I rx rs q
 ·exact h' pins s σ H x xs v us Q I rx rs q
theorem fF3{r:R2}(hr:IxR X r)(ha:PE X a ta)(hb:PE X b tb)(hs:bM6 b):PE X (.Subscript a b pos) (tOp r ta tb):=by
 intro pins s σ H Q I h
 exact Subscript_ (eW4 ha hb I h fun v u s2 x y H2 I2 rx ry q=>hr a b pins s2 σ H2 x y v u Q I2 rx ry q (hs _ _))
def fM5(K:PySem.W.Frag):R2:=fun x y H Q=>∃p xs i v,x= .ref p∧y= .int i∧SqL K H p xs∧atI xs i=some v∧Q v H
def fN7(K:PySem.W.Frag):R2:=fun x y H Q=>∃p xs i v,x= .ref p∧y= .int i∧SqT K H p xs∧atI xs i=some v∧Q v H
def fO0:R2:=fun x y H Q=>∃z i c,x= .str z∧y= .int i∧z.length≤sizeLine∧atI z.cps.toList i=some c∧Q (.str ⟨#[c]⟩) H
theorem eD8:IxR X (fM5 X.K):=by
 intro value slice pins s σ H x y v u Q I rx ry h hs
 obtain⟨p,xs,i,z,rfl,rfl,hq,he,q⟩:=h
 cases rx
 obtain⟨t,rfl⟩:=ry
 obtain⟨its,r,pl,hz⟩:=I.list hq
 obtain⟨j,h1,h2,h3,h4,h5⟩:=cH2 he
 obtain⟨w,ew,rw'⟩:=r.get h2
 have hl:=r.length
 have hn:=bA6
 have fin:EP X pins σ Q w s:=⟨z,H,I,rw',q⟩
 by_cases h0:0≤i
 · have hj:i.toNat=j:=by
    rw[seqIndex_of h0 h5]at h1
    exact Option.some.inj h1
   exact item_listR pl.isList h0 (by lia) (by rw[hj];simpa using ew) fin hs
 · have hj:(i+(its.toArray.size:Int)).toNat=j:=by
    rw[seqIndex_neg (by lia) h4]at h1
    rw[List.size_toArray,←hl]
    exact Option.some.inj h1
   exact subscriptTail_builtinR (x:=w) pl.isList.typeIs slot_list_getitem.lookup
    (wpAny_getItem_list_neg (Q:=fun r s'=>r=w∧EP X pins σ Q r s') pl.isList (by lia) (by rw[List.size_toArray]<;>lia) (by lia) (by rw[hj];simpa using ew) ⟨rfl,fin⟩) hs
theorem ix_tup:IxR X (fN7 X.K):=by
 intro value slice pins s σ H x y v u Q I rx ry h hs
 obtain⟨p,xs,i,z,rfl,rfl,hq,he,q⟩:=h
 cases rx
 obtain⟨t,rfl⟩:=ry
 obtain⟨its,r,pl,hz⟩:=I.tuple hq
 obtain⟨j,h1,h2,h3,h4,h5⟩:=cH2 he
 obtain⟨w,ew,rw'⟩:=r.get h2
 have hl:=r.length
 have hn:=bA6
 have fin:EP X pins σ Q w s:=⟨z,H,I,rw',q⟩
 exact subscriptTail_builtinR (x:=w) pl.typeIs slot_tuple_getitem.lookup
  (getItem_tuple (j:=j) (Q:=fun r s'=>r=w∧EP X pins σ Q r s') pl (by lia) (by lia) (by rw[List.size_toArray,←hl];exact h1) (by simpa using ew) ⟨rfl,fin⟩) hs
theorem ix_str:IxR X fO0:=by
 intro value slice pins s σ H x y v u Q I rx ry h hs
 obtain⟨z,i,c,rfl,rfl,hz,he,q⟩:=h
 obtain⟨t,rfl⟩:=rx
 obtain⟨t',rfl⟩:=ry
 obtain⟨j,h1,h2,h3,h4,h5⟩:=cH2 he
 have hl:z.cps.toList.length=z.length:=by simp[Str.length]
 rw[hl]at h1 h4 h5
 have hn:=bA6
 exact tail_any (typeIs_str s z t) slot_str_getitem.lookup (getItem_str (c:=c) (by
  have e1:decide (i < -(2 ^ 63:Int))=false:=decide_eq_false (by lia)
  have e2:decide (i≥2 ^ 63)=false:=decide_eq_false (by lia)
  rw[e1,e2,Bool.or_false]) (by rw[h1];simpa using h2) ⟨.str ⟨#[c]⟩,H,I.tok _,⟨_,rfl⟩,q⟩) hs
theorem cX0(its:List Value)(n j:Nat)(u:Value):Obj.mapSeq (·.setIfInBounds j u) {cls:=.type "list",data:=.seq its.toArray n}= {cls:=.type "list",data:=.seq (its.set j u).toArray n}:=by
 simp[Obj.mapSeq]
theorem Inv.lst{pins:PNS}{σ:St}{H:Hp}{s:Shared}{p:Addr}{xs:List V}(I:Inv X pins σ H s)(h:H p=some (.lst xs)):
 ∃(its:List Value) (n:Nat),w6 xs its∧s.heap.get? p=some {cls:=.type "list",data:=.seq its.toArray n}∧xs.length≤sizeLine:=by
 obtain⟨z,its,n,r,e⟩:=I.hok p _ h
 exact⟨its,n,r,e,z⟩
theorem Inv.lstUpd{pins:PNS}{σ:St}{H:Hp}{s:Shared}{p:Addr}{xs ys:List V}{its its':List Value}{n n':Nat}{f:Obj→Obj}(I:Inv X pins σ H s)(h:H p=some (.lst xs))
 (ho:s.heap.get? p=some {cls:=.type "list",data:=.seq its.toArray n}) (hf:f {cls:=.type "list",data:=.seq its.toArray n}= {cls:=.type "list",data:=.seq its'.toArray n'}) (r:w6 ys its') (hz:ys.length≤sizeLine) (t:Nat):
 Inv X pins σ (upd H p (.lst ys)) {s with heap:=s.heap.update p f,toks:=t}:=by
 have e:(s.heap.update p f).get? p=some {cls:=.type "list",data:=.seq its'.toArray n'}:=by
  rw[Heap.get?_update_self f ho (by rw[hf]<;>rfl),hf]
 refine I.write (x:=p) (e:=p) (by rw[h];trivial) (.inl rfl) (fun b u hb q=>(Heap.get?_update_other _ _ (Ne.symm hb)).trans q) ⟨_,e⟩ ?_
 exact⟨hz,its',n',r,e⟩
def fH4:V→V→V→Hp→(Hp→Prop)→Prop:=fun o i v H Q=>∃p xs k j,o= .ref p∧i= .int k∧H p=some (.lst xs)∧ixN xs.length k=some j∧Q (upd H p (.lst (xs.set j v)))
theorem dN0:eQ2 X fH4:=by
 intro pins s σ H o i v ov iv u Q I ro ri rv h
 obtain⟨p,xs,k,j,rfl,rfl,hp,hj,q⟩:=h
 cases ro
 obtain⟨t,rfl⟩:=ri
 obtain⟨its,n,r,ho,hz⟩:=I.lst hp
 obtain⟨h1,h2,h3,h4⟩:=cY7 hj
 have hl:=r.length
 have hn:=bA6
 have I':Inv X pins σ (upd H p (.lst (xs.set j v))) {s with heap:=s.heap.update p (Obj.mapSeq (·.setIfInBounds j u))}:=
  I.lstUpd hp ho (cX0 its n j u) (r.set rv j) (by rw[List.length_set];exact hz) s.toks
 by_cases h0:0≤k
 · have hk:k.toNat=j:=by
    rw[seqIndex_of h0 h4]at h1
    exact Option.some.inj h1
   exact PySem.W.ki_setAt ho h0 (by lia) (by rw[List.size_toArray,←hl];exact h4) (by rw[hk];exact⟨_,I',q⟩)
 · have hk:(k+(its.toArray.size:Int)).toNat=j:=by
    rw[seqIndex_neg (by lia) h3]at h1
    rw[List.size_toArray,←hl]
    exact Option.some.inj h1
   exact PySem.W.ki_setBack ho (by lia) (by rw[List.size_toArray,←hl];exact h3) (by lia) (by rw[hk];exact⟨_,I',q⟩)
theorem cF6(lo hi:Option Int)(n:Nat):(sliceBounds lo hi none n).1= ((HT.sIx n 0 lo:Nat):Int)∧(sliceBounds lo hi none n).2.1= ((HT.sIx n n hi:Nat):Int)∧(sliceBounds lo hi none n).2.2=1:=by
 refine⟨?_,?_,rfl⟩
 · cases lo with
   |none=>simp[sliceBounds,HT.sIx]
   |some i=>
     simp only[sliceBounds,HT.sIx,Option.getD_none,show (1:Int)>0 by decide,if_true]
     by_cases h:i<0
     ·simp only[h,if_true]<;>lia
     ·simp only[h,if_false]<;>lia
 · cases hi with
   |none=>simp[sliceBounds,HT.sIx]
   |some i=>
     simp only[sliceBounds,HT.sIx,Option.getD_none,show (1:Int)>0 by decide,if_true]
     by_cases h:i<0
     ·simp only[h,if_true]<;>lia
     ·simp only[h,if_false]<;>lia
theorem bV3(its:List Value)(lo hi:Option Int):slicePick its.toArray lo hi none= ((its.drop (HT.sIx its.length 0 lo)).take (HT.sIx its.length its.length hi-HT.sIx its.length 0 lo)).toArray:=by
 obtain⟨h1,h2,h3⟩:=cF6 lo hi its.toArray.size
 unfold slicePick
 rw[h1,h2,h3]
 simp only[sliceRange_one,pick_run,List.size_toArray]<;>rfl
def fO2(K:PySem.W.Frag):V→Option Int→Option Int→Hp→VK→Prop:=fun x lo hi H Q=>∃a xs,x= .ref a∧SqL K H a xs∧∀p,H p=none→Q (.ref p) (upd H p (.lst (bW7 xs lo hi)))
theorem dY2:SlR X (fO2 X.K):=by
 intro pins s σ H x v vl vu lo hi sl Q I rx hs pl pu h
 obtain⟨a,xs,rfl,hx,q⟩:=h
 cases rx
 obtain⟨its,r,ht,hz⟩:=I.list hx
 have hlen:=r.length
 refine⟨"list",_,slot_list_getitem.lookup,ht.isList.typeIs,?_⟩
 refine wpAny_getItem_list_slice ht.isList hs pl pu .none (by simp) ?_ (by rw[List.size_toArray]<;>lia)
 rw[bV3,←hlen]
 refine⟨.ref s.heap.objs.size,_,I.laid (t':=s.toks) (o:=.lst (bW7 xs lo hi)) (fun b ob q=>Heap.get?_push_of_some _ q) (Nat.le_refl _) ?_,rfl,q _ (I.hok.fresh (Nat.le_refl _))⟩
 exact⟨Nat.le_trans (bJ2 xs lo hi) hz,_,0,(r.drop (HT.sIx xs.length 0 lo)).take (HT.sIx xs.length xs.length hi-HT.sIx xs.length 0 lo),Heap.get?_push_size _ rfl⟩
noncomputable def aZ0:V→Bool
 | .non=>true
 | .bl _=>true
 | .int _=>true
 | .str _=>true
 |_=>false
noncomputable def eqV:V→V→Bool
 | .non,.non=>true
 | .bl a,.bl b=>a==b
 | .bl a,.int b=>(if a then 1 else 0)==b
 | .int a,.bl b=>a==(if b then 1 else 0)
 | .int a,.int b=>a==b
 | .str a,.str b=>a==b
 |_,_=>false
theorem eY4{A:Around}{s:Shared}{y x:V}{u v:Value}(ry:J6 y u)(rx:J6 x v)(fy:aZ0 y=true)(fx:aZ0 x=true):SeqAt.EqAt A s u v (eqV y x):=by
 cases y with
 |non=>
   cases ry
   cases x with
   |non=>cases rx;exact SeqAt.EqAt.same _
   |bl b=>cases rx;exact SeqAt.EqAt.none_bool b
   |int b=>obtain⟨t,rfl⟩:=rx;exact SeqAt.EqAt.none_int b t
   |str b=>obtain⟨t,rfl⟩:=rx;exact SeqAt.EqAt.none_str b t
   |_=>exact absurd (show false=true from fx) Bool.false_ne_true
 |bl a=>
   cases ry
   cases x with
   |non=>cases rx;exact SeqAt.EqAt.bool_none a
   |bl b=>cases rx;exact SeqAt.EqAt.bool_bool a b
   |int b=>obtain⟨t,rfl⟩:=rx;exact SeqAt.EqAt.bool_int a b t
   |str b=>obtain⟨t,rfl⟩:=rx;exact SeqAt.EqAt.bool_str a b t
   |_=>exact absurd (show false=true from fx) Bool.false_ne_true
 |int a=>
   obtain⟨t',rfl⟩:=ry
   cases x with
   |non=>cases rx;exact SeqAt.EqAt.int_none a t'
   |bl b=>cases rx;exact SeqAt.EqAt.int_bool a t' b
   |int b=>obtain⟨t,rfl⟩:=rx;exact SeqAt.EqAt.int_int a t' b t
   |str b=>obtain⟨t,rfl⟩:=rx;exact SeqAt.EqAt.int_str a t' b t
   |_=>exact absurd (show false=true from fx) Bool.false_ne_true
 |str a=>
   obtain⟨t',rfl⟩:=ry
   cases x with
   |non=>cases rx;exact SeqAt.EqAt.str_none a t'
   |bl b=>cases rx;exact SeqAt.EqAt.str_bool a t' b
   |int b=>obtain⟨t,rfl⟩:=rx;exact SeqAt.EqAt.str_int a t' b t
   |str b=>obtain⟨t,rfl⟩:=rx;exact SeqAt.EqAt.str_str a t' b t
   |_=>exact absurd (show false=true from fx) Bool.false_ne_true
 |_=>exact absurd (show false=true from fy) Bool.false_ne_true
def eqU(x:V)(u:Value):Bool:=match u with
 | .none=>eqV .non x
 | .bool b=>eqV (.bl b) x
 | .int i _=>eqV (.int i) x
 | .str z _=>eqV (.str z) x
 |_=>false
theorem dP8{x y:V}{u:Value}(r:J6 y u)(f:aZ0 y=true):eqU x u=eqV y x:=by
 cases y with
 |non=>cases r;rfl
 |bl b=>cases r;rfl
 |int i=>obtain⟨t,rfl⟩:=r;rfl
 |str z=>obtain⟨t,rfl⟩:=r;rfl
 |_=>exact absurd (show false=true from f) Bool.false_ne_true
theorem bM8{x:V}{xs:List V}{us:List Value}(h:w6 xs us)(f:xs.all aZ0=true):us.any (eqU x)=xs.any fun y=>eqV y x:=by
 induction h with
 |nil=>rfl
 |cons r t ih=>
   rw[List.all_cons,Bool.and_eq_true]at f
   rw[List.any_cons,List.any_cons,dP8 r f.1,ih f.2]
theorem aW3{A:Around}{s:Shared}{x:V}{v:Value}(rx:J6 x v)(fx:aZ0 x=true):∀ {xs:List V} {us:List Value},w6 xs us→xs.all aZ0=true→∀u∈us,SeqAt.EqAt A s u v (eqU x u)
 |_,_,.nil,_=>fun u hu=>by cases hu
 |y::xs,u::us,.cons r t,f=>fun u' hu=>by
   rw[List.all_cons,Bool.and_eq_true]at f
   rcases List.mem_cons.mp hu with rfl|hu
   ·rw[dP8 r f.1];exact eY4 r rx f.1 fx
   ·exact aW3 rx fx t f.2 u' hu
def inV(x:V)(xs:List V):Bool:=xs.any fun y=>eqV y x
def rIn(K:PySem.W.Frag)(neg:Bool):R2:=fun x y H Q=>∃p xs,y= .ref p∧(SqL K H p xs∨SqT K H p xs)∧aZ0 x=true∧xs.all aZ0=true∧Q (.bl (if neg then !inV x xs else inV x xs)) H
theorem dF9:OpR X (compareOp .In) (rIn X.K false):=by
 intro pins s σ H x y v u Q I rx ry h
 obtain⟨p,xs,rfl,hq,fx,fs,q⟩:=h
 cases ry
 rcases hq with hq|hq
 · obtain⟨its,r,pl,hz⟩:=I.list hq
   refine SeqAt.in_listAt (eqU x) pl.isList (fun w hw=>aW3 rx fx r fs w (by simpa using hw)) ⟨.bl _,H,I,rfl,?_⟩
   rw[show its.toArray.any (eqU x)=its.any (eqU x) by simp,bM8 r fs]
   exact q
 · obtain⟨its,r,pl,hz⟩:=I.tuple hq
   refine SeqAt.in_tupleAt (eqU x) pl (fun w hw=>aW3 rx fx r fs w (by simpa using hw)) ⟨.bl _,H,I,rfl,?_⟩
   rw[show its.toArray.any (eqU x)=its.any (eqU x) by simp,bM8 r fs]
   exact q
theorem cH6:OpR X (compareOp .NotIn) (rIn X.K true):=by
 intro pins s σ H x y v u Q I rx ry h
 obtain⟨p,xs,rfl,hq,fx,fs,q⟩:=h
 cases ry
 rcases hq with hq|hq
 · obtain⟨its,r,pl,hz⟩:=I.list hq
   refine SeqAt.notIn_listAt (eqU x) pl.isList (fun w hw=>aW3 rx fx r fs w (by simpa using hw)) ⟨.bl _,H,I,rfl,?_⟩
   rw[show its.toArray.any (eqU x)=its.any (eqU x) by simp,bM8 r fs]
   exact q
 · obtain⟨its,r,pl,hz⟩:=I.tuple hq
   refine SeqAt.notIn_tupleAt (eqU x) pl (fun w hw=>aW3 rx fx r fs w (by simpa using hw)) ⟨.bl _,H,I,rfl,?_⟩
   rw[show its.toArray.any (eqU x)=its.any (eqU x) by simp,bM8 r fs]
   exact q
theorem cD8:OpR X (compareOp .NotIn) (fun x y H Q=>∃i j,x= .str i∧y= .str j∧Q (.bl (!(!(Builtin.Str.occurrences j i 0 j.length 1).isEmpty))) H):=by
 intro pins s σ H x y v u Q I rx ry h
 obtain⟨i,j,rfl,rfl,q⟩:=h
 obtain⟨t,rfl⟩:=rx
 obtain⟨t',rfl⟩:=ry
 exact notIn_str ⟨.bl _,H,I,rfl,q⟩
theorem cE1:aB9 X (.builtin "len") (fun xs H Q=>∃p ys,xs= [.ref p]∧(SqL X.K H p ys∨SqT X.K H p ys)∧Q (.int ys.length) H):=by
 intro pins s σ H xs us Q I r h
 obtain⟨p,ys,rfl,hq,q⟩:=h
 obtain⟨u,rfl,rx⟩:=aE7 r
 cases rx
 have hn:=bA6
 rcases hq with hq|hq
 · obtain⟨its,r',pl,hz⟩:=I.list hq
   have hlen:=r'.length
   exact Calls.call_len_list pl.isList (by simp only[List.size_toArray]<;>lia) ⟨.int ys.length,H,I.tok _,⟨s.toks+1,by rw[List.size_toArray,hlen]⟩,q⟩
 · obtain⟨its,r',pl,hz⟩:=I.tuple hq
   have hlen:=r'.length
   exact len_tuple pl (by simp only[List.size_toArray]<;>lia) ⟨.int ys.length,H,I.tok _,⟨s.toks+1,by rw[List.size_toArray,hlen]⟩,q⟩
theorem cF9:aB9 X (.builtin "len") (fun xs H Q=>∃z,xs= [.str z]∧z.length≤sizeLine∧Q (.int z.length) H):=by
 intro pins s σ H xs us Q I r h
 obtain⟨z,rfl,hz,q⟩:=h
 obtain⟨u,rfl,t,rfl⟩:=aE7 r
 have hn:=bA6
 exact len_str (by lia) ⟨.int z.length,H,I.tok _,⟨_,rfl⟩,q⟩
theorem aB9.or{f:Value}{r r':List V→Hp→VK→Prop}(h:aB9 X f r)(h':aB9 X f r'):aB9 X f (fun xs H Q=>r xs H Q∨r' xs H Q):=by
 intro pins s σ H xs us Q I rs q
 rcases q with q|q
 ·exact h pins s σ H xs us Q I rs q
 ·exact h' pins s σ H xs us Q I rs q
theorem cI8:aB9 X (.type "list") (fun xs H Q=>∃p ys,xs= [.ref p]∧(SqL X.K H p ys∨SqT X.K H p ys)∧∀l,H l=none→Q (.ref l) (upd H l (.lst ys))):=by
 intro pins s σ H xs us Q I r h
 obtain⟨p,ys,rfl,hq,q⟩:=h
 obtain⟨u,rfl,rx⟩:=aE7 r
 cases rx
 have fin:∀(its:List Value),w6 ys its→ys.length≤sizeLine→∀(h':Heap) (c':Nat),(∀b o',s.heap.get? b=some o'→h'.get? b=some o')→
  h'.get? s.heap.objs.size=some {cls:=.type "list",dict:=none,data:=.seq its.toArray c',slots:= #[]}→EP X pins σ Q (.ref s.heap.objs.size) {s with heap:=h'}:=fun its r' hz h' c' kp e=>
  ⟨.ref s.heap.objs.size,_,I.laid (t':=s.toks) kp (Nat.le_refl _) (show V1 X.prog X.w _ h' _ (.lst ys) from⟨hz,its,c',r',e⟩),rfl,q _ (I.hok.fresh (Nat.le_refl _))⟩
 rcases hq with hq|hq
 · obtain⟨its,r',pl,hz⟩:=I.list hq
   have hlen:=r'.length
   obtain⟨o,ho,hc,n,hd⟩:=pl.isList
   exact call_list_seq p (.inl rfl) ho hc hd (fun h' c' kp e=>fin its r' hz h' c' kp e) (by simp only[List.size_toArray]<;>lia)
 · obtain⟨its,r',pl,hz⟩:=I.tuple hq
   have hlen:=r'.length
   obtain⟨o,ho,hc,n,hd⟩:=pl
   exact call_list_seq p (.inr rfl) ho hc hd (fun h' c' kp e=>fin its r' hz h' c' kp e) (by simp only[List.size_toArray]<;>lia)
theorem bW9:aB9 X (.type "tuple") (fun xs H Q=>∃p ys,xs= [.ref p]∧((SqL X.K H p ys∧∀l,H l=none→Q (.ref l) (upd H l (.tup ys)))∨(SqT X.K H p ys∧Q (.ref p) H))):=by
 intro pins s σ H xs us Q I r h
 obtain⟨p,ys,rfl,h⟩:=h
 obtain⟨u,rfl,rx⟩:=aE7 r
 cases rx
 rcases h with⟨hq,q⟩|⟨hq,q⟩
 · obtain⟨its,r',pl,hz⟩:=I.list hq
   have hlen:=r'.length
   refine call_tuple_list pl.isList (fun h' kp=>?_) (by simp only[List.size_toArray]<;>lia)
   have I1:Inv X pins σ H {s with heap:=h'}:=I.kept (t':=s.toks) kp
   have I2:Inv X pins σ (upd H h'.objs.size (.tup ys)) {s with heap:=h'.push {cls:=.type "tuple",data:=.seq its.toArray}}:=
    I1.laid (t':=s.toks) (fun b o e=>Heap.get?_push_of_some _ e) (Nat.le_refl _) (show V1 X.prog X.w _ _ _ (.tup ys) from⟨hz,its,r',aB5.new _ _⟩)
   exact⟨.ref h'.objs.size,_,I2,rfl,q _ (I1.hok.fresh (Nat.le_refl _))⟩
 · obtain⟨its,r',pl,hz⟩:=I.tuple hq
   exact call_tuple_same pl ⟨.ref p,H,I,rfl,q⟩
def tyV(K:PySem.W.Frag)(T:String)(x:V)(H:Hp):Prop:=match x with
 | .str _=>T= "str"
 | .int _=>T= "int"
 | .ref p=>(T= "list"∧∃xs,SqL K H p xs)∨(T= "tuple"∧∃o,K.lookup p=some o∧o.cls= .type "tuple"∧o.dict=none)∨
    (T= "dict"∧((∃kvs,H p=some (.dK kvs))∨∃kvs,H p=some (.dT kvs)))∨(T= "set"∧∃S n,H p=some (.set S n))
 |_=>False
theorem dX2{pins:PNS}{σ:St}{H:Hp}{s:Shared}{T:String}{x:V}{v:Value}(I:Inv X pins σ H s)(r:J6 x v)(ty:tyV X.K T x H):
 s.TypeIs v T∧∀a,v= .ref a→∃ob,s.heap.get? a=some ob∧ob.dict=none:=by
 cases x with
 |str z=>
   obtain⟨t,rfl⟩:=r
   cases (show T= "str" from ty)
   exact⟨typeIs_str s z t,fun _ e=>nomatch e⟩
 |int i=>
   obtain⟨t,rfl⟩:=r
   cases (show T= "int" from ty)
   exact⟨typeIs_int s i t,fun _ e=>nomatch e⟩
 |ref p=>
   cases r
   rcases ty with⟨rfl,xs,hq⟩|⟨rfl,o,hk,hc,hd⟩|⟨rfl,hk⟩|⟨rfl,S,n,hk⟩
   · obtain⟨its,_,pl,_⟩:=I.list hq
     refine⟨pl.isList.typeIs,fun a e=>?_⟩
     cases e
     obtain⟨o,n,e,c,hd,_⟩:=pl
     exact⟨o,e,hd⟩
   · refine⟨⟨o,I.kIn p o hk,hc⟩,fun a e=>?_⟩
     cases e
     exact⟨o,I.kIn _ o hk,hd⟩
   · have z:∃o,s.heap.get? p=some o∧o.ExactDict:=by
      rcases hk with⟨kvs,hk⟩|⟨kvs,hk⟩
      · obtain⟨_,_,_,_,o,_,_,e,ex,_⟩:=I.hok p _ hk
        exact⟨o,e,ex⟩
      · obtain⟨_,_,_,_,o,_,_,e,ex,_⟩:=I.hok p _ hk
        exact⟨o,e,ex⟩
     obtain⟨o,e,ex⟩:=z
     refine⟨⟨o,e,ex.1⟩,fun a e2=>?_⟩
     cases e2
     exact⟨o,e,ex.2.1⟩
   · obtain⟨o,_,_,_,e,ex,_⟩:=I.hok p _ hk
     refine⟨⟨o,e,ex.1⟩,fun a e2=>?_⟩
     cases e2
     exact⟨o,e,ex.2.1⟩
 |_=>exact False.elim ty
def fO3(K:PySem.W.Frag)(T:String)(r:V→List V→Hp→VK→Prop)(to:TE):TE:=fun σ H Q=>to σ H fun x H1=>tyV K T x H1∧r x [] H1 Q
def tBM(K:PySem.W.Frag)(T:String)(r:V→List V→Hp→VK→Prop)(to:TE)(t:TA):TE:=fun σ H Q=>to σ H fun x H1=>tyV K T x H1∧t σ H1 fun xs H2=>r x xs H2 Q
variable{o e:Expr}{es:List Expr}{to:TE}{t:TA}{name:Str}{apos cpos:Pos}{T id:String}{r:V→List V→Hp→VK→Prop}
theorem eN8(pa:PlainAttrs T)(slot:Slot T name id)(hty:typeOf (.builtin id)=pure (.type "method_descriptor"))(hm:MtR X id r)(ho:PE X o to)
 (hbase:attributeBase o name X.env (eval o X.env)=eval o X.env) (hline:(apos.endLine==cpos.line)=true):PE X (.Call (.Attribute o name apos) [] [] cpos) (fO3 X.K T r to):=by
 intro pins s σ H Q I h
 refine wpAny_Call_method0_late hbase hline (thn (ho pins s σ H _ I h) fun v s1 ⟨x,H1,I1,r1,ty,q1⟩=>?_)
 obtain⟨h1,h2⟩:=dX2 I1 r1 ty
 exact⟨T,id,pa,slot,hty,h1,h2,Calls.callWith_builtin rfl (PySem.evalArgs_none (hm pins s1 σ H1 x [] v [] Q I1 r1 .nil q1))⟩
theorem eJ2(pa:PlainAttrs T)(slot:Slot T name id)(hty:typeOf (.builtin id)=pure (.type "method_descriptor"))(hm:MtR X id r)(ho:PE X o to)(ha:PA X (e::es) t)
 (hbase:attributeBase o name X.env (eval o X.env)=eval o X.env)
 (hfew:((backTo cpos (starEach (e::es) X.env)).all (fun x=> !x.1)&&(backToKw cpos (keywordEach [] X.env)).all (fun x=>x.1.isSome)
   && decide ((e::es).length+([]:List Keyword).length+(if ([]:List Keyword).isEmpty then 0 else 1)<30))=true)
 (hline:(apos.endLine==cpos.line)=true) (hs:starEach (e::es) X.env= (false,eval e X.env)::starEach es X.env) (hplain:(backTo cpos (starEach es X.env)).any (·.1)=false):
 PE X (.Call (.Attribute o name apos) (e::es) [] cpos) (tBM X.K T r to t):=by
 intro pins s σ H Q I h
 refine wpAny_Call_method_late hbase hfew hline rfl (thn (ho pins s σ H _ I h) fun v s1 ⟨x,H1,I1,r1,ty,q1⟩=>?_)
 obtain⟨h1,h2⟩:=dX2 I1 r1 ty
 refine⟨T,id,pa,slot,hty,h1,h2,?_⟩
 have hA:=ha cpos pins s1 σ H1 _ I1 q1
 rw[hs]at hA ⊢
 refine Calls.callWith_builtin (by show (false||(backTo cpos (starEach es X.env)).any (·.1))=false;rw[hplain]<;>rfl) (Calls.evalArgs_plain ?_)
 exact thn hA fun us s2 hE1=>hE1.elim fun vs H2 I2 r2 q2=>hm pins s2 σ H2 x vs v us Q I2 r1 r2 q2
end
def MtM(X:Cx)(id:String)(r:V→List V→Hp→VK→Prop):Prop:=
 ∀(pins:PNS) (s:Shared) (σ:St) (H:Hp) (x:V) (xs:List V) (v:Value) (us:List Value) (Q:VK),Inv X pins σ H s→J6 x v→w6 xs us→r x xs H Q→
  wpAny (model X.prog X.w) X.A (call (.builtin id) (v::us)) (EP X pins σ Q) X.xe s
theorem w6.one{x:V}{us:List Value}(h:w6 [x] us):∃u,us= [u]∧J6 x u:=by
 cases h with
 |cons r t=>cases t;exact⟨_,rfl,r⟩
theorem w6.two{x y:V}{us:List Value}(h:w6 [x,y] us):∃u v,us= [u,v]∧J6 x u∧J6 y v:=by
 cases h with
 |cons r t=>
   obtain⟨v,rfl,q⟩:=w6.one t
   exact⟨_,v,rfl,r,q⟩
theorem w6.zero:∀ {us:List Value},w6 [] us→us= []
 |_,.nil=>rfl
theorem w6.dropLast{xs:List V}{us:List Value}(h:w6 xs us):w6 xs.dropLast us.dropLast:=by
 induction h with
 |nil=>exact .nil
 |cons r t ih=>
   cases t with
   |nil=>exact .nil
   |cons q t'=>exact .cons r ih
theorem w6.eraseIdx:∀ {xs:List V} {us:List Value} (i:Nat),w6 xs us→w6 (xs.eraseIdx i) (us.eraseIdx i)
 |_,_,_,.nil=>.nil
 |_,_,0,.cons _ t=>t
 |_,_,i+1,.cons r t=>.cons r (w6.eraseIdx i t)
theorem w6.reverse{xs:List V}{us:List Value}(h:w6 xs us):w6 xs.reverse us.reverse:=by
 induction h with
 |nil=>exact .nil
 |cons r t ih=>rw[List.reverse_cons,List.reverse_cons];exact w6.append ih (.cons r .nil)
theorem cT7{α:Type}(l:List α):l.eraseIdx (l.length-1)=l.dropLast:=by
 induction l with
 |nil=>rfl
 |cons a r ih=>
   cases r with
   |nil=>rfl
   |cons b r=>
     have e:(a::b::r).length-1= ((b::r).length-1)+1:=by
      have h1:(a::b::r).length=r.length+2:=rfl
      have h2:(b::r).length=r.length+1:=rfl
      lia
     rw[e,List.eraseIdx_cons_succ,ih]
     all_goals rfl
section
variable{X:Cx}{pins:PNS}{σ:St}{H:Hp}{s:Shared}{l b:Addr}{xs ys zs:List V}
theorem Inv.lset{its its':List Value}{n:Nat}{f:Array Value→Array Value}{t':Nat}(I:Inv X pins σ H s)(hH:H l=some (.lst xs))
 (e:s.heap.get? l=some {cls:=.type "list",data:=.seq its.toArray n}) (hf:f its.toArray=its'.toArray) (hv:w6 ys its') (hz:ys.length≤sizeLine):
 Inv X pins σ (upd H l (.lst ys)) {s with heap:=s.heap.update l (Obj.mapSeq f),toks:=t'}:=by
 have q:=PySem.IsL.update e f
 rw[hf]at q
 refine I.write (x:=l) (e:=l) (by rw[hH];exact trivial) (.inl rfl) (fun b' u hb hu=>(Heap.get?_update_other s.heap (Obj.mapSeq f) (Ne.symm hb)).trans hu) ⟨_,q⟩ ?_
 exact⟨hz,its',_,hv,q⟩
theorem Inv.lnew{its:List Value}{t':Nat}(I:Inv X pins σ H s)(hv:w6 ys its)(hz:ys.length≤sizeLine):
 Inv X pins σ (upd H s.heap.objs.size (.lst ys)) {s with heap:=s.heap.push {cls:=.type "list",data:=.seq its.toArray},toks:=t'}:=
 I.laid (fun _ _ q=>Heap.get?_push_of_some _ q) (Nat.le_refl _) ⟨hz,its,0,hv,Heap.get?_push_size _ rfl⟩
theorem Inv.fresh(I:Inv X pins σ H s):H s.heap.objs.size=none:=I.hok.fresh (Nat.le_refl _)
theorem Inv.lstM(I:Inv X pins σ H s)(hH:H l=some (.lst xs)):xs.length≤sizeLine∧∃(its:List Value) (n:Nat),w6 xs its∧xs.length=its.length∧s.heap.get? l=some {cls:=.type "list",data:=.seq its.toArray n}:=by
 obtain⟨z,its,n,r,e⟩:=I.hok l _ hH
 exact⟨z,its,n,r,r.length,e⟩
theorem dS0{n:Nat}(h:n≤sizeLine):Builtin.List.listTooLong n=false:=by
 unfold Builtin.List.listTooLong
 exact decide_eq_false (by lia)
end
section
variable{X:Cx}
def eE5:V→List V→Hp→VK→Prop:=fun x vs H Q=>∃l xs y,x= .ref l∧vs= [y]∧H l=some (.lst xs)∧xs.length<sizeLine∧Q .non (upd H l (.lst (xs++[y])))
theorem cA2:MtM X "list.append" eE5:=by
 intro pins s σ H x vs v us Q I rx rv h
 obtain⟨l,xs,y,rfl,rfl,hH,hz,q⟩:=h
 cases rx
 obtain⟨u,rfl,ru⟩:=rv.one
 obtain⟨z,its,n,r,hl,e⟩:=I.lstM hH
 refine call_meets F.slot_list_append ⟨_,e,rfl⟩ F.entry_list_append (F.args_list_append_2 _ _) (PySem.list_append l its.toArray n u (by rw[List.size_toArray];lia)) ⟨e,?_⟩
 refine⟨.non,_,I.lset (its':=its++[u]) hH e (by simp) (r.append (.cons ru .nil)) ?_,rfl,q⟩
 rw[List.length_append,List.length_singleton]
 lia
def eI8:V→List V→Hp→VK→Prop:=fun x vs H Q=>∃l b xs zs,x= .ref l∧vs= [.ref b]∧H l=some (.lst xs)∧H b=some (.lst zs)∧xs.length+zs.length≤sizeLine∧Q .non (upd H l (.lst (xs++zs)))
theorem dJ2:MtM X "list.extend" eI8:=by
 intro pins s σ H x vs v us Q I rx rv h
 obtain⟨l,b,xs,zs,rfl,rfl,hH,hB,hz,q⟩:=h
 cases rx
 obtain⟨u,rfl,ru⟩:=rv.one
 cases ru
 obtain⟨z,its,n,r,hl,e⟩:=I.lstM hH
 obtain⟨z2,its2,n2,r2,hl2,e2⟩:=I.lstM hB
 have hsz:its.toArray.size+its2.toArray.size≤sizeLine:=by rw[List.size_toArray,List.size_toArray];lia
 have hlong:¬(!its.toArray.isEmpty&&Builtin.List.listTooLong (its.toArray.size+its2.toArray.size))=true:=by
  rw[dS0 hsz,Bool.and_false]
  exact Bool.false_ne_true
 refine call_meets F.slot_list_extend ⟨_,e,rfl⟩ F.entry_list_extend (F.args_list_extend_2 _ _)
  (AutoSeq1.list_extend_list_list_0 l its.toArray n b its2.toArray n2 hlong (by rw[List.size_toArray];lia) (by lia)) ⟨e,e2,?_⟩
 refine⟨.non,_,I.lset (its':=its++its2) hH e (by simp) (r.append r2) ?_,rfl,q⟩
 rw[List.length_append]
 lia
def fN9:V→List V→Hp→VK→Prop:=fun x vs H Q=>∃l xs y,x= .ref l∧vs= []∧H l=some (.lst xs)∧xs[xs.length-1]? =some y∧Q y (upd H l (.lst xs.dropLast))
theorem eZ6:MtM X "list.pop" fN9:=by
 intro pins s σ H x vs v us Q I rx rv h
 obtain⟨l,xs,y,rfl,rfl,hH,hy,q⟩:=h
 cases rx
 have hus:=rv.zero
 subst hus
 obtain⟨z,its,n,r,hl,e⟩:=I.lstM hH
 obtain⟨u,hu,ru⟩:=r.get hy
 have hy':its.toArray[its.toArray.size-1]? =some u:=by
  show its.toArray[its.length-1]? =some u
  rw[←Array.getElem?_toList,←hl]
  exact hu
 refine call_meets F.slot_list_pop ⟨_,e,rfl⟩ F.entry_list_pop (F.args_list_pop_1 _) (MeetsSeq.list_pop_last l its.toArray n u hy' (by rw[List.size_toArray];lia)) ⟨e,?_⟩
 refine⟨y,_,I.lset (its':=its.dropLast) hH e ?_ r.dropLast ?_,ru,q⟩
 · show its.toArray.eraseIdxIfInBounds (its.toArray.size-1)=its.dropLast.toArray
   rw[List.size_toArray,List.eraseIdxIfInBounds_toArray,cT7]
 · rw[List.length_dropLast]
   lia
def fL3:R2:=fun x y H Q=>∃l b xs zs,x= .ref l∧y= .ref b∧H l=some (.lst xs)∧H b=some (.lst zs)∧xs.length+zs.length≤sizeLine∧∀p,H p=none→Q (.ref p) (upd H p (.lst (xs++zs)))
theorem eP3:OpR X (binaryOp .Add) fL3:=by
 intro pins s σ H x y v u Q I rx ry h
 obtain⟨l,b,xs,zs,rfl,rfl,hH,hB,hz,q⟩:=h
 cases rx
 cases ry
 obtain⟨z,its,n,r,hl,e⟩:=I.lstM hH
 obtain⟨z2,its2,n2,r2,hl2,e2⟩:=I.lstM hB
 refine PySem.P.add_list e e2 ?_ (by rw[List.size_toArray,List.size_toArray];lia)
 have ea:its.toArray++its2.toArray= (its++its2).toArray:=by simp
 rw[ea]
 exact⟨.ref _,_,I.lnew (t':=s.toks) (r.append r2) (by rw[List.length_append];lia),rfl,q _ I.fresh⟩
end
section
variable{prog:Program}{w:World}{A:Around}{E:VSP}{s:Shared}
end
section
variable{X:Cx}
end
end L2
namespace Att
open PySem PySem.W PySem.Calls PyProof.Rows
theorem bL0{P:Params}{h:Heap}:∀(ns:List Int) (vs:List Value),WellAll P h vs (ns.map WData.int)→IntsAre vs ns:=by
 intro ns
 induction ns with
 |nil=>
   intro vs w
   rw[List.map_nil]at w
   cases w
   exact .nil
 |cons n ns ih=>
   intro vs w
   rw[List.map_cons]at w
   cases w with
   |cons a b=>
     cases a
     exact .cons _ _ (ih _ b)
theorem dE1{l:OpenLaw}{n:Nat}(hn:l.most=some n){P:Params}{h:Heap}{args:List WData}{vals:List Value}
 (hpre:l.row.toRowW.claim.pre args=true) (hwl:WellAll P h vals args):
 ∃a vs ns,vals= [Value.ref a]∧args= [WData.list (ns.map WData.int)]∧h.get? a=some {cls:=.type "list",data:=.seq vs.toArray}∧IntsAre vs ns∧ns.length≤n:=by
 have hsh:WShape.hasAll [] args [.list .int]=true:=(pre_splitW hpre).1
 have hc:l.pre.holds [] {args:=args}=true:=(pre_splitW hpre).2
 obtain⟨d,r,rfl,h1,h2⟩:=hasAllW_cons hsh
 obtain rfl:=hasAllW_nil h2
 obtain⟨xs,rfl,h3⟩:=hasW_list h1
 obtain⟨ns,rfl⟩:=items_int h3
 have hlen:ns.length≤n:=by
  unfold OpenLaw.pre at hc
  have h4:(WTm.not (.lt (.lit (.int (n:Int))) (.len (.arg 0)))).holds [] {args:= [.list (ns.map .int)]}=true:=by
   have h4:=(holds_andW hc).1
   rw[hn]at h4
   exact h4
  have h5:=condW_of h4 (w_not (w_lt w_lit (w_len_list (w_arg rfl))))
  rw[List.length_map]at h5
  refine Nat.le_of_not_lt fun q=>?_
  have q':(n:Int)<((ns.length:Nat):Int):=by lia
  first
   |(rw[decide_eq_true q']at h5;exact absurd h5 (by decide))
   |(simp at h5;lia)
 cases hwl with
 |cons w1 w2=>
   cases w2
   cases w1 with
   |list ho hall=>exact⟨_,_,ns,rfl,rfl,ho,bL0 ns _ hall,hlen⟩
theorem dD5(l:OpenLaw)(args:List WData):l.row.toRowW.claim.post args (.bool true) args=true:=
 postW_of (r:=l.row.toRowW) (X:=(true==true))
  (show WShape.has [] (.bool true) .bool=true by first|rfl|decide|simp[WShape.has,WShape.arms,WShape.armsAll])
  (show (WTm.eq .res (.lit (.bool true))).value [] {args:=args,res:=some (.bool true),after:=args}=some (.bool (true==true))from w_eq_bool (w_res rfl) w_lit) rfl
theorem attach_call{l:OpenLaw}{n:Nat}{q:Program}{loose:List Str}{XP:(Str→Option Value)→Heap→Prop}{YP:World→Heap→Prop}{d:DefRec}
 (hn:l.most=some n) (hdf:d.params.defaults= [])
 (call:∀(w:World) (s₀ s₁:Shared) (mg mb:Str→Option Value) (fa:Addr) (o:Obj) (pm cd doc:Value) (a:Addr) (vs:List Value) (ns:List Int),
   Ground q loose [] XP w s₀ mg mb s₁.heap→YP w s₁.heap→
   s₁.heap.get? fa=some o→o.data= .func (docDef d.name d.params d.body d.scope pm cd doc)→s₁.heap.CodeRec cd d.name→mg d.name=some (.ref fa)→
   s₁.heap.get? a=some {cls:=.type "list",data:=.seq vs.toArray}→IntsAre vs ns→ns.length≤n→s₁.gens= #[]→
   codeAny (model l.prog w) callerA (.call (.ref fa) ⟨[.ref a], []⟩) (fun r s'=>r= .ok (.ret (.bool true))∧OldK s₁.heap s'.heap∧s'.os=s₁.os∧AllBare s'.gens) s₁):
 WalkO q loose XP YP l.row.toRowW d [] (fun f vs=>PySem.call f vs):=by
 intro w s₀ s₁ mg mb G Y fa o pm cd doc dV kV ho hd hcd hD hmg hg args vals as hpre hlay hrd hwl hlo
 obtain rfl:dV= .none:=Dflts.none hD hdf
 obtain rfl:kV= .none:=Dflts.noKw hD
 obtain⟨a,vs,ns,rfl,rfl,hobj,hints,hlen⟩:=dE1 hn hpre hwl
 refine enter_call (codeAny_mono (call w s₀ s₁ mg mb fa o pm cd doc a vs ns G Y ho (fd_plain hd) hcd hmg hobj hints hlen hg) fun r s' hq=>?_)
 obtain⟨rfl,h2,h3,h4⟩:=hq
 exact⟨.inl ⟨.bool true,.bool true, [],rfl,fun _=>rfl,.bool true,dD5 l _,fun _=>⟨List.Pairwise.nil,fun _ hm=>(nomatch hm)⟩⟩,h2,h3,h4⟩
section
variable{prog:Program}{w:World}{A:Around}{E:VSP}{s:Shared}{K:Frag}
end
end Att
namespace L2
open PySem PySem.Spec PyProof.Rows
theorem cB5:∀ {vs:List Value} {ns:List Int},IntsAre vs ns→w6 (ns.map V.int) vs
 |_,_,.nil=>.nil
 |_,_,.cons n t h=>.cons ⟨t,rfl⟩ (cB5 h)
noncomputable def dX5(H:Hp):Prop:=∀b,H b=none∨∃o xs,H b=some (.frz o (.lst xs))
theorem dU0{P:Program}{w:World}{K:PySem.W.Frag}{mg mb:Str→Option Value}{CX:CXT}{k:Nat}{fa a:Addr}{fd:FuncData}{x:Str}{sp:Sp}{s₁:Shared}{vs:List Value}{ns:List Int}
 (KX:K.In s₁.heap) (hns:s₁.heap.Ns mainGlobals mg) (hb:s₁.heap.Ns builtinsNs mb) (hbb:∀x:Str,x≠ "__name__"→mb x=bootBuiltins x) (hlim:s₁.heap.NoLimit) (hg:s₁.gens= #[])
 (ha:s₁.heap.get? a=some {cls:=.type "list",data:=.seq vs.toArray}) (hi:IntsAre vs ns) (hl:ns.length≤sizeLine) (hr:aA5 k callerA)
 (F:∀base:Heap,K.In base→base.Ns mainGlobals mg→J8 P w K mg base CX k fa fd [x] sp) (hbind:∀(s:Shared) (u:Value),BindsTo s fd ⟨[u], []⟩ [(x,u)])
 (hsp:∀H:Hp,dX5 H→SqL K H a (ns.map V.int)→sp [.ref a] H (fun v _=>v= .bl true) fun _ _ _=>False)
 (hCX:∀H e s',CX [] H s₁ (fun _ _ _=>False) e s'→False):
 codeAny (model P w) callerA (.call (.ref fa) ⟨[.ref a], []⟩) (fun r s'=>r= .ok (.ret (.bool true))∧OldK s₁.heap s'.heap∧s'.os=s₁.os∧AllBare s'.gens) s₁:=by
 have rv:=cB5 hi
 have lenV:=hi.length
 -- from an abstract heap in which nothing but the script may be tracked
 have core:∀H:Hp,dX5 H→SqL K H a (ns.map V.int)→HOk P w H s₁.heap→(∀b,H b≠none→b=a)→(H a≠none→K.lookup a=none)→
  codeAny (model P w) callerA (.call (.ref fa) ⟨[.ref a], []⟩) (fun r s'=>r= .ok (.ret (.bool true))∧OldK s₁.heap s'.heap∧s'.os=s₁.os∧AllBare s'.gens) s₁:=by
  intro H hO hS hok hA hK
  have base_of:∀ {b:Addr} {o:Obj},s₁.heap.get? b=some o→H b=none→(cC6 s₁.heap H).get? b=some o:=fun e n=>dM2 e n
  have noA:∀ {b:Addr} {o:Obj} {es:Array DictEntry} {ep:Nat},s₁.heap.get? b=some o→o.data= .dict es ep→H b=none:=fun {b o es ep} e d=>by
   cases q:H b with
   |none=>rfl
   |some u=>
     have e':b=a:=hA b (by rw[q];simp)
     subst e'
     rw[ha]at e;cases e
     have d':Data.seq vs.toArray _=Data.dict es ep:=d
     cases d'
  have nsK:∀ {b:Addr} {m:Str→Option Value},s₁.heap.Ns b m→(cC6 s₁.heap H).Ns b m:=fun {b m} ⟨o,es,ep,e,d,r⟩=>⟨o,es,ep,base_of e (noA e d),d,r⟩
  have hKb:K.In (cC6 s₁.heap H):=fun b o e=>base_of (KX b o e) (by
   cases q:H b with
   |none=>rfl
   |some u=>
     have e':b=a:=hA b (by rw[q];simp)
     subst e'
     rw[hK (by rw[q];simp)]at e;cases e)
  have hM:Mod K mg (cC6 s₁.heap H):=⟨hKb,nsK hns,⟨mb,nsK hb,hbb⟩,let ⟨mc,h1,h2⟩:=hlim;⟨mc,nsK h1,h2⟩⟩
  have e0:cU6 P w K mg (cC6 s₁.heap H) callerA [] s₁ H:=⟨rfl,hM,fun b o e=>dY3 e,Nat.le_of_eq (dE4 _ _),trivial,fun b hb=>absurd (show b∈([]:List Addr)from hb) (by simp),hok,.of_eq hg⟩
  refine codeAny_mono ((F _ hKb (nsK hns)).run callerA [] s₁ H ⟨[.ref a], []⟩ [.ref a] [.ref a] _ _ hr e0 (hbind s₁ (.ref a)) (.cons rfl .nil) (hsp H hO hS)) fun r s' h=>?_
  cases r with
  |error e=>exact(hCX H e s' h).elim
  |ok fl=>
    cases fl with
    |next=>exact False.elim h
    |brk=>exact False.elim h
    |cont=>exact False.elim h
    |ret u=>
      obtain⟨v,H',os,bare,un,hok',r',q⟩:=h
      have q':v= .bl true:=q
      subst q'
      obtain rfl:u=Value.bool true:=r'
      refine⟨rfl,OldK.of_keep fun b o e=>?_,os,bare⟩
      cases q:H b with
      |none=>exact un.keep b o e q (by intro z;exact absurd (show b∈([]:List Addr)from z) (by simp)) (by simp)
      |some u=>
        rcases hO b with z|⟨ob,xs,z⟩
        ·rw[q]at z;cases z
        · have z2:=un.frzs b ob _ z
          obtain⟨e1,_⟩:=hok b _ z
          obtain⟨e2,_⟩:=hok' b _ z2
          rw[e]at e1;cases e1
          exact e2
 cases hk:K.lookup a with
 |some o=>
   -- the script is one of the module's own objects
   have e:=KX a o hk
   rw[ha]at e
   cases e
   refine core (fun _=>none) (fun _=>.inl rfl) (.inr ⟨_,vs.toArray,_,hk,rfl,rfl,rfl,by rw[List.size_toArray,lenV];exact hl,by simpa using rv⟩) (fun b u z=>by have z':(none:Option HO)=some u:=z;cases z') (fun b z=>absurd rfl z) fun z=>absurd rfl z
 |none=>
   refine core (fun b=>if b=a then some (.frz {cls:=.type "list",data:=.seq vs.toArray} (.lst (ns.map V.int)))else none) (fun b=>?_) (.inl (.inr ⟨{cls:=.type "list",data:=.seq vs.toArray},if_pos rfl⟩)) (fun b u z=>?_) (fun b z=>?_) fun _=>hk
   · by_cases hb:b=a
     ·exact .inr ⟨_,_,if_pos hb⟩
     ·exact .inl (if_neg hb)
   · by_cases hb:b=a
     · have z':=(if_pos hb).symm.trans z
       cases z'
       subst hb
       exact⟨ha,by rw[List.length_map];exact hl,vs,_,rv,ha⟩
     · have z':=(if_neg hb).symm.trans z
       cases z'
   · by_cases hb:b=a
     ·exact hb
     ·exact absurd (if_neg hb) z
theorem walk_of{l:PySem.W.OpenLaw}{n k:Nat}{q:Program}{loose:List Str}{XP:(Str→Option Value)→Heap→Prop}{YP:World→Heap→Prop}{d:DefRec}{K:Params→PySem.W.Frag}{CX:World→CXT}{sp:World→Sp}{x:Str}
 (hn:l.most=some n) (hn2:n≤sizeLine) (hdf:d.params.defaults= []) (hr:aA5 k callerA)
 (hY:∀(w:World) (h:Heap),YP w h→(K w.params).In h)
 (F:∀(w:World) (mg:Str→Option Value) (fa:Addr) (h:Heap),(K w.params).In h→h.Ns mainGlobals mg→mg d.name=some (.ref fa)→
   ∃fd:FuncData,(∀(s:Shared) (u:Value),BindsTo s fd ⟨[u], []⟩ [(x,u)])∧
    ∀base:Heap,(K w.params).In base→base.Ns mainGlobals mg→J8 l.prog w (K w.params) mg base (CX w) k fa fd [x] (sp w))
 (hsp:∀(w:World) (H:Hp) (a:Addr) (ns:List Int),ns.length≤n→dX5 H→SqL (K w.params) H a (ns.map V.int)→sp w [.ref a] H (fun v _=>v= .bl true) fun _ _ _=>False)
 (hCX:∀(w:World) (H:Hp) (s:Shared) (e:Value) (s':Shared),CX w [] H s (fun _ _ _=>False) e s'→False):
 PySem.W.WalkO q loose XP YP l.row.toRowW d [] (fun f vs=>PySem.call f vs):=by
 refine Att.attach_call hn hdf fun w s₀ s₁ mg mb fa o pm cd doc a vs ns G Y ho hd hcd hmg hobj hints hlen hg=>?_
 have KX:=hY w _ Y
 obtain⟨fd,hb,hF⟩:=F w mg fa _ KX G.T.g hmg
 exact dU0 KX G.T.g G.T.b G.T.builtins G.T.nolimit hg hobj hints (Nat.le_trans hlen hn2) hr hF hb (fun H hO hS=>hsp w H a ns hlen hO hS) fun H e s'=>hCX w H s₁ e s'
noncomputable def aA1(s:Stmt):Arguments:=match s with
 | .FunctionDef _ a _ _ _ _ _ _ _ _=>a
 |_=>{posonlyargs:= [],args:= [],vararg:=none,kwonlyargs:= [],kw_defaults:= [],kwarg:=none,defaults:= []}
noncomputable def V8(s:Stmt):List Stmt:=match s with
 | .FunctionDef _ _ b _ _ _ _ _ _ _=>b
 |_=> []
noncomputable def j6(s:Stmt):Scope:=match s with
 | .FunctionDef _ _ _ _ _ _ sc _ _ _=>sc
 |_=>{kind:=.function,names:= [],isGenerator:=false,isCoroutine:=false}
noncomputable abbrev CX0:CXT:=fun _ _ _ _ _ _=>False
noncomputable abbrev E0:XK:=fun _ _ _=>False
theorem eJ7{X:Cx}:cE6 CX0 X E0:=fun _ _ _ _ _ _ _ h=>h.elim
structure Fun(K:PySem.W.Frag)(x qual:Str)(st:Stmt)(f:Addr)(fd:FuncData):Prop where
 ex:∃(oc:Value) (od:Option Addr) (kV doc pm:Value) (an:Option Addr) (cdv ct:Value) (osl:Array (Option Value)),
  fd=PySem.W.fnOf x qual (aA1 st) (V8 st) (j6 st) .none kV doc pm an cdv ct∧K.lookup f=some ⟨oc,od,.func fd,osl⟩∧PySem.W.codeIn K cdv qual=true
 kp:PySem.W.keepIn K (.ref f)=true
section
variable{P:Program}{w:World}{K:PySem.W.Frag}{mg:Str→Option Value}{base:Heap}
theorem Fun.ok{x qual:Str}{st:Stmt}{f:Addr}{fd:FuncData}{N ps:List Str}{k:Nat}{sp:Sp}(F:Fun K x qual st f fd)(S:m7 N ps (j6 st))(len:∀vs H Q E,sp vs H Q E→vs.length=ps.length)
 (hbody:∀(cdv:Value) (A:Around) (outer:List Env) (s:Shared) (H:Hp) (vs:List V) (Q:VK) (E:XK),aA5 k (A.deeper (envOfC qual (j6 st) s.heap.objs.size f cdv))→sp vs H Q E→
   ∃t,PSs (cO0 CX0 P w K mg base N qual (j6 st) f cdv A outer s H E).nox (V8 st) t∧t {nx:=fun _ H'=>Q .non H',rt:=Q} (start N vs) H):J8 P w K mg base CX0 (k+1) f fd ps sp:=by
 obtain⟨oc,od,kV,doc,pm,an,cdv,ct,osl,rfl,lk,hcd⟩:=F.ex
 refine fJ8 lk hcd S len fun A outer s H vs Q E hr hsp=>?_
 obtain⟨t,h,q⟩:=hbody cdv A outer s H vs Q E hr hsp
 exact⟨t,h.nox,q⟩
theorem Fun.binds{x qual:Str}{st:Stmt}{f:Addr}{fd:FuncData}{ps:List Str}(F:Fun K x qual st f fd)
 (h:∀(kV doc pm:Value) (an:Option Addr) (cdv ct:Value) (us:List Value),us.length=ps.length→bindArgs (PySem.W.fnOf x qual (aA1 st) (V8 st) (j6 st) .none kV doc pm an cdv ct) ⟨us, []⟩=pure (ps.zip us)):bC6 K fd ps []:=by
 obtain⟨oc,od,kV,doc,pm,an,cdv,ct,osl,rfl,lk,hcd⟩:=F.ex
 exact .all (h kV doc pm an cdv ct)
theorem cG5{x qual:Str}{st:Stmt}{f:Addr}{oc:Value}{od an:Option Addr}{osl:Array (Option Value)}{kV doc pm cdv ct:Value}(l:K.lookup f=some ⟨oc,od,.func (PySem.W.fnOf x qual (aA1 st) (V8 st) (j6 st) .none kV doc pm an cdv ct),osl⟩)
 (c:PySem.W.codeIn K cdv qual=true) (k:PySem.W.keepIn K (.ref f)=true):Fun K x qual st f (PySem.W.fnOf x qual (aA1 st) (V8 st) (j6 st) .none kV doc pm an cdv ct):=⟨⟨oc,od,kV,doc,pm,an,cdv,ct,osl,rfl,l,c⟩,k⟩
end
section
variable{X:Cx}
theorem pv(i:Nat){x:Str}{pos:Pos}(hN:X.N[i]? =some x)(hv:Vis X.env.scope x)(hd:(x==("__debug__" :Str))=false)
 (hcd:(x==("__classdict__" :Str))=false):PE X (.Name x pos) (eN7 i):=dR6 hN hv hd hcd
end
noncomputable def Same(H H':Hp):Prop:=∀b o,H b=some o→H' b=some o
theorem Same.refl(H:Hp):Same H H:=fun _ _ h=>h
theorem Same.trans{H H1 H2:Hp}(a:Same H H1)(b:Same H1 H2):Same H H2:=fun c o h=>b c o (a c o h)
theorem Same.free{H H':Hp}(e:Same H H'){l:Addr}(h:H' l=Option.none):H l=Option.none:=by
 cases q:H l with
 |none=>rfl
 |some o=>
   rw[e l o q]at h
   cases h
theorem Same.seq{K:PySem.W.Frag}{H H':Hp}{a:Addr}{xs:List V}(e:Same H H')(h:SqL K H a xs):SqL K H' a xs:=by
 rcases h with(h|⟨o,h⟩)|h
 ·exact .inl (.inl (e _ _ h))
 ·exact .inl (.inr ⟨o,e _ _ h⟩)
 ·exact .inr h
section
variable{κ:Type}[DecidableEq κ]
noncomputable def aU0(kvs:List (κ×V))(k:κ):Option V:=(kvs.find? fun kv=>decide (kv.1=k)).map (·.2)
noncomputable def aN3(kvs:List (κ×V))(k:κ)(v:V):List (κ×V):=
 if (kvs.any fun kv=>decide (kv.1=k))=true then kvs.map (fun kv=>if kv.1=k then (kv.1,v)else kv)else kvs++[(k,v)]
noncomputable def eL1(kvs:List (κ×V))(k:κ):List (κ×V):=kvs.filter fun kv=>decide (kv.1≠k)
theorem bD9{p:κ×V}{r:List (κ×V)}{k:κ}(e:p.1=k):aU0 (p::r) k=some p.2:=by simp[aU0,List.find?_cons,e]
theorem bC7{p:κ×V}{r:List (κ×V)}{k:κ}(e:¬p.1=k):aU0 (p::r) k=aU0 r k:=by simp[aU0,List.find?_cons,e]
theorem cM8(k:κ):∀kvs:List (κ×V),(kvs.any fun kv=>decide (kv.1=k))= (aU0 kvs k).isSome
 |[]=>rfl
 |p::r=>by
   rw[List.any_cons]
   by_cases e:p.1=k
   ·simp only[bD9 e,decide_eq_true e,Bool.true_or,Option.isSome_some]
   ·rw[bC7 e,decide_eq_false e,Bool.false_or];exact cM8 k r
theorem bJ8(kvs:List (κ×V))(k:κ)(v:V):(aN3 kvs k v).length≤kvs.length+1:=by
 unfold aN3
 split
 ·rw[List.length_map];lia
 ·rw[List.length_append,List.length_cons,List.length_nil];lia
theorem bV1.isSome_eq{o:Option V}{u:Option Value}(r:bV1 o u):o.isSome=u.isSome:=by
 cases o with
 |none=>cases u with
   |none=>rfl
   |some _=>exact(show False from r).elim
 |some _=>cases u with
   |none=>exact(show False from r).elim
   |some _=>rfl
theorem bV1.getD{o:Option V}{u:Option Value}{d:V}{d':Value}(r:bV1 o u)(rd:J6 d d'):J6 (o.getD d) (u.getD d'):=by
 cases o with
 |none=>cases u with
   |none=>exact rd
   |some _=>exact(show False from r).elim
 |some _=>cases u with
   |none=>exact(show False from r).elim
   |some _=>exact r
theorem KV.val{kvs:List (κ×V)}{vs:List (κ×Value)}(r:KV kvs vs)(k:κ):bV1 (aU0 kvs k) (valueAt vs k):=by
 unfold KV at r
 induction r with
 |nil=>exact True.intro
 |@cons p q ps qs h t ih=>
   obtain⟨h1,h2⟩:=h
   by_cases e:p.1=k
   · have e':q.1=k:=h1.symm.trans e
     have b:valueAt (q::qs) k=some q.2:=by simp[valueAt,List.find?_cons,e']
     rw[bD9 e,b];exact h2
   · have e':¬q.1=k:=fun z=>e (h1.trans z)
     have b:valueAt (q::qs) k=valueAt qs k:=by simp[valueAt,List.find?_cons,e']
     rw[bC7 e,b];exact ih
theorem KV.any{kvs:List (κ×V)}{vs:List (κ×Value)}(r:KV kvs vs)(k:κ):(kvs.any fun kv=>decide (kv.1=k))=vs.any fun kv=>decide (kv.1=k):=by
 unfold KV at r
 induction r with
 |nil=>rfl
 |cons h t ih=>rw[List.any_cons,List.any_cons,ih,h.1]
theorem KV.repl{kvs:List (κ×V)}{vs:List (κ×Value)}(r:KV kvs vs)(k:κ){y:V}{u:Value}(ry:J6 y u):
 KV (kvs.map fun kv=>if kv.1=k then (kv.1,y)else kv) (vs.map fun kv=>if kv.1=k then (kv.1,u)else kv):=by
 unfold KV at r ⊢
 induction r with
 |nil=>exact .nil
 |@cons p q ps qs h t ih=>
   rw[List.map_cons,List.map_cons]
   refine .cons ?_ ih
   obtain⟨h1,h2⟩:=h
   by_cases e:p.1=k
   ·rw[if_pos e,if_pos (h1.symm.trans e)];exact⟨h1,ry⟩
   ·rw[if_neg e,if_neg (fun z=>e (h1.trans z))];exact⟨h1,h2⟩
theorem KV.put{kvs:List (κ×V)}{vs:List (κ×Value)}(r:KV kvs vs)(k:κ){y:V}{u:Value}(ry:J6 y u):KV (aN3 kvs k y) (stored vs k u):=by
 unfold aN3 stored
 rw[r.any k]
 by_cases e:(vs.any fun kv=>decide (kv.1=k))=true
 ·rw[if_pos e,if_pos e];exact r.repl k ry
 ·rw[if_neg e,if_neg e];exact Paired.snoc r ⟨rfl,ry⟩
theorem KV.drop{kvs:List (κ×V)}{vs:List (κ×Value)}(r:KV kvs vs)(k:κ):KV (eL1 kvs k) (without vs k):=by
 unfold KV at r ⊢
 unfold eL1 without
 induction r with
 |nil=>exact .nil
 |@cons p q ps qs h t ih=>
   obtain⟨h1,h2⟩:=h
   rw[List.filter_cons,List.filter_cons]
   by_cases e:p.1=k
   · have a:¬decide (p.1≠k)=true:=by simp[e]
     have b:¬decide (q.1≠k)=true:=by simp[h1.symm.trans e]
     rw[if_neg a,if_neg b];exact ih
   · have e':¬q.1=k:=fun z=>e (h1.trans z)
     have a:decide (p.1≠k)=true:=by simp[e]
     have b:decide (q.1≠k)=true:=by simp[e']
     rw[if_pos a,if_pos b];exact .cons ⟨h1,h2⟩ ih
theorem KV.length{kvs:List (κ×V)}{vs:List (κ×Value)}(r:KV kvs vs):kvs.length=vs.length:=Paired.length r
end
theorem bS8{P:Program}{w:World}{k:Key}{u:Value}(r:J6 (kV k) u):(M3 P w).is k u=true:=by
 cases k with
 |inl i=>obtain⟨t,e⟩:=(show ∃t,u=Value.int i t from r);subst e;exact cL4 P w i t
 |inr x=>obtain⟨t,e⟩:=(show ∃t,u=Value.str x t from r);subst e;exact cO3 P w x t
theorem bZ7{P:Program}{w:World}:∀ {ks:List Key} {us:List Value},w6 (ks.map kV) us→ItemsAre (M3 P w) ks us
 |[],_,r=>by rw[List.map_nil]at r;cases r;exact .nil
 |k::ks,_,r=>by
   rw[List.map_cons]at r
   cases r with
   |cons h t=>exact .cons (bS8 h) (bZ7 t)
abbrev KT(H:Hp):List (List Key×V)→List (List Key×Addr×Value)→Prop:=Paired fun p q=>p.1=q.1∧H q.2.1=some (.tup (p.1.map kV))∧J6 p.2 q.2.2
theorem KT.val{H:Hp}{kvs:List (List Key×V)}{xs:List (List Key×Addr×Value)}(r:KT H kvs xs)(k:List Key):bV1 (aU0 kvs k) ((atKey xs k).map (·.2)):=by
 induction r with
 |nil=>exact True.intro
 |@cons p q ps qs h t ih=>
   obtain⟨h1,_,h2⟩:=h
   by_cases e:p.1=k
   · have e':q.1=k:=h1.symm.trans e
     have b:atKey (q::qs) k=some q.2:=by simp[atKey,List.find?_cons,e']
     rw[bD9 e,b];exact h2
   · have e':¬q.1=k:=fun z=>e (h1.trans z)
     have b:atKey (q::qs) k=atKey qs k:=by simp[atKey,List.find?_cons,e']
     rw[bC7 e,b];exact ih
theorem KT.repl{H:Hp}{kvs:List (List Key×V)}{xs:List (List Key×Addr×Value)}(r:KT H kvs xs)(k:List Key){y:V}{u:Value}(ry:J6 y u):
 KT H (kvs.map fun kv=>if kv.1=k then (kv.1,y)else kv) (xs.map (putAt k u)):=by
 induction r with
 |nil=>exact .nil
 |@cons p q ps qs h t ih=>
   rw[List.map_cons,List.map_cons]
   refine .cons ?_ ih
   obtain⟨h1,h2,h3⟩:=h
   unfold putAt
   by_cases e:p.1=k
   ·rw[if_pos e,if_pos (h1.symm.trans e)];exact⟨h1,h2,ry⟩
   ·rw[if_neg e,if_neg (fun z=>e (h1.trans z))];exact⟨h1,h2,h3⟩
theorem KT.put{H:Hp}{kvs:List (List Key×V)}{xs:List (List Key×Addr×Value)}(r:KT H kvs xs)(k:List Key){b:Addr}{y:V}{u:Value}(hb:H b=some (.tup (k.map kV)))(ry:J6 y u):
 KT H (aN3 kvs k y) (storedH xs k b u):=by
 have e:(kvs.any fun kv=>decide (kv.1=k))= (atKey xs k).isSome:=by
  rw[cM8,(r.val k).isSome_eq,Option.isSome_map]
 unfold aN3 storedH
 rw[e]
 by_cases q:(atKey xs k).isSome=true
 ·rw[if_pos q,if_pos q];exact r.repl k ry
 ·rw[if_neg q,if_neg q];exact Paired.snoc r ⟨rfl,hb,ry⟩
theorem KT.keeps{H H':Hp}{kvs:List (List Key×V)}{xs:List (List Key×Addr×Value)}(r:KT H kvs xs)(ht:∀b ys,H b=some (.tup ys)→H' b=some (.tup ys)):KT H' kvs xs:=
 Paired.mapP r fun _ _ z=>⟨z.1,ht _ _ z.2.1,z.2.2⟩
section
variable{P:Program}{w:World}{H:Hp}{h:Heap}{a:Addr}
theorem dS5{u:HO}(ok:HOk P w H h)(e:Rd H a u):V1 P w H h a u:=e.ok ok
theorem cJ4{kvs:List (Key×V)}(ok:HOk P w H h)(e:Rd H a (.dK kvs)):kvs.length≤sizeLine∧(a==sysModules)=false∧∃vs,KV kvs vs∧h.DictOf (M3 P w) a vs:=
 show V1 P w H h a (.dK kvs)from dS5 ok e
theorem dP7{kvs:List (Key×V)}(ok:HOk P w H h)(e:H a=some (.dK kvs)):kvs.length≤sizeLine∧(a==sysModules)=false∧∃vs,KV kvs vs∧h.DictOf (M3 P w) a vs:=cJ4 ok (.inl e)
theorem bT7{ks:List Key}(ok:HOk P w H h)(e:H a=some (.tup (ks.map kV))):(tupleKind (M3 P w)).is h ks a:=by
 obtain⟨_,its,r,o,h1,h2,n,h3⟩:=(show V1 P w H h a (.tup (ks.map kV))from ok a _ e)
 exact⟨o,its.toArray,n,h1,h2,(Prod.mk.inj h3).1,by simpa using bZ7 r⟩
theorem dA0{kvs:List (List Key×V)}(ok:HOk P w H h)(e:Rd H a (.dT kvs)):kvs.length≤sizeLine∧(a==sysModules)=false∧
 ∃xs,KT H kvs xs∧h.DictOfH (tupleKind (M3 P w)) a xs:=by
 obtain⟨z,y,xs,r,o,es,ep,h1,h2,h3,h4,h5⟩:=(show V1 P w H h a (.dT kvs)from dS5 ok e)
 refine⟨z,y,xs,r,o,es,ep,h1,h2,h3,h4,fun x hx=>?_,h5⟩
 have all:∀ {l:List (List Key×V)} {m:List (List Key×Addr×Value)},KT H l m→∀x∈m,(tupleKind (M3 P w)).is h x.1 x.2.1:=by
  intro l m q
  induction q with
  |nil=>intro x hx;exact nomatch hx
  |@cons p q ps qs hq t ih=>
    intro x hx
    rcases List.mem_cons.mp hx with e|hx
    · subst e
      exact bT7 ok (by rw[←hq.1];exact hq.2.1)
    ·exact ih x hx
 exact all r x hx
theorem fB2{kvs:List (List Key×V)}(ok:HOk P w H h)(e:H a=some (.dT kvs)):kvs.length≤sizeLine∧(a==sysModules)=false∧
 ∃xs,KT H kvs xs∧h.DictOfH (tupleKind (M3 P w)) a xs:=dA0 ok (.inl e)
end
def bU9(H:Hp)(a:Addr)(y:V)(r:Option V):Prop:=
 (∃kvs k,Rd H a (.dK kvs)∧y=kV k∧r=aU0 kvs k)∨∃kvs k b,Rd H a (.dT kvs)∧y= .ref b∧H b=some (.tup (k.map kV))∧r=aU0 kvs k
def dH1(H:Hp)(a:Addr)(y v:V)(H':Hp):Prop:=
 (∃kvs k,H a=some (.dK kvs)∧y=kV k∧kvs.length<sizeLine∧H'=upd H a (.dK (aN3 kvs k v)))∨
 ∃kvs k b,H a=some (.dT kvs)∧y= .ref b∧H b=some (.tup (k.map kV))∧kvs.length<sizeLine∧H'=upd H a (.dT (aN3 kvs k v))
theorem bU9.k{H:Hp}{a:Addr}{kvs:List (Key×V)}{k:Key}(e:H a=some (.dK kvs)):bU9 H a (kV k) (aU0 kvs k):=.inl ⟨kvs,k,.inl e,rfl,rfl⟩
theorem bU9.t{H:Hp}{a b:Addr}{kvs:List (List Key×V)}{k:List Key}(e:H a=some (.dT kvs))(eb:H b=some (.tup (k.map kV))):bU9 H a (.ref b) (aU0 kvs k):=.inr ⟨kvs,k,b,.inl e,rfl,eb,rfl⟩
theorem dH1.k{H:Hp}{a:Addr}{kvs:List (Key×V)}{k:Key}{v:V}(e:H a=some (.dK kvs))(hl:kvs.length<sizeLine):dH1 H a (kV k) v (upd H a (.dK (aN3 kvs k v))):=.inl ⟨kvs,k,e,rfl,hl,rfl⟩
theorem dH1.t{H:Hp}{a b:Addr}{kvs:List (List Key×V)}{k:List Key}{v:V}(e:H a=some (.dT kvs))(eb:H b=some (.tup (k.map kV)))(hl:kvs.length<sizeLine):
 dH1 H a (.ref b) v (upd H a (.dT (aN3 kvs k v))):=.inr ⟨kvs,k,b,e,rfl,eb,hl,rfl⟩
section
variable{X:Cx}{pins:PNS}{σ:St}{H:Hp}{s:Shared}{a:Addr}{y v:V}{u r:Value}{o:Option V}{A:Around}{E:VSP}
theorem Inv.big(I:Inv X pins σ H s):sysModules<s.heap.objs.size:=by
 have h:mainGlobals<s.heap.objs.size:=(I.mod.glob.keeps I.bk).lt
 exact Nat.lt_trans (by decide) h
theorem fN4{Q:VSP}(hu:A.units+1<cLine)(I:Inv X pins σ H s)(g:bU9 H a y o)(ry:J6 y u)(h:∀s',Inv X pins σ H s'→Q (.bool o.isSome) s'):
 wpAny (model X.prog X.w) A (compareOp .In u (.ref a)) Q E s:=by
 rcases g with⟨kvs,k,e,ey,l⟩|⟨kvs,k,b,e,ey,eb,l⟩
 · subst ey
   obtain⟨z,hd,vs,rel,dd⟩:=cJ4 I.hok e
   refine wpAny_in_of (bS8 ry) hd dd.mapOf ?_
   rw[←(rel.val k).isSome_eq,←l]
   exact h _ (I.tok _)
 · subst ey
   cases (show u=Value.ref b from ry)
   obtain⟨z,hd,xs,rel,dd⟩:=dA0 I.hok e
   refine wpAny_in_heap (tupleKind_room_in1 hu) (bT7 I.hok eb) hd dd ?_
   have q:=(rel.val k).isSome_eq
   rw[Option.isSome_map]at q
   rw[←q,←l]
   exact h _ (I.tok _)
theorem eA2{Q:VSP}(hu:A.units+1<cLine)(I:Inv X pins σ H s)(g:bU9 H a y o)(ry:J6 y u)(h:∀s',Inv X pins σ H s'→Q (.bool (!o.isSome)) s'):
 wpAny (model X.prog X.w) A (compareOp .NotIn u (.ref a)) Q E s:=by
 rcases g with⟨kvs,k,e,ey,l⟩|⟨kvs,k,b,e,ey,eb,l⟩
 · subst ey
   obtain⟨z,hd,vs,rel,dd⟩:=cJ4 I.hok e
   refine wpAny_notIn_of (bS8 ry) hd dd.mapOf ?_
   rw[←(rel.val k).isSome_eq,←l]
   exact h _ (I.tok _)
 · subst ey
   cases (show u=Value.ref b from ry)
   obtain⟨z,hd,xs,rel,dd⟩:=dA0 I.hok e
   refine wpAny_notIn_heap (tupleKind_room_in1 hu) (bT7 I.hok eb) hd dd ?_
   have q:=(rel.val k).isSome_eq
   rw[Option.isSome_map]at q
   rw[←q,←l]
   exact h _ (I.tok _)
theorem cZ6{h':Heap}{t':Nat}{ob:HO}(I:Inv X pins σ H s)(mu:Mut (H a))(hs:Heap.SameBut a s.heap h')(he:∃q,h'.get? a=some q)(new:V1 X.prog X.w (upd H a ob) h' a ob):
 Inv X pins σ (upd H a ob) {s with heap:=h',toks:=t'}:=
 I.write (x:=a) (e:=a) mu (.inl rfl) (fun b q hb z=>(hs.2 b hb).trans z) he new
theorem dU9{P:Program}{w:World}{H':Hp}{h':Heap}{kvs:List (Key×V)}{vs:List (Key×Value)}(z:kvs.length≤sizeLine)(hd:(a==sysModules)=false)(rel:KV kvs vs)(dd:h'.DictOf (M3 P w) a vs):
 V1 P w H' h' a (.dK kvs):=⟨z,hd,vs,rel,dd⟩
theorem dG8{H':Hp}{Q:Unit→Shared→Prop}(hu:A.units+1<cLine)(I:Inv X pins σ H s)(g:dH1 H a y v H')(ry:J6 y u)(rv:J6 v r)(h:∀s',Inv X pins σ H' s'→Q () s'):
 wpAny (model X.prog X.w) A (setItem (.ref a) u r) Q E s:=by
 rcases g with⟨kvs,k,e,ey,l,eH⟩|⟨kvs,k,b,e,ey,eb,l,eH⟩
 · subst ey eH
   obtain⟨z,hd,vs,rel,dd⟩:=dP7 I.hok e
   have hz:vs.length≤sizeLine:=by rw[←rel.length];exact z
   have hl:(aN3 kvs k v).length≤sizeLine:=by have:=bJ8 kvs k v;lia
   refine wpAny_setItem_pairs (hsz:=hz) (bS8 ry) dd fun h' dd' hs=>h _ ?_
   have he:∃q,h'.get? a=some q:=let ⟨q,_,_,hq,_⟩:=dd';⟨q,hq⟩
   exact cZ6 I (by rw[e];exact True.intro) hs he (dU9 hl hd (rel.put k rv) dd')
 · subst ey eH
   cases (show u=Value.ref b from ry)
   obtain⟨z,hd,xs,rel,dd⟩:=fB2 I.hok e
   have hz:xs.length≤sizeLine:=by rw[←Paired.length rel];exact z
   have hl:(aN3 kvs k v).length≤sizeLine:=by have:=bJ8 kvs k v;lia
   refine wpAny_setItem_heap (hsz:=hz) (tupleKind_room_in1 hu) (bT7 I.hok eb) dd fun h' dd' hs=>h _ ?_
   obtain⟨q,es,ep,hq,h2,h3,h4,_,h5⟩:=dd'
   refine cZ6 I (by rw[e];exact True.intro) hs ⟨q,hq⟩ ⟨hl,hd,_,(rel.put k eb rv).keeps fun c ys ec=>?_,q,es,ep,hq,h2,h3,h4,h5⟩
   rw[J7 (fI6 ec e (fun z=>nomatch z))]
   exact ec
end
section
variable{X:Cx}{pins:PNS}{σ:St}{H:Hp}{s:Shared}{a:Addr}{kvs:List (Key×V)}{k:Key}{u:Value}{A:Around}{E:VSP}
theorem fB0{Q:VSP}(I:Inv X pins σ H s)(e:Rd H a (.dK kvs))(h:∀t s',Inv X pins σ H s'→Q (.int kvs.length t) s'):wpAny (model X.prog X.w) A (call (.builtin "len") [.ref a]) Q E s:=by
 obtain⟨z,hd,vs,rel,dd⟩:=cJ4 I.hok e
 refine call_len_dict hd dd (by rw[←rel.length];rw[sizeLine_eq]at z;lia) ?_
 rw[←rel.length]
 exact h _ _ (I.tok _)
end
section
variable{X:Cx}{o i e value:Expr}{pos pos' tpos:Pos}{td ty tv:TE}
end
theorem dM8{P:Program}{w:World}{H:Hp}(h:Heap)(hb:sysModules<h.objs.size):V1 P w H (h.push {cls:=.type "dict",data:=.dict #[]}) h.objs.size (.dK []):=
 ⟨Nat.zero_le _,beq_eq_false_iff_ne.mpr (Ne.symm (Nat.ne_of_lt hb)), [],.nil,Heap.DictOf.new h⟩
def eR9:TE:=fun _ H Q=>∀p,H p=none→Q (.ref p) (upd H p (.dK []))
section
variable{X:Cx}{pos:Pos}
theorem dP5:PE X (.Dict [] [] pos) eR9:=fun pins s σ H Q I h=>
 wpAny_Dict_empty ⟨.ref s.heap.objs.size,_,I.laid (a:=s.heap.objs.size) (o:=.dK []) (t':=s.toks) (fun _ _ q=>Heap.get?_push_of_some _ q) (Nat.le_refl _) (dM8 s.heap I.big),rfl,h _ (I.hok.fresh (Nat.le_refl _))⟩
end
structure M1(X:Cx)(o:Expr)(m:Str)(apos:Pos)(e:Expr)(cpos:Pos):Prop where
 base:attributeBase o m X.env (eval o X.env)=eval o X.env
 few:((backTo cpos (starEach [e] X.env)).all (fun x=> !x.1)&&(backToKw cpos (keywordEach [] X.env)).all (fun x=>x.1.isSome)
  && decide (([e]:List Expr).length+([]:List Keyword).length+(if ([]:List Keyword).isEmpty then 0 else 1)<30))=true
 line:(apos.endLine==cpos.line)=true
 trees:backTo cpos (starEach [e] X.env)= [(false,eval e X.env)]
structure M2(X:Cx)(o:Expr)(m:Str)(apos:Pos)(e f:Expr)(cpos:Pos):Prop where
 base:attributeBase o m X.env (eval o X.env)=eval o X.env
 few:((backTo cpos (starEach [e,f] X.env)).all (fun x=> !x.1)&&(backToKw cpos (keywordEach [] X.env)).all (fun x=>x.1.isSome)
  && decide (([e,f]:List Expr).length+([]:List Keyword).length+(if ([]:List Keyword).isEmpty then 0 else 1)<30))=true
 line:(apos.endLine==cpos.line)=true
 trees:backTo cpos (starEach [e,f] X.env)= [(false,eval e X.env),(false,eval f X.env)]
section
variable{X:Cx}{pins:PNS}{σ:St}{H:Hp}{s:Shared}{a:Addr}{y d:V}{u r:Value}{o:Option V}{A:Around}{E:VSP}
theorem eT7{Q:VSP}(hu:A.units+1<cLine)(I:Inv X pins σ H s)(g:bU9 H a y o)(ry:J6 y u)(rd:J6 d r)(h:∀w' s',Inv X pins σ H s'→J6 (o.getD d) w'→Q w' s'):
 wpAny (model X.prog X.w) A (call (.builtin "dict.get") [.ref a,u,r]) Q E s:=by
 rcases g with⟨kvs,k,e,ey,l⟩|⟨kvs,k,b,e,ey,eb,l⟩
 · subst ey
   obtain⟨z,hd,vs,rel,dd⟩:=cJ4 I.hok e
   refine call_meetsIn PySem.F.slot_dict_get dd.typeIs PySem.F.entry_dict_get (PySem.F.args_dict_get_3 _ _ _) (meets_dict_get_default (M3 X.prog X.w) a (bS8 ry) hd r) ⟨_,dd.mapOf,h _ _ (I.tok _) ?_⟩
   rw[l]
   exact(rel.val k).getD rd
 · subst ey
   cases (show u=Value.ref b from ry)
   obtain⟨z,hd,xs,rel,dd⟩:=dA0 I.hok e
   refine call_meetsIn PySem.F.slot_dict_get dd.typeIs PySem.F.entry_dict_get (PySem.F.args_dict_get_3 _ _ _) (meetsH_dict_get_default (tupleKind (M3 X.prog X.w)) a b hd r) ⟨tupleKind_room_in1 hu,k,xs,bT7 I.hok eb,dd,h _ _ (I.tok _) ?_⟩
   rw[l]
   exact(rel.val k).getD rd
end
section
variable{X:Cx}{o e f:Expr}{apos cpos:Pos}{td ty tx:TE}
end
section
variable{X:Cx}{pins:PNS}{σ:St}{H:Hp}{s:Shared}{a:Addr}{kvs:List (Key×V)}{A:Around}{E:VSP}
end
section
variable{X:Cx}{pins:PNS}{σ:St}{H:Hp}{s:Shared}{a:Addr}{y:V}{u:Value}{A:Around}{E:VSP}
end
section
variable{X:Cx}
theorem dH9:aB9 X (.builtin "len") (fun xs H Q=>∃a kvs,xs= [V.ref a]∧H a=some (.dK kvs)∧Q (.int kvs.length) H):=by
 intro pins s σ H xs us Q I r h
 obtain⟨a,kvs,rfl,ha,q⟩:=h
 obtain⟨u,rfl,ru⟩:=aE7 r
 cases ru
 exact fB0 I (.inl ha) fun t s' I'=>⟨.int kvs.length,H,I',⟨t,rfl⟩,q⟩
end
section
variable{κ:Type}[DecidableEq κ]
end
end L2
namespace DL
open PySem PySem.Spec L2
open PyProof.Rows hiding St
inductive D where
 |non|bl (b:Bool)|int (i:Int)|str (x:Str)|tup (l:List D)|ref (i:Nat)|fn (x:Str)|ty (n:String)
inductive DO where
 |lst (l:List D)|rol (l:List D)|dct (l:List (Key×D))|rod (l:List (Key×D))
noncomputable abbrev DH:=List DO
abbrev DPP:=D→DH→Prop
noncomputable abbrev DSt:=List (Option D)
structure Wc where
 K:PySem.W.Frag
 mg:Str→Option Value
noncomputable abbrev wc(X:Cx):Wc:=⟨X.K,X.mg⟩
mutual
noncomputable def d9(c:Wc)(μ:List Addr)(H:Hp):D→V→Prop
 | .non,v=>v= .non
 | .bl b,v=>v= .bl b
 | .int i,v=>v= .int i
 | .str x,v=>v= .str x
 | .ty n,v=>v= .ty n
 | .fn x,v=>∃a,c.mg x=some (.ref a)∧v= .ref a
 | .ref i,v=>∃a,μ[i]? =some a∧v= .ref a
 | .tup l,v=>∃a vs,v= .ref a∧SqT c.K H a vs∧o9 c μ H l vs
noncomputable def o9(c:Wc)(μ:List Addr)(H:Hp):List D→List V→Prop
 |[],vs=>vs= []
 |d::ds,vs=>∃v r,vs=v::r∧d9 c μ H d v∧o9 c μ H ds r
end
def aA7(c:Wc)(μ:List Addr)(H:Hp):List (Key×D)→List (Key×V)→Prop
 |[],kvs=>kvs= []
 |(k,d)::r,kvs=>∃v t,kvs= (k,v)::t∧d9 c μ H d v∧aA7 c μ H r t
structure Ext(μ:List Addr)(H:Hp)(μ':List Addr)(H':Hp):Prop where
 pre:μ <+:μ'
 new:∀a∈μ',a∉μ→H a=none
 oth:∀b o,H b=some o→b∉μ→H' b=some o
 tup:∀b xs,H b=some (.tup xs)→H' b=some (.tup xs)
 frz:∀b o u,H b=some (.frz o u)→H' b=some (.frz o u)
theorem Ext.refl(μ:List Addr)(H:Hp):Ext μ H μ H:=⟨List.prefix_refl _,fun a h n=>absurd h n,fun _ _ h _=>h,fun _ _ h=>h,fun _ _ _ h=>h⟩
theorem Ext.trans{μ μ1 μ2:List Addr}{H H1 H2:Hp}(a:Ext μ H μ1 H1)(b:Ext μ1 H1 μ2 H2):Ext μ H μ2 H2 where
 pre:=a.pre.trans b.pre
 new:=fun x h n=>by
  by_cases h1:x∈μ1
  ·exact a.new x h1 n
  · have e1:=b.new x h h1
    rcases e:H x with _|o
    ·rfl
    ·rw[a.oth x o e n]at e1;exact eH5 e1
 oth:=fun x o e n=>by
  refine b.oth x o (a.oth x o e n) fun h1=>?_
  have:=a.new x h1 n
  rw[e]at this;exact eH5 this
 tup:=fun x xs e=>b.tup x xs (a.tup x xs e)
 frz:=fun x o u e=>b.frz x o u (a.frz x o u e)
theorem Ext.lay{μ:List Addr}{H:Hp}{p:Addr}(h:H p=none)(o:HO):Ext μ H μ (upd H p o):=
 ⟨List.prefix_refl _,fun a h n=>absurd h n,fun b o' q _=>by rw[J7 (K4 q h)];exact q,fun b xs q=>by rw[J7 (K4 q h)];exact q,fun b o' u q=>by rw[J7 (K4 q h)];exact q⟩
theorem Ext.add{μ:List Addr}{H:Hp}{p:Addr}(h:H p=none)(o:HO):Ext μ H (μ++[p]) (upd H p o):=
 ⟨List.prefix_append _ _,fun a ha n=>by
  rcases List.mem_append.mp ha with z|z
  ·exact absurd z n
  ·rw[List.mem_singleton.mp z];exact h,fun b o' q _=>by rw[J7 (K4 q h)];exact q,fun b xs q=>by rw[J7 (K4 q h)];exact q,fun b o' u q=>by rw[J7 (K4 q h)];exact q⟩
theorem Ext.mut{μ:List Addr}{H:Hp}{p:Addr}{o':HO}(hp:p∈μ)(h:H p=some o')(n1:∀xs,o'≠ .tup xs)(n2:∀o u,o'≠ .frz o u)(o:HO):Ext μ H μ (upd H p o):=
 ⟨List.prefix_refl _,fun a h n=>absurd h n,fun b o2 q n=>by rw[J7 (fun e=>n (by rw[e];exact hp))];exact q,fun b xs q=>by
  rw[J7 (fun e=>by subst e;rw[h]at q;cases q;exact n1 _ rfl)];exact q,
  fun b oo u q=>by
   rw[J7 (fun e=>by subst e;rw[h]at q;cases q;exact n2 _ _ rfl)];exact q⟩
theorem Ext.sqT{μ μ':List Addr}{K:PySem.W.Frag}{H H':Hp}(k:Ext μ H μ' H'){a:Addr}{xs:List V}(h:SqT K H a xs):SqT K H' a xs:=by
 rcases h with(h|⟨o,h⟩)|h
 ·exact .inl (.inl (k.tup _ _ h))
 ·exact .inl (.inr ⟨o,k.frz _ _ _ h⟩)
 ·exact .inr h
def RoL(K:PySem.W.Frag)(H:Hp)(a:Addr)(xs:List V):Prop:=(∃o,H a=some (.frz o (.lst xs)))∨(SqL K (fun _=>none) a xs)
theorem dM6{K:PySem.W.Frag}{H:Hp}{a:Addr}{xs:List V}(h:SqL K (fun _=>none) a xs):SqL K H a xs:=by
 rcases h with(h|⟨o,h⟩)|h
 ·exact J1 h
 ·exact J1 h
 ·exact .inr h
theorem RoL.sq{K:PySem.W.Frag}{H:Hp}{a:Addr}{xs:List V}(h:RoL K H a xs):SqL K H a xs:=by
 rcases h with⟨o,h⟩|h
 ·exact .inl (.inr ⟨o,h⟩)
 ·exact dM6 h
theorem Ext.roL{μ μ':List Addr}{K:PySem.W.Frag}{H H':Hp}(k:Ext μ H μ' H'){a:Addr}{xs:List V}(h:RoL K H a xs):RoL K H' a xs:=by
 rcases h with⟨o,h⟩|h
 ·exact .inl ⟨o,k.frz _ _ _ h⟩
 ·exact .inr h
section
variable{c:Wc}{μ μ':List Addr}{H H':Hp}
theorem cC7{μ μ':List Addr}(h:μ <+:μ'){i:Nat}{a:Addr}(e:μ[i]? =some a):μ'[i]? =some a:=by
 obtain⟨t,rfl⟩:=h
 have:i<μ.length:=by
  rcases Nat.lt_or_ge i μ.length with q|q
  ·exact q
  ·rw[List.getElem?_eq_none q]at e;exact J1 e
 rw[List.getElem?_append_left this];exact e
mutual
theorem d9.mono(x:Ext μ H μ' H'):∀ {d:D} {v:V},d9 c μ H d v→d9 c μ' H' d v
 | .non,_,h=>h
 | .bl _,_,h=>h
 | .int _,_,h=>h
 | .str _,_,h=>h
 | .ty _,_,h=>h
 | .fn _,_,h=>h
 | .ref i,v,h=>by
   unfold d9 at h ⊢
   obtain⟨a,e,r⟩:=h
   exact⟨a,cC7 x.pre e,r⟩
 | .tup l,v,h=>by
   unfold d9 at h ⊢
   obtain⟨a,vs,e,q,r⟩:=h
   exact⟨a,vs,e,x.sqT q,o9.mono x r⟩
theorem o9.mono(x:Ext μ H μ' H'):∀ {l:List D} {vs:List V},o9 c μ H l vs→o9 c μ' H' l vs
 |[],_,h=>h
 |d::ds,vs,h=>by
   unfold o9 at h ⊢
   obtain⟨v,r,e,q,t⟩:=h
   exact⟨v,r,e,d9.mono x q,o9.mono x t⟩
end
theorem aA7.mono(x:Ext μ H μ' H'):∀ {l:List (Key×D)} {vs:List (Key×V)},aA7 c μ H l vs→aA7 c μ' H' l vs
 |[],_,h=>h
 |(_,d)::ds,vs,h=>by
  obtain⟨v,r,e,q,t⟩:=h
  exact⟨v,r,e,d9.mono x q,aA7.mono x t⟩
theorem o9.nil:o9 c μ H [] []:=rfl
theorem o9.cons{d:D}{v:V}{ds:List D}{vs:List V}(h:d9 c μ H d v)(t:o9 c μ H ds vs):o9 c μ H (d::ds) (v::vs):=⟨v,vs,rfl,h,t⟩
theorem o9.length:∀ {l:List D} {vs:List V},o9 c μ H l vs→l.length=vs.length
 |[],_,h=>by cases h;rfl
 |_::_,_,h=>by obtain⟨v,r,rfl,_,t⟩:=h;simp[o9.length t]
theorem o9.get:∀ {l:List D} {vs:List V} {i:Nat} {d:D},o9 c μ H l vs→l[i]? =some d→∃v,vs[i]? =some v∧d9 c μ H d v
 |[],_,_,_,_,e=>by simp at e
 |_::_,_,0,_,h,e=>by
   obtain⟨v,r,rfl,q,t⟩:=h
   simp at e;subst e
   exact⟨v,rfl,q⟩
 |_::_,_,i+1,_,h,e=>by
   obtain⟨v,r,rfl,q,t⟩:=h
   simp at e
   obtain⟨w,h1,h2⟩:=o9.get t e
   exact⟨w,by simpa using h1,h2⟩
theorem o9.append:∀ {l l':List D} {vs vs':List V},o9 c μ H l vs→o9 c μ H l' vs'→o9 c μ H (l++l') (vs++vs')
 |[],_,_,_,h,t=>by cases h;exact t
 |_::_,_,_,_,h,t=>by
   obtain⟨v,r,rfl,q,u⟩:=h
   exact⟨v,r++_,rfl,q,o9.append u t⟩
theorem o9.take:∀(n:Nat) {l:List D} {vs:List V},o9 c μ H l vs→o9 c μ H (l.take n) (vs.take n)
 |0,_,_,_=>rfl
 |_+1, [],_,h=>by cases h;rfl
 |n+1,_::_,_,h=>by
   obtain⟨v,r,rfl,q,u⟩:=h
   exact⟨v,r.take n,rfl,q,o9.take n u⟩
theorem o9.drop:∀(n:Nat) {l:List D} {vs:List V},o9 c μ H l vs→o9 c μ H (l.drop n) (vs.drop n)
 |0,_,_,h=>h
 |_+1, [],_,h=>by cases h;rfl
 |n+1,_::_,_,h=>by
   obtain⟨v,r,rfl,q,u⟩:=h
   exact o9.drop n u
theorem o9.set{d:D}{v:V}(hv:d9 c μ H d v):∀(n:Nat) {l:List D} {vs:List V},o9 c μ H l vs→o9 c μ H (l.set n d) (vs.set n v)
 |_, [],_,h=>by cases h;rfl
 |0,_::_,_,h=>by
   obtain⟨w,r,rfl,q,u⟩:=h
   exact⟨v,r,rfl,hv,u⟩
 |n+1,_::_,_,h=>by
   obtain⟨w,r,rfl,q,u⟩:=h
   exact⟨w,r.set n v,rfl,q,o9.set hv n u⟩
theorem o9.reverse:∀ {l:List D} {vs:List V},o9 c μ H l vs→o9 c μ H l.reverse vs.reverse
 |[],_,h=>by cases h;rfl
 |_::_,_,h=>by
   obtain⟨w,r,rfl,q,u⟩:=h
   simp only[List.reverse_cons]
   exact o9.append (o9.reverse u) ⟨w, [],rfl,q,rfl⟩
theorem o9.dropLast{l:List D}{vs:List V}(h:o9 c μ H l vs):o9 c μ H l.dropLast vs.dropLast:=by
 rw[List.dropLast_eq_take,List.dropLast_eq_take,h.length]
 exact h.take _
noncomputable def aM9:Option DO→Prop
 |some (.rol _)=>True
 |some (.rod _)=>True
 |_=>False
def aK7(c:Wc)(μ:List Addr)(H:Hp)(a:Addr):DO→Prop
 | .lst l=>∃vs,H a=some (.lst vs)∧o9 c μ H l vs
 | .rol l=>∃vs,RoL c.K H a vs∧o9 c μ H l vs
 | .dct l=>∃kvs,H a=some (.dK kvs)∧aA7 c μ H l kvs
 | .rod l=>∃kvs o,H a=some (.frz o (.dK kvs))∧aA7 c μ H l kvs
structure J0(c:Wc)(μ:List Addr)(G:DH)(H:Hp):Prop where
 len:μ.length=G.length
 inj:∀(i j:Nat) (a:Addr),μ[i]? =some a→μ[j]? =some a→i=j∨aM9 G[i]? ∨aM9 G[j]?
 obj:∀(i:Nat) (o:DO) (a:Addr),G[i]? =some o→μ[i]? =some a→aK7 c μ H a o
variable{G:DH}
theorem lt_of_get{α:Type}{l:List α}{i:Nat}{x:α}(e:l[i]? =some x):i<l.length:=by
 rcases Nat.lt_or_ge i l.length with q|q
 ·exact q
 ·rw[List.getElem?_eq_none q]at e;exact J1 e
theorem J0.at(h:J0 c μ G H){i:Nat}{o:DO}(e:G[i]? =some o):∃a,μ[i]? =some a∧aK7 c μ H a o:=by
 have q:i<μ.length:=by rw[h.len];exact lt_of_get e
 exact⟨μ[i],List.getElem?_eq_getElem q,h.obj i o _ e (List.getElem?_eq_getElem q)⟩
theorem aK7.mono(x:Ext μ H μ' H'){a:Addr}{o:DO}(h:aK7 c μ H a o)(e:H' a=H a∨aM9 (some o)):aK7 c μ' H' a o:=by
 rcases o with l|l|l|l
 ·
   obtain⟨vs,q,r⟩:=h
   rcases e with e|e
   ·exact⟨vs,e.trans q,r.mono x⟩
   ·exact e.elim
 ·obtain⟨vs,q,r⟩:=h;exact⟨vs,x.roL q,r.mono x⟩
 ·
   obtain⟨vs,q,r⟩:=h
   rcases e with e|e
   ·exact⟨vs,e.trans q,r.mono x⟩
   ·exact e.elim
 ·obtain⟨vs,o,q,r⟩:=h;exact⟨vs,o,x.frz _ _ _ q,r.mono x⟩
theorem aK7.some_of{a:Addr}{o:DO}(h:aK7 c μ H a o)(n:¬aM9 (some o)):∃u,H a=some u∧(∀xs,u≠ .tup xs)∧∀o' u',u≠ .frz o' u':=by
 rcases o with l|l|l|l
 ·obtain⟨vs,q,_⟩:=h;exact⟨_,q,(fun _ z=>nomatch z),(fun _ _ z=>nomatch z)⟩
 ·exact(n trivial).elim
 ·obtain⟨vs,q,_⟩:=h;exact⟨_,q,(fun _ z=>nomatch z),(fun _ _ z=>nomatch z)⟩
 ·exact(n trivial).elim
theorem J0.same(h:J0 c μ G H)(k:Ext μ H μ H')(e:∀a o,H a=some o→(∀xs,o≠ .tup xs)→H' a=some o):J0 c μ G H':=
 ⟨h.len,h.inj,fun i o a g m=>by
  have q:=h.obj i o a g m
  by_cases hr:aM9 (some o)
  ·exact q.mono k (.inr hr)
  · obtain⟨u,e1,n1,n2⟩:=q.some_of hr
    exact q.mono k (.inl ((e a u e1 n1).trans e1.symm))⟩
theorem J0.new{p:Addr}{o:DO}{u:HO}(h:J0 c μ G H)(hp:H p=none)(ho:aK7 c (μ++[p]) (upd H p u) p o):J0 c (μ++[p]) (G++[o]) (upd H p u):=by
 have k:Ext μ H (μ++[p]) (upd H p u):=Ext.add hp u
 have old:∀(i:Nat) (a:Addr),i<μ.length→(μ++[p])[i]? =some a→μ[i]? =some a:=fun i a hi e=>by
  rw[List.getElem?_append_left hi]at e;exact e
 refine⟨by simp[h.len],fun i j a ei ej=>?_,fun i o' a g m=>?_⟩
 · have li:=lt_of_get ei
   have lj:=lt_of_get ej
   simp only[List.length_append,List.length_singleton]at li lj
   by_cases hi:i<μ.length
   · have mi:=old i a hi ei
     have gi:(G++[o])[i]? =G[i]? :=List.getElem?_append_left (by rw[←h.len];exact hi)
     by_cases hj:j<μ.length
     · have mj:=old j a hj ej
       have gj:(G++[o])[j]? =G[j]? :=List.getElem?_append_left (by rw[←h.len];exact hj)
       rw[gi,gj]
       exact h.inj i j a mi mj
     · -- j is the new one:a=p
       have ej':j=μ.length:=by lia
       subst ej'
       have ea:a=p:=by simpa using ej.symm
       subst ea
       right;left
       rw[gi]
       have hg:i<G.length:=by rw[←h.len];exact hi
       have q:=h.obj i G[i] a (List.getElem?_eq_getElem hg) mi
       rw[List.getElem?_eq_getElem hg]
       refine Classical.byContradiction fun n=>?_
       obtain⟨u',e1,_⟩:=q.some_of n
       rw[hp]at e1;exact J1 e1
   · have ei':i=μ.length:=by lia
     by_cases hj:j<μ.length
     · have mj:=old j a hj ej
       have gj:(G++[o])[j]? =G[j]? :=List.getElem?_append_left (by rw[←h.len];exact hj)
       subst ei'
       have ea:a=p:=by simpa using ei.symm
       subst ea
       right;right
       rw[gj]
       have hg:j<G.length:=by rw[←h.len];exact hj
       have q:=h.obj j G[j] a (List.getElem?_eq_getElem hg) mj
       rw[List.getElem?_eq_getElem hg]
       refine Classical.byContradiction fun n=>?_
       obtain⟨u',e1,_⟩:=q.some_of n
       rw[hp]at e1;exact J1 e1
     ·left;lia
 · have li:=lt_of_get m
   simp only[List.length_append,List.length_singleton]at li
   by_cases hi:i<μ.length
   · have mi:=old i a hi m
     rw[List.getElem?_append_left (by rw[←h.len];exact hi)]at g
     have q:=h.obj i o' a g mi
     by_cases hr:aM9 (some o')
     ·exact q.mono k (.inr hr)
     · obtain⟨u',e1,_⟩:=q.some_of hr
       exact q.mono k (.inl (J7 (K4 e1 hp)))
   · have ei':i=μ.length:=by lia
     subst ei'
     have ea:a=p:=by simpa using m.symm
     subst ea
     rw[h.len]at g
     have eo:o'=o:=by simpa using g.symm
     subst eo
     exact ho
theorem J0.set{i:Nat}{a:Addr}{o o':DO}{u:HO}(h:J0 c μ G H)(g:G[i]? =some o)(n:¬aM9 (some o))(m:μ[i]? =some a)(k:Ext μ H μ (upd H a u))(n':¬aM9 (some o'))(ho:aK7 c μ (upd H a u) a o'):J0 c μ (G.set i o') (upd H a u):=by
 have hi:i<G.length:=lt_of_get g
 have get:∀j,(G.set i o')[j]? =if i=j then some o' else G[j]? :=fun j=>by
  rw[List.getElem?_set]
  by_cases e:i=j
  ·subst e;simp[hi]
  ·simp[e]
 refine⟨by simp[h.len],fun j l b ej el=>?_,fun j o2 b gj mj=>?_⟩
 · rcases h.inj j l b ej el with e|e|e
   ·exact .inl e
   · by_cases ij:i=j
     ·subst ij;rw[g]at e;exact(n e).elim
     ·right;left;rw[get,if_neg ij];exact e
   · by_cases ij:i=l
     ·subst ij;rw[g]at e;exact(n e).elim
     ·right;right;rw[get,if_neg ij];exact e
 · rw[get]at gj
   by_cases ij:i=j
   · subst ij
     rw[if_pos rfl]at gj
     cases gj
     rw[m]at mj
     cases mj
     exact ho
   · rw[if_neg ij]at gj
     have q:=h.obj j o2 b gj mj
     by_cases hr:aM9 (some o2)
     ·exact q.mono k (.inr hr)
     · have nb:b≠a:=fun e=>by
        subst e
        rcases h.inj i j b m mj with e|e|e
        ·exact ij e
        ·rw[g]at e;exact n e
        ·rw[gj]at e;exact hr e
       exact q.mono k (.inl (J7 nb))
def N5(c:Wc)(μ:List Addr)(H:Hp)(dσ:DSt)(σ:St):Prop:=dσ.length=σ.length∧∀(i:Nat) (d:D),dσ[i]? =some (some d)→∃v,σ[i]? =some (some v)∧d9 c μ H d v
theorem N5.mono(x:Ext μ H μ' H'){dσ:DSt}{σ:St}(h:N5 c μ H dσ σ):N5 c μ' H' dσ σ:=
 ⟨h.1,fun i d e=>let ⟨v,a,b⟩:=h.2 i d e;⟨v,a,b.mono x⟩⟩
theorem N5.put{dσ:DSt}{σ:St}(h:N5 c μ H dσ σ){d:D}{v:V}(r:d9 c μ H d v)(i:Nat):N5 c μ H (dσ.set i (some d)) (σ.set i (some v)):=by
 refine⟨by simp[h.1],fun j d' e=>?_⟩
 rw[List.getElem?_set]at e ⊢
 by_cases ij:i=j
 · subst ij
   rw[if_pos rfl]at e ⊢
   rw[←h.1]
   split at e
   · rename_i hl
     rw[if_pos hl]
     cases e
     exact⟨v,rfl,r⟩
   ·exact J1 e
 · rw[if_neg ij]at e ⊢
   exact h.2 j d' e
end
noncomputable def M(α:Type):=DH→Option (Except Str α×DH)
namespace M
noncomputable def pure{α:Type}(a:α):M α:=fun G=>some (.ok a,G)
noncomputable def bind{α β:Type}(m:M α)(f:α→M β):M β:=fun G=>match m G with
 |none=>none
 |some (.ok a,G1)=>f a G1
 |some (.error x,G1)=>some (.error x,G1)
noncomputable def stuck{α:Type}:M α:=fun _=>none
end M
noncomputable instance:Monad M:={pure:=M.pure,bind:=M.bind}
theorem M.bind_eq{α β:Type}(m:M α)(f:α→M β)(G:DH):(m >>= f) G=match m G with
 |none=>none
 |some (.ok a,G1)=>f a G1
 |some (.error x,G1)=>some (.error x,G1):=rfl
theorem M.bind_ok{α β:Type}{m:M α}{f:α→M β}{G G1:DH}{a:α}(h:m G=some (.ok a,G1)):(m >>= f) G=f a G1:=by rw[M.bind_eq,h]
theorem M.bind_assoc{α β γ:Type}(m:M α)(f:α→M β)(g:β→M γ):((m >>= f) >>= g)= (m >>= fun a=>f a >>= g):=by
 funext G
 simp only[M.bind_eq]
 rcases m G with _|p
 ·rfl
 ·obtain⟨r,G1⟩:=p;cases r<;>rfl
noncomputable abbrev XC:=Str→List Addr→DH→Hp→Prop
noncomputable def ZF:XC:=fun _ _ _ _=>False
noncomputable def d8{α:Type}(c:Wc)(Z:XC)(μ:List Addr)(H:Hp)(r:Option (Except Str α×DH))(K:α→List Addr→DH→Hp→Prop):Prop:=
 match r with
 |none=>False
 |some (.ok a,G')=>∀ μ' H',Ext μ H μ' H'→J0 c μ' G' H'→K a μ' G' H'
 |some (.error x,G')=>∀ μ' H',Ext μ H μ' H'→J0 c μ' G' H'→Z x μ' G' H'
section
variable{α β:Type}{c:Wc}{Z:XC}{μ μ':List Addr}{H H':Hp}
theorem d8.mono{r:Option (Except Str α×DH)}{K K':α→List Addr→DH→Hp→Prop}(h:d8 c Z μ H r K)
 (k:∀a μ' G' H',Ext μ H μ' H'→J0 c μ' G' H'→K a μ' G' H'→K' a μ' G' H'):d8 c Z μ H r K':=by
 match r,h with
 |some (.ok a,G'),h=>exact fun μ' H' p e=>k a μ' G' H' p e (h μ' H' p e)
 |some (.error x,G'),h=>exact h
theorem d8.from{r:Option (Except Str α×DH)}{K:α→List Addr→DH→Hp→Prop}(h:d8 c Z μ H r K)(p:Ext μ H μ' H'):d8 c Z μ' H' r K:=by
 match r,h with
 |some (.ok a,G'),h=>exact fun μ2 H2 p2 e=>h μ2 H2 (p.trans p2) e
 |some (.error x,G'),h=>exact fun μ2 H2 p2 e=>h μ2 H2 (p.trans p2) e
theorem d8.bind{m:M α}{f:α→M β}{G:DH}{K:β→List Addr→DH→Hp→Prop}(h:d8 c Z μ H ((m >>= f) G) K):
 d8 c Z μ H (m G) (fun a μ' G' H'=>d8 c Z μ' H' (f a G') K):=by
 rw[M.bind_eq]at h
 match m G,h with
 |some (.ok a,G'),h=>exact fun μ' H' p e=>d8.from h p
 |some (.error x,G'),h=>exact h
theorem d8.ok{a:α}{G:DH}{K:α→List Addr→DH→Hp→Prop}(h:d8 c Z μ H (some (.ok a,G)) K)(e:J0 c μ G H):K a μ G H:=h μ H (Ext.refl _ _) e
end
inductive Fl where
 |nx (σ:DSt)|rt (d:D)|bk (σ:DSt)|ct (σ:DSt)
section
variable(c:Wc)(Z:XC)
def bJ7(f:DSt→M D):TE:=fun σ H Q=>∃dσ μ G,N5 c μ H dσ σ∧J0 c μ G H∧d8 c Z μ H (f dσ G) fun d μ' _ H'=>∀v,d9 c μ' H' d v→Q v H'
def bR0(f:DSt→M Bool):TT:=fun σ H Q=>∃dσ μ G,N5 c μ H dσ σ∧J0 c μ G H∧d8 c Z μ H (f dσ G) fun b μ' _ H'=>Q b H'
def cK9(f:DSt→M (List D)):TA:=fun σ H Q=>∃dσ μ G,N5 c μ H dσ σ∧J0 c μ G H∧d8 c Z μ H (f dσ G) fun ds μ' _ H'=>∀vs,o9 c μ' H' ds vs→Q vs H'
def bS6(E:bP1)(fl:Fl)(μ:List Addr)(H:Hp):Prop:=match fl with
 | .nx dσ=>∀ σ,N5 c μ H dσ σ→E.nx σ H
 | .rt d=>∀v,d9 c μ H d v→E.rt v H
 | .bk dσ=>∀ σ,N5 c μ H dσ σ→E.bk σ H
 | .ct dσ=>∀ σ,N5 c μ H dσ σ→E.ct σ H
def bO1(f:DSt→M Fl):TS:=fun E σ H=>∃dσ μ G,N5 c μ H dσ σ∧J0 c μ G H∧d8 c Z μ H (f dσ G) fun fl μ' _ H'=>bS6 c E fl μ' H'
end
theorem bJ7.elim{c:Wc}{Z:XC}{P:Prop}{f:DSt→M D}{σ:St}{H:Hp}{Q:VK}(h:bJ7 c Z f σ H Q)(k:∀dσ μ G,N5 c μ H dσ σ→J0 c μ G H→d8 c Z μ H (f dσ G) (fun d μ' _ H'=>∀v,d9 c μ' H' d v→Q v H')→P):P:=by
 obtain⟨e0,e1,e2,e3,e4,e5⟩:=h
 exact k e0 e1 e2 e3 e4 e5
theorem bR0.elim{c:Wc}{Z:XC}{P:Prop}{f:DSt→M Bool}{σ:St}{H:Hp}{Q:Bool→Hp→Prop}(h:bR0 c Z f σ H Q)(k:∀dσ μ G,N5 c μ H dσ σ→J0 c μ G H→d8 c Z μ H (f dσ G) (fun b μ' _ H'=>Q b H')→P):P:=by
 obtain⟨e0,e1,e2,e3,e4,e5⟩:=h
 exact k e0 e1 e2 e3 e4 e5
theorem cK9.elim{c:Wc}{Z:XC}{P:Prop}{f:DSt→M (List D)}{σ:St}{H:Hp}{Q:List V→Hp→Prop}(h:cK9 c Z f σ H Q)(k:∀dσ μ G,N5 c μ H dσ σ→J0 c μ G H→d8 c Z μ H (f dσ G) (fun ds μ' _ H'=>∀vs,o9 c μ' H' ds vs→Q vs H')→P):P:=by
 obtain⟨e0,e1,e2,e3,e4,e5⟩:=h
 exact k e0 e1 e2 e3 e4 e5
theorem bO1.elim{c:Wc}{Z:XC}{P:Prop}{f:DSt→M Fl}{E:bP1}{σ:St}{H:Hp}(h:bO1 c Z f E σ H)(k:∀dσ μ G,N5 c μ H dσ σ→J0 c μ G H→d8 c Z μ H (f dσ G) (fun fl μ' _ H'=>bS6 c E fl μ' H')→P):P:=by
 obtain⟨e0,e1,e2,e3,e4,e5⟩:=h
 exact k e0 e1 e2 e3 e4 e5
structure DE(X:Cx)(Z:XC)(e:Expr)(f:DSt→M D):Prop where
 h:PE X e (bJ7 (wc X) Z f)
structure DT(X:Cx)(Z:XC)(e:Expr)(f:DSt→M Bool):Prop where
 h:PT X e (bR0 (wc X) Z f)
structure DA(X:Cx)(Z:XC)(e:List Expr)(f:DSt→M (List D)):Prop where
 h:PA X e (cK9 (wc X) Z f)
structure DS(X:Cx)(Z:XC)(e:Stmt)(f:DSt→M Fl):Prop where
 h:PS X e (bO1 (wc X) Z f)
structure DB(X:Cx)(Z:XC)(e:List Stmt)(f:DSt→M Fl):Prop where
 h:PSs X e (bO1 (wc X) Z f)
theorem PE.mono{X:Cx}{e:Expr}{t t':TE}(h:PE X e t)(k:∀ σ H Q,t' σ H Q→t σ H Q):PE X e t':=fun pins s σ H Q I q=>h pins s σ H Q I (k σ H Q q)
theorem PT.mono{X:Cx}{e:Expr}{t t':TT}(h:PT X e t)(k:∀ σ H Q,t' σ H Q→t σ H Q):PT X e t':=fun pins s σ H Q I q=>h pins s σ H Q I (k σ H Q q)
theorem PW.mono{X:Cx}{e:Expr}{t t':TT}(h:PW X e t)(k:∀ σ H Q,t' σ H Q→t σ H Q):PW X e t':=fun wh pins s σ H Q I q=>h wh pins s σ H Q I (k σ H Q q)
theorem PA.mono{X:Cx}{e:List Expr}{t t':TA}(h:PA X e t)(k:∀ σ H Q,t' σ H Q→t σ H Q):PA X e t':=fun pos pins s σ H Q I q=>h pos pins s σ H Q I (k σ H Q q)
theorem PS.mono{X:Cx}{e:Stmt}{t t':TS}(h:PS X e t)(k:∀E σ H,t' E σ H→t E σ H):PS X e t':=fun pins s σ H E I q=>h pins s σ H E I (k E σ H q)
theorem PSs.mono{X:Cx}{e:List Stmt}{t t':TS}(h:PSs X e t)(k:∀E σ H,t' E σ H→t E σ H):PSs X e t':=fun pins s σ H E I q=>h pins s σ H E I (k E σ H q)
theorem DE.of{X:Cx}{Z:XC}{e:Expr}{f:DSt→M D}{t:TE}(h:PE X e t)(k:∀ σ H Q,bJ7 (wc X) Z f σ H Q→t σ H Q):DE X Z e f:=⟨PE.mono h k⟩
theorem DT.of{X:Cx}{Z:XC}{e:Expr}{f:DSt→M Bool}{t:TT}(h:PT X e t)(k:∀ σ H Q,bR0 (wc X) Z f σ H Q→t σ H Q):DT X Z e f:=⟨PT.mono h k⟩
theorem DA.of{X:Cx}{Z:XC}{e:List Expr}{f:DSt→M (List D)}{t:TA}(h:PA X e t)(k:∀ σ H Q,cK9 (wc X) Z f σ H Q→t σ H Q):DA X Z e f:=⟨PA.mono h k⟩
theorem DS.of{X:Cx}{Z:XC}{e:Stmt}{f:DSt→M Fl}{t:TS}(h:PS X e t)(k:∀E σ H,bO1 (wc X) Z f E σ H→t E σ H):DS X Z e f:=⟨PS.mono h k⟩
theorem DB.of{X:Cx}{Z:XC}{e:List Stmt}{f:DSt→M Fl}{t:TS}(h:PSs X e t)(k:∀E σ H,bO1 (wc X) Z f E σ H→t E σ H):DB X Z e f:=⟨PSs.mono h k⟩
end DL
namespace DL
open PySem PySem.Spec L2
open PyProof.Rows hiding St
noncomputable def Z9:Expr→Bool
 | .Starred ..=>false
 |_=>true
theorem q14{e:Expr}{es:List Expr}{env:Env}(h:Z9 e=true):starEach (e::es) env= (false,eval e env)::starEach es env:=by
 cases e<;>first
  |rfl
  |exact aM7 h
theorem aV5{e:Expr}{env:Env}(h:Z9 e=true):starEach [e] env= [(false,eval e env)]:=q14 h
theorem dU7{a b:Expr}{env:Env}(h:Z9 a=true)(h':Z9 b=true):starEach [a,b] env= [(false,eval a env),(false,eval b env)]:=by rw[q14 h,aV5 h']
abbrev Fe:=DSt→M D
noncomputable def c7(i:Nat):Fe:=fun σ G=>match σ[i]? with
 |some (some d)=>some (.ok d,G)
 |_=>none
def cE(d:D):Fe:=fun _=>pure d
noncomputable def d7(o:D→D→M D)(a b:Fe):Fe:=fun σ=>do o (←a σ) (←b σ)
noncomputable def unE(o:D→M D)(a:Fe):Fe:=fun σ=>do o (←a σ)
def q11:DSt→M (List D):=fun _=>pure []
def q10(a:Fe)(r:DSt→M (List D)):DSt→M (List D):=fun σ=>do
 let x ←a σ
 let xs ←r σ
 pure (x::xs)
noncomputable def q12(F:List D→M D)(a:DSt→M (List D)):Fe:=fun σ=>do F (←a σ)
def dI6:D→M Bool
 | .bl b=>pure b
 |_=>M.stuck
def bG4(a:Fe):Fe:=fun σ=>do pure (.bl (!(←dI6 (←a σ))))
noncomputable def ifE(t:DSt→M Bool)(a b:Fe):Fe:=fun σ=>do if ←t σ then a σ else b σ
section
variable(c:Wc)(Z:XC)
def bH1(o:D→D→M D):R2:=fun x y H Q=>∃dx dy μ G,d9 c μ H dx x∧d9 c μ H dy y∧J0 c μ G H∧d8 c Z μ H (o dx dy G) fun d μ' _ H'=>∀v,d9 c μ' H' d v→Q v H'
def cE3(o:D→M D):V→Hp→VK→Prop:=fun x H Q=>∃dx μ G,d9 c μ H dx x∧J0 c μ G H∧d8 c Z μ H (o dx G) fun d μ' _ H'=>∀v,d9 c μ' H' d v→Q v H'
def bO3(F:List D→M D):List V→Hp→VK→Prop:=fun xs H Q=>∃ds μ G,o9 c μ H ds xs∧J0 c μ G H∧d8 c Z μ H (F ds G) fun d μ' _ H'=>∀v,d9 c μ' H' d v→Q v H'
end
theorem bH1.elim{c:Wc}{Z:XC}{P:Prop}{o:D→D→M D}{x:V}{y:V}{H:Hp}{Q:VK}(h:bH1 c Z o x y H Q)(k:∀dx dy μ G,d9 c μ H dx x→d9 c μ H dy y→J0 c μ G H→d8 c Z μ H (o dx dy G) (fun d μ' _ H'=>∀v,d9 c μ' H' d v→Q v H')→P):P:=by
 obtain⟨e0,e1,e2,e3,e4,e5,e6,e7⟩:=h
 exact k e0 e1 e2 e3 e4 e5 e6 e7
theorem cE3.elim{c:Wc}{Z:XC}{P:Prop}{o:D→M D}{x:V}{H:Hp}{Q:VK}(h:cE3 c Z o x H Q)(k:∀dx μ G,d9 c μ H dx x→J0 c μ G H→d8 c Z μ H (o dx G) (fun d μ' _ H'=>∀v,d9 c μ' H' d v→Q v H')→P):P:=by
 obtain⟨e0,e1,e2,e3,e4,e5⟩:=h
 exact k e0 e1 e2 e3 e4 e5
theorem bO3.elim{c:Wc}{Z:XC}{P:Prop}{F:List D→M D}{xs:List V}{H:Hp}{Q:VK}(h:bO3 c Z F xs H Q)(k:∀ds μ G,o9 c μ H ds xs→J0 c μ G H→d8 c Z μ H (F ds G) (fun d μ' _ H'=>∀v,d9 c μ' H' d v→Q v H')→P):P:=by
 obtain⟨e0,e1,e2,e3,e4,e5⟩:=h
 exact k e0 e1 e2 e3 e4 e5
structure OpD(X:Cx)(Z:XC)(f:Value→Value→Sem Value)(o:D→D→M D):Prop where
 h:OpR X f (bH1 (wc X) Z o)
structure UnD(X:Cx)(Z:XC)(f:Value→Sem Value)(o:D→M D):Prop where
 h:UnR X f (cE3 (wc X) Z o)
structure aA4(X:Cx)(Z:XC)(f:Value)(F:List D→M D):Prop where
 h:aB9 X f (bO3 (wc X) Z F)
theorem OpR.mono{X:Cx}{f:Value→Value→Sem Value}{r r':R2}(h:OpR X f r)(k:∀x y H Q,r' x y H Q→r x y H Q):OpR X f r':=fun pins s σ H x y v u Q I rx ry q=>h pins s σ H x y v u Q I rx ry (k x y H Q q)
theorem aB9.mono{X:Cx}{f:Value}{r r':List V→Hp→VK→Prop}(h:aB9 X f r)(k:∀xs H Q,r' xs H Q→r xs H Q):aB9 X f r':=fun pins s σ H xs us Q I rx q=>h pins s σ H xs us Q I rx (k xs H Q q)
theorem OpD.of{X:Cx}{Z:XC}{f:Value→Value→Sem Value}{o:D→D→M D}{r:R2}(h:OpR X f r)(k:∀x y H Q,bH1 (wc X) Z o x y H Q→r x y H Q):OpD X Z f o:=⟨OpR.mono h k⟩
theorem aA4.of{X:Cx}{Z:XC}{f:Value}{F:List D→M D}{r:List V→Hp→VK→Prop}(h:aB9 X f r)(k:∀xs H Q,bO3 (wc X) Z F xs H Q→r xs H Q):aA4 X Z f F:=⟨aB9.mono h k⟩
section
variable{X:Cx}{Z:XC}{a b c e:Expr}{es:List Expr}{fa fb fc:Fe}{pos:Pos}
theorem bD7{cc:Wc}{o:D→D→M D}(σ:St)(H:Hp)(Q:VK)(h:bJ7 cc Z (d7 o fa fb) σ H Q):tOp (bH1 cc Z o) (bJ7 cc Z fa) (bJ7 cc Z fb) σ H Q:=by
 obtain⟨dσ,μ,G,s,h,p⟩:=h
 exact⟨dσ,μ,G,s,h,(d8.bind p).mono fun x μ1 G1 H1 x' h1 p1 v rv=>⟨dσ,μ1,G1,s.mono x',h1,(d8.bind p1).mono fun y μ2 G2 H2 x2 h2 p2 u ru=>⟨x,y,μ2,G2,rv.mono x2,ru,h2,p2⟩⟩⟩
theorem eR0{i:Nat}(h:PE X e (eN7 i)):DE X Z e (c7 i):=DE.of h fun σ H Q hE0=>hE0.elim fun dσ μ G s h p=>by
 delta c7 at p
 rcases he:dσ[i]? with _|_|d
 ·rw[he]at p;exact p.elim
 ·rw[he]at p;exact p.elim
 · rw[he]at p
   obtain⟨v,e1,r⟩:=s.2 i d he
   exact⟨v,e1,d8.ok p h v r⟩
theorem dR2{d:D}{v:V}(h:PE X e (tC v))(r:∀ μ H,d9 (wc X) μ H d v):DE X Z e (cE d):=DE.of h fun σ H Q hE0=>hE0.elim fun dσ μ G s h p=>d8.ok p h v (r _ _)
theorem q17{i j pos}:DE X Z (.Constant (.int i) j pos) (cE (.int i)):=dR2 cU9 fun _ _=>by unfold d9;rfl
theorem fK5{i j pos}:DE X Z (.Constant (.bool i) j pos) (cE (.bl i)):=dR2 fG2 fun _ _=>by unfold d9;rfl
theorem eR5{j pos}:DE X Z (.Constant .none j pos) (cE .non):=dR2 eZ9 fun _ _=>by unfold d9;rfl
theorem eS9{i j pos}:DE X Z (.Constant (.str i) j pos) (cE (.str i)):=dR2 eU8 fun _ _=>by unfold d9;rfl
theorem fL6(i:Nat){x:Str}{pos:Pos}(hN:X.N[i]? =some x)(hv:Vis X.env.scope x)(hd:(x==("__debug__" :Str))=false)
 (hcd:(x==("__classdict__" :Str))=false):DE X Z (.Name x pos) (c7 i):=eR0 (dR6 hN hv hd hcd)
theorem fC9{op:Operator}{o:D→D→M D}(ho:OpD X Z (binaryOp op) o)(ha:DE X Z a fa)(hb:DE X Z b fb):DE X Z (.BinOp a op b pos) (d7 o fa fb):=
 DE.of (dS2 ho.h ha.h hb.h) bD7
theorem eQ4{op:CmpOp}{o:D→D→M D}(ho:OpD X Z (compareOp op) o)(ha:DE X Z a fa)(hb:DE X Z b fb)(hm:behindInMarks op b=false):DE X Z (.Compare a [op] [b] pos) (d7 o fa fb):=
 DE.of (eE3 ho.h ha.h hb.h hm) bD7
theorem fF2{op:UnaryOp}{o:D→M D}(ho:UnD X Z (unaryOp op) o)(ha:DE X Z a fa):DE X Z (.UnaryOp op a pos) (unE o fa):=
 DE.of (eL5 ho.h ha.h) fun σ H Q hE0=>hE0.elim fun dσ μ G s h p=>⟨dσ,μ,G,s,h,(d8.bind p).mono fun x μ1 G1 H1 x' h1 p1 v rv=>⟨x,μ1,G1,rv,h1,p1⟩⟩
theorem bX4{α:Type}{cc:Wc}{μ:List Addr}{H:Hp}{d:D}{f:Bool→M α}{G:DH}{K:α→List Addr→DH→Hp→Prop}(p:d8 cc Z μ H ((dI6 d >>= f) G) K):∃k,d= .bl k∧d8 cc Z μ H (f k G) K:=by
 cases d with
 |bl k=>exact⟨k,rfl,p⟩
 |_=>exact p.elim
theorem eR1{op}{f:Fe}(h:DE X Z a f):DE X Z (.BoolOp op [a] pos) f:=⟨eN6 h.h⟩
theorem eM6(ha:DE X Z a fa):DE X Z (.UnaryOp .Not a pos) (bG4 fa):=
 DE.of (eT6 ha.h) fun σ H Q hE0=>hE0.elim fun dσ μ G s h p=>⟨dσ,μ,G,s,h,(d8.bind p).mono fun x μ1 G1 H1 x' h1 p1 v rv=>by
  obtain⟨k',rfl,p2⟩:=bX4 p1
  unfold d9 at rv
  exact⟨k',rv,d8.ok p2 h1 _ (by unfold d9;rfl)⟩⟩
def J2(f:Fe):DSt→M Bool:=fun σ=>do dI6 (←f σ)
def aH4(a b:DSt→M Bool):DSt→M Bool:=fun σ=>do if ←a σ then b σ else pure false
def orT(a b:DSt→M Bool):DSt→M Bool:=fun σ=>do if ←a σ then pure true else b σ
def aJ2(a:DSt→M Bool):DSt→M Bool:=fun σ=>do pure (!(←a σ))
structure DW(X:Cx)(Z:XC)(e:Expr)(f:DSt→M Bool):Prop where
 h:PW X e (bR0 (wc X) Z f)
theorem DW.of{X:Cx}{Z:XC}{e:Expr}{f:DSt→M Bool}{t:TT}(h:PW X e t)(k:∀ σ H Q,bR0 (wc X) Z f σ H Q→t σ H Q):DW X Z e f:=⟨PW.mono h k⟩
variable{ta tb:DSt→M Bool}{U9:List Expr}
theorem DW.dt(h:DW X Z a ta):DT X Z a ta:=⟨fun pins s σ H Q I q=>h.h _ pins s σ H Q I q⟩
theorem eS8{op:CmpOp}{o:D→D→M D}(ho:OpD X Z (compareOp op) o)(ha:DE X Z a fa)(hb:DE X Z b fb)(hm:behindInMarks op b=false):DT X Z (.Compare a [op] [b] pos) (J2 (d7 o fa fb)):=
 DT.of (eA9 ho.h ha.h hb.h hm) fun σ H Q hE0=>hE0.elim fun dσ μ G s h p=>bD7 σ H _ ⟨dσ,μ,G,s,h,(d8.bind p).mono fun x μ1 G1 H1 x' h1 p1 v rv=>by
  cases x with
  |bl k'=>unfold d9 at rv;exact⟨k',rv,d8.ok p1 h1⟩
  |_=>exact p1.elim⟩
theorem eA3(ha:DT X Z a ta):DW X Z (.BoolOp .And [a] pos) ta:=⟨eG7 ha.h⟩
theorem eP2(ha:DT X Z a ta):DW X Z (.BoolOp .Or [a] pos) ta:=⟨eX9 ha.h⟩
theorem eY6(ha:DT X Z a ta)(hb:DW X Z (.BoolOp .And (b::U9) pos) tb):DW X Z (.BoolOp .And (a::b::U9) pos) (aH4 ta tb):=
 DW.of (eL8 ha.h hb.h) fun σ H Q hE0=>hE0.elim fun dσ μ G s h p=>⟨dσ,μ,G,s,h,(d8.bind p).mono fun x μ1 G1 H1 x' h1 p1=>by
  cases x with
  |true=>exact⟨dσ,μ1,G1,s.mono x',h1,p1⟩
  |false=>exact d8.ok p1 h1⟩
theorem fJ3(ha:DT X Z a ta)(hb:DW X Z (.BoolOp .Or (b::U9) pos) tb):DW X Z (.BoolOp .Or (a::b::U9) pos) (orT ta tb):=
 DW.of (fG5 ha.h hb.h) fun σ H Q hE0=>hE0.elim fun dσ μ G s h p=>⟨dσ,μ,G,s,h,(d8.bind p).mono fun x μ1 G1 H1 x' h1 p1=>by
  cases x with
  |false=>exact⟨dσ,μ1,G1,s.mono x',h1,p1⟩
  |true=>exact d8.ok p1 h1⟩
theorem eT9(ha:DT X Z a ta):DT X Z (.UnaryOp .Not a pos) (aJ2 ta):=
 DT.of (eP6 ha.h) fun σ H Q hE0=>hE0.elim fun dσ μ G s h p=>⟨dσ,μ,G,s,h,(d8.bind p).mono fun x μ1 G1 H1 x' h1 p1=>d8.ok p1 h1⟩
theorem fF1(hc:DT X Z c ta)(ha:DE X Z a fa)(hb:DE X Z b fb):DE X Z (.IfExp c a b pos) (ifE ta fa fb):=
 DE.of (dN1 hc.h ha.h hb.h) fun σ H Q hE0=>hE0.elim fun dσ μ G s h p=>⟨dσ,μ,G,s,h,(d8.bind p).mono fun x μ1 G1 H1 x' h1 p1=>by
  cases x with
  |true=>exact⟨dσ,μ1,G1,s.mono x',h1,p1⟩
  |false=>exact⟨dσ,μ1,G1,s.mono x',h1,p1⟩⟩
variable{fs:DSt→M (List D)}
theorem q16:DA X Z [] q11:=DA.of eY2 fun σ H Q hE0=>hE0.elim fun dσ μ G s h p=>d8.ok p h [] rfl
theorem q15(ha:DE X Z e fa)(hr:DA X Z es fs)(hs:starEach (e::es) X.env= (false,eval e X.env)::starEach es X.env):DA X Z (e::es) (q10 fa fs):=
 DA.of (eI9 ha.h hr.h hs) fun σ H Q hE0=>hE0.elim fun dσ μ G s h p=>⟨dσ,μ,G,s,h,(d8.bind p).mono fun x μ1 G1 H1 x' h1 p1 v rv=>
  ⟨dσ,μ1,G1,s.mono x',h1,(d8.bind p1).mono fun xs μ2 G2 H2 x2 h2 p2 vs rvs=>d8.ok p2 h2 (v::vs) ⟨v,vs,rfl,rv.mono x2,rvs⟩⟩⟩
def J4(fs:DSt→M (List D)):Fe:=fun σ=>do
 let xs ←fs σ
 if xs.length≤sizeLine then pure (.tup xs)else M.stuck
noncomputable def Q5(o:DO):M D:=fun G=>some (.ok (.ref G.length),G++[o])
def aA6(fs:DSt→M (List D)):Fe:=fun σ=>do
 let xs ←fs σ
 if xs.length≤sizeLine then Q5 (.lst xs)else M.stuck
theorem aV4{cc:Wc}{μ:List Addr}{H:Hp}{G:DH}{xs:List D}{vs:List V}{Q:VK}(h:J0 cc μ G H)(r:o9 cc μ H xs vs)
 (p:d8 cc Z μ H (some (Except.ok (.tup xs),G)) fun d μ' _ H'=>∀v,d9 cc μ' H' d v→Q v H') (q:Addr) (hq:H q=none):Q (.ref q) (upd H q (.tup vs)):=by
 have k:Ext μ H μ (upd H q (.tup vs)):=Ext.lay hq _
 refine p μ _ k (h.same k fun a o e n=>?_) _ ?_
 ·rw[J7 (K4 e hq)];exact e
 · unfold d9
   exact⟨q,vs,rfl,SqT.of R3,r.mono k⟩
theorem aE9{cc:Wc}{μ:List Addr}{H:Hp}{G:DH}{xs:List D}{vs:List V}{Q:VK}(h:J0 cc μ G H)(r:o9 cc μ H xs vs)
 (p:d8 cc Z μ H (Q5 (.lst xs) G) fun d μ' _ H'=>∀v,d9 cc μ' H' d v→Q v H') (q:Addr) (hq:H q=none):Q (.ref q) (upd H q (.lst vs)):=by
 have k:Ext μ H (μ++[q]) (upd H q (.lst vs)):=Ext.add hq _
 refine p (μ++[q]) _ k (h.new hq ⟨vs,R3,r.mono k⟩) _ ?_
 unfold d9
 exact⟨q,by rw[←h.len];simp,rfl⟩
theorem eO2{x1}(h:DA X Z es fs):DE X Z (.Tuple es x1 pos) (J4 fs):=
 DE.of (eS0 h.h) fun σ H Q hE0=>hE0.elim fun dσ μ G s h p=>⟨dσ,μ,G,s,h,(d8.bind p).mono fun xs μ1 G1 H1 x' h1 p1 vs rv=>by
  split at p1
  · rename_i hz
    exact⟨by rw[←rv.length];exact hz,fun q hq=>aV4 h1 rv p1 q hq⟩
  ·exact p1.elim⟩
theorem eX1(h:DA X Z es fs):DE X Z (.List es pos) (aA6 fs):=
 DE.of (eW9 h.h) fun σ H Q hE0=>hE0.elim fun dσ μ G s h p=>⟨dσ,μ,G,s,h,(d8.bind p).mono fun xs μ1 G1 H1 x' h1 p1 vs rv=>by
  split at p1
  · rename_i hz
    exact⟨by rw[←rv.length];exact hz,fun q hq=>aE9 h1 rv p1 q hq⟩
  ·exact p1.elim⟩
theorem bZ1{cc:Wc}{F:List D→M D}(σ:St)(H:Hp)(Q:VK)(h:bJ7 cc Z (q12 F fs) σ H Q):tCB (bO3 cc Z F) (cK9 cc Z fs) σ H Q:=by
 obtain⟨dσ,μ,G,s,h,p⟩:=h
 exact⟨dσ,μ,G,s,h,(d8.bind p).mono fun x μ1 G1 H1 x' h1 p1 vs rv=>⟨x,μ1,G1,rv,h1,p1⟩⟩
theorem dV7{F:List D→M D}{id:String}{x:Str}{p:Pos}(hc:aA4 X Z (.builtin id) F)(hg:Gl X x)(hm:X.mg x=none)(hv:bootBuiltins x=some (.builtin id))(ha:DA X Z (e::es) fs)(hn:x≠ "__name__")(hdb:(x==("__debug__" :Str))=false)
 (he:starEach (e::es) X.env= (false,eval e X.env)::starEach es X.env) (hpl:(backTo pos (starEach es X.env)).any (·.1)=false):DE X Z (.Call (.Name x p) (e::es) [] pos) (q12 F fs):=
 DE.of (dU3 hc.h hg hm hv ha.h hn hdb he hpl) bZ1
theorem dF3{F:List D→M D}{T:String}{x:Str}{p:Pos}(hc:aA4 X Z (.type T) F)(hg:Gl X x)(hm:X.mg x=none)(hv:bootBuiltins x=some (.type T))(ha:DA X Z (e::es) fs)(hn:x≠ "__name__")(hdb:(x==("__debug__" :Str))=false)
 (he:starEach (e::es) X.env= (false,eval e X.env)::starEach es X.env) (hpl:(backTo pos (starEach es X.env)).any (·.1)=false):DE X Z (.Call (.Name x p) (e::es) [] pos) (q12 F fs):=
 DE.of (dJ5 hc.h hg hm hv ha.h hn hdb he hpl) bZ1
def spD(c:Wc)(n:Nat)(F:List D→M D):Sp:=fun vs H Q _=>vs.length=n∧∃ds μ G,o9 c μ H ds vs∧J0 c μ G H∧d8 c ZF μ H (F ds G) fun d μ' _ H'=>∀v,d9 c μ' H' d v→Q v H'
noncomputable def noX{α:Type}(m:M α):M α:=fun G=>match m G with
 |some (.ok a,G1)=>some (.ok a,G1)
 |_=>none
theorem cP6{α:Type}{cc:Wc}{μ:List Addr}{H:Hp}{m:M α}{G:DH}{K:α→List Addr→DH→Hp→Prop}(p:d8 cc Z μ H (noX m G) K):d8 cc ZF μ H (m G) K:=by
 unfold noX at p
 match m G,p with
 |some (.ok a,G1),p=>exact p
 |some (.error x,G1),p=>exact p.elim
 |none,p=>exact p.elim
def fnX(n:Nat)(F:List D→M D):List D→M D:=fun ds=>if ds.length=n then noX (F ds)else M.stuck
theorem cN7{cc:Wc}{μ:List Addr}{H:Hp}{n:Nat}{F:List D→M D}{ds:List D}{G:DH}{K:D→List Addr→DH→Hp→Prop}(p:d8 cc Z μ H (fnX n F ds G) K):ds.length=n∧d8 cc ZF μ H (F ds G) K:=by
 unfold fnX at p
 split at p
 ·rename_i h;exact⟨h,cP6 p⟩
 ·exact p.elim
theorem eH2{F:List D→M D}{k n:Nat}{f:Addr}{fd:FuncData}{ps:List Str}{x:Str}{p:Pos}(hF:J8 X.prog X.w X.K X.mg X.base CX0 k f fd ps (spD (wc X) n F))(hr:aA5 k X.A)(hg:Gl X x)(hm:X.mg x=some (.ref f))(hk:PySem.W.keepIn X.K (.ref f)=true)(hb:bC6 X.K fd ps [])
 (ha:DA X Z (e::es) fs)
 (hdb:(x==("__debug__" :Str))=false) (he:starEach (e::es) X.env= (false,eval e X.env)::starEach es X.env) (hpl:(backTo pos (starEach es X.env)).any (·.1)=false):
 DE X Z (.Call (.Name x p) (e::es) [] pos) (q12 (fnX n F) fs):=
 DE.of (eG1 hF hr hg hm hk hb .nil eJ7 ha.h hdb he hpl) fun σ H Q hE0=>hE0.elim fun dσ μ G s h p=>by
  refine⟨dσ,μ,G,s,h,(d8.bind p).mono fun ds' μ1 G1 H1 x' h1 p1 vs rv=>?_⟩
  obtain⟨hl,p2⟩:=cN7 p1
  show spD (wc X) n F (vs++[]) H1 Q E0
  rw[List.append_nil]
  exact⟨by rw[←rv.length];exact hl,ds',μ1,G1,rv,h1,p2⟩
end
abbrev Fs:=DSt→M Fl
def t7:Fs:=fun σ=>pure (.nx σ)
def o4(a b:Fs):Fs:=fun σ=>do
 match ←a σ with
 | .nx σ'=>b σ'
 |r=>pure r
def o7(f:Fe):Fs:=fun σ=>do pure (.rt (←f σ))
def bI7(f:Fe):Fs:=fun σ=>do
 let _ ←f σ
 pure (.nx σ)
noncomputable def ifS(t:DSt→M Bool)(a b:Fs):Fs:=fun σ=>do if ←t σ then a σ else b σ
abbrev Fg:=D→DSt→M DSt
abbrev Fgs:=List D→DSt→M DSt
def q13(i:Nat):Fg:=fun d σ=>pure (σ.set i (some d))
def aM6:Fgs:=fun ds σ=>match ds with
 |[]=>pure σ
 |_=>M.stuck
def M5(g:Fg)(r:Fgs):Fgs:=fun ds σ=>match ds with
 |d::t=>do r t (←g d σ)
 |[]=>M.stuck
def aL0(n:Nat)(g:Fgs):Fg:=fun d σ=>match d with
 | .tup l=>if l.length=n then g l σ else M.stuck
 |_=>M.stuck
def N7(f:Fe)(g:Fg):Fs:=fun σ=>do
 let d ←f σ
 let σ' ←g d σ
 pure (.nx σ')
section
variable(c:Wc)(Z:XC)
def bX7(g:Fg):TG:=fun v σ H Q=>∃d dσ μ G,d9 c μ H d v∧N5 c μ H dσ σ∧J0 c μ G H∧d8 c Z μ H (g d dσ G) fun dσ' μ' _ H'=>∀ σ',N5 c μ' H' dσ' σ'→Q σ' H'
def cI1(g:Fgs):TGs:=fun vs σ H Q=>∃ds dσ μ G,o9 c μ H ds vs∧N5 c μ H dσ σ∧J0 c μ G H∧d8 c Z μ H (g ds dσ G) fun dσ' μ' _ H'=>∀ σ',N5 c μ' H' dσ' σ'→Q σ' H'
end
theorem bX7.elim{c:Wc}{Z:XC}{P:Prop}{g:Fg}{v:V}{σ:St}{H:Hp}{Q:St→Hp→Prop}(h:bX7 c Z g v σ H Q)(k:∀d dσ μ G,d9 c μ H d v→N5 c μ H dσ σ→J0 c μ G H→d8 c Z μ H (g d dσ G) (fun dσ' μ' _ H'=>∀ σ',N5 c μ' H' dσ' σ'→Q σ' H')→P):P:=by
 obtain⟨e0,e1,e2,e3,e4,e5,e6,e7⟩:=h
 exact k e0 e1 e2 e3 e4 e5 e6 e7
theorem cI1.elim{c:Wc}{Z:XC}{P:Prop}{g:Fgs}{vs:List V}{σ:St}{H:Hp}{Q:St→Hp→Prop}(h:cI1 c Z g vs σ H Q)(k:∀ds dσ μ G,o9 c μ H ds vs→N5 c μ H dσ σ→J0 c μ G H→d8 c Z μ H (g ds dσ G) (fun dσ' μ' _ H'=>∀ σ',N5 c μ' H' dσ' σ'→Q σ' H')→P):P:=by
 obtain⟨e0,e1,e2,e3,e4,e5,e6,e7⟩:=h
 exact k e0 e1 e2 e3 e4 e5 e6 e7
structure DG(X:Cx)(Z:XC)(tg:Expr)(g:Fg):Prop where
 h:PG X tg (bX7 (wc X) Z g)
structure DGs(X:Cx)(Z:XC)(tgs:List Expr)(g:Fgs):Prop where
 h:PGs X tgs (cI1 (wc X) Z g)
theorem PG.mono{X:Cx}{e:Expr}{t t':TG}(h:PG X e t)(k:∀v σ H Q,t' v σ H Q→t v σ H Q):PG X e t':=fun pins s σ H v u Q I r q=>h pins s σ H v u Q I r (k v σ H Q q)
theorem PGs.mono{X:Cx}{e:List Expr}{t t':TGs}(h:PGs X e t)(k:∀v σ H Q,t' v σ H Q→t v σ H Q):PGs X e t':=fun pins s σ H v u Q I r q=>h pins s σ H v u Q I r (k v σ H Q q)
theorem DG.of{X:Cx}{Z:XC}{e:Expr}{g:Fg}{t:TG}(h:PG X e t)(k:∀v σ H Q,bX7 (wc X) Z g v σ H Q→t v σ H Q):DG X Z e g:=⟨PG.mono h k⟩
theorem DGs.of{X:Cx}{Z:XC}{e:List Expr}{g:Fgs}{t:TGs}(h:PGs X e t)(k:∀v σ H Q,cI1 (wc X) Z g v σ H Q→t v σ H Q):DGs X Z e g:=⟨PGs.mono h k⟩
section
variable{X:Cx}{Z:XC}{a b c e tg:Expr}{es:List Expr}{fa fb:Fe}{pos:Pos}{st:Stmt}{U9 sa sb:List Stmt}{f g:Fs}
theorem eL9:DB X Z [] t7:=DB.of eG9 fun E σ H hE0=>hE0.elim fun dσ μ G s h p=>d8.ok p h σ s
theorem eB9{cc:Wc}{E:bP1}{μ:List Addr}{G:DH}{H:Hp}{fl:Fl}(h:J0 cc μ G H)
 (p:d8 cc Z μ H ((match fl with| .nx σ'=>g σ'|r=>pure r:M Fl) G) fun fl μ' _ H'=>bS6 cc E fl μ' H'):bS6 cc {E with nx:=bO1 cc Z g E} fl μ H:=by
 cases fl with
 |nx dσ=>exact fun σ s=>⟨dσ,μ,G,s,h,p⟩
 |rt d=>exact d8.ok p h
 |bk dσ=>exact d8.ok p h
 |ct dσ=>exact d8.ok p h
theorem dC6(h1:DS X Z st f)(h2:DB X Z U9 g):DB X Z (st::U9) (o4 f g):=
 DB.of (dK6 h1.h h2.h) fun E σ H hE0=>hE0.elim fun dσ μ G s h p=>⟨dσ,μ,G,s,h,(d8.bind p).mono fun fl μ1 G1 H1 x' h1 p1=>eB9 h1 p1⟩
theorem dO6(h1:DS X Z st f):DB X Z [st] f:=⟨eA4 h1.h⟩
theorem dY4(he:DE X Z e fa)(hs:swapsWith e none pos.line X.env=pure false):DS X Z (.Expr e pos) (bI7 fa):=
 DS.of (dZ1 he.h hs) fun E σ H hE0=>hE0.elim fun dσ μ G s h p=>⟨dσ,μ,G,s,h,(d8.bind p).mono fun d μ1 G1 H1 x' h1 p1 v rv=>d8.ok p1 h1 σ (s.mono x')⟩
theorem eZ8(he:DE X Z e fa):DS X Z (.Return (some e) pos) (o7 fa):=
 DS.of (eW6 he.h) fun E σ H hE0=>hE0.elim fun dσ μ G s h p=>⟨dσ,μ,G,s,h,(d8.bind p).mono fun d μ1 G1 H1 x' h1 p1 v rv=>d8.ok p1 h1 v rv⟩
theorem fA8{t:DSt→M Bool}(hc:DT X Z c t)(ha:DB X Z sa f)(hb:DB X Z sb g):DS X Z (.If c sa sb pos) (ifS t f g):=
 DS.of (fB9 hc.h ha.h hb.h) fun E σ H hE0=>hE0.elim fun dσ μ G s h p=>⟨dσ,μ,G,s,h,(d8.bind p).mono fun x μ1 G1 H1 x' h1 p1=>by
  cases x with
  |true=>exact⟨dσ,μ1,G1,s.mono x',h1,p1⟩
  |false=>exact⟨dσ,μ1,G1,s.mono x',h1,p1⟩⟩
theorem cX2{i:Nat}{x:Str}(hN:X.N.Nodup)(hi:X.N[i]? =some x)(hx:Loc X.env.scope x)(hf:X.fn x=true∨X.env.scope.names.lookup x=some .local):DG X Z (.Name x pos) (q13 i):=
 DG.of (eC6 hN hi hx hf) fun v σ H Q hE0=>hE0.elim fun d dσ μ G r s h p=>d8.ok p h _ (s.put r i)
theorem eB6:DGs X Z [] aM6:=DGs.of eE4 fun vs σ H Q hE0=>hE0.elim fun ds dσ μ G r s h p=>by
 cases ds with
 |nil=>cases r;exact⟨rfl,d8.ok p h _ s⟩
 |cons _ _=>exact p.elim
theorem dT3{gg:Fg}{gr:Fgs}(h1:DG X Z e gg)(h2:DGs X Z es gr)(hs:(assignEach (e::es) X.env).map (·.2)=assign e X.env::(assignEach es X.env).map (·.2)):DGs X Z (e::es) (M5 gg gr):=
 DGs.of (dR1 h1.h h2.h hs) fun vs σ H Q hE0=>hE0.elim fun ds dσ μ G r s h p=>by
  cases ds with
  |nil=>exact p.elim
  |cons d t=>
    obtain⟨v,vr,rfl,rv,rt⟩:=r
    exact⟨v,vr,rfl,d,dσ,μ,G,rv,s,h,(d8.bind p).mono fun dσ1 μ1 G1 H1 x' h1 p1 σ1 s1=>⟨t,dσ1,μ1,G1,rt.mono x',s1,h1,p1⟩⟩
theorem eL7{gs:Fgs}{k n:Nat}(hc:X.calm=true)(h:DGs X Z es gs)(hn:(assignEach es X.env).length=n)(hst:(assignEach es X.env).findIdx? (·.1)=none):DG X Z (.Tuple es k pos) (aL0 n gs):=
 DG.of (eX6 hc h.h hn hst) fun v σ H Q hE0=>hE0.elim fun d dσ μ G r s h p=>by
  cases d with
  |tup l=>
    unfold d9 at r
    obtain⟨a,vs,rfl,q,rl⟩:=r
    have p':d8 (wc X) Z μ H ((if l.length=n then gs l dσ else M.stuck:M DSt) G) fun dσ' μ' _ H'=>∀ σ',N5 (wc X) μ' H' dσ' σ'→Q σ' H':=p
    split at p'
    · rename_i hl
      exact⟨a,vs,rfl,q,by rw[←rl.length];exact hl,l,dσ,μ,G,rl,s,h,p'⟩
    ·exact p'.elim
  |_=>exact p.elim
theorem eU4{gg:Fg}(he:DE X Z e fa)(hg:DG X Z tg gg)(hs:swapsWithSole [tg] e pos.line X.env=pure false)(hw:swappedStores [tg] e X.env=pure none)
 (h1:(assignEach [tg] X.env).map (·.2)= [assign tg X.env]):DS X Z (.Assign [tg] e pos) (N7 fa gg):=
 DS.of (eV8 he.h hg.h hs hw h1) fun E σ H hE0=>hE0.elim fun dσ μ G s h p=>⟨dσ,μ,G,s,h,(d8.bind p).mono fun d μ1 G1 H1 x' h1 p1 v rv=>
  ⟨d,dσ,μ1,G1,rv,s.mono x',h1,(d8.bind p1).mono fun dσ2 μ2 G2 H2 x2 h2 p2 σ2 s2=>d8.ok p2 h2 σ2 s2⟩⟩
end
def X6:Nat→(DSt→M Bool)→Fs→Fs
 |0,_,_=>fun _=>M.stuck
 |n+1,t,b=>fun σ=>do
   if ←t σ then
    match ←b σ with
    | .nx σ'=>X6 n t b σ'
    | .ct σ'=>X6 n t b σ'
    | .bk σ'=>pure (.nx σ')
    | .rt d=>pure (.rt d)
   else pure (.nx σ)
open Classical in
def bF8(t:DSt→M Bool)(b:Fs):Fs:=fun σ G=>if h:∃n,(X6 n t b σ G).isSome=true then X6 (Classical.choose h) t b σ G else none
theorem M.bind_mono{α β:Type}{m:M α}{f g:α→M β}{G:DH}{r:Except Str β×DH}(h:(m >>= f) G=some r)(k:∀a G',f a G'=some r→g a G'=some r):(m >>= g) G=some r:=by
 rw[M.bind_eq]at h ⊢
 match m G,h with
 |some (.ok a,G'),h=>exact k a G' h
 |some (.error x,G'),h=>exact h
theorem aS7{t:DSt→M Bool}{b:Fs}:∀ {n:Nat} {σ:DSt} {G:DH} {r:Except Str Fl×DH},X6 n t b σ G=some r→X6 (n+1) t b σ G=some r
 |0,_,_,_,h=>by exact J1 h
 |n+1,σ,G,r,h=>by
   unfold X6 at h ⊢
   refine M.bind_mono h fun c G1 h1=>?_
   cases c with
   |true=>
     refine M.bind_mono h1 fun fl G2 h2=>?_
     cases fl with
     |nx σ'=>exact aS7 h2
     |ct σ'=>exact aS7 h2
     |bk σ'=>exact h2
     |rt d=>exact h2
   |false=>exact h1
theorem bZ9{t:DSt→M Bool}{b:Fs}{n m:Nat}(hm:n≤m){σ:DSt}{G:DH}{r:Except Str Fl×DH}(h:X6 n t b σ G=some r):X6 m t b σ G=some r:=by
 induction hm with
 |refl=>exact h
 |step _ ih=>exact aS7 ih
section
variable{X:Cx}{Z:XC}{c:Expr}{pos:Pos}{body:List Stmt}{t:DSt→M Bool}{f:Fs}
theorem dW4(hp:PassesOwn (model X.prog X.w) X.A X.env X.xe)(hc:DT X Z c t)(hb:DB X Z body f):DS X Z (.While c body [] pos) (bF8 t f):=
 DS.of (dT0 hp hc.h hb.h) fun E σ H hE0=>hE0.elim fun dσ μ G s h p=>by
  unfold bF8 at p
  split at p
  · rename_i ex
    refine⟨fun m σ H=>∃dσ μ G,N5 (wc X) μ H dσ σ∧J0 (wc X) μ G H∧d8 (wc X) Z μ H (X6 m t f dσ G) fun fl μ' _ H'=>bS6 (wc X) E fl μ' H',⟨_,dσ,μ,G,s,h,p⟩,?_⟩
    rintro m σ H ⟨dσ,μ,G,s,h,p⟩
    cases m with
    |zero=>exact p.elim
    |succ m=>
      refine⟨dσ,μ,G,s,h,(d8.bind p).mono fun x μ1 G1 H1 x' h1 p1=>?_⟩
      cases x with
      |false=>exact d8.ok p1 h1 σ (s.mono x')
      |true=>
        refine⟨fun σ' H'=>∃dσ μ G,N5 (wc X) μ H' dσ σ'∧J0 (wc X) μ G H'∧d8 (wc X) Z μ H' (X6 m t f dσ G) fun fl μ' _ H'=>bS6 (wc X) E fl μ' H',fun σ' H' w=>⟨m,Nat.lt_succ_self _,w⟩,dσ,μ1,G1,s.mono x',h1,(d8.bind p1).mono fun fl μ2 G2 H2 x2 h2 p2=>?_⟩
        cases fl with
        |nx dσ'=>exact fun σ' s'=>⟨dσ',μ2,G2,s',h2,p2⟩
        |ct dσ'=>exact fun σ' s'=>⟨dσ',μ2,G2,s',h2,p2⟩
        |bk dσ'=>exact fun σ' s'=>d8.ok p2 h2 σ' s'
        |rt d=>exact fun v r=>d8.ok p2 h2 v r
  ·exact p.elim
end
def aM4(g:Fg)(b:Fs)(ck:DH→Bool):List D→Fs
 |[]=>fun σ G=>if ck G then some (.ok (.nx σ),G)else none
 | d :: r => fun σ G => if ck G then (do
    match ←b (←g d σ) with
    | .nx σ'=>aM4 g b ck r σ'
    | .ct σ'=>aM4 g b ck r σ'
    | .bk σ'=>pure (.nx σ')
    | .rt d=>pure (.rt d):M Fl) G else none
structure Src where
 items:List D
 ck:DH→Bool
def bK7(it:DSt→M Src)(g:Fg)(b:Fs):Fs:=fun σ=>do
 let s ←it σ
 aM4 g b s.ck s.items σ
def ItD(c:Wc)(μ:List Addr)(H:Hp)(J:It)(s:Src):Prop:=∀ μ' G' H',Ext μ H μ' H'→J0 c μ' G' H'→s.ck G'=true→∀i:Nat,
 (∀d,s.items[i]? =some d→J.go i H'∧∀x H2,J.yld i H' x H2→Ext μ' H' μ' H2∧J0 c μ' G' H2∧d9 c μ' H2 d x)∧(s.items.length≤i→J.stop i H')
def cX3(c:Wc)(Z:XC)(it:DSt→M Src):TI:=fun σ H R=>∃dσ μ G,N5 c μ H dσ σ∧J0 c μ G H∧d8 c Z μ H (it dσ G) fun s μ' _ H'=>∀J,ItD c μ' H' J s→R J H'
theorem cX3.elim{c:Wc}{Z:XC}{P:Prop}{it:DSt→M Src}{σ:St}{H:Hp}{R:It→Hp→Prop}(h:cX3 c Z it σ H R)(k:∀dσ μ G,N5 c μ H dσ σ→J0 c μ G H→d8 c Z μ H (it dσ G) (fun s μ' _ H'=>∀J,ItD c μ' H' J s→R J H')→P):P:=by
 obtain⟨e0,e1,e2,e3,e4,e5⟩:=h
 exact k e0 e1 e2 e3 e4 e5
structure DI(X:Cx)(Z:XC)(tg e:Expr)(it:DSt→M Src):Prop where
 h:PI X tg e (cX3 (wc X) Z it)
theorem PI.mono{X:Cx}{tg e:Expr}{t t':TI}(h:PI X tg e t)(k:∀ σ H R,t' σ H R→t σ H R):PI X tg e t':=fun pins s σ H R I q=>h pins s σ H R I (k σ H R q)
theorem DI.of{X:Cx}{Z:XC}{tg e:Expr}{it:DSt→M Src}{t:TI}(h:PI X tg e t)(k:∀ σ H R,cX3 (wc X) Z it σ H R→t σ H R):DI X Z tg e it:=⟨PI.mono h k⟩
section
variable{X:Cx}{Z:XC}{iter tg:Expr}{pos:Pos}{body:List Stmt}{f:Fs}{gg:Fg}{it:DSt→M Src}
def fN2(c:Wc)(E:bP1)(fl:Fl)(μ:List Addr)(_:DH)(H:Hp):Prop:=bS6 c E fl μ H
inductive fJ6(c:Wc)(Z:XC)(gg:Fg)(f:Fs)(sr:Src)(E:bP1)(μ1:List Addr)(H1:Hp)(i:Nat)(σ:St)(H:Hp):Prop
 |mk (dσ:DSt) (μ:List Addr) (G:DH) (k:Ext μ1 H1 μ H) (s:N5 c μ H dσ σ) (h:J0 c μ G H) (p:d8 c Z μ H (aM4 gg f sr.ck (sr.items.drop i) dσ G) (fN2 c E))
theorem eM8(hp:PassesOwn (model X.prog X.w) X.A X.env X.xe)(hc:X.calm=true)(hi:DI X Z tg iter it)(hg:DG X Z tg gg)(hb:DB X Z body f)(hs:∀x,foldedSetIterable iter X.env x=pure x):
 DS X Z (.For tg iter body [] pos) (bK7 it gg f):=
 DS.of (eN0 hp hc hi.h hg.h hb.h hs) fun E σ H hE0=>hE0.elim fun dσ μ G s h p=>⟨dσ,μ,G,s,h,(d8.bind p).mono fun sr μ1 G1 H1 x' h1 p1 J hJ=>by
  refine⟨fun i m σ' H'=>m=sr.items.length-i∧i≤sr.items.length∧fJ6 (wc X) Z gg f sr E μ1 H1 i σ' H',
   ⟨sr.items.length,rfl,Nat.zero_le _,dσ,μ1,G1,Ext.refl _ _,s.mono x',h1,p1⟩,?_⟩
  rintro i m σ' H' ⟨rfl,hi',dσ',μ',G',k',s',h',p'⟩
  by_cases hlt:i<sr.items.length
  · rw[List.drop_eq_getElem_cons hlt]at p'
    unfold aM4 at p'
    split at p'
    · rename_i ck
      obtain⟨q1,_⟩:=hJ μ' G' H' k' h' ck i
      obtain⟨go,yl⟩:=q1 _ (List.getElem?_eq_getElem hlt)
      refine .inr ⟨go,fun σ2 H2=>fJ6 (wc X) Z gg f sr E μ1 H1 (i+1) σ2 H2,fun σ2 H2 w=>⟨sr.items.length-(i+1),Nat.sub_succ_lt_self _ _ hlt,rfl,hlt,w⟩,fun x H2 y=>?_⟩
      obtain⟨k2,h2,rx⟩:=yl x H2 y
      have p2:=d8.bind (p'.from k2)
      refine⟨_,dσ',μ',G',rx,s'.mono k2,h2,p2.mono fun dσ3 μ3 G3 H3 x3 h3 p3 σ3 s3=>?_⟩
      refine⟨dσ3,μ3,G3,s3,h3,(d8.bind p3).mono fun fl μ4 G4 H4 x4 h4 p4=>?_⟩
      cases fl with
      |nx dσ4=>exact fun σ4 s4=>⟨dσ4,μ4,G4,k'.trans (k2.trans (x3.trans x4)),s4,h4,p4⟩
      |ct dσ4=>exact fun σ4 s4=>⟨dσ4,μ4,G4,k'.trans (k2.trans (x3.trans x4)),s4,h4,p4⟩
      |bk dσ4=>exact fun σ4 s4=>d8.ok p4 h4 σ4 s4
      |rt d=>exact fun v r=>d8.ok p4 h4 v r
    ·exact p'.elim
  · have e:i=sr.items.length:=Nat.le_antisymm hi' (Nat.le_of_not_lt hlt)
    subst e
    rw[List.drop_length]at p'
    unfold aM4 at p'
    split at p'
    · rename_i ck
      obtain⟨_,q2⟩:=hJ μ' G' H' k' h' ck sr.items.length
      exact .inl ⟨q2 (Nat.le_refl _),d8.ok p' h' σ' s'⟩
    ·exact p'.elim⟩
end
noncomputable def aN4(env:Env):List (Str×NameKind)→List (Str×Addr)→List (Str×Addr)
 |[],cs=>cs
 |(n,k)::r,cs=>aN4 env r (if k == .free then (match env.cells.lookup n with|some c=>(n,c)::cs|none=>cs)else cs)
theorem cK3{env:Env}:∀(l:List (Str×NameKind)) (cs:List (Str×Addr)),(∀p∈l,p.2= .free→∃c,env.cells.lookup p.1=some c)→
 (forIn l cs (fun(x:Str×NameKind) (cs:List (Str×Addr))=>(match x with|(name,kind)=>if (kind==NameKind.free)=true then do let c ←cellOf env name;pure (ForInStep.yield ((name,c)::cs))else pure (ForInStep.yield cs):Sem (ForInStep (List (Str×Addr))))):Sem (List (Str×Addr)))=pure (aN4 env l cs)
 |[],cs,_=>rfl
 |(n,k)::r,cs,h=>by
  have ih:=fun cs'=>cK3 r cs' fun p hp=>h p (List.mem_cons_of_mem _ hp)
  rw[List.forIn_cons]
  unfold aN4
  rcases hk:(k==NameKind.free)with _|_
  ·
    have e:(match ((n,k):Str×NameKind) with|(name,kind)=>if (kind==NameKind.free)=true then do let c ←cellOf env name;pure (ForInStep.yield ((name,c)::cs))else pure (ForInStep.yield cs):Sem (ForInStep (List (Str×Addr))))=pure (ForInStep.yield cs):=by
     show (if (k==NameKind.free)=true then _ else _)=_
     rw[hk];rfl
    rw[e]
    exact ih cs
  ·
    obtain⟨c,hc⟩:=h (n,k) List.mem_cons_self (by simpa using hk)
    have hcell:cellOf env n=pure c:=by unfold cellOf;rw[hc]
    have e:(match ((n,k):Str×NameKind) with|(name,kind)=>if (kind==NameKind.free)=true then do let c ←cellOf env name;pure (ForInStep.yield ((name,c)::cs))else pure (ForInStep.yield cs):Sem (ForInStep (List (Str×Addr))))=pure (ForInStep.yield ((n,c)::cs)):=by
     show (if (k==NameKind.free)=true then (do let c ←cellOf env n;pure (ForInStep.yield ((n,c)::cs)))else _)=_
     rw[hk,hcell];rfl
    rw[e,hc]
    exact ih ((n,c)::cs)
theorem bH9{env:Env}{scope:Scope}(h:∀p∈scope.names,p.2= .free→∃c,env.cells.lookup p.1=some c):closureFor scope env=pure (aN4 env scope.names []):=by
 have q:=cK3 scope.names [] h
 unfold closureFor
 dsimp only
 rw[q]
 rfl
theorem cA9{env:Env}{x:Str}{c:Addr}:∀(l:List (Str×NameKind)) (cs:List (Str×Addr)),(cs.lookup x=some c→env.cells.lookup x=some c)→(aN4 env l cs).lookup x=some c→env.cells.lookup x=some c
 |[],cs,h,e=>h e
 |(n,k)::r,cs,h,e=>by
  unfold aN4 at e
  refine cA9 r _ (fun e1=>?_) e
  split at e1
  · split at e1
    · rename_i c' hc
      rw[List.lookup_cons]at e1
      split at e1
      · rename_i hx
        have hx':x=n:=by simpa using hx
        subst hx'
        cases e1
        exact hc
      ·exact h e1
    ·exact h e1
  ·exact h e1
theorem Z0{env:Env}{x:Str}{c:Addr}{l:List (Str×NameKind)}(h:(aN4 env l []).lookup x=some c):env.cells.lookup x=some c:=cA9 l [] (fun z=>by exact J1 z) h
theorem bT8{env:Env}{x:Str}:∀(l:List (Str×NameKind)) (cs:List (Str×Addr)),(∃c,cs.lookup x=some c)→∃c,(aN4 env l cs).lookup x=some c
 |[],cs,h=>h
 |(n,k)::r,cs,h=>by
  unfold aN4
  refine bT8 r _ ?_
  split
  · split
    · rename_i c' hc
      rw[List.lookup_cons]
      split
      ·exact⟨_,rfl⟩
      ·exact h
    ·exact h
  ·exact h
theorem bG5{env:Env}{x:Str}{c:Addr}(hc:env.cells.lookup x=some c):∀(l:List (Str×NameKind)) (cs:List (Str×Addr)),(x,NameKind.free)∈l→∃c,(aN4 env l cs).lookup x=some c
 |[],cs,h=>by simp at h
 |(n,k)::r,cs,h=>by
  unfold aN4
  rcases List.mem_cons.mp h with e|h
  · cases e
    refine bT8 r _ ?_
    rw[hc]
    simp
  ·exact bG5 hc r _ h
section
variable{prog:Program}{w:World}{A:Around}{E:VSP}{R:Result→Shared→Prop}{s:Shared}
theorem cF0{elt target iter:Expr}{ifs:List Expr}{scope:Scope}{pos:Pos}{it acc:Value}{env:Env}(I:Nat→Shared→Prop)
 (turn:∀n s,I n s→wpAny (model prog w) A (pyNext it) (fun r s₁=>match r with
   |none=>R (.ok .next) s₁
   | some v => wpAny (model prog w) A (letOwnedTupleGo target it v) (fun _ s₁' => wpAny (model prog w) A (assign target env v) (fun _ s₂ =>
      wpAny (model prog w) A (forIn ifs true fun c r=>if r=true then do let ok ←isTrue c env (eval c env);pure (ForInStep.yield ok)else pure (ForInStep.yield r)) (fun ok s₃=>
       if ok=true then wpAny (model prog w) A (eval elt env) (fun x s₄=>
        wpAny (model prog w) A (call (.builtin "list.append") [acc,x]) (fun _ s₅=>∃m,m<n∧I m s₅) (fun _ _=>False) s₄) (fun _ _=>False) s₃
       else ∃m,m<n∧I m s₃) (fun _ _=>False) s₂) (fun _ _=>False) s₁') (fun _ _=>False) s₁) (fun _ _=>False) s)
 (n:Nat) (h:I n s):
 codeAny (model prog w) A (.compLoop (.ListComp elt [⟨target,iter,ifs,0⟩] scope pos) 0 it acc env) R s:=by
 refine codeAny_loop rfl I (fun n s hI=>?_) n h
 show wpAny _ A ((compTurn (.ListComp elt [⟨target,iter,ifs,0⟩] scope pos) 0 it acc env).onRaise (fun x=>do noteFrame x env;theTreesLotGoes x)) _ _ s
 refine wpAny_noted ?_
 rw[compTurn_list]
 refine wpAny_bind (wpAny_standAt (wpAny_bind (wpAny_mono (turn n s hI) (fun r s₁ h₁=>?_) fun _ _ h'=>h'.elim)))
 rcases r with _|v
 ·exact wpAny_pure h₁
 ·
   refine wpAny_bind (wpAny_mono h₁ (fun _ s₁' h₁'=>?_) fun _ _ h'=>h'.elim)
   refine wpAny_bind (wpAny_mono h₁' (fun _ s₂ h₂=>wpAny_bind (wpAny_mono h₂ (fun ok s₃ h₃=>?_) fun _ _ h'=>h'.elim)) fun _ _ h'=>h'.elim)
   rcases ok with _|_
   ·
     exact wpAny_pure ⟨rfl,h₃⟩
   ·
     exact wpAny_bind (wpAny_bind (wpAny_mono h₃ (fun x s₄ h₄=>wpAny_bind (wpAny_mono h₄ (fun _ s₅ h₅=>wpAny_pure (wpAny_pure ⟨rfl,h₅⟩)) fun _ _ h'=>h'.elim)) fun _ _ h'=>h'.elim))
end
def T5(X:Cx)(scope:Scope)(N:List Str)(C:Addr)(s:Shared)(H:Hp)(ex:List Addr):Cx where
 prog:=X.prog
 w:=X.w
 K:=X.K
 mg:=X.mg
 base:=X.base
 A:=X.A
 N:=N
 s₀:=s
 H₀:=H
 env:=compEnvC scope (aN4 X.env scope.names []) C X.env
 outer:=X.stack
 stack:=X.stack
 ex:=ex
 fn:=fun _=>false
 calm:=X.calm
 pn:= []
 xe:=fun _ _=>False
structure aG3(X:Cx)(scope:Scope)(N:List Str)(caps:List (Option Nat)):Prop where
 kind:scope.kind= .function
 cell:∀y∈scope.names,y.2≠ .cell
 names:∀y∈scope.names,y.2= .local→scope.names.lookup y.1=some .local
 free:∀y∈scope.names,y.2= .free→X.env.kindOf y.1=some .cell∨X.env.kindOf y.1=some .free
 frees:∀y∈scope.names,y.2= .free→scope.names.lookup y.1=some .free
 len:caps.length=N.length
 caps:∀(i j:Nat),caps[i]? =some (some j)→∃x,N[i]? =some x∧X.N[j]? =some x∧(x,NameKind.free)∈scope.names
def aA9{α:Type}(caps:List (Option Nat))(σ:List (Option α)):List (Option α):=caps.map fun o=>o.bind fun j=>(σ[j]?).join
theorem bA2{env:Env}{x:Str}:∀names:List (Str×NameKind),(names.map fun(n,k)=>if (k==NameKind.free&&env.scope.kind == .function&&env.kindOf n==some .cell)then (n,NameKind.cell)else (n,k)).lookup x=
 (names.lookup x).map fun k=>if (k==NameKind.free&&env.scope.kind == .function&&env.kindOf x==some .cell)then NameKind.cell else k
 |[]=>rfl
 |(n,k)::r=>by
  have ih:=bA2 (env:=env) (x:=x) r
  rw[List.map_cons]
  by_cases hx:x=n
  · subst hx
    dsimp only
    split
    ·rename_i h;simp[List.lookup_cons];simp at h;simp[h]
    ·rename_i h;simp[List.lookup_cons];simp at h;intro a b c;exact absurd c (h a b)
  · have hb:(x==n)=false:=by simpa using hx
    dsimp only
    split
    ·rw[List.lookup_cons,List.lookup_cons,hb];exact ih
    ·rw[List.lookup_cons,List.lookup_cons,hb];exact ih
section
variable{X:Cx}{scope:Scope}{N:List Str}{caps:List (Option Nat)}{C:Addr}{pins:PNS}{σ:St}{H:Hp}{s:Shared}{ex:List Addr}
theorem aG3.isFree(k:aG3 X scope N caps){x:Str}(h:(relabel scope X.env).names.lookup x=some .cell∨(relabel scope X.env).names.lookup x=some .free):(x,NameKind.free)∈scope.names:=by
 have e:(relabel scope X.env).names.lookup x= (scope.names.lookup x).map fun k=>if (k==NameKind.free&&X.env.scope.kind == .function&&X.env.kindOf x==some .cell)then NameKind.cell else k:=bA2 scope.names
 rw[e]at h
 rcases hl:scope.names.lookup x with _|kd
 ·rw[hl]at h;rcases h with h|h<;>exact J1 h
 ·
   rw[hl]at h
   have hm:=PySem.mem_of_lookup hl
   have hn:=k.cell _ hm
   simp only[Option.map_some]at h
   cases kd with
   |free=>exact hm
   |cell=>exact absurd rfl hn
   |_=>rcases h with h|h<;>simp at h
theorem aG3.cells(k:aG3 X scope N caps)(ok:X.Ok):∀p∈scope.names,p.2= .free→∃c,X.env.cells.lookup p.1=some c:=fun p hp e=>ok.has p.1 (k.free p hp e)
theorem dJ0(I:Inv X pins σ H s)(k:aG3 X scope N caps)(hC:s.heap.objs.size≤C)(hex:∀b∈ex,aS0 X pins H b)(hlt:∀b∈ex,b<s.heap.objs.size):(T5 X scope N C s H ex).Ok where
 mod:=I.ok.mod
 kind:=k.kind
 glob:=I.ok.glob
 blt:=I.ok.blt
 above:=hC
 inj:=fun x y c h1 h2=>I.ok.inj x y c (Z0 h1) (Z0 h2)
 has:=fun x hx=>by
  have hm:=k.isFree hx
  obtain⟨c,hc⟩:=k.cells I.ok _ hm rfl
  exact bG5 hc _ _ hm
 cab:=fun x c h=>by exact aM7 h
 hd:=I.ok.hd
 frames:=I.ok.frames
 stk:=.inl rfl
 exf:=fun b hb=>⟨Nat.ne_of_lt (Nat.lt_of_lt_of_le (hlt b hb) hC),fun x c e=>(hex b hb).2.2.2.2.1 x c (Z0 e)⟩
 bs:=I.bs
 bsz:=Nat.le_trans I.ok.bsz I.sz
 noex:=fun b o e hb=>by
  rcases (hex b hb).2.2.2.1 with z|z
  ·exact I.ok.noex b o e z
  ·exact absurd (Nat.lt_of_lt_of_le (Heap.lt_size (I.ok.bs b o e).1) z) (Nat.lt_irrefl _)
 exfs:=fun b hb z=>by
  rcases List.mem_cons.mp (I.stkSub b z)with e|e
  ·exact(hex b hb).2.1 e
  ·exact(hex b hb).2.2.1 e
 funs:=I.stack
 frf:=I.stkFree
 gd:=I.ok.gd
theorem bX6{α:Type}{caps:List (Option Nat)}{σ:List (Option α)}{i:Nat}{v:α}(h:(aA9 caps σ)[i]? =some (some v)):∃j,caps[i]? =some (some j)∧σ[j]? =some (some v):=by
 unfold aA9 at h
 rw[List.getElem?_map]at h
 rcases e:caps[i]? with _|o
 ·rw[e]at h;exact J1 h
 ·
   rw[e]at h
   rcases o with _|j
   ·cases h
   ·
     refine⟨j,rfl,?_⟩
     simp only[Option.map_some,Option.bind_some,Option.some.injEq]at h
     rcases e2:σ[j]? with _|w
     ·rw[e2]at h;exact J1 h
     ·rw[e2]at h;simp at h;rw[h]
theorem cT6{h₁:Heap}{tk:Nat}(I:Inv X pins σ H s)(k:aG3 X scope N caps)(hC:s.heap.objs.size<C)(hex:∀b∈ex,aS0 X pins H b)(hlt:∀b∈ex,b<s.heap.objs.size)
 (old:∀b o,s.heap.get? b=some o→h₁.get? b=some o) (hns:h₁.Ns C fun _=>none) (hacc:h₁.get? s.heap.objs.size=some {cls:=.type "list",data:=.seq ([]:List Value).toArray 0}):
 Inv (T5 X scope N C s H ex) [] (aA9 caps σ) (upd H s.heap.objs.size (.lst [])) {s with heap:=h₁,toks:=tk}:=by
 have hD:H s.heap.objs.size=none:=I.hok.fresh (Nat.le_refl _)
 refine⟨dJ0 I k (Nat.le_of_lt hC) hex hlt,rfl,I.bare,Un.laid old (Nat.le_refl _) hD,⟨_,hns,fun i x v h1 h2 h3=>?_⟩,fun x c e=>?_,?_,fun x c e=>?_,fun p hp=>absurd (show p∈([]:PNS)from hp) (by simp),?_,?_⟩
 · obtain⟨j,e1,e2⟩:=bX6 h2
   obtain⟨y,e3,e4,e5⟩:=k.caps i j e1
   have exy:y=x:=by
    have:some y=some x:=e3.symm.trans h1
    exact Option.some.inj this
   subst exy
   have hk:=k.free _ e5 rfl
   obtain⟨m,hn,hl⟩:=I.loc
   obtain⟨u,r,l⟩:=hl j y v e4 e2 (by rcases hk with z|z;exact .inr (.inl z);exact .inr (.inr z))
   refine⟨u,r,.inr ?_⟩
   rcases l with⟨z,_⟩|⟨_,c,ec,hc⟩
   ·rcases hk with z'|z'<;>(rw[z]at z';cases z')
   · refine⟨?_,c,?_,?_⟩
     · rcases h3 with h3|h3|h3
       · exfalso
         have e:(relabel scope X.env).names.lookup y= (scope.names.lookup y).map fun k=>if (k==NameKind.free&&X.env.scope.kind == .function&&X.env.kindOf y==some .cell)then NameKind.cell else k:=bA2 scope.names
         have h3':(relabel scope X.env).names.lookup y=some .local:=h3
         rw[e]at h3'
         rw[k.frees _ e5 rfl]at h3'
         simp only[Option.map_some]at h3'
         split at h3'<;>cases h3'
       ·exact .inl h3
       ·exact .inr h3
     · obtain⟨c',ec'⟩:=bG5 ec scope.names [] e5
       have:=Z0 ec'
       rw[ec]at this
       cases this
       exact ec'
     · obtain⟨o,ho,hd⟩:=hc
       exact⟨o,old _ _ ho,hd⟩
 · obtain⟨v,o,ho,hd⟩:=I.cell x c (Z0 e)
   exact⟨v,o,old _ _ ho,hd⟩
 · show upd H s.heap.objs.size (.lst []) C=none
   rw[J7 (Nat.ne_of_gt hC)]
   exact I.hok.fresh (Nat.le_of_lt hC)
 · obtain⟨v,o,ho,hd⟩:=I.cell x c (Z0 e)
   rw[J7 (Nat.ne_of_lt (Heap.lt_size ho))]
   exact I.freeC x c (Z0 e)
 ·exact I.hok.laid old (Nat.le_refl _) ⟨Nat.zero_le _, [],0,.nil,hacc⟩
 · show (aA9 caps σ).length=N.length
   unfold aA9
   rw[List.length_map];exact k.len
theorem dQ7{pins':PNS}{σ':St}{H':Hp}{s':Shared}{h':Heap}(I:Inv X pins σ H s)(hex:∀b∈ex,aS0 X pins H b)(hC:s.heap.objs.size<C)
 (I':Inv (T5 X scope N C s H ex) pins' σ' H' s') (sb:Heap.SameBut C s'.heap h'):Inv X pins σ H' {s' with heap:=h'}:=by
 have hos:s'.os=s.os:=I'.os
 have hfree:H' C=none:=I'.free
 have neC:∀b o,s.heap.get? b=some o→b≠C:=fun b o e z=>by
  have:=Heap.lt_size e
  rw[z]at this
  exact absurd (Nat.lt_trans hC this) (Nat.lt_irrefl _)
 have hun:Un (frs X.stack) ex H H' s.heap s'.heap:=I'.base
 have hun2:Un (frs X.stack) ex H H' s.heap h':=by
  refine⟨fun b o e n hb hx=>(sb.2 b (neC b o e)).trans (hun.keep b o e n hb hx),fun b o e n hb hx=>?_,hun.free,fun b o e hx=>?_,hun.tups,hun.frzs,hun.tbls⟩
  · obtain⟨sl,q⟩:=hun.slot b o e n hb hx
    exact⟨sl,(sb.2 b (neC b o e)).trans q⟩
  · obtain⟨o',q⟩:=hun.there b o e hx
    exact⟨o',(sb.2 b (neC b o e)).trans q⟩
 have hok2:HOk X.prog X.w H' h':=fun a o e=>by
  have nc:∀c u,H' c=some u→c≠C:=fun c u q z=>by rw[z,hfree]at q;exact J1 q
  refine(I'.hok a o e).stay (fun b u hb q=>?_) (fun _ q=>q) fun _ _ q=>q
  rcases hb with rfl|hb
  ·exact(sb.2 b (nc b o e)).trans q
  ·exact(sb.2 b (nc b _ hb)).trans q
 obtain⟨hh,g,d,t,os'⟩:=s'
 obtain rfl:os'=s.os:=hos
 have fin:=I.call (h':=h') (g':=g) (d':=d) (t':=t) (ch:=ex) hun2 hok2 I'.bare fun b hb=>⟨(hex b hb).2.2.2.1,(hex b hb).2.1,(hex b hb).2.2.2.2.1,(hex b hb).2.2.2.2.2⟩
 exact fin
end
noncomputable def hide(q:Addr)(H:Hp):Hp:=fun b=>if b=q then none else H b
theorem aI4{q:Addr}{H:Hp}:hide q H q=none:=by unfold hide;rw[if_pos rfl]
theorem V9{q b:Addr}{H:Hp}(h:b≠q):hide q H b=H b:=by unfold hide;rw[if_neg h]
theorem T8{q b:Addr}{H:Hp}{o:HO}(h:hide q H b=some o):b≠q∧H b=some o:=by
 by_cases e:b=q
 ·rw[e,aI4]at h;exact J1 h
 ·rw[V9 e]at h;exact⟨e,h⟩
theorem dN9{q:Addr}{H:Hp}{o:HO}(h:H q=some o):upd (hide q H) q o=H:=by
 funext b
 by_cases e:b=q
 ·rw[e,R3,h]
 ·rw[J7 e,V9 e]
theorem aW2{q:Addr}{H:Hp}{o:HO}:hide q (upd H q o)=hide q H:=by
 funext b
 by_cases e:b=q
 ·rw[e,aI4,aI4]
 ·rw[V9 e,V9 e,J7 e]
theorem aX1{q:Addr}{H:Hp}(h:H q=none):hide q H=H:=by
 funext b
 by_cases e:b=q
 ·rw[e,aI4,h]
 ·rw[V9 e]
section
variable{c:Wc}{μ μ':List Addr}{H H':Hp}{G:DH}{q:Addr}{vs:List V}
mutual
theorem d9.sq(k:∀a xs,SqT c.K H a xs→SqT c.K H' a xs):∀ {d:D} {v:V},d9 c μ H d v→d9 c μ H' d v
 | .non,_,h=>h
 | .bl _,_,h=>h
 | .int _,_,h=>h
 | .str _,_,h=>h
 | .ty _,_,h=>h
 | .fn _,_,h=>h
 | .ref i,v,h=>by unfold d9 at h ⊢;exact h
 | .tup l,v,h=>by
   unfold d9 at h ⊢
   obtain⟨a,vs,e,q,r⟩:=h
   exact⟨a,vs,e,k _ _ q,o9.sq k r⟩
theorem o9.sq(k:∀a xs,SqT c.K H a xs→SqT c.K H' a xs):∀ {l:List D} {vs:List V},o9 c μ H l vs→o9 c μ H' l vs
 |[],_,h=>h
 |d::ds,vs,h=>by
   unfold o9 at h ⊢
   obtain⟨v,r,e,q,t⟩:=h
   exact⟨v,r,e,d9.sq k q,o9.sq k t⟩
end
theorem aA7.sq(k:∀a xs,SqT c.K H a xs→SqT c.K H' a xs):∀ {l:List (Key×D)} {vs:List (Key×V)},aA7 c μ H l vs→aA7 c μ H' l vs
 |[],_,h=>h
 |(_,d)::ds,vs,h=>by
  obtain⟨v,r,e,q,t⟩:=h
  exact⟨v,r,e,d9.sq k q,aA7.sq k t⟩
theorem aI9(hq:H q=some (.lst vs)){K:PySem.W.Frag}(a:Addr)(xs:List V)(h:SqT K H a xs):SqT K (hide q H) a xs:=by
 rcases h with(h|⟨o,h⟩)|h
 ·exact .inl (.inl (by rw[V9 (fun e=>by rw[e,hq]at h;cases h)];exact h))
 ·exact .inl (.inr ⟨o,by rw[V9 (fun e=>by rw[e,hq]at h;cases h)];exact h⟩)
 ·exact .inr h
theorem aJ5{K:PySem.W.Frag}(a:Addr)(xs:List V)(h:SqT K (hide q H) a xs):SqT K H a xs:=by
 rcases h with(h|⟨o,h⟩)|h
 ·exact .inl (.inl (T8 h).2)
 ·exact .inl (.inr ⟨o,(T8 h).2⟩)
 ·exact .inr h
theorem N5.sq(k:∀a xs,SqT c.K H a xs→SqT c.K H' a xs){dσ:DSt}{σ:St}(h:N5 c μ H dσ σ):N5 c μ H' dσ σ:=⟨h.1,fun i d e=>let ⟨v,a,b⟩:=h.2 i d e;⟨v,a,b.sq k⟩⟩
theorem Ext.hide(x:Ext μ H μ' H')(n:q∉μ)(hq:H q=some (.lst vs)):H' q=some (.lst vs)∧q∉μ'∧Ext μ (DL.hide q H) μ' (DL.hide q H'):=by
 refine⟨x.oth q _ hq n,fun h=>?_,x.pre,fun a h1 h2=>?_,fun b o e nb=>?_,fun b xs e=>?_,fun b o u e=>?_⟩
 ·have:=x.new q h n;rw[hq]at this;exact eH5 this
 · by_cases e:a=q
   ·rw[e,aI4]
   ·rw[V9 e];exact x.new a h1 h2
 ·obtain⟨e1,e2⟩:=T8 e;rw[V9 e1];exact x.oth b o e2 nb
 ·obtain⟨e1,e2⟩:=T8 e;rw[V9 e1];exact x.tup b xs e2
 ·obtain⟨e1,e2⟩:=T8 e;rw[V9 e1];exact x.frz b o u e2
theorem Ext.unhide(x:Ext μ H μ' (DL.hide q H')):Ext μ H μ' H':=
 ⟨x.pre,x.new,fun b o e n=>(T8 (x.oth b o e n)).2,fun b xs e=>(T8 (x.tup b xs e)).2,fun b o u e=>(T8 (x.frz b o u e)).2⟩
theorem J0.hide(h:J0 c μ G H)(n:q∉μ)(hq:H q=some (.lst vs)):J0 c μ G (DL.hide q H):=
 ⟨h.len,h.inj,fun i o a g m=>by
  have na:a≠q:=fun e=>n (by rw[←e];exact List.mem_of_getElem? m)
  have r:=h.obj i o a g m
  cases o with
  |lst l=>obtain⟨ws,e,r⟩:=r;exact⟨ws,by rw[V9 na];exact e,r.sq (aI9 hq)⟩
  |dct l=>obtain⟨ws,e,r⟩:=r;exact⟨ws,by rw[V9 na];exact e,r.sq (aI9 hq)⟩
  |rod l=>obtain⟨ws,o,e,r⟩:=r;exact⟨ws,o,by rw[V9 na];exact e,r.sq (aI9 hq)⟩
  |rol l=>
    obtain⟨ws,e,r⟩:=r
    refine⟨ws,?_,r.sq (aI9 hq)⟩
    rcases e with⟨o,e⟩|e
    ·exact .inl ⟨o,by rw[V9 na];exact e⟩
    ·exact .inr e⟩
theorem J0.unhide(h:J0 c μ G (DL.hide q H)):J0 c μ G H:=
 ⟨h.len,h.inj,fun i o a g m=>by
  have r:=h.obj i o a g m
  cases o with
  |lst l=>obtain⟨ws,e,r⟩:=r;exact⟨ws,(T8 e).2,r.sq aJ5⟩
  |dct l=>obtain⟨ws,e,r⟩:=r;exact⟨ws,(T8 e).2,r.sq aJ5⟩
  |rod l=>obtain⟨ws,o,e,r⟩:=r;exact⟨ws,o,(T8 e).2,r.sq aJ5⟩
  |rol l=>
    obtain⟨ws,e,r⟩:=r
    refine⟨ws,?_,r.sq aJ5⟩
    rcases e with⟨o,e⟩|e
    ·exact .inl ⟨o,(T8 e).2⟩
    ·exact .inr e⟩
inductive UH{α:Type}(c:Wc)(q:Addr)(vs:List V)(μ:List Addr)(H:Hp)(K:α→List Addr→DH→Hp→Prop)(a:α)(μ':List Addr)(G':DH)(H':Hp):Prop
 |mk (e:H' q=some (.lst vs)) (n:q∉μ') (h:J0 c μ' G' (DL.hide q H')) (x:Ext μ (DL.hide q H) μ' (DL.hide q H')) (k:K a μ' G' (DL.hide q H'))
theorem d8.unhide{α:Type}{Z:XC}{r:Option (Except Str α×DH)}{K:α→List Addr→DH→Hp→Prop}(n:q∉μ)(hq:H q=some (.lst vs))(p:d8 c ZF μ (DL.hide q H) r K):
 d8 c Z μ H r (UH c q vs μ H K):=by
 match r,p with
 |some (.ok a,G'),p=>
   intro μ' H' x h
   obtain⟨e1,e2,e3⟩:=x.hide n hq
   have h2:=h.hide e2 e1
   exact⟨e1,e2,h2,e3,p μ' _ e3 h2⟩
 |some (.error z,G'),p=>
   intro μ' H' x h
   obtain⟨e1,e2,e3⟩:=x.hide n hq
   exact(p μ' _ e3 (h.hide e2 e1)).elim
theorem J0.mem_lt{X:Cx}{pins:PNS}{σ:St}{s:Shared}(I:Inv X pins σ H s)(h:J0 (wc X) μ G H){a:Addr}(ha:a∈μ):a<s.heap.objs.size:=by
 obtain⟨i,hi⟩:=List.getElem?_of_mem ha
 have hl:i<G.length:=by rw[←h.len];exact lt_of_get hi
 have r:=h.obj i G[i] a (List.getElem?_eq_getElem hl) hi
 rcases e:G[i]with l|l|l|l
 ·rw[e]at r;obtain⟨_,e,_⟩:=r;exact I.hok.lt e
 ·
   rw[e]at r
   obtain⟨ws,e,_⟩:=r
   rcases e with⟨o,e⟩|e
   ·exact I.hok.lt e
   · rcases e with(e|⟨o,e⟩)|⟨o,its,n,e,_⟩
     ·exact J1 e
     ·exact J1 e
     ·exact Heap.lt_size (I.kIn a o e)
 ·rw[e]at r;obtain⟨_,e,_⟩:=r;exact I.hok.lt e
 ·rw[e]at r;obtain⟨_,_,e,_⟩:=r;exact I.hok.lt e
end
def PTs(X:Cx)(ifs:List Expr)(t:TT):Prop:=
 ∀(pins:PNS) (s:Shared) (σ:St) (H:Hp) (Q:Bool→Hp→Prop),Inv X pins σ H s→t σ H Q→
  wpAny (model X.prog X.w) X.A (forIn ifs true fun c r=>if r=true then do let ok ←isTrue c X.env (eval c X.env);pure (ForInStep.yield ok)else pure (ForInStep.yield r)) (TP X pins σ Q) X.xe s
structure DTs(X:Cx)(Z:XC)(ifs:List Expr)(f:DSt→M Bool):Prop where
 h:PTs X ifs (bR0 (wc X) Z f)
def N6:DSt→M Bool:=fun _=>pure true
theorem dX7{X:Cx}{Z:XC}:DTs X Z [] N6:=⟨fun pins s σ H Q I hE0=>hE0.elim fun dσ μ G sr h p=>wpAny_tests_nil ⟨H,I,d8.ok p h⟩⟩
theorem eC5{X:Cx}{Z:XC}{c:Expr}{t:DSt→M Bool}(h:DT X Z c t):DTs X Z [c] t:=⟨fun pins s σ H Q I q=>wpAny_tests_one (h.h pins s σ H Q I q)⟩
def P0(g:Fg)(t:DSt→M Bool)(e:Fe)(ck:DH→Bool):List D→DSt→M (List D)
 |[]=>fun _ G=>if ck G then some (.ok [],G)else none
 | d :: r => fun σ G => if ck G then (do
    let σ1 ←g d σ
    if ←t σ1 then do
     let y ←e σ1
     let ys ←P0 g t e ck r σ1
     pure (y::ys)
    else P0 g t e ck r σ1:M (List D)) G else none
def M8(it:DSt→M Src)(caps:List (Option Nat))(g:Fg)(t:DSt→M Bool)(e:Fe):Fe:=fun σ=>do
 let s ←it σ
 if s.items.length≤sizeLine then do
  let ys ←noX (P0 g t e s.ck s.items (aA9 caps σ))
  Q5 (.lst ys)
 else M.stuck
theorem dJ1{c:Wc}{μ:List Addr}{H:Hp}{caps:List (Option Nat)}{dσ:DSt}{σ:St}(h:N5 c μ H dσ σ):N5 c μ H (aA9 caps dσ) (aA9 caps σ):=by
 refine⟨by simp[aA9],fun i d e=>?_⟩
 obtain⟨j,e1,e2⟩:=bX6 e
 obtain⟨v,e3,r⟩:=h.2 j d e2
 refine⟨v,?_,r⟩
 unfold aA9
 rw[List.getElem?_map,e1]
 simp[e3]
section
variable{X:Cx}{Z:XC}{elt tg iter:Expr}{ifs:List Expr}{scope:Scope}{pos:Pos}{N:List Str}{caps:List (Option Nat)}{it:DSt→M Src}{gg:Fg}{tt:DSt→M Bool}{fe:Fe}
set_option maxHeartbeats 1000000 in
def CKV(c:Wc)(Q:VK)(d:D)(μ':List Addr)(_:DH)(H':Hp):Prop:=∀v,d9 c μ' H' d v→Q v H'
def CKR(c:Wc)(Z:XC)(Q:VK)(ys U9:List D)(μ:List Addr)(G:DH)(H:Hp):Prop:=d8 c Z μ H (Q5 (.lst (ys++U9)) G) (CKV c Q)
def eK5(gg:Fg)(tt:DSt→M Bool)(fe:Fe)(ck:DH→Bool)(items:List D)(σ:DSt)(y:D):M (List D):=do let ys ←P0 gg tt fe ck items σ;pure (y::ys)
def dB8(gg:Fg)(tt:DSt→M Bool)(fe:Fe)(ck:DH→Bool)(items:List D)(σ:DSt)(b:Bool):M (List D):=if b=true then (do let y ←fe σ;let ys ←P0 gg tt fe ck items σ;pure (y::ys))else P0 gg tt fe ck items σ
def eS5(gg:Fg)(tt:DSt→M Bool)(fe:Fe)(ck:DH→Bool)(items:List D)(σ:DSt):M (List D):=do if ←tt σ then do {let y ←fe σ;let ys ←P0 gg tt fe ck items σ;pure (y::ys)}else P0 gg tt fe ck items σ
inductive CG(X:Cx)(Z:XC)(Q:VK)(vs:List V)(DD:Addr)(ys:List D)(μ':List Addr)(H5:Hp)(m:DSt→M (List D))(σ6:St)(H6:Hp):Prop
 |mk (dσ6:DSt) (μ6:List Addr) (G6:DH) (s:N5 (wc X) μ6 H6 dσ6 σ6) (h:J0 (wc X) μ6 G6 H6) (u:UH (wc X) DD vs μ' H5 (fun dσ μ G H=>d8 (wc X) ZF μ H (m dσ G) (CKR (wc X) Z Q ys)) dσ6 μ6 G6 H6)
inductive CT(X:Cx)(Z:XC)(Q:VK)(vs:List V)(DD:Addr)(ys:List D)(dσ6:DSt)(σ6:St)(μ6:List Addr)(H6:Hp)(m:Bool→M (List D))(b:Bool)(H7:Hp):Prop
 |mk (μ7:List Addr) (G7:DH) (s:N5 (wc X) μ7 H7 dσ6 σ6) (h:J0 (wc X) μ7 G7 H7) (u:UH (wc X) DD vs μ6 H6 (fun b μ G H=>d8 (wc X) ZF μ H (m b G) (CKR (wc X) Z Q ys)) b μ7 G7 H7)
inductive CE(X:Cx)(Z:XC)(Q:VK)(vs:List V)(DD:Addr)(ys:List D)(dσ6:DSt)(σ6:St)(μ7:List Addr)(H7:Hp)(m:D→M (List D))(v:V)(H8:Hp):Prop
 |mk (y:D) (μ8:List Addr) (G8:DH) (r:d9 (wc X) μ8 H8 y v) (s:N5 (wc X) μ8 H8 dσ6 σ6) (h:J0 (wc X) μ8 G8 H8) (u:UH (wc X) DD vs μ7 H7 (fun y μ G H=>d8 (wc X) ZF μ H (m y G) (CKR (wc X) Z Q ys)) y μ8 G8 H8)
inductive eX0(Y:Cx)(Z:XC)(Q:VK)(gg:Fg)(tt:DSt→M Bool)(fe:Fe)(src:Src)(fp:List Addr)(tn:Nat→Heap→Prop)(DD:Addr)(μ2:List Addr)(H2:Hp)(n:Nat)(s':Shared):Prop
 |mk (i:Nat) (ys:List D) (vs:List V) (σ':St) (H':Hp) (dσ':DSt) (μ':List Addr) (G':DH) (e:n=src.items.length-i) (hi:i≤src.items.length) (hv:vs.length≤i)
    (I:Inv Y [] σ' H' s') (st:tn i s'.heap) (fr:∀b∈fp,H' b=none) (hs:H' DD=some (.lst vs)) (nD:DD∉μ')
    (x:Ext μ2 H2 μ' (hide DD H')) (h:J0 (wc Y) μ' G' (hide DD H')) (sr:N5 (wc Y) μ' (hide DD H') dσ' σ') (rl:o9 (wc Y) μ' (hide DD H') ys vs)
    (p:d8 (wc Y) ZF μ' (hide DD H') (P0 gg tt fe src.ck (src.items.drop i) dσ' G') (CKR (wc Y) Z Q ys))
theorem dE9{Y:Cx}{Q:VK}{src:Src}{fp:List Addr}{tn:Nat→Heap→Prop}{DD it:Addr}{μ2:List Addr}{H2:Hp}{J:It}{R:Result→Shared→Prop}(hcX:Y.calm=true)(hg:DG Y ZF tg gg)(ht:DTs Y ZF ifs tt)(he:DE Y ZF elt fe)(T:bL6 Y.prog Y.w Y.K tg J fp it tn)
 (fpX:∀(H':Hp) (b:Addr),b∈fp→H' b=none→aS0 Y [] H' b) (hJ:ItD (wc Y) μ2 H2 J src) (hlen:src.items.length≤sizeLine) (fin:∀(H':Hp) (σ':St) (s4:Shared),Inv Y [] σ' H' s4→Q (.ref DD) H'→R (.ok .next) s4) (n:Nat) (s':Shared) (h:eX0 Y Z Q gg tt fe src fp tn DD μ2 H2 n s') {NX:Shared→Prop} (nx:∀m s,m<n→eX0 Y Z Q gg tt fe src fp tn DD μ2 H2 m s→NX s):
 wpAny (model Y.prog Y.w) Y.A (pyNext (.ref it)) (fun r s₁=>match r with
  |none=>R (.ok .next) s₁
  | some v => wpAny (model Y.prog Y.w) Y.A (letOwnedTupleGo tg (.ref it) v) (fun _ s₁' => wpAny (model Y.prog Y.w) Y.A (assign tg Y.env v) (fun _ s₂ =>
     wpAny (model Y.prog Y.w) Y.A (forIn ifs true fun c r=>if r=true then do let ok ←isTrue c Y.env (eval c Y.env);pure (ForInStep.yield ok)else pure (ForInStep.yield r)) (fun ok s₃=>
      if ok=true then wpAny (model Y.prog Y.w) Y.A (eval elt Y.env) (fun x s₄=>
       wpAny (model Y.prog Y.w) Y.A (call (.builtin "list.append") [.ref DD,x]) (fun _ s₅=>NX s₅) Y.xe s₄) Y.xe s₃
      else NX s₃) Y.xe s₂) Y.xe s₁') Y.xe s₁) Y.xe s':=by
 obtain⟨i,ys,vs,σ',H',dσ',μ',G',rfl,hi',hvl,I',st',fr',hvs,nD',x',h',sr',rl,p'⟩:=h
 by_cases hlt:i<src.items.length
 · rw[List.drop_eq_getElem_cons hlt]at p'
   unfold P0 at p'
   split at p'
   case isFalse=>exact p'.elim
   rename_i ck
   obtain⟨q1,_⟩:=hJ μ' G' H' x'.unhide h'.unhide ck i
   obtain⟨go,yl⟩:=q1 _ (List.getElem?_eq_getElem hlt)
   refine thn (T.item (Y) rfl rfl rfl hcX i [] s' σ' H' Y.xe I' (fun b hb=>fpX H' b hb (fr' b hb)) st' go) fun r s4 z4=>?_
   obtain⟨u,rfl,h4⟩:=z4
   refine thn h4 fun _ s5 z5=>?_
   obtain⟨x,H5,I5,r5,y5,st5,fr5⟩:=z5
   obtain⟨k5,h5,rx5⟩:=yl x H5 y5
   obtain⟨e5,n5,k5'⟩:=k5.hide nD' hvs
   have I5':=I5.pinned (fun b hb=>fpX H5 b hb (fr5 b hb)) (T.obj _ _ st5)
   have keepIt:∀ {σ7:St} {H7:Hp} {s7:Shared},Inv (Y) ([]++bT6 fp s5.heap) σ7 H7 s7→Inv (Y) [] σ7 H7 s7∧tn (i+1) s7.heap∧∀b∈fp,H7 b=none:=fun {σ7 H7 s7} I7=>by
    refine⟨I7.unpinned,T.keep _ _ _ st5 fun b hb o e=>(I7.pin (b,o) (List.mem_append_right _ (List.mem_append_right _ (aI7 hb e)))).1,fun b hb=>?_⟩
    obtain⟨o,e,d⟩:=T.obj _ _ st5 b hb
    exact(I7.pin (b,o) (List.mem_append_right _ (List.mem_append_right _ (aI7 hb e)))).2.1
   have p5:=d8.unhide (Z:=ZF) n5 e5 (d8.bind (p'.from k5'))
   refine thn (hg.h _ s5 σ' H5 x u _ I5' r5 ⟨_,dσ',μ',G',rx5,(sr'.mono k5').sq aJ5,h5,p5.mono fun dσ6 μ6 G6 H6 x6 h6 q6 σ6 sr6=>(⟨dσ6,μ6,G6,sr6,h6,q6⟩:CG Y Z Q vs DD ys μ' H5 (eS5 gg tt fe src.ck (src.items.drop (i+1))) σ6 H6)⟩) fun _ s6 z6=>?_
   obtain⟨σ6,H6,I6,dσ6,μ6,G6,sr6,h6,e6,n6,hh6,x6,p6⟩:=z6
   have p6':=d8.unhide (Z:=ZF) n6 e6 (d8.bind p6)
   refine thn (ht.h _ s6 σ6 H6 (CT Y Z Q vs DD ys dσ6 σ6 μ6 H6 (dB8 gg tt fe src.ck (src.items.drop (i+1)) dσ6)) I6 ⟨dσ6,μ6,G6,sr6,h6,p6'.mono fun b μ7 G7 H7 x7 h7 q7=>⟨μ7,G7,sr6.mono x7,h7,q7⟩⟩) fun b s7 z7=>?_
   obtain⟨H7,I7,μ7,G7,sr7,h7,e7,n7,hh7,x7,p7⟩:=z7
   unfold dB8 at p7
   have x27:Ext μ2 H2 μ7 (hide DD H7):=x'.trans (k5'.trans (x6.trans x7))
   have rl7:o9 (wc Y) μ7 (hide DD H7) ys vs:=rl.mono (k5'.trans (x6.trans x7))
   rcases b with _|_
   ·
     rw[if_neg Bool.false_ne_true]at p7 ⊢
     obtain⟨I8,st8,fr8⟩:=keepIt I7
     exact nx _ _ (Nat.sub_succ_lt_self _ _ hlt) ⟨i+1,ys,vs,σ6,H7,dσ6,μ7,G7,rfl,hlt,Nat.le_succ_of_le hvl,I8,st8,fr8,e7,n7,x27,hh7,sr7.sq (aI9 e7),rl7,p7⟩
   ·
     rw[if_pos rfl]at p7 ⊢
     have p7':=d8.unhide (Z:=ZF) n7 e7 (d8.bind p7)
     refine thn (he.h _ s7 σ6 H7 (CE Y Z Q vs DD ys dσ6 σ6 μ7 H7 (eK5 gg tt fe src.ck (src.items.drop (i+1)) dσ6)) I7 ⟨dσ6,μ7,G7,sr7,h7,p7'.mono fun y μ8 G8 H8 x8 h8 q8 v rv=>⟨y,μ8,G8,rv,sr7.mono x8,h8,q8⟩⟩) fun yu s8 z8=>?_
     obtain⟨yv,H8,I8,ry,y,μ8,G8,ryd,sr8,h8,e8,n8,hh8,x8,p8⟩:=z8
     unfold eK5 at p8
     refine thn (cA2 _ s8 σ6 H8 (.ref DD) [yv] (.ref DD) [yu] (fun _ H9=>H9=upd H8 DD (.lst (vs++[yv]))) I8 rfl (.cons ry .nil) ⟨DD,vs,yv,rfl,rfl,e8,by lia,rfl⟩) fun _ s9 z9=>?_
     obtain⟨_,H9,I9,_,rfl⟩:=z9
     obtain⟨I10,st10,fr10⟩:=keepIt I9
     have hd9:hide DD (upd H8 DD (.lst (vs++[yv])))=hide DD H8:=aW2
     refine nx _ _ (Nat.sub_succ_lt_self _ _ hlt) ⟨i+1,ys++[y],vs++[yv],σ6,_,dσ6,μ8,G8,rfl,hlt,by rw[List.length_append];exact Nat.succ_le_succ hvl,I10,st10,fr10,R3,n8,?_,?_,?_,?_,?_⟩
     ·rw[hd9];exact x27.trans x8
     ·rw[hd9];exact hh8
     ·rw[hd9];exact sr8.sq (aI9 e8)
     ·rw[hd9];exact(rl7.mono x8).append ⟨yv, [],rfl,ryd.sq (aI9 e8),rfl⟩
     · rw[hd9]
       refine(d8.bind p8).mono fun U9 μ'' G'' H'' x'' h'' q''=>?_
       have q3:=d8.ok q'' h''
       show d8 (wc Y) Z μ'' H'' (Q5 (.lst (ys++[y]++U9)) G'') (CKV (wc Y) Q)
       rw[List.append_assoc]
       exact q3
 · have e:i=src.items.length:=by lia
   subst e
   rw[List.drop_length]at p'
   unfold P0 at p'
   split at p'
   case isFalse=>exact p'.elim
   rename_i ck
   obtain⟨_,q2⟩:=hJ μ' G' H' x'.unhide h'.unhide ck src.items.length
   refine thn (T.done (Y) rfl rfl rfl hcX src.items.length [] s' σ' H' Y.xe I' (fun b hb=>fpX H' b hb (fr' b hb)) st' (q2 (Nat.le_refl _))) fun r s4 ⟨hr,I4⟩=>?_
   subst hr
   have p9:d8 (wc Y) Z μ' (hide DD H') (Q5 (.lst (ys++[])) G') (CKV (wc Y) Q):=d8.ok p' h'
   rw[List.append_nil]at p9
   have q9:=aE9 (q:=DD) h' rl p9 aI4
   rw[dN9 hvs]at q9
   exact fin H' σ' s4 I4 q9
theorem cA0{use:Option (Value→Sem Unit)}{PQ:VSP}{Q:VK}{ps:Pos}{pins:PNS}{s:Shared}{σ:St}{H:Hp}{dσ:DSt}{μ:List Addr}{G:DH}(hc:X.calm=true)(hi:DI X Z tg iter it)(k:aG3 X scope N caps)
 (hg:∀C s H ex,DG (T5 X scope N C s H ex) ZF tg gg) (ht:∀C s H ex,DTs (T5 X scope N C s H ex) ZF ifs tt) (he:∀C s H ex,DE (T5 X scope N C s H ex) ZF elt fe)
 (hs:∀x,foldedSetIterable iter X.env x=pure x) (I:Inv X pins σ H s) (sr:N5 (wc X) μ H dσ σ) (hr:J0 (wc X) μ G H) (p:d8 (wc X) Z μ H (M8 it caps gg tt fe dσ G) fun d μ' _ H'=>∀v,d9 (wc X) μ' H' d v→Q v H')
 (fin:∀(DD C:Addr) (s4:Shared) (H':Hp) (m:Str→Option Value) (o:Flow),s4.heap.Ns C m→(∀h'',Heap.SameBut C s4.heap h''→Inv X pins σ H' {s4 with heap:=h''})→H' C=none→(∀H9:Hp,H9 C=none→aS0 X pins H9 C)→Q (.ref DD) H'→compPost (model X.prog X.w) X.A X.xe use PQ (.ref DD) C (.ok o) s4):
 wpAny (model X.prog X.w) X.A (comprehension (.ListComp elt [⟨tg,iter,ifs,0⟩] scope pos) scope X.env ps (newList []) false (eval iter X.env) use) PQ X.xe s:=by
 replace p:d8 (wc X) Z μ H (M8 it caps gg tt fe dσ G) (CKV (wc X) Q):=p
 have p1:=d8.bind p
 refine wpAny_comprehension_free (use:=use) rfl hs (bH9 (k.cells I.ok)) k.kind k.names ?_
 refine thn (hi.h pins s σ H (fun J H1=>∃src μ1 G1,Ext μ H μ1 H1∧J0 (wc X) μ1 G1 H1∧ItD (wc X) μ1 H1 J src∧
  d8 (wc X) Z μ1 H1 ((if src.items.length≤sizeLine then (do let ys ←noX (P0 gg tt fe src.ck src.items (aA9 caps dσ));Q5 (.lst ys))else M.stuck:M D) G1) (CKV (wc X) Q))
  I ⟨dσ,μ,G,sr,hr,p1.mono fun src μ1 G1 H1 x1 h1 p1 J hJ=>⟨src,μ1,G1,x1,h1,hJ,p1⟩⟩) fun v s1 q1=>thn q1 fun itv s2 q2=>?_
 obtain⟨itA,fp,tn,J,H2,rfl,I2,T,st2,f2,src,μ2,G2,x2,h2,hJ,p2⟩:=q2
 split at p2
 case isFalse=>exact p2.elim
 rename_i hlen
 have hfp:∀b∈fp,b<s2.heap.objs.size:=fun b hb=>by obtain⟨o,e,_⟩:=T.obj _ _ st2 b hb;exact Heap.lt_size e
 refine wpAny_newObj_type (wpAny_newFunctionEnv k.cell (by intro y hy;simp at hy) (fun h₁ hns₁ hsb₁=>?_) k.kind)
 dsimp only at hns₁ hsb₁ ⊢
 generalize hHP:s2.heap.push {cls:=.type "list",dict:=none,data:=.seq ([]:List Value).toArray}=HP at hns₁ hsb₁ ⊢
 have hC:HP.objs.size=s2.heap.objs.size+1:=by rw[←hHP,Heap.size_push]
 have hCl:s2.heap.objs.size<HP.objs.size:=by rw[hC];exact Nat.lt_succ_self _
 have hDC:s2.heap.objs.size≠HP.objs.size:=Nat.ne_of_lt hCl
 have old:∀b o,s2.heap.get? b=some o→h₁.get? b=some o:=fun b o e=>hsb₁.extBut b o (by have:=Heap.lt_size e;exact Nat.ne_of_lt (Nat.lt_trans this hCl)) (Heap.get?_push_of_some _ (hHP▸Heap.get?_push_of_some _ e))
 have hacc:h₁.get? s2.heap.objs.size=some {cls:=.type "list",data:=.seq ([]:List Value).toArray 0}:=hsb₁.extBut _ _ hDC (Heap.get?_push_of_some _ (hHP▸Heap.get?_push_size _ rfl))
 have hD:H2 s2.heap.objs.size=none:=I2.hok.fresh (Nat.le_refl _)
 have nD:s2.heap.objs.size∉μ2:=fun z=>Nat.lt_irrefl _ (h2.mem_lt I2 z)
 have st1:tn 0 h₁:=T.keep _ _ _ st2 fun b _ o e=>old b o e
 have fpX:∀(H':Hp) (b:Addr),b∈fp→H' b=none→aS0 (T5 X scope N HP.objs.size s2 H2 fp) [] H' b:=fun H' b hb hn=>
  ⟨hn,Nat.ne_of_lt (Nat.lt_trans (hfp b hb) hCl),fun z=>by
   rcases List.mem_cons.mp (I2.stkSub b z)with e|e
   ·exact(f2 b hb).2.1 e
   ·exact(f2 b hb).2.2.1 e,.inl hb,fun x c e=>(f2 b hb).2.2.2.2.1 x c (Z0 e),fun p hp=>absurd (show p∈([]:PNS)from hp) (by simp)⟩
 have hcX:(T5 X scope N HP.objs.size s2 H2 fp).calm=true:=hc
 have p3:=cP6 (d8.bind p2)
 generalize hDD:s2.heap.objs.size=DD at *
 have loop:∀s₃:Shared,s₃= {s2 with heap:=h₁,toks:=s2.toks+([]:List (Str×Value)).length}→
  codeAny (model X.prog X.w) X.A (.compLoop (.ListComp elt [⟨tg,iter,ifs,0⟩] scope pos) 0 (.ref itA) (.ref DD) (compEnvC scope (aN4 X.env scope.names []) HP.objs.size X.env))
   (compPost (model X.prog X.w) X.A X.xe use PQ (.ref DD) HP.objs.size) s₃:=by
  rintro s₃ rfl
  refine cF0 (eX0 (T5 X scope N HP.objs.size s2 H2 fp) Z Q gg tt fe src fp tn DD μ2 H2) (fun n s' h=>dE9 (Y:=T5 X scope N HP.objs.size s2 H2 fp) hcX (hg _ _ _ _) (ht _ _ _ _) (he _ _ _ _) T fpX hJ hlen (fun H' σ' s4 I4 q9=>?_) n s' h fun m s h1 h2=>⟨m,h1,h2⟩) src.items.length
   ⟨0, [], [],aA9 caps σ,upd H2 DD (.lst []),aA9 caps dσ,μ2,G2,rfl,Nat.zero_le _,Nat.le_refl _,?_,st1,fun b hb=>?_,R3,nD,?_,?_,?_,rfl,?_⟩
  · obtain⟨m,hn,_⟩:=I4.loc
    exact fin DD HP.objs.size s4 H' m _ hn (fun h'' sb=>dQ7 I2 (fun b hb=>f2 b hb) (by rw[hDD];exact hCl) I4 sb) I4.free (fun H9 hn9=>I2.fpOk (by rw[hDD];exact Nat.le_of_lt hCl) hn9) q9
  · have:=cT6 (h₁:=h₁) (tk:=s2.toks+([]:List (Str×Value)).length) I2 k (C:=HP.objs.size) (by rw[hDD];exact hCl) f2 (fun b hb=>by rw[hDD];exact hfp b hb) old hns₁ (by rw[hDD];exact hacc)
    rw[hDD]at this
    exact this
  ·rw[J7 (Nat.ne_of_lt (hfp b hb))];exact(f2 b hb).1
  ·rw[aW2,aX1 hD];exact Ext.refl _ _
  ·rw[aW2,aX1 hD];exact h2
  ·rw[aW2,aX1 hD];exact dJ1 (sr.mono x2)
  · rw[aW2,aX1 hD,List.drop_zero]
    exact p3
 exact codeAny_compStart_list (loop _ rfl) (T.self _ 0 _ _ _ st1 (loop _ rfl))
theorem eG3(hc:X.calm=true)(hi:DI X Z tg iter it)(k:aG3 X scope N caps)
 (hg:∀C s H ex,DG (T5 X scope N C s H ex) ZF tg gg) (ht:∀C s H ex,DTs (T5 X scope N C s H ex) ZF ifs tt) (he:∀C s H ex,DE (T5 X scope N C s H ex) ZF elt fe)
 (hs:∀x,foldedSetIterable iter X.env x=pure x):DE X Z (.ListComp elt [⟨tg,iter,ifs,0⟩] scope pos) (M8 it caps gg tt fe):=⟨by
 intro pins s σ H Q I hE0
 refine hE0.elim fun dσ μ G sr hr p=>?_
 rw[eval_ListComp]
 exact cA0 (use:=none) hc hi k hg ht he hs I sr hr p fun DD C s4 H' m o hn fin _ _ q9=>⟨m,hn,fun h'' sb=>⟨.ref DD,H',fin h'' sb,rfl,q9⟩⟩⟩
end
noncomputable def R4(r:Nat):M DO:=fun G=>match G[r]? with
 |some o=>some (.ok o,G)
 |none=>none
def listOf:DO→M (List D)
 | .lst l=>pure l
 | .rol l=>pure l
 | .dct _=>M.stuck
 | .rod _=>M.stuck
def fK9:D→M (List D)
 | .tup l=>pure l
 | .ref r=>R4 r >>= listOf
 |_=>M.stuck
def aK1{α:Type}:Option α→M α
 |some a=>pure a
 |none=>M.stuck
section
variable{X:Cx}{Z:XC}
theorem IxR.mono{r r':R2}(h:IxR X r)(k:∀x y H Q,r' x y H Q→r x y H Q):IxR X r':=fun va sl pins s σ H x y v u Q I rx ry q hs=>h va sl pins s σ H x y v u Q I rx ry (k x y H Q q) hs
variable{c:Wc}{μ:List Addr}{H:Hp}{G:DH}
theorem Q7{α:Type}{r:Nat}{f:DO→M α}{K:α→List Addr→DH→Hp→Prop}(p:d8 c Z μ H ((R4 r >>= f) G) K):∃o,G[r]? =some o∧d8 c Z μ H (f o G) K:=by
 rw[M.bind_eq]at p
 unfold R4 at p
 rcases e:G[r]? with _|o
 ·rw[e]at p;exact p.elim
 ·rw[e]at p;exact⟨o,rfl,p⟩
theorem aC0{α β:Type}{r:Option β}{f:β→M α}{K:α→List Addr→DH→Hp→Prop}(p:d8 c Z μ H ((aK1 r >>= f) G) K):∃o,r=some o∧d8 c Z μ H (f o G) K:=by
 rcases r with _|o
 ·exact p.elim
 ·exact⟨o,rfl,p⟩
theorem aW7{α:Type}{d:D}{v:V}{f:List D→M α}{K:α→List Addr→DH→Hp→Prop}(h:J0 c μ G H)(r:d9 c μ H d v)(p:d8 c Z μ H ((fK9 d >>= f) G) K):
 ∃l a vs,v= .ref a∧o9 c μ H l vs∧d8 c Z μ H (f l G) K∧((d= .tup l∧SqT c.K H a vs)∨(∃i,d= .ref i∧μ[i]? =some a∧((G[i]? =some (.lst l)∧H a=some (.lst vs))∨(G[i]? =some (.rol l)∧RoL c.K H a vs)))):=by
 rcases d with _|_|_|_|l|i|_|_<;>try (exact p.elim;done)
 ·
   unfold d9 at r
   obtain⟨a,vs,e,q,rl⟩:=r
   exact⟨l,a,vs,e,rl,p,.inl ⟨rfl,q⟩⟩
 ·
   unfold d9 at r
   obtain⟨a,m,e⟩:=r
   have p':d8 c Z μ H ((R4 i >>= fun o=>listOf o >>= f) G) K:=by rw[←M.bind_assoc];exact p
   obtain⟨o,g,p2⟩:=Q7 p'
   have ro:=h.obj i o a g m
   rcases o with l|l|l|l
   ·obtain⟨vs,q,rl⟩:=ro;exact⟨l,a,vs,e,rl,p2,.inr ⟨i,rfl,m,.inl ⟨g,q⟩⟩⟩
   ·obtain⟨vs,q,rl⟩:=ro;exact⟨l,a,vs,e,rl,p2,.inr ⟨i,rfl,m,.inr ⟨g,q⟩⟩⟩
   ·exact p2.elim
   ·exact p2.elim
theorem aK4{i:Int}{v:V}(r:d9 c μ H (.int i) v):v= .int i:=by unfold d9 at r;exact r
theorem aV6{i:Str}{v:V}(r:d9 c μ H (.str i) v):v= .str i:=by unfold d9 at r;exact r
theorem bW3{i:Bool}{v:V}(r:d9 c μ H (.bl i) v):v= .bl i:=by unfold d9 at r;exact r
theorem dL0{v:V}(r:d9 c μ H .non v):v= .non:=by unfold d9 at r;exact r
theorem ofI{i:Int}:d9 c μ H (.int i) (.int i):=by unfold d9;rfl
theorem ofS{i:Str}:d9 c μ H (.str i) (.str i):=by unfold d9;rfl
theorem ofB{i:Bool}:d9 c μ H (.bl i) (.bl i):=by unfold d9;rfl
theorem ofN:d9 c μ H .non .non:=by unfold d9;rfl
def cW3(g:Int→Int→M D):D→D→M D:=fun x y=>match x,y with
 | .int i,.int j=>g i j
 |_,_=>M.stuck
theorem cD6{f:Value→Value→Sem Value}{C:Int→Int→Prop}[∀i j,Decidable (C i j)]{g:Int→Int→Int}(h:OpR X f (rI C fun i j=>.int (g i j))):OpD X Z f (cW3 fun i j=>if C i j then pure (.int (g i j))else M.stuck):=
 OpD.of h fun x y H Q hE0=>hE0.elim fun dx dy μ G rx ry hr p=>by
  rcases dx with _|_|_|_|_|_|_|_<;>rcases dy with _|_|_|_|_|_|_|_<;>first
   |exact p.elim
   |skip
  rename_i i j
  unfold cW3 at p
  dsimp only at p
  split at p
  · rename_i hc
    exact⟨i,j,aK4 rx,aK4 ry,hc,d8.ok p hr _ ofI⟩
  ·exact p.elim
theorem dR3{f:Value→Value→Sem Value}{g:Int→Int→Int}(h:OpR X f (rI0 fun i j=>.int (g i j))):OpD X Z f (cW3 fun i j=>pure (.int (g i j))):=
 OpD.of h fun x y H Q hE0=>hE0.elim fun dx dy μ G rx ry hr p=>by
  rcases dx with _|_|_|_|_|_|_|_<;>rcases dy with _|_|_|_|_|_|_|_<;>first
   |exact p.elim
   |exact⟨_,_,aK4 rx,aK4 ry,d8.ok p hr _ ofI⟩
def bV5:D→D→M D:=cW3 fun i j=>pure (.int (i-j))
theorem eP9:OpD X Z (binaryOp .Sub) bV5:=dR3 dV5
noncomputable instance (i j:Int):Decidable (bW2 i j):=by unfold bW2;infer_instance
noncomputable def cB1(_ j:Int):Prop:=0<j∧j<2 ^ 100
noncomputable instance (i j:Int):Decidable (cB1 i j):=by unfold cB1;infer_instance
theorem dW6:OpR X (binaryOp .FloorDiv) (rI cB1 fun i j=>.int (i / j)):=opI fun i j _ _ _ _ _ hc q=>by
 have h1:(0:Int)<j:=hc.1
 have h2:j<2 ^ 100:=hc.2
 refine floordiv_int (by lia) (by rw[Int.fdiv_eq_ediv_of_nonneg i (by lia)];exact q) (.inl (PyProof.noPylong_of_log2 ?_))
 have h3:j.natAbs<2 ^ 100:=by lia
 have h4:j.natAbs≠0:=by lia
 have:=(Nat.log2_lt h4).mpr h3
 lia
def bZ3:D→D→M D:=cW3 fun i j=>if cB1 i j then pure (.int (i / j))else M.stuck
theorem eC0:OpD X Z (binaryOp .FloorDiv) bZ3:=cD6 dW6
def bW6:D→D→M D:=cW3 fun i j=>if 0<j then pure (.int (i % j))else M.stuck
theorem eQ7:OpD X Z (binaryOp .Mod) bW6:=cD6 (C:=fun _ j=>0<j) eM0
noncomputable instance (i j:Int):Decidable (dG0 i j):=by unfold dG0;infer_instance
def dK9:D→D→M D:=cW3 fun i j=>if dG0 i j then pure (.int (i ^ j.toNat))else M.stuck
theorem eW1:OpD X Z (binaryOp .Pow) dK9:=cD6 dN7
theorem dP4{prog:Program}{w:World}{A:Around}{E:VSP}{s:Shared}{t b:Addr}{ws:List Value}{Q:VSP}(ht:IsTup s.heap t #[])(hb:IsTup s.heap b ws.toArray)
 (h1:Q (.ref b) s):wpAny (model prog w) A (binaryOp .Add (.ref t) (.ref b)) Q E s:=by
 obtain⟨⟨cls,dd,data,sl⟩,ho,hc,n,hd⟩:=id ht
 obtain⟨⟨cls2,dd2,data2,sl2⟩,ho2,hc2,n2,hd2⟩:=id hb
 simp only at hc hd hc2 hd2
 subst hc hd hc2 hd2
 exact concat_meets ⟨_,ho,rfl⟩ ⟨_,ho2,rfl⟩ noFill_tuple_add seq_tuple_add PySem.F.slot_tuple_add PySem.F.entry_tuple_add (PySem.F.args_tuple_add_2 _ _)
  (tuple_addW0 t b #[] ws.toArray n n2 dd dd2 sl sl2 (by simp)) ⟨ho,ho2,h1⟩
def fA0(K:PySem.W.Frag):R2:=fun x y H Q=>∃a b ys,x= .ref a∧y= .ref b∧SqT K H a []∧SqT K H b ys∧Q (.ref b) H
theorem dW0:OpR X (binaryOp .Add) (fA0 X.K):=by
 intro pins s σ H x y v u Q I rx ry h
 obtain⟨a,b,ys,rfl,rfl,ha,hb,q⟩:=h
 cases rx
 cases ry
 obtain⟨its,r,p,_⟩:=I.tuple ha
 obtain⟨its2,r2,p2,_⟩:=I.tuple hb
 cases r
 exact dP4 p p2 ⟨.ref b,H,I,rfl,q⟩
def V7:D→D→M D:=fun x y=>match x,y with
 | .int i,.int j=>pure (.int (i+j))
 | .str a,.str b=>if a.length+b.length≤sizeLine then pure (.str (a++b))else M.stuck
 | .tup a,.tup b=>if a.length+b.length≤sizeLine then pure (.tup (a++b))else M.stuck
 | .ref i,.ref j=>do
   match ←R4 i,←R4 j with
   | .lst a,.lst b=>if a.length+b.length≤sizeLine then Q5 (.lst (a++b))else M.stuck
   |_,_=>M.stuck
 |_,_=>M.stuck
theorem bH4{xs:List D}{vs:List V}{Q:VK}(h:J0 c μ G H){a:Addr}(q:SqT c.K H a vs)(r:o9 c μ H xs vs)
 (p:d8 c Z μ H (some (Except.ok (.tup xs),G)) fun d μ' _ H'=>∀v,d9 c μ' H' d v→Q v H'):Q (.ref a) H:=d8.ok p h _ (by unfold d9;exact⟨a,vs,rfl,q,r⟩)
theorem eY8:OpD X Z (binaryOp .Add) V7:=
 OpD.of (OpR.or eT4 (OpR.or cW6 (OpR.or dY0 (OpR.or dW0 eP3)))) fun x y H Q hE0=>hE0.elim fun dx dy μ G rx ry hr p=>by
  rcases dx with _|_|_|_|_|_|_|_<;>rcases dy with _|_|_|_|_|_|_|_<;>first
   |exact p.elim
   |skip
  ·exact .inl ⟨_,_,aK4 rx,aK4 ry,d8.ok p hr _ ofI⟩
  · rename_i a b
    refine .inr (.inl ?_)
    unfold V7 at p
    dsimp only at p
    split at p
    · rename_i hz
      exact⟨a,b,aV6 rx,aV6 ry,hz,d8.ok p hr _ ofS⟩
    ·exact p.elim
  · rename_i a b
    unfold d9 at rx ry
    obtain⟨ax,vx,rfl,qx,lx⟩:=rx
    obtain⟨ay,vy,rfl,qy,ly⟩:=ry
    unfold V7 at p
    dsimp only at p
    split at p
    · rename_i hz
      by_cases hv:vx= []
      · subst hv
        rcases a with _|⟨_,_⟩
        ·exact .inr (.inr (.inr (.inl ⟨ax,ay,vy,rfl,rfl,qx,qy,bH4 hr qy ly p⟩)))
        ·obtain⟨_,_,z,_⟩:=lx;cases z
      · refine .inr (.inr (.inl ⟨ax,ay,vx,vy,rfl,rfl,qx,qy,hv,by rw[←lx.length,←ly.length];exact hz,?_⟩))
        refine⟨fun hy=>?_,fun hy q hq=>aV4 hr (lx.append ly) p q hq⟩
        subst hy
        refine bH4 hr qx ?_ p
        rcases b with _|⟨_,_⟩
        ·rw[List.append_nil];exact lx
        ·obtain⟨_,_,z,_⟩:=ly;cases z
    ·exact p.elim
  · rename_i i j
    unfold d9 at rx ry
    obtain⟨ax,mx,rfl⟩:=rx
    obtain⟨ay,my,rfl⟩:=ry
    obtain⟨ox,gx,p⟩:=Q7 p
    obtain⟨oy,gy,p⟩:=Q7 p
    have hx:=hr.obj i ox ax gx mx
    have hy:=hr.obj j oy ay gy my
    rcases ox with _|_|_|_<;>rcases oy with _|_|_|_<;>first
     |exact p.elim
     |skip
    obtain⟨vx,ex,lx⟩:=hx
    obtain⟨vy,ey,ly⟩:=hy
    dsimp only at p
    split at p
    · rename_i hz
      exact .inr (.inr (.inr (.inr ⟨ax,ay,vx,vy,rfl,rfl,ex,ey,by rw[←lx.length,←ly.length];exact hz,fun q hq=>aE9 hr (lx.append ly) p q hq⟩)))
    ·exact p.elim
end
noncomputable def aC6(G:DH):D→Option (Bool×List D)
 | .tup l=>some (true,l)
 | .ref i=>match G[i]? with
   |some (.lst l)=>some (false,l)
   |some (.rol l)=>some (false,l)
   |_=>none
 |_=>none
noncomputable def aL7:D→Bool
 | .non=>true
 | .bl _=>true
 | .int _=>true
 | .str _=>true
 |_=>false
def eqS:D→D→Option Bool
 | .non,.non=>some true
 | .bl a,.bl b=>some (a==b)
 | .int a,.int b=>some (a==b)
 | .str a,.str b=>some (a==b)
 | .bl a,.int b=>some ((if a then (1:Int)else 0)==b)
 | .int a,.bl b=>some (a==(if b then (1:Int)else 0))
 |x,y=>if aL7 x&&aL7 y then some false else none
noncomputable def eqL(f:D→D→Option Bool):List D→List D→Option Bool
 |[], []=>some true
 |[],_::_=>some false
 |_::_, []=>some false
 |x::xs,y::ys=>match f x y,eqL f xs ys with
   |some e,some r=>some (e&&r)
   |_,_=>none
def eqN:Nat→DH→D→D→Option Bool
 |0,_,_,_=>none
 |n+1,G,x,y=>match aC6 G x,aC6 G y with
   |some (k1,a),some (k2,b)=>if k1=k2 then (if k1=false∧a.length≠b.length then some false else eqL (eqN n G) a b)else some false
   |some _,none=>if aL7 y then some false else none
   |none,some _=>if aL7 x then some false else none
   |none,none=>eqS x y
theorem bT1{n:Nat}{G:DH}{x y:D}:eqN (n+1) G x y=match aC6 G x,aC6 G y with
 |some (k1,a),some (k2,b)=>if k1=k2 then (if k1=false∧a.length≠b.length then some false else eqL (eqN n G) a b)else some false
 |some _,none=>if aL7 y then some false else none
 |none,some _=>if aL7 x then some false else none
 |none,none=>eqS x y:=rfl
theorem dP2{f:D→D→Option Bool}{x y:D}{xs ys:List D}:eqL f (x::xs) (y::ys)=match f x y,eqL f xs ys with
 |some e,some r=>some (e&&r)
 |_,_=>none:=rfl
theorem bX2{f:D→D→Option Bool}{e:Nat→Bool}:∀(a b:List D) (r:Bool),eqL f a b=some r→(∀(j:Nat) x y,a[j]? =some x→b[j]? =some y→f x y=some (e j))→r= ((List.range (min a.length b.length)).all e&&a.length==b.length)
 |[], [],r,h,_=>by cases h;rfl
 |[],_::_,r,h,_=>by cases h;simp
 |_::_, [],r,h,_=>by cases h;simp
 |x::xs,y::ys,r,h,he=>by
   rw[dP2]at h
   have h0:=he 0 x y rfl rfl
   rw[h0]at h
   rcases hr:eqL f xs ys with _|r'
   ·rw[hr]at h;exact J1 h
   ·
     rw[hr]at h
     have ih:=bX2 (e:=fun j=>e (j+1)) xs ys r' hr fun j x' y' h1 h2=>he (j+1) x' y' (by simpa using h1) (by simpa using h2)
     cases h
     rw[ih]
     have:min (x::xs).length (y::ys).length=min xs.length ys.length+1:=by simp only[List.length_cons];lia
     rw[this,List.range_succ_eq_map,List.all_cons,List.all_map]
     simp[Bool.and_assoc,Function.comp_def]
theorem bQ9{f:D→D→Option Bool}:∀(a b:List D) (r:Bool),eqL f a b=some r→∀(j:Nat) x y,a[j]? =some x→b[j]? =some y→∃e,f x y=some e
 |[],_,_,_,_,_,_,h,_=>by simp at h
 |_::_, [],_,_,_,_,_,_,h=>by simp at h
 |x::xs,y::ys,r,h,j,x',y',h1,h2=>by
   rw[dP2]at h
   rcases hf:f x y with _|e
   ·rw[hf]at h;exact J1 h
   ·
     rcases hr:eqL f xs ys with _|r'
     ·rw[hf,hr]at h;exact J1 h
     ·
       cases j with
       |zero=>simp at h1 h2;subst h1 h2;exact⟨e,hf⟩
       |succ j=>exact bQ9 xs ys r' hr j x' y' (by simpa using h1) (by simpa using h2)
section
variable{X:Cx}{pins:PNS}{σ:St}{H:Hp}{s:Shared}{μ:List Addr}{G:DH}
noncomputable def cL5(s:Shared)(k:Bool)(a:Addr)(its:List Value):Prop:=if k then s.heap.IsTuple a its.toArray else s.heap.IsList a its.toArray
theorem aI3(I:Inv X pins σ H s)(h:J0 (wc X) μ G H){d:D}{x:V}{v:Value}{k:Bool}{l:List D}(e:aC6 G d=some (k,l))(r:d9 (wc X) μ H d x)(rv:J6 x v):
 ∃a vs its,x= .ref a∧v= .ref a∧o9 (wc X) μ H l vs∧w6 vs its∧cL5 s k a its∧(if k then SqT X.K H a vs else SqL X.K H a vs):=by
 rcases d with _|_|_|_|l'|i|_|_<;>try (cases e;done)
 ·
   unfold aC6 at e
   cases e
   unfold d9 at r
   obtain⟨a,vs,rfl,q,rl⟩:=r
   obtain⟨its,rr,p,_⟩:=I.tuple q
   exact⟨a,vs,its,rfl,rv,rl,rr,p,q⟩
 ·
   have e':(match G[i]? with|some (.lst l)=>some (false,l)|some (.rol l)=>some (false,l)|_=>none)=some (k,l):=e
   unfold d9 at r
   obtain⟨a,m,rfl⟩:=r
   have key:∀vs,SqL X.K H a vs→o9 (wc X) μ H l vs→k=false→∃a' vs its,V.ref a= .ref a'∧v= .ref a'∧o9 (wc X) μ H l vs∧w6 vs its∧cL5 s k a' its∧(if k then SqT X.K H a' vs else SqL X.K H a' vs):=fun vs q rl hk=>by
    subst hk
    obtain⟨its,rr,p,_⟩:=I.list q
    exact⟨a,vs,its,rfl,rv,rl,rr,p.isList,q⟩
   generalize g:G[i]? =o at e'
   rcases o with _|l'|l'|_|_<;>cases e'
   · obtain⟨vs,q,rl⟩:=h.obj i _ a g m
     exact key vs (SqL.of q) rl rfl
   · obtain⟨vs,q,rl⟩:=h.obj i _ a g m
     exact key vs q.sq rl rfl
theorem bO4{d:D}{a:Addr}{c:Wc}(hs:aL7 d=true)(r:d9 c μ H d (.ref a)):False:=by
 cases d<;>first
  |exact absurd (show false=true from hs) Bool.false_ne_true
  |(unfold d9 at r;cases r)
theorem cJ1{x y:D}{b:Bool}(h:eqS x y=some b):aL7 x=true∧aL7 y=true:=by
 rcases x with _|_|_|_|_|_|_|_<;>rcases y with _|_|_|_|_|_|_|_<;>first
  |exact⟨rfl,rfl⟩
  |(cases h;done)
theorem dT6{x y:D}{b:Bool}{v:V}{c:Wc}(h:eqS x y=some b)(rx:d9 c μ H x v)(ry:d9 c μ H y v):b=true:=by
 obtain⟨s1,s2⟩:=cJ1 h
 rcases x with _|_|_|_|_|_|_|_<;>rcases y with _|_|_|_|_|_|_|_<;>first
  |(cases s1;done)
  |(cases s2;done)
  |(unfold d9 at rx ry;rw[rx]at ry;cases ry;done)
  |(unfold d9 at rx ry;rw[rx]at ry;cases ry;cases h;first|rfl|simp)
theorem cR2(I:Inv X pins σ H s){k k':Bool}{a:Addr}{its its':List Value}(h1:cL5 s k a its)(h2:cL5 s k' a its'):k=k':=by
 cases k<;>cases k'<;>first
  |rfl
  |exact absurd rfl (SeqAt.ne_of_list_tuple h1 h2)
  |exact absurd rfl (SeqAt.ne_of_list_tuple h2 h1)
theorem eqL_same{c:Wc}{f:D→D→Option Bool}:∀(l l':List D) (vs:List V) (b:Bool),o9 c μ H l vs→o9 c μ H l' vs→(∀d d' v b,v∈vs→d9 c μ H d v→d9 c μ H d' v→f d d'=some b→b=true)→eqL f l l'=some b→b=true
 |[], [],_,b,_,_,_,e=>by cases e;rfl
 |[],_::_,vs,b,r1,r2,_,_=>by cases r1;obtain⟨_,_,z,_⟩:=r2;exact cJ3 z
 |_::_, [],vs,b,r1,r2,_,_=>by cases r2;obtain⟨_,_,z,_⟩:=r1;cases z
 |d::ds,d'::ds',vs,b,r1,r2,k,e=>by
   obtain⟨v0,vr,rfl,q0,t0⟩:=r1
   obtain⟨v1,vr',e1,q1,t1⟩:=r2
   cases e1
   rw[dP2]at e
   rcases hf:f d d' with _|e0
   ·rw[hf]at e;exact J1 e
   ·
     rcases hr:eqL f ds ds' with _|r'
     ·rw[hf,hr]at e;exact J1 e
     ·
       rw[hf,hr]at e
       cases e
       have z1:=k d d' v0 e0 List.mem_cons_self q0 q1 hf
       have z2:=eqL_same ds ds' vr r' t0 t1 (fun a a' v b hm=>k a a' v b (List.mem_cons_of_mem _ hm)) hr
       rw[z1,z2];rfl
theorem cP8(I:Inv X pins σ H s)(h:J0 (wc X) μ G H):∀(n:Nat) {dx dy:D} {x:V} {v:Value} {b:Bool},d9 (wc X) μ H dx x→d9 (wc X) μ H dy x→J6 x v→eqN n G dx dy=some b→b=true
 |0,_,_,_,_,_,_,_,_,e=>by exact J1 e
 |n+1,dx,dy,x,v,b,rx,ry,rv,e=>by
   rw[bT1]at e
   rcases hx:aC6 G dx with _|p
   ·
     rw[hx]at e
     rcases hy:aC6 G dy with _|p
     ·rw[hy]at e;exact dT6 e rx ry
     ·
       obtain⟨k,l⟩:=p
       rw[hy]at e
       dsimp only at e
       split at e
       · rename_i hs
         obtain⟨a,_,_,rfl,_⟩:=aI3 I h hy ry rv
         exact(bO4 hs rx).elim
       ·exact J1 e
   ·
     obtain⟨k,l⟩:=p
     rw[hx]at e
     rcases hy:aC6 G dy with _|p'
     ·
       rw[hy]at e
       dsimp only at e
       split at e
       · rename_i hs
         obtain⟨a,_,_,rfl,_⟩:=aI3 I h hx rx rv
         exact(bO4 hs ry).elim
       ·exact J1 e
     ·
       obtain⟨k',l'⟩:=p'
       rw[hy]at e
       dsimp only at e
       obtain⟨a,vs,its,rfl,rfl,rl,rr,sq,q⟩:=aI3 I h hx rx rv
       obtain⟨a',vs',its',ea,_,rl',rr',sq',q'⟩:=aI3 I h hy ry rv
       cases ea
       have hk:k=k':=cR2 I sq sq'
       subst hk
       have hvs:vs=vs':=by
        rcases k with _|_
        ·exact I.list_inj q q'
        ·exact I.tuple_inj q q'
       subst hvs
       rw[if_pos rfl,if_neg (by rw[rl.length,rl'.length];simp)]at e
       have hv:∀v∈vs,∃u,J6 v u:=fun v hv=>by
        obtain⟨i,hi⟩:=List.getElem?_of_mem hv
        obtain⟨u,_,ru⟩:=rr.get hi
        exact⟨u,ru⟩
       exact eqL_same l l' vs b rl rl' (fun d d' v b hm r1 r2 ef=>by
        obtain⟨u,ru⟩:=hv v hm
        exact cP8 I h n r1 r2 ru ef) e
theorem eQ8{A:Around}{dx dy:D}{x y:V}{v u:Value}{b:Bool}{c:Wc}(rx:d9 c μ H dx x)(ry:d9 c μ H dy y)(rv:J6 x v)(ru:J6 y u)(e:eqS dx dy=some b):
 SeqAt.RcAt A s v u b∧SeqAt.RcNeAt A s v u (!b)∧SeqAt.EqAt A s v u b:=by
 obtain⟨s1,s2⟩:=cJ1 e
 rcases dx with _|i|i|i|_|_|_|_<;>try (cases s1;done)
 ·
   unfold d9 at rx;subst rx;cases rv
   rcases dy with _|j|j|j|_|_|_|_<;>try (cases s2;done)
   ·unfold d9 at ry;subst ry;cases ru;cases e;exact⟨SeqAt.RcAt.none_none,SeqAt.RcNeAt.none_none,SeqAt.EqAt.same _⟩
   ·unfold d9 at ry;subst ry;cases ru;cases e;exact⟨SeqAt.RcAt.none_bool _,SeqAt.RcNeAt.none_bool _,SeqAt.EqAt.none_bool _⟩
   ·unfold d9 at ry;subst ry;obtain⟨t,rfl⟩:=ru;cases e;exact⟨SeqAt.RcAt.none_int _ _,SeqAt.RcNeAt.none_int _ _,SeqAt.EqAt.none_int _ _⟩
   ·unfold d9 at ry;subst ry;obtain⟨t,rfl⟩:=ru;cases e;exact⟨SeqAt.RcAt.none_str _ _,SeqAt.RcNeAt.none_str _ _,SeqAt.EqAt.none_str _ _⟩
 ·
   unfold d9 at rx;subst rx;cases rv
   rcases dy with _|j|j|j|_|_|_|_<;>try (cases s2;done)
   ·unfold d9 at ry;subst ry;cases ru;cases e;exact⟨SeqAt.RcAt.bool_none _,SeqAt.RcNeAt.bool_none _,SeqAt.EqAt.bool_none _⟩
   ·unfold d9 at ry;subst ry;cases ru;cases e;exact⟨SeqAt.RcAt.bool_bool _ _,SeqAt.RcNeAt.bool_bool _ _,SeqAt.EqAt.bool_bool _ _⟩
   ·unfold d9 at ry;subst ry;obtain⟨t,rfl⟩:=ru;cases e;exact⟨SeqAt.RcAt.bool_int _ _ _,SeqAt.RcNeAt.bool_int _ _ _,SeqAt.EqAt.bool_int _ _ _⟩
   ·unfold d9 at ry;subst ry;obtain⟨t,rfl⟩:=ru;cases e;exact⟨SeqAt.RcAt.bool_str _ _ _,SeqAt.RcNeAt.bool_str _ _ _,SeqAt.EqAt.bool_str _ _ _⟩
 ·
   unfold d9 at rx;subst rx;obtain⟨t,rfl⟩:=rv
   rcases dy with _|j|j|j|_|_|_|_<;>try (cases s2;done)
   ·unfold d9 at ry;subst ry;cases ru;cases e;exact⟨SeqAt.RcAt.int_none _ _,SeqAt.RcNeAt.int_none _ _,SeqAt.EqAt.int_none _ _⟩
   ·unfold d9 at ry;subst ry;cases ru;cases e;exact⟨SeqAt.RcAt.int_bool _ _ _,SeqAt.RcNeAt.int_bool _ _ _,SeqAt.EqAt.int_bool _ _ _⟩
   ·unfold d9 at ry;subst ry;obtain⟨t,rfl⟩:=ru;cases e;exact⟨SeqAt.RcAt.int_int _ _ _ _,SeqAt.RcNeAt.int_int _ _ _ _,SeqAt.EqAt.int_int _ _ _ _⟩
   ·unfold d9 at ry;subst ry;obtain⟨t,rfl⟩:=ru;cases e;exact⟨SeqAt.RcAt.int_str _ _ _ _,SeqAt.RcNeAt.int_str _ _ _ _,SeqAt.EqAt.int_str _ _ _ _⟩
 ·
   unfold d9 at rx;subst rx;obtain⟨t,rfl⟩:=rv
   rcases dy with _|j|j|j|_|_|_|_<;>try (cases s2;done)
   ·unfold d9 at ry;subst ry;cases ru;cases e;exact⟨SeqAt.RcAt.str_none _ _,SeqAt.RcNeAt.str_none _ _,SeqAt.EqAt.str_none _ _⟩
   ·unfold d9 at ry;subst ry;cases ru;cases e;exact⟨SeqAt.RcAt.str_bool _ _ _,SeqAt.RcNeAt.str_bool _ _ _,SeqAt.EqAt.str_bool _ _ _⟩
   ·unfold d9 at ry;subst ry;obtain⟨t,rfl⟩:=ru;cases e;exact⟨SeqAt.RcAt.str_int _ _ _ _,SeqAt.RcNeAt.str_int _ _ _ _,SeqAt.EqAt.str_int _ _ _ _⟩
   ·unfold d9 at ry;subst ry;obtain⟨t,rfl⟩:=ru;cases e;exact⟨SeqAt.RcAt.str_str _ _ _ _,SeqAt.RcNeAt.str_str _ _ _ _,SeqAt.EqAt.str_str _ _ _ _⟩
theorem bK0{A:Around}(hu:A.units<cLine){k:Bool}{a:Addr}{its:List Value}(sq:cL5 s k a its){dy:D}{y:V}{u:Value}{c:Wc}(ry:d9 c μ H dy y)(ru:J6 y u)(hs:aL7 dy=true):
 (SeqAt.RcAt A s (.ref a) u false∧SeqAt.RcNeAt A s (.ref a) u true∧SeqAt.EqAt A s (.ref a) u false)∧(SeqAt.RcAt A s u (.ref a) false∧SeqAt.RcNeAt A s u (.ref a) true∧SeqAt.EqAt A s u (.ref a) false):=by
 rcases k with _|_
 ·
   rcases dy with _|j|j|j|_|_|_|_<;>try (cases hs;done)
   ·unfold d9 at ry;subst ry;cases ru;exact⟨⟨.list_none sq hu,.list_none sq hu,.list_none sq hu⟩,.none_list sq hu,.none_list sq hu,.none_list sq hu⟩
   ·unfold d9 at ry;subst ry;cases ru;exact⟨⟨.list_bool _ sq hu,.list_bool _ sq hu,.list_bool _ sq hu⟩,.bool_list _ sq hu,.bool_list _ sq hu,.bool_list _ sq hu⟩
   ·unfold d9 at ry;subst ry;obtain⟨t,rfl⟩:=ru;exact⟨⟨.list_int _ _ sq hu,.list_int _ _ sq hu,.list_int _ _ sq hu⟩,.int_list _ _ sq hu,.int_list _ _ sq hu,.int_list _ _ sq hu⟩
   ·unfold d9 at ry;subst ry;obtain⟨t,rfl⟩:=ru;exact⟨⟨.list_str _ _ sq hu,.list_str _ _ sq hu,.list_str _ _ sq hu⟩,.str_list _ _ sq hu,.str_list _ _ sq hu,.str_list _ _ sq hu⟩
 ·
   rcases dy with _|j|j|j|_|_|_|_<;>try (cases hs;done)
   ·unfold d9 at ry;subst ry;cases ru;exact⟨⟨.tuple_none sq hu,.tuple_none sq hu,.tuple_none sq hu⟩,.none_tuple sq hu,.none_tuple sq hu,.none_tuple sq hu⟩
   ·unfold d9 at ry;subst ry;cases ru;exact⟨⟨.tuple_bool _ sq hu,.tuple_bool _ sq hu,.tuple_bool _ sq hu⟩,.bool_tuple _ sq hu,.bool_tuple _ sq hu,.bool_tuple _ sq hu⟩
   ·unfold d9 at ry;subst ry;obtain⟨t,rfl⟩:=ru;exact⟨⟨.tuple_int _ _ sq hu,.tuple_int _ _ sq hu,.tuple_int _ _ sq hu⟩,.int_tuple _ _ sq hu,.int_tuple _ _ sq hu,.int_tuple _ _ sq hu⟩
   ·unfold d9 at ry;subst ry;obtain⟨t,rfl⟩:=ru;exact⟨⟨.tuple_str _ _ sq hu,.tuple_str _ _ sq hu,.tuple_str _ _ sq hu⟩,.str_tuple _ _ sq hu,.str_tuple _ _ sq hu,.str_tuple _ _ sq hu⟩
theorem cQ6(I:Inv X pins σ H s)(h:J0 (wc X) μ G H):∀(n:Nat) (A:Around),A.units+n<cLine→∀ {dx dy:D} {x y:V} {v u:Value} {b:Bool},d9 (wc X) μ H dx x→d9 (wc X) μ H dy y→J6 x v→J6 y u→eqN n G dx dy=some b→
 SeqAt.RcAt A s v u b∧SeqAt.RcNeAt A s v u (!b)∧SeqAt.EqAt A s v u b
 |0,_,_,_,_,_,_,_,_,_,_,_,_,_,e=>by exact J1 e
 |n+1,A,hu,dx,dy,x,y,v,u,b,rx,ry,rv,ru,e=>by
   have hu0:A.units<cLine:=by lia
   have hu1:A.in1.units+n<cLine:=by show A.units+1+n<cLine;lia
   have e0:=e
   rw[bT1]at e
   rcases hx:aC6 G dx with _|p
   ·
     rw[hx]at e
     rcases hy:aC6 G dy with _|p
     ·rw[hy]at e;exact eQ8 rx ry rv ru e
     ·
       obtain⟨k,l⟩:=p
       rw[hy]at e
       dsimp only at e
       split at e
       · rename_i hs
         cases e
         obtain⟨a,vs,its,rfl,rfl,_,_,sq,_⟩:=aI3 I h hy ry ru
         exact(bK0 hu0 sq rx rv hs).2
       ·exact J1 e
   ·
     obtain⟨k,l⟩:=p
     rw[hx]at e
     obtain⟨a,vs,its,rfl,rfl,rl,rr,sq,q⟩:=aI3 I h hx rx rv
     rcases hy:aC6 G dy with _|p'
     ·
       rw[hy]at e
       dsimp only at e
       split at e
       · rename_i hs
         cases e
         exact(bK0 hu0 sq ry ru hs).1
       ·exact J1 e
     ·
       obtain⟨k',l'⟩:=p'
       rw[hy]at e
       dsimp only at e
       obtain⟨a',vs',its',rfl,rfl,rl',rr',sq',q'⟩:=aI3 I h hy ry ru
       -- the two at one place
       have main:SeqAt.RcAt A s (.ref a) (.ref a') b∧SeqAt.RcNeAt A s (.ref a) (.ref a') (!b):=by
        have len1:its.toArray.size=l.length:=by rw[List.size_toArray,←rr.length,rl.length]
        have len2:its'.toArray.size=l'.length:=by rw[List.size_toArray,←rr'.length,rl'.length]
        by_cases hk:k=k'
        · subst hk
          rw[if_pos rfl]at e
          by_cases hlen:k=false∧l.length≠l'.length
          · rw[if_pos hlen]at e
            cases e
            obtain⟨rfl,hne⟩:=hlen
            have hz:(its.toArray.size != its'.toArray.size)=true:=by rw[len1,len2];simpa using hne
            exact⟨SeqAt.RcAt.lists_lengths sq sq' hz hu0,SeqAt.RcNeAt.lists_lengths sq sq' hz hu0⟩
          · rw[if_neg hlen]at e
            have items:∀j (h1:j<its.toArray.size) (h2:j<its'.toArray.size),∃e,eqN n G (l.getD j .non) (l'.getD j .non)=some e∧SeqAt.EqAt A.in1 s its.toArray[j] its'.toArray[j] e:=fun j h1 h2=>by
             have j1:j<l.length:=by rw[←len1];exact h1
             have j2:j<l'.length:=by rw[←len2];exact h2
             have g1:l[j]? =some l[j]:=List.getElem?_eq_getElem j1
             have g2:l'[j]? =some l'[j]:=List.getElem?_eq_getElem j2
             obtain⟨e1,he1⟩:=bQ9 l l' b e j _ _ g1 g2
             obtain⟨v1,hv1,r1⟩:=rl.get g1
             obtain⟨v2,hv2,r2⟩:=rl'.get g2
             obtain⟨u1,hu1',ru1⟩:=rr.get hv1
             obtain⟨u2,hu2',ru2⟩:=rr'.get hv2
             have w1:its.toArray[j]=u1:=by
              have:its.toArray[j]? =some u1:=by simpa using hu1'
              rw[Array.getElem?_eq_getElem h1]at this
              exact Option.some.inj this
             have w2:its'.toArray[j]=u2:=by
              have:its'.toArray[j]? =some u2:=by simpa using hu2'
              rw[Array.getElem?_eq_getElem h2]at this
              exact Option.some.inj this
             rw[w1,w2]
             refine⟨e1,?_,(cQ6 I h n A.in1 hu1 r1 r2 ru1 ru2 he1).2.2⟩
             rw[List.getD_eq_getElem?_getD,List.getD_eq_getElem?_getD,g1,g2]
             exact he1
            have hr:=bX2 (e:=fun j=>(eqN n G (l.getD j .non) (l'.getD j .non)).getD false) l l' b e fun j x y g1 g2=>by
             obtain⟨e1,he1⟩:=bQ9 l l' b e j x y g1 g2
             rw[List.getD_eq_getElem?_getD,List.getD_eq_getElem?_getD,g1,g2]
             simp only[Option.getD_some]
             rw[he1];rfl
            have he:∀j (h1:j<its.toArray.size) (h2:j<its'.toArray.size),SeqAt.EqAt A.in1 s its.toArray[j] its'.toArray[j] ((eqN n G (l.getD j .non) (l'.getD j .non)).getD false):=fun j h1 h2=>by
             obtain⟨e1,he1,hh⟩:=items j h1 h2
             rw[he1];exact hh
            rcases k with _|_
            ·
              have hl:l.length=l'.length:=Classical.byContradiction fun z=>hlen ⟨rfl,z⟩
              have hsz:its.toArray.size=its'.toArray.size:=by rw[len1,len2,hl]
              have z1:=SeqAt.RcAt.lists (A:=A) sq sq' hsz hu0 he
              have z2:=SeqAt.RcNeAt.lists (A:=A) sq sq' hsz hu0 he
              have hr2:b= (List.range its.toArray.size).all fun j=>(eqN n G (l.getD j .non) (l'.getD j .non)).getD false:=by
               rw[hr,len1,hl];simp
              rw[←hr2]at z1 z2
              exact⟨z1,z2⟩
            ·
              have z1:=SeqAt.RcAt.tuples (A:=A) sq sq' hu0 he
              have z2:=SeqAt.RcNeAt.tuples (A:=A) sq sq' hu0 he
              rw[len1,len2,←hr]at z1 z2
              exact⟨z1,z2⟩
        · rw[if_neg hk]at e
          cases e
          cases k<;>cases k'<;>first
           |exact absurd rfl hk
           |exact⟨SeqAt.RcAt.list_tuple sq sq' hu0,SeqAt.RcNeAt.list_tuple sq sq' hu0⟩
           |exact⟨SeqAt.RcAt.tuple_list sq sq' hu0,SeqAt.RcNeAt.tuple_list sq sq' hu0⟩
       refine⟨main.1,main.2,?_⟩
       by_cases ha:a=a'
       · subst ha
         have:b=true:=cP8 I h (n+1) rx ry rv e0
         rw[this]
         exact SeqAt.EqAt.same _
       ·exact SeqAt.EqAt.of_refs ha main.1
end
section
variable{X:Cx}{Z:XC}
def eqD:D→D→M D:=fun x y G=>match eqN 40 G x y with
 |some b=>some (.ok (.bl b),G)
 |none=>none
def neD:D→D→M D:=fun x y G=>match eqN 40 G x y with
 |some b=>some (.ok (.bl (!b)),G)
 |none=>none
theorem fA3(hu:X.A.units+64<cLine):OpD X Z (compareOp .Eq) eqD:=⟨by
 intro pins s σ H x y v u Q I rx ry hE0
 refine hE0.elim fun dx dy μ G rdx rdy hr p=>?_
 unfold eqD at p
 rcases e:eqN 40 G dx dy with _|b
 ·rw[e]at p;exact p.elim
 ·
   rw[e]at p
   exact(cQ6 I hr 40 X.A (by lia) rdx rdy rx ry e).1 X.prog X.w X.xe _ ⟨.bl b,H,I,rfl,d8.ok p hr _ ofB⟩⟩
theorem fI5(hu:X.A.units+64<cLine):OpD X Z (compareOp .NotEq) neD:=⟨by
 intro pins s σ H x y v u Q I rx ry hE0
 refine hE0.elim fun dx dy μ G rdx rdy hr p=>?_
 unfold neD at p
 rcases e:eqN 40 G dx dy with _|b
 ·rw[e]at p;exact p.elim
 ·
   rw[e]at p
   exact(cQ6 I hr 40 X.A (by lia) rdx rdy rx ry e).2.1 X.prog X.w X.xe _ ⟨.bl (!b),H,I,rfl,d8.ok p hr _ ofB⟩⟩
def leD:D→D→M D:=fun x y=>match x,y with
 | .int i,.int j=>pure (.bl (decide (i≤j)))
 | .str i,.str j=>pure (.bl (!decide (j.cps.toList<i.cps.toList)))
 |_,_=>M.stuck
def gtD:D→D→M D:=fun x y=>match x,y with
 | .int i,.int j=>pure (.bl (decide (j<i)))
 | .str i,.str j=>pure (.bl (decide (j.cps.toList<i.cps.toList)))
 |_,_=>M.stuck
theorem cY2{op:CmpOp}{fi:Int→Int→Bool}{fs:Str→Str→Bool}{o:D→D→M D}(hi:OpR X (compareOp op) (rI0 fun i j=>.bl (fi i j)))
 (hs:∀(i j:Str) (t u:Tok) (s:Shared) (Q:VSP) (E:VSP),Q (.bool (fs i j)) s→wpAny (model X.prog X.w) X.A (compareOp op (.str i t) (.str j u)) Q E s)
 (h1:∀i j,o (.int i) (.int j)=pure (.bl (fi i j))) (h2:∀i j,o (.str i) (.str j)=pure (.bl (fs i j)))
 (h3:∀x y,(∀i j,¬(x= .int i∧y= .int j))→(∀i j,¬(x= .str i∧y= .str j))→o x y=M.stuck):OpD X Z (compareOp op) o:=⟨by
 intro pins s σ H x y v u Q I rx ry hE0
 refine hE0.elim fun dx dy μ G rdx rdy hr p=>?_
 by_cases c1:∃i j,dx= .int i∧dy= .int j
 · obtain⟨i,j,rfl,rfl⟩:=c1
   rw[h1]at p
   exact hi pins s σ H x y v u Q I rx ry ⟨i,j,aK4 rdx,aK4 rdy,d8.ok p hr _ ofB⟩
 · by_cases c2:∃i j,dx= .str i∧dy= .str j
   · obtain⟨i,j,rfl,rfl⟩:=c2
     rw[h2]at p
     have e1:=aV6 rdx
     have e2:=aV6 rdy
     subst e1 e2
     obtain⟨t,rfl⟩:=rx
     obtain⟨t',rfl⟩:=ry
     exact hs i j t t' s _ _ ⟨.bl (fs i j),H,I,rfl,d8.ok p hr _ ofB⟩
   · rw[h3 dx dy (fun i j z=>c1 ⟨i,j,z⟩) (fun i j z=>c2 ⟨i,j,z⟩)]at p
     exact p.elim⟩
theorem fB7:OpD X Z (compareOp .LtE) leD:=cY2 fC0 (fun _ _ _ _ _ _ _ q=>PySem.P.le_str q) (fun _ _=>rfl) (fun _ _=>rfl) fun x y n1 n2=>by
 rcases x with _|_|_|_|_|_|_|_<;>rcases y with _|_|_|_|_|_|_|_<;>first
  |rfl
  |exact absurd ⟨rfl,rfl⟩ (n1 _ _)
  |exact absurd ⟨rfl,rfl⟩ (n2 _ _)
theorem fD9:OpD X Z (compareOp .Gt) gtD:=cY2 fG6 (fun _ _ _ _ _ _ _ q=>PySem.P.gt_str q) (fun _ _=>rfl) (fun _ _=>rfl) fun x y n1 n2=>by
 rcases x with _|_|_|_|_|_|_|_<;>rcases y with _|_|_|_|_|_|_|_<;>first
  |rfl
  |exact absurd ⟨rfl,rfl⟩ (n1 _ _)
  |exact absurd ⟨rfl,rfl⟩ (n2 _ _)
noncomputable def cU8:D→Bool
 | .non=>true
 |_=>false
theorem cZ4{c:Wc}{μ:List Addr}{H:Hp}{d:D}{v:V}(r:d9 c μ H d v):decide (v= .non)=cU8 d:=by
 cases d with
 |non=>rw[dL0 r];rfl
 |tup l=>unfold d9 at r;obtain⟨a,_,rfl,_⟩:=r;rfl
 |ref l=>unfold d9 at r;obtain⟨a,_,rfl⟩:=r;rfl
 |fn l=>unfold d9 at r;obtain⟨a,_,rfl⟩:=r;rfl
 |_=>unfold d9 at r;subst r;rfl
def cQ9:D→M D:=fun x=>match x with
 | .int i=>pure (.int (-i))
 |_=>M.stuck
theorem eM3:UnD X Z (unaryOp .USub) cQ9:=⟨by
 intro pins s σ H x v Q I rx hE0
 refine hE0.elim fun dx μ G rdx hr p=>?_
 cases dx<;>first
  |exact p.elim
  |exact dP9 pins s σ H x v Q I rx ⟨_,aK4 rdx,d8.ok p hr _ ofI⟩⟩
noncomputable instance (x:Str) (n:Int):Decidable (PySem.MulOk x n):=by unfold PySem.MulOk;infer_instance
def bH6:D→D→M D:=fun x y=>match x,y with
 | .int i,.int j=>if bW2 i j then pure (.int (i*j))else M.stuck
 | .str x,.int n=>if PySem.MulOk x n then pure (.str (Txt.mul x n))else M.stuck
 |_,_=>M.stuck
theorem cR6:OpR X (binaryOp .Mult) (fun x y H Q=>∃z n,x= .str z∧y= .int n∧PySem.MulOk z n∧Q (.str (Txt.mul z n)) H):=by
 intro pins s σ H x y v u Q I rx ry h
 obtain⟨z,n,rfl,rfl,hk,q⟩:=h
 obtain⟨t,rfl⟩:=rx
 obtain⟨t',rfl⟩:=ry
 exact PySem.SB.mul hk fun t' k=>⟨.str _,H,I.tok _,⟨_,rfl⟩,q⟩
theorem eT8:OpD X Z (binaryOp .Mult) bH6:=
 OpD.of (OpR.or eT3 cR6) fun x y H Q hE0=>hE0.elim fun dx dy μ G rdx rdy hr p=>by
  rcases dx with _|_|_|_|_|_|_|_<;>rcases dy with _|_|_|_|_|_|_|_<;>first
   |exact p.elim
   |skip
  · unfold bH6 at p
    dsimp only at p
    split at p
    ·rename_i hc;exact .inl ⟨_,_,aK4 rdx,aK4 rdy,hc,d8.ok p hr _ ofI⟩
    ·exact p.elim
  · unfold bH6 at p
    dsimp only at p
    split at p
    ·rename_i hc;exact .inr ⟨_,_,aV6 rdx,aK4 rdy,hc,d8.ok p hr _ ofS⟩
    ·exact p.elim
end
noncomputable def cU4(A:Around)(s:Shared)(y x:Value)(b:Bool):Prop:=
 ∀(prog:Program) (w:World) (E:VSP) (Q:VSP),Q (.bool b) s→wpAny (model prog w) A (richCompare .Lt y x) Q E s
inductive LtR(A:Around)(s:Shared):List Value→List Value→Bool→Prop
 |nil:LtR A s [] [] false
 |nilc {y ys}:LtR A s [] (y::ys) true
 |cnil {x xs}:LtR A s (x::xs) [] false
 |eq {x y xs ys b}:SeqAt.EqAt A s x y true→LtR A s xs ys b→LtR A s (x::xs) (y::ys) b
 |ne {x y xs ys b}:SeqAt.EqAt A s x y false→cU4 A s x y b→LtR A s (x::xs) (y::ys) b
section
open PySem.SeqAt
open PySem.AutoSeq1 (wpAny_loadPart')
open PySem.MeetsSeq PySem.MeetsSeq2 PySem.MeetsSeq3
theorem cS0(l b:Addr)(items items2:Array Value)(n n2:Nat)(dd dd2:Option Addr)(sl sl2:Array (Option Value))(k:Bool):
 Meets (Builtin.«tuple.__lt__» ⟨[.ref l,.ref b], []⟩)
  (fun A R s=>s.heap.get? l=some {cls:=.type "tuple",dict:=dd,data:=.seq items n,slots:=sl}∧s.heap.get? b=some {cls:=.type "tuple",dict:=dd2,data:=.seq items2 n2,slots:=sl2}∧
    LtR A.in1 s items.toList items2.toList k∧R (.ok (.ret (.bool k))) s):=
 .of_wp fun prog w A R s h=>by
  obtain⟨hp,g,d,tk,os⟩:=s;obtain⟨hl,hb,hk,h⟩:=h
  have f2:=AutoSeq1.sub_tuple_tuple
  wp_walk using wpAny_loadPart' hl,wpAny_loadPart' hb,wpAny_forIn_list _ (fun U9 b s'=>b.1=none∧s'= ⟨hp,g,d,tk,os⟩∧∃(vs ws:List Value),U9=vs.zip ws∧
   vs.length+items2.size=ws.length+items.size∧LtR A.in1 ⟨hp,g,d,tk,os⟩ vs ws k) _
  case turn=>
   rintro⟨y,x⟩ U9 b s' ⟨hb',rfl,vs,ws,hz,hlen,hR⟩
   cases hR with
   |nil=>exact cZ1 hz
   |nilc=>exact cZ1 hz
   |cnil=>exact cZ1 hz
   |eq he hR'=>
     rw[List.zip_cons_cons]at hz
     injection hz with hyx hrest
     injection hyx with hy hx
     subst hy hx
     refine wpAny_bind (he prog w _ _ ?_)
     wp_walk
     simp only[List.length_cons]at hlen
     exact⟨rfl,rfl,_,_,hrest,by lia,hR'⟩
   |ne he hc=>
     rw[List.zip_cons_cons]at hz
     injection hz with hyx hrest
     injection hyx with hy hx
     subst hy hx
     refine wpAny_bind (he prog w _ _ ?_)
     have hri:=hc prog w
     wp_walk using hri
     exact⟨_,rfl,h⟩
  case fin=>
   rintro⟨b1,b2⟩ s' ⟨hb',rfl,vs,ws,hz,hlen,hR⟩
   simp only at hb'
   subst hb'
   have hv:k=decide (items.size<items2.size):=by
    cases hR with
    |nil=>simp only[List.length_nil]at hlen;exact(decide_eq_false (by lia)).symm
    |nilc=>simp only[List.length_nil,List.length_cons]at hlen;exact(decide_eq_true (by lia)).symm
    |cnil=>simp only[List.length_nil,List.length_cons]at hlen;exact(decide_eq_false (by lia)).symm
    |eq _ _=>rw[List.zip_cons_cons]at hz;exact cJ3 hz
    |ne _ _=>rw[List.zip_cons_cons]at hz;exact cJ3 hz
   rw[hv]at h
   wp_walk
   exact⟨_,rfl,by simpa [Builtin.Tuple.tupleCompareSizes]using h⟩
  case h=>
   exact⟨rfl,rfl,items.toList,items2.toList,rfl,by simp;lia,hk⟩
theorem dJ6(l b:Addr)(items items2:Array Value)(n n2:Nat)(dd dd2:Option Addr)(sl sl2:Array (Option Value))(k:Bool):∀(vs ws:List Value) (i:Nat),items.toList.drop i=vs→items2.toList.drop i=ws→i≤items.size→i≤items2.size→
 Meets (Builtin.«list.__eq__.loop» ⟨[.ref l,.ref b,rawInt i,rawInt 0], []⟩)
  (fun A R s=>s.heap.get? l=some {cls:=.type "list",dict:=dd,data:=.seq items n,slots:=sl}∧s.heap.get? b=some {cls:=.type "list",dict:=dd2,data:=.seq items2 n2,slots:=sl2}∧
    LtR A.in1 s vs ws k∧R (.ok (.ret (.bool k))) s):=by
 have dropn:∀(a:Array Value) (i:Nat),a.toList.drop i= []→i≤a.size→i=a.size:=fun a i e hi=>by
  have:=List.drop_eq_nil_iff.mp e
  simp at this;lia
 have dropc:∀(a:Array Value) (i:Nat) (v:Value) (r:List Value),a.toList.drop i=v::r→i<a.size∧a[((i:Nat):Int).toNat]? =some v∧a.toList.drop (i+1)=r:=fun a i v r e=>by
  have hlt:i<a.toList.length:=by
   rcases Nat.lt_or_ge i a.toList.length with q|q
   ·exact q
   ·rw[List.drop_eq_nil_of_le q]at e;exact cJ3 e
  rw[List.drop_eq_getElem_cons hlt]at e
  injection e with e1 e2
  refine⟨by simpa using hlt,?_,e2⟩
  simp at hlt
  simp[hlt]
  simpa using e1
 intro vs
 induction vs with
 |nil=>
   intro ws i hv hw hi hi2 prog w A R s h
   obtain⟨hp,g,d,tk,os⟩:=s;obtain⟨hl,hb,he,h⟩:=h
   have e1:=dropn items i hv hi
   wp_walk using wpAny_loadPart' hl,wpAny_loadPart' hb
   have hi1:items[((i:Nat):Int).toNat]? =none:=by simp;lia
   rw[hi1]
   rcases ws with _|⟨y,ys⟩
   ·
     have e2:=dropn items2 i hw hi2
     cases he
     wp_walk using wpAny_loadPart' hl,wpAny_loadPart' hb
     show R (.ok (.ret (.bool (decide (items.size<items2.size))))) _
     rw[decide_eq_false (by lia)]
     exact h
   ·
     obtain⟨hlt,_,_⟩:=dropc items2 i y ys hw
     cases he
     wp_walk using wpAny_loadPart' hl,wpAny_loadPart' hb
     show R (.ok (.ret (.bool (decide (items.size<items2.size))))) _
     rw[decide_eq_true (by lia)]
     exact h
 |cons x xs ih=>
   intro ws i hv hw hi hi2 prog w A R s h
   obtain⟨hp,g,d,tk,os⟩:=s;obtain⟨hl,hb,he,h⟩:=h
   obtain⟨hlt,g1,d1⟩:=dropc items i x xs hv
   wp_walk using wpAny_loadPart' hl,wpAny_loadPart' hb
   rcases ws with _|⟨y,ys⟩
   ·
     have e2:=dropn items2 i hw hi2
     have hi2':items2[((i:Nat):Int).toNat]? =none:=by simp;lia
     rw[g1,hi2']
     cases he
     wp_walk using wpAny_loadPart' hl,wpAny_loadPart' hb
     show R (.ok (.ret (.bool (decide (items.size<items2.size))))) _
     rw[decide_eq_false (by lia)]
     exact h
   ·
     obtain⟨hlt2,g2,d2⟩:=dropc items2 i y ys hw
     have hc:((i:Int)+1)= ((i+1:Nat):Int):=by push_cast;rfl
     rw[g1,g2]
     cases he with
     |eq he he'=>
       refine wpAny_bind (he prog w _ _ ?_)
       wp_walk
       rw[hc]
       exact⟨plainId_quiet plain_eq_loop _,codeAny_builtin entry_eq_loop (by
        rw[Around.under_plainId plain_eq_loop _]
        exact ih ys (i+1) d1 d2 (by lia) (by lia) prog w A R _ ⟨hl,hb,he',h⟩)⟩
     |ne he hcmp=>
       refine wpAny_bind (he prog w _ _ ?_)
       have hri:=hcmp prog w
       wp_walk using wpAny_loadPart' hl,wpAny_loadPart' hb
       rw[g1,g2]
       wp_walk using hri
       exact h
theorem dG5(l b:Addr)(items items2:Array Value)(n n2:Nat)(dd dd2:Option Addr)(sl sl2:Array (Option Value))(k:Bool):
 Meets (Builtin.«list.__lt__» ⟨[.ref l,.ref b], []⟩)
  (fun A R s=>s.heap.get? l=some {cls:=.type "list",dict:=dd,data:=.seq items n,slots:=sl}∧s.heap.get? b=some {cls:=.type "list",dict:=dd2,data:=.seq items2 n2,slots:=sl2}∧
    LtR A.in1 s items.toList items2.toList k∧R (.ok (.ret (.bool k))) s):=by
 intro prog w A R s h
 obtain⟨hp,g,d,tk,os⟩:=s;obtain⟨hl,hb,he,h⟩:=h
 have f3:=AutoSeq1.sub_list_list
 wp_walk using wpAny_loadPart' hl,wpAny_loadPart' hb
 exact⟨plainId_quiet plain_eq_loop _,codeAny_builtin entry_eq_loop (by
  rw[Around.under_plainId plain_eq_loop _]
  exact dJ6 l b items items2 n n2 dd dd2 sl sl2 k items.toList items2.toList 0 rfl rfl (Nat.zero_le _) (Nat.zero_le _) prog w A R _ ⟨hl,hb,he,h⟩)⟩
end
noncomputable def ltS:D→D→Option Bool
 | .int a,.int b=>some (decide (a<b))
 | .str a,.str b=>some (decide (a.cps.toList<b.cps.toList))
 | .bl a,.bl b=>some (decide (b2i a<b2i b))
 |_,_=>none
noncomputable def ltL(eq lt:D→D→Option Bool):List D→List D→Option Bool
 |[], []=>some false
 |[],_::_=>some true
 |_::_, []=>some false
 |x::xs,y::ys=>match eq x y with
   |some true=>ltL eq lt xs ys
   |some false=>lt x y
   |none=>none
def ltN:Nat→DH→D→D→Option Bool
 |0,_,_,_=>none
 |n+1,G,x,y=>match aC6 G x,aC6 G y with
   |some (k1,a),some (k2,b)=>if k1=k2 then ltL (eqN n G) (ltN n G) a b else none
   |none,none=>ltS x y
   |_,_=>none
theorem fF0{n:Nat}{G:DH}{x y:D}:ltN (n+1) G x y=match aC6 G x,aC6 G y with
 |some (k1,a),some (k2,b)=>if k1=k2 then ltL (eqN n G) (ltN n G) a b else none
 |none,none=>ltS x y
 |_,_=>none:=rfl
section
variable{X:Cx}{Z:XC}{pins:PNS}{σ:St}{H:Hp}{s:Shared}{μ:List Addr}{G:DH}
theorem eN3{A:Around}{dx dy:D}{x y:V}{v u:Value}{b:Bool}{c:Wc}(rx:d9 c μ H dx x)(ry:d9 c μ H dy y)(rv:J6 x v)(ru:J6 y u)(e:ltS dx dy=some b):cU4 A s v u b:=by
 intro prog w E Q hq
 rcases dx with _|_|_|_|_|_|_|_<;>rcases dy with _|_|_|_|_|_|_|_<;>first
  |(cases e;done)
  |skip
 · cases e
   unfold d9 at rx ry;subst rx ry;cases rv;cases ru
   exact(lt_bool hq:wpAny (model prog w) A (compareOp .Lt _ _) Q E s)
 · cases e
   unfold d9 at rx ry;subst rx ry;obtain⟨t,rfl⟩:=rv;obtain⟨t',rfl⟩:=ru
   exact(lt_int hq:wpAny (model prog w) A (compareOp .Lt _ _) Q E s)
 · cases e
   unfold d9 at rx ry;subst rx ry;obtain⟨t,rfl⟩:=rv;obtain⟨t',rfl⟩:=ru
   exact(lt_str hq:wpAny (model prog w) A (compareOp .Lt _ _) Q E s)
theorem lt_at(I:Inv X pins σ H s)(h:J0 (wc X) μ G H):∀(n:Nat) (A:Around),A.units+n<cLine→∀ {dx dy:D} {x y:V} {v u:Value} {b:Bool},d9 (wc X) μ H dx x→d9 (wc X) μ H dy y→J6 x v→J6 y u→ltN n G dx dy=some b→cU4 A s v u b
 |0,_,_,_,_,_,_,_,_,_,_,_,_,_,e=>by exact J1 e
 |n+1,A,hu,dx,dy,x,y,v,u,b,rx,ry,rv,ru,e=>by
   have hu0:A.units<cLine:=by lia
   have hu1:A.in1.units+n<cLine:=by show A.units+1+n<cLine;lia
   rw[fF0]at e
   rcases hx:aC6 G dx with _|p
   ·
     rw[hx]at e
     rcases hy:aC6 G dy with _|p
     ·rw[hy]at e;exact eN3 rx ry rv ru e
     ·rw[hy]at e;exact J1 e
   ·
     obtain⟨k,l⟩:=p
     rw[hx]at e
     rcases hy:aC6 G dy with _|p'
     ·rw[hy]at e;exact J1 e
     ·
       obtain⟨k',l'⟩:=p'
       rw[hy]at e
       dsimp only at e
       split at e
       case isFalse=>exact J1 e
       rename_i hk
       subst hk
       obtain⟨a,vs,its,rfl,rfl,rl,rr,sq,q⟩:=aI3 I h hx rx rv
       obtain⟨a',vs',its',rfl,rfl,rl',rr',sq',q'⟩:=aI3 I h hy ry ru
       have main:∀(l l':List D) (vs vs':List V) (its its':List Value),o9 (wc X) μ H l vs→o9 (wc X) μ H l' vs'→w6 vs its→w6 vs' its'→ltL (eqN n G) (ltN n G) l l'=some b→LtR A.in1 s its its' b:=by
        intro l
        induction l with
        |nil=>
          intro l' vs vs' its its' r r' q q' e
          cases r;cases q
          rcases l' with _|⟨_,_⟩
          ·cases r';cases q';cases e;exact .nil
          ·
            obtain⟨_,_,rfl,_,_⟩:=r'
            cases q'
            cases e
            exact .nilc
        |cons d ds ih=>
          intro l' vs vs' its its' r r' q q' e
          obtain⟨v0,vr,rfl,r0,rt⟩:=r
          cases q with
          |cons q0 qt=>
            rcases l' with _|⟨d',ds'⟩
            ·cases r';cases q';cases e;exact .cnil
            ·
              obtain⟨v1,vr',rfl,r1,rt'⟩:=r'
              cases q' with
              |cons q1 qt'=>
                unfold ltL at e
                rcases he:eqN n G d d' with _|b0
                ·rw[he]at e;exact J1 e
                ·
                  rw[he]at e
                  have hE:=(cQ6 I h n A.in1 hu1 r0 r1 q0 q1 he).2.2
                  rcases b0 with _|_
                  ·exact .ne hE (lt_at I h n A.in1 hu1 r0 r1 q0 q1 e)
                  ·exact .eq hE (ih ds' vr vr' _ _ rt rt' qt qt' e)
       have hR:=main l l' vs vs' its its' rl rl' rr rr' e
       intro prog w E Q hq
       rcases k with _|_
       ·
         obtain⟨⟨cls,dd,data,sl⟩,ho,hc,m,hd⟩:=id sq
         obtain⟨⟨cls2,dd2,data2,sl2⟩,ho2,hc2,m2,hd2⟩:=id sq'
         simp only at hc hd hc2 hd2
         subst hc hd hc2 hd2
         exact richCompare_meets_room (op:=.Lt) ⟨_,ho,rfl⟩ ⟨_,ho2,rfl⟩ PySem.F.slot_list_lt PySem.F.entry_list_lt (PySem.F.args_list_lt_2 _ _) (dG5 a a' its.toArray its'.toArray m m2 dd dd2 sl sl2 b)
          ⟨ho,ho2,hR,show Value.bool b≠Value.notImplemented∧Q (.bool b) s from⟨(fun x=>nomatch x),hq⟩⟩ hu0
       ·
         obtain⟨⟨cls,dd,data,sl⟩,ho,hc,m,hd⟩:=id sq
         obtain⟨⟨cls2,dd2,data2,sl2⟩,ho2,hc2,m2,hd2⟩:=id sq'
         simp only at hc hd hc2 hd2
         subst hc hd hc2 hd2
         exact richCompare_meets_room (op:=.Lt) ⟨_,ho,rfl⟩ ⟨_,ho2,rfl⟩ PySem.F.slot_tuple_lt PySem.F.entry_tuple_lt (PySem.F.args_tuple_lt_2 _ _) (cS0 a a' its.toArray its'.toArray m m2 dd dd2 sl sl2 b)
          ⟨ho,ho2,hR,show Value.bool b≠Value.notImplemented∧Q (.bool b) s from⟨(fun x=>nomatch x),hq⟩⟩ hu0
def ltD:D→D→M D:=fun x y G=>match ltN 40 G x y with
 |some b=>some (.ok (.bl b),G)
 |none=>none
theorem fK4(hu:X.A.units+64<cLine):OpD X Z (compareOp .Lt) ltD:=⟨by
 intro pins s σ H x y v u Q I rx ry hE0
 refine hE0.elim fun dx dy μ G rdx rdy hr p=>?_
 unfold ltD at p
 rcases e:ltN 40 G dx dy with _|b
 ·rw[e]at p;exact p.elim
 ·
   rw[e]at p
   exact lt_at I hr 40 X.A (by lia) rdx rdy rx ry e X.prog X.w X.xe _ ⟨.bl b,H,I,rfl,d8.ok p hr _ ofB⟩⟩
end
noncomputable def Z2:D→Bool
 | .non=>true
 | .bl _=>true
 | .int _=>true
 | .str _=>true
 |_=>false
noncomputable def toV:D→V
 | .bl b=>.bl b
 | .int i=>.int i
 | .str x=>.str x
 |_=>.non
noncomputable def bX0:D→Option Key
 | .int i=>some (.inl i)
 | .str x=>some (.inr x)
 |_=>none
noncomputable def W9(l:List (Key×D))(k:Key):Option D:=(l.find? fun kv=>decide (kv.1=k)).map (·.2)
def inB(x y:D)(G:DH):Option Bool:=match y with
 | .str j=>match x with
   | .str i=>some (!(Builtin.Str.occurrences j i 0 j.length 1).isEmpty)
   |_=>none
 | .ref r=>match G[r]? with
   |some (.dct l)=>(bX0 x).map fun k=>(W9 l k).isSome
   |some (.rod _)=>none
   |some (.lst l)=>if Z2 x&&l.all Z2 then some (inV (toV x) (l.map toV))else none
   |some (.rol l)=>if Z2 x&&l.all Z2 then some (inV (toV x) (l.map toV))else none
   |none=>none
 | .tup l=>if Z2 x&&l.all Z2 then some (inV (toV x) (l.map toV))else none
 |_=>none
def inD:D→D→M D:=fun x y G=>match inB x y G with
 |some b=>some (.ok (.bl b),G)
 |none=>none
section
variable{X:Cx}{Z:XC}{c:Wc}{μ:List Addr}{H:Hp}{G:DH}
theorem cL8{d:D}{v:V}(f:Z2 d=true)(r:d9 c μ H d v):v=toV d∧aZ0 v=true:=by
 cases d<;>first
  |exact absurd (show false=true from f) Bool.false_ne_true
  |(unfold d9 at r;subst r;exact⟨rfl,rfl⟩)
theorem bY6:∀ {l:List D} {vs:List V},l.all Z2=true→o9 c μ H l vs→vs=l.map toV∧vs.all aZ0=true
 |[],_,_,r=>by cases r;exact⟨rfl,rfl⟩
 |d::ds,_,f,r=>by
   obtain⟨v,t,rfl,q,rt⟩:=r
   rw[List.all_cons,Bool.and_eq_true]at f
   obtain⟨e1,e2⟩:=cL8 f.1 q
   obtain⟨e3,e4⟩:=bY6 f.2 rt
   refine⟨by rw[List.map_cons,←e1,←e3],?_⟩
   rw[List.all_cons,e2,e4];rfl
theorem cH4{d:D}{k:Key}{v:V}(e:bX0 d=some k)(r:d9 c μ H d v):v=kV k:=by
 cases d<;>first
  |(cases e;unfold d9 at r;exact r)
  |exact J1 e
theorem bF7{k:Key}:∀ {l:List (Key×D)} {kvs:List (Key×V)},aA7 c μ H l kvs→match W9 l k with|some d=>∃v,aU0 kvs k=some v∧d9 c μ H d v|none=>aU0 kvs k=none
 |[],_,r=>by cases r;exact rfl
 |(k',d)::t,_,r=>by
  obtain⟨v,kt,rfl,q,rt⟩:=r
  by_cases e:k'=k
  · have h1:W9 ((k',d)::t) k=some d:=by unfold W9;simp[e]
    rw[h1]
    exact⟨v,bD9 e,q⟩
  · have h1:W9 ((k',d)::t) k=W9 t k:=by unfold W9;simp[e]
    rw[h1]
    have ih:=bF7 (k:=k) rt
    rw[bC7 e]
    exact ih
theorem cT9{k:Key}{l:List (Key×D)}{kvs:List (Key×V)}(r:aA7 c μ H l kvs):(W9 l k).isSome= (aU0 kvs k).isSome:=by
 have q:=bF7 (k:=k) r
 rcases e:W9 l k with _|d
 ·rw[e]at q;rw[q];rfl
 ·rw[e]at q;obtain⟨v,q,_⟩:=q;rw[q];rfl
theorem fB1(hu:X.A.units+64<cLine){pins:PNS}{σ:St}{s:Shared}{x y:V}{v u:Value}{dx dy:D}{b:Bool}{Q:VK}(I:Inv X pins σ H s)(hr:J0 (wc X) μ G H)(rdx:d9 (wc X) μ H dx x)(rdy:d9 (wc X) μ H dy y)(rx:J6 x v)(ry:J6 y u)
 (e:inB dx dy G=some b):
 (Q (.bl b) H→wpAny (model X.prog X.w) X.A (compareOp .In v u) (EP X pins σ Q) X.xe s)∧(Q (.bl (!b)) H→wpAny (model X.prog X.w) X.A (compareOp .NotIn v u) (EP X pins σ Q) X.xe s):=by
 have seq:∀(p:Addr) (l:List D) (vs:List V),y= .ref p→(SqL X.K H p vs∨SqT X.K H p vs)→o9 (wc X) μ H l vs→(if (Z2 dx&&l.all Z2)=true then some (inV (toV dx) (l.map toV))else none)=some b→
  (Q (.bl b) H→wpAny (model X.prog X.w) X.A (compareOp .In v u) (EP X pins σ Q) X.xe s)∧(Q (.bl (!b)) H→wpAny (model X.prog X.w) X.A (compareOp .NotIn v u) (EP X pins σ Q) X.xe s):=by
  intro p l vs hy hq rl e
  split at e
  · rename_i hf
    rw[Bool.and_eq_true]at hf
    cases e
    obtain⟨e1,e2⟩:=cL8 hf.1 rdx
    obtain⟨e3,e4⟩:=bY6 hf.2 rl
    rw[←e1,←e3]
    exact⟨fun q=>dF9 pins s σ H x y v u Q I rx ry ⟨p,vs,hy,hq,e2,e4,q⟩,fun q=>cH6 pins s σ H x y v u Q I rx ry ⟨p,vs,hy,hq,e2,e4,q⟩⟩
  ·exact J1 e
 rcases dy with _|_|_|j|l|i|_|_<;>try (cases e;done)
 ·
   rcases dx with _|_|_|i|_|_|_|_<;>try (cases e;done)
   ·
     cases e
     have e1:=aV6 rdx
     have e2:=aV6 rdy
     exact⟨fun q=>dD0 pins s σ H x y v u Q I rx ry ⟨i,j,e1,e2,q⟩,fun q=>cD8 pins s σ H x y v u Q I rx ry ⟨i,j,e1,e2,q⟩⟩
 ·
   unfold d9 at rdy
   obtain⟨a,vs,hy,q,rl⟩:=rdy
   exact seq a l vs hy (.inr q) rl e
 ·
   unfold d9 at rdy
   obtain⟨a,m,hy⟩:=rdy
   rcases g:G[i]? with _|o
   ·unfold inB at e;simp only[g]at e;exact J1 e
   ·
     have ro:=hr.obj i o a g m
     rcases o with l|l|l|l
     ·
       obtain⟨vs,q,rl⟩:=ro
       unfold inB at e;simp only[g]at e
       exact seq a l vs hy (.inl (SqL.of q)) rl e
     ·
       obtain⟨vs,q,rl⟩:=ro
       unfold inB at e;simp only[g]at e
       exact seq a l vs hy (.inl q.sq) rl e
     ·
       obtain⟨kvs,q,rk⟩:=ro
       unfold inB at e;simp only[g]at e
       rcases hk:bX0 dx with _|k
       ·rw[hk]at e;exact J1 e
       ·
         rw[hk]at e
         cases e
         have ek:=cH4 hk rdx
         have dg:bU9 H a x (aU0 kvs k):=by rw[ek];exact bU9.k q
         subst hy
         cases ry
         dsimp only
         rw[cT9 rk]
         exact⟨fun q=>fN4 (by lia) I dg rx fun s' I'=>⟨.bl _,H,I',rfl,q⟩,fun q=>eA2 (by lia) I dg rx fun s' I'=>⟨.bl _,H,I',rfl,q⟩⟩
     ·unfold inB at e;simp only[g]at e;exact J1 e
theorem fF5(hu:X.A.units+64<cLine):OpD X Z (compareOp .In) inD:=⟨by
 intro pins s σ H x y v u Q I rx ry hE0
 refine hE0.elim fun dx dy μ G rdx rdy hr p=>?_
 unfold inD at p
 rcases e:inB dx dy G with _|b
 ·rw[e]at p;exact p.elim
 ·rw[e]at p;exact(fB1 hu I hr rdx rdy rx ry e).1 (d8.ok p hr _ ofB)⟩
inductive Ty where
 |int|bool|str|tuple|list|dict
 deriving DecidableEq
noncomputable def Ty.name:Ty→String
 | .int=> "int"| .bool=> "bool"| .str=> "str"| .tuple=> "tuple"| .list=> "list"| .dict=> "dict"
noncomputable def Ty.of(n:String):Option Ty:=if n= "int" then some .int else if n= "bool" then some .bool else if n= "str" then some .str else if n= "tuple" then some .tuple else if n= "list" then some .list else if n= "dict" then some .dict else none
theorem Ty.of_name{n:String}{T:Ty}(h:Ty.of n=some T):n=T.name:=by
 unfold Ty.of at h
 split at h
 ·rename_i e;cases h;exact e
 split at h
 ·rename_i e;cases h;exact e
 split at h
 ·rename_i e;cases h;exact e
 split at h
 ·rename_i e;cases h;exact e
 split at h
 ·rename_i e;cases h;exact e
 split at h
 ·rename_i e;cases h;exact e
 ·exact J1 h
inductive Kd where
 |non|bool|int|str|tuple|list|dict
noncomputable def Kd.is:Kd→Ty→Bool
 | .bool,.int=>true
 | .bool,.bool=>true
 | .int,.int=>true
 | .str,.str=>true
 | .tuple,.tuple=>true
 | .list,.list=>true
 | .dict,.dict=>true
 |_,_=>false
def Kd.name:Kd→String
 | .non=> "NoneType"| .bool=> "bool"| .int=> "int"| .str=> "str"| .tuple=> "tuple"| .list=> "list"| .dict=> "dict"
noncomputable def aS9(G:DH):D→Option Kd
 | .non=>some .non
 | .bl _=>some .bool
 | .int _=>some .int
 | .str _=>some .str
 | .tup _=>some .tuple
 | .ref i=>match G[i]? with
   |some (.lst _)=>some .list
   |some (.rol _)=>some .list
   |some (.dct _)=>some .dict
   |some (.rod _)=>some .dict
   |none=>none
 |_=>none
def bX9:List D→Option (List Ty)
 |[]=>some []
 | .ty n::r=>match Ty.of n,bX9 r with
   |some T,some Ts=>some (T::Ts)
   |_,_=>none
 |_=>none
def o5:List D→M D:=fun ds G=>match ds with
 |[d,.ty n]=>match aS9 G d,Ty.of n with
   |some k,some T=>some (.ok (.bl (k.is T)),G)
   |_,_=>none
 |[d,.tup l]=>match aS9 G d,bX9 l with
   |some k,some Ts=>some (.ok (.bl (Ts.any k.is)),G)
   |_,_=>none
 |_=>none
theorem eF4(K:PySem.W.Frag)(k:Kd)(T:Ty):PySem.W.kitOne K (.type k.name) (.type T.name)=some (k.is T):=by
 cases k<;>cases T<;>rfl
theorem dU6{A:Around}{E:VSP}{pins:PNS}{σ:St}{s:Shared}{d:D}{x:V}{v:Value}{k:Kd}(I:Inv X pins σ H s)(hr:J0 (wc X) μ G H)(r:d9 (wc X) μ H d x)(rv:J6 x v)(e:aS9 G d=some k):
 ∃HH:Heap→Prop,PySem.W.KitX X.K v (.type k.name) HH∧HH s.heap∧v≠ .builtin "__main__.__loader__#opaque":=by
 rcases d with _|b|b|b|l|i|_|_<;>try (cases e;done)
 ·cases e;unfold d9 at r;subst r;cases rv;exact⟨_,PySem.W.kitx_none,True.intro,fun z=>nomatch z⟩
 ·cases e;unfold d9 at r;subst r;cases rv;exact⟨_,PySem.W.kitx_bool,True.intro,fun z=>nomatch z⟩
 ·cases e;unfold d9 at r;subst r;obtain⟨t,rfl⟩:=rv;exact⟨_,PySem.W.kitx_int,True.intro,fun z=>nomatch z⟩
 ·cases e;unfold d9 at r;subst r;obtain⟨t,rfl⟩:=rv;exact⟨_,PySem.W.kitx_str,True.intro,fun z=>nomatch z⟩
 ·
   cases e
   unfold d9 at r
   obtain⟨a,vs,rfl,q,_⟩:=r
   cases rv
   obtain⟨its,_,⟨o,h1,h2,_⟩,_⟩:=I.tuple q
   exact⟨_,PySem.W.kitx_tuple,⟨o,h1,h2⟩,fun z=>nomatch z⟩
 ·
   unfold d9 at r
   obtain⟨a,m,rfl⟩:=r
   cases rv
   unfold aS9 at e
   rcases g:G[i]? with _|o
   ·simp only[g]at e;exact J1 e
   ·
     have ro:=hr.obj i o a g m
     simp only[g]at e
     rcases o with l|l|l|l
     ·
       cases e
       obtain⟨vs,q,_⟩:=ro
       obtain⟨its,_,⟨o,n,h1,h2,_⟩,_⟩:=I.list (SqL.of q)
       exact⟨_,PySem.W.kitx_list,⟨o,h1,h2⟩,fun z=>nomatch z⟩
     ·
       cases e
       obtain⟨vs,q,_⟩:=ro
       obtain⟨its,_,⟨o,n,h1,h2,_⟩,_⟩:=I.list q.sq
       exact⟨_,PySem.W.kitx_list,⟨o,h1,h2⟩,fun z=>nomatch z⟩
     ·
       cases e
       obtain⟨kvs,q,_⟩:=ro
       obtain⟨_,_,vs,_,o,es,ep,h1,h2,_⟩:=(show V1 X.prog X.w H s.heap a (.dK kvs)from I.hok a _ q)
       exact⟨_,PySem.W.kitx_dict,⟨o,h1,h2.1⟩,fun z=>nomatch z⟩
     ·
       cases e
       obtain⟨kvs,ob,q,_⟩:=ro
       obtain⟨_,_,_,vs,_,o,es,ep,h1,h2,_⟩:=(show V1 X.prog X.w H s.heap a (.frz ob (.dK kvs))from I.hok a _ q)
       exact⟨_,PySem.W.kitx_dict,⟨o,h1,h2.1⟩,fun z=>nomatch z⟩
theorem cX5:∀ {l:List D} {vs:List V} {us:List Value} {Ts:List Ty},bX9 l=some Ts→o9 c μ H l vs→w6 vs us→us=Ts.map fun T=>.type T.name
 |[],_,_,_,e,r,q=>by cases e;cases r;cases q;rfl
 |d::ds,_,_,Ts,e,r,q=>by
   obtain⟨v,t,rfl,r0,rt⟩:=r
   cases q with
   |cons q0 qt=>
     rcases d with _|_|_|_|_|_|_|n<;>try (cases e;done)
     ·
       replace e:(match Ty.of n,bX9 ds with|some T,some Ts=>some (T::Ts)|_,_=>none)=some Ts:=e
       rcases h1:Ty.of n with _|T
       ·rw[h1]at e;exact J1 e
       ·
         rcases h2:bX9 ds with _|Ts'
         ·rw[h1,h2]at e;exact J1 e
         ·
           rw[h1,h2]at e
           cases e
           unfold d9 at r0
           subst r0
           rw[cX5 h2 rt qt,List.map_cons,show _=Value.type n from q0,Ty.of_name h1]
theorem dB5(K:PySem.W.Frag)(k:Kd):∀Ts:List Ty,PySem.W.kitAny K (.type k.name) (Ts.map fun T=>.type T.name)=some (Ts.any k.is)
 |[]=>rfl
 |T::Ts=>by
   have ih:=dB5 K k Ts
   cases k<;>cases T<;>first
    |rfl
    |exact ih
theorem dH4:aA4 X Z (.builtin "isinstance") o5:=⟨by
 intro pins s σ H xs us Q I r hE0
 obtain⟨ds,μ,G,rl,hr,p⟩:=hE0
 rcases ds with _|⟨d,_|⟨_|_|_|_|l|_|_|n,_|⟨_,_⟩⟩⟩<;>try exact p.elim
 all_goals (delta o5 at p;dsimp only at p)
 · obtain⟨v,t,rfl,r0,v1,t1,rfl,r1,e⟩:=rl
   cases e
   obtain⟨u,u',rfl,ru,ru'⟩:=dN6 r
   unfold d9 at r1
   obtain⟨a,vs,rfl,q,rll⟩:=r1
   cases ru'
   rcases hk:aS9 G d with _|k
   ·rw[hk]at p;exact p.elim
   ·
     rcases hT:bX9 l with _|Ts
     ·rw[hk,hT]at p;exact p.elim
     ·
       rw[hk,hT]at p
       obtain⟨HH,kx,hh,hne⟩:=dU6 (A:=X.A) (E:=X.xe) I hr r0 ru hk
       obtain⟨its,rr,⟨⟨cls,dd,data,sl⟩,h1,h2,n,h3⟩,_⟩:=I.tuple q
       simp only at h2 h3
       subst h2 h3
       exact PySem.W.kia_tup kx I.kIn hh h1 (by rw[cX5 hT rll rr];exact dB5 X.K k Ts) hne fun tk=>⟨.bl _,H,I.tok tk,rfl,d8.ok p hr _ ofB⟩
 · obtain⟨v,t,rfl,r0,v1,t1,rfl,r1,e⟩:=rl
   cases e
   obtain⟨u,u',rfl,ru,ru'⟩:=dN6 r
   unfold d9 at r1
   subst r1
   cases ru'
   rcases hk:aS9 G d with _|k
   ·rw[hk]at p;exact p.elim
   ·
     rcases hT:Ty.of n with _|T
     ·rw[hk,hT]at p;exact p.elim
     ·
       rw[hk,hT]at p
       rw[Ty.of_name hT]
       obtain⟨HH,kx,hh,hne⟩:=dU6 (A:=X.A) (E:=X.xe) I hr r0 ru hk
       exact PySem.W.kia_one kx I.kIn hh (eF4 X.K k T) hne fun tk=>⟨.bl _,H,I.tok tk,rfl,d8.ok p hr _ ofB⟩⟩
end
theorem cY1{c:Wc}{μ:List Addr}{H:Hp}{l:List D}{vs:List V}{i:Int}{d:D}(r:o9 c μ H l vs)(e:atI l i=some d):∃v,atI vs i=some v∧d9 c μ H d v:=by
 unfold atI at e ⊢
 rw[←r.length]
 cases h:ixN l.length i with
 |none=>rw[h]at e;cases e
 |some j=>
   rw[h]at e
   obtain⟨v,h1,h2⟩:=r.get e
   exact⟨v,h1,h2⟩
def ixD:D→D→M D:=fun x y=>match x,y with
 | .tup l,.int i=>aK1 (atI l i)
 | .str z,.int i=>if z.length≤sizeLine then do
    let c ←aK1 (atI z.cps.toList i)
    pure (.str ⟨#[c]⟩)
   else M.stuck
 | .ref r,.int i=>do
   let l ←R4 r >>= listOf
   aK1 (atI l i)
 |_,_=>M.stuck
section
variable{X:Cx}{Z:XC}{a b e:Expr}{fa fb:Fe}{pos:Pos}
def IxD(X:Cx)(Z:XC)(o:D→D→M D):Prop:=IxR X (bH1 (wc X) Z o)
theorem dQ8{o:D→D→M D}(ho:IxD X Z o)(ha:DE X Z a fa)(hb:DE X Z b fb)(hs:bM6 b):DE X Z (.Subscript a b pos) (d7 o fa fb):=DE.of (fF3 ho ha.h hb.h hs) bD7
theorem bT5{c:Wc}{μ:List Addr}{H:Hp}{G:DH}{r:Option D}{K:D→List Addr→DH→Hp→Prop}(h:J0 c μ G H)(p:d8 c Z μ H (aK1 r G) K):∃d,r=some d∧K d μ G H:=by
 cases r with
 |none=>exact p.elim
 |some d=>exact⟨d,rfl,d8.ok p h⟩
theorem fC4:IxD X Z ixD:=IxR.mono (eD8.or (ix_tup.or ix_str)) fun x y H Q hE0=>hE0.elim fun dx dy μ G rx ry hr p=>by
 rcases dx with _|_|_|_|_|_|_|_<;>rcases dy with _|_|_|_|_|_|_|_<;>first
  |exact p.elim
  |skip
 · rename_i z i
   refine .inr (.inr ?_)
   unfold ixD at p
   dsimp only at p
   split at p
   · rename_i hz
     obtain⟨c,ec,p2⟩:=aC0 p
     exact⟨z,i,c,aV6 rx,aK4 ry,hz,ec,d8.ok p2 hr _ ofS⟩
   ·exact p.elim
 · rename_i l i
   refine .inr (.inl ?_)
   unfold d9 at rx
   obtain⟨a,vs,rfl,q,rl⟩:=rx
   obtain⟨d,ed,k⟩:=bT5 hr p
   obtain⟨v,ev,rv⟩:=cY1 rl ed
   exact⟨a,vs,i,v,rfl,aK4 ry,q,ev,k v rv⟩
 · rename_i r i
   refine .inl ?_
   obtain⟨l,a,vs,rfl,rl,p2,hq⟩:=aW7 (d:=.ref r) (f:=fun l=>aK1 (atI l i)) hr rx p
   obtain⟨d,ed,k⟩:=bT5 hr p2
   obtain⟨v,ev,rv⟩:=cY1 rl ed
   rcases hq with⟨z,_⟩|⟨_,_,_,⟨_,q⟩|⟨_,q⟩⟩
   ·cases z
   ·exact⟨a,vs,i,v,rfl,aK4 ry,SqL.of q,ev,k v rv⟩
   ·exact⟨a,vs,i,v,rfl,aK4 ry,q.sq,ev,k v rv⟩
theorem fE8(ha:DE X Z a fa)(hb:DE X Z b fb)(hs:bM6 b):DE X Z (.Subscript a b pos) (d7 ixD fa fb):=dQ8 fC4 ha hb hs
def cutD(xs:List D)(lo hi:Option Int):List D:=(xs.drop (HT.sIx xs.length 0 lo)).take (HT.sIx xs.length xs.length hi-HT.sIx xs.length 0 lo)
abbrev Fo:=DSt→M (Option Int)
def T6:Fo:=fun _=>pure none
def Z5(f:Fe):Fo:=fun σ=>do
 match ←f σ with
 | .int i=>pure (some i)
 |_=>M.stuck
def dC4(c:Wc)(Z:XC)(f:Fo):TO:=fun σ H Q=>∃dσ μ G,N5 c μ H dσ σ∧J0 c μ G H∧d8 c Z μ H (f dσ G) fun o _ _ H'=>Q o H'
theorem dC4.elim{c:Wc}{Z:XC}{P:Prop}{f:Fo}{σ:St}{H:Hp}{Q:Option Int→Hp→Prop}(h:dC4 c Z f σ H Q)(k:∀dσ μ G,N5 c μ H dσ σ→J0 c μ G H→d8 c Z μ H (f dσ G) (fun o _ _ H'=>Q o H')→P):P:=by
 obtain⟨e0,e1,e2,e3,e4,e5⟩:=h
 exact k e0 e1 e2 e3 e4 e5
structure DOp(X:Cx)(Z:XC)(e:Option Expr)(f:Fo):Prop where
 h:PO X e (dC4 (wc X) Z f)
theorem PO.mono{e:Option Expr}{t t':TO}(h:PO X e t)(k:∀ σ H Q,t' σ H Q→t σ H Q):PO X e t':=fun pins s σ H Q I q=>h pins s σ H Q I (k σ H Q q)
theorem DOp.of{e:Option Expr}{f:Fo}{t:TO}(h:PO X e t)(k:∀ σ H Q,dC4 (wc X) Z f σ H Q→t σ H Q):DOp X Z e f:=⟨PO.mono h k⟩
theorem eE0:DOp X Z none T6:=DOp.of eE7 fun σ H Q hE0=>hE0.elim fun dσ μ G s h p=>d8.ok p h
theorem dZ0(h:DE X Z e fa):DOp X Z (some e) (Z5 fa):=DOp.of (eD0 h.h) fun σ H Q hE0=>hE0.elim fun dσ μ G s h p=>⟨dσ,μ,G,s,h,(d8.bind p).mono fun d μ1 G1 H1 x1 h1 p1 v rv=>by
 cases d with
 |int i=>exact⟨i,aK4 rv,d8.ok p1 h1⟩
 |_=>exact p1.elim⟩
def slD:D→Option Int→Option Int→M D:=fun x lo hi=>match x with
 | .tup l=>pure (.tup (cutD l lo hi))
 | .ref r=>do
   let l ←R4 r >>= listOf
   Q5 (.lst (cutD l lo hi))
 |_=>M.stuck
def SlD(X:Cx)(Z:XC)(o:D→Option Int→Option Int→M D):Prop:=
 SlR X fun x lo hi H Q=>∃dx μ G,d9 (wc X) μ H dx x∧J0 (wc X) μ G H∧d8 (wc X) Z μ H (o dx lo hi G) fun d μ' _ H'=>∀v,d9 (wc X) μ' H' d v→Q v H'
theorem SlR.mono{r r':V→Option Int→Option Int→Hp→VK→Prop}(h:SlR X r)(k:∀x lo hi H Q,r' x lo hi H Q→r x lo hi H Q):SlR X r':=fun pins s σ H x v vl vu lo hi sl Q I rx hs pl pu q=>h pins s σ H x v vl vu lo hi sl Q I rx hs pl pu (k x lo hi H Q q)
theorem aX5{prog:Program}{w:World}{A:Around}{E:VSP}{s:Shared}{t sl:Addr}{items:Array Value}{vl vu:Value}{lo hi:Option Int}{Q:VSP}(ht:IsTup s.heap t items)(hs:s.heap.IsSliceOf sl vl vu .none)(pl:IsPart vl lo)(pu:IsPart vu hi)
 (hw:HT.sIx items.size 0 lo=0∧HT.sIx items.size items.size hi=items.size) (h:Q (.ref t) s):wpAny (model prog w) A (getItem (.ref t) (.ref sl)) Q E s:=by
 obtain⟨os,hos,hcs,hds⟩:=id hs
 have hTs:s.TypeIs (.ref sl) "slice":=⟨os,hos,hcs⟩
 unfold getItem
 try with_reducible refine wpAny_holding ?_
 first|refine wpAny_bind (wpAny_pure ?_)|skip
 refine wpAny_bind (wpAny_sequenceKey ht.typeIs (by decide) ?_)
 refine wpAny_bind (wpAny_callSpecial?_slot (name:=Str.ofString "__getitem__") ht.typeIs PyProof.Rows.slot_tuple_getitem
  (wpAny_call_entry PyProof.Rows.slot_tuple_getitem ht.typeIs entry_tuple_getitem ?_ (args_tuple_getitem _ _)))
 show wpAny _ _ (Builtin.Tuple.tupleItemsOf (.ref t) >>= _) _ _ s
 refine wpAny_bind (tupleItemsOf_ ht ?_)
 refine wpAny_bind (wpAny_typeOf hTs ?_)
 rw[if_pos (by decide)]
 refine wpAny_bind (HT.sliceApplied_gen hs pl pu ?_)
 have hyes:(((HT.sIx items.size 0 lo:Nat):Int)==0&&(1:Int)==1&&(HT.sIx items.size items.size hi-HT.sIx items.size 0 lo)==items.size)=true:=by
  rw[hw.1,hw.2];simp
 show wpAny _ _ (if (((HT.sIx items.size 0 lo:Nat):Int)==0&&(1:Int)==1&&(HT.sIx items.size items.size hi-HT.sIx items.size 0 lo)==items.size)=true then _ else _) _ _ s
 rw[if_pos hyes]
 unfold Builtin.Tuple.tupleIsExact
 refine wpAny_bind (wpAny_bind (wpAny_typeOf ht.typeIs (wpAny_pure ?_)))
 rw[if_pos (by decide)]
 exact wpAny_bind (wpAny_rule (wpAny_pure ⟨_,rfl,wpAny_pure h⟩))
def fL9(K:PySem.W.Frag):V→Option Int→Option Int→Hp→VK→Prop:=fun x lo hi H Q=>∃a xs,x= .ref a∧SqT K H a xs∧(HT.sIx xs.length 0 lo=0∧HT.sIx xs.length xs.length hi=xs.length)∧Q (.ref a) H
theorem dY7:SlR X (fL9 X.K):=by
 intro pins s σ H x v vl vu lo hi sl Q I rx hs pl pu h
 obtain⟨a,xs,rfl,hx,hw,q⟩:=h
 cases rx
 obtain⟨its,r,ht,hz⟩:=I.tuple hx
 have hlen:its.toArray.size=xs.length:=by rw[List.size_toArray];exact r.length.symm
 exact⟨"tuple",_,PyProof.Rows.slot_tuple_getitem.lookup,ht.typeIs,aX5 ht hs pl pu (by rw[hlen];exact hw) ⟨.ref a,H,I,rfl,q⟩⟩
theorem cF7{c:Wc}{μ:List Addr}{H:Hp}{l:List D}{vs:List V}(r:o9 c μ H l vs)(lo hi:Option Int):o9 c μ H (cutD l lo hi) (bW7 vs lo hi):=by
 unfold cutD bW7
 rw[r.length]
 exact(r.drop _).take _
theorem fG4:SlD X Z slD:=SlR.mono (sl_tup.or (dY7.or dY2)) fun x lo hi H Q ⟨dx,μ,G,rx,hr,p⟩=>by
 rcases dx with _|_|_|_|l|r|_|_<;>try (exact p.elim;done)
 ·
   unfold d9 at rx
   obtain⟨a,vs,rfl,q,rl⟩:=rx
   by_cases hw:HT.sIx vs.length 0 lo=0∧HT.sIx vs.length vs.length hi=vs.length
   · refine .inr (.inl ⟨a,vs,rfl,q,hw,bH4 hr q ?_ p⟩)
     have e:bW7 vs lo hi=vs:=by unfold bW7;rw[hw.1,hw.2];simp
     have:=cF7 rl lo hi
     rw[e]at this
     exact this
   ·exact .inl ⟨a,vs,rfl,q,hw,fun p' hp=>aV4 hr (cF7 rl lo hi) p p' hp⟩
 ·
   obtain⟨l,a,vs,rfl,rl,p2,hq⟩:=aW7 (d:=.ref r) (f:=fun l=>Q5 (.lst (cutD l lo hi))) hr rx p
   have hs:SqL (wc X).K H a vs:=by
    rcases hq with⟨z,_⟩|⟨_,_,_,⟨_,q⟩|⟨_,q⟩⟩
    ·cases z
    ·exact SqL.of q
    ·exact q.sq
   exact .inr (.inr ⟨a,vs,rfl,hs,fun p' hp=>aE9 hr (cF7 rl lo hi) p2 p' hp⟩)
variable{lo hi:Option Expr}{fl fh:Fo}{p2:Pos}
theorem bH8{prog:Program}{w:World}{A:Around}{E:VSP}{s:Shared}{sl:Addr}{t:Tok}{n:Nat}{Q:Int×Int×Nat→Shared→Prop}(hs:s.heap.IsSliceOf sl .none .none (.int (-1) t))
 (h:Q ((n:Int)-1, -1,n) s):wpAny (model prog w) A (Builtin.Slice.sliceApplied (.ref sl) (pure (n:Int))) Q E s:=by
 obtain⟨os,hos,hcs,hds⟩:=id hs
 unfold Builtin.Slice.sliceApplied Builtin.Slice.sliceFields
 refine wpAny_bind (wpAny_bind (wpAny_field hos hds (x:=.none) rfl (wpAny_bind (wpAny_field hos hds (x:=.none) rfl (wpAny_bind (wpAny_field hos hds (x:=.int (-1) t) rfl (wpAny_pure ?_)))))))
 refine wpAny_bind (slicePart_int ?_)
 show wpAny _ _ (if ((-1:Int)==0)=true then _ else _) _ _ s
 rw[if_neg (by decide)]
 refine wpAny_bind (slicePart_none (wpAny_bind (slicePart_none (wpAny_bind (wpAny_pure ?_)))))
 have e1:Builtin.Slice.sliceAdjust none none (-1) (n:Int)= ((n:Int)-1, -1):=by simp[Builtin.Slice.sliceAdjust]
 have e2:Builtin.Slice.slicePlaces ((n:Int)-1) (-1) (-1)=n:=by
  unfold Builtin.Slice.slicePlaces
  rw[if_neg (by decide)]
  by_cases h0:n=0
  ·subst h0;rfl
  · rw[if_pos (by lia)]
    have e:((n:Int)-1 - -1-1) / (- -1)+1=n:=by
     rw[show (- -1:Int)=1 by decide,Int.ediv_one];lia
    rw[e];simp
 show wpAny _ _ (match Builtin.Slice.sliceAdjust none none (-1) (n:Int) with|(lo,hi)=>pure (lo,(-1:Int),Builtin.Slice.slicePlaces lo hi (-1))) _ _ s
 rw[e1]
 show wpAny _ _ (pure ((n:Int)-1,(-1:Int),Builtin.Slice.slicePlaces ((n:Int)-1) (-1) (-1))) _ _ s
 rw[e2]
 exact wpAny_pure h
theorem dX0(l:List Value):((List.range l.length).filterMap fun(k:Nat)=>l.toArray[(((l.length:Nat):Int)-1+(k:Int)*(-1)).toNat]?)=l.reverse:=by
 have gen:∀n,n≤l.length→((List.range n).filterMap fun(k:Nat)=>l.toArray[(((l.length:Nat):Int)-1+(k:Int)*(-1)).toNat]?)=l.reverse.take n:=by
  intro n
  induction n with
  |zero=>intro _;simp
  |succ n ih=>
    intro hn
    rw[List.range_succ,List.filterMap_append,ih (by lia)]
    have hlt:n<l.reverse.length:=by simp;lia
    rw[List.take_succ_eq_append_getElem hlt]
    congr 1
    have e1:(((l.length:Nat):Int)-1+(n:Int)*(-1)).toNat=l.length-1-n:=by lia
    have hlt2:l.length-1-n<l.length:=by omega
    show List.filterMap _ [n]=_
    rw[List.filterMap_cons,e1]
    have e2:l.toArray[l.length-1-n]? =some l[l.length-1-n]:=by simp[hlt2]
    rw[e2]
    simp
 have:=gen l.length (Nat.le_refl _)
 rw[this]
 rw[List.take_of_length_le (by simp)]
theorem bB9{prog:Program}{w:World}{A:Around}{E:VSP}{s:Shared}{t sl:Addr}{tk:Tok}{its:List Value}{Q:VSP}(ht:IsTup s.heap t its.toArray)(hs:s.heap.IsSliceOf sl .none .none (.int (-1) tk))
 (h:Q (.ref s.heap.objs.size) {s with heap:=s.heap.push {cls:=.type "tuple",data:=.seq its.reverse.toArray}}) (hsz:its.length≤sizeLine):wpAny (model prog w) A (getItem (.ref t) (.ref sl)) Q E s:=by
 have htake:sizeOk (.seq its.reverse.toArray):=by
  show its.reverse.toArray.size≤sizeLine
  rw[List.size_toArray,List.length_reverse];exact hsz
 obtain⟨os,hos,hcs,hds⟩:=id hs
 have hTs:s.TypeIs (.ref sl) "slice":=⟨os,hos,hcs⟩
 unfold getItem
 try with_reducible refine wpAny_holding ?_
 first|refine wpAny_bind (wpAny_pure ?_)|skip
 refine wpAny_bind (wpAny_sequenceKey ht.typeIs (by decide) ?_)
 refine wpAny_bind (wpAny_callSpecial?_slot (name:=Str.ofString "__getitem__") ht.typeIs PyProof.Rows.slot_tuple_getitem
  (wpAny_call_entry PyProof.Rows.slot_tuple_getitem ht.typeIs entry_tuple_getitem ?_ (args_tuple_getitem _ _)))
 show wpAny _ _ (Builtin.Tuple.tupleItemsOf (.ref t) >>= _) _ _ s
 refine wpAny_bind (tupleItemsOf_ ht ?_)
 refine wpAny_bind (wpAny_typeOf hTs ?_)
 rw[if_pos (by decide)]
 refine wpAny_bind (bH8 hs ?_)
 show wpAny _ _ (if ((((its.toArray.size:Nat):Int)-1)==0&&(-1:Int)==1&&its.toArray.size==its.toArray.size)=true then _ else _) _ _ s
 rw[if_neg (by simp)]
 have e:=dX0 its
 have e2:((List.range its.toArray.size).filterMap fun(k:Nat)=>its.toArray[(((its.toArray.size:Nat):Int)-1+(k:Int)*(-1)).toNat]?)=its.reverse:=by
  rw[List.size_toArray];exact e
 rw[e2]
 first
  |exact wpAny_bind (m:=Builtin.Tuple.tupleExact _) (wpAny_newObj_type (wpAny_pure ⟨_,rfl,wpAny_pure h⟩) htake)
  |exact wpAny_bind (m:=Builtin.Tuple.tupleExact _) (wpAny_newObj_type (wpAny_bind (wpAny_pure (wpAny_pure ⟨_,rfl,wpAny_pure h⟩))) htake)
  |exact wpAny_bind (wpAny_bind (m:=Builtin.Tuple.tupleExact _) (wpAny_newObj_type (wpAny_pure (wpAny_pure ⟨_,rfl,wpAny_pure h⟩)) htake))
  |exact wpAny_bind (wpAny_bind (m:=Builtin.Tuple.tupleExact _) (wpAny_newObj_type (wpAny_pure ⟨_,rfl,wpAny_pure h⟩) htake))
def fD7:D→M D:=fun x=>match x with
 | .tup l=>pure (.tup l.reverse)
 | .ref r=>do
   let l ←R4 r >>= listOf
   Q5 (.lst l.reverse)
 |_=>M.stuck
end
noncomputable def bL4(r:Nat)(o:DO):M Unit:=fun G=>some (.ok (),G.set r o)
noncomputable def aR9(l:List (Key×D))(k:Key)(d:D):List (Key×D):=if l.any (fun kv=>decide (kv.1=k))then l.map (fun kv=>if kv.1=k then (kv.1,d)else kv)else l++[(k,d)]
def cV2:D→D→D→M Unit:=fun o i d=>match o with
 | .ref r=>do
   match ←R4 r with
   | .lst l=>match i with
     | .int k=>match ixN l.length k with
       |some j=>bL4 r (.lst (l.set j d))
       |none=>M.stuck
     |_=>M.stuck
   | .dct l=>match bX0 i with
     |some k=>if l.length<sizeLine then bL4 r (.dct (aR9 l k d))else M.stuck
     |none=>M.stuck
   | .rol _=>M.stuck
   | .rod _=>M.stuck
 |_=>M.stuck
def bO7(fo fi:Fe):Fg:=fun d σ=>do
 let o ←fo σ
 let i ←fi σ
 let _ ←cV2 o i d
 pure σ
section
variable{X:Cx}{Z:XC}{c:Wc}{μ:List Addr}{H:Hp}{G:DH}
theorem cL9{k:Key}{d:D}{v:V}(rv:d9 c μ H d v):∀ {l:List (Key×D)} {kvs:List (Key×V)},aA7 c μ H l kvs→aA7 c μ H (aR9 l k d) (aN3 kvs k v):=by
 have any_eq:∀ {l:List (Key×D)} {kvs:List (Key×V)},aA7 c μ H l kvs→(l.any fun kv=>decide (kv.1=k))= (kvs.any fun kv=>decide (kv.1=k)):=by
  intro l
  induction l with
  |nil=>intro kvs r;cases r;rfl
  |cons p t ih=>
    intro kvs r
    obtain⟨v',kt,rfl,_,rt⟩:=r
    rw[List.any_cons,List.any_cons,ih rt]
 have map_eq:∀ {l:List (Key×D)} {kvs:List (Key×V)},aA7 c μ H l kvs→aA7 c μ H (l.map fun kv=>if kv.1=k then (kv.1,d)else kv) (kvs.map fun kv=>if kv.1=k then (kv.1,v)else kv):=by
  intro l
  induction l with
  |nil=>intro kvs r;cases r;rfl
  |cons p t ih=>
    intro kvs r
    obtain⟨k',d'⟩:=p
    obtain⟨v',kt,rfl,q,rt⟩:=r
    rw[List.map_cons,List.map_cons]
    by_cases e:k'=k
    · simp only[e,if_true]
      exact⟨v,_,rfl,rv,ih rt⟩
    · simp only[e,if_false]
      exact⟨v',_,rfl,q,ih rt⟩
 have app_eq:∀ {l:List (Key×D)} {kvs:List (Key×V)},aA7 c μ H l kvs→aA7 c μ H (l++[(k,d)]) (kvs++[(k,v)]):=by
  intro l
  induction l with
  |nil=>intro kvs r;cases r;exact⟨v, [],rfl,rv,rfl⟩
  |cons p t ih=>
    intro kvs r
    obtain⟨v',kt,rfl,q,rt⟩:=r
    exact⟨v',_,rfl,q,ih rt⟩
 intro l kvs r
 unfold aR9 aN3
 rw[any_eq r]
 split
 ·exact map_eq r
 ·exact app_eq r
theorem aA7.length:∀ {l:List (Key×D)} {kvs:List (Key×V)},aA7 c μ H l kvs→l.length=kvs.length
 |[],_,r=>by cases r;rfl
 |_::_,_,r=>by obtain⟨_,_,rfl,_,t⟩:=r;simp[aA7.length t]
theorem cM2{r:Nat}{a:Addr}{o o':DO}{u:HO}{Q:List Addr→DH→Hp→Prop}(h:J0 c μ G H)(g:G[r]? =some o)(n:¬aM9 (some o))(m:μ[r]? =some a)(n':¬aM9 (some o'))(ho:∀x:Ext μ H μ (upd H a u),aK7 c μ (upd H a u) a o')
 (p:d8 c Z μ H (bL4 r o' G) fun _ μ' G' H'=>Q μ' G' H'):Q μ (G.set r o') (upd H a u):=by
 obtain⟨u',e,n1,n2⟩:=(h.obj r o a g m).some_of n
 have x:Ext μ H μ (upd H a u):=Ext.mut (List.mem_of_getElem? m) e n1 n2 u
 exact p μ _ x (h.set g n m x n' (ho x))
def cF1(c:Wc)(Z:XC)(f:D→D→D→M Unit):eI7:=fun o i v H Q=>∃d1 d2 d3 μ G,d9 c μ H d1 o∧d9 c μ H d2 i∧d9 c μ H d3 v∧J0 c μ G H∧d8 c Z μ H (f d1 d2 d3 G) fun _ _ _ H'=>Q H'
theorem cF1.elim{c:Wc}{Z:XC}{P:Prop}{f:D→D→D→M Unit}{o:V}{i:V}{v:V}{H:Hp}{Q:Hp→Prop}(h:cF1 c Z f o i v H Q)(k:∀d1 d2 d3 μ G,d9 c μ H d1 o→d9 c μ H d2 i→d9 c μ H d3 v→J0 c μ G H→d8 c Z μ H (f d1 d2 d3 G) (fun _ _ _ H'=>Q H')→P):P:=by
 obtain⟨e0,e1,e2,e3,e4,e5,e6,e7,e8,e9⟩:=h
 exact k e0 e1 e2 e3 e4 e5 e6 e7 e8 e9
theorem eP0(hu:X.A.units+64<cLine):eQ2 X (cF1 (wc X) Z cV2):=by
 intro pins s σ H o i v ov iv u Q I ro ri rv hE0
 obtain⟨d1,d2,d3,μ,G,r1,r2,r3,hr,p⟩:=hE0
 rcases d1 with _|_|_|_|_|r|_|_<;>try (exact p.elim;done)
 ·
   unfold d9 at r1
   obtain⟨a,m,rfl⟩:=r1
   obtain⟨ob,g,p1⟩:=Q7 p
   have rob:=hr.obj r ob a g m
   rcases ob with l|l|l|l
   ·
     obtain⟨vs,ea,rl⟩:=rob
     rcases d2 with _|_|k|_|_|_|_|_<;>try (exact p1.elim;done)
     ·
       dsimp only at p1
       rcases hk:ixN l.length k with _|j
       ·simp only[hk]at p1;exact p1.elim
       ·
         simp only[hk]at p1
         exact dN0 pins s σ H (.ref a) i v ov iv u Q I ro ri rv ⟨a,vs,k,j,rfl,aK4 r2,ea,by rw[←rl.length];exact hk,cM2 (o':=.lst (l.set j d3)) (Q:=fun _ _ H'=>Q H') hr g (fun z=>z) m (fun z=>z) (fun x=>⟨_,R3,(rl.mono x).set (r3.mono x) j⟩) p1⟩
   ·exact p1.elim
   ·
     obtain⟨kvs,ea,rk⟩:=rob
     dsimp only at p1
     rcases hk:bX0 d2 with _|k
     ·simp only[hk]at p1;exact p1.elim
     ·
       simp only[hk]at p1
       split at p1
       · rename_i hz
         have ei:=cH4 hk r2
         subst ei
         cases ro
         refine dG8 (by lia) I (dH1.k ea (by rw[←rk.length];exact hz)) ri rv fun s' I'=>⟨_,I',?_⟩
         exact cM2 (o':=.dct (aR9 l k d3)) (Q:=fun _ _ H'=>Q H') hr g (fun z=>z) m (fun z=>z) (fun x=>⟨_,R3,cL9 (r3.mono x) (rk.mono x)⟩) p1
       ·exact p1.elim
   ·exact p1.elim
variable{a b e o i:Expr}{fa fb fo fi:Fe}{pos:Pos}
theorem eZ5(hu:X.A.units+64<cLine)(ho:DE X Z o fo)(hi:DE X Z i fi)
 (ha:∀v,assign (.Subscript o i pos) X.env v= (do
   let ov ←holding [v] (eval o X.env)
   let iv ←holding [v,ov] (eval i X.env)
   standAt pos
   holding [v,ov,iv] (setItem ov iv v)
   release [v,ov,iv] [])):DG X Z (.Subscript o i pos) (bO7 fo fi):=
 DG.of (eT0 ho.h hi.h (eP0 hu) ha) fun v σ H Q hE0=>hE0.elim fun d dσ μ G r s h p=>⟨dσ,μ,G,s,h,(d8.bind p).mono fun d1 μ1 G1 H1 x1 h1 p1 v1 r1=>
  ⟨dσ,μ1,G1,s.mono x1,h1,(d8.bind p1).mono fun d2 μ2 G2 H2 x2 h2 p2 v2 r2=>⟨d1,d2,d,μ2,G2,r1.mono x2,r2,r.mono (x1.trans x2),h2,(d8.bind p2).mono fun _ μ3 G3 H3 x3 h3 p3=>d8.ok p3 h3 σ (s.mono (x1.trans (x2.trans x3)))⟩⟩⟩
def bP7:Fe:=fun _=>Q5 (.dct [])
theorem dK0:DE X Z (.Dict [] [] pos) bP7:=DE.of dP5 fun σ H Q hE0=>hE0.elim fun dσ μ G s h p q hq=>by
 have k:Ext μ H (μ++[q]) (upd H q (.dK [])):=Ext.add hq _
 refine p (μ++[q]) _ k (h.new hq ⟨[],R3,rfl⟩) _ ?_
 unfold d9
 exact⟨q,by rw[←h.len];simp,rfl⟩
def aF2:D→M Unit:=fun x=>match x with
 | .ref r=>do
   match ←R4 r with
   | .lst _=>pure ()
   |_=>M.stuck
 |_=>M.stuck
noncomputable def mtE(t:D→M Unit)(m:D→List D→M D)(fo:Fe)(fs:DSt→M (List D)):Fe:=fun σ=>do
 let x ←fo σ
 let _ ←t x
 let xs ←fs σ
 m x xs
def lstM(r:Nat):M (List D):=do
 match ←R4 r with
 | .lst l=>pure l
 |_=>M.stuck
def bN2:D→List D→M D:=fun x xs=>match x,xs with
 | .ref r, [y]=>do
   let l ←lstM r
   if l.length<sizeLine then do
    let _ ←bL4 r (.lst (l++[y]))
    pure .non
   else M.stuck
 |_,_=>M.stuck
def aO6:D→List D→M D:=fun x xs=>match x,xs with
 | .ref r, [.ref q]=>do
   let l ←lstM r
   let k ←lstM q
   if l.length+k.length≤sizeLine then do
    let _ ←bL4 r (.lst (l++k))
    pure .non
   else M.stuck
 |_,_=>M.stuck
def eD9:D→List D→M D:=fun x xs=>match x,xs with
 | .ref r, []=>do
   let l ←lstM r
   match l.getLast? with
   |some y=>do
     let _ ←bL4 r (.lst l.dropLast)
     pure y
   |none=>M.stuck
 |_,_=>M.stuck
theorem aX0{α:Type}{r:Nat}{a:Addr}{f:List D→M α}{K:α→List Addr→DH→Hp→Prop}(h:J0 c μ G H)(m:μ[r]? =some a)(p:d8 c Z μ H ((lstM r >>= f) G) K):
 ∃l vs,G[r]? =some (.lst l)∧H a=some (.lst vs)∧o9 c μ H l vs∧d8 c Z μ H (f l G) K:=by
 have p':d8 c Z μ H ((R4 r >>= fun o=>(match o with| .lst l=>pure l|_=>M.stuck:M (List D)) >>= f) G) K:=by rw[←M.bind_assoc];exact p
 obtain⟨o,g,p2⟩:=Q7 p'
 have ro:=h.obj r o a g m
 rcases o with l|_|_|_<;>try (exact p2.elim;done)
 ·obtain⟨vs,e,rl⟩:=ro;exact⟨l,vs,g,e,rl,p2⟩
def MtD(X:Cx)(Z:XC)(id:String)(m:D→List D→M D):Prop:=
 MtR X id fun x xs H Q=>∃d ds μ G,d9 (wc X) μ H d x∧o9 (wc X) μ H ds xs∧J0 (wc X) μ G H∧d8 (wc X) Z μ H (m d ds G) fun d μ' _ H'=>∀v,d9 (wc X) μ' H' d v→Q v H'
theorem bQ5{α:Type}{r:Nat}{a:Addr}{l l':List D}{vs':List V}{f:M α}{K:α→List Addr→DH→Hp→Prop}(h:J0 c μ G H)(g:G[r]? =some (.lst l))(m:μ[r]? =some a)(rl:∀x:Ext μ H μ (upd H a (.lst vs')),o9 c μ (upd H a (.lst vs')) l' vs')
 (p:d8 c Z μ H ((bL4 r (.lst l') >>= fun _=>f) G) K):Ext μ H μ (upd H a (.lst vs'))∧J0 c μ (G.set r (.lst l')) (upd H a (.lst vs'))∧d8 c Z μ (upd H a (.lst vs')) (f (G.set r (.lst l'))) K:=by
 obtain⟨u',e,n1,n2⟩:=(h.obj r _ a g m).some_of (fun z=>z)
 have x:Ext μ H μ (upd H a (.lst vs')):=Ext.mut (List.mem_of_getElem? m) e n1 n2 _
 have h':J0 c μ (G.set r (.lst l')) (upd H a (.lst vs')):=h.set g (fun z=>z) m x (fun z=>z) ⟨vs',R3,rl x⟩
 exact⟨x,h',d8.from p x⟩
theorem dF0:MtD X Z "list.append" bN2:=by
 intro pins s σ H x xs v us Q I rx rs hE0
 obtain⟨d,ds,μ,G,rd,rds,hr,p⟩:=hE0
 rcases d with _|_|_|_|_|r|_|_<;>try (exact p.elim;done)
 ·
   unfold d9 at rd
   obtain⟨a,m,rfl⟩:=rd
   rcases ds with _|⟨y,t⟩
   ·exact p.elim
   ·
     rcases t with _|⟨_,_⟩
     ·
       obtain⟨yv,tv,rfl,ry,e⟩:=rds
       cases e
       obtain⟨l,vs,g,ea,rl,p1⟩:=aX0 hr m p
       split at p1
       · rename_i hz
         obtain⟨x1,h1,p2⟩:=bQ5 (l':=l++[y]) (vs':=vs++[yv]) hr g m (fun x=>(rl.mono x).append (o9.cons (ry.mono x) o9.nil)) p1
         exact cA2 pins s σ H (.ref a) [yv] v us Q I rx rs ⟨a,vs,yv,rfl,rfl,ea,by rw[←rl.length];exact hz,d8.ok p2 h1 _ ofN⟩
       ·exact p1.elim
     ·exact p.elim
theorem dD3:MtD X Z "list.extend" aO6:=by
 intro pins s σ H x xs v us Q I rx rs hE0
 obtain⟨d,ds,μ,G,rd,rds,hr,p⟩:=hE0
 rcases d with _|_|_|_|_|r|_|_<;>try (exact p.elim;done)
 ·
   unfold d9 at rd
   obtain⟨a,m,rfl⟩:=rd
   rcases ds with _|⟨y,t⟩
   ·exact p.elim
   ·
     rcases t with _|⟨_,_⟩
     ·
       obtain⟨yv,tv,rfl,ry,e⟩:=rds
       cases e
       rcases y with _|_|_|_|_|q|_|_<;>try (exact p.elim;done)
       ·
         unfold d9 at ry
         obtain⟨b,m2,rfl⟩:=ry
         obtain⟨l,vs,g,ea,rl,p1⟩:=aX0 hr m p
         obtain⟨k,ws,g2,eb,rk,p2⟩:=aX0 hr m2 p1
         split at p2
         · rename_i hz
           obtain⟨x1,h1,p3⟩:=bQ5 (vs':=vs++ws) hr g m (fun x=>(rl.mono x).append (rk.mono x)) p2
           exact dJ2 pins s σ H (.ref a) [.ref b] v us Q I rx rs ⟨a,b,vs,ws,rfl,rfl,ea,eb,by rw[←rl.length,←rk.length];exact hz,d8.ok p3 h1 _ ofN⟩
         ·exact p2.elim
     ·cases y<;>exact p.elim
theorem eL6:MtD X Z "list.pop" eD9:=by
 intro pins s σ H x xs v us Q I rx rs hE0
 obtain⟨d,ds,μ,G,rd,rds,hr,p⟩:=hE0
 rcases d with _|_|_|_|_|r|_|_<;>try (exact p.elim;done)
 ·
   unfold d9 at rd
   obtain⟨a,m,rfl⟩:=rd
   rcases ds with _|⟨_,_⟩
   ·
     cases rds
     obtain⟨l,vs,g,ea,rl,p1⟩:=aX0 hr m p
     rcases hy:l.getLast? with _|y
     ·simp only[hy]at p1;exact p1.elim
     ·
       simp only[hy]at p1
       obtain⟨x1,h1,p2⟩:=bQ5 (vs':=vs.dropLast) hr g m (fun x=>(rl.mono x).dropLast) p1
       rw[List.getLast?_eq_getElem?]at hy
       obtain⟨yv,e1,ry⟩:=rl.get hy
       rw[rl.length]at e1
       exact eZ6 pins s σ H (.ref a) [] v us Q I rx rs ⟨a,vs,yv,rfl,rfl,ea,e1,d8.ok p2 h1 _ (ry.mono x1)⟩
   ·exact p.elim
variable{es:List Expr}{fs:DSt→M (List D)}{name:Str}{apos cpos:Pos}{id:String}{mm:D→List D→M D}
theorem bI4{α:Type}{d:D}{v:V}{f:Unit→M α}{K:α→List Addr→DH→Hp→Prop}(h:J0 c μ G H)(r:d9 c μ H d v)(p:d8 c Z μ H ((aF2 d >>= f) G) K):tyV c.K "list" v H∧d8 c Z μ H (f () G) K:=by
 rcases d with _|_|_|_|_|i|_|_<;>try (exact p.elim;done)
 ·
   unfold d9 at r
   obtain⟨a,m,rfl⟩:=r
   have p':d8 c Z μ H ((R4 i >>= fun o=>(match o with| .lst _=>pure ()|_=>M.stuck:M Unit) >>= f) G) K:=by rw[←M.bind_assoc];exact p
   obtain⟨o,g,p2⟩:=Q7 p'
   have ro:=h.obj i o a g m
   rcases o with l|_|_|_<;>try (exact p2.elim;done)
   ·obtain⟨vs,e,rl⟩:=ro;exact⟨.inl ⟨rfl,vs,SqL.of e⟩,p2⟩
theorem eK9(slot:Slot "list" name id)(hty:typeOf (.builtin id)=pure (.type "method_descriptor"))(hm:MtD X Z id mm)(ho:DE X Z o fo)(ha:DA X Z (e::es) fs)
 (hbase:attributeBase o name X.env (eval o X.env)=eval o X.env)
 (hfew:((backTo cpos (starEach (e::es) X.env)).all (fun x=> !x.1)&&(backToKw cpos (keywordEach [] X.env)).all (fun x=>x.1.isSome)
   && decide ((e::es).length+([]:List Keyword).length+(if ([]:List Keyword).isEmpty then 0 else 1)<30))=true)
 (hline:(apos.endLine==cpos.line)=true) (hs:starEach (e::es) X.env= (false,eval e X.env)::starEach es X.env) (hplain:(backTo cpos (starEach es X.env)).any (·.1)=false):
 DE X Z (.Call (.Attribute o name apos) (e::es) [] cpos) (mtE aF2 mm fo fs):=
 DE.of (eJ2 PySem.F.plainAttrs_list slot hty hm ho.h ha.h hbase hfew hline hs hplain) fun σ H Q hE0=>hE0.elim fun dσ μ G s h p=>⟨dσ,μ,G,s,h,(d8.bind p).mono fun d μ1 G1 H1 x1 h1 p1 v rv=>by
  obtain⟨ty,p2⟩:=bI4 h1 rv p1
  exact⟨ty,dσ,μ1,G1,s.mono x1,h1,(d8.bind p2).mono fun ds μ2 G2 H2 x2 h2 p3 vs rvs=>⟨d,ds,μ2,G2,rv.mono x2,rvs,h2,p3⟩⟩⟩
theorem eU5(slot:Slot "list" name id)(hty:typeOf (.builtin id)=pure (.type "method_descriptor"))(hm:MtD X Z id mm)(ho:DE X Z o fo)
 (hbase:attributeBase o name X.env (eval o X.env)=eval o X.env) (hline:(apos.endLine==cpos.line)=true):DE X Z (.Call (.Attribute o name apos) [] [] cpos) (mtE aF2 mm fo q11):=
 DE.of (eN8 PySem.F.plainAttrs_list slot hty hm ho.h hbase hline) fun σ H Q hE0=>hE0.elim fun dσ μ G s h p=>⟨dσ,μ,G,s,h,(d8.bind p).mono fun d μ1 G1 H1 x1 h1 p1 v rv=>by
  obtain⟨ty,p2⟩:=bI4 h1 rv p1
  exact⟨ty,d, [],μ1,G1,rv,rfl,h1,p2⟩⟩
end
noncomputable def SI(k:Bool)(h:Heap)(it a:Addr)(i:Nat):Prop:=if k then h.IsTupleIter it a i else h.IsListIter it a i
noncomputable def SC(k:Bool)(h:Heap)(a:Addr)(items:Array Value):Prop:=if k then h.IsTuple a items else h.IsList a items
section
variable{prog:Program}{w:World}{A:Around}{E:VSP}{s:Shared}{k:Bool}
theorem SI.keep{h h':Heap}{it a:Addr}{i:Nat}(x:SI k h it a i)(q:∀o,h.get? it=some o→h'.get? it=some o):SI k h' it a i:=by
 rcases k with _|_
 ·exact Heap.IsListIter.at (show h.IsListIter it a i from x) q
 ·exact Heap.IsTupleIter.at (show h.IsTupleIter it a i from x) q
theorem SC.keep{h h':Heap}{a:Addr}{its:Array Value}(x:SC k h a its)(q:∀o,h.get? a=some o→h'.get? a=some o):SC k h' a its:=by
 rcases k with _|_
 ·obtain⟨o,e,r⟩:=(show h.IsList a its from x);exact⟨o,q o e,r⟩
 ·obtain⟨o,e,r⟩:=(show h.IsTuple a its from x);exact⟨o,q o e,r⟩
theorem SI.there{h:Heap}{it a:Addr}{i:Nat}(x:SI k h it a i):∃o,h.get? it=some o∧∀v,o.data≠ .cell v:=by
 rcases k with _|_
 ·obtain⟨o,e,c,d⟩:=(show h.IsListIter it a i from x);exact⟨o,e,fun v z=>by rw[d]at z;cases z⟩
 ·obtain⟨o,e,c,d⟩:=(show h.IsTupleIter it a i from x);exact⟨o,e,fun v z=>by rw[d]at z;cases z⟩
theorem bD6{it t:Addr}{i:Nat}{items:Array Value}{x:Value}{Q:VSP}(hit:s.heap.IsTupleIter it t i)(ht:s.heap.IsTuple t items)(hx:items[i]? =some x)
 (hQ:∀h',h'.IsTupleIter it t (i+1)→Heap.SameBut it s.heap h'→Q x {s with heap:=h'}):wpAny (model prog w) A (Builtin.SmallTypes.nextOf (.ref it)) Q E s:=by
 obtain⟨ob,hob,hcls,hdat⟩:=id hit
 obtain⟨ot,hot,_,nt,hdt⟩:=ht
 unfold Builtin.SmallTypes.nextOf
 refine wpAny_bind (wpAny_callSpecial?_slot (name:=Str.ofString "__next__") hit.typeIs F.slot_tuple_iterator_next (wpAny_call_entry F.slot_tuple_iterator_next hit.typeIs F.entry_tuple_iterator_next ?_ (F.args_tuple_iterator_next_1 _)))
 show wpAny _ _ (field (.ref it) 0 >>= _) _ _ s
 refine wpAny_bind (wpAny_field hob hdat (x:=.ref t) rfl ?_)
 show wpAny _ _ (if (Value.ref t==Value.none)=true then _ else _) _ _ s
 rw[if_neg (show ¬((Value.ref t==Value.none)=true)from Bool.false_ne_true)]
 show wpAny _ _ (field (.ref it) 1 >>= _) _ _ s
 refine wpAny_bind (wpAny_field hob hdat (x:=.int i 0) rfl ?_)
 show wpAny _ _ (seqItems? (.ref t) >>= _) _ _ s
 refine wpAny_bind (wpAny_seqItems hot hdt ?_)
 simp only[Int.toNat_natCast,hx]
 refine wpAny_bind (wpAny_setField hob hdat (by simp) (wpAny_pure ⟨x,rfl,wpAny_pure (hQ _ ?_ (Heap.SameBut.update ..))⟩))
 exact⟨_,Heap.get?_update_self _ hob (Obj.isFreed_of_fields (Obj.data_mapFields hdat _)),(Obj.cls_mapFields ..).trans hcls,by rw[Obj.data_mapFields hdat];simp[rawInt]⟩
theorem bG6{it t:Addr}{i:Nat}{items:Array Value}{Q:VSP}(hh:A.handled=none)(hit:s.heap.IsTupleIter it t i)(ht:s.heap.IsTuple t items)(hx:items[i]? =none)
 (hE:∀h' e,Heap.ExtBut it s.heap h'→(∃o,h'.get? e=some o∧o.cls= .type "StopIteration")→E (.ref e) {s with heap:=h'}):wpAny (model prog w) A (Builtin.SmallTypes.nextOf (.ref it)) Q E s:=by
 obtain⟨ob,hob,hcls,hdat⟩:=id hit
 obtain⟨ot,hot,_,nt,hdt⟩:=ht
 unfold Builtin.SmallTypes.nextOf
 refine wpAny_bind (wpAny_callSpecial?_slot (name:=Str.ofString "__next__") hit.typeIs F.slot_tuple_iterator_next (wpAny_call_entry F.slot_tuple_iterator_next hit.typeIs F.entry_tuple_iterator_next ?_ (F.args_tuple_iterator_next_1 _)))
 show wpAny _ _ (field (.ref it) 0 >>= _) _ _ s
 refine wpAny_bind (wpAny_field hob hdat (x:=.ref t) rfl ?_)
 show wpAny _ _ (if (Value.ref t==Value.none)=true then _ else _) _ _ s
 rw[if_neg (show ¬((Value.ref t==Value.none)=true)from Bool.false_ne_true)]
 show wpAny _ _ (field (.ref it) 1 >>= _) _ _ s
 refine wpAny_bind (wpAny_field hob hdat (x:=.int i 0) rfl ?_)
 show wpAny _ _ (seqItems? (.ref t) >>= _) _ _ s
 refine wpAny_bind (wpAny_seqItems hot hdt ?_)
 simp only[Int.toNat_natCast,hx]
 refine wpAny_bind (wpAny_rule (wpAny_bind (wpAny_setField hob hdat (by simp) ?_)))
 show wpAny _ _ (newExc (.type "StopIteration") [] >>= _) _ _ _
 refine wpAny_bind ?_
 simp only[newExc,newTuple]
 refine wpAny_bind (wpAny_newObj_type ?_ (by size_fits))
 refine wpAny_bind (m:=firstArgMember _ _) (wpAny_of_eq (a:=Value.none) (by first|rfl|(simp only[firstArgMember];rfl)) ?_)
 refine wpAny_newObj_type ?_ (by size_fits)
 delta raiseNew;dsimp only
 refine wpAny_bind (wpAny_handled ?_)
 first|rw[show A.in1.handled=none from hh]|rw[hh]
 refine wpAny_bind (wpAny_pure (wpAny_throw ?_))
 exact hE _ _ (((Heap.SameBut.update ..).extBut.push _).push _) ⟨_,Heap.get?_push_size _ rfl,rfl⟩
theorem aT8{it a:Addr}{i:Nat}{items:Array Value}{x:Value}{Q:VSP}(hit:SI k s.heap it a i)(hl:SC k s.heap a items)(hx:items[i]? =some x)
 (hQ:∀h',SI k h' it a (i+1)→Heap.SameBut it s.heap h'→Q x {s with heap:=h'}):wpAny (model prog w) A (Builtin.SmallTypes.nextOf (.ref it)) Q E s:=by
 rcases k with _|_
 ·exact wpAny_nextOf_list_item hit hl hx hQ
 ·exact bD6 hit hl hx hQ
theorem bQ1{it a:Addr}{i:Nat}{items:Array Value}{Q:VSP}(hh:A.handled=none)(hit:SI k s.heap it a i)(hl:SC k s.heap a items)(hx:items[i]? =none)
 (hE:∀h' e,Heap.ExtBut it s.heap h'→(∃o,h'.get? e=some o∧o.cls= .type "StopIteration")→E (.ref e) {s with heap:=h'}):wpAny (model prog w) A (Builtin.SmallTypes.nextOf (.ref it)) Q E s:=by
 rcases k with _|_
 ·exact wpAny_nextOf_list_end hh hit hl hx hE
 ·exact bG6 hh hit hl hx hE
structure ZA(z TI TO i1 i2:Addr):Prop where
 TIz:TI≠z
 TOz:TO≠z
 i1z:i1≠z
 i2z:i2≠z
 TITO:TI≠TO
 TIi1:TI≠i1
 TIi2:TI≠i2
 TOi1:TO≠i1
 TOi2:TO≠i2
 i12:i1≠i2
theorem fI8(n:Nat):ZA (n+4:Nat) (n+2:Nat) (n+3:Nat) n (n+1:Nat):=⟨(by show @Ne Nat _ _;lia),(by show @Ne Nat _ _;lia),(by show @Ne Nat _ _;lia),(by show @Ne Nat _ _;lia),(by show @Ne Nat _ _;lia),(by show @Ne Nat _ _;lia),(by show @Ne Nat _ _;lia),(by show @Ne Nat _ _;lia),(by show @Ne Nat _ _;lia),(by show @Ne Nat _ _;lia)⟩
theorem dN5{l n:Nat}(h:l<n):¬ @Membership.mem Addr (List Addr) List.instMembership [(n+4:Nat),(n+3:Nat),n,(n+1:Nat)] l:=by
 simp only[List.mem_cons,List.not_mem_nil,or_false,not_or]
 exact⟨(by show ¬ @Eq Nat _ _;lia),(by show ¬ @Eq Nat _ _;lia),(by show ¬ @Eq Nat _ _;lia),(by show ¬ @Eq Nat _ _;lia)⟩
theorem fG8{n:Nat}{b:Addr}(hb: @Membership.mem Addr (List Addr) List.instMembership [(n+4:Nat),(n+2:Nat),(n+3:Nat),n,(n+1:Nat)] b): @LE.le Nat instLENat n b:=by
 simp only[List.mem_cons,List.not_mem_nil,or_false]at hb
 rcases hb with rfl|rfl|rfl|rfl|rfl<;>(show @LE.le Nat instLENat _ _;lia)
variable{z TI TO i1 i2 l1 l2:Addr}{xs ys:Array Value}{k1 k2:Bool}{i:Nat}
theorem dU1{x y a b:Value}{Q:VSP}(Ap:ZA z TI TO i1 i2)(n1:l1∉ [z,TO,i1,i2])(n2:l2∉ [z,TO,i1,i2])
 (hz:IsZip s.heap z TI TO .none) (hTI:IsPair s.heap TI (.ref i1) (.ref i2)) (hTO:IsPair s.heap TO a b)
 (h1:SI k1 s.heap i1 l1 i) (h2:SI k2 s.heap i2 l2 i) (hl1:SC k1 s.heap l1 xs) (hl2:SC k2 s.heap l2 ys) (hx:xs[i]? =some x) (hy:ys[i]? =some y)
 (hQ:∀h',IsZip h' z TI TO (rawInt s.heap.objs.size)→IsPair h' TO x y→SI k1 h' i1 l1 (i+1)→SI k2 h' i2 l2 (i+1)→IsPair h' s.heap.objs.size x y→h'.objs.size=s.heap.objs.size+1→
   (∀c o,c≠z→c≠TO→c≠i1→c≠i2→s.heap.get? c=some o→h'.get? c=some o)→Q (.ref s.heap.objs.size) {s with heap:=h'}):
 wpAny (model prog w) A (Builtin.«zip.__next__» ⟨[.ref z], []⟩) (fun fin s'=>∃v,fin= .done (.ret v)∧Q v s') E s:=by
 simp only[List.mem_cons,List.not_mem_nil,or_false,not_or]at n1 n2
 show wpAny _ _ (field (.ref z) 2 >>= _) _ _ _
 refine wpAny_bind (wpAny_field hz rfl (x:=.bool false) rfl ?_)
 show wpAny _ _ (field (.ref z) 3 >>= _) _ _ _
 refine wpAny_bind (wpAny_field hz rfl (x:=.ref TI) rfl ?_)
 refine wpAny_bind (wpAny_seqItems hTI rfl ?_)
 show wpAny _ _ (Builtin.SmallTypes.ownedTupleIsFree (.ref z) >>= _) _ _ _
 refine wpAny_bind ?_
 unfold Builtin.SmallTypes.ownedTupleIsFree
 refine wpAny_bind (wpAny_field hz rfl (x:=.none) rfl (wpAny_pure ?_))
 simp only[if_true]
 refine wpAny_bind (wpAny_rule ?_)
 refine wpAny_bind (wpAny_field hz rfl (x:=.ref TO) rfl ?_)
 refine wpAny_bind (wpAny_setField_rec hz (by simp) fun g₁ hz₁ hs₁=>?_)
 replace hz₁:IsZip g₁ z TI TO .ellipsis:=hz₁
 refine wpAny_bind ?_
 simp only[List.zipIdx_cons,List.zipIdx_nil,List.forIn_cons,List.forIn_nil]
 refine wpAny_bind (wpAny_bind (wpAny_onRaise ?_))
 show wpAny _ _ (Builtin.SmallTypes.nextOf (.ref i1) >>= _) _ _ _
 refine wpAny_bind (aT8 (h1.keep fun o e=>hs₁.extBut _ _ Ap.i1z e) (hl1.keep fun o e=>hs₁.extBut _ _ n1.1 e) hx fun g₂ h1₂ hs₂=>wpAny_pure ?_)
 have hTO₂:IsPair g₂ TO a b:=hs₂.extBut _ _ Ap.TOi1 (hs₁.extBut _ _ Ap.TOz hTO)
 refine wpAny_bind (wpAny_seqItems hTO₂ rfl ?_)
 refine wpAny_bind (wpAny_updateSeq_pair hTO₂ fun g₃ hTO₃ hs₃=>?_)
 replace hTO₃:IsPair g₃ TO x b:=hTO₃
 refine wpAny_bind (wpAny_letGo (wpAny_pure ?_))
 refine wpAny_bind (wpAny_bind (wpAny_onRaise ?_))
 show wpAny _ _ (Builtin.SmallTypes.nextOf (.ref i2) >>= _) _ _ _
 have up3:∀c o,c≠z→c≠TO→c≠i1→s.heap.get? c=some o→g₃.get? c=some o:=fun c o c1 c2 c3 e=>hs₃.extBut _ _ c2 (hs₂.extBut _ _ c3 (hs₁.extBut _ _ c1 e))
 refine wpAny_bind (aT8 (h2.keep fun o e=>up3 _ _ Ap.i2z Ap.TOi2.symm Ap.i12.symm e) (hl2.keep fun o e=>up3 _ _ n2.1 n2.2.1 n2.2.2.1 e) hy fun g₄ h2₄ hs₄=>wpAny_pure ?_)
 have hTO₄:IsPair g₄ TO x b:=hs₄.extBut _ _ Ap.TOi2 hTO₃
 refine wpAny_bind (wpAny_seqItems hTO₄ rfl ?_)
 refine wpAny_bind (wpAny_updateSeq_pair hTO₄ fun g₅ hTO₅ hs₅=>?_)
 replace hTO₅:IsPair g₅ TO x y:=hTO₅
 refine wpAny_bind (wpAny_letGo (wpAny_pure (wpAny_pure ?_)))
 refine wpAny_bind (wpAny_seqItems hTO₅ rfl ?_)
 refine wpAny_bind (wpAny_newTuple ?_)
 have hsz:g₅.objs.size=s.heap.objs.size:=by rw[hs₅.1,hs₄.1,hs₃.1,hs₂.1,hs₁.1]
 have hz₅:IsZip g₅ z TI TO .ellipsis:=hs₅.extBut _ _ Ap.TOz.symm (hs₄.extBut _ _ Ap.i2z.symm (hs₃.extBut _ _ Ap.TOz.symm (hs₂.extBut _ _ Ap.i1z.symm hz₁)))
 have hk₅:∀c o,c≠z→c≠TO→c≠i1→c≠i2→s.heap.get? c=some o→g₅.get? c=some o:=fun c o c1 c2 c3 c4 e=>hs₅.extBut _ _ c2 (hs₄.extBut _ _ c4 (up3 c o c1 c2 c3 e))
 have h1₅:SI k1 g₅ i1 l1 (i+1):=h1₂.keep fun o e=>hs₅.extBut _ _ Ap.TOi1.symm (hs₄.extBut _ _ Ap.i12 (hs₃.extBut _ _ Ap.TOi1.symm e))
 have h2₅:SI k2 g₅ i2 l2 (i+1):=h2₄.keep fun o e=>hs₅.extBut _ _ Ap.TOi2.symm e
 have hzlt:z<g₅.objs.size:=Heap.lt_size hz₅
 show wpAny _ _ (Builtin.SmallTypes.ownedTupleHandOut (.ref z) (.ref g₅.objs.size) >>= _) _ _ _
 refine wpAny_bind ?_
 unfold Builtin.SmallTypes.ownedTupleHandOut
 have hz₆:IsZip (g₅.push {cls:=.type "tuple",data:=.seq #[x,y]}) z TI TO .ellipsis:=Heap.get?_push_of_some _ hz₅
 refine wpAny_bind (wpAny_setField_rec hz₆ (by simp) fun g₇ hz₇ hs₇=>?_)
 replace hz₇:IsZip g₇ z TI TO (rawInt g₅.objs.size):=hz₇
 refine wpAny_setField_rec hz₇ (by simp) fun g₈ hz₈ hs₈=>?_
 replace hz₈:IsZip g₈ z TI TO (rawInt g₅.objs.size):=hz₈
 have up:∀c o,c≠z→g₅.get? c=some o→g₈.get? c=some o:=fun c o c1 e=>hs₈.extBut _ _ c1 (hs₇.extBut _ _ c1 (Heap.get?_push_of_some _ e))
 have hT₈:IsPair g₈ g₅.objs.size x y:=hs₈.extBut _ _ (Nat.ne_of_gt hzlt) (hs₇.extBut _ _ (Nat.ne_of_gt hzlt) (Heap.get?_push_size _ rfl))
 have hz8:g₈.objs.size=g₅.objs.size+1:=by rw[hs₈.1,hs₇.1,Heap.size_push]
 rw[hsz]at hz₈ hT₈ hz8
 refine wpAny_pure ⟨_,rfl,?_⟩
 show Q (.ref g₅.objs.size) _
 rw[hsz]
 exact hQ g₈ hz₈ (up _ _ Ap.TOz hTO₅) (h1₅.keep fun o e=>up _ o Ap.i1z e) (h2₅.keep fun o e=>up _ o Ap.i2z e) hT₈ hz8 fun c o c1 c2 c3 c4 e=>up c o c1 (hk₅ c o c1 c2 c3 c4 e)
theorem eG8{a b:Value}{Q:Fin→Shared→Prop}(hh:A.handled=none)(Ap:ZA z TI TO i1 i2)(n1:l1∉ [z,TO,i1,i2])(n2:l2∉ [z,TO,i1,i2])
 (hz:IsZip s.heap z TI TO .none) (hTI:IsPair s.heap TI (.ref i1) (.ref i2)) (hTO:IsPair s.heap TO a b)
 (h1:SI k1 s.heap i1 l1 i) (h2:SI k2 s.heap i2 l2 i) (hl1:SC k1 s.heap l1 xs) (hl2:SC k2 s.heap l2 ys) (hend:xs[i]? =none∨ys[i]? =none)
 (hE:∀h' e,(∀c o,c≠z→c≠TO→c≠i1→c≠i2→s.heap.get? c=some o→h'.get? c=some o)→(∃o,h'.get? e=some o∧o.cls= .type "StopIteration")→E (.ref e) {s with heap:=h'}):
 wpAny (model prog w) A (Builtin.«zip.__next__» ⟨[.ref z], []⟩) Q E s:=by
 simp only[List.mem_cons,List.not_mem_nil,or_false,not_or]at n1 n2
 show wpAny _ _ (field (.ref z) 2 >>= _) _ _ _
 refine wpAny_bind (wpAny_field hz rfl (x:=.bool false) rfl ?_)
 show wpAny _ _ (field (.ref z) 3 >>= _) _ _ _
 refine wpAny_bind (wpAny_field hz rfl (x:=.ref TI) rfl ?_)
 refine wpAny_bind (wpAny_seqItems hTI rfl ?_)
 show wpAny _ _ (Builtin.SmallTypes.ownedTupleIsFree (.ref z) >>= _) _ _ _
 refine wpAny_bind ?_
 unfold Builtin.SmallTypes.ownedTupleIsFree
 refine wpAny_bind (wpAny_field hz rfl (x:=.none) rfl (wpAny_pure ?_))
 simp only[if_true]
 refine wpAny_bind (wpAny_rule ?_)
 refine wpAny_bind (wpAny_field hz rfl (x:=.ref TO) rfl ?_)
 refine wpAny_bind (wpAny_setField_rec hz (by simp) fun g₁ hz₁ hs₁=>?_)
 replace hz₁:IsZip g₁ z TI TO .ellipsis:=hz₁
 refine wpAny_bind ?_
 simp only[List.zipIdx_cons,List.zipIdx_nil,List.forIn_cons,List.forIn_nil]
 refine wpAny_bind (wpAny_bind (wpAny_onRaise ?_))
 show wpAny _ _ (Builtin.SmallTypes.nextOf (.ref i1) >>= _) _ _ _
 rcases hx:xs[i]? with _|x
 ·
   refine wpAny_bind (bQ1 hh (h1.keep fun o e=>hs₁.extBut _ _ Ap.i1z e) (hl1.keep fun o e=>hs₁.extBut _ _ n1.1 e) hx fun g₂ e hs₂ he=>?_)
   obtain⟨oe,hoe,hce⟩:=he
   have hz₂:IsZip g₂ z TI TO .ellipsis:=hs₂ _ _ Ap.i1z.symm hz₁
   have hez:e≠z:=fun q=>by subst q;rw[hz₂]at hoe;cases hoe;simp at hce
   exact wpAny_setField_rec hz₂ (by simp) fun g₃ _ hs₃=>hE g₃ e (fun c o c1 _ c3 _ q=>hs₃.extBut _ _ c1 (hs₂ _ _ c3 (hs₁.extBut _ _ c1 q))) ⟨oe,hs₃.extBut _ _ hez hoe,hce⟩
 ·
   have hy:ys[i]? =none:=by
    rcases hend with h|h
    ·rw[hx]at h;exact eH5 h
    ·exact h
   refine wpAny_bind (aT8 (h1.keep fun o e=>hs₁.extBut _ _ Ap.i1z e) (hl1.keep fun o e=>hs₁.extBut _ _ n1.1 e) hx fun g₂ h1₂ hs₂=>wpAny_pure ?_)
   have hTO₂:IsPair g₂ TO a b:=hs₂.extBut _ _ Ap.TOi1 (hs₁.extBut _ _ Ap.TOz hTO)
   refine wpAny_bind (wpAny_seqItems hTO₂ rfl ?_)
   refine wpAny_bind (wpAny_updateSeq_pair hTO₂ fun g₃ hTO₃ hs₃=>?_)
   refine wpAny_bind (wpAny_letGo (wpAny_pure ?_))
   refine wpAny_bind (wpAny_bind (wpAny_onRaise ?_))
   show wpAny _ _ (Builtin.SmallTypes.nextOf (.ref i2) >>= _) _ _ _
   have up3:∀c o,c≠z→c≠TO→c≠i1→s.heap.get? c=some o→g₃.get? c=some o:=fun c o c1 c2 c3 e=>hs₃.extBut _ _ c2 (hs₂.extBut _ _ c3 (hs₁.extBut _ _ c1 e))
   refine wpAny_bind (bQ1 hh (h2.keep fun o e=>up3 _ _ Ap.i2z Ap.TOi2.symm Ap.i12.symm e) (hl2.keep fun o e=>up3 _ _ n2.1 n2.2.1 n2.2.2.1 e) hy fun g₄ e hs₄ he=>?_)
   obtain⟨oe,hoe,hce⟩:=he
   have hz₄:IsZip g₄ z TI TO .ellipsis:=hs₄ _ _ Ap.i2z.symm (hs₃.extBut _ _ Ap.TOz.symm (hs₂.extBut _ _ Ap.i1z.symm hz₁))
   have hez:e≠z:=fun q=>by subst q;rw[hz₄]at hoe;cases hoe;simp at hce
   exact wpAny_setField_rec hz₄ (by simp) fun g₅ _ hs₅=>hE g₅ e (fun c o c1 c2 c3 c4 q=>hs₅.extBut _ _ c1 (hs₄ _ _ c4 (up3 c o c1 c2 c3 q))) ⟨oe,hs₅.extBut _ _ hez hoe,hce⟩
theorem bK6{x y a b:Value}{Q:Option Value→Shared→Prop}(Ap:ZA z TI TO i1 i2)(n1:l1∉ [z,TO,i1,i2])(n2:l2∉ [z,TO,i1,i2])
 (hz:IsZip s.heap z TI TO .none) (hTI:IsPair s.heap TI (.ref i1) (.ref i2)) (hTO:IsPair s.heap TO a b)
 (h1:SI k1 s.heap i1 l1 i) (h2:SI k2 s.heap i2 l2 i) (hl1:SC k1 s.heap l1 xs) (hl2:SC k2 s.heap l2 ys) (hx:xs[i]? =some x) (hy:ys[i]? =some y)
 (hQ:∀h',IsZip h' z TI TO (rawInt s.heap.objs.size)→IsPair h' TO x y→SI k1 h' i1 l1 (i+1)→SI k2 h' i2 l2 (i+1)→IsPair h' s.heap.objs.size x y→h'.objs.size=s.heap.objs.size+1→
   (∀c o,c≠z→c≠TO→c≠i1→c≠i2→s.heap.get? c=some o→h'.get? c=some o)→Q (some (.ref s.heap.objs.size)) {s with heap:=h'}):
 wpAny (model prog w) A (pyNext (.ref z)) Q E s:=by
 have hT:s.TypeIs (.ref z) "zip":=⟨_,hz,rfl⟩
 unfold pyNext
 exact wpAny_bind (wpAny_attempt (wpAny_callSpecial?_slot (name:=Str.ofString "__next__") hT F.slot_zip_next (wpAny_call_entry F.slot_zip_next hT F.entry_zip_next
  (dU1 Ap n1 n2 hz hTI hTO h1 h2 hl1 hl2 hx hy fun h' a1 a2 a3 a4 a5 a6 a7=>wpAny_pure (hQ h' a1 a2 a3 a4 a5 a6 a7)) (F.args_zip_next_1 _))))
theorem bR3{a b:Value}{Q:Option Value→Shared→Prop}(hh:A.handled=none)(Ap:ZA z TI TO i1 i2)(n1:l1∉ [z,TO,i1,i2])(n2:l2∉ [z,TO,i1,i2])
 (hz:IsZip s.heap z TI TO .none) (hTI:IsPair s.heap TI (.ref i1) (.ref i2)) (hTO:IsPair s.heap TO a b)
 (h1:SI k1 s.heap i1 l1 i) (h2:SI k2 s.heap i2 l2 i) (hl1:SC k1 s.heap l1 xs) (hl2:SC k2 s.heap l2 ys) (hend:xs[i]? =none∨ys[i]? =none)
 (hQ:∀h',(∀c o,c≠z→c≠TO→c≠i1→c≠i2→s.heap.get? c=some o→h'.get? c=some o)→Q none {s with heap:=h'}):wpAny (model prog w) A (pyNext (.ref z)) Q E s:=by
 have hT:s.TypeIs (.ref z) "zip":=⟨_,hz,rfl⟩
 unfold pyNext
 refine wpAny_bind (wpAny_attempt (wpAny_callSpecial?_slot (name:=Str.ofString "__next__") hT F.slot_zip_next (wpAny_call_entry F.slot_zip_next hT F.entry_zip_next
  (eG8 hh Ap n1 n2 hz hTI hTO h1 h2 hl1 hl2 hend fun h' e hk he=>?_) (F.args_zip_next_1 _))))
 obtain⟨o,ho,hc⟩:=he
 exact wpAny_bind (wpAny_isInstance (T:= "StopIteration") (b:=true) ⟨o,ho,hc⟩ isSubtype_stop (wpAny_pure (hQ _ hk)))
end
noncomputable def cA4(k:Bool)(a:Addr):Obj:={cls:=.type (if k then "tuple_iterator" else "list_iterator"),data:=.fields #[.ref a,.int 0 0]}
abbrev zh1(k1:Bool)(h:Heap)(l1:Addr):Heap:=h.push (cA4 k1 l1)
abbrev zh2(k1 k2:Bool)(h:Heap)(l1 l2:Addr):Heap:=(zh1 k1 h l1).push (cA4 k2 l2)
noncomputable abbrev zh3(k1 k2:Bool)(h:Heap)(l1 l2:Addr):Heap:=(zh2 k1 k2 h l1 l2).push {cls:=.type "tuple",data:=.seq #[.ref h.objs.size,.ref (zh1 k1 h l1).objs.size]}
noncomputable abbrev zh4(k1 k2:Bool)(h:Heap)(l1 l2:Addr):Heap:=(zh3 k1 k2 h l1 l2).push {cls:=.type "tuple",data:=.seq #[.none,.none]}
noncomputable abbrev zh5(k1 k2:Bool)(h:Heap)(l1 l2:Addr):Heap:=(zh4 k1 k2 h l1 l2).push {cls:=.type "zip",data:=.fields #[.none,.bool false,.bool false,.ref (zh2 k1 k2 h l1 l2).objs.size,.ref (zh3 k1 k2 h l1 l2).objs.size]}
theorem bN8{prog:Program}{w:World}{A:Around}{E:VSP}{s:Shared}{k:Bool}{a:Addr}{items:Array Value}{Q:VSP}(hl:SC k s.heap a items)(h:Q (.ref s.heap.objs.size) {s with heap:=s.heap.push (cA4 k a)}):wpAny (model prog w) A (pyIter (.ref a)) Q E s:=by
 rcases k with _|_
 ·exact wpAny_pyIter_list hl h
 ·exact wpAny_pyIter_tuple hl h
theorem eC9(k1 k2:Bool)(l1 l2:Addr)(xs ys:Array Value):
 Meets (Builtin.«zip.__new__» ⟨[.type "zip",.ref l1,.ref l2], []⟩) (fun _ R s=>SC k1 s.heap l1 xs∧SC k2 s.heap l2 ys∧R (.ok (.ret (.ref (zh4 k1 k2 s.heap l1 l2).objs.size))) {s with heap:=zh5 k1 k2 s.heap l1 l2}):=
 .of_wp fun prog w A R s h=>by
  obtain⟨hp,g,d,tk,os⟩:=s
  obtain⟨hl1,hl2,h⟩:=h
  have hsub:=sub_zip
  have hL1:SC k1 (Shared.heap ⟨hp,g,d,tk,os⟩) l1 xs:=hl1
  have hL2:SC k2 (Shared.heap ⟨hp.push (cA4 k1 l1),g,d,tk,os⟩) l2 ys:=hl2.keep fun o e=>Heap.get?_push_of_some _ e
  wp_walk using bN8 hL1,bN8 hL2
  exact⟨_,rfl,h⟩
section
variable{X:Cx}{pins:PNS}{σ:St}{H:Hp}{s:Shared}
theorem bF5{h':Heap}{t':Nat}{ch:List Addr}{vs:List V}{us:List Value}(I:Inv X pins σ H s)(hf:∀b∈ch,aS0 X pins H b)(k:∀b o,b∉ch→s.heap.get? b=some o→h'.get? b=some o)
 (hz:vs.length≤sizeLine) (rv:w6 vs us) (ht:aB5 h' s.heap.objs.size us.toArray):Inv X pins σ (upd H s.heap.objs.size (.tup vs)) {s with heap:=h',toks:=t'}:=by
 have hq:H s.heap.objs.size=none:=I.hok.fresh (Nat.le_refl _)
 have neq:∀b o,s.heap.get? b=some o→b≠s.heap.objs.size:=fun b o e=>Nat.ne_of_lt (Heap.lt_size e)
 have nch:∀b u,H b=some u→b∉ch:=fun b u e z=>by rw[(hf b z).1]at e;cases e
 refine I.step (g':=s.gens) (d':=s.drawn) (ch:=ch) (fun b hb=>⟨(hf b hb).2.2.2.1,(hf b hb).2.1,(hf b hb).2.2.2.2.1,(hf b hb).2.2.2.2.2⟩) (fun b o _ _ hc e _=>k b o hc e) (fun b o _ _ hc e _=>⟨o.slots,k b o hc e⟩)
  (fun b o _ e n=>by rw[J7 (neq b o e)];exact n) (fun b o hc e=>⟨o,k b o hc e⟩) (fun b xs e=>by rw[J7 (K4 e hq)];exact e) (fun b o u e=>by rw[J7 (K4 e hq)];exact e)
  (fun b ps e=>⟨#[],by rw[J7 (K4 e hq),e];simp⟩) (fun m hm=>?_) (fun b u e=>?_) I.bare
 · obtain⟨o,es,ep,ho,r⟩:=hm
   exact⟨o,es,ep,k _ o (fun z=>(hf _ z).2.1 rfl) ho,r⟩
 · by_cases hb:b=s.heap.objs.size
   · subst hb
     rw[R3]at e
     cases e
     exact⟨hz,us,rv,ht⟩
   · rw[J7 hb]at e
     refine(I.hok b u e).stay (fun c v hc q=>k c v ?_ q) (fun c q=>by rw[J7 (K4 q hq)];exact q) fun c xs q=>by rw[J7 (K4 q hq)];exact q
     rcases hc with z|z
     ·rw[z];exact nch b u e
     ·exact nch c _ z
theorem aQ6{h':Heap}{t':Nat}{ch:List Addr}(I:Inv X pins σ H s)(hf:∀b∈ch,aS0 X pins H b)(k:∀b o,b∉ch→s.heap.get? b=some o→h'.get? b=some o):Inv X pins σ H {s with heap:=h',toks:=t'}:=by
 have nch:∀b u,H b=some u→b∉ch:=fun b u e z=>by rw[(hf b z).1]at e;cases e
 refine I.step (g':=s.gens) (d':=s.drawn) (ch:=ch) (fun b hb=>⟨(hf b hb).2.2.2.1,(hf b hb).2.1,(hf b hb).2.2.2.2.1,(hf b hb).2.2.2.2.2⟩) (fun b o _ _ hc e _=>k b o hc e) (fun b o _ _ hc e _=>⟨o.slots,k b o hc e⟩)
  (fun _ _ _ _ n=>n) (fun b o hc e=>⟨o,k b o hc e⟩) (fun _ _ e=>e) (fun _ _ _ e=>e) (fun b ps e=>⟨#[],by rw[e];simp⟩) (fun m hm=>?_) (fun b u e=>?_) I.bare
 · obtain⟨o,es,ep,ho,r⟩:=hm
   exact⟨o,es,ep,k _ o (fun z=>(hf _ z).2.1 rfl) ho,r⟩
 · refine(I.hok b u e).stay (fun c v hc q=>k c v ?_ q) (fun _ q=>q) fun _ _ q=>q
   rcases hc with z|z
   ·rw[z];exact nch b u e
   ·exact nch c _ z
end
def Sq(K:PySem.W.Frag)(k:Bool)(H:Hp)(a:Addr)(vs:List V):Prop:=if k then SqT K H a vs else SqL K H a vs
theorem bY7{X:Cx}{pins:PNS}{σ:St}{H:Hp}{s:Shared}{k:Bool}{a:Addr}{vs:List V}(I:Inv X pins σ H s)(h:Sq X.K k H a vs):∃its:List Value,w6 vs its∧SC k s.heap a its.toArray∧vs.length≤sizeLine:=by
 rcases k with _|_
 ·obtain⟨its,r,p,z⟩:=I.list h;exact⟨its,r,p.isList,z⟩
 ·obtain⟨its,r,p,z⟩:=I.tuple h;exact⟨its,r,p,z⟩
theorem dN3{X:Cx}{pins:PNS}{σ:St}{H:Hp}{s:Shared}{k:Bool}{a:Addr}{vs ws:List V}(I:Inv X pins σ H s)(h:Sq X.K k H a vs)(h':Sq X.K k H a ws):vs=ws:=by
 rcases k with _|_
 ·exact I.list_inj h h'
 ·exact I.tuple_inj h h'
def Itz(K:PySem.W.Frag)(k1 k2:Bool)(a b:Addr):It:=
 ⟨fun i H=>∃xs ys x y,Sq K k1 H a xs∧Sq K k2 H b ys∧xs[i]? =some x∧ys[i]? =some y,
  fun i H v H'=>∃q x y,H q=none∧v= .ref q∧H'=upd H q (.tup [x,y])∧(∀xs,Sq K k1 H a xs→xs[i]? =some x)∧∀ys,Sq K k2 H b ys→ys[i]? =some y,
  fun i H=>∃xs ys,Sq K k1 H a xs∧Sq K k2 H b ys∧(xs.length≤i∨ys.length≤i)⟩
theorem bM9{vs:List V}{its:List Value}(r:w6 vs its){i:Nat}{x:V}(h:vs[i]? =some x):∃u,its.toArray[i]? =some u∧J6 x u:=by
 obtain⟨u,e,ru⟩:=r.get h
 exact⟨u,by simpa using e,ru⟩
theorem dU4{P:Program}{w:World}{K:PySem.W.Frag}{es:List Expr}{x1:Nat}{tp:Pos}{k1 k2:Bool}{l1 l2 z TI TO i1 i2:Addr}(Ap:ZA z TI TO i1 i2)(n1:l1∉ [z,TO,i1,i2])(n2:l2∉ [z,TO,i1,i2]):
 bL6 P w K (.Tuple es x1 tp) (Itz K k1 k2 l1 l2) [z,TI,TO,i1,i2] z (fun i h=>IsZip h z TI TO .none∧IsPair h TI (.ref i1) (.ref i2)∧(∃a b,IsPair h TO a b)∧SI k1 h i1 l1 i∧SI k2 h i2 l2 i) where
 mem:=by simp
 obj:=fun i h st b hb=>by
  obtain⟨s1,s2,⟨a,c,s3⟩,s4,s5⟩:=st
  simp only[List.mem_cons,List.not_mem_nil,or_false]at hb
  rcases hb with rfl|rfl|rfl|rfl|rfl
  ·exact⟨_,s1,fun v z=>nomatch z⟩
  ·exact⟨_,s2,fun v z=>nomatch z⟩
  ·exact⟨_,s3,fun v z=>nomatch z⟩
  ·exact s4.there
  ·exact s5.there
 keep:=fun i h h' st k=>by
  obtain⟨s1,s2,⟨a,c,s3⟩,s4,s5⟩:=st
  exact⟨k _ (by simp) _ s1,k _ (by simp) _ s2,⟨a,c,k _ (by simp) _ s3⟩,s4.keep (k _ (by simp)),s5.keep (k _ (by simp))⟩
 item:=by
  intro X hP hw hK hc i pins s σ H E I hf st hg
  subst hP hw hK
  obtain⟨xs,ys,x,y,q1,q2,hx,hy⟩:=hg
  obtain⟨its1,r1,c1,z1⟩:=bY7 I q1
  obtain⟨its2,r2,c2,z2⟩:=bY7 I q2
  obtain⟨u1,e1,ru1⟩:=bM9 r1 hx
  obtain⟨u2,e2,ru2⟩:=bM9 r2 hy
  obtain⟨s1,s2,⟨a,c,s3⟩,s4,s5⟩:=st
  refine bK6 Ap n1 n2 s1 s2 s3 s4 s5 c1 c2 e1 e2 fun g b1 b2 b3 b4 b5 b6 b7=>⟨_,rfl,?_⟩
  refine wpAny_letOwnedTupleGo_zip b1 fun g2 c1' sb=>?_
  have keep:∀b o,b∉ [z,TI,TO,i1,i2]→s.heap.get? b=some o→g2.get? b=some o:=fun b o hb e=>by
   simp only[List.mem_cons,List.not_mem_nil,or_false,not_or]at hb
   exact(sb.2 b hb.1).trans (b7 b o hb.1 hb.2.2.1 hb.2.2.2.1 hb.2.2.2.2 e)
  have zlt:z<s.heap.objs.size:=Heap.lt_size s1
  have hnew:aB5 g2 s.heap.objs.size [u1,u2].toArray:=⟨_,(sb.2 _ (Nat.ne_of_gt zlt)).trans b5,rfl,_,rfl⟩
  have hq:H s.heap.objs.size=none:=I.hok.fresh (Nat.le_refl _)
  refine⟨.ref s.heap.objs.size,upd H s.heap.objs.size (.tup [x,y]),bF5 I hf keep (by show 2≤sizeLine;decide) (.cons ru1 (.cons ru2 .nil)) hnew,rfl,⟨_,x,y,hq,rfl,rfl,fun xs' h=>by rw[dN3 I h q1];exact hx,fun ys' h=>by rw[dN3 I h q2];exact hy⟩,?_,fun b hb=>?_⟩
  · refine⟨c1',?_,⟨_,_,(sb.2 _ Ap.TOz).trans b2⟩,b3.keep fun o e=>(sb.2 _ Ap.i1z).trans e,b4.keep fun o e=>(sb.2 _ Ap.i2z).trans e⟩
    exact(sb.2 _ Ap.TIz).trans (b7 TI _ Ap.TIz Ap.TITO Ap.TIi1 Ap.TIi2 s2)
  · have hb':b<s.heap.objs.size:=by
     simp only[List.mem_cons,List.not_mem_nil,or_false]at hb
     rcases hb with rfl|rfl|rfl|rfl|rfl
     ·exact zlt
     ·exact Heap.lt_size s2
     ·exact Heap.lt_size s3
     ·obtain⟨_,e,_⟩:=s4.there;exact Heap.lt_size e
     ·obtain⟨_,e,_⟩:=s5.there;exact Heap.lt_size e
    rw[J7 (Nat.ne_of_lt hb')]
    exact(hf b hb).1
 done:=by
  intro X hP hw hK hc i pins s σ H E I hf st hg
  subst hP hw hK
  obtain⟨xs,ys,q1,q2,hend⟩:=hg
  obtain⟨its1,r1,c1,z1⟩:=bY7 I q1
  obtain⟨its2,r2,c2,z2⟩:=bY7 I q2
  obtain⟨s1,s2,⟨a,c,s3⟩,s4,s5⟩:=st
  have hl1:=r1.length
  have hl2:=r2.length
  refine bR3 (I.ok.hd hc) Ap n1 n2 s1 s2 s3 s4 s5 c1 c2 (by rcases hend with h|h;left;simp;lia;right;simp;lia) fun g b7=>⟨rfl,aQ6 (t':=s.toks) I hf fun b o hb e=>?_⟩
  simp only[List.mem_cons,List.not_mem_nil,or_false,not_or]at hb
  exact b7 b o hb.1 hb.2.2.1 hb.2.2.2.1 hb.2.2.2.2 e
 self:=fun _ _ _ _ _ st h=>wpAny_pyIter_zip st.1 h
def fM0(K:PySem.W.Frag)(ta:TA):TI:=fun σ H R=>ta σ H fun vs H1=>∃k1 k2 a b xs ys,vs= [.ref a,.ref b]∧Sq K k1 H1 a xs∧Sq K k2 H1 b ys∧R (Itz K k1 k2 a b) H1
section
variable{X:Cx}{Z:XC}
theorem cH5{prog:Program}{w:World}{A:Around}{E:VSP}{s:Shared}{k1 k2:Bool}{l1 l2:Addr}{xs ys:Array Value}{Q:VSP}(hl1:SC k1 s.heap l1 xs)(hl2:SC k2 s.heap l2 ys)
 (h:Q (.ref (zh4 k1 k2 s.heap l1 l2).objs.size) {s with heap:=zh5 k1 k2 s.heap l1 l2}):wpAny (model prog w) A (call (.type "zip") [.ref l1,.ref l2]) Q E s:=by
 refine callType_new F.called_zip (by decide) (F.typeCall_zip_2 _ _) (F.newCall_zip_2 _ _) (fun obj=>F.args_object_init_3 obj _ _) F.entry_zip_new (eC9 k1 k2 l1 l2 xs ys) ⟨hl1,hl2,?_⟩
 exact⟨⟨_,Heap.get?_push_size _ rfl,rfl⟩,h⟩
structure ZMk(k1 k2:Bool)(h h5:Heap)(l1 l2:Addr)(n:Nat):Prop where
 keep:∀b o,h.get? b=some o→h5.get? b=some o
 sz:h5.objs.size=n+5
 g5:IsZip h5 (n+4:Nat) (n+2:Nat) (n+3:Nat) .none
 g4:IsPair h5 (n+3:Nat) .none .none
 g3:IsPair h5 (n+2:Nat) (.ref n) (.ref (n+1:Nat))
 s1:SI k1 h5 n l1 0
 s2:SI k2 h5 (n+1:Nat) l2 0
theorem zmk{k1 k2:Bool}{h:Heap}{l1 l2:Addr}:(zh4 k1 k2 h l1 l2).objs.size=h.objs.size+4∧ZMk k1 k2 h (zh5 k1 k2 h l1 l2) l1 l2 h.objs.size:=by
 have z1:(zh1 k1 h l1).objs.size=h.objs.size+1:=Heap.size_push ..
 have z2:(zh2 k1 k2 h l1 l2).objs.size=h.objs.size+2:=by rw[Heap.size_push,z1]
 have z3:(zh3 k1 k2 h l1 l2).objs.size=h.objs.size+3:=by rw[Heap.size_push,z2]
 have z4:(zh4 k1 k2 h l1 l2).objs.size=h.objs.size+4:=by rw[Heap.size_push,z3]
 have z5:(zh5 k1 k2 h l1 l2).objs.size=h.objs.size+5:=by rw[Heap.size_push,z4]
 have g5:IsZip (zh5 k1 k2 h l1 l2) (zh4 k1 k2 h l1 l2).objs.size (zh2 k1 k2 h l1 l2).objs.size (zh3 k1 k2 h l1 l2).objs.size .none:=Heap.get?_push_size _ rfl
 have g4:IsPair (zh5 k1 k2 h l1 l2) (zh3 k1 k2 h l1 l2).objs.size .none .none:=Heap.get?_push_of_some _ (Heap.get?_push_size _ rfl)
 have g3:IsPair (zh5 k1 k2 h l1 l2) (zh2 k1 k2 h l1 l2).objs.size (.ref h.objs.size) (.ref (zh1 k1 h l1).objs.size):=Heap.get?_push_of_some _ (Heap.get?_push_of_some _ (Heap.get?_push_size _ rfl))
 have g2:(zh5 k1 k2 h l1 l2).get? (zh1 k1 h l1).objs.size=some (cA4 k2 l2):=Heap.get?_push_of_some _ (Heap.get?_push_of_some _ (Heap.get?_push_of_some _ (Heap.get?_push_size _ (by cases k2<;>rfl))))
 have g1:(zh5 k1 k2 h l1 l2).get? h.objs.size=some (cA4 k1 l1):=Heap.get?_push_of_some _ (Heap.get?_push_of_some _ (Heap.get?_push_of_some _ (Heap.get?_push_of_some _ (Heap.get?_push_size _ (by cases k1<;>rfl)))))
 rw[z4,z2,z3]at g5
 rw[z3]at g4
 rw[z2,z1]at g3
 rw[z1]at g2
 refine⟨z4,fun b o e=>Heap.get?_push_of_some _ (Heap.get?_push_of_some _ (Heap.get?_push_of_some _ (Heap.get?_push_of_some _ (Heap.get?_push_of_some _ e)))),z5,g5,g4,g3,?_,?_⟩
 · rcases k1 with _|_
   ·exact⟨_,g1,rfl,rfl⟩
   ·exact⟨_,g1,rfl,rfl⟩
 · rcases k2 with _|_
   ·exact⟨_,g2,rfl,rfl⟩
   ·exact⟨_,g2,rfl,rfl⟩
theorem SC.lt{k:Bool}{h:Heap}{a:Addr}{xs:Array Value}(c:SC k h a xs): @LT.lt Nat instLTNat a h.objs.size:=by
 rcases k with _|_
 ·obtain⟨o,e,_⟩:=(show h.IsList a _ from c);exact Heap.lt_size e
 ·obtain⟨o,e,_⟩:=(show h.IsTuple a _ from c);exact Heap.lt_size e
theorem cK4{prog:Program}{w:World}{A:Around}{E:VSP}{s:Shared}{k1 k2:Bool}{l1 l2:Addr}{xs ys:Array Value}{Q:VSP}(hl1:SC k1 s.heap l1 xs)(hl2:SC k2 s.heap l2 ys)
 (h:∀(h5:Heap) (n:Nat),n=s.heap.objs.size→ZMk k1 k2 s.heap h5 l1 l2 n→Q (.ref (n+4:Nat)) {s with heap:=h5}):wpAny (model prog w) A (call (.type "zip") [.ref l1,.ref l2]) Q E s:=by
 refine cH5 hl1 hl2 ?_
 have:=zmk (k1:=k1) (k2:=k2) (h:=s.heap) (l1:=l1) (l2:=l2)
 rw[this.1]
 exact h _ _ rfl this.2
theorem eM5{es:List Expr}{x1:Nat}{tp:Pos}{a b:Expr}{ta:TA}{p pos:Pos}(hg:Gl X "zip")(hm:X.mg "zip" =none)(ha:PA X [a,b] ta)(hs:starEach [a,b] X.env= [(false,eval a X.env),(false,eval b X.env)])(hs2:starEach [b] X.env= [(false,eval b X.env)])(hbt:bootBuiltins "zip" =some (.type "zip")):
 PI X (.Tuple es x1 tp) (.Call (.Name "zip" p) [a,b] [] pos) (fM0 X.K ta):=by
 intro pins s σ H R I h
 refine Call_ (aZ3 I hg hm hbt (PyProof.Rows.callWith_type1 (thn (ha pos pins s σ H _ I h) fun us s1 hE1=>hE1.elim fun vs H1 I1 r1 q1=>?_) (by rw[hs,hs2]) (by rw[hs2];rfl)))
 obtain⟨k1,k2,l1,l2,xs,ys,rfl,q1,q2,q⟩:=q1
 obtain⟨u1,u2,rfl,ru1,ru2⟩:=dN6 r1
 cases ru1
 cases ru2
 obtain⟨its1,rr1,c1,z1⟩:=bY7 I1 q1
 obtain⟨its2,rr2,c2,z2⟩:=bY7 I1 q2
 refine cK4 c1 c2 fun h5 n en Z=>?_
 have n1:=dN5 (en▸c1.lt)
 have n2:=dN5 (en▸c2.lt)
 refine wpAny_pyIter_zip Z.g5 ?_
 refine⟨(n+4:Nat),_,_,Itz X.K k1 k2 l1 l2,H1,rfl,I1.kept (t':=s1.toks) Z.keep,dU4 (fI8 n) n1 n2,⟨Z.g5,Z.g3,⟨_,_,Z.g4⟩,Z.s1,Z.s2⟩,fun b hb=>?_,q⟩
 have hb':s1.heap.objs.size≤b:=en▸fG8 hb
 exact I1.fpOk hb' (I1.hok.fresh hb')
end
def Ite(K:PySem.W.Frag)(a:Addr):It:=
 ⟨fun i H=>∃xs x,SqL K H a xs∧xs[i]? =some x,
  fun i H v H'=>∃q x,H q=none∧v= .ref q∧H'=upd H q (.tup [.int i,x])∧∀xs,SqL K H a xs→xs[i]? =some x,
  fun i H=>∃xs,SqL K H a xs∧xs.length≤i⟩
theorem dF4{P:Program}{w:World}{K:PySem.W.Frag}{es:List Expr}{x1:Nat}{tp:Pos}{l e it:Addr}(hne:e≠it):
 bL6 P w K (.Tuple es x1 tp) (Ite K l) [e,it] e (fun i h=>(∃old,IsEnum h e it i old)∧h.IsListIter it l i) where
 mem:=by simp
 obj:=fun i h st b hb=>by
  obtain⟨⟨old,s1⟩,s2⟩:=st
  simp only[List.mem_cons,List.not_mem_nil,or_false]at hb
  rcases hb with rfl|rfl
  ·exact⟨_,s1,fun v z=>nomatch z⟩
  · obtain⟨o,q,c,d⟩:=s2
    exact⟨o,q,fun v z=>by rw[d]at z;cases z⟩
 keep:=fun i h h' st k=>by
  obtain⟨⟨old,s1⟩,s2⟩:=st
  exact⟨⟨old,k _ (by simp) _ s1⟩,s2.at fun o q=>k _ (by simp) o q⟩
 item:=by
  intro X hP hw hK hc i pins s σ H E I hf st hg
  subst hP hw hK
  obtain⟨xs,x,q1,hx⟩:=hg
  obtain⟨its,r1,c1,z1⟩:=I.list q1
  obtain⟨u,e1,ru⟩:=bM9 r1 hx
  obtain⟨⟨old,s1⟩,s2⟩:=st
  refine wpAny_pyNext_enum_item s1 s2 c1.isList e1 hne fun g b1 b2 b3 b4 b5=>⟨_,rfl,?_⟩
  refine wpAny_letOwnedTupleGo_enum b1 fun g2 c1' sb=>?_
  have elt:e<s.heap.objs.size:=Heap.lt_size s1
  have ilt:it<s.heap.objs.size:=by obtain⟨_,q,_⟩:=s2;exact Heap.lt_size q
  have keep:∀b o,b∉ [e,it]→s.heap.get? b=some o→g2.get? b=some o:=fun b o hb q=>by
   simp only[List.mem_cons,List.not_mem_nil,or_false,not_or]at hb
   exact(sb.2 b hb.1).trans (b5 b o hb.1 hb.2 q)
  have hnew:aB5 g2 s.heap.objs.size [.int (i:Int) s.toks,u].toArray:=⟨_,(sb.2 _ (Nat.ne_of_gt elt)).trans b3,rfl,_,rfl⟩
  have hq:H s.heap.objs.size=none:=I.hok.fresh (Nat.le_refl _)
  refine⟨.ref s.heap.objs.size,upd H s.heap.objs.size (.tup [.int i,x]),bF5 I hf keep (by show 2≤sizeLine;decide) (.cons ⟨_,rfl⟩ (.cons ru .nil)) hnew,rfl,⟨_,x,hq,rfl,rfl,fun xs' h=>by rw[I.list_inj h q1];exact hx⟩,?_,fun b hb=>?_⟩
  ·exact⟨⟨_,c1'⟩,b2.at fun o q=>(sb.2 _ (Ne.symm hne)).trans q⟩
  · have hb':b<s.heap.objs.size:=by
     simp only[List.mem_cons,List.not_mem_nil,or_false]at hb
     rcases hb with rfl|rfl
     ·exact elt
     ·exact ilt
    rw[J7 (Nat.ne_of_lt hb')]
    exact(hf b hb).1
 done:=by
  intro X hP hw hK hc i pins s σ H E I hf st hg
  subst hP hw hK
  obtain⟨xs,q1,hend⟩:=hg
  obtain⟨its,r1,c1,z1⟩:=I.list q1
  obtain⟨⟨old,s1⟩,s2⟩:=st
  have hl:=r1.length
  refine wpAny_pyNext_enum_end (I.ok.hd hc) s1 s2 c1.isList (by simp;lia) fun g b7=>⟨rfl,aQ6 (t':=s.toks) I hf fun b o hb q=>?_⟩
  simp only[List.mem_cons,List.not_mem_nil,or_false,not_or]at hb
  exact b7 b o hb.2 q
 self:=fun _ _ _ _ _ st h=>by obtain⟨⟨old,s1⟩,_⟩:=st;exact wpAny_pyIter_enum s1 h
def fH0(K:PySem.W.Frag)(ta:TA):TI:=fun σ H R=>ta σ H fun vs H1=>∃a xs,vs= [.ref a]∧SqL K H1 a xs∧R (Ite K a) H1
section
variable{X:Cx}{Z:XC}
theorem eF0{es:List Expr}{x1:Nat}{tp:Pos}{a:Expr}{ta:TA}{p pos:Pos}(hg:Gl X "enumerate")(hm:X.mg "enumerate" =none)(ha:PA X [a] ta)(hs:starEach [a] X.env= [(false,eval a X.env)])(hbt:bootBuiltins "enumerate" =some (.type "enumerate")):
 PI X (.Tuple es x1 tp) (.Call (.Name "enumerate" p) [a] [] pos) (fH0 X.K ta):=by
 intro pins s σ H R I h
 refine Call_ (aZ3 I hg hm hbt (PyProof.Rows.callWith_type1 (thn (ha pos pins s σ H _ I h) fun us s1 hE1=>hE1.elim fun vs H1 I1 r1 q1=>?_) hs rfl))
 obtain⟨l,xs,rfl,q1,q⟩:=q1
 obtain⟨u1,rfl,ru1⟩:=aE7 r1
 cases ru1
 obtain⟨its,rr,c1,z1⟩:=I1.list q1
 refine call_enumerate_list c1.isList fun g b1 b2 b3 b4=>wpAny_pyIter_enum b1 ?_
 have hne: @Ne Nat (s1.heap.objs.size+1) s1.heap.objs.size:=by lia
 refine⟨s1.heap.objs.size+1, [s1.heap.objs.size+1,s1.heap.objs.size],_,Ite X.K l,H1,rfl,I1.kept (t':=s1.toks) b4,dF4 hne,⟨⟨_,b1⟩,b2⟩,fun b hb=>?_,q⟩
 have hb':s1.heap.objs.size≤b:=by
  simp only[List.mem_cons,List.not_mem_nil,or_false]at hb
  rcases hb with rfl|rfl
  ·exact Nat.le_succ _
  ·exact Nat.le_refl _
 exact I1.fpOk hb' (I1.hok.fresh hb')
variable{tg e:Expr}
open Classical in
noncomputable def ckO(r:Nat)(o:DO):DH→Bool:=fun G=>decide (G[r]? =some o)
def aL1:D→M Src:=fun x=>match x with
 | .tup l=>pure ⟨l,fun _=>true⟩
 | .ref r=>do
   let o ←R4 r
   let l ←listOf o
   pure ⟨l,ckO r o⟩
 |_=>M.stuck
def fH6(c:Wc)(μ:List Addr)(H:Hp)(k:Bool)(a:Addr)(s:Src):Prop:=∀ μ' G' H',Ext μ H μ' H'→J0 c μ' G' H'→s.ck G'=true→∃vs,Sq c.K k H' a vs∧o9 c μ' H' s.items vs
theorem aW6{α:Type}{c:Wc}{μ:List Addr}{H:Hp}{G:DH}{d:D}{v:V}{f:Src→M α}{K:α→List Addr→DH→Hp→Prop}(h:J0 c μ G H)(r:d9 c μ H d v)(p:d8 c Z μ H ((aL1 d >>= f) G) K):
 ∃s k a vs,v= .ref a∧Sq c.K k H a vs∧o9 c μ H s.items vs∧fH6 c μ H k a s∧s.ck G=true∧(∀i,d= .ref i→k=false)∧d8 c Z μ H (f s G) K:=by
 rcases d with _|_|_|_|l|i|_|_<;>try (exact p.elim;done)
 ·
   unfold d9 at r
   obtain⟨a,vs,rfl,q,rl⟩:=r
   exact⟨⟨l,fun _=>true⟩,true,a,vs,rfl,q,rl,fun μ' G' H' x h' _=>⟨vs,x.sqT q,rl.mono x⟩,rfl,(fun i z=>nomatch z),p⟩
 ·
   unfold d9 at r
   obtain⟨a,m,rfl⟩:=r
   have p':d8 c Z μ H ((R4 i >>= fun o=>(listOf o >>= fun l=>(pure ⟨l,ckO i o⟩:M Src)) >>= f) G) K:=by rw[←M.bind_assoc];exact p
   obtain⟨o,g,p2⟩:=Q7 p'
   have ro:=h.obj i o a g m
   have ck:ckO i o G=true:=by unfold ckO;simp[g]
   cases o with
   |lst l=>
     obtain⟨vs,q,rl⟩:=ro
     refine⟨⟨l,ckO i (.lst l)⟩,false,a,vs,rfl,SqL.of q,rl,fun μ' G' H' x h' hck=>?_,ck,(fun _ _=>rfl),p2⟩
     have g':G'[i]? =some (.lst l):=by unfold ckO at hck;simpa using hck
     obtain⟨vs',q',rl'⟩:=h'.obj i _ a g' (cC7 x.pre m)
     exact⟨vs',SqL.of q',rl'⟩
   |rol l=>
     obtain⟨vs,q,rl⟩:=ro
     refine⟨⟨l,ckO i (.rol l)⟩,false,a,vs,rfl,q.sq,rl,fun μ' G' H' x h' hck=>?_,ck,(fun _ _=>rfl),p2⟩
     have g':G'[i]? =some (.rol l):=by unfold ckO at hck;simpa using hck
     obtain⟨vs',q',rl'⟩:=h'.obj i _ a g' (cC7 x.pre m)
     exact⟨vs',q'.sq,rl'⟩
   |dct l=>exact p2.elim
   |rod l=>exact p2.elim
theorem cY5{c:Wc}{μ:List Addr}{H:Hp}{l:List D}{vs:List V}{i:Nat}{d:D}{x:V}(r:o9 c μ H l vs)(h:l[i]? =some d)(hx:vs[i]? =some x):d9 c μ H d x:=by
 obtain⟨v,e,q⟩:=r.get h
 rw[hx]at e
 cases e
 exact q
noncomputable def N8(lo:Int)(n:Nat):List D:=(List.range n).map fun(i:Nat)=>D.int (lo+(i:Int))
def aD9(fs:DSt→M (List D)):DSt→M Src:=fun σ=>do
 match ←fs σ with
 |[.int j]=>if -(2 ^ 62)≤j∧j<2 ^ 62 then pure ⟨N8 0 j.toNat,fun _=>true⟩else M.stuck
 |_=>M.stuck
theorem dD1{c:Wc}{μ:List Addr}{H:Hp}(lo:Int)(n:Nat):ItD c μ H (Itr lo n) ⟨N8 lo n,fun _=>true⟩:=fun μ' G' H' x' h' _ i=>by
 refine⟨fun d hd=>?_,fun hi=>?_⟩
 · have hi:i<n:=by have:=lt_of_get hd;simpa [N8]using this
   have e:d= .int (lo+i):=by
    unfold N8 at hd
    rw[List.getElem?_map,List.getElem?_range hi]at hd
    simp at hd
    exact hd.symm
   subst e
   exact⟨hi,fun x H2 ⟨e1,e2⟩=>by subst e1 e2;exact⟨Ext.refl _ _,h',ofI⟩⟩
 · show n≤i
   simpa [N8]using hi
theorem eJ0{a:Expr}{fs:DSt→M (List D)}{p pos:Pos}(hg:Gl X "range")(hm:X.mg "range" =none)(ha:DA X Z [a] fs)(hs:starEach [a] X.env= [(false,eval a X.env)]):DI X Z tg (.Call (.Name "range" p) [a] [] pos) (aD9 fs):=
 DI.of (dI8 hg hm ha.h hs) fun σ H R hE0=>hE0.elim fun dσ μ G s h p=>⟨dσ,μ,G,s,h,(d8.bind p).mono fun ds μ1 G1 H1 x1 h1 p1 vs rv=>by
  rcases ds with _|⟨_|_|j|_|_|_|_|_,_|⟨_,_⟩⟩<;>dsimp only at p1<;>try exact p1.elim
  · split at p1
    · rename_i hj
      obtain⟨v,t,rfl,r0,e⟩:=rv
      cases e
      exact⟨j,by rw[aK4 r0],hj.1,hj.2,d8.ok p1 h1 _ (dD1 0 _)⟩
    ·exact p1.elim⟩
def bU1(fs:DSt→M (List D)):DSt→M Src:=fun σ=>do
 match ←fs σ with
 |[a,b]=>do
   let s1 ←aL1 a
   let s2 ←aL1 b
   pure ⟨(s1.items.zip s2.items).map fun p=>.tup [p.1,p.2],fun G=>s1.ck G&&s2.ck G⟩
 |_=>M.stuck
def bG7(fs:DSt→M (List D)):DSt→M Src:=fun σ=>do
 match ←fs σ with
 |[.ref r]=>do
   let s ←aL1 (.ref r)
   pure ⟨s.items.zipIdx.map fun p=>.tup [.int ((p.2:Nat):Int),p.1],s.ck⟩
 |_=>M.stuck
theorem cH7{c:Wc}{μ:List Addr}{H:Hp}{G:DH}{q:Addr}{ds:List D}{vs:List V}(h:J0 c μ G H)(hq:H q=none)(r:o9 c μ H ds vs):Ext μ H μ (upd H q (.tup vs))∧J0 c μ G (upd H q (.tup vs))∧d9 c μ (upd H q (.tup vs)) (.tup ds) (.ref q):=by
 have k:Ext μ H μ (upd H q (.tup vs)):=Ext.lay hq _
 refine⟨k,h.same k fun a o e n=>by rw[J7 (K4 e hq)];exact e,?_⟩
 unfold d9
 exact⟨q,vs,rfl,SqT.of R3,r.mono k⟩
theorem eV1{es:List Expr}{x1:Nat}{tp:Pos}{a b:Expr}{fs:DSt→M (List D)}{p pos:Pos}(hg:Gl X "zip")(hm:X.mg "zip" =none)(ha:DA X Z [a,b] fs)(hs:starEach [a,b] X.env= [(false,eval a X.env),(false,eval b X.env)])(hs2:starEach [b] X.env= [(false,eval b X.env)])(hbt:bootBuiltins "zip" =some (.type "zip")):
 DI X Z (.Tuple es x1 tp) (.Call (.Name "zip" p) [a,b] [] pos) (bU1 fs):=
 DI.of (eM5 hg hm ha.h hs hs2 hbt) fun σ H R hE0=>hE0.elim fun dσ μ G s h p=>⟨dσ,μ,G,s,h,(d8.bind p).mono fun ds μ1 G1 H1 x1 h1 p1 vs rv=>by
  rcases ds with _|⟨d1,_|⟨d2,_|⟨_,_⟩⟩⟩<;>dsimp only at p1<;>try exact p1.elim
  · obtain⟨v1,t1,rfl,r1,v2,t2,rfl,r2,e⟩:=rv
    cases e
    obtain⟨s1,k1,a1,w1,rfl,q1,l1,is1,ck1,_,p2⟩:=aW6 h1 r1 p1
    obtain⟨s2,k2,a2,w2,rfl,q2,l2,is2,ck2,_,p3⟩:=aW6 h1 r2 p2
    refine⟨k1,k2,a1,a2,w1,w2,rfl,q1,q2,d8.ok p3 h1 _ fun μ' G' H' x' h' ck' i=>?_⟩
    have ck'':s1.ck G'=true∧s2.ck G'=true:=by simpa using ck'
    obtain⟨u1,q1',l1'⟩:=is1 μ' G' H' x' h' ck''.1
    obtain⟨u2,q2',l2'⟩:=is2 μ' G' H' x' h' ck''.2
    refine⟨fun d hd=>?_,fun hi=>?_⟩
    · rw[List.getElem?_map]at hd
      rcases hz:(s1.items.zip s2.items)[i]? with _|pr
      ·rw[hz]at hd;cases hd
      ·
        rw[hz]at hd
        obtain⟨e1,e2⟩:=pr
        have hd':d= .tup [e1,e2]:=by simpa using hd.symm
        subst hd'
        rw[List.getElem?_zip_eq_some]at hz
        obtain⟨y1,hy1,ry1⟩:=l1'.get hz.1
        obtain⟨y2,hy2,ry2⟩:=l2'.get hz.2
        refine⟨⟨u1,u2,y1,y2,q1',q2',hy1,hy2⟩,fun x H2 ⟨q,z1,z2,hq,ex,eH,f1,f2⟩=>?_⟩
        subst ex eH
        have g1:=f1 u1 q1'
        have g2:=f2 u2 q2'
        rw[hy1]at g1
        rw[hy2]at g2
        cases g1
        cases g2
        exact cH7 h' hq ⟨y1,_,rfl,ry1,y2,_,rfl,ry2,rfl⟩
    · refine⟨u1,u2,q1',q2',?_⟩
      rw[←l1'.length,←l2'.length]
      simp at hi
      lia⟩
theorem eE9{es:List Expr}{x1:Nat}{tp:Pos}{a:Expr}{fs:DSt→M (List D)}{p pos:Pos}(hg:Gl X "enumerate")(hm:X.mg "enumerate" =none)(ha:DA X Z [a] fs)(hs:starEach [a] X.env= [(false,eval a X.env)])(hbt:bootBuiltins "enumerate" =some (.type "enumerate")):
 DI X Z (.Tuple es x1 tp) (.Call (.Name "enumerate" p) [a] [] pos) (bG7 fs):=
 DI.of (eF0 hg hm ha.h hs hbt) fun σ H R hE0=>hE0.elim fun dσ μ G s h p=>⟨dσ,μ,G,s,h,(d8.bind p).mono fun ds μ1 G1 H1 x1 h1 p1 vs rv=>by
  rcases ds with _|⟨_|_|_|_|_|r|_|_,_|⟨_,_⟩⟩<;>dsimp only at p1<;>try exact p1.elim
  · obtain⟨v1,t1,rfl,r1,e⟩:=rv
    cases e
    obtain⟨s1,k1,a1,w1,rfl,q1,l1,is1,ck1,hk,p2⟩:=aW6 h1 r1 p1
    have hk:=hk r rfl
    subst hk
    refine⟨a1,w1,rfl,q1,d8.ok p2 h1 _ fun μ' G' H' x' h' ck' i=>?_⟩
    obtain⟨u1,q1',l1'⟩:=is1 μ' G' H' x' h' ck'
    refine⟨fun d hd=>?_,fun hi=>?_⟩
    · rw[List.getElem?_map,List.getElem?_zipIdx]at hd
      rcases hz:s1.items[i]? with _|e1
      ·rw[hz]at hd;cases hd
      ·
        rw[hz]at hd
        have hd':d= .tup [.int ((i:Nat):Int),e1]:=by simpa using hd.symm
        subst hd'
        obtain⟨y1,hy1,ry1⟩:=l1'.get hz
        refine⟨⟨u1,y1,q1',hy1⟩,fun x H2 ⟨q,z1,hq,ex,eH,f1⟩=>?_⟩
        subst ex eH
        have g1:=f1 u1 q1'
        rw[hy1]at g1
        cases g1
        exact cH7 h' hq ⟨_,_,rfl,ofI,y1,_,rfl,ry1,rfl⟩
    · refine⟨u1,q1',?_⟩
      rw[←l1'.length]
      simpa using hi⟩
end
def aN1:List D→M D:=fun ds=>match ds with
 |[.str z]=>if z.length≤sizeLine then pure (.int z.length)else M.stuck
 |[.tup l]=>pure (.int l.length)
 |[.ref r]=>do
   match ←R4 r with
   | .lst l=>pure (.int l.length)
   | .rol l=>pure (.int l.length)
   | .dct l=>pure (.int l.length)
   | .rod _=>M.stuck
 |_=>M.stuck
def aF9:List D→M D:=fun ds=>match ds with
 |[.tup l]=>pure (.tup l)
 |[.ref r]=>do
   let l ←R4 r >>= listOf
   pure (.tup l)
 |_=>M.stuck
def cL3:List D→M D:=fun ds=>match ds with
 |[.tup l]=>Q5 (.lst l)
 |[.ref r]=>do
   let l ←R4 r >>= listOf
   Q5 (.lst l)
 |_=>M.stuck
def dO2:List D→M D:=fun ds=>match ds with
 |[.int i]=>pure (.int i)
 |[.bl k]=>pure (.int (if k then 1 else 0))
 |_=>M.stuck
noncomputable def aW1:List D→Option (List Int)
 |[]=>some []
 | .int i::r=>(aW1 r).map (i :: ·)
 |_=>none
noncomputable def bF1:List D→Option (List Bool)
 |[]=>some []
 | .bl b::r=>(bF1 r).map (b :: ·)
 |_=>none
def dE5:List D→M D:=fun ds=>match ds with
 |[.ref r]=>do
   let l ←R4 r >>= listOf
   let ns ←aK1 (aW1 l)
   pure (.int ns.sum)
 |_=>M.stuck
def aI2:List D→M D:=fun ds=>match ds with
 |[.ref r]=>do
   let l ←R4 r >>= listOf
   let bs ←aK1 (bF1 l)
   pure (.bl (bs.all id))
 |_=>M.stuck
def cU2:List D→M D:=fun ds=>match ds with
 |[.ref r]=>do
   let l ←R4 r >>= listOf
   let bs ←aK1 (bF1 l)
   pure (.bl (bs.any id))
 |_=>M.stuck
theorem cR5{α:Type}{F:List D→M α}{c:Wc}{Z:XC}{μ:List Addr}{H:Hp}{G:DH}{K:α→List Addr→DH→Hp→Prop}{ds:List D}(p:d8 c Z μ H (F ds G) K)(h0:F []=M.stuck)(h2:∀a b t,F (a::b::t)=M.stuck)(hn:F [.non]=M.stuck)(hb:∀b,F [.bl b]=M.stuck)(hi:∀b,F [.int b]=M.stuck)(hs:∀b,F [.str b]=M.stuck)(ht:∀b,F [.tup b]=M.stuck)(hf:∀b,F [.fn b]=M.stuck)(hy:∀b,F [.ty b]=M.stuck):∃r,ds= [.ref r]:=by
 rcases ds with _|⟨d,_|⟨_,_⟩⟩
 ·rw[h0]at p;exact p.elim
 · rcases d with _|b|b|b|b|b|b|b
   ·rw[hn]at p;exact p.elim
   ·rw[hb]at p;exact p.elim
   ·rw[hi]at p;exact p.elim
   ·rw[hs]at p;exact p.elim
   ·rw[ht]at p;exact p.elim
   ·exact⟨b,rfl⟩
   ·rw[hf]at p;exact p.elim
   ·rw[hy]at p;exact p.elim
 ·rw[h2]at p;exact p.elim
section
variable{X:Cx}{Z:XC}{c:Wc}{μ:List Addr}{H:Hp}{G:DH}
theorem aS1{d:D}{vs:List V}(r:o9 c μ H [d] vs):∃v,vs= [v]∧d9 c μ H d v:=by
 obtain⟨v,t,rfl,q,e⟩:=r
 cases e
 exact⟨v,rfl,q⟩
theorem fO7{d e:D}{vs:List V}(r:o9 c μ H [d,e] vs):∃v w,vs= [v,w]∧d9 c μ H d v∧d9 c μ H e w:=by
 obtain⟨v,t,rfl,q,v',t',rfl,q',z⟩:=r
 cases z
 exact⟨v,v',rfl,q,q'⟩
theorem eS6:aA4 X Z (.builtin "len") aN1:=aA4.of (aB9.or cE1 (aB9.or cF9 dH9)) fun xs H Q hE0=>hE0.elim fun ds μ G rl hr p=>by
 rcases ds with _|⟨_|_|_|z|l|i|_|_,_|⟨_,_⟩⟩<;>try exact p.elim
 all_goals (delta aN1 at p;dsimp only at p)
 · obtain⟨v,rfl,r⟩:=aS1 rl
   split at p
   · rename_i hz
     exact .inr (.inl ⟨z,by rw[aV6 r],hz,d8.ok p hr _ ofI⟩)
   ·exact p.elim
 · obtain⟨v,rfl,r⟩:=aS1 rl
   unfold d9 at r
   obtain⟨a,vs,rfl,q,rl'⟩:=r
   exact .inl ⟨a,vs,rfl,.inr q,by rw[←rl'.length];exact d8.ok p hr _ ofI⟩
 · obtain⟨v,rfl,r⟩:=aS1 rl
   unfold d9 at r
   obtain⟨a,m,rfl⟩:=r
   obtain⟨o,g,p1⟩:=Q7 p
   have ro:=hr.obj i o a g m
   rcases o with l|l|l|l
   ·obtain⟨vs,q,rl'⟩:=ro;exact .inl ⟨a,vs,rfl,.inl (SqL.of q),by rw[←rl'.length];exact d8.ok p1 hr _ ofI⟩
   ·obtain⟨vs,q,rl'⟩:=ro;exact .inl ⟨a,vs,rfl,.inl q.sq,by rw[←rl'.length];exact d8.ok p1 hr _ ofI⟩
   ·obtain⟨kvs,q,rk⟩:=ro;exact .inr (.inr ⟨a,kvs,rfl,q,by rw[←rk.length];exact d8.ok p1 hr _ ofI⟩)
   ·exact p1.elim
theorem aB7{α:Type}{r:Nat}{v:V}{f:List D→M α}{K:α→List Addr→DH→Hp→Prop}(h:J0 c μ G H)(rv:d9 c μ H (.ref r) v)(p:d8 c Z μ H (((R4 r >>= listOf) >>= f) G) K):
 ∃l a vs,v= .ref a∧o9 c μ H l vs∧SqL c.K H a vs∧d8 c Z μ H (f l G) K:=by
 obtain⟨l,a,vs,rfl,rl,p2,hq⟩:=aW7 (d:=.ref r) (f:=f) h rv p
 refine⟨l,a,vs,rfl,rl,?_,p2⟩
 rcases hq with⟨z,_⟩|⟨_,_,_,⟨_,q⟩|⟨_,q⟩⟩
 ·cases z
 ·exact SqL.of q
 ·exact q.sq
theorem dL6:aA4 X Z (.type "tuple") aF9:=aA4.of bW9 fun xs H Q hE0=>hE0.elim fun ds μ G rl hr p=>by
 rcases ds with _|⟨_|_|_|_|l|i|_|_,_|⟨_,_⟩⟩<;>try exact p.elim
 all_goals (delta aF9 at p;dsimp only at p)
 · obtain⟨v,rfl,r⟩:=aS1 rl
   have r':=r
   unfold d9 at r'
   obtain⟨a,vs,rfl,q,rl'⟩:=r'
   exact⟨a,vs,rfl,.inr ⟨q,d8.ok p hr _ r⟩⟩
 · obtain⟨v,rfl,r⟩:=aS1 rl
   obtain⟨l,a,vs,rfl,rl',q,p2⟩:=aB7 hr r p
   exact⟨a,vs,rfl,.inl ⟨q,fun l' hl=>aV4 hr rl' p2 l' hl⟩⟩
theorem eC4:aA4 X Z (.type "list") cL3:=aA4.of cI8 fun xs H Q hE0=>hE0.elim fun ds μ G rl hr p=>by
 rcases ds with _|⟨_|_|_|_|l|i|_|_,_|⟨_,_⟩⟩<;>try exact p.elim
 all_goals (delta cL3 at p;dsimp only at p)
 · obtain⟨v,rfl,r⟩:=aS1 rl
   unfold d9 at r
   obtain⟨a,vs,rfl,q,rl'⟩:=r
   exact⟨a,vs,rfl,.inr q,fun l' hl=>aE9 hr rl' p l' hl⟩
 · obtain⟨v,rfl,r⟩:=aS1 rl
   obtain⟨l,a,vs,rfl,rl',q,p2⟩:=aB7 hr r p
   exact⟨a,vs,rfl,.inl q,fun l' hl=>aE9 hr rl' p2 l' hl⟩
theorem eY1:aA4 X Z (.type "int") dO2:=aA4.of dE7 fun xs H Q hE0=>hE0.elim fun ds μ G rl hr p=>by
 rcases ds with _|⟨_|_|_|_|_|_|_|_,_|⟨_,_⟩⟩<;>try exact p.elim
 all_goals (delta dO2 at p;dsimp only at p)
 · obtain⟨v,rfl,r⟩:=aS1 rl
   exact .inr ⟨_,by rw[bW3 r],d8.ok p hr _ ofI⟩
 · obtain⟨v,rfl,r⟩:=aS1 rl
   exact .inl ⟨_,by rw[aK4 r],d8.ok p hr _ ofI⟩
theorem bY9:∀ {l:List D} {ns:List Int} {vs:List V} {us:List Value},aW1 l=some ns→o9 c μ H l vs→w6 vs us→us.length=ns.length∧∀(i:Nat) (u:Value),us[i]? =some u→∃t,u=Value.int (ns.getD i 0) t
 |[],_,_,_,e,r,q=>by cases e;cases r;cases q;exact⟨rfl,fun i u h=>by simp at h⟩
 |d::ds,ns,_,_,e,r,q=>by
   obtain⟨v,t,rfl,r0,rt⟩:=r
   cases q with
   |cons q0 qt=>
     rcases d with _|_|n|_|_|_|_|_<;>try (cases e;done)
     ·
       replace e:(aW1 ds).map (n :: ·)=some ns:=e
       rcases h:aW1 ds with _|ms
       ·rw[h]at e;exact J1 e
       ·
         rw[h]at e
         cases e
         obtain⟨h1,h2⟩:=bY9 h rt qt
         refine⟨by simp[h1],fun i u hu=>?_⟩
         cases i with
         |zero=>
           simp at hu;subst hu
           rw[aK4 r0]at q0
           exact q0
         |succ i=>simpa using h2 i u (by simpa using hu)
theorem bS4:∀ {l:List D} {bs:List Bool} {vs:List V} {us:List Value},bF1 l=some bs→o9 c μ H l vs→w6 vs us→us.length=bs.length∧∀(i:Nat) (u:Value),us[i]? =some u→u=Value.bool (bs.getD i false)
 |[],_,_,_,e,r,q=>by cases e;cases r;cases q;exact⟨rfl,fun i u h=>by simp at h⟩
 |d::ds,ns,_,_,e,r,q=>by
   obtain⟨v,t,rfl,r0,rt⟩:=r
   cases q with
   |cons q0 qt=>
     rcases d with _|n|_|_|_|_|_|_<;>try (cases e;done)
     ·
       replace e:(bF1 ds).map (n :: ·)=some ns:=e
       rcases h:bF1 ds with _|ms
       ·rw[h]at e;exact J1 e
       ·
         rw[h]at e
         cases e
         obtain⟨h1,h2⟩:=bS4 h rt qt
         refine⟨by simp[h1],fun i u hu=>?_⟩
         cases i with
         |zero=>
           simp at hu;subst hu
           rw[bW3 r0]at q0
           exact q0
         |succ i=>simpa using h2 i u (by simpa using hu)
theorem dJ3(bs:List Bool):((List.range bs.length).all fun i=>bs.getD i false)=bs.all id:=by
 induction bs with
 |nil=>rfl
 |cons b t ih=>rw[List.length_cons,List.range_succ_eq_map,List.all_cons,List.all_map,List.all_cons];simp[Function.comp_def];rw[←ih];simp
theorem dG3(bs:List Bool):((List.range bs.length).any fun i=>bs.getD i false)=bs.any id:=by
 induction bs with
 |nil=>rfl
 |cons b t ih=>rw[List.length_cons,List.range_succ_eq_map,List.any_cons,List.any_map,List.any_cons];simp[Function.comp_def];rw[←ih];simp
theorem bG1{pins:PNS}{σ:St}{s:Shared}{a:Addr}{its:List Value}(hc:X.calm=true)(I:Inv X pins σ H s)(hl:s.heap.IsList a its.toArray){Q:VSP}{E:VSP}
 (h:Walks X.prog X.w X.A.in1 s.heap.objs.size [s.heap.objs.size,a] [s.heap.objs.size] its.toArray.size (fun i v=>its.toArray[i]? =some v) (fun i h=>h.IsListIter s.heap.objs.size a i∧h.IsList a its.toArray)→
   ∀h2:Heap,(h2.IsListIter s.heap.objs.size a 0∧h2.IsList a its.toArray)→(∀b∈ [s.heap.objs.size,a],b<h2.objs.size)→(∀h' tk,(∀b o,b∉ [s.heap.objs.size]→h2.get? b=some o→h'.get? b=some o)→Inv X pins σ H {s with heap:=h',toks:=tk})→Q (.ref s.heap.objs.size) {s with heap:=h2}):
 wpAny (model X.prog X.w) X.A.in1 (pyIter (.ref a)) Q E s:=by
 have hlt:a<s.heap.objs.size:=by obtain⟨_,e,_⟩:=hl;exact Heap.lt_size e
 refine wpAny_pyIter_list hl ?_
 have hh:X.A.in1.handled=none:=I.ok.hd hc
 refine h (Walks.list hh s.heap.objs.size a (Nat.ne_of_lt hlt) its.toArray) _ ⟨⟨_,Heap.get?_push_size _ rfl,rfl,rfl⟩,hl.push _⟩ (fun b hb=>?_) fun h' tk k=>?_
 · rw[Heap.size_push]
   simp only[List.mem_cons,List.not_mem_nil,or_false]at hb
   rcases hb with rfl|rfl
   ·exact Nat.lt_succ_self _
   ·exact Nat.lt_succ_of_lt hlt
 ·exact I.kept fun b o e=>k b o (by simp only[List.mem_singleton];exact Nat.ne_of_lt (Heap.lt_size e)) (Heap.get?_push_of_some _ e)
theorem eR4(hc:X.calm=true):aA4 X Z (.builtin "sum") dE5:=⟨by
 intro pins s σ H xs us Q I r hE0
 obtain⟨ds,μ,G,rl,hr,p⟩:=hE0
 obtain⟨i,rfl⟩:=cR5 (F:=dE5) p rfl (fun a _ _=>by cases a<;>rfl) rfl (fun _=>rfl) (fun _=>rfl) (fun _=>rfl) (fun _=>rfl) (fun _=>rfl) fun _=>rfl
 · obtain⟨v,rfl,rv⟩:=aS1 rl
   obtain⟨u,rfl,ru⟩:=aE7 r
   obtain⟨l,a,vs,rfl,rl',q,p2⟩:=aB7 hr rv p
   cases ru
   obtain⟨ns,en,p3⟩:=aC0 p2
   obtain⟨its,rr,pl,hz⟩:=I.list q
   obtain⟨h1,h2⟩:=bY9 en rl' rr
   refine call_sum_walkG (bG1 hc I pl.isList fun W g hg hb hk=>⟨_,_,_,_,_,_,fun i=>ns.getD i 0,rfl,W,hg,hb,fun i v hv=>h2 i v (by simpa using hv),fun h' tk t' k=>?_⟩)
   refine⟨.int ns.sum,H,hk h' tk k,⟨t',?_⟩,d8.ok p3 hr _ ofI⟩
   have e:=preSum_getD ns its.toArray.size
   rw[e,List.take_of_length_le (by rw[List.size_toArray];lia)]⟩
theorem eQ3(hc:X.calm=true):aA4 X Z (.builtin "all") aI2:=⟨by
 intro pins s σ H xs us Q I r hE0
 obtain⟨ds,μ,G,rl,hr,p⟩:=hE0
 obtain⟨i,rfl⟩:=cR5 (F:=aI2) p rfl (fun a _ _=>by cases a<;>rfl) rfl (fun _=>rfl) (fun _=>rfl) (fun _=>rfl) (fun _=>rfl) (fun _=>rfl) fun _=>rfl
 · obtain⟨v,rfl,rv⟩:=aS1 rl
   obtain⟨u,rfl,ru⟩:=aE7 r
   obtain⟨l,a,vs,rfl,rl',q,p2⟩:=aB7 hr rv p
   cases ru
   obtain⟨bs,en,p3⟩:=aC0 p2
   obtain⟨its,rr,pl,hz⟩:=I.list q
   obtain⟨h1,h2⟩:=bS4 en rl' rr
   refine call_all_walk (bG1 hc I pl.isList fun W g hg hb hk=>⟨_,_,_,_,_,_,fun i=>bs.getD i false,rfl,W,hg,fun i v s' Q' E' hv hq=>?_,fun h' tk k=>?_⟩)
   · rw[h2 i v (by simpa using hv)]
     exact wpAny_truthy_bool hq
   · refine⟨.bl (bs.all id),H,hk h' tk k,?_,d8.ok p3 hr _ ofB⟩
     have e:its.toArray.size=bs.length:=by rw[List.size_toArray];exact h1
     rw[e,dJ3];rfl⟩
theorem eO0(hc:X.calm=true):aA4 X Z (.builtin "any") cU2:=⟨by
 intro pins s σ H xs us Q I r hE0
 obtain⟨ds,μ,G,rl,hr,p⟩:=hE0
 obtain⟨i,rfl⟩:=cR5 (F:=cU2) p rfl (fun a _ _=>by cases a<;>rfl) rfl (fun _=>rfl) (fun _=>rfl) (fun _=>rfl) (fun _=>rfl) (fun _=>rfl) fun _=>rfl
 · obtain⟨v,rfl,rv⟩:=aS1 rl
   obtain⟨u,rfl,ru⟩:=aE7 r
   obtain⟨l,a,vs,rfl,rl',q,p2⟩:=aB7 hr rv p
   cases ru
   obtain⟨bs,en,p3⟩:=aC0 p2
   obtain⟨its,rr,pl,hz⟩:=I.list q
   obtain⟨h1,h2⟩:=bS4 en rl' rr
   refine call_any_walk (bG1 hc I pl.isList fun W g hg hb hk=>⟨_,_,_,_,_,_,fun i=>bs.getD i false,rfl,W,hg,fun i v s' Q' E' hv hq=>?_,fun h' tk k=>?_⟩)
   · rw[h2 i v (by simpa using hv)]
     exact wpAny_truthy_bool hq
   · refine⟨.bl (bs.any id),H,hk h' tk k,?_,d8.ok p3 hr _ ofB⟩
     have e:its.toArray.size=bs.length:=by rw[List.size_toArray];exact h1
     rw[e,dG3];rfl⟩
theorem fE2{x:Str}{n:String}{pos:Pos}(hg:Gl X x)(hm:X.mg x=none)(hv:bootBuiltins x=some (.type n))(hn:x≠ "__name__")(hd:(x==("__debug__" :Str))=false):DE X Z (.Name x pos) (cE (.ty n)):=
 dR2 (v:=.ty n) (eA8 hg hm hv rfl hn hd) fun _ _=>by unfold d9;rfl
end
def aE8:D→M Bool:=fun x=>match x with
 | .non=>pure false
 | .bl b=>pure b
 | .int i=>pure (i != 0)
 | .str y=>if y.length≤sizeLine then pure ((y.length:Int) != 0)else M.stuck
 | .tup l=>pure (!l.isEmpty)
 | .ref r=>do
   match ←R4 r with
   | .lst l=>pure (!l.isEmpty)
   | .rol l=>pure (!l.isEmpty)
   | .dct l=>pure (!l.isEmpty)
   | .rod _=>M.stuck
 |_=>M.stuck
def G9(f:Fe):DSt→M Bool:=fun σ=>do aE8 (←f σ)
section
variable{X:Cx}{Z:XC}{a b c e:Expr}{fa fb fc:Fe}{pos:Pos}
theorem aG0{cc:Wc}{μ:List Addr}{H:Hp}{l:List D}{vs:List V}(r:o9 cc μ H l vs):vs.isEmpty=l.isEmpty:=by
 cases l with
 |nil=>cases r;rfl
 |cons _ _=>obtain⟨_,_,rfl,_⟩:=r;rfl
theorem bU0{cc:Wc}{μ:List Addr}{H:Hp}{l:List (Key×D)}{vs:List (Key×V)}(r:aA7 cc μ H l vs):vs.isEmpty=l.isEmpty:=by
 cases l with
 |nil=>cases r;rfl
 |cons _ _=>obtain⟨_,_,rfl,_⟩:=r;rfl
theorem dU8(ha:DE X Z a fa)(he:∀whole,isTrue a X.env whole= (do let v ←whole;standAt a.pos;holding [v] (truthy v))):DT X Z a (G9 fa):=
 DT.of (dL2 ha.h he) fun σ H Q hE0=>hE0.elim fun dσ μ G s h p=>⟨dσ,μ,G,s,h,(d8.bind p).mono fun d μ1 G1 H1 x1 h1 p1 v rv=>by
  cases d with
  |non=>rw[dL0 rv];exact⟨false,rfl,d8.ok p1 h1⟩
  |bl b=>rw[bW3 rv];exact⟨b,rfl,d8.ok p1 h1⟩
  |int b=>rw[aK4 rv];exact⟨_,rfl,d8.ok p1 h1⟩
  |str y=>
    rw[aV6 rv]
    unfold aE8 at p1
    dsimp only at p1
    split at p1
    ·rename_i hz;exact⟨_,⟨hz,rfl⟩,d8.ok p1 h1⟩
    ·exact p1.elim
  |tup l=>
    unfold d9 at rv
    obtain⟨a,vs,rfl,q,rl⟩:=rv
    exact⟨!vs.isEmpty,.inr (.inl ⟨vs,q,rfl⟩),by rw[aG0 rl];exact d8.ok p1 h1⟩
  |ref r=>
    unfold d9 at rv
    obtain⟨a,m,rfl⟩:=rv
    obtain⟨o,g,p2⟩:=Q7 p1
    have ro:=h1.obj r o a g m
    cases o with
    |lst l=>obtain⟨vs,q,rl⟩:=ro;exact⟨!vs.isEmpty,.inl ⟨vs,SqL.of q,rfl⟩,by rw[aG0 rl];exact d8.ok p2 h1⟩
    |rol l=>obtain⟨vs,q,rl⟩:=ro;exact⟨!vs.isEmpty,.inl ⟨vs,q.sq,rfl⟩,by rw[aG0 rl];exact d8.ok p2 h1⟩
    |dct l=>obtain⟨vs,q,rl⟩:=ro;exact⟨!vs.isEmpty,.inr (.inr ⟨vs,q,rfl⟩),by rw[bU0 rl];exact d8.ok p2 h1⟩
    |rod l=>exact p2.elim
  |_=>exact p1.elim⟩
def cG1(o o':D→D→M D)(fa fb fc:Fe):Fe:=fun σ=>do
 let x ←fa σ
 let y ←fb σ
 if ←dI6 (←o x y)then o' y (←fc σ)else pure (.bl false)
theorem dJ9{op op':CmpOp}{o o':D→D→M D}(ho:OpD X Z (compareOp op) o)(ho':OpD X Z (compareOp op') o')(ha:DE X Z a fa)(hb:DE X Z b fb)(hc:DE X Z c fc)
 (hm:lastMarks [op,op'] [b,c]=false):DE X Z (.Compare a [op,op'] [b,c] pos) (cG1 o o' fa fb fc):=
 DE.of (dM0 ho.h ho'.h ha.h hb.h hc.h hm) fun σ H Q hE0=>hE0.elim fun dσ μ G s h p=>⟨dσ,μ,G,s,h,(d8.bind p).mono fun x μ1 G1 H1 x1 h1 p1 v rv=>
  ⟨dσ,μ1,G1,s.mono x1,h1,(d8.bind p1).mono fun y μ2 G2 H2 x2 h2 p2 u ru=>⟨x,y,μ2,G2,rv.mono x2,ru,h2,(d8.bind p2).mono fun z μ3 G3 H3 x3 h3 p3 w rw'=>by
   obtain⟨k,rfl,p4⟩:=bX4 p3
   refine⟨k,bW3 rw',?_⟩
   cases k with
   |true=>exact⟨dσ,μ3,G3,s.mono (x1.trans (x2.trans x3)),h3,(d8.bind p4).mono fun t μ4 G4 H4 x4 h4 p5 q rq=>⟨y,t,μ4,G4,ru.mono (x3.trans x4),rq,h4,p5⟩⟩
   |false=>exact d8.ok p4 h3 _ ofB⟩⟩⟩
end
noncomputable def bN0(osc scope:Scope)(N XN:List Str)(caps:List (Option Nat)):Bool:=
 decide (scope.kind= .function)&&scope.names.all (fun y=>decide (y.2≠ .cell))&&scope.names.all (fun y=>decide (y.2= .local→scope.names.lookup y.1=some .local)) &&
 scope.names.all (fun y=>decide (y.2= .free→(osc.names.lookup y.1=some .cell∨osc.names.lookup y.1=some .free)))&&scope.names.all (fun y=>decide (y.2= .free→scope.names.lookup y.1=some .free)) &&
 decide (caps.length=N.length)&&(List.range caps.length).all fun i=>match caps[i]? with
  |some (some j)=>match N[i]?,XN[j]? with
    |some x,some y=>decide (x=y)&&decide ((x,NameKind.free)∈scope.names)
    |_,_=>false
  |_=>true
theorem aG3.of{X:Cx}{osc scope:Scope}{N XN:List Str}{caps:List (Option Nat)}(h:bN0 osc scope N XN caps=true)(hs:X.env.scope=osc)(hN:X.N=XN):aG3 X scope N caps:=by
 unfold bN0 at h
 simp only[Bool.and_eq_true,decide_eq_true_eq,List.all_eq_true]at h
 obtain⟨⟨⟨⟨⟨⟨h1,h2⟩,h3⟩,h4⟩,h5⟩,h6⟩,h7⟩:=h
 refine⟨h1,h2,h3,fun y hy e=>?_,h5,h6,fun i j e=>?_⟩
 · have:=h4 y hy e
   show X.env.scope.names.lookup y.1=_∨X.env.scope.names.lookup y.1=_
   rw[hs];exact this
 · have hi:i∈List.range caps.length:=by rw[List.mem_range];exact lt_of_get e
   have q:=h7 i hi
   simp only[e]at q
   rw[hN]
   split at q
   · rename_i x y e1 e2
     simp only[Bool.and_eq_true,decide_eq_true_eq]at q
     exact⟨x,e1,by rw[e2,q.1],q.2⟩
   ·exact aM7 q
def t8(m:Nat)(fb:Fs):List D→M D:=fun ds=>do
 match ←fb (ds.map some++List.replicate (m-ds.length) none) with
 | .nx _=>pure .non
 | .rt d=>pure d
 |_=>M.stuck
structure FF(K:PySem.W.Frag)(mg:Str→Option Value)(x:Str)(st:Stmt)(ps:List Str)(f:Addr)(fd:FuncData):Prop where
 F:Fun K x x st f fd
 b:bC6 K fd ps []
 m:mg x=some (.ref f)
theorem dH0{c:Wc}{μ:List Addr}{H:Hp}{N:List Str}{ds:List D}{vs:List V}(r:o9 c μ H ds vs):N5 c μ H (ds.map some++List.replicate (N.length-ds.length) none) (L2.start N vs):=by
 unfold L2.start
 rw[r.length]
 refine⟨by simp[r.length],fun i d e=>?_⟩
 by_cases hi:i<ds.length
 · rw[List.getElem?_append_left (by simpa using hi),List.getElem?_map]at e
   have hd:ds[i]? =some d:=by
    cases h:ds[i]? with
    |none=>rw[h]at e;exact J1 e
    |some d'=>rw[h]at e;simpa using e
   obtain⟨v,hv,rv⟩:=r.get hd
   refine⟨v,?_,rv⟩
   rw[List.getElem?_append_left (by simp;rw[←r.length];exact hi),List.getElem?_map,hv]
   rfl
 · rw[List.getElem?_append_right (by simpa using hi),List.getElem?_replicate]at e
   split at e<;>cases e
theorem R1{P:Program}{w:World}{K:PySem.W.Frag}{mg:Str→Option Value}{base:Heap}{x:Str}{st:Stmt}{f:Addr}{fd:FuncData}{N ps:List Str}{k n m:Nat}{fb:Fs}(F:FF K mg x st ps f fd)(S:m7 N ps (j6 st))(hn:ps.length=n)(hm:N.length=m)
 (hbody:∀(cdv:Value) (A:Around) (outer:List Env) (s:Shared) (H:Hp) (E:XK),aA5 k (A.deeper (envOfC x (j6 st) s.heap.objs.size f cdv))→DB (cO0 CX0 P w K mg base N x (j6 st) f cdv A outer s H E).nox ZF (V8 st) fb):
 J8 P w K mg base CX0 (k+1) f fd ps (spD ⟨K,mg⟩ n (t8 m fb)):=by
 refine F.F.ok S (fun vs H Q E h=>by rw[hn];exact h.1) fun cdv A outer s H vs Q E hr h=>⟨_,(hbody cdv A outer s H E hr).h,?_⟩
 obtain⟨hl,ds,μ,G,rl,hG,p⟩:=h
 subst hm
 refine⟨_,μ,G,dH0 rl,hG,(d8.bind p).mono fun fl μ1 G1 H1 x1 h1 p1=>?_⟩
 cases fl with
 |nx dσ=>exact fun σ _=>d8.ok p1 h1 _ ofN
 |rt d=>exact fun v rv=>d8.ok p1 h1 v rv
 |bk _=>exact p1.elim
 |ct _=>exact p1.elim
def dC7(K:PySem.W.Frag):Sp:=fun vs H Q _=>∃(a:Addr) (ns:List Int),vs= [.ref a]∧SqL K H a (ns.map V.int)∧dX5 H∧ns.length≤63∧∀H',Q (.bl true) H'
theorem cJ2{c:Wc}{μ:List Addr}{H:Hp}:∀ns:List Int,o9 c μ H (ns.map D.int) (ns.map V.int)
 |[]=>rfl
 |n::t=>⟨.int n,_,rfl,ofI,cJ2 t⟩
theorem eQ5{P:Program}{w:World}{K:PySem.W.Frag}{mg:Str→Option Value}{base:Heap}{f:Addr}{fd:FuncData}{k:Nat}{F:List D→M D}(hF:J8 P w K mg base CX0 k f fd ["script"] (spD ⟨K,mg⟩ 1 F))
 (pure:∀ns:List Int,ns.length≤63→∃G',F [.ref 0] [.rol (ns.map D.int)]=some (.ok (.bl true),G')):J8 P w K mg base CX0 k f fd ["script"] (dC7 K):=
 hF.imp fun vs H Q E h=>by
  obtain⟨a,ns,rfl,hS,hO,hl,q⟩:=h
  obtain⟨G',e⟩:=pure ns hl
  refine⟨rfl, [.ref 0], [a], [.rol (ns.map D.int)],⟨.ref a, [],rfl,by unfold d9;exact⟨a,rfl,rfl⟩,rfl⟩,⟨rfl,fun i j b e1 e2=>?_,fun i o b e1 e2=>?_⟩,?_⟩
  · have h1:=lt_of_get e1
    have h2:=lt_of_get e2
    simp at h1 h2
    left;lia
  · have h1:=lt_of_get e2
    simp at h1
    subst h1
    have e1':o= .rol (ns.map D.int):=by simpa using e1.symm
    have e2':b=a:=by simpa using e2.symm
    subst e1' e2'
    refine⟨ns.map V.int,?_,cJ2 ns⟩
    rcases hS with(hS|⟨o,hS⟩)|hS
    · rcases hO b with z|⟨o,xs,z⟩
      ·rw[z]at hS;exact J1 hS
      ·rw[z]at hS;cases hS
    ·exact .inl ⟨o,hS⟩
    ·exact .inr (.inr hS)
  · rw[e]
    exact fun μ' H' _ _ v rv=>by rw[bW3 rv];exact q H'
theorem eZ1:bootBuiltins "len" =some (.builtin "len"):=by decide +kernel
theorem bW5:bootBuiltins "isinstance" =some (.builtin "isinstance"):=by decide +kernel
theorem eP5:bootBuiltins "all" =some (.builtin "all"):=by decide +kernel
theorem eT2:bootBuiltins "any" =some (.builtin "any"):=by decide +kernel
theorem eS2:bootBuiltins "sum" =some (.builtin "sum"):=by decide +kernel
theorem dH6:bootBuiltins "sorted" =some (.builtin "sorted"):=by decide +kernel
theorem dM3:bootBuiltins "tuple" =some (.type "tuple"):=by decide +kernel
theorem eG5:bootBuiltins "list" =some (.type "list"):=by decide +kernel
theorem eO1:bootBuiltins "int" =some (.type "int"):=by decide +kernel
theorem eY3:bootBuiltins "str" =some (.type "str"):=by decide +kernel
theorem eH7:bootBuiltins "dict" =some (.type "dict"):=by decide +kernel
theorem eY0:bootBuiltins "zip" =some (.type "zip"):=by decide +kernel
theorem bE7:bootBuiltins "enumerate" =some (.type "enumerate"):=by decide +kernel
end DL
namespace DL
open PySem L2
noncomputable def Wp{α:Type}(m:M α)(G:DH)(Q:α→DH→Prop):Prop:=∃a G',m G=some (.ok a,G')∧Q a G'
section
variable{α β:Type}{G:DH}{Q Q':α→DH→Prop}
theorem Wp.mono{m:M α}(h:Wp m G Q)(k:∀a G',Q a G'→Q' a G'):Wp m G Q':=let ⟨a,G',e,q⟩:=h;⟨a,G',e,k a G' q⟩
theorem j9{a:α}:Wp (pure a) G Q↔Q a G:=by
 constructor
 · rintro⟨b,G',e,q⟩
   cases e
   exact q
 ·exact fun q=>⟨a,G,rfl,q⟩
theorem aK9:Wp (M.stuck:M α) G Q↔False:=by
 constructor
 · rintro⟨b,G',e,q⟩
   exact J1 e
 ·exact False.elim
theorem m5{m:M β}{f:β→M α}:Wp (m >>= f) G Q↔Wp m G fun a G1=>Wp (f a) G1 Q:=by
 constructor
 · rintro⟨a,G',e,q⟩
   rw[M.bind_eq]at e
   match h:m G,e with
   |some (.ok b,G1),e=>exact⟨b,G1,h,a,G',e,q⟩
 · rintro⟨b,G1,e,a,G',e',q⟩
   exact⟨a,G',by rw[M.bind_ok e];exact e',q⟩
theorem bC1{m:M α}{a:α}{G':DH}(h:m G=some (.ok a,G')):Wp m G Q↔Q a G':=⟨fun⟨b,G2,e,q⟩=>by rw[h]at e;cases e;exact q,fun q=>⟨a,G',h,q⟩⟩
theorem aQ1{o:Option α}:Wp (aK1 o) G Q↔∃a,o=some a∧Q a G:=by
 rcases o with _|a
 ·
   constructor
   · rintro⟨_,_,e,_⟩
     exact J1 e
   · rintro⟨_,e,_⟩
     exact J1 e
 ·
   constructor
   · rintro⟨_,_,e,q⟩
     cases e
     exact⟨_,rfl,q⟩
   · rintro⟨_,e,q⟩
     cases e
     exact⟨_,_,rfl,q⟩
theorem T7{r:Nat}{Q:DO→DH→Prop}:Wp (R4 r) G Q↔∃o,G[r]? =some o∧Q o G:=by
 constructor
 · rintro⟨a,G',e,q⟩
   delta R4 at e
   rcases h:G[r]? with _|o
   ·rw[h]at e;exact J1 e
   ·rw[h]at e;cases e;exact⟨_,rfl,q⟩
 · rintro⟨o,e,q⟩
   refine⟨o,G,?_,q⟩
   delta R4
   rw[e]
theorem aA8{o:DO}{Q:DPP}:Wp (Q5 o) G Q↔Q (.ref G.length) (G++[o]):=bC1 rfl
theorem bQ6{r:Nat}{o:DO}{Q:Unit→DH→Prop}:Wp (bL4 r o) G Q↔Q () (G.set r o):=bC1 rfl
end
section
variable{G:DH}{σ:DSt}{Q:DPP}{a b c:Fe}{t u:DSt→M Bool}{P:Fl→DH→Prop}{B:Bool→DH→Prop}
theorem aB6{i:Nat}:Wp (c7 i σ) G Q↔∃d,σ[i]? =some (some d)∧Q d G:=by
 constructor
 · rintro⟨d,G',e,q⟩
   delta c7 at e
   rcases h:σ[i]? with _|o
   ·rw[h]at e;exact J1 e
   ·
     rw[h]at e
     rcases o with _|d'
     ·exact J1 e
     ·cases e;exact⟨_,rfl,q⟩
 · rintro⟨d,h,q⟩
   exact⟨d,G,by delta c7;rw[h],q⟩
theorem cN0{d:D}:Wp (cE d σ) G Q↔Q d G:=j9
theorem aI6{o:D→D→M D}:Wp (d7 o a b σ) G Q↔Wp (a σ) G fun x G1=>Wp (b σ) G1 fun y G2=>Wp (o x y) G2 Q:=by unfold d7;simp only[m5]
theorem fF7{o:D→M D}:Wp (unE o a σ) G Q↔Wp (a σ) G fun x G1=>Wp (o x) G1 Q:=by unfold unE;simp only[m5]
theorem aP5{α:Type}{k:Bool}{m n:M α}{R:α→DH→Prop}:Wp (if k=true then m else n) G R↔if k=true then Wp m G R else Wp n G R:=by cases k<;>exact Iff.rfl
theorem bM7{d:D}:Wp (dI6 d) G B↔∃k,d= .bl k∧B k G:=by
 constructor
 · rintro⟨k,G',e,q⟩
   rcases d with _|b|_|_|_|_|_|_<;>try (cases e;done)
   ·cases e;exact⟨_,rfl,q⟩
 · rintro⟨k,e,q⟩
   subst e
   exact⟨k,G,rfl,q⟩
theorem cG0:Wp (bG4 a σ) G Q↔Wp (a σ) G fun x G1=>∃k,x= .bl k∧Q (.bl (!k)) G1:=by unfold bG4;simp only[m5,bM7,j9]
theorem bH5:Wp (ifE t a b σ) G Q↔Wp (t σ) G fun k G1=>if k=true then Wp (a σ) G1 Q else Wp (b σ) G1 Q:=by unfold ifE;simp only[m5,aP5]
theorem bM1:Wp (J2 a σ) G B↔Wp (a σ) G fun x G1=>∃k,x= .bl k∧B k G1:=by unfold J2;simp only[m5,bM7]
theorem aH1:Wp (G9 a σ) G B↔Wp (a σ) G fun x G1=>Wp (aE8 x) G1 B:=by unfold G9;simp only[m5]
theorem dZ7:Wp (aH4 t u σ) G B↔Wp (t σ) G fun k G1=>if k=true then Wp (u σ) G1 B else B false G1:=by unfold aH4;simp only[m5,aP5,j9]
theorem dO7:Wp (orT t u σ) G B↔Wp (t σ) G fun k G1=>if k=true then B true G1 else Wp (u σ) G1 B:=by unfold orT;simp only[m5,aP5,j9]
theorem bD1:Wp (aJ2 t σ) G B↔Wp (t σ) G fun k G1=>B (!k) G1:=by unfold aJ2;simp only[m5,j9]
variable{R:List D→DH→Prop}{fs:DSt→M (List D)}
theorem t6:Wp (q11 σ) G R↔R [] G:=j9
theorem X7:Wp (q10 a fs σ) G R↔Wp (a σ) G fun x G1=>Wp (fs σ) G1 fun xs G2=>R (x::xs) G2:=by unfold q10;simp only[m5,j9]
theorem aF5{F:List D→M D}:Wp (q12 F fs σ) G Q↔Wp (fs σ) G fun ds G1=>Wp (F ds) G1 Q:=by unfold q12;simp only[m5]
theorem cE8{α:Type}{m:M α}{R:α→DH→Prop}:Wp (noX m) G R↔Wp m G R:=by
 constructor
 · rintro⟨x,G',e,q⟩
   delta noX at e
   rcases h:m G with _|p
   ·rw[h]at e;exact J1 e
   ·
     rw[h]at e
     obtain⟨_|y,G1⟩:=p
     ·exact J1 e
     ·cases e;exact⟨_,_,h,q⟩
 · rintro⟨x,G',e,q⟩
   exact⟨x,G',by delta noX;rw[e],q⟩
theorem Z6{n:Nat}{F:List D→M D}{ds:List D}:Wp (fnX n F ds) G Q↔ds.length=n∧Wp (F ds) G Q:=by
 unfold fnX
 by_cases h:ds.length=n
 ·rw[if_pos h,cE8];exact⟨fun q=>⟨h,q⟩,fun q=>q.2⟩
 ·rw[if_neg h];exact⟨fun q=>(aK9.mp q).elim,fun q=>(h q.1).elim⟩
theorem W2:Wp (J4 fs σ) G Q↔Wp (fs σ) G fun xs G1=>xs.length≤sizeLine∧Q (.tup xs) G1:=by
 unfold J4
 simp only[m5]
 constructor
 · rintro⟨xs,G1,e,q⟩
   refine⟨xs,G1,e,?_⟩
   by_cases h:xs.length≤sizeLine
   ·rw[if_pos h]at q;exact⟨h,j9.mp q⟩
   ·rw[if_neg h]at q;exact(aK9.mp q).elim
 · rintro⟨xs,G1,e,h,q⟩
   exact⟨xs,G1,e,by dsimp only;rw[if_pos h];exact j9.mpr q⟩
theorem aM1:Wp (aA6 fs σ) G Q↔Wp (fs σ) G fun xs G1=>xs.length≤sizeLine∧Q (.ref G1.length) (G1++[.lst xs]):=by
 unfold aA6
 simp only[m5]
 constructor
 · rintro⟨xs,G1,e,q⟩
   refine⟨xs,G1,e,?_⟩
   by_cases h:xs.length≤sizeLine
   ·rw[if_pos h]at q;exact⟨h,aA8.mp q⟩
   ·rw[if_neg h]at q;exact(aK9.mp q).elim
 · rintro⟨xs,G1,e,h,q⟩
   exact⟨xs,G1,e,by dsimp only;rw[if_pos h];exact aA8.mpr q⟩
variable{f g:Fs}{gg:Fg}
theorem K1:Wp (t7 σ) G P↔P (.nx σ) G:=j9
theorem m8:Wp (o4 f g σ) G P↔Wp (f σ) G fun fl G1=>match fl with
 | .nx σ'=>Wp (g σ') G1 P
 |r=>P r G1:=by
 delta o4
 refine Iff.trans m5 ?_
 constructor
 · rintro⟨fl,G1,e,q⟩
   refine⟨fl,G1,e,?_⟩
   cases fl<;>first
    |exact q
    |exact j9.mp q
 · rintro⟨fl,G1,e,q⟩
   refine⟨fl,G1,e,?_⟩
   cases fl<;>first
    |exact q
    |exact j9.mpr q
theorem bA3:Wp (o7 a σ) G P↔Wp (a σ) G fun d G1=>P (.rt d) G1:=by unfold o7;simp only[m5,j9]
theorem cD5:Wp (bI7 a σ) G P↔Wp (a σ) G fun _ G1=>P (.nx σ) G1:=by unfold bI7;simp only[m5,j9]
theorem bY1:Wp (ifS t f g σ) G P↔Wp (t σ) G fun k G1=>if k=true then Wp (f σ) G1 P else Wp (g σ) G1 P:=by unfold ifS;simp only[m5,aP5]
theorem aS4:Wp (N7 a gg σ) G P↔Wp (a σ) G fun d G1=>Wp (gg d σ) G1 fun σ' G2=>P (.nx σ') G2:=by unfold N7;simp only[m5,j9]
theorem U0{i:Nat}{d:D}{S:DSt→DH→Prop}:Wp (q13 i d σ) G S↔S (σ.set i (some d)) G:=j9
theorem aW8{m:Nat}{ds:List D}:Wp (t8 m f ds) G Q↔Wp (f (ds.map some++List.replicate (m-ds.length) none)) G fun fl G1=>match fl with
 | .nx _=>Q .non G1
 | .rt d=>Q d G1
 |_=>False:=by
 delta t8
 refine Iff.trans m5 ?_
 constructor
 · rintro⟨fl,G1,e,q⟩
   refine⟨fl,G1,e,?_⟩
   cases fl<;>first
    |exact j9.mp q
    |exact aK9.mp q
 · rintro⟨fl,G1,e,q⟩
   refine⟨fl,G1,e,?_⟩
   cases fl<;>first
    |exact j9.mpr q
    |exact aK9.mpr q
noncomputable def fC2(o:Option Bool)(g:Bool→Bool)(G:DH):Option (Except Str D×DH):=match o with
 |some b=>some (.ok (.bl (g b)),G)
 |none=>none
theorem bN6{m:M D}{o:Option Bool}{g:Bool→Bool}(h:m G=fC2 o g G):Wp m G Q↔∃k,o=some k∧Q (.bl (g k)) G:=by
 unfold Wp
 rw[h]
 rcases o with _|k
 ·
   constructor
   · rintro⟨_,_,e,_⟩
     exact J1 e
   · rintro⟨_,e,_⟩
     exact J1 e
 ·
   constructor
   · rintro⟨_,_,e,q⟩
     cases e
     exact⟨_,rfl,q⟩
   · rintro⟨_,e,q⟩
     cases e
     exact⟨_,_,rfl,q⟩
theorem bK2{x y:D}:Wp (eqD x y) G Q↔∃k,eqN 40 G x y=some k∧Q (.bl k) G:=bN6 (g:=id) rfl
theorem bQ0{x y:D}:Wp (neD x y) G Q↔∃k,eqN 40 G x y=some k∧Q (.bl (!k)) G:=bN6 (g:=not) rfl
theorem dV0{x y:D}:Wp (ltD x y) G Q↔∃k,ltN 40 G x y=some k∧Q (.bl k) G:=bN6 (g:=id) rfl
theorem cB3{d:D}{n:String}{T:Ty}(hT:Ty.of n=some T):Wp (o5 [d,.ty n]) G Q↔∃k,aS9 G d=some k∧Q (.bl (k.is T)) G:=by
 have e:o5 [d,.ty n] G=match aS9 G d with|some k=>some (.ok (.bl (k.is T)),G)|none=>none:=by
  delta o5
  dsimp only
  rw[hT]
  cases aS9 G d<;>rfl
 unfold Wp
 rw[e]
 rcases aS9 G d with _|k
 ·
   constructor
   · rintro⟨_,_,e,_⟩
     exact J1 e
   · rintro⟨_,e,_⟩
     exact J1 e
 ·
   constructor
   · rintro⟨_,_,e,q⟩
     cases e
     exact⟨_,rfl,q⟩
   · rintro⟨_,e,q⟩
     cases e
     exact⟨_,_,rfl,q⟩
end
end DL
namespace DL
open PySem PySem.Spec L2
open PyProof.Rows hiding St
section
variable{X:Cx}{Z:XC}{elt tg iter:Expr}{ifs:List Expr}{scope:Scope}{pos:Pos}{N:List Str}{caps:List (Option Nat)}{it:DSt→M Src}{gg:Fg}{tt:DSt→M Bool}{fe:Fe}
theorem dS4{y:Str}{py spos:Pos}{g2:Fg}(hc:X.calm=true)(hi:DI X Z tg iter it)(k:aG3 X scope N caps)
 (hg:∀C s H ex,DG (T5 X scope N C s H ex) ZF tg gg) (ht:∀C s H ex,DTs (T5 X scope N C s H ex) ZF ifs tt) (he:∀C s H ex,DE (T5 X scope N C s H ex) ZF elt fe)
 (hs:∀x,foldedSetIterable iter X.env x=pure x) (hgo:DG X Z (.Name y py) g2) (hsw:swapsWith (.ListComp elt [⟨tg,iter,ifs,0⟩] scope pos) (some (.Name y py)) spos.line X.env=pure true):
 DS X Z (.Assign [.Name y py] (.ListComp elt [⟨tg,iter,ifs,0⟩] scope pos) spos) (N7 (M8 it caps gg tt fe) g2):=by
 refine⟨?_⟩
 intro pins s σ H En I hE0
 refine hE0.elim fun dσ μ G sr hr p0=>?_
 obtain⟨Q,hQ,p⟩:∃Q:VK,(∀v H',Q v H'→bX7 (wc X) Z g2 v σ H' En.nx)∧d8 (wc X) Z μ H (M8 it caps gg tt fe dσ G) fun d μ' _ H'=>∀v,d9 (wc X) μ' H' d v→Q v H':=
  ⟨fun v H'=>bX7 (wc X) Z g2 v σ H' En.nx,fun _ _ z=>z,(d8.bind p0).mono fun d μ1 G1 H1 x' h1 p1 v rv=>⟨d,dσ,μ1,G1,rv,sr.mono x',h1,(d8.bind p1).mono fun dσ2 μ2 G2 H2 x2 h2 p2 σ2 s2=>d8.ok p2 h2 σ2 s2⟩⟩
 rw[exec_Assign_Name_used _ _ _ _ hsw]
 refine wpAny_bind (wpAny_standAt (wpAny_bind ?_))
 show wpAny _ X.A (do let _ ←comprehension (.ListComp elt [⟨tg,iter,ifs,0⟩] scope pos) scope X.env _ (newList []) false (eval iter X.env) (some (assign (.Name y py) X.env))) _ _ s
 refine wpAny_bind (wpAny_mono (cA0 (use:=some (assign (.Name y py) X.env)) (PQ:=fun _ s'=>SP X pins En .next s') hc hi k hg ht he hs I sr hr p fun DD C s4 H' m o hn fin hCn hf q9=>?_) (fun _ s' hq=>wpAny_pure (wpAny_pure hq)) fun _ _ e=>e)
 have fC:∀ {H9:Hp},H9 C=none→∀b∈ [C],aS0 X pins H9 b:=fun {H9} hn9 b hb=>by
  rw[List.mem_singleton]at hb
  subst hb
  exact hf H9 hn9
 obtain⟨oC,zC1,zC2,hoC,zC3⟩:=id hn
 have I5:=(fin s4.heap ⟨rfl,fun _ _=>rfl⟩).pinned (fp:= [C]) (fC hCn) (fun b hb=>by
  rw[List.mem_singleton]at hb
  subst hb
  exact⟨oC,hoC,fun v z=>by first|(rw[zC3.1]at z;cases z)|(rw[zC3.2.1]at z;cases z)⟩)
 refine thn (hgo.h _ s4 σ H' (.ref DD) (.ref DD) _ I5 rfl (hQ _ _ q9)) fun _ s5 ⟨σ5,H5,I6,q6⟩=>?_
 obtain⟨g5,g5n,_⟩:=I6.pin (C,oC) (List.mem_append_right _ (List.mem_append_right _ (aI7 (by simp) hoC)))
 refine⟨m,hn.at' (fun o e=>by rw[hoC]at e;cases e;exact g5),fun h'' sb=>⟨σ5,H5,aQ6 (t':=s5.toks) I6.unpinned (fC g5n) fun b o hb e=>(sb.2 b (by simpa using hb)).trans e,q6⟩⟩
end
noncomputable def aU1:List D→Option (List Str)
 |[]=>some []
 | .str x::r=>(aU1 r).map (x :: ·)
 |_=>none
noncomputable def K8:List (Key×D)→Option (List Str)
 |[]=>some []
 |(.inr x,_)::r=>(K8 r).map (x :: ·)
 |_=>none
noncomputable def leS(a b:Str):Bool:= !decide (b.cps.toList<a.cps.toList)
def aK2(l:List Str):List Str:=l.mergeSort leS
theorem bM3{a b:Str}:leS a b=true↔a.cps.toList≤b.cps.toList:=by unfold leS;simp
theorem bI0(a b c:Str)(h1:leS a b=true)(h2:leS b c=true):leS a c=true:=by
 rw[bM3]at *;exact List.le_trans h1 h2
theorem bY4(a b:Str):(leS a b||leS b a)=true:=by
 rw[Bool.or_eq_true,bM3,bM3];exact List.le_total _ _
theorem bD2{a b:Str}(h1:leS a b=true)(h2:leS b a=true):a=b:=by
 rw[bM3]at *
 have e:a.cps.toList=b.cps.toList:=List.le_antisymm h1 h2
 cases a;cases b
 congr 1
 exact Array.toList_inj.mp e
theorem bY2:∀(l:List Str) (p:Str),risingS p l=true→(p::l).Pairwise fun a b=>leS a b=true
 |[],p,_=>by simp
 |x::r,p,h=>by
   unfold risingS at h
   rw[Bool.and_eq_true]at h
   have ih:=bY2 r x h.2
   have hpx:leS p x=true:=by unfold leS;rw[←ltCps_eq];exact h.1
   refine List.pairwise_cons.mpr ⟨fun y hy=>?_,ih⟩
   rcases List.mem_cons.mp hy with rfl|hy
   ·exact hpx
   ·exact bI0 _ _ _ hpx ((List.pairwise_cons.mp ih).1 y hy)
theorem cM5{l l':List Str}(hp:l'.Perm l)(hs:sortedS l'=true):l'=aK2 l:=by
 have h1:l'.Pairwise fun a b=>leS a b=true:=by
  rcases l' with _|⟨x,r⟩
  ·simp
  ·exact bY2 r x hs
 have h2:(aK2 l).Pairwise fun a b=>leS a b=true:=List.pairwise_mergeSort bI0 bY4 l
 exact List.Perm.eq_of_pairwise (fun a b _ _ h1 h2=>bD2 h1 h2) h1 h2 (hp.trans (List.mergeSort_perm l leS).symm)
section
variable{prog:Program}{w:World}{A:Around}{E:VSP}{s:Shared}{T:String}{r d:Addr}{n:Nat}{P:Nat→Value→Prop}{OK:Heap→Prop}{Q:VSP}
theorem cW0(K:PySem.W.KdlSrc prog w T r d n P OK)(hh:A.handled=none)(hok:OK s.heap)(hn:n<64){ss:List Str}(hP:∀vs:List Value,vs.length=n→(∀(j:Nat) (v:Value),vs[j]? =some v→P j v)→StrsAre vs ss)
 (h:∀(h1 h':Heap) (tk e:Nat) (out:List Value) (ss':List Str),(∀b o,s.heap.get? b=some o→h1.get? b=some o)→(∀b o,h1.get? b=some o→h'.get? b=some o)→h'.get? h1.objs.size=some (seqObj "list" out.toArray e)→StrsAre out ss'→ss'.Perm ss→sortedS ss'=true→Q (.ref h1.objs.size) {s with heap:=h',toks:=tk}):
 wpAny (model prog w) A (call (.builtin "sorted") [.ref r]) Q E s:=by
 have hz:n≤sizeLine:=Nat.le_trans (Nat.le_of_lt hn) (by decide)
 refine Calls.call_function_entry kind_sorted plain_sorted entry_sorted (args_sorted1 _) ?_
 unfold Builtin.«sorted»
 refine wpAny_bind (m:=checkCount "sorted" 1 1 _) (wpAny_pure ?_)
 refine wpAny_bind (PySem.W.kdu_collect (A:=A.in1) K hh hok hz fun h1 tk acc hk hacc=>?_)
 have hl:acc.toList.length=n:=by rw[Array.length_toList];exact hacc.1
 refine wpAny_bind (wpAny_newList ?_ (by rw[hl];exact hz))
 have hS:StrsAre acc.toList ss:=hP acc.toList hl fun j v e=>hacc.2 j v (by rw[←Array.getElem?_toList];exact e)
 have hoL:(h1.push (seqObj "list" acc.toList.toArray 0)).get? h1.objs.size=some (seqObj "list" acc.toList.toArray 0):=Heap.get?_push_size _ rfl
 refine wpAny_bind (wpAny_holding (wpAny_call_entry slot_list_sort ⟨_,hoL,rfl⟩ entry_list_sort (list_sort_treeK strKind_oneLt hoL hS.keysOf (fun v₁ v₂ U9 e=>keyKind_strs (by rw[←e];exact hS)) (by rw[hl];exact hn) fun st' a1 a2=>⟨_,rfl,?_⟩) (args_list_sort _)))
 obtain⟨ss',b1,b2,b3⟩:=sorted_out_str hS a1 a2
 obtain⟨e,he⟩:=sortedHeap_at (vs:=acc.toList) (out:=(arrOf st').map (·.2)) hoL
 refine wpAny_pure ⟨_,rfl,h h1 _ tk e ((arrOf st').map (·.2)).toList ss' hk (fun b o hb=>?_) (by rw[Array.toArray_toList];exact he) b1 b2 b3⟩
 have hlt:b<h1.objs.size:=Heap.lt_size hb
 rw[sortedHeap_old (Nat.ne_of_lt hlt) (by rw[size_push'];exact Nat.lt_succ_of_lt hlt),Heap.get?_push_ne _ _ _ (Nat.ne_of_lt hlt)]
 exact hb
end
def cC5:List D→M D:=fun ds=>match ds with
 |[.ref r]=>do
   match ←R4 r with
   | .dct l=>do
     let ss ←aK1 (K8 l)
     if ss.length<64 then Q5 (.lst ((aK2 ss).map .str))else M.stuck
   |_=>M.stuck
 |_=>M.stuck
section
variable{X:Cx}{Z:XC}{c:Wc}{μ:List Addr}{H:Hp}{G:DH}
theorem aS6:∀ {l:List (Key×D)} {ss:List Str},K8 l=some ss→ss.length=l.length
 |[],_,e=>by cases e;rfl
 |(.inr x,_)::r,ss,e=>by
  replace e:=show (K8 r).map (_ :: ·)=some _ from e
  rcases h:K8 r with _|t
  ·rw[h]at e;cases e
  ·rw[h]at e;cases e;simp[aS6 h]
 |(.inl _,_)::_,_,e=>by cases e
theorem bB7{P:Program}{w:World}:∀ {l:List (Key×D)} {ss:List Str} {kvs:List (Key×V)} {xs:List (Key×Value)} {vs:List Value},K8 l=some ss→aA7 c μ H l kvs→KV kvs xs→vs.length=xs.length→
 (∀(j:Nat) (v:Value),vs[j]? =some v→∃k x,xs[j]? =some (k,x)∧(M3 P w).is k v=true)→StrsAre vs ss
 |[],_,_,xs,vs,e,r,kv,hl,hv=>by
   cases e;cases r;cases kv
   rcases vs with _|⟨_,_⟩
   ·exact .nil
   ·simp at hl
 |(.inr x,d)::t,ss,kvs,xs,vs,e,r,kv,hl,hv=>by
  replace e:=show (K8 t).map (_ :: ·)=some _ from e
  rcases h:K8 t with _|q
  ·rw[h]at e;cases e
  ·
    rw[h]at e
    cases e
    obtain⟨v0,tl,rfl,r0,rt⟩:=r
    cases kv with
    |cons hk ht=>
      cases vs with
      |nil=>simp at hl
      |cons u us=>
        obtain⟨k,y,e1,e2⟩:=hv 0 u rfl
        simp only[List.getElem?_cons_zero,Option.some.injEq]at e1
        have hk1:(Sum.inr x:Key)=_:=hk.1
        rw[e1]at hk1
        have e3:bQ8 (.inr x) u=true:=by rw[hk1];exact e2
        rcases R0 e3 with⟨_,_,z,_⟩|⟨x',t',z,eu⟩
        ·cases z
        · cases z
          subst eu
          exact .cons _ _ (bB7 (P:=P) (w:=w) h rt ht (by simpa using hl) fun j v hj=>by simpa using hv (j+1) v (by simpa using hj))
 |(.inl _,_)::_,_,_,_,_,e,_,_,_,_=>by cases e
theorem bO6:∀ {out:List Value} {ss:List Str},StrsAre out ss→∃vs,vs=ss.map V.str∧w6 vs out∧o9 c μ H (ss.map D.str) vs
 |_,_,.nil=>⟨[],rfl,.nil,rfl⟩
 |_,_,.cons x t q=>by
   obtain⟨vs,e,h1,h2⟩:=bO6 q
   subst e
   exact⟨_,rfl,.cons ⟨t,rfl⟩ h1,_,_,rfl,by unfold d9;rfl,h2⟩
theorem dE2(hc:X.calm=true):aA4 X Z (.builtin "sorted") cC5:=⟨by
 intro pins s σ H xs us Q I r hE0
 obtain⟨ds,μ,G,rl,hr,p⟩:=hE0
 rcases ds with _|⟨_|_|_|_|_|i|_|_,_|⟨_,_⟩⟩<;>try exact p.elim
 all_goals (delta cC5 at p;dsimp only at p)
 · obtain⟨v,rfl,rv⟩:=aS1 rl
   obtain⟨u,rfl,ru⟩:=aE7 r
   unfold d9 at rv
   obtain⟨a,m,rfl⟩:=rv
   cases ru
   obtain⟨o,g,p1⟩:=Q7 p
   have ro:=hr.obj i o a g m
   cases o with
   |dct l=>
     obtain⟨kvs,q,rk⟩:=ro
     obtain⟨ss,es,p2⟩:=aC0 p1
     split at p2
     case isFalse=>exact p2.elim
     rename_i h64
     obtain⟨z,hd,vs,rel,dd⟩:=dP7 I.hok q
     obtain⟨ep,hat⟩:=dd.dictAt
     have hn:vs.length=ss.length:=by rw[aS6 es,←rel.length,←rk.length]
     refine cW0 (PySem.W.kdl_dict (knd:=M3 X.prog X.w) (kvs:=vs) (ep:=ep) hd) (I.ok.hd hc) hat (by omega) (ss:=ss) (fun us hl hu=>bB7 es rk rel (by omega) hu) fun h1 h' tk e out ss' k1 k2 he hS hp hs=>?_
     have e2:=cM5 hp hs
     subst e2
     obtain⟨ws,ew,rv,rl2⟩:=bO6 (c:=wc X) (μ:=μ) (H:=H) hS
     have I1:Inv X pins σ H {s with heap:=h1,toks:=tk}:=I.kept k1
     have hf:=I1.hok.fresh (Nat.le_refl _)
     have hlen:ws.length≤sizeLine:=by
      rw[ew,List.length_map]
      have:=(List.mergeSort_perm ss leS).length_eq
      have e3:(aK2 ss).length=ss.length:=this
      have:(64:Nat)≤sizeLine:=by decide
      omega
     refine⟨.ref h1.objs.size,upd H h1.objs.size (.lst ws),I1.laid (t':=tk) k2 (Nat.le_refl _) ⟨hlen,out,e,rv,he⟩,rfl,aE9 hr rl2 p2 _ hf⟩
   |lst l=>exact p1.elim
   |rod l=>exact p1.elim
   |rol l=>exact p1.elim⟩
end
noncomputable def Its(z:Str):It:=⟨fun i _=>∃c,z.cps[i]? =some c,fun i H x H'=>H'=H∧∃c,z.cps[i]? =some c∧x= .str ⟨#[c]⟩,fun i _=>z.cps[i]? =none⟩
theorem cT5{P:Program}{w:World}{K:PySem.W.Frag}{tg:Expr}(z:Str)(t:Tok)(it:Addr):bL6 P w K tg (Its z) [it] it (fun i h=>h.IsStrIter it "str_ascii_iterator" z t i) where
 mem:=by simp
 obj:=fun i h st b hb=>by
  have e:b=it:=by simpa using hb
  subst e
  obtain⟨o,e,c,d⟩:=st
  exact⟨o,e,fun v z=>by rw[d]at z;cases z⟩
 keep:=fun i h h' st k=>let ⟨o,ho,r⟩:=st;⟨o,k it (by simp) o ho,r⟩
 item:=by
  intro X hP hw hK hc i pins s σ H E I hf st hg
  subst hP hw hK
  obtain⟨c,hx⟩:=hg
  obtain⟨f0,f1,f2,f3,f4,f5⟩:=hf it (by simp)
  refine wpAny_pyNext_ascii_item st hx fun h' st' sb=>?_
  have I1:Inv X pins σ H {s with heap:=h',toks:=s.toks+1}:=I.turned (t':=s.toks+1) (fun b o hb e=>(sb.2 b hb).trans e) f0 f1 f3 f4 f5
  obtain⟨o,e,cc,d⟩:=id st'
  exact⟨_,rfl,bX8 (s:={s with heap:=h',toks:=s.toks+1}) e cc d (by decide) ⟨.str ⟨#[c]⟩,H,I1,⟨_,rfl⟩,⟨rfl,c,hx,rfl⟩,st',fun b hb=>(hf b hb).1⟩⟩
 done:=by
  intro X hP hw hK hc i pins s σ H E I hf st hg
  subst hP hw hK
  obtain⟨f0,f1,f2,f3,f4,f5⟩:=hf it (by simp)
  exact wpAny_pyNext_ascii_end (I.ok.hd hc) st hg fun h' eb=>⟨rfl,I.turned (t':=s.toks) (fun b o hb e=>eb b o hb e) f0 f1 f3 f4 f5⟩
 self:=fun _ _ _ _ _ st h=>wpAny_pyIter_striter_ascii st h
theorem dH3{P:Program}{w:World}{K:PySem.W.Frag}{tg:Expr}(z:Str)(t:Tok)(it:Addr):bL6 P w K tg (Its z) [it] it (fun i h=>h.IsStrIter it "str_iterator" z t i) where
 mem:=by simp
 obj:=fun i h st b hb=>by
  have e:b=it:=by simpa using hb
  subst e
  obtain⟨o,e,c,d⟩:=st
  exact⟨o,e,fun v z=>by rw[d]at z;cases z⟩
 keep:=fun i h h' st k=>let ⟨o,ho,r⟩:=st;⟨o,k it (by simp) o ho,r⟩
 item:=by
  intro X hP hw hK hc i pins s σ H E I hf st hg
  subst hP hw hK
  obtain⟨c,hx⟩:=hg
  obtain⟨f0,f1,f2,f3,f4,f5⟩:=hf it (by simp)
  refine wpAny_pyNext_wide_item st hx fun h' st' sb=>?_
  have I1:Inv X pins σ H {s with heap:=h',toks:=s.toks+1}:=I.turned (t':=s.toks+1) (fun b o hb e=>(sb.2 b hb).trans e) f0 f1 f3 f4 f5
  obtain⟨o,e,cc,d⟩:=id st'
  exact⟨_,rfl,bX8 (s:={s with heap:=h',toks:=s.toks+1}) e cc d (by decide) ⟨.str ⟨#[c]⟩,H,I1,⟨_,rfl⟩,⟨rfl,c,hx,rfl⟩,st',fun b hb=>(hf b hb).1⟩⟩
 done:=by
  intro X hP hw hK hc i pins s σ H E I hf st hg
  subst hP hw hK
  obtain⟨f0,f1,f2,f3,f4,f5⟩:=hf it (by simp)
  exact wpAny_pyNext_wide_end (I.ok.hd hc) st hg fun h' eb=>⟨rfl,I.turned (t':=s.toks) (fun b o hb e=>eb b o hb e) f0 f1 f3 f4 f5⟩
 self:=fun _ _ _ _ _ st h=>wpAny_pyIter_striter_wide st h
section
variable{X:Cx}{Z:XC}{tg e:Expr}
noncomputable def aI8(z:Str):List D:=z.cps.toList.map fun c=>.str ⟨#[c]⟩
def eH9:D→M Src:=fun x=>match x with
 | .str z=>pure ⟨aI8 z,fun _=>true⟩
 | .tup l=>aL1 (.tup l)
 | .ref r=>aL1 (.ref r)
 |_=>M.stuck
end
section
variable{X:Cx}{Z:XC}{pos p q:Pos}
end
theorem aN8{P:Program}{w:World}{K:PySem.W.Frag}{mg:Str→Option Value}{base:Heap}{CX:CXT}{k n:Nat}{f:Addr}{fd:FuncData}{ps:List Str}(hn:ps.length=n):J8 P w K mg base CX k f fd ps (spD ⟨K,mg⟩ n fun _=>M.stuck):=
 ⟨fun vs H Q E h=>by rw[hn];exact h.1,fun A outer s H args us vs Q E hr=>by
  intros
  rename_i h
  first
   |exact h.2.elim
   |(obtain⟨_,_,_,_,_,_,z⟩:=h;exact z.elim)⟩
end DL
namespace W
open PySem PySem.Spec L2 DL
open PyProof.Rows hiding St
theorem eD5:Ty.of "bool" =some .bool:=by rfl
theorem dQ9:Ty.of "tuple" =some .tuple:=by rfl
def aL8(G:DH)(d:D):Prop:=∃k,aS9 G d=some k
theorem st1{d:D}{n:Nat}:([d].map some++List.replicate n none:DSt)[0]? =some (some d):=by rfl
theorem cN2{b:Bool}{P:Bool→Prop}:(∃k,D.bl b= .bl k∧P k)↔P b:=⟨fun⟨k,e,p⟩=>by cases e;exact p,fun p=>⟨b,rfl,p⟩⟩
theorem R9{α:Type}{b:α}{P:α→Prop}:(∃k,some b=some k∧P k)↔P b:=⟨fun⟨k,e,p⟩=>by cases e;exact p,fun p=>⟨b,rfl,p⟩⟩
noncomputable def eU2:Option Int→D
 |none=>.non
 |some i=>.int i
theorem dS6{i j:Int}{G:DH}{Q:DPP}:Wp (gtD (.int i) (.int j)) G Q↔Q (.bl (decide (j<i))) G:=j9
theorem ix_tup{l:List D}{i:Int}{G:DH}{Q:DPP}:Wp (ixD (.tup l) (.int i)) G Q↔∃d,atI l i=some d∧Q d G:=aQ1
def aO8:Nat→DH→D→Prop
 |0,G,d=>aL8 G d
 |n+1,G,d=>aL8 G d∧∀l,d= .tup l→∀x∈l,aO8 n G x
theorem aO8.there{n:Nat}{G:DH}{d:D}(h:aO8 n G d):aL8 G d:=by cases n;exact h;exact h.1
noncomputable def cH9:D→Bool
 | .tup _=>true
 |_=>false
theorem eQ9{G:DH}{i:Nat}{k:Kd}(h:aS9 G (.ref i)=some k):k= .list∨k= .dict:=by
 delta aS9 at h
 dsimp only at h
 generalize G[i]? =x at h
 rcases x with _|_|_|_|_<;>cases h<;>first|exact .inl rfl|exact .inr rfl
theorem eK7(f:D→Bool)(P:Kd→Bool){d:D}{G:DH}{k:Kd}(h:aS9 G d=some k)(a:∀i,f (.ref i)=P .list∧f (.ref i)=P .dict)(b:f .non=P .non)(c:∀x,f (.bl x)=P .bool)(e:∀x,f (.int x)=P .int)(g:∀x,f (.str x)=P .str)(t:∀x,f (.tup x)=P .tuple):P k=f d:=by
 rcases d with _|x|x|x|x|i|_|_<;>try (cases h;done)
 ·cases h;exact b.symm
 ·cases h;exact(c x).symm
 ·cases h;exact(e x).symm
 ·cases h;exact(g x).symm
 ·cases h;exact(t x).symm
 ·rcases eQ9 h with rfl|rfl;exact(a i).1.symm;exact(a i).2.symm
theorem cQ3{d:D}{G:DH}{Q:DPP}(h:aL8 G d):Wp (o5 [d,.ty "tuple"]) G Q↔Q (.bl (cH9 d)) G:=by
 obtain⟨k,h⟩:=h
 rw[cB3 dQ9]
 simp only[h,R9]
 rw[eK7 cH9 (fun k=>k.is .tuple) h (fun _=>⟨rfl,rfl⟩) rfl (fun _=>rfl) (fun _=>rfl) (fun _=>rfl) fun _=>rfl]
theorem U8{b:Bool}{G:DH}{B:Bool→DH→Prop}:Wp (aE8 (.bl b)) G B↔B b G:=j9
theorem cY0{l:List D}{G:DH}{Q:DPP}:Wp (aN1 [.tup l]) G Q↔Q (.int l.length) G:=j9
theorem bG8{i j:Int}{G:DH}{Q:DPP}:Wp (eqD (.int i) (.int j)) G Q↔Q (.bl (decide (i=j))) G:=by
 have e:eqN 40 G (.int i) (.int j)=some (decide (i=j)):=by rfl
 rw[bK2,e];exact R9
theorem bC5{α:Type}{m:M α}{G:DH}{x:α}(h:Wp m G fun a G'=>a=x∧G'=G):m G=some (.ok x,G):=by
 obtain⟨a,G',e,e1,e2⟩:=h
 subst e1 e2
 exact e
theorem aO0{g:Fg}{t:DSt→M Bool}{e:Fe}{ck:DH→Bool}{f:D→D}{G:DH}{I:DSt→Prop}(hck:ck G=true):∀(items:List D) (σ:DSt),I σ→
 (∀d∈items,∀ σ,I σ→∃ σ1,g d σ G=some (.ok σ1,G)∧I σ1∧t σ1 G=some (.ok true,G)∧e σ1 G=some (.ok (f d),G))→P0 g t e ck items σ G=some (.ok (items.map f),G)
 |[],σ,_,_=>by unfold P0;simp only[hck,if_true,List.map]
 |d::r,σ,i,h=>by
   obtain⟨σ1,h1,i1,h2,h3⟩:=h d (by simp) σ i
   have h4:=aO0 hck r σ1 i1 fun d hd=>h d (by simp[hd])
   unfold P0
   simp only[hck,if_true]
   rw[M.bind_ok h1,M.bind_ok h2,if_pos rfl,M.bind_ok h3,M.bind_ok h4]
   rfl
theorem cH3{α:Type}{f:α→Bool}:∀l:List α,bF1 (l.map fun x=>D.bl (f x))=some (l.map f)
 |[]=>rfl
 |a::r=>by show (bF1 (r.map fun x=>D.bl (f x))).map (f a :: ·)=_;rw[cH3 r];rfl
theorem bF9{G:DH}{r:Nat}{l:List D}{f:D→Bool}{Q:DPP}(h:G[r]? =some (.lst (l.map fun x=>.bl (f x)))):Wp (aI2 [.ref r]) G Q↔Q (.bl (l.all f)) G:=by
 unfold aI2
 simp only[m5,T7,h,R9,DL.listOf,j9,aQ1,cH3]
 simp[List.all_map,Function.comp_def]
theorem cI6{i j:Int}{G:DH}{Q:DPP}:Wp (ltD (.int i) (.int j)) G Q↔Q (.bl (decide (i<j))) G:=by
 have e:ltN 40 G (.int i) (.int j)=some (decide (i<j)):=by rfl
 rw[dV0,e];exact R9
theorem aP0{i j:Int}{G:DH}{Q:DPP}:Wp (V7 (.int i) (.int j)) G Q↔Q (.int (i+j)) G:=j9
theorem at0{a b:D}:atI [a,b] 0=some a:=by rfl
theorem at1{a b:D}:atI [a,b] 1=some b:=by rfl
theorem eK4(l:List D):DL.cutD l (some 1) none=l.drop 1:=by
 unfold DL.cutD
 rw[HT.sIx_none,show (some (1:Int))=some ((1:Nat):Int)from rfl,HT.sIx_nat]
 rcases l with _|⟨a,r⟩
 ·rfl
 ·simp[List.length_cons]
section
variable{G:DH}{σ:DSt}{P:Fl→DH→Prop}{g:Fg}{b:Fs}{ck:DH→Bool}
theorem bC2:Wp (aM4 g b ck [] σ) G P↔ck G=true∧P (.nx σ) G:=by
 unfold aM4
 constructor
 · rintro⟨a,G',e,q⟩
   by_cases h:ck G=true
   ·simp only[h,if_true]at e;cases e;exact⟨h,q⟩
   ·simp only[h]at e;exact J1 e
 · rintro⟨h,q⟩
   exact⟨_,G,by simp only[h,if_true],q⟩
theorem bD8{d:D}{r:List D}:Wp (aM4 g b ck (d::r) σ) G P↔ck G=true∧Wp (g d σ) G fun σ1 G1=>Wp (b σ1) G1 fun fl G2=>match fl with
 | .nx σ'=>Wp (aM4 g b ck r σ') G2 P
 | .ct σ'=>Wp (aM4 g b ck r σ') G2 P
 | .bk σ'=>P (.nx σ') G2
 | .rt d=>P (.rt d) G2:=by
 have e:Wp (aM4 g b ck (d::r) σ) G P↔ck G=true∧Wp (do
  match ←b (←g d σ) with
  | .nx σ'=>aM4 g b ck r σ'
  | .ct σ'=>aM4 g b ck r σ'
  | .bk σ'=>pure (.nx σ')
  | .rt d=>pure (.rt d):M Fl) G P:=by
  rw[aM4]
  constructor
  · rintro⟨a,G',e,q⟩
    by_cases h:ck G=true
    ·simp only[h,if_true]at e;exact⟨h,a,G',e,q⟩
    ·simp only[h]at e;exact J1 e
  · rintro⟨h,a,G',e,q⟩
    exact⟨a,G',by simp only[h,if_true];exact e,q⟩
 rw[e]
 simp only[m5]
 refine and_congr_right fun _=>?_
 constructor
 · rintro⟨σ1,G1,e1,fl,G2,e2,q⟩
   refine⟨σ1,G1,e1,fl,G2,e2,?_⟩
   cases fl<;>first
    |exact q
    |exact j9.mp q
 · rintro⟨σ1,G1,e1,fl,G2,e2,q⟩
   refine⟨σ1,G1,e1,fl,G2,e2,?_⟩
   cases fl<;>first
    |exact q
    |exact j9.mpr q
theorem bU2{it:DSt→M Src}:Wp (bK7 it g b σ) G P↔Wp (it σ) G fun s G1=>Wp (aM4 g b s.ck s.items σ) G1 P:=by unfold bK7;simp only[m5]
end
theorem dA9{i j:Int}{G:DH}{Q:DPP}:Wp (bV5 (.int i) (.int j)) G Q↔Q (.int (i-j)) G:=j9
theorem eZ7{i j:Int}{G:DH}{Q:DPP}:Wp (neD (.int i) (.int j)) G Q↔Q (.bl (!decide (i=j))) G:=by
 have e:eqN 40 G (.int i) (.int j)=some (decide (i=j)):=by rfl
 rw[bQ0,e];exact R9
theorem atI_nat{l:List D}{k:Nat}{s:D}(h:l[k]? =some s):atI l (k:Int)=some s:=by
 have hk:k<l.length:=by
  by_cases hk:k<l.length
  ·exact hk
  ·rw[List.getElem?_eq_none (by omega)]at h;exact J1 h
 unfold atI ixN
 rw[if_pos (by omega),if_pos (by omega)]
 simpa using h
section
variable{G:DH}{σ:DSt}{Q:DPP}
theorem aP6{i j:Int}(h:0<j):Wp (bW6 (.int i) (.int j)) G Q↔Q (.int (i % j)) G:=by
 have e:bW6 (.int i) (.int j)=if 0<j then pure (.int (i % j))else M.stuck:=rfl
 rw[e,if_pos h];exact j9
theorem bR4{i j:Int}(h:0<j∧j<2 ^ 100):Wp (bZ3 (.int i) (.int j)) G Q↔Q (.int (i / j)) G:=by
 have e:bZ3 (.int i) (.int j)=if cB1 i j then pure (.int (i / j))else M.stuck:=rfl
 rw[e,if_pos (show cB1 i j from h)];exact j9
theorem bC3{i j:Int}(h:bW2 i j):Wp (bH6 (.int i) (.int j)) G Q↔Q (.int (i*j)) G:=by
 have e:bH6 (.int i) (.int j)=if bW2 i j then pure (.int (i*j))else M.stuck:=rfl
 rw[e,if_pos h];exact j9
theorem cH1{r:Nat}{l:List D}{i:Int}(h:G[r]? =some (.lst l)):Wp (ixD (.ref r) (.int i)) G Q↔∃d,atI l i=some d∧Q d G:=by
 have e:ixD (.ref r) (.int i)= (do
  let l ←R4 r >>= DL.listOf
  aK1 (atI l i)):=rfl
 rw[e]
 simp only[m5,T7,h,R9,DL.listOf,j9,aQ1]
theorem eB4{r:Nat}{l:List D}{k:Int}{j:Nat}{d:D}{R:Unit→DH→Prop}(h:G[r]? =some (.lst l))(hj:ixN l.length k=some j):Wp (cV2 (.ref r) (.int k) d) G R↔R () (G.set r (.lst (l.set j d))):=by
 unfold cV2
 simp only[m5,T7,h,R9,hj,bQ6]
theorem dL5{fo fi:Fe}{d:D}{S:DSt→DH→Prop}:Wp (bO7 fo fi d σ) G S↔Wp (fo σ) G fun o G1=>Wp (fi σ) G1 fun i G2=>Wp (cV2 o i d) G2 fun _ G3=>S σ G3:=by
 unfold bO7;simp only[m5,j9]
end
noncomputable def V6(G:DH)(r:Nat):Prop:=∃a b c e:Int,G[r]? =some (.lst [.int a,.int b,.int c,.int e])∧0≤b∧b<2 ^ 40
def Fr(r:Nat)(G G':DH):Prop:=G.length≤G'.length∧(∀i,i≠r→i<G.length→G'[i]? =G[i]?)∧V6 G' r
theorem V6.lt{G:DH}{r:Nat}(h:V6 G r):r<G.length:=by
 obtain⟨a,b,c,e,hr,_⟩:=h
 by_cases hi:r<G.length
 ·exact hi
 ·rw[List.getElem?_eq_none (by omega)]at hr;exact J1 hr
theorem V6.app{G t:DH}{r:Nat}(h:V6 G r):V6 (G++t) r:=by
 have hl:=h.lt
 obtain⟨a,b,c,e,hr,hb⟩:=h
 exact⟨a,b,c,e,by rw[List.getElem?_append_left hl];exact hr,hb⟩
theorem Fr.refl{r:Nat}{G:DH}(h:V6 G r):Fr r G G:=⟨Nat.le_refl _,fun _ _ _=>rfl,h⟩
theorem Fr.trans{r:Nat}{G G1 G2:DH}(h:Fr r G G1)(k:Fr r G1 G2):Fr r G G2:=
 ⟨Nat.le_trans h.1 k.1,fun i hi hl=>by rw[k.2.1 i hi (by have:=h.1;omega),h.2.1 i hi hl],k.2.2⟩
theorem Fr.app{r:Nat}{G t:DH}(h:V6 G r):Fr r G (G++t):=⟨by simp,fun i _ hl=>List.getElem?_append_left hl,h.app⟩
theorem Fr.set{r:Nat}{G:DH}{o:DO}(h:V6 (G.set r o) r):Fr r G (G.set r o):=⟨by simp,fun i hi hl=>by rw[List.getElem?_set_ne (Ne.symm hi)],h⟩
theorem eA7{i:Int}{G:DH}{Q:DPP}:Wp (cQ9 (.int i)) G Q↔Q (.int (-i)) G:=j9
theorem cL0{l:List D}{k:Int}(h0:0≤k)(h1:k<l.length):∃d,d∈l∧atI l k=some d:=by
 obtain⟨n,rfl⟩:=Int.eq_ofNat_of_zero_le h0
 have hn:n<l.length:=by omega
 exact⟨l[n],List.getElem_mem hn,atI_nat (List.getElem?_eq_getElem hn)⟩
theorem sz{l:List D}(h:Nat.ble l.length 100=true:=by rfl):l.length≤sizeLine:=Nat.le_trans (Nat.le_of_ble_eq_true h) (by decide)
theorem Fr.lt{r:Nat}{G G':DH}(h:Fr r G G'):r<G'.length:=h.2.2.lt
theorem Fr.at{r p:Nat}{G G':DH}{o:DO}(h:Fr r G G')(hp:p≠r)(e:G[p]? =some o):G'[p]? =some o:=by
 have hl:p<G.length:=by
  by_cases hi:p<G.length
  ·exact hi
  ·rw[List.getElem?_eq_none (by omega)]at e;exact J1 e
 rw[h.2.1 p hp hl];exact e
theorem aL8.fr{r:Nat}{G G':DH}{d:D}(h:aL8 G d)(f:Fr r G G'):aL8 G' d:=by
 obtain⟨k,h⟩:=h
 rcases d with _|_|_|_|_|i|_|_<;>try (exact⟨k,h⟩;done)
 ·
   delta aS9 at h
   dsimp only at h
   by_cases hr:i=r
   · subst hr
     obtain⟨a,b,c,e,hh,_⟩:=f.2.2
     exact⟨.list,by delta aS9;dsimp only;rw[hh]⟩
   · have hi:i<G.length:=by
      by_cases hi:i<G.length
      ·exact hi
      ·rw[List.getElem?_eq_none (by omega)]at h;exact J1 h
     refine⟨k,?_⟩
     delta aS9
     dsimp only
     rw[f.2.1 i hr hi]
     exact h
theorem aO8.fr{r:Nat}{G G':DH}(f:Fr r G G'):∀(n:Nat) {d:D},aO8 n G d→aO8 n G' d
 |0,_,h=>aL8.fr h f
 |n+1,_,h=>⟨aL8.fr h.1 f,fun l e x hx=>aO8.fr f n (h.2 l e x hx)⟩
theorem eR7{G t:DH}{k:Nat}:(G++t)[G.length+k]? =t[k]? :=by
 rw[List.getElem?_append_right (by omega)];congr 1;omega
theorem cZ7{G t:DH}:(G++t)[G.length]? =t[0]? :=eR7 (k:=0)
section
variable{G:DH}{σ:DSt}{Q:DPP}
theorem cP2{t:D→M Unit}{m:D→List D→M D}{fo:Fe}{fs:DSt→M (List D)}:Wp (mtE t m fo fs σ) G Q↔Wp (fo σ) G fun x G1=>Wp (t x) G1 fun _ G2=>Wp (fs σ) G2 fun xs G3=>Wp (m x xs) G3 Q:=by
 unfold mtE;simp only[m5]
theorem aQ7{r:Nat}{l:List D}{R:Unit→DH→Prop}(h:G[r]? =some (.lst l)):Wp (aF2 (.ref r)) G R↔R () G:=by
 delta aF2;exact m5.trans ((T7.trans (by rw[h];exact R9)).trans j9)
theorem cV1{r:Nat}{l:List D}{y:D}(h:G[r]? =some (.lst l))(hl:l.length<sizeLine):Wp (bN2 (.ref r) [y]) G Q↔Q .non (G.set r (.lst (l++[y]))):=by
 have e:bN2 (.ref r) [y]= (do
  let l ←lstM r
  if l.length<sizeLine then do
   let _ ←bL4 r (.lst (l++[y]))
   pure .non
  else M.stuck):=rfl
 rw[e]
 unfold lstM
 simp only[m5,T7,h,R9,j9,hl,if_true,bQ6]
theorem aC4{r:Nat}{l:List D}(h:G[r]? =some (.lst l)):Wp (aF9 [.ref r]) G Q↔Q (.tup l) G:=by
 have e:aF9 [.ref r]= (do
  let l ←R4 r >>= DL.listOf
  pure (.tup l)):=rfl
 rw[e]
 simp only[m5,T7,h,R9,DL.listOf,j9]
theorem rng1{fs:DSt→M (List D)}{R:Src→DH→Prop}:Wp (aD9 fs σ) G R↔Wp (fs σ) G fun xs G1=>Wp (match xs with
 |[.int j]=>if -(2 ^ 62)≤j∧j<2 ^ 62 then pure ⟨N8 0 j.toNat,fun _=>true⟩else M.stuck
 |_=>M.stuck:M Src) G1 R:=by
 delta aD9;exact m5
theorem rng1_int{j:Int}{R:Src→DH→Prop}(h: -(2 ^ 62)≤j∧j<2 ^ 62):Wp (match [D.int j] with
 |[.int j]=>if -(2 ^ 62)≤j∧j<2 ^ 62 then pure ⟨N8 0 j.toNat,fun _=>true⟩else M.stuck
 |_=>M.stuck:M Src) G R↔R ⟨N8 0 j.toNat,fun _=>true⟩ G:=by
 show Wp (if -(2 ^ 62)≤j∧j<2 ^ 62 then pure ⟨N8 0 j.toNat,fun _=>true⟩else M.stuck:M Src) G R↔_
 rw[if_pos h];exact j9
theorem dC3{n:Nat}{g:Fgs}{l:List D}{S:DSt→DH→Prop}(h:l.length=n):Wp (aL0 n g (.tup l) σ) G S↔Wp (g l σ) G S:=by
 have e:aL0 n g (.tup l) σ=if l.length=n then g l σ else M.stuck:=rfl
 rw[e,if_pos h]
theorem eB5{g:Fgs}{a b:D}{S:DSt→DH→Prop}:Wp (aL0 2 g (.tup [a,b]) σ) G S↔Wp (g [a,b] σ) G S:=dC3 rfl
theorem bQ2{g:Fg}{t:Fgs}{d:D}{l:List D}{S:DSt→DH→Prop}:Wp (M5 g t (d::l) σ) G S↔Wp (g d σ) G fun σ1 G1=>Wp (t l σ1) G1 S:=by
 have e:M5 g t (d::l) σ= (do t l (←g d σ)):=rfl
 rw[e];simp only[m5]
theorem cD7{S:DSt→DH→Prop}:Wp (aM6 [] σ) G S↔S σ G:=j9
theorem dB4{i j:Nat}{a b:List D}(ha:G[i]? =some (.lst a))(hb:G[j]? =some (.lst b))(hl:a.length+b.length≤sizeLine):Wp (V7 (.ref i) (.ref j)) G Q↔Q (.ref G.length) (G++[.lst (a++b)]):=by
 have e:V7 (.ref i) (.ref j)= (do
  match ←R4 i,←R4 j with
  | .lst a,.lst b=>if a.length+b.length≤sizeLine then Q5 (.lst (a++b))else M.stuck
  |_,_=>M.stuck):=rfl
 rw[e]
 simp only[m5,T7,ha,hb,R9,if_pos hl,aA8]
theorem bE8{a b:List D}(hl:a.length+b.length≤sizeLine):Wp (V7 (.tup a) (.tup b)) G Q↔Q (.tup (a++b)) G:=by
 have e:V7 (.tup a) (.tup b)=if a.length+b.length≤sizeLine then pure (.tup (a++b))else M.stuck:=rfl
 rw[e,if_pos hl];exact j9
theorem bH0{R:Option Int→DH→Prop}:Wp (T6 σ) G R↔R none G:=j9
theorem cF3{f:Fe}{R:Option Int→DH→Prop}:Wp (Z5 f σ) G R↔Wp (f σ) G fun x G1=>∃i,x= .int i∧R (some i) G1:=by
 delta Z5
 refine Iff.trans m5 ?_
 constructor
 · rintro⟨x,G1,e,q⟩
   refine⟨x,G1,e,?_⟩
   rcases x with _|_|i|_|_|_|_|_<;>try (exact(aK9.mp q).elim;done)
   ·exact⟨i,rfl,j9.mp q⟩
 · rintro⟨x,G1,e,i,rfl,q⟩
   exact⟨_,G1,e,j9.mpr q⟩
theorem sl_tup{l:List D}{lo hi:Option Int}:Wp (slD (.tup l) lo hi) G Q↔Q (.tup (DL.cutD l lo hi)) G:=j9
theorem fD4{i:Int}{P:Int→Prop}:(∃k,D.int i= .int k∧P k)↔P i:=⟨fun⟨k,e,p⟩=>by cases e;exact p,fun p=>⟨i,rfl,p⟩⟩
theorem cY6{l:List D}{lo hi:Option Int}{d:D}(h:d∈DL.cutD l lo hi):d∈l:=List.mem_of_mem_drop (List.mem_of_mem_take h)
end
def cA1(d:D):Prop:=∃x y:Option Int,d= .tup [eU2 x,eU2 y]
def Fr2(r p:Nat)(G G':DH):Prop:=G.length≤G'.length∧(∀i,i≠r→i≠p→i<G.length→G'[i]? =G[i]?)∧V6 G' r
theorem Fr2.trans{r p:Nat}{G G1 G2:DH}(h:Fr2 r p G G1)(k:Fr2 r p G1 G2):Fr2 r p G G2:=
 ⟨Nat.le_trans h.1 k.1,fun i hi hp hl=>by rw[k.2.1 i hi hp (by have:=h.1;omega),h.2.1 i hi hp hl],k.2.2⟩
theorem Fr.two{r p:Nat}{G G1:DH}(h:Fr r G G1):Fr2 r p G G1:=⟨h.1,fun i hi _ hl=>h.2.1 i hi hl,h.2.2⟩
theorem Fr2.set{r p:Nat}{G:DH}{o:DO}(hp:p≠r)(h:V6 G r):Fr2 r p G (G.set p o):=by
 refine⟨by simp,fun i _ hi hl=>by rw[List.getElem?_set_ne (Ne.symm hi)],?_⟩
 obtain⟨a,b,c,e,hr,hb⟩:=h
 exact⟨a,b,c,e,by rw[List.getElem?_set_ne hp];exact hr,hb⟩
theorem cA1.set{xs:List D}{j:Nat}{d:D}(h:∀d∈xs,cA1 d)(hd:cA1 d):∀x∈xs.set j d,cA1 x:=fun x hx=>by
 rcases List.mem_or_eq_of_mem_set hx with hx|rfl
 ·exact h x hx
 ·exact hd
theorem o6{G:DH}{o:DO}:(G++[o])[G.length]? =some o:=cZ7
theorem aB4{G t:DH}{p:Nat}{o:DO}(e:G[p]? =some o):(G++t)[p]? =some o:=by
 have hlt:p<G.length:=by
  by_cases hi:p<G.length
  ·exact hi
  ·rw[List.getElem?_eq_none (by omega)]at e;exact J1 e
 rw[List.getElem?_append_left hlt];exact e
noncomputable def okD:D→Bool
 | .non=>true
 | .bl _=>true
 | .int _=>true
 | .str _=>true
 | .tup _=>true
 |_=>false
theorem eC1(x:Option Int):okD (eU2 x)=true:=by cases x<;>rfl
theorem cM3{G:DH}{d:D}(h:okD d=true):aL8 G d:=by
 cases d<;>first|exact⟨_,rfl⟩|exact aM7 h
theorem fM7{G:DH}{l:List D}(h:∀x∈l,okD x=true):aO8 1 G (.tup l):=⟨⟨_,rfl⟩,fun l' e x hx=>by cases e;exact cM3 (h x hx)⟩
theorem cA1.there{G:DH}{d:D}(h:cA1 d):aO8 1 G d:=by
 obtain⟨x,y,rfl⟩:=h
 exact fM7 fun z hz=>by
  simp only[List.mem_cons,List.not_mem_nil,or_false]at hz
  rcases hz with rfl|rfl<;>exact eC1 _
noncomputable def Gr(G G':DH):Prop:=G.length≤G'.length∧∀i,i<G.length→G'[i]? =G[i]?
theorem Gr.refl{G:DH}:Gr G G:=⟨Nat.le_refl _,fun _ _=>rfl⟩
theorem Gr.trans{G G1 G2:DH}(h:Gr G G1)(k:Gr G1 G2):Gr G G2:=⟨Nat.le_trans h.1 k.1,fun i hi=>by rw[k.2 i (by have:=h.1;omega),h.2 i hi]⟩
theorem Gr.app{G t:DH}:Gr G (G++t):=⟨by simp,fun i hi=>List.getElem?_append_left hi⟩
theorem Gr.of{r:Nat}{G G1 G2:DH}(h:Gr G G1)(f:Fr r G1 G2)(hr:G.length≤r):Gr G G2:=⟨Nat.le_trans h.1 f.1,fun i hi=>by rw[f.2.1 i (by omega) (by have:=h.1;omega),h.2 i hi]⟩
theorem Gr.at{p:Nat}{G G':DH}{o:DO}(h:Gr G G')(e:G[p]? =some o):G'[p]? =some o:=by
 have hl:p<G.length:=by
  by_cases hi:p<G.length
  ·exact hi
  ·rw[List.getElem?_eq_none (by omega)]at e;cases e
 rw[h.2 p hl];exact e
theorem cK1:∀ns:List Int,aW1 (ns.map D.int)=some ns
 |[]=>rfl
 |a::r=>by show (aW1 (r.map D.int)).map (a :: ·)=_;rw[cK1 r];rfl
theorem eA5{G:DH}{p:Nat}{ns:List Int}{Q:DPP}(e:G[p]? =some (.rol (ns.map D.int))):Wp (dE5 [.ref p]) G Q↔Q (.int ns.sum) G:=by
 have h:dE5 [.ref p]= (do
  let l ←R4 p >>= DL.listOf
  let ns ←aK1 (aW1 l)
  pure (.int ns.sum)):=rfl
 rw[h]
 simp only[m5,T7,e,R9,DL.listOf,j9,aQ1,cK1]
theorem dZ5{G:DH}{p q:Nat}{xs:List D}{Q:DPP}(e:G[p]? =some (.rol xs))(eq:G[q]? =some (.lst [])):Wp (neD (.ref p) (.ref q)) G Q↔Q (.bl (!xs.isEmpty)) G:=by
 have h:eqN 40 G (.ref p) (.ref q)=some xs.isEmpty:=by
  have h1:aC6 G (.ref p)=some (false,xs):=by delta aC6;dsimp only;rw[e]
  have h2:aC6 G (.ref q)=some (false, []):=by delta aC6;dsimp only;rw[eq]
  rw[bT1,h1,h2]
  cases xs<;>rfl
 rw[bQ0,h];exact R9
theorem bM4{G:DH}{σ:DSt}{p:Nat}{l:List D}{R:Src→DH→Prop}(e:G[p]? =some (.lst l)):Wp (aL1 (.ref p)) G R↔R ⟨l,ckO p (.lst l)⟩ G:=by
 have h:aL1 (.ref p)= (do
  let o ←R4 p
  let l ←DL.listOf o
  pure ⟨l,ckO p o⟩):=rfl
 rw[h]
 simp only[m5,T7,e,R9,DL.listOf,j9]
theorem eX4{G:DH}{p:Nat}{l:List D}{lo hi:Option Int}{Q:DPP}(e:G[p]? =some (.rol l)):Wp (slD (.ref p) lo hi) G Q↔Q (.ref G.length) (G++[.lst (DL.cutD l lo hi)]):=by
 have h:slD (.ref p) lo hi= (do
  let l ←R4 p >>= DL.listOf
  Q5 (.lst (DL.cutD l lo hi))):=rfl
 rw[h]
 simp only[m5,T7,e,R9,DL.listOf,j9,aA8]
theorem dT2{G:DH}{σ:DSt}{fs:DSt→M (List D)}{R:Src→DH→Prop}:Wp (bG7 fs σ) G R↔Wp (fs σ) G fun xs G1=>Wp (match xs with
 |[.ref r]=>do
   let s ←aL1 (.ref r)
   pure ⟨s.items.zipIdx.map fun p=>.tup [.int ((p.2:Nat):Int),p.1],s.ck⟩
 |_=>M.stuck:M Src) G1 R:=by
 delta bG7;exact m5
theorem dP1{G:DH}{p:Nat}{l:List D}{R:Src→DH→Prop}(e:G[p]? =some (.lst l)):Wp (match [D.ref p] with
 |[.ref r]=>do
   let s ←aL1 (.ref r)
   pure ⟨s.items.zipIdx.map fun p=>.tup [.int ((p.2:Nat):Int),p.1],s.ck⟩
 |_=>M.stuck:M Src) G R↔R ⟨l.zipIdx.map fun p=>.tup [.int ((p.2:Nat):Int),p.1],ckO p (.lst l)⟩ G:=by
 show Wp (do
  let s ←aL1 (.ref p)
  pure ⟨s.items.zipIdx.map fun p=>.tup [.int ((p.2:Nat):Int),p.1],s.ck⟩:M Src) G R↔_
 simp only[m5]
 rw[bM4 (σ:= []) e]
 exact j9
section
variable{G:DH}{σ:DSt}{Q:DPP}
theorem dT7{o o':D→D→M D}{a b c:Fe}:Wp (cG1 o o' a b c σ) G Q↔Wp (a σ) G fun x G1=>Wp (b σ) G1 fun y G2=>Wp (o x y) G2 fun z G3=>∃k,z= .bl k∧if k=true then Wp (c σ) G3 fun w G4=>Wp (o' y w) G4 Q else Q (.bl false) G3:=by
 unfold cG1;simp only[m5,bM7,aP5,j9]
theorem wp_trueT{B:Bool→DH→Prop}:Wp (N6 σ) G B↔B true G:=j9
variable{g:Fg}{t:DSt→M Bool}{e:Fe}{ck:DH→Bool}{R:List D→DH→Prop}
theorem bE2:Wp (P0 g t e ck [] σ) G R↔ck G=true∧R [] G:=by
 unfold P0
 constructor
 · rintro⟨a,G',e,q⟩
   by_cases h:ck G=true
   ·simp only[h,if_true]at e;cases e;exact⟨h,q⟩
   ·simp only[h]at e;exact J1 e
 · rintro⟨h,q⟩
   exact⟨_,G,by simp only[h,if_true],q⟩
theorem bC4{d:D}{r:List D}:Wp (P0 g t e ck (d::r) σ) G R↔ck G=true∧Wp (g d σ) G fun σ1 G1=>Wp (t σ1) G1 fun b G2=>if b=true then Wp (e σ1) G2 fun y G3=>Wp (P0 g t e ck r σ1) G3 fun ys G4=>R (y::ys) G4 else Wp (P0 g t e ck r σ1) G2 R:=by
 have h0:Wp (P0 g t e ck (d::r) σ) G R↔ck G=true∧Wp (do
  let σ1 ←g d σ
  if ←t σ1 then do
   let y ←e σ1
   let ys ←P0 g t e ck r σ1
   pure (y::ys)
  else P0 g t e ck r σ1:M (List D)) G R:=by
  rw[P0]
  constructor
  · rintro⟨a,G',e,q⟩
    by_cases h:ck G=true
    ·simp only[h,if_true]at e;exact⟨h,a,G',e,q⟩
    ·simp only[h]at e;exact J1 e
  · rintro⟨h,a,G',e,q⟩
    exact⟨a,G',by simp only[h,if_true];exact e,q⟩
 rw[h0]
 simp only[m5,aP5,j9]
theorem wp_comp{it:DSt→M Src}{caps:List (Option Nat)}:Wp (M8 it caps g t e σ) G Q↔Wp (it σ) G fun s G1=>s.items.length≤sizeLine∧Wp (P0 g t e s.ck s.items (aA9 caps σ)) G1 fun ys G2=>Q (.ref G2.length) (G2++[.lst ys]):=by
 unfold M8
 simp only[m5]
 constructor
 · rintro⟨s,G1,e1,q⟩
   refine⟨s,G1,e1,?_⟩
   by_cases h:s.items.length≤sizeLine
   · rw[if_pos h]at q
     simp only[m5,cE8,aA8]at q
     exact⟨h,q⟩
   ·rw[if_neg h]at q;exact(aK9.mp q).elim
 · rintro⟨s,G1,e1,h,q⟩
   refine⟨s,G1,e1,?_⟩
   dsimp only
   rw[if_pos h]
   simp only[m5,cE8,aA8]
   exact q
theorem bZ0(J:DH→Prop)(S:DSt→Prop)(P:D→Prop)(hck:∀G,J G→ck G=true):∀(items:List D) (σ:DSt) (G:DH),S σ→J G→
 (∀d∈items,∀ σ G,S σ→J G→Wp (g d σ) G fun σ1 G1=>G1=G∧S σ1∧Wp (t σ1) G fun b G2=>b=true∧G2=G∧Wp (e σ1) G fun y G3=>J G3∧P y)→
 Wp (P0 g t e ck items σ) G fun ys G'=>J G'∧ys.length=items.length∧∀y∈ys,P y
 |[],σ,G,s,j,_=>by
   rw[bE2]
   exact⟨hck G j,j,rfl,fun y hy=>by cases hy⟩
 |d::r,σ,G,s,j,step=>by
   rw[bC4]
   refine⟨hck G j,Wp.mono (step d (by simp) σ G s j) fun σ1 G1 ⟨e1,s1,w1⟩=>?_⟩
   subst e1
   refine Wp.mono w1 fun b G2 ⟨eb,e2,w2⟩=>?_
   subst eb e2
   rw[if_pos rfl]
   refine Wp.mono w2 fun y G3 ⟨j3,py⟩=>?_
   refine Wp.mono (bZ0 J S P hck r σ1 G3 s1 j3 fun d hd=>step d (by simp[hd])) fun ys G4 ⟨j4,l4,p4⟩=>⟨j4,by simp[l4],fun z hz=>?_⟩
   rcases List.mem_cons.mp hz with rfl|hz
   ·exact py
   ·exact p4 z hz
theorem bI9{p:D→Bool}{G:DH}(hck:ck G=true)(S:DSt→Prop):∀(items:List D) (σ:DSt),S σ→
 (∀d∈items,∀ σ,S σ→∃ σ1,g d σ G=some (.ok σ1,G)∧S σ1∧t σ1 G=some (.ok (p d),G)∧e σ1 G=some (.ok d,G))→P0 g t e ck items σ G=some (.ok (items.filter p),G)
 |[],σ,_,_=>by unfold P0;simp only[hck,if_true,List.filter_nil]
 |d::r,σ,i,h=>by
   obtain⟨σ1,h1,i1,h2,h3⟩:=h d (by simp) σ i
   have h4:=bI9 hck S r σ1 i1 fun d hd=>h d (by simp[hd])
   unfold P0
   simp only[hck,if_true]
   rw[M.bind_ok h1,M.bind_ok h2]
   by_cases hp:p d=true
   · rw[if_pos hp,M.bind_ok h3,M.bind_ok h4,List.filter_cons_of_pos hp]
     rfl
   ·rw[if_neg hp,h4,List.filter_cons_of_neg hp]
end
section
variable{G:DH}{σ:DSt}{Q:DPP}
theorem cE2{a b:Str}:Wp (eqD (.str a) (.str b)) G Q↔Q (.bl (a==b)) G:=by
 have e:eqN 40 G (.str a) (.str b)=some (a==b):=by rfl
 rw[bK2,e];exact R9
theorem cX7{a b:Str}:Wp (leD (.str a) (.str b)) G Q↔Q (.bl (!decide (b.cps.toList<a.cps.toList))) G:=j9
theorem cJ5{a b:Str}(h:a.length+b.length≤sizeLine):Wp (V7 (.str a) (.str b)) G Q↔Q (.str (a++b)) G:=by
 have e:V7 (.str a) (.str b)=if a.length+b.length≤sizeLine then pure (.str (a++b))else M.stuck:=rfl
 rw[e,if_pos h];exact j9
theorem cN9{z:Str}(h:z.length≤sizeLine):Wp (aN1 [.str z]) G Q↔Q (.int z.length) G:=by
 have e:aN1 [.str z]=if z.length≤sizeLine then pure (.int z.length)else M.stuck:=rfl
 rw[e,if_pos h];exact j9
theorem cZ0{x y:D}:Wp (inD x y) G Q↔∃k,inB x y G=some k∧Q (.bl k) G:=bN6 (g:=id) (by unfold inD fC2;cases inB x y G<;>rfl)
theorem dR0{p:Nat}{l:List D}{R:Src→DH→Prop}(e:G[p]? =some (.lst l)):Wp (eH9 (.ref p)) G R↔R ⟨l,ckO p (.lst l)⟩ G:=bM4 (σ:= []) e
end
noncomputable def cC4(c:Nat):Bool:=decide (97≤c)&&decide (c≤122)
def aJ8(z:Str):Bool:=z.cps.toList.all cC4
theorem fL2(c:Nat):(!decide ((⟨#[c]⟩:Str).cps.toList<("a" :Str).cps.toList))=decide (97≤c):=by
 have e:("a" :Str).cps.toList= [97]:=by rfl
 rw[e]
 show (!decide ([c] < [97]))=_
 by_cases h:97≤c
 · have:¬c<97:=by lia
   simp[h,List.cons_lt_cons_iff,this]
 · have:c<97:=by lia
   simp[h,List.cons_lt_cons_iff,this]
theorem fO4(c:Nat):(!decide (("z" :Str).cps.toList<(⟨#[c]⟩:Str).cps.toList))=decide (c≤122):=by
 have e:("z" :Str).cps.toList= [122]:=by rfl
 rw[e]
 show (!decide ([122] < [c]))=_
 by_cases h:c≤122
 · have:¬122<c:=by lia
   simp[h,List.cons_lt_cons_iff,this]
 · have:122<c:=by lia
   simp[h,List.cons_lt_cons_iff,this]
end W
namespace DL
open PySem PySem.Spec L2
open PyProof.Rows hiding St
section
variable{prog:Program}{w:World}{A:Around}{E:VSP}{s:Shared}{I l:Addr}{items:Array Value}
end
section
variable{X:Cx}{Z:XC}{e:Expr}{fa:Fe}{p1 p2 pos1 pos2:Pos}
end
end DL
namespace DL
open PySem PySem.Spec L2 Builtin Builtin.Str
open PyProof.Rows hiding St
section
variable{X:Cx}{Z:XC}{e:Expr}{fa:Fe}{p2 pos:Pos}{lo hi:Option Expr}{fl fh:Fo}
theorem dA7{v:Value}{o:Option Int}(p:IsPart v o):∃l:Option (Int×Tok),v=partValue l∧l.map (·.1)=o:=by
 cases p with
 |none=>exact⟨none,rfl,rfl⟩
 |int i t=>exact⟨some (i,t),rfl,rfl⟩
theorem eV7:SlR X (fun x lo hi H Q=>∃z,x= .str z∧z.length≤sizeLine∧Q (.str (Txt.slice z lo hi)) H):=by
 intro pins s σ H x v vl vu lo hi sl Q I rx hs pl pu h
 obtain⟨z,rfl,hz,q⟩:=h
 obtain⟨t,rfl⟩:=rx
 obtain⟨l,el,eml⟩:=dA7 pl
 obtain⟨u,eu,emu⟩:=dA7 pu
 subst el eu eml emu
 refine⟨"str",_,PySem.F.slot_str_getitem.lookup,typeIs_str _ z t,?_⟩
 refine wpAny_getItem_str_slice (l:=l) (u:=u) (st:=none) (let ⟨o,h1,h2,h3⟩:=hs;⟨o,h1,h2,h3⟩) rfl ?_
 unfold sliceMade
 unfold Txt.slice at q
 unfold slicePicked
 have e1:((Option.map (fun x:Int×Tok=>x.1) none).getD 1)= (1:Int):=rfl
 simp only[e1]
 by_cases hc:((1:Int)==1&&(strSliceIndices (l.map (·.1)) (u.map (·.1)) 1 z.length).length==z.length)=true
 · rw[if_pos hc]at q
   rw[if_pos hc]
   exact⟨.str z,H,I,⟨t,rfl⟩,q⟩
 · rw[if_neg hc]at q
   rw[if_neg hc]
   refine⟨?_,.str _,H,I.tok _,⟨_,rfl⟩,q⟩
   have hle:=Txt.slice_le z (l.map (·.1)) (u.map (·.1))
   unfold Txt.slice at hle
   rw[if_neg hc]at hle
   exact Nat.le_trans hle hz
def slT:D→Option Int→Option Int→M D:=fun x lo hi=>match x with
 | .str z=>if z.length≤sizeLine then pure (.str (Txt.slice z lo hi))else M.stuck
 | .tup l=>slD (.tup l) lo hi
 | .ref r=>slD (.ref r) lo hi
 |_=>M.stuck
def S7(f:Fe)(lo hi:Fo):Fe:=fun σ=>do
 let x ←f σ
 let l ←lo σ
 let h ←hi σ
 slT x l h
theorem eN4:SlD X Z slT:=SlR.mono (eV7.or (fG4 (Z:=Z))) fun x lo hi H Q ⟨dx,μ,G,rx,hr,p⟩=>by
 rcases dx with _|_|_|z|l|r|_|_<;>try (exact p.elim;done)
 ·
   unfold slT at p
   dsimp only at p
   split at p
   · rename_i hz
     exact .inl ⟨z,aV6 rx,hz,d8.ok p hr _ (by unfold d9;rfl)⟩
   ·exact p.elim
 ·exact .inr ⟨.tup l,μ,G,rx,hr,p⟩
 ·exact .inr ⟨.ref r,μ,G,rx,hr,p⟩
theorem dF1(he:DE X Z e fa)(hl:DOp X Z lo fl)(hu:DOp X Z hi fh):DE X Z (.Subscript e (.Slice lo hi none p2) pos) (S7 fa fl fh):=
 DE.of (dP3 eN4 he.h hl.h hu.h) fun σ H Q hE0=>hE0.elim fun dσ μ G s h p=>⟨dσ,μ,G,s,h,(d8.bind p).mono fun d μ1 G1 H1 x1 h1 p1 v rv=>
  ⟨dσ,μ1,G1,s.mono x1,h1,(d8.bind p1).mono fun l μ2 G2 H2 x2 h2 p2=>⟨dσ,μ2,G2,s.mono (x1.trans x2),h2,(d8.bind p2).mono fun u μ3 G3 H3 x3 h3 p3=>⟨d,μ3,G3,rv.mono (x2.trans x3),h3,p3⟩⟩⟩⟩
end
noncomputable def Txt.rev(z:Str):Str:=⟨((strSliceIndices none none (-1) z.length).filterMap (z.cps[·]?)).toArray⟩
def cS3:D→M D:=fun x=>match x with
 | .str z=>if (Txt.rev z).length≤sizeLine then pure (.str (Txt.rev z))else M.stuck
 | .tup l=>fD7 (.tup l)
 | .ref r=>fD7 (.ref r)
 |_=>M.stuck
section
variable{X:Cx}{Z:XC}{e:Expr}{fa:Fe}{p2 pos:Pos}
theorem dY8{j k:Nat}{q1 q2:Pos}(he:DE X Z e fa):DE X Z (.Subscript e (.Slice none none (some (.UnaryOp .USub (.Constant (.int 1) k q1) q2)) p2) pos) (unE cS3 fa):=by
 refine⟨?_⟩
 intro pins s σ H Q I hE0
 refine hE0.elim fun dσ μ G sr h p=>?_
 refine Subscript_ (thn (he.h pins s σ H _ I ⟨dσ,μ,G,sr,h,(d8.bind p).mono fun d μ1 G1 H1 x1 h1 p1 v rv=>(⟨d,μ1,G1,rv,h1,p1⟩:cE3 (wc X) Z cS3 v H1 Q)⟩) fun v s1 ⟨x,H1,I1,r1,d,μ1,G1,rd,h1,p1⟩=>?_)
 refine wpAny_Slice ?_
 rw[evalPart_none]
 refine wpAny_pure (wpAny_pure ?_)
 rw[evalPart_some]
 refine thn ((eL5 dP9 (cU9 (X:=X) (i:=1) (j:=k) (pos:=q1))) pins s1 σ H1 (fun v' H'=>v'= .int (-1)∧H'=H1) I1 ⟨1,rfl,rfl,rfl⟩) fun u s2 ⟨xu,H2,I2,ru,e1,e2⟩=>?_
 subst e1 e2
 obtain⟨tk,rfl⟩:=ru
 have I3:Inv X pins σ H2 {s2 with heap:=s2.heap.push {cls:=.type "slice",data:=.fields #[.none,.none,.int (-1) tk]}}:=I2.kept (t':=s2.toks) fun b ob q=>Heap.get?_push_of_some _ q
 have hsl:Heap.IsSliceOf (s2.heap.push {cls:=.type "slice",data:=.fields #[.none,.none,.int (-1) tk]}) s2.heap.objs.size .none .none (.int (-1) tk):=Heap.IsSliceOf.new ..
 rcases d with _|_|_|z|l|r|_|_<;>try (exact p1.elim;done)
 ·
   unfold cS3 at p1
   dsimp only at p1
   split at p1
   case isFalse=>exact p1.elim
   rename_i hz
   cases aV6 rd
   obtain⟨t,rfl⟩:=r1
   refine tail_any (ops:= [.str z t,.ref s2.heap.objs.size]) (typeIs_str _ z t) PySem.F.slot_str_getitem.lookup (wpAny_getItem_str_slice (l:=none) (u:=none) (st:=some (-1,tk)) (let ⟨o,h1,h2,h3⟩:=hsl;⟨o,h1,h2,h3⟩) (by rfl) ?_) (by with_unfolding_all rfl)
   unfold sliceMade
   rw[if_neg (by simp)]
   exact⟨hz,.str _,H2,I3.tok _,⟨_,rfl⟩,d8.ok p1 h1 _ (by unfold d9;rfl)⟩
 ·
   unfold d9 at rd
   obtain⟨a,vs,rfl,q,rl⟩:=rd
   cases r1
   obtain⟨its,rr,ht,hz⟩:=I3.tuple q
   refine tail_any (ops:= [.ref a,.ref s2.heap.objs.size]) ht.typeIs PyProof.Rows.slot_tuple_getitem.lookup (bB9 ht hsl ?_ (by rw[←rr.length];exact hz)) (by with_unfolding_all rfl)
   have hf:=I3.hok.fresh (Nat.le_refl _)
   refine⟨.ref _,upd H2 _ (.tup vs.reverse),I3.laid (t':=s2.toks) (fun b u e=>Heap.get?_push_of_some _ e) (Nat.le_refl _) ?_,rfl,aV4 h1 rl.reverse p1 _ hf⟩
   exact⟨by rw[List.length_reverse];exact hz,its.reverse,rr.reverse,⟨_,Heap.get?_push_size _ rfl,rfl,_,rfl⟩⟩
 ·
   obtain⟨l,a,vs,rfl,rl,p2,hq⟩:=aW7 (d:=.ref r) (f:=fun l=>Q5 (.lst l.reverse)) h1 rd p1
   cases r1
   have hs:SqL X.K H2 a vs:=by
    rcases hq with⟨z,_⟩|⟨_,_,_,⟨_,q⟩|⟨_,q⟩⟩
    ·cases z
    ·exact SqL.of q
    ·exact q.sq
   obtain⟨its,rr,ht,hz⟩:=I3.list hs
   refine tail_any (ops:= [.ref a,.ref s2.heap.objs.size]) ht.isList.typeIs slot_list_getitem.lookup (wpAny_getItem_list_slice ht.isList hsl .none .none (.int (-1) tk) (by simp) ?_ (by rw[List.size_toArray,←rr.length];exact hz)) (by with_unfolding_all rfl)
   rw[PySem.W.krv_pick]
   have hf:=I3.hok.fresh (Nat.le_refl _)
   refine⟨.ref _,upd H2 _ (.lst vs.reverse),I3.laid (t':=s2.toks) (fun b u e=>Heap.get?_push_of_some _ e) (Nat.le_refl _) ?_,rfl,aE9 h1 rl.reverse p2 _ hf⟩
   exact⟨by rw[List.length_reverse];exact hz,its.reverse,0,rr.reverse,Heap.get?_push_size _ rfl⟩
end
end DL
namespace W
open PySem PySem.Spec L2 DL Builtin Builtin.Str
open PyProof.Rows hiding St
section
variable{G:DH}{σ:DSt}{Q:DPP}
theorem aX2{f:Fe}{lo hi:Fo}:Wp (S7 f lo hi σ) G Q↔Wp (f σ) G fun x G1=>Wp (lo σ) G1 fun l G2=>Wp (hi σ) G2 fun h G3=>Wp (slT x l h) G3 Q:=by
 unfold S7;simp only[m5]
theorem eH8{l:List D}{lo hi:Option Int}:Wp (slT (.tup l) lo hi) G Q↔Q (.tup (DL.cutD l lo hi)) G:=j9
theorem eB7{z:Str}{lo hi:Option Int}(h:z.length≤sizeLine):Wp (slT (.str z) lo hi) G Q↔Q (.str (Txt.slice z lo hi)) G:=by
 have e:slT (.str z) lo hi=if z.length≤sizeLine then pure (.str (Txt.slice z lo hi))else M.stuck:=rfl
 rw[e,if_pos h];exact j9
theorem dH5{z:Str}{lo hi:Option Int}:(Txt.slice z lo hi).length≤z.length:=Txt.slice_le z lo hi
theorem dV8{z:Str}(h:(DL.Txt.rev z).length≤sizeLine):Wp (cS3 (.str z)) G Q↔Q (.str (DL.Txt.rev z)) G:=by
 have e:cS3 (.str z)=if (DL.Txt.rev z).length≤sizeLine then pure (.str (DL.Txt.rev z))else M.stuck:=rfl
 rw[e,if_pos h];exact j9
theorem dZ3(n:Nat):(strSliceIndices none none (-1) n).length≤n:=by
 unfold strSliceIndices sliceRange
 dsimp only
 rw[List.length_map,List.length_range]
 simp only[show ¬((-1:Int)>0)from by decide,if_false]
 by_cases h:((n:Int)-1 > -1)
 · rw[if_pos h,show (- -1:Int)=1 from by decide,Int.ediv_one]
   lia
 · rw[if_neg h]
   exact Nat.zero_le _
theorem eD7(z:Str):(DL.Txt.rev z).length≤z.length:=by
 have h1:=dZ3 z.length
 have h2:(DL.Txt.rev z).length= ((strSliceIndices none none (-1) z.length).filterMap (z.cps[·]?)).length:=by
  unfold DL.Txt.rev
  show Array.size _=_
  simp
 rw[h2]
 exact Nat.le_trans (List.length_filterMap_le _ _) h1
end
end W
namespace DL
open PySem PySem.Spec L2
open PyProof.Rows hiding St
def cI2:D→D→M D:=fun x y=>match y with
 | .non=>pure (.bl (cU8 x))
 | .bl c=>match x with
   | .bl d=>pure (.bl (d==c))
   |_=>M.stuck
 |_=>M.stuck
def aO2:D→D→M D:=fun x y=>match y with
 | .non=>pure (.bl (!cU8 x))
 | .bl c=>match x with
   | .bl d=>pure (.bl (d != c))
   |_=>M.stuck
 |_=>M.stuck
def cW5(a b:Fe):Fe:=fun σ=>do
 let x ←a σ
 if ←aE8 x then pure x else b σ
def U6(a b:Fe):Fe:=fun σ=>do
 let x ←a σ
 if ←aE8 x then b σ else pure x
section
variable{X:Cx}{Z:XC}{a b:Expr}{fa fb:Fe}{pos:Pos}
theorem eO8:OpR X (compareOp .Is) (fun x y H Q=>(y= .non∧Q (.bl (decide (x= .non))) H)∨∃c d,x= .bl c∧y= .bl d∧Q (.bl (c==d)) H):=by
 intro pins s σ H x y v u Q I rx ry h
 rcases h with h|⟨c,d,rfl,rfl,q⟩
 ·exact eP1 pins s σ H x y v u Q I rx ry h
 · cases rx
   cases ry
   exact is_bool ⟨.bl (c==d),H,I,rfl,q⟩
theorem dD9:OpR X (compareOp .IsNot) (fun x y H Q=>(y= .non∧Q (.bl (!decide (x= .non))) H)∨∃c d,x= .bl c∧y= .bl d∧Q (.bl (c != d)) H):=by
 intro pins s σ H x y v u Q I rx ry h
 rcases h with h|⟨c,d,rfl,rfl,q⟩
 ·exact eB1 pins s σ H x y v u Q I rx ry h
 · cases rx
   cases ry
   exact isnot_bool ⟨.bl (c != d),H,I,rfl,q⟩
theorem eU7:OpD X Z (compareOp .Is) cI2:=OpD.of eO8 fun x y H Q hE0=>hE0.elim fun dx dy μ G rdx rdy hr p=>by
 rcases dy with _|d|_|_|_|_|_|_<;>try (exact p.elim;done)
 ·exact .inl ⟨dL0 rdy,by rw[cZ4 rdx];exact d8.ok p hr _ ofB⟩
 ·
   rcases dx with _|c|_|_|_|_|_|_<;>try (exact p.elim;done)
   ·exact .inr ⟨c,d,bW3 rdx,bW3 rdy,d8.ok p hr _ ofB⟩
theorem dE8:OpD X Z (compareOp .IsNot) aO2:=OpD.of dD9 fun x y H Q hE0=>hE0.elim fun dx dy μ G rdx rdy hr p=>by
 rcases dy with _|d|_|_|_|_|_|_<;>try (exact p.elim;done)
 ·exact .inl ⟨dL0 rdy,by rw[cZ4 rdx];exact d8.ok p hr _ ofB⟩
 ·
   rcases dx with _|c|_|_|_|_|_|_<;>try (exact p.elim;done)
   ·exact .inr ⟨c,d,bW3 rdx,bW3 rdy,d8.ok p hr _ ofB⟩
theorem bJ3{α:Type}{μ:List Addr}{H:Hp}{G:DH}{d:D}{v:V}{f:Bool→M α}{K:α→List Addr→DH→Hp→Prop}(h:J0 (wc X) μ G H)(rv:d9 (wc X) μ H d v)(p:d8 (wc X) Z μ H ((aE8 d >>= f) G) K):
 ∃k,eR8 X.K v H k∧d8 (wc X) Z μ H (f k G) K:=by
 have p1:=d8.bind p
 rcases d with _|b|b|y|l|r|_|_<;>try (exact p1.elim;done)
 ·rw[dL0 rv];exact⟨false,rfl,d8.ok p1 h⟩
 ·rw[bW3 rv];exact⟨b,rfl,d8.ok p1 h⟩
 ·rw[aK4 rv];exact⟨_,rfl,d8.ok p1 h⟩
 ·
   rw[aV6 rv]
   unfold aE8 at p1
   dsimp only at p1
   split at p1
   ·rename_i hz;exact⟨_,⟨hz,rfl⟩,d8.ok p1 h⟩
   ·exact p1.elim
 ·
   unfold d9 at rv
   obtain⟨a,vs,rfl,q,rl⟩:=rv
   exact⟨!vs.isEmpty,.inr (.inl ⟨vs,q,rfl⟩),by rw[aG0 rl];exact d8.ok p1 h⟩
 ·
   unfold d9 at rv
   obtain⟨a,m,rfl⟩:=rv
   obtain⟨o,g,p2⟩:=Q7 p1
   have ro:=h.obj r o a g m
   rcases o with l|l|l|l
   ·obtain⟨vs,q,rl⟩:=ro;exact⟨!vs.isEmpty,.inl ⟨vs,SqL.of q,rfl⟩,by rw[aG0 rl];exact d8.ok p2 h⟩
   ·obtain⟨vs,q,rl⟩:=ro;exact⟨!vs.isEmpty,.inl ⟨vs,q.sq,rfl⟩,by rw[aG0 rl];exact d8.ok p2 h⟩
   ·obtain⟨vs,q,rl⟩:=ro;exact⟨!vs.isEmpty,.inr (.inr ⟨vs,q,rfl⟩),by rw[bU0 rl];exact d8.ok p2 h⟩
   ·exact p2.elim
theorem eT1{U9:List Expr}(ha:DE X Z a fa)(hb:DE X Z (.BoolOp .Or (b::U9) pos) fb):DE X Z (.BoolOp .Or (a::b::U9) pos) (cW5 fa fb):=by
 refine⟨?_⟩
 intro pins s σ H Q I hE0
 refine hE0.elim fun dσ μ G sr h p=>?_
 refine BoolOp_or (thn (ha.h pins s σ H _ I ⟨dσ,μ,G,sr,h,(d8.bind p).mono fun d μ1 G1 H1 x1 h1 p1 v rv=>(⟨d,μ1,G1,x1,rv,h1,p1⟩:∃d μ1 G1,Ext μ H μ1 H1∧d9 (wc X) μ1 H1 d v∧J0 (wc X) μ1 G1 H1∧d8 (wc X) Z μ1 H1 ((aE8 d >>= fun k=>if k=true then pure d else fb dσ) G1) fun d μ' _ H'=>∀v,d9 (wc X) μ' H' d v→Q v H')⟩) fun v s1 ⟨x,H1,I1,r1,d,μ1,G1,x1,rd,h1,p1⟩=>?_)
 obtain⟨k,tk,p2⟩:=bJ3 h1 rd p1
 refine thn (cW9 pins s1 σ H1 x v (fun c H'=>c=k∧H'=H1) I1 r1 ⟨k,tk,rfl,rfl⟩) fun c s2 ⟨H2,I2,e1,e2⟩=>?_
 subst e1 e2
 rcases c with _|_
 ·exact hb.h pins s2 σ H2 Q I2 ⟨dσ,μ1,G1,sr.mono x1,h1,p2⟩
 ·exact⟨x,H2,I2,r1,d8.ok p2 h1 _ rd⟩
theorem dX9{U9:List Expr}(ha:DE X Z a fa)(hb:DE X Z (.BoolOp .And (b::U9) pos) fb):DE X Z (.BoolOp .And (a::b::U9) pos) (U6 fa fb):=by
 refine⟨?_⟩
 intro pins s σ H Q I hE0
 refine hE0.elim fun dσ μ G sr h p=>?_
 refine BoolOp_and (thn (ha.h pins s σ H _ I ⟨dσ,μ,G,sr,h,(d8.bind p).mono fun d μ1 G1 H1 x1 h1 p1 v rv=>(⟨d,μ1,G1,x1,rv,h1,p1⟩:∃d μ1 G1,Ext μ H μ1 H1∧d9 (wc X) μ1 H1 d v∧J0 (wc X) μ1 G1 H1∧d8 (wc X) Z μ1 H1 ((aE8 d >>= fun k=>if k=true then fb dσ else pure d) G1) fun d μ' _ H'=>∀v,d9 (wc X) μ' H' d v→Q v H')⟩) fun v s1 ⟨x,H1,I1,r1,d,μ1,G1,x1,rd,h1,p1⟩=>?_)
 obtain⟨k,tk,p2⟩:=bJ3 h1 rd p1
 refine thn (cW9 pins s1 σ H1 x v (fun c H'=>c=k∧H'=H1) I1 r1 ⟨k,tk,rfl,rfl⟩) fun c s2 ⟨H2,I2,e1,e2⟩=>?_
 subst e1 e2
 rcases c with _|_
 ·exact⟨x,H2,I2,r1,d8.ok p2 h1 _ rd⟩
 ·exact hb.h pins s2 σ H2 Q I2 ⟨dσ,μ1,G1,sr.mono x1,h1,p2⟩
end
end DL
namespace W
open PySem PySem.Spec L2 DL
open PyProof.Rows hiding St
section
variable{G:DH}{σ:DSt}{Q:DPP}{a b:Fe}
theorem fA1:Wp (cW5 a b σ) G Q↔Wp (a σ) G fun x G1=>Wp (aE8 x) G1 fun k G2=>if k=true then Q x G2 else Wp (b σ) G2 Q:=by unfold cW5;simp only[m5,aP5,j9]
theorem aX4:Wp (U6 a b σ) G Q↔Wp (a σ) G fun x G1=>Wp (aE8 x) G1 fun k G2=>if k=true then Wp (b σ) G2 Q else Q x G2:=by unfold U6;simp only[m5,aP5,j9]
end
end W
namespace DL
open PySem PySem.Spec L2
open PyProof.Rows hiding St
structure b8(F:List D→M D)(n:Nat)(x:Str)(P:Program)(w:World)(K:PySem.W.Frag)(mg:Str→Option Value)(base:Heap)(k:Nat):Prop where
 ex:∃f fd ps,J8 P w K mg base CX0 k f fd ps (spD ⟨K,mg⟩ n F)∧mg x=some (.ref f)∧PySem.W.keepIn K (.ref f)=true∧bC6 K fd ps []
theorem b8.of{P:Program}{w:World}{K:PySem.W.Frag}{mg:Str→Option Value}{base:Heap}{k n:Nat}{x:Str}{st:Stmt}{ps:List Str}{f:Addr}{fd:FuncData}{F:List D→M D}(c:FF K mg x st ps f fd)(h:J8 P w K mg base CX0 k f fd ps (spD ⟨K,mg⟩ n F)):b8 F n x P w K mg base k:=
 ⟨f,fd,ps,h,c.m,c.F.kp,c.b⟩
noncomputable def bltL:List Str:= ["len", "isinstance", "all", "any", "sum", "min", "max", "abs", "sorted", "tuple", "list", "int", "str", "bool", "dict", "zip", "enumerate", "range", "reversed", "set"]
structure BLs(mg:Str→Option Value):Prop where
 h:∀b∈bltL,mg b=none
theorem bA8{p:Pos}{l:List (Bool×Sem Value)}:(backTo p l).any (·.1)=l.any (·.1):=by
 unfold backTo
 rw[List.any_map]
 rfl
theorem bB8{env:Env}:∀ {es:List Expr},es.all Z9=true→(starEach es env).any (·.1)=false
 |[],_=>rfl
 |e::es,h=>by
   rw[List.all_cons,Bool.and_eq_true]at h
   rw[q14 h.1,List.any_cons,bB8 h.2]
   rfl
section
variable{X:Cx}{Z:XC}{a b c e:Expr}{es:List Expr}{fa fb fc:Fe}{fs:DSt→M (List D)}{pos p:Pos}{x:Str}
theorem fJ1{i:Nat}(hN:∃N ps sc,m7 N ps sc∧X.N=N)(hi:X.N[i]? =some x)(hx:Loc X.env.scope x)(hf:X.fn x=true∨X.env.scope.names.lookup x=some .local):DG X Z (.Name x pos) (q13 i):=by
 obtain⟨N,ps,sc,S,e⟩:=hN
 exact cX2 (by rw[e];exact S.nd) hi hx hf
theorem fL5(ha:DE X Z e fa)(hr:DA X Z es fs)(hs:Z9 e=true):DA X Z (e::es) (q10 fa fs):=q15 ha hr (q14 hs)
theorem dQ4{F:List D→M D}{n:Nat}(hF:∃k kk,b8 F n x X.prog X.w X.K X.mg X.base k∧aA5 kk X.A∧k≤kk)(hg:Gl X x)(ha:DA X Z (e::es) fs)(hdb:(x==("__debug__" :Str))=false)(hs:(e::es).all Z9=true):
 DE X Z (.Call (.Name x p) (e::es) [] pos) (q12 (fnX n F) fs):=by
 obtain⟨k,kk,hF,hr,hk⟩:=hF
 obtain⟨f,fd,ps,h1,h2,h3,h4⟩:=hF.ex
 rw[List.all_cons,Bool.and_eq_true]at hs
 exact eH2 h1 (hr.mono hk) hg h2 h3 h4 ha hdb (q14 hs.1) (by rw[bA8];exact bB8 hs.2)
structure BD(F:List D→M D)(x:Str)(X:Cx)(Z:XC):Prop where
 ex:(∃id,aA4 X Z (.builtin id) F∧bootBuiltins x=some (.builtin id))∨(∃T,aA4 X Z (.type T) F∧bootBuiltins x=some (.type T))
theorem eZ0{F:List D→M D}(hc:X.calm=true)(hF:X.calm=true→BD F x X Z)(hb:BLs X.mg)(hx:bltL.elem x=true)(hg:Gl X x)(ha:DA X Z (e::es) fs)(hn:x≠ "__name__")(hdb:(x==("__debug__" :Str))=false)(hs:(e::es).all Z9=true):
 DE X Z (.Call (.Name x p) (e::es) [] pos) (q12 F fs):=by
 have hm:=hb.h x (List.elem_iff.mp hx)
 rw[List.all_cons,Bool.and_eq_true]at hs
 rcases (hF hc).ex with⟨id,h1,h2⟩|⟨T,h1,h2⟩
 ·exact dV7 h1 hg hm h2 ha hn hdb (q14 hs.1) (by rw[bA8];exact bB8 hs.2)
 ·exact dF3 h1 hg hm h2 ha hn hdb (q14 hs.1) (by rw[bA8];exact bB8 hs.2)
theorem eO9(_:X.calm=true):BD aN1 "len" X Z:=⟨.inl ⟨_,eS6,eZ1⟩⟩
theorem bV0(_:X.calm=true):BD o5 "isinstance" X Z:=⟨.inl ⟨_,dH4,bW5⟩⟩
theorem eU6(h:X.calm=true):BD aI2 "all" X Z:=⟨.inl ⟨_,eQ3 h,eP5⟩⟩
theorem eW7(h:X.calm=true):BD cU2 "any" X Z:=⟨.inl ⟨_,eO0 h,eT2⟩⟩
theorem eX3(h:X.calm=true):BD dE5 "sum" X Z:=⟨.inl ⟨_,eR4 h,eS2⟩⟩
theorem dW2(_:X.calm=true):BD aF9 "tuple" X Z:=⟨.inr ⟨_,dL6,dM3⟩⟩
theorem eH6(_:X.calm=true):BD cL3 "list" X Z:=⟨.inr ⟨_,eC4,eG5⟩⟩
theorem eR6(_:X.calm=true):BD dO2 "int" X Z:=⟨.inr ⟨_,eY1,eO1⟩⟩
theorem eE6:∀n∈ ["int", "bool", "str", "tuple", "list", "dict"],bootBuiltins (Str.ofString n)=some (.type n):=by decide +kernel
theorem eV4{n:String}(hb:BLs X.mg)(hn:n∈ ["int", "bool", "str", "tuple", "list", "dict"])(hx:bltL.elem (Str.ofString n)=true)(hg:Gl X (Str.ofString n))(hnn:Str.ofString n≠ "__name__")(hd:(Str.ofString n==("__debug__" :Str))=false):DE X Z (.Name (Str.ofString n) pos) (cE (.ty n)):=
 fE2 hg (hb.h _ (List.elem_iff.mp hx)) (eE6 n hn) hnn hd
variable{tg:Expr}{tp:Pos}{x1:Nat}{es1:List Expr}
theorem fB5(hb:BLs X.mg)(hg:Gl X "range")(ha:DA X Z [a] fs)(hs:Z9 a=true):DI X Z tg (.Call (.Name "range" p) [a] [] pos) (aD9 fs):=eJ0 hg (hb.h _ (by decide +kernel)) ha (aV5 hs)
theorem fM2(hb:BLs X.mg)(hg:Gl X "zip")(ha:DA X Z [a,b] fs)(hs:Z9 a=true)(hs2:Z9 b=true):DI X Z (.Tuple es1 x1 tp) (.Call (.Name "zip" p) [a,b] [] pos) (bU1 fs):=eV1 hg (hb.h _ (by decide +kernel)) ha (dU7 hs hs2) (aV5 hs2) eY0
theorem fO1(hb:BLs X.mg)(hg:Gl X "enumerate")(ha:DA X Z [a] fs)(hs:Z9 a=true):DI X Z (.Tuple es1 x1 tp) (.Call (.Name "enumerate" p) [a] [] pos) (bG7 fs):=eE9 hg (hb.h _ (by decide +kernel)) ha (aV5 hs) bE7
noncomputable def aH7(sc:Scope):List Str:=(sc.names.filterMap fun y=>if y.2 == .local&&y.1 != (".0" :Str)then some y.1 else none)++(sc.names.filterMap fun y=>if y.2 == .free then some y.1 else none)
variable{elt iter:Expr}{ifs:List Expr}{scope:Scope}{caps:List (Option Nat)}{it:DSt→M Src}{gg:Fg}{tt:DSt→M Bool}{fe:Fe}
theorem dX4(hc:X.calm=true)(hi:DI X Z tg iter it)(k:∃XN ps osc,m7 XN ps osc∧X.env.scope=osc∧X.N=XN∧bN0 osc scope (aH7 scope) XN caps=true)(nd:(aH7 scope).Nodup)
 (hg:(aH7 scope).Nodup→∀C s H ex,DG (T5 X scope (aH7 scope) C s H ex) ZF tg gg) (ht:∀C s H ex,DTs (T5 X scope (aH7 scope) C s H ex) ZF ifs tt) (he:∀C s H ex,DE (T5 X scope (aH7 scope) C s H ex) ZF elt fe)
 (hf:∀x,foldedSetIterable iter X.env x=pure x):DE X Z (.ListComp elt [⟨tg,iter,ifs,0⟩] scope pos) (M8 it caps gg tt fe):=let ⟨_,_,_,_,hs,hN,k⟩:=k;eG3 hc hi (aG3.of k hs hN) (hg nd) ht he hf
theorem dS9{y:Str}{py spos:Pos}{g2:Fg}(hc:X.calm=true)(hi:DI X Z tg iter it)(k:∃XN ps osc,m7 XN ps osc∧X.env.scope=osc∧X.N=XN∧bN0 osc scope (aH7 scope) XN caps=true)(nd:(aH7 scope).Nodup)
 (hg:(aH7 scope).Nodup→∀C s H ex,DG (T5 X scope (aH7 scope) C s H ex) ZF tg gg) (ht:∀C s H ex,DTs (T5 X scope (aH7 scope) C s H ex) ZF ifs tt) (he:∀C s H ex,DE (T5 X scope (aH7 scope) C s H ex) ZF elt fe)
 (hf:∀x,foldedSetIterable iter X.env x=pure x) (hgo:DG X Z (.Name y py) g2) (hsw:swapsWith (.ListComp elt [⟨tg,iter,ifs,0⟩] scope pos) (some (.Name y py)) spos.line X.env=pure true):
 DS X Z (.Assign [.Name y py] (.ListComp elt [⟨tg,iter,ifs,0⟩] scope pos) spos) (N7 (M8 it caps gg tt fe) g2):=let ⟨_,_,_,_,hs,hN,k⟩:=k;dS4 hc hi (aG3.of k hs hN) (hg nd) ht he hf hgo hsw
end
section
variable{X:Cx}{Z:XC}
end
end DL
namespace W
open PySem PySem.Spec L2 DL
open PyProof.Rows hiding St
section
variable{G:DH}{Q:DPP}
end
end W
namespace DL
open PySem PySem.Spec L2
open PyProof.Rows hiding St
def Itd(a:Addr)(o:Obj)(kvs:List (Key×V)):It:=
 ⟨fun i H=>H a=some (.frz o (.dK kvs))∧∃kv,kvs[i]? =some kv,fun i H x H'=>H'=H∧∃kv,kvs[i]? =some kv∧x=kV kv.1,fun i H=>H a=some (.frz o (.dK kvs))∧kvs.length≤i⟩
theorem dN2{κ:Type}:∀ {kvs:List (κ×V)} {vs:List (κ×Value)} {i:Nat} {kv:κ×V},KV kvs vs→kvs[i]? =some kv→∃v,vs[i]? =some (kv.1,v)
 |_,_,_,_,.nil,e=>by simp at e
 |_,_,0,_,.cons h t,e=>by
   simp only[List.getElem?_cons_zero,Option.some.injEq]at e
   subst e
   exact⟨_,by rw[List.getElem?_cons_zero,h.1]⟩
 |_,_,i+1,_,.cons h t,e=>by
   simp only[List.getElem?_cons_succ]at e ⊢
   exact dN2 t e
theorem eS3{P:Program}{w:World}{k:Key}{u:Value}(h:(M3 P w).is k u=true):J6 (kV k) u:=by
 rcases R0 (k:=k) (v:=u) h with⟨i,t,rfl,rfl⟩|⟨x,t,rfl,rfl⟩
 ·exact⟨t,rfl⟩
 ·exact⟨t,rfl⟩
theorem dR8{X:Cx}{pins:PNS}{s:Shared}{σ:St}{H:Hp}{a:Addr}{o:Obj}{es:Array DictEntry}{ep:Nat}{kvs:List (Key×V)}(I:Inv X pins σ H s)(ho:o.data= .dict es ep)(e:H a=some (.frz o (.dK kvs))):
 (a==sysModules)=false∧∃vs,KV kvs vs∧s.heap.DictAt (M3 X.prog X.w) a vs ep:=by
 obtain⟨hget,hz,hS,vs,r,m⟩:=(show V1 X.prog X.w H s.heap a (.frz o (.dK kvs))from I.hok a _ e)
 obtain⟨ep',dat⟩:=m.dictAt
 have hep:ep'=ep:=by
  obtain⟨o',es',h1,_,h3,_⟩:=id dat
  rw[hget]at h1
  cases h1
  rw[ho]at h3
  cases h3
  rfl
 subst hep
 exact⟨hS,vs,r,dat⟩
theorem bZ5{P:Program}{w:World}{K:PySem.W.Frag}{tg:Expr}{a:Addr}{o:Obj}{es:Array DictEntry}{ep:Nat}{kvs:List (Key×V)}(ho:o.data= .dict es ep)(it:Addr):bL6 P w K tg (Itd a o kvs) [it] it (fun i h=>h.IsKeyIter it a i kvs.length ep) where
 mem:=by simp
 obj:=fun i h st b hb=>by
  have e:b=it:=by simpa using hb
  subst e
  obtain⟨o,e,c,d⟩:=st
  exact⟨o,e,fun v z=>by rw[d]at z;cases z⟩
 keep:=fun i h h' st k=>let ⟨o,ho,r⟩:=st;⟨o,k it (by simp) o ho,r⟩
 item:=by
  intro X hP hw hK hc i pins s σ H E I hf st hg
  subst hP hw hK
  obtain⟨hfr,kv,hx⟩:=hg
  obtain⟨f0,f1,f2,f3,f4,f5⟩:=hf it (by simp)
  obtain⟨hS,vs,rel,dat⟩:=dR8 I ho hfr
  obtain⟨v,hv⟩:=dN2 rel hx
  have hlen:kvs.length=vs.length:=Paired.length rel
  rw[hlen]at st
  refine wpAny_pyNext_dict_item st dat hv fun key h' hk st' sb=>?_
  have I1:Inv X pins σ H {s with heap:=h'}:=I.turned (t':=s.toks) (fun b o hb e=>(sb.2 b hb).trans e) f0 f1 f3 f4 f5
  obtain⟨o',e,cc,d⟩:=id st'
  refine⟨_,rfl,bX8 (s:={s with heap:=h'}) e cc d (by decide) ⟨kV kv.1,H,I1,eS3 hk,⟨rfl,kv,hx,rfl⟩,by rw[hlen];exact st',fun b hb=>(hf b hb).1⟩⟩
 done:=by
  intro X hP hw hK hc i pins s σ H E I hf st hg
  subst hP hw hK
  obtain⟨hfr,hi⟩:=hg
  obtain⟨f0,f1,f2,f3,f4,f5⟩:=hf it (by simp)
  obtain⟨hS,vs,rel,dat⟩:=dR8 I ho hfr
  have hlen:kvs.length=vs.length:=Paired.length rel
  rw[hlen]at st hi
  exact wpAny_pyNext_dict_end (I.ok.hd hc) st dat (List.getElem?_eq_none hi) fun h' eb=>⟨rfl,I.turned (t':=s.toks) (fun b o hb e=>eb b o hb e) f0 f1 f3 f4 f5⟩
 self:=fun _ _ _ _ _ st h=>wpAny_pyIter_keyiter st h
theorem J0.setR{c:Wc}{μ:List Addr}{G:DH}{H:Hp}{i:Nat}{a:Addr}{o o':DO}{u:HO}(h:J0 c μ G H)(g:G[i]? =some o)(n:¬aM9 (some o))(m:μ[i]? =some a)(k:Ext μ H μ (upd H a u))(ho:aK7 c μ (upd H a u) a o'):J0 c μ (G.set i o') (upd H a u):=by
 have hi:i<G.length:=lt_of_get g
 have get:∀j,(G.set i o')[j]? =if i=j then some o' else G[j]? :=fun j=>by
  rw[List.getElem?_set]
  by_cases e:i=j
  ·subst e;simp[hi]
  ·simp[e]
 refine⟨by simp[h.len],fun j l b ej el=>?_,fun j o2 b gj mj=>?_⟩
 · rcases h.inj j l b ej el with e|e|e
   ·exact .inl e
   · by_cases ij:i=j
     ·subst ij;rw[g]at e;exact(n e).elim
     ·right;left;rw[get,if_neg ij];exact e
   · by_cases ij:i=l
     ·subst ij;rw[g]at e;exact(n e).elim
     ·right;right;rw[get,if_neg ij];exact e
 · rw[get]at gj
   by_cases ij:i=j
   · subst ij
     rw[if_pos rfl]at gj
     cases gj
     rw[m]at mj
     cases mj
     exact ho
   · rw[if_neg ij]at gj
     have q:=h.obj j o2 b gj mj
     by_cases hr:aM9 (some o2)
     ·exact q.mono k (.inr hr)
     · have nb:b≠a:=fun e=>by
        subst e
        rcases h.inj i j b m mj with e|e|e
        ·exact ij e
        ·rw[g]at e;exact n e
        ·rw[gj]at e;exact hr e
       exact q.mono k (.inl (J7 nb))
section
variable{X:Cx}{Z:XC}{tg e:Expr}
theorem Inv.freeze{pins:PNS}{s:Shared}{σ:St}{H:Hp}{a:Addr}{o:Obj}{kvs:List (Key×V)}(I:Inv X pins σ H s)(e:H a=some (.dK kvs))(ho:s.heap.get? a=some o):Inv X pins σ (upd H a (.frz o (.dK kvs))) s:=by
 have q:V1 X.prog X.w H s.heap a (.dK kvs):=I.hok a _ e
 exact I.write (x:=a) (e:=a) (t':=s.toks) (h':=s.heap) (by rw[e];exact trivial) (.inl rfl) (fun b u _ z=>z) ⟨o,ho⟩ ⟨ho,q⟩
def iW(K:PySem.W.Frag)(tl:TE):TI:=fun σ H R=>tl σ H fun x H1=>((∃z,x= .str z∧R (Its z) H1)∨(∃k a xs,x= .ref a∧Sq K k H1 a xs∧R (if k=true then Itt K a else Itl K a) H1))∨
 (∃a kvs,x= .ref a∧H1 a=some (.dK kvs)∧∀o,R (Itd a o kvs) (upd H1 a (.frz o (.dK kvs))))∨(∃a o kvs,x= .ref a∧H1 a=some (.frz o (.dK kvs))∧R (Itd a o kvs) H1)
theorem fK6{tl:TE}(hl:PE X e tl):PI X tg e (iW X.K tl):=by
 intro pins s σ H R I h
 refine thn (hl pins s σ H _ I h) fun v s1 hE1=>hE1.elim fun x H1 I1 r1 q1=>?_
 have fpo:∀b∈ [s1.heap.objs.size],aS0 X pins H1 b:=fun b hb=>by
  have z:b=s1.heap.objs.size:=by simpa using hb
  subst z
  exact I1.fpOk (Nat.le_refl _) (I1.hok.fresh (Nat.le_refl _))
 rcases q1 with(⟨z,rfl,q⟩|⟨k,a,xs,rfl,hq,q⟩)|⟨a,kvs,rfl,hq,q⟩|⟨a,o,kvs,rfl,hq,q⟩
 · obtain⟨t,rfl⟩:=(show ∃t,v=Value.str z t from r1)
   refine wpAny_pyIter_strU ?_
   have I2:Inv X pins σ H1 {s1 with heap:=s1.heap.push {cls:=.type (strIterType z),data:=.fields #[.str z t,.int 0 0]}}:=I1.kept (t':=s1.toks) fun b o z=>Heap.get?_push_of_some _ z
   have hg:(s1.heap.push {cls:=.type (strIterType z),data:=.fields #[.str z t,.int 0 0]}).get? s1.heap.objs.size=some {cls:=.type (strIterType z),data:=.fields #[.str z t,.int 0 0]}:=Heap.get?_push_size _ rfl
   by_cases ha:z.cps.all (· < 128)=true
   · have e:strIterType z= "str_ascii_iterator":=by unfold strIterType;rw[if_pos ha]
     refine⟨s1.heap.objs.size, [s1.heap.objs.size],_,_,H1,rfl,I2,cT5 z t _,?_,fpo,q⟩
     rw[e]at hg ⊢
     exact⟨_,hg,rfl,rfl⟩
   · have e:strIterType z= "str_iterator":=by unfold strIterType;rw[if_neg ha]
     refine⟨s1.heap.objs.size, [s1.heap.objs.size],_,_,H1,rfl,I2,dH3 z t _,?_,fpo,q⟩
     rw[e]at hg ⊢
     exact⟨_,hg,rfl,rfl⟩
 · cases r1
   rcases k with _|_
   ·
     obtain⟨its,rv,p,hz⟩:=I1.list hq
     exact wpAny_pyIter_list p.isList ⟨s1.heap.objs.size, [s1.heap.objs.size],_,_,H1,rfl,I1.kept (t':=s1.toks) fun b o z=>Heap.get?_push_of_some _ z,dI4 a _,⟨_,Heap.get?_push_size _ rfl,rfl,rfl⟩,fpo,q⟩
   ·
     obtain⟨its,rv,p,hz⟩:=I1.tuple hq
     exact wpAny_pyIter_tuple (show s1.heap.IsTuple a its.toArray from p) ⟨s1.heap.objs.size, [s1.heap.objs.size],_,_,H1,rfl,I1.kept (t':=s1.toks) fun b o z=>Heap.get?_push_of_some _ z,cS8 a _,⟨_,Heap.get?_push_size _ rfl,rfl,rfl⟩,fpo,q⟩
 · cases r1
   obtain⟨hz,hS,vs,rel,dd⟩:=dP7 I1.hok hq
   obtain⟨ep,dat⟩:=dd.dictAt
   obtain⟨o,es,h1,h2,h3,h4⟩:=id dat
   have hlen:kvs.length=vs.length:=Paired.length rel
   have I2:=DL.Inv.freeze I1 hq h1
   have fpo2:∀b∈ [s1.heap.objs.size],aS0 X pins (upd H1 a (.frz o (.dK kvs))) b:=fun b hb=>by
    have z:b=s1.heap.objs.size:=by simpa using hb
    subst z
    exact I2.fpOk (Nat.le_refl _) (I2.hok.fresh (Nat.le_refl _))
   refine wpAny_pyIter_dict hS dat ⟨s1.heap.objs.size, [s1.heap.objs.size],_,_,upd H1 a (.frz o (.dK kvs)),rfl,I2.kept (t':=s1.toks) fun b o z=>Heap.get?_push_of_some _ z,bZ5 (kvs:=kvs) h3 _,?_,fpo2,q o⟩
   rw[hlen]
   exact⟨_,Heap.get?_push_size _ rfl,rfl,rfl⟩
 · cases r1
   obtain⟨hget,hz,hS,vs,rel,dd⟩:=(show V1 X.prog X.w H1 s1.heap a (.frz o (.dK kvs))from I1.hok a _ hq)
   obtain⟨ep,dat⟩:=dd.dictAt
   obtain⟨o',es,h1,h2,h3,h4⟩:=id dat
   rw[hget]at h1
   cases h1
   have hlen:kvs.length=vs.length:=Paired.length rel
   refine wpAny_pyIter_dict hS dat ⟨s1.heap.objs.size, [s1.heap.objs.size],_,_,H1,rfl,I1.kept (t':=s1.toks) fun b o z=>Heap.get?_push_of_some _ z,bZ5 (kvs:=kvs) h3 _,?_,fpo,q⟩
   rw[hlen]
   exact⟨_,Heap.get?_push_size _ rfl,rfl,rfl⟩
noncomputable def dV2:Key→D
 | .inl i=>.int i
 | .inr x=>.str x
def cJ8(l:List (Key×D)):List D:=l.map fun kv=>dV2 kv.1
def dS8:D→M Src:=fun x=>match x with
 | .ref r=>do
   match ←R4 r with
   | .dct l=>do
     let _ ←bL4 r (.rod l)
     pure ⟨cJ8 l,fun _=>true⟩
   | .rod l=>pure ⟨cJ8 l,fun _=>true⟩
   |_=>eH9 (.ref r)
 |d=>eH9 d
def itW(f:Fe):DSt→M Src:=fun σ=>do dS8 (←f σ)
theorem cD3{μ1:List Addr}{G1:DH}{H1:Hp}{d:D}{v:V}{R:It→Hp→Prop}(h1:J0 (wc X) μ1 G1 H1)(rv:d9 (wc X) μ1 H1 d v)(p1:d8 (wc X) Z μ1 H1 (eH9 d G1) fun s μ' _ H'=>∀J,ItD (wc X) μ' H' J s→R J H'):
 (∃z,v= .str z∧R (Its z) H1)∨(∃k a xs,v= .ref a∧Sq X.K k H1 a xs∧R (if k=true then Itt X.K a else Itl X.K a) H1):=by
 have main:∀dd:D,(∀z,dd≠ .str z)→d9 (wc X) μ1 H1 dd v→d8 (wc X) Z μ1 H1 (aL1 dd G1) (fun s μ' _ H'=>∀J,ItD (wc X) μ' H' J s→R J H')→(∃z,v= .str z∧R (Its z) H1)∨(∃k a xs,v= .ref a∧Sq X.K k H1 a xs∧R (if k=true then Itt X.K a else Itl X.K a) H1):=by
  intro dd _ rv p1
  have p1':d8 (wc X) Z μ1 H1 ((aL1 dd >>= fun s=>(pure s:M Src)) G1) fun s μ' _ H'=>∀J,ItD (wc X) μ' H' J s→R J H':=by
   have e:(aL1 dd >>= fun s=>(pure s:M Src))=aL1 dd:=by
    funext G
    rw[M.bind_eq]
    rcases aL1 dd G with _|q
    ·rfl
    ·obtain⟨r,G'⟩:=q;cases r<;>rfl
   rw[e];exact p1
  obtain⟨sr,k,a,vs,rfl,q,rl,is,ck,_,p2⟩:=aW6 h1 rv p1'
  refine .inr ⟨k,a,vs,rfl,q,d8.ok p2 h1 _ fun μ' G' H' x' h' ck' i=>?_⟩
  obtain⟨vs',q',rl'⟩:=is μ' G' H' x' h' ck'
  refine⟨fun d hd=>?_,fun hi=>?_⟩
  · obtain⟨y,hy,ry⟩:=rl'.get hd
    cases k with
    |true=>
      rw[if_pos rfl]
      exact⟨⟨vs',y,q',hy⟩,fun x H2 ⟨e1,e2⟩=>by subst e1;exact⟨Ext.refl _ _,h',cY5 rl' hd (e2 vs' q')⟩⟩
    |false=>
      rw[if_neg Bool.false_ne_true]
      exact⟨⟨vs',y,q',hy⟩,fun x H2 ⟨e1,e2⟩=>by subst e1;exact⟨Ext.refl _ _,h',cY5 rl' hd (e2 vs' q')⟩⟩
  · cases k with
    |true=>rw[if_pos rfl];exact⟨vs',q',by rw[←rl'.length];exact hi⟩
    |false=>rw[if_neg Bool.false_ne_true];exact⟨vs',q',by rw[←rl'.length];exact hi⟩
 cases d with
 |str z=>
   refine .inl ⟨z,aV6 rv,d8.ok p1 h1 _ fun μ' G' H' x' h' ck' i=>⟨fun d hd=>?_,fun hi=>?_⟩⟩
   · simp only[aI8,List.getElem?_map]at hd
     cases hc:z.cps.toList[i]? with
     |none=>rw[hc]at hd;cases hd
     |some c=>
       rw[hc]at hd
       cases hd
       have hc':z.cps[i]? =some c:=by rw[←Array.getElem?_toList];exact hc
       exact⟨⟨c,hc'⟩,fun x H2 ⟨e1,c2,e2,e3⟩=>by
        subst e1
        rw[hc']at e2
        cases e2
        exact⟨Ext.refl _ _,h',by rw[e3];unfold d9;rfl⟩⟩
   · simp only[aI8,List.length_map]at hi
     show z.cps[i]? =none
     rw[←Array.getElem?_toList]
     exact List.getElem?_eq_none hi
 |tup l=>exact main (.tup l) (fun z q=>nomatch q) rv p1
 |ref r=>exact main (.ref r) (fun z q=>nomatch q) rv p1
 |_=>exact p1.elim
theorem cO2{c:Wc}{μ:List Addr}{H:Hp}:∀ {l:List (Key×D)} {kvs:List (Key×V)} {i:Nat} {kd:Key×D},aA7 c μ H l kvs→l[i]? =some kd→∃v,kvs[i]? =some (kd.1,v)
 |[],_,_,_,_,e=>by simp at e
 |(k,d)::r,_,0,_,h,e=>by
  obtain⟨v,t,rfl,_,_⟩:=h
  simp only[List.getElem?_cons_zero,Option.some.injEq]at e
  subst e
  exact⟨v,rfl⟩
 |(k,d)::r,_,i+1,_,h,e=>by
  obtain⟨v,t,rfl,_,ht⟩:=h
  simp only[List.getElem?_cons_succ]at e ⊢
  exact cO2 ht e
theorem eD4{c:Wc}{μ:List Addr}{H:Hp}(k:Key):d9 c μ H (dV2 k) (kV k):=by
 cases k<;>(unfold dV2 d9;rfl)
theorem dL8{c:Wc}{μ:List Addr}{H:Hp}{a:Addr}{o:Obj}{l:List (Key×D)}{kvs:List (Key×V)}(e:H a=some (.frz o (.dK kvs)))(rk:aA7 c μ H l kvs):ItD c μ H (Itd a o kvs) ⟨cJ8 l,fun _=>true⟩:=by
 intro μ' G' H' x h' _ i
 have e':=x.frz _ _ _ e
 refine⟨fun d hd=>?_,fun hi=>⟨e',by rw[←rk.length];simpa [cJ8]using hi⟩⟩
 simp only[cJ8,List.getElem?_map]at hd
 cases hl:l[i]? with
 |none=>rw[hl]at hd;cases hd
 |some kd=>
   rw[hl]at hd
   cases hd
   obtain⟨v,hv⟩:=cO2 rk hl
   exact⟨⟨e',_,hv⟩,fun y H2 ⟨e1,kv,e2,e3⟩=>by
    subst e1
    rw[hv]at e2
    cases e2
    exact⟨Ext.refl _ _,h',by rw[e3];exact eD4 _⟩⟩
theorem fK7{f:Fe}(he:DE X Z e f):DI X Z tg e (itW f):=
 DI.of (fK6 he.h) fun σ H R hE0=>hE0.elim fun dσ μ G s h p=>⟨dσ,μ,G,s,h,(d8.bind p).mono fun d μ1 G1 H1 x1 h1 p1 v rv=>by
  cases d with
  |ref r=>
    have rv':=rv
    unfold d9 at rv'
    obtain⟨a,m,rfl⟩:=rv'
    obtain⟨o,g,p2⟩:=Q7 p1
    have ro:=h1.obj r o a g m
    rcases o with l|l|l|l
    ·exact .inl (cD3 h1 rv p2)
    ·exact .inl (cD3 h1 rv p2)
    ·
      obtain⟨kvs,q,rk⟩:=ro
      refine .inr (.inl ⟨a,kvs,rfl,q,fun o=>?_⟩)
      have x:Ext μ1 H1 μ1 (upd H1 a (.frz o (.dK kvs))):=Ext.mut (List.mem_of_getElem? m) q (fun _ z=>nomatch z) (fun _ _ z=>nomatch z) _
      have hk':=rk.mono x
      have h2:J0 (wc X) μ1 (G1.set r (.rod l)) (upd H1 a (.frz o (.dK kvs))):=h1.setR g (fun z=>z) m x ⟨kvs,o,R3,hk'⟩
      have p3:=d8.from p2 x
      exact d8.ok p3 h2 _ (dL8 R3 hk')
    ·
      obtain⟨kvs,o,q,rk⟩:=ro
      exact .inr (.inr ⟨a,o,kvs,rfl,q,d8.ok p2 h1 _ (dL8 q rk)⟩)
  |_=>exact .inl (cD3 h1 rv p1)⟩
end
end DL
namespace W
open PySem PySem.Spec L2 DL
open PyProof.Rows hiding St
section
variable{G:DH}{σ:DSt}{R:Src→DH→Prop}
theorem wp_itW{f:Fe}:Wp (itW f σ) G R↔Wp (f σ) G fun x G1=>Wp (dS8 x) G1 R:=by
 unfold itW;simp only[m5]
theorem srcW_tup{l:List D}:Wp (dS8 (.tup l)) G R↔R ⟨l,fun _=>true⟩ G:=j9
theorem aU5{p:Nat}{l:List D}(e:G[p]? =some (.lst l)):Wp (dS8 (.ref p)) G R↔R ⟨l,ckO p (.lst l)⟩ G:=by
 unfold dS8
 simp only[m5,T7,e,R9]
 exact dR0 e
end
end W
namespace DL
open PySem PySem.Spec L2
open PyProof.Rows hiding St
section
variable{prog:Program}{w:World}{A:Around}{E:VSP}{s:Shared}{Q:VSP}
theorem cW4{a:Addr}{T:String}{o:Obj}{vs:List Value}{n:Nat}(hT:T= "list"∨T= "tuple")(ho:s.heap.get? a=some o)(hc:o.cls= .type T)(hd:o.data= .seq vs.toArray n)(h64:vs.length<64){ss:List Str}(hS:StrsAre vs ss)
 (h:∀(h1 h':Heap) (tk e:Nat) (out:List Value) (ss':List Str),(∀b o,s.heap.get? b=some o→h1.get? b=some o)→(∀b o,h1.get? b=some o→h'.get? b=some o)→h'.get? h1.objs.size=some (seqObj "list" out.toArray e)→StrsAre out ss'→ss'.Perm ss→sortedS ss'=true→Q (.ref h1.objs.size) {s with heap:=h',toks:=tk}):
 wpAny (model prog w) A (call (.builtin "sorted") [.ref a]) Q E s:=by
 have hz:vs.length≤sizeLine:=Nat.le_trans (Nat.le_of_lt h64) (by decide)
 refine Calls.call_function_entry kind_sorted plain_sorted entry_sorted (args_sorted1 _) ?_
 unfold Builtin.«sorted»
 refine wpAny_bind (m:=checkCount "sorted" 1 1 _) (wpAny_pure ?_)
 refine wpAny_bind (wpAny_collect_seq (A:=A.in1) a hT ho hc hd (fun h1 hk=>?_) (by rw[List.size_toArray];exact hz))
 refine wpAny_bind (wpAny_newList ?_ hz)
 have hoL:(h1.push (seqObj "list" vs.toArray 0)).get? h1.objs.size=some (seqObj "list" vs.toArray 0):=Heap.get?_push_size _ rfl
 refine wpAny_bind (wpAny_holding (wpAny_call_entry slot_list_sort ⟨_,hoL,rfl⟩ entry_list_sort (list_sort_treeK strKind_oneLt hoL hS.keysOf (fun v₁ v₂ U9 e=>keyKind_strs (by rw[←e];exact hS)) h64 fun st' a1 a2=>⟨_,rfl,?_⟩) (args_list_sort _)))
 obtain⟨ss',b1,b2,b3⟩:=sorted_out_str hS a1 a2
 obtain⟨e,he⟩:=sortedHeap_at (vs:=vs) (out:=(arrOf st').map (·.2)) hoL
 refine wpAny_pure ⟨_,rfl,h h1 _ s.toks e ((arrOf st').map (·.2)).toList ss' hk (fun b o hb=>?_) (by rw[Array.toArray_toList];exact he) b1 b2 b3⟩
 have hlt:b<h1.objs.size:=Heap.lt_size hb
 rw[sortedHeap_old (Nat.ne_of_lt hlt) (by rw[size_push'];exact Nat.lt_succ_of_lt hlt),Heap.get?_push_ne _ _ _ (Nat.ne_of_lt hlt)]
 exact hb
end
def dW5(l:List D):M D:=do
 let ss ←aK1 (aU1 l)
 if ss.length<64 then Q5 (.lst ((aK2 ss).map .str))else M.stuck
def aP1:List D→M D:=fun ds=>match ds with
 |[.tup l]=>dW5 l
 |[.ref r]=>do
   match ←R4 r with
   | .lst l=>dW5 l
   | .dct l=>do
     let ss ←aK1 (K8 l)
     if ss.length<64 then Q5 (.lst ((aK2 ss).map .str))else M.stuck
   |_=>M.stuck
 |_=>M.stuck
section
variable{X:Cx}{Z:XC}
theorem cP1{c:Wc}{μ:List Addr}{H:Hp}:∀ {l:List D} {ss:List Str} {vs:List V} {us:List Value},aU1 l=some ss→o9 c μ H l vs→w6 vs us→StrsAre us ss
 |[],_,_,_,e,r,v=>by cases e;cases r;cases v;exact .nil
 | .str x::t,ss,_,_,e,r,v=>by
   replace e:=show (aU1 t).map (_ :: ·)=some _ from e
   rcases h:aU1 t with _|q
   ·rw[h]at e;exact J1 e
   ·
     rw[h]at e
     cases e
     obtain⟨v0,tl,rfl,r0,rt⟩:=r
     cases v with
     |cons ru rt2=>
       rw[aV6 r0]at ru
       obtain⟨tk,rfl⟩:=ru
       exact .cons _ _ (cP1 h rt rt2)
 | .non::_,_,_,_,e,_,_=>by exact J1 e
 | .bl _::_,_,_,_,e,_,_=>by exact J1 e
 | .int _::_,_,_,_,e,_,_=>by exact J1 e
 | .tup _::_,_,_,_,e,_,_=>by exact J1 e
 | .ref _::_,_,_,_,e,_,_=>by exact J1 e
 | .fn _::_,_,_,_,e,_,_=>by exact J1 e
 | .ty _::_,_,_,_,e,_,_=>by exact J1 e
theorem cM4:∀ {l:List D} {ss:List Str},aU1 l=some ss→ss.length=l.length
 |[],_,e=>by cases e;rfl
 | .str x::t,ss,e=>by
   replace e:=show (aU1 t).map (_ :: ·)=some _ from e
   rcases h:aU1 t with _|q
   ·rw[h]at e;exact J1 e
   ·rw[h]at e;cases e;simp[cM4 h]
 | .non::_,_,e=>by exact J1 e
 | .bl _::_,_,e=>by exact J1 e
 | .int _::_,_,e=>by exact J1 e
 | .tup _::_,_,e=>by exact J1 e
 | .ref _::_,_,e=>by exact J1 e
 | .fn _::_,_,e=>by exact J1 e
 | .ty _::_,_,e=>by exact J1 e
theorem cL6{μ:List Addr}{G:DH}{pins:PNS}{s:Shared}{σ:St}{H:Hp}{Q:VK}{a:Addr}{T:String}{o:Obj}{vs:List V}{us:List Value}{n:Nat}{l:List D}(I:Inv X pins σ H s)(hr:J0 (wc X) μ G H)(rl:o9 (wc X) μ H l vs)(rv:w6 vs us)(hT:T= "list"∨T= "tuple")(ho:s.heap.get? a=some o)(hc:o.cls= .type T)(hd:o.data= .seq us.toArray n)
 (p:d8 (wc X) Z μ H (dW5 l G) fun d μ' _ H'=>∀v,d9 (wc X) μ' H' d v→Q v H'):wpAny (model X.prog X.w) X.A (call (.builtin "sorted") [.ref a]) (EP X pins σ Q) X.xe s:=by
 obtain⟨ss,es,p2⟩:=aC0 p
 split at p2
 case isFalse=>exact p2.elim
 rename_i h64
 have hS:=cP1 es rl rv
 have hlen0:us.length=ss.length:=by rw[cM4 es,rl.length,rv.length]
 refine cW4 hT ho hc hd (by lia) hS fun h1 h' tk e out ss' k1 k2 he hS' hp hs=>?_
 have e2:=cM5 hp hs
 subst e2
 obtain⟨ws,ew,rv',rl2⟩:=bO6 (c:=wc X) (μ:=μ) (H:=H) hS'
 have I1:Inv X pins σ H {s with heap:=h1,toks:=tk}:=I.kept k1
 have hf:=I1.hok.fresh (Nat.le_refl _)
 have hlen:ws.length≤sizeLine:=by
  rw[ew,List.length_map]
  have e3:(aK2 ss).length=ss.length:=(List.mergeSort_perm ss leS).length_eq
  have:(64:Nat)≤sizeLine:=by decide
  lia
 exact⟨.ref h1.objs.size,upd H h1.objs.size (.lst ws),I1.laid (t':=tk) k2 (Nat.le_refl _) ⟨hlen,out,e,rv',he⟩,rfl,aE9 hr rl2 p2 _ hf⟩
theorem cS2(hc:X.calm=true):aA4 X Z (.builtin "sorted") aP1:=⟨by
 intro pins s σ H xs us Q I r hE0
 obtain⟨ds,μ,G,rl,hr,p⟩:=hE0
 rcases ds with _|⟨_|_|_|_|l|i|_|_,_|⟨_,_⟩⟩<;>try exact p.elim
 all_goals (delta aP1 at p;dsimp only at p)
 · obtain⟨v,rfl,rv⟩:=aS1 rl
   obtain⟨u,rfl,ru⟩:=aE7 r
   unfold d9 at rv
   obtain⟨a,vs,rfl,q,rl'⟩:=rv
   cases ru
   obtain⟨its,rv,⟨o,h1,h2,n,h3⟩,hz⟩:=I.tuple q
   exact cL6 I hr rl' rv (.inr rfl) h1 h2 h3 p
 · obtain⟨v,rfl,rv⟩:=aS1 rl
   obtain⟨u,rfl,ru⟩:=aE7 r
   have rv':=rv
   unfold d9 at rv'
   obtain⟨a,m,rfl⟩:=rv'
   cases ru
   obtain⟨o,g,p1⟩:=Q7 p
   have ro:=hr.obj i o a g m
   rcases o with l|l|l|l
   ·
     obtain⟨vs,q,rl'⟩:=ro
     obtain⟨its,rv,pl,hz⟩:=I.list (SqL.of q)
     obtain⟨o,h1,h2,n,h3⟩:=pl.isList
     exact cL6 I hr rl' rv (.inl rfl) h1 h2 h3 p1
   ·exact p1.elim
   ·
     refine(dE2 (Z:=Z) hc).h pins s σ H [.ref a] [.ref a] Q I r ⟨[.ref i],μ,G,rl,hr,?_⟩
     have eo:R4 i G=some (.ok (.dct l),G):=by unfold R4;simp only[g]
     have e:cC5 [.ref i] G= ((do
      let ss ←aK1 (K8 l)
      if ss.length<64 then Q5 (.lst ((aK2 ss).map .str))else M.stuck:M D)) G:=by
      show ((R4 i >>= fun o=>match o with
       | .dct l => (do
         let ss ←aK1 (K8 l)
         if ss.length<64 then Q5 (.lst ((aK2 ss).map .str))else M.stuck:M D)
       |_=>M.stuck):M D) G=_
      rw[M.bind_ok eo]
     rw[e]
     exact p1
   ·exact p1.elim⟩
theorem cW7(h:X.calm=true):BD aP1 "sorted" X Z:=⟨.inl ⟨_,cS2 h,dH6⟩⟩
end
end DL
namespace W
open PySem PySem.Spec L2 DL
open PyProof.Rows hiding St
section
variable{G:DH}{Q:DPP}
theorem dI1{r:Nat}{l:List (Key×D)}{ss:List Str}(e:G[r]? =some (.dct l))(hs:K8 l=some ss)(h64:ss.length<64):Wp (aP1 [.ref r]) G Q↔Q (.ref G.length) (G++[.lst ((aK2 ss).map .str)]):=by
 unfold aP1
 simp only[m5,T7,e,R9,aQ1,hs,if_pos h64,aA8]
end
end W
namespace DL
open PySem
theorem bV6:typeLookup (.type "tuple") "keys" =pure none:=by rw[typeLookup_type,builtinLookup_eq_fast];kernel_rfl
theorem cF2:typeLookup (.type "list") "keys" =pure none:=by rw[typeLookup_type,builtinLookup_eq_fast];kernel_rfl
section
variable{prog:Program}{w:World}{A:Around}{E:VSP}
theorem bO8{h:Heap}{g:Array GenState}{d:Drawn}{t:Nat}{os:OsState}{a:Addr}{o:Obj}{xs:Array Value}{k:Nat}{Q:Option Value→Shared→Prop}
 (hx:h.get? a=some o) (hc:o.cls= .type "list") (hdat:o.data= .seq xs k) (hd:o.dict=none) (hA:A.handled=none)
 (hq:∀h' tk,(∀b ob,h.get? b=some ob→h'.get? b=some ob)→Q none ⟨h',g,d,tk,os⟩):
 wpAny (model prog w) A (getAttr? (.ref a) "keys") Q E ⟨h,g,d,t,os⟩:=by
 obtain⟨c,dct,dat,sl⟩:=o
 simp only at hc hdat hd
 subst hc hdat hd
 have hT:∀tk',(⟨h,g,d,tk',os⟩:Shared).TypeIs (.ref a) "list":=fun _=>⟨_,hx,rfl⟩
 have f1:=sub_AttributeError
 have f3:=F.slot_list_getattribute.lookup
 have f4:=F.slot_list_getattribute.bind (.ref a)
 have f5:=am_list_getattr_none
 unfold getAttr? getAttrBy? getAttrBy
 repeat (any_goals (first|assumption|exact hT _|((with_reducible show wpAny _ _ (call (Value.builtin "list.__getattribute__") _ _) _ _ _);refine call_meets F.slot_list_getattribute (hT _) am_entry_list_getattribute (F.args_list_getattribute_2 _ _) (meets_getattribute_miss_list a xs k sl "keys" _ cF2 (by decide +kernel) (by decide +kernel)) ⟨hx,hA,fun h' tk' e hx'=>?_⟩)|wp_step))
 obtain⟨t',u',he⟩:=hx'.there
 have hTe:∀tk'',(⟨h',g,d,tk'',os⟩:Shared).TypeIs (.ref e) "AttributeError":=fun _=>⟨_,he,rfl⟩
 show wpAny _ _ (getattributeRaised _ _ _ _ _ _ _) _ _ _
 unfold getattributeRaised
 repeat (any_goals (first|assumption|exact hTe _|wp_step))
 exact hq _ _ hx'.keeps
theorem bL7{h:Heap}{g:Array GenState}{d:Drawn}{t:Nat}{os:OsState}{a:Addr}{o:Obj}{xs:Array Value}{k:Nat}{Q:Option Value→Shared→Prop}
 (hx:h.get? a=some o) (hc:o.cls= .type "tuple") (hdat:o.data= .seq xs k) (hd:o.dict=none) (hA:A.handled=none)
 (hq:∀h' tk,(∀b ob,h.get? b=some ob→h'.get? b=some ob)→Q none ⟨h',g,d,tk,os⟩):
 wpAny (model prog w) A (getAttr? (.ref a) "keys") Q E ⟨h,g,d,t,os⟩:=by
 obtain⟨c,dct,dat,sl⟩:=o
 simp only at hc hdat hd
 subst hc hdat hd
 have hT:∀tk',(⟨h,g,d,tk',os⟩:Shared).TypeIs (.ref a) "tuple":=fun _=>⟨_,hx,rfl⟩
 have f1:=sub_AttributeError
 have f3:=F.slot_tuple_getattribute.lookup
 have f4:=F.slot_tuple_getattribute.bind (.ref a)
 have f5:=am_tuple_getattr_none
 unfold getAttr? getAttrBy? getAttrBy
 repeat (any_goals (first|assumption|exact hT _|((with_reducible show wpAny _ _ (call (Value.builtin "tuple.__getattribute__") _ _) _ _ _);refine call_meets F.slot_tuple_getattribute (hT _) am_entry_tuple_getattribute (F.args_tuple_getattribute_2 _ _) (meets_getattribute_miss_tuple a xs k sl "keys" _ bV6 (by decide +kernel) (by decide +kernel)) ⟨hx,hA,fun h' tk' e hx'=>?_⟩)|wp_step))
 obtain⟨t',u',he⟩:=hx'.there
 have hTe:∀tk'',(⟨h',g,d,tk'',os⟩:Shared).TypeIs (.ref e) "AttributeError":=fun _=>⟨_,he,rfl⟩
 show wpAny _ _ (getattributeRaised _ _ _ _ _ _ _) _ _ _
 unfold getattributeRaised
 repeat (any_goals (first|assumption|exact hTe _|wp_step))
 exact hq _ _ hx'.keeps
end
end DL
namespace DL
open PySem
open PyProof.Rows (IsTup)
theorem aR6:entryFor table "dict.update.loop" =some Builtin.«dict.update.loop»:=entryFor_of_tree (by kernel_rfl)
theorem X4:plainId "dict.update.loop" =true:=by decide +kernel
section
variable{prog:Program}{w:World}{A:Around}{R:Result→Shared→Prop}{I:Addr}{fp wr:List Addr}{n:Nat}{P:Nat→Value→Prop}{St:Nat→Heap→Prop}{K:Type}[DecidableEq K]{knd:KeyKind prog w K}
theorem cT1{s:Shared}{ta:Addr}{x y:Value}{Q:List Value→Shared→Prop}{E:VSP}(h:IsTup s.heap ta #[x,y])(q:Q [x,y] s):wpAny (model prog w) A (Builtin.Dict.pairItems (.ref ta)) Q E s:=by
 obtain⟨o,ho,hc,m,hd⟩:=h
 have hT:s.TypeIs (.ref ta) "tuple":=⟨_,ho,hc⟩
 unfold Builtin.Dict.pairItems
 refine wpAny_bind (wpAny_typeOf hT ?_)
 rw[if_pos (by decide)]
 exact wpAny_bind (wpAny_seqItems ho hd (wpAny_pure q))
theorem aL4(W:Walks prog w A.in1 I fp wr n P St)(S:Addr)(hSf:S∉fp)(h0:Heap)(ps:List (K×Value))(hn:ps.length=n)
 (hval:∀i v,P i v→∃ta key kv,v= .ref ta∧ps[i]? =some kv∧IsTup h0 ta #[key,kv.2]∧knd.is kv.1 key=true∧ta≠S∧ta∉wr) (hsz:n≤sizeLine):
 ∀(k i:Nat) (s:Shared) (m:Int) (tk:Tok),n-i=k→i≤n→St i s.heap→s.heap.DictOf knd S (merged [] (ps.take i))→(∀b o,b≠S→b∉wr→h0.get? b=some o→s.heap.get? b=some o)→
  (∀h' tk',h'.DictOf knd S (merged [] ps)→(∀b o,b≠S→b∉wr→h0.get? b=some o→h'.get? b=some o)→R (.ok (.ret .none)) {s with heap:=h',toks:=tk'})→
  codeAny (model prog w) A (.builtin "dict.update.loop" ⟨[.ref S,.ref I,.int m tk,.none], []⟩) R s:=by
 have hSw:S∉wr:=fun h=>hSf (W.sub _ h)
 intro k
 induction k with
 |zero=>
   intro i s m tk hk hi hst hS hh hR
   have hin:i=n:=by lia
   subst hin
   refine codeAny_builtin aR6 ?_
   rw[Around.under_plainId X4 _]
   show wpAny _ A.in1 (pyNext (.ref I) >>= _) _ _ s
   refine wpAny_bind (W.done s _ _ hst fun h' tk' hm=>?_)
   show wpAny _ A.in1 (Builtin.Dict.addKeywords S [] >>= _) _ _ _
   refine wpAny_bind (wpAny_pure ?_)
   refine wpAny_pure (hR h' tk' ?_ fun b o hb hb' e=>hm b o hb' (hh b o hb hb' e))
   rw[List.take_of_length_le (by lia)]at hS
   obtain⟨o,es,ep,ho,U9⟩:=hS
   exact⟨o,es,ep,hm S _ hSw ho,U9⟩
 |succ k ih=>
   intro i s m tk hk hi hst hS hh hR
   have hlt:i<n:=by lia
   refine codeAny_builtin aR6 ?_
   rw[Around.under_plainId X4 _]
   show wpAny _ A.in1 (pyNext (.ref I) >>= _) _ _ s
   refine wpAny_bind (W.item i s _ _ hlt hst fun v h' tk' hP hst' hm=>?_)
   obtain⟨ta,key,kv,rfl,hkv,⟨ot,hot,hct,mt,hdt⟩,hkey,hne,hnw⟩:=hval i v hP
   have hS':h'.DictOf knd S (merged [] (ps.take i)):=by
    obtain⟨o,es,ep,ho,U9⟩:=hS
    exact⟨o,es,ep,hm S _ hSw ho,U9⟩
   have ht':IsTup h' ta #[key,kv.2]:=⟨ot,hm ta _ hnw (hh ta _ hne hnw hot),hct,mt,hdt⟩
   refine wpAny_bind (wpAny_holding ?_)
   refine wpAny_bind (wpAny_tryCatch (cT1 ht' ?_))
   refine wpAny_holding ?_
   have hlen:(merged [] (ps.take i)).length≤sizeLine:=by
    have:=merged_length_le (K:=K) [] (ps.take i)
    rw[List.length_take,List.length_nil]at this
    lia
   refine wpAny_dictSet_pairs (hsz:=hlen) hkey hS' fun h'' hd'' hsb=>?_
   refine wpAny_pure ⟨plainId_quiet X4 _,ih (i+1) _ _ _ (by lia) hlt (W.frame _ _ _ hst' fun b hb o e=>?_) ?_ (fun b o hb hb' e=>?_) fun h3 tk3 hd3 hk3=>hR h3 tk3 hd3 hk3⟩
   ·rw[hsb.2 b (fun h:b=S=>hSf (by rw[←h];exact hb))];exact e
   ·rw[merged_take_succ [] ps i kv hkv];exact hd''
   ·rw[hsb.2 b hb];exact hm b o hb' (hh b o hb hb' e)
end
section
variable{prog:Program}{w:World}{A:Around}{E:VSP}{s:Shared}{K:Type}[DecidableEq K]{knd:KeyKind prog w K}
theorem bS0{src:Addr}{o:Obj}{items:Array Value}{m:Nat}{ps:List (K×Value)}{Q:VSP}(hx:s.heap.get? src=some o)(hc:o.cls= .type "list")(hd:o.data= .seq items m)(hdict:o.dict=none)(hA:A.handled=none)
 (hn:ps.length=items.size) (hsz:items.size≤sizeLine) (hval:∀(i:Nat) (v:Value),items[i]? =some v→∃(ta:Addr) (key:Value) (kv:K×Value),v= .ref ta∧ps[i]? =some kv∧IsTup s.heap ta #[key,kv.2]∧knd.is kv.1 key=true)
 (h:∀h' tk,h'.DictOf knd s.heap.objs.size (merged [] ps)→(∀b o,s.heap.get? b=some o→h'.get? b=some o)→Q (.ref s.heap.objs.size) {s with heap:=h',toks:=tk}):
 wpAny (model prog w) A (call (.type "dict") [.ref src]) Q E s:=by
 refine callType_codes (Q₁:=fun obj s₁=>obj= .ref s.heap.objs.size∧s₁= {s with heap:=s.heap.push {cls:=.type "dict",data:=.dict #[]}}) F.kt_called_dict (F.kt_typeCall_dict_1 _) F.entry_dict_init (kt_code_dict_new _ ⟨rfl,rfl⟩) ?_
 rintro obj s₁ ⟨rfl,rfl⟩
 have hnew:(s.heap.push {cls:=.type "dict",data:=.dict #[]}).DictOf knd s.heap.objs.size []:=Heap.DictOf.new s.heap
 have hlt:src<s.heap.objs.size:=Heap.lt_size hx
 have hx1:(s.heap.push {cls:=.type "dict",data:=.dict #[]}).get? src=some o:=Heap.get?_push_of_some _ hx
 have hT1:Shared.TypeIs {s with heap:=s.heap.push {cls:=.type "dict",data:=.dict #[]}} (.ref src) "list":=⟨_,hx1,hc⟩
 refine⟨hnew.typeIs,F.args_dict_init_2 _ _,?_⟩
 unfold Builtin.«dict.__init__»
 refine wpAny_bind ?_
 unfold Builtin.Dict.selfAndRest
 refine wpAny_bind (wpAny_notOrdered_dict hnew.typeIs ?_)
 show wpAny _ _ (pure (s.heap.objs.size, [Value.ref src])) _ _ _
 refine wpAny_pure ?_
 show wpAny _ _ (Builtin.Dict.updateFrom "dict.__init__" s.heap.objs.size (.ref src) [] .none) _ _ _
 unfold Builtin.Dict.updateFrom
 refine wpAny_bind (wpAny_typeOf hT1 ?_)
 rw[if_pos (by decide)]
 have hA2:A.in1.in1.handled=none:=by simp[hA]
 refine wpAny_bind (bO8 hx1 hc hd hdict hA2 fun h2 tk2 k2=>?_)
 simp only[Option.isNone_none,if_true]
 refine wpAny_bind (wpAny_rule ?_)
 have hx2:h2.get? src=some o:=k2 _ _ hx1
 have hl2:h2.IsList src items:=⟨o,hx2,hc,m,hd⟩
 have hS2:h2.DictOf knd s.heap.objs.size []:=by
  obtain⟨o,es,ep,ho,U9⟩:=hnew
  exact⟨o,es,ep,k2 _ _ ho,U9⟩
 have hlt2:s.heap.objs.size<h2.objs.size:=by
  obtain⟨o,es,ep,ho,U9⟩:=hS2
  exact Heap.lt_size ho
 refine wpAny_bind (wpAny_pyIter_list hl2 ?_)
 have hA1:A.in1.in1.handled=none:=hA2
 refine wpAny_pure ⟨plainId_quiet X4 _,?_⟩
 have hkeep:∀b ob,s.heap.get? b=some ob→h2.get? b=some ob:=fun b ob e=>k2 _ _ (Heap.get?_push_of_some _ e)
 refine aL4 (knd:=knd) (Walks.list (A:=A.in1.in1) hA1 h2.objs.size src (Nat.ne_of_lt (Nat.lt_trans hlt hlt2)) items) s.heap.objs.size ?_ s.heap ps hn ?_ hsz items.size 0 _ _ _ (by lia) (Nat.zero_le _) ?_ ?_ ?_ ?_
 · simp only[List.mem_cons,List.not_mem_nil,or_false,not_or]
   exact⟨Nat.ne_of_lt hlt2,Nat.ne_of_gt hlt⟩
 · intro i v hv
   obtain⟨ta,key,kv,e1,e2,e3,e4⟩:=hval i v hv
   have hta:ta<s.heap.objs.size:=by obtain⟨_,e,_⟩:=e3;exact Heap.lt_size e
   exact⟨ta,key,kv,e1,e2,e3,e4,Nat.ne_of_lt hta,by simp only[List.mem_cons,List.not_mem_nil,or_false];exact Nat.ne_of_lt (Nat.lt_trans hta hlt2)⟩
 ·exact⟨⟨_,Heap.get?_push_size _ rfl,rfl,rfl⟩,hl2.push _⟩
 · show Heap.DictOf knd (h2.push _) _ _
   exact hS2.push _
 · intro b ob hb hb' e
   exact Heap.get?_push_of_some _ (hkeep b ob e)
 · intro h' tk' hd' hk'
   refine⟨rfl,h h' tk' hd' fun b ob e=>hk' b ob ?_ ?_ e⟩
   ·exact Nat.ne_of_lt (Heap.lt_size e)
   · simp only[List.mem_cons,List.not_mem_nil,or_false]
     exact Nat.ne_of_lt (Nat.lt_trans (Heap.lt_size e) hlt2)
theorem bL8{src:Addr}{o:Obj}{items:Array Value}{m:Nat}{ps:List (K×Value)}{Q:VSP}(hx:s.heap.get? src=some o)(hc:o.cls= .type "tuple")(hd:o.data= .seq items m)(hdict:o.dict=none)(hA:A.handled=none)
 (hn:ps.length=items.size) (hsz:items.size≤sizeLine) (hval:∀(i:Nat) (v:Value),items[i]? =some v→∃(ta:Addr) (key:Value) (kv:K×Value),v= .ref ta∧ps[i]? =some kv∧IsTup s.heap ta #[key,kv.2]∧knd.is kv.1 key=true)
 (h:∀h' tk,h'.DictOf knd s.heap.objs.size (merged [] ps)→(∀b o,s.heap.get? b=some o→h'.get? b=some o)→Q (.ref s.heap.objs.size) {s with heap:=h',toks:=tk}):
 wpAny (model prog w) A (call (.type "dict") [.ref src]) Q E s:=by
 refine callType_codes (Q₁:=fun obj s₁=>obj= .ref s.heap.objs.size∧s₁= {s with heap:=s.heap.push {cls:=.type "dict",data:=.dict #[]}}) F.kt_called_dict (F.kt_typeCall_dict_1 _) F.entry_dict_init (kt_code_dict_new _ ⟨rfl,rfl⟩) ?_
 rintro obj s₁ ⟨rfl,rfl⟩
 have hnew:(s.heap.push {cls:=.type "dict",data:=.dict #[]}).DictOf knd s.heap.objs.size []:=Heap.DictOf.new s.heap
 have hlt:src<s.heap.objs.size:=Heap.lt_size hx
 have hx1:(s.heap.push {cls:=.type "dict",data:=.dict #[]}).get? src=some o:=Heap.get?_push_of_some _ hx
 have hT1:Shared.TypeIs {s with heap:=s.heap.push {cls:=.type "dict",data:=.dict #[]}} (.ref src) "tuple":=⟨_,hx1,hc⟩
 refine⟨hnew.typeIs,F.args_dict_init_2 _ _,?_⟩
 unfold Builtin.«dict.__init__»
 refine wpAny_bind ?_
 unfold Builtin.Dict.selfAndRest
 refine wpAny_bind (wpAny_notOrdered_dict hnew.typeIs ?_)
 show wpAny _ _ (pure (s.heap.objs.size, [Value.ref src])) _ _ _
 refine wpAny_pure ?_
 show wpAny _ _ (Builtin.Dict.updateFrom "dict.__init__" s.heap.objs.size (.ref src) [] .none) _ _ _
 unfold Builtin.Dict.updateFrom
 refine wpAny_bind (wpAny_typeOf hT1 ?_)
 rw[if_pos (by decide)]
 have hA2:A.in1.in1.handled=none:=by simp[hA]
 refine wpAny_bind (bL7 hx1 hc hd hdict hA2 fun h2 tk2 k2=>?_)
 simp only[Option.isNone_none,if_true]
 refine wpAny_bind (wpAny_rule ?_)
 have hx2:h2.get? src=some o:=k2 _ _ hx1
 have hl2:h2.IsTuple src items:=⟨o,hx2,hc,m,hd⟩
 have hS2:h2.DictOf knd s.heap.objs.size []:=by
  obtain⟨o,es,ep,ho,U9⟩:=hnew
  exact⟨o,es,ep,k2 _ _ ho,U9⟩
 have hlt2:s.heap.objs.size<h2.objs.size:=by
  obtain⟨o,es,ep,ho,U9⟩:=hS2
  exact Heap.lt_size ho
 refine wpAny_bind (wpAny_pyIter_tuple hl2 ?_)
 have hA1:A.in1.in1.handled=none:=hA2
 refine wpAny_pure ⟨plainId_quiet X4 _,?_⟩
 have hkeep:∀b ob,s.heap.get? b=some ob→h2.get? b=some ob:=fun b ob e=>k2 _ _ (Heap.get?_push_of_some _ e)
 refine aL4 (knd:=knd) (Walks.tuple (A:=A.in1.in1) hA1 h2.objs.size src (Nat.ne_of_lt (Nat.lt_trans hlt hlt2)) items) s.heap.objs.size ?_ s.heap ps hn ?_ hsz items.size 0 _ _ _ (by lia) (Nat.zero_le _) ?_ ?_ ?_ ?_
 · simp only[List.mem_cons,List.not_mem_nil,or_false,not_or]
   exact⟨Nat.ne_of_lt hlt2,Nat.ne_of_gt hlt⟩
 · intro i v hv
   obtain⟨ta,key,kv,e1,e2,e3,e4⟩:=hval i v hv
   have hta:ta<s.heap.objs.size:=by obtain⟨_,e,_⟩:=e3;exact Heap.lt_size e
   exact⟨ta,key,kv,e1,e2,e3,e4,Nat.ne_of_lt hta,by simp only[List.mem_cons,List.not_mem_nil,or_false];exact Nat.ne_of_lt (Nat.lt_trans hta hlt2)⟩
 ·exact⟨⟨_,Heap.get?_push_size _ rfl,rfl,rfl⟩,hl2.push _⟩
 · show Heap.DictOf knd (h2.push _) _ _
   exact hS2.push _
 · intro b ob hb hb' e
   exact Heap.get?_push_of_some _ (hkeep b ob e)
 · intro h' tk' hd' hk'
   refine⟨rfl,h h' tk' hd' fun b ob e=>hk' b ob ?_ ?_ e⟩
   ·exact Nat.ne_of_lt (Heap.lt_size e)
   · simp only[List.mem_cons,List.not_mem_nil,or_false]
     exact Nat.ne_of_lt (Nat.lt_trans (Heap.lt_size e) hlt2)
end
end DL
namespace DL
open PySem PySem.Spec L2
open PyProof.Rows hiding St
def bY3:D→Option (Key×D)
 | .tup [k,v]=>match bX0 k with
   |some q=>some (q,v)
   |none=>none
 |_=>none
def aH6:List D→Option (List (Key×D))
 |[]=>some []
 |d::r=>match bY3 d,aH6 r with
   |some p,some ps=>some (p::ps)
   |_,_=>none
def putAll(acc:List (Key×D))(l:List (Key×D)):List (Key×D):=l.foldl (fun acc kv=>aR9 acc kv.1 kv.2) acc
def aV9:List D→M D:=fun ds=>match ds with
 |[.tup l]=>do
   let ps ←aK1 (aH6 l)
   Q5 (.dct (putAll [] ps))
 |[.ref r]=>do
   let l ←R4 r >>= listOf
   let ps ←aK1 (aH6 l)
   Q5 (.dct (putAll [] ps))
 |_=>M.stuck
section
variable{X:Cx}{Z:XC}{c:Wc}{μ:List Addr}{H:Hp}{G:DH}
theorem dO3{d:D}{p:Key×D}(h:bY3 d=some p):∃k,d= .tup [k,p.2]∧bX0 k=some p.1:=by
 rcases d with _|_|_|_|l|_|_|_<;>try (cases h;done)
 rcases l with _|⟨k,_|⟨v,_|⟨_,_⟩⟩⟩<;>try (cases h;done)
 delta bY3 at h
 dsimp only at h
 rcases e:bX0 k with _|q
 ·rw[e]at h;cases h
 ·rw[e]at h;cases h;exact⟨k,rfl,e⟩
theorem bG2{pins:PNS}{s:Shared}{σ:St}(I:Inv X pins σ H s):∀ {l:List D} {ps:List (Key×D)} {vs:List V} {its:List Value},aH6 l=some ps→o9 (wc X) μ H l vs→w6 vs its→
 ∃(kvs:List (Key×V)) (ws:List (Key×Value)),aA7 (wc X) μ H ps kvs∧KV kvs ws∧ws.length=its.length∧∀(i:Nat) (v:Value),its[i]? =some v→∃(ta:Addr) (key:Value) (kv:Key×Value),v= .ref ta∧ws[i]? =some kv∧IsTup s.heap ta #[key,kv.2]∧(M3 X.prog X.w).is kv.1 key=true
 |[],ps,vs,its,e,rl,rv=>by
   cases e;cases rl;cases rv
   exact⟨[], [],rfl,.nil,rfl,fun i v h=>by simp at h⟩
 |d::r,ps,vs,its,e,rl,rv=>by
   replace e:(match bY3 d,aH6 r with|some p,some ps=>some (p::ps)|_,_=>none)=some ps:=e
   rcases e1:bY3 d with _|p
   ·rw[e1]at e;cases e
   ·
     rcases e2:aH6 r with _|qs
     ·rw[e1,e2]at e;cases e
     ·
       rw[e1,e2]at e
       cases e
       obtain⟨v,t,rfl,r0,rt⟩:=rl
       cases rv with
       |cons q0 qt=>
         obtain⟨kvs,ws,h1,h2,h3,h4⟩:=bG2 I e2 rt qt
         obtain⟨k,rfl,hk⟩:=dO3 e1
         unfold d9 at r0
         obtain⟨a,us,rfl,hq,ru⟩:=r0
         obtain⟨x,y,rfl,rx,ry⟩:=fO7 ru
         obtain⟨its2,rr,ht,_⟩:=I.tuple hq
         obtain⟨p1,p2⟩:=p
         cases rr with
         |cons rr0 rr1=>
           cases rr1 with
           |cons rr2 rr3=>
             cases rr3
             rename_i w0 w1
             have ex:=cH4 hk rx
             subst ex
             cases (show _=Value.ref a from q0)
             refine⟨(p1,y)::kvs,(p1,w1)::ws,⟨y,kvs,rfl,ry,h1⟩,.cons ⟨rfl,rr2⟩ h2,by simp[h3],fun i v hv=>?_⟩
             cases i with
             |zero=>
               simp only[List.getElem?_cons_zero,Option.some.injEq]at hv
               subst hv
               exact⟨a,w0,(p1,w1),rfl,rfl,ht,bS8 rr0⟩
             |succ i=>exact h4 i v (by simpa using hv)
theorem cO5:∀ {ps:List (Key×D)} {kvs:List (Key×V)} {acc:List (Key×D)} {acc':List (Key×V)},aA7 c μ H ps kvs→aA7 c μ H acc acc'→aA7 c μ H (putAll acc ps) (kvs.foldl (fun acc kv=>aN3 acc kv.1 kv.2) acc')
 |[],_,_,_,r,q=>by cases r;exact q
 |(k,d)::t,_,_,_,r,q=>by
  obtain⟨v,kt,rfl,rv,rt⟩:=r
  have z:=cO5 rt (cL9 (k:=k) rv q)
  exact z
theorem dM1:∀ {kvs:List (Key×V)} {ws:List (Key×Value)} {acc:List (Key×V)} {acc':List (Key×Value)},KV kvs ws→KV acc acc'→KV (kvs.foldl (fun acc kv=>aN3 acc kv.1 kv.2) acc) (merged acc' ws)
 |_,_,_,_,.nil,q=>q
 |_,_,_,_,.cons (a:=p) (b:=r) ⟨e,rv⟩ t,q=>by
   obtain⟨k,v⟩:=p
   obtain⟨k',u⟩:=r
   cases (show k=k' from e)
   have z:=dM1 t (q.put k rv)
   exact z
theorem cM7{pins:PNS}{s:Shared}{σ:St}{Q:VK}{ps:List (Key×D)}{kvs:List (Key×V)}{ws:List (Key×Value)}{h':Heap}{tk:Nat}(I:Inv X pins σ H s)(hr:J0 (wc X) μ G H)(h1:aA7 (wc X) μ H ps kvs)(h2:KV kvs ws)(hz:ws.length≤sizeLine)
 (p:d8 (wc X) Z μ H (Q5 (.dct (putAll [] ps)) G) fun d μ' _ H'=>∀v,d9 (wc X) μ' H' d v→Q v H')
 (hd:h'.DictOf (M3 X.prog X.w) s.heap.objs.size (merged [] ws)) (hk:∀b o,s.heap.get? b=some o→h'.get? b=some o):EP X pins σ Q (.ref s.heap.objs.size) {s with heap:=h',toks:=tk}:=by
 have k3:=dM1 h2 (.nil:KV [] [])
 have hl:(kvs.foldl (fun acc kv=>aN3 acc kv.1 kv.2) []).length≤sizeLine:=by
  rw[k3.length]
  have:=merged_length_le (K:=Key) [] ws
  rw[List.length_nil]at this
  lia
 have hq:H s.heap.objs.size=none:=I.hok.fresh (Nat.le_refl _)
 refine⟨.ref s.heap.objs.size,_,I.laid (t':=tk) (o:=.dK (kvs.foldl (fun acc kv=>aN3 acc kv.1 kv.2) [])) hk (Nat.le_refl _) (dU9 hl (beq_eq_false_iff_ne.mpr (Ne.symm (Nat.ne_of_lt I.big))) k3 hd),rfl,?_⟩
 have k:Ext μ H (μ++[s.heap.objs.size]) (upd H s.heap.objs.size (.dK (kvs.foldl (fun acc kv=>aN3 acc kv.1 kv.2) []))):=Ext.add hq _
 have e0:aA7 (wc X) μ H (putAll [] ps) (kvs.foldl (fun acc kv=>aN3 acc kv.1 kv.2) []):=cO5 h1 rfl
 refine p (μ++[s.heap.objs.size]) _ k (hr.new hq ⟨_,R3,e0.mono k⟩) _ ?_
 unfold d9
 exact⟨s.heap.objs.size,by rw[←hr.len];simp,rfl⟩
theorem eF1(hc:X.calm=true):aA4 X Z (.type "dict") aV9:=⟨by
 intro pins s σ H xs us Q I r hE0
 obtain⟨ds,μ,G,rl,hr,p⟩:=hE0
 have hh:X.A.handled=none:=I.ok.hd hc
 rcases ds with _|⟨_|_|_|_|l|i|_|_,_|⟨_,_⟩⟩<;>try exact p.elim
 all_goals (delta aV9 at p;dsimp only at p)
 · obtain⟨v,rfl,rv⟩:=aS1 rl
   obtain⟨u,rfl,ru⟩:=aE7 r
   unfold d9 at rv
   obtain⟨a,vs,rfl,q,rl'⟩:=rv
   cases ru
   obtain⟨ps,eps,p2⟩:=aC0 p
   obtain⟨its,rr,⟨o,g1,g2,n,g3⟩,hz⟩:=I.tupleN q
   obtain⟨kvs,ws,h1,h2,h3,h4⟩:=bG2 I eps rl' rr
   have hlen:=rr.length
   exact bL8 (knd:=M3 X.prog X.w) (ps:=ws) g1 g2 (Prod.mk.inj g3).1 (Prod.mk.inj g3).2 hh (by simpa using h3) (by simp only[List.size_toArray];lia) (fun i v hv=>h4 i v (by simpa using hv)) fun h' tk hd hk=>cM7 I hr h1 h2 (by lia) p2 hd hk
 · obtain⟨v,rfl,rv⟩:=aS1 rl
   obtain⟨u,rfl,ru⟩:=aE7 r
   obtain⟨l,a,vs,rfl,rl',q,p1⟩:=aB7 hr rv p
   cases ru
   obtain⟨ps,eps,p2⟩:=aC0 p1
   obtain⟨its,rr,⟨o,n,g1,g2,g3,g4⟩,hz⟩:=I.list q
   obtain⟨kvs,ws,h1,h2,h3,h4⟩:=bG2 I eps rl' rr
   have hlen:=rr.length
   exact bS0 (knd:=M3 X.prog X.w) (ps:=ws) g1 g2 g4 g3 hh (by simpa using h3) (by simp only[List.size_toArray];lia) (fun i v hv=>h4 i v (by simpa using hv)) fun h' tk hd hk=>cM7 I hr h1 h2 (by lia) p2 hd hk⟩
theorem dX8(h:X.calm=true):BD aV9 "dict" X Z:=⟨.inr ⟨_,eF1 h,eH7⟩⟩
end
end DL
namespace W
open PySem PySem.Spec L2 DL
open PyProof.Rows hiding St
theorem dM4{l:List D}{ps:List (Key×D)}{G:DH}{Q:DPP}(h:aH6 l=some ps):Wp (aV9 [.tup l]) G Q↔Q (.ref G.length) (G++[.dct (putAll [] ps)]):=by
 unfold aV9
 simp only[m5,h,aQ1,aA8,Option.some.injEq,exists_eq_left']
end W
namespace DL
open PySem PySem.Spec L2
open PyProof.Rows hiding St
section
variable{X:Cx}{Z:XC}{c:Wc}{μ:List Addr}{H:Hp}
theorem o9.eraseIdx{l:List D}{vs:List V}(n:Nat)(h:o9 c μ H l vs):o9 c μ H (l.eraseIdx n) (vs.eraseIdx n):=by
 rw[List.eraseIdx_eq_take_drop_succ,List.eraseIdx_eq_take_drop_succ]
 exact(o9.take _ h).append (o9.drop _ h)
end
end DL
namespace W
open PySem PySem.Spec L2 DL
open PyProof.Rows hiding St
end W
namespace DL
open PySem PySem.Spec L2
open PyProof.Rows hiding St
section
variable{X:Cx}{Z:XC}{a b e:Expr}{fa fb:Fe}{pos:Pos}
end
end DL
namespace W
open PySem PySem.Spec L2 DL
open PyProof.Rows hiding St
end W
namespace DL
open PySem PySem.W
open PyProof.Rows hiding St
noncomputable def tOk{α:Type}(lt:Nat→Nat→Bool)(n:Nat):KasT α→(α→Prop)→Prop
 | .ret a,Q=>Q a
 | .ask i j k,Q=>i<n∧j<n∧tOk lt n (k (lt i j)) Q
section
variable{α β:Type}{lt:Nat→Nat→Bool}{n:Nat}
theorem tOk.bind{f:α→KasT β}{Q:β→Prop}:∀(t:KasT α),tOk lt n t (fun a=>tOk lt n (f a) Q)→tOk lt n (t.bind f) Q
 | .ret _,h=>h
 | .ask i j k,h=>⟨h.1,h.2.1,tOk.bind (k (lt i j)) h.2.2⟩
theorem tOk.mono{Q Q':α→Prop}(hq:∀a,Q a→Q' a):∀(t:KasT α),tOk lt n t Q→tOk lt n t Q'
 | .ret a,h=>hq a h
 | .ask i j k,h=>⟨h.1,h.2.1,tOk.mono hq (k (lt i j)) h.2.2⟩
end
structure OrdN(lt:Nat→Nat→Bool)(n:Nat):Prop where
 tr:∀i j k,lt i j=true→lt j k=true→lt i k=true
 tot:∀i j,i<n→j<n→i≠j→lt i j=false→lt j i=true
structure dC1(p:Array Nat)(n:Nat):Prop where
 pm:p.toList.Perm (List.range n)
section
variable{lt:Nat→Nat→Bool}{n:Nat}{p:Array Nat}
theorem dC1.size(h:dC1 p n):p.size=n:=by have:=h.pm.length_eq;simpa using this
theorem dC1.ne(h:dC1 p n){i j:Nat}(hi:i<n)(hj:j<n)(hij:i≠j):p.getD i 0≠p.getD j 0:=by
 have hs:=h.size
 have nd:p.toList.Nodup:=h.pm.nodup_iff.mpr List.nodup_range
 have e1:p.getD i 0=p.toList[i]'(by simp;lia):=by simp[Array.getD,hs,hi]
 have e2:p.getD j 0=p.toList[j]'(by simp;lia):=by simp[Array.getD,hs,hj]
 rw[e1,e2]
 intro e
 exact hij ((List.getElem_inj nd).mp e)
end
end DL
namespace DL
open PySem PySem.Spec L2
open PyProof.Rows hiding St
section
variable{X:Cx}{pins:PNS}{σ:St}{H:Hp}{s:Shared}{A:Around}
end
section
variable{X:Cx}{pins:PNS}{σ:St}{A:Around}{F:List D→M D}{k:Nat}{f:Addr}{fd:FuncData}{ps:List Str}
end
section
variable{X:Cx}{pins:PNS}{σ:St}{H:Hp}{s:Shared}
end
section
variable{prog:Program}{w:World}{A:Around}{E:VSP}{s:Shared}{C:Bool→Shared→Prop}
end
section
variable{X:Cx}{Z:XC}{pins:PNS}{σ:St}{H:Hp}{s:Shared}{F:List D→M D}{k:Nat}{f:Addr}{fd:FuncData}{ps:List Str}{μ:List Addr}{G:DH}
end
section
variable{X:Cx}{Z:XC}{e:Expr}{fe:Fe}{p pf kp pos:Pos}{x:Str}{F:List D→M D}
end
def CR(K:PySem.W.Frag)(mg:Str→Option Value)(d:D)(u:Value):Prop:=∃v,J6 v u∧∀ μ H,d9 ⟨K,mg⟩ μ H d v
def CRL(K:PySem.W.Frag)(mg:Str→Option Value)(l:List D)(us:List Value):Prop:=∃vs,w6 vs us∧∀ μ H,o9 ⟨K,mg⟩ μ H l vs
section
variable{K:PySem.W.Frag}{mg:Str→Option Value}
theorem aH8{x:Str}{t:Tok}:CR K mg (.str x) (.str x t):=⟨.str x,⟨t,rfl⟩,fun μ H=>by unfold d9;rfl⟩
theorem cZ2{b:Bool}:CR K mg (.bl b) (.bool b):=⟨.bl b,rfl,fun μ H=>by unfold d9;rfl⟩
theorem aF4:CR K mg .non .none:=⟨.non,rfl,fun μ H=>by unfold d9;rfl⟩
theorem o8:CRL K mg [] []:=⟨[],.nil,fun _ _=>rfl⟩
theorem j7{d:D}{l:List D}{u:Value}{us:List Value}(h:CR K mg d u)(t:CRL K mg l us):CRL K mg (d::l) (u::us):=by
 obtain⟨v,r,h⟩:=h
 obtain⟨vs,rs,t⟩:=t
 exact⟨v::vs,.cons r rs,fun μ H=>⟨v,vs,rfl,h μ H,t μ H⟩⟩
theorem J5{a:Addr}{l:List D}{us:List Value}{n:Nat}{sl:Array (Option Value)}(hl:K.lookup a=some ⟨.type "tuple",none,.seq us.toArray n,sl⟩)(hz:Nat.ble us.length 100=true)(h:CRL K mg l us):CR K mg (.tup l) (.ref a):=by
 obtain⟨vs,rs,t⟩:=h
 refine⟨.ref a,rfl,fun μ H=>?_⟩
 unfold d9
 refine⟨a,vs,rfl,.inr ⟨_,us.toArray,n,hl,rfl,rfl,?_,rs⟩,t μ H⟩
 rw[List.size_toArray]
 exact Nat.le_trans (Nat.le_of_ble_eq_true hz) (by decide)
end
structure dB2(K:PySem.W.Frag)(mg:Str→Option Value)(x:Str)(d:D):Prop where
 ex:∃u,mg x=some u∧CR K mg d u
section
variable{X:Cx}{Z:XC}{pos:Pos}{x:Str}{d:D}
theorem eQ0(hc:dB2 X.K X.mg x d)(hg:Gl X x)(hdb:(x==("__debug__" :Str))=false):DE X Z (.Name x pos) (cE d):=⟨by
 intro pins s σ H Q I hE0
 refine hE0.elim fun dσ μ G sr hr p=>?_
 obtain⟨u,hm,v,ru,rv⟩:=hc.ex
 exact bN5 I hg hm ⟨v,H,I,ru,d8.ok p hr v (rv μ H)⟩ hdb⟩
end
section
variable{X:Cx}{Z:XC}{o e:Expr}{es:List Expr}{fo:Fe}{fs:DSt→M (List D)}{name:Str}{id:String}{mm:D→List D→M D}{apos cpos:Pos}
end
section
variable{X:Cx}{Z:XC}
end
end DL
namespace W
open PySem PySem.Spec L2 DL
open PyProof.Rows hiding St
section
variable{G:DH}{σ:DSt}{Q:DPP}
end
end W
namespace DL
open PySem PySem.Spec L2
open PyProof.Rows hiding St
section
variable{X:Cx}{Z:XC}{c:Wc}{μ:List Addr}{H:Hp}
variable{e t:Expr}{lo hi:Option Expr}{fa:Fe}{fl fh ft:Fo}{p2 pos:Pos}
end
end DL
namespace W
open PySem PySem.Spec L2 DL
open PyProof.Rows hiding St
section
variable{G:DH}{σ:DSt}{Q:DPP}
end
end W
namespace DL
open PySem PySem.Spec L2
open PyProof.Rows hiding St
section
variable{X:Cx}{Z:XC}{a b c:Expr}{fa fb fc:Fe}{pos p:Pos}{x:Str}
theorem dF5{F:List D→M D}(hF:∃k kk,b8 F 0 x X.prog X.w X.K X.mg X.base k∧aA5 kk X.A∧k≤kk)(hg:Gl X x)(hdb:(x==("__debug__" :Str))=false):
 DE X Z (.Call (.Name x p) [] [] pos) (q12 (fnX 0 F) q11):=by
 obtain⟨k,kk,hF,hr,hk⟩:=hF
 obtain⟨f,fd,ps,h1,h2,h3,h4⟩:=hF.ex
 exact DE.of (dN4 h1 (hr.mono hk) hg h2 h3 h4 .nil eJ7 hdb) fun σ H Q hE0=>hE0.elim fun dσ μ G s h p=>by
  obtain⟨hl,p2⟩:=cN7 (show d8 (wc X) Z μ H (fnX 0 F [] G) _ from p)
  exact⟨rfl, [],μ,G,rfl,h,p2⟩
end
section
variable{X:Cx}{Z:XC}{pos:Pos}
end
end DL
namespace W
open PySem PySem.Spec L2 DL
open PyProof.Rows hiding St
end W
namespace DL
open PySem PySem.Spec L2
open PyProof.Rows hiding St
def bF3:D→M Unit:=fun x=>match x with
 | .ref r=>do
   match ←R4 r with
   | .dct _=>pure ()
   |_=>M.stuck
 |_=>M.stuck
def getD:D→List D→M D:=fun x ds=>match x,ds with
 | .ref r, [.str z,d]=>do
   match ←R4 r with
   | .dct l=>pure ((W9 l (.inr z)).getD d)
   |_=>M.stuck
 |_,_=>M.stuck
section
variable{X:Cx}{Z:XC}{o e:Expr}{es:List Expr}{fo:Fe}{fs:DSt→M (List D)}{name:Str}{id:String}{mm:D→List D→M D}{apos cpos:Pos}
theorem cL7{α:Type}{c:Wc}{μ:List Addr}{H:Hp}{G:DH}{d:D}{v:V}{f:Unit→M α}{K:α→List Addr→DH→Hp→Prop}(h:J0 c μ G H)(r:d9 c μ H d v)(p:d8 c Z μ H ((bF3 d >>= f) G) K):tyV c.K "dict" v H∧d8 c Z μ H (f () G) K:=by
 rcases d with _|_|_|_|_|i|_|_<;>try (exact p.elim;done)
 ·
   unfold d9 at r
   obtain⟨a,m,rfl⟩:=r
   have p':d8 c Z μ H ((R4 i >>= fun o=>(match o with| .dct _=>pure ()|_=>M.stuck:M Unit) >>= f) G) K:=by rw[←M.bind_assoc];exact p
   obtain⟨o,g,p2⟩:=Q7 p'
   have ro:=h.obj i o a g m
   rcases o with _|_|l|_<;>try (exact p2.elim;done)
   ·obtain⟨vs,e,rl⟩:=ro;exact⟨.inr (.inr (.inl ⟨rfl,.inl ⟨vs,e⟩⟩)),p2⟩
theorem eX7(slot:Slot "dict" name id)(hty:typeOf (.builtin id)=pure (.type "method_descriptor"))(hm:MtD X Z id mm)(ho:DE X Z o fo)(ha:DA X Z (e::es) fs)
 (hbase:attributeBase o name X.env (eval o X.env)=eval o X.env)
 (hfew:((backTo cpos (starEach (e::es) X.env)).all (fun x=> !x.1)&&(backToKw cpos (keywordEach [] X.env)).all (fun x=>x.1.isSome)
   && decide ((e::es).length+([]:List Keyword).length+(if ([]:List Keyword).isEmpty then 0 else 1)<30))=true)
 (hline:(apos.endLine==cpos.line)=true) (hs:starEach (e::es) X.env= (false,eval e X.env)::starEach es X.env) (hplain:(backTo cpos (starEach es X.env)).any (·.1)=false):
 DE X Z (.Call (.Attribute o name apos) (e::es) [] cpos) (mtE bF3 mm fo fs):=
 DE.of (eJ2 PySem.F.plainAttrs_dict slot hty hm ho.h ha.h hbase hfew hline hs hplain) fun σ H Q hE0=>hE0.elim fun dσ μ G s h p=>⟨dσ,μ,G,s,h,(d8.bind p).mono fun d μ1 G1 H1 x1 h1 p1 v rv=>by
  obtain⟨ty,p2⟩:=cL7 h1 rv p1
  exact⟨ty,dσ,μ1,G1,s.mono x1,h1,(d8.bind p2).mono fun ds μ2 G2 H2 x2 h2 p3 vs rvs=>⟨d,ds,μ2,G2,rv.mono x2,rvs,h2,p3⟩⟩⟩
theorem eO4(hu:X.A.units+64<cLine):MtD X Z "dict.get" getD:=by
 intro pins s σ H x xs v us Q I rx rvs hE0
 obtain⟨d,ds,μ,G,rd,rl,hr,p⟩:=hE0
 delta getD at p
 rcases d with _|_|_|_|_|r|_|_<;>try exact p.elim
 rcases ds with _|⟨_|_|_|z|_|_|_|_,_|⟨y,_|⟨_,_⟩⟩⟩<;>dsimp only at p<;>try exact p.elim
 · unfold d9 at rd
   obtain⟨a,m,rfl⟩:=rd
   obtain⟨zv,t1,rfl,rz,yv,t2,rfl,ry,e⟩:=rl
   cases e
   obtain⟨u1,us1,rfl,ru1,rv1⟩:∃u1 us1,us=u1::us1∧J6 zv u1∧w6 [yv] us1:=by
    cases rvs with|cons h t=>exact⟨_,_,rfl,h,t⟩
   obtain⟨u2,rfl,ru2⟩:=aE7 rv1
   obtain⟨o,g,p1⟩:=Q7 p
   have ro:=hr.obj r o a g m
   rcases o with _|_|l|_<;>try (exact p1.elim;done)
   ·
     obtain⟨kvs,q,rk⟩:=ro
     cases rx
     have ez:=aV6 rz
     subst ez
     have dg:bU9 H a (V.str z) (aU0 kvs (.inr z)):=.inl ⟨kvs,.inr z,.inl q,rfl,rfl⟩
     refine eT7 (by lia) I dg ru1 ru2 fun w' s' I' rw'=>⟨_,H,I',rw',?_⟩
     have lk:=bF7 (k:=.inr z) rk
     rcases el:W9 l (.inr z)with _|w
     ·
       rw[el]at lk
       dsimp only at lk p1
       rw[el]at p1
       rw[lk]
       exact d8.ok p1 hr _ ry
     ·
       rw[el]at lk
       obtain⟨v',e1,r1⟩:=lk
       dsimp only at p1
       rw[el]at p1
       rw[e1]
       exact d8.ok p1 hr _ r1
end
section
variable{X:Cx}{Z:XC}{a b e:Expr}{fa fb:Fe}{pos:Pos}
end
def aR8(G:DH)(x:D):List D→Option Bool
 |[]=>some false
 |d::t=>match eqN 40 G d x,aR8 G x t with
   |some a,some b=>some (a||b)
   |_,_=>none
theorem eG6{G:DH}{x d:D}{t:List D}:aR8 G x (d::t)=match eqN 40 G d x,aR8 G x t with
 |some a,some b=>some (a||b)
 |_,_=>none:=rfl
def cN3(x y:D)(G:DH):Option Bool:=match y with
 | .tup l=>aR8 G x l
 | .ref r=>match G[r]? with
   |some (.lst l)=>aR8 G x l
   |some (.rol l)=>aR8 G x l
   |_=>none
 |_=>none
def inX:D→D→M D:=fun x y G=>match cN3 x y G with
 |some b=>some (.ok (.bl b),G)
 |none=>none
section
variable{X:Cx}{Z:XC}{μ:List Addr}{H:Hp}{G:DH}
theorem dD7{pins:PNS}{σ:St}{s:Shared}{x:V}{v:Value}{dx:D}(hu:X.A.units+64<cLine)(I:Inv X pins σ H s)(hr:J0 (wc X) μ G H)(rdx:d9 (wc X) μ H dx x)(rx:J6 x v):
 ∀ {l:List D} {vs:List V} {us:List Value} {b:Bool},o9 (wc X) μ H l vs→w6 vs us→aR8 G dx l=some b→
  (∀u∈us,∃c,SeqAt.EqAt X.A.in1 s u v c)∧(b=true→∃u∈us,SeqAt.EqAt X.A.in1 s u v true)∧(b=false→∀u∈us,SeqAt.EqAt X.A.in1 s u v false):=by
 intro l
 induction l with
 |nil=>
   intro vs us b rl rv e
   cases rl
   cases rv
   cases e
   exact⟨fun u hu=>(by cases hu),fun z=>absurd z Bool.false_ne_true,fun _ u hu=>(by cases hu)⟩
 |cons d t ih=>
   intro vs us b rl rv e
   obtain⟨w,tv,rfl,q,rt⟩:=rl
   cases rv with
   |cons r1 rs=>
   rename_i u us1
   rw[eG6]at e
   rcases e1:eqN 40 G d dx with _|a
   ·rw[e1]at e;cases e
   ·
     rcases e2:aR8 G dx t with _|b2
     ·rw[e1,e2]at e;cases e
     ·
       rw[e1,e2]at e
       cases e
       have h1:=(cQ6 I hr 40 X.A.in1 (by show X.A.units+1+40<cLine;lia) q rdx r1 rx e1).2.2
       obtain⟨k1,k2,k3⟩:=ih rt rs e2
       refine⟨fun u' hu'=>?_,fun z=>?_,fun z u' hu'=>?_⟩
       · rcases List.mem_cons.mp hu' with rfl|hu'
         ·exact⟨a,h1⟩
         ·exact k1 u' hu'
       · rcases a with _|_
         ·
           obtain⟨u',h3,h4⟩:=k2 z
           exact⟨u',List.mem_cons_of_mem _ h3,h4⟩
         ·exact⟨u,List.mem_cons_self,h1⟩
       · rcases a with _|_
         ·
           rcases List.mem_cons.mp hu' with rfl|hu'
           ·exact h1
           ·exact k3 z u' hu'
         ·cases z
open Classical in
theorem cO7{pins:PNS}{σ:St}{s:Shared}{x:V}{v:Value}{dx:D}(hu:X.A.units+64<cLine)(I:Inv X pins σ H s)(hr:J0 (wc X) μ G H)(rdx:d9 (wc X) μ H dx x)(rx:J6 x v)
 {l:List D} {vs:List V} {us:List Value} {b:Bool} (rl:o9 (wc X) μ H l vs) (rv:w6 vs us) (e:aR8 G dx l=some b):
  ∃f:Value→Bool,(∀u∈us,SeqAt.EqAt X.A.in1 s u v (f u))∧us.any f=b:=by
 obtain⟨k1,k2,k3⟩:=dD7 hu I hr rdx rx rl rv e
 rcases b with _|_
 ·exact⟨fun _=>false,fun u hu=>k3 rfl u hu,by simp⟩
 ·
   refine⟨fun u=>decide (SeqAt.EqAt X.A.in1 s u v true),fun u hu=>?_,?_⟩
   · dsimp only
     by_cases c:SeqAt.EqAt X.A.in1 s u v true
     ·rw[decide_eq_true c];exact c
     · rw[decide_eq_false c]
       obtain⟨c',hc⟩:=k1 u hu
       rcases c' with _|_
       ·exact hc
       ·exact absurd hc c
   · obtain⟨u,hu,h⟩:=k2 rfl
     exact List.any_eq_true.mpr ⟨u,hu,decide_eq_true h⟩
theorem eU3(hu:X.A.units+64<cLine){pins:PNS}{σ:St}{s:Shared}{x y:V}{v u:Value}{dx dy:D}{b:Bool}{Q:VK}(I:Inv X pins σ H s)(hr:J0 (wc X) μ G H)(rdx:d9 (wc X) μ H dx x)(rdy:d9 (wc X) μ H dy y)(rx:J6 x v)(ry:J6 y u)
 (e:cN3 dx dy G=some b):
 (Q (.bl b) H→wpAny (model X.prog X.w) X.A (compareOp .In v u) (EP X pins σ Q) X.xe s)∧(Q (.bl (!b)) H→wpAny (model X.prog X.w) X.A (compareOp .NotIn v u) (EP X pins σ Q) X.xe s):=by
 have seq:∀(p:Addr) (l:List D) (vs:List V),y= .ref p→(SqL X.K H p vs∨SqT X.K H p vs)→o9 (wc X) μ H l vs→aR8 G dx l=some b→
  (Q (.bl b) H→wpAny (model X.prog X.w) X.A (compareOp .In v u) (EP X pins σ Q) X.xe s)∧(Q (.bl (!b)) H→wpAny (model X.prog X.w) X.A (compareOp .NotIn v u) (EP X pins σ Q) X.xe s):=by
  intro p l vs hy hq rl e
  subst hy
  cases ry
  rcases hq with hq|hq
  · obtain⟨its,r,pl,hz⟩:=I.list hq
    obtain⟨f,h1,h2⟩:=cO7 hu I hr rdx rx rl r e
    have h3:its.toArray.any f=b:=by rw[←h2];simp
    exact⟨fun q=>SeqAt.in_listAt f pl.isList (fun w hw=>h1 w (by simpa using hw)) ⟨.bl _,H,I,rfl,by rw[h3];exact q⟩,fun q=>SeqAt.notIn_listAt f pl.isList (fun w hw=>h1 w (by simpa using hw)) ⟨.bl _,H,I,rfl,by rw[h3];exact q⟩⟩
  · obtain⟨its,r,pl,hz⟩:=I.tuple hq
    obtain⟨f,h1,h2⟩:=cO7 hu I hr rdx rx rl r e
    have h3:its.toArray.any f=b:=by rw[←h2];simp
    exact⟨fun q=>SeqAt.in_tupleAt f pl (fun w hw=>h1 w (by simpa using hw)) ⟨.bl _,H,I,rfl,by rw[h3];exact q⟩,fun q=>SeqAt.notIn_tupleAt f pl (fun w hw=>h1 w (by simpa using hw)) ⟨.bl _,H,I,rfl,by rw[h3];exact q⟩⟩
 rcases dy with _|_|_|_|l|i|_|_<;>try (cases e;done)
 ·
   unfold d9 at rdy
   obtain⟨a,vs,hy,q,rl⟩:=rdy
   exact seq a l vs hy (.inr q) rl e
 ·
   unfold d9 at rdy
   obtain⟨a,m,hy⟩:=rdy
   rcases g:G[i]? with _|o
   ·unfold cN3 at e;simp only[g]at e;cases e
   ·
     have ro:=hr.obj i o a g m
     rcases o with l|l|_|_<;>try (unfold cN3 at e;simp only[g]at e;cases e;done)
     ·
       obtain⟨vs,q,rl⟩:=ro
       unfold cN3 at e;simp only[g]at e
       exact seq a l vs hy (.inl (SqL.of q)) rl e
     ·
       obtain⟨vs,q,rl⟩:=ro
       unfold cN3 at e;simp only[g]at e
       exact seq a l vs hy (.inl q.sq) rl e
theorem eN2(hu:X.A.units+64<cLine):OpD X Z (compareOp .In) inX:=⟨by
 intro pins s σ H x y v u Q I rx ry hE0
 refine hE0.elim fun dx dy μ G rdx rdy hr p=>?_
 unfold inX at p
 rcases e:cN3 dx dy G with _|b
 ·rw[e]at p;exact p.elim
 ·rw[e]at p;exact(eU3 hu I hr rdx rdy rx ry e).1 (d8.ok p hr _ ofB)⟩
end
section
variable{X:Cx}{Z:XC}
end
end DL
namespace W
open PySem PySem.Spec L2 DL
open PyProof.Rows hiding St
theorem dY5{r:Nat}{z:Str}{d:D}{l:List (Key×D)}{G:DH}{Q:DPP}(h:G[r]? =some (.dct l)):Wp (getD (.ref r) [.str z,d]) G Q↔Q ((W9 l (.inr z)).getD d) G:=by
 have e:getD (.ref r) [.str z,d]= (R4 r >>= fun o=>match o with| .dct l=>pure ((W9 l (.inr z)).getD d)|_=>M.stuck:M D):=rfl
 rw[e]
 simp only[m5,T7,h,R9,j9]
theorem dD6{r:Nat}{l:List (Key×D)}{G:DH}{Q:Unit→DH→Prop}(h:G[r]? =some (.dct l)):Wp (bF3 (.ref r)) G Q↔Q () G:=by
 have e:bF3 (.ref r)= (R4 r >>= fun o=>match o with| .dct l=>pure ()|_=>M.stuck:M Unit):=rfl
 rw[e]
 simp only[m5,T7,h,R9,j9]
end W
namespace DL
open PySem PySem.Spec L2
open PyProof.Rows hiding St
section
variable{prog:Program}{w:World}{A:Around}{E:VSP}{s:Shared}{j t:Addr}{k:Nat}{ys:Array Value}
theorem cV0{x:Value}{Q:VSP}(a:s.heap.IsTupleIter j t k)(b:s.heap.IsTuple t ys)(c:ys[k]? =some x)(q:∀g,g.IsTupleIter j t (k+1)→Heap.SameBut j s.heap g→Q x {s with heap:=g}):wpAny (model prog w) A (Builtin.SmallTypes.nextOf (.ref j)) Q E s:=by
 obtain⟨o,h1,h2,h3⟩:=id a;obtain⟨o2,h4,_,m,h5⟩:=b;unfold Builtin.SmallTypes.nextOf
 refine wpAny_bind (wpAny_callSpecial?_slot (name:=Str.ofString "__next__") a.typeIs F.slot_tuple_iterator_next (wpAny_call_entry F.slot_tuple_iterator_next a.typeIs F.entry_tuple_iterator_next ?_ (F.args_tuple_iterator_next_1 _)))
 show wpAny _ _ (field (.ref j) 0 >>= _) _ _ s;refine wpAny_bind (wpAny_field h1 h3 (x:=.ref t) rfl ?_);show wpAny _ _ (if (Value.ref t==Value.none)=true then _ else _) _ _ s;refine wpAny_ite_false (by rfl) ?_
 show wpAny _ _ (field (.ref j) 1 >>= _) _ _ s;refine wpAny_bind (wpAny_field h1 h3 (x:=.int k 0) rfl ?_);show wpAny _ _ (seqItems? (.ref t) >>= _) _ _ s;refine wpAny_bind (wpAny_seqItems h4 h5 ?_);simp only[Int.toNat_natCast,c]
 refine wpAny_bind (wpAny_setField h1 h3 (by simp) (wpAny_pure ⟨x,rfl,wpAny_pure (q _ ⟨_,Heap.get?_update_self _ h1 (Obj.isFreed_of_fields (Obj.data_mapFields h3 _)),(Obj.cls_mapFields ..).trans h2,by rw[Obj.data_mapFields h3];simp[rawInt]⟩ (Heap.SameBut.update ..))⟩))
theorem cB9{Q:VSP}(hh:A.handled=none)(a:s.heap.IsTupleIter j t k)(b:s.heap.IsTuple t ys)(c:ys[k]? =none)(q:∀g e,Heap.ExtBut j s.heap g→(∃o,g.get? e=some o∧o.cls= .type "StopIteration")→E (.ref e) {s with heap:=g}):wpAny (model prog w) A (Builtin.SmallTypes.nextOf (.ref j)) Q E s:=by
 obtain⟨o,h1,h2,h3⟩:=id a;obtain⟨o2,h4,_,m,h5⟩:=b;unfold Builtin.SmallTypes.nextOf
 refine wpAny_bind (wpAny_callSpecial?_slot (name:=Str.ofString "__next__") a.typeIs F.slot_tuple_iterator_next (wpAny_call_entry F.slot_tuple_iterator_next a.typeIs F.entry_tuple_iterator_next ?_ (F.args_tuple_iterator_next_1 _)))
 show wpAny _ _ (field (.ref j) 0 >>= _) _ _ s;refine wpAny_bind (wpAny_field h1 h3 (x:=.ref t) rfl ?_);show wpAny _ _ (if (Value.ref t==Value.none)=true then _ else _) _ _ s;refine wpAny_ite_false (by rfl) ?_
 show wpAny _ _ (field (.ref j) 1 >>= _) _ _ s;refine wpAny_bind (wpAny_field h1 h3 (x:=.int k 0) rfl ?_);show wpAny _ _ (seqItems? (.ref t) >>= _) _ _ s;refine wpAny_bind (wpAny_seqItems h4 h5 ?_);simp only[Int.toNat_natCast,c]
 refine wpAny_bind (wpAny_rule (wpAny_bind (wpAny_setField h1 h3 (by simp) ?_)));show wpAny _ _ (newExc (.type "StopIteration") [] >>= _) _ _ _;refine wpAny_bind ?_;simp only[newExc,newTuple]
 refine wpAny_bind (wpAny_newObj_type ?_ (by size_fits));refine wpAny_bind (m:=firstArgMember _ _) (wpAny_of_eq (a:=Value.none) (by first|rfl|(simp only[firstArgMember];rfl)) ?_);refine wpAny_newObj_type ?_ (by size_fits);delta raiseNew;dsimp only
 refine wpAny_bind (wpAny_handled ?_);(first|rw[show A.in1.handled=none from hh]|rw[hh]);refine wpAny_bind (wpAny_pure (wpAny_throw ?_))
 exact q _ _ (((Heap.SameBut.update ..).extBut.push _).push _) ⟨_,Heap.get?_push_size _ rfl,rfl⟩
end
theorem cM9{prog:Program}{w:World}{A:Around}(hh:A.handled=none)(j t:Addr)(hne:t≠j)(ys:Array Value):
 Draws prog w A j [j,t] ys.size (fun i v=>ys[i]? =some v) (fun i h=>h.IsTupleIter j t i∧h.IsTuple t ys) where
 live:=fun _ _ st=>by obtain⟨o,ho,_⟩:=st.1;exact⟨o,ho⟩
 frame:=fun _ _ _ st hk=>by
  refine⟨st.1.at fun o e=>hk j (by simp) o e,?_⟩
  obtain⟨o,ho,r⟩:=st.2
  exact⟨o,hk t (by simp) o ho,r⟩
 item:=fun i s Q E hi st hQ=>cV0 st.1 st.2 (x:=ys[i]) (by simp[hi]) fun g a b=>hQ _ g s.toks (by simp[hi]) ⟨a,by obtain⟨o,ho,r⟩:=st.2;exact⟨o,b.extBut _ _ hne ho,r⟩⟩ b
 done:=fun s Q E st hE=>cB9 hh st.1 st.2 (by simp) hE
theorem eE8{α:Type}{M:Model}{A:Around}{x:α}{Q:α→Shared→Prop}{E:VSP}{s:Shared}(h:∀b,Q b s):wpAny M A (pure x) Q E s:=wpAny_pure (h x)
theorem dI7(l:Addr)(items:Array Value)(n:Nat)(dct:Option Addr)(sl:Array (Option Value)):
 Meets (Builtin.«enumerate.__new__» ⟨[.type "enumerate",.ref l], []⟩) (fun _ R s=>s.heap.get? l=some {cls:=.type "tuple",dict:=dct,data:=.seq items n,slots:=sl}∧
  R (.ok (.ret (.ref (s.heap.push {cls:=.type "tuple_iterator",data:=.fields #[.ref l,.int 0 0]}).objs.size)))
   {s with heap:=(s.heap.push {cls:=.type "tuple_iterator",data:=.fields #[.ref l,.int 0 0]}).push {cls:=.type "enumerate",data:=.fields #[.none,.bool false,.ref s.heap.objs.size,rawInt 0,.none,.none]}}):=
 .of_wp fun prog w A R s h=>by
  obtain⟨hp,g,d,tk,os⟩:=s;obtain⟨hl,h⟩:=h
  have hsub:=sub_enumerate;have hL:Heap.IsTuple (Shared.heap ⟨hp,g,d,tk,os⟩) l items:=⟨_,hl,rfl,n,rfl⟩
  wp_walk using AutoSeq1.wpAny_loadPart' hl
  refine wpAny_stack_any fun st=>eE8 fun b=>?_
  cases b<;>(wp_walk using AutoSeq1.wpAny_loadPart' hl,wpAny_pyIter_tuple hL;exact⟨_,rfl,h⟩)
theorem cW8{prog:Program}{w:World}{A:Around}{E:VSP}{s:Shared}{l:Addr}{items:Array Value}{Q:VSP}(hL:s.heap.IsTuple l items)
 (h:∀g,IsEnum g (s.heap.objs.size+1) s.heap.objs.size 0 .none→g.IsTupleIter s.heap.objs.size l 0→g.objs.size=s.heap.objs.size+2→(∀b o,s.heap.get? b=some o→g.get? b=some o)→Q (.ref (s.heap.objs.size+1)) {s with heap:=g}):
 wpAny (model prog w) A (call (.type "enumerate") [.ref l]) Q E s:=by
 obtain⟨⟨c,dct,dt,sl⟩,hl,hc,n,hd⟩:=hL
 dsimp only at hc hd
 subst hc hd
 refine callType_new F.called_enumerate (by decide) (F.typeCall_enumerate_1 _) (F.newCall_enumerate_1 _) (fun obj=>F.args_object_init_2 obj _) F.entry_enumerate_new (dI7 l items n dct sl) ⟨hl,?_⟩
 have hz:(s.heap.push {cls:=.type "tuple_iterator",data:=.fields #[.ref l,.int 0 0]}).objs.size=s.heap.objs.size+1:=Heap.size_push ..
 show _∧_
 rw[hz]
 have he:IsEnum ((s.heap.push {cls:=.type "tuple_iterator",data:=.fields #[.ref l,.int 0 0]}).push {cls:=.type "enumerate",data:=.fields #[.none,.bool false,.ref s.heap.objs.size,rawInt 0,.none,.none]}) (s.heap.objs.size+1) s.heap.objs.size 0 .none:=by
  have:=Heap.get?_push_size (s.heap.push {cls:=.type "tuple_iterator",data:=.fields #[.ref l,.int 0 0]}) (o:={cls:=.type "enumerate",data:=.fields #[.none,.bool false,.ref s.heap.objs.size,rawInt 0,.none,.none]}) rfl
  rw[hz]at this;exact this
 exact⟨⟨_,he,rfl⟩,h _ he ⟨_,Heap.get?_push_of_some _ (Heap.get?_push_size _ rfl),rfl,rfl⟩ (by rw[Heap.size_push,hz]) fun b o y=>Heap.get?_push_of_some _ (Heap.get?_push_of_some _ y)⟩
theorem aP8{prog:Program}{w:World}{A:Around}{E:VSP}{s:Shared}{e j l:Addr}{k:Nat}{ys:Array Value}{old:Value}{Q:Option Value→Shared→Prop}(hh:A.handled=none)(he:IsEnum s.heap e j k old)(a:s.heap.IsTupleIter j l k)(b:s.heap.IsTuple l ys)(c:ys[k]? =none)
 (q:∀g,Heap.ExtBut j s.heap g→Q none {s with heap:=g}):wpAny (model prog w) A (pyNext (.ref e)) Q E s:=by
 have hT:s.TypeIs (.ref e) "enumerate":=⟨_,he,rfl⟩;unfold pyNext
 refine wpAny_bind (wpAny_attempt (wpAny_callSpecial?_slot (name:=Str.ofString "__next__") hT F.slot_enumerate_next (wpAny_call_entry F.slot_enumerate_next hT F.entry_enumerate_next ?_ (F.args_enumerate_next_1 _))))
 show wpAny _ _ (field (.ref e) 2 >>= _) _ _ _;refine wpAny_bind (wpAny_field he rfl (x:=.ref j) rfl ?_)
 refine wpAny_bind (cB9 hh a b c fun g x k1 k2=>?_);obtain⟨o,k3,k4⟩:=k2
 refine wpAny_bind (wpAny_isInstance (T:= "StopIteration") (b:=true) ⟨o,k3,k4⟩ isSubtype_stop ?_);exact wpAny_pure (q _ k1)
def eS4(K:PySem.W.Frag)(a:Addr):It:=
 ⟨fun i H=>∃xs x,SqT K H a xs∧xs[i]? =some x,
  fun i H v H'=>∃q x,H q=none∧v= .ref q∧H'=upd H q (.tup [.int i,x])∧∀xs,SqT K H a xs→xs[i]? =some x,
  fun i H=>∃xs,SqT K H a xs∧xs.length≤i⟩
theorem cV5{P:Program}{w:World}{K:PySem.W.Frag}{es:List Expr}{x1:Nat}{tp:Pos}{l e it:Addr}(hne:e≠it):
 bL6 P w K (.Tuple es x1 tp) (eS4 K l) [e,it] e (fun i h=>(∃old,IsEnum h e it i old)∧h.IsTupleIter it l i) where
 mem:=by simp
 obj:=fun i h st b hb=>by
  obtain⟨⟨old,s1⟩,s2⟩:=st
  simp only[List.mem_cons,List.not_mem_nil,or_false]at hb
  rcases hb with rfl|rfl
  ·exact⟨_,s1,fun v z=>nomatch z⟩
  · obtain⟨o,q,c,d⟩:=s2
    exact⟨o,q,fun v z=>by rw[d]at z;cases z⟩
 keep:=fun i h h' st k=>by
  obtain⟨⟨old,s1⟩,s2⟩:=st
  exact⟨⟨old,k _ (by simp) _ s1⟩,s2.at fun o q=>k _ (by simp) o q⟩
 item:=by
  intro X hP hw hK hc i pins s σ H E I hf st hg
  subst hP hw hK
  obtain⟨xs,x,q1,hx⟩:=hg
  obtain⟨its,r1,c1,z1⟩:=I.tuple q1
  obtain⟨u,e1,ru⟩:=bM9 r1 hx
  obtain⟨⟨old,s1⟩,s2⟩:=st
  have c2:s.heap.IsTuple l its.toArray:=c1
  have hl1:l≠it:=fun z=>by
   subst z
   obtain⟨o,a,b,_⟩:=s2
   obtain⟨o2,a2,b2,_⟩:=c2
   rw[a]at a2
   cases a2
   rw[b]at b2
   exact absurd b2 (by decide)
  have hl2:e∉ [it,l]:=fun z=>by
   simp only[List.mem_cons,List.not_mem_nil,or_false]at z
   rcases z with z|z
   ·exact hne z
   · subst z
     obtain⟨o2,a2,b2,_⟩:=c2
     rw[s1]at a2
     cases a2
     have b3:Value.type "enumerate" =Value.type "tuple":=b2
     exact absurd b3 (by decide)
  have hlt:i<its.toArray.size:=by
   rcases Nat.lt_or_ge i its.toArray.size with z|z
   ·exact z
   ·rw[Array.getElem?_eq_none z]at e1;cases e1
  refine wpAny_pyNext_enum_itemD (cM9 (A:=X.A.in1) (I.ok.hd hc) it l hl1 its.toArray) s1 ⟨s2,c2⟩ hlt hne hl2 fun y g tk b0 b1 b2 b3 b4 b5=>⟨_,rfl,?_⟩
  have hy:y=u:=by rw[e1]at b0;cases b0;rfl
  subst hy
  refine wpAny_letOwnedTupleGo_enum b1 fun g2 c1' sb=>?_
  have elt:e<s.heap.objs.size:=Heap.lt_size s1
  have ilt:it<s.heap.objs.size:=by obtain⟨_,q,_⟩:=s2;exact Heap.lt_size q
  have keep:∀b o,b∉ [e,it]→s.heap.get? b=some o→g2.get? b=some o:=fun b o hb q=>by
   simp only[List.mem_cons,List.not_mem_nil,or_false,not_or]at hb
   exact(sb.2 b hb.1).trans (b5 b o hb.1 hb.2 q)
  have hnew:aB5 g2 s.heap.objs.size [.int (i:Int) tk,y].toArray:=⟨_,(sb.2 _ (Nat.ne_of_gt elt)).trans b3,rfl,_,rfl⟩
  have hq:H s.heap.objs.size=none:=I.hok.fresh (Nat.le_refl _)
  refine⟨.ref s.heap.objs.size,upd H s.heap.objs.size (.tup [.int i,x]),bF5 I hf keep (by show 2≤sizeLine;decide) (.cons ⟨_,rfl⟩ (.cons ru .nil)) hnew,rfl,⟨_,x,hq,rfl,rfl,fun xs' h=>by rw[I.tuple_inj h q1];exact hx⟩,?_,fun b hb=>?_⟩
  ·exact⟨⟨_,c1'⟩,b2.1.at fun o q=>(sb.2 _ (Ne.symm hne)).trans q⟩
  · have hb':b<s.heap.objs.size:=by
     simp only[List.mem_cons,List.not_mem_nil,or_false]at hb
     rcases hb with rfl|rfl
     ·exact elt
     ·exact ilt
    rw[J7 (Nat.ne_of_lt hb')]
    exact(hf b hb).1
 done:=by
  intro X hP hw hK hc i pins s σ H E I hf st hg
  subst hP hw hK
  obtain⟨xs,q1,hend⟩:=hg
  obtain⟨its,r1,c1,z1⟩:=I.tuple q1
  obtain⟨⟨old,s1⟩,s2⟩:=st
  have hl:=r1.length
  have c2:s.heap.IsTuple l its.toArray:=c1
  refine aP8 (I.ok.hd hc) s1 s2 c2 (by simp;lia) fun g b7=>⟨rfl,aQ6 (t':=s.toks) I hf fun b o hb q=>?_⟩
  simp only[List.mem_cons,List.not_mem_nil,or_false,not_or]at hb
  exact b7 b o hb.2 q
 self:=fun _ _ _ _ _ st h=>by obtain⟨⟨old,s1⟩,_⟩:=st;exact wpAny_pyIter_enum s1 h
def eR2(K:PySem.W.Frag)(ta:TA):TI:=fun σ H R=>ta σ H fun vs H1=>∃a xs,vs= [.ref a]∧SqT K H1 a xs∧R (eS4 K a) H1
section
variable{X:Cx}{Z:XC}
theorem dK1{es:List Expr}{x1:Nat}{tp:Pos}{a:Expr}{ta:TA}{p pos:Pos}(hg:Gl X "enumerate")(hm:X.mg "enumerate" =none)(ha:PA X [a] ta)(hs:starEach [a] X.env= [(false,eval a X.env)])(hbt:bootBuiltins "enumerate" =some (.type "enumerate")):
 PI X (.Tuple es x1 tp) (.Call (.Name "enumerate" p) [a] [] pos) (eR2 X.K ta):=by
 intro pins s σ H R I h
 refine Call_ (aZ3 I hg hm hbt (PyProof.Rows.callWith_type1 (thn (ha pos pins s σ H _ I h) fun us s1 hE1=>hE1.elim fun vs H1 I1 r1 q1=>?_) hs rfl))
 obtain⟨l,xs,rfl,q1,q⟩:=q1
 obtain⟨u1,rfl,ru1⟩:=aE7 r1
 cases ru1
 obtain⟨its,rr,c1,z1⟩:=I1.tuple q1
 refine cW8 (show s1.heap.IsTuple l its.toArray from c1) fun g b1 b2 b3 b4=>wpAny_pyIter_enum b1 ?_
 have hne: @Ne Nat (s1.heap.objs.size+1) s1.heap.objs.size:=by lia
 refine⟨s1.heap.objs.size+1, [s1.heap.objs.size+1,s1.heap.objs.size],_,eS4 X.K l,H1,rfl,I1.kept (t':=s1.toks) b4,cV5 hne,⟨⟨_,b1⟩,b2⟩,fun b hb=>?_,q⟩
 have hb':s1.heap.objs.size≤b:=by
  simp only[List.mem_cons,List.not_mem_nil,or_false]at hb
  rcases hb with rfl|rfl
  ·exact Nat.le_succ _
  ·exact Nat.le_refl _
 exact I1.fpOk hb' (I1.hok.fresh hb')
def bN3(fs:DSt→M (List D)):DSt→M Src:=fun σ=>do
 match ←fs σ with
 |[.tup l]=>pure ⟨l.zipIdx.map fun p=>.tup [.int ((p.2:Nat):Int),p.1],fun _=>true⟩
 |_=>M.stuck
theorem fH7{es:List Expr}{x1:Nat}{tp:Pos}{a:Expr}{fs:DSt→M (List D)}{p pos:Pos}(hb:BLs X.mg)(hg:Gl X "enumerate")(ha:DA X Z [a] fs)(hs:Z9 a=true):
 DI X Z (.Tuple es x1 tp) (.Call (.Name "enumerate" p) [a] [] pos) (bN3 fs):=
 DI.of (dK1 hg (hb.h _ (by decide +kernel)) ha.h (aV5 hs) bE7) fun σ H R hE0=>hE0.elim fun dσ μ G s h p=>⟨dσ,μ,G,s,h,(d8.bind p).mono fun ds μ1 G1 H1 x1 h1 p1 vs rv=>by
  rcases ds with _|⟨_|_|_|_|l|_|_|_,_|⟨_,_⟩⟩<;>dsimp only at p1<;>try exact p1.elim
  · obtain⟨v1,t1,rfl,r1,e⟩:=rv
    cases e
    unfold d9 at r1
    obtain⟨a1,w1,rfl,q1,rl⟩:=r1
    refine⟨a1,w1,rfl,q1,d8.ok p1 h1 _ fun μ' G' H' x' h' ck' i=>?_⟩
    have q1':=x'.sqT q1
    have l1':=rl.mono x'
    refine⟨fun d hd=>?_,fun hi=>?_⟩
    · rw[List.getElem?_map,List.getElem?_zipIdx]at hd
      rcases hz:l[i]? with _|e1
      ·rw[hz]at hd;cases hd
      ·
        rw[hz]at hd
        have hd':d= .tup [.int ((i:Nat):Int),e1]:=by simpa using hd.symm
        subst hd'
        obtain⟨y1,hy1,ry1⟩:=l1'.get hz
        refine⟨⟨w1,y1,q1',hy1⟩,fun x H2 ⟨q,z1,hq,ex,eH,f1⟩=>?_⟩
        subst ex eH
        have g1:=f1 w1 q1'
        rw[hy1]at g1
        cases g1
        exact cH7 h' hq ⟨_,_,rfl,ofI,y1,_,rfl,ry1,rfl⟩
    · refine⟨w1,q1',?_⟩
      rw[←l1'.length]
      simpa using hi⟩
end
end DL
namespace W
open PySem PySem.Spec L2 DL
open PyProof.Rows hiding St
theorem dH8{G:DH}{σ:DSt}{fs:DSt→M (List D)}{R:Src→DH→Prop}{l:List D}(h:Wp (fs σ) G fun xs G1=>xs= [.tup l]∧R ⟨l.zipIdx.map fun p=>.tup [.int ((p.2:Nat):Int),p.1],fun _=>true⟩ G1):Wp (bN3 fs σ) G R:=by
 delta bN3
 refine m5.mpr (Wp.mono h fun xs G1 ⟨e,q⟩=>?_)
 subst e
 exact j9.mpr q
end W
namespace DL
open PySem PySem.Spec L2
open PyProof.Rows hiding St
theorem dK5{α:Type}{m m':M α}{G G':DH}{Q:α→DH→Prop}(e:m G=m' G')(w:Wp m' G' Q):Wp m G Q:=by
 unfold Wp at w ⊢;rw[e];exact w
theorem g8{α:Type}{m:M α}{a:α}{G G':DH}{Q:α→DH→Prop}(e:m G=some (.ok a,G'))(q:Q a G'):Wp m G Q:=⟨a,G',e,q⟩
noncomputable def PB(Q:DPP):Fl→DH→Prop
 | .nx _,G=>Q .non G
 | .rt d,G=>Q d G
 |_,_=>False
section
variable{m:Nat}{f S g:Fs}{ds as:List D}{d:D}{G G':DH}{Q:DPP}{P A:Fl→DH→Prop}{σ σ':DSt}{F:List D→M D}{e:Fe}
theorem J3(w:Wp (f (ds.map some++List.replicate (m-ds.length) none)) G (PB Q)):Wp (t8 m f ds) G Q:=
 aW8.mpr (w.mono fun fl G1 h=>match fl,h with
  | .nx _,h=>h
  | .rt _,h=>h
  | .bk _,h=>h.elim
  | .ct _,h=>h.elim)
theorem M6(q:Q d G):PB Q (.rt d) G:=q
theorem aI1(e:f (ds.map some++List.replicate (m-ds.length) none) G=some (.ok (.rt d),G'))(q:Q d G'):Wp (t8 m f ds) G Q:=J3 (g8 e q)
theorem m6(e:S σ G=some (.ok (.nx σ'),G'))(w:Wp (g σ') G' P):Wp (o4 S g σ) G P:=m8.mpr (g8 e w)
theorem dS1(e:S σ G=some (.ok (.rt d),G'))(q:P (.rt d) G'):Wp (o4 S g σ) G P:=m8.mpr (g8 e q)
theorem eJ1(w:Wp (S σ) G A) (k:∀fl G1,A fl G1→match fl with
 | .nx σ'=>Wp (g σ') G1 P
 |r=>P r G1):Wp (o4 S g σ) G P:=m8.mpr (w.mono k)
theorem cS9{m:M D}(k:D→DSt)(e:S σ G= (m >>= fun d=>pure (Fl.nx (k d))) G')(w:Wp m G' fun d G1=>Wp (g (k d)) G1 P):Wp (o4 S g σ) G P:=
 m8.mpr (dK5 e (m5.mpr (w.mono fun a G1 q=>j9.mpr q)))
theorem cF4{α:Type}{m:M α}{R:α→DH→Prop}(w:Wp m G R):Wp (noX m) G R:=cE8.mpr w
end
section
variable{α:Type}{m n:Nat}{f g:Fs}{a b c:Fe}{t:DSt→M Bool}{fs:DSt→M (List D)}{as:List D}{d x y z:D}{k:Bool}{G G1 G2:DH}{Q:DPP}{P:Fl→DH→Prop}{R:List D→DH→Prop}{B:Bool→DH→Prop}{σ:DSt}{F:List D→M D}{o:D→D→M D}
theorem bE0(e:t σ G=some (.ok true,G1))(w:Wp (f σ) G1 P):Wp (ifS t f g σ) G P:=bY1.mpr (g8 e w)
theorem fF9(e:t σ G=some (.ok false,G1))(w:Wp (g σ) G1 P):Wp (ifS t f g σ) G P:=bY1.mpr (g8 e w)
theorem aH2(w:Wp (t σ) G fun k G1=>(k=true→Wp (f σ) G1 P)∧(k=false→Wp (g σ) G1 P)):Wp (ifS t f g σ) G P:=
 bY1.mpr (w.mono fun k G1 h=>by cases k with|true=>exact h.1 rfl|false=>exact h.2 rfl)
theorem bX3{u:DSt→M Bool}(w:Wp (t σ) G fun k G1=>(k=true→Wp (u σ) G1 B)∧(k=false→B false G1)):Wp (aH4 t u σ) G B:=
 dZ7.mpr (w.mono fun k G1 h=>by cases k with|true=>exact h.1 rfl|false=>exact h.2 rfl)
theorem cR7{u:DSt→M Bool}(w:Wp (t σ) G fun k G1=>(k=true→B true G1)∧(k=false→Wp (u σ) G1 B)):Wp (orT t u σ) G B:=
 dO7.mpr (w.mono fun k G1 h=>by cases k with|true=>exact h.1 rfl|false=>exact h.2 rfl)
theorem aW5{i:Nat}{S:DSt→Prop}{R:DPP}(hS:S (σ.set i (some d)))(w:Wp (a (σ.set i (some d))) G R):Wp (q13 i d σ) G fun σ1 G1=>G1=G∧S σ1∧Wp (N6 σ1) G fun b G2=>b=true∧G2=G∧Wp (a σ1) G R:=
 U0.mpr ⟨rfl,hS,W.wp_trueT.mpr ⟨rfl,rfl,w⟩⟩
theorem dR4{g:Fg}{caps:List (Option Nat)}{j:Int}(e:fs σ G=some (.ok [.int j],G1))(h0:0≤j)(h1:j≤10000)(w:Wp (P0 g t a (fun _=>true) (N8 0 j.toNat) (aA9 caps σ)) G1 fun ys G2=>Q (.ref G2.length) (G2++[.lst ys])):Wp (M8 (aD9 fs) caps g t a σ) G Q:=by
 refine W.wp_comp.mpr (W.rng1.mpr (g8 e ((W.rng1_int ⟨by lia,by lia⟩).mpr ⟨?_,w⟩)))
 show (N8 0 j.toNat).length≤sizeLine
 unfold N8;rw[List.length_map,List.length_range]
 exact Nat.le_trans (by lia) (show 10000≤sizeLine by decide)
theorem Z7{g:Fg}{caps:List (Option Nat)}{l:List D}(e:b σ G=some (.ok (.tup l),G1))(h:l.length≤10000)(w:Wp (P0 g t a (fun _=>true) l (aA9 caps σ)) G1 fun ys G2=>Q (.ref G2.length) (G2++[.lst ys])):Wp (M8 (itW b) caps g t a σ) G Q:=
 W.wp_comp.mpr (W.wp_itW.mpr (g8 e (W.srcW_tup.mpr ⟨Nat.le_trans h (show 10000≤sizeLine by decide),w⟩)))
theorem cU7{A:Fl→DH→Prop}(w:Wp (t σ) G fun k G1=>(k=true→Wp (f σ) G1 A)∧(k=false→Wp (g σ) G1 A))(k:∀fl G1,A fl G1→P fl G1):Wp (ifS t f g σ) G P:=(aH2 w).mono k
theorem fE4(e:t σ G=some (.ok true,G1))(w:Wp (a σ) G1 Q):Wp (ifE t a b σ) G Q:=bH5.mpr (g8 e w)
theorem aC5{i:Nat}(w:Wp (a σ) G fun d G1=>P (.nx (σ.set i (some d))) G1):Wp (N7 a (q13 i) σ) G P:=aS4.mpr (w.mono fun _ _ h=>U0.mpr h)
theorem J9(w:Wp (a σ) G fun d G1=>P (.rt d) G1):Wp (o7 a σ) G P:=bA3.mpr w
theorem m9(e:fs σ G=some (.ok as,G1))(h:as.length=n)(w:Wp (F as) G1 Q):Wp (q12 (fnX n F) fs σ) G Q:=aF5.mpr (g8 e (Z6.mpr ⟨h,w⟩))
theorem aX7(e:fs σ G=some (.ok as,G1))(w:Wp (F as) G1 Q):Wp (q12 F fs σ) G Q:=aF5.mpr (g8 e w)
theorem R6(w:Wp (fs σ) G fun as G1=>Wp (F as) G1 Q):Wp (q12 F fs σ) G Q:=aF5.mpr w
theorem X3(ea:a σ G=some (.ok x,G1))(eb:b σ G1=some (.ok y,G2))(w:Wp (o x y) G2 Q):Wp (d7 o a b σ) G Q:=aI6.mpr (g8 ea (g8 eb w))
theorem bin_w(w:Wp (a σ) G fun x G1=>Wp (b σ) G1 fun y G2=>Wp (o x y) G2 Q):Wp (d7 o a b σ) G Q:=aI6.mpr w
theorem M9(e:a σ G=some (.ok x,G1))(w:Wp (fs σ) G1 fun xs G2=>R (x::xs) G2):Wp (q10 a fs σ) G R:=X7.mpr (g8 e w)
theorem v6(w:Wp (a σ) G fun x G1=>Wp (fs σ) G1 fun xs G2=>R (x::xs) G2):Wp (q10 a fs σ) G R:=X7.mpr w
theorem R8(w:Wp (a σ) G fun x G1=>∃k,x= .bl k∧B k G1):Wp (J2 a σ) G B:=bM1.mpr w
end
def FH(K:PySem.W.Frag)(x:Str)(st:Stmt):Prop:=∃(f:Addr) (od an:Option Addr) (sl:Array (Option Value)) (oc kV dc pm cd ct:Value),PySem.W.nsIn K mainGlobals x=some (some (.ref f))∧
 K.lookup f=some ⟨oc,od,.func (PySem.W.fnOf x x (aA1 st) (V8 st) (j6 st) .none kV dc pm an cd ct),sl⟩∧PySem.W.codeIn K cd x=true∧PySem.W.keepIn K (.ref f)=true
section
variable{K:PySem.W.Frag}{h:Heap}{mg:Str→Option Value}{x:Str}{st:Stmt}
theorem FH.of{f:Addr}{od an:Option Addr}{sl:Array (Option Value)}{oc kV dc pm cd ct:Value}(a:PySem.W.nsIn K mainGlobals x=some (some (.ref f)))
 (l:K.lookup f=some ⟨oc,od,.func (PySem.W.fnOf x x (aA1 st) (V8 st) (j6 st) .none kV dc pm an cd ct),sl⟩) (e:PySem.W.codeIn K cd x=true) (k:PySem.W.keepIn K (.ref f)=true):FH K x st:=
 ⟨f,od,an,sl,oc,kV,dc,pm,cd,ct,a,l,e,k⟩
variable{ps:List Str}{p1 p2 p3 p4 p5 p6:Str}
theorem FH.ff(H:FH K x st)(X:K.In h)(G:h.Ns mainGlobals mg)(b:∀(kV doc pm:Value) (an:Option Addr) (cdv ct:Value) (us:List Value),us.length=ps.length→bindArgs (PySem.W.fnOf x x (aA1 st) (V8 st) (j6 st) .none kV doc pm an cdv ct) ⟨us, []⟩=pure (ps.zip us)):∃f fd,FF K mg x st ps f fd:=by
 obtain⟨f,od,an,sl,oc,kV,dc,pm,cd,ct,a,l,e,k⟩:=H
 exact⟨_,_,cG5 l e k,(cG5 l e k).binds b,PySem.W.mg_of X G a⟩
theorem aU6{α:Type}{us:List α}{n:Nat}(h:us.length=n+1):∃a t,us=a::t∧t.length=n:=by
 rcases us with _|⟨a,t⟩
 ·cases h
 ·exact⟨a,t,rfl,Nat.succ.inj h⟩
theorem FH.ff0(H:FH K x st)(X:K.In h)(G:h.Ns mainGlobals mg)(b:∀kV doc pm an cdv ct,bindArgs (PySem.W.fnOf x x (aA1 st) (V8 st) (j6 st) .none kV doc pm an cdv ct) ⟨[], []⟩=pure []):∃f fd,FF K mg x st [] f fd:=
 H.ff X G fun kV doc pm an cdv ct us hl=>by cases List.eq_nil_of_length_eq_zero hl;exact b _ _ _ _ _ _
theorem FH.ff1(H:FH K x st)(X:K.In h)(G:h.Ns mainGlobals mg)(b:∀kV doc pm an cdv ct v1,bindArgs (PySem.W.fnOf x x (aA1 st) (V8 st) (j6 st) .none kV doc pm an cdv ct) ⟨[v1], []⟩=pure [(p1,v1)]):∃f fd,FF K mg x st [p1] f fd:=
 H.ff X G fun kV doc pm an cdv ct us h0=>by
  obtain⟨v1,w1,rfl,h1⟩:=aU6 h0
  cases List.eq_nil_of_length_eq_zero h1
  exact b _ _ _ _ _ _ _
theorem FH.ff2(H:FH K x st)(X:K.In h)(G:h.Ns mainGlobals mg)(b:∀kV doc pm an cdv ct v1 v2,bindArgs (PySem.W.fnOf x x (aA1 st) (V8 st) (j6 st) .none kV doc pm an cdv ct) ⟨[v1,v2], []⟩=pure [(p1,v1),(p2,v2)]):∃f fd,FF K mg x st [p1,p2] f fd:=
 H.ff X G fun kV doc pm an cdv ct us h0=>by
  obtain⟨v1,w1,rfl,h1⟩:=aU6 h0
  obtain⟨v2,w2,rfl,h2⟩:=aU6 h1
  cases List.eq_nil_of_length_eq_zero h2
  exact b _ _ _ _ _ _ _ _
theorem FH.ff3(H:FH K x st)(X:K.In h)(G:h.Ns mainGlobals mg)(b:∀kV doc pm an cdv ct v1 v2 v3,bindArgs (PySem.W.fnOf x x (aA1 st) (V8 st) (j6 st) .none kV doc pm an cdv ct) ⟨[v1,v2,v3], []⟩=pure [(p1,v1),(p2,v2),(p3,v3)]):∃f fd,FF K mg x st [p1,p2,p3] f fd:=
 H.ff X G fun kV doc pm an cdv ct us h0=>by
  obtain⟨v1,w1,rfl,h1⟩:=aU6 h0
  obtain⟨v2,w2,rfl,h2⟩:=aU6 h1
  obtain⟨v3,w3,rfl,h3⟩:=aU6 h2
  cases List.eq_nil_of_length_eq_zero h3
  exact b _ _ _ _ _ _ _ _ _
theorem FH.ff5(H:FH K x st)(X:K.In h)(G:h.Ns mainGlobals mg)(b:∀kV doc pm an cdv ct v1 v2 v3 v4 v5,bindArgs (PySem.W.fnOf x x (aA1 st) (V8 st) (j6 st) .none kV doc pm an cdv ct) ⟨[v1,v2,v3,v4,v5], []⟩=pure [(p1,v1),(p2,v2),(p3,v3),(p4,v4),(p5,v5)]):∃f fd,FF K mg x st [p1,p2,p3,p4,p5] f fd:=
 H.ff X G fun kV doc pm an cdv ct us h0=>by
  obtain⟨v1,w1,rfl,h1⟩:=aU6 h0
  obtain⟨v2,w2,rfl,h2⟩:=aU6 h1
  obtain⟨v3,w3,rfl,h3⟩:=aU6 h2
  obtain⟨v4,w4,rfl,h4⟩:=aU6 h3
  obtain⟨v5,w5,rfl,h5⟩:=aU6 h4
  cases List.eq_nil_of_length_eq_zero h5
  exact b _ _ _ _ _ _ _ _ _ _ _
theorem BLs.of(X:K.In h)(G:h.Ns mainGlobals mg)(z:∀b∈bltL,PySem.W.nsIn K mainGlobals b=some none):BLs mg:=⟨fun b hb=>PySem.W.mg_none_of X G (z b hb)⟩
end
noncomputable abbrev eN9(h:Heap)(z TI TO:Addr)(f0:Value)(b:Bool):Prop:=
 h.get? z=some {cls:=.type "zip",dict:=none,data:=.fields #[f0,.bool b,.bool false,.ref TI,.ref TO],slots:= #[]}
section
variable{prog:Program}{w:World}{A:Around}{E:VSP}{s:Shared}{k1 k2:Bool}{i:Nat}{z TI TO i1 i2 l1 l2 T:Addr}{xs ys:Array Value}{b:Bool}
structure ZSt(k1 k2:Bool)(z TI TO i1 i2 l1 l2:Addr)(xs ys:Array Value)(n0 i:Nat)(h:Heap):Prop where
 hz:(IsZip h z TI TO .none∧∃a b,IsPair h TO a b)∨∃T b,eN9 h z TI TO (rawInt ((n0+T:Nat):Int)) b∧T<i
 hTI:IsPair h TI (.ref i1) (.ref i2)
 h1:SI k1 h i1 l1 i
 h2:SI k2 h i2 l2 i
 c1:SC k1 h l1 xs
 c2:SC k2 h l2 ys
end
section
variable{H:Hp}{n0:Nat}{ws:List (V×V)}
end
section
variable{X:Cx}{Z:XC}{a b:Expr}{fs:DSt→M (List D)}{p1 p2 pos1 pos2:Pos}
end
end DL
namespace TS
open PySem PyProof.Rows
section
variable{prog:Program}{w:World}{A:Around}{E:VSP}{s:Shared}
noncomputable def kz(p:Keyed):Int:=numOf p.1
noncomputable def isI(p:Keyed):Prop:=∃n t,p.1= .int n t
end
def leK(x y:Keyed):Prop:=kz x≤kz y
def Srt(l:List Keyed):Prop:=l.Pairwise leK
theorem Srt.app{a b:List Keyed}(ha:Srt a)(hb:Srt b)(h:∀x∈a,∀y∈b,leK x y):Srt (a++b):=List.pairwise_append.mpr ⟨ha,hb,h⟩
theorem Srt.left{a b:List Keyed}(h:Srt (a++b)):Srt a:=(List.pairwise_append.mp h).1
theorem Srt.right{a b:List Keyed}(h:Srt (a++b)):Srt b:=(List.pairwise_append.mp h).2.1
theorem Srt.mid{a b:List Keyed}(h:Srt (a++b)):∀x∈a,∀y∈b,leK x y:=(List.pairwise_append.mp h).2.2
structure MI(L out A B:List Keyed):Prop where
 perm:(out++(A++B)).Perm L
 so:Srt out
 oa:∀x∈out,∀y∈A,leK x y
 ob:∀x∈out,∀y∈B,leK x y
 sa:Srt A
 sb:Srt B
theorem MI.bk{L out C A B:List Keyed}(h:MI L out A (C++B))(k:∀c∈C,∀x∈A,leK c x):MI L (out++C) A B where
 perm:=by
  refine List.Perm.trans ?_ h.perm
  rw[List.append_assoc]
  refine List.Perm.append_left _ ?_
  rw[←List.append_assoc,←List.append_assoc]
  exact List.Perm.append_right _ List.perm_append_comm
 so:=h.so.app h.sb.left fun x hx y hy=>h.ob x hx y (by simp[hy])
 oa:=fun x hx y hy=>by
  rcases List.mem_append.mp hx with hx|hx
  ·exact h.oa x hx y hy
  ·exact k x hx y hy
 ob:=fun x hx y hy=>by
  rcases List.mem_append.mp hx with hx|hx
  ·exact h.ob x hx y (by simp[hy])
  ·exact h.sb.mid x hx y hy
 sa:=h.sa
 sb:=h.sb.right
structure MJ(L A B S:List Keyed):Prop where
 perm:(A++(B++S)).Perm L
 ss:Srt S
 as:∀x∈A,∀y∈S,leK x y
 bs:∀x∈B,∀y∈S,leK x y
 sa:Srt A
 sb:Srt B
theorem MJ.bk{L A B C S:List Keyed}(h:MJ L A (B++C) S)(k:∀a∈A,∀c∈C,leK a c):MJ L A B (C++S) where
 perm:=by have:=h.perm;simp only[List.append_assoc]at this ⊢;exact this
 ss:=h.sb.right.app h.ss fun x hx y hy=>h.bs x (by simp[hx]) y hy
 as:=fun x hx y hy=>by
  rcases List.mem_append.mp hy with hy|hy
  ·exact k x hx y hy
  ·exact h.as x hx y hy
 bs:=fun x hx y hy=>by
  rcases List.mem_append.mp hy with hy|hy
  ·exact h.sb.mid x hx y hy
  ·exact h.bs x (by simp[hx]) y hy
 sa:=h.sa
 sb:=h.sb.left
def cI0(a:Array Keyed):Prop:=∀p∈a.toList,isI p
theorem cI0.at{a:Array Keyed}(h:cI0 a){i:Nat}{p:Keyed}(e:a[i]? =some p):isI p:=h p (by
 rw[←Array.getElem?_toList]at e
 exact List.mem_of_getElem? e)
theorem cI0.get{a:Array Keyed}(h:cI0 a){i:Nat}(hi:i<a.size):∃p,a[i]? =some p∧isI p:=⟨_,Array.getElem?_eq_getElem hi,h.at (Array.getElem?_eq_getElem hi)⟩
noncomputable def Same(st st':SortSt):Prop:=kindOf st'=kindOf st∧arrOf st'=arrOf st∧pendingOf st'=pendingOf st∧failedOf st'=failedOf st
theorem Same.refl{st:SortSt}:Same st st:=⟨rfl,rfl,rfl,rfl⟩
theorem Same.trans{a b c:SortSt}(h:Same a b)(k:Same b c):Same a c:=⟨k.1.trans h.1,k.2.1.trans h.2.1,k.2.2.1.trans h.2.2.1,k.2.2.2.trans h.2.2.2⟩
structure LI(a b:Array Keyed)(out:Array Keyed)(ia ib:Nat):Prop where
 mi:MI (a.toList++b.toList) out.toList (a.toList.drop ia) (b.toList.drop ib)
 ha:ia+1<a.size
 hb:ib<b.size
 sz:out.size=ia+ib
section
variable{a b out:Array Keyed}{ia ib:Nat}
end
section
variable{prog:Program}{w:World}{A:Around}{E:VSP}{s:Shared}
end
section
variable{prog:Program}{w:World}{A:Around}{E:VSP}{s:Shared}
end
structure HI(a b:Array Keyed)(out:Array Keyed)(na nb:Nat):Prop where
 mj:MJ (a.toList++b.toList) (a.toList.take na) (b.toList.take nb) out.toList.reverse
 ha:0<na
 hb:1<nb
 la:na≤a.size
 lb:nb≤b.size
 sz:out.size+na+nb=a.size+b.size
section
variable{a b out:Array Keyed}{na nb:Nat}
end
section
variable{prog:Program}{w:World}{A:Around}{E:VSP}{s:Shared}
end
section
variable{prog:Program}{w:World}{A:Around}{E:VSP}{s:Shared}
structure Aft(st st':SortSt)(l:List Keyed)(p:Array (Nat×Nat×Nat)):Prop where
 kind:kindOf st'=oneType'
 arr:(arrOf st').toList=l
 pend:pendingOf st'=p
 fail:failedOf st'=none
end
def ND(a:Array Keyed):Prop:=(a.toList.map kz).Nodup
theorem eC3{a:Array Keyed}{i:Nat}{p:Keyed}(e:a[i]? =some p):K a i=kz p:=by unfold K;rw[e];rfl
theorem ND.ne{a:Array Keyed}(h:ND a){i j:Nat}(hi:i<a.size)(hj:j<a.size)(ne:i≠j):K a i≠K a j:=by
 rw[eC3 (Array.getElem?_eq_getElem hi),eC3 (Array.getElem?_eq_getElem hj)]
 intro e
 have:=List.getElem_inj (i:=i) (j:=j) (h₀:=by simpa using hi) (h₁:=by simpa using hj) h
 simp only[List.getElem_map,Array.getElem_toList]at this
 exact ne (this.mp e)
theorem cI0.perm{a b:Array Keyed}(h:cI0 a)(p:b.Perm a):cI0 b:=fun x hx=>h x ((Array.perm_iff_toList_perm.mp p).mem_iff.mp hx)
theorem ND.perm{a b:Array Keyed}(h:ND a)(p:b.Perm a):ND b:=((Array.perm_iff_toList_perm.mp p).map kz).nodup_iff.mpr h
noncomputable def Asc(a:Array Keyed)(lo m:Nat):Prop:=∀i,i+1<m→K a (lo+i)<K a (lo+i+1)
theorem Asc.lt{a:Array Keyed}{lo m:Nat}(h:Asc a lo m):∀ {j i:Nat},i<j→j<m→K a (lo+i)<K a (lo+j)
 |0,i,hij,_=>by lia
 |j+1,i,hij,hj=>by
   have h1:=h j hj
   by_cases e:i=j
   ·subst e;exact h1
   ·exact Int.lt_trans (h.lt (show i<j by lia) (by lia)) h1
theorem Asc.snoc{a:Array Keyed}{lo m:Nat}(h:Asc a lo m)(k:K a (lo+m-1)<K a (lo+m))(hm:1≤m):Asc a lo (m+1):=fun i hi=>by
 by_cases e:i+1<m
 ·exact h i e
 · have:i=m-1:=by lia
   subst this
   rw[show lo+(m-1)=lo+m-1 by lia,show lo+m-1+1=lo+m by lia]
   exact k
structure Run(lo:Nat)(st st':SortSt):Prop where
 kind:kindOf st'=oneType'
 pend:pendingOf st'=pendingOf st
 fail:failedOf st'=none
 perm:(arrOf st').Perm (arrOf st)
 low:∀i,i<lo→(arrOf st')[i]? = (arrOf st)[i]?
theorem Run.refl{lo:Nat}{st:SortSt}(hk:kindOf st=oneType')(hf:failedOf st=none):Run lo st st:=⟨hk,rfl,hf,.refl _,fun _ _=>rfl⟩
theorem Run.size{lo:Nat}{st st':SortSt}(h:Run lo st st'):(arrOf st').size= (arrOf st).size:=h.perm.size_eq
section
variable{prog:Program}{w:World}{A:Around}{E:VSP}{s:Shared}
theorem lt_at{st:SortSt}{i j:Nat}{Q:Option Bool→SortSt→Prop}(hk:kindOf st=oneType')(ha:cI0 (arrOf st))(hi:i<(arrOf st).size)(hj:j<(arrOf st).size)(h:Q (some (decide (K (arrOf st) i<K (arrOf st) j))) st):wpS (model prog w) A E s (ltAt' i j) Q st:=by
 obtain⟨p,e1,n,t,hp⟩:=ha.get hi
 obtain⟨q,e2,m,u,hq⟩:=ha.get hj
 obtain⟨p1,p2⟩:=p
 obtain⟨q1,q2⟩:=q
 cases hp
 cases hq
 rw[eC3 e1,eC3 e2]at h
 exact wpS_ltAt hk e1 e2 h
end
theorem Run.trans{lo:Nat}{a b c:SortSt}(h:Run lo a b)(k:Run lo b c):Run lo a c:=⟨k.kind,k.pend.trans h.pend,k.fail,k.perm.trans h.perm,fun i hi=>(k.low i hi).trans (h.low i hi)⟩
theorem eB2{a:Array Keyed}{lo k l:Nat}(nd:ND a)(hs:lo+k<a.size)(h:Asc a lo k)(hl:l≤k)(h1:∀i,i<l→K a (lo+i)≤K a (lo+k))(h2:∀i,l≤i→i<k→K a (lo+k)<K a (lo+i)):Asc (bubble a (lo+k) (lo+k-(lo+l))) lo (k+1):=by
 have hd:lo+k-(lo+l)=k-l:=by lia
 rw[hd]
 have hK:=fun j=>K_bubble (xs:=a) (src:=lo+k) (d:=k-l) hs (by lia) j
 intro i hi
 rw[hK,hK]
 have e:lo+k-(k-l)=lo+l:=by lia
 rw[e]
 by_cases c1:lo+i=lo+l
 · rw[if_pos c1,if_neg (by lia),if_pos (by lia)]
   have:i=l:=by lia
   subst this
   rw[show lo+i+1-1=lo+i by lia]
   exact h2 i (Nat.le_refl _) (by lia)
 · rw[if_neg c1]
   by_cases c2:lo+i+1=lo+l
   · rw[if_pos c2,if_neg (by lia)]
     have:=h1 i (by lia)
     have:=nd.ne (i:=lo+i) (j:=lo+k) (by lia) (by lia) (by lia)
     lia
   · rw[if_neg c2]
     by_cases c3:lo+l<lo+i∧lo+i≤lo+k
     · rw[if_pos c3,if_pos (by lia)]
       have:=h (i-1) (by lia)
       rw[show lo+(i-1)=lo+i-1 by lia,show lo+i-1+1=lo+i by lia]at this
       rw[show lo+i+1-1=lo+i by lia]
       exact this
     · rw[if_neg c3,if_neg (by lia)]
       exact h i (by lia)
section
variable{prog:Program}{w:World}{A:Around}{E:VSP}{s:Shared}
theorem bin_w{st:SortSt}{lo n ok:Nat}{Q:Bool→SortSt→Prop}(hk:kindOf st=oneType')(hf:failedOf st=none)(ha:cI0 (arrOf st))(nd:ND (arrOf st))(h1:1≤ok)(hn:ok≤n)(hs:lo+n≤(arrOf st).size)(h0:Asc (arrOf st) lo ok)
 (h:∀st',Run lo st st'→Asc (arrOf st') lo n→Q true st'):wpS (model prog w) A E s (binarySort' lo n ok) Q st:=by
 unfold binarySort'
 refine wpS_bind (wpS_mono (wpS_forRange (I:=fun k c st'=>c= (none,())∧Run lo st st'∧ok≤k∧k≤n∧Asc (arrOf st') lo k) (Q:=fun c st'=>c= (none,())∧Run lo st st'∧Asc (arrOf st') lo n) ?_ ?_ ⟨rfl,.refl hk hf,by lia,by lia,by rw[Nat.max_eq_left h1];exact h0⟩) ?_)
 · rintro k c st1 _ hx ⟨rfl,hR,g1,g2,g3⟩
   dsimp only
   have hz:=hR.size
   have ha1:=ha.perm hR.perm
   have nd1:=nd.perm hR.perm
   refine wpS_bind (wpS_mono (wpS_forRange (I:=fun x c st'=>st'=st1∧∃l r,c= (none,l,r)∧l≤r∧r≤k∧r-l+x≤k∧(∀i,i<l→K (arrOf st1) (lo+i)≤K (arrOf st1) (lo+k))∧∀i,r≤i→i<k→K (arrOf st1) (lo+k)<K (arrOf st1) (lo+i)) (Q:=fun c st'=>st'=st1∧∃l,c= (none,l,l)∧l≤k∧(∀i,i<l→K (arrOf st1) (lo+i)≤K (arrOf st1) (lo+k))∧∀i,l≤i→i<k→K (arrOf st1) (lo+k)<K (arrOf st1) (lo+i)) ?_ ?_ ⟨rfl,0,k,rfl,by lia,by lia,by lia,fun i hi=>by lia,fun i a b=>by lia⟩) ?_)
   · rintro x c st2 _ hx2 ⟨rfl,l,r,rfl,q1,q2,q3,q4,q5⟩
     dsimp only
     by_cases hl:l≥r
     · rw[if_pos hl]
       have:l=r:=by lia
       subst this
       exact wpS_pure ⟨rfl,l,rfl,q2,q4,q5⟩
     · rw[if_neg hl]
       refine wpS_bind (lt_at hR.kind ha1 (by lia) (by lia) ?_)
       dsimp only
       have hm1:l≤(l+r) / 2:=by lia
       have hm2:(l+r) / 2<r:=by lia
       generalize (l+r) / 2=m at hm1 hm2
       by_cases hlt:K (arrOf st2) (lo+k)<K (arrOf st2) (lo+m)
       · rw[if_pos (decide_eq_true hlt)]
         refine wpS_pure ⟨rfl,l,m,rfl,by lia,by lia,by lia,q4,fun i a b=>?_⟩
         by_cases e:i=m
         ·subst e;exact hlt
         ·exact Int.lt_trans hlt (g3.lt (show m<i by lia) b)
       · rw[if_neg (by simpa using hlt)]
         refine wpS_pure ⟨rfl,m+1,r,rfl,by lia,by lia,by lia,fun i a=>?_,q5⟩
         by_cases e:i=m
         ·subst e;lia
         · have:=g3.lt (show i<m by lia) (by lia)
           lia
   · rintro c st2 ⟨rfl,l,r,rfl,q1,q2,q3,q4,q5⟩
     have:l=r:=by rw[Nat.zero_max]at q3;lia
     subst this
     exact⟨rfl,l,rfl,q2,q4,q5⟩
   · rintro c st2 ⟨rfl,l,rfl,q2,q4,q5⟩
     dsimp only
     refine wpS_bind ?_
     show wpS _ _ _ _ (moveDown' (lo+k) (lo+l)) _ _
     rw[moveDown'_eq]
     refine wpS_modify (wpS_pure ⟨rfl,hR.trans ⟨hR.kind,rfl,hR.fail,bubble_perm _ _ _,fun i hi=>?_⟩,by lia,by lia,eB2 nd1 (by lia) g3 q2 q4 q5⟩)
     show (bubble (arrOf st2) (lo+k) (lo+k-(lo+l)))[i]? =_
     rw[getElem?_bubble (by lia) _ (by lia),if_neg (by lia),if_neg (by lia)]
 · rintro c st1 ⟨rfl,hR,g1,g2,g3⟩
   rw[Nat.max_eq_right (by lia)]at g3
   exact⟨rfl,hR,g3⟩
 · rintro c st1 ⟨rfl,hR,g3⟩
   exact wpS_pure (h st1 hR g3)
end
noncomputable def lay:Nat→List (List Keyed)→List Nat→List (Nat×Nat×Nat)
 |o,r::rs,p::ps=>(o,r.length,p)::lay (o+r.length) rs ps
 |_,_,_=> []
theorem cX4:∀ {rs1:List (List Keyed)} {ps1:List Nat} {rs2:List (List Keyed)} {ps2:List Nat} {o:Nat},rs1.length=ps1.length→lay o (rs1++rs2) (ps1++ps2)=lay o rs1 ps1++lay (o+rs1.flatten.length) rs2 ps2
 |[], [],_,_,o,_=>by simp[lay]
 |[],_::_,_,_,_,h=>by cases h
 |_::_, [],_,_,_,h=>by cases h
 |r::rs1,p::ps1,rs2,ps2,o,h=>by
   show (o,r.length,p)::lay (o+r.length) (rs1++rs2) (ps1++ps2)= (o,r.length,p)::(lay (o+r.length) rs1 ps1++_)
   rw[cX4 (Nat.succ.inj h),List.flatten_cons,List.length_append,Nat.add_assoc]
structure GI(a0:List Keyed)(st:SortSt)(rs:List (List Keyed))(ps:List Nat)(T:List Keyed):Prop where
 kind:kindOf st=oneType'
 fail:failedOf st=none
 arr:(arrOf st).toList=rs.flatten++T
 perm:(arrOf st).toList.Perm a0
 len:rs.length=ps.length
 pend:pendingOf st= (lay 0 rs ps).toArray
 ok:∀r∈rs,0<r.length∧Srt r
section
variable{prog:Program}{w:World}{A:Around}{E:VSP}{s:Shared}
end
theorem GI.re{a0:List Keyed}{st:SortSt}{rs:List (List Keyed)}{ps:List Nat}{T:List Keyed}(g:GI a0 st rs ps T){st':SortSt}(hR:Run rs.flatten.length st st'){n:Nat}(hn:rs.flatten.length+n≤(arrOf st').size):GI a0 st' rs ps ((((arrOf st').toList.drop rs.flatten.length).take n)++(arrOf st').toList.drop (rs.flatten.length+n)):=by
 refine⟨hR.kind,hR.fail,?_,?_,g.len,hR.pend.trans g.pend,g.ok⟩
 · have e1:(arrOf st').toList.take rs.flatten.length=rs.flatten:=by
    have:(arrOf st).toList.take rs.flatten.length=rs.flatten:=by rw[g.arr,List.take_left]
    rw[←this]
    apply List.ext_getElem?
    intro i
    by_cases hi:i<rs.flatten.length
    · rw[List.getElem?_take_of_lt (by rw[this];exact hi),List.getElem?_take_of_lt hi,Array.getElem?_toList,Array.getElem?_toList]
      exact hR.low i hi
    · have hz:=hR.size
      rw[List.getElem?_eq_none (by rw[List.length_take,this];lia),List.getElem?_eq_none (by rw[List.length_take];lia)]
   conv=>lhs;rw[←List.take_append_drop rs.flatten.length (arrOf st').toList,e1]
   rw[←List.drop_drop,List.take_append_drop]
 ·exact(Array.perm_iff_toList_perm.mp hR.perm).trans g.perm
theorem GI.push{a0:List Keyed}{st:SortSt}{rs:List (List Keyed)}{ps:List Nat}{C T:List Keyed}{lo n:Nat}(g:GI a0 st rs ps (C++T))(hC:0<C.length)(sC:Srt C)(e:rs.flatten.length=lo)(en:C.length=n):GI a0 (setPending st ((pendingOf st).push (lo,n,0))) (rs++[C]) (ps++[0]) T:=by
 refine⟨g.kind,g.fail,?_,g.perm,by rw[List.length_append,List.length_append,g.len];rfl,?_,fun r hr=>?_⟩
 · show (arrOf st).toList=_
   rw[g.arr];simp
 · show (pendingOf st).push (lo,n,0)=_
   rw[g.pend,cX4 g.len,List.push_toArray,Nat.zero_add,e]
   subst en
   rfl
 · rcases List.mem_append.mp hr with hr|hr
   ·exact g.ok r hr
   ·rw[List.mem_singleton.mp hr];exact⟨hC,sC⟩
section
variable{prog:Program}{w:World}{A:Around}{E:VSP}{s:Shared}
end
section
variable{prog:Program}{w:World}{A:Around}{E:VSP}{s:Shared}
end
end TS
namespace DL
open PySem PySem.Spec L2
open PyProof.Rows hiding St
section
variable{prog:Program}{w:World}{A:Around}{E:VSP}{s:Shared}{T:String}{r d:Addr}{n:Nat}{P:Nat→Value→Prop}{OK:Heap→Prop}{Q:VSP}
end
section
variable{X:Cx}{Z:XC}{c:Wc}{μ:List Addr}{H:Hp}{G:DH}
end
section
variable{prog:Program}{w:World}{A:Around}{E:VSP}
end
section
variable{prog:Program}{w:World}{A:Around}{E:VSP}
end
section
variable{X:Cx}{Z:XC}{c:Wc}{μ:List Addr}{H:Hp}{G:DH}
end
section
variable{X:Cx}{Z:XC}{e:Expr}{fe:Fe}{p pn kp pos:Pos}{j:_}
end
structure cR0(X:Cx)(e:Expr)(k:Int):Prop where
 h:PE X e (tC (.int k))
section
variable{X:Cx}{Z:XC}{pos:Pos}{e f:Expr}{i j k:Int}
theorem eV9{m pos}:cR0 X (.Constant (.int i) m pos) i:=⟨cU9⟩
theorem eW5(he:cR0 X e i)(hf:cR0 X f j)(hc:dG0 i j)(hk:i ^ j.toNat=k):cR0 X (.BinOp e .Pow f pos) k:=⟨by
 subst hk
 exact PE.mono (dS2 dN7 he.h hf.h) fun σ H Q q=>⟨i,j,rfl,rfl,hc,q⟩⟩
theorem eN1(he:cR0 X e i)(hf:cR0 X f j)(hk:i-j=k):cR0 X (.BinOp e .Sub f pos) k:=⟨by
 subst hk
 exact PE.mono (dS2 dV5 he.h hf.h) fun σ H Q q=>⟨i,j,rfl,rfl,q⟩⟩
end
end DL
namespace DL
open PySem PySem.W
open PyProof.Rows hiding St
structure WO(lt:Nat→Nat→Bool):Prop where
 tr:∀i j k,lt j i=false→lt k j=false→lt k i=false
 as:∀i j,lt i j=true→lt j i=false
section
variable{lt:Nat→Nat→Bool}{n:Nat}{p:Array Nat}
noncomputable def eR3{α:Type}(lt:Nat→Nat→Bool):KasT α→α
 | .ret a=>a
 | .ask i j k=>eR3 lt (k (lt i j))
theorem tOk.run{α:Type}{Q:α→Prop}:∀(t:KasT α),tOk lt n t Q→tOk lt n t (fun a=>a=eR3 lt t∧Q a)
 | .ret a,h=>⟨rfl,h⟩
 | .ask i j k,h=>⟨h.1,h.2.1,tOk.run (k (lt i j)) h.2.2⟩
theorem tOk.is{α:Type}{Q:α→Prop}:∀(t:KasT α),tOk lt n t Q→Q (eR3 lt t)
 | .ret a,h=>h
 | .ask i j k,h=>tOk.is (k (lt i j)) h.2.2
end
end DL
namespace DL
open PySem PySem.Spec L2
open PyProof.Rows hiding St
section
variable{X:Cx}{pins:PNS}{σ:St}{H:Hp}{s:Shared}
end
section
variable{prog:Program}{w:World}{A:Around}{E:VSP}{s:Shared}{C:Bool→Shared→Prop}
end
section
variable{X:Cx}{Z:XC}{pins:PNS}{σ:St}{H:Hp}{s:Shared}{F:List D→M D}{k:Nat}{f:Addr}{fd:FuncData}{ps:List Str}{μ:List Addr}{G:DH}
end
section
variable{X:Cx}{Z:XC}{e:Expr}{fe:Fe}{p pf kp pos:Pos}{x:Str}{F:List D→M D}
end
section
variable{prog:Program}{w:World}{A:Around}{E:VSP}{s:Shared}
theorem cB4{it t:Addr}{items:Array Value}(hne:t≠it):∀(n i:Nat) (s:Shared) (Q:List Value→Shared→Prop),s.heap.IsListIter it t i→s.heap.IsList t items→i+n≤items.size→
 (∀h':Heap,h'.IsListIter it t (i+n)→Heap.SameBut it s.heap h'→Q ((items.toList.drop i).take n) {s with heap:=h'})→wpAny (model prog w) A (draw (.ref it) n) Q E s
 |0,i,s,Q,hit,_,_,hQ=>by
   show wpAny _ _ (pure []) Q E s
   exact wpAny_pure (by simpa using hQ s.heap hit (Heap.SameBut.refl ..))
 |n+1,i,s,Q,hit,ht,hle,hQ=>by
   have hlt:i<items.size:=by lia
   show wpAny _ _ (pyNext (.ref it) >>= _) Q E s
   refine wpAny_bind (wpAny_pyNext_list_item hit ht (x:=items[i]) (by simp[hlt]) fun h₁ hit₁ hs₁=>?_)
   refine wpAny_bind (wpAny_holding (cB4 hne n (i+1) _ _ hit₁ (ht.extBut hs₁.extBut hne) (by lia) fun h₂ hit₂ hs₂=>wpAny_pure ?_))
   have hd:items.toList.drop i=items[i]::items.toList.drop (i+1):=by simp[List.drop_eq_getElem_cons,hlt]
   have:=hQ h₂ (by rw[show i+(n+1)=i+1+n by lia];exact hit₂) (hs₁.trans hs₂)
   rw[hd,List.take_succ_cons]at this
   exact this
theorem bG3{t:Addr}{items:Array Value}{Q:List Value→Shared→Prop}(hh:A.handled=none)(ht:s.heap.IsList t items)
 (hQ:∀h',Heap.ExtBut s.heap.objs.size s.heap h'→Q items.toList {s with heap:=h'}):wpAny (model prog w) A (unpackItems (.ref t) items.size none) Q E s:=by
 have hlt:t≠s.heap.objs.size:=by obtain⟨o,ho,_⟩:=ht;exact Nat.ne_of_lt (Heap.lt_size ho)
 unfold unpackItems
 refine wpAny_bind ?_
 unfold notIterableAtAll
 refine wpAny_bind (wpAny_specialOf ht.typeIs slot_list_iter.lookup ?_)
 refine wpAny_pure ?_
 simp only[Bool.false_eq_true,if_false]
 refine wpAny_bind (wpAny_holding (wpAny_pyIter_list ht ?_))
 refine wpAny_bind (wpAny_holding (cB4 hlt items.size 0 _ _ ⟨_,Heap.get?_push_size _ rfl,rfl,rfl⟩ (ht.push _) (by lia) fun h₁ hit₁ hs₁=>?_))
 have hall:List.take items.size (List.drop 0 items.toList)=items.toList:=by
  rw[List.drop_zero];exact List.take_of_length_le (by simp)
 rw[hall]
 rw[if_neg (by simp)]
 have ht₁:h₁.IsList t items:=(ht.push _).extBut hs₁.extBut hlt
 refine wpAny_bind (wpAny_holding (wpAny_pyNext_list_end hh hit₁ ht₁ (by simp) fun h₂ he₂=>?_))
 simp only[Option.isSome_none,Bool.false_eq_true,if_false]
 refine wpAny_pure (hQ h₂ fun b o hb e=>he₂ b o hb (hs₁.extBut b o hb (Heap.get?_push_of_some _ e)))
theorem bD4{env:Env}{elts:List Expr}{x1}{pos:Pos}{t:Addr}{items:Array Value}{Q:Unit→Shared→Prop}(hh:A.handled=none)(ht:s.heap.IsList t items)
 (hn:(assignEach elts env).length=items.size) (hstar:(assignEach elts env).findIdx? (·.1)=none)
 (h:∀h',Heap.ExtBut s.heap.objs.size s.heap h'→wpAny (model prog w) A (assignInOrder ((assignEach elts env).map (·.2)) items.toList) Q E {s with heap:=h'}):
 wpAny (model prog w) A (assign (.Tuple elts x1 pos) env (.ref t)) Q E s:=by
 rw[assign_Tuple]
 refine wpAny_bind (wpAny_standAt ?_)
 unfold unpack
 rw[hn,hstar]
 exact wpAny_bind (wpAny_holding (bG3 hh ht h))
end
def eF7(n:Nat)(g:Fgs):Fg:=fun d σ=>match d with
 | .ref r=>do
   let l ←R4 r >>= listOf
   if l.length=n then g l σ else M.stuck
 |_=>M.stuck
section
variable{X:Cx}{Z:XC}{es:List Expr}{pos:Pos}
theorem eM2{gs:Fgs}{k n:Nat}(hc:X.calm=true)(h:DGs X Z es gs)(hn:(assignEach es X.env).length=n)(hst:(assignEach es X.env).findIdx? (·.1)=none):DG X Z (.Tuple es k pos) (eF7 n gs):=⟨by
 intro pins s σ H v u Q I r hw
 obtain⟨d,dσ,μ,G,rd,sr,hr,p⟩:=hw
 rcases d with _|_|_|_|_|i|_|_<;>try exact p.elim
 obtain⟨l,a,vs,rfl,rl,q,p'⟩:=aB7 (f:=fun l=>if l.length=n then gs l dσ else M.stuck) hr rd p
 split at p'
 case isFalse=>exact p'.elim
 rename_i hl
 cases r
 obtain⟨its,rv,pl,hz⟩:=I.list q
 have hv:vs.length=n:=by rw[←rl.length];exact hl
 refine bD4 (I.ok.hd hc) pl.isList (by simp[hn,←hv,rv.length]) hst fun h' hx=>?_
 have I1:Inv X pins σ H {s with heap:=h'}:=I.kept (t':=s.toks) fun b o e=>hx b o (Nat.ne_of_lt (Heap.lt_size e)) e
 exact h.h pins _ σ H vs _ Q I1 (by simpa using rv) ⟨l,dσ,μ,G,rl,sr,hr,p'⟩⟩
end
section
variable{X:Cx}{Z:XC}
end
def cV6:Fs:=fun _=>M.stuck
section
variable{X:Cx}{Z:XC}
theorem dO1{st:Stmt}:DS X Z st cV6:=⟨by
 intro pins s σ H E I hE0
 obtain⟨dσ,μ,G,sr,hr,p⟩:=hE0
 exact p.elim⟩
end
section
variable{prog:Program}{w:World}{A:Around}{E:VSP}{s:Shared}
end
section
variable{prog:Program}{w:World}{A:Around}{E:VSP}{s:Shared}
end
section
variable{prog:Program}{w:World}{A:Around}{E:VSP}{s:Shared}
end
section
variable{X:Cx}{Z:XC}{c:Wc}{μ:List Addr}{H:Hp}{G:DH}
end
section
variable{X:Cx}{Z:XC}{ea eb:Expr}{fa fb:Fe}{p p1 p2 q1 q2 q3 pos:Pos}
end
noncomputable def eM7(A:Around)(s:Shared)(y x:Value)(b:Bool):Prop:=
 ∀(prog:Program) (w:World) (E:VSP) (Q:VSP),Q (.bool b) s→wpAny (model prog w) A (richCompare .GtE y x) Q E s
inductive GeR(A:Around)(s:Shared):List Value→List Value→Bool→Prop
 |nil:GeR A s [] [] true
 |eq {x y xs ys b}:SeqAt.EqAt A s x y true→GeR A s xs ys b→GeR A s (x::xs) (y::ys) b
 |ne {x y xs ys b}:SeqAt.EqAt A s x y false→eM7 A s x y b→GeR A s (x::xs) (y::ys) b
section
open PySem.SeqAt
open PySem.AutoSeq1 (wpAny_loadPart')
open PySem.MeetsSeq PySem.MeetsSeq2 PySem.MeetsSeq3
end
section
variable{X:Cx}{Z:XC}
end
section
variable{X:Cx}{Z:XC}
end
def eZ3(c:Wc)(μ:List Addr)(H:Hp)(acc:Option (D×D))(old:Array Value):Prop:=match acc with
 |none=>old= #[]
 |some b=>∃v vk u uk,d9 c μ H b.1 v∧J6 v u∧d9 c μ H b.2 vk∧J6 vk uk∧old= #[u,uk]
theorem eZ3.mono{c:Wc}{μ μ':List Addr}{H H':Hp}{acc:Option (D×D)}{old:Array Value}(x:Ext μ H μ' H')(h:eZ3 c μ H acc old):eZ3 c μ' H' acc old:=by
 rcases acc with _|b
 ·exact h
 · obtain⟨v,vk,u,uk,a1,a2,a3,a4,a5⟩:=h
   exact⟨v,vk,u,uk,a1.mono x,a2,a3.mono x,a4,a5⟩
section
variable{X:Cx}{Z:XC}{pins:PNS}{σ:St}{k:Nat}{f:Addr}{fd:FuncData}{ps:List Str}{F:List D→M D}{A:Around}
end
section
variable{X:Cx}{Z:XC}{F:List D→M D}{x:Str}{e:Expr}{fe:Fe}{p pf kp pos:Pos}
end
section
variable{prog:Program}{w:World}{A:Around}{E:VSP}{s:Shared}{K:Type}[DecidableEq K]{knd:KeyKind prog w K}
end
section
variable{X:Cx}{Z:XC}{ea:Expr}{fa:Fe}{p q1 ap pos:Pos}
end
section
variable{X:Cx}{pins:PNS}{σ:St}{H:Hp}{s:Shared}
end
section
variable{prog:Program}{w:World}{A:Around}{E:VSP}{s:Shared}{C:Bool→Shared→Prop}
end
section
variable{X:Cx}{Z:XC}{pins:PNS}{σ:St}{H:Hp}{s:Shared}{F:List D→M D}{k:Nat}{f:Addr}{fd:FuncData}{ps:List Str}{μ:List Addr}{G:DH}
end
section
variable{X:Cx}{Z:XC}{e:Expr}{fe:Fe}{p pf kp pos:Pos}{x:Str}{F:List D→M D}
end
inductive CdE(w:World)(K:PySem.W.Frag)(mg:Str→Option Value):List DictEntry→List (Str×D)→Prop
 |nil:CdE w K mg [] []
 |cons {z:Str} {t:Tok} {u:Value} {d:D} {es:List DictEntry} {tb:List (Str×D)} (h:CR K mg d u) (r:CdE w K mg es tb):CdE w K mg ({hash:=PyData.keyHash w.params z,key:=.str z t,val:=u}::es) ((z,d)::tb)
structure eV6(w:World)(K:PySem.W.Frag)(mg:Str→Option Value)(x:Str)(tb:List (Str×D)):Prop where
 ex:∃a es n,mg x=some (.ref a)∧K.lookup a=some ⟨.type "dict",none,.dict (List.toArray es) n, #[]⟩∧CdE w K mg es tb
 nd:(tb.map (·.1)).Nodup
noncomputable def aO1:List (Str×D)→Str→Option D
 |[],_=>none
 |(y,d)::r,z=>if y=z then some d else aO1 r z
def ixC(x:Str)(tb:List (Str×D)):D→D→M D:=fun a b=>match a,b with
 | .fn y,.str z=>if y=x then aK1 (aO1 tb z)else M.stuck
 |_,_=>M.stuck
theorem CdE.kv{P:Program}{w:World}{K:PySem.W.Frag}{mg:Str→Option Value}{es:List DictEntry}{tb:List (Str×D)}(h:CdE w K mg es tb):∃kvs:List (Key×Value),Pairs (M3 P w) es kvs∧(∀e∈es,∃k,(M3 P w).is k e.key=true∧e.hash= (M3 P w).hash k)∧kvs.map (·.1)=tb.map (fun p=>(.inr p.1:Key))∧∀z d,aO1 tb z=some d→∃u,valueAt kvs (.inr z)=some u∧CR K mg d u:=by
 induction h with
 |nil=>exact⟨[],.nil,fun _ h=>(nomatch h),rfl,fun _ _ h=>by cases h⟩
 |@cons z t u d es tb h r ih=>
   obtain⟨kvs,h1,h2,h3,h4⟩:=ih
   refine⟨(.inr z,u)::kvs,.cons (bH3 z t) rfl h1,fun e he=>?_,by rw[List.map_cons,List.map_cons,h3],fun y d' e=>?_⟩
   · rcases List.mem_cons.mp he with rfl|he
     ·exact⟨.inr z,bH3 z t,rfl⟩
     ·exact h2 e he
   · unfold aO1 at e
     by_cases c:z=y
     · rw[if_pos c]at e
       cases e
       refine⟨u,?_,h⟩
       subst c
       simp[valueAt]
     · rw[if_neg c]at e
       obtain⟨u',e1,e2⟩:=h4 y d' e
       refine⟨u',?_,e2⟩
       have:¬(Sum.inr z:Key)=Sum.inr y:=fun q=>c (Sum.inr.inj q)
       simp only[valueAt,List.find?_cons,this,decide_false]at e1 ⊢
       exact e1
section
variable{X:Cx}{Z:XC}{b:Expr}{fb:Fe}{x:Str}{tb:List (Str×D)}{p pos:Pos}
theorem eM9(hc:eV6 X.w X.K X.mg x tb):IxD X Z (ixC x tb):=by
 intro value slice pins s σ H vx vy v u Q I rx ry h hs
 obtain⟨dx,dy,μ,G,rdx,rdy,hr,pp⟩:=h
 unfold ixC at pp
 split at pp
 · rename_i y z
   split at pp
   · rename_i e
     subst e
     obtain⟨d,ed,k⟩:=bT5 hr pp
     unfold d9 at rdx
     obtain⟨a',em,rfl⟩:=rdx
     obtain⟨a,es,n,hm,hl,ce⟩:=hc.ex
     have ea:a'=a:=by
      have:=em.symm.trans hm
      injection this with this;injection this
     subst ea
     obtain⟨kvs,h1,h2,h3,h4⟩:=ce.kv (P:=X.prog)
     obtain⟨w',e1,v',rv',rp⟩:=h4 z d ed
     cases rx
     have dd:s.heap.DictOf (M3 X.prog X.w) a' kvs:=⟨_,_,_,I.kIn _ _ hl,⟨rfl,rfl,rfl⟩,rfl,fun e he=>h2 e (by simpa using he),by simpa using h1,by
      rw[h3]
      have:tb.map (fun p=>(.inr p.1:Key))= (tb.map (·.1)).map Sum.inr:=by rw[List.map_map];rfl
      rw[this]
      exact List.Pairwise.map Sum.inr (fun a b h e=>h (Sum.inr.inj e)) hc.nd⟩
     rw[aV6 rdy]at ry
     exact subscriptTail_builtinR (x:=w') dd.typeIs PySem.F.slot_dict_getitem.lookup (wpAny_getItem_of (Q:=fun r s'=>r=w'∧EP X pins σ Q r s') (bS8 (k:=.inr z) ry) dd.mapOf e1 ⟨rfl,v',H,I.tok _,rv',k v' (rp μ H)⟩) hs
   ·exact pp.elim
 ·exact pp.elim
theorem eU0(hc:eV6 X.w X.K X.mg x tb)(hg:Gl X x)(hdb:(x==("__debug__" :Str))=false)(hb:DE X Z b fb)(hs:bM6 b):DE X Z (.Subscript (.Name x p) b pos) (d7 (ixC x tb) (cE (.fn x)) fb):=
 dQ8 (eM9 hc) ⟨by
  intro pins s σ H Q I h
  obtain⟨a,_,_,hm,_,_⟩:=hc.ex
  obtain⟨dσ,μ,G,sr,hr,pp⟩:=h
  exact bN5 I hg hm ⟨.ref a,H,I,rfl,d8.ok pp hr _ ⟨a,hm,rfl⟩⟩ hdb⟩ hb hs
end
mutual
noncomputable def pyD:D→PyData
 | .non=>.none
 | .bl b=>.bool b
 | .int i=>.int i
 | .str x=>.str x
 | .tup l=>.tuple (pyL l)
 | .ref _=>.none
 | .fn _=>.none
 | .ty _=>.none
noncomputable def pyL:List D→List PyData
 |[]=> []
 |d::r=>pyD d::pyL r
end
mutual
noncomputable def cH8:D→Bool
 | .non=>true
 | .bl _=>true
 | .int _=>true
 | .str _=>true
 | .tup l=>bU7 l
 | .ref _=>false
 | .fn _=>false
 | .ty _=>false
noncomputable def bU7:List D→Bool
 |[]=>true
 |d::r=>cH8 d&&bU7 r
end
mutual
theorem eJ9:∀d:D,(pyD d).hasDict=false
 | .non=>rfl
 | .bl _=>rfl
 | .int _=>rfl
 | .str _=>rfl
 | .tup l=>by unfold pyD;exact eJ8 l
 | .ref _=>rfl
 | .fn _=>rfl
 | .ty _=>rfl
theorem eJ8:∀l:List D,PyData.hasDictAll (pyL l)=false
 |[]=>rfl
 |d::r=>by unfold pyL;show ((pyD d).hasDict||PyData.hasDictAll (pyL r))=false;rw[eJ9 d,eJ8 r];rfl
end
section
variable{X:Cx}{Z:XC}{pins:PNS}{σ:St}{H:Hp}{s:Shared}
theorem dD2{a:Addr}{vs:List V}(I:Inv X pins σ H s)(q:SqT X.K H a vs):∃o its n,s.heap.get? a=some o∧o.cls= .type "tuple"∧o.data= .seq its n∧w6 vs its.toList:=by
 rcases q with q|⟨o,its,n,hl,hc,hd,_,hv⟩
 · obtain⟨_,its,hv,o,e,c,n,d⟩:=(show V1 X.prog X.w H s.heap a (.tup vs)from dS5 I.hok q)
   exact⟨o,its.toArray,n,e,c,(Prod.mk.inj d).1,by simpa using hv⟩
 ·exact⟨o,its,n,I.kIn _ _ hl,hc,(Prod.mk.inj hd).1,hv⟩
mutual
theorem fF4(I:Inv X pins σ H s){μ:List Addr}:∀(d:D) {v:V} {u:Value},cH8 d=true→d9 (wc X) μ H d v→J6 v u→∃as,Reads s.heap u (pyD d) as
 | .non,v,u,_,r,q=>by unfold d9 at r;subst r;cases q;exact⟨_,.none⟩
 | .bl b,v,u,_,r,q=>by unfold d9 at r;subst r;cases q;exact⟨_,.bool b⟩
 | .int i,v,u,_,r,q=>by unfold d9 at r;subst r;obtain⟨t,rfl⟩:=q;exact⟨_,.int i t⟩
 | .str x,v,u,_,r,q=>by unfold d9 at r;subst r;obtain⟨t,rfl⟩:=q;exact⟨_,.str x t⟩
 | .tup l,v,u,hd,r,q=>by
   unfold d9 at r
   obtain⟨a,vs,rfl,sq,rl⟩:=r
   cases q
   obtain⟨o,its,n,e,c,d,hv⟩:=dD2 I sq
   obtain⟨as,ra⟩:=fJ0 I l (by unfold cH8 at hd;exact hd) rl hv
   unfold pyD
   exact⟨as,.tuple e c d ra⟩
 | .ref _,v,u,hd,_,_=>by unfold cH8 at hd;cases hd
 | .fn _,v,u,hd,_,_=>by unfold cH8 at hd;cases hd
 | .ty _,v,u,hd,_,_=>by unfold cH8 at hd;cases hd
theorem fJ0(I:Inv X pins σ H s){μ:List Addr}:∀(l:List D) {vs:List V} {us:List Value},bU7 l=true→o9 (wc X) μ H l vs→w6 vs us→∃as,ReadsAll s.heap us (pyL l) as
 |[],vs,us,_,r,q=>by unfold o9 at r;subst r;cases q;exact⟨_,.nil⟩
 |d::l,vs,us,hd,r,q=>by
   unfold o9 at r
   obtain⟨v,r',rfl,r1,r2⟩:=r
   unfold bU7 at hd
   rw[Bool.and_eq_true]at hd
   cases q with
   |cons q1 q2=>
     obtain⟨as,h1⟩:=fF4 I d hd.1 r1 q1
     obtain⟨bs,h2⟩:=fJ0 I l hd.2 r2 q2
     unfold pyL
     exact⟨_,.cons h1 h2⟩
end
end
def cS7:List D→M D:=fun ds=>match ds with
 |[.tup l]=>if bU7 l=true∧(pyD (.tup l)).showable=true∧(pyD (.tup l)).depth≤60∧(pyD (.tup l)).shown.length≤sizeLine then pure (.str (pyD (.tup l)).shown)else M.stuck
 |_=>M.stuck
section
variable{X:Cx}{Z:XC}
theorem eG4(hu:X.A.units+64<cLine):aA4 X Z (.type "str") cS7:=⟨by
 intro pins s σ H xs us Q I r hE0
 obtain⟨ds,μ,G,rl,hr,p⟩:=hE0
 rcases ds with _|⟨_|_|_|_|l|_|_|_,_|⟨_,_⟩⟩<;>try exact p.elim
 obtain⟨v,rfl,rv⟩:=aS1 rl
 obtain⟨u,rfl,ru⟩:=aE7 r
 have p:d8 (wc X) Z μ H ((if bU7 l=true∧(pyD (.tup l)).showable=true∧(pyD (.tup l)).depth≤60∧(pyD (.tup l)).shown.length≤sizeLine then pure (.str (pyD (.tup l)).shown)else M.stuck:M D) G) _:=p
 split at p
 case isFalse=>exact p.elim
 rename_i hc
 obtain⟨as,rd⟩:=fF4 I (.tup l) (by unfold cH8;exact hc.1) rv ru
 unfold d9 at rv
 obtain⟨a,vs,rfl,_,_⟩:=rv
 cases ru
 exact str_of_reads rd hc.2.1 (fun h=>by rw[eJ9]at h;cases h) I.ok.gd (by have:=hc.2.2.1;lia) (fun _ _ e=>e) (fun h' u' tk hk=>⟨.str (pyD (.tup l)).shown,H,I.kept hk,⟨_,rfl⟩,d8.ok p hr _ (by unfold d9;rfl)⟩) hc.2.2.2⟩
theorem eB0(hu:X.A.units+64<cLine)(_:X.calm=true):BD cS7 "str" X Z:=⟨.inr ⟨_,eG4 hu,eY3⟩⟩
end
end DL
namespace W
open PySem PySem.Spec L2 DL
open PyProof.Rows hiding St
theorem dX3{l:List D}{G:DH}{Q:DPP}(h:bU7 l=true∧(pyD (.tup l)).showable=true∧(pyD (.tup l)).depth≤60∧(pyD (.tup l)).shown.length≤sizeLine)(q:Q (.str (pyD (.tup l)).shown) G):Wp (cS7 [.tup l]) G Q:=by
 have e:cS7 [.tup l]= (if bU7 l=true∧(pyD (.tup l)).showable=true∧(pyD (.tup l)).depth≤60∧(pyD (.tup l)).shown.length≤sizeLine then pure (.str (pyD (.tup l)).shown)else M.stuck:M D):=rfl
 rw[e,if_pos h]
 exact j9.mpr q
theorem eP7{x z:Str}{tb:List (Str×D)}{d:D}{G:DH}{Q:DPP}(h:aO1 tb z=some d)(q:Q d G):Wp (ixC x tb (.fn x) (.str z)) G Q:=by
 have e:ixC x tb (.fn x) (.str z)= (if x=x then aK1 (aO1 tb z)else M.stuck:M D):=rfl
 rw[e,if_pos rfl,h]
 exact⟨_,_,rfl,q⟩
def R5:List (Str×D):= [("number",.tup [.tup [.tup [.non,.non]],.tup [.str ("of" :Str),.tup []],.tup [],.non,.non]),("text",.tup [.tup [],.tup [.str ("but" :Str),.tup []],.tup [],.non,.non]),("truth",.tup [.tup [],.tup [.str ("of" :Str),.tup []],.tup [.bl false,.bl true],.non,.non]),("list",.tup [.tup [],.tup [.str ("of" :Str),.tup []],.tup [],.tup [.tup [],.str ("any" :Str)],.non]),("record",.tup [.tup [],.tup [.str ("of" :Str),.tup []],.tup [],.non,.tup [.tup [],.str ("any" :Str)]])]
def aU2:Fs:=o4 (N7 (cE (.int 0)) (q13 3)) (o4 (ifS (J2 (d7 neD (c7 0) (aA6 (q11)))) (N7 (d7 bW6 (q12 dE5 (q10 (c7 0) (q11))) (cE (.int 2))) (q13 3)) (t7)) (o7 (aA6 (q10 (c7 1) (q10 (d7 bW6 (d7 bH6 (d7 V7 (d7 V7 (d7 bW6 (c7 1) (cE (.int 2147483629))) (d7 bH6 (cE (.int 7919)) (c7 2))) (cE (.int 1))) (cE (.int 48271))) (cE (.int 2147483647))) (q10 (c7 3) (q10 (cE (.int 0)) (q11))))))))
def aG9:List D→M D:=t8 4 aU2
def aT2:Fs:=o4 (ifS (J2 (d7 eqD (d7 ixD (c7 0) (cE (.int 2))) (cE (.int 0)))) (o4 (N7 (d7 bW6 (d7 ixD (c7 0) (cE (.int 0))) (c7 1)) (q13 2)) (o4 (N7 (d7 bZ3 (d7 ixD (c7 0) (cE (.int 0))) (c7 1)) (bO7 (c7 0) (cE (.int 0)))) (o7 (c7 2)))) (t7)) (o4 (N7 (d7 V7 (d7 bW6 (d7 bH6 (d7 ixD (c7 0) (cE (.int 1))) (d7 ixD (c7 0) (cE (.int 1)))) (cE (.int 2147483629))) (cE (.int 3))) (bO7 (c7 0) (cE (.int 1)))) (o7 (d7 bW6 (d7 bZ3 (d7 bW6 (d7 bH6 (d7 ixD (c7 0) (cE (.int 1))) (cE (.int 69621))) (cE (.int 2147483563))) (cE (.int 8))) (c7 1))))
def j8:List D→M D:=t8 3 aT2
def aM2:Fs:=o4 (ifS (J2 (d7 eqD (q12 (fnX 2 j8) (q10 (c7 0) (q10 (cE (.int 3)) (q11)))) (cE (.int 1)))) (o7 (d7 bV5 (q12 (fnX 2 j8) (q10 (c7 0) (q10 (d7 V7 (d7 bH6 (cE (.int 2)) (d7 dK9 (cE (.int 10)) (cE (.int 18)))) (cE (.int 1))) (q11)))) (d7 dK9 (cE (.int 10)) (cE (.int 18))))) (t7)) (o7 (d7 ixD (aA6 (q10 (cE (.int 0)) (q10 (cE (.int 1)) (q10 (unE cQ9 (cE (.int 1))) (q10 (cE (.int 2)) (q10 (unE cQ9 (cE (.int 2))) (q10 (cE (.int 3)) (q10 (cE (.int 10)) (q10 (unE cQ9 (cE (.int 10))) (q10 (d7 dK9 (cE (.int 10)) (cE (.int 18))) (q10 (d7 bV5 (cE (.int 0)) (d7 dK9 (cE (.int 10)) (cE (.int 18)))) (q11)))))))))))) (q12 (fnX 2 j8) (q10 (c7 0) (q10 (cE (.int 10)) (q11))))))
def Q0:List D→M D:=t8 1 aM2
def LT:Fs:=(N7 (d7 V7 (c7 3) (d7 ixD (cE (.str ("abcdefghijklmnopqrstuvwxyz" :Str))) (q12 (fnX 2 j8) (q10 (c7 0) (q10 (cE (.int 26)) (q11)))))) (q13 3))
def aF1:Fs:=o4 (N7 (cE (.str ("" :Str))) (q13 3)) (o4 (bK7 (aD9 (q10 (d7 V7 (c7 1) (q12 (fnX 2 j8) (q10 (c7 0) (q10 (d7 V7 (d7 bV5 (c7 2) (c7 1)) (cE (.int 1))) (q11))))) (q11))) (q13 4) LT) (o7 (c7 3)))
def T3:List D→M D:=t8 5 aF1
def aS5:Fs:=o4 (ifS (J2 (d7 eqD (q12 (fnX 2 j8) (q10 (c7 0) (q10 (cE (.int 3)) (q11)))) (cE (.int 1)))) (o7 (q12 (fnX 3 T3) (q10 (c7 0) (q10 (cE (.int 0)) (q10 (cE (.int 20)) (q11)))))) (t7)) (o7 (d7 ixD (aA6 (q10 (cE (.str ("" :Str))) (q10 (cE (.str ("a" :Str))) (q10 (cE (.str ("b" :Str))) (q10 (cE (.str ("aa" :Str))) (q10 (cE (.str ("ab" :Str))) (q10 (cE (.str ("ba" :Str))) (q10 (cE (.str ("abc" :Str))) (q10 (cE (.str ("z" :Str))) (q10 (cE (.str ("true" :Str))) (q10 (d7 bH6 (cE (.str ("z" :Str))) (cE (.int 20))) (q11)))))))))))) (q12 (fnX 2 j8) (q10 (c7 0) (q10 (cE (.int 10)) (q11))))))
def Z3:List D→M D:=t8 1 aS5
def NB:Fs:=(o4 (N7 (d7 ixD (aA6 (q10 (cE (.str ("a" :Str))) (q10 (cE (.str ("b" :Str))) (q10 (cE (.str ("ab" :Str))) (q10 (cE (.str ("ba" :Str))) (q10 (cE (.str ("abc" :Str))) (q10 (cE (.str ("z" :Str))) (q10 (cE (.str ("zz" :Str))) (q10 (cE (.str ("zzzzzzzz" :Str))) (q11)))))))))) (q12 (fnX 2 j8) (q10 (c7 0) (q10 (cE (.int 8)) (q11))))) (q13 3)) (o4 (ifS (J2 (d7 eqD (q12 (fnX 2 j8) (q10 (c7 0) (q10 (cE (.int 3)) (q11)))) (cE (.int 1)))) (N7 (q12 (fnX 3 T3) (q10 (c7 0) (q10 (cE (.int 1)) (q10 (cE (.int 8)) (q11))))) (q13 3)) (t7)) (N7 (cE (.bl true)) (bO7 (c7 1) (c7 3)))))
def aI0:Fs:=o4 (N7 (bP7) (q13 1)) (o4 (bK7 (aD9 (q10 (q12 (fnX 2 j8) (q10 (c7 0) (q10 (d7 ixD (aA6 (q10 (cE (.int 4)) (q10 (cE (.int 9)) (q11)))) (q12 (fnX 2 j8) (q10 (c7 0) (q10 (cE (.int 2)) (q11))))) (q11)))) (q11))) (q13 2) NB) (o7 (q12 aP1 (q10 (c7 1) (q11)))))
def W4:List D→M D:=t8 4 aI0
def VA(R:List D→M D):Fs:=(o4 (ifS (J2 (d7 eqD (c7 2) (cE (.int 6)))) (o4 (N7 (q12 (fnX 2 j8) (q10 (c7 0) (q10 (d7 ixD (aA6 (q10 (cE (.int 4)) (q10 (cE (.int 9)) (q11)))) (q12 (fnX 2 j8) (q10 (c7 0) (q10 (cE (.int 2)) (q11))))) (q11)))) (q13 3)) (o7 (J4 (q10 (cE (.str ("list" :Str))) (q10 (q12 aF9 (q10 (M8 (aD9 (q10 (c7 3) (q11))) [none,some 1,some 0] (q13 0) (N6) (q12 (fnX 2 R) (q10 (c7 2) (q10 (d7 bV5 (c7 1) (cE (.int 1))) (q11))))) (q11))) (q11)))))) (t7)) (o7 (J4 (q10 (cE (.str ("record" :Str))) (q10 (q12 aF9 (q10 (M8 (itW (q12 (fnX 1 W4) (q10 (c7 0) (q11)))) [none,some 1,some 0] (q13 0) (N6) (J4 (q10 (c7 0) (q10 (q12 (fnX 2 R) (q10 (c7 2) (q10 (d7 bV5 (c7 1) (cE (.int 1))) (q11)))) (q11))))) (q11))) (q11))))))
def VC:Fs:=(o4 (ifS (J2 (d7 inD (c7 2) (J4 (q10 (cE (.int 0)) (q10 (cE (.int 3)) (q10 (cE (.int 6)) (q11))))))) (o7 (q12 (fnX 1 Q0) (q10 (c7 0) (q11)))) (t7)) (o4 (ifS (J2 (d7 inD (c7 2) (J4 (q10 (cE (.int 1)) (q10 (cE (.int 4)) (q10 (cE (.int 7)) (q11))))))) (o7 (q12 (fnX 1 Z3) (q10 (c7 0) (q11)))) (t7)) (o7 (d7 ixD (aA6 (q10 (cE (.bl false)) (q10 (cE (.bl true)) (q11)))) (q12 (fnX 2 j8) (q10 (c7 0) (q10 (cE (.int 2)) (q11))))))))
def aC8(R:List D→M D):Fs:=o4 (N7 (q12 (fnX 2 j8) (q10 (c7 0) (q10 (cE (.int 8)) (q11)))) (q13 2)) (o4 (N7 (d7 V7 (d7 ixD (c7 0) (cE (.int 3))) (cE (.int 1))) (bO7 (c7 0) (cE (.int 3)))) (o4 (ifS (aH4 (J2 (d7 gtD (c7 2) (cE (.int 5)))) (aH4 (J2 (d7 gtD (c7 1) (cE (.int 1)))) (J2 (d7 ltD (d7 ixD (c7 0) (cE (.int 3))) (cE (.int 20)))))) (VA R) (t7)) VC))
def W6:Nat→List D→M D
 |0=>fun _=>M.stuck
 |n+1=>t8 4 (aC8 (W6 n))
def aQ8:List D→M D:=W6 6
def aH5:Fs:=o7 (ifE (orT (J2 (d7 cI2 (c7 0) (cE .non))) (J2 (d7 inX (cE (.tup [.tup [],.tup [.str ("of" :Str),.tup []],.tup [],.non,.non])) (d7 ixD (c7 0) (cE (.int 0)))))) (cE .non) (c7 0))
def X5:List D→M D:=t8 1 aH5
def aD0:Fs:=o4 (ifS (orT (J2 (d7 cI2 (c7 0) (cE .non))) (G9 (q12 cU2 (q10 (M8 (itW (d7 ixD (c7 0) (cE (.int 0)))) [none,none,none] (aL0 3 (M5 (q13 0) (M5 (q13 1) (M5 (q13 2) (aM6))))) (N6) (U6 (c7 1) (d7 eqD (c7 2) (cE (.tup [.tup [],.tup [.str ("of" :Str),.tup []],.tup [],.non,.non]))))) (q11))))) (o7 (cE .non)) (t7)) (o7 (J4 (q10 (q12 aF9 (q10 (M8 (itW (d7 ixD (c7 0) (cE (.int 0)))) [none,some 0] (q13 0) (orT (G9 (d7 ixD (c7 0) (cE (.int 1)))) (J2 (d7 neD (d7 ixD (c7 0) (cE (.int 2))) (d7 ixD (c7 1) (cE (.int 1)))))) (c7 0)) (q11))) (q10 (d7 ixD (c7 0) (cE (.int 1))) (q11)))))
def U3:List D→M D:=t8 1 aD0
def cQ7:Fs:=o4 (N7 (J4 (q10 (c7 0) (q10 (c7 1) (q10 (c7 2) (q10 (q12 (fnX 1 X5) (q10 (c7 3) (q11))) (q10 (q12 (fnX 1 U3) (q10 (c7 4) (q11))) (q11))))))) (q13 5)) (o7 (ifE (J2 (d7 eqD (c7 5) (cE (.tup [.tup [.tup [.non,.non]],.tup [.str ("but" :Str),.tup []],.tup [.bl false,.bl true],.tup [.tup [],.str ("any" :Str)],.tup [.tup [],.str ("any" :Str)]])))) (cE (.str ("any" :Str))) (c7 5)))
def aB1:List D→M D:=t8 6 cQ7
def aG4:Fs:=o7 (q12 (fnX 5 aB1) (q10 (J4 (q11)) (q10 (J4 (q10 (cE (.str ("of" :Str))) (q10 (J4 (q11)) (q11)))) (q10 (J4 (q11)) (q10 (cE .non) (q10 (J4 (q10 (c7 0) (q10 (c7 1) (q11)))) (q11)))))))
def U5:List D→M D:=t8 2 aG4
def bU5:Fs:=o7 (U6 (d7 aO2 (c7 0) (cE .non)) (U6 (d7 aO2 (c7 1) (cE .non)) (d7 gtD (c7 0) (c7 1))))
def U4:List D→M D:=t8 2 bU5
def aI5:Fs:=o7 (ifE (G9 (q12 (fnX 2 U4) (q10 (c7 0) (q10 (c7 1) (q11))))) (cE (.tup [.tup [],.tup [.str ("of" :Str),.tup []],.tup [],.non,.non])) (q12 (fnX 5 aB1) (q10 (J4 (q10 (J4 (q10 (c7 0) (q10 (c7 1) (q11)))) (q11))) (q10 (J4 (q10 (cE (.str ("of" :Str))) (q10 (J4 (q11)) (q11)))) (q10 (J4 (q11)) (q10 (cE .non) (q10 (cE .non) (q11))))))))
def Q8:List D→M D:=t8 2 aI5
def aL5:Fs:=o7 (q12 (fnX 5 aB1) (q10 (J4 (q11)) (q10 (J4 (q10 (cE (.str ("of" :Str))) (q10 (J4 (q11)) (q11)))) (q10 (J4 (q11)) (q10 (J4 (q10 (c7 0) (q10 (c7 1) (q11)))) (q10 (cE .non) (q11)))))))
def Z4:List D→M D:=t8 2 aL5
def aV8(R:List D→M D):Fs:=o4 (ifS (G9 (q12 o5 (q10 (c7 0) (q10 (cE (.ty "bool")) (q11))))) (o7 (q12 (fnX 5 aB1) (q10 (J4 (q11)) (q10 (J4 (q10 (cE (.str ("of" :Str))) (q10 (J4 (q11)) (q11)))) (q10 (J4 (q10 (c7 0) (q11))) (q10 (cE .non) (q10 (cE .non) (q11)))))))) (t7)) (o4 (ifS (G9 (q12 o5 (q10 (c7 0) (q10 (cE (.ty "int")) (q11))))) (o7 (q12 (fnX 2 Q8) (q10 (c7 0) (q10 (c7 0) (q11))))) (t7)) (o4 (ifS (G9 (q12 o5 (q10 (c7 0) (q10 (cE (.ty "str")) (q11))))) (o7 (q12 (fnX 5 aB1) (q10 (J4 (q11)) (q10 (J4 (q10 (cE (.str ("of" :Str))) (q10 (J4 (q10 (c7 0) (q11))) (q11)))) (q10 (J4 (q11)) (q10 (cE .non) (q10 (cE .non) (q11)))))))) (t7)) (o4 (ifS (J2 (d7 eqD (d7 ixD (c7 0) (cE (.int 0))) (cE (.str ("list" :Str))))) (o7 (q12 (fnX 2 Z4) (q10 (q12 aF9 (q10 (M8 (itW (d7 ixD (c7 0) (cE (.int 1)))) [none] (q13 0) (N6) (q12 (fnX 1 R) (q10 (c7 0) (q11)))) (q11))) (q10 (cE (.tup [.tup [],.tup [.str ("of" :Str),.tup []],.tup [],.non,.non])) (q11))))) (t7)) (o7 (q12 (fnX 2 U5) (q10 (q12 aF9 (q10 (M8 (itW (d7 ixD (c7 0) (cE (.int 1)))) [none,none] (aL0 2 (M5 (q13 0) (M5 (q13 1) (aM6)))) (N6) (J4 (q10 (c7 0) (q10 (cE (.bl true)) (q10 (q12 (fnX 1 R) (q10 (c7 1) (q11))) (q11)))))) (q11))) (q10 (cE (.tup [.tup [],.tup [.str ("of" :Str),.tup []],.tup [],.non,.non])) (q11))))))))
def aU7:Nat→List D→M D
 |0=>fun _=>M.stuck
 |n+1=>t8 1 (aV8 (aU7 n))
def bD3:List D→M D:=aU7 6
def EB:Fe:=(d7 ixD (aA6 (q10 (q12 dO2 (q10 (c7 1) (q11))) (q10 (bG4 (c7 1)) (q10 (c7 1) (q10 (cE (.str ("true" :Str))) (q10 (cE (.str ("false" :Str))) (q10 (J4 (q10 (cE (.str ("list" :Str))) (q10 (J4 (q10 (c7 1) (q11))) (q11)))) (q11)))))))) (c7 4))
def EI:Fe:=(d7 ixD (aA6 (q10 (d7 bV5 (cE (.int 0)) (c7 1)) (q10 (d7 V7 (c7 1) (cE (.int 1))) (q10 (c7 1) (q10 (d7 bV5 (c7 1) (cE (.int 1))) (q10 (d7 eqD (c7 1) (cE (.int 1))) (q10 (J4 (q10 (cE (.str ("list" :Str))) (q10 (J4 (q10 (c7 1) (q11))) (q11)))) (q11)))))))) (c7 4))
def ES:Fe:=(d7 ixD (aA6 (q10 (unE cS3 (c7 1)) (q10 (d7 V7 (c7 1) (cE (.str ("a" :Str)))) (q10 (c7 1) (q10 (S7 (c7 1) (Z5 (cE (.int 1))) (T6)) (q10 (J4 (q10 (cE (.str ("list" :Str))) (q10 (J4 (q11)) (q11)))) (q10 (J4 (q10 (cE (.str ("record" :Str))) (q10 (J4 (q11)) (q11)))) (q11)))))))) (c7 4))
def EL:Fe:=(J4 (q10 (cE (.str ("list" :Str))) (q10 (d7 ixD (aA6 (q10 (unE cS3 (d7 ixD (c7 1) (cE (.int 1)))) (q10 (d7 V7 (d7 ixD (c7 1) (cE (.int 1))) (J4 (q10 (cE (.int 0)) (q11)))) (q10 (d7 ixD (c7 1) (cE (.int 1))) (q10 (S7 (d7 ixD (c7 1) (cE (.int 1))) (Z5 (cE (.int 1))) (T6)) (q10 (S7 (d7 ixD (c7 1) (cE (.int 1))) (T6) (Z5 (unE cQ9 (cE (.int 1))))) (q10 (J4 (q11)) (q11)))))))) (c7 4)) (q11))))
def ER:Fe:=(d7 ixD (aA6 (q10 (J4 (q10 (cE (.str ("record" :Str))) (q10 (S7 (d7 ixD (c7 1) (cE (.int 1))) (Z5 (cE (.int 1))) (T6)) (q11)))) (q10 (J4 (q10 (cE (.str ("record" :Str))) (q10 (S7 (d7 ixD (c7 1) (cE (.int 1))) (T6) (Z5 (unE cQ9 (cE (.int 1))))) (q11)))) (q10 (c7 1) (q10 (J4 (q10 (cE (.str ("list" :Str))) (q10 (J4 (q11)) (q11)))) (q10 (J4 (q10 (cE (.str ("record" :Str))) (q10 (J4 (q11)) (q11)))) (q10 (cE (.int 0)) (q11)))))))) (c7 4))
def NL:Fs:=(o4 (N7 (q12 (fnX 2 j8) (q10 (c7 0) (q10 (cE (.int 6)) (q11)))) (q13 4)) (o4 (ifS (G9 (q12 o5 (q10 (c7 1) (q10 (cE (.ty "bool")) (q11))))) (o7 EB) (t7)) (o4 (ifS (G9 (q12 o5 (q10 (c7 1) (q10 (cE (.ty "int")) (q11))))) (o7 EI) (t7)) (o4 (ifS (G9 (q12 o5 (q10 (c7 1) (q10 (cE (.ty "str")) (q11))))) (o7 ES) (t7)) (o4 (ifS (J2 (d7 eqD (d7 ixD (c7 1) (cE (.int 0))) (cE (.str ("list" :Str))))) (o7 EL) (t7)) (o7 ER))))))
def NA4:Fs:=(o7 (J4 (q10 (d7 ixD (c7 1) (cE (.int 0))) (q10 (d7 V7 (d7 V7 (S7 (d7 ixD (c7 1) (cE (.int 1))) (T6) (Z5 (c7 2))) (J4 (q10 (c7 3) (q11)))) (S7 (d7 ixD (c7 1) (cE (.int 1))) (Z5 (d7 V7 (c7 2) (cE (.int 1)))) (T6))) (q11)))))
def NA3(R:List D→M D):Fs:=(ifS (J2 (d7 eqD (d7 ixD (c7 1) (cE (.int 0))) (cE (.str ("record" :Str))))) (N7 (J4 (q10 (d7 ixD (c7 3) (cE (.int 0))) (q10 (q12 (fnX 2 R) (q10 (c7 0) (q10 (d7 ixD (c7 3) (cE (.int 1))) (q11)))) (q11)))) (q13 3)) (N7 (q12 (fnX 2 R) (q10 (c7 0) (q10 (c7 3) (q11)))) (q13 3)))
def NA2(R:List D→M D):Fs:=o4 (N7 (d7 ixD (d7 ixD (c7 1) (cE (.int 1))) (c7 2)) (q13 3)) (o4 (NA3 R) NA4)
def NA(R:List D→M D):Fs:=o4 (N7 (q12 (fnX 2 j8) (q10 (c7 0) (q10 (q12 aN1 (q10 (d7 ixD (c7 1) (cE (.int 1))) (q11))) (q11)))) (q13 2)) (NA2 R)
def NT:DSt→M Bool:=(aH4 (G9 (q12 o5 (q10 (c7 1) (q10 (cE (.ty "tuple")) (q11))))) (aH4 (J2 (d7 neD (d7 ixD (c7 1) (cE (.int 1))) (J4 (q11)))) (J2 (d7 gtD (q12 (fnX 2 j8) (q10 (c7 0) (q10 (cE (.int 4)) (q11)))) (cE (.int 0))))))
def aG7(R:List D→M D):Fs:=o4 (ifS NT (NA R) (t7)) NL
def aC1:Nat→List D→M D
 |0=>fun _=>M.stuck
 |n+1=>t8 5 (aG7 (aC1 n))
def aB8:List D→M D:=aC1 8
def aQ3:Fs:=o7 (d7 (ixC "KIND_SETS" R5) (cE (.fn "KIND_SETS")) (c7 0))
def aB2:List D→M D:=t8 1 aQ3
def aS2:Fs:=o7 (J4 (q10 (J4 (q11)) (q10 (J4 (q10 (cE (.str ("of" :Str))) (q10 (J4 (q11)) (q11)))) (q10 (J4 (q11)) (q10 (cE .non) (q10 (cE .non) (q11)))))))
def M4:List D→M D:=t8 0 aS2
def aP2:Fs:=o7 (U6 (bG4 (q12 (fnX 2 U4) (q10 (c7 1) (q10 (c7 0) (q11))))) (bG4 (q12 (fnX 2 U4) (q10 (c7 0) (q10 (c7 2) (q11))))))
def R7:List D→M D:=t8 3 aP2
def aZ8:Fs:=o7 (ifE (J2 (d7 ltD (c7 1) (q12 aN1 (q10 (d7 ixD (c7 0) (cE (.int 0))) (q11))))) (d7 ixD (d7 ixD (c7 0) (cE (.int 0))) (c7 1)) (d7 ixD (c7 0) (cE (.int 1))))
def W8:List D→M D:=t8 2 aZ8
def aG2:Fs:=o7 (q12 aV9 (q10 (M8 (itW (d7 ixD (c7 0) (cE (.int 0)))) [none,none,none] (aL0 3 (M5 (q13 0) (M5 (q13 1) (M5 (q13 2) (aM6))))) (N6) (J4 (q10 (c7 0) (q10 (J4 (q10 (c7 1) (q10 (c7 2) (q11)))) (q11))))) (q11)))
def K6:List D→M D:=t8 1 aG2
def bA5:Fs:=o7 (mtE bF3 getD (c7 0) (q10 (c7 2) (q10 (J4 (q10 (cE (.bl false)) (q10 (c7 1) (q11)))) (q11))))
def W3:List D→M D:=t8 3 bA5
def aJ0(R:List D→M D):Fs:=o4 (ifS (orT (J2 (d7 cI2 (c7 1) (cE .non))) (J2 (d7 ltD (q12 aN1 (q10 (c7 0) (q11))) (q12 aN1 (q10 (d7 ixD (c7 1) (cE (.int 0))) (q11)))))) (o7 (cE (.bl false))) (t7)) (o7 (q12 aI2 (q10 (M8 (bN3 (q10 (c7 0) (q11))) [none,none,some 1] (aL0 2 (M5 (q13 0) (M5 (q13 1) (aM6)))) (N6) (q12 (fnX 2 R) (q10 (c7 1) (q10 (q12 (fnX 2 W8) (q10 (c7 2) (q10 (c7 0) (q11)))) (q11))))) (q11))))
def S6(R:List D→M D):List D→M D:=t8 2 (aJ0 R)
def RA:Fs:=(ifS (aJ2 (G9 (q12 aI2 (q10 (M8 (itW (d7 ixD (c7 1) (cE (.int 0)))) [none,none,none,some 2] (aL0 3 (M5 (q13 0) (M5 (q13 1) (M5 (q13 2) (aM6))))) (N6) (cW5 (d7 inD (c7 0) (c7 3)) (bG4 (c7 1)))) (q11))))) (o7 (cE (.bl false))) (t7))
def RZ(R:List D→M D):Fs:=(o7 (q12 aI2 (q10 (M8 (itW (c7 0)) [none,none,some 1,some 3] (aL0 2 (M5 (q13 0) (M5 (q13 1) (aM6)))) (N6) (q12 (fnX 2 R) (q10 (c7 1) (q10 (d7 ixD (q12 (fnX 3 W3) (q10 (c7 3) (q10 (d7 ixD (c7 2) (cE (.int 1))) (q10 (c7 0) (q11))))) (cE (.int 1))) (q11))))) (q11))))
def aA0(R:List D→M D):Fs:=o4 (ifS (J2 (d7 cI2 (c7 1) (cE .non))) (o7 (cE (.bl false))) (t7)) (o4 (N7 (q12 aV9 (q10 (c7 0) (q11))) (q13 2)) (o4 RA (o4 (N7 (q12 (fnX 1 K6) (q10 (c7 1) (q11))) (q13 3)) (RZ R))))
def Q6(R:List D→M D):List D→M D:=t8 4 (aA0 R)
def aM8(R:List D→M D):Fs:=o4 (ifS (J2 (d7 eqD (c7 1) (cE (.str ("any" :Str))))) (o7 (cE (.bl true))) (t7)) (o4 (ifS (G9 (q12 o5 (q10 (c7 0) (q10 (cE (.ty "bool")) (q11))))) (o7 (d7 inD (c7 0) (d7 ixD (c7 1) (cE (.int 2))))) (t7)) (o4 (ifS (G9 (q12 o5 (q10 (c7 0) (q10 (cE (.ty "int")) (q11))))) (o7 (q12 cU2 (q10 (M8 (itW (d7 ixD (c7 1) (cE (.int 0)))) [none,none,some 0] (aL0 2 (M5 (q13 0) (M5 (q13 1) (aM6)))) (N6) (q12 (fnX 3 R7) (q10 (c7 2) (q10 (c7 0) (q10 (c7 1) (q11)))))) (q11)))) (t7)) (o4 (ifS (G9 (q12 o5 (q10 (c7 0) (q10 (cE (.ty "str")) (q11))))) (o7 (d7 eqD (d7 inD (c7 0) (d7 ixD (d7 ixD (c7 1) (cE (.int 1))) (cE (.int 1)))) (d7 eqD (d7 ixD (d7 ixD (c7 1) (cE (.int 1))) (cE (.int 0))) (cE (.str ("of" :Str)))))) (t7)) (o4 (ifS (J2 (d7 eqD (d7 ixD (c7 0) (cE (.int 0))) (cE (.str ("list" :Str))))) (o7 (q12 (fnX 2 (S6 R)) (q10 (d7 ixD (c7 0) (cE (.int 1))) (q10 (d7 ixD (c7 1) (cE (.int 3))) (q11))))) (t7)) (o7 (q12 (fnX 2 (Q6 R)) (q10 (d7 ixD (c7 0) (cE (.int 1))) (q10 (d7 ixD (c7 1) (cE (.int 4))) (q11)))))))))
def aW9:Nat→List D→M D
 |0=>fun _=>M.stuck
 |n+1=>t8 2 (aM8 (aW9 n))
def aC2:List D→M D:=aW9 60
def bU3:List D→M D:=S6 aC2
def bG9:List D→M D:=Q6 aC2
def aE5(R:List D→M D):Fs:=o4 (N7 (q12 (fnX 0 M4) (q11)) (q13 1)) (o4 (ifS (G9 (q12 o5 (q10 (c7 0) (q10 (cE (.ty "bool")) (q11))))) (o7 (d7 V7 (d7 V7 (S7 (c7 1) (T6) (Z5 (cE (.int 2)))) (J4 (q10 (J4 (q10 (c7 0) (q11))) (q11)))) (S7 (c7 1) (Z5 (cE (.int 3))) (T6)))) (t7)) (o4 (ifS (G9 (q12 o5 (q10 (c7 0) (q10 (cE (.ty "int")) (q11))))) (o7 (d7 V7 (J4 (q10 (J4 (q10 (J4 (q10 (c7 0) (q10 (c7 0) (q11)))) (q11))) (q11))) (S7 (c7 1) (Z5 (cE (.int 1))) (T6)))) (t7)) (o4 (ifS (G9 (q12 o5 (q10 (c7 0) (q10 (cE (.ty "str")) (q11))))) (o7 (d7 V7 (d7 V7 (S7 (c7 1) (T6) (Z5 (cE (.int 1)))) (J4 (q10 (J4 (q10 (cE (.str ("of" :Str))) (q10 (J4 (q10 (c7 0) (q11))) (q11)))) (q11)))) (S7 (c7 1) (Z5 (cE (.int 2))) (T6)))) (t7)) (o4 (ifS (J2 (d7 eqD (d7 ixD (c7 0) (cE (.int 0))) (cE (.str ("list" :Str))))) (o4 (N7 (M8 (itW (d7 ixD (c7 0) (cE (.int 1)))) [none] (q13 0) (N6) (q12 (fnX 1 R) (q10 (c7 0) (q11)))) (q13 2)) (o7 (d7 V7 (S7 (c7 1) (T6) (Z5 (cE (.int 3)))) (J4 (q10 (J4 (q10 (q12 aF9 (q10 (c7 2) (q11))) (q10 (c7 1) (q11)))) (q10 (cE .non) (q11))))))) (t7)) (o4 (N7 (M8 (itW (d7 ixD (c7 0) (cE (.int 1)))) [none] (q13 0) (N6) (J4 (q10 (d7 ixD (c7 0) (cE (.int 0))) (q10 (cE (.bl true)) (q10 (q12 (fnX 1 R) (q10 (d7 ixD (c7 0) (cE (.int 1))) (q11))) (q11)))))) (q13 3)) (o7 (d7 V7 (S7 (c7 1) (T6) (Z5 (cE (.int 4)))) (J4 (q10 (J4 (q10 (q12 aF9 (q10 (c7 3) (q11))) (q10 (c7 1) (q11)))) (q11))))))))))
def aE4:Nat→List D→M D
 |0=>fun _=>M.stuck
 |n+1=>t8 4 (aE5 (aE4 n))
def aC7:List D→M D:=aE4 6
def X8:Fs:=o7 (U6 (d7 eqD (c7 0) (c7 1)) (d7 eqD (q12 cS7 (q10 (c7 0) (q11))) (q12 cS7 (q10 (c7 1) (q11)))))
def T9:List D→M D:=t8 2 X8
def bK3:Fs:=o7 (U6 (q12 o5 (q10 (c7 0) (q10 (cE (.ty "tuple")) (q11)))) (U6 (d7 eqD (q12 aN1 (q10 (c7 0) (q11))) (cE (.int 2))) (q12 o5 (q10 (d7 ixD (c7 0) (cE (.int 0))) (q10 (cE (.ty "tuple")) (q11))))))
def aC3:List D→M D:=t8 1 bK3
def aN6:Fs:=o7 (cW5 (d7 cI2 (c7 0) (cE .non)) (q12 (fnX 1 aC3) (q10 (c7 0) (q11))))
def U7:List D→M D:=t8 1 aN6
def cN6:Fs:=o7 (q12 aI2 (q10 (M8 (bU1 (q10 (c7 0) (q10 (S7 (c7 0) (Z5 (cE (.int 1))) (T6)) (q11)))) [none,none] (aL0 2 (M5 (q13 0) (M5 (q13 1) (aM6)))) (N6) (d7 ltD (c7 0) (c7 1))) (q11)))
def aC9:List D→M D:=t8 1 cN6
def bS7:Fs:=o7 (M8 (itW (c7 0)) [none] (q13 0) (N6) (d7 ixD (c7 0) (cE (.int 0))))
def aK6:List D→M D:=t8 1 bS7
def cA3:Fs:=o7 (U6 (q12 o5 (q10 (c7 0) (q10 (cE (.ty "str")) (q11)))) (q12 aI2 (q10 (M8 (itW (c7 0)) [none] (q13 0) (N6) (cG1 leD leD (cE (.str ("a" :Str))) (c7 0) (cE (.str ("z" :Str))))) (q11))))
def aF8:List D→M D:=t8 1 cA3
def bY0:Fs:=o7 (U6 (q12 (fnX 1 aF8) (q10 (c7 0) (q11))) (d7 gtD (q12 aN1 (q10 (c7 0) (q11))) (cE (.int 0))))
def aN9:List D→M D:=t8 1 bY0
def bP3:Fs:=o7 (U6 (q12 o5 (q10 (c7 0) (q10 (cE (.ty "tuple")) (q11)))) (U6 (d7 eqD (q12 aN1 (q10 (c7 0) (q11))) (cE (.int 3))) (U6 (q12 (fnX 1 aN9) (q10 (d7 ixD (c7 0) (cE (.int 0))) (q11))) (q12 o5 (q10 (d7 ixD (c7 0) (cE (.int 1))) (q10 (cE (.ty "bool")) (q11)))))))
def aK8:List D→M D:=t8 1 bP3
def aK5:Fs:=o4 (ifS (J2 (d7 cI2 (c7 0) (cE .non))) (o7 (cE (.bl true))) (t7)) (o4 (ifS (aJ2 (aH4 (G9 (q12 (fnX 1 aC3) (q10 (c7 0) (q11)))) (G9 (q12 aI2 (q10 (M8 (itW (d7 ixD (c7 0) (cE (.int 0)))) [none] (q13 0) (N6) (q12 (fnX 1 aK8) (q10 (c7 0) (q11)))) (q11)))))) (o7 (cE (.bl false))) (t7)) (o7 (q12 (fnX 1 aC9) (q10 (q12 (fnX 1 aK6) (q10 (d7 ixD (c7 0) (cE (.int 0))) (q11))) (q11)))))
def S9:List D→M D:=t8 1 aK5
def bD5:Fs:=o7 (U6 (d7 aO2 (d7 ixD (c7 0) (cE (.int 1))) (cE .non)) (U6 (d7 aO2 (d7 ixD (c7 1) (cE (.int 0))) (cE .non)) (d7 ltD (d7 V7 (d7 ixD (c7 0) (cE (.int 1))) (cE (.int 1))) (d7 ixD (c7 1) (cE (.int 0))))))
def aD8:List D→M D:=t8 2 bD5
def bN7:Fs:=o7 (U6 (q12 o5 (q10 (c7 0) (q10 (cE (.ty "int")) (q11)))) (bG4 (q12 o5 (q10 (c7 0) (q10 (cE (.ty "bool")) (q11))))))
def aO4:List D→M D:=t8 1 bN7
def cP9:Fs:=o7 (cW5 (d7 cI2 (c7 0) (cE .non)) (q12 (fnX 1 aO4) (q10 (c7 0) (q11))))
def aS8:List D→M D:=t8 1 cP9
def bE6:Fs:=o4 (ifS (aJ2 (aH4 (G9 (q12 o5 (q10 (c7 0) (q10 (cE (.ty "tuple")) (q11))))) (J2 (d7 eqD (q12 aN1 (q10 (c7 0) (q11))) (cE (.int 2)))))) (o7 (cE (.bl false))) (t7)) (o4 (ifS (aJ2 (aH4 (G9 (q12 (fnX 1 aS8) (q10 (d7 ixD (c7 0) (cE (.int 0))) (q11)))) (G9 (q12 (fnX 1 aS8) (q10 (d7 ixD (c7 0) (cE (.int 1))) (q11)))))) (o7 (cE (.bl false))) (t7)) (o7 (bG4 (q12 (fnX 2 U4) (q10 (d7 ixD (c7 0) (cE (.int 0))) (q10 (d7 ixD (c7 0) (cE (.int 1))) (q11)))))))
def aE0:List D→M D:=t8 1 bE6
def bD0:Fs:=o4 (ifS (aJ2 (aH4 (G9 (q12 o5 (q10 (c7 0) (q10 (cE (.ty "tuple")) (q11))))) (G9 (q12 aI2 (q10 (M8 (itW (c7 0)) [none] (q13 0) (N6) (q12 (fnX 1 aE0) (q10 (c7 0) (q11)))) (q11)))))) (o7 (cE (.bl false))) (t7)) (o7 (q12 aI2 (q10 (M8 (bU1 (q10 (c7 0) (q10 (S7 (c7 0) (Z5 (cE (.int 1))) (T6)) (q11)))) [none,none] (aL0 2 (M5 (q13 0) (M5 (q13 1) (aM6)))) (N6) (q12 (fnX 2 aD8) (q10 (c7 0) (q10 (c7 1) (q11))))) (q11))))
def aD4:List D→M D:=t8 1 bD0
def bJ1:Fs:=o4 (ifS (aJ2 (aH4 (G9 (q12 o5 (q10 (c7 0) (q10 (cE (.ty "tuple")) (q11))))) (J2 (d7 eqD (q12 aN1 (q10 (c7 0) (q11))) (cE (.int 2)))))) (o7 (cE (.bl false))) (t7)) (o7 (U6 (q12 o5 (q10 (d7 ixD (c7 0) (cE (.int 0))) (q10 (cE (.ty "str")) (q11)))) (U6 (d7 eqD (d7 ixD (c7 0) (cE (.int 0))) (c7 1)) (q12 o5 (q10 (d7 ixD (c7 0) (cE (.int 1))) (q10 (cE (.ty "tuple")) (q11)))))))
def aH0:List D→M D:=t8 2 bJ1
def bB2:Fs:=o7 (J4 (q10 (q12 aN1 (q10 (c7 0) (q11))) (q10 (c7 0) (q11))))
def aD3:List D→M D:=t8 1 bB2
def bP5:Fs:=o4 (ifS (aJ2 (orT (G9 (q12 (fnX 2 aH0) (q10 (c7 0) (q10 (cE (.str ("of" :Str))) (q11))))) (G9 (q12 (fnX 2 aH0) (q10 (c7 0) (q10 (cE (.str ("but" :Str))) (q11))))))) (o7 (cE (.bl false))) (t7)) (o4 (ifS (aJ2 (G9 (q12 aI2 (q10 (M8 (itW (d7 ixD (c7 0) (cE (.int 1)))) [none] (q13 0) (N6) (q12 (fnX 1 aF8) (q10 (c7 0) (q11)))) (q11))))) (o7 (cE (.bl false))) (t7)) (o7 (q12 (fnX 1 aC9) (q10 (M8 (itW (d7 ixD (c7 0) (cE (.int 1)))) [none] (q13 0) (N6) (q12 (fnX 1 aD3) (q10 (c7 0) (q11)))) (q11)))))
def aJ3:List D→M D:=t8 1 bP5
def bI3:Fs:=o4 (ifS (aJ2 (G9 (q12 o5 (q10 (c7 0) (q10 (cE (.ty "tuple")) (q11)))))) (o7 (cE (.bl false))) (t7)) (o7 (U6 (q12 aI2 (q10 (M8 (itW (c7 0)) [none] (q13 0) (N6) (q12 o5 (q10 (c7 0) (q10 (cE (.ty "bool")) (q11))))) (q11))) (q12 (fnX 1 aC9) (q10 (c7 0) (q11)))))
def aG5:List D→M D:=t8 1 bI3
def aV7:Fs:=o4 (ifS (G9 (q12 o5 (q10 (c7 0) (q10 (cE (.ty "str")) (q11))))) (o7 (d7 eqD (c7 0) (cE (.str ("any" :Str))))) (t7)) (o4 (ifS (aJ2 (aH4 (G9 (q12 o5 (q10 (c7 0) (q10 (cE (.ty "tuple")) (q11))))) (J2 (d7 eqD (q12 aN1 (q10 (c7 0) (q11))) (cE (.int 5)))))) (o7 (cE (.bl false))) (t7)) (o4 (ifS (aJ2 (aH4 (G9 (q12 (fnX 1 aD4) (q10 (d7 ixD (c7 0) (cE (.int 0))) (q11)))) (aH4 (G9 (q12 (fnX 1 aJ3) (q10 (d7 ixD (c7 0) (cE (.int 1))) (q11)))) (G9 (q12 (fnX 1 aG5) (q10 (d7 ixD (c7 0) (cE (.int 2))) (q11))))))) (o7 (cE (.bl false))) (t7)) (o7 (U6 (q12 (fnX 1 U7) (q10 (d7 ixD (c7 0) (cE (.int 3))) (q11))) (q12 (fnX 1 S9) (q10 (d7 ixD (c7 0) (cE (.int 4))) (q11)))))))
def S8:List D→M D:=t8 1 aV7
def IL:Fs:=(ifS (J2 (d7 aO2 (d7 ixD (c7 0) (cE (.int 3))) (cE .non))) (bI7 (mtE aF2 aO6 (c7 1) (q10 (d7 V7 (q12 cL3 (q10 (d7 ixD (d7 ixD (c7 0) (cE (.int 3))) (cE (.int 0))) (q11))) (aA6 (q10 (d7 ixD (d7 ixD (c7 0) (cE (.int 3))) (cE (.int 1))) (q11)))) (q11)))) (t7))
def IR:Fs:=(ifS (J2 (d7 aO2 (d7 ixD (c7 0) (cE (.int 4))) (cE .non))) (bI7 (mtE aF2 aO6 (c7 1) (q10 (d7 V7 (M8 (itW (d7 ixD (d7 ixD (c7 0) (cE (.int 4))) (cE (.int 0)))) [none] (q13 0) (N6) (d7 ixD (c7 0) (cE (.int 2)))) (aA6 (q10 (d7 ixD (d7 ixD (c7 0) (cE (.int 4))) (cE (.int 1))) (q11)))) (q11)))) (t7))
def aE2:Fs:=o4 (N7 (aA6 (q11)) (q13 1)) (o4 (ifS (J2 (d7 eqD (c7 0) (cE (.str ("any" :Str))))) (o7 (c7 1)) (t7)) (o4 IL (o4 IR (o7 (c7 1)))))
def aF0:List D→M D:=t8 2 aE2
def bT4:Fs:=o4 (cV6) (o4 (cV6) (o7 (cE (.bl true))))
def aQ9:List D→M D:=t8 4 bT4
def cP5:Fs:=o7 (ifE (G9 (d7 ixD (c7 0) (cE (.int 1)))) (d7 neD (d7 ixD (c7 0) (cE (.int 2))) (cE (.tup [.tup [],.tup [.str ("of" :Str),.tup []],.tup [],.non,.non]))) (bG4 (q12 (fnX 2 aQ9) (q10 (d7 ixD (c7 0) (cE (.int 2))) (q10 (c7 1) (q11))))))
def aN5:List D→M D:=t8 2 cP5
def aT3:Fs:=o4 (ifS (J2 (d7 eqD (c7 0) (cE (.str ("any" :Str))))) (o7 (cE (.bl true))) (t7)) (o4 (ifS (aH4 (J2 (d7 aO2 (d7 ixD (c7 0) (cE (.int 3))) (cE .non))) (aJ2 (G9 (q12 aI2 (q10 (M8 (itW (d7 ixD (d7 ixD (c7 0) (cE (.int 3))) (cE (.int 0)))) [none] (q13 0) (N6) (d7 neD (c7 0) (cE (.tup [.tup [],.tup [.str ("of" :Str),.tup []],.tup [],.non,.non])))) (q11)))))) (o7 (cE (.bl false))) (t7)) (o4 (ifS (aH4 (J2 (d7 aO2 (d7 ixD (c7 0) (cE (.int 4))) (cE .non))) (aJ2 (G9 (q12 aI2 (q10 (M8 (itW (d7 ixD (d7 ixD (c7 0) (cE (.int 4))) (cE (.int 0)))) [none,some 0] (q13 0) (N6) (q12 (fnX 2 aN5) (q10 (c7 0) (q10 (d7 ixD (d7 ixD (c7 1) (cE (.int 4))) (cE (.int 1))) (q11))))) (q11)))))) (o7 (cE (.bl false))) (t7)) (o7 (d7 neD (c7 0) (cE (.tup [.tup [.tup [.non,.non]],.tup [.str ("but" :Str),.tup []],.tup [.bl false,.bl true],.tup [.tup [],.str ("any" :Str)],.tup [.tup [],.str ("any" :Str)]]))))))
def V5:List D→M D:=t8 1 aT3
def Z1:Fs:=(N7 (mtE aF2 eD9 (c7 2) q11) (q13 3))
def V2:Fs:=(ifS (aJ2 (G9 (q12 (fnX 1 S8) (q10 (c7 3) (q11))))) (o7 (cE (.bl false))) (t7))
def V3:Fs:=(bI7 (mtE aF2 bN2 (c7 1) (q10 (c7 3) (q11))))
def V4:Fs:=(bI7 (mtE aF2 aO6 (c7 2) (q10 (q12 (fnX 1 aF0) (q10 (c7 3) (q11))) (q11))))
def bB3:Fs:=o4 (N7 (aA6 (q11)) (q13 1)) (o4 (N7 (aA6 (q10 (c7 0) (q11))) (q13 2)) (o4 (bF8 (G9 (c7 2)) (o4 Z1 (o4 V2 (o4 V3 V4)))) (o7 (q12 aI2 (q10 (M8 (itW (c7 1)) [none] (q13 0) (N6) (q12 (fnX 1 V5) (q10 (c7 0) (q11)))) (q11))))))
def aT1:List D→M D:=t8 4 bB3
def KE:Fe:=(U6 (q12 o5 (q10 (c7 1) (q10 (cE (.ty "tuple")) (q11)))) (d7 eqD (d7 ixD (c7 1) (cE (.int 0))) (c7 0)))
def K3:Fs:=(o7 (d7 V7 (c7 2) (M8 (itW (aA6 (q10 (cE (.str ("list" :Str))) (q10 (cE (.str ("record" :Str))) (q11))))) [none,some 0] (q13 0) (N6) KE)))
def W7:Fs:=o4 (N7 (U6 (q12 o5 (q10 (c7 0) (q10 (cE (.ty "int")) (q11)))) (bG4 (q12 o5 (q10 (c7 0) (q10 (cE (.ty "bool")) (q11)))))) (q13 1)) (o4 (N7 (aA6 (q10 (c7 1) (q10 (q12 o5 (q10 (c7 0) (q10 (cE (.ty "str")) (q11)))) (q10 (q12 o5 (q10 (c7 0) (q10 (cE (.ty "bool")) (q11)))) (q11))))) (q13 2)) K3)
def aA3:List D→M D:=t8 3 W7
def aF3(R:List D→M D):Fs:=o4 (ifS (orT (J2 (d7 neD (q12 o5 (q10 (c7 0) (q10 (cE (.ty "bool")) (q11)))) (q12 o5 (q10 (c7 1) (q10 (cE (.ty "bool")) (q11)))))) (J2 (d7 neD (q12 o5 (q10 (c7 0) (q10 (cE (.ty "tuple")) (q11)))) (q12 o5 (q10 (c7 1) (q10 (cE (.ty "tuple")) (q11))))))) (o7 (cE (.bl false))) (t7)) (o4 (ifS (aJ2 (G9 (q12 o5 (q10 (c7 0) (q10 (cE (.ty "tuple")) (q11)))))) (o7 (d7 eqD (c7 0) (c7 1))) (t7)) (o4 (ifS (J2 (d7 neD (q12 aN1 (q10 (c7 0) (q11))) (q12 aN1 (q10 (c7 1) (q11))))) (o7 (cE (.bl false))) (t7)) (o7 (q12 aI2 (q10 (M8 (aD9 (q10 (q12 aN1 (q10 (c7 0) (q11))) (q11))) [none,some 0,some 1] (q13 0) (N6) (q12 (fnX 2 R) (q10 (d7 ixD (c7 1) (c7 0)) (q10 (d7 ixD (c7 2) (c7 0)) (q11))))) (q11))))))
def aD7:Nat→List D→M D
 |0=>fun _=>M.stuck
 |n+1=>t8 2 (aF3 (aD7 n))
def aQ0:List D→M D:=aD7 40
def TK:Fe:=M8 (itW (c7 2)) [none,some 11] (q13 0) (N6) (q12 (fnX 2 aC2) (q10 (c7 1) (q10 (q12 (fnX 1 aB2) (q10 (c7 0) (q11))) (q11))))
def LK:Fs:=(o4 (N7 (q12 cL3 (q10 (q12 (fnX 0 M4) (q11)) (q11))) (q13 4)) (o4 (N7 (d7 ixD (c7 1) (c7 3)) (bO7 (c7 4) (c7 3))) (ifS (J2 (d7 neD (q12 (fnX 1 aB2) (q10 (d7 ixD (c7 2) (c7 3)) (q11))) (q12 aF9 (q10 (c7 4) (q11))))) (o7 (cE (.bl false))) (t7))))
def LO:Fs:=(o4 (N7 (q12 (fnX 2 aC2) (q10 (c7 11) (q10 (c7 9) (q11)))) (q13 12)) (o4 (ifS (orT (aJ2 (G9 (q12 o5 (q10 (c7 12) (q10 (cE (.ty "bool")) (q11)))))) (J2 (d7 neD (c7 12) (q12 (fnX 2 aQ0) (q10 (c7 11) (q10 (c7 8) (q11))))))) (o7 (cE (.bl false))) (t7)) (ifS (J2 (d7 neD TK (q12 (fnX 1 aA3) (q10 (c7 11) (q11))))) (o7 (cE (.bl false))) (t7))))
def LE:Fe:=(d7 ixD (aA6 (q10 (q12 (fnX 1 Q0) (q10 (c7 1) (q11))) (q10 (cE .non) (q11)))) (d7 bZ3 (q12 (fnX 2 j8) (q10 (c7 1) (q10 (cE (.int 4)) (q11)))) (cE (.int 3))))
def LT2:Fs:=(o4 (N7 (d7 V7 (J4 (q10 (J4 (q10 (J4 (q10 (c7 13) (q10 (c7 14) (q11)))) (q11))) (q11))) (S7 (q12 (fnX 0 M4) (q11)) (Z5 (cE (.int 1))) (T6))) (q13 4)) (o4 (ifS (aH4 (J2 (d7 aO2 (c7 13) (cE .non))) (aH4 (J2 (d7 aO2 (c7 14) (cE .non))) (J2 (d7 gtD (c7 13) (c7 14))))) (N7 (q12 (fnX 0 M4) (q11)) (q13 4)) (t7)) (ifS (J2 (d7 neD (q12 (fnX 2 Q8) (q10 (c7 13) (q10 (c7 14) (q11)))) (c7 4))) (o7 (cE (.bl false))) (t7))))
def LS:Fs:=(o4 (N7 (M8 (aD9 (q10 (cE (.int 2)) (q11))) [none,some 7] (q13 0) (N6) LE) (eF7 2 (M5 (q13 13) (M5 (q13 14) (aM6))))) LT2)
def LB':Fs:=(o4 (N7 (q12 (fnX 3 aG9) (q10 (c7 0) (q10 (c7 6) (q10 (c7 5) (q11))))) (q13 7)) (o4 (N7 (q12 (fnX 2 aQ8) (q10 (c7 7) (q10 (cE (.int 5)) (q11)))) (q13 8)) (o4 (N7 (q12 (fnX 1 bD3) (q10 (c7 8) (q11))) (q13 9)) (o4 (ifS (orT (aJ2 (G9 (q12 (fnX 2 T9) (q10 (c7 9) (q10 (q12 (fnX 1 aC7) (q10 (c7 8) (q11))) (q11)))))) (J2 (d7 aO2 (q12 (fnX 1 aT1) (q10 (c7 9) (q11))) (cE (.bl true))))) (o7 (cE (.bl false))) (t7)) (o4 (N7 (q12 (fnX 2 aB8) (q10 (c7 7) (q10 (c7 8) (q11)))) (q13 10)) (o4 (bK7 (itW (aA6 (q10 (c7 8) (q10 (c7 10) (q10 (q12 (fnX 2 aB8) (q10 (c7 7) (q10 (c7 10) (q11)))) (q10 (q12 (fnX 2 aB8) (q10 (c7 7) (q10 (c7 8) (q11)))) (q11))))))) (q13 11) LO) LS))))))
def LZ:Fs:=o4 (ifS (orT (J2 (d7 neD (q12 (fnX 2 Q8) (q10 (cE (.int 3)) (q10 (cE (.int 3)) (q11)))) (q12 (fnX 1 aC7) (q10 (cE (.int 3)) (q11))))) (J2 (d7 neD (q12 (fnX 2 Q8) (q10 (cE (.int 1)) (q10 (cE (.int 0)) (q11)))) (q12 (fnX 0 M4) (q11))))) (o7 (cE (.bl false))) (t7)) (o7 (d7 eqD (q12 (fnX 2 Q8) (q10 (cE .non) (q10 (cE .non) (q11)))) (q12 (fnX 1 aB2) (q10 (cE (.str ("number" :Str))) (q11)))))
def EV:Fe:=(J4 (q10 (J4 (q10 (J4 (q10 (cE .non) (q10 (cE .non) (q11)))) (q11))) (q10 (J4 (q10 (cE (.str ("but" :Str))) (q10 (J4 (q11)) (q11)))) (q10 (J4 (q10 (cE (.bl false)) (q10 (cE (.bl true)) (q11)))) (q10 (J4 (q10 (J4 (q11)) (q10 (cE (.str ("any" :Str))) (q11)))) (q10 (J4 (q10 (J4 (q11)) (q10 (cE (.str ("any" :Str))) (q11)))) (q11)))))))
def WE:Fe:=(aA6 (q10 (cE (.str ("number" :Str))) (q10 (cE (.str ("text" :Str))) (q10 (cE (.str ("truth" :Str))) (q10 (cE (.str ("list" :Str))) (q10 (cE (.str ("record" :Str))) (q11)))))))
def cZ3:Fs:=o4 (N7 EV (q13 1)) (o4 (N7 WE (q13 2)) (o4 (bK7 (aD9 (q10 (cE (.int 5)) (q11))) (q13 3) LK) (o4 (bK7 (bG7 (q10 (S7 (c7 0) (T6) (Z5 (cE (.int 63)))) (q11))) (aL0 2 (M5 (q13 5) (M5 (q13 6) (aM6)))) LB') LZ)))
def cQ0:List D→M D:=t8 15 cZ3
local macro_rules | `(tactic| walk_at "cl") => `(tactic| (refine ⟨?k, ?kk, ?a, ?b, ?c⟩; (case a => first | (dsimp only [Cx.nox, cO0]; with_reducible assumption) | assumption); (case b => assumption); (case c => first | decide | omega)))
local macro_rules | `(tactic| walk_at "ck") => `(tactic| (refine ⟨?k, ?kk, ?kkk, ?a, ?b, ?c, ?d⟩; (case a => assumption); (case b => rfl); (case c => rfl); (case d => decide +kernel)))
local macro_rules | `(tactic| walk_at "od") => `(tactic| first
 |with_reducible exact eY8
 |with_reducible exact eP9
 |with_reducible exact eT8
 |with_reducible exact eC0
 |with_reducible exact eQ7
 |with_reducible exact eW1
 |with_reducible exact fB7
 |with_reducible exact fD9
 |with_reducible exact eU7
 |with_reducible exact dE8
 |((with_reducible refine fA3 ?_);exact aA5.units (by assumption))
 |((with_reducible refine fI5 ?_);exact aA5.units (by assumption))
 |((with_reducible refine fK4 ?_);exact aA5.units (by assumption))
 |((with_reducible refine fF5 ?_);exact aA5.units (by assumption))
 |((with_reducible refine eN2 ?_);exact aA5.units (by assumption)))
local macro_rules | `(tactic| walk_at "bd") => `(tactic| first
 |with_reducible exact eO9
 |with_reducible exact bV0
 |with_reducible exact eU6
 |with_reducible exact eW7
 |with_reducible exact eX3
 |with_reducible exact dW2
 |with_reducible exact eH6
 |with_reducible exact eR6
 |((with_reducible refine eB0 ?_);exact aA5.units (by assumption))
 |with_reducible exact cW7
 |with_reducible exact dX8)
local macro_rules | `(tactic| walk_at "da") => `(tactic| first
 |with_reducible exact q16
 |((with_reducible refine fL5 ?_ ?_ ?_);walk_at "de";walk_at "da";rfl))
local macro_rules | `(tactic| walk_at "do") => `(tactic| first
 |with_reducible exact eE0
 |((with_reducible refine dZ0 ?_);walk_at "de"))
local macro_rules | `(tactic| walk_at "pk") => `(tactic| first | exact eV9 | ((apply eW5); walk_at "pk"; walk_at "pk"; (unfold dG0; decide); rfl) | ((apply eN1); walk_at "pk"; walk_at "pk"; rfl))
local macro_rules | `(tactic| walk_at "de") => `(tactic| first
 |with_reducible exact q17
 |with_reducible exact fK5
 |with_reducible exact eS9
 |with_reducible exact eR5
 |((with_reducible refine fL6 _ ?_ ?_ ?_ ?_);rfl;(first|exact Or.inl rfl|exact Or.inr (Or.inl rfl)|exact Or.inr (Or.inr rfl));decide;decide)
 |((with_reducible refine eV4 ?_ ?_ ?_ ?_ ?_ ?_);assumption;decide;decide +kernel;rfl;decide;decide)
 |((with_reducible refine eQ0 ?_ ?_ ?_);assumption;rfl;decide)
 |((with_reducible refine fC9 ?_ ?_ ?_);walk_at "od";walk_at "de";walk_at "de")
 |((with_reducible refine fF2 eM3 ?_);walk_at "de")
 |((with_reducible refine eM6 ?_);walk_at "de")
 |((with_reducible refine eQ4 ?_ ?_ ?_ ?_);walk_at "od";walk_at "de";walk_at "de";with_unfolding_all rfl)
 |((with_reducible refine dJ9 ?_ ?_ ?_ ?_ ?_ ?_);walk_at "od";walk_at "od";walk_at "de";walk_at "de";walk_at "de";with_unfolding_all rfl)
 |((with_reducible refine eR1 ?_);walk_at "de")
 |((with_reducible refine dX9 ?_ ?_);walk_at "de";walk_at "de")
 |((with_reducible refine eT1 ?_ ?_);walk_at "de";walk_at "de")
 |((with_reducible refine fF1 ?_ ?_ ?_);walk_at "dt";walk_at "de";walk_at "de")
 |((with_reducible refine eO2 ?_);walk_at "da")
 |((with_reducible refine eX1 ?_);walk_at "da")
 |with_reducible exact dK0
 |((with_reducible refine dY8 (j:=0) ?_);walk_at "de")
 |((with_reducible refine dF1 ?_ ?_ ?_);walk_at "de";walk_at "do";walk_at "do")
 |((with_reducible refine eU0 ?_ ?_ ?_ ?_ ?_);assumption;rfl;decide;walk_at "de";exact fun _ _=>rfl)
 |((with_reducible refine fE8 ?_ ?_ ?_);walk_at "de";walk_at "de";exact fun _ _=>rfl)
 |((with_reducible refine dQ4 ?_ ?_ ?_ ?_ ?_);walk_at "cl";rfl;walk_at "da";decide;rfl)
 |((with_reducible refine dF5 ?_ ?_ ?_);walk_at "cl";rfl;decide)
 |((with_reducible refine eZ0 ?_ ?_ ?_ ?_ ?_ ?_ ?_ ?_ ?_);rfl;walk_at "bd";assumption;decide +kernel;rfl;walk_at "da";decide;decide;rfl)
 |((with_reducible refine eK9 PySem.F.slot_list_append PySem.F.type_list_append dF0 ?_ ?_ ?_ ?_ ?_ ?_ ?_);walk_at "de";walk_at "da";rfl;rfl;rfl;exact q14 rfl;rfl)
 |((with_reducible refine eK9 PySem.F.slot_list_extend PySem.F.type_list_extend dD3 ?_ ?_ ?_ ?_ ?_ ?_ ?_);walk_at "de";walk_at "da";rfl;rfl;rfl;exact q14 rfl;rfl)
 |((with_reducible refine eX7 PySem.F.slot_dict_get PySem.F.type_dict_get (eO4 ?_) ?_ ?_ ?_ ?_ ?_ ?_ ?_);exact aA5.units (by assumption);walk_at "de";walk_at "da";rfl;rfl;rfl;exact q14 rfl;rfl)
 |((with_reducible refine eU5 PySem.F.slot_list_pop PySem.F.type_list_pop eL6 ?_ ?_ ?_);walk_at "de";rfl;rfl)
 |((with_reducible refine dX4 ?_ ?_ ?_ ?_ ?_ ?_ ?_ ?_);rfl;walk_at "di";walk_at "ck";decide +kernel;(intro _ _ _ _ _;walk_at "dg");(intro _ _ _ _;walk_at "dts");(intro _ _ _ _;walk_at "de");exact fun _=>rfl))
local macro_rules | `(tactic| walk_at "dt") => `(tactic| first
 |((with_reducible refine DW.dt ?_);walk_at "dw")
 |((with_reducible refine eT9 ?_);walk_at "dt")
 |((with_reducible refine eS8 ?_ ?_ ?_ ?_);walk_at "od";walk_at "de";walk_at "de";with_unfolding_all rfl)
 |((with_reducible refine dU8 ?_ ?_);walk_at "de";exact fun _=>rfl))
local macro_rules | `(tactic| walk_at "dw") => `(tactic| first
 |((with_reducible refine eA3 ?_);walk_at "dt")
 |((with_reducible refine eP2 ?_);walk_at "dt")
 |((with_reducible refine eY6 ?_ ?_);walk_at "dt";walk_at "dw")
 |((with_reducible refine fJ3 ?_ ?_);walk_at "dt";walk_at "dw"))
local macro_rules | `(tactic| walk_at "dts") => `(tactic| first
 |with_reducible exact dX7
 |((with_reducible refine eC5 ?_);walk_at "dt"))
local macro_rules | `(tactic| walk_at "di") => `(tactic| first
 |((with_reducible refine fB5 ?_ ?_ ?_ ?_);assumption;rfl;walk_at "da";rfl)
 |((with_reducible refine fM2 ?_ ?_ ?_ ?_ ?_);assumption;rfl;walk_at "da";rfl;rfl)
 |((with_reducible refine fO1 ?_ ?_ ?_ ?_);assumption;rfl;walk_at "da";rfl)
 |((with_reducible refine fH7 ?_ ?_ ?_ ?_);assumption;rfl;walk_at "da";rfl)
 |((with_reducible refine fK7 ?_);walk_at "de"))
local macro_rules | `(tactic| walk_at "dg") => `(tactic| first
 |((with_reducible refine fJ1 ?_ ?_ ?_ ?_);exact⟨_,_,_, ‹m7 _ _ _›,rfl⟩;rfl;(first|exact Or.inl rfl|exact Or.inr rfl);(first|exact .inl rfl|exact .inr rfl))
 |((with_reducible refine cX2 ?_ ?_ ?_ ?_);assumption;rfl;(first|exact Or.inl rfl|exact Or.inr rfl);(first|exact .inl rfl|exact .inr rfl))
 |((with_reducible refine eL7 ?_ ?_ ?_ ?_);rfl;walk_at "dgs";rfl;rfl)
 |((with_reducible refine eM2 ?_ ?_ ?_ ?_);rfl;walk_at "dgs";rfl;rfl)
 |((with_reducible refine eZ5 ?_ ?_ ?_ ?_);exact aA5.units (by assumption);walk_at "de";walk_at "de";exact fun _=>rfl))
local macro_rules | `(tactic| walk_at "dgs") => `(tactic| first
 |with_reducible exact eB6
 |((with_reducible refine dT3 ?_ ?_ ?_);walk_at "dg";walk_at "dgs";rfl))
local macro_rules | `(tactic| walk_at "ds") => `(tactic| first
 |((with_reducible refine eZ8 ?_);walk_at "de")
 |((with_reducible refine fA8 ?_ ?_ ?_);walk_at "dt";walk_at "db";walk_at "db")
 |((with_reducible refine dS9 ?_ ?_ ?_ ?_ ?_ ?_ ?_ ?_ ?_ ?_);rfl;walk_at "di";walk_at "ck";decide +kernel;(intro _ _ _ _ _;walk_at "dg");(intro _ _ _ _;walk_at "dts");(intro _ _ _ _;walk_at "de");(exact fun _=>rfl);walk_at "dg";rfl)
 |((with_reducible refine eU4 ?_ ?_ ?_ ?_ ?_);walk_at "de";walk_at "dg";rfl;rfl;rfl)
 |((with_reducible refine dY4 ?_ ?_);walk_at "de";rfl)
 |((with_reducible refine eM8 ?_ ?_ ?_ ?_ ?_ ?_);exact PassesOwn.never;rfl;walk_at "di";walk_at "dg";walk_at "db";exact fun _=>rfl)
 |((with_reducible refine dW4 ?_ ?_ ?_);exact PassesOwn.never;walk_at "dt";walk_at "db")
 |with_reducible exact dO1)
local macro_rules | `(tactic| walk_at "db") => `(tactic| first
 |with_reducible exact eL9
 |((with_reducible refine dO6 ?_);walk_at "ds")
 |((with_reducible refine dC6 ?_ ?_);walk_at "ds";walk_at "db"))
local macro_rules | `(tactic| walk_at "db0") => `(tactic| first
 |(refine dO6 ?_;walk_at "ds")
 |(refine dC6 ?_ ?_;walk_at "ds";walk_at "db"))
set_option maxHeartbeats 2000000
local macro_rules | `(tactic| walk_at "sc") => `(tactic| exact ⟨rfl, rfl, rfl, by decide +kernel, rfl, by decide +kernel, by decide +kernel⟩)
structure BC(w:World)(K:PySem.W.Frag)(mg:Str→Option Value):Prop where
 b:BLs mg
 c_NOTHING:dB2 K mg "NOTHING" (.tup [.tup [],.tup [.str ("of" :Str),.tup []],.tup [],.non,.non])
 c_ALL_PARTS:dB2 K mg "ALL_PARTS" (.tup [.tup [.tup [.non,.non]],.tup [.str ("but" :Str),.tup []],.tup [.bl false,.bl true],.tup [.tup [],.str ("any" :Str)],.tup [.tup [],.str ("any" :Str)]])
 c_ANY:dB2 K mg "ANY" (.str ("any" :Str))
 d_KIND_SETS:eV6 w K mg "KIND_SETS" R5
def top(i:Nat):Stmt:=PySem.Challenge.pw_allmeet_k16_sets_of_values_and_kinds.main.body.getD i (.Pass ⟨0,0,0,0⟩)
abbrev aV2:Stmt:=top 48
abbrev aU4:Stmt:=top 49
abbrev aM5:Stmt:=top 52
abbrev aJ6:Stmt:=top 50
abbrev aT9:Stmt:=top 51
abbrev aO5:Stmt:=top 53
abbrev aE1:Stmt:=top 54
abbrev aH3:Stmt:=top 45
abbrev aE3:Stmt:=top 46
abbrev cR4:Stmt:=top 44
abbrev aM3:Stmt:=top 43
abbrev bA0:Stmt:=top 11
abbrev bG0:Stmt:=top 41
abbrev aT5:Stmt:=top 42
abbrev aU9:Stmt:=top 39
abbrev aG8:Stmt:=top 55
abbrev aZ5:Stmt:=top 40
abbrev aJ4:Stmt:=top 57
abbrev aO7:Stmt:=top 36
abbrev bA1:Stmt:=top 21
abbrev aF7:Stmt:=top 22
abbrev aZ4:Stmt:=top 23
abbrev aN2:Stmt:=top 35
abbrev V0:Stmt:=top 37
abbrev S5:Stmt:=top 38
abbrev aE6:Stmt:=top 58
abbrev aD2:Stmt:=top 60
abbrev aW0:Stmt:=top 24
abbrev aG1:Stmt:=top 26
abbrev bS5:Stmt:=top 5
abbrev aZ6:Stmt:=top 6
abbrev bF4:Stmt:=top 2
abbrev bH7:Stmt:=top 3
abbrev aZ9:Stmt:=top 25
abbrev aB3:Stmt:=top 27
abbrev aP4:Stmt:=top 12
abbrev aZ2:Stmt:=top 1
abbrev bQ3:Stmt:=top 9
abbrev aQ5:Stmt:=top 10
abbrev aP7:Stmt:=top 13
abbrev aT6:Stmt:=top 4
abbrev aR0:Stmt:=top 7
abbrev bB0:Stmt:=top 14
abbrev aT0:Stmt:=top 15
abbrev aK3:Stmt:=top 28
abbrev aQ2:Stmt:=top 29
abbrev bA4:Stmt:=top 31
abbrev bR1:Stmt:=top 32
abbrev aJ9:Stmt:=top 33
abbrev bR7:Stmt:=top 34
abbrev aP9:Stmt:=top 59
abbrev aF6:Stmt:=top 56
abbrev bR2:Stmt:=top 61
theorem bF0:m7 ["script", "cell", "k", "way"] ["script", "cell", "k"] (j6 aV2):=by walk_at "sc"
theorem bE3:m7 ["hand", "limit", "got"] ["hand", "limit"] (j6 aU4):=by walk_at "sc"
theorem aV1:m7 ["hand"] ["hand"] (j6 aM5):=by walk_at "sc"
theorem aR5:m7 ["hand", "least", "most", "text", "k"] ["hand", "least", "most"] (j6 aJ6):=by walk_at "sc"
theorem bE1:m7 ["hand"] ["hand"] (j6 aT9):=by walk_at "sc"
theorem aY9:m7 ["hand", "some", "k", "name"] ["hand"] (j6 aO5):=by walk_at "sc"
theorem aY2:m7 ["hand", "deep", "kind", "many"] ["hand", "deep"] (j6 aE1):=by walk_at "sc"
theorem aN0:m7 ["lists"] ["lists"] (j6 aH3):=by walk_at "sc"
theorem aK0:m7 ["records"] ["records"] (j6 aE3):=by walk_at "sc"
theorem cZ5:m7 ["numbers", "texts", "truths", "lists", "records", "parts"] ["numbers", "texts", "truths", "lists", "records"] (j6 cR4):=by walk_at "sc"
theorem aV3:m7 ["fields", "more"] ["fields", "more"] (j6 aM3):=by walk_at "sc"
theorem bK4:m7 ["low", "high"] ["low", "high"] (j6 bA0):=by walk_at "sc"
theorem bP6:m7 ["low", "high"] ["low", "high"] (j6 bG0):=by walk_at "sc"
theorem bE4:m7 ["fronts", "more"] ["fronts", "more"] (j6 aT5):=by walk_at "sc"
theorem cC1:m7 ["value"] ["value"] (j6 aU9):=by walk_at "sc"
theorem bC0:m7 ["hand", "value", "at", "inner", "kind"] ["hand", "value"] (j6 aG8):=by walk_at "sc"
theorem bJ5:m7 ["kind"] ["kind"] (j6 aZ5):=by walk_at "sc"
theorem aR3:m7 [] [] (j6 aJ4):=by walk_at "sc"
theorem aZ1:m7 ["number", "low", "high"] ["number", "low", "high"] (j6 aO7):=by walk_at "sc"
theorem bI8:m7 ["lists", "place"] ["lists", "place"] (j6 bA1):=by walk_at "sc"
theorem aL9:m7 ["records"] ["records"] (j6 aF7):=by walk_at "sc"
theorem bI2:m7 ["told", "more", "name"] ["told", "more", "name"] (j6 aZ4):=by walk_at "sc"
theorem bS3:m7 ["value", "some"] ["value", "some"] (j6 aN2):=by walk_at "sc"
theorem aR2:m7 ["values", "lists"] ["values", "lists"] (j6 V0):=by walk_at "sc"
theorem aL2:m7 ["pairs", "records", "there", "told"] ["pairs", "records"] (j6 S5):=by walk_at "sc"
theorem aY8:m7 ["value", "none", "fronts", "fields"] ["value"] (j6 aE6):=by walk_at "sc"
theorem aJ1:m7 ["one", "other"] ["one", "other"] (j6 aD2):=by walk_at "sc"
theorem bF2:m7 ["thing"] ["thing"] (j6 aW0):=by walk_at "sc"
theorem aL6:m7 ["thing"] ["thing"] (j6 aG1):=by walk_at "sc"
theorem bZ2:m7 ["keys"] ["keys"] (j6 bS5):=by walk_at "sc"
theorem bJ0:m7 ["pairs"] ["pairs"] (j6 aZ6):=by walk_at "sc"
theorem bP8:m7 ["thing"] ["thing"] (j6 bF4):=by walk_at "sc"
theorem bS1:m7 ["thing"] ["thing"] (j6 bH7):=by walk_at "sc"
theorem bK1:m7 ["thing"] ["thing"] (j6 aZ9):=by walk_at "sc"
theorem aH9:m7 ["thing"] ["thing"] (j6 aB3):=by walk_at "sc"
theorem aY3:m7 ["lower", "upper"] ["lower", "upper"] (j6 aP4):=by walk_at "sc"
theorem bI5:m7 ["thing"] ["thing"] (j6 aZ2):=by walk_at "sc"
theorem cB2:m7 ["thing"] ["thing"] (j6 bQ3):=by walk_at "sc"
theorem aX9:m7 ["thing"] ["thing"] (j6 aQ5):=by walk_at "sc"
theorem aY0:m7 ["thing"] ["thing"] (j6 aP7):=by walk_at "sc"
theorem bC9:m7 ["thing", "word"] ["thing", "word"] (j6 aT6):=by walk_at "sc"
theorem aY5:m7 ["text"] ["text"] (j6 aR0):=by walk_at "sc"
theorem bJ6:m7 ["thing"] ["thing"] (j6 bB0):=by walk_at "sc"
theorem bE9:m7 ["thing"] ["thing"] (j6 aT0):=by walk_at "sc"
theorem aR4:m7 ["thing"] ["thing"] (j6 aK3):=by walk_at "sc"
theorem aY4:m7 ["thing", "inner"] ["thing"] (j6 aQ2):=by walk_at "sc"
theorem bJ9:m7 ["one", "other", "waiting", "pair"] ["one", "other"] (j6 bA4):=by walk_at "sc"
theorem cA5:m7 ["field", "more"] ["field", "more"] (j6 bR1):=by walk_at "sc"
theorem aR7:m7 ["some"] ["some"] (j6 aJ9):=by walk_at "sc"
theorem cA7:m7 ["thing", "found", "waiting", "some"] ["thing"] (j6 bR7):=by walk_at "sc"
theorem aY1:m7 ["value", "number", "told"] ["value"] (j6 aP9):=by walk_at "sc"
theorem aY6:m7 ["one", "other"] ["one", "other"] (j6 aF6):=by walk_at "sc"
theorem dR7:m7 ["script", "every", "words", "at", "due", "k", "cell", "hand", "value", "some", "near", "one", "got", "low", "high"] ["script"] (j6 bR2):=by walk_at "sc"
section
variable{P:Program}{w:World}{K:PySem.W.Frag}{mg:Str→Option Value}{base:Heap}{a:Addr}{d:FuncData}(zb:BC w K mg)
include zb
theorem cI3(c:FF K mg "_law_hand" aV2 ["script", "cell", "k"] a d):J8 P w K mg base CX0 1 a d ["script", "cell", "k"] (spD ⟨K,mg⟩ 3 aG9):=by
 unfold aG9
 exact R1 c bF0 rfl rfl fun _ _ _ _ _ _ _=>by obtain⟨_,_,_,_,_⟩:=zb;have:=bF0;unfold aU2;walk_at "db0"
theorem cG3(c:FF K mg "_law_draw" aU4 ["hand", "limit"] a d):J8 P w K mg base CX0 1 a d ["hand", "limit"] (spD ⟨K,mg⟩ 2 j8):=by
 unfold j8
 exact R1 c bE3 rfl rfl fun _ _ _ _ _ _ _=>by obtain⟨_,_,_,_,_⟩:=zb;have:=bE3;unfold aT2;walk_at "db0"
theorem bU4(c:FF K mg "_law_number" aM5 ["hand"] a d)(k1:b8 j8 2 "_law_draw" P w K mg base 1):J8 P w K mg base CX0 2 a d ["hand"] (spD ⟨K,mg⟩ 1 Q0):=by
 unfold Q0
 exact R1 c aV1 rfl rfl fun _ _ _ _ _ _ _=>by obtain⟨_,_,_,_,_⟩:=zb;have:=aV1;unfold aM2;walk_at "db0"
theorem bL5(c:FF K mg "_law_letters" aJ6 ["hand", "least", "most"] a d)(k1:b8 j8 2 "_law_draw" P w K mg base 1):J8 P w K mg base CX0 2 a d ["hand", "least", "most"] (spD ⟨K,mg⟩ 3 T3):=by
 unfold T3
 exact R1 c aR5 rfl rfl fun _ _ _ _ _ _ _=>by obtain⟨_,_,_,_,_⟩:=zb;have:=aR5;unfold aF1;unfold LT;walk_at "db0"
theorem cG9(c:FF K mg "_law_text" aT9 ["hand"] a d)(k1:b8 j8 2 "_law_draw" P w K mg base 1)(k3:b8 T3 3 "_law_letters" P w K mg base 2):J8 P w K mg base CX0 3 a d ["hand"] (spD ⟨K,mg⟩ 1 Z3):=by
 unfold Z3
 exact R1 c bE1 rfl rfl fun _ _ _ _ _ _ _=>by obtain⟨_,_,_,_,_⟩:=zb;have:=bE1;unfold aS5;walk_at "db0"
theorem bV8(c:FF K mg "_law_names" aO5 ["hand"] a d)(k1:b8 j8 2 "_law_draw" P w K mg base 1)(k3:b8 T3 3 "_law_letters" P w K mg base 2):J8 P w K mg base CX0 3 a d ["hand"] (spD ⟨K,mg⟩ 1 W4):=by
 unfold W4
 exact R1 c aY9 rfl rfl fun _ _ _ _ _ _ _=>by obtain⟨_,_,_,_,_⟩:=zb;have:=aY9;unfold aI0;unfold NB;walk_at "db0"
theorem bL2(c:FF K mg "_law_value" aE1 ["hand", "deep"] a d)(k1:b8 j8 2 "_law_draw" P w K mg base 1)(k2:b8 Q0 1 "_law_number" P w K mg base 2)(k4:b8 Z3 1 "_law_text" P w K mg base 3)(k5:b8 W4 1 "_law_names" P w K mg base 3){R:List D→M D}{lv kk:Nat}(k_R:b8 R 2 "_law_value" P w K mg base lv)(h1:lv≤kk)(h2:3≤kk):J8 P w K mg base CX0 (kk+1) a d ["hand", "deep"] (spD ⟨K,mg⟩ 2 (t8 4 (aC8 R))):=
 R1 c aY2 rfl rfl fun _ _ _ _ _ _ _=>by obtain⟨_,_,_,_,_⟩:=zb;have:=aY2;unfold aC8;unfold VA VC;walk_at "db0"
theorem aT7(c:FF K mg "_law_value" aE1 ["hand", "deep"] a d)(k1:b8 j8 2 "_law_draw" P w K mg base 1)(k2:b8 Q0 1 "_law_number" P w K mg base 2)(k4:b8 Z3 1 "_law_text" P w K mg base 3)(k5:b8 W4 1 "_law_names" P w K mg base 3):∀n,J8 P w K mg base CX0 (3+n) a d ["hand", "deep"] (spD ⟨K,mg⟩ 2 (W6 n))
 |0=>aN8 rfl
 |n+1=>bL2 zb c k1 k2 k4 k5 (b8.of c (aT7 c k1 k2 k4 k5 n)) (Nat.le_refl _) (Nat.le_add_right _ _)
theorem bW4(c:FF K mg "_law_value" aE1 ["hand", "deep"] a d)(k1:b8 j8 2 "_law_draw" P w K mg base 1)(k2:b8 Q0 1 "_law_number" P w K mg base 2)(k4:b8 Z3 1 "_law_text" P w K mg base 3)(k5:b8 W4 1 "_law_names" P w K mg base 3):J8 P w K mg base CX0 9 a d ["hand", "deep"] (spD ⟨K,mg⟩ 2 aQ8):=aT7 zb c k1 k2 k4 k5 6
theorem bH2(c:FF K mg "lists_in_form" aH3 ["lists"] a d):J8 P w K mg base CX0 1 a d ["lists"] (spD ⟨K,mg⟩ 1 X5):=by
 unfold X5
 exact R1 c aN0 rfl rfl fun _ _ _ _ _ _ _=>by obtain⟨_,_,_,_,_⟩:=zb;have:=aN0;unfold aH5;walk_at "db0"
theorem bA9(c:FF K mg "records_in_form" aE3 ["records"] a d):J8 P w K mg base CX0 1 a d ["records"] (spD ⟨K,mg⟩ 1 U3):=by
 unfold U3
 exact R1 c aK0 rfl rfl fun _ _ _ _ _ _ _=>by obtain⟨_,_,_,_,_⟩:=zb;have:=aK0;unfold aD0;walk_at "db0"
theorem dZ9(c:FF K mg "made" cR4 ["numbers", "texts", "truths", "lists", "records"] a d)(k7:b8 X5 1 "lists_in_form" P w K mg base 1)(k8:b8 U3 1 "records_in_form" P w K mg base 1):J8 P w K mg base CX0 2 a d ["numbers", "texts", "truths", "lists", "records"] (spD ⟨K,mg⟩ 5 aB1):=by
 unfold aB1
 exact R1 c cZ5 rfl rfl fun _ _ _ _ _ _ _=>by obtain⟨_,_,_,_,_⟩:=zb;have:=cZ5;unfold cQ7;walk_at "db0"
theorem bR6(c:FF K mg "records_set" aM3 ["fields", "more"] a d)(k9:b8 aB1 5 "made" P w K mg base 2):J8 P w K mg base CX0 3 a d ["fields", "more"] (spD ⟨K,mg⟩ 2 U5):=by
 unfold U5
 exact R1 c aV3 rfl rfl fun _ _ _ _ _ _ _=>by obtain⟨_,_,_,_,_⟩:=zb;have:=aV3;unfold aG4;walk_at "db0"
theorem cJ7(c:FF K mg "is_empty" bA0 ["low", "high"] a d):J8 P w K mg base CX0 1 a d ["low", "high"] (spD ⟨K,mg⟩ 2 U4):=by
 unfold U4
 exact R1 c bK4 rfl rfl fun _ _ _ _ _ _ _=>by obtain⟨_,_,_,_,_⟩:=zb;have:=bK4;unfold bU5;walk_at "db0"
theorem cT8(c:FF K mg "stretch" bG0 ["low", "high"] a d)(k11:b8 U4 2 "is_empty" P w K mg base 1)(k9:b8 aB1 5 "made" P w K mg base 2):J8 P w K mg base CX0 3 a d ["low", "high"] (spD ⟨K,mg⟩ 2 Q8):=by
 unfold Q8
 exact R1 c bP6 rfl rfl fun _ _ _ _ _ _ _=>by obtain⟨_,_,_,_,_⟩:=zb;have:=bP6;unfold aI5;walk_at "db0"
theorem cE5(c:FF K mg "lists_set" aT5 ["fronts", "more"] a d)(k9:b8 aB1 5 "made" P w K mg base 2):J8 P w K mg base CX0 3 a d ["fronts", "more"] (spD ⟨K,mg⟩ 2 Z4):=by
 unfold Z4
 exact R1 c bE4 rfl rfl fun _ _ _ _ _ _ _=>by obtain⟨_,_,_,_,_⟩:=zb;have:=bE4;unfold aL5;walk_at "db0"
theorem cP7(c:FF K mg "set_of" aU9 ["value"] a d)(k10:b8 U5 2 "records_set" P w K mg base 3)(k9:b8 aB1 5 "made" P w K mg base 2)(k12:b8 Q8 2 "stretch" P w K mg base 3)(k13:b8 Z4 2 "lists_set" P w K mg base 3){R:List D→M D}{lv kk:Nat}(k_R:b8 R 1 "set_of" P w K mg base lv)(h1:lv≤kk)(h2:3≤kk):J8 P w K mg base CX0 (kk+1) a d ["value"] (spD ⟨K,mg⟩ 1 (t8 1 (aV8 R))):=
 R1 c cC1 rfl rfl fun _ _ _ _ _ _ _=>by obtain⟨_,_,_,_,_⟩:=zb;have:=cC1;unfold aV8;walk_at "db0"
theorem bR5(c:FF K mg "set_of" aU9 ["value"] a d)(k10:b8 U5 2 "records_set" P w K mg base 3)(k9:b8 aB1 5 "made" P w K mg base 2)(k12:b8 Q8 2 "stretch" P w K mg base 3)(k13:b8 Z4 2 "lists_set" P w K mg base 3):∀n,J8 P w K mg base CX0 (3+n) a d ["value"] (spD ⟨K,mg⟩ 1 (aU7 n))
 |0=>aN8 rfl
 |n+1=>cP7 zb c k10 k9 k12 k13 (b8.of c (bR5 c k10 k9 k12 k13 n)) (Nat.le_refl _) (Nat.le_add_right _ _)
theorem dE0(c:FF K mg "set_of" aU9 ["value"] a d)(k10:b8 U5 2 "records_set" P w K mg base 3)(k9:b8 aB1 5 "made" P w K mg base 2)(k12:b8 Q8 2 "stretch" P w K mg base 3)(k13:b8 Z4 2 "lists_set" P w K mg base 3):J8 P w K mg base CX0 9 a d ["value"] (spD ⟨K,mg⟩ 1 bD3):=bR5 zb c k10 k9 k12 k13 6
theorem bO5(c:FF K mg "_law_near" aG8 ["hand", "value"] a d)(k1:b8 j8 2 "_law_draw" P w K mg base 1){R:List D→M D}{lv kk:Nat}(k_R:b8 R 2 "_law_near" P w K mg base lv)(h1:lv≤kk)(h2:1≤kk):J8 P w K mg base CX0 (kk+1) a d ["hand", "value"] (spD ⟨K,mg⟩ 2 (t8 5 (aG7 R))):=
 R1 c bC0 rfl rfl fun _ _ _ _ _ _ _=>by obtain⟨_,_,_,_,_⟩:=zb;have:=bC0;unfold aG7;unfold NL EB EI ES EL ER NA NA2 NA3 NA4 NT;walk_at "db0"
theorem aX8(c:FF K mg "_law_near" aG8 ["hand", "value"] a d)(k1:b8 j8 2 "_law_draw" P w K mg base 1):∀n,J8 P w K mg base CX0 (1+n) a d ["hand", "value"] (spD ⟨K,mg⟩ 2 (aC1 n))
 |0=>aN8 rfl
 |n+1=>bO5 zb c k1 (b8.of c (aX8 c k1 n)) (Nat.le_refl _) (Nat.le_add_right _ _)
theorem cI4(c:FF K mg "_law_near" aG8 ["hand", "value"] a d)(k1:b8 j8 2 "_law_draw" P w K mg base 1):J8 P w K mg base CX0 9 a d ["hand", "value"] (spD ⟨K,mg⟩ 2 aB8):=aX8 zb c k1 8
theorem cN1(c:FF K mg "kind_set" aZ5 ["kind"] a d):J8 P w K mg base CX0 1 a d ["kind"] (spD ⟨K,mg⟩ 1 aB2):=by
 unfold aB2
 exact R1 c bJ5 rfl rfl fun _ _ _ _ _ _ _=>by obtain⟨_,_,_,_,_⟩:=zb;have:=bJ5;unfold aQ3;walk_at "db0"
theorem bK8(c:FF K mg "_law_nothing" aJ4 [] a d):J8 P w K mg base CX0 1 a d [] (spD ⟨K,mg⟩ 0 M4):=by
 unfold M4
 exact R1 c aR3 rfl rfl fun _ _ _ _ _ _ _=>by obtain⟨_,_,_,_,_⟩:=zb;have:=aR3;unfold aS2;walk_at "db0"
theorem bW8(c:FF K mg "is_between" aO7 ["number", "low", "high"] a d)(k11:b8 U4 2 "is_empty" P w K mg base 1):J8 P w K mg base CX0 2 a d ["number", "low", "high"] (spD ⟨K,mg⟩ 3 R7):=by
 unfold R7
 exact R1 c aZ1 rfl rfl fun _ _ _ _ _ _ _=>by obtain⟨_,_,_,_,_⟩:=zb;have:=aZ1;unfold aP2;walk_at "db0"
theorem cQ4(c:FF K mg "front_at" bA1 ["lists", "place"] a d):J8 P w K mg base CX0 1 a d ["lists", "place"] (spD ⟨K,mg⟩ 2 W8):=by
 unfold W8
 exact R1 c bI8 rfl rfl fun _ _ _ _ _ _ _=>by obtain⟨_,_,_,_,_⟩:=zb;have:=bI8;unfold aZ8;walk_at "db0"
theorem bB5(c:FF K mg "fields_by_name" aF7 ["records"] a d):J8 P w K mg base CX0 1 a d ["records"] (spD ⟨K,mg⟩ 1 K6):=by
 unfold K6
 exact R1 c aL9 rfl rfl fun _ _ _ _ _ _ _=>by obtain⟨_,_,_,_,_⟩:=zb;have:=aL9;unfold aG2;walk_at "db0"
theorem cQ5(c:FF K mg "field_of" aZ4 ["told", "more", "name"] a d):J8 P w K mg base CX0 1 a d ["told", "more", "name"] (spD ⟨K,mg⟩ 3 W3):=by
 unfold W3
 exact R1 c bI2 rfl rfl fun _ _ _ _ _ _ _=>by obtain⟨_,_,_,_,_⟩:=zb;have:=bI2;unfold bA5;walk_at "db0"
theorem aN7(c:FF K mg "list_lies_in" V0 ["values", "lists"] a d)(k19:b8 W8 2 "front_at" P w K mg base 1){R:List D→M D}{lv:Nat}(k_R:b8 R 2 "lies_in" P w K mg base lv)(h2:2≤lv):J8 P w K mg base CX0 (lv+1) a d ["values", "lists"] (spD ⟨K,mg⟩ 2 (S6 R)):=by
 unfold S6
 exact R1 c aR2 rfl rfl fun _ _ _ _ _ _ _=>by obtain⟨_,_,_,_,_⟩:=zb;have:=aR2;unfold aJ0;walk_at "db0"
theorem aJ7(c:FF K mg "record_lies_in" S5 ["pairs", "records"] a d)(k20:b8 K6 1 "fields_by_name" P w K mg base 1)(k21:b8 W3 3 "field_of" P w K mg base 1){R:List D→M D}{lv:Nat}(k_R:b8 R 2 "lies_in" P w K mg base lv)(h2:2≤lv):J8 P w K mg base CX0 (lv+1) a d ["pairs", "records"] (spD ⟨K,mg⟩ 2 (Q6 R)):=by
 unfold Q6
 exact R1 c aL2 rfl rfl fun _ _ _ _ _ _ _=>by obtain⟨_,_,_,_,_⟩:=zb;have:=aL2;unfold aA0;unfold RZ RA;walk_at "db0"
theorem cG4(c:FF K mg "lies_in" aN2 ["value", "some"] a d)(k18:b8 R7 3 "is_between" P w K mg base 2){R:List D→M D}{lv:Nat}(k_R:b8 R 2 "lies_in" P w K mg base lv)(k23:b8 (S6 R) 2 "list_lies_in" P w K mg base (lv+1))(k24:b8 (Q6 R) 2 "record_lies_in" P w K mg base (lv+1))(h2:2≤lv):J8 P w K mg base CX0 (lv+2) a d ["value", "some"] (spD ⟨K,mg⟩ 2 (t8 2 (aM8 R))):=
 R1 c bS3 rfl rfl fun _ _ _ _ _ _ _=>by obtain⟨_,_,_,_,_⟩:=zb;have:=bS3;unfold aM8;walk_at "db0"
theorem bI1(c:FF K mg "lies_in" aN2 ["value", "some"] a d){a23:Addr}{d23:FuncData}(c23:FF K mg "list_lies_in" V0 ["values", "lists"] a23 d23){a24:Addr}{d24:FuncData}(c24:FF K mg "record_lies_in" S5 ["pairs", "records"] a24 d24)(k18:b8 R7 3 "is_between" P w K mg base 2)(k19:b8 W8 2 "front_at" P w K mg base 1)(k20:b8 K6 1 "fields_by_name" P w K mg base 1)(k21:b8 W3 3 "field_of" P w K mg base 1):∀n,J8 P w K mg base CX0 (2+2*n) a d ["value", "some"] (spD ⟨K,mg⟩ 2 (aW9 n))
 |0=>aN8 rfl
 |n+1=>by
   have kR:=b8.of c (bI1 c c23 c24 k18 k19 k20 k21 n)
   have h23:=b8.of c23 (aN7 zb c23 k19 kR (Nat.le_add_right _ _))
   have h24:=b8.of c24 (aJ7 zb c24 k20 k21 kR (Nat.le_add_right _ _))
   exact cG4 zb c k18 kR h23 h24 (Nat.le_add_right _ _)
theorem cU5(c:FF K mg "lies_in" aN2 ["value", "some"] a d){a23:Addr}{d23:FuncData}(c23:FF K mg "list_lies_in" V0 ["values", "lists"] a23 d23){a24:Addr}{d24:FuncData}(c24:FF K mg "record_lies_in" S5 ["pairs", "records"] a24 d24)(k18:b8 R7 3 "is_between" P w K mg base 2)(k19:b8 W8 2 "front_at" P w K mg base 1)(k20:b8 K6 1 "fields_by_name" P w K mg base 1)(k21:b8 W3 3 "field_of" P w K mg base 1):J8 P w K mg base CX0 122 a d ["value", "some"] (spD ⟨K,mg⟩ 2 aC2):=bI1 zb c c23 c24 k18 k19 k20 k21 60
theorem bK5(c:FF K mg "list_lies_in" V0 ["values", "lists"] a d)(k19:b8 W8 2 "front_at" P w K mg base 1)(k22:b8 aC2 2 "lies_in" P w K mg base 122):J8 P w K mg base CX0 123 a d ["values", "lists"] (spD ⟨K,mg⟩ 2 bU3):=aN7 zb c k19 k22 (by decide)
theorem bE5(c:FF K mg "record_lies_in" S5 ["pairs", "records"] a d)(k20:b8 K6 1 "fields_by_name" P w K mg base 1)(k21:b8 W3 3 "field_of" P w K mg base 1)(k22:b8 aC2 2 "lies_in" P w K mg base 122):J8 P w K mg base CX0 123 a d ["pairs", "records"] (spD ⟨K,mg⟩ 2 bG9):=aJ7 zb c k20 k21 k22 (by decide)
theorem bM0(c:FF K mg "_law_alone" aE6 ["value"] a d)(k17:b8 M4 0 "_law_nothing" P w K mg base 1){R:List D→M D}{lv kk:Nat}(k_R:b8 R 1 "_law_alone" P w K mg base lv)(h1:lv≤kk)(h2:1≤kk):J8 P w K mg base CX0 (kk+1) a d ["value"] (spD ⟨K,mg⟩ 1 (t8 4 (aE5 R))):=
 R1 c aY8 rfl rfl fun _ _ _ _ _ _ _=>by obtain⟨_,_,_,_,_⟩:=zb;have:=aY8;unfold aE5;walk_at "db0"
theorem aU8(c:FF K mg "_law_alone" aE6 ["value"] a d)(k17:b8 M4 0 "_law_nothing" P w K mg base 1):∀n,J8 P w K mg base CX0 (1+n) a d ["value"] (spD ⟨K,mg⟩ 1 (aE4 n))
 |0=>aN8 rfl
 |n+1=>bM0 zb c k17 (b8.of c (aU8 c k17 n)) (Nat.le_refl _) (Nat.le_add_right _ _)
theorem bU6(c:FF K mg "_law_alone" aE6 ["value"] a d)(k17:b8 M4 0 "_law_nothing" P w K mg base 1):J8 P w K mg base CX0 7 a d ["value"] (spD ⟨K,mg⟩ 1 aC7):=aU8 zb c k17 6
theorem bA7(c:FF K mg "_law_same_kinds" aD2 ["one", "other"] a d):J8 P w K mg base CX0 1 a d ["one", "other"] (spD ⟨K,mg⟩ 2 T9):=by
 unfold T9
 exact R1 c aJ1 rfl rfl fun _ _ _ _ _ _ _=>by obtain⟨_,_,_,_,_⟩:=zb;have:=aJ1;unfold X8;walk_at "db0"
theorem cG8(c:FF K mg "is_couple" aW0 ["thing"] a d):J8 P w K mg base CX0 1 a d ["thing"] (spD ⟨K,mg⟩ 1 aC3):=by
 unfold aC3
 exact R1 c bF2 rfl rfl fun _ _ _ _ _ _ _=>by obtain⟨_,_,_,_,_⟩:=zb;have:=bF2;unfold bK3;walk_at "db0"
theorem bC8(c:FF K mg "has_lists_form" aG1 ["thing"] a d)(k27:b8 aC3 1 "is_couple" P w K mg base 1):J8 P w K mg base CX0 2 a d ["thing"] (spD ⟨K,mg⟩ 1 U7):=by
 unfold U7
 exact R1 c aL6 rfl rfl fun _ _ _ _ _ _ _=>by obtain⟨_,_,_,_,_⟩:=zb;have:=aL6;unfold aN6;walk_at "db0"
theorem dI2(c:FF K mg "rising" bS5 ["keys"] a d):J8 P w K mg base CX0 1 a d ["keys"] (spD ⟨K,mg⟩ 1 aC9):=by
 unfold aC9
 exact R1 c bZ2 rfl rfl fun _ _ _ _ _ _ _=>by obtain⟨_,_,_,_,_⟩:=zb;have:=bZ2;unfold cN6;walk_at "db0"
theorem cP3(c:FF K mg "names_of" aZ6 ["pairs"] a d):J8 P w K mg base CX0 1 a d ["pairs"] (spD ⟨K,mg⟩ 1 aK6):=by
 unfold aK6
 exact R1 c bJ0 rfl rfl fun _ _ _ _ _ _ _=>by obtain⟨_,_,_,_,_⟩:=zb;have:=bJ0;unfold bS7;walk_at "db0"
theorem cV4(c:FF K mg "is_text" bF4 ["thing"] a d):J8 P w K mg base CX0 1 a d ["thing"] (spD ⟨K,mg⟩ 1 aF8):=by
 unfold aF8
 exact R1 c bP8 rfl rfl fun _ _ _ _ _ _ _=>by obtain⟨_,_,_,_,_⟩:=zb;have:=bP8;unfold cA3;walk_at "db0"
theorem cS1(c:FF K mg "is_name" bH7 ["thing"] a d)(k31:b8 aF8 1 "is_text" P w K mg base 1):J8 P w K mg base CX0 2 a d ["thing"] (spD ⟨K,mg⟩ 1 aN9):=by
 unfold aN9
 exact R1 c bS1 rfl rfl fun _ _ _ _ _ _ _=>by obtain⟨_,_,_,_,_⟩:=zb;have:=bS1;unfold bY0;walk_at "db0"
theorem cM1(c:FF K mg "is_field" aZ9 ["thing"] a d)(k32:b8 aN9 1 "is_name" P w K mg base 2):J8 P w K mg base CX0 3 a d ["thing"] (spD ⟨K,mg⟩ 1 aK8):=by
 unfold aK8
 exact R1 c bK1 rfl rfl fun _ _ _ _ _ _ _=>by obtain⟨_,_,_,_,_⟩:=zb;have:=bK1;unfold bP3;walk_at "db0"
theorem aX6(c:FF K mg "has_records_form" aB3 ["thing"] a d)(k29:b8 aC9 1 "rising" P w K mg base 1)(k30:b8 aK6 1 "names_of" P w K mg base 1)(k27:b8 aC3 1 "is_couple" P w K mg base 1)(k33:b8 aK8 1 "is_field" P w K mg base 3):J8 P w K mg base CX0 4 a d ["thing"] (spD ⟨K,mg⟩ 1 S9):=by
 unfold S9
 exact R1 c aH9 rfl rfl fun _ _ _ _ _ _ _=>by obtain⟨_,_,_,_,_⟩:=zb;have:=aH9;unfold aK5;walk_at "db0"
theorem bV9(c:FF K mg "lies_clear" aP4 ["lower", "upper"] a d):J8 P w K mg base CX0 1 a d ["lower", "upper"] (spD ⟨K,mg⟩ 2 aD8):=by
 unfold aD8
 exact R1 c aY3 rfl rfl fun _ _ _ _ _ _ _=>by obtain⟨_,_,_,_,_⟩:=zb;have:=aY3;unfold bD5;walk_at "db0"
theorem cO8(c:FF K mg "is_whole" aZ2 ["thing"] a d):J8 P w K mg base CX0 1 a d ["thing"] (spD ⟨K,mg⟩ 1 aO4):=by
 unfold aO4
 exact R1 c bI5 rfl rfl fun _ _ _ _ _ _ _=>by obtain⟨_,_,_,_,_⟩:=zb;have:=bI5;unfold bN7;walk_at "db0"
theorem dI9(c:FF K mg "is_end" bQ3 ["thing"] a d)(k36:b8 aO4 1 "is_whole" P w K mg base 1):J8 P w K mg base CX0 2 a d ["thing"] (spD ⟨K,mg⟩ 1 aS8):=by
 unfold aS8
 exact R1 c cB2 rfl rfl fun _ _ _ _ _ _ _=>by obtain⟨_,_,_,_,_⟩:=zb;have:=cB2;unfold cP9;walk_at "db0"
theorem bW0(c:FF K mg "is_stretch" aQ5 ["thing"] a d)(k11:b8 U4 2 "is_empty" P w K mg base 1)(k37:b8 aS8 1 "is_end" P w K mg base 2):J8 P w K mg base CX0 3 a d ["thing"] (spD ⟨K,mg⟩ 1 aE0):=by
 unfold aE0
 exact R1 c aX9 rfl rfl fun _ _ _ _ _ _ _=>by obtain⟨_,_,_,_,_⟩:=zb;have:=aX9;unfold bE6;walk_at "db0"
theorem bV7(c:FF K mg "is_numbers" aP7 ["thing"] a d)(k35:b8 aD8 2 "lies_clear" P w K mg base 1)(k38:b8 aE0 1 "is_stretch" P w K mg base 3):J8 P w K mg base CX0 4 a d ["thing"] (spD ⟨K,mg⟩ 1 aD4):=by
 unfold aD4
 exact R1 c aY0 rfl rfl fun _ _ _ _ _ _ _=>by obtain⟨_,_,_,_,_⟩:=zb;have:=aY0;unfold bD0;walk_at "db0"
theorem cF5(c:FF K mg "is_tagged" aT6 ["thing", "word"] a d):J8 P w K mg base CX0 1 a d ["thing", "word"] (spD ⟨K,mg⟩ 2 aH0):=by
 unfold aH0
 exact R1 c bC9 rfl rfl fun _ _ _ _ _ _ _=>by obtain⟨_,_,_,_,_⟩:=zb;have:=bC9;unfold bJ1;walk_at "db0"
theorem bV2(c:FF K mg "text_order" aR0 ["text"] a d):J8 P w K mg base CX0 1 a d ["text"] (spD ⟨K,mg⟩ 1 aD3):=by
 unfold aD3
 exact R1 c aY5 rfl rfl fun _ _ _ _ _ _ _=>by obtain⟨_,_,_,_,_⟩:=zb;have:=aY5;unfold bB2;walk_at "db0"
theorem cJ9(c:FF K mg "is_texts" bB0 ["thing"] a d)(k29:b8 aC9 1 "rising" P w K mg base 1)(k40:b8 aH0 2 "is_tagged" P w K mg base 1)(k41:b8 aD3 1 "text_order" P w K mg base 1)(k31:b8 aF8 1 "is_text" P w K mg base 1):J8 P w K mg base CX0 2 a d ["thing"] (spD ⟨K,mg⟩ 1 aJ3):=by
 unfold aJ3
 exact R1 c bJ6 rfl rfl fun _ _ _ _ _ _ _=>by obtain⟨_,_,_,_,_⟩:=zb;have:=bJ6;unfold bP5;walk_at "db0"
theorem cI7(c:FF K mg "is_truths" aT0 ["thing"] a d)(k29:b8 aC9 1 "rising" P w K mg base 1):J8 P w K mg base CX0 2 a d ["thing"] (spD ⟨K,mg⟩ 1 aG5):=by
 unfold aG5
 exact R1 c bE9 rfl rfl fun _ _ _ _ _ _ _=>by obtain⟨_,_,_,_,_⟩:=zb;have:=bE9;unfold bI3;walk_at "db0"
theorem bK9(c:FF K mg "has_set_form" aK3 ["thing"] a d)(k28:b8 U7 1 "has_lists_form" P w K mg base 2)(k34:b8 S9 1 "has_records_form" P w K mg base 4)(k39:b8 aD4 1 "is_numbers" P w K mg base 4)(k42:b8 aJ3 1 "is_texts" P w K mg base 2)(k43:b8 aG5 1 "is_truths" P w K mg base 2):J8 P w K mg base CX0 5 a d ["thing"] (spD ⟨K,mg⟩ 1 S8):=by
 unfold S8
 exact R1 c aR4 rfl rfl fun _ _ _ _ _ _ _=>by obtain⟨_,_,_,_,_⟩:=zb;have:=aR4;unfold aV7;walk_at "db0"
theorem bW1(c:FF K mg "inner_sets" aQ2 ["thing"] a d):J8 P w K mg base CX0 1 a d ["thing"] (spD ⟨K,mg⟩ 1 aF0):=by
 unfold aF0
 exact R1 c aY4 rfl rfl fun _ _ _ _ _ _ _=>by obtain⟨_,_,_,_,_⟩:=zb;have:=aY4;unfold aE2;unfold IR IL;walk_at "db0"
theorem cO1(c:FF K mg "same_set" bA4 ["one", "other"] a d):J8 P w K mg base CX0 1 a d ["one", "other"] (spD ⟨K,mg⟩ 2 aQ9):=by
 unfold aQ9
 exact R1 c bJ9 rfl rfl fun _ _ _ _ _ _ _=>by obtain⟨_,_,_,_,_⟩:=zb;have:=bJ9;unfold bT4;walk_at "db0"
theorem dF2(c:FF K mg "is_due" bR1 ["field", "more"] a d)(k46:b8 aQ9 2 "same_set" P w K mg base 1):J8 P w K mg base CX0 2 a d ["field", "more"] (spD ⟨K,mg⟩ 2 aN5):=by
 unfold aN5
 exact R1 c cA5 rfl rfl fun _ _ _ _ _ _ _=>by obtain⟨_,_,_,_,_⟩:=zb;have:=cA5;unfold cP5;walk_at "db0"
theorem bL1(c:FF K mg "has_one_form" aJ9 ["some"] a d)(k47:b8 aN5 2 "is_due" P w K mg base 2):J8 P w K mg base CX0 3 a d ["some"] (spD ⟨K,mg⟩ 1 V5):=by
 unfold V5
 exact R1 c aR7 rfl rfl fun _ _ _ _ _ _ _=>by obtain⟨_,_,_,_,_⟩:=zb;have:=aR7;unfold aT3;walk_at "db0"
theorem dI5(c:FF K mg "is_set" bR7 ["thing"] a d)(k44:b8 S8 1 "has_set_form" P w K mg base 5)(k45:b8 aF0 1 "inner_sets" P w K mg base 1)(k48:b8 V5 1 "has_one_form" P w K mg base 3):J8 P w K mg base CX0 6 a d ["thing"] (spD ⟨K,mg⟩ 1 aT1):=by
 unfold aT1
 exact R1 c cA7 rfl rfl fun _ _ _ _ _ _ _=>by obtain⟨_,_,_,_,_⟩:=zb;have:=cA7;unfold bB3;unfold V4 V2 V3 Z1;walk_at "db0"
theorem bU8(c:FF K mg "_law_kinds" aP9 ["value"] a d):J8 P w K mg base CX0 1 a d ["value"] (spD ⟨K,mg⟩ 1 aA3):=by
 unfold aA3
 exact R1 c aY1 rfl rfl fun _ _ _ _ _ _ _=>by obtain⟨_,_,_,_,_⟩:=zb;have:=aY1;unfold W7;unfold K3 KE;walk_at "db0"
theorem bL3(c:FF K mg "_law_alike" aF6 ["one", "other"] a d){R:List D→M D}{lv kk:Nat}(k_R:b8 R 2 "_law_alike" P w K mg base lv)(h1:lv≤kk)(h2:0≤kk):J8 P w K mg base CX0 (kk+1) a d ["one", "other"] (spD ⟨K,mg⟩ 2 (t8 2 (aF3 R))):=
 R1 c aY6 rfl rfl fun _ _ _ _ _ _ _=>by obtain⟨_,_,_,_,_⟩:=zb;have:=aY6;unfold aF3;walk_at "db0"
theorem aS3(c:FF K mg "_law_alike" aF6 ["one", "other"] a d):∀n,J8 P w K mg base CX0 (0+n) a d ["one", "other"] (spD ⟨K,mg⟩ 2 (aD7 n))
 |0=>aN8 rfl
 |n+1=>bL3 zb c (b8.of c (aS3 c n)) (Nat.le_refl _) (Nat.le_add_right _ _)
theorem bV4(c:FF K mg "_law_alike" aF6 ["one", "other"] a d):J8 P w K mg base CX0 40 a d ["one", "other"] (spD ⟨K,mg⟩ 2 aQ0):=aS3 zb c 40
theorem eZ4(c:FF K mg "law" bR2 ["script"] a d)(k0:b8 aG9 3 "_law_hand" P w K mg base 1)(k6:b8 aQ8 2 "_law_value" P w K mg base 9)(k14:b8 bD3 1 "set_of" P w K mg base 9)(k15:b8 aB8 2 "_law_near" P w K mg base 9)(k12:b8 Q8 2 "stretch" P w K mg base 3)(k16:b8 aB2 1 "kind_set" P w K mg base 1)(k17:b8 M4 0 "_law_nothing" P w K mg base 1)(k22:b8 aC2 2 "lies_in" P w K mg base 122)(k25:b8 aC7 1 "_law_alone" P w K mg base 7)(k26:b8 T9 2 "_law_same_kinds" P w K mg base 1)(k49:b8 aT1 1 "is_set" P w K mg base 6)(k50:b8 aA3 1 "_law_kinds" P w K mg base 1)(k51:b8 aQ0 2 "_law_alike" P w K mg base 40)(k2:b8 Q0 1 "_law_number" P w K mg base 2)(k1:b8 j8 2 "_law_draw" P w K mg base 1):J8 P w K mg base CX0 123 a d ["script"] (spD ⟨K,mg⟩ 1 cQ0):=by
 unfold cQ0
 exact R1 c dR7 rfl rfl fun _ _ _ _ _ _ _=>by obtain⟨_,_,_,_,_⟩:=zb;have:=dR7;unfold cZ3;unfold LB' LO TK LS LE LT2 LZ EV LK WE;walk_at "db0"
end
set_option maxHeartbeats 4000000 in
theorem all_mk{l:PySem.W.OpenLaw}{w:World}{K:PySem.W.Frag}{h:Heap}{mg:Str→Option Value}{fa:Addr}(X:K.In h)(G:h.Ns mainGlobals mg)(hfa:mg "law" =some (.ref fa))
 (Y0:FH K "_law_hand" aV2) (Y1:FH K "_law_draw" aU4) (Y2:FH K "_law_number" aM5) (Y3:FH K "_law_letters" aJ6) (Y4:FH K "_law_text" aT9) (Y5:FH K "_law_names" aO5) (Y6:FH K "_law_value" aE1) (Y7:FH K "lists_in_form" aH3) (Y8:FH K "records_in_form" aE3) (Y9:FH K "made" cR4) (Y10:FH K "records_set" aM3) (Y11:FH K "is_empty" bA0) (Y12:FH K "stretch" bG0) (Y13:FH K "lists_set" aT5) (Y14:FH K "set_of" aU9) (Y15:FH K "_law_near" aG8) (Y16:FH K "kind_set" aZ5) (Y17:FH K "_law_nothing" aJ4) (Y18:FH K "is_between" aO7) (Y19:FH K "front_at" bA1) (Y20:FH K "fields_by_name" aF7) (Y21:FH K "field_of" aZ4) (Y22:FH K "lies_in" aN2) (Y23:FH K "list_lies_in" V0) (Y24:FH K "record_lies_in" S5) (Y25:FH K "_law_alone" aE6) (Y26:FH K "_law_same_kinds" aD2) (Y27:FH K "is_couple" aW0) (Y28:FH K "has_lists_form" aG1) (Y29:FH K "rising" bS5) (Y30:FH K "names_of" aZ6) (Y31:FH K "is_text" bF4) (Y32:FH K "is_name" bH7) (Y33:FH K "is_field" aZ9) (Y34:FH K "has_records_form" aB3) (Y35:FH K "lies_clear" aP4) (Y36:FH K "is_whole" aZ2) (Y37:FH K "is_end" bQ3) (Y38:FH K "is_stretch" aQ5) (Y39:FH K "is_numbers" aP7) (Y40:FH K "is_tagged" aT6) (Y41:FH K "text_order" aR0) (Y42:FH K "is_texts" bB0) (Y43:FH K "is_truths" aT0) (Y44:FH K "has_set_form" aK3) (Y45:FH K "inner_sets" aQ2) (Y46:FH K "same_set" bA4) (Y47:FH K "is_due" bR1) (Y48:FH K "has_one_form" aJ9) (Y49:FH K "is_set" bR7) (Y50:FH K "_law_kinds" aP9) (Y51:FH K "_law_alike" aF6) (Y52:FH K "law" bR2)
 {a_NOTHING:Addr} {n_NOTHING:Nat} {sl_NOTHING:Array (Option Value)} {a_NOTHING_0:Addr} {n_NOTHING_0:Nat} {sl_NOTHING_0:Array (Option Value)} {a_NOTHING_1:Addr} {n_NOTHING_1:Nat} {sl_NOTHING_1:Array (Option Value)} {t_NOTHING_1_0:Tok} {a_NOTHING_1_1:Addr} {n_NOTHING_1_1:Nat} {sl_NOTHING_1_1:Array (Option Value)} {a_NOTHING_2:Addr} {n_NOTHING_2:Nat} {sl_NOTHING_2:Array (Option Value)}
 (g_NOTHING:PySem.W.nsIn K mainGlobals "NOTHING" =some (some (.ref a_NOTHING))) (l_NOTHING:K.lookup a_NOTHING=some ⟨.type "tuple",none,.seq #[.ref a_NOTHING_0,.ref a_NOTHING_1,.ref a_NOTHING_2,.none,.none] n_NOTHING,sl_NOTHING⟩) (l_NOTHING_0:K.lookup a_NOTHING_0=some ⟨.type "tuple",none,.seq #[] n_NOTHING_0,sl_NOTHING_0⟩) (l_NOTHING_1:K.lookup a_NOTHING_1=some ⟨.type "tuple",none,.seq #[.str "of" t_NOTHING_1_0,.ref a_NOTHING_1_1] n_NOTHING_1,sl_NOTHING_1⟩) (l_NOTHING_1_1:K.lookup a_NOTHING_1_1=some ⟨.type "tuple",none,.seq #[] n_NOTHING_1_1,sl_NOTHING_1_1⟩) (l_NOTHING_2:K.lookup a_NOTHING_2=some ⟨.type "tuple",none,.seq #[] n_NOTHING_2,sl_NOTHING_2⟩)
 {a_ALL_PARTS:Addr} {n_ALL_PARTS:Nat} {sl_ALL_PARTS:Array (Option Value)} {a_ALL_PARTS_0:Addr} {n_ALL_PARTS_0:Nat} {sl_ALL_PARTS_0:Array (Option Value)} {a_ALL_PARTS_0_0:Addr} {n_ALL_PARTS_0_0:Nat} {sl_ALL_PARTS_0_0:Array (Option Value)} {a_ALL_PARTS_1:Addr} {n_ALL_PARTS_1:Nat} {sl_ALL_PARTS_1:Array (Option Value)} {t_ALL_PARTS_1_0:Tok} {a_ALL_PARTS_1_1:Addr} {n_ALL_PARTS_1_1:Nat} {sl_ALL_PARTS_1_1:Array (Option Value)} {a_ALL_PARTS_2:Addr} {n_ALL_PARTS_2:Nat} {sl_ALL_PARTS_2:Array (Option Value)} {a_ALL_PARTS_3:Addr} {n_ALL_PARTS_3:Nat} {sl_ALL_PARTS_3:Array (Option Value)} {a_ALL_PARTS_3_0:Addr} {n_ALL_PARTS_3_0:Nat} {sl_ALL_PARTS_3_0:Array (Option Value)} {t_ALL_PARTS_3_1:Tok} {a_ALL_PARTS_4:Addr} {n_ALL_PARTS_4:Nat} {sl_ALL_PARTS_4:Array (Option Value)} {a_ALL_PARTS_4_0:Addr} {n_ALL_PARTS_4_0:Nat} {sl_ALL_PARTS_4_0:Array (Option Value)} {t_ALL_PARTS_4_1:Tok}
 (g_ALL_PARTS:PySem.W.nsIn K mainGlobals "ALL_PARTS" =some (some (.ref a_ALL_PARTS))) (l_ALL_PARTS:K.lookup a_ALL_PARTS=some ⟨.type "tuple",none,.seq #[.ref a_ALL_PARTS_0,.ref a_ALL_PARTS_1,.ref a_ALL_PARTS_2,.ref a_ALL_PARTS_3,.ref a_ALL_PARTS_4] n_ALL_PARTS,sl_ALL_PARTS⟩) (l_ALL_PARTS_0:K.lookup a_ALL_PARTS_0=some ⟨.type "tuple",none,.seq #[.ref a_ALL_PARTS_0_0] n_ALL_PARTS_0,sl_ALL_PARTS_0⟩) (l_ALL_PARTS_0_0:K.lookup a_ALL_PARTS_0_0=some ⟨.type "tuple",none,.seq #[.none,.none] n_ALL_PARTS_0_0,sl_ALL_PARTS_0_0⟩) (l_ALL_PARTS_1:K.lookup a_ALL_PARTS_1=some ⟨.type "tuple",none,.seq #[.str "but" t_ALL_PARTS_1_0,.ref a_ALL_PARTS_1_1] n_ALL_PARTS_1,sl_ALL_PARTS_1⟩) (l_ALL_PARTS_1_1:K.lookup a_ALL_PARTS_1_1=some ⟨.type "tuple",none,.seq #[] n_ALL_PARTS_1_1,sl_ALL_PARTS_1_1⟩) (l_ALL_PARTS_2:K.lookup a_ALL_PARTS_2=some ⟨.type "tuple",none,.seq #[.bool false,.bool true] n_ALL_PARTS_2,sl_ALL_PARTS_2⟩) (l_ALL_PARTS_3:K.lookup a_ALL_PARTS_3=some ⟨.type "tuple",none,.seq #[.ref a_ALL_PARTS_3_0,.str "any" t_ALL_PARTS_3_1] n_ALL_PARTS_3,sl_ALL_PARTS_3⟩) (l_ALL_PARTS_3_0:K.lookup a_ALL_PARTS_3_0=some ⟨.type "tuple",none,.seq #[] n_ALL_PARTS_3_0,sl_ALL_PARTS_3_0⟩) (l_ALL_PARTS_4:K.lookup a_ALL_PARTS_4=some ⟨.type "tuple",none,.seq #[.ref a_ALL_PARTS_4_0,.str "any" t_ALL_PARTS_4_1] n_ALL_PARTS_4,sl_ALL_PARTS_4⟩) (l_ALL_PARTS_4_0:K.lookup a_ALL_PARTS_4_0=some ⟨.type "tuple",none,.seq #[] n_ALL_PARTS_4_0,sl_ALL_PARTS_4_0⟩)
 {t_ANY:Tok}
 (g_ANY:PySem.W.nsIn K mainGlobals "ANY" =some (some (.str "any" t_ANY)))
 {a_KIND_SETS:Addr} {n_KIND_SETS:Nat} {t_KIND_SETS_k0:Tok} {t_KIND_SETS_k1:Tok} {t_KIND_SETS_k2:Tok} {t_KIND_SETS_k3:Tok} {t_KIND_SETS_k4:Tok} {a_KIND_SETS_0:Addr} {n_KIND_SETS_0:Nat} {sl_KIND_SETS_0:Array (Option Value)} {a_KIND_SETS_0_0:Addr} {n_KIND_SETS_0_0:Nat} {sl_KIND_SETS_0_0:Array (Option Value)} {a_KIND_SETS_0_0_0:Addr} {n_KIND_SETS_0_0_0:Nat} {sl_KIND_SETS_0_0_0:Array (Option Value)} {a_KIND_SETS_0_1:Addr} {n_KIND_SETS_0_1:Nat} {sl_KIND_SETS_0_1:Array (Option Value)} {t_KIND_SETS_0_1_0:Tok} {a_KIND_SETS_0_1_1:Addr} {n_KIND_SETS_0_1_1:Nat} {sl_KIND_SETS_0_1_1:Array (Option Value)} {a_KIND_SETS_0_2:Addr} {n_KIND_SETS_0_2:Nat} {sl_KIND_SETS_0_2:Array (Option Value)} {a_KIND_SETS_1:Addr} {n_KIND_SETS_1:Nat} {sl_KIND_SETS_1:Array (Option Value)} {a_KIND_SETS_1_0:Addr} {n_KIND_SETS_1_0:Nat} {sl_KIND_SETS_1_0:Array (Option Value)} {a_KIND_SETS_1_1:Addr} {n_KIND_SETS_1_1:Nat} {sl_KIND_SETS_1_1:Array (Option Value)} {t_KIND_SETS_1_1_0:Tok} {a_KIND_SETS_1_1_1:Addr} {n_KIND_SETS_1_1_1:Nat} {sl_KIND_SETS_1_1_1:Array (Option Value)} {a_KIND_SETS_1_2:Addr} {n_KIND_SETS_1_2:Nat} {sl_KIND_SETS_1_2:Array (Option Value)} {a_KIND_SETS_2:Addr} {n_KIND_SETS_2:Nat} {sl_KIND_SETS_2:Array (Option Value)} {a_KIND_SETS_2_0:Addr} {n_KIND_SETS_2_0:Nat} {sl_KIND_SETS_2_0:Array (Option Value)} {a_KIND_SETS_2_1:Addr} {n_KIND_SETS_2_1:Nat} {sl_KIND_SETS_2_1:Array (Option Value)} {t_KIND_SETS_2_1_0:Tok} {a_KIND_SETS_2_1_1:Addr} {n_KIND_SETS_2_1_1:Nat} {sl_KIND_SETS_2_1_1:Array (Option Value)} {a_KIND_SETS_2_2:Addr} {n_KIND_SETS_2_2:Nat} {sl_KIND_SETS_2_2:Array (Option Value)} {a_KIND_SETS_3:Addr} {n_KIND_SETS_3:Nat} {sl_KIND_SETS_3:Array (Option Value)} {a_KIND_SETS_3_0:Addr} {n_KIND_SETS_3_0:Nat} {sl_KIND_SETS_3_0:Array (Option Value)} {a_KIND_SETS_3_1:Addr} {n_KIND_SETS_3_1:Nat} {sl_KIND_SETS_3_1:Array (Option Value)} {t_KIND_SETS_3_1_0:Tok} {a_KIND_SETS_3_1_1:Addr} {n_KIND_SETS_3_1_1:Nat} {sl_KIND_SETS_3_1_1:Array (Option Value)} {a_KIND_SETS_3_2:Addr} {n_KIND_SETS_3_2:Nat} {sl_KIND_SETS_3_2:Array (Option Value)} {a_KIND_SETS_3_3:Addr} {n_KIND_SETS_3_3:Nat} {sl_KIND_SETS_3_3:Array (Option Value)} {a_KIND_SETS_3_3_0:Addr} {n_KIND_SETS_3_3_0:Nat} {sl_KIND_SETS_3_3_0:Array (Option Value)} {t_KIND_SETS_3_3_1:Tok} {a_KIND_SETS_4:Addr} {n_KIND_SETS_4:Nat} {sl_KIND_SETS_4:Array (Option Value)} {a_KIND_SETS_4_0:Addr} {n_KIND_SETS_4_0:Nat} {sl_KIND_SETS_4_0:Array (Option Value)} {a_KIND_SETS_4_1:Addr} {n_KIND_SETS_4_1:Nat} {sl_KIND_SETS_4_1:Array (Option Value)} {t_KIND_SETS_4_1_0:Tok} {a_KIND_SETS_4_1_1:Addr} {n_KIND_SETS_4_1_1:Nat} {sl_KIND_SETS_4_1_1:Array (Option Value)} {a_KIND_SETS_4_2:Addr} {n_KIND_SETS_4_2:Nat} {sl_KIND_SETS_4_2:Array (Option Value)} {a_KIND_SETS_4_4:Addr} {n_KIND_SETS_4_4:Nat} {sl_KIND_SETS_4_4:Array (Option Value)} {a_KIND_SETS_4_4_0:Addr} {n_KIND_SETS_4_4_0:Nat} {sl_KIND_SETS_4_4_0:Array (Option Value)} {t_KIND_SETS_4_4_1:Tok}
 (g_KIND_SETS:PySem.W.nsIn K mainGlobals "KIND_SETS" =some (some (.ref a_KIND_SETS))) (l_KIND_SETS:K.lookup a_KIND_SETS=some ⟨.type "dict",none,.dict #[{hash:=PyData.keyHash w.params "number",key:=.str "number" t_KIND_SETS_k0,val:=.ref a_KIND_SETS_0},{hash:=PyData.keyHash w.params "text",key:=.str "text" t_KIND_SETS_k1,val:=.ref a_KIND_SETS_1},{hash:=PyData.keyHash w.params "truth",key:=.str "truth" t_KIND_SETS_k2,val:=.ref a_KIND_SETS_2},{hash:=PyData.keyHash w.params "list",key:=.str "list" t_KIND_SETS_k3,val:=.ref a_KIND_SETS_3},{hash:=PyData.keyHash w.params "record",key:=.str "record" t_KIND_SETS_k4,val:=.ref a_KIND_SETS_4}] n_KIND_SETS, #[]⟩) (l_KIND_SETS_0:K.lookup a_KIND_SETS_0=some ⟨.type "tuple",none,.seq #[.ref a_KIND_SETS_0_0,.ref a_KIND_SETS_0_1,.ref a_KIND_SETS_0_2,.none,.none] n_KIND_SETS_0,sl_KIND_SETS_0⟩) (l_KIND_SETS_0_0:K.lookup a_KIND_SETS_0_0=some ⟨.type "tuple",none,.seq #[.ref a_KIND_SETS_0_0_0] n_KIND_SETS_0_0,sl_KIND_SETS_0_0⟩) (l_KIND_SETS_0_0_0:K.lookup a_KIND_SETS_0_0_0=some ⟨.type "tuple",none,.seq #[.none,.none] n_KIND_SETS_0_0_0,sl_KIND_SETS_0_0_0⟩) (l_KIND_SETS_0_1:K.lookup a_KIND_SETS_0_1=some ⟨.type "tuple",none,.seq #[.str "of" t_KIND_SETS_0_1_0,.ref a_KIND_SETS_0_1_1] n_KIND_SETS_0_1,sl_KIND_SETS_0_1⟩) (l_KIND_SETS_0_1_1:K.lookup a_KIND_SETS_0_1_1=some ⟨.type "tuple",none,.seq #[] n_KIND_SETS_0_1_1,sl_KIND_SETS_0_1_1⟩) (l_KIND_SETS_0_2:K.lookup a_KIND_SETS_0_2=some ⟨.type "tuple",none,.seq #[] n_KIND_SETS_0_2,sl_KIND_SETS_0_2⟩) (l_KIND_SETS_1:K.lookup a_KIND_SETS_1=some ⟨.type "tuple",none,.seq #[.ref a_KIND_SETS_1_0,.ref a_KIND_SETS_1_1,.ref a_KIND_SETS_1_2,.none,.none] n_KIND_SETS_1,sl_KIND_SETS_1⟩) (l_KIND_SETS_1_0:K.lookup a_KIND_SETS_1_0=some ⟨.type "tuple",none,.seq #[] n_KIND_SETS_1_0,sl_KIND_SETS_1_0⟩) (l_KIND_SETS_1_1:K.lookup a_KIND_SETS_1_1=some ⟨.type "tuple",none,.seq #[.str "but" t_KIND_SETS_1_1_0,.ref a_KIND_SETS_1_1_1] n_KIND_SETS_1_1,sl_KIND_SETS_1_1⟩) (l_KIND_SETS_1_1_1:K.lookup a_KIND_SETS_1_1_1=some ⟨.type "tuple",none,.seq #[] n_KIND_SETS_1_1_1,sl_KIND_SETS_1_1_1⟩) (l_KIND_SETS_1_2:K.lookup a_KIND_SETS_1_2=some ⟨.type "tuple",none,.seq #[] n_KIND_SETS_1_2,sl_KIND_SETS_1_2⟩) (l_KIND_SETS_2:K.lookup a_KIND_SETS_2=some ⟨.type "tuple",none,.seq #[.ref a_KIND_SETS_2_0,.ref a_KIND_SETS_2_1,.ref a_KIND_SETS_2_2,.none,.none] n_KIND_SETS_2,sl_KIND_SETS_2⟩) (l_KIND_SETS_2_0:K.lookup a_KIND_SETS_2_0=some ⟨.type "tuple",none,.seq #[] n_KIND_SETS_2_0,sl_KIND_SETS_2_0⟩) (l_KIND_SETS_2_1:K.lookup a_KIND_SETS_2_1=some ⟨.type "tuple",none,.seq #[.str "of" t_KIND_SETS_2_1_0,.ref a_KIND_SETS_2_1_1] n_KIND_SETS_2_1,sl_KIND_SETS_2_1⟩) (l_KIND_SETS_2_1_1:K.lookup a_KIND_SETS_2_1_1=some ⟨.type "tuple",none,.seq #[] n_KIND_SETS_2_1_1,sl_KIND_SETS_2_1_1⟩) (l_KIND_SETS_2_2:K.lookup a_KIND_SETS_2_2=some ⟨.type "tuple",none,.seq #[.bool false,.bool true] n_KIND_SETS_2_2,sl_KIND_SETS_2_2⟩) (l_KIND_SETS_3:K.lookup a_KIND_SETS_3=some ⟨.type "tuple",none,.seq #[.ref a_KIND_SETS_3_0,.ref a_KIND_SETS_3_1,.ref a_KIND_SETS_3_2,.ref a_KIND_SETS_3_3,.none] n_KIND_SETS_3,sl_KIND_SETS_3⟩) (l_KIND_SETS_3_0:K.lookup a_KIND_SETS_3_0=some ⟨.type "tuple",none,.seq #[] n_KIND_SETS_3_0,sl_KIND_SETS_3_0⟩) (l_KIND_SETS_3_1:K.lookup a_KIND_SETS_3_1=some ⟨.type "tuple",none,.seq #[.str "of" t_KIND_SETS_3_1_0,.ref a_KIND_SETS_3_1_1] n_KIND_SETS_3_1,sl_KIND_SETS_3_1⟩) (l_KIND_SETS_3_1_1:K.lookup a_KIND_SETS_3_1_1=some ⟨.type "tuple",none,.seq #[] n_KIND_SETS_3_1_1,sl_KIND_SETS_3_1_1⟩) (l_KIND_SETS_3_2:K.lookup a_KIND_SETS_3_2=some ⟨.type "tuple",none,.seq #[] n_KIND_SETS_3_2,sl_KIND_SETS_3_2⟩) (l_KIND_SETS_3_3:K.lookup a_KIND_SETS_3_3=some ⟨.type "tuple",none,.seq #[.ref a_KIND_SETS_3_3_0,.str "any" t_KIND_SETS_3_3_1] n_KIND_SETS_3_3,sl_KIND_SETS_3_3⟩) (l_KIND_SETS_3_3_0:K.lookup a_KIND_SETS_3_3_0=some ⟨.type "tuple",none,.seq #[] n_KIND_SETS_3_3_0,sl_KIND_SETS_3_3_0⟩) (l_KIND_SETS_4:K.lookup a_KIND_SETS_4=some ⟨.type "tuple",none,.seq #[.ref a_KIND_SETS_4_0,.ref a_KIND_SETS_4_1,.ref a_KIND_SETS_4_2,.none,.ref a_KIND_SETS_4_4] n_KIND_SETS_4,sl_KIND_SETS_4⟩) (l_KIND_SETS_4_0:K.lookup a_KIND_SETS_4_0=some ⟨.type "tuple",none,.seq #[] n_KIND_SETS_4_0,sl_KIND_SETS_4_0⟩) (l_KIND_SETS_4_1:K.lookup a_KIND_SETS_4_1=some ⟨.type "tuple",none,.seq #[.str "of" t_KIND_SETS_4_1_0,.ref a_KIND_SETS_4_1_1] n_KIND_SETS_4_1,sl_KIND_SETS_4_1⟩) (l_KIND_SETS_4_1_1:K.lookup a_KIND_SETS_4_1_1=some ⟨.type "tuple",none,.seq #[] n_KIND_SETS_4_1_1,sl_KIND_SETS_4_1_1⟩) (l_KIND_SETS_4_2:K.lookup a_KIND_SETS_4_2=some ⟨.type "tuple",none,.seq #[] n_KIND_SETS_4_2,sl_KIND_SETS_4_2⟩) (l_KIND_SETS_4_4:K.lookup a_KIND_SETS_4_4=some ⟨.type "tuple",none,.seq #[.ref a_KIND_SETS_4_4_0,.str "any" t_KIND_SETS_4_4_1] n_KIND_SETS_4_4,sl_KIND_SETS_4_4⟩) (l_KIND_SETS_4_4_0:K.lookup a_KIND_SETS_4_4_0=some ⟨.type "tuple",none,.seq #[] n_KIND_SETS_4_4_0,sl_KIND_SETS_4_4_0⟩)
 (z:∀b∈bltL,PySem.W.nsIn K mainGlobals b=some none)
 (pure:∀ns:List Int,ns.length≤63→∃G',cQ0 [.ref 0] [.rol (ns.map D.int)]=some (.ok (.bl true),G')):
 ∃fd:FuncData,(∀(s:Shared) (v:Value),BindsTo s fd ⟨[v], []⟩ [("script",v)])∧∀base:Heap,K.In base→base.Ns mainGlobals mg→J8 l.prog w K mg base CX0 123 fa fd ["script"] (dC7 K):=by
 obtain⟨_,_,an_law,_,_,kV_law,dc_law,pm_law,cd_law,ct_law,a52,l_law,e_law,k52⟩:=Y52
 have e:=hfa.symm.trans (PySem.W.mg_of X G a52)
 cases e
 obtain⟨_,_,C0⟩:=Y0.ff3 (p1:= "script") (p2:= "cell") (p3:= "k") X G fun _ _ _ _ _ _ _ _ _=>rfl
 obtain⟨_,_,C1⟩:=Y1.ff2 (p1:= "hand") (p2:= "limit") X G fun _ _ _ _ _ _ _ _=>rfl
 obtain⟨_,_,C2⟩:=Y2.ff1 (p1:= "hand") X G fun _ _ _ _ _ _ _=>rfl
 obtain⟨_,_,C3⟩:=Y3.ff3 (p1:= "hand") (p2:= "least") (p3:= "most") X G fun _ _ _ _ _ _ _ _ _=>rfl
 obtain⟨_,_,C4⟩:=Y4.ff1 (p1:= "hand") X G fun _ _ _ _ _ _ _=>rfl
 obtain⟨_,_,C5⟩:=Y5.ff1 (p1:= "hand") X G fun _ _ _ _ _ _ _=>rfl
 obtain⟨_,_,C6⟩:=Y6.ff2 (p1:= "hand") (p2:= "deep") X G fun _ _ _ _ _ _ _ _=>rfl
 obtain⟨_,_,C7⟩:=Y7.ff1 (p1:= "lists") X G fun _ _ _ _ _ _ _=>rfl
 obtain⟨_,_,C8⟩:=Y8.ff1 (p1:= "records") X G fun _ _ _ _ _ _ _=>rfl
 obtain⟨_,_,C9⟩:=Y9.ff5 (p1:= "numbers") (p2:= "texts") (p3:= "truths") (p4:= "lists") (p5:= "records") X G fun _ _ _ _ _ _ _ _ _ _ _=>rfl
 obtain⟨_,_,C10⟩:=Y10.ff2 (p1:= "fields") (p2:= "more") X G fun _ _ _ _ _ _ _ _=>rfl
 obtain⟨_,_,C11⟩:=Y11.ff2 (p1:= "low") (p2:= "high") X G fun _ _ _ _ _ _ _ _=>rfl
 obtain⟨_,_,C12⟩:=Y12.ff2 (p1:= "low") (p2:= "high") X G fun _ _ _ _ _ _ _ _=>rfl
 obtain⟨_,_,C13⟩:=Y13.ff2 (p1:= "fronts") (p2:= "more") X G fun _ _ _ _ _ _ _ _=>rfl
 obtain⟨_,_,C14⟩:=Y14.ff1 (p1:= "value") X G fun _ _ _ _ _ _ _=>rfl
 obtain⟨_,_,C15⟩:=Y15.ff2 (p1:= "hand") (p2:= "value") X G fun _ _ _ _ _ _ _ _=>rfl
 obtain⟨_,_,C16⟩:=Y16.ff1 (p1:= "kind") X G fun _ _ _ _ _ _ _=>rfl
 obtain⟨_,_,C17⟩:=Y17.ff0 X G fun _ _ _ _ _ _=>rfl
 obtain⟨_,_,C18⟩:=Y18.ff3 (p1:= "number") (p2:= "low") (p3:= "high") X G fun _ _ _ _ _ _ _ _ _=>rfl
 obtain⟨_,_,C19⟩:=Y19.ff2 (p1:= "lists") (p2:= "place") X G fun _ _ _ _ _ _ _ _=>rfl
 obtain⟨_,_,C20⟩:=Y20.ff1 (p1:= "records") X G fun _ _ _ _ _ _ _=>rfl
 obtain⟨_,_,C21⟩:=Y21.ff3 (p1:= "told") (p2:= "more") (p3:= "name") X G fun _ _ _ _ _ _ _ _ _=>rfl
 obtain⟨_,_,C22⟩:=Y22.ff2 (p1:= "value") (p2:= "some") X G fun _ _ _ _ _ _ _ _=>rfl
 obtain⟨_,_,C23⟩:=Y23.ff2 (p1:= "values") (p2:= "lists") X G fun _ _ _ _ _ _ _ _=>rfl
 obtain⟨_,_,C24⟩:=Y24.ff2 (p1:= "pairs") (p2:= "records") X G fun _ _ _ _ _ _ _ _=>rfl
 obtain⟨_,_,C25⟩:=Y25.ff1 (p1:= "value") X G fun _ _ _ _ _ _ _=>rfl
 obtain⟨_,_,C26⟩:=Y26.ff2 (p1:= "one") (p2:= "other") X G fun _ _ _ _ _ _ _ _=>rfl
 obtain⟨_,_,C27⟩:=Y27.ff1 (p1:= "thing") X G fun _ _ _ _ _ _ _=>rfl
 obtain⟨_,_,C28⟩:=Y28.ff1 (p1:= "thing") X G fun _ _ _ _ _ _ _=>rfl
 obtain⟨_,_,C29⟩:=Y29.ff1 (p1:= "keys") X G fun _ _ _ _ _ _ _=>rfl
 obtain⟨_,_,C30⟩:=Y30.ff1 (p1:= "pairs") X G fun _ _ _ _ _ _ _=>rfl
 obtain⟨_,_,C31⟩:=Y31.ff1 (p1:= "thing") X G fun _ _ _ _ _ _ _=>rfl
 obtain⟨_,_,C32⟩:=Y32.ff1 (p1:= "thing") X G fun _ _ _ _ _ _ _=>rfl
 obtain⟨_,_,C33⟩:=Y33.ff1 (p1:= "thing") X G fun _ _ _ _ _ _ _=>rfl
 obtain⟨_,_,C34⟩:=Y34.ff1 (p1:= "thing") X G fun _ _ _ _ _ _ _=>rfl
 obtain⟨_,_,C35⟩:=Y35.ff2 (p1:= "lower") (p2:= "upper") X G fun _ _ _ _ _ _ _ _=>rfl
 obtain⟨_,_,C36⟩:=Y36.ff1 (p1:= "thing") X G fun _ _ _ _ _ _ _=>rfl
 obtain⟨_,_,C37⟩:=Y37.ff1 (p1:= "thing") X G fun _ _ _ _ _ _ _=>rfl
 obtain⟨_,_,C38⟩:=Y38.ff1 (p1:= "thing") X G fun _ _ _ _ _ _ _=>rfl
 obtain⟨_,_,C39⟩:=Y39.ff1 (p1:= "thing") X G fun _ _ _ _ _ _ _=>rfl
 obtain⟨_,_,C40⟩:=Y40.ff2 (p1:= "thing") (p2:= "word") X G fun _ _ _ _ _ _ _ _=>rfl
 obtain⟨_,_,C41⟩:=Y41.ff1 (p1:= "text") X G fun _ _ _ _ _ _ _=>rfl
 obtain⟨_,_,C42⟩:=Y42.ff1 (p1:= "thing") X G fun _ _ _ _ _ _ _=>rfl
 obtain⟨_,_,C43⟩:=Y43.ff1 (p1:= "thing") X G fun _ _ _ _ _ _ _=>rfl
 obtain⟨_,_,C44⟩:=Y44.ff1 (p1:= "thing") X G fun _ _ _ _ _ _ _=>rfl
 obtain⟨_,_,C45⟩:=Y45.ff1 (p1:= "thing") X G fun _ _ _ _ _ _ _=>rfl
 obtain⟨_,_,C46⟩:=Y46.ff2 (p1:= "one") (p2:= "other") X G fun _ _ _ _ _ _ _ _=>rfl
 obtain⟨_,_,C47⟩:=Y47.ff2 (p1:= "field") (p2:= "more") X G fun _ _ _ _ _ _ _ _=>rfl
 obtain⟨_,_,C48⟩:=Y48.ff1 (p1:= "some") X G fun _ _ _ _ _ _ _=>rfl
 obtain⟨_,_,C49⟩:=Y49.ff1 (p1:= "thing") X G fun _ _ _ _ _ _ _=>rfl
 obtain⟨_,_,C50⟩:=Y50.ff1 (p1:= "value") X G fun _ _ _ _ _ _ _=>rfl
 obtain⟨_,_,C51⟩:=Y51.ff2 (p1:= "one") (p2:= "other") X G fun _ _ _ _ _ _ _ _=>rfl
 have C52:FF K mg "law" bR2 ["script"] _ _:=⟨cG5 l_law e_law k52,(cG5 l_law e_law k52).binds (ps:= ["script"]) (fun _ _ _ _ _ _ us hl=>match us,hl with|[_],_=>rfl),PySem.W.mg_of X G a52⟩
 have zb0:=BLs.of X G z
 have zb:BC w K mg:=⟨zb0,⟨_,PySem.W.mg_of X G g_NOTHING,J5 (us:= [.ref a_NOTHING_0,.ref a_NOTHING_1,.ref a_NOTHING_2,.none,.none]) l_NOTHING rfl (j7 (J5 (us:= []) l_NOTHING_0 rfl (o8)) (j7 (J5 (us:= [.str "of" t_NOTHING_1_0,.ref a_NOTHING_1_1]) l_NOTHING_1 rfl (j7 (aH8) (j7 (J5 (us:= []) l_NOTHING_1_1 rfl (o8)) (o8)))) (j7 (J5 (us:= []) l_NOTHING_2 rfl (o8)) (j7 (aF4) (j7 (aF4) (o8))))))⟩,⟨_,PySem.W.mg_of X G g_ALL_PARTS,J5 (us:= [.ref a_ALL_PARTS_0,.ref a_ALL_PARTS_1,.ref a_ALL_PARTS_2,.ref a_ALL_PARTS_3,.ref a_ALL_PARTS_4]) l_ALL_PARTS rfl (j7 (J5 (us:= [.ref a_ALL_PARTS_0_0]) l_ALL_PARTS_0 rfl (j7 (J5 (us:= [.none,.none]) l_ALL_PARTS_0_0 rfl (j7 (aF4) (j7 (aF4) (o8)))) (o8))) (j7 (J5 (us:= [.str "but" t_ALL_PARTS_1_0,.ref a_ALL_PARTS_1_1]) l_ALL_PARTS_1 rfl (j7 (aH8) (j7 (J5 (us:= []) l_ALL_PARTS_1_1 rfl (o8)) (o8)))) (j7 (J5 (us:= [.bool false,.bool true]) l_ALL_PARTS_2 rfl (j7 (cZ2) (j7 (cZ2) (o8)))) (j7 (J5 (us:= [.ref a_ALL_PARTS_3_0,.str "any" t_ALL_PARTS_3_1]) l_ALL_PARTS_3 rfl (j7 (J5 (us:= []) l_ALL_PARTS_3_0 rfl (o8)) (j7 (aH8) (o8)))) (j7 (J5 (us:= [.ref a_ALL_PARTS_4_0,.str "any" t_ALL_PARTS_4_1]) l_ALL_PARTS_4 rfl (j7 (J5 (us:= []) l_ALL_PARTS_4_0 rfl (o8)) (j7 (aH8) (o8)))) (o8))))))⟩,⟨_,PySem.W.mg_of X G g_ANY,aH8⟩,⟨⟨_, [{hash:=PyData.keyHash w.params "number",key:=.str "number" t_KIND_SETS_k0,val:=.ref a_KIND_SETS_0},{hash:=PyData.keyHash w.params "text",key:=.str "text" t_KIND_SETS_k1,val:=.ref a_KIND_SETS_1},{hash:=PyData.keyHash w.params "truth",key:=.str "truth" t_KIND_SETS_k2,val:=.ref a_KIND_SETS_2},{hash:=PyData.keyHash w.params "list",key:=.str "list" t_KIND_SETS_k3,val:=.ref a_KIND_SETS_3},{hash:=PyData.keyHash w.params "record",key:=.str "record" t_KIND_SETS_k4,val:=.ref a_KIND_SETS_4}],_,PySem.W.mg_of X G g_KIND_SETS,l_KIND_SETS,.cons (J5 (us:= [.ref a_KIND_SETS_0_0,.ref a_KIND_SETS_0_1,.ref a_KIND_SETS_0_2,.none,.none]) l_KIND_SETS_0 rfl (j7 (J5 (us:= [.ref a_KIND_SETS_0_0_0]) l_KIND_SETS_0_0 rfl (j7 (J5 (us:= [.none,.none]) l_KIND_SETS_0_0_0 rfl (j7 (aF4) (j7 (aF4) (o8)))) (o8))) (j7 (J5 (us:= [.str "of" t_KIND_SETS_0_1_0,.ref a_KIND_SETS_0_1_1]) l_KIND_SETS_0_1 rfl (j7 (aH8) (j7 (J5 (us:= []) l_KIND_SETS_0_1_1 rfl (o8)) (o8)))) (j7 (J5 (us:= []) l_KIND_SETS_0_2 rfl (o8)) (j7 (aF4) (j7 (aF4) (o8))))))) (.cons (J5 (us:= [.ref a_KIND_SETS_1_0,.ref a_KIND_SETS_1_1,.ref a_KIND_SETS_1_2,.none,.none]) l_KIND_SETS_1 rfl (j7 (J5 (us:= []) l_KIND_SETS_1_0 rfl (o8)) (j7 (J5 (us:= [.str "but" t_KIND_SETS_1_1_0,.ref a_KIND_SETS_1_1_1]) l_KIND_SETS_1_1 rfl (j7 (aH8) (j7 (J5 (us:= []) l_KIND_SETS_1_1_1 rfl (o8)) (o8)))) (j7 (J5 (us:= []) l_KIND_SETS_1_2 rfl (o8)) (j7 (aF4) (j7 (aF4) (o8))))))) (.cons (J5 (us:= [.ref a_KIND_SETS_2_0,.ref a_KIND_SETS_2_1,.ref a_KIND_SETS_2_2,.none,.none]) l_KIND_SETS_2 rfl (j7 (J5 (us:= []) l_KIND_SETS_2_0 rfl (o8)) (j7 (J5 (us:= [.str "of" t_KIND_SETS_2_1_0,.ref a_KIND_SETS_2_1_1]) l_KIND_SETS_2_1 rfl (j7 (aH8) (j7 (J5 (us:= []) l_KIND_SETS_2_1_1 rfl (o8)) (o8)))) (j7 (J5 (us:= [.bool false,.bool true]) l_KIND_SETS_2_2 rfl (j7 (cZ2) (j7 (cZ2) (o8)))) (j7 (aF4) (j7 (aF4) (o8))))))) (.cons (J5 (us:= [.ref a_KIND_SETS_3_0,.ref a_KIND_SETS_3_1,.ref a_KIND_SETS_3_2,.ref a_KIND_SETS_3_3,.none]) l_KIND_SETS_3 rfl (j7 (J5 (us:= []) l_KIND_SETS_3_0 rfl (o8)) (j7 (J5 (us:= [.str "of" t_KIND_SETS_3_1_0,.ref a_KIND_SETS_3_1_1]) l_KIND_SETS_3_1 rfl (j7 (aH8) (j7 (J5 (us:= []) l_KIND_SETS_3_1_1 rfl (o8)) (o8)))) (j7 (J5 (us:= []) l_KIND_SETS_3_2 rfl (o8)) (j7 (J5 (us:= [.ref a_KIND_SETS_3_3_0,.str "any" t_KIND_SETS_3_3_1]) l_KIND_SETS_3_3 rfl (j7 (J5 (us:= []) l_KIND_SETS_3_3_0 rfl (o8)) (j7 (aH8) (o8)))) (j7 (aF4) (o8))))))) (.cons (J5 (us:= [.ref a_KIND_SETS_4_0,.ref a_KIND_SETS_4_1,.ref a_KIND_SETS_4_2,.none,.ref a_KIND_SETS_4_4]) l_KIND_SETS_4 rfl (j7 (J5 (us:= []) l_KIND_SETS_4_0 rfl (o8)) (j7 (J5 (us:= [.str "of" t_KIND_SETS_4_1_0,.ref a_KIND_SETS_4_1_1]) l_KIND_SETS_4_1 rfl (j7 (aH8) (j7 (J5 (us:= []) l_KIND_SETS_4_1_1 rfl (o8)) (o8)))) (j7 (J5 (us:= []) l_KIND_SETS_4_2 rfl (o8)) (j7 (aF4) (j7 (J5 (us:= [.ref a_KIND_SETS_4_4_0,.str "any" t_KIND_SETS_4_4_1]) l_KIND_SETS_4_4 rfl (j7 (J5 (us:= []) l_KIND_SETS_4_4_0 rfl (o8)) (j7 (aH8) (o8)))) (o8))))))) (.nil)))))⟩,by decide⟩⟩
 refine⟨PySem.W.fnOf "law" "law" (aA1 bR2) (V8 bR2) (j6 bR2) .none kV_law dc_law pm_law an_law cd_law ct_law,fun s v=>.of_eq rfl,fun base _ _=>eQ5 ?_ pure⟩
 have O0:=cI3 (P:=l.prog) (w:=w) (base:=base) zb C0
 have O1:=cG3 (P:=l.prog) (w:=w) (base:=base) zb C1
 have O2:=bU4 (P:=l.prog) (w:=w) (base:=base) zb C2 (b8.of C1 O1)
 have O3:=bL5 (P:=l.prog) (w:=w) (base:=base) zb C3 (b8.of C1 O1)
 have O4:=cG9 (P:=l.prog) (w:=w) (base:=base) zb C4 (b8.of C1 O1) (b8.of C3 O3)
 have O5:=bV8 (P:=l.prog) (w:=w) (base:=base) zb C5 (b8.of C1 O1) (b8.of C3 O3)
 have O6:=bW4 (P:=l.prog) (w:=w) (base:=base) zb C6 (b8.of C1 O1) (b8.of C2 O2) (b8.of C4 O4) (b8.of C5 O5)
 have O7:=bH2 (P:=l.prog) (w:=w) (base:=base) zb C7
 have O8:=bA9 (P:=l.prog) (w:=w) (base:=base) zb C8
 have O9:=dZ9 (P:=l.prog) (w:=w) (base:=base) zb C9 (b8.of C7 O7) (b8.of C8 O8)
 have O10:=bR6 (P:=l.prog) (w:=w) (base:=base) zb C10 (b8.of C9 O9)
 have O11:=cJ7 (P:=l.prog) (w:=w) (base:=base) zb C11
 have O12:=cT8 (P:=l.prog) (w:=w) (base:=base) zb C12 (b8.of C11 O11) (b8.of C9 O9)
 have O13:=cE5 (P:=l.prog) (w:=w) (base:=base) zb C13 (b8.of C9 O9)
 have O14:=dE0 (P:=l.prog) (w:=w) (base:=base) zb C14 (b8.of C10 O10) (b8.of C9 O9) (b8.of C12 O12) (b8.of C13 O13)
 have O15:=cI4 (P:=l.prog) (w:=w) (base:=base) zb C15 (b8.of C1 O1)
 have O16:=cN1 (P:=l.prog) (w:=w) (base:=base) zb C16
 have O17:=bK8 (P:=l.prog) (w:=w) (base:=base) zb C17
 have O18:=bW8 (P:=l.prog) (w:=w) (base:=base) zb C18 (b8.of C11 O11)
 have O19:=cQ4 (P:=l.prog) (w:=w) (base:=base) zb C19
 have O20:=bB5 (P:=l.prog) (w:=w) (base:=base) zb C20
 have O21:=cQ5 (P:=l.prog) (w:=w) (base:=base) zb C21
 have O22:=cU5 (P:=l.prog) (w:=w) (base:=base) zb C22 C23 C24 (b8.of C18 O18) (b8.of C19 O19) (b8.of C20 O20) (b8.of C21 O21)
 have O23:=bK5 (P:=l.prog) (w:=w) (base:=base) zb C23 (b8.of C19 O19) (b8.of C22 O22)
 have O24:=bE5 (P:=l.prog) (w:=w) (base:=base) zb C24 (b8.of C20 O20) (b8.of C21 O21) (b8.of C22 O22)
 have O25:=bU6 (P:=l.prog) (w:=w) (base:=base) zb C25 (b8.of C17 O17)
 have O26:=bA7 (P:=l.prog) (w:=w) (base:=base) zb C26
 have O27:=cG8 (P:=l.prog) (w:=w) (base:=base) zb C27
 have O28:=bC8 (P:=l.prog) (w:=w) (base:=base) zb C28 (b8.of C27 O27)
 have O29:=dI2 (P:=l.prog) (w:=w) (base:=base) zb C29
 have O30:=cP3 (P:=l.prog) (w:=w) (base:=base) zb C30
 have O31:=cV4 (P:=l.prog) (w:=w) (base:=base) zb C31
 have O32:=cS1 (P:=l.prog) (w:=w) (base:=base) zb C32 (b8.of C31 O31)
 have O33:=cM1 (P:=l.prog) (w:=w) (base:=base) zb C33 (b8.of C32 O32)
 have O34:=aX6 (P:=l.prog) (w:=w) (base:=base) zb C34 (b8.of C29 O29) (b8.of C30 O30) (b8.of C27 O27) (b8.of C33 O33)
 have O35:=bV9 (P:=l.prog) (w:=w) (base:=base) zb C35
 have O36:=cO8 (P:=l.prog) (w:=w) (base:=base) zb C36
 have O37:=dI9 (P:=l.prog) (w:=w) (base:=base) zb C37 (b8.of C36 O36)
 have O38:=bW0 (P:=l.prog) (w:=w) (base:=base) zb C38 (b8.of C11 O11) (b8.of C37 O37)
 have O39:=bV7 (P:=l.prog) (w:=w) (base:=base) zb C39 (b8.of C35 O35) (b8.of C38 O38)
 have O40:=cF5 (P:=l.prog) (w:=w) (base:=base) zb C40
 have O41:=bV2 (P:=l.prog) (w:=w) (base:=base) zb C41
 have O42:=cJ9 (P:=l.prog) (w:=w) (base:=base) zb C42 (b8.of C29 O29) (b8.of C40 O40) (b8.of C41 O41) (b8.of C31 O31)
 have O43:=cI7 (P:=l.prog) (w:=w) (base:=base) zb C43 (b8.of C29 O29)
 have O44:=bK9 (P:=l.prog) (w:=w) (base:=base) zb C44 (b8.of C28 O28) (b8.of C34 O34) (b8.of C39 O39) (b8.of C42 O42) (b8.of C43 O43)
 have O45:=bW1 (P:=l.prog) (w:=w) (base:=base) zb C45
 have O46:=cO1 (P:=l.prog) (w:=w) (base:=base) zb C46
 have O47:=dF2 (P:=l.prog) (w:=w) (base:=base) zb C47 (b8.of C46 O46)
 have O48:=bL1 (P:=l.prog) (w:=w) (base:=base) zb C48 (b8.of C47 O47)
 have O49:=dI5 (P:=l.prog) (w:=w) (base:=base) zb C49 (b8.of C44 O44) (b8.of C45 O45) (b8.of C48 O48)
 have O50:=bU8 (P:=l.prog) (w:=w) (base:=base) zb C50
 have O51:=bV4 (P:=l.prog) (w:=w) (base:=base) zb C51
 have O52:=eZ4 (P:=l.prog) (w:=w) (base:=base) zb C52 (b8.of C0 O0) (b8.of C6 O6) (b8.of C14 O14) (b8.of C15 O15) (b8.of C12 O12) (b8.of C16 O16) (b8.of C17 O17) (b8.of C22 O22) (b8.of C25 O25) (b8.of C26 O26) (b8.of C49 O49) (b8.of C50 O50) (b8.of C51 O51) (b8.of C2 O2) (b8.of C1 O1)
 exact O52
theorem walk{l:PySem.W.OpenLaw}{q:Program}{loose:List Str}{XP:(Str→Option Value)→Heap→Prop}{YP:World→Heap→Prop}{d:DefRec}{K:Params→PySem.W.Frag}(hn:l.most=some 63)(hdf:d.params.defaults= [])
 (hY:∀(w:World) (h:Heap),YP w h→(K w.params).In h)
 (F:∀(w:World) (mg:Str→Option Value) (fa:Addr) (h:Heap),(K w.params).In h→h.Ns mainGlobals mg→mg d.name=some (.ref fa)→
   ∃fd:FuncData,(∀(s:Shared) (u:Value),BindsTo s fd ⟨[u], []⟩ [("script",u)])∧∀base:Heap,(K w.params).In base→base.Ns mainGlobals mg→J8 l.prog w (K w.params) mg base CX0 123 fa fd ["script"] (dC7 (K w.params))):
 PySem.W.WalkO q loose XP YP l.row.toRowW d [] (fun f vs=>PySem.call f vs):=
 L2.walk_of (n:=63) (k:=123) (x:= "script") (CX:=fun _=>CX0) (sp:=fun w=>dC7 (K w.params)) hn (by decide) hdf ⟨rfl,by decide,by decide,rfl⟩ hY F (fun _ _ a ns hl hO hS=>⟨a,ns,rfl,hS,hO,hl,fun _=>rfl⟩) fun _ _ _ _ _ z=>z
mutual
noncomputable def szD:D→Nat
 | .tup l=>1+szL l
 | .str _=>1
 | .ref _=>1
 | .fn _=>1
 | .ty _=>1
 | .non=>1
 | .bl _=>1
 | .int _=>1
noncomputable def szL:List D→Nat
 |[]=>0
 |d::r=>szD d+szL r
end
theorem cE7:∀d:D,1≤szD d:=fun d=>by cases d<;>unfold szD<;>lia
theorem cH0:∀l:List D,l.length≤szL l
 |[]=>by simp[szL]
 |d::r=>by
   have:=cH0 r
   have:=cE7 d
   unfold szL
   simp only[List.length_cons]
   lia
theorem aQ4:∀a b:List D,szL (a++b)=szL a+szL b
 |[],b=>by simp[szL]
 |d::r,b=>by
   have:=aQ4 r b
   simp only[List.cons_append,szL]
   lia
noncomputable def fC1:D→Option D
 | .tup [_,v]=>some v
 |_=>none
noncomputable abbrev K9:Str:= "list"
noncomputable abbrev T4:Str:= "record"
noncomputable def cT3(w:Str):D→Bool
 | .tup [.str a,.tup _]=>a==w
 |_=>false
noncomputable def bN1:D→List D
 | .tup [_,.tup l]=>l
 |_=> []
def kids(d:D):List D:=if cT3 K9 d then bN1 d else if cT3 T4 d then (bN1 d).filterMap fC1 else []
noncomputable def Ap(G G':DH):Prop:=∃t,G'=G++t
theorem Ap.refl{G:DH}:Ap G G:=⟨[],by simp⟩
theorem Ap.trans{G G1 G2:DH}(h:Ap G G1)(k:Ap G1 G2):Ap G G2:=by
 obtain⟨t,rfl⟩:=h
 obtain⟨u,rfl⟩:=k
 exact⟨t++u,by simp⟩
theorem Ap.one{G:DH}{o:DO}:Ap G (G++[o]):=⟨_,rfl⟩
theorem Ap.at{G G':DH}{p:Nat}{o:DO}(h:Ap G G')(e:G[p]? =some o):G'[p]? =some o:=by
 obtain⟨t,rfl⟩:=h
 exact aB4 e
theorem Ap.len{G G':DH}(h:Ap G G'):G.length≤G'.length:=by
 obtain⟨t,rfl⟩:=h
 simp
section
variable{g:Fg}{t:DSt→M Bool}{e:Fe}{ck:DH→Bool}
theorem aA2(J:DH→Prop)(S:DSt→Prop)(f:D→D)(hck:∀G,J G→ck G=true):∀(items:List D) (σ:DSt) (G:DH),S σ→J G→
 (∀d∈items,∀ σ G,S σ→J G→Wp (g d σ) G fun σ1 G1=>G1=G∧S σ1∧Wp (t σ1) G fun b G2=>b=true∧G2=G∧Wp (e σ1) G fun y G3=>J G3∧y=f d)→
 Wp (P0 g t e ck items σ) G fun ys G'=>J G'∧ys=items.map f
 |[],σ,G,s,j,_=>by
   rw[bE2]
   exact⟨hck G j,j,rfl⟩
 |d::r,σ,G,s,j,step=>by
   rw[bC4]
   refine⟨hck G j,Wp.mono (step d (by simp) σ G s j) fun σ1 G1 ⟨e1,s1,w1⟩=>?_⟩
   subst e1
   refine Wp.mono w1 fun b G2 ⟨eb,e2,w2⟩=>?_
   subst eb e2
   rw[if_pos rfl]
   refine Wp.mono w2 fun y G3 ⟨j3,py⟩=>?_
   refine Wp.mono (aA2 J S f hck r σ1 G3 s1 j3 fun d hd=>step d (by simp[hd])) fun ys G4 ⟨j4,l4⟩=>⟨j4,by simp[l4,py]⟩
end
theorem eV5{G:DH}{p:Nat}{l:List D}{lo hi:Option Int}{Q:DPP}(e:G[p]? =some (.lst l)):Wp (slD (.ref p) lo hi) G Q↔Q (.ref G.length) (G++[.lst (DL.cutD l lo hi)]):=by
 have h:slD (.ref p) lo hi= (do
  let l ←R4 p >>= DL.listOf
  Q5 (.lst (DL.cutD l lo hi))):=rfl
 rw[h]
 simp only[m5,T7,e,R9,DL.listOf,j9,aA8]
theorem big:1000000<sizeLine:=by decide
theorem cE0{l:List D}:cT3 K9 (.tup [.str T4,.tup l])=false:=by
 show (T4==K9)=false
 decide
section
variable{t:DSt→M Bool}{b:Fs}{σ:DSt}{G:DH}{P:Fl→DH→Prop}
theorem cB8{n:Nat}:Wp (X6 (n+1) t b σ) G P↔Wp (t σ) G fun k G1=>if k=true then Wp (b σ) G1 fun fl G2=>match fl with
 | .nx σ'=>Wp (X6 n t b σ') G2 P
 | .ct σ'=>Wp (X6 n t b σ') G2 P
 | .bk σ'=>P (.nx σ') G2
 | .rt d=>P (.rt d) G2
 else P (.nx σ) G1:=by
 rw[X6]
 simp only[m5,aP5,j9]
 constructor
 · rintro⟨k,G1,e,q⟩
   refine⟨k,G1,e,?_⟩
   rcases k with _|_
   ·exact q
   ·
     simp only[if_true]at q ⊢
     obtain⟨fl,G2,e2,q⟩:=q
     refine⟨fl,G2,e2,?_⟩
     cases fl<;>first
      |exact q
      |exact j9.mp q
 · rintro⟨k,G1,e,q⟩
   refine⟨k,G1,e,?_⟩
   rcases k with _|_
   ·exact q
   ·
     simp only[if_true]at q ⊢
     obtain⟨fl,G2,e2,q⟩:=q
     refine⟨fl,G2,e2,?_⟩
     cases fl<;>first
      |exact q
      |exact j9.mpr q
theorem dK7{n:Nat}(h:Wp (X6 n t b σ) G P):Wp (bF8 t b σ) G P:=by
 obtain⟨a,G',e,q⟩:=h
 refine⟨a,G',?_,q⟩
 have hx:∃n,(X6 n t b σ G).isSome=true:=⟨n,by rw[e];rfl⟩
 unfold bF8
 rw[dif_pos hx]
 have hs:=Classical.choose_spec hx
 obtain⟨r,hr⟩:=Option.isSome_iff_exists.mp hs
 rw[hr]
 have e1:=bZ9 (Nat.le_max_left n (Classical.choose hx)) e
 have e2:=bZ9 (Nat.le_max_right n (Classical.choose hx)) hr
 rw[e1]at e2
 exact e2.symm
end
theorem eD2{r:Nat}{l:List D}{y:D}{G:DH}{Q:DPP}(h:G[r]? =some (.lst (l++[y]))):Wp (eD9 (.ref r) []) G Q↔Q y (G.set r (.lst l)):=by
 have e:eD9 (.ref r) []= (do
  let l ←lstM r
  match l.getLast? with
  |some y=>do
    let _ ←bL4 r (.lst l.dropLast)
    pure y
  |none=>M.stuck):=rfl
 rw[e]
 unfold lstM
 simp only[m5,T7,h,R9,j9,List.getLast?_append,List.getLast?_singleton,Option.some_or,List.dropLast_concat,bQ6]
theorem bO0{r q:Nat}{l k:List D}{G:DH}{Q:DPP}(h:G[r]? =some (.lst l))(hq:G[q]? =some (.lst k))(hl:l.length+k.length≤sizeLine):Wp (aO6 (.ref r) [.ref q]) G Q↔Q .non (G.set r (.lst (l++k))):=by
 have e:aO6 (.ref r) [.ref q]= (do
  let l ←lstM r
  let k ←lstM q
  if l.length+k.length≤sizeLine then do
   let _ ←bL4 r (.lst (l++k))
   pure .non
  else M.stuck):=rfl
 rw[e]
 unfold lstM
 simp only[m5,T7,h,hq,R9,j9,if_pos hl,bQ6]
theorem Gr.set{G0 G:DH}{p:Nat}{o:DO}(h:Gr G0 G)(hp:G0.length≤p):Gr G0 (G.set p o):=⟨by rw[List.length_set];exact h.1,fun i hi=>by rw[List.getElem?_set_ne (by lia)];exact h.2 i hi⟩
theorem bZ8{p:Nat}{xs:List D}{G:DH}{B:Bool→DH→Prop}(e:G[p]? =some (.lst xs)):Wp (aE8 (.ref p)) G B↔B (!xs.isEmpty) G:=by
 unfold aE8
 simp only[m5,T7,e,R9,j9]
theorem lt_of_get{G:DH}{p:Nat}{o:DO}(e:G[p]? =some o):p<G.length:=by
 by_cases hi:p<G.length
 ·exact hi
 ·rw[List.getElem?_eq_none (by lia)]at e;exact J1 e
theorem dJ4{l:List D}:kids (.tup [.str K9,.tup l])=l:=by
 unfold kids
 simp only[show cT3 K9 (.tup [.str K9,.tup l])=true from by simp[cT3],if_true,bN1]
theorem dQ6{l:List D}:kids (.tup [.str T4,.tup l])=l.filterMap fC1:=by
 unfold kids
 rw[cE0]
 simp only[Bool.false_eq_true,if_false,show cT3 T4 (.tup [.str T4,.tup l])=true from by simp[cT3],if_true,bN1]
noncomputable def VB(b:Nat):Nat→D→Prop
 |0,_=>False
 |n+1,d=>(∃i,d= .int i)∨(∃k,d= .bl k)∨(∃z,d= .str z∧z.length≤b)∨(∃l,d= .tup [.str K9,.tup l]∧∀x∈l,VB b n x)∨(∃l,d= .tup [.str T4,.tup l]∧∀x∈l,∃nm v,x= .tup [.str nm,v]∧nm.length≤1000∧VB b n v)
theorem VB.le{b c:Nat}(hb:b≤c):∀ {n m:Nat} {d:D},n≤m→VB b n d→VB c m d
 |0,_,_,_,h=>h.elim
 |n+1,0,_,h,_=>by lia
 |n+1,m+1,d,h,a=>by
   rcases a with a|a|⟨z,e,hz⟩|⟨l,e,hl⟩|⟨l,e,hl⟩
   ·exact .inl a
   ·exact .inr (.inl a)
   ·exact .inr (.inr (.inl ⟨z,e,by lia⟩))
   ·exact .inr (.inr (.inr (.inl ⟨l,e,fun x hx=>VB.le hb (by lia) (hl x hx)⟩)))
   ·exact .inr (.inr (.inr (.inr ⟨l,e,fun x hx=>let ⟨nm,v,q1,q2,q3⟩:=hl x hx;⟨nm,v,q1,q2,VB.le hb (by lia) q3⟩⟩)))
section
variable{bd n:Nat}
theorem VB.i{i:Int}:VB bd (n+1) (.int i):=.inl ⟨i,rfl⟩
theorem VB.b{i:Bool}:VB bd (n+1) (.bl i):=.inr (.inl ⟨i,rfl⟩)
theorem VB.s{z:Str}(h:z.length≤bd):VB bd (n+1) (.str z):=.inr (.inr (.inl ⟨z,rfl,h⟩))
theorem VB.l{l:List D}(h:∀x∈l,VB bd n x):VB bd (n+1) (.tup [.str K9,.tup l]):=.inr (.inr (.inr (.inl ⟨l,rfl,h⟩)))
theorem VB.r{l:List D}(h:∀x∈l,∃nm v,x= .tup [.str nm,v]∧nm.length≤1000∧VB bd n v):VB bd (n+1) (.tup [.str T4,.tup l]):=.inr (.inr (.inr (.inr ⟨l,rfl,h⟩)))
end
theorem VB.pos{b n:Nat}{d:D}(h:VB b n d):0<n:=by
 cases n with
 |zero=>exact h.elim
 |succ n=>lia
theorem VB.there{b n:Nat}{d:D}{G:DH}(h:VB b n d):aL8 G d:=by
 cases n with
 |zero=>exact h.elim
 |succ n=>rcases h with⟨i,rfl⟩|⟨k,rfl⟩|⟨z,rfl,hz⟩|⟨l,rfl,hl⟩|⟨l,rfl,hl⟩<;>exact⟨_,rfl⟩
theorem VB.kids{b n:Nat}{d:D}(h:VB b (n+1) d):∀x∈W.kids d,VB b n x:=by
 intro x hx
 rcases h with⟨i,rfl⟩|⟨k,rfl⟩|⟨z,rfl,hz⟩|⟨l,rfl,hl⟩|⟨l,rfl,hl⟩
 ·cases hx
 ·cases hx
 ·cases hx
 · rw[dJ4]at hx
   exact hl x hx
 · rw[dQ6]at hx
   obtain⟨y,hy,ey⟩:=List.mem_filterMap.mp hx
   obtain⟨nm,v,rfl,hn,hv⟩:=hl y hy
   cases ey
   exact hv
theorem cP0(l:List D)(n:Nat):DL.cutD l none (some (n:Int))=l.take n:=by
 unfold DL.cutD
 rw[HT.sIx_none,HT.sIx_nat,List.drop_zero,Nat.sub_zero]
 by_cases h:n≤l.length
 ·rw[Nat.min_eq_left h]
 ·rw[Nat.min_eq_right (by lia),List.take_of_length_le (Nat.le_refl _),List.take_of_length_le (by lia)]
theorem dV9(l:List D)(n:Nat):DL.cutD l (some (n:Int)) none=l.drop n:=by
 unfold DL.cutD
 rw[HT.sIx_none,HT.sIx_nat]
 by_cases h:n≤l.length
 ·rw[Nat.min_eq_left h,List.take_of_length_le (by rw[List.length_drop];lia)]
 · rw[Nat.min_eq_right (by lia),List.drop_eq_nil_of_le (Nat.le_refl _),List.drop_eq_nil_of_le (by lia)]
   simp
section
variable{G:DH}{Q:DPP}
noncomputable def cZ8:D→Bool
 | .bl _=>true
 |_=>false
theorem dA2{d:D}(h:aL8 G d):Wp (o5 [d,.ty "bool"]) G Q↔Q (.bl (cZ8 d)) G:=by
 obtain⟨k,h⟩:=h
 rw[cB3 eD5]
 simp only[h,R9]
 rw[eK7 (cZ8) (fun k=>k.is .bool) h (fun _=>⟨rfl,rfl⟩) rfl (fun _=>rfl) (fun _=>rfl) (fun _=>rfl) fun _=>rfl]
theorem fJ5{a c:Bool}:Wp (neD (.bl a) (.bl c)) G Q↔Q (.bl (!(a==c))) G:=by
 have e:eqN 40 G (.bl a) (.bl c)=some (a==c):=by rfl
 rw[bQ0,e];exact R9
theorem eK0{a c:Bool}:Wp (eqD (.bl a) (.bl c)) G Q↔Q (.bl (a==c)) G:=by
 have e:eqN 40 G (.bl a) (.bl c)=some (a==c):=by rfl
 rw[bK2,e];exact R9
theorem eS1{k:Bool}:Wp (dO2 [.bl k]) G Q↔Q (.int (if k then 1 else 0)) G:=j9
theorem bB4{ds:List D}{k:Int}(h0:0≤k)(h1:k<ds.length)(q:∀d∈ds,Q d (G++[.lst ds])):Wp (ixD (.ref G.length) (.int k)) (G++[.lst ds]) Q:=by
 rw[cH1 o6]
 obtain⟨d,hd,e⟩:=cL0 (l:=ds) h0 h1
 exact⟨d,e,q d hd⟩
end
noncomputable def aZ7{α β:Type}(R:α→β→Prop):List α→List β→Prop
 |[], []=>True
 |a::r,b::s=>R a b∧aZ7 R r s
 |_,_=>False
section
variable{α β:Type}{R S:α→β→Prop}
theorem aZ7.len:∀ {a:List α} {b:List β},aZ7 R a b→a.length=b.length
 |[], [],_=>rfl
 |_::_,_::_,h=>by simp[aZ7.len h.2]
 |[],_::_,h=>h.elim
 |_::_, [],h=>h.elim
theorem aZ7.mono(k:∀a b,R a b→S a b):∀ {a:List α} {b:List β},aZ7 R a b→aZ7 S a b
 |[], [],_=>trivial
 |_::_,_::_,h=>⟨k _ _ h.1,aZ7.mono k h.2⟩
 |[],_::_,h=>h.elim
 |_::_, [],h=>h.elim
theorem aZ7.app:∀ {a c:List α} {b d:List β},aZ7 R a b→aZ7 R c d→aZ7 R (a++c) (b++d)
 |[],_, [],_,_,h=>h
 |_::_,_,_::_,_,h,k=>⟨h.1,aZ7.app h.2 k⟩
 |[],_,_::_,_,h,_=>h.elim
 |_::_,_, [],_,h,_=>h.elim
end
noncomputable abbrev aV0:Str:= "any"
abbrev wOf:Str:= "of"
noncomputable def K5(p:Str×D):D:=.tup [.str p.1,p.2]
noncomputable def stD(p:D×D):D:=.tup [p.1,p.2]
noncomputable def fdD(f:Str×Bool×D):D:=.tup [.str f.1,.bl f.2.1,f.2.2]
def mkS(ns:List (D×D))(w:Str)(ts:List Str)(tr:List Bool)(li re:D):D:=.tup [.tup (ns.map stD),.tup [.str w,.tup (ts.map D.str)],.tup (tr.map D.bl),li,re]
noncomputable def LtS(a b:Str):Prop:=a.cps.toList<b.cps.toList
theorem bO9{ss:List Str}(h:ss.Pairwise LtS):ss.Nodup:=h.imp fun {a b} q e=>by subst e;exact List.lt_irrefl _ q
def VW(b:Nat):Nat→D→Prop
 |0,_=>False
 |n+1,d=>(∃i,d= .int i)∨(∃k,d= .bl k)∨(∃z:Str,d= .str z∧z.length≤1000+b)∨(∃l,d= .tup [.str K9,.tup l]∧l.length≤b∧∀x∈l,VW b n x)∨
    ∃ps:List (Str×D),d= .tup [.str T4,.tup (ps.map K5)]∧ps.length≤b∧(ps.map (·.1)).Pairwise LtS∧∀p∈ps,p.1.length≤1000∧VW b n p.2
noncomputable def aT4:D→Prop
 | .non=>True
 | .int _=>True
 |_=>False
def aR1(p:D×D):Prop:=aT4 p.1∧aT4 p.2∧∀a b,p.1= .int a→p.2= .int b→a≤b∧b-a<2 ^ 90
noncomputable def LiP(S:D→Prop)(li:D):Prop:=li= .non∨∃fs m,li= .tup [.tup fs,m]∧fs.length≤100∧(∀x∈fs,S x)∧S m
def ReP(S:D→Prop)(re:D):Prop:=re= .non∨∃(fs:List (Str×Bool×D)) (m:D),re= .tup [.tup (fs.map fdD),m]∧fs.length≤40∧(fs.map (·.1)).Nodup∧(∀f∈fs,f.1.length≤1000∧S f.2.2)∧S m
def SB:Nat→D→Prop
 |0,_=>False
 |n+1,d=>d= .str aV0∨∃ns w ts tr li re,d=mkS ns w ts tr li re∧(∀p∈ns,aR1 p)∧ns.length≤100∧(∀z∈ts,z.length≤1000)∧ts.length≤100∧tr.length≤100∧LiP (SB n) li∧ReP (SB n) re
noncomputable def loB(i:Int):D→Bool
 | .int x=>decide (x≤i)
 |_=>true
noncomputable def hiB(i:Int):D→Bool
 | .int y=>decide (i≤y)
 |_=>true
def dK4(i:Int):D→Bool
 | .tup [a,b]=>loB i a&&hiB i b
 |_=>true
noncomputable def nmD(nm:Str):D→Bool
 | .tup (.str z::_)=>decide (z=nm)
 |_=>false
def aD5(fs:List D)(m:D)(nm:Str):D:=match fs.find? (nmD nm) with
 |some (.tup [_,_,s])=>s
 |_=>m
def aY7(l:List D):D→Bool
 | .tup [.str nm,.bl b,_]=>l.any (nmD nm)||!b
 |_=>true
def cO9(f:D→D→Bool)(fs:List D)(m:D):D→Bool
 | .tup [.str nm,v]=>f v (aD5 fs m nm)
 |_=>true
def cM0(f:D→D→Bool)(l:List D):D→Bool
 | .tup [.tup fs,m]=>decide (fs.length≤l.length)&&(List.range l.length).all fun k=>f (l.getD k .non) ((fs++List.replicate l.length m).getD k .non)
 |_=>false
def cI5(f:D→D→Bool)(l:List D):D→Bool
 | .tup [.tup fs,m]=>fs.all (aY7 l)&&l.all (cO9 f fs m)
 |_=>false
def inP:Nat→D→D→Bool
 |0,_,_=>false
 |n+1,v,s=>match s with
   | .tup [.tup ns,.tup [.str w,.tup ts],.tup tr,li,re]=>match v with
     | .bl b=>inV (.bl b) (tr.map toV)
     | .int i=>ns.any (dK4 i)
     | .str z=>inV (.str z) (ts.map toV)==(w==wOf)
     | .tup [.str k,.tup l]=>if k=K9 then cM0 (inP n) l li else cI5 (inP n) l re
     |_=>false
   |_=>true
section
variable{n:Nat}{ns:List (D×D)}{w:Str}{ts:List Str}{tr:List Bool}{li re:D}
theorem aO3{l:List D}:inP (n+1) (.tup [.str K9,.tup l]) (mkS ns w ts tr li re)=cM0 (inP n) l li:=by
 show (if K9=K9 then cM0 (inP n) l li else cI5 (inP n) l re)=_
 exact if_pos rfl
theorem aO9{l:List D}:inP (n+1) (.tup [.str T4,.tup l]) (mkS ns w ts tr li re)=cI5 (inP n) l re:=by
 show (if T4=K9 then cM0 (inP n) l li else cI5 (inP n) l re)=_
 exact if_neg (by decide)
end
noncomputable def bN9:D→D→Bool
 | .int x,.int y=>decide (x>y)
 |_,_=>false
theorem cV3{i j:Int}{G:DH}{Q:DPP}:Wp (gtD (.int i) (.int j)) G Q↔Q (.bl (decide (i>j))) G:=j9
theorem aG6{a b:D}{G:DH}{Q:DPP}(ha:aT4 a)(hb:aT4 b):Wp (U4 [a,b]) G Q↔Q (.bl (bN9 a b)) G:=bC1 (by
 cases a<;>cases b<;>first
  |exact ha.elim
  |exact hb.elim
  |rfl)
theorem cW2{i:Int}{a b:D}{G:DH}{Q:DPP}(ha:aT4 a)(hb:aT4 b):Wp (R7 [.int i,a,b]) G Q↔Q (.bl (dK4 i (.tup [a,b]))) G:=by
 unfold R7 aP2
 have s0:([.int i,a,b].map some++List.replicate (3 - [D.int i,a,b].length) none:DSt)= [some (.int i),some a,some b]:=rfl
 simp only[aW8,s0,bA3,aX4,cG0,aF5,Z6,X7,t6,aB6,List.getElem?_cons_zero,List.getElem?_cons_succ,Option.some.injEq,exists_eq_left',aG6 ha (show aT4 (.int i)from trivial),aG6 (show aT4 (.int i)from trivial) hb,U8]
 have e1:(!bN9 a (.int i))=loB i a:=by
  cases a<;>first
   |exact ha.elim
   |rfl
   |(simp only[bN9,loB,decide_not.symm];congr 1;exact propext ⟨fun z=>by omega,fun z=>by omega⟩)
 have e2:(!bN9 (.int i) b)=hiB i b:=by
  cases b<;>first
   |exact hb.elim
   |rfl
   |(simp only[bN9,hiB,decide_not.symm];congr 1;exact propext ⟨fun z=>by omega,fun z=>by omega⟩)
 have e3:dK4 i (.tup [a,b])= (loB i a&&hiB i b):=rfl
 rw[e3,←e1,←e2]
 generalize bN9 a (.int i)=x
 generalize bN9 (.int i) b=y
 cases x<;>cases y<;>simp
theorem dF7{i:Int}{G:DH}{ck:DH→Bool}(hck:ck G=true){ns:List (D×D)}(h:∀p∈ns,aR1 p)(σ:DSt)(hσ:∃u v,σ= [u,v,some (.int i)]):
 P0 (aL0 2 (M5 (q13 0) (M5 (q13 1) (aM6)))) N6 (q12 (fnX 3 R7) (q10 (c7 2) (q10 (c7 0) (q10 (c7 1) (q11))))) ck (ns.map stD) σ G=some (.ok ((ns.map stD).map fun d=>.bl (dK4 i d)),G):=by
 refine aO0 (I:=fun σ=>∃u v,σ= [u,v,some (.int i)]) hck _ _ hσ fun d hd σ hσ=>?_
 obtain⟨p,hp,rfl⟩:=List.mem_map.mp hd
 obtain⟨u,v,rfl⟩:=hσ
 refine⟨[some p.1,some p.2,some (.int i)],bC5 ?_,⟨_,_,rfl⟩,rfl,bC5 ?_⟩
 · unfold stD
   rw[eB5]
   simp only[bQ2,cD7,U0,List.set_cons_succ,List.set_cons_zero]
   exact⟨trivial,trivial⟩
 · simp only[aF5,X7,t6,aB6,Z6,List.getElem?_cons_zero,List.getElem?_cons_succ,Option.some.injEq,exists_eq_left',cW2 (h p hp).1 (h p hp).2.1]
   exact⟨rfl,rfl,trivial⟩
theorem cL2{fs:List D}{m:D}{k n:Nat}(hk:k<n):(fs++List.replicate n m).getD k .non=if k<fs.length then fs.getD k .non else m:=by
 by_cases h:k<fs.length
 ·rw[if_pos h,List.getD_eq_getElem?_getD,List.getElem?_append_left h,←List.getD_eq_getElem?_getD]
 ·rw[if_neg h,List.getD_eq_getElem?_getD,List.getElem?_append_right (by omega),List.getElem?_replicate,if_pos (by omega)];rfl
theorem dU5{fs:List D}{m:D}{k n:Nat}(hk:k<n){G:DH}{Q:DPP}(hz:fs.length≤sizeLine):Wp (W8 [.tup [.tup fs,m],.int (k:Int)]) G Q↔Q ((fs++List.replicate n m).getD k .non) G:=by
 rw[cL2 hk]
 unfold W8 aZ8
 have s0:([.tup [.tup fs,m],.int (k:Int)].map some++List.replicate (2 - [D.tup [.tup fs,m],.int (k:Int)].length) none:DSt)= [some (.tup [.tup fs,m]),some (.int (k:Int))]:=rfl
 have a0:atI [D.tup fs,m] 0=some (.tup fs):=rfl
 have a1:atI [D.tup fs,m] 1=some m:=rfl
 simp only[aW8,s0,bA3,bH5,bM1,aI6,aF5,X7,t6,cN0,aB6,List.getElem?_cons_zero,List.getElem?_cons_succ,Option.some.injEq,exists_eq_left',ix_tup,a0,a1,cY0,cI6,cN2]
 by_cases h:k<fs.length
 · rw[if_pos (by simpa using h),if_pos h]
   have e:atI fs (k:Int)=some (fs.getD k .non):=atI_nat (by rw[List.getD_eq_getElem?_getD,List.getElem?_eq_getElem h];rfl)
   simp only[e,Option.some.injEq,exists_eq_left']
 ·rw[if_neg (by simpa using h),if_neg h]
theorem eC7{g:D→Bool}{F:Nat→Bool}{l:List D}(h:∀(k:Nat) (v:D),l[k]? =some v→g (.tup [.int (k:Int),v])=F k):((l.zipIdx.map fun p=>D.tup [.int ((p.2:Nat):Int),p.1]).all g)= (List.range l.length).all F:=by
 rw[Bool.eq_iff_iff,List.all_eq_true,List.all_eq_true]
 constructor
 · intro H k hk
   have hk':k<l.length:=by simpa using hk
   have:=H (.tup [.int (k:Int),l[k]]) (List.mem_map.mpr ⟨(l[k],k),List.mem_zipIdx_iff_getElem?.mpr (by simp[hk']),rfl⟩)
   rw[h k l[k] (by simp[hk'])]at this
   exact this
 · intro H d hd
   obtain⟨p,hp,rfl⟩:=List.mem_map.mp hd
   have hp':=List.mem_zipIdx_iff_getElem?.mp hp
   have hlt:p.2<l.length:=by
    rcases Nat.lt_or_ge p.2 l.length with z|z
    ·exact z
    ·rw[List.getElem?_eq_none z]at hp';cases hp'
   rw[h p.2 p.1 hp']
   exact H p.2 (by simpa using hlt)
def liG(n:Nat)(len:Nat)(fs:List D)(m:D):D→Bool
 | .tup [.int k,v]=>inP n v ((fs++List.replicate len m).getD k.toNat .non)
 |_=>true
theorem dO8{fs:List D}{m:D}{k n:Nat}(hk:k<n):(fs++List.replicate n m).getD k .non∈fs∨(fs++List.replicate n m).getD k .non=m:=by
 rw[cL2 hk]
 by_cases h:k<fs.length
 ·rw[if_pos h,List.getD_eq_getElem?_getD,List.getElem?_eq_getElem h];exact .inl (List.getElem_mem h)
 ·rw[if_neg h];exact .inr rfl
theorem dY6{R:List D→M D}{n:Nat}{l fs:List D}{m:D}{G:DH}(hl:l.length≤1000)(hf:fs.length≤100)(hR:∀v∈l,∀s,s∈fs∨s=m→∀G,Wp (R [v,s]) G fun x G'=>x= .bl (inP n v s)∧Ap G G'):
 Wp (S6 R [.tup l,.tup [.tup fs,m]]) G fun x G'=>x= .bl (cM0 (inP n) l (.tup [.tup fs,m]))∧Ap G G':=by
 have bg:=big
 refine J3 (show Wp (aJ0 R [some (.tup l),some (.tup [.tup fs,m])]) G _ from ?_)
 refine m8.mpr<| aH2<| cR7<| g8 (a:=false) (G':=G) rfl ⟨fun z=>(nomatch z),fun _=>R8<| X3 (x:=.int l.length) (y:=.int fs.length) rfl rfl<| cI6.mpr ⟨_,rfl,fun hlt=>?_,fun hlt=>K1.mpr ?_⟩⟩
 · have hlt:(l.length:Int)<fs.length:=of_decide_eq_true hlt
   refine g8 (a:=.rt (.bl false)) rfl (M6 ⟨?_,Ap.refl⟩)
   have:decide (fs.length≤l.length)=false:=decide_eq_false (by omega)
   show _=D.bl (decide (fs.length≤l.length)&&_)
   rw[this];rfl
 · have hlt:¬(l.length:Int)<fs.length:=of_decide_eq_false hlt
   refine J9<| R6<| v6<| wp_comp.mpr<| dH8 (l:=l)<| g8 (a:= [.tup l]) rfl ⟨rfl,by simp;omega,?_⟩
   refine(aA2 (fun G'=>Ap G G') (fun σ=>∃u v,σ= [u,v,some (.tup [.tup fs,m])]) (fun d=>.bl (liG n l.length fs m d)) (fun _ _=>rfl) _ _ G ⟨_,_,rfl⟩ Ap.refl ?_).mono ?_
   · rintro d hd σ G1 ⟨u,v,rfl⟩ j1
     obtain⟨p,hp,rfl⟩:=List.mem_map.mp hd
     have hp':=List.mem_zipIdx_iff_getElem?.mp hp
     have hm:p.1∈l:=List.mem_of_getElem? hp'
     have hlt:p.2<l.length:=by
      rcases Nat.lt_or_ge p.2 l.length with z|z
      ·exact z
      ·rw[List.getElem?_eq_none z]at hp';cases hp'
     refine g8 (a:= [some (.int p.2),some p.1,some (.tup [.tup fs,m])]) rfl ⟨rfl,⟨_,_,rfl⟩,g8 rfl ⟨rfl,rfl,?_⟩⟩
     refine R6<| M9 (x:=p.1) rfl<| v6<| m9 (as:= [.tup [.tup fs,m],.int p.2]) rfl rfl<| (dU5 hlt (show fs.length≤sizeLine by omega)).mpr<| t6.mpr<| Z6.mpr ⟨rfl,(hR p.1 hm _ (dO8 hlt) G1).mono fun x G2 z=>⟨j1.trans z.2,?_⟩⟩
     rw[z.1]
     show _=D.bl (inP n p.1 ((fs++List.replicate l.length m).getD (Int.toNat (p.2:Int)) .non))
     rw[Int.toNat_natCast]
   · rintro _ G1 ⟨j1,rfl⟩
     refine t6.mpr<| (bF9 (f:=liG n l.length fs m) o6).mpr<| M6 ⟨?_,j1.trans Ap.one⟩
     have hd:decide (fs.length≤l.length)=true:=decide_eq_true (by omega)
     show _=D.bl (decide (fs.length≤l.length)&&_)
     rw[hd,Bool.true_and,eC7 (F:=fun k=>inP n (l.getD k .non) ((fs++List.replicate l.length m).getD k .non))]
     intro k v hv
     show inP n v ((fs++List.replicate l.length m).getD (Int.toNat (k:Int)) .non)=_
     rw[Int.toNat_natCast,List.getD_eq_getElem?_getD,List.getD_eq_getElem?_getD,hv];rfl
theorem list_none{R:List D→M D}{l:List D}{G:DH}:Wp (S6 R [.tup l,.non]) G fun x G'=>x= .bl false∧Ap G G':=aI1 (d:=.bl false) rfl ⟨rfl,Ap.refl⟩
theorem bX1(f:Str×D→D):∀(ps:List (Str×D)) (z:Str),W9 (ps.map fun p=>((.inr p.1:Key),f p)) (.inr z)= (ps.find? fun p=>decide (p.1=z)).map f
 |[],z=>rfl
 |p::r,z=>by
   have ih:=bX1 f r z
   unfold W9 at ih ⊢
   by_cases e:p.1=z
   ·simp[List.find?_cons,e]
   · have e':¬((.inr p.1:Key)= .inr z):=fun q=>e (Sum.inr.inj q)
     simp only[List.map_cons,List.find?_cons,e,e',decide_false,ih]
theorem cC0:∀ps:List (Str×D),aH6 (ps.map K5)=some (ps.map fun p=>((.inr p.1:Key),p.2))
 |[]=>rfl
 |p::r=>by
   rw[List.map_cons,List.map_cons]
   show (match bY3 (K5 p),aH6 (r.map K5) with|some p,some ps=>some (p::ps)|_,_=>none)=_
   rw[cC0 r];rfl
theorem cG7:∀(r acc:List (Str×D)),((acc++r).map (·.1)).Nodup→DL.putAll (acc.map fun p=>((.inr p.1:Key),p.2)) (r.map fun p=>((.inr p.1:Key),p.2))= (acc++r).map fun p=>((.inr p.1:Key),p.2)
 |[],acc,h=>by simp[DL.putAll]
 |p::r,acc,h=>by
   have hn:¬((acc.map fun p=>((.inr p.1:Key),p.2)).any fun kv=>decide (kv.1= .inr p.1))=true:=by
    intro q
    obtain⟨kv,hk,e⟩:=List.any_eq_true.mp q
    obtain⟨x,hx,rfl⟩:=List.mem_map.mp hk
    have ex:x.1=p.1:=Sum.inr.inj (of_decide_eq_true e)
    rw[List.map_append,List.nodup_append]at h
    exact h.2.2 x.1 (List.mem_map.mpr ⟨x,hx,rfl⟩) p.1 (by simp) ex
   have e1:aR9 (acc.map fun p=>((.inr p.1:Key),p.2)) (.inr p.1) p.2= (acc++[p]).map fun p=>((.inr p.1:Key),p.2):=by
    unfold aR9
    rw[if_neg hn,List.map_append];rfl
   have ih:=cG7 r (acc++[p]) (by simpa using h)
   show DL.putAll (aR9 (acc.map fun p=>((.inr p.1:Key),p.2)) (.inr p.1) p.2) (r.map fun p=>((.inr p.1:Key),p.2))=_
   rw[e1,ih]
   simp
theorem eF8{G:DH}{q:Nat}{l:List (Key×D)}{z:Str}(e:G[q]? =some (.dct l)):inB (.str z) (.ref q) G=some (W9 l (.inr z)).isSome:=by
 show (match G[q]? with
  |some (.dct l)=>(bX0 (.str z)).map fun k=>(W9 l k).isSome
  |some (.rod _)=>none
  |some (.lst l)=>if Z2 (.str z)&&l.all Z2 then some (inV (toV (.str z)) (l.map toV))else none
  |some (.rol l)=>if Z2 (.str z)&&l.all Z2 then some (inV (toV (.str z)) (l.map toV))else none
  |none=>none)=_
 rw[e];rfl
theorem dK3{r:Nat}{l:List D}{ps:List (Key×D)}{G:DH}{Q:DPP}(e:G[r]? =some (.lst l))(h:aH6 l=some ps):Wp (aV9 [.ref r]) G Q↔Q (.ref G.length) (G++[.dct (putAll [] ps)]):=by
 unfold aV9
 simp only[m5,T7,e,R9,DL.listOf,j9,aQ1,h,aA8]
theorem dA3{g:Fgs}{a b c:D}{σ:DSt}{G:DH}{S:DSt→DH→Prop}:Wp (aL0 3 g (.tup [a,b,c]) σ) G S↔Wp (g [a,b,c] σ) G S:=dC3 rfl
noncomputable def kv(f:Str×D):Key×D:=(.inr f.1,f.2)
noncomputable def tv(f:Str×Bool×D):Key×D:=(.inr f.1,.tup [.bl f.2.1,f.2.2])
theorem dL7{ps:List (Str×D)}{G:DH}{Q:DPP}(h:(ps.map (·.1)).Nodup):Wp (aV9 [.tup (ps.map K5)]) G Q↔Q (.ref G.length) (G++[.dct (ps.map kv)]):=by
 rw[dM4 (cC0 ps)]
 have:=cG7 ps [] (by simpa using h)
 simp only[List.map_nil,List.nil_append]at this
 rw[this];rfl
theorem cM6{α:Type}(f:α→Bool):∀l:List α,(l.find? f).isSome=l.any f
 |[]=>rfl
 |a::r=>by
   rw[List.any_cons]
   cases h:f a with
   |true=>rw[List.find?_cons_of_pos h];rfl
   |false=>rw[List.find?_cons_of_neg (by simp[h]),cM6 f r];rfl
theorem eD3{ps:List (Str×D)}{z:Str}:(W9 (ps.map kv) (.inr z)).isSome= (ps.map K5).any (nmD z):=by
 show (W9 (ps.map fun p=>((.inr p.1:Key),p.2)) (.inr z)).isSome=_
 rw[bX1 (fun p=>p.2),Option.isSome_map,cM6,List.any_map];rfl
theorem cX9:∀(fs:List (Str×Bool×D)) (z:Str),W9 (fs.map tv) (.inr z)= (fs.find? fun f=>decide (f.1=z)).map fun f=>.tup [.bl f.2.1,f.2.2]
 |[],z=>rfl
 |f::r,z=>by
   rw[List.map_cons]
   by_cases e:f.1=z
   · have h1:W9 (tv f::r.map tv) (.inr z)=some (.tup [.bl f.2.1,f.2.2]):=by unfold W9 tv;simp[e]
     rw[h1,List.find?_cons_of_pos (by simpa using e)];rfl
   · have h1:W9 (tv f::r.map tv) (.inr z)=W9 (r.map tv) (.inr z):=by unfold W9 tv;simp[e]
     rw[h1,List.find?_cons_of_neg (by simpa using e)]
     exact cX9 r z
theorem bP2(fs:List (Str×Bool×D))(m:D)(z:Str):aD5 (fs.map fdD) m z= ((fs.find? fun f=>decide (f.1=z)).map (·.2.2)).getD m:=by
 unfold aD5
 rw[List.find?_map]
 have e:(nmD z∘fdD)=fun f:Str×Bool×D=>decide (f.1=z):=rfl
 rw[e]
 cases fs.find? fun f=>decide (f.1=z)<;>rfl
theorem cT0{fs:List (Str×Bool×D)}{m:D}{z:Str}:(∃f∈fs,aD5 (fs.map fdD) m z=f.2.2)∨aD5 (fs.map fdD) m z=m:=by
 rw[bP2]
 cases e:fs.find? fun f=>decide (f.1=z) with
 |none=>exact .inr rfl
 |some f=>exact .inl ⟨f,List.mem_of_find?_eq_some e,rfl⟩
theorem dS7{q:Nat}{fs:List (Str×Bool×D)}{m:D}{z:Str}{G:DH}{Q:DPP}(e:G[q]? =some (.dct (fs.map tv))):Wp (W3 [.ref q,m,.str z]) G Q↔∃b,Q (.tup [.bl b,aD5 (fs.map fdD) m z]) G∧b= ((fs.find? fun f=>decide (f.1=z)).map (·.2.1)).getD false:=by
 unfold W3 bA5
 have s0:([.ref q,m,.str z].map some++List.replicate (3 - [D.ref q,m,.str z].length) none:DSt)= [some (.ref q),some m,some (.str z)]:=rfl
 simp only[aW8,s0,bA3,cP2,X7,t6,W2,cN0,aB6,List.getElem?_cons_zero,List.getElem?_cons_succ,Option.some.injEq,exists_eq_left',dD6 e,dY5 e,cX9,bP2]
 have hs:2≤sizeLine:=by decide
 cases fs.find? fun f=>decide (f.1=z) with
 |none=>simp[hs]
 |some f=>simp[hs]
theorem cQ1:∀fs:List (Str×Bool×D),aH6 (fs.map fun f=>.tup [.str f.1,.tup [.bl f.2.1,f.2.2]])=some (fs.map tv)
 |[]=>rfl
 |f::r=>by
   have:=cQ1 r
   rw[List.map_cons,List.map_cons]
   unfold aH6
   simp only[this]
   rfl
theorem eT5(fs:List (Str×Bool×D))(h:(fs.map (·.1)).Nodup):putAll [] (fs.map tv)=fs.map tv:=by
 have e:fs.map tv= (fs.map fun f=>((f.1,.tup [.bl f.2.1,f.2.2]):Str×D)).map fun p=>((.inr p.1:Key),p.2):=by rw[List.map_map];rfl
 have:=cG7 (fs.map fun f=>((f.1,.tup [.bl f.2.1,f.2.2]):Str×D)) [] (by simpa [List.map_map,Function.comp_def]using h)
 simp only[List.map_nil,List.nil_append]at this
 rw[e,this]
theorem dF8{fs:List (Str×Bool×D)}{m:D}{G:DH}{Q:DPP}(h:(fs.map (·.1)).Nodup)(hl:fs.length≤100)(q:∀o,Q (.ref (G.length+1)) (G++[o]++[.dct (fs.map tv)])):Wp (K6 [.tup [.tup (fs.map fdD),m]]) G Q:=by
 have bg:=big
 unfold K6 aG2
 have s0:([D.tup [.tup (fs.map fdD),m]].map some++List.replicate (1 - [D.tup [.tup (fs.map fdD),m]].length) none:DSt)= [some (.tup [.tup (fs.map fdD),m])]:=rfl
 have a0:atI [D.tup (fs.map fdD),m] 0=some (.tup (fs.map fdD)):=rfl
 simp only[aW8,s0,bA3,aF5,X7,t6,wp_comp,wp_itW,aI6,cN0,aB6,List.getElem?_cons_zero,Option.some.injEq,exists_eq_left',ix_tup,a0,srcW_tup]
 refine⟨by rw[List.length_map];omega,?_⟩
 have hc:P0 (aL0 3 (M5 (q13 0) (M5 (q13 1) (M5 (q13 2) (aM6))))) N6 (J4 (q10 (c7 0) (q10 (J4 (q10 (c7 1) (q10 (c7 2) (q11)))) (q11)))) (fun _=>true) (fs.map fdD) (aA9 [none,none,none] [some (.tup [.tup (fs.map fdD),m])]) G=some (.ok ((fs.map fdD).map fun d=>match d with| .tup [a,b,c]=>.tup [a,.tup [b,c]]|_=>.non),G):=by
  refine aO0 (I:=fun σ=>σ.length=3) rfl _ _ rfl fun d hd σ hσ=>?_
  obtain⟨f,hf,rfl⟩:=List.mem_map.mp hd
  match σ,hσ with
  |[u,v,w],_=>
    refine⟨[some (.str f.1),some (.bl f.2.1),some f.2.2],bC5 ?_,rfl,rfl,bC5 ?_⟩
    · unfold fdD
      rw[dA3]
      simp only[bQ2,cD7,U0,List.set_cons_succ,List.set_cons_zero]
      exact⟨trivial,trivial⟩
    · simp only[W2,X7,t6,aB6,List.getElem?_cons_zero,List.getElem?_cons_succ,Option.some.injEq,exists_eq_left']
      exact⟨sz,sz,rfl,trivial⟩
 refine(bC1 hc).mpr ?_
 have ed:((fs.map fdD).map fun d=>match d with| .tup [a,b,c]=>D.tup [a,.tup [b,c]]|_=>.non)=fs.map fun f=>.tup [.str f.1,.tup [.bl f.2.1,f.2.2]]:=by rw[List.map_map];rfl
 rw[ed,dK3 o6 (cQ1 fs),eT5 fs h]
 have hlen:(G++[DO.lst (fs.map fun f=>D.tup [.str f.1,.tup [.bl f.2.1,f.2.2]])]).length=G.length+1:=by simp
 rw[hlen]
 exact q _
theorem cV8{q:Nat}{ps:List (Str×D)}{fs:List (Str×Bool×D)}{G:DH}(e:G[q]? =some (.dct (ps.map kv)))(σ:DSt)(hσ:∃a b c,σ= [a,b,c,some (.ref q)]):
 P0 (aL0 3 (M5 (q13 0) (M5 (q13 1) (M5 (q13 2) (aM6))))) N6 (cW5 (d7 inD (c7 0) (c7 3)) (bG4 (c7 1))) (fun _=>true) (fs.map fdD) σ G=some (.ok ((fs.map fdD).map fun d=>.bl (aY7 (ps.map K5) d)),G):=by
 refine aO0 (I:=fun σ=>∃a b c,σ= [a,b,c,some (.ref q)]) rfl _ _ hσ fun d hd σ hσ=>?_
 obtain⟨f,hf,rfl⟩:=List.mem_map.mp hd
 obtain⟨u,v,w,rfl⟩:=hσ
 refine⟨[some (.str f.1),some (.bl f.2.1),some f.2.2,some (.ref q)],bC5 ?_,⟨_,_,_,rfl⟩,rfl,bC5 ?_⟩
 · unfold fdD
   rw[dA3]
   simp only[bQ2,cD7,U0,List.set_cons_succ,List.set_cons_zero]
   exact⟨trivial,trivial⟩
 · simp only[fA1,aI6,cG0,aB6,List.getElem?_cons_zero,List.getElem?_cons_succ,Option.some.injEq,exists_eq_left',cZ0,eF8 e,eD3,U8]
   have em:aY7 (ps.map K5) (fdD f)= ((ps.map K5).any (nmD f.1)||!f.2.1):=rfl
   rw[em]
   cases (ps.map K5).any (nmD f.1)<;>simp
theorem dT4{R:List D→M D}{l:List D}{G:DH}:Wp (Q6 R [.tup l,.non]) G fun x G'=>x= .bl false∧Ap G G':=aI1 (d:=.bl false) rfl ⟨rfl,Ap.refl⟩
theorem fE5{R:List D→M D}:aA0 R=o4 (ifS (J2 (d7 cI2 (c7 1) (cE .non))) (o7 (cE (.bl false))) (t7)) (o4 (N7 (q12 aV9 (q10 (c7 0) (q11))) (q13 2)) (o4 RA (o4 (N7 (q12 (fnX 1 K6) (q10 (c7 1) (q11))) (q13 3)) (RZ R)))):=rfl
section
variable{ps:List (Str×D)}{fs:List (Str×Bool×D)}{m:D}{G:DH}
theorem fB6{q:Nat}(e:G[q]? =some (.dct (ps.map kv)))(hf:fs.length≤100):Wp (RA [some (.tup (ps.map K5)),some (.tup [.tup (fs.map fdD),m]),some (.ref q),none]) G fun fl G'=>Ap G G'∧if (fs.map fdD).all (aY7 (ps.map K5))=true then fl= .nx [some (.tup (ps.map K5)),some (.tup [.tup (fs.map fdD),m]),some (.ref q),none]else fl= .rt (.bl false):=by
 have bg:=big
 refine aH2<| bD1.mpr<| aH1.mpr<| R6<| v6<| Z7 (l:=fs.map fdD) rfl (by rw[List.length_map];omega)<| g8 (cV8 e _ ⟨_,_,_,rfl⟩)<| t6.mpr<| (bF9 (f:=aY7 (ps.map K5)) o6).mpr<| U8.mpr ⟨fun g=>?_,fun g=>?_⟩
 · have g:(fs.map fdD).all (aY7 (ps.map K5))=false:=by simpa using g
   exact g8 rfl ⟨Ap.one,by rw[g];rfl⟩
 · have g:(fs.map fdD).all (aY7 (ps.map K5))=true:=by simpa using g
   exact K1.mpr ⟨Ap.one,by rw[g];rfl⟩
theorem fE1{R:List D→M D}{n q r:Nat}(e:G[q]? =some (.dct (fs.map tv)))(hp:ps.length≤1000)(hR:∀p∈ps,∀s,(∃f∈fs,s=f.2.2)∨s=m→∀G,Wp (R [p.2,s]) G fun x G'=>x= .bl (inP n p.2 s)∧Ap G G'):
 Wp (RZ R [some (.tup (ps.map K5)),some (.tup [.tup (fs.map fdD),m]),some (.ref r),some (.ref q)]) G fun fl G'=>Ap G G'∧fl= .rt (.bl ((ps.map K5).all (cO9 (inP n) (fs.map fdD) m))):=by
 have bg:=big
 refine J9<| R6<| v6<| Z7 (l:=ps.map K5) rfl (by rw[List.length_map];omega) ?_
 refine(aA2 (fun G'=>Ap G G') (fun σ=>∃u v,σ= [u,v,some (.tup [.tup (fs.map fdD),m]),some (.ref q)]) (fun d=>.bl (cO9 (inP n) (fs.map fdD) m d)) (fun _ _=>rfl) _ _ G ⟨_,_,rfl⟩ Ap.refl ?_).mono ?_
 · rintro d hd σ G1 ⟨u,v,rfl⟩ j1
   obtain⟨p,hp',rfl⟩:=List.mem_map.mp hd
   refine g8 (a:= [some (.str p.1),some p.2,some (.tup [.tup (fs.map fdD),m]),some (.ref q)]) rfl ⟨rfl,⟨_,_,rfl⟩,g8 rfl ⟨rfl,rfl,?_⟩⟩
   refine R6<| M9 (x:=p.2) rfl<| v6<| bin_w<| m9 (as:= [.ref q,m,.str p.1]) rfl rfl<| (dS7 (j1.at e)).mpr ⟨_,g8 (a:=.int 1) rfl<| ix_tup.mpr ⟨_,rfl,t6.mpr<| Z6.mpr ⟨rfl,(hR p hp' _ cT0 G1).mono fun x G2 z=>⟨j1.trans z.2,z.1⟩⟩⟩,rfl⟩
 · rintro _ G1 ⟨j1,rfl⟩
   exact t6.mpr<| (bF9 (f:=cO9 (inP n) (fs.map fdD) m) o6).mpr ⟨j1.trans Ap.one,rfl⟩
theorem eO5{R:List D→M D}{n:Nat}(hp:ps.length≤1000)(hf:fs.length≤100)(hn:(ps.map (·.1)).Nodup)(hn2:(fs.map (·.1)).Nodup)(hR:∀p∈ps,∀s,(∃f∈fs,s=f.2.2)∨s=m→∀G,Wp (R [p.2,s]) G fun x G'=>x= .bl (inP n p.2 s)∧Ap G G'):
 Wp (Q6 R [.tup (ps.map K5),.tup [.tup (fs.map fdD),m]]) G fun x G'=>x= .bl (cI5 (inP n) (ps.map K5) (.tup [.tup (fs.map fdD),m]))∧Ap G G':=by
 refine J3 (show Wp (aA0 R [some (.tup (ps.map K5)),some (.tup [.tup (fs.map fdD),m]),none,none]) G _ from ?_)
 rw[fE5]
 refine m6 (G':=G) rfl<| m8.mpr<| aC5<| aX7 (as:= [.tup (ps.map K5)]) rfl<| (dL7 hn).mpr<| m8.mpr<| (fB6 (m:=m) (fs:=fs) o6 hf).mono ?_
 rintro fl G1 ⟨j1,hfl⟩
 have ei:cI5 (inP n) (ps.map K5) (.tup [.tup (fs.map fdD),m])= ((fs.map fdD).all (aY7 (ps.map K5))&&(ps.map K5).all (cO9 (inP n) (fs.map fdD) m)):=rfl
 rw[ei]
 cases hb:(fs.map fdD).all (aY7 (ps.map K5)) with
 |false=>
   rw[hb,if_neg (by simp)]at hfl
   subst hfl
   exact⟨rfl,Ap.one.trans j1⟩
 |true=>
   rw[hb,if_pos rfl]at hfl
   subst hfl
   refine m8.mpr<| aC5<| m9 (as:= [.tup [.tup (fs.map fdD),m]]) rfl rfl<| dF8 hn2 hf fun o=>?_
   have e2:(G1++[o]++[DO.dct (fs.map tv)])[G1.length+1]? =some (.dct (fs.map tv)):=by
    have:=o6 (G:=G1++[o]) (o:=DO.dct (fs.map tv))
    simpa using this
   refine(fE1 e2 hp hR).mono ?_
   rintro _ G3 ⟨j3,rfl⟩
   exact⟨rfl,((Ap.one.trans j1).trans (Ap.one.trans Ap.one)).trans j3⟩
end
theorem VW.there{b n:Nat}{d:D}{G:DH}(h:VW b n d):aL8 G d:=by
 cases n with
 |zero=>exact h.elim
 |succ n=>rcases h with⟨i,rfl⟩|⟨k,rfl⟩|⟨z,rfl,_⟩|⟨l,rfl,_⟩|⟨ps,rfl,_⟩<;>first|exact cM3 rfl|trivial
theorem dX1{x:D}{l:List D}{G:DH}{Q:DPP}(h:(Z2 x&&l.all Z2)=true):Wp (inD x (.tup l)) G Q↔Q (.bl (inV (toV x) (l.map toV))) G:=by
 rw[cZ0]
 have e:inB x (.tup l) G=some (inV (toV x) (l.map toV)):=by
  show (if (Z2 x&&l.all Z2)=true then some (inV (toV x) (l.map toV))else none)=_
  rw[if_pos h]
 simp only[e,Option.some.injEq,exists_eq_left']
theorem dW1{G:DH}{r:Nat}{l:List D}{f:D→Bool}{Q:DPP}(h:G[r]? =some (.lst (l.map fun x=>.bl (f x)))):Wp (cU2 [.ref r]) G Q↔Q (.bl (l.any f)) G:=by
 have h0:cU2 [.ref r]= (do
  let l ←R4 r >>= DL.listOf
  let bs ←aK1 (bF1 l)
  pure (.bl (bs.any id))):=rfl
 rw[h0]
 simp only[m5,T7,h,R9,DL.listOf,j9,aQ1,cH3,List.any_map]
 rfl
theorem eA0(tr:List Bool):(tr.map D.bl).all Z2=true:=by rw[List.all_map];exact List.all_eq_true.mpr fun _ _=>rfl
theorem dL9(ts:List Str):(ts.map D.str).all Z2=true:=by rw[List.all_map];exact List.all_eq_true.mpr fun _ _=>rfl
theorem fA2{a b c d:D}{z o:Str}{ts:List Str}{w:Str}{G:DH}{Q:DPP}(q:Q (.bl (inV (.str z) ((ts.map D.str).map toV)==(w==o))) G):Wp ((d7 eqD (d7 inD (c7 0) (d7 ixD (d7 ixD (c7 1) (cE (.int 1))) (cE (.int 1)))) (d7 eqD (d7 ixD (d7 ixD (c7 1) (cE (.int 1))) (cE (.int 0))) (cE (.str o)))) [some (.str z),some (.tup [a,.tup [.str w,.tup (ts.map D.str)],b,c,d])]) G Q:=
 bin_w (X3 (x:=.str z) (y:=.tup (ts.map D.str)) rfl rfl ((dX1 (by rw[dL9];rfl)).mpr (X3 (x:=.str w) (y:=.str o) rfl rfl (cE2.mpr (eK0.mpr q)))))
theorem dH7{R:List D→M D}{b n k:Nat}{v s:D}{G:DH}(hb:b≤1000)(hR:∀v s G,VW b n v→SB k s→Wp (R [v,s]) G fun x G'=>x= .bl (inP n v s)∧Ap G G')(hv:VW b (n+1) v)(hs:SB (k+1) s):
 Wp (t8 2 (aM8 R) [v,s]) G fun x G'=>x= .bl (inP (n+1) v s)∧Ap G G':=by
 have bg:=big
 refine J3 (show Wp (aM8 R [some v,some s]) G _ from ?_)
 rcases hs with rfl|⟨ns,w,ts,tr,li,re,rfl,h1,h2,h3,h4,h5,h6,h7⟩
 ·exact dS1 (d:=.bl true) rfl ⟨rfl,Ap.refl⟩
 · rcases hv with⟨i,rfl⟩|⟨c,rfl⟩|⟨z,rfl,hz⟩|⟨l,rfl,hl,hv⟩|⟨ps,rfl,hl,hn,hv⟩
   · refine m6 rfl (m6 rfl (m8.mpr (bE0 (G1:=G) rfl (J9 (R6 (v6 (wp_comp.mpr (wp_itW.mpr (g8 (a:=.tup (ns.map stD)) rfl (srcW_tup.mpr ⟨?_,g8 (dF7 rfl h1 _ ⟨_,_,rfl⟩) (t6.mpr ((dW1 (f:=dK4 i) o6).mpr ⟨rfl,Ap.one⟩))⟩))))))))))
     show (ns.map stD).length≤sizeLine
     rw[List.length_map];omega
   ·exact m6 rfl (m8.mpr (bE0 (G1:=G) rfl (J9 (X3 (x:=.bl c) (y:=.tup (tr.map D.bl)) rfl rfl ((dX1 (by rw[eA0];rfl)).mpr ⟨rfl,Ap.refl⟩)))))
   ·exact m6 rfl (m6 rfl (m6 rfl (m8.mpr (bE0 (G1:=G) rfl (J9 (fA2 ⟨rfl,Ap.refl⟩))))))
   · refine m6 rfl (m6 rfl (m6 rfl (m6 rfl (m8.mpr (bE0 (G1:=G) rfl (J9 (m9 (as:= [.tup l,li]) rfl rfl ?_)))))))
     rw[show inP (n+1) (.tup [.str K9,.tup l]) (mkS ns w ts tr li re)=cM0 (inP n) l li from aO3]
     rcases h6 with rfl|⟨fs,m,rfl,hf,hfs,hm⟩
     ·exact list_none
     · refine dY6 (by omega) hf fun v hv' s hs' G=>hR v s G (hv v hv') ?_
       rcases hs' with hs'|rfl
       ·exact hfs s hs'
       ·exact hm
   · refine m6 rfl (m6 rfl (m6 rfl (m6 rfl (m6 rfl (J9 (m9 (as:= [.tup (ps.map K5),re]) rfl rfl ?_))))))
     rw[show inP (n+1) (.tup [.str T4,.tup (ps.map K5)]) (mkS ns w ts tr li re)=cI5 (inP n) (ps.map K5) re from aO9]
     rcases h7 with rfl|⟨fs,m,rfl,hf0,hn2,hfs,hm⟩
     ·exact dT4
     · refine eO5 (by omega) (by omega) (bO9 hn) hn2 fun p hp s hs' G=>hR p.2 s G (hv p hp).2 ?_
       rcases hs' with⟨f,hf',rfl⟩|rfl
       ·exact(hfs f hf').2
       ·exact hm
theorem cD1{b:Nat}(hb:b≤1000):∀(n k j:Nat) (v s:D) (G:DH),n≤j→VW b n v→SB k s→Wp (aW9 j [v,s]) G fun x G'=>x= .bl (inP n v s)∧Ap G G'
 |0,_,_,_,_,_,_,hv,_=>hv.elim
 |n+1,0,_,_,_,_,_,_,hs=>hs.elim
 |n+1,k+1,0,_,_,_,h,_,_=>absurd h (by omega)
 |n+1,k+1,j+1,v,s,G,h,hv,hs=>dH7 hb (fun v s G hv hs=>cD1 hb n k j v s G (by omega) hv hs) hv hs
section
variable{ps:List (Str×D)}{fs:List (Str×Bool×D)}{m s v:D}{G:DH}
end
noncomputable abbrev dI0:Str:= "but"
section
variable{n:Nat}{ns:List (D×D)}{w:Str}{ts:List Str}{tr:List Bool}{li re:D}
end
theorem aX3{a:D}(h:aT4 a):a= .non∨∃i,a= .int i:=match a,h with
 | .non,_=>.inl rfl
 | .int i,_=>.inr ⟨i,rfl⟩
section
variable{ps:List (Str×D)}{fs:List (Str×Bool×D)}{m:D}{G:DH}
end
section
variable{ps:List (Str×D)}{fs:List (Str×Bool×D)}{m s v:D}{G:DH}
end
theorem ixv{r:Nat}{l:List D}{j:Int}{a b:Fe}{σ:DSt}{d:D}{G G1:DH}{Q:DPP}(ha:a σ G=some (.ok (.ref r),G))(hb:b σ G=some (.ok (.int j),G))(e:G[r]? =some (.lst l))(hd:atI l j=some d)(q:Q d G):Wp (d7 ixD a b σ) G Q:=X3 ha hb ((cH1 e).mpr ⟨d,hd,q⟩)
theorem eB3{r:Nat}{l:List D}{k:Int}{j:Nat}{a b:Fe}{σ:DSt}{d:D}{G:DH}{S:DSt→DH→Prop}(ha:a σ G=some (.ok (.ref r),G))(hb:b σ G=some (.ok (.int k),G))(e:G[r]? =some (.lst l))(hj:ixN l.length k=some j)(q:S σ (G.set r (.lst (l.set j d)))):Wp (bO7 a b d σ) G S:=dL5.mpr (g8 ha (g8 hb ((eB4 e hj).mpr q)))
theorem eI3{r:Nat}{n:Int}{G:DH}(h:V6 G r)(hn:0<n∧n<2 ^ 100):Wp (j8 [.ref r,.int n]) G fun x G'=>∃k,x= .int k∧0≤k∧k<n∧∃o,G'=G.set r o∧V6 G' r:=by
 have hlt:=h.lt
 obtain⟨a,b,c,e,hr,hb1,hb2⟩:=h
 refine J3 (show Wp (aT2 [some (.ref r),some (.int n),none]) G _ from ?_)
 refine m8.mpr (aH2 (R8 (bin_w (ixv (G1:=G) rfl rfl hr rfl (g8 (a:=.int 0) rfl (bG8.mpr ⟨_,rfl,fun _=>?_,fun _=>?_⟩))))))
 · refine m8.mpr (aC5 (bin_w (ixv (G1:=G) rfl rfl hr rfl (g8 (a:=.int n) rfl ((aP6 hn.1).mpr ?_)))))
   refine m8.mpr (aS4.mpr (bin_w (ixv (G1:=G) rfl rfl hr rfl (g8 (a:=.int n) rfl ((bR4 hn).mpr (eB3 (k:=0) rfl rfl hr rfl ?_))))))
   refine g8 (a:=.rt (.int (a % n))) rfl (M6 ⟨_,rfl,Int.emod_nonneg _ (by lia),Int.emod_lt_of_pos _ hn.1,_,rfl,a / n,b,c,e,?_,hb1,hb2⟩)
   exact List.getElem?_set_self hlt
 · have b1:0≤b*b % 2147483629:=Int.emod_nonneg _ (by lia)
   have b2:b*b % 2147483629<2147483629:=Int.emod_lt_of_pos _ (by lia)
   have hr2:(G.set r (.lst [.int a,.int (b*b % 2147483629+3),.int c,.int e]))[r]? =some (.lst [.int a,.int (b*b % 2147483629+3),.int c,.int e]):=List.getElem?_set_self hlt
   refine K1.mpr (m8.mpr (aS4.mpr (bin_w (bin_w (bin_w (ixv (G1:=G) rfl rfl hr rfl (ixv (G1:=G) rfl rfl hr rfl ((bC3 (Or.inl ⟨by lia,by lia⟩)).mpr (g8 (a:=.int 2147483629) rfl ((aP6 (by decide)).mpr (g8 (a:=.int 3) rfl (aP0.mpr (eB3 (k:=1) rfl rfl hr rfl ?_)))))))))))))
   refine J9 (bin_w (bin_w (bin_w (bin_w (ixv (G1:=G) rfl rfl hr2 rfl (g8 (a:=.int 69621) rfl ((bC3 (Or.inr ⟨by lia,by lia⟩)).mpr (g8 (a:=.int 2147483563) rfl ((aP6 (by decide)).mpr (g8 (a:=.int 8) rfl ((bR4 (by decide)).mpr (g8 (a:=.int n) rfl ((aP6 hn.1).mpr ?_)))))))))))))
   exact⟨_,rfl,Int.emod_nonneg _ (by lia),Int.emod_lt_of_pos _ hn.1,_,rfl,a,b*b % 2147483629+3,c,e,hr2,by lia,by lia⟩
theorem dB0{r:Nat}{n:Int}{G:DH}(h:V6 G r)(hn:0<n∧n<2 ^ 100):Wp (j8 [.ref r,.int n]) G fun x G'=>∃k,x= .int k∧0≤k∧k<n∧Fr r G G':=
 Wp.mono (eI3 h hn) fun x G' ⟨k,e,h1,h2,o,e2,hh⟩=>⟨k,e,h1,h2,by subst e2;exact Fr.set hh⟩
theorem eI2{r:Nat}{G:DH}{n:Int}{ds:List D}{Q:DPP}(h:V6 G r)(hn:(ds.length:Int)=n)(h0:0<n)(h1:n<2 ^ 100)(q:∀d∈ds,∀G',Fr r G G'→Fr r (G++[.lst ds]) G'→Q d G'):
 Wp (j8 [.ref r,.int n]) (G++[.lst ds]) fun y G2=>Wp (ixD (.ref G.length) y) G2 Q:=by
 refine Wp.mono (dB0 h.app ⟨h0,h1⟩) fun x G2 ⟨k,e,h3,h4,f2⟩=>?_
 subst e
 have hne:G.length≠r:=by have:=h.lt;lia
 have hg:=f2.at hne (o:=.lst ds) cZ7
 rw[cH1 hg]
 obtain⟨d,hd,e⟩:=cL0 (l:=ds) h3 (by lia)
 exact⟨d,e,q d hd G2 ((Fr.app h).trans f2) f2⟩
theorem aD1{r:Nat}{n:Int}{G:DH}{Q:DPP}(h:V6 G r)(hn:0<n∧n<2 ^ 100)(q:∀k:Int,0≤k→k<n→∀G',Fr r G G'→Q (.int k) G'):Wp (j8 [.ref r,.int n]) G Q:=
 Wp.mono (dB0 h hn) fun x G' ⟨k,e,h1,h2,f⟩=>by subst e;exact q k h1 h2 G' f
theorem cB6{r:Nat}{n:Int}{fs:DSt→M (List D)}{σ:DSt}{G:DH}{Q:DPP}(hσ:σ[0]? =some (some (.ref r)))(h0:0<n)(h1:n<2 ^ 100)(w:Wp (fs σ) G fun ds G1=>ds.length≤sizeLine∧V6 G1 r∧(ds.length:Int)=n∧∀d∈ds,∀G',Fr r G1 G'→Q d G'):
 Wp (d7 ixD (aA6 fs) (q12 (fnX 2 j8) (q10 (c7 0) (q10 (cE (.int n)) (q11)))) σ) G Q:=
 bin_w (aM1.mpr (w.mono fun ds G1 q=>⟨q.1,R6 (v6 (aB6.mpr ⟨_,hσ,M9 rfl (t6.mpr (Z6.mpr ⟨rfl,eI2 q.2.1 q.2.2.1 h0 h1 fun d hd G' f _=>q.2.2.2 d hd G' f⟩))⟩))⟩))
theorem dD4{r:Nat}{G:DH}(h:V6 G r):Wp (Q0 [.ref r]) G fun x G'=>∃k,x= .int k∧ -1000000000000000000≤k∧k≤1000000000000000000∧Fr r G G':=by
 refine J3 (show Wp (aM2 [some (.ref r)]) G _ from ?_)
 refine m8.mpr (aH2 (R8 (bin_w (m9 (as:= [.ref r,.int 3]) rfl rfl (aD1 h ⟨by decide,by decide⟩ fun k h1 h2 G1 f1=>g8 (a:=.int 1) rfl (bG8.mpr ⟨_,rfl,fun _=>?_,fun _=>?_⟩))))))
 · refine J9 (bin_w (m9 (as:= [.ref r,.int (2*1000000000000000000+1)]) rfl rfl (aD1 f1.2.2 ⟨by decide,by decide⟩ fun k2 h3 h4 G2 f2=>g8 (a:=.int 1000000000000000000) rfl (dA9.mpr ?_))))
   exact⟨_,rfl,by lia,by lia,f1.trans f2⟩
 · refine K1.mpr (J9 (cB6 rfl (by decide) (by decide) (g8 (a:= [.int 0,.int 1,.int (-1),.int 2,.int (-2),.int 3,.int 10,.int (-10),.int 1000000000000000000,.int (-1000000000000000000)]) (G':=G1) rfl ⟨sz,f1.2.2,rfl,fun d hd G2 f2=>?_⟩)))
   simp only[List.mem_cons,List.not_mem_nil,or_false]at hd
   have ff:=f1.trans f2
   rcases hd with rfl|rfl|rfl|rfl|rfl|rfl|rfl|rfl|rfl|rfl<;>exact⟨_,rfl,by decide,by decide,ff⟩
theorem cN5{r:Nat}{G:DH}{Q:DPP}(h:V6 G r)(q:∀k:Int, -1000000000000000000≤k→k≤1000000000000000000→∀G',Fr r G G'→Q (.int k) G'):Wp (Q0 [.ref r]) G Q:=
 Wp.mono (dD4 h) fun x G' ⟨k,e,h1,h2,f⟩=>by subst e;exact q k h1 h2 G' f
theorem eH1{G:DH}{p:Nat}{ns:List Int}{c k:Int}(e:G[p]? =some (.rol (ns.map D.int)))(hk:0≤k∧k<64):Wp (aG9 [.ref p,.int c,.int k]) G fun d G'=>∃r,d= .ref r∧G.length≤r∧V6 G' r∧Gr G G':=by
 have m1:bW2 7919 k:=Or.inl ⟨by lia,by lia⟩
 have b1:0≤c % 2147483629:=Int.emod_nonneg _ (by lia)
 have b2:c % 2147483629<2147483629:=Int.emod_lt_of_pos _ (by lia)
 have m2:bW2 (c % 2147483629+7919*k+1) 48271:=Or.inr ⟨by lia,by lia⟩
 have ln:G.length≤(G++[DO.lst []]).length:=by simp
 refine J3 (show Wp (aU2 [some (.ref p),some (.int c),some (.int k),none]) G _ from ?_)
 refine m6 (σ':= [some (.ref p),some (.int c),some (.int k),some (.int 0)]) rfl ?_
 refine m8.mpr (cU7 (A:=fun fl G1=>∃w,fl= .nx [some (.ref p),some (.int c),some (.int k),some (.int w)]∧G1=G++[.lst []]) (R8 (bin_w (g8 (a:=.ref p) rfl (aM1.mpr (t6.mpr ⟨sz,(dZ5 (aB4 e) o6).mpr ⟨_,rfl,fun _=>?_,fun _=>?_⟩⟩))))) ?_)
 · rintro _ _ ⟨w,rfl,rfl⟩
   refine J9<| aM1.mpr<| M9 (x:=.int c) rfl<| v6<| bin_w<| bin_w<| bin_w<| bin_w<| X3 (x:=.int c) (y:=.int 2147483629) rfl rfl<| (aP6 (by decide)).mpr<| X3 (x:=.int 7919) (y:=.int k) rfl rfl<| (bC3 m1).mpr<| aP0.mpr<| g8 (a:=.int 1) rfl<| aP0.mpr<| g8 (a:=.int 48271) rfl<| (bC3 m2).mpr<| g8 (a:=.int 2147483647) rfl<| (aP6 (by decide)).mpr<| g8 (a:= [.int w,.int 0]) rfl ⟨sz,?_⟩
   exact⟨_,rfl,ln,⟨_,_,_,_,o6,Int.emod_nonneg _ (by lia),Int.lt_trans (Int.emod_lt_of_pos _ (by lia)) (by decide)⟩,Gr.app.trans Gr.app⟩
 ·exact aC5 (bin_w (aX7 (as:= [.ref p]) rfl ((eA5 (aB4 e)).mpr (g8 (a:=.int 2) rfl ((aP6 (by decide)).mpr ⟨_,rfl,rfl⟩)))))
 ·exact K1.mpr ⟨_,rfl,rfl⟩
section
variable{G:DH}{Q:DPP}
theorem ix_str{z:Str}{k:Int}(hz:z.length≤sizeLine)(h0:0≤k)(h1:k<z.length)(q:∀c∈z.cps.toList,Q (.str ⟨#[c]⟩) G):Wp (ixD (.str z) (.int k)) G Q:=by
 have e:ixD (.str z) (.int k)=if z.length≤sizeLine then (do
  let c ←aK1 (atI z.cps.toList k)
  pure (.str ⟨#[c]⟩):M D)else M.stuck:=rfl
 rw[e,if_pos hz]
 simp only[m5,aQ1,j9]
 have hl:z.length=z.cps.toList.length:=rfl
 obtain⟨n,rfl⟩:=Int.eq_ofNat_of_zero_le h0
 have hn:n<z.cps.toList.length:=by lia
 refine⟨z.cps.toList[n],?_,q _ (List.getElem_mem _)⟩
 unfold atI ixN
 rw[if_pos (by omega),if_pos (by lia)]
 simp only[Int.toNat_natCast,Option.bind_some,List.getElem?_eq_getElem hn]
theorem dP0{a b:Str}(h:aJ8 a=true)(k:aJ8 b=true):aJ8 (a++b)=true:=by
 have e:aJ8 (a++b)= (aJ8 a&&aJ8 b):=by
  unfold aJ8
  rw[show (a++b).cps.toList=a.cps.toList++b.cps.toList from Array.toList_append,List.all_append]
 rw[e,h,k];rfl
theorem dT8{c:Nat}(h:cC4 c=true):aJ8 ⟨#[c]⟩=true:=by
 show [c].all cC4=true
 rw[List.all_cons,h];rfl
theorem eF3:∀c∈("abcdefghijklmnopqrstuvwxyz" :Str).cps.toList,cC4 c=true:=by decide +kernel
theorem cD9(c:Nat):(⟨#[c]⟩:Str).length=1:=rfl
end
theorem fK1:aF1=o4 (N7 (cE (.str ("" :Str))) (q13 3)) (o4 (bK7 (aD9 (q10 (d7 V7 (c7 1) (q12 (fnX 2 j8) (q10 (c7 0) (q10 (d7 V7 (d7 bV5 (c7 2) (c7 1)) (cE (.int 1))) (q11))))) (q11))) (q13 4) LT) (o7 (c7 3))):=rfl
theorem fJ9{r:Nat}{a b:Int}{z:Str}{u:Option D}{G:DH}(h:V6 G r)(hz:z.length≤1000):Wp (LT [some (.ref r),some (.int a),some (.int b),some (.str z),u]) G fun fl G'=>Fr r G G'∧∃c,cC4 c=true∧fl= .nx [some (.ref r),some (.int a),some (.int b),some (.str (z++⟨#[c]⟩)),u]:=by
 have bg:=big
 have hA:("abcdefghijklmnopqrstuvwxyz" :Str).length=26:=by rfl
 refine aC5<| bin_w<| g8 (a:=.str z) rfl<| bin_w<| g8 (a:=.str "abcdefghijklmnopqrstuvwxyz") rfl<| m9 (as:= [.ref r,.int 26]) rfl rfl<| aD1 h ⟨by decide,by decide⟩ fun k h0 h1 G1 f1=>ix_str (by lia) h0 (by lia) fun c hc=>(cJ5 (by rw[cD9];lia)).mpr ?_
 exact⟨f1,c,eF3 c hc,rfl⟩
theorem dA8{r:Nat}{a b:Int}:∀(items:List D) (z:Str) (u:Option D) (G:DH),V6 G r→aJ8 z=true→z.length+items.length≤20→
 Wp (aM4 (q13 4) LT (fun _=>true) items [some (.ref r),some (.int a),some (.int b),some (.str z),u]) G fun fl G'=>Fr r G G'∧∃z' u',fl= .nx [some (.ref r),some (.int a),some (.int b),some (.str z'),u']∧z'.length=z.length+items.length∧aJ8 z'=true
 |[],z,u,G,h,ht,hl=>by
   rw[bC2]
   exact⟨rfl,Fr.refl h,z,u,rfl,rfl,ht⟩
 |d::t,z,u,G,h,ht,hl=>by
   simp only[List.length_cons]at hl
   rw[bD8,U0]
   refine⟨rfl,(fJ9 h (by lia)).mono ?_⟩
   rintro _ G1 ⟨f1,c,hc,rfl⟩
   refine(dA8 t (z++⟨#[c]⟩) (some d) G1 f1.2.2 (dP0 ht (dT8 hc)) (by rw[Str.length_append,cD9];lia)).mono fun fl G2 q=>?_
   obtain⟨q1,z',u',q2,q3,q4⟩:=q
   exact⟨f1.trans q1,z',u',q2,by rw[q3,Str.length_append,cD9,List.length_cons];lia,q4⟩
theorem bT3{r:Nat}{a b:Int}{G:DH}(h:V6 G r)(h0:0≤a)(h1:a≤b)(h2:b≤20):Wp (T3 [.ref r,.int a,.int b]) G fun x G'=>∃z,x= .str z∧z.length≤20∧Fr r G G'∧aJ8 z=true∧a≤z.length:=by
 refine J3 (show Wp (aF1 [some (.ref r),some (.int a),some (.int b),none,none]) G _ from ?_)
 rw[fK1]
 refine m6 (σ':= [some (.ref r),some (.int a),some (.int b),some (.str ""),none]) rfl<| m8.mpr<| bU2.mpr<| rng1.mpr<| v6<| bin_w<| g8 (a:=.int a) rfl<| m9 (as:= [.ref r,.int (b-a+1)]) rfl rfl<| aD1 h ⟨by lia,by lia⟩ fun k hk0 hk1 G1 f1=>aP0.mpr<| t6.mpr<| (rng1_int ⟨by lia,by lia⟩).mpr ?_
 have hlen:(N8 0 (a+k).toNat).length= (a+k).toNat:=by unfold N8;rw[List.length_map,List.length_range]
 refine(dA8 (N8 0 (a+k).toNat) "" none G1 f1.2.2 rfl ?_).mono ?_
 · rw[hlen,show (("" :Str).length)=0 from rfl]
   lia
 · rintro _ G2 ⟨f2,z',u',rfl,hz,ht⟩
   rw[hlen,show (("" :Str).length)=0 from rfl]at hz
   exact g8 rfl (M6 ⟨z',rfl,by lia,f1.trans f2,ht,by lia⟩)
theorem fJ4:∃z:Str,(z.length≤20∧aJ8 z=true)∧∀ {G:DH} {Q:DPP},Wp (bH6 (.str ("z" :Str)) (.int 20)) G Q↔Q (.str z) G:=by
 refine⟨Txt.mul ("z" :Str) 20,⟨by decide +kernel,by decide +kernel⟩,fun {G Q}=>?_⟩
 have e:bH6 (.str ("z" :Str)) (.int 20)=if PySem.MulOk ("z" :Str) 20 then pure (.str (Txt.mul ("z" :Str) 20))else M.stuck:=rfl
 rw[e,if_pos (by decide +kernel)]
 exact j9
def TX(z:Str):Prop:=aJ8 z=true∧z.length≤20
def NM(z:Str):Prop:=TX z∧0<z.length
theorem eA1{r:Nat}{G:DH}(h:V6 G r):Wp (Z3 [.ref r]) G fun x G'=>∃z,x= .str z∧TX z∧Fr r G G':=by
 obtain⟨zz,hzz,emul⟩:=fJ4
 refine J3 (show Wp (aS5 [some (.ref r)]) G _ from ?_)
 refine m8.mpr<| aH2<| R8<| bin_w<| m9 (as:= [.ref r,.int 3]) rfl rfl<| aD1 h ⟨by decide,by decide⟩ fun k hk0 hk1 G1 f1=>g8 (a:=.int 1) rfl<| bG8.mpr ⟨_,rfl,fun _=>?_,fun _=>K1.mpr ?_⟩
 · refine J9<| m9 (as:= [.ref r,.int 0,.int 20]) rfl rfl<| (bT3 f1.2.2 (by decide) (by decide) (by decide)).mono ?_
   rintro _ G2 ⟨z,rfl,hz,f2,ht,_⟩
   exact⟨z,rfl,⟨ht,by lia⟩,f1.trans f2⟩
 · refine J9<| cB6 rfl (by decide) (by decide)<| M9 (x:=.str "") rfl<| M9 (x:=.str "a") rfl<| M9 (x:=.str "b") rfl<| M9 (x:=.str "aa") rfl<| M9 (x:=.str "ab") rfl<| M9 (x:=.str "ba") rfl<| M9 (x:=.str "abc") rfl<| M9 (x:=.str "z") rfl<| M9 (x:=.str "true") rfl<| v6<| X3 (x:=.str "z") (y:=.int 20) rfl rfl<| emul.mpr<| t6.mpr ⟨sz,f1.2.2,rfl,fun d hd G2 f2=>?_⟩
   simp only[List.mem_cons,List.not_mem_nil,or_false]at hd
   have f02:=f1.trans f2
   rcases hd with rfl|rfl|rfl|rfl|rfl|rfl|rfl|rfl|rfl|rfl
   all_goals first
    |exact⟨_,rfl,⟨rfl,by decide⟩,f02⟩
    |exact⟨_,rfl,⟨hzz.2,hzz.1⟩,f02⟩
theorem cJ0(z:Str)(d:D):∀l:List (Key×D),K8 (l.map fun kv=>if kv.1= .inr z then (kv.1,d)else kv)=K8 l
 |[]=>rfl
 |(k,v)::r=>by
  have ih:=cJ0 z d r
  rw[List.map_cons]
  have e:(if ((k,v):Key×D).1= .inr z then (((k,v):Key×D).1,d)else (k,v)).1=k:=by split<;>rfl
  generalize (if ((k,v):Key×D).1= .inr z then (((k,v):Key×D).1,d)else (k,v))=p at e
  obtain⟨k',v'⟩:=p
  cases e
  rcases k' with i|y
  ·rfl
  ·exact congrArg (Option.map (y :: ·)) ih
theorem cQ2(z:Str)(d:D):∀(l:List (Key×D)) (ss:List Str),K8 l=some ss→K8 (l++[(.inr z,d)])=some (ss++[z])
 |[],ss,h=>by cases h;rfl
 |(.inl i,v)::r,ss,h=>by exact J1 h
 |(.inr y,v)::r,ss,h=>by
  replace h:(K8 r).map (y :: ·)=some ss:=h
  rcases hr:K8 r with _|t
  ·rw[hr]at h;exact J1 h
  ·
    rw[hr]at h
    cases h
    exact congrArg (Option.map (y :: ·)) (cQ2 z d r t hr)
noncomputable def NS(P:Str→Prop)(ss:List Str):Prop:=(∀z∈ss,P z)∧ss.Nodup
theorem cK6(z:Str):∀(l:List (Key×D)) (ss:List Str),K8 l=some ss→z∈ss→(l.any fun kv=>decide (kv.1= .inr z))=true
 |[],ss,h,hz=>by cases h;cases hz
 |(.inl i,v)::r,ss,h,hz=>by exact J1 h
 |(.inr y,v)::r,ss,h,hz=>by
  replace h:(K8 r).map (y :: ·)=some ss:=h
  rcases hr:K8 r with _|t
  ·rw[hr]at h;exact J1 h
  ·
    rw[hr]at h
    cases h
    rw[List.any_cons,Bool.or_eq_true]
    rcases List.mem_cons.mp hz with rfl|hz
    ·exact .inl (by simp)
    ·exact .inr (cK6 z r t hr hz)
theorem dR9{l:List (Key×D)}{ss:List Str}{z:Str}{d:D}{P:Str→Prop}(h:K8 l=some ss)(hn:NS P ss)(hz:P z):∃ss',K8 (aR9 l (.inr z) d)=some ss'∧ss'.length≤ss.length+1∧NS P ss':=by
 unfold aR9
 split
 ·exact⟨ss,by rw[cJ0];exact h,by lia,hn⟩
 · rename_i c
   refine⟨ss++[z],cQ2 z d l ss h,by simp,fun x hx=>?_,?_⟩
   · rcases List.mem_append.mp hx with hx|hx
     ·exact hn.1 x hx
     ·rw[List.mem_singleton.mp hx];exact hz
   · refine List.nodup_append.mpr ⟨hn.2,by simp,fun a ha b hb=>?_⟩
     rw[List.mem_singleton]at hb
     subst hb
     intro e
     subst e
     exact c (cK6 _ l ss h ha)
theorem eB8{r:Nat}{l:List (Key×D)}{z:Str}{d:D}{G:DH}{R:Unit→DH→Prop}(h:G[r]? =some (.dct l))(hl:l.length<sizeLine):Wp (cV2 (.ref r) (.str z) d) G R↔R () (G.set r (.dct (aR9 l (.inr z) d))):=by
 unfold cV2
 simp only[m5,T7,h,R9,bX0,if_pos hl,bQ6]
theorem cC8{l:List (Key×D)}{ss:List Str}(h:K8 l=some ss):l.length=ss.length:=(aS6 h).symm
theorem eG0{ss:List Str}(h:ss.Nodup):(aK2 ss).Pairwise LtS:=by
 have h1:(aK2 ss).Pairwise fun a b=>leS a b=true:=List.pairwise_mergeSort bI0 bY4 ss
 have h2:(aK2 ss).Nodup:=(List.mergeSort_perm ss leS).nodup_iff.mpr h
 refine(List.Pairwise.and h1 h2).imp fun {a b} q=>?_
 refine Classical.byContradiction fun n=>q.2 (bD2 q.1 ?_)
 show (!decide (a.cps.toList<b.cps.toList))=true
 rw[decide_eq_false (show ¬a.cps.toList<b.cps.toList from n)];rfl
theorem fD3:aI0=o4 (N7 (bP7) (q13 1)) (o4 (bK7 (aD9 (q10 (q12 (fnX 2 j8) (q10 (c7 0) (q10 (d7 ixD (aA6 (q10 (cE (.int 4)) (q10 (cE (.int 9)) (q11)))) (q12 (fnX 2 j8) (q10 (c7 0) (q10 (cE (.int 2)) (q11))))) (q11)))) (q11))) (q13 2) NB) (o7 (q12 aP1 (q10 (c7 1) (q11))))):=rfl
theorem fH9{r p:Nat}{u v:Option D}{l:List (Key×D)}{ss:List Str}{G:DH}(hp:p≠r)(h:V6 G r)(e:G[p]? =some (.dct l))(hk:K8 l=some ss)(hl:ss.length≤60)(hz:NS NM ss):
 Wp (NB [some (.ref r),some (.ref p),u,v]) G fun fl G'=>Fr2 r p G G'∧∃v' l' ss',fl= .nx [some (.ref r),some (.ref p),u,v']∧G'[p]? =some (.dct l')∧K8 l'=some ss'∧ss'.length≤ss.length+1∧NS NM ss':=by
 have bg:=big
 have next:∀(z:Str) (G3:DH),NM z→Fr r G G3→Wp (N7 (cE (.bl true)) (bO7 (c7 1) (c7 3)) [some (.ref r),some (.ref p),u,some (.str z)]) G3 fun fl G'=>Fr2 r p G G'∧∃v' l' ss',fl= .nx [some (.ref r),some (.ref p),u,v']∧G'[p]? =some (.dct l')∧K8 l'=some ss'∧ss'.length≤ss.length+1∧NS NM ss':=by
  intro z G3 hzl f3
  have e3:=f3.at hp e
  obtain⟨ss',k1,k2,k3⟩:=dR9 (z:=z) (d:=.bl true) hk hz hzl
  have f4:Fr2 r p G3 (G3.set p (.dct (aR9 l (.inr z) (.bl true)))):=Fr2.set hp f3.2.2
  exact aS4.mpr<| g8 (a:=.bl true) rfl<| dL5.mpr<| g8 (a:=.ref p) rfl<| g8 (a:=.str z) rfl<| (eB8 e3 (by rw[cC8 hk];lia)).mpr ⟨f3.two.trans f4,_,_,ss',rfl,List.getElem?_set_self (lt_of_get e3),k1,k2,k3⟩
 refine m8.mpr<| aC5<| cB6 rfl (by decide) (by decide)<| g8 (a:= [.str "a",.str "b",.str "ab",.str "ba",.str "abc",.str "z",.str "zz",.str "zzzzzzzz"]) (G':=G) rfl ⟨sz,h,rfl,fun x hx G1 f1=>?_⟩
 have hx':∃z:Str,x= .str z∧NM z:=by
  simp only[List.mem_cons,List.not_mem_nil,or_false]at hx
  rcases hx with rfl|rfl|rfl|rfl|rfl|rfl|rfl|rfl<;>exact⟨_,rfl,⟨rfl,by decide⟩,by decide⟩
 obtain⟨z0,rfl,hz0⟩:=hx'
 refine m8.mpr<| aH2<| R8<| bin_w<| m9 (as:= [.ref r,.int 3]) rfl rfl<| aD1 f1.2.2 ⟨by decide,by decide⟩ fun k hk0 hk1 G2 f2=>g8 (a:=.int 1) rfl<| bG8.mpr ⟨_,rfl,fun _=>?_,fun _=>K1.mpr (next z0 G2 hz0 (f1.trans f2))⟩
 refine aC5<| m9 (as:= [.ref r,.int 1,.int 8]) rfl rfl<| (bT3 f2.2.2 (by decide) (by decide) (by decide)).mono ?_
 rintro _ G3 ⟨z,rfl,hz3,f3,ht3,hl3⟩
 exact next z G3 ⟨⟨ht3,by lia⟩,by lia⟩ (f1.trans (f2.trans f3))
theorem cX1{r p:Nat}(hp:p≠r):∀(items:List D) (u v:Option D) (l:List (Key×D)) (ss:List Str) (G:DH),V6 G r→G[p]? =some (.dct l)→K8 l=some ss→ss.length+items.length≤60→NS NM ss→
 Wp (aM4 (q13 2) NB (fun _=>true) items [some (.ref r),some (.ref p),u,v]) G fun fl G'=>Fr2 r p G G'∧∃u' v' l' ss',fl= .nx [some (.ref r),some (.ref p),u',v']∧G'[p]? =some (.dct l')∧K8 l'=some ss'∧ss'.length≤ss.length+items.length∧NS NM ss'
 |[],u,v,l,ss,G,h,e,hk,hl,hz=>by
   rw[bC2]
   exact⟨rfl,(Fr.refl h).two,u,v,l,ss,rfl,e,hk,by simp,hz⟩
 |d::t,u,v,l,ss,G,h,e,hk,hl,hz=>by
   simp only[List.length_cons]at hl
   rw[bD8,U0]
   refine⟨rfl,(fH9 (u:=some d) (v:=v) hp h e hk (by lia) hz).mono ?_⟩
   rintro _ G1 ⟨f1,v1,l1,ss1,rfl,q2,q3,q4,q5⟩
   refine(cX1 hp t (some d) v1 l1 ss1 G1 f1.2.2 q2 q3 (by lia) q5).mono ?_
   rintro _ G2 ⟨f2,u',v',l',ss',p1,p2,p3,p4,p5⟩
   exact⟨f1.trans f2,u',v',l',ss',p1,p2,p3,by simp only[List.length_cons];lia,p5⟩
theorem dT9{r:Nat}{G:DH}(h:V6 G r):Wp (W4 [.ref r]) G fun x G'=>∃(q:Nat) (ss:List Str),x= .ref q∧q≠r∧G'[q]? =some (.lst (ss.map D.str))∧ss.length≤8∧NS NM ss∧ss.Pairwise LtS∧Fr r G G':=by
 have fd:Fr r G (G++[DO.dct []]):=Fr.app h
 have hp:G.length≠r:=by have:=h.lt;lia
 refine J3 (show Wp (aI0 [some (.ref r),none,none,none]) G _ from ?_)
 rw[fD3]
 refine m6 (σ':= [some (.ref r),some (.ref G.length),none,none]) (G':=G++[.dct []]) rfl<| m8.mpr<| bU2.mpr<| rng1.mpr<| v6<| R6<| M9 (x:=.ref r) rfl<| v6<| cB6 rfl (by decide) (by decide)<| g8 (a:= [.int 4,.int 9]) (G':=G++[.dct []]) rfl ⟨sz,fd.2.2,rfl,fun d hd G1 f1=>?_⟩
 have hd':∃i:Int,d= .int i∧0<i∧i≤9:=by
  simp only[List.mem_cons,List.not_mem_nil,or_false]at hd
  rcases hd with rfl|rfl
  ·exact⟨4,rfl,by decide,by decide⟩
  ·exact⟨9,rfl,by decide,by decide⟩
 obtain⟨i,rfl,hi1,hi2⟩:=hd'
 refine t6.mpr<| Z6.mpr ⟨rfl,aD1 f1.2.2 ⟨hi1,by lia⟩ fun k hk0 hk1 G2 f2=>t6.mpr<| (rng1_int ⟨by lia,by lia⟩).mpr ?_⟩
 have f12:=f1.trans f2
 have e2:G2[G.length]? =some (.dct []):=f12.at hp o6
 have hlen:(N8 0 k.toNat).length=k.toNat:=by unfold N8;rw[List.length_map,List.length_range]
 refine(cX1 hp (N8 0 k.toNat) none none [] [] G2 f2.2.2 e2 rfl (by rw[hlen];simp;lia) ⟨(fun z hz=>by cases hz),List.nodup_nil⟩).mono ?_
 rintro _ G3 ⟨f3,u',v',l',ss',rfl,q2,q3,q4,q5⟩
 rw[hlen]at q4
 simp only[List.length_nil]at q4
 refine J9<| aX7 (as:= [.ref G.length]) rfl<| (dI1 q2 q3 (by lia)).mpr ?_
 have hperm:(aK2 ss').Perm ss':=List.mergeSort_perm ss' leS
 have hr3:=f3.2.2.lt
 refine M6 ⟨G3.length,aK2 ss',rfl,by lia,o6,by rw[hperm.length_eq];lia,⟨fun z hz=>q5.1 z (hperm.mem_iff.mp hz),hperm.nodup_iff.mpr q5.2⟩,eG0 q5.2,?_⟩
 have f02:=fd.trans f12
 refine Fr.trans ⟨Nat.le_trans f02.1 f3.1,fun j hj hl=>?_,f3.2.2⟩ (Fr.app f3.2.2)
 have h02:=f02.1
 have hfd:=fd.1
 rw[f3.2.1 j hj (by lia) (by lia),f02.2.1 j hj hl]
noncomputable def Clr(p q:D×D):Prop:=∃a b:Int,p.2= .int a∧q.1= .int b∧a+1<b
def StP(ns:List (D×D)):Prop:=(∀p∈ns,aR1 p)∧ns.Pairwise Clr
def fK0(a b:Str):Prop:=a.length<b.length∨(a.length=b.length∧LtS a b)
def eI4(xs:List Str):Prop:=(∀z∈xs,TX z)∧xs.Pairwise fK0
def noS:D:=mkS [] wOf [] [] .non .non
theorem SB.le:∀ {n m:Nat} {d:D},n≤m→SB n d→SB m d
 |0,_,_,_,h=>h.elim
 |n+1,0,_,hm,_=>absurd hm (by lia)
 |n+1,m+1,d,hm,h=>by
   rcases h with rfl|⟨ns,w,ts,tr,li,re,rfl,h1,h2,h3,h4,h5,h6,h7⟩
   ·exact .inl rfl
   · refine .inr ⟨ns,w,ts,tr,li,re,rfl,h1,h2,h3,h4,h5,?_,?_⟩
     · rcases h6 with rfl|⟨fs,m',rfl,a,b,c⟩
       ·exact .inl rfl
       ·exact .inr ⟨fs,m',rfl,a,fun x hx=>SB.le (by lia) (b x hx),SB.le (by lia) c⟩
     · rcases h7 with rfl|⟨fs,m',rfl,a,a',b,c⟩
       ·exact .inl rfl
       ·exact .inr ⟨fs,m',rfl,a,a',fun x hx=>⟨(b x hx).1,SB.le (by lia) (b x hx).2⟩,SB.le (by lia) c⟩
theorem aP3{n:Nat}:SB (n+1) noS:=.inr ⟨[],wOf, [], [],.non,.non,rfl,(fun p hp=>by cases hp),by simp,(fun p hp=>by cases hp),by simp,by simp,.inl rfl,.inl rfl⟩
noncomputable def Q4:Nat→D→Bool
 |_,.non=>true
 |_,.bl _=>true
 |_,.int _=>true
 |_,.str _=>true
 |n+1,.tup l=>l.all (Q4 n)
 |_,_=>false
theorem dC9{f:D→D→Option Bool}:∀(a b:List D),(∀x∈a,∀y∈b,∃k,f x y=some k)→∃k,eqL f a b=some k
 |[], [],_=>⟨_,rfl⟩
 |[],_::_,_=>⟨_,rfl⟩
 |_::_, [],_=>⟨_,rfl⟩
 |x::xs,y::ys,h=>by
   obtain⟨k,e⟩:=h x (by simp) y (by simp)
   obtain⟨k',e'⟩:=dC9 xs ys fun a ha b hb=>h a (by simp[ha]) b (by simp[hb])
   exact⟨k&&k',by simp only[eqL,e,e']⟩
theorem dZ8{x y:D}(hx:aL7 x=true)(hy:aL7 y=true):∃k,eqS x y=some k:=by
 rcases x with _|_|_|_|_|_|_|_<;>rcases y with _|_|_|_|_|_|_|_<;>first|cases hx;done|cases hy;done|exact⟨_,rfl⟩
theorem dC5{G:DH}:∀(n m:Nat) (x y:D),n<m→Q4 n x=true→Q4 n y=true→∃k,eqN m G x y=some k
 |n,0,x,y,h,_,_=>by lia
 |n,m+1,x,y,h,hx,hy=>by
   have sc:∀ {d:D},Q4 n d=true→(∃l,d= .tup l∧∃k,n=k+1∧∀z∈l,Q4 k z=true)∨(aL7 d=true∧aC6 G d=none):=fun {d} hd=>by
    rcases d with _|_|_|_|l|i|i|i<;>try (exact .inr ⟨rfl,rfl⟩;done)
    ·
      cases n with
      |zero=>exact aM7 hd
      |succ k=>exact .inl ⟨l,rfl,k,rfl,fun z hz=>List.all_eq_true.mp (show l.all (Q4 k)=true from hd) z hz⟩
    ·cases n<;>exact aM7 hd
    ·cases n<;>exact aM7 hd
    ·cases n<;>exact aM7 hd
   rcases sc hx with⟨l,rfl,k,rfl,hl⟩|⟨s1,q1⟩
   · rcases sc hy with⟨l',rfl,k',e',hl'⟩|⟨s2,q2⟩
     · have ek:k=k':=by lia
       subst ek
       obtain⟨b,e⟩:=dC9 (f:=eqN m G) l l' fun a ha b hb=>dC5 k m a b (by lia) (hl a ha) (hl' b hb)
       refine⟨b,?_⟩
       show (if true=true then (if true=false∧l.length≠l'.length then some false else eqL (eqN m G) l l')else some false)=some b
       simp[e]
     ·exact⟨false,by rw[bT1];rw[q2];simp only[aC6,s2,if_true]⟩
   · rcases sc hy with⟨l',rfl,k',e',hl'⟩|⟨s2,q2⟩
     ·exact⟨false,by rw[bT1];rw[q1];simp only[aC6,s1,if_true]⟩
     · obtain⟨b,e⟩:=dZ8 s1 s2
       exact⟨b,by rw[bT1];rw[q1,q2];exact e⟩
theorem bM5:∀ {n m:Nat} {d:D},n≤m→Q4 n d=true→Q4 m d=true
 |n,m,.non,_,_=>by cases m<;>rfl
 |n,m,.bl _,_,_=>by cases m<;>rfl
 |n,m,.int _,_,_=>by cases m<;>rfl
 |n,m,.str _,_,_=>by cases m<;>rfl
 |0,m,.tup l,_,h=>by exact aM7 h
 |n+1,0,.tup l,h,_=>by lia
 |n+1,m+1,.tup l,h,k=>by
   show l.all (Q4 m)=true
   exact List.all_eq_true.mpr fun x hx=>bM5 (by lia) (List.all_eq_true.mp (show l.all (Q4 n)=true from k) x hx)
 |n,m,.ref _,_,h=>by cases n<;>exact aM7 h
 |n,m,.fn _,_,h=>by cases n<;>exact aM7 h
 |n,m,.ty _,_,h=>by cases n<;>exact aM7 h
theorem dH2(n:Nat)(ss:List Str):Q4 (n+1) (.tup (ss.map D.str))=true:=by
 show (ss.map D.str).all (Q4 n)=true
 rw[List.all_map,List.all_eq_true]
 intro x _
 cases n<;>rfl
theorem dJ7(n:Nat)(bs:List Bool):Q4 (n+1) (.tup (bs.map D.bl))=true:=by
 show (bs.map D.bl).all (Q4 n)=true
 rw[List.all_map,List.all_eq_true]
 intro x _
 cases n<;>rfl
theorem eH3(n:Nat){ns:List (D×D)}(h:∀p∈ns,aR1 p):Q4 (n+2) (.tup (ns.map stD))=true:=by
 show (ns.map stD).all (Q4 (n+1))=true
 rw[List.all_map,List.all_eq_true]
 intro p hp
 have h1:=(h p hp).1
 have h2:=(h p hp).2.1
 have e:∀d,aT4 d→Q4 n d=true:=fun d hd=>by
  cases d<;>first|exact hd.elim|(cases n<;>rfl)
 show [p.1,p.2].all (Q4 n)=true
 simp[e _ h1,e _ h2]
theorem SB.data:∀ {n:Nat} {d:D},SB n d→Q4 (4*n) d=true
 |0,_,h=>h.elim
 |n+1,d,h=>by
   rcases h with rfl|⟨ns,w,ts,tr,li,re,rfl,h1,h2,h3,h4,h5,h6,h7⟩
   ·exact rfl
   · have q1:=eH3 (4*n+1) h1
     have q2:Q4 (4*n+3) (.tup [.str w,.tup (ts.map D.str)])=true:=by
      have:=dH2 (4*n+1) ts
      show ([D.str w,.tup (ts.map D.str)].all (Q4 (4*n+2)))=true
      simp only[List.all_cons,List.all_nil,this,Bool.and_true]
      rfl
     have q3:=dJ7 (4*n+2) tr
     have q4:Q4 (4*n+3) li=true:=by
      rcases h6 with rfl|⟨fs,m,rfl,a,b,c⟩
      ·rfl
      · show ([D.tup fs,m].all (Q4 (4*n+2)))=true
        have z:Q4 (4*n+2) (.tup fs)=true:=by
         show fs.all (Q4 (4*n+1))=true
         exact List.all_eq_true.mpr fun x hx=>bM5 (by lia) (b x hx).data
        simp[z,bM5 (show 4*n≤4*n+2 by lia) c.data]
     have q5:Q4 (4*n+3) re=true:=by
      rcases h7 with rfl|⟨fs,m,rfl,a,a',b,c⟩
      ·rfl
      · show ([D.tup (fs.map fdD),m].all (Q4 (4*n+2)))=true
        have z:Q4 (4*n+2) (.tup (fs.map fdD))=true:=by
         show (fs.map fdD).all (Q4 (4*n+1))=true
         rw[List.all_map]
         refine List.all_eq_true.mpr fun x hx=>?_
         show ([D.str x.1,.bl x.2.1,x.2.2].all (Q4 (4*n)))=true
         have z1:Q4 (4*n) (.str x.1)=true:=by cases (4*n)<;>rfl
         have z2:Q4 (4*n) (.bl x.2.1)=true:=by cases (4*n)<;>rfl
         simp[z1,z2,(b x hx).2.data]
        simp[z,bM5 (show 4*n≤4*n+2 by lia) c.data]
     show [D.tup (ns.map stD),.tup [.str w,.tup (ts.map D.str)],.tup (tr.map D.bl),li,re].all (Q4 (4*n+3))=true
     simp only[List.all_cons,List.all_nil,q1,q2,q3,q4,q5];rfl
theorem Q9{f:D→D→Option Bool}{x y:D}{xs ys:List D}(h:eqL f (x::xs) (y::ys)=some true):f x y=some true∧eqL f xs ys=some true:=by
 unfold eqL at h
 rcases e:f x y with _|a
 ·rw[e]at h;exact J1 h
 ·
   rcases e':eqL f xs ys with _|b
   ·rw[e,e']at h;exact J1 h
   ·
     rw[e,e']at h
     rcases a with _|_<;>rcases b with _|_<;>first|(cases h;done)|exact⟨rfl,rfl⟩
theorem eqL_same{f:D→D→Option Bool}:∀ {a b:List D},eqL f a b=some true→(∀x∈a,∀y∈b,f x y=some true→x=y)→a=b
 |[], [],_,_=>rfl
 |[],_::_,h,_=>by cases h
 |_::_, [],h,_=>by cases h
 |x::xs,y::ys,h,k=>by
   have h':=Q9 h
   rw[k x (by simp) y (by simp) h'.1,eqL_same h'.2 fun a ha b hb=>k a (by simp[ha]) b (by simp[hb])]
theorem cY8{n:Nat}{G:DH}{a b:List D}:eqN (n+1) G (.tup a) (.tup b)=eqL (eqN n G) a b:=by
 show (if true=true then (if true=false∧a.length≠b.length then some false else eqL (eqN n G) a b)else some false)=_
 simp
theorem eqT{n:Nat}{G:DH}{a b:List D}(h:eqN n G (.tup a) (.tup b)=some true):∃m,n=m+1∧eqL (eqN m G) a b=some true:=by
 cases n with
 |zero=>exact J1 h
 |succ m=>exact⟨m,rfl,by rw[←cY8];exact h⟩
theorem bT9{n:Nat}{G:DH}{a b:Str}(h:eqN n G (.str a) (.str b)=some true):a=b:=by
 cases n with
 |zero=>exact J1 h
 |succ m=>exact eq_of_beq (Option.some.inj (show some (a==b)=some true from h))
theorem cY4{n:Nat}{G:DH}{a b:Bool}(h:eqN n G (.bl a) (.bl b)=some true):a=b:=by
 cases n with
 |zero=>exact J1 h
 |succ m=>exact eq_of_beq (Option.some.inj (show some (a==b)=some true from h))
theorem cI9{n:Nat}{G:DH}{a b:D}(ha:aT4 a)(hb:aT4 b)(h:eqN n G a b=some true):a=b:=by
 cases n with
 |zero=>exact J1 h
 |succ m=>
   rcases aX3 ha with rfl|⟨i,rfl⟩<;>rcases aX3 hb with rfl|⟨j,rfl⟩<;>first
    |rfl
    |(cases h;done)
    |skip
   rw[eq_of_beq (Option.some.inj (show some (i==j)=some true from h))]
theorem fH8{n:Nat}{G:DH}{ns ms:List (D×D)}(h1:∀p∈ns,aR1 p)(h2:∀p∈ms,aR1 p)(h:eqN n G (.tup (ns.map stD)) (.tup (ms.map stD))=some true):ns.map stD=ms.map stD:=by
 obtain⟨m,rfl,h⟩:=eqT h
 refine eqL_same h fun x hx y hy e=>?_
 obtain⟨p,hp,rfl⟩:=List.mem_map.mp hx
 obtain⟨q,hq,rfl⟩:=List.mem_map.mp hy
 obtain⟨k,rfl,e⟩:=eqT (a:= [p.1,p.2]) (b:= [q.1,q.2]) e
 have e1:=Q9 e
 have e2:=Q9 e1.2
 unfold stD
 rw[cI9 (h1 p hp).1 (h2 q hq).1 e1.1,cI9 (h1 p hp).2.1 (h2 q hq).2.1 e2.1]
theorem eI0{n:Nat}{G:DH}{a b:List Str}(h:eqN n G (.tup (a.map D.str)) (.tup (b.map D.str))=some true):a.map D.str=b.map D.str:=by
 obtain⟨m,rfl,h⟩:=eqT h
 refine eqL_same h fun x hx y hy e=>?_
 obtain⟨p,hp,rfl⟩:=List.mem_map.mp hx
 obtain⟨q,hq,rfl⟩:=List.mem_map.mp hy
 rw[bT9 e]
theorem eP4{n:Nat}{G:DH}{a b:List Bool}(h:eqN n G (.tup (a.map D.bl)) (.tup (b.map D.bl))=some true):a.map D.bl=b.map D.bl:=by
 obtain⟨m,rfl,h⟩:=eqT h
 refine eqL_same h fun x hx y hy e=>?_
 obtain⟨p,hp,rfl⟩:=List.mem_map.mp hx
 obtain⟨q,hq,rfl⟩:=List.mem_map.mp hy
 rw[cY4 e]
theorem eK8{n:Nat}{G:DH}{l:List D}:eqN n G .non (.tup l)≠some true:=by
 cases n with
 |zero=>exact fun h=>by exact J1 h
 |succ m=>exact fun h=>by cases h
theorem eK2{n:Nat}{G:DH}{l:List D}:eqN n G (.tup l) .non≠some true:=by
 cases n with
 |zero=>exact fun h=>by exact J1 h
 |succ m=>exact fun h=>by cases h
theorem fK2{n:Nat}{G:DH}{z:Str}{l:List D}:eqN n G (.str z) (.tup l)≠some true:=by
 cases n with
 |zero=>exact fun h=>by exact J1 h
 |succ m=>exact fun h=>by cases h
theorem fB4{n:Nat}{G:DH}{z:Str}{l:List D}:eqN n G (.tup l) (.str z)≠some true:=by
 cases n with
 |zero=>exact fun h=>by exact J1 h
 |succ m=>exact fun h=>by cases h
def EqS(S:D→Prop)(G:DH):Prop:=∀n x y,S x→S y→eqN n G x y=some true→x=y
theorem fA4{S:D→Prop}{n:Nat}{G:DH}{a b:D}(ih:EqS S G)(ha:LiP S a)(hb:LiP S b)(h:eqN n G a b=some true):a=b:=by
 rcases ha with rfl|⟨fs,c,rfl,_,a2,a3⟩
 · rcases hb with rfl|⟨_,_,rfl,_⟩
   ·rfl
   ·exact(eK8 h).elim
 · rcases hb with rfl|⟨gs,d,rfl,_,b2,b3⟩
   ·exact(eK2 h).elim
   · obtain⟨_,_,z⟩:=eqT h
     have z1:=Q9 z
     obtain⟨_,_,z3⟩:=eqT z1.1
     rw[eqL_same z3 fun x hx y hy e=>ih _ _ _ (a2 x hx) (b2 y hy) e,ih _ _ _ a3 b3 (Q9 z1.2).1]
theorem fH5{S:D→Prop}{n:Nat}{G:DH}{f g:Str×Bool×D}(ih:EqS S G)(hf:S f.2.2)(hg:S g.2.2)(h:eqN n G (fdD f) (fdD g)=some true):fdD f=fdD g:=by
 obtain⟨_,_,e⟩:=eqT (a:= [D.str f.1,.bl f.2.1,f.2.2]) (b:= [D.str g.1,.bl g.2.1,g.2.2]) h
 have y1:=Q9 e
 have y2:=Q9 y1.2
 unfold fdD
 rw[bT9 y1.1,cY4 y2.1,ih _ _ _ hf hg (Q9 y2.2).1]
theorem fD6{S:D→Prop}{n:Nat}{G:DH}{a b:D}(ih:EqS S G)(ha:ReP S a)(hb:ReP S b)(h:eqN n G a b=some true):a=b:=by
 rcases ha with rfl|⟨fs,c,rfl,_,_,a2,a3⟩
 · rcases hb with rfl|⟨_,_,rfl,_⟩
   ·rfl
   ·exact(eK8 h).elim
 · rcases hb with rfl|⟨gs,d,rfl,_,_,b2,b3⟩
   ·exact(eK2 h).elim
   · obtain⟨_,_,z⟩:=eqT h
     have z1:=Q9 z
     obtain⟨_,_,z3⟩:=eqT z1.1
     rw[eqL_same z3 ?_,ih _ _ _ a3 b3 (Q9 z1.2).1]
     intro x hx y hy e
     obtain⟨f,hf,rfl⟩:=List.mem_map.mp hx
     obtain⟨g,hg,rfl⟩:=List.mem_map.mp hy
     exact fH5 ih (a2 f hf).2 (b2 g hg).2 e
theorem fJ2{S:D→Prop}{n:Nat}{G:DH}{ns ns':List (D×D)}{w w':Str}{ts ts':List Str}{tr tr':List Bool}{li re li' re':D}(ih:EqS S G)(h1:∀p∈ns,aR1 p)(g1:∀p∈ns',aR1 p)(h6:LiP S li)(g6:LiP S li')(h7:ReP S re)(g7:ReP S re')(h:eqN n G (mkS ns w ts tr li re) (mkS ns' w' ts' tr' li' re')=some true):mkS ns w ts tr li re=mkS ns' w' ts' tr' li' re':=by
 obtain⟨_,_,h⟩:=eqT h
 have e1:=Q9 h
 have e2:=Q9 e1.2
 have e3:=Q9 e2.2
 have e4:=Q9 e3.2
 obtain⟨_,_,t⟩:=eqT e2.1
 have t1:=Q9 t
 unfold mkS
 rw[fH8 h1 g1 e1.1,bT9 t1.1,eI0 (Q9 t1.2).1,eP4 e3.1,fA4 ih h6 g6 e4.1,fD6 ih h7 g7 (Q9 e4.2).1]
theorem SB.eqs{G:DH}:∀ {k:Nat},EqS (SB k) G
 |0=>fun _ _ _ h _ _=>h.elim
 |k+1=>fun n x y hx hy h=>by
   rcases hx with rfl|⟨ns,w,ts,tr,li,re,rfl,h1,_,_,_,_,h6,h7⟩
   · rcases hy with rfl|⟨_,_,_,_,_,_,rfl,_⟩
     ·rfl
     ·exact(fK2 h).elim
   · rcases hy with rfl|⟨ns',w',ts',tr',li',re',rfl,g1,_,_,_,_,g6,g7⟩
     ·exact(fB4 h).elim
     ·exact fJ2 SB.eqs h1 g1 h6 g6 h7 g7 h
theorem SB.eq{G:DH}{k n:Nat}{x y:D}(hx:SB k x)(hy:SB k y)(h:eqN n G x y=some true):x=y:=SB.eqs n x y hx hy h
theorem bT2{x:D}(h:aL7 x=true):eqS x x=some true:=by
 cases x<;>first|(cases h;done)|rfl|(simp[eqS])
theorem bQ4{f:D→D→Option Bool}:∀ {l:List D},(∀x∈l,f x x=some true)→eqL f l l=some true
 |[],_=>rfl
 |x::r,h=>by unfold eqL;rw[h x (by simp),bQ4 fun y hy=>h y (by simp[hy])];rfl
theorem bS9{G:DH}:∀ {n m:Nat} {x:D},n<m→Q4 n x=true→eqN m G x x=some true
 |n,0,x,h,_=>by lia
 |n,m+1,x,h,hx=>by
   rcases x with _|b|b|b|l|i|i|i
   ·rfl
   ·exact bT2 (x:=.bl b) rfl
   ·exact bT2 (x:=.int b) rfl
   ·exact bT2 (x:=.str b) rfl
   ·
     cases n with
     |zero=>simp[Q4]at hx
     |succ k=>
       rw[cY8]
       exact bQ4 fun x hx'=>bS9 (n:=k) (by lia) (List.all_eq_true.mp (by simpa [Q4]using hx) x hx')
   ·cases n<;>simp[Q4]at hx
   ·cases n<;>simp[Q4]at hx
   ·cases n<;>simp[Q4]at hx
theorem SB.eqN{G:DH}{k:Nat}{x y:D}(hk:k≤9)(hx:SB k x)(hy:SB k y):∃b,DL.eqN 40 G x y=some b∧(b=true↔x=y):=by
 obtain⟨b,e⟩:=dC5 (G:=G) (4*k) 40 x y (by lia) hx.data hy.data
 refine⟨b,e,?_,?_⟩
 ·rintro rfl;exact hx.eq hy e
 · rintro rfl
   have:=bS9 (G:=G) (n:=4*k) (m:=40) (by lia) hx.data
   rw[this]at e
   exact(Option.some.inj e).symm
def LiF(li li':D):Prop:=(li= .non∧li'= .non)∨∃fs m,li= .tup [.tup fs,m]∧((noS∈fs∧li'= .non)∨(noS∉fs∧li'=li))
noncomputable def fG9(m:D)(f:Str×Bool×D):Prop:=f.2.1=false∧f.2.2=m
def ReF(re re':D):Prop:=(re= .non∧re'= .non)∨∃(fs:List (Str×Bool×D)) (m:D),re= .tup [.tup (fs.map fdD),m]∧
 (((∃f∈fs,f.2.1=true∧f.2.2=noS)∧re'= .non)∨((∀f∈fs,f.2.1=true→f.2.2≠noS)∧∃p:Str×Bool×D→Bool,(∀f∈fs,p f=false↔fG9 m f)∧re'= .tup [.tup ((fs.filter p).map fdD),m]))
theorem eX8{f g:Str×Bool×D}(h:fdD f=fdD g):f=g:=by
 obtain⟨a,b,c⟩:=f
 obtain⟨a',b',c'⟩:=g
 unfold fdD at h
 simp only[D.tup.injEq,List.cons.injEq,D.str.injEq,D.bl.injEq,and_true]at h
 rw[h.1,h.2.1,h.2.2]
theorem cE9{α β:Type}{f:α→β}(hf:∀a b,f a=f b→a=b):∀ {l k:List α},l.map f=k.map f→l=k
 |[], [],_=>rfl
 |[],_::_,h=>by exact cJ3 h
 |_::_, [],h=>by exact cZ1 h
 |a::l,b::k,h=>by
   rw[List.map_cons,List.map_cons,List.cons.injEq]at h
   rw[hf a b h.1,cE9 hf h.2]
section
variable{a b c:Option D}{n:Nat}{li re:D}{G:DH}
end
def evS:D:=mkS [(.non,.non)] ("but" :Str) [] [false,true] (.tup [.tup [],.str aV0]) (.tup [.tup [],.str aV0])
theorem eL0{n:Nat}:SB (n+2) evS:=.inr ⟨_,_,_,_,_,_,rfl,(fun p hp=>by rw[List.mem_singleton]at hp;subst hp;exact⟨trivial,trivial,fun a b ea=>by cases ea⟩),by simp,(fun p hp=>by cases hp),by simp,by simp,.inr ⟨[],.str aV0,rfl,by simp,(fun x hx=>by cases hx),.inl rfl⟩,.inr ⟨[],.str aV0,rfl,by simp,List.nodup_nil,(fun x hx=>by cases hx),.inl rfl⟩⟩
section
variable{k:Nat}{G:DH}
theorem dQ3:∀ {fs:List D},k≤8→(∀x∈fs,SB k x)→∃b,aR8 G noS fs=some b∧(b=true↔noS∈fs)
 |[],_,_=>⟨false,rfl,by simp⟩
 |f::r,hk,h=>by
   obtain⟨b,e,hb⟩:=SB.eqN (G:=G) (k:=k+1) (by omega) (SB.le (by omega) (h f (by simp))) (aP3 (n:=k))
   obtain⟨c,e',hc⟩:=dQ3 (fs:=r) hk fun x hx=>h x (by simp[hx])
   refine⟨b||c,by unfold aR8;rw[e,e'],?_⟩
   rw[Bool.or_eq_true,hb,hc,List.mem_cons]
   exact⟨fun z=>z.imp Eq.symm id,fun z=>z.imp Eq.symm id⟩
theorem fD2{li:D}(hk:k≤8)(hl:LiP (SB k) li):Wp (X5 [li]) G fun x G'=>G'=G∧LiF li x∧LiP (SB k) x:=by
 rcases hl with rfl|⟨fs,m,rfl,h1,h2,h3⟩
 ·exact aI1 (d:=.non) rfl ⟨rfl,.inl ⟨rfl,rfl⟩,.inl rfl⟩
 · obtain⟨b,e,hb⟩:=dQ3 (G:=G) hk h2
   have ei:inX noS (.tup fs) G=some (.ok (.bl b),G):=by unfold inX cN3;simp only[e]
   refine J3 (show Wp (aH5 [some (.tup [.tup fs,m])]) G _ from ?_)
   refine J9<| bH5.mpr<| cR7<| g8 (a:=false) (G':=G) rfl ⟨fun z=>(nomatch z),fun _=>R8<| X3 (x:=noS) (y:=.tup fs) rfl rfl<| g8 ei ⟨_,rfl,?_⟩⟩
   rcases b with _|_
   ·exact g8 (a:=.tup [.tup fs,m]) rfl (M6 ⟨rfl,.inr ⟨fs,m,rfl,.inr ⟨fun z=>(nomatch hb.mpr z),rfl⟩⟩,.inr ⟨fs,m,rfl,h1,h2,h3⟩⟩)
   ·exact g8 (a:=.non) rfl (M6 ⟨rfl,.inr ⟨fs,m,rfl,.inl ⟨hb.mp rfl,rfl⟩⟩,.inl rfl⟩)
def noB(G:DH):D→Bool
 | .tup [_,.bl t,s]=>t&&(eqN 40 G s noS).getD false
 |_=>false
def stB(G:DH)(m:D)(f:Str×Bool×D):Bool:=f.2.1||!(eqN 40 G f.2.2 m).getD false
theorem fD0{re:D}(hk:k≤8)(hr:ReP (SB k) re):Wp (U3 [re]) G fun x G'=>Ap G G'∧ReF re x∧ReP (SB k) x:=by
 rcases hr with rfl|⟨fs,m,rfl,h1,h2,h3,h4⟩
 ·exact aI1 (d:=.non) rfl ⟨Ap.refl,.inl ⟨rfl,rfl⟩,.inl rfl⟩
 · have hc1:P0 (aL0 3 (M5 (q13 0) (M5 (q13 1) (M5 (q13 2) (aM6))))) N6 (U6 (c7 1) (d7 eqD (c7 2) (cE (.tup [.tup [],.tup [.str ("of" :Str),.tup []],.tup [],.non,.non])))) (fun _=>true) (fs.map fdD) (aA9 [none,none,none] [some (.tup [.tup (fs.map fdD),m])]) G=some (.ok ((fs.map fdD).map fun d=>.bl (noB G d)),G):=by
    refine aO0 (I:=fun σ=>∃a b c,σ= [a,b,c]) rfl _ _ ⟨_,_,_,rfl⟩ fun d hd σ hσ=>?_
    obtain⟨f,hf,rfl⟩:=List.mem_map.mp hd
    obtain⟨a,b,c,rfl⟩:=hσ
    obtain⟨q,e,_⟩:=SB.eqN (G:=G) (k:=k+1) (by omega) (SB.le (by omega) (h3 f hf).2) (aP3 (n:=k))
    refine⟨[some (.str f.1),some (.bl f.2.1),some f.2.2],rfl,⟨_,_,_,rfl⟩,rfl,bC5 ?_⟩
    have en:noB G (fdD f)= (f.2.1&&(eqN 40 G f.2.2 noS).getD false):=rfl
    rw[en,e]
    refine aX4.mpr<| g8 (a:=.bl f.2.1) (G':=G) rfl<| U8.mpr ?_
    rcases f.2.1 with _|_
    ·exact⟨rfl,rfl⟩
    ·exact X3 (x:=f.2.2) (y:=noS) rfl rfl<| bK2.mpr ⟨q,e,rfl,rfl⟩
   have hb:(fs.map fdD).any (noB G)=true↔∃f∈fs,f.2.1=true∧f.2.2=noS:=by
    rw[List.any_map,List.any_eq_true]
    refine exists_congr fun f=>and_congr_right fun hf=>?_
    obtain⟨q,e,hq⟩:=SB.eqN (G:=G) (k:=k+1) (by omega) (SB.le (by omega) (h3 f hf).2) (aP3 (n:=k))
    show (f.2.1&&(eqN 40 G f.2.2 noS).getD false)=true↔_
    rw[e,Bool.and_eq_true]
    exact and_congr_right fun _=>hq
   refine J3 (show Wp (aD0 [some (.tup [.tup (fs.map fdD),m])]) G _ from ?_)
   refine m8.mpr<| aH2<| cR7<| g8 (a:=false) (G':=G) rfl ⟨fun z=>(nomatch z),fun _=>aH1.mpr<| R6<| v6<| Z7 (l:=fs.map fdD) rfl (by rw[List.length_map];omega)<| g8 hc1<| t6.mpr<| (dW1 (f:=noB G) o6).mpr<| U8.mpr ⟨fun g=>?_,fun g=>K1.mpr ?_⟩⟩
   ·exact g8 (a:=.rt .non) rfl (M6 ⟨Ap.one,.inr ⟨fs,m,rfl,.inl ⟨hb.mp g,rfl⟩⟩,.inl rfl⟩)
   · have hn:∀f∈fs,f.2.1=true→f.2.2≠noS:=fun f hf a b=>by
      have:=hb.mpr ⟨f,hf,a,b⟩
      rw[this]at g
      cases g
     have j1:Ap G (G++[.lst ((fs.map fdD).map fun d=>.bl (noB G d))]):=Ap.one
     generalize G++[DO.lst ((fs.map fdD).map fun d=>.bl (noB G d))]=G1 at j1
     have hc:P0 (q13 0) (orT (G9 (d7 ixD (c7 0) (cE (.int 1)))) (J2 (d7 neD (d7 ixD (c7 0) (cE (.int 2))) (d7 ixD (c7 1) (cE (.int 1)))))) (c7 0) (fun _=>true) (fs.map fdD) (aA9 [none,some 0] [some (.tup [.tup (fs.map fdD),m])]) G1=some (.ok ((fs.map fdD).filter fun d=>match d with| .tup [_,.bl t,s]=>t||!(eqN 40 G1 s m).getD false|_=>false),G1):=by
      refine bI9 rfl (fun σ=>∃u,σ= [u,some (.tup [.tup (fs.map fdD),m])]) _ _ ⟨none,rfl⟩ fun d hd σ hσ=>?_
      obtain⟨f,hf,rfl⟩:=List.mem_map.mp hd
      obtain⟨u,rfl⟩:=hσ
      refine⟨[some (fdD f),some (.tup [.tup (fs.map fdD),m])],rfl,⟨_,rfl⟩,bC5 ?_,rfl⟩
      obtain⟨q,e,_⟩:=SB.eqN (G:=G1) (by omega) (h3 f hf).2 h4
      refine cR7<| g8 (a:=f.2.1) (G':=G1) rfl ⟨fun g=>⟨?_,rfl⟩,fun g=>R8<| X3 (x:=f.2.2) (y:=m) rfl rfl<| bQ0.mpr ⟨q,e,_,rfl,?_,rfl⟩⟩
      ·show true= (f.2.1||!(eqN 40 G1 f.2.2 m).getD false);rw[g];rfl
      ·show (!q)= (f.2.1||!(eqN 40 G1 f.2.2 m).getD false);rw[g,e];rfl
     have ef:((fs.map fdD).filter fun d=>match d with| .tup [_,.bl t,s]=>t||!(eqN 40 G1 s m).getD false|_=>false)= (fs.filter (stB G1 m)).map fdD:=by rw[List.filter_map];rfl
     rw[ef]at hc
     have hs:(fs.filter (stB G1 m)).Sublist fs:=List.filter_sublist
     refine J9<| W2.mpr<| v6<| R6<| v6<| Z7 (l:=fs.map fdD) rfl (by rw[List.length_map];omega)<| g8 hc<| t6.mpr<| (aC4 o6).mpr<| g8 (a:= [m]) rfl ⟨sz,M6 ⟨j1.trans Ap.one,.inr ⟨fs,m,rfl,.inr ⟨hn,stB G1 m,fun f hf=>?_,rfl⟩⟩,.inr ⟨_,m,rfl,by have:=hs.length_le;omega,(hs.map _).nodup h2,fun f hf=>h3 f (hs.subset hf),h4⟩⟩⟩
     obtain⟨q,e,hq⟩:=SB.eqN (G:=G1) (by omega) (h3 f hf).2 h4
     unfold stB fG9
     rw[e,←hq]
     cases f.2.1<;>cases q<;>simp
end
def eL3(p x:D):Prop:=∃ns w ts tr li re li' re',p=mkS ns w ts tr li re∧LiF li li'∧ReF re re'∧((mkS ns w ts tr li' re'=evS∧x= .str aV0)∨(mkS ns w ts tr li' re'≠evS∧x=mkS ns w ts tr li' re'))
theorem cG6{ns ns':List (D×D)}{w w':Str}{ts ts':List Str}{tr tr':List Bool}{li re li' re':D}(h:mkS ns w ts tr li re=mkS ns' w' ts' tr' li' re'):ns.map stD=ns'.map stD∧w=w'∧ts.map D.str=ts'.map D.str∧tr.map D.bl=tr'.map D.bl∧li=li'∧re=re':=by
 unfold mkS at h
 simp only[D.tup.injEq,List.cons.injEq,D.str.injEq,and_true]at h
 exact⟨h.1,h.2.1.1,h.2.1.2,h.2.2.1,h.2.2.2.1,h.2.2.2.2⟩
theorem eF2{k:Nat}{ns:List (D×D)}{w:Str}{ts:List Str}{tr:List Bool}{li re:D}{G:DH}(hk:k≤7)(h1:∀p∈ns,aR1 p)(h2:ns.length≤100)(h3:∀z∈ts,z.length≤1000)(h4:ts.length≤100)(h5:tr.length≤100)(h6:LiP (SB k) li)(h7:ReP (SB k) re):
 Wp (aB1 [.tup (ns.map stD),.tup [.str w,.tup (ts.map D.str)],.tup (tr.map D.bl),li,re]) G fun x G'=>Ap G G'∧eL3 (mkS ns w ts tr li re) x∧SB (k+1) x:=by
 refine J3 (show Wp (cQ7 [some (.tup (ns.map stD)),some (.tup [.str w,.tup (ts.map D.str)]),some (.tup (tr.map D.bl)),some li,some re,none]) G _ from ?_)
 refine m8.mpr<| aC5<| W2.mpr<| M9 (x:=.tup (ns.map stD)) rfl<| M9 (x:=.tup [.str w,.tup (ts.map D.str)]) rfl<| M9 (x:=.tup (tr.map D.bl)) rfl<| v6<| m9 (as:= [li]) rfl rfl<| (fD2 (by omega) h6).mono ?_
 rintro li' _ ⟨rfl,f1,f2⟩
 refine v6<| m9 (as:= [re]) rfl rfl<| (fD0 (by omega) h7).mono ?_
 rintro re' G1 ⟨j1,f3,f4⟩
 have hs:SB (k+1) (mkS ns w ts tr li' re'):=.inr ⟨ns,w,ts,tr,li',re',rfl,h1,h2,h3,h4,h5,f2,f4⟩
 obtain⟨b,e,hb⟩:=SB.eqN (G:=G1) (k:=k+2) (by omega) (SB.le (by omega) hs) (eL0 (n:=k))
 refine t6.mpr ⟨sz,J9<| bH5.mpr<| R8<| X3 (x:=mkS ns w ts tr li' re') (y:=evS) rfl rfl<| bK2.mpr ⟨b,e,_,rfl,?_⟩⟩
 rcases b with _|_
 ·exact g8 (a:=mkS ns w ts tr li' re') rfl (M6 ⟨j1,⟨_,_,_,_,_,_,_,_,rfl,f1,f3,.inr ⟨fun z=>(nomatch hb.mpr z),rfl⟩⟩,hs⟩)
 ·exact g8 (a:=.str aV0) rfl (M6 ⟨j1,⟨_,_,_,_,_,_,_,_,rfl,f1,f3,.inl ⟨hb.mp rfl,rfl⟩⟩,.inl rfl⟩)
def fI2:D→Bool
 | .str s=>cC4 (s.cps.getD 0 0)
 |_=>false
theorem dG6(z:Str):(aI8 z).all fI2=aJ8 z:=by
 unfold aI8 aJ8
 rw[List.all_map]
 rfl
theorem dG2(z:Str):(aI8 z).length=z.length:=by
 unfold aI8
 rw[List.length_map]
 rfl
theorem dG1{z:Str}{d:D}(h:d∈aI8 z):∃c,d= .str ⟨#[c]⟩:=by
 unfold aI8 at h
 obtain⟨c,_,rfl⟩:=List.mem_map.mp h
 exact⟨c,rfl⟩
theorem eC8{c:Nat}{G:DH}{Q:DPP}:Wp (leD (.str ("a" :Str)) (.str ⟨#[c]⟩)) G Q↔Q (.bl (decide (97≤c))) G:=by rw[cX7,fL2]
theorem eI6{c:Nat}{G:DH}{Q:DPP}:Wp (leD (.str ⟨#[c]⟩) (.str ("z" :Str))) G Q↔Q (.bl (decide (c≤122))) G:=by rw[cX7,fO4]
theorem dZ2(c:Nat):fI2 (.str ⟨#[c]⟩)=cC4 c:=rfl
theorem eD6{G:DH}{σ:DSt}{fs:DSt→M (List D)}{R:Src→DH→Prop}:Wp (bU1 fs σ) G R↔Wp (fs σ) G fun xs G1=>Wp (match xs with
 |[a,b]=>do
   let s1 ←aL1 a
   let s2 ←aL1 b
   pure ⟨(s1.items.zip s2.items).map fun p=>.tup [p.1,p.2],fun G=>s1.ck G&&s2.ck G⟩
 |_=>M.stuck:M Src) G1 R:=by
 unfold bU1;simp only[m5]<;>rfl
theorem dZ4{G:DH}{p q:Nat}{k l:List D}{R:Src→DH→Prop}(ep:G[p]? =some (.lst k))(eq:G[q]? =some (.lst l)):Wp (match [D.ref p,D.ref q] with
 |[a,b]=>do
   let s1 ←aL1 a
   let s2 ←aL1 b
   pure ⟨(s1.items.zip s2.items).map fun p=>.tup [p.1,p.2],fun G=>s1.ck G&&s2.ck G⟩
 |_=>M.stuck:M Src) G R↔R ⟨(k.zip l).map fun p=>.tup [p.1,p.2],fun G=>ckO p (.lst k) G&&ckO q (.lst l) G⟩ G:=by
 show Wp (do
  let s1 ←aL1 (.ref p)
  let s2 ←aL1 (.ref q)
  pure ⟨(s1.items.zip s2.items).map fun p=>.tup [p.1,p.2],fun G=>s1.ck G&&s2.ck G⟩:M Src) G R↔_
 simp only[m5]
 rw[bM4 (σ:= []) ep,bM4 (σ:= []) eq]
 exact j9
theorem bJ4{b a:Fe}{caps:List (Option Nat)}{σ:DSt}{s:Src}{G:DH}{Q:DPP}(S:DSt→Prop)(e:itW b σ G=some (.ok s,G))(hl:s.items.length≤sizeLine)(hck:∀G',Ap G G'→s.ck G'=true)(hS:S (aA9 caps σ))
 (h:∀d∈s.items,∀ σ1 G1,S σ1→Ap G G1→S (σ1.set 0 (some d))∧Wp (a (σ1.set 0 (some d))) G1 fun y G2=>y= .bl true∧Ap G1 G2) (q:∀G',Ap G G'→Q (.bl true) G'):
 Wp (q12 aI2 (q10 (M8 (itW b) caps (q13 0) N6 a) q11) σ) G Q:=by
 refine R6<| v6<| wp_comp.mpr<| g8 e ⟨hl,(aA2 (Ap G) S (fun _=>.bl true) hck s.items _ G hS Ap.refl fun d hd σ1 G1 s1 j=>?_).mono ?_⟩
 · have:=h d hd σ1 G1 s1 j
   exact aW5 this.1 (this.2.mono fun y G2 q=>⟨j.trans q.2,q.1⟩)
 · rintro _ G2 ⟨j,rfl⟩
   refine t6.mpr ((bF9 (l:=s.items) (f:=fun _=>true) o6).mpr ?_)
   rw[List.all_eq_true.mpr fun _ _=>rfl]
   exact q _ (j.trans Ap.one)
noncomputable def One(σ:DSt):Prop:=∃u,σ= [u]
theorem bX5{z:Str}{G:DH}{Q:DPP}(h:TX z)(q:∀G',Ap G G'→Q (.bl true) G'):Wp (aF8 [.str z]) G Q:=by
 have bg:=big
 refine J3<| J9<| aX4.mpr<| g8 (a:=.bl true) rfl<| U8.mpr ?_
 rw[if_pos rfl]
 refine bJ4 One (s:=⟨aI8 z,fun _=>true⟩) rfl (by show (aI8 z).length≤_;rw[dG2];have:=h.2;lia) (fun _ _=>rfl) ⟨_,rfl⟩ ?_ fun G' a=>M6 (q G' a)
 rintro d hd _ G1 ⟨u,rfl⟩ j
 refine⟨⟨_,rfl⟩,?_⟩
 have hl:=List.all_eq_true.mp ((dG6 z).trans h.1) d hd
 obtain⟨c,rfl⟩:=dG1 hd
 rw[dZ2]at hl
 have hl2:decide (97≤c)=true∧decide (c≤122)=true:=by
  unfold cC4 at hl
  exact Bool.and_eq_true _ _▸hl
 refine dT7.mpr<| g8 (a:=.str ("a" :Str)) rfl<| g8 (a:=.str ⟨#[c]⟩) rfl<| eC8.mpr ⟨_,rfl,?_⟩
 rw[if_pos hl2.1]
 refine g8 (a:=.str ("z" :Str)) rfl<| eI6.mpr ⟨?_,Ap.refl⟩
 rw[hl2.2]
section
variable{a b:Fe}{t:DSt→M Bool}{f g:Fs}{σ:DSt}{G G1:DH}{Q:DPP}{P:Fl→DH→Prop}{B:Bool→DH→Prop}
theorem cD4(e:a σ G=some (.ok (.bl true),G1))(w:Wp (b σ) G1 Q):Wp (U6 a b σ) G Q:=aX4.mpr (g8 e (U8.mpr (by rw[if_pos rfl];exact w)))
theorem cD2(w:Wp (a σ) G fun x G1=>x= .bl true∧Wp (b σ) G1 Q):Wp (U6 a b σ) G Q:=aX4.mpr (w.mono fun x G1 q=>by
 obtain⟨rfl,q⟩:=q
 exact U8.mpr (by rw[if_pos rfl];exact q))
theorem cN4(w:Wp (t σ) G fun k G1=>k=true∧Wp (g σ) G1 P):Wp (ifS (aJ2 t) f g σ) G P:=aH2 (bD1.mpr (w.mono fun k G1 q=>by
 obtain⟨rfl,q⟩:=q
 exact⟨fun z=>(by exact aM7 z),fun _=>q⟩))
theorem W0(w:Wp (a σ) G fun x G1=>x= .bl true∧B true G1):Wp (G9 a σ) G B:=aH1.mpr (w.mono fun x G1 q=>by
 obtain⟨rfl,q⟩:=q
 exact U8.mpr q)
theorem dB3{u:DSt→M Bool}(w:Wp (t σ) G fun k G1=>k=true∧Wp (u σ) G1 B):Wp (aH4 t u σ) G B:=bX3 (w.mono fun k G1 q=>⟨fun _=>q.2,fun z=>by rw[q.1]at z;cases z⟩)
end
theorem dI3{z:Str}{G:DH}{Q:DPP}(h:NM z)(q:∀G',Ap G G'→Q (.bl true) G'):Wp (aN9 [.str z]) G Q:=by
 have bg:=big
 have h2:=h.1.2
 refine J3<| J9<| cD2<| m9 (as:= [.str z]) rfl rfl<| bX5 h.1 fun G' a=>⟨rfl,?_⟩
 refine bin_w<| aX7 (as:= [.str z]) rfl<| (cN9 (show z.length≤sizeLine by lia)).mpr<| g8 (a:=.int 0) rfl<| cV3.mpr<| M6 ?_
 rw[decide_eq_true (show (z.length:Int)>0 by have:=h.2;lia)]
 exact q G' a
theorem cV7{f:Str×Bool×D}{G:DH}{Q:DPP}(h:NM f.1)(q:∀G',Ap G G'→Q (.bl true) G'):Wp (aK8 [fdD f]) G Q:=
 J3<| J9<| cD4 rfl<| cD4 rfl<| cD2<| m9 (as:= [.str f.1]) rfl rfl<| dI3 h fun G' a=>⟨rfl,g8 (a:=.bl true) rfl (M6 (q G' a))⟩
theorem cU1{α:Type}{R:α→α→Prop}:∀ {l:List α},l.Pairwise R→∀p∈l.zip (l.drop 1),R p.1 p.2
 |[],_,p,hp=>by cases hp
 |[x],_,p,hp=>by cases hp
 |x::y::r,h,p,hp=>by
   have h':=List.pairwise_cons.mp h
   rcases List.mem_cons.mp (show p∈(x,y)::(y::r).zip r from hp)with rfl|hp
   ·exact h'.1 _ (by simp)
   ·exact cU1 (l:=y::r) h'.2 p hp
theorem eH0{G:DH}{p:Nat}{l:List D}{lo hi:Option Int}{Q:DPP}(e:G[p]? =some (.lst l)):Wp (slT (.ref p) lo hi) G Q↔Q (.ref G.length) (G++[.lst (DL.cutD l lo hi)]):=eV5 e
noncomputable def SqD(G:DH)(d:D)(l:List D):Prop:=d= .tup l∨∃p,d= .ref p∧G[p]? =some (.lst l)
theorem dN8{d:D}{l:List D}{e:Fe}{G:DH}{Q:DPP}(hd:SqD G d l)(hl:l.length≤10000)
 (h:∀p∈l.zip (l.drop 1),∀G1,Ap G G1→Wp (e [some p.1,some p.2]) G1 fun y G2=>y= .bl true∧Ap G1 G2) (q:∀G',Ap G G'→Q (.bl true) G'):
 Wp (q12 aI2 (q10 (M8 (bU1 (q10 (c7 0) (q10 (S7 (c7 0) (Z5 (cE (.int 1))) (T6)) (q11)))) [none,none] (aL0 2 (M5 (q13 0) (M5 (q13 1) (aM6)))) (N6) e) (q11)) [some d]) G Q:=by
 have bg:=big
 have hz:(l.zip (l.drop 1)).length≤sizeLine:=by rw[List.length_zip];lia
 have main:∀(ck:DH→Bool) (G0:DH),Ap G G0→(∀G',Ap G0 G'→ck G'=true)→Wp (P0 (aL0 2 (M5 (q13 0) (M5 (q13 1) (aM6)))) N6 e ck ((l.zip (l.drop 1)).map fun p=>.tup [p.1,p.2]) [none,none]) G0 fun ys G2=>Wp (q11 [some d]) (G2++[.lst ys]) fun xs G3=>Wp (aI2 (.ref G2.length::xs)) G3 Q:=by
  intro ck G0 j0 hck
  refine(aA2 (Ap G0) (fun σ=>∃u v,σ= [u,v]) (fun _=>.bl true) hck _ _ G0 ⟨_,_,rfl⟩ Ap.refl ?_).mono ?_
  · rintro d hd _ G1 ⟨u,v,rfl⟩ j
    obtain⟨p,hp,rfl⟩:=List.mem_map.mp hd
    exact g8 (a:= [some p.1,some p.2]) rfl ⟨rfl,⟨_,_,rfl⟩,g8 (a:=true) rfl ⟨rfl,rfl,(h p hp G1 (j0.trans j)).mono fun y G2 q=>⟨j.trans q.2,q.1⟩⟩⟩
  · rintro _ G2 ⟨j,rfl⟩
    refine t6.mpr ((bF9 (l:=(l.zip (l.drop 1)).map fun p=>.tup [p.1,p.2]) (f:=fun _=>true) o6).mpr ?_)
    rw[List.all_eq_true.mpr fun _ _=>rfl]
    exact q _ ((j0.trans j).trans Ap.one)
 refine R6<| v6<| wp_comp.mpr ?_
 rcases hd with rfl|⟨p,rfl,ep⟩
 · refine g8 (a:=⟨(l.zip (DL.cutD l (some 1) none)).map fun p=>.tup [p.1,p.2],fun _=>true&&true⟩) (G':=G) rfl ?_
   rw[eK4]
   exact⟨by rw[List.length_map];exact hz,main _ G Ap.refl fun _ _=>rfl⟩
 · refine eD6.mpr<| M9 (x:=.ref p) rfl<| v6<| aX2.mpr<| g8 (a:=.ref p) rfl<| cF3.mpr<| g8 (a:=.int 1) rfl ⟨1,rfl,bH0.mpr<| (eH0 ep).mpr<| t6.mpr<| (dZ4 (aB4 ep) o6).mpr ?_⟩
   rw[eK4]
   refine⟨by rw[List.length_map];exact hz,main _ _ Ap.one fun G' j=>?_⟩
   have h1:=j.at (aB4 ep)
   have h2:=j.at (o6 (G:=G) (o:=DO.lst (l.drop 1)))
   simp only[ckO,h1,h2]
   simp
noncomputable def dP6:D→D
 | .str z=>.tup [.int z.length,.str z]
 |_=>.non
noncomputable def txB(a b:Str):Bool:=if a.length=b.length then decide (a.cps.toList<b.cps.toList)else decide (a.length<b.length)
theorem eV3{G:DH}{a b:Str}:ltN 40 G (dP6 (.str a)) (dP6 (.str b))=some (txB a b):=by
 show ltL (eqN 39 G) (ltN 39 G) [.int a.length,.str a] [.int b.length,.str b]=_
 have e1:eqN 39 G (.int a.length) (.int b.length)=some (decide ((a.length:Int)=b.length)):=rfl
 have e2:eqN 39 G (.str a) (.str b)=some (a==b):=rfl
 unfold txB
 unfold ltL
 rw[e1]
 by_cases h:a.length=b.length
 · have h':((a.length:Int)=b.length):=by lia
   rw[if_pos h]
   simp only[h',decide_true]
   unfold ltL
   rw[e2]
   by_cases k:a=b
   · subst k
     simp[ltL,List.lt_irrefl]
   · have k':(a==b)=false:=by simpa using k
     rw[k']
     rfl
 · have h':¬((a.length:Int)=b.length):=by lia
   rw[if_neg h]
   simp only[h',decide_false]
   show some (decide ((a.length:Int)<b.length))=_
   congr 1
   by_cases k:a.length<b.length
   ·rw[decide_eq_true k,decide_eq_true (by lia)]
   ·rw[decide_eq_false k,decide_eq_false (by lia)]
theorem bP4{d:D}{l:List D}{G:DH}{Q:DPP}(hd:SqD G d l)(hl:l.length≤10000)(h:l.Pairwise fun a b=>∀G,ltN 40 G a b=some true)(q:∀G',Ap G G'→Q (.bl true) G'):Wp (aC9 [d]) G Q:=
 J3<| J9<| dN8 hd hl (fun p hp G1 j=>bin_w<| g8 rfl<| g8 rfl<| dV0.mpr ⟨true,cU1 h p hp G1,rfl,Ap.refl⟩) fun G' a=>M6 (q G' a)
theorem eF6{ss:List Str}(h:ss.Pairwise LtS):(ss.map D.str).Pairwise fun a b=>∀G,ltN 40 G a b=some true:=
 List.pairwise_map.mpr (h.imp fun {a b} q G=>(show ltN 40 G (.str a) (.str b)=some (decide (a.cps.toList<b.cps.toList))from rfl).trans (by rw[decide_eq_true (show a.cps.toList<b.cps.toList from q)]))
theorem eI5{ts:List Str}(h:ts.Pairwise fK0):((ts.map D.str).map dP6).Pairwise fun a b=>∀G,ltN 40 G a b=some true:=by
 rw[List.map_map]
 refine List.pairwise_map.mpr (h.imp fun {a b} q G=>eV3.trans ?_)
 unfold txB
 rcases q with q|⟨q,q'⟩
 ·rw[if_neg (by lia),decide_eq_true q]
 ·rw[if_pos q,decide_eq_true (show a.cps.toList<b.cps.toList from q')]
noncomputable def TrP(tr:List Bool):Prop:=tr= []∨tr= [false]∨tr= [true]∨tr= [false,true]
theorem eS7{tr:List Bool}(h:TrP tr):(tr.map D.bl).Pairwise fun a b=>∀G,ltN 40 G a b=some true:=by
 rcases h with rfl|rfl|rfl|rfl
 ·exact .nil
 ·exact List.pairwise_singleton _ _
 ·exact List.pairwise_singleton _ _
 ·exact List.pairwise_cons.mpr ⟨fun y hy G=>(by rw[List.mem_singleton.mp hy];rfl),List.pairwise_singleton _ _⟩
theorem cJ6{tr:List Bool}{G:DH}{Q:DPP}(h:TrP tr)(q:∀G',Ap G G'→Q (.bl true) G'):Wp (aG5 [.tup (tr.map D.bl)]) G Q:=by
 have hl:tr.length≤2:=by rcases h with rfl|rfl|rfl|rfl<;>decide
 have bg:=big
 refine J3<| m6 (σ':= [some (.tup (tr.map D.bl))]) rfl<| J9<| cD2<| bJ4 One (s:=⟨tr.map D.bl,fun _=>true⟩) rfl (by show (tr.map D.bl).length≤_;rw[List.length_map];lia) (fun _ _=>rfl) ⟨_,rfl⟩ ?_ fun G' a=>⟨rfl,m9 (as:= [.tup (tr.map D.bl)]) rfl rfl<| bP4 (.inl rfl) (by rw[List.length_map];lia) (eS7 h) fun G2 a2=>M6 (q G2 (a.trans a2))⟩
 rintro d hd _ G1 ⟨u,rfl⟩ j
 obtain⟨b,_,rfl⟩:=List.mem_map.mp hd
 exact⟨⟨_,rfl⟩,g8 (a:=.bl true) rfl ⟨rfl,Ap.refl⟩⟩
theorem cE4{z:Str}{G:DH}{Q:DPP}(h:TX z)(q:Q (dP6 (.str z)) G):Wp (aD3 [.str z]) G Q:=by
 have bg:=big
 have h2:=h.2
 exact J3<| J9<| W2.mpr<| v6<| aX7 (as:= [.str z]) rfl<| (cN9 (show z.length≤sizeLine by lia)).mpr<| g8 (a:= [.str z]) (G':=G) rfl ⟨sz,M6 (show Q (.tup [.int z.length,.str z]) G from q)⟩
theorem cR8{w:Str}{ts:List Str}{G:DH}{Q:DPP}(hw:w=wOf∨w=dI0)(h:eI4 ts)(hl:ts.length≤100)(q:∀G',Ap G G'→Q (.bl true) G'):Wp (aJ3 [.tup [.str w,.tup (ts.map D.str)]]) G Q:=by
 have bg:=big
 refine J3<| m6 (σ':= [some (.tup [.str w,.tup (ts.map D.str)])]) (G':=G) (by rcases hw with rfl|rfl<;>rfl)<| m8.mpr<| cN4<| W0<| bJ4 One (s:=⟨ts.map D.str,fun _=>true⟩) rfl (by show (ts.map D.str).length≤_;rw[List.length_map];lia) (fun _ _=>rfl) ⟨_,rfl⟩ ?_ fun G' a=>⟨rfl,rfl,K1.mpr ?_⟩
 · rintro d hd _ G1 ⟨u,rfl⟩ j
   obtain⟨z,hz,rfl⟩:=List.mem_map.mp hd
   exact⟨⟨_,rfl⟩,m9 (as:= [.str z]) rfl rfl<| bX5 (h.1 z hz) fun G2 a2=>⟨rfl,a2⟩⟩
 · refine J9<| R6<| v6<| Z7 (l:=ts.map D.str) (G1:=G') rfl (by rw[List.length_map];lia)<| (aA2 (fun G2=>G2=G') One dP6 (fun _ _=>rfl) _ _ G' ⟨_,rfl⟩ rfl ?_).mono ?_
   · rintro d hd _ _ ⟨u,rfl⟩ rfl
     obtain⟨z,hz,rfl⟩:=List.mem_map.mp hd
     exact aW5 ⟨_,rfl⟩ (m9 (as:= [.str z]) rfl rfl<| cE4 (h.1 z hz) ⟨rfl,rfl⟩)
   · rintro _ _ ⟨rfl,rfl⟩
     exact t6.mpr<| Z6.mpr ⟨rfl,bP4 (.inr ⟨_,rfl,o6⟩) (by rw[List.length_map,List.length_map];lia) (eI5 h.2) fun G2 a2=>M6 (q G2 ((a.trans Ap.one).trans a2))⟩
theorem cG2{p:D×D}{G:DH}(h:aR1 p):Wp (aE0 [stD p]) G fun y G2=>y= .bl true∧Ap G G2:=by
 obtain⟨a,b⟩:=p
 obtain⟨h1,h2,h3⟩:=h
 replace h1:aT4 a:=h1
 replace h2:aT4 b:=h2
 have he:bN9 a b=false:=by
  rcases aX3 h1 with rfl|⟨i,rfl⟩<;>rcases aX3 h2 with rfl|⟨j,rfl⟩<;>first
   |rfl
   |(exact decide_eq_false (Int.not_lt.mpr (h3 _ _ rfl rfl).1))
 refine J3<| m6 (σ':= [some (stD (a,b))]) rfl<| m6 (σ':= [some (stD (a,b))]) (G':=G) ?_<| J9<| cG0.mpr<| m9 (as:= [a,b]) rfl rfl<| (aG6 h1 h2).mpr ?_
 ·rcases aX3 h1 with rfl|⟨i,rfl⟩<;>rcases aX3 h2 with rfl|⟨j,rfl⟩<;>rfl
 · rw[he]
   exact⟨_,rfl,M6 ⟨rfl,Ap.refl⟩⟩
theorem cF8{p r:D×D}{G:DH}(h:Clr p r):Wp (aD8 [stD p,stD r]) G fun y G2=>y= .bl true∧Ap G G2:=by
 obtain⟨p1,p2⟩:=p
 obtain⟨r1,r2⟩:=r
 obtain⟨a,b,rfl,rfl,hab⟩:=h
 refine J3<| J9<| cD4 rfl<| cD4 rfl<| bin_w<| g8 (a:=.int (a+1)) rfl<| g8 (a:=.int b) rfl<| dV0.mpr ⟨decide (a+1<b),rfl,M6 ⟨?_,Ap.refl⟩⟩
 rw[decide_eq_true hab]
theorem cC3{ns:List (D×D)}{G:DH}{Q:DPP}(h:StP ns)(hl:ns.length≤100)(q:∀G',Ap G G'→Q (.bl true) G'):Wp (aD4 [.tup (ns.map stD)]) G Q:=by
 have bg:=big
 refine J3<| m8.mpr<| cN4<| dB3<| W0<| g8 (a:=.bl true) rfl ⟨rfl,rfl,W0<| bJ4 One (s:=⟨ns.map stD,fun _=>true⟩) rfl (by show (ns.map stD).length≤_;rw[List.length_map];lia) (fun _ _=>rfl) ⟨_,rfl⟩ ?_ fun G' a=>⟨rfl,rfl,K1.mpr ?_⟩⟩
 · rintro d hd _ G1 ⟨u,rfl⟩ j
   obtain⟨p,hp,rfl⟩:=List.mem_map.mp hd
   exact⟨⟨_,rfl⟩,m9 (as:= [stD p]) rfl rfl<| cG2 (h.1 p hp)⟩
 · refine J9<| dN8 (l:=ns.map stD) (.inl rfl) (by rw[List.length_map];lia) (fun p hp G1 j=>?_) fun G2 a2=>M6 (q G2 (a.trans a2))
   rw[←List.map_drop,List.zip_map,List.mem_map]at hp
   obtain⟨⟨x,y⟩,hxy,rfl⟩:=hp
   exact m9 (as:= [stD x,stD y]) rfl rfl<| cF8 (cU1 h.2 (x,y) hxy)
noncomputable def LiG(S:D→Prop)(li:D):Prop:=li= .non∨∃fs m,li= .tup [.tup fs,m]∧fs.length≤8∧(∀x∈fs,S x)∧S m
def ReG(S:D→Prop)(re:D):Prop:=re= .non∨∃(fs:List (Str×Bool×D)) (m:D),re= .tup [.tup (fs.map fdD),m]∧fs.length≤8∧(fs.map (·.1)).Pairwise LtS∧(∀f∈fs,NM f.1∧S f.2.2)∧S m
structure PtP(S:D→Prop)(ns:List (D×D))(w:Str)(ts:List Str)(tr:List Bool)(li re:D):Prop where
 st:StP ns
 nl:ns.length≤10
 wd:w=wOf∨w=dI0
 tx:eI4 ts
 tl:ts.length≤100
 tr:TrP tr
 li:LiG S li
 re:ReG S re
def NoN(li:D):Prop:=∀fs m,li= .tup [.tup fs,m]→noS∉fs
def Due(re:D):Prop:=∀(fs:List (Str×Bool×D)) (m:D),re= .tup [.tup (fs.map fdD),m]→∀f∈fs,f.2.1=true∧f.2.2≠noS
def GS:Nat→D→Prop
 |0,_=>False
 |n+1,d=>d= .str aV0∨∃ns w ts tr li re,d=mkS ns w ts tr li re∧PtP (GS n) ns w ts tr li re∧NoN li∧Due re∧d≠evS
noncomputable def hd0:D→D
 | .tup (x::_)=>x
 |_=>.non
noncomputable def trd:D→D
 | .tup [_,_,x]=>x
 |_=>.non
section
variable{S:D→Prop}{G:DH}{Q:DPP}
theorem cS6{fs:List (Str×Bool×D)}(hl:fs.length≤100)(q:Q (.ref G.length) (G++[.lst ((fs.map (·.1)).map D.str)])):Wp (aK6 [.tup (fs.map fdD)]) G Q:=by
 refine J3<| J9<| Z7 (l:=fs.map fdD) (G1:=G) rfl (by rw[List.length_map];lia)<| (aA2 (fun G2=>G2=G) One hd0 (fun _ _=>rfl) _ _ G ⟨_,rfl⟩ rfl ?_).mono ?_
 · rintro d hd _ _ ⟨u,rfl⟩ rfl
   obtain⟨f,hf,rfl⟩:=List.mem_map.mp hd
   exact aW5 ⟨_,rfl⟩ (g8 (a:=.str f.1) rfl ⟨rfl,rfl⟩)
 · rintro _ _ ⟨rfl,rfl⟩
   rw[List.map_map]at q ⊢
   exact M6 q
theorem cC9{li:D}(h:LiG S li)(q:Q (.bl true) G):Wp (U7 [li]) G Q:=by
 rcases h with rfl|⟨fs,m,rfl,_⟩
 ·exact aI1 (d:=.bl true) rfl q
 ·exact aI1 (d:=.bl true) rfl q
theorem bR9{re:D}(h:ReG S re)(q:∀G',Ap G G'→Q (.bl true) G'):Wp (S9 [re]) G Q:=by
 have bg:=big
 rcases h with rfl|⟨fs,m,rfl,hl,hn,hf,_⟩
 ·exact aI1 (d:=.bl true) rfl (q G Ap.refl)
 · refine J3<| m6 (σ':= [some (.tup [.tup (fs.map fdD),m])]) rfl<| m8.mpr<| cN4<| dB3<| W0<| g8 (a:=.bl true) rfl ⟨rfl,rfl,W0<| bJ4 One (s:=⟨fs.map fdD,fun _=>true⟩) rfl (by show (fs.map fdD).length≤_;rw[List.length_map];lia) (fun _ _=>rfl) ⟨_,rfl⟩ ?_ fun G' a=>⟨rfl,rfl,K1.mpr ?_⟩⟩
   · rintro d hd _ G1 ⟨u,rfl⟩ j
     obtain⟨f,hf',rfl⟩:=List.mem_map.mp hd
     exact⟨⟨_,rfl⟩,m9 (as:= [fdD f]) rfl rfl<| cV7 (hf f hf').1 fun G2 a2=>⟨rfl,a2⟩⟩
   ·exact J9<| R6<| v6<| m9 (as:= [.tup (fs.map fdD)]) rfl rfl<| cS6 (by lia)<| t6.mpr<| Z6.mpr ⟨rfl,bP4 (.inr ⟨_,rfl,o6⟩) (by rw[List.length_map,List.length_map];lia) (eF6 hn) fun G2 a2=>M6 (q G2 ((a.trans Ap.one).trans a2))⟩
theorem cR1{ns:List (D×D)}{w:Str}{ts:List Str}{tr:List Bool}{li re:D}(h:PtP S ns w ts tr li re)(q:∀G',Ap G G'→Q (.bl true) G'):Wp (S8 [mkS ns w ts tr li re]) G Q:=by
 refine J3<| m6 (σ':= [some (mkS ns w ts tr li re)]) rfl<| m6 (σ':= [some (mkS ns w ts tr li re)]) rfl<| m8.mpr<| cN4<| dB3<| W0<| m9 (as:= [.tup (ns.map stD)]) rfl rfl<| cC3 h.st (by have:=h.nl;lia) fun G1 a1=>⟨rfl,rfl,?_⟩
 refine dB3<| W0<| m9 (as:= [.tup [.str w,.tup (ts.map D.str)]]) rfl rfl<| cR8 h.wd h.tx h.tl fun G2 a2=>⟨rfl,rfl,?_⟩
 refine W0<| m9 (as:= [.tup (tr.map D.bl)]) rfl rfl<| cJ6 h.tr fun G3 a3=>⟨rfl,rfl,K1.mpr ?_⟩
 exact J9<| cD2<| m9 (as:= [li]) rfl rfl<| cC9 h.li ⟨rfl,m9 (as:= [re]) rfl rfl<| bR9 h.re fun G4 a4=>M6 (q G4 (((a1.trans a2).trans a3).trans a4))⟩
theorem cT4(q:Q (.bl true) G):Wp (S8 [.str aV0]) G Q:=aI1 (d:=.bl true) rfl q
theorem GS.form{n:Nat}{d:D}(h:GS n d)(q:∀G',Ap G G'→Q (.bl true) G'):Wp (S8 [d]) G Q:=by
 cases n with
 |zero=>exact h.elim
 |succ n=>
   rcases h with rfl|⟨ns,w,ts,tr,li,re,rfl,h,_⟩
   ·exact cT4 (q G Ap.refl)
   ·exact cR1 h q
end
noncomputable def liK:D→List D
 | .tup [.tup fs,m]=>fs++[m]
 |_=> []
def reK:D→List D
 | .tup [.tup fs,m]=>fs.map trd++[m]
 |_=> []
def cO4:D→List D
 | .tup [_,_,_,li,re]=>liK li++reK re
 |_=> []
theorem fK3:aE2=o4 (N7 (aA6 (q11)) (q13 1)) (o4 (ifS (J2 (d7 eqD (c7 0) (cE (.str ("any" :Str))))) (o7 (c7 1)) (t7)) (o4 IL (o4 IR (o7 (c7 1))))):=rfl
theorem Ap.set{G0 G:DH}{p:Nat}{o:DO}(h:Ap G0 G)(hp:G0.length≤p):Ap G0 (G.set p o):=by
 obtain⟨t,rfl⟩:=h
 exact⟨t.set (p-G0.length) o,List.set_append_right _ _ hp⟩
section
variable{S:D→Prop}{G G0:DH}{Q:DPP}{p:Nat}{ns:List (D×D)}{w:Str}{ts:List Str}{tr:List Bool}{li re:D}{l0:List D}
theorem eL2{d:D}{a b:Fe}{fs:List D}{m:D}{G1:DH}{P:Fl→DH→Prop}(hA:Ap G0 G)(hp:G0.length≤p)(e:G[p]? =some (.lst l0))(hl:l0.length≤10)(hf:fs.length≤10)(ha:Wp (a [some d,some (.ref p)]) G fun x G1=>x= .ref G.length∧G1=G++[.lst fs])(hb:∀G,b [some d,some (.ref p)] G=some (.ok m,G))(q:∀G',Ap G0 G'→G'[p]? =some (.lst (l0++(fs++[m])))→P (.nx [some d,some (.ref p)]) G'):
 Wp (bI7 (mtE aF2 aO6 (c7 1) (q10 (d7 V7 a (aA6 (q10 b (q11)))) (q11))) [some d,some (.ref p)]) G P:=by
 have bg:=big
 refine cD5.mpr<| cP2.mpr<| g8 (a:=.ref p) rfl<| (aQ7 e).mpr<| v6<| bin_w<| ha.mono ?_
 rintro _ _ ⟨rfl,rfl⟩
 refine aM1.mpr<| M9 (hb _)<| t6.mpr ⟨sz,?_⟩
 refine(dB4 (aB4 o6) o6 (by show fs.length+1≤_;lia)).mpr<| t6.mpr ?_
 have e3:(G++[DO.lst fs]++[DO.lst [m]]++[DO.lst (fs++[m])])[p]? =some (.lst l0):=aB4 (aB4 (aB4 e))
 refine(bO0 e3 o6 (by rw[List.length_append];show l0.length+(fs.length+1)≤_;lia)).mpr ?_
 exact q _ (Ap.set (((hA.trans Ap.one).trans Ap.one).trans Ap.one) hp) (List.getElem?_set_self (lt_of_get e3))
theorem fM9{P:Fl→DH→Prop}(hA:Ap G0 G)(hp:G0.length≤p)(e:G[p]? =some (.lst l0))(hl:l0.length≤10)(h:LiG S li)(q:∀G',Ap G0 G'→G'[p]? =some (.lst (l0++liK li))→P (.nx [some (mkS ns w ts tr li re),some (.ref p)]) G'):
 Wp (IL [some (mkS ns w ts tr li re),some (.ref p)]) G P:=by
 rcases h with rfl|⟨fs,m,rfl,hf,_⟩
 · refine fF9 (G1:=G) rfl<| K1.mpr (q G hA ?_)
   rw[show liK .non= []from rfl,List.append_nil];exact e
 · refine bE0 (G1:=G) rfl ?_
   exact eL2 (G1:=G) hA hp e hl (by lia) (g8 (a:=.ref G.length) (G':=G++[.lst fs]) rfl ⟨rfl,rfl⟩) (fun _=>rfl) q
theorem fM3{P:Fl→DH→Prop}(hA:Ap G0 G)(hp:G0.length≤p)(e:G[p]? =some (.lst l0))(hl:l0.length≤10)(h:ReG S re)(q:∀G',Ap G0 G'→G'[p]? =some (.lst (l0++reK re))→P (.nx [some (mkS ns w ts tr li re),some (.ref p)]) G'):
 Wp (IR [some (mkS ns w ts tr li re),some (.ref p)]) G P:=by
 rcases h with rfl|⟨fs,m,rfl,hf,_⟩
 · refine fF9 (G1:=G) rfl<| K1.mpr (q G hA ?_)
   rw[show reK .non= []from rfl,List.append_nil];exact e
 · refine bE0 (G1:=G) rfl ?_
   refine eL2 (G1:=G) (fs:=(fs.map fdD).map trd) hA hp e hl (by rw[List.length_map,List.length_map];lia) ?_ (fun _=>rfl) q
   refine Z7 (l:=fs.map fdD) (G1:=G) rfl (by rw[List.length_map];lia)<| (aA2 (fun G2=>G2=G) One trd (fun _ _=>rfl) _ _ G ⟨_,rfl⟩ rfl ?_).mono ?_
   · rintro d hd _ _ ⟨u,rfl⟩ rfl
     obtain⟨f,hf,rfl⟩:=List.mem_map.mp hd
     exact aW5 ⟨_,rfl⟩ (g8 (a:=f.2.2) rfl ⟨rfl,rfl⟩)
   · rintro _ _ ⟨rfl,rfl⟩
     exact⟨rfl,rfl⟩
theorem dZ6(h:LiG S li):(liK li).length≤9:=by
 rcases h with rfl|⟨fs,m,rfl,hf,_⟩
 ·exact Nat.zero_le _
 · show (fs++[m]).length≤9
   rw[List.length_append];show fs.length+1≤9;lia
theorem eE2{n:Nat}{d:D}(h:GS n d)(q:∀p G',Ap G G'→G.length≤p→G'[p]? =some (.lst (cO4 d))→Q (.ref p) G'):Wp (aF0 [d]) G Q:=by
 cases n with
 |zero=>exact h.elim
 |succ n=>
   rcases h with rfl|⟨ns,w,ts,tr,li,re,rfl,h,_⟩
   · refine J3 (show Wp (aE2 [some (.str aV0),none]) G _ from ?_)
     rw[fK3]
     exact m6 (σ':= [some (.str aV0),some (.ref G.length)]) (G':=G++[.lst []]) rfl<| dS1 (d:=.ref G.length) (G':=G++[.lst []]) rfl (M6 (q _ _ Ap.one (Nat.le_refl _) o6))
   · refine J3 (show Wp (aE2 [some (mkS ns w ts tr li re),none]) G _ from ?_)
     rw[fK3]
     refine m6 (σ':= [some (mkS ns w ts tr li re),some (.ref G.length)]) (G':=G++[.lst []]) rfl<| m6 (σ':= [some (mkS ns w ts tr li re),some (.ref G.length)]) (G':=G++[.lst []]) rfl ?_
     refine m8.mpr<| fM9 (Ap.one (G:=G)) (Nat.le_refl _) o6 (Nat.zero_le _) h.li fun G1 a1 e1=>m8.mpr<| fM3 a1 (Nat.le_refl _) e1 (by have:=dZ6 h.li;simpa using Nat.le_trans this (by decide)) h.re fun G2 a2 e2=>?_
     exact g8 rfl (M6 (q _ _ a2 (Nat.le_refl _) e2))
end
theorem LiG.mono{S T:D→Prop}(k:∀d,S d→T d){li:D}(h:LiG S li):LiG T li:=by
 rcases h with rfl|⟨fs,m,rfl,a,b,c⟩
 ·exact .inl rfl
 ·exact .inr ⟨fs,m,rfl,a,fun x hx=>k _ (b x hx),k _ c⟩
theorem ReG.mono{S T:D→Prop}(k:∀d,S d→T d){re:D}(h:ReG S re):ReG T re:=by
 rcases h with rfl|⟨fs,m,rfl,a,n,b,c⟩
 ·exact .inl rfl
 ·exact .inr ⟨fs,m,rfl,a,n,fun x hx=>⟨(b x hx).1,k _ (b x hx).2⟩,k _ c⟩
theorem PtP.mono{S T:D→Prop}(k:∀d,S d→T d){ns:List (D×D)}{w:Str}{ts:List Str}{tr:List Bool}{li re:D}(h:PtP S ns w ts tr li re):PtP T ns w ts tr li re:=⟨h.st,h.nl,h.wd,h.tx,h.tl,h.tr,h.li.mono k,h.re.mono k⟩
theorem GS.le:∀ {n m:Nat} {d:D},n≤m→GS n d→GS m d
 |0,_,_,_,h=>h.elim
 |n+1,0,_,hm,_=>absurd hm (by lia)
 |n+1,m+1,d,hm,h=>by
   rcases h with rfl|⟨ns,w,ts,tr,li,re,e,h,r⟩
   ·exact .inl rfl
   ·exact .inr ⟨ns,w,ts,tr,li,re,e,h.mono fun d hd=>GS.le (by lia) hd,r⟩
theorem GS.kids{n:Nat}{d:D}(h:GS (n+1) d):∀x∈cO4 d,GS n x:=by
 rcases h with rfl|⟨ns,w,ts,tr,li,re,rfl,h,_⟩
 ·intro x hx;cases hx
 · intro x hx
   rcases List.mem_append.mp (show x∈liK li++reK re from hx)with hx|hx
   · rcases h.li with e|⟨fs,m,e,a,b,c⟩<;>rw[e]at hx
     ·cases hx
     · rcases List.mem_append.mp (show x∈fs++[m]from hx)with hx|hx
       ·exact b x hx
       ·rw[List.mem_singleton.mp hx];exact c
   · rcases h.re with e|⟨fs,m,e,a,n,b,c⟩<;>rw[e]at hx
     ·cases hx
     · rcases List.mem_append.mp (show x∈(fs.map fdD).map trd++[m]from hx)with hx|hx
       · obtain⟨y,hy,rfl⟩:=List.mem_map.mp hx
         obtain⟨f,hf,rfl⟩:=List.mem_map.mp hy
         exact(b f hf).2
       ·rw[List.mem_singleton.mp hx];exact c
theorem bF6{l:List D}:szD (.tup l)=1+szL l:=by rw[szD]
theorem Q3{d:D}{l:List D}:szL (d::l)=szD d+szL l:=by rw[szL]
theorem aB0:szL []=0:=by rw[szL]
theorem dM9:∀(fs:List (Str×Bool×D)),szL ((fs.map fdD).map trd)+3*fs.length=szL (fs.map fdD)
 |[]=>rfl
 |f::fs=>by
   have ih:=dM9 fs
   show szL (f.2.2::(fs.map fdD).map trd)+3*(fs.length+1)=szL (.tup [.str f.1,.bl f.2.1,f.2.2]::fs.map fdD)
   rw[Q3,Q3,bF6,Q3,Q3,Q3,aB0,show szD (.str f.1)=1 from by rw[szD],show szD (.bl f.2.1)=1 from by rw[szD]]
   lia
theorem GS.ksz{n:Nat}{d:D}(h:GS n d):szL (cO4 d)<szD d:=by
 cases n with
 |zero=>exact h.elim
 |succ n=>
   rcases h with rfl|⟨ns,w,ts,tr,li,re,rfl,h,_⟩
   · show szL []<_
     rw[aB0];exact cE7 _
   · have h1:szL (liK li)≤szD li:=by
      rcases h.li with e|⟨fs,m,e,_⟩<;>rw[e]
      · show szL []≤_
        rw[aB0];exact Nat.zero_le _
      · show szL (fs++[m])≤_
        rw[aQ4,bF6,Q3,Q3,aB0,bF6,Q3,aB0];lia
     have h2:szL (reK re)≤szD re:=by
      rcases h.re with e|⟨fs,m,e,_⟩<;>rw[e]
      · show szL []≤_
        rw[aB0];exact Nat.zero_le _
      · show szL ((fs.map fdD).map trd++[m])≤_
        have:=dM9 fs
        rw[aQ4,bF6,Q3,Q3,aB0,bF6,Q3,aB0];lia
     show szL (liK li++reK re)<szD (.tup [.tup (ns.map stD),.tup [.str w,.tup (ts.map D.str)],.tup (tr.map D.bl),li,re])
     rw[aQ4,bF6,Q3,Q3,Q3,Q3,Q3,aB0]
     lia
theorem PtP.sb{S T:D→Prop}(k:∀d,S d→T d){ns:List (D×D)}{w:Str}{ts:List Str}{tr:List Bool}{li re:D}(h:PtP S ns w ts tr li re):(∀p∈ns,aR1 p)∧ns.length≤100∧(∀z∈ts,z.length≤1000)∧ts.length≤100∧tr.length≤100∧LiP T li∧ReP T re:=by
 refine⟨h.st.1,by have:=h.nl;lia,fun z hz=>Nat.le_trans (h.tx.1 z hz).2 (by decide),h.tl,?_,?_,?_⟩
 ·rcases h.tr with e|e|e|e<;>rw[e]<;>decide
 · rcases h.li with e|⟨fs,m,e,a,b,c⟩
   ·exact .inl e
   ·exact .inr ⟨fs,m,e,by lia,fun x hx=>k _ (b x hx),k _ c⟩
 · rcases h.re with e|⟨fs,m,e,a,n,b,c⟩
   ·exact .inl e
   ·exact .inr ⟨fs,m,e,by lia,bO9 n,fun f hf=>⟨Nat.le_trans (b f hf).1.1.2 (by decide),k _ (b f hf).2⟩,k _ c⟩
theorem GS.sb:∀ {n:Nat} {d:D},GS n d→SB n d
 |0,_,h=>h.elim
 |n+1,d,h=>by
   rcases h with rfl|⟨ns,w,ts,tr,li,re,e,h,_⟩
   ·exact .inl rfl
   · have:=h.sb (T:=SB n) fun d hd=>GS.sb hd
     exact .inr ⟨ns,w,ts,tr,li,re,e,this⟩
section
variable{n:Nat}{G:DH}{Q:DPP}{P:Fl→DH→Prop}
theorem eM1{k:Nat}{x y:D}(hk:k≤9)(hx:SB k x)(hy:SB k y)(ne:x≠y)(q:Q (.bl true) G):Wp (neD x y) G Q:=by
 obtain⟨b,hb,kb⟩:=SB.eqN (G:=G) hk hx hy
 have:b=false:=by
  rcases b with _|_
  ·rfl
  ·exact(ne (kb.mp rfl)).elim
 subst this
 exact(bC1 (show neD x y G=some (.ok (.bl true),G)from by unfold neD;rw[hb];rfl)).mpr q
theorem eK6{t u:DSt→M Bool}{f g:Fs}{σ:DSt}(e:t σ G=some (.ok true,G))(w:Wp (u σ) G fun k G2=>k=true∧Wp (g σ) G2 P):Wp (ifS (aH4 t (aJ2 u)) f g σ) G P:=
 aH2<| bX3<| g8 e ⟨fun _=>bD1.mpr (w.mono fun k G2 q=>by
  obtain⟨rfl,q⟩:=q
  exact⟨fun z=>(by cases z),fun _=>q⟩),fun z=>(by cases z)⟩
theorem fC3{f:Str×Bool×D}{m:D}(hn:n≤8)(hf:GS (n+1) f.2.2)(h:f.2.1=true∧f.2.2≠noS)(q:∀G',Ap G G'→Q (.bl true) G'):Wp (aN5 [fdD f,m]) G Q:=by
 obtain⟨z,b,s⟩:=f
 obtain⟨e,h⟩:=h
 simp only at e h
 subst e
 exact J3<| J9<| fE4 (G1:=G) rfl<| X3 (x:=s) (y:=noS) rfl rfl<| eM1 (k:=n+1) (by lia) hf.sb aP3 h (M6 (q G Ap.refl))
theorem fE6{d:D}(hn:n≤6)(h:GS (n+2) d)(q:∀G',Ap G G'→Q (.bl true) G'):Wp (V5 [d]) G Q:=by
 have bg:=big
 have hsb:=h.sb
 rcases h with rfl|⟨ns,w,ts,tr,li,re,rfl,h,h1,h2,h3⟩
 ·exact aI1 (d:=.bl true) rfl (q G Ap.refl)
 · refine J3<| m6 (σ':= [some (mkS ns w ts tr li re)]) rfl ?_
   have last:∀G',Ap G G'→Wp (o7 (d7 neD (c7 0) (cE (.tup [.tup [.tup [.non,.non]],.tup [.str ("but" :Str),.tup []],.tup [.bl false,.bl true],.tup [.tup [],.str ("any" :Str)],.tup [.tup [],.str ("any" :Str)]]))) [some (mkS ns w ts tr li re)]) G' (PB Q):=fun G' a=>
    J9<| X3 (x:=mkS ns w ts tr li re) (y:=evS) rfl rfl<| eM1 (k:=n+2) (by lia) hsb eL0 h3 (M6 (q G' a))
   have step2:∀G',Ap G G'→Wp (o4 (ifS (aH4 (J2 (d7 aO2 (d7 ixD (c7 0) (cE (.int 4))) (cE .non))) (aJ2 (G9 (q12 aI2 (q10 (M8 (itW (d7 ixD (d7 ixD (c7 0) (cE (.int 4))) (cE (.int 0)))) [none,some 0] (q13 0) (N6) (q12 (fnX 2 aN5) (q10 (c7 0) (q10 (d7 ixD (d7 ixD (c7 1) (cE (.int 4))) (cE (.int 1))) (q11))))) (q11)))))) (o7 (cE (.bl false))) (t7)) (o7 (d7 neD (c7 0) (cE (.tup [.tup [.tup [.non,.non]],.tup [.str ("but" :Str),.tup []],.tup [.bl false,.bl true],.tup [.tup [],.str ("any" :Str)],.tup [.tup [],.str ("any" :Str)]])))) [some (mkS ns w ts tr li re)]) G' (PB Q):=by
    intro G' a
    rcases h.re with e|⟨fs,m,e,hl,_,hf,hm⟩
    ·exact m6 (σ':= [some (mkS ns w ts tr li re)]) (G':=G') (by rw[e];rfl) (last G' a)
    · subst e
      refine m8.mpr<| eK6 rfl<| W0<| bJ4 (fun σ=>∃u,σ= [u,some (mkS ns w ts tr li (.tup [.tup (fs.map fdD),m]))]) (s:=⟨fs.map fdD,fun _=>true⟩) rfl (by show (fs.map fdD).length≤_;rw[List.length_map];lia) (fun _ _=>rfl) ⟨_,rfl⟩ ?_ fun G2 a2=>⟨rfl,rfl,K1.mpr (last G2 (a.trans a2))⟩
      rintro d hd _ G1 ⟨u,rfl⟩ j
      obtain⟨f,hf',rfl⟩:=List.mem_map.mp hd
      exact⟨⟨_,rfl⟩,m9 (as:= [fdD f,m]) rfl rfl<| fC3 (by lia) (hf f hf').2 (h2 fs m rfl f hf') fun G2 a2=>⟨rfl,a2⟩⟩
   rcases h.li with e|⟨fs,m,e,hl,hf,hm⟩
   ·exact m6 (σ':= [some (mkS ns w ts tr li re)]) (G':=G) (by rw[e];rfl) (step2 G Ap.refl)
   · subst e
     refine m8.mpr<| eK6 rfl<| W0<| bJ4 One (s:=⟨fs,fun _=>true⟩) rfl (by show fs.length≤_;lia) (fun _ _=>rfl) ⟨_,rfl⟩ ?_ fun G2 a2=>⟨rfl,rfl,K1.mpr (step2 G2 a2)⟩
     rintro d hd _ G1 ⟨u,rfl⟩ j
     exact⟨⟨_,rfl⟩,X3 (x:=d) (y:=noS) rfl rfl<| eM1 (k:=n+1) (by lia) (hf d hd).sb aP3 (fun z=>h1 fs m rfl (z▸hd)) ⟨rfl,Ap.refl⟩⟩
end
def ZT:DSt→M Bool:=G9 (c7 2)
theorem fN5:bB3=o4 (N7 (aA6 (q11)) (q13 1)) (o4 (N7 (aA6 (q10 (c7 0) (q11))) (q13 2)) (o4 (bF8 ZT (o4 Z1 (o4 V2 (o4 V3 V4)))) (o7 (q12 aI2 (q10 (M8 (itW (c7 1)) [none] (q13 0) (N6) (q12 (fnX 1 V5) (q10 (c7 0) (q11)))) (q11)))))):=rfl
theorem dK2{n p r:Nat}{x:Option D}{G0:DH}(hp:G0.length≤p)(hr:G0.length≤r)(hpr:p≠r):∀(fuel:Nat) (ws fd:List D) (u:Option D) (G:DH),Ap G0 G→G[p]? =some (.lst ws)→G[r]? =some (.lst fd)→szL ws<fuel→szL ws+fd.length≤1000000→(∀d∈ws,GS (n+1) d)→(∀d∈fd,GS (n+1) d)→
 Wp (X6 fuel ZT (o4 Z1 (o4 V2 (o4 V3 V4))) [x,some (.ref r),some (.ref p),u]) G fun fl G'=>∃u' fd',fl= .nx [x,some (.ref r),some (.ref p),u']∧Ap G0 G'∧G'[r]? =some (.lst fd')∧(∀d∈fd',GS (n+1) d)∧fd'.length≤1000000
 |0,ws,fd,u,G,_,_,_,hf,_,_,_=>absurd hf (Nat.not_lt_zero _)
 |fuel+1,ws,fd,u,G,hA,e,er,hf,hb,hw,hd=>by
   have bg:=big
   by_cases hne:ws= []
   · subst hne
     refine cB8.mpr<| aH1.mpr<| g8 (a:=.ref p) rfl<| (bZ8 e).mpr ?_
     rw[if_neg (by simp)]
     exact⟨u,fd,rfl,hA,er,hd,by lia⟩
   · obtain⟨t,q,rfl⟩:∃(t:List D) (q:D),ws=t++[q]:=⟨ws.dropLast,ws.getLast hne,(List.dropLast_concat_getLast hne).symm⟩
     refine cB8.mpr<| aH1.mpr<| g8 (a:=.ref p) rfl<| (bZ8 e).mpr ?_
     rw[if_pos (by simp)]
     refine m8.mpr<| aC5<| cP2.mpr<| g8 (a:=.ref p) rfl<| (aQ7 e).mpr<| t6.mpr<| (eD2 e).mpr ?_
     have e1:(G.set p (.lst t))[p]? =some (.lst t):=List.getElem?_set_self (lt_of_get e)
     have er1:(G.set p (.lst t))[r]? =some (.lst fd):=by rw[List.getElem?_set_ne hpr];exact er
     have a1:Ap G0 (G.set p (.lst t)):=hA.set hp
     have hq:=hw q (by simp)
     have hk:=hq.ksz
     have hs:szL (t++[q])=szL t+szD q:=by rw[aQ4,Q3,aB0];rfl
     rw[hs]at hf hb
     refine m8.mpr<| cN4<| W0<| m9 (as:= [q]) rfl rfl<| hq.form fun G2 a2=>⟨rfl,rfl,K1.mpr ?_⟩
     have e2:=a2.at e1
     have er2:=a2.at er1
     refine m8.mpr<| cD5.mpr<| cP2.mpr<| g8 (a:=.ref r) rfl<| (aQ7 er2).mpr<| g8 (a:= [q]) (G':=G2) rfl<| (cV1 er2 (by lia)).mpr ?_
     have e3:(G2.set r (.lst (fd++[q])))[p]? =some (.lst t):=by rw[List.getElem?_set_ne (Ne.symm hpr)];exact e2
     have er3:(G2.set r (.lst (fd++[q])))[r]? =some (.lst (fd++[q])):=List.getElem?_set_self (lt_of_get er2)
     have a3:Ap G0 (G2.set r (.lst (fd++[q]))):=(a1.trans a2).set hr
     refine cD5.mpr<| cP2.mpr<| g8 (a:=.ref p) rfl<| (aQ7 e3).mpr<| v6<| m9 (as:= [q]) rfl rfl<| eE2 hq fun p4 G4 a4 l4 e4=>t6.mpr ?_
     have e5:=a4.at e3
     have er5:=a4.at er3
     have hl1:=cH0 t
     have hl2:=cH0 (cO4 q)
     refine(bO0 e5 e4 (by lia)).mpr ?_
     refine dK2 (n:=n) hp hr hpr fuel (t++cO4 q) (fd++[q]) _ _ ((a3.trans a4).set hp) (List.getElem?_set_self (lt_of_get e5)) (by rw[List.getElem?_set_ne hpr];exact er5) (by rw[aQ4];lia) (by rw[aQ4,List.length_append,List.length_singleton];have:=cE7 q;lia) (fun d hd'=>?_) (fun d hd'=>?_)
     · rcases List.mem_append.mp hd' with hd'|hd'
       ·exact hw d (by simp[hd'])
       ·exact(hq.kids d hd').le (Nat.le_succ _)
     · rcases List.mem_append.mp hd' with hd'|hd'
       ·exact hd d hd'
       ·rw[List.mem_singleton.mp hd'];exact hq
theorem dQ0{n:Nat}{d:D}{G:DH}{Q:DPP}(hn:n≤6)(hd:szD d≤900000)(h:GS (n+2) d)(q:∀G',Ap G G'→Q (.bl true) G'):Wp (aT1 [d]) G Q:=by
 have bg:=big
 refine J3 (show Wp (bB3 [some d,none,none,none]) G _ from ?_)
 rw[fN5]
 have hs:szL [d]=szD d:=by rw[Q3,aB0];rfl
 refine m6 (σ':= [some d,some (.ref G.length),none,none]) (G':=G++[.lst []]) rfl<| m6 (σ':= [some d,some (.ref G.length),some (.ref (G++[DO.lst []]).length),none]) (G':=G++[.lst []]++[.lst [d]]) rfl ?_
 refine m8.mpr<| dK7 (n:=szD d+1)<| (dK2 (n:=n+1) (G0:=G) (p:=(G++[DO.lst []]).length) (r:=G.length) (by simp) (Nat.le_refl _) (by simp) (szD d+1) [d] [] none _ (Ap.one.trans Ap.one) o6 (aB4 o6) (by rw[hs];lia) (by rw[hs,List.length_nil];lia) (fun x hx=>by rw[List.mem_singleton.mp hx];exact h) (fun x hx=>by cases hx)).mono ?_
 rintro _ G1 ⟨u',fd,rfl,a1,e1,h1,hl⟩
 refine J9<| bJ4 One (s:=⟨fd,ckO G.length (.lst fd)⟩) (bC5<| wp_itW.mpr<| g8 (a:=.ref G.length) rfl<| (aU5 e1).mpr ⟨rfl,rfl⟩) (by show fd.length≤_;lia) (fun G' a=>by show ckO G.length (.lst fd) G'=true;unfold ckO;rw[a.at e1];simp) ⟨_,rfl⟩ ?_ fun G2 a2=>M6 (q G2 (a1.trans a2))
 rintro x hx _ G2 ⟨u,rfl⟩ j
 exact⟨⟨_,rfl⟩,m9 (as:= [x]) rfl rfl<| fE6 hn (h1 x hx) fun G3 a3=>⟨rfl,a3⟩⟩
def VT:Nat→D→Prop
 |0,_=>False
 |n+1,d=>(∃i:Int,d= .int i∧ -1000000000000000000≤i∧i≤1000000000000000000)∨(∃k,d= .bl k)∨(∃z:Str,d= .str z∧TX z)∨(∃l,d= .tup [.str K9,.tup l]∧l.length≤8∧∀x∈l,VT n x)∨
    ∃ps:List (Str×D),d= .tup [.str T4,.tup (ps.map K5)]∧ps.length≤8∧(ps.map (·.1)).Pairwise LtS∧∀p∈ps,NM p.1∧VT n p.2
theorem VT.i{n:Nat}{i:Int}(h: -1000000000000000000≤i)(h':i≤1000000000000000000):VT (n+1) (.int i):=.inl ⟨i,rfl,h,h'⟩
theorem VT.bl{n:Nat}{i:Bool}:VT (n+1) (.bl i):=.inr (.inl ⟨i,rfl⟩)
theorem VT.s{n:Nat}{z:Str}(h:TX z):VT (n+1) (.str z):=.inr (.inr (.inl ⟨z,rfl,h⟩))
theorem VT.l{n:Nat}{l:List D}(h0:l.length≤8)(h:∀x∈l,VT n x):VT (n+1) (.tup [.str K9,.tup l]):=.inr (.inr (.inr (.inl ⟨l,rfl,h0,h⟩)))
theorem VT.r{n:Nat}{ps:List (Str×D)}(h0:ps.length≤8)(hn:(ps.map (·.1)).Pairwise LtS)(h:∀p∈ps,NM p.1∧VT n p.2):VT (n+1) (.tup [.str T4,.tup (ps.map K5)]):=.inr (.inr (.inr (.inr ⟨ps,rfl,h0,hn,h⟩)))
theorem VT.vw:∀ {n:Nat} {d:D},VT n d→VW 8 n d
 |0,_,h=>h.elim
 |n+1,d,h=>by
   rcases h with⟨i,e,_⟩|h|⟨z,e,h⟩|⟨l,e,h0,h⟩|⟨ps,e,h0,hn,h⟩
   ·exact .inl ⟨i,e⟩
   ·exact .inr (.inl h)
   ·exact .inr (.inr (.inl ⟨z,e,by have:=h.2;lia⟩))
   ·exact .inr (.inr (.inr (.inl ⟨l,e,h0,fun x hx=>(h x hx).vw⟩)))
   ·exact .inr (.inr (.inr (.inr ⟨ps,e,h0,hn,fun p hp=>⟨by have:=(h p hp).1.1.2;lia,(h p hp).2.vw⟩⟩)))
theorem VW.i{b n:Nat}{i:Int}:VW b (n+1) (.int i):=.inl ⟨i,rfl⟩
theorem VW.bl{b n:Nat}{i:Bool}:VW b (n+1) (.bl i):=.inr (.inl ⟨i,rfl⟩)
theorem VW.s{b n:Nat}{z:Str}(h:z.length≤1000+b):VW b (n+1) (.str z):=.inr (.inr (.inl ⟨z,rfl,h⟩))
theorem VW.l{b n:Nat}{l:List D}(h0:l.length≤b)(h:∀x∈l,VW b n x):VW b (n+1) (.tup [.str K9,.tup l]):=.inr (.inr (.inr (.inl ⟨l,rfl,h0,h⟩)))
theorem VW.r{b n:Nat}{ps:List (Str×D)}(h0:ps.length≤b)(hn:(ps.map (·.1)).Pairwise LtS)(h:∀p∈ps,p.1.length≤1000∧VW b n p.2):VW b (n+1) (.tup [.str T4,.tup (ps.map K5)]):=.inr (.inr (.inr (.inr ⟨ps,rfl,h0,hn,h⟩)))
theorem VW.le{b c:Nat}(hb:b≤c):∀ {n m:Nat} {d:D},n≤m→VW b n d→VW c m d
 |0,_,_,_,h=>h.elim
 |n+1,0,_,hm,_=>absurd hm (by omega)
 |n+1,m+1,d,hm,h=>by
   rcases h with⟨i,rfl⟩|⟨k,rfl⟩|⟨z,rfl,hz⟩|⟨l,rfl,hl,h⟩|⟨ps,rfl,hl,hn,h⟩
   ·exact VW.i
   ·exact VW.bl
   ·exact VW.s (by omega)
   ·exact VW.l (by omega) fun x hx=>VW.le hb (by omega) (h x hx)
   ·exact VW.r (by omega) hn fun p hp=>⟨(h p hp).1,VW.le hb (by omega) (h p hp).2⟩
theorem cP4{g:Fg}{t:DSt→M Bool}{e:Fe}{ck:DH→Bool}(J:DH→Prop)(S:DSt→Prop)(R:D→D→Prop)(hck:∀G,J G→ck G=true):∀(items:List D) (σ:DSt) (G:DH),S σ→J G→
 (∀d∈items,∀ σ G,S σ→J G→Wp (g d σ) G fun σ1 G1=>G1=G∧S σ1∧Wp (t σ1) G fun b G2=>b=true∧G2=G∧Wp (e σ1) G fun y G3=>J G3∧R d y)→
 Wp (P0 g t e ck items σ) G fun ys G'=>J G'∧aZ7 R items ys
 |[],σ,G,s,j,_=>by
   rw[bE2]
   exact⟨hck G j,j,trivial⟩
 |d::r,σ,G,s,j,step=>by
   rw[bC4]
   refine⟨hck G j,Wp.mono (step d (by simp) σ G s j) fun σ1 G1 ⟨e1,s1,w1⟩=>?_⟩
   subst e1
   refine Wp.mono w1 fun b G2 ⟨eb,e2,w2⟩=>?_
   subst eb e2
   rw[if_pos rfl]
   refine Wp.mono w2 fun y G3 ⟨j3,py⟩=>?_
   exact Wp.mono (cP4 J S R hck r σ1 G3 s1 j3 fun d hd=>step d (by simp[hd])) fun ys G4 ⟨j4,l4⟩=>⟨j4,py,l4⟩
theorem dA5{P:D→Prop}:∀ {ss:List Str} {ys:List D},aZ7 (fun d y=>∃z v,d=D.str z∧y= .tup [.str z,v]∧P v) (ss.map D.str) ys→∃ps:List (Str×D),ys=ps.map K5∧ps.map (·.1)=ss∧∀p∈ps,P p.2
 |[], [],_=>⟨[],rfl,rfl,fun p hp=>by cases hp⟩
 |[],_::_,h=>h.elim
 |_::_, [],h=>h.elim
 |z::r,y::t,h=>by
   obtain⟨⟨z',v,e,ey,pv⟩,ht⟩:=h
   cases e
   obtain⟨ps,e1,e2,e3⟩:=dA5 ht
   refine⟨(z,v)::ps,by rw[ey,e1];rfl,by rw[List.map_cons,e2],fun p hp=>?_⟩
   rcases List.mem_cons.mp hp with rfl|hp
   ·exact pv
   ·exact e3 p hp
theorem cX8{k:Int}{l:List D}{G:DH}(h:l.all Z2=true):∃b,inB (.int k) (.tup l) G=some b:=by
 refine⟨inV (toV (.int k)) (l.map toV),?_⟩
 show (if Z2 (.int k)&&l.all Z2 then some (inV (toV (.int k)) (l.map toV))else none)=_
 rw[h]
 rfl
theorem fI0(R:List D→M D):∃c:Int,aC8 R=o4 (N7 (q12 (fnX 2 j8) (q10 (c7 0) (q10 (cE (.int 8)) (q11)))) (q13 2)) (o4 (N7 (d7 V7 (d7 ixD (c7 0) (cE (.int 3))) (cE (.int 1))) (bO7 (c7 0) (cE (.int 3)))) (o4 (ifS (aH4 (J2 (d7 gtD (c7 2) (cE (.int 5)))) (aH4 (J2 (d7 gtD (c7 1) (cE (.int 1)))) (J2 (d7 ltD (d7 ixD (c7 0) (cE (.int 3))) (cE (.int c)))))) (VA R) (t7)) VC)):=⟨_,rfl⟩
theorem fD1{r:Nat}{deep kind:Int}{u:Option D}{n:Nat}{G:DH}(h:V6 G r):Wp (VC [some (.ref r),some (.int deep),some (.int kind),u]) G fun fl G'=>∃d,fl= .rt d∧VT (n+1) d∧Fr r G G':=by
 obtain⟨b1,e1⟩:=cX8 (k:=kind) (l:= [.int 0,.int 3,.int 6]) (G:=G) rfl
 obtain⟨b2,e2⟩:=cX8 (k:=kind) (l:= [.int 1,.int 4,.int 7]) (G:=G) rfl
 refine m8.mpr<| aH2<| R8<| X3 (x:=.int kind) (y:=.tup [.int 0,.int 3,.int 6]) rfl rfl<| cZ0.mpr ⟨b1,e1,_,rfl,fun _=>?_,fun _=>K1.mpr ?_⟩
 ·exact J9<| m9 (as:= [.ref r]) rfl rfl<| cN5 h fun k _ _ G1 f1=>⟨_,rfl,VT.i (by lia) (by lia),f1⟩
 refine m8.mpr<| aH2<| R8<| X3 (x:=.int kind) (y:=.tup [.int 1,.int 4,.int 7]) rfl rfl<| cZ0.mpr ⟨b2,e2,_,rfl,fun _=>?_,fun _=>K1.mpr ?_⟩
 · refine J9<| m9 (as:= [.ref r]) rfl rfl<| (eA1 h).mono ?_
   rintro _ G1 ⟨z,rfl,hz,f1⟩
   exact⟨_,rfl,VT.s hz,f1⟩
 · refine J9<| cB6 rfl (by decide) (by decide)<| g8 (a:= [.bl false,.bl true]) (G':=G) rfl ⟨sz,h,rfl,fun d hd G1 f1=>?_⟩
   simp only[List.mem_cons,List.not_mem_nil,or_false]at hd
   rcases hd with rfl|rfl<;>exact⟨_,rfl,VT.bl,f1⟩
theorem fA6{R:List D→M D}{r k:Nat}{deep kind:Int}{u:Option D}{G:DH}(h:V6 G r)(hR:∀G1,V6 G1 r→Wp (R [.ref r,.int (deep-1)]) G1 fun x G2=>VT k x∧Fr r G1 G2):
 Wp (VA R [some (.ref r),some (.int deep),some (.int kind),u]) G fun fl G'=>∃d,fl= .rt d∧VT (k+1) d∧Fr r G G':=by
 have bg:=big
 refine m8.mpr<| aH2<| R8<| X3 (x:=.int kind) (y:=.int 6) rfl rfl<| bG8.mpr ⟨_,rfl,fun _=>?_,fun _=>K1.mpr ?_⟩
 · refine m8.mpr<| aC5<| R6<| M9 (x:=.ref r) rfl<| v6<| cB6 rfl (by decide) (by decide)<| g8 (a:= [.int 4,.int 9]) (G':=G) rfl ⟨sz,h,rfl,fun d hd G1 f1=>?_⟩
   have hd':∃i:Int,d= .int i∧0<i∧i≤9:=by
    simp only[List.mem_cons,List.not_mem_nil,or_false]at hd
    rcases hd with rfl|rfl
    ·exact⟨4,rfl,by decide,by decide⟩
    ·exact⟨9,rfl,by decide,by decide⟩
   obtain⟨i,rfl,hi1,hi2⟩:=hd'
   refine t6.mpr<| Z6.mpr ⟨rfl,aD1 f1.2.2 ⟨hi1,by omega⟩ fun m hm0 hm1 G2 f2=>?_⟩
   refine J9<| W2.mpr<| M9 (x:=.str K9) rfl<| v6<| R6<| v6<| dR4 (j:=m) rfl hm0 (by omega) ?_
   refine(bZ0 (Fr r G) (fun σ=>∃w,σ= [w,some (.int deep),some (.ref r)]) (fun y=>VT k y) (fun _ _=>rfl) (N8 0 m.toNat) _ G2 ⟨none,rfl⟩ (f1.trans f2) fun x hx σ G3 hσ f3=>?_).mono fun ys G3 z=>?_
   · obtain⟨w,rfl⟩:=hσ
     exact aW5 ⟨_,rfl⟩<| m9 (as:= [.ref r,.int (deep-1)]) rfl rfl<| (hR G3 f3.2.2).mono fun y G4 q=>⟨f3.trans q.2,q.1⟩
   · have hm:ys.length≤8:=by rw[z.2.1];unfold N8;rw[List.length_map,List.length_range];omega
     exact t6.mpr<| (aC4 o6).mpr<| t6.mpr ⟨sz,_,rfl,VT.l hm z.2.2,z.1.trans (Fr.app z.1.2.2)⟩
 · refine J9<| W2.mpr<| M9 (x:=.str T4) rfl<| v6<| R6<| v6<| wp_comp.mpr<| wp_itW.mpr<| m9 (as:= [.ref r]) rfl rfl<| (dT9 h).mono ?_
   rintro _ G1 ⟨q,ss,rfl,hq,eq,hl8,hz,hp2,f1⟩
   refine(aU5 eq).mpr ⟨by show (ss.map D.str).length≤_;rw[List.length_map];omega,?_⟩
   refine(cP4 (fun G'=>Fr r G G'∧G'[q]? =some (.lst (ss.map D.str))) (fun σ=>∃w,σ= [w,some (.int deep),some (.ref r)]) (fun d y=>∃z v,d=D.str z∧y= .tup [.str z,v]∧VT k v) (fun G' j=>by simp[ckO,j.2]) (ss.map D.str) _ G1 ⟨none,rfl⟩ ⟨f1,eq⟩ fun x hx σ G3 hσ j=>?_).mono fun ys G3 j3=>?_
   · obtain⟨w,rfl⟩:=hσ
     obtain⟨z,hzm,rfl⟩:=List.mem_map.mp hx
     exact aW5 ⟨_,rfl⟩<| W2.mpr<| M9 (x:=.str z) rfl<| v6<| m9 (as:= [.ref r,.int (deep-1)]) rfl rfl<| (hR G3 j.1.2.2).mono fun y G4 q=>t6.mpr ⟨sz,⟨j.1.trans q.2,q.2.at hq j.2⟩,z,y,rfl,rfl,q.1⟩
   · obtain⟨ps,rfl,e2,e3⟩:=dA5 j3.2
     have hps:ps.length=ss.length:=by rw[←e2,List.length_map]
     exact t6.mpr<| (aC4 o6).mpr<| t6.mpr ⟨sz,_,rfl,VT.r (by omega) (by rw[e2];exact hp2) fun p hp=>⟨hz.1 p.1 (by rw[←e2];exact List.mem_map.mpr ⟨p,hp,rfl⟩),e3 p hp⟩,j3.1.1.trans (Fr.app j3.1.1.2.2)⟩
theorem cK2{r:Nat}:∀(n k:Nat) (deep:Int) (G:DH),V6 G r→deep≤k→1≤k→k≤n→Wp (W6 n [.ref r,.int deep]) G fun x G'=>VT k x∧Fr r G G'
 |0,k,deep,G,h,h1,h2,h3=>by omega
 |n+1,0,deep,G,h,h1,h2,h3=>by omega
 |n+1,k+1,deep,G,h,h1,h2,h3=>by
   show Wp (t8 4 (aC8 (W6 n)) [.ref r,.int deep]) G _
   obtain⟨c,e⟩:=fI0 (W6 n)
   rw[e]
   refine J3 (show Wp (o4 _ _ [some (.ref r),some (.int deep),none,none]) G _ from ?_)
   refine m8.mpr<| aC5<| m9 (as:= [.ref r,.int 8]) rfl rfl<| aD1 h ⟨by decide,by decide⟩ fun kind hk0 hk1 G1 f1=>?_
   have hlt:=f1.lt
   obtain⟨a,b,cc,ee,hr,hb1,hb2⟩:=id f1.2.2
   refine m8.mpr<| aS4.mpr<| bin_w<| ixv (G1:=G1) rfl rfl hr rfl<| g8 (a:=.int 1) rfl<| aP0.mpr<| eB3 (k:=3) rfl rfl hr rfl ?_
   have hr2:(G1.set r (.lst [.int a,.int b,.int cc,.int (ee+1)]))[r]? =some (.lst [.int a,.int b,.int cc,.int (ee+1)]):=List.getElem?_set_self hlt
   have h2':V6 (G1.set r (.lst [.int a,.int b,.int cc,.int (ee+1)])) r:=⟨_,_,_,_,hr2,hb1,hb2⟩
   have f2:=f1.trans (Fr.set h2')
   show Wp (o4 _ _ [some (.ref r),some (.int deep),some (.int kind),none]) (G1.set r (.lst [.int a,.int b,.int cc,.int (ee+1)])) _
   generalize (G1.set r (.lst [.int a,.int b,.int cc,.int (ee+1)]))=G2 at hr2 h2' f2 ⊢
   have leaf:Wp (VC [some (.ref r),some (.int deep),some (.int kind),none]) G2 (PB fun x G'=>VT (k+1) x∧Fr r G G'):=(fD1 (n:=k) h2').mono fun fl G3 z=>by
    obtain⟨d,rfl,q1,f3⟩:=z
    exact⟨q1,f2.trans f3⟩
   refine m8.mpr<| aH2<| bX3<| R8<| X3 (x:=.int kind) (y:=.int 5) rfl rfl<| dS6.mpr ⟨_,rfl,fun _=>?_,fun _=>⟨fun z=>(nomatch z),fun _=>K1.mpr leaf⟩⟩
   refine bX3<| R8<| X3 (x:=.int deep) (y:=.int 1) rfl rfl<| dS6.mpr ⟨_,rfl,fun g1=>?_,fun _=>⟨fun z=>(nomatch z),fun _=>K1.mpr leaf⟩⟩
   have g1:1<deep:=of_decide_eq_true g1
   refine R8<| bin_w<| ixv (G1:=G2) rfl rfl hr2 rfl<| g8 (a:=.int c) rfl<| cI6.mpr ⟨_,rfl,fun _=>?_,fun _=>K1.mpr leaf⟩
   refine(fA6 (R:=W6 n) (k:=k) h2' fun G3 h3'=>cK2 n k (deep-1) G3 h3' (by omega) (by omega) (by omega)).mono fun fl G3 z=>?_
   obtain⟨d,rfl,q1,f3⟩:=z
   exact⟨q1,f2.trans f3⟩
theorem fI7(R:List D→M D):aG7 R=o4 (ifS NT (NA R) (t7)) NL:=rfl
theorem VW.pos{b n:Nat}{d:D}(h:VW b n d):0<n:=by
 cases n with
 |zero=>exact h.elim
 |succ n=>omega
theorem cN8{ps:List (Str×D)}{lo hi:Option Int}:∃ps':List (Str×D),DL.cutD (ps.map K5) lo hi=ps'.map K5∧ps'.Sublist ps:=by
 unfold DL.cutD
 rw[←List.map_drop,←List.map_take]
 exact⟨_,rfl,(List.take_sublist _ _).trans (List.drop_sublist _ _)⟩
theorem cX6{l:List D}{lo hi:Option Int}:(DL.cutD l lo hi).length≤l.length:=((List.take_sublist _ _).trans (List.drop_sublist _ _)).length_le
theorem VW.sub{b n:Nat}{ps ps':List (Str×D)}(h0:ps.length≤b)(hn:(ps.map (·.1)).Pairwise LtS)(h:∀p∈ps,p.1.length≤1000∧VW b n p.2)(hs:ps'.Sublist ps):VW (b+1) (n+2) (.tup [.str T4,.tup (ps'.map K5)]):=
 VW.r (by have:=hs.length_le;omega) (hn.sublist (hs.map _)) fun p hp=>⟨(h p (hs.subset hp)).1,VW.le (by omega) (by omega) (h p (hs.subset hp)).2⟩
section
variable{b k:Nat}{kind:Int}{u0 u2 u3:Option D}{G:DH}
theorem dT5{x:D}(hx:VW b (k+1) x):VW (b+1) (k+1+1) (.tup [.str K9,.tup [x]]):=VW.l (by simp) fun y hy=>by
 rw[List.mem_singleton]at hy
 subst hy
 exact VW.le (by omega) (by omega) hx
theorem fH1{i:Int}(hk0:0≤kind)(hk1:kind<6):Wp (EI [u0,some (.int i),u2,u3,some (.int kind)]) G fun d G'=>VW (b+1) (k+1+1) d∧Ap G G':=by
 refine bin_w<| g8 (a:=.ref G.length) (G':=G++[.lst [.int (0-i),.int (i+1),.int i,.int (i-1),.bl (decide (i=1)),.tup [.str K9,.tup [.int i]]]]) rfl<| g8 (a:=.int kind) rfl<| bB4 hk0 (by exact hk1) fun d hd=>⟨?_,Ap.one⟩
 simp only[List.mem_cons,List.not_mem_nil,or_false]at hd
 rcases hd with rfl|rfl|rfl|rfl|rfl|rfl
 all_goals first
  |exact VW.i
  |exact VW.bl
  |exact dT5 VW.i
theorem fC7{t:Bool}(hk0:0≤kind)(hk1:kind<6):Wp (EB [u0,some (.bl t),u2,u3,some (.int kind)]) G fun d G'=>VW (b+1) (k+1+1) d∧Ap G G':=by
 unfold EB
 simp only[aI6,aM1,W2,aF5,cG0,X7,t6,cN0,aB6,List.getElem?_cons_zero,List.getElem?_cons_succ,Option.some.injEq,exists_eq_left',eS1,cN2]
 refine⟨sz,sz,sz,bB4 hk0 (by exact hk1) fun d hd=>⟨?_,Ap.one⟩⟩
 simp only[List.mem_cons,List.not_mem_nil,or_false]at hd
 rcases hd with rfl|rfl|rfl|rfl|rfl|rfl
 all_goals first
  |exact VW.i
  |exact VW.bl
  |exact dT5 VW.bl
  |exact VW.s (Nat.le_trans (show _≤1000 by decide) (by omega))
theorem fD8{z:Str}(hz:z.length≤1000+b)(hb:b≤800)(hk0:0≤kind)(hk1:kind<6):Wp (ES [u0,some (.str z),u2,u3,some (.int kind)]) G fun d G'=>VW (b+1) (k+1+1) d∧Ap G G':=by
 have bg:=big
 have hr:=eD7 z
 have hsl2:=dH5 (z:=z) (lo:=some 1) (hi:=none)
 have ha1:("a" :Str).length=1:=rfl
 unfold ES
 simp only[aI6,fF7,aM1,W2,aX2,cF3,bH0,X7,t6,cN0,aB6,List.getElem?_cons_zero,List.getElem?_cons_succ,Option.some.injEq,exists_eq_left',fD4]
 rw[dV8 (by omega),cJ5 (by omega),eB7 (by omega)]
 refine⟨sz,sz,sz,sz,sz,bB4 hk0 (by exact hk1) fun d hd=>⟨?_,Ap.one⟩⟩
 simp only[List.mem_cons,List.not_mem_nil,or_false]at hd
 rcases hd with rfl|rfl|rfl|rfl|rfl|rfl
 ·exact VW.s (by omega)
 ·exact VW.s (by rw[Str.length_append];omega)
 ·exact VW.s (by omega)
 ·exact VW.s (by omega)
 ·exact VW.l (by simp) fun x hx=>(by cases hx)
 ·exact VW.r (ps:= []) (by simp) .nil fun x hx=>(by cases hx)
theorem fH2{l:List D}(hll:l.length≤b)(hl:∀x∈l,VW b k x)(hb:b≤800)(hk0:0≤kind)(hk1:kind<6):Wp (EL [u0,some (.tup [.str K9,.tup l]),u2,u3,some (.int kind)]) G fun d G'=>VW (b+1) (k+1+1) d∧Ap G G':=by
 have bg:=big
 refine W2.mpr<| M9 (x:=.str K9) rfl<| v6<| bin_w<| aM1.mpr<| M9 (x:=.tup l.reverse) rfl<| v6<| X3 (x:=.tup l) (y:=.tup [.int 0]) rfl rfl<| (bE8 (by simp only[List.length_cons,List.length_nil];omega)).mpr<| g8 (a:= [.tup l,.tup (DL.cutD l (some 1) none),.tup (DL.cutD l none (some (-1))),.tup []]) (G':=G) rfl ⟨sz,g8 (a:=.int kind) rfl<| bB4 hk0 (by exact hk1) fun d hd=>t6.mpr ⟨sz,?_,Ap.one⟩⟩
 have good:∀l':List D,(∀x∈l',x∈l∨x= .int 0)→l'.length≤l.length+1→VW (b+1) (k+1+1) (.tup [.str K9,.tup l']):=fun l' hm hz=>VW.l (by omega) fun x hx=>by
  rcases hm x hx with hx|rfl
  ·exact VW.le (by omega) (by omega) (hl x hx)
  ·exact VW.i
 simp only[List.mem_cons,List.not_mem_nil,or_false]at hd
 rcases hd with rfl|rfl|rfl|rfl|rfl|rfl
 ·exact good _ (fun x hx=>.inl (List.mem_reverse.mp hx)) (by rw[List.length_reverse];omega)
 · refine good _ (fun x hx=>?_) (by simp)
   rcases List.mem_append.mp hx with hx|hx
   ·exact .inl hx
   ·exact .inr (by simpa using hx)
 ·exact good _ (fun x hx=>.inl hx) (by omega)
 ·exact good _ (fun x hx=>.inl (cY6 hx)) (by have:=cX6 (l:=l) (lo:=some 1) (hi:=none);omega)
 ·exact good _ (fun x hx=>.inl (cY6 hx)) (by have:=cX6 (l:=l) (lo:=none) (hi:=some (-1));omega)
 ·exact good _ (fun x hx=>by cases hx) (by simp)
theorem fI3{ps:List (Str×D)}(hll:ps.length≤b)(hn:(ps.map (·.1)).Pairwise LtS)(hl:∀p∈ps,p.1.length≤1000∧VW b k p.2)(hk0:0≤kind)(hk1:kind<6):Wp (ER [u0,some (.tup [.str T4,.tup (ps.map K5)]),u2,u3,some (.int kind)]) G fun d G'=>VW (b+1) (k+1+1) d∧Ap G G':=by
 refine bin_w<| g8 (a:=.ref G.length) (G':=G++[.lst [.tup [.str T4,.tup (DL.cutD (ps.map K5) (some 1) none)],.tup [.str T4,.tup (DL.cutD (ps.map K5) none (some (-1)))],.tup [.str T4,.tup (ps.map K5)],.tup [.str K9,.tup []],.tup [.str T4,.tup []],.int 0]]) rfl<| g8 (a:=.int kind) rfl<| bB4 hk0 (by exact hk1) fun d hd=>⟨?_,Ap.one⟩
 obtain⟨p1,e1,s1⟩:=cN8 (ps:=ps) (lo:=some 1) (hi:=none)
 obtain⟨p2,e2,s2⟩:=cN8 (ps:=ps) (lo:=none) (hi:=some (-1))
 rw[e1,e2]at hd
 simp only[List.mem_cons,List.not_mem_nil,or_false]at hd
 rcases hd with rfl|rfl|rfl|rfl|rfl|rfl
 ·exact VW.sub hll hn hl s1
 ·exact VW.sub hll hn hl s2
 ·exact VW.sub hll hn hl (List.Sublist.refl _)
 ·exact VW.l (by simp) fun x hx=>(by cases hx)
 ·exact VW.r (ps:= []) (by simp) .nil fun x hx=>(by cases hx)
 ·exact VW.i
end
theorem fA5{r b k:Nat}{value:D}{u3 u4 u5:Option D}{G:DH}(h:V6 G r)(hv:VW b k value)(hb:b≤800):
 Wp (NL [some (.ref r),some value,u3,u4,u5]) G fun fl G'=>∃d,fl= .rt d∧VW (b+1) (k+1) d∧Fr r G G':=by
 obtain⟨k,rfl⟩:∃k',k=k'+1:=⟨k-1,by have:=hv.pos;omega⟩
 refine m8.mpr<| aC5<| m9 (as:= [.ref r,.int 6]) rfl rfl<| aD1 h ⟨by decide,by decide⟩ fun kind hk0 hk1 G1 f1=>?_
 show Wp (o4 _ _ [some (.ref r),some value,u3,u4,some (.int kind)]) G1 _
 have fin:∀ {e:Fe} {P:Fl→DH→Prop},(∀d G',VW (b+1) (k+1+1) d→Fr r G G'→P (.rt d) G')→Wp (e [some (.ref r),some value,u3,u4,some (.int kind)]) G1 (fun d G'=>VW (b+1) (k+1+1) d∧Ap G1 G')→Wp (o7 e [some (.ref r),some value,u3,u4,some (.int kind)]) G1 P:=fun p w=>
  J9 (w.mono fun d G' z=>p d G' z.1 (by obtain⟨t,rfl⟩:=z.2;exact f1.trans (Fr.app f1.2.2)))
 rcases hv with⟨i,rfl⟩|⟨t,rfl⟩|⟨z,rfl,hz⟩|⟨l,rfl,hll,hl⟩|⟨ps,rfl,hll,hn,hl⟩
 ·exact m6 rfl<| m8.mpr<| bE0 (G1:=G1) rfl<| fin (fun d G' q f=>⟨d,rfl,q,f⟩) (fH1 hk0 hk1)
 ·exact m8.mpr<| bE0 (G1:=G1) rfl<| fin (fun d G' q f=>⟨d,rfl,q,f⟩) (fC7 hk0 hk1)
 ·exact m6 rfl<| m6 rfl<| m8.mpr<| bE0 (G1:=G1) rfl<| fin (fun d G' q f=>⟨d,rfl,q,f⟩) (fD8 hz hb hk0 hk1)
 ·exact m6 rfl<| m6 rfl<| m6 rfl<| m8.mpr<| bE0 (G1:=G1) rfl<| fin (fun d G' q f=>⟨d,rfl,q,f⟩) (fH2 hll hl hb hk0 hk1)
 ·exact m6 rfl<| m6 rfl<| m6 rfl<| m6 rfl<| fin (fun d G' q f=>⟨d,rfl,q,f⟩) (fI3 hll hn hl hk0 hk1)
theorem dG9{b k:Nat}{l:List D}{i:Nat}{x:D}(hi:i<l.length)(hll:l.length≤b)(hv:∀y∈l,VW b k y)(hx:VW (b+1) (k+1) x):VW (b+1) (k+1+1) (.tup [.str K9,.tup (l.take i++[x]++l.drop (i+1))]):=by
 refine VW.l (by simp;omega) fun y hy=>?_
 rcases List.mem_append.mp hy with hy|hy
 · rcases List.mem_append.mp hy with hy|hy
   ·exact VW.le (by omega) (by omega) (hv y (List.mem_of_mem_take hy))
   · rw[List.mem_singleton]at hy
     subst hy
     exact hx
 ·exact VW.le (by omega) (by omega) (hv y (List.mem_of_mem_drop hy))
theorem dO5{b k:Nat}{ps:List (Str×D)}{i:Nat}{x:D}(hi:i<ps.length)(hll:ps.length≤b)(hn:(ps.map (·.1)).Pairwise LtS)(hv:∀p∈ps,p.1.length≤1000∧VW b k p.2)(hx:VW (b+1) (k+1) x):VW (b+1) (k+1+1) (.tup [.str T4,.tup ((ps.map K5).take i++[.tup [.str ps[i].1,x]]++(ps.map K5).drop (i+1))]):=by
 have e:(ps.map K5).take i++[.tup [.str ps[i].1,x]]++(ps.map K5).drop (i+1)= (ps.take i++[(ps[i].1,x)]++ps.drop (i+1)).map K5:=by
  rw[List.map_append,List.map_append,List.map_take,List.map_drop];rfl
 have en:(ps.take i++[(ps[i].1,x)]++ps.drop (i+1)).map (·.1)=ps.map (·.1):=by
  have e1:ps.map (·.1)= (ps.take i++ps[i]::ps.drop (i+1)).map (·.1):=by rw[←List.drop_eq_getElem_cons hi,List.take_append_drop]
  rw[e1,List.map_append,List.map_append,List.map_append,List.append_assoc];rfl
 rw[e]
 refine VW.r (by simp;omega) (by rw[en];exact hn) fun p hp=>?_
 have old:∀p∈ps,p.1.length≤1000∧VW (b+1) (k+1) p.2:=fun p hp=>⟨(hv p hp).1,VW.le (by omega) (by omega) (hv p hp).2⟩
 rcases List.mem_append.mp hp with hp|hp
 · rcases List.mem_append.mp hp with hp|hp
   ·exact old p (List.mem_of_mem_take hp)
   · rw[List.mem_singleton]at hp
     subst hp
     exact⟨(hv _ (List.getElem_mem hi)).1,hx⟩
 ·exact old p (List.mem_of_mem_drop hp)
def Shp(b k:Nat)(value:D):Prop:=(∃l,value= .tup [.str K9,.tup l]∧l≠ []∧l.length≤b∧∀x∈l,VW b k x)∨∃ps:List (Str×D),value= .tup [.str T4,.tup (ps.map K5)]∧ps≠ []∧ps.length≤b∧(ps.map (·.1)).Pairwise LtS∧∀p∈ps,p.1.length≤1000∧VW b k p.2
theorem eW0{r i:Nat}{w:Str}{l:List D}{x:D}{u5:Option D}{G:DH}{P:Fl→DH→Prop}(hi:i<l.length)(hl:l.length≤900)(q:P (.rt (.tup [.str w,.tup (l.take i++[x]++l.drop (i+1))])) G):Wp (NA4 [some (.ref r),some (.tup [.str w,.tup l]),some (.int i),some x,u5]) G P:=by
 have bg:=big
 unfold NA4
 have hadd:((i:Int)+1)= ((i+1:Nat):Int):=rfl
 simp only[bA3,aI6,W2,aX2,bH0,cF3,X7,t6,cN0,aB6,List.getElem?_cons_zero,List.getElem?_cons_succ,Option.some.injEq,exists_eq_left',ix_tup,at0,at1,fD4,eH8,aP0,hadd,cP0,dV9]
 refine⟨sz,(bE8 ?_).mpr ((bE8 ?_).mpr ⟨sz,q⟩)⟩
 ·rw[List.length_take];simp only[List.length_cons,List.length_nil];omega
 ·rw[List.length_append,List.length_drop,List.length_take];simp only[List.length_cons,List.length_nil];omega
theorem dY9{R:List D→M D}{r i:Nat}{p1:Str}{p2:D}{l:List D}{u5:Option D}{G:DH}{A:DPP}(w:Wp (R [.ref r,p2]) G A):Wp (NA3 R [some (.ref r),some (.tup [.str T4,.tup l]),some (.int i),some (.tup [.str p1,p2]),u5]) G fun fl G1=>∃x,fl= .nx [some (.ref r),some (.tup [.str T4,.tup l]),some (.int i),some x,u5]∧∃x',x= .tup [.str p1,x']∧A x' G1:=by
 unfold NA3
 simp only[bY1,bM1,aS4,U0,aI6,W2,aF5,X7,t6,cN0,aB6,Z6,List.getElem?_cons_zero,List.getElem?_cons_succ,List.set_cons_succ,List.set_cons_zero,Option.some.injEq,exists_eq_left',ix_tup,at0,at1,cE2,cN2,show (T4==("record" :Str))=true from by decide,if_true]
 exact⟨rfl,w.mono fun x G1 a=>⟨sz,_,rfl,x,rfl,a⟩⟩
theorem dK8{R:List D→M D}{r i:Nat}{w:Str}{l:List D}{y:D}{u4 u5:Option D}{G:DH}{P:Fl→DH→Prop}{A:DPP}(ei:l[i]? =some y)(hl:l.length≤900)(w3:Wp (NA3 R [some (.ref r),some (.tup [.str w,.tup l]),some (.int i),some y,u5]) G fun fl G1=>∃x,fl= .nx [some (.ref r),some (.tup [.str w,.tup l]),some (.int i),some x,u5]∧A x G1)
 (q:∀x G1,A x G1→P (.rt (.tup [.str w,.tup (l.take i++[x]++l.drop (i+1))])) G1):Wp (NA2 R [some (.ref r),some (.tup [.str w,.tup l]),some (.int i),u4,u5]) G P:=by
 have hi:i<l.length:=(List.getElem?_eq_some_iff.mp ei).1
 refine cS9 (m:=ixD (.tup l) (.int i)) (fun d=> [some (.ref r),some (.tup [.str w,.tup l]),some (.int i),some d,u5]) rfl (ix_tup.mpr ⟨_,atI_nat ei,eJ1 w3 ?_⟩)
 rintro fl G1 ⟨x,rfl,a⟩
 exact eW0 hi hl (q x G1 a)
theorem fG3{R:List D→M D}{r b k:Nat}{value:D}{u3 u4 u5:Option D}{G:DH}(h:V6 G r)(hb:b≤800)
 (hR:∀v G1,V6 G1 r→VW b k v→Wp (R [.ref r,v]) G1 fun x G2=>VW (b+1) (k+1) x∧Fr r G1 G2) (hv:Shp b k value):
 Wp (NA R [some (.ref r),some value,u3,u4,u5]) G fun fl G'=>∃d,fl= .rt d∧VW (b+1) (k+1+1) d∧Fr r G G':=by
 rcases hv with⟨l,rfl,hne,hll,hl⟩|⟨ps,rfl,hne,hll,hn,hl⟩
 · have hpos:0<l.length:=List.length_pos_iff.mpr hne
   refine cS9 (m:=noX (j8 [.ref r,.int l.length])) (fun d=> [some (.ref r),some (.tup [.str K9,.tup l]),some d,u4,u5]) rfl (cF4 (aD1 h ⟨by omega,by omega⟩ fun at' ha0 ha1 G2 f2=>?_))
   obtain⟨i,rfl⟩:=Int.eq_ofNat_of_zero_le ha0
   have hi:i<l.length:=by omega
   refine dK8 (A:=fun x G1=>VW (b+1) (k+1) x∧Fr r G2 G1) (List.getElem?_eq_getElem hi) (by omega) ?_ fun x G1 q=>⟨_,rfl,dG9 hi hll hl q.1,f2.trans q.2⟩
   exact dK5 (m':=noX (R [.ref r,l[i]]) >>= fun d=>pure (Fl.nx [some (.ref r),some (.tup [.str K9,.tup l]),some (.int i),some d,u5])) rfl (m5.mpr (cF4 ((hR l[i] G2 f2.2.2 (hl _ (List.getElem_mem hi))).mono fun x G3 q=>j9.mpr ⟨x,rfl,q⟩)))
 · have hpos:0<ps.length:=List.length_pos_iff.mpr hne
   refine cS9 (m:=noX (j8 [.ref r,.int (ps.map K5).length])) (fun d=> [some (.ref r),some (.tup [.str T4,.tup (ps.map K5)]),some d,u4,u5]) rfl (cF4 (aD1 h (by rw[List.length_map];exact⟨by omega,by omega⟩) fun at' ha0 ha1 G2 f2=>?_))
   obtain⟨i,rfl⟩:=Int.eq_ofNat_of_zero_le ha0
   rw[List.length_map]at ha1
   have hi:i<ps.length:=by omega
   refine dK8 (y:=.tup [.str ps[i].1,ps[i].2]) (A:=fun x G1=>∃x',x= .tup [.str ps[i].1,x']∧VW (b+1) (k+1) x'∧Fr r G2 G1) (by rw[List.getElem?_map,List.getElem?_eq_getElem hi];rfl) (by rw[List.length_map];omega) ?_ ?_
   ·exact dY9 (hR ps[i].2 G2 f2.2.2 (hl _ (List.getElem_mem hi)).2)
   · rintro x G1 ⟨x',rfl,hx,f3⟩
     exact⟨_,rfl,dO5 hi hll hn hl hx,f2.trans f3⟩
theorem dC2{r b:Nat}(hb:b≤800):∀(n k:Nat) (value:D) (G:DH),V6 G r→VW b k value→k≤n→
 Wp (aC1 n [.ref r,value]) G fun x G'=>VW (b+1) (k+1) x∧Fr r G G'
 |0,k,value,G,h,hv,hk=>by have:=hv.pos;omega
 |n+1,0,value,G,h,hv,hk=>hv.elim
 |n+1,k+1,value,G,h,hv,hk=>by
   show Wp (t8 5 (aG7 (aC1 n)) [.ref r,value]) G _
   rw[fI7]
   refine J3 ?_
   have leaf:∀G1,Fr r G G1→Wp (NL [some (.ref r),some value,none,none,none]) G1 (PB fun x G'=>VW (b+1) (k+1+1) x∧Fr r G G'):=fun G1 f1=>(fA5 f1.2.2 hv hb).mono fun fl G2 z=>by
    obtain⟨d,rfl,q,f2⟩:=z
    exact⟨q,f1.trans f2⟩
   have main:Shp b k value→(∃w a l,value= .tup [.str w,.tup (a::l)])→Wp (o4 (ifS NT (NA (aC1 n)) (t7)) NL [some (.ref r),some value,none,none,none]) G (PB fun x G'=>VW (b+1) (k+1+1) x∧Fr r G G'):=by
    intro hsh hw
    refine eJ1 (A:=fun fl G1=>(fl= .nx [some (.ref r),some value,none,none,none]∧Fr r G G1)∨∃d,fl= .rt d∧VW (b+1) (k+1+1) d∧Fr r G G1) ?_ ?_
    · have e:NT [some (.ref r),some value,none,none,none] G= ((noX (j8 [.ref r,.int 4]) >>= fun x=>gtD x (.int 0)) >>= dI6) G:=by
       obtain⟨w,a,l,rfl⟩:=hw
       rfl
      refine bY1.mpr (dK5 e (m5.mpr (m5.mpr (cF4 (aD1 h ⟨by decide,by decide⟩ fun k0 _ _ G1 f1=>dS6.mpr (bM7.mpr ⟨_,rfl,?_⟩))))))
      split
      · exact(fG3 f1.2.2 hb (fun v G2 h2 hv2=>dC2 hb n k v G2 h2 hv2 (by omega)) hsh).mono fun fl G2 z=>by
         obtain⟨d,e,q,f2⟩:=z
         exact .inr ⟨d,e,q,f1.trans f2⟩
      ·exact K1.mpr (.inl ⟨rfl,f1⟩)
    · rintro fl G1 (⟨rfl,f1⟩|⟨d,rfl,q⟩)
      ·exact leaf G1 f1
      ·exact q
   rcases hv with⟨i,rfl⟩|⟨t,rfl⟩|⟨z,rfl,hz⟩|⟨l,rfl,hll,hl⟩|⟨ps,rfl,hll,hn,hl⟩
   ·exact m6 rfl (leaf G (Fr.refl h))
   ·exact m6 rfl (leaf G (Fr.refl h))
   ·exact m6 rfl (leaf G (Fr.refl h))
   · cases l with
     |nil=>exact m6 rfl (leaf G (Fr.refl h))
     |cons a l=>exact main (.inl ⟨_,rfl,by simp,hll,hl⟩) ⟨_,a,l,rfl⟩
   · cases ps with
     |nil=>exact m6 rfl (leaf G (Fr.refl h))
     |cons a l=>exact main (.inr ⟨_,rfl,by simp,hll,hn,hl⟩) ⟨_,_,_,rfl⟩
theorem dL3{α β:Type}{f:α→β}:∀ {l:List α},(l.map f).Nodup→∀a∈l,∀b∈l,f a=f b→a=b
 |[],_,a,ha,_,_,_=>nomatch ha
 |x::r,h,a,ha,b,hb,e=>by
   obtain⟨h1,h2⟩:=List.nodup_cons.mp (show (f x::r.map f).Nodup from h)
   rcases List.mem_cons.mp ha with ea|ha'
   · rcases List.mem_cons.mp hb with eb|hb'
     ·rw[ea,eb]
     ·exact absurd (List.mem_map.mpr ⟨b,hb',by rw[←e,ea]⟩) h1
   · rcases List.mem_cons.mp hb with eb|hb'
     ·exact absurd (List.mem_map.mpr ⟨a,ha',by rw[e,eb]⟩) h1
     ·exact dL3 h2 a ha' b hb' e
theorem dY1{p q:Str×D}(h:K5 p=K5 q):p=q:=by
 obtain⟨a,b⟩:=p
 obtain⟨c,d⟩:=q
 unfold K5 at h
 simp only[D.tup.injEq,List.cons.injEq,D.str.injEq,and_true]at h
 rw[h.1,h.2]
def dR5(g:D→D):D→D
 | .tup [.str nm,x]=>fdD (nm,true,g x)
 |_=>.non
def sgF:Nat→D→D
 |0,_=>.non
 |_+1,.bl k=>mkS [] wOf [] [k] .non .non
 |_+1,.int i=>mkS [(.int i,.int i)] wOf [] [] .non .non
 |_+1,.str z=>mkS [] wOf [z] [] .non .non
 |n+1,.tup [.str w,.tup l]=>if w=K9 then mkS [] wOf [] [] (.tup [.tup (l.map (sgF n)),noS]) .non else mkS [] wOf [] [] .non (.tup [.tup (l.map (dR5 (sgF n))),noS])
 |_+1,_=>.non
def Z8(n:Nat)(ps:List (Str×D)):List (Str×Bool×D):=ps.map fun p=>(p.1,true,sgF n p.2)
theorem cL1{n:Nat}{l:List D}:sgF (n+1) (.tup [.str K9,.tup l])=mkS [] wOf [] [] (.tup [.tup (l.map (sgF n)),noS]) .non:=by
 show (if K9=K9 then _ else _)=_
 exact if_pos rfl
theorem cK5{n:Nat}{ps:List (Str×D)}:sgF (n+1) (.tup [.str T4,.tup (ps.map K5)])=mkS [] wOf [] [] .non (.tup [.tup ((Z8 n ps).map fdD),noS]):=by
 show (if T4=K9 then _ else mkS [] wOf [] [] .non (.tup [.tup ((ps.map K5).map (dR5 (sgF n))),noS]))=_
 rw[if_neg (by decide),List.map_map]
 unfold Z8
 rw[List.map_map]
 rfl
theorem dV3{P:Prop}{b:Bool}(h:b=true)(e:b=false):P:=by rw[h]at e;cases e
theorem dW3{b:Nat}{w:D}:∀ {n:Nat},VW b n w→inP n w noS=false
 |0,h=>h.elim
 |n+1,h=>by
   rcases h with⟨i,rfl⟩|⟨k,rfl⟩|⟨z,rfl,_⟩|⟨l,rfl,_,_⟩|⟨ps,rfl,_,_⟩
   ·rfl
   ·rfl
   ·rfl
   ·exact aO3
   ·exact aO9
theorem dO0{f:D→D→Bool}{g:D→D}{l l':List D}(h0:∀x∈l',f x noS=false)(h1:∀y∈l,∀x∈l',f x (g y)=true↔x=y):cM0 f l' (.tup [.tup (l.map g),noS])=true↔l'=l:=by
 show (decide ((l.map g).length≤l'.length)&&(List.range l'.length).all fun k=>f (l'.getD k .non) ((l.map g++List.replicate l'.length noS).getD k .non))=true↔_
 rw[Bool.and_eq_true,decide_eq_true_eq,List.length_map,List.all_eq_true]
 have gl:∀(k:Nat) (hk:k<l.length),(l.map g++List.replicate l'.length noS).getD k .non=g l[k]:=fun k hk=>by
  rw[List.getD_eq_getElem?_getD,List.getElem?_append_left (by rw[List.length_map];exact hk),List.getElem?_map,List.getElem?_eq_getElem hk];rfl
 have gx:∀(k:Nat) (hk:k<l'.length),l'.getD k .non=l'[k]:=fun k hk=>by
  rw[List.getD_eq_getElem?_getD,List.getElem?_eq_getElem hk];rfl
 constructor
 · rintro⟨hl,ha⟩
   have el:l'.length=l.length:=by
    refine Nat.le_antisymm (Nat.le_of_not_lt fun c=>?_) hl
    have:=ha l.length (List.mem_range.mpr c)
    rw[gx _ c,List.getD_eq_getElem?_getD,List.getElem?_append_right (by rw[List.length_map];exact Nat.le_refl _),List.length_map,Nat.sub_self,List.getElem?_replicate,if_pos (by lia)]at this
    exact dV3 this (h0 _ (List.getElem_mem c))
   refine List.ext_getElem el fun k h2 h3=>?_
   have:=ha k (List.mem_range.mpr h2)
   rw[gx k h2,gl k h3]at this
   exact(h1 _ (List.getElem_mem h3) _ (List.getElem_mem h2)).mp this
 · rintro rfl
   refine⟨Nat.le_refl _,fun k hk=>?_⟩
   have hk:=List.mem_range.mp hk
   rw[gx k hk,gl k hk]
   exact(h1 _ (List.getElem_mem hk) _ (List.getElem_mem hk)).mpr rfl
theorem dV6:∀ {a b:List Str},a.Pairwise LtS→b.Pairwise LtS→(∀z,z∈a↔z∈b)→a=b
 |[], [],_,_,_=>rfl
 |[],z::_,_,_,h=>nomatch (h z).mpr (List.mem_cons_self ..)
 |z::_, [],_,_,h=>nomatch (h z).mp (List.mem_cons_self ..)
 |x::a,y::b,ha,hb,h=>by
   obtain⟨h1,ha'⟩:=List.pairwise_cons.mp ha
   obtain⟨h2,hb'⟩:=List.pairwise_cons.mp hb
   have irr:∀z,¬LtS z z:=fun z q=>List.lt_irrefl _ q
   have e:x=y:=by
    rcases List.mem_cons.mp ((h x).mp (List.mem_cons_self ..))with e|m1
    ·exact e
    · rcases List.mem_cons.mp ((h y).mpr (List.mem_cons_self ..))with e|m2
      ·exact e.symm
      ·exact absurd (List.lt_trans (h2 x m1) (h1 y m2)) (irr y)
   subst e
   have e:a=b:=dV6 ha' hb' fun z=>⟨fun m=>by
    rcases List.mem_cons.mp ((h z).mp (List.mem_cons_of_mem _ m))with e|m'
    ·subst e;exact absurd (h1 z m) (irr z)
    ·exact m',fun m=>by
    rcases List.mem_cons.mp ((h z).mpr (List.mem_cons_of_mem _ m))with e|m'
    ·subst e;exact absurd (h2 z m) (irr z)
    ·exact m'⟩
   rw[e]
theorem eJ5{α:Type}:∀ {a b:List (Str×α)},a.map (·.1)=b.map (·.1)→(b.map (·.1)).Nodup→(∀p∈a,p∈b)→a=b
 |[], [],_,_,_=>rfl
 |[],_::_,h,_,_=>by cases h
 |_::_, [],h,_,_=>by cases h
 |x::a,y::b,h,nd,hs=>by
   rw[List.map_cons,List.map_cons]at h
   injection h with h1 h2
   obtain⟨n1,n2⟩:=List.nodup_cons.mp nd
   have e:x=y:=by
    rcases List.mem_cons.mp (hs x (List.mem_cons_self ..))with e|m
    ·exact e
    ·exact absurd (show y.1∈b.map (·.1) by rw[←show x.1=y.1 from h1];exact List.mem_map.mpr ⟨x,m,rfl⟩) n1
   subst e
   rw[eJ5 h2 n2 fun p hp=>?_]
   rcases List.mem_cons.mp (hs p (List.mem_cons_of_mem _ hp))with e|m
   · subst e
     exact absurd (show p.1∈b.map (·.1) by rw[←h2];exact List.mem_map.mpr ⟨p,hp,rfl⟩) n1
   ·exact m
theorem dU2{f:D→D→Bool}{n:Nat}{ps ps':List (Str×D)}(hp:(ps.map (·.1)).Pairwise LtS)(hp':(ps'.map (·.1)).Pairwise LtS)(h0:∀p∈ps',f p.2 noS=false)(h1:∀q∈ps,∀p∈ps',f p.2 (sgF n q.2)=true↔p.2=q.2):cI5 f (ps'.map K5) (.tup [.tup ((Z8 n ps).map fdD),noS])=true↔ps'=ps:=by
 show (((Z8 n ps).map fdD).all (aY7 (ps'.map K5))&&(ps'.map K5).all (cO9 f ((Z8 n ps).map fdD) noS))=true↔_
 rw[Bool.and_eq_true,List.all_eq_true,List.all_eq_true]
 have look:∀z,aD5 ((Z8 n ps).map fdD) noS z= ((ps.find? fun p=>decide (p.1=z)).map fun p=>sgF n p.2).getD noS:=fun z=>by
  rw[bP2]
  unfold Z8
  rw[List.find?_map,Option.map_map]
  rfl
 have here:∀q∈ps,aD5 ((Z8 n ps).map fdD) noS q.1=sgF n q.2:=fun q hq=>by
  rw[look]
  have:ps.find? (fun p=>decide (p.1=q.1))=some q:=by
   rcases e:ps.find? (fun p=>decide (p.1=q.1))with _|p
   ·exact absurd (decide_eq_true rfl) (List.find?_eq_none.mp e q hq)
   · have m:=List.mem_of_find?_eq_some e
     have e2:p.1=q.1:=by simpa using List.find?_some e
     rw[e,dL3 (f:=fun p:Str×D=>p.1) (bO9 hp) p m q hq e2]
  rw[this];rfl
 have snd:∀p:Str×D,cO9 f ((Z8 n ps).map fdD) noS (K5 p)=f p.2 (aD5 ((Z8 n ps).map fdD) noS p.1):=fun p=>rfl
 constructor
 · rintro⟨hm,hs⟩
   have sub:∀p∈ps',∃q∈ps,q.1=p.1:=fun p hpm=>by
    have e:=hs _ (List.mem_map.mpr ⟨p,hpm,rfl⟩)
    rw[snd,look]at e
    rcases e2:ps.find? (fun q=>decide (q.1=p.1))with _|q
    ·rw[e2]at e;exact dV3 e (h0 p hpm)
    ·exact⟨q,List.mem_of_find?_eq_some e2,by simpa using List.find?_some e2⟩
   have names:ps'.map (·.1)=ps.map (·.1):=by
    refine dV6 hp' hp fun z=>⟨fun m=>?_,fun m=>?_⟩
    · obtain⟨p,hpm,rfl⟩:=List.mem_map.mp m
      obtain⟨q,hq,e⟩:=sub p hpm
      exact List.mem_map.mpr ⟨q,hq,e⟩
    · obtain⟨q,hq,rfl⟩:=List.mem_map.mp m
      have e:=hm (fdD (q.1,true,sgF n q.2)) (List.mem_map.mpr ⟨_,List.mem_map.mpr ⟨q,hq,rfl⟩,rfl⟩)
      have e:((ps'.map K5).any (nmD q.1)||!true)=true:=e
      rw[Bool.not_true,Bool.or_false,List.any_eq_true]at e
      obtain⟨d,hd,e⟩:=e
      obtain⟨p,hpm,rfl⟩:=List.mem_map.mp hd
      exact List.mem_map.mpr ⟨p,hpm,of_decide_eq_true e⟩
   refine eJ5 names (bO9 hp) fun p hpm=>?_
   obtain⟨q,hq,e⟩:=sub p hpm
   have e2:=hs _ (List.mem_map.mpr ⟨p,hpm,rfl⟩)
   rw[snd,←e,here q hq]at e2
   have e3:=(h1 q hq p hpm).mp e2
   have:p=q:=by cases p;cases q;simp only at e e3;rw[e,e3]
   rw[this];exact hq
 · rintro rfl
   refine⟨fun d hd=>?_,fun d hd=>?_⟩
   · obtain⟨x,hx,rfl⟩:=List.mem_map.mp hd
     obtain⟨q,hq,rfl⟩:=List.mem_map.mp hx
     show ((ps'.map K5).any (nmD q.1)||!true)=true
     rw[Bool.not_true,Bool.or_false,List.any_eq_true]
     exact⟨K5 q,List.mem_map.mpr ⟨q,hq,rfl⟩,decide_eq_true rfl⟩
   · obtain⟨q,hq,rfl⟩:=List.mem_map.mp hd
     rw[snd,here q hq]
     exact(h1 q hq q hq).mpr rfl
theorem bM2{b:Nat}:∀ {n m:Nat} {v w:D},VT n v→VW b m w→(inP m w (sgF n v)=true↔w=v)
 |0,_,_,_,h,_=>h.elim
 |n+1,0,_,_,_,h=>h.elim
 |n+1,m+1,v,w,hv,hw=>by
   rcases hv with⟨i,rfl,_⟩|⟨k,rfl⟩|⟨z,rfl,_⟩|⟨l,rfl,_,hl⟩|⟨ps,rfl,_,hn,hps⟩
   · rcases hw with⟨j,rfl⟩|⟨k,rfl⟩|⟨z,rfl,_⟩|⟨l',rfl,_,_⟩|⟨ps',rfl,_,_,_⟩
     · show (decide (i≤j)&&decide (j≤i)||false)=true↔_
       simp
       lia
     all_goals exact⟨fun h=>(nomatch h),fun h=>by cases h⟩
   · rcases hw with⟨j,rfl⟩|⟨k',rfl⟩|⟨z,rfl,_⟩|⟨l',rfl,_,_⟩|⟨ps',rfl,_,_,_⟩
     ·exact⟨fun h=>(nomatch h),fun h=>by cases h⟩
     ·cases k<;>cases k'<;>first|exact⟨fun _=>rfl,fun _=>rfl⟩|exact⟨fun h=>(nomatch h),fun h=>by cases h⟩
     all_goals exact⟨fun h=>(nomatch h),fun h=>by cases h⟩
   · rcases hw with⟨j,rfl⟩|⟨k',rfl⟩|⟨y,rfl,_⟩|⟨l',rfl,_,_⟩|⟨ps',rfl,_,_,_⟩
     ·exact⟨fun h=>(nomatch h),fun h=>by cases h⟩
     ·exact⟨fun h=>(nomatch h),fun h=>by cases h⟩
     · show ((eqV (V.str z) (V.str y)||false)==(wOf==wOf))=true↔_
       rw[Bool.or_false,show (wOf==wOf)=true from by decide,beq_iff_eq]
       simp[eqV]
       exact eq_comm
     all_goals exact⟨fun h=>(nomatch h),fun h=>by cases h⟩
   · rw[cL1]
     rcases hw with⟨j,rfl⟩|⟨k',rfl⟩|⟨y,rfl,_⟩|⟨l',rfl,_,hl'⟩|⟨ps',rfl,_,_,_⟩
     ·exact⟨fun h=>(nomatch h),fun h=>by cases h⟩
     ·exact⟨fun h=>(nomatch h),fun h=>by cases h⟩
     ·exact⟨fun h=>(nomatch h),fun h=>by cases h⟩
     · rw[aO3,dO0 (fun x hx=>dW3 (hl' x hx)) fun y hy x hx=>bM2 (hl y hy) (hl' x hx)]
       exact⟨fun e=>by rw[e],fun e=>by cases e;rfl⟩
     · rw[aO9]
       exact⟨fun h=>(nomatch h),fun h=>by cases h⟩
   · rw[cK5]
     rcases hw with⟨j,rfl⟩|⟨k',rfl⟩|⟨y,rfl,_⟩|⟨l',rfl,_,hl'⟩|⟨ps',rfl,_,hn',hps'⟩
     ·exact⟨fun h=>(nomatch h),fun h=>by cases h⟩
     ·exact⟨fun h=>(nomatch h),fun h=>by cases h⟩
     ·exact⟨fun h=>(nomatch h),fun h=>by cases h⟩
     · rw[aO3]
       exact⟨fun h=>(nomatch h),fun h=>by cases h⟩
     · rw[aO9,dU2 hn hn' (fun p hp=>dW3 (hps' p hp).2) fun q hq p hp=>bM2 (hps q hq).2 (hps' p hp).2]
       refine⟨fun e=>by rw[e],fun e=>?_⟩
       injection e with e;injection e with _ e;injection e with e _;injection e with e
       exact cE9 (fun _ _=>dY1) e
theorem bI6{g:Fg}{e:Fe}{ck:DH→Bool}(J:DH→Prop)(S:DSt→Prop)(rel:D→D→Prop)(hck:∀G,J G→ck G=true):∀(items:List D) (σ:DSt) (G:DH),S σ→J G→
 (∀d∈items,∀ σ G,S σ→J G→Wp (g d σ) G fun σ1 G1=>G1=G∧S σ1∧Wp (e σ1) G fun y G3=>J G3∧rel d y)→
 Wp (P0 g N6 e ck items σ) G fun ys G'=>J G'∧∃zs:List (D×D),zs.map (·.1)=items∧ys=zs.map (·.2)∧∀z∈zs,rel z.1 z.2
 |[],σ,G,s,j,_=>bE2.mpr ⟨hck G j,j, [],rfl,rfl,fun _ h=>nomatch h⟩
 |d::r,σ,G,s,j,step=>by
   refine bC4.mpr ⟨hck G j,(step d (List.mem_cons_self ..) σ G s j).mono fun σ1 G1 ⟨e1,s1,w1⟩=>?_⟩
   subst e1
   refine g8 (a:=true) rfl ?_
   rw[if_pos rfl]
   refine w1.mono fun y G3 ⟨j3,py⟩=>?_
   refine(bI6 J S rel hck r σ1 G3 s1 j3 fun d hd=>step d (List.mem_cons_of_mem _ hd)).mono fun ys G4 ⟨j4,zs,h1,h2,h3⟩=>⟨j4,(d,y)::zs,by rw[List.map_cons,h1],by rw[List.map_cons,h2],fun z hz=>?_⟩
   rcases List.mem_cons.mp hz with rfl|hz
   ·exact py
   ·exact h3 z hz
section
variable{r:Nat}{G:DH}
end
theorem dE3{p:Nat}{l:List D}{G:DH}(e:G[p]? =some (.lst l)):ckO p (.lst l) G=true:=by simp only[ckO,e];simp
theorem dB6{fs gs:List (Str×Bool×D)}(h:fs.map fdD=gs.map fdD):fs=gs:=cE9 (fun _ _=>eX8) h
theorem eE1{ns:List (D×D)}{ts:List Str}{tr:List Bool}{li re x:D}(h:eL3 (mkS ns wOf ts tr li re) x)(hl:∀a,LiF li a→a=li)(hr:∀a,ReF re a→a=re):x=mkS ns wOf ts tr li re:=by
 obtain⟨ns1,w1,ts1,tr1,l1,r1,l1',r1',e1,a1,b1,c1⟩:=h
 obtain⟨en,ew,et,eb,el,er⟩:=cG6 e1
 subst el er ew
 obtain rfl:=hl _ a1
 obtain rfl:=hr _ b1
 rcases c1 with⟨u,_⟩|⟨_,rfl⟩
 ·exact absurd (cG6 u).2.1 (by decide)
 ·unfold mkS;rw[en,et,eb]
theorem cD0{a:D}(h:LiF .non a):a= .non:=by
 rcases h with⟨_,rfl⟩|⟨_,_,e,_⟩
 ·rfl
 ·cases e
theorem cC2{a:D}(h:ReF .non a):a= .non:=by
 rcases h with⟨_,rfl⟩|⟨_,_,e,_⟩
 ·rfl
 ·cases e
theorem eX2{fs:List D}{m a:D}(hn:noS∉fs)(h:LiF (.tup [.tup fs,m]) a):a= .tup [.tup fs,m]:=by
 rcases h with⟨e,_⟩|⟨fs',m',e,h⟩
 ·cases e
 · cases e
   rcases h with⟨p,_⟩|⟨_,rfl⟩
   ·exact absurd p hn
   ·rfl
theorem eO3{fs:List (Str×Bool×D)}{m a:D}(hm:∀f∈fs,f.2.1=true)(hn:∀f∈fs,f.2.2≠noS)(h:ReF (.tup [.tup (fs.map fdD),m]) a):a= .tup [.tup (fs.map fdD),m]:=by
 rcases h with⟨e,_⟩|⟨f1,m1,e,h⟩
 ·cases e
 injection e with e;injection e with e1 e2;injection e1 with e1;injection e2 with e2 _
 obtain rfl:=dB6 e1
 subst e2
 rcases h with⟨⟨f,hf,_,p⟩,_⟩|⟨_,p,hp,rfl⟩
 ·exact absurd p (hn f hf)
 · rw[List.filter_eq_self.mpr fun f hf=>?_]
   rcases e:p f with _|_
   ·have:=((hp f hf).mp e).1;rw[hm f hf]at this;cases this
   ·rfl
theorem r0:∀p∈([]:List (D×D)),aR1 p:=fun _ h=>nomatch h
theorem t0:∀z∈([]:List Str),z.length≤1000:=fun _ h=>nomatch h
theorem ri{i:Int}:∀p∈([(.int i,.int i)]:List (D×D)),aR1 p:=fun p hp=>by
 rw[List.mem_singleton.mp hp]
 exact⟨trivial,trivial,fun a b ea eb=>by cases ea;cases eb;exact⟨by lia,by rw[Int.sub_self];decide⟩⟩
theorem bB1{f:D→D}:∀ {zs:List (D×D)},(∀z∈zs,z.2=f z.1)→zs.map (·.2)= (zs.map (·.1)).map f
 |[],_=>rfl
 |z::r,h=>by rw[List.map_cons,List.map_cons,List.map_cons,h z (List.mem_cons_self ..),bB1 fun y hy=>h y (List.mem_cons_of_mem _ hy)]
theorem dL4{l:List D}{k:Nat}(h:∀x∈l,szD x≤k):szL l≤l.length*k:=by
 induction l with
 |nil=>rw[aB0];exact Nat.zero_le _
 |cons d l ih=>
   have h1:=h d (by simp)
   have h2:=ih fun x hx=>h x (by simp[hx])
   rw[Q3,List.length_cons,Nat.succ_mul];lia
noncomputable def ZB:Nat→Nat
 |0=>0
 |n+1=>60+8*ZB n
theorem dV1{n:Nat}{v:D}(h:VT n v):sgF n v≠noS:=fun e=>dV3 ((bM2 h h.vw).mpr rfl) (by rw[e];exact dW3 h.vw)
theorem bY5{n:Nat}{ns:List (D×D)}{ts:List Str}{tr:List Bool}{li re:D}(h1:StP ns)(h2:ns.length≤10)(h3:eI4 ts)(h4:ts.length≤100)(h5:TrP tr)(h6:LiG (GS n) li)(h7:ReG (GS n) re)(h8:NoN li)(h9:Due re):GS (n+1) (mkS ns wOf ts tr li re):=
 .inr ⟨ns,wOf,ts,tr,li,re,rfl,⟨h1,h2,.inl rfl,h3,h4,h5,h6,h7⟩,h8,h9,fun u=>absurd (cG6 u).2.1 (by decide)⟩
theorem st0:StP []:=⟨(fun _ h=>nomatch h),.nil⟩
theorem rw0:eI4 []:=⟨(fun _ h=>nomatch h),.nil⟩
theorem nn0:NoN .non:=fun _ _ e=>by cases e
theorem du0:Due .non:=fun _ _ e=>by cases e
theorem eK3{n:Nat}:GS (n+1) noS:=bY5 (n:=n) st0 (by decide) rw0 (by decide) (.inl rfl) (.inl rfl) (.inl rfl) nn0 du0
theorem eJ4:szD noS=8:=by simp[noS,mkS,szD,szL]
theorem bT0:∀ {n:Nat} {v:D},VT n v→GS (n+1) (sgF n v)∧szD (sgF n v)≤ZB n
 |0,_,h=>h.elim
 |n+1,v,h=>by
   have ne:∀x,VT n x→sgF n x≠noS:=fun x hx=>dV1 hx
   rcases h with⟨i,rfl,_⟩|⟨k,rfl⟩|⟨z,rfl,hz⟩|⟨l,rfl,h0,hl⟩|⟨ps,rfl,h0,hn,hps⟩
   · refine⟨bY5 ⟨ri,List.pairwise_singleton ..⟩ (show 1≤10 by decide) rw0 (by decide) (.inl rfl) (.inl rfl) (.inl rfl) nn0 du0,?_⟩
     show szD (mkS [(.int i,.int i)] wOf [] [] .non .non)≤60+8*ZB n
     simp[mkS,stD,szD,szL];lia
   · refine⟨bY5 st0 (by decide) rw0 (by decide) (by cases k;exact .inr (.inl rfl);exact .inr (.inr (.inl rfl))) (.inl rfl) (.inl rfl) nn0 du0,?_⟩
     show szD (mkS [] wOf [] [k] .non .non)≤60+8*ZB n
     simp[mkS,szD,szL];lia
   · refine⟨bY5 st0 (by decide) ⟨fun y hy=>by rw[List.mem_singleton.mp hy];exact hz,List.pairwise_singleton ..⟩ (show 1≤100 by decide) (.inl rfl) (.inl rfl) (.inl rfl) nn0 du0,?_⟩
     show szD (mkS [] wOf [z] [] .non .non)≤60+8*ZB n
     simp[mkS,szD,szL];lia
   · rw[cL1]
     refine⟨bY5 st0 (by decide) rw0 (by decide) (.inl rfl) (.inr ⟨l.map (sgF n),noS,rfl,by rw[List.length_map];exact h0,(fun x hx=>?_),eK3⟩) (.inl rfl) (fun fs m e hm=>?_) du0,?_⟩
     · obtain⟨y,hy,rfl⟩:=List.mem_map.mp hx
       exact(bT0 (hl y hy)).1
     · cases e
       obtain⟨y,hy,e⟩:=List.mem_map.mp hm
       exact ne y (hl y hy) e
     · have h1:=dL4 (l:=l.map (sgF n)) (k:=ZB n) fun x hx=>by
        obtain⟨y,hy,rfl⟩:=List.mem_map.mp hx
        exact(bT0 (hl y hy)).2
       rw[List.length_map]at h1
       have h2:l.length*ZB n≤8*ZB n:=Nat.mul_le_mul_right _ h0
       show szD (.tup [.tup [],.tup [.str wOf,.tup []],.tup [],.tup [.tup (l.map (sgF n)),noS],.non])≤60+8*ZB n
       simp only[szD,szL,eJ4];lia
   · rw[cK5]
     refine⟨bY5 st0 (by decide) rw0 (by decide) (.inl rfl) (.inl rfl) (.inr ⟨Z8 n ps,noS,rfl,by unfold Z8;rw[List.length_map];exact h0,by unfold Z8;rw[List.map_map];exact hn,(fun x hx=>?_),eK3⟩) nn0 (fun fs m e f hf=>?_),?_⟩
     · obtain⟨y,hy,rfl⟩:=List.mem_map.mp hx
       exact⟨(hps y hy).1,(bT0 (hps y hy).2).1⟩
     · injection e with e;injection e with e1 _;injection e1 with e1
       rw[←dB6 e1]at hf
       obtain⟨y,hy,rfl⟩:=List.mem_map.mp hf
       exact⟨rfl,ne _ (hps y hy).2⟩
     · have h1:=dL4 (l:=((Z8 n ps).map fdD).map trd) (k:=ZB n) fun x hx=>by
        obtain⟨y,hy,rfl⟩:=List.mem_map.mp hx
        obtain⟨f,hf,rfl⟩:=List.mem_map.mp hy
        obtain⟨p,hp,rfl⟩:=List.mem_map.mp hf
        exact(bT0 (hps p hp).2).2
       have h3:=dM9 (Z8 n ps)
       have h4:(Z8 n ps).length=ps.length:=by unfold Z8;rw[List.length_map]
       rw[List.length_map,List.length_map,h4]at h1
       have h2:ps.length*ZB n≤8*ZB n:=Nat.mul_le_mul_right _ h0
       show szD (.tup [.tup [],.tup [.str wOf,.tup []],.tup [],.non,.tup [.tup ((Z8 n ps).map fdD),noS]])≤60+8*ZB n
       simp only[szD,szL,eJ4];lia
theorem cB0{n:Nat}{v:D}(h:VT n v):SB (n+1) (sgF n v):=(bT0 h).1.sb
theorem bS2{n:Nat}{ns:List (D×D)}{ts:List Str}{tr:List Bool}{li re:D}{G:DH}{Q:DPP}(hn:n+1≤7)(h1:∀p∈ns,aR1 p)(h2:ns.length≤100)(h3:∀z∈ts,z.length≤1000)(h4:ts.length≤100)(h5:tr.length≤100)(h6:LiP (SB (n+1)) li)(h7:ReP (SB (n+1)) re)(hl:∀a,LiF li a→a=li)(hr:∀a,ReF re a→a=re)(q:∀G',Ap G G'→Q (mkS ns wOf ts tr li re) G'):Wp (aB1 [.tup (ns.map stD),.tup [.str wOf,.tup (ts.map D.str)],.tup (tr.map D.bl),li,re]) G Q:=
 (eF2 hn h1 h2 h3 h4 h5 h6 h7).mono fun x G' ⟨a,m,s⟩=>by
   obtain rfl:=eE1 m hl hr
   exact q G' a
theorem aW4{a b:D}{G:DH}{Q:DPP}(h:aR1 (a,b))(he:bN9 a b=false)(q:∀G',Ap G G'→Q (mkS [(a,b)] wOf [] [] .non .non) G'):Wp (Q8 [a,b]) G Q:=by
 refine J3 (show Wp (aI5 [some a,some b]) G _ from ?_)
 unfold aI5
 refine J9<| bH5.mpr<| aH1.mpr<| m9 (as:= [a,b]) rfl rfl<| (aG6 h.1 h.2.1).mpr<| U8.mpr ?_
 rw[he]
 refine m9 (as:= [.tup ([(a,b)].map stD),.tup [.str wOf,.tup (([]:List Str).map D.str)],.tup (([]:List Bool).map D.bl),.non,.non]) (G1:=G) rfl rfl ?_
 exact bS2 (n:=0) (by decide) (fun p hp=>by rw[List.mem_singleton.mp hp];exact h) (show 1≤100 by decide) t0 (by decide) (by decide) (.inl rfl) (.inl rfl) (fun _=>cD0) (fun _=>cC2) fun G' a=>M6 (q G' a)
def SQ(n:Nat)(v:D)(G:DH)(s:D)(G':DH):Prop:=s=sgF n v∧Ap G G'
theorem dC8{n:Nat}{ps:List (Str×D)}:(ps.map K5).map (dR5 (sgF n))= (Z8 n ps).map fdD:=by
 unfold Z8
 rw[List.map_map,List.map_map];rfl
theorem eJ6{n:Nat}{l:List D}{G:DH}:SQ (n+1) (.tup [.str K9,.tup l]) G=fun s G'=>s=mkS [] wOf [] [] (.tup [.tup (l.map (sgF n)),noS]) .non∧Ap G G':=by
 unfold SQ;rw[cL1]
theorem eL4{n:Nat}{ps:List (Str×D)}{G:DH}:SQ (n+1) (.tup [.str T4,.tup (ps.map K5)]) G=fun s G'=>s=mkS [] wOf [] [] .non (.tup [.tup ((Z8 n ps).map fdD),noS])∧Ap G G':=by
 unfold SQ;rw[cK5]
theorem dM5{n:Nat}{l:List D}{G:DH}{Q:DPP}(hn:n+1≤7)(h1:l.length≤8)(h2:∀x∈l,VT n x)(q:∀G',Ap G G'→Q (mkS [] wOf [] [] (.tup [.tup (l.map (sgF n)),noS]) .non) G'):Wp (Z4 [.tup (l.map (sgF n)),noS]) G Q:=by
 have hs:∀x∈l.map (sgF n),SB (n+1) x∧x≠noS:=fun x hx=>by
  obtain⟨y,hy,rfl⟩:=List.mem_map.mp hx
  exact⟨cB0 (h2 y hy),dV1 (h2 y hy)⟩
 have hl:(l.map (sgF n)).length≤8:=by rw[List.length_map];exact h1
 generalize l.map (sgF n)=fs at *
 refine J3 (show Wp (aL5 [some (.tup fs),some noS]) G _ from ?_)
 unfold aL5
 refine J9<| m9 (as:= [.tup (([]:List (D×D)).map stD),.tup [.str wOf,.tup (([]:List Str).map D.str)],.tup (([]:List Bool).map D.bl),.tup [.tup fs,noS],.non]) (G1:=G) rfl rfl ?_
 exact bS2 hn r0 (by decide) t0 (by decide) (by decide) (.inr ⟨_,_,rfl,by lia,(fun x hx=>(hs x hx).1),aP3⟩) (.inl rfl) (fun _=>eX2 fun hx=>(hs _ hx).2 rfl) (fun _=>cC2) fun G' a=>M6 (q G' a)
theorem cU0{n:Nat}{ps:List (Str×D)}{G:DH}{Q:DPP}(hn:n+1≤7)(h1:ps.length≤8)(hp:(ps.map (·.1)).Pairwise LtS)(h2:∀p∈ps,NM p.1∧VT n p.2)(q:∀G',Ap G G'→Q (mkS [] wOf [] [] .non (.tup [.tup ((Z8 n ps).map fdD),noS])) G'):Wp (U5 [.tup ((Z8 n ps).map fdD),noS]) G Q:=by
 have hs:∀f∈Z8 n ps,f.1.length≤1000∧SB (n+1) f.2.2∧f.2.2≠noS∧f.2.1=true:=fun x hx=>by
  obtain⟨y,hy,rfl⟩:=List.mem_map.mp hx
  exact⟨Nat.le_trans (h2 y hy).1.1.2 (by decide),cB0 (h2 y hy).2,dV1 (h2 y hy).2,rfl⟩
 have hl:(Z8 n ps).length≤8:=by unfold Z8;rw[List.length_map];exact h1
 have hd:((Z8 n ps).map (·.1)).Nodup:=by unfold Z8;rw[List.map_map];exact bO9 hp
 generalize Z8 n ps=gs at *
 generalize hf:gs.map fdD=fs at *
 refine J3 (show Wp (aG4 [some (.tup fs),some noS]) G _ from ?_)
 unfold aG4
 subst hf
 refine J9<| m9 (as:= [.tup (([]:List (D×D)).map stD),.tup [.str wOf,.tup (([]:List Str).map D.str)],.tup (([]:List Bool).map D.bl),.non,.tup [.tup (gs.map fdD),noS]]) (G1:=G) rfl rfl ?_
 exact bS2 hn r0 (by decide) t0 (by decide) (by decide) (.inl rfl) (.inr ⟨gs,_,rfl,by lia,hd,(fun f hf=>⟨(hs f hf).1,(hs f hf).2.1⟩),aP3⟩) (fun _=>cD0) (fun _=>eO3 (fun f hf=>(hs f hf).2.2.2) fun f hf=>(hs f hf).2.2.1) fun G' a=>M6 (q G' a)
theorem bO2:∀(n m:Nat) (v:D) (G:DH),n≤5→n≤m→VT n v→Wp (aU7 m [v]) G (SQ n v G)
 |0,_,_,_,_,_,h=>h.elim
 |n+1,0,_,_,_,h,_=>absurd h (by lia)
 |n+1,m+1,v,G,hn,hm,hv=>by
   have bg:1000≤sizeLine:=by decide
   refine J3 (show Wp (aV8 (aU7 m) [some v]) G _ from ?_)
   unfold aV8
   rcases hv with⟨i,rfl,_⟩|⟨k,rfl⟩|⟨z,rfl,hz⟩|⟨l,rfl,h1,h2⟩|⟨ps,rfl,h1,hn2,h2⟩
   · refine m6 (σ':= [some (.int i)]) (G':=G) rfl<| m8.mpr<| aH2<| W0<| g8 (a:=.bl true) (G':=G) rfl ⟨rfl,fun _=>?_,fun h=>nomatch h⟩
     exact J9<| m9 (as:= [.int i,.int i]) rfl rfl<| aW4 (ri _ (List.mem_cons_self ..)) (by show decide (i>i)=false;simp) fun G' a=>M6 ⟨rfl,a⟩
   · refine m8.mpr<| aH2<| W0<| g8 (a:=.bl true) (G':=G) rfl ⟨rfl,fun _=>?_,fun h=>nomatch h⟩
     exact J9<| m9 (as:= [.tup (([]:List (D×D)).map stD),.tup [.str wOf,.tup (([]:List Str).map D.str)],.tup ([k].map D.bl),.non,.non]) (G1:=G) rfl rfl<| bS2 (n:=0) (tr:= [k]) (by decide) r0 (by decide) t0 (by decide) (show 1≤100 by decide) (.inl rfl) (.inl rfl) (fun _=>cD0) (fun _=>cC2) fun G' a=>M6 ⟨rfl,a⟩
   · refine m6 (σ':= [some (.str z)]) (G':=G) rfl<| m6 (σ':= [some (.str z)]) (G':=G) rfl<| m8.mpr<| aH2<| W0<| g8 (a:=.bl true) (G':=G) rfl ⟨rfl,fun _=>?_,fun h=>nomatch h⟩
     exact J9<| m9 (as:= [.tup (([]:List (D×D)).map stD),.tup [.str wOf,.tup ([z].map D.str)],.tup (([]:List Bool).map D.bl),.non,.non]) (G1:=G) rfl rfl<| bS2 (n:=0) (ts:= [z]) (by decide) r0 (by decide) (fun y hy=>by rw[List.mem_singleton.mp hy];exact Nat.le_trans hz.2 (by decide)) (show 1≤100 by decide) (by decide) (.inl rfl) (.inl rfl) (fun _=>cD0) (fun _=>cC2) fun G' a=>M6 ⟨rfl,a⟩
   · refine m6 (σ':= [some (.tup [.str K9,.tup l])]) (G':=G) rfl<| m6 (σ':= [some (.tup [.str K9,.tup l])]) (G':=G) rfl<| m6 (σ':= [some (.tup [.str K9,.tup l])]) (G':=G) rfl<| m8.mpr<| aH2<| R8<| g8 (a:=.bl true) (G':=G) rfl ⟨true,rfl,fun _=>?_,fun h=>nomatch h⟩
     refine J9<| R6<| v6<| R6<| v6<| Z7 (l:=l) rfl (by lia)<| (bI6 (Ap G) (fun σ=>∃u,σ= [u]) (fun d y=>y=sgF n d) (fun _ _=>rfl) l _ G ⟨_,rfl⟩ Ap.refl ?_).mono ?_
     · rintro d hd _ G1 ⟨u,rfl⟩ a1
       exact U0.mpr ⟨rfl,⟨_,rfl⟩,m9 (as:= [d]) rfl rfl<| (bO2 n m d G1 (by lia) (by lia) (h2 d hd)).mono fun s G2 ⟨e,a2⟩=>⟨a1.trans a2,e⟩⟩
     · rintro _ G1 ⟨a1,zs,e1,rfl,hz⟩
       rw[bB1 hz,e1]
       refine t6.mpr<| (aC4 o6).mpr<| g8 (a:= [noS]) (G':=G1++[.lst (l.map (sgF n))]) rfl<| Z6.mpr ⟨rfl,?_⟩
       rw[eJ6]
       exact dM5 (by lia) h1 (fun x hx=>h2 x hx) fun G' a=>M6 ⟨rfl,a1.trans (Ap.one.trans a)⟩
   · refine m6 (σ':= [some (.tup [.str T4,.tup (ps.map K5)])]) (G':=G) rfl<| m6 (σ':= [some (.tup [.str T4,.tup (ps.map K5)])]) (G':=G) rfl<| m6 (σ':= [some (.tup [.str T4,.tup (ps.map K5)])]) (G':=G) rfl<| m6 (σ':= [some (.tup [.str T4,.tup (ps.map K5)])]) (G':=G) rfl ?_
     refine J9<| R6<| v6<| R6<| v6<| Z7 (l:=ps.map K5) rfl (by rw[List.length_map];lia)<| (bI6 (Ap G) (fun σ=>∃u w,σ= [u,w]) (fun d y=>y=dR5 (sgF n) d) (fun _ _=>rfl) (ps.map K5) _ G ⟨_,_,rfl⟩ Ap.refl ?_).mono ?_
     · rintro d hd _ G1 ⟨u,w,rfl⟩ a1
       obtain⟨p,hp,rfl⟩:=List.mem_map.mp hd
       exact g8 (a:= [some (.str p.1),some p.2]) (G':=G1) rfl ⟨rfl,⟨_,_,rfl⟩,W2.mpr<| M9 (x:=.str p.1) (G1:=G1) rfl<| M9 (x:=.bl true) (G1:=G1) rfl<| v6<| m9 (as:= [p.2]) rfl rfl<| (bO2 n m p.2 G1 (by lia) (by lia) (h2 p hp).2).mono fun s G2 ⟨e,a2⟩=>t6.mpr ⟨sz,a1.trans a2,by rw[e];rfl⟩⟩
     · rintro _ G1 ⟨a1,zs,e1,rfl,hz⟩
       rw[bB1 hz,e1,dC8]
       refine t6.mpr<| (aC4 o6).mpr<| g8 (a:= [noS]) (G':=G1++[.lst ((Z8 n ps).map fdD)]) rfl<| Z6.mpr ⟨rfl,?_⟩
       rw[eL4]
       exact cU0 (by lia) h1 hn2 (fun x hx=>h2 x hx) fun G' a=>M6 ⟨rfl,a1.trans (Ap.one.trans a)⟩
theorem eI1{v:D}{G:DH}(h:VT 5 v):Wp (bD3 [v]) G (SQ 5 v G):=bO2 5 6 v G (by decide) (by decide) h
structure Ws(b k:Nat)(d:D):Prop where
 dat:cH8 d=true
 sho:(pyD d).showable=true
 dep:(pyD d).depth≤k
 len:(pyD d).shown.length≤b
structure WL(b k:Nat)(l:List D):Prop where
 dat:bU7 l=true
 sho:PyData.showableAll (pyL l)=true
 dep:PyData.depthAll (pyL l)≤k
 len:piled (PyData.shownAll (pyL l))≤b
theorem WL.nil{k:Nat}:WL 0 k []:=⟨rfl,rfl,Nat.zero_le _,Nat.le_refl _⟩
theorem WL.cons{a b k:Nat}{d:D}{l:List D}(h:Ws a k d)(t:WL b k l):WL (a+2+b) k (d::l):=by
 refine⟨?_,?_,?_,?_⟩
 ·show (cH8 d&&bU7 l)=true;rw[h.dat,t.dat];rfl
 ·show ((pyD d).showable&&PyData.showableAll (pyL l))=true;rw[h.sho,t.sho];rfl
 ·show max (pyD d).depth (PyData.depthAll (pyL l))≤k;exact Nat.max_le.mpr ⟨h.dep,t.dep⟩
 · show piled ((pyD d).shown::PyData.shownAll (pyL l))≤_
   rw[piled_cons]
   have:=h.len
   have:=t.len
   lia
theorem WL.le{a b k:Nat}{l:List D}(h:WL a k l)(hb:a≤b):WL b k l:=⟨h.dat,h.sho,h.dep,Nat.le_trans h.len hb⟩
theorem Ws.le{a b k j:Nat}{d:D}(h:Ws a k d)(hb:a≤b)(hk:k≤j):Ws b j d:=⟨h.dat,h.sho,Nat.le_trans h.dep hk,Nat.le_trans h.len hb⟩
theorem eD1:∀ts:List Str,(Str.join ", " ts).length≤piled ts
 |[]=>Nat.zero_le _
 |t::r=>by have:=join_length_add (t::r) (by simp);lia
theorem dQ2(ts:List Str):(tupleText ts).length≤piled ts+3:=by
 unfold tupleText
 rw[strLen_append,strLen_append]
 have h1:=eD1 ts
 have h2:(("(" :String):Str).length=1:=rfl
 have h3:((if ts.length==1 then ",)" else ")" :String):Str).length≤2:=by split<;>decide
 lia
theorem Ws.tup{b k:Nat}{l:List D}(h:WL b k l):Ws (b+3) (k+1) (.tup l):=by
 refine⟨h.dat,h.sho,?_,?_⟩
 ·show PyData.depthAll (pyL l)+1≤k+1;exact Nat.succ_le_succ h.dep
 · show (tupleText (PyData.shownAll (pyL l))).length≤b+3
   have:=dQ2 (PyData.shownAll (pyL l))
   have:=h.len
   lia
theorem WL.all{b k:Nat}:∀ {l:List D},(∀x∈l,Ws b k x)→WL (l.length*(b+2)) k l
 |[],_=>by rw[List.length_nil,Nat.zero_mul];exact .nil
 |d::l,h=>by
   refine(WL.cons (h d (List.mem_cons_self ..)) (WL.all fun x hx=>h x (List.mem_cons_of_mem _ hx))).le ?_
   rw[List.length_cons,Nat.succ_mul];lia
theorem Ws.non{k:Nat}:Ws 4 k .non:=⟨rfl,rfl,Nat.zero_le _,by show (("None" :String):Str).length≤4;decide⟩
theorem Ws.bl{k:Nat}{b:Bool}:Ws 5 k (.bl b):=⟨rfl,rfl,Nat.zero_le _,by
 cases b
 ·show (("False" :String):Str).length≤5;decide
 ·show (("True" :String):Str).length≤5;decide⟩
theorem Ws.int{k:Nat}{i:Int}(h: -1000000000000000000≤i)(h':i≤1000000000000000000):Ws 20 k (.int i):=by
 have hn:i.natAbs<10 ^ 19:=by lia
 refine⟨rfl,decide_eq_true ?_,Nat.zero_le _,?_⟩
 · by_cases e:i.natAbs=0
   ·rw[e];decide
   ·exact(Nat.log2_lt e).mpr (Nat.lt_of_lt_of_le hn (Nat.le_trans (show 10 ^ 19≤2 ^ 64 by decide) (Nat.pow_le_pow_right (by decide) (by decide))))
 · show (Str.ofString (toString i)).length≤20
   rw[PySem.ofString_length]
   exact int_text_length_le10 (k:=19) (by decide) hn
theorem Ws.str{k:Nat}{z:Str}(h:TX z):Ws 202 k (.str z):=by
 refine⟨rfl,rfl,Nat.zero_le _,?_⟩
 show (reprText z).length≤202
 have h1:=PySem.StrLaws.reprText_len z fun c hc=>by
  have:=List.all_eq_true.mp h.1 c hc
  unfold cC4 at this
  simp only[Bool.and_eq_true,decide_eq_true_eq]at this
  lia
 have:=h.2
 lia
theorem Ws.w{k:Nat}:Ws 22 k (.str wOf):=⟨rfl,rfl,Nat.zero_le _,by
 show (reprText wOf).length≤22
 have h1:=PySem.StrLaws.reprText_len wOf (by decide)
 have:wOf.length=2:=by decide
 lia⟩
theorem Ws.mks{a b c l r k:Nat}{ns:List (D×D)}{ts:List Str}{tr:List Bool}{li re:D}(h1:WL a k (ns.map stD))(h2:WL b k (ts.map D.str))(h3:WL c (k+1) (tr.map D.bl))(h4:Ws l (k+2) li)(h5:Ws r (k+2) re):Ws (a+b+c+l+r+60) (k+3) (mkS ns wOf ts tr li re):=
 (Ws.tup (WL.cons ((Ws.tup h1).le (Nat.le_refl _) (by lia)) (WL.cons (Ws.tup (WL.cons (Ws.w (k:=k+1)) (WL.cons (Ws.tup h2) .nil))) (WL.cons (Ws.tup h3) (WL.cons h4 (WL.cons h5 .nil)))))).le (by lia) (Nat.le_refl _)
theorem Ws.no{k:Nat}:Ws 70 (k+3) noS:=(Ws.mks (k:=k) .nil .nil .nil .non .non).le (by decide) (Nat.le_refl _)
noncomputable def LB:Nat→Nat
 |0=>0
 |n+1=>2200+8*LB n
theorem dV4:∀ {n:Nat} {v:D},VT n v→Ws (LB n) (4*n+4) (sgF n v)
 |0,_,h=>h.elim
 |n+1,v,h=>by
   have lb:LB (n+1)=2200+8*LB n:=rfl
   have w1:∀ {i k:Nat} {d:D},Ws i k d→i≤LB (n+1)→k≤8→Ws (LB (n+1)) (4*(n+1)+4) d:=fun h h1 h2=>h.le h1 (by lia)
   rcases h with⟨i,rfl,h1,h2⟩|⟨k,rfl⟩|⟨z,rfl,hz⟩|⟨l,rfl,h0,hl⟩|⟨ps,rfl,h0,hn,hps⟩
   ·exact w1 (Ws.mks (k:=5) (ns:= [(.int i,.int i)]) (ts:= []) (tr:= []) (WL.cons (Ws.tup (WL.cons (Ws.int h1 h2) (WL.cons (Ws.int h1 h2) .nil))) .nil) .nil .nil .non .non) (by lia) (by decide)
   ·exact w1 (Ws.mks (k:=5) (ns:= []) (ts:= []) (tr:= [k]) .nil .nil (WL.cons .bl .nil) .non .non) (by lia) (by decide)
   ·exact w1 (Ws.mks (k:=5) (ns:= []) (ts:= [z]) (tr:= []) .nil (WL.cons (.str hz) .nil) .nil .non .non) (by lia) (by decide)
   · rw[cL1]
     have h1:=WL.all (l:=l.map (sgF n)) (b:=LB n) (k:=4*n+4) fun x hx=>by
      obtain⟨y,hy,rfl⟩:=List.mem_map.mp hx
      exact dV4 (hl y hy)
     rw[List.length_map]at h1
     have h2:l.length*(LB n+2)≤8*(LB n+2):=Nat.mul_le_mul_right _ h0
     exact(Ws.mks (k:=4*n+5) (ns:= []) (ts:= []) (tr:= []) .nil .nil .nil (Ws.le (Ws.tup (WL.cons (Ws.tup h1) (WL.cons (Ws.no (k:=4*n+2)) .nil))) (Nat.le_refl _) (by lia)) .non).le (by lia) (by lia)
   · rw[cK5]
     have h1:=WL.all (l:=(Z8 n ps).map fdD) (b:=LB n+222) (k:=4*n+5) fun x hx=>by
      obtain⟨f,hf,rfl⟩:=List.mem_map.mp hx
      obtain⟨p,hp,rfl⟩:=List.mem_map.mp hf
      exact(Ws.tup (WL.cons (Ws.str (hps p hp).1.1) (WL.cons (Ws.bl (b:=true)) (WL.cons (dV4 (hps p hp).2) .nil)))).le (by lia) (Nat.le_refl _)
     have h4:(Z8 n ps).length=ps.length:=by unfold Z8;rw[List.length_map]
     rw[List.length_map,h4]at h1
     have h2:ps.length*(LB n+222+2)≤8*(LB n+222+2):=Nat.mul_le_mul_right _ h0
     exact(Ws.mks (k:=4*n+5) (ns:= []) (ts:= []) (tr:= []) .nil .nil .nil .non (Ws.le (Ws.tup (WL.cons (Ws.tup h1) (WL.cons (Ws.no (k:=4*n+3)) .nil))) (Nat.le_refl _) (by lia))).le (by lia) (by lia)
theorem eQ6{n:Nat}{v:D}(h:VT n v):∃l,sgF n v= .tup l:=by
 rcases n with _|n
 ·exact h.elim
 · rcases h with⟨i,rfl,_⟩|⟨k,rfl⟩|⟨z,rfl,hz⟩|⟨l,rfl,h0,hl⟩|⟨ps,rfl,h0,hn,hps⟩
   ·exact⟨_,rfl⟩
   ·exact⟨_,rfl⟩
   ·exact⟨_,rfl⟩
   ·rw[cL1];exact⟨_,rfl⟩
   ·rw[cK5];exact⟨_,rfl⟩
theorem dT1{v:D}{G:DH}{Q:DPP}(h:VT 5 v)(q:Q (.str (pyD (sgF 5 v)).shown) G):Wp (cS7 [sgF 5 v]) G Q:=by
 have w:=dV4 h
 obtain⟨l,e⟩:=eQ6 h
 rw[e]at w q ⊢
 refine dX3 ⟨w.dat,w.sho,Nat.le_trans w.dep (by decide),Nat.le_trans w.len (by decide)⟩ q
theorem cS4{v:D}{G:DH}{Q:DPP}(h:VT 5 v)(q:Q (.bl true) G):Wp (T9 [sgF 5 v,sgF 5 v]) G Q:=by
 obtain⟨b,e,i⟩:=SB.eqN (G:=G) (k:=6) (by decide) (cB0 h) (cB0 h)
 obtain rfl:=i.mpr rfl
 refine J3 (show Wp (X8 [some (sgF 5 v),some (sgF 5 v)]) G _ from ?_)
 unfold X8
 refine J9<| aX4.mpr<| X3 (x:=sgF 5 v) (y:=sgF 5 v) (G2:=G) rfl rfl<| bK2.mpr ⟨true,e,U8.mpr ?_⟩
 rw[if_pos rfl]
 exact bin_w<| aX7 (as:= [sgF 5 v]) rfl<| dT1 h<| aX7 (as:= [sgF 5 v]) rfl<| dT1 h<| cE2.mpr (by
  rw[show ((pyD (sgF 5 v)).shown==(pyD (sgF 5 v)).shown)=true from by simp]
  exact M6 q)
theorem bR8:∀(n m:Nat) (v:D) (G:DH),n≤m→VT n v→Wp (aE4 m [v]) G (SQ n v G)
 |0,_,_,_,_,h=>h.elim
 |n+1,0,_,_,h,_=>absurd h (by lia)
 |n+1,m+1,v,G,hm,hv=>by
   have bg:1000≤sizeLine:=by decide
   refine J3 (show Wp (aE5 (aE4 m) [some v,none,none,none]) G _ from ?_)
   unfold aE5
   refine m6 (σ':= [some v,some noS,none,none]) (G':=G) rfl ?_
   rcases hv with⟨i,rfl,_⟩|⟨k,rfl⟩|⟨z,rfl,hz⟩|⟨l,rfl,h1,h2⟩|⟨ps,rfl,h1,hn2,h2⟩
   ·exact m6 (σ':= [some (.int i),some noS,none,none]) (G':=G) rfl<| m8.mpr<| bE0 (G1:=G) rfl<| J9<| g8 (a:=sgF (n+1) (.int i)) (G':=G) rfl<| M6 ⟨rfl,Ap.refl⟩
   ·exact m8.mpr<| bE0 (G1:=G) rfl<| J9<| g8 (a:=sgF (n+1) (.bl k)) (G':=G) rfl<| M6 ⟨rfl,Ap.refl⟩
   ·exact m6 (σ':= [some (.str z),some noS,none,none]) (G':=G) rfl<| m6 (σ':= [some (.str z),some noS,none,none]) (G':=G) rfl<| m8.mpr<| bE0 (G1:=G) rfl<| J9<| g8 (a:=sgF (n+1) (.str z)) (G':=G) rfl<| M6 ⟨rfl,Ap.refl⟩
   · refine m6 (σ':= [some (.tup [.str K9,.tup l]),some noS,none,none]) (G':=G) rfl<| m6 (σ':= [some (.tup [.str K9,.tup l]),some noS,none,none]) (G':=G) rfl<| m6 (σ':= [some (.tup [.str K9,.tup l]),some noS,none,none]) (G':=G) rfl<| m8.mpr<| bE0 (G1:=G) rfl ?_
     refine m8.mpr<| aC5<| Z7 (l:=l) rfl (by lia)<| (bI6 (Ap G) (fun σ=>∃u,σ= [u]) (fun d y=>y=sgF n d) (fun _ _=>rfl) l _ G ⟨_,rfl⟩ Ap.refl ?_).mono ?_
     · rintro d hd _ G1 ⟨u,rfl⟩ a1
       exact U0.mpr ⟨rfl,⟨_,rfl⟩,m9 (as:= [d]) rfl rfl<| (bR8 n m d G1 (by lia) (h2 d hd)).mono fun s G2 ⟨e,a2⟩=>⟨a1.trans a2,e⟩⟩
     · rintro _ G1 ⟨a1,zs,e1,rfl,hz⟩
       rw[bB1 hz,e1,eJ6]
       refine J9<| bin_w<| g8 (a:=.tup [.tup [],.tup [.str wOf,.tup []],.tup []]) (G':=G1++[.lst (l.map (sgF n))]) rfl<| W2.mpr<| v6<| W2.mpr<| v6<| aX7 (as:= [.ref G1.length]) rfl<| (aC4 o6).mpr ?_
       generalize l.map (sgF n)=ss
       exact g8 (a:= [noS]) (G':=G1++[.lst ss]) rfl ⟨sz,g8 (a:= [.non]) (G':=G1++[.lst ss]) rfl ⟨sz,(bE8 (show 3+2≤_ by lia)).mpr<| M6 ⟨rfl,a1.trans Ap.one⟩⟩⟩
   · refine m6 (σ':= [some (.tup [.str T4,.tup (ps.map K5)]),some noS,none,none]) (G':=G) rfl<| m6 (σ':= [some (.tup [.str T4,.tup (ps.map K5)]),some noS,none,none]) (G':=G) rfl<| m6 (σ':= [some (.tup [.str T4,.tup (ps.map K5)]),some noS,none,none]) (G':=G) rfl<| m6 (σ':= [some (.tup [.str T4,.tup (ps.map K5)]),some noS,none,none]) (G':=G) rfl ?_
     refine m8.mpr<| aC5<| Z7 (l:=ps.map K5) rfl (by rw[List.length_map];lia)<| (bI6 (Ap G) (fun σ=>∃u,σ= [u]) (fun d y=>y=dR5 (sgF n) d) (fun _ _=>rfl) (ps.map K5) _ G ⟨_,rfl⟩ Ap.refl ?_).mono ?_
     · rintro d hd _ G1 ⟨u,rfl⟩ a1
       obtain⟨p,hp,rfl⟩:=List.mem_map.mp hd
       exact U0.mpr ⟨rfl,⟨_,rfl⟩,W2.mpr<| M9 (x:=.str p.1) (G1:=G1) rfl<| M9 (x:=.bl true) (G1:=G1) rfl<| v6<| m9 (as:= [p.2]) rfl rfl<| (bR8 n m p.2 G1 (by lia) (h2 p hp).2).mono fun s G2 ⟨e,a2⟩=>t6.mpr ⟨sz,a1.trans a2,by rw[e];rfl⟩⟩
     · rintro _ G1 ⟨a1,zs,e1,rfl,hz⟩
       rw[bB1 hz,e1,dC8,eL4]
       refine J9<| bin_w<| g8 (a:=.tup [.tup [],.tup [.str wOf,.tup []],.tup [],.non]) (G':=G1++[.lst ((Z8 n ps).map fdD)]) rfl<| W2.mpr<| v6<| W2.mpr<| v6<| aX7 (as:= [.ref G1.length]) rfl<| (aC4 o6).mpr ?_
       generalize (Z8 n ps).map fdD=ss
       exact g8 (a:= [noS]) (G':=G1++[.lst ss]) rfl ⟨sz,g8 (a:= []) (G':=G1++[.lst ss]) rfl ⟨sz,(bE8 (show 4+1≤_ by lia)).mpr<| M6 ⟨rfl,a1.trans Ap.one⟩⟩⟩
theorem dA4{v:D}{G:DH}(h:VT 5 v):Wp (aC7 [v]) G (SQ 5 v G):=bR8 5 6 v G (by decide) h
noncomputable def TS:Nat→D→Prop
 |0,_=>False
 |n+1,d=>(∃i,d= .int i)∨(∃b,d= .bl b)∨(∃z,d= .str z)∨(∃l,d= .tup l∧l.length≤1000∧∀x∈l,TS n x)
theorem TS.le:∀ {n m:Nat} {d:D},n≤m→TS n d→TS m d
 |0,_,_,_,h=>h.elim
 |n+1,0,_,h,_=>by lia
 |n+1,m+1,d,h,a=>by
   rcases a with a|a|a|⟨l,e,h0,hl⟩
   ·exact .inl a
   ·exact .inr (.inl a)
   ·exact .inr (.inr (.inl a))
   ·exact .inr (.inr (.inr ⟨l,e,h0,fun x hx=>TS.le (by lia) (hl x hx)⟩))
theorem TS.there{n:Nat}{d:D}{G:DH}(h:TS n d):aL8 G d:=by
 cases n with
 |zero=>exact h.elim
 |succ n=>rcases h with⟨i,rfl⟩|⟨k,rfl⟩|⟨z,rfl⟩|⟨l,rfl,_,hl⟩<;>exact⟨_,rfl⟩
theorem TS.s{n:Nat}{z:Str}:TS (n+1) (.str z):=.inr (.inr (.inl ⟨z,rfl⟩))
theorem TS.t{n:Nat}{l:List D}(h0:l.length≤1000)(h:∀x∈l,TS n x):TS (n+1) (.tup l):=.inr (.inr (.inr ⟨l,rfl,h0,h⟩))
theorem TS.two{n:Nat}{a b:D}(h:TS n a)(k:TS n b):TS (n+1) (.tup [a,b]):=TS.t (by show 2≤1000;decide) fun x hx=>by
 rcases List.mem_cons.mp hx with rfl|hx
 ·exact h
 ·rw[List.mem_singleton.mp hx];exact k
theorem VW.ts{b:Nat}(hb:b≤1000):∀ {n:Nat} {d:D},VW b n d→TS (3*n+1) d
 |0,_,h=>h.elim
 |n+1,d,a=>by
   show TS (3*n+3+1) d
   rcases a with⟨i,rfl⟩|⟨k,rfl⟩|⟨z,rfl,hz⟩|⟨l,rfl,h0,hl⟩|⟨ps,rfl,h0,_,hl⟩
   ·exact .inl ⟨i,rfl⟩
   ·exact .inr (.inl ⟨k,rfl⟩)
   ·exact .inr (.inr (.inl ⟨z,rfl⟩))
   ·exact TS.two TS.s (TS.t (by lia) fun x hx=>(VW.ts hb (hl x hx)).le (by lia))
   · refine TS.two TS.s (TS.t (by rw[List.length_map];lia) fun x hx=>?_)
     obtain⟨p,hp,rfl⟩:=List.mem_map.mp hx
     exact TS.two TS.s (VW.ts hb (hl p hp).2)
open Classical in
noncomputable def dW9(a b:List D):D→Bool
 | .int k=>decide (a[k.toNat]? =b[k.toNat]?)
 |_=>false
open Classical in
theorem dO4{a b:List D}(h:a.length=b.length):(N8 0 a.length).all (dW9 a b)=decide (a=b):=by
 by_cases e:a=b
 · subst e
   rw[decide_eq_true rfl,List.all_eq_true]
   intro x hx
   unfold N8 at hx
   obtain⟨i,hi,rfl⟩:=List.mem_map.mp hx
   simp[dW9]
 · rw[decide_eq_false e,List.all_eq_false]
   apply Classical.byContradiction
   intro hn
   apply e
   apply List.ext_getElem?
   intro i
   by_cases hi:i<a.length
   · have hm:D.int (0+(i:Int))∈N8 0 a.length:=by
      unfold N8
      exact List.mem_map.mpr ⟨i,List.mem_range.mpr hi,rfl⟩
     apply Classical.byContradiction
     intro hc
     exact hn ⟨_,hm,by simp[dW9,hc]⟩
   ·rw[List.getElem?_eq_none (by omega),List.getElem?_eq_none (by omega)]
theorem fE9{x y:D}{t:Bool}{G:DH}{Q:DPP}(h:eqN 40 G x y=some t):Wp (eqD x y) G Q↔Q (.bl t) G:=by
 rw[bK2,h];exact R9
theorem dE6(n:Nat):(N8 0 n).length=n:=by unfold N8;rw[List.length_map,List.length_range]
open Classical in
theorem cO6:∀(n:Nat) {x y:D} {G:DH},TS n x→TS n y→Wp (aD7 n [x,y]) G fun r G'=>r= .bl (decide (x=y))∧Ap G G'
 |0,_,_,_,h,_=>h.elim
 |n+1,x,y,G,hx,hy=>by
   have hsl:10000001≤sizeLine:=by decide
   show Wp (t8 2 (aF3 (aD7 n)) [x,y]) G _
   unfold aF3
   have s0:([x,y].map some++List.replicate (2 - [x,y].length) none:DSt)= [some x,some y]:=rfl
   simp only[aW8,s0,m8,bY1,dO7,bD1,bM1,aH1,bA3,aI6,aF5,X7,t6,cN0,aB6,K1,wp_comp,rng1,List.getElem?_cons_zero,List.getElem?_cons_succ,Option.some.injEq,exists_eq_left',dA2 hx.there,dA2 hy.there,cQ3 hx.there,cQ3 hy.there,fJ5,cN2,U8]
   rcases hx with⟨i,rfl⟩|⟨k,rfl⟩|⟨z,rfl⟩|⟨l,rfl,hll,hl⟩<;>rcases hy with⟨i',rfl⟩|⟨k',rfl⟩|⟨z',rfl⟩|⟨l',rfl,hll',hl'⟩
   case inr.inr.inr.inr.inr.inr=>
    simp only[cZ8,cH9,beq_self_eq_true,Bool.not_true,Bool.false_eq_true,if_false,cY0,eZ7,cN2]
    by_cases hlen:l.length=l'.length
    · have hlen':(l.length:Int)= (l'.length:Int):=by omega
      simp only[hlen',decide_true,Bool.not_true,Bool.false_eq_true,if_false]
      rw[rng1_int ⟨by omega,by omega⟩,←hlen',Int.toNat_natCast]
      refine⟨by show (N8 0 l.length).length≤_;rw[dE6];omega,?_⟩
      refine Wp.mono (aA2 (fun G'=>Ap G G') (fun σ=>∃w,σ= [w,some (.tup l),some (.tup l')]) (fun d=>.bl (dW9 l l' d)) (fun _ _=>rfl) (N8 0 l.length) _ G ⟨none,rfl⟩ Ap.refl fun d hd σ G3 hσ a3=>?_) fun ys G3 ⟨a3,ey⟩=>?_
      · obtain⟨w,rfl⟩:=hσ
        unfold N8 at hd
        obtain⟨i,hi,rfl⟩:=List.mem_map.mp hd
        rw[List.mem_range]at hi
        have hi':i<l'.length:=by omega
        have z0:(0:Int)+(i:Int)= (i:Int):=by omega
        rw[z0]
        simp only[U0,List.set_cons_zero,wp_trueT,aF5,X7,t6,aI6,aB6,List.getElem?_cons_zero,List.getElem?_cons_succ,Option.some.injEq,exists_eq_left',Z6,ix_tup,atI_nat (List.getElem?_eq_getElem hi),atI_nat (List.getElem?_eq_getElem hi')]
        refine⟨trivial,⟨_,rfl⟩,trivial,trivial,rfl,Wp.mono (cO6 n (G:=G3) (hl _ (List.getElem_mem hi)) (hl' _ (List.getElem_mem hi'))) fun r G4 ⟨er,a4⟩=>⟨a3.trans a4,?_⟩⟩
        rw[er]
        simp[dW9,List.getElem?_eq_getElem hi,List.getElem?_eq_getElem hi']
      · subst ey
        rw[bF9 o6,dO4 hlen]
        refine⟨?_,a3.trans Ap.one⟩
        congr 1
        rw[decide_eq_decide]
        exact⟨fun e=>by rw[e],fun e=>by cases e;rfl⟩
    · have hlen':¬(l.length:Int)= (l'.length:Int):=by omega
      simp only[hlen',decide_false,Bool.not_false,if_true]
      refine⟨?_,Ap.refl⟩
      have:¬D.tup l=D.tup l':=fun e=>by cases e;exact hlen rfl
      rw[decide_eq_false this]
   all_goals simp only[cZ8,cH9,beq_self_eq_true,show (true==false)=false from rfl,show (false==true)=false from rfl,Bool.not_true,Bool.not_false,Bool.false_eq_true,if_false,if_true]
   all_goals first
    |(rw[bG8];exact⟨by congr 1;rw[decide_eq_decide];exact⟨fun e=>by rw[e],fun e=>by cases e;rfl⟩,Ap.refl⟩)
    |(rw[eK0];refine⟨?_,Ap.refl⟩;congr 1;by_cases e:k=k';(subst e;simp);(rw[decide_eq_false (fun z=>e (by cases z;rfl))];simpa using e))
    |(rw[cE2];refine⟨?_,Ap.refl⟩;congr 1;by_cases e:z=z';(subst e;simp);(rw[decide_eq_false (fun q=>e (by cases q;rfl))];simpa using e))
    |(rw[fE9 (t:=false) rfl];exact⟨by rw[decide_eq_false (fun z=>by cases z)],Ap.refl⟩)
    |exact⟨by rw[decide_eq_false (fun z=>by cases z)],Ap.refl⟩
noncomputable def W5:List Str:= ["number", "text", "truth", "list", "record"]
def kOf(w:Str):D:=(aO1 R5 w).getD .non
noncomputable def bL9:D:=.tup [.tup [],.str aV0]
theorem k1:aO1 R5 "number" =some (mkS [(.non,.non)] wOf [] [] .non .non):=rfl
theorem k2:aO1 R5 "text" =some (mkS [] dI0 [] [] .non .non):=rfl
theorem k3:aO1 R5 "truth" =some (mkS [] wOf [] [false,true] .non .non):=rfl
theorem k4:aO1 R5 "list" =some (mkS [] wOf [] [] bL9 .non):=rfl
theorem k5:aO1 R5 "record" =some (mkS [] wOf [] [] .non bL9):=rfl
theorem w5{P:Str→Prop}(h1:P "number")(h2:P "text")(h3:P "truth")(h4:P "list")(h5:P "record"):∀w∈W5,P w:=by
 intro w hw
 simp only[W5,List.mem_cons,List.not_mem_nil,or_false]at hw
 rcases hw with rfl|rfl|rfl|rfl|rfl
 ·exact h1
 ·exact h2
 ·exact h3
 ·exact h4
 ·exact h5
theorem fN3:∀w∈W5,aO1 R5 w=some (kOf w):=w5 rfl rfl rfl rfl rfl
theorem bZ6{n:Nat}{ns:List (D×D)}{w:Str}{tr:List Bool}{li re:D}(h1:∀p∈ns,aR1 p)(h2:ns.length≤100)(h5:tr.length≤100)(h6:LiP (SB n) li)(h7:ReP (SB n) re):SB (n+1) (mkS ns w [] tr li re):=.inr ⟨ns,w, [],tr,li,re,rfl,h1,h2,t0,by decide,h5,h6,h7⟩
theorem eU1:LiP (SB 1) bL9:=.inr ⟨[],_,rfl,by decide,(fun _ h=>nomatch h),.inl rfl⟩
theorem eO7:ReP (SB 1) bL9:=.inr ⟨[],_,rfl,by decide,List.nodup_nil,(fun _ h=>nomatch h),.inl rfl⟩
theorem dW8:∀p∈([(.non,.non)]:List (D×D)),aR1 p:=fun p hp=>by
 rw[List.mem_singleton.mp hp]
 exact⟨trivial,trivial,fun a b e=>by cases e⟩
theorem eP8:∀w∈W5,SB 2 (kOf w):=w5 (show SB 2 (mkS [(.non,.non)] wOf [] [] .non .non)from bZ6 dW8 (by decide) (by decide) (.inl rfl) (.inl rfl)) (show SB 2 (mkS [] dI0 [] [] .non .non)from bZ6 r0 (by decide) (by decide) (.inl rfl) (.inl rfl)) (show SB 2 (mkS [] wOf [] [false,true] .non .non)from bZ6 r0 (by decide) (by decide) (.inl rfl) (.inl rfl)) (show SB 2 (mkS [] wOf [] [] bL9 .non)from bZ6 r0 (by decide) (by decide) eU1 (.inl rfl)) (show SB 2 (mkS [] wOf [] [] .non bL9)from bZ6 r0 (by decide) (by decide) (.inl rfl) eO7)
theorem cQ8{w:Str}{G:DH}{Q:DPP}(hw:w∈W5)(q:Q (kOf w) G):Wp (aB2 [.str w]) G Q:=by
 refine J3 (show Wp (aQ3 [some (.str w)]) G _ from ?_)
 unfold aQ3
 exact J9<| X3 (x:=.fn "KIND_SETS") (y:=.str w) (G2:=G) rfl rfl<| eP7 (fN3 w hw) (M6 q)
noncomputable def cY3:D→List Bool
 | .int _=> [true,false,false,false,false]
 | .str _=> [false,true,false,false,false]
 | .bl _=> [false,false,true,false,false]
 | .tup (.str w::_)=> [false,false,false,w==K9,w==T4]
 |_=> []
theorem eZ2{f:D→D→Bool}{l:List D}(h:∀x∈l,f x (.str aV0)=true):cM0 f l bL9=true:=by
 show (decide (0≤l.length)&&(List.range l.length).all fun k=>f (l.getD k .non) (([]++List.replicate l.length (D.str aV0)).getD k .non))=true
 rw[decide_eq_true (Nat.zero_le _),Bool.true_and,List.all_eq_true]
 intro k hk
 have hk:=List.mem_range.mp hk
 rw[List.nil_append,List.getD_eq_getElem?_getD,List.getD_eq_getElem?_getD,List.getElem?_replicate,if_pos hk,List.getElem?_eq_getElem hk]
 exact h _ (List.getElem_mem hk)
theorem eY9{f:D→D→Bool}{ps:List (Str×D)}(h:∀p∈ps,f p.2 (.str aV0)=true):cI5 f (ps.map K5) bL9=true:=by
 show (true&&(ps.map K5).all (cO9 f [] (.str aV0)))=true
 rw[Bool.true_and,List.all_eq_true]
 intro x hx
 obtain⟨p,hp,rfl⟩:=List.mem_map.mp hx
 exact h p hp
theorem dM7{b n:Nat}{x:D}(h:VW b n x):inP n x (.str aV0)=true:=by
 rcases n with _|n
 ·exact h.elim
 ·rfl
theorem eN5{b m:Nat}{one:D}(h:VW b m one):W5.map (fun w=>inP m one (kOf w))=cY3 one:=by
 have e:∀f:D→Bool,W5.map (fun w=>f (kOf w))= [f (mkS [(.non,.non)] wOf [] [] .non .non),f (mkS [] dI0 [] [] .non .non),f (mkS [] wOf [] [false,true] .non .non),f (mkS [] wOf [] [] bL9 .non),f (mkS [] wOf [] [] .non bL9)]:=fun f=>rfl
 rw[e]
 rcases m with _|m
 ·exact h.elim
 rcases h with⟨i,rfl⟩|⟨k,rfl⟩|⟨z,rfl,_⟩|⟨l,rfl,_,hl⟩|⟨ps,rfl,_,_,hl⟩
 ·rfl
 ·cases k<;>rfl
 ·rfl
 ·rw[aO3,aO3,aO3,aO3,aO3,eZ2 fun x hx=>dM7 (hl x hx)];rfl
 ·rw[aO9,aO9,aO9,aO9,aO9,eY9 fun p hp=>dM7 (hl p hp).2];rfl
theorem dA1:W7=o4 (N7 (U6 (q12 o5 (q10 (c7 0) (q10 (cE (.ty "int")) (q11)))) (bG4 (q12 o5 (q10 (c7 0) (q10 (cE (.ty "bool")) (q11)))))) (q13 1)) (o4 (N7 (aA6 (q10 (c7 1) (q10 (q12 o5 (q10 (c7 0) (q10 (cE (.ty "str")) (q11)))) (q10 (q12 o5 (q10 (c7 0) (q10 (cE (.ty "bool")) (q11)))) (q11))))) (q13 2)) K3):=rfl
noncomputable def kwD(kw:Str→Bool):D→D
 | .str w=>.bl (kw w)
 |_=>.non
theorem dC0{one:D}{x y z:Bool}{kw:Str→Bool}{u:Option D}{G:DH}{Q:DPP}(hk:∀(w:Str) (G:DH),KE [some (.str w),some one] G=some (.ok (.bl (kw w)),G))(q:∀w G',Ap G G'→G'[w]? =some (.lst ([x,y,z,kw K9,kw T4].map D.bl))→Q (.ref w) G'):Wp (K3 [some one,u,some (.ref G.length)]) (G++[.lst [.bl x,.bl y,.bl z]]) (PB Q):=by
 have bg:1000≤sizeLine:=by decide
 have e1:(G++[.lst [.bl x,.bl y,.bl z]])[G.length]? =some (.lst [.bl x,.bl y,.bl z]):=o6
 have a1:Ap G (G++[.lst [.bl x,.bl y,.bl z]]):=Ap.one
 generalize G++[DO.lst [.bl x,.bl y,.bl z]]=G1 at *
 generalize G.length=p at *
 refine J9<| bin_w<| g8 (a:=.ref p) (G':=G1) rfl<| wp_comp.mpr<| wp_itW.mpr<| aM1.mpr<| g8 (a:= [.str K9,.str T4]) (G':=G1) rfl ⟨sz,(aU5 o6).mpr ⟨sz,?_⟩⟩
 refine(bI6 (Ap (G1++[.lst [.str K9,.str T4]])) (fun σ=>∃u,σ= [u,some one]) (fun d y=>y=kwD kw d) (fun G' a=>dE3 (a.at o6)) [.str K9,.str T4] _ _ ⟨_,rfl⟩ Ap.refl ?_).mono ?_
 · rintro d hd _ G2 ⟨u,rfl⟩ a2
   have:∃w,d= .str w:=by
    rcases List.mem_cons.mp hd with rfl|hd
    ·exact⟨_,rfl⟩
    ·rw[List.mem_singleton.mp hd];exact⟨_,rfl⟩
   obtain⟨w,rfl⟩:=this
   exact U0.mpr ⟨rfl,⟨_,rfl⟩,g8 (hk w G2) ⟨a2,rfl⟩⟩
 · rintro _ G2 ⟨a2,zs,ez,rfl,hz⟩
   rw[bB1 hz,ez]
   exact(dB4 (aB4 ((Ap.one.trans a2).at e1)) o6 (show 3+2≤_ by lia)).mpr<| M6 (q _ _ (a1.trans (Ap.one.trans (a2.trans (Ap.one.trans Ap.one)))) o6)
theorem eW3{x w:Str}{y:D}{G:DH}:KE [some (.str w),some (.tup [.str x,y])] G=some (.ok (.bl (x==w)),G):=rfl
theorem cK8{x:Str}{l:List D}{G:DH}{Q:DPP}(q:∀w G',Ap G G'→G'[w]? =some (.lst ([false,false,false,x==K9,x==T4].map D.bl))→Q (.ref w) G'):Wp (aA3 [.tup [.str x,.tup l]]) G Q:=by
 refine J3 (show Wp (W7 [some (.tup [.str x,.tup l]),none,none]) G _ from ?_)
 rw[dA1]
 refine m6 (σ':= [some (.tup [.str x,.tup l]),some (.bl false),none]) (G':=G) rfl ?_
 refine m6 (σ':= [some (.tup [.str x,.tup l]),some (.bl false),some (.ref G.length)]) (G':=G++[.lst [.bl false,.bl false,.bl false]]) rfl ?_
 exact dC0 (x:=false) (y:=false) (z:=false) (kw:=fun w=>x==w) (fun w G=>eW3) q
theorem cY9{x:Str}{l:List D}:cY3 (.tup [.str x,.tup l])= [false,false,false,x==K9,x==T4]:=rfl
theorem dL1{b m:Nat}{one:D}{G:DH}{Q:DPP}(h:VW b m one)(q:∀w G',Ap G G'→G'[w]? =some (.lst ((cY3 one).map D.bl))→Q (.ref w) G'):Wp (aA3 [one]) G Q:=by
 rcases m with _|m
 ·exact h.elim
 rcases h with⟨i,rfl⟩|⟨k,rfl⟩|⟨z,rfl,_⟩|⟨l,rfl,_,_⟩|⟨ps,rfl,_,_,_⟩
 · refine J3 (show Wp (W7 [some (.int i),none,none]) G _ from ?_)
   rw[dA1]
   exact m6 (σ':= [some (.int i),some (.bl true),none]) (G':=G) rfl<| m6 (σ':= [some (.int i),some (.bl true),some (.ref G.length)]) (G':=G++[.lst [.bl true,.bl false,.bl false]]) rfl<| dC0 (kw:=fun _=>false) (fun w G=>rfl) q
 · refine J3 (show Wp (W7 [some (.bl k),none,none]) G _ from ?_)
   rw[dA1]
   exact m6 (σ':= [some (.bl k),some (.bl false),none]) (G':=G) rfl<| m6 (σ':= [some (.bl k),some (.bl false),some (.ref G.length)]) (G':=G++[.lst [.bl false,.bl false,.bl true]]) rfl<| dC0 (kw:=fun _=>false) (fun w G=>rfl) q
 · refine J3 (show Wp (W7 [some (.str z),none,none]) G _ from ?_)
   rw[dA1]
   exact m6 (σ':= [some (.str z),some (.bl false),none]) (G':=G) rfl<| m6 (σ':= [some (.str z),some (.bl false),some (.ref G.length)]) (G':=G++[.lst [.bl false,.bl true,.bl false]]) rfl<| dC0 (kw:=fun _=>false) (fun w G=>rfl) q
 · rw[cY9]at q
   exact cK8 q
 · rw[cY9]at q
   exact cK8 q
def fF6(m:Nat)(one:D):D→D
 | .str w=>.bl (inP m one (kOf w))
 |_=>.non
theorem fA9{b m p:Nat}{σ:DSt}{one:D}{G:DH}{Q:DPP}(hv:σ[2]? =some (some (.ref p)))(hc:aA9 [none,some 11] σ= [none,some one])(e:G[p]? =some (.lst (W5.map D.str)))(h:VW b m one)(hb:b≤1000)(hm:m≤60)(q:∀w G',Ap G G'→G'[w]? =some (.lst ((cY3 one).map D.bl))→Q (.ref w) G'):Wp (TK σ) G Q:=by
 have bg:1000≤sizeLine:=by decide
 refine wp_comp.mpr<| wp_itW.mpr<| aB6.mpr ⟨_,hv,(aU5 e).mpr ⟨by show 5≤_;lia,?_⟩⟩
 rw[hc]
 refine(bI6 (Ap G) (fun σ=>∃u,σ= [u,some one]) (fun d y=>y=fF6 m one d) (fun G' a=>dE3 (a.at e)) (W5.map D.str) _ G ⟨_,rfl⟩ Ap.refl ?_).mono ?_
 · rintro d hd _ G1 ⟨u,rfl⟩ a1
   obtain⟨w,hw,rfl⟩:=List.mem_map.mp hd
   refine U0.mpr ⟨rfl,⟨_,rfl⟩,R6<| M9 (x:=one) (G1:=G1) rfl<| v6<| m9 (as:= [.str w]) rfl rfl<| cQ8 hw<| t6.mpr<| Z6.mpr ⟨rfl,?_⟩⟩
   exact(cD1 hb m 2 60 one (kOf w) G1 hm h (eP8 w hw)).mono fun x G2 ⟨ex,a2⟩=>⟨a1.trans a2,ex⟩
 · rintro _ G1 ⟨a1,zs,ez,rfl,hz⟩
   refine q _ _ (a1.trans Ap.one) ?_
   rw[bB1 hz,ez,←eN5 h,List.map_map,List.map_map]
   exact o6
theorem eH4{n:Nat}{G:DH}{p q:Nat}{a b:List D}(ea:G[p]? =some (.lst a))(eb:G[q]? =some (.lst b))(hl:a.length=b.length):eqN (n+1) G (.ref p) (.ref q)=eqL (eqN n G) a b:=by
 have h1:aC6 G (.ref p)=some (false,a):=by simp only[aC6,ea]
 have h2:aC6 G (.ref q)=some (false,b):=by simp only[aC6,eb]
 rw[bT1,h1,h2]
 show (if false=false then (if false=false∧a.length≠b.length then some false else eqL (eqN n G) a b)else some false)=_
 rw[if_pos rfl,if_neg (fun h=>h.2 hl)]
theorem eU9{G:DH}{p q:Nat}{l:List Bool}(ea:G[p]? =some (.lst (l.map D.bl)))(eb:G[q]? =some (.lst (l.map D.bl))):eqN 40 G (.ref p) (.ref q)=some true:=
 (eH4 ea eb rfl).trans (bQ4 fun x hx=>by
   obtain⟨b,_,rfl⟩:=List.mem_map.mp hx
   exact bS9 (n:=1) (by decide) rfl)
theorem cB7{a b:D}{G:DH}{Q:DPP}(h:aT4 a)(h':aT4 b)(he:bN9 a b=true)(q:Q noS G):Wp (Q8 [a,b]) G Q:=by
 refine J3 (show Wp (aI5 [some a,some b]) G _ from ?_)
 unfold aI5
 refine J9<| bH5.mpr<| aH1.mpr<| m9 (as:= [a,b]) rfl rfl<| (aG6 h h').mpr<| U8.mpr ?_
 rw[he]
 exact g8 (a:=noS) (G':=G) rfl (M6 q)
theorem fG7:cZ3=o4 (N7 EV (q13 1)) (o4 (N7 WE (q13 2)) (o4 (bK7 (aD9 (q10 (cE (.int 5)) (q11))) (q13 3) LK) (o4 (bK7 (bG7 (q10 (S7 (c7 0) (T6) (Z5 (cE (.int 63)))) (q11))) (aL0 2 (M5 (q13 5) (M5 (q13 6) (aM6)))) LB') LZ))):=rfl
theorem Ap.fr{r:Nat}{G G':DH}(h:V6 G r)(a:Ap G G'):Fr r G G':=by
 obtain⟨t,rfl⟩:=a
 exact Fr.app h
section
variable{a0 a1 a3 a4 a5 a6 a7 a8 a9 a10 a11 a12 a13 a14:Option D}
theorem bN4{k:Nat}{x:D}{G:DH}{Q:DPP}(hk:k≤9)(h:SB k x)(q:Q (.bl false) G):Wp (neD x x) G Q:=by
 obtain⟨b,e,i⟩:=SB.eqN (G:=G) hk h h
 obtain rfl:=i.mpr rfl
 exact bQ0.mpr ⟨true,e,q⟩
noncomputable def n5:List D:= [.tup [],.tup [.str wOf,.tup []],.tup [],.non,.non]
def e5:List D:= [.tup [.tup [.non,.non]],.tup [.str dI0,.tup []],.tup [.bl false,.bl true],bL9,bL9]
theorem bB6{p i:Nat}{w:Str}{e:D}{u4:Option D}{G:DH}(hp:G[p]? =some (.lst (W5.map D.str)))(hi:i<5)(hw:w∈W5)(h1:(W5.map D.str)[i]? =some (.str w))(h2:e5[i]? =some e)(h3: .tup (n5.set i e)=kOf w):
 Wp (LK [a0,some evS,some (.ref p),some (.int i),u4,a5,a6,a7,a8,a9,a10,a11,a12,a13,a14]) G fun fl G'=>(∃u4,fl= .nx [a0,some evS,some (.ref p),some (.int i),u4,a5,a6,a7,a8,a9,a10,a11,a12,a13,a14])∧Ap G G':=by
 refine m6 (σ':= [a0,some evS,some (.ref p),some (.int i),some (.ref G.length),a5,a6,a7,a8,a9,a10,a11,a12,a13,a14]) (G':=G++[.lst n5]) rfl ?_
 have i1:ixN n5.length (i:Int)=some i:=by
  have:i=0∨i=1∨i=2∨i=3∨i=4:=by lia
  rcases this with rfl|rfl|rfl|rfl|rfl<;>rfl
 refine m8.mpr<| aS4.mpr<| X3 (x:=evS) (y:=.int i) (G2:=G++[.lst n5]) rfl rfl<| (ix_tup (l:=e5)).mpr ⟨e,atI_nat h2,eB3 (k:=i) rfl rfl o6 i1 ?_⟩
 have e1:((G++[DO.lst n5]).set G.length (.lst (n5.set i e)))=G++[.lst (n5.set i e)]:=by rw[List.set_append_right _ _ (Nat.le_refl _),Nat.sub_self];rfl
 rw[e1]
 refine aH2<| R8<| bin_w<| R6<| v6<| ixv (G1:=G) (r:=p) (j:=i) rfl rfl (aB4 hp) (atI_nat h1)<| t6.mpr<| Z6.mpr ⟨rfl,cQ8 hw<| aX7 (as:= [.ref G.length]) rfl<| (aC4 o6).mpr ?_⟩
 rw[h3]
 exact bN4 (k:=2) (by decide) (eP8 w hw) ⟨false,rfl,fun h=>(nomatch h),fun _=>K1.mpr ⟨⟨_,rfl⟩,Ap.one⟩⟩
theorem dB7{p:Nat}:∀(l:List Nat) (u3 u4:Option D) (G:DH),(∀i∈l,i<5)→G[p]? =some (.lst (W5.map D.str))→
 Wp (aM4 (q13 3) LK (fun _=>true) (l.map fun i:Nat=>D.int (i:Int)) [a0,some evS,some (.ref p),u3,u4,a5,a6,a7,a8,a9,a10,a11,a12,a13,a14]) G fun fl G'=>(∃u3 u4,fl= .nx [a0,some evS,some (.ref p),u3,u4,a5,a6,a7,a8,a9,a10,a11,a12,a13,a14])∧Ap G G'
 |[],u3,u4,G,_,_=>bC2.mpr ⟨rfl,⟨_,_,rfl⟩,Ap.refl⟩
 |i::l,u3,u4,G,hl,hp=>by
   have hi:=hl i (List.mem_cons_self ..)
   have step:Wp (LK [a0,some evS,some (.ref p),some (.int i),u4,a5,a6,a7,a8,a9,a10,a11,a12,a13,a14]) G fun fl G'=>(∃u4,fl= .nx [a0,some evS,some (.ref p),some (.int i),u4,a5,a6,a7,a8,a9,a10,a11,a12,a13,a14])∧Ap G G':=by
    have:i=0∨i=1∨i=2∨i=3∨i=4:=by lia
    rcases this with rfl|rfl|rfl|rfl|rfl
    ·exact bB6 (i:=0) hp (by decide) (w:= "number") (List.Mem.head _) rfl rfl rfl
    ·exact bB6 (i:=1) hp (by decide) (w:= "text") (List.Mem.tail _ (List.Mem.head _)) rfl rfl rfl
    ·exact bB6 (i:=2) hp (by decide) (w:= "truth") (List.Mem.tail _ (List.Mem.tail _ (List.Mem.head _))) rfl rfl rfl
    ·exact bB6 (i:=3) hp (by decide) (w:= "list") (List.Mem.tail _ (List.Mem.tail _ (List.Mem.tail _ (List.Mem.head _)))) rfl rfl rfl
    ·exact bB6 (i:=4) hp (by decide) (w:= "record") (List.Mem.tail _ (List.Mem.tail _ (List.Mem.tail _ (List.Mem.tail _ (List.Mem.head _))))) rfl rfl rfl
   refine bD8.mpr ⟨rfl,U0.mpr<| step.mono ?_⟩
   rintro _ G1 ⟨⟨v4,rfl⟩,j1⟩
   refine(dB7 l _ v4 G1 (fun x hx=>hl x (List.mem_cons_of_mem _ hx)) (j1.at hp)).mono ?_
   rintro _ G2 ⟨⟨v3,v4',rfl⟩,j2⟩
   exact⟨⟨_,_,rfl⟩,j1.trans j2⟩
theorem eA6{p:Nat}{v one:D}{u12:Option D}{G:DH}(hp:G[p]? =some (.lst (W5.map D.str)))(hv:VT 5 v)(ho:VW 10 7 one):
 Wp (LO [a0,a1,some (.ref p),a3,a4,a5,a6,a7,some v,some (sgF 5 v),a10,some one,u12,a13,a14]) G fun fl G'=>(∃u12,fl= .nx [a0,a1,some (.ref p),a3,a4,a5,a6,a7,some v,some (sgF 5 v),a10,some one,u12,a13,a14])∧Ap G G':=by
 classical
 refine m8.mpr<| aC5<| m9 (as:= [one,sgF 5 v]) rfl rfl<| (cD1 (b:=10) (by decide) 7 6 60 one (sgF 5 v) G (by decide) ho (cB0 hv)).mono ?_
 rintro _ G1 ⟨rfl,j1⟩
 have e:inP 7 one (sgF 5 v)=decide (one=v):=by
  have:=bM2 (b:=10) hv ho
  rcases h:inP 7 one (sgF 5 v)with _|_
  ·exact(decide_eq_false fun z=>by rw[h]at this;exact nomatch this.mpr z).symm
  ·exact(decide_eq_true (this.mp h)).symm
 rw[e]
 have ts1:TS 40 one:=(ho.ts (by decide)).le (by decide)
 have ts2:TS 40 v:=(hv.vw.ts (by decide)).le (by decide)
 refine m8.mpr<| aH2<| cR7<| g8 (a:=false) (G':=G1) rfl ⟨fun h=>(nomatch h),fun _=>R8<| bin_w<| g8 (a:=.bl (decide (one=v))) (G':=G1) rfl<| m9 (as:= [one,v]) rfl rfl<| (cO6 40 ts1 ts2).mono ?_⟩
 rintro _ G2 ⟨rfl,j2⟩
 refine bQ0.mpr ⟨true,by cases (decide (one=v))<;>rfl,false,rfl,fun h=>(nomatch h),fun _=>K1.mpr ?_⟩
 have hp2:=(j1.trans j2).at hp
 refine aH2<| R8<| bin_w<| fA9 (p:=p) rfl rfl hp2 ho (by decide) (by decide) fun w G3 j3 e3=>m9 (as:= [one]) rfl rfl<| dL1 ho fun w' G4 j4 e4=>?_
 exact bQ0.mpr ⟨true,eU9 (j4.at e3) e4,false,rfl,fun h=>(nomatch h),fun _=>K1.mpr ⟨⟨_,rfl⟩,j1.trans (j2.trans (j3.trans j4))⟩⟩
theorem dA6{p w0:Nat}{v:D}{l0:List D}(hv:VT 5 v):∀(l:List D) (u11 u12:Option D) (G:DH),(∀x∈l,VW 10 7 x)→G[p]? =some (.lst (W5.map D.str))→G[w0]? =some (.lst l0)→
 Wp (aM4 (q13 11) LO (ckO w0 (.lst l0)) l [a0,a1,some (.ref p),a3,a4,a5,a6,a7,some v,some (sgF 5 v),a10,u11,u12,a13,a14]) G fun fl G'=>(∃u11 u12,fl= .nx [a0,a1,some (.ref p),a3,a4,a5,a6,a7,some v,some (sgF 5 v),a10,u11,u12,a13,a14])∧Ap G G'
 |[],u11,u12,G,_,_,e0=>bC2.mpr ⟨dE3 e0,⟨_,_,rfl⟩,Ap.refl⟩
 |x::l,u11,u12,G,hl,hp,e0=>by
   refine bD8.mpr ⟨dE3 e0,U0.mpr<| (eA6 hp hv (hl x (List.mem_cons_self ..))).mono ?_⟩
   rintro _ G1 ⟨⟨v12,rfl⟩,j1⟩
   refine(dA6 hv l _ _ G1 (fun x h=>hl x (List.mem_cons_of_mem _ h)) (j1.at hp) (j1.at e0)).mono ?_
   rintro _ G2 ⟨⟨v11,v12',rfl⟩,j2⟩
   exact⟨⟨_,_,rfl⟩,j1.trans j2⟩
noncomputable def En(d:D):Prop:=d= .non∨∃i:Int,d= .int i∧ -1000000000000000000≤i∧i≤1000000000000000000
theorem En.ep{d:D}(h:En d):aT4 d:=by rcases h with rfl|⟨i,rfl,_⟩<;>trivial
theorem fG0{r:Nat}{u:Option D}{G:DH}(h:V6 G r):Wp (LE [u,some (.ref r)]) G fun y G'=>Fr r G G'∧En y:=by
 refine bin_w<| aM1.mpr<| v6<| m9 (as:= [.ref r]) rfl rfl<| cN5 h fun i h1 h2 G1 f1=>g8 (a:= [.non]) (G':=G1) rfl ⟨sz,?_⟩
 have f2:Fr r G1 (G1++[.lst [.int i,.non]]):=Fr.app f1.2.2
 have p2:G1.length≠r:=by have:=f1.lt;lia
 have e2:(G1++[.lst [.int i,.non]])[G1.length]? =some (.lst [.int i,.non]):=o6
 generalize G1++[DO.lst [.int i,.non]]=G2 at *
 generalize G1.length=p at *
 refine bin_w<| m9 (as:= [.ref r,.int 4]) rfl rfl<| aD1 f2.2.2 ⟨by decide,by decide⟩ fun k h3 h4 G3 f3=>g8 (a:=.int 3) (G':=G3) rfl<| (bR4 ⟨by decide,by decide⟩).mpr<| (cH1 (f3.at p2 e2)).mpr ?_
 have hk:k / 3=0∨k / 3=1:=by lia
 rcases hk with hk|hk<;>rw[hk]
 ·exact⟨.int i,rfl,f1.trans (f2.trans f3),.inr ⟨i,rfl,h1,h2⟩⟩
 ·exact⟨.non,rfl,f1.trans (f2.trans f3),.inl rfl⟩
theorem eV0{a b:D}(h:aR1 (a,b)):SB 2 (mkS [(a,b)] wOf [] [] .non .non):=bZ6 (fun p hp=>by rw[List.mem_singleton.mp hp];exact h) (show 1≤100 by decide) (by decide) (.inl rfl) (.inl rfl)
def LT3:Fs:=(ifS (J2 (d7 neD (q12 (fnX 2 Q8) (q10 (c7 13) (q10 (c7 14) (q11)))) (c7 4))) (o7 (cE (.bl false))) (t7))
theorem dJ8{a2:Option D}{lo hi d:D}{G:DH}(hd:SB 2 d)(st:∀ {Q:DPP},(∀G',Ap G G'→Q d G')→Wp (Q8 [lo,hi]) G Q):Wp (LT3 [a0,a1,a2,a3,some d,a5,a6,a7,a8,a9,a10,a11,a12,some lo,some hi]) G fun fl G'=>(∃u4,fl= .nx [a0,a1,a2,a3,u4,a5,a6,a7,a8,a9,a10,a11,a12,some lo,some hi])∧Ap G G':=
 aH2<| R8<| bin_w<| m9 (as:= [lo,hi]) rfl rfl<| st fun G' a=>g8 (a:=d) (G':=G') rfl<| bN4 (by decide) hd ⟨false,rfl,fun h=>(nomatch h),fun _=>K1.mpr ⟨⟨_,rfl⟩,a⟩⟩
theorem eQ1{a2:Option D}{lo hi:D}{u4:Option D}{G:DH}(h1:En lo)(h2:En hi):Wp (LT2 [a0,a1,a2,a3,u4,a5,a6,a7,a8,a9,a10,a11,a12,some lo,some hi]) G fun fl G'=>(∃u4,fl= .nx [a0,a1,a2,a3,u4,a5,a6,a7,a8,a9,a10,a11,a12,some lo,some hi])∧Ap G G':=by
 refine m6 (σ':= [a0,a1,a2,a3,some (mkS [(lo,hi)] wOf [] [] .non .non),a5,a6,a7,a8,a9,a10,a11,a12,some lo,some hi]) (G':=G) rfl ?_
 have good:aR1 (lo,hi)→bN9 lo hi=false→Wp (LT3 [a0,a1,a2,a3,some (mkS [(lo,hi)] wOf [] [] .non .non),a5,a6,a7,a8,a9,a10,a11,a12,some lo,some hi]) G fun fl G'=>(∃u4,fl= .nx [a0,a1,a2,a3,u4,a5,a6,a7,a8,a9,a10,a11,a12,some lo,some hi])∧Ap G G':=fun hr he=>dJ8 (eV0 hr) (aW4 hr he)
 rcases h1 with rfl|⟨i,rfl,i1,i2⟩
 ·exact m6 (σ':= [a0,a1,a2,a3,some (mkS [(.non,hi)] wOf [] [] .non .non),a5,a6,a7,a8,a9,a10,a11,a12,some .non,some hi]) (G':=G) rfl<| good ⟨trivial,h2.ep,fun a b e=>by cases e⟩ rfl
 · rcases h2 with rfl|⟨j,rfl,j1,j2⟩
   ·exact m6 (σ':= [a0,a1,a2,a3,some (mkS [(.int i,.non)] wOf [] [] .non .non),a5,a6,a7,a8,a9,a10,a11,a12,some (.int i),some .non]) (G':=G) rfl<| good ⟨trivial,trivial,fun a b _ e=>by cases e⟩ rfl
   · refine m8.mpr<| aH2<| bX3<| g8 (a:=true) (G':=G) rfl ⟨fun _=>bX3<| g8 (a:=true) (G':=G) rfl ⟨fun _=>R8<| X3 (x:=.int i) (y:=.int j) (G2:=G) rfl rfl<| cV3.mpr ⟨_,rfl,fun h=>?_,fun h=>?_⟩,fun h=>(nomatch h)⟩,fun h=>(nomatch h)⟩
     ·exact aC5<| g8 (a:=noS) (G':=G) rfl<| dJ8 aP3 fun q=>cB7 trivial trivial h (q G Ap.refl)
     ·exact K1.mpr<| good ⟨trivial,trivial,fun a b ea eb=>by cases ea;cases eb;have:=of_decide_eq_false h;exact⟨by lia,by lia⟩⟩ h
theorem fL4{r:Nat}{x y:D}{g:Fgs}{σ:DSt}{G:DH}{S:DSt→DH→Prop}(e:G[r]? =some (.lst [x,y]))(w:Wp (g [x,y] σ) G S):Wp (eF7 2 g (.ref r) σ) G S:=by
 have e0:eF7 2 g (.ref r) σ= (R4 r >>= listOf >>= fun l=>if l.length=2 then g l σ else M.stuck):=rfl
 rw[e0]
 refine m5.mpr (m5.mpr (T7.mpr ?_))
 rw[e]
 exact R9.mpr (g8 (a:= [x,y]) rfl w)
theorem fG1{r:Nat}{a2:Option D}{G:DH}(h:V6 G r):Wp (LS [a0,a1,a2,a3,a4,a5,a6,some (.ref r),a8,a9,a10,a11,a12,a13,a14]) G fun fl G'=>(∃u4 u13 u14,fl= .nx [a0,a1,a2,a3,u4,a5,a6,some (.ref r),a8,a9,a10,a11,a12,u13,u14])∧Fr r G G':=by
 refine m8.mpr<| aS4.mpr<| wp_comp.mpr<| rng1.mpr<| g8 (a:= [D.int 2]) (G':=G) rfl<| (rng1_int (j:=2) ⟨by decide,by decide⟩).mpr ⟨sz,?_⟩
 refine(bI6 (Fr r G) (fun σ=>∃u,σ= [u,some (.ref r)]) (fun _ y=>En y) (fun _ _=>rfl) _ _ G ⟨_,rfl⟩ (Fr.refl h) ?_).mono ?_
 · rintro d hd _ G1 ⟨u,rfl⟩ f1
   exact U0.mpr ⟨rfl,⟨_,rfl⟩,(fG0 f1.2.2).mono fun y G2 ⟨f2,e⟩=>⟨f1.trans f2,e⟩⟩
 · rintro _ G1 ⟨f1,zs,ez,rfl,hz⟩
   obtain⟨x,y,rfl⟩:∃x y,zs= [x,y]:=by
    have:zs.length=2:=by
     have:=congrArg List.length ez
     rw[List.length_map]at this
     exact this
    rcases zs with _|⟨x,_|⟨y,_|⟨z,l⟩⟩⟩
    ·cases this
    ·cases this
    ·exact⟨x,y,rfl⟩
    ·rw[List.length_cons,List.length_cons,List.length_cons]at this;lia
   refine fL4 (x:=x.2) (y:=y.2) o6<| g8 (a:= [a0,a1,a2,a3,a4,a5,a6,some (.ref r),a8,a9,a10,a11,a12,some x.2,some y.2]) (G':=G1++[.lst [x.2,y.2]]) rfl ?_
   refine(eQ1 (hz x (List.mem_cons_self ..)) (hz y (List.mem_cons_of_mem _ (List.mem_cons_self ..)))).mono ?_
   rintro _ G2 ⟨⟨u4,rfl⟩,j2⟩
   exact⟨⟨_,_,_,rfl⟩,f1.trans (Ap.fr f1.2.2 (Ap.one.trans j2))⟩
end
theorem cR9{r b k:Nat}{v:D}{G:DH}{Q:DPP}(h:V6 G r)(hv:VW b k v)(hb:b≤9)(hk:k≤6)(q:∀x G',VW 10 7 x→VW (b+1) (k+1) x→Fr r G G'→Q x G'):Wp (aB8 [.ref r,v]) G Q:=
 (dC2 (by lia) 8 k v G h hv (by lia)).mono fun x G' ⟨hx,f⟩=>q x G' (VW.le (by lia) (by lia) hx) hx f
theorem fF8{ns:List Int}{p q:Nat}{k c:Int}{u1 u3 u4 u7 u8 u9 u10 u11 u12 u13 u14:Option D}{G:DH}(e:G[p]? =some (.rol (ns.map D.int)))(eq:G[q]? =some (.lst (W5.map D.str)))(hk:0≤k∧k<64):
 Wp (LB' [some (.ref p),u1,some (.ref q),u3,u4,some (.int k),some (.int c),u7,u8,u9,u10,u11,u12,u13,u14]) G fun fl G'=>Gr G G'∧∃u4 u7 u8 u9 u10 u11 u12 u13 u14,fl= .nx [some (.ref p),u1,some (.ref q),u3,u4,some (.int k),some (.int c),u7,u8,u9,u10,u11,u12,u13,u14]:=by
 refine m8.mpr<| aC5<| m9 (as:= [.ref p,.int c,.int k]) rfl rfl<| (eH1 e hk).mono ?_
 rintro _ G1 ⟨r,rfl,hr,hh,g1⟩
 have hq:q≠r:=by have:=lt_of_get eq;lia
 have e1:=g1.at eq
 refine m8.mpr<| aC5<| m9 (as:= [.ref r,.int 5]) rfl rfl<| (cK2 6 5 5 G1 hh (by decide) (by decide) (by decide)).mono ?_
 rintro v G2 ⟨hv,f2⟩
 refine m8.mpr<| aC5<| m9 (as:= [v]) rfl rfl<| (eI1 hv).mono ?_
 rintro _ G3 ⟨rfl,j3⟩
 refine m8.mpr<| aH2<| cR7<| bD1.mpr<| W0<| R6<| M9 (x:=sgF 5 v) (G1:=G3) rfl<| v6<| m9 (as:= [v]) rfl rfl<| (dA4 hv).mono ?_
 rintro _ G4 ⟨rfl,j4⟩
 refine t6.mpr<| Z6.mpr ⟨rfl,cS4 hv ⟨rfl,fun h=>(nomatch h),fun _=>R8<| bin_w<| m9 (as:= [sgF 5 v]) rfl rfl<| dQ0 (n:=4) (by decide) (Nat.le_trans (bT0 hv).2 (by decide)) (bT0 hv).1 fun G5 j5=>g8 (a:=.bl true) (G':=G5) rfl<| g8 (a:=.bl false) (G':=G5) rfl ⟨false,rfl,fun h=>(nomatch h),fun _=>K1.mpr ?_⟩⟩⟩
 have f5:Fr r G2 G5:=Ap.fr f2.2.2 (j3.trans (j4.trans j5))
 have e5:=f5.at hq (f2.at hq e1)
 refine m8.mpr<| aC5<| m9 (as:= [.ref r,v]) rfl rfl<| cR9 f5.2.2 hv.vw (by decide) (by decide) fun x hG6 hx7 hx f6=>?_
 refine m8.mpr<| bU2.mpr<| wp_itW.mpr<| aM1.mpr<| M9 (x:=v) (G1:=hG6) rfl<| M9 (x:=x) (G1:=hG6) rfl<| v6<| m9 (as:= [.ref r,x]) rfl rfl<| cR9 f6.2.2 hx (by decide) (by decide) fun y G7 hy _ f7=>?_
 refine v6<| m9 (as:= [.ref r,v]) rfl rfl<| cR9 f7.2.2 hv.vw (by decide) (by decide) fun z G8 hz _ f8=>t6.mpr ⟨sz,(aU5 o6).mpr ?_⟩
 have f9:Fr r G8 (G8++[.lst [v,x,y,z]]):=Fr.app f8.2.2
 have f59:=f6.trans (f7.trans (f8.trans f9))
 refine(dA6 (p:=q) (w0:=G8.length) hv [v,x,y,z] _ _ _ (fun d hd=>?_) (f59.at hq e5) o6).mono ?_
 · simp only[List.mem_cons,List.not_mem_nil,or_false]at hd
   rcases hd with rfl|rfl|rfl|rfl
   ·exact VW.le (by decide) (by decide) hv.vw
   ·exact hx7
   ·exact hy
   ·exact hz
 rintro _ G10 ⟨⟨v11,v12,rfl⟩,j10⟩
 have f10:=Ap.fr f59.2.2 j10
 refine(fG1 f10.2.2).mono ?_
 rintro _ G11 ⟨⟨v4,v13,v14,rfl⟩,f11⟩
 exact⟨Gr.of g1 (f2.trans (f5.trans (f59.trans (f10.trans f11)))) hr,_,_,_,_,_,_,_,_,_,rfl⟩
theorem dB1{ns:List Int}{p q w:Nat}{L:List D}{u1 u3:Option D}:∀(cs:List Int) (k:Nat) (u4 u5 u6 u7 u8 u9 u10 u11 u12 u13 u14:Option D) (G:DH),G[p]? =some (.rol (ns.map D.int))→G[q]? =some (.lst (W5.map D.str))→G[w]? =some (.lst L)→k+cs.length≤63→
 Wp (aM4 (aL0 2 (M5 (q13 5) (M5 (q13 6) aM6))) LB' (ckO w (.lst L)) (((cs.map D.int).zipIdx k).map fun p=>.tup [.int ((p.2:Nat):Int),p.1]) [some (.ref p),u1,some (.ref q),u3,u4,u5,u6,u7,u8,u9,u10,u11,u12,u13,u14]) G fun fl G'=>∃ σ,fl= .nx σ∧Gr G G'
 |[],k,u4,u5,u6,u7,u8,u9,u10,u11,u12,u13,u14,G,e,eq,ew,hk=>by
   simp only[List.map_nil,List.zipIdx_nil]
   exact bC2.mpr ⟨dE3 ew,_,rfl,Gr.refl⟩
 |c::r,k,u4,u5,u6,u7,u8,u9,u10,u11,u12,u13,u14,G,e,eq,ew,hk=>by
   simp only[List.map_cons,List.zipIdx_cons]
   simp only[List.length_cons]at hk
   refine bD8.mpr ⟨dE3 ew,?_⟩
   refine g8 (a:= [some (.ref p),u1,some (.ref q),u3,u4,some (.int k),some (.int c),u7,u8,u9,u10,u11,u12,u13,u14]) (G':=G) rfl ?_
   refine(fF8 e eq ⟨by lia,by lia⟩).mono ?_
   rintro _ G1 ⟨g1,v4,v7,v8,v9,v10,v11,v12,v13,v14,rfl⟩
   exact(dB1 r (k+1) _ _ _ _ _ _ _ _ _ _ _ G1 (g1.at e) (g1.at eq) (g1.at ew) (by lia)).mono fun fl G2 ⟨σ,e,g⟩=>⟨σ,e,g1.trans g⟩
theorem dX6{G:DH}{p:Nat}{l:List D}{lo hi:Option Int}{Q:DPP}(e:G[p]? =some (.rol l)):Wp (slT (.ref p) lo hi) G Q↔Q (.ref G.length) (G++[.lst (DL.cutD l lo hi)]):=eX4 e
theorem fD5(ns:List Int):∃cs:List Int,DL.cutD (ns.map D.int) none (some 63)=cs.map D.int∧cs.length≤63:=by
 refine⟨ns.take 63,?_,by rw[List.length_take];lia⟩
 have:=cP0 (ns.map D.int) 63
 rw[←List.map_take]at this
 exact this
theorem eJ3:VT 5 (.int 3):=VT.i (by decide) (by decide)
theorem fA7{σ:DSt}{G:DH}{Q:DPP}(q:∀G',Q (.bl true) G'):Wp (LZ σ) G (PB Q):=by
 refine m8.mpr<| aH2<| cR7<| R8<| bin_w<| m9 (as:= [.int 3,.int 3]) rfl rfl<| aW4 (ri _ (List.mem_cons_self ..)) (by decide) fun G1 _=>?_
 refine m9 (as:= [.int 3]) rfl rfl<| (dA4 eJ3).mono ?_
 rintro _ G2 ⟨rfl,_⟩
 refine bN4 (k:=6) (by decide) (show SB 6 (sgF 5 (.int 3))from cB0 eJ3) ⟨false,rfl,fun h=>(nomatch h),fun _=>R8<| bin_w<| m9 (as:= [.int 1,.int 0]) rfl rfl<| cB7 trivial trivial (by decide)<| g8 (a:=noS) (G':=G2) rfl<| bN4 (k:=1) (by decide) aP3 ⟨false,rfl,fun h=>(nomatch h),fun _=>K1.mpr ?_⟩⟩
 refine J9<| bin_w<| m9 (as:= [.non,.non]) rfl rfl<| aW4 (dW8 _ (List.mem_cons_self ..)) rfl fun G3 _=>m9 (as:= [.str "number"]) rfl rfl<| cQ8 (List.Mem.head _) ?_
 have hs:=eP8 "number" (List.Mem.head _)
 obtain⟨b,e,i⟩:=SB.eqN (G:=G3) (by decide) hs hs
 obtain rfl:=i.mpr rfl
 exact bK2.mpr ⟨true,e,M6 (q _)⟩
theorem eF5(ns:List Int)(hn:ns.length≤63):Wp (cQ0 [.ref 0]) [.rol (ns.map D.int)] fun d _=>d= .bl true:=by
 have e0:([DO.rol (ns.map D.int)]:DH)[0]? =some (.rol (ns.map D.int)):=rfl
 generalize hG:([DO.rol (ns.map D.int)]:DH)=G at *
 refine J3 (show Wp (cZ3 [some (.ref 0),none,none,none,none,none,none,none,none,none,none,none,none,none,none]) G _ from ?_)
 rw[fG7]
 refine m6 (σ':= [some (.ref 0),some evS,none,none,none,none,none,none,none,none,none,none,none,none,none]) (G':=G) rfl ?_
 refine m6 (σ':= [some (.ref 0),some evS,some (.ref G.length),none,none,none,none,none,none,none,none,none,none,none,none]) (G':=G++[.lst (W5.map D.str)]) rfl ?_
 have e1:=aB4 (t:= [DO.lst (W5.map D.str)]) e0
 have eq:(G++[.lst (W5.map D.str)])[G.length]? =some (.lst (W5.map D.str)):=o6
 generalize G++[DO.lst (W5.map D.str)]=G1 at *
 generalize G.length=q at *
 have er:N8 0 (5:Int).toNat= [0,1,2,3,4].map fun i:Nat=>D.int (i:Int):=rfl
 refine m8.mpr<| bU2.mpr<| rng1.mpr<| g8 (a:= [D.int 5]) (G':=G1) rfl<| (rng1_int (j:=5) ⟨by decide,by decide⟩).mpr ?_
 rw[er]
 refine(dB7 [0,1,2,3,4] none none G1 (by decide) eq).mono ?_
 rintro _ G2 ⟨⟨u3,u4,rfl⟩,j2⟩
 have e2:=j2.at e1
 obtain⟨cs,ec,hc⟩:=fD5 ns
 refine m8.mpr<| bU2.mpr<| dT2.mpr<| v6<| aX2.mpr<| g8 (a:=.ref 0) (G':=G2) rfl<| g8 (a:=none) (G':=G2) rfl<| g8 (a:=some 63) (G':=G2) rfl<| (dX6 e2).mpr<| t6.mpr<| (dP1 o6).mpr ?_
 simp only[ec]
 refine(dB1 (ns:=ns) cs 0 _ _ _ _ _ _ _ _ _ _ _ _ (aB4 e2) (aB4 (j2.at eq)) (by rw[←ec];exact o6) (by lia)).mono ?_
 rintro _ G7 ⟨σ,rfl,_⟩
 exact fA7 fun _=>rfl
theorem pure_law:∀ns:List Int,ns.length≤63→∃G',cQ0 [.ref 0] [.rol (ns.map D.int)]=some (.ok (.bl true),G'):=fun ns hn=>by
 obtain⟨d,G',e,rfl⟩:=eF5 ns hn
 exact⟨G',e⟩
end W
namespace PySem.W.Fast
def tw14383188574598095146:=()
def tw10095356109408192668:=()
def tw12407999319736077743:=()
def tw12723247875771696620:=()
def tw12811924674375009731:=()
def tw3782696660741535101:=()
def tw8459876462624605815:=()
def tw10090894886561904761:=()
def tw13817931075051458005:=()
def tw1449219526861064453:=()
def tw2305202787144645787:=()
def tw3312391772484701691:=()
def tw8897795748464658627:=()
def tw7600747132498278554:=()
def tw7293066798271565274:=()
def tw10174426305427839507:=()
def tw2260247311569388787:=()
def tw15354535742627611597:=()
def tw4227329729830538039:=()
def tw14061714719925523701:=()
def tw10053073136518496558:=()
def tw18026463807546183175:=()
def tw16338165190467633209:=()
def tw635658333470532819:=()
def tw15386204243653444415:=()
def tw10598731774157438330:=()
def tw8973148379001216197:=()
def tw5251552160591711769:=()
def tw5086319352843949038:=()
def tw8328404130678181983:=()
def tw12855320034148496897:=()
def tw15591468059701071007:=()
def tw15968061353460312542:=()
def tw2002905213356700372:=()
def tw3098568831447047246:=()
def tw3730037210411599067:=()
def tw149999143527289752:=()
def tw4576864170635119090:=()
def tw3191490795642473343:=()
def tw2683876536939655734:=()
end PySem.W.Fast
set_option maxRecDepth 100000 in
set_option maxHeartbeats 0 in
theorem PySem.Challenge.cw_allmeet_k16_sets_of_values_and_kinds_holds : PySem.Challenge.rw_allmeet_k16_sets_of_values_and_kinds.Holds := by
 w_on;o_law;k_head;(case hw=>w_witness2)
 k_fill
 refine W.walk (l := PySem.Challenge.rw_allmeet_k16_sets_of_values_and_kinds) rfl rfl (fun w h Y => PySem.W.kIn_of Y) ?F
 case F=>
  intro w mg fa h KX G hmg
  refine' W.all_mk KX G hmg ?_ ?_ ?_ ?_ ?_ ?_ ?_ ?_ ?_ ?_ ?_ ?_ ?_ ?_ ?_ ?_ ?_ ?_ ?_ ?_ ?_ ?_ ?_ ?_ ?_ ?_ ?_ ?_ ?_ ?_ ?_ ?_ ?_ ?_ ?_ ?_ ?_ ?_ ?_ ?_ ?_ ?_ ?_ ?_ ?_ ?_ ?_ ?_ ?_ ?_ ?_ ?_ ?_ ?g_NOTHING ?l_NOTHING ?l_NOTHING_0 ?l_NOTHING_1 ?l_NOTHING_1_1 ?l_NOTHING_2 ?g_ALL_PARTS ?l_ALL_PARTS ?l_ALL_PARTS_0 ?l_ALL_PARTS_0_0 ?l_ALL_PARTS_1 ?l_ALL_PARTS_1_1 ?l_ALL_PARTS_2 ?l_ALL_PARTS_3 ?l_ALL_PARTS_3_0 ?l_ALL_PARTS_4 ?l_ALL_PARTS_4_0 ?g_ANY ?g_KIND_SETS ?l_KIND_SETS ?l_KIND_SETS_0 ?l_KIND_SETS_0_0 ?l_KIND_SETS_0_0_0 ?l_KIND_SETS_0_1 ?l_KIND_SETS_0_1_1 ?l_KIND_SETS_0_2 ?l_KIND_SETS_1 ?l_KIND_SETS_1_0 ?l_KIND_SETS_1_1 ?l_KIND_SETS_1_1_1 ?l_KIND_SETS_1_2 ?l_KIND_SETS_2 ?l_KIND_SETS_2_0 ?l_KIND_SETS_2_1 ?l_KIND_SETS_2_1_1 ?l_KIND_SETS_2_2 ?l_KIND_SETS_3 ?l_KIND_SETS_3_0 ?l_KIND_SETS_3_1 ?l_KIND_SETS_3_1_1 ?l_KIND_SETS_3_2 ?l_KIND_SETS_3_3 ?l_KIND_SETS_3_3_0 ?l_KIND_SETS_4 ?l_KIND_SETS_4_0 ?l_KIND_SETS_4_1 ?l_KIND_SETS_4_1_1 ?l_KIND_SETS_4_2 ?l_KIND_SETS_4_4 ?l_KIND_SETS_4_4_0 ?z W.pure_law
  (case g_NOTHING=>k_is)
  (case l_NOTHING=>k_is)
  (case l_NOTHING_0=>k_is)
  (case l_NOTHING_1=>k_is)
  (case l_NOTHING_1_1=>k_is)
  (case l_NOTHING_2=>k_is)
  (case g_ALL_PARTS=>k_is)
  (case l_ALL_PARTS=>k_is)
  (case l_ALL_PARTS_0=>k_is)
  (case l_ALL_PARTS_0_0=>k_is)
  (case l_ALL_PARTS_1=>k_is)
  (case l_ALL_PARTS_1_1=>k_is)
  (case l_ALL_PARTS_2=>k_is)
  (case l_ALL_PARTS_3=>k_is)
  (case l_ALL_PARTS_3_0=>k_is)
  (case l_ALL_PARTS_4=>k_is)
  (case l_ALL_PARTS_4_0=>k_is)
  (case g_ANY=>k_is)
  (case g_KIND_SETS=>k_is)
  (case l_KIND_SETS=>k_is)
  (case l_KIND_SETS_0=>k_is)
  (case l_KIND_SETS_0_0=>k_is)
  (case l_KIND_SETS_0_0_0=>k_is)
  (case l_KIND_SETS_0_1=>k_is)
  (case l_KIND_SETS_0_1_1=>k_is)
  (case l_KIND_SETS_0_2=>k_is)
  (case l_KIND_SETS_1=>k_is)
  (case l_KIND_SETS_1_0=>k_is)
  (case l_KIND_SETS_1_1=>k_is)
  (case l_KIND_SETS_1_1_1=>k_is)
  (case l_KIND_SETS_1_2=>k_is)
  (case l_KIND_SETS_2=>k_is)
  (case l_KIND_SETS_2_0=>k_is)
  (case l_KIND_SETS_2_1=>k_is)
  (case l_KIND_SETS_2_1_1=>k_is)
  (case l_KIND_SETS_2_2=>k_is)
  (case l_KIND_SETS_3=>k_is)
  (case l_KIND_SETS_3_0=>k_is)
  (case l_KIND_SETS_3_1=>k_is)
  (case l_KIND_SETS_3_1_1=>k_is)
  (case l_KIND_SETS_3_2=>k_is)
  (case l_KIND_SETS_3_3=>k_is)
  (case l_KIND_SETS_3_3_0=>k_is)
  (case l_KIND_SETS_4=>k_is)
  (case l_KIND_SETS_4_0=>k_is)
  (case l_KIND_SETS_4_1=>k_is)
  (case l_KIND_SETS_4_1_1=>k_is)
  (case l_KIND_SETS_4_2=>k_is)
  (case l_KIND_SETS_4_4=>k_is)
  (case l_KIND_SETS_4_4_0=>k_is)
  (case z=>intro b hb;simp only[DL.bltL,List.mem_cons,List.not_mem_nil,or_false]at hb;rcases hb with rfl|rfl|rfl|rfl|rfl|rfl|rfl|rfl|rfl|rfl|rfl|rfl|rfl|rfl|rfl|rfl|rfl|rfl|rfl|rfl<;>k_is)
  all_goals (refine' DL.FH.of ?a ?l ?e ?k;(case a=>k_is);(case l=>k_is);(case e=>k_is);(case k=>k_is))
