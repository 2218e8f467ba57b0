import PyProof.Rows.All
import Wide.All
import OpenK.AllK
import Wide.FinOn
import Lean
import PyProof.EqAt
import PyProof.EqKinds
import PyProof.TupleCall
import PyProof.NeKinds
import PyProof.ZipIter
import PyProof.EnumFor
import PyProof.EnumMake
import PyProof.EnumStmt
import PyProof.Draws
import KE.KDictSum
import PyProof.Rows.SortStr
import PyProof.StrWalks
import KE.KRevIter
import KE.KDictList
import PyProof.CollectIter
import PyProof.SliceStr2
import PyProof.StrBlockI
import KE.KListMore
import PyProof.DictWalks
import PyProof.TupleOfSeq
import PyProof.AttrMissHeap
import PyProof.AttrMissSeq
import KE.KDictOf
import PyProof.WalksMore
import KE.KSortTup
import KE.KSortKey
import PyProof.Rows.StrJoin2
import PyProof.ListMulRoad
import PyProof.FactsAll.tuple_2
import PySem.Challenge.RW_allmeet_k19_whole_a_set_is_its_parts
set_option Elab.async false
set_option linter.all false
set_option maxRecDepth 100000
noncomputable section
abbrev VSP := PySem.Value → PySem.Shared → Prop
abbrev PNS := List (PySem.Addr × PySem.Obj)
namespace L2
open PySem PySem.Spec PyProof.Rows
noncomputable abbrev Key := Sum Int Str
noncomputable def bJ1 : Key → Value → Bool
 | .inl k, v => Value.isInt k v
 | .inr x, v => Value.isStrOf x v
noncomputable def eJ9 (w : World) : Key → Int
 | .inl k => hashInt k
 | .inr x => hashStr w x
theorem R7 : ∀ {k : Key} {v : Value}, bJ1 k v = true → (∃ i t, k = Sum.inl i ∧ v = Value.int i t) ∨ (∃ x t, k = Sum.inr x ∧ v = Value.str x t)
 | .inl i, v, h => by
   obtain ⟨t, e⟩ := Value.isInt_shape (k := i) (v := v) h
   exact .inl ⟨i, t, rfl, e⟩
 | .inr x, v, h => by
   obtain ⟨t, e⟩ := Value.isStrOf_shape (x := x) (v := v) h
   exact .inr ⟨x, t, rfl, e⟩
theorem cS5 (i : Int) (t : Tok) : bJ1 (.inl i) (.int i t) = true := by simp [bJ1, Value.isInt]
theorem cP1 (x : Str) (t : Tok) : bJ1 (.inr x) (.str x t) = true := by simp [bJ1, Value.isStrOf]
theorem dO1 (a b : Int) : decide ((Sum.inl a : Key) = Sum.inl b) = (a == b) := by
 by_cases e : a = b
 · subst e; simp
 · have h : ¬ (Sum.inl a : Key) = Sum.inl b := fun q => e (Sum.inl.inj q)
   rw [decide_eq_false h]
   exact (beq_eq_false_iff_ne.mpr e).symm
theorem dU8 (a b : Str) : decide ((Sum.inr a : Key) = Sum.inr b) = decide (a = b) := by
 by_cases e : a = b
 · subst e; simp
 · have h : ¬ (Sum.inr a : Key) = Sum.inr b := fun q => e (Sum.inr.inj q)
   rw [decide_eq_false h, decide_eq_false e]
theorem dV7 (a : Int) (b : Str) : decide ((Sum.inl a : Key) = Sum.inr b) = false := decide_eq_false (fun q => nomatch q)
theorem dW4 (a : Str) (b : Int) : decide ((Sum.inr a : Key) = Sum.inl b) = false := decide_eq_false (fun q => nomatch q)
def N8 (prog : Program) (w : World) : PySem.KeyKind prog w Key where
 is := bJ1
 hash := eJ9 w
 inj := fun v a b ha hb => by
  rcases R7 ha with ⟨i, t, rfl, rfl⟩ | ⟨x, t, rfl, rfl⟩
  · rcases R7 hb with ⟨j, u, rfl, e⟩ | ⟨y, u, rfl, e⟩
    · injection e with e1 _; rw [e1]
    · exact nomatch e
  · rcases R7 hb with ⟨j, u, rfl, e⟩ | ⟨y, u, rfl, e⟩
    · exact nomatch e
    · injection e with e1 _; rw [e1]
 byValue := fun k v h => by
  rcases R7 h with ⟨i, t, rfl, rfl⟩ | ⟨x, t, rfl, rfl⟩ <;> rfl
 pyHash := fun hv h => by
  rcases R7 hv with ⟨i, t, rfl, rfl⟩ | ⟨x, t, rfl, rfl⟩
  · exact wpAny_pyHash_int h
  · exact wpAny_pyHash_str h
 eqBool := fun hu hv h => by
  rcases R7 hu with ⟨i, t, rfl, rfl⟩ | ⟨x, t, rfl, rfl⟩
  · rcases R7 hv with ⟨j, u, rfl, rfl⟩ | ⟨y, u, rfl, rfl⟩
    · rw [dO1] at h; exact wpAny_eqBool_int h
    · rw [dV7] at h; exact SeqAt.EqAt.int_str i t y u _ _ _ _ h
  · rcases R7 hv with ⟨j, u, rfl, rfl⟩ | ⟨y, u, rfl, rfl⟩
    · rw [dW4] at h; exact SeqAt.EqAt.str_int x t j u _ _ _ _ h
    · rw [dU8] at h; exact wpAny_eqBool_str h
 «strs» := fun k x t v h => by
  rcases R7 h with ⟨i, u, rfl, e⟩ | ⟨y, u, rfl, e⟩
  · exact nomatch e
  · injection e with e1 _
    subst e1
    cases v <;> rfl
theorem bU2 (prog : Program) (w : World) (i : Int) (t : Tok) : (N8 prog w).is (.inl i) (.int i t) = true := cS5 i t
theorem bU4 (prog : Program) (w : World) (x : Str) (t : Tok) : (N8 prog w).is (.inr x) (.str x t) = true := cP1 x t
inductive V where
 | non | bl (b : Bool) | int (i : Int) | str (x : Str) | byt (b : Array UInt8) | flt (b : UInt64) | ref (a : Addr) | ty (n : String)
 deriving DecidableEq
noncomputable def J9 : V → Value → Prop
 | .non, u => u = Value.none
 | .bl b, u => u = Value.bool b
 | .int i, u => ∃ t, u = Value.int i t
 | .str x, u => ∃ t, u = Value.str x t
 | .byt b, u => ∃ t, u = Value.bytes b t
 | .flt b, u => ∃ t, u = Value.float b t
 | .ref a, u => u = Value.ref a
 | .ty n, u => u = Value.type n
abbrev J7 : List V → List Value → Prop := Paired J9
theorem J7.length {xs : List V} {us : List Value} (r : J7 xs us) : xs.length = us.length := Paired.length r
theorem J7.get : ∀ {xs : List V} {us : List Value} {i : Nat} {x : V}, J7 xs us → xs[i]? = some x → ∃ u, us[i]? = some u ∧ J9 x u
 | _, _, _, _, .nil, e => by simp at e
 | _, _, 0, _, .cons r _, e => by simp at e; subst e; exact ⟨_, rfl, r⟩
 | _, _, i + 1, x, .cons _ t, e => by
   obtain ⟨u, h1, h2⟩ := J7.get (i := i) (x := x) t (by simpa using e)
   exact ⟨u, by simpa using h1, h2⟩
theorem J7.set {x : V} {u : Value} (r : J9 x u) : ∀ {xs : List V} {us : List Value} (i : Nat), J7 xs us → J7 (xs.set i x) (us.set i u)
 | _, _, _, .nil => .nil
 | _, _, 0, .cons _ t => .cons r t
 | _, _, i + 1, .cons q t => .cons q (J7.set r i t)
theorem J7.append {xs ys : List V} {us ws : List Value} (h : J7 xs us) (k : J7 ys ws) : J7 (xs ++ ys) (us ++ ws) := by
 induction h with
 | nil => exact k
 | cons r t ih => exact .cons r ih
theorem J7.take : ∀ {xs : List V} {us : List Value} (n : Nat), J7 xs us → J7 (xs.take n) (us.take n)
 | _, _, 0, _ => .nil
 | _, _, _ + 1, .nil => .nil
 | _, _, n + 1, .cons r t => .cons r (J7.take n t)
theorem J7.drop : ∀ {xs : List V} {us : List Value} (n : Nat), J7 xs us → J7 (xs.drop n) (us.drop n)
 | _, _, 0, r => r
 | _, _, _ + 1, .nil => .nil
 | _, _, n + 1, .cons _ t => J7.drop n t
def bH6 : Option V → Option Value → Prop
 | some v, some u => J9 v u
 | none, none => True
 | _, _ => False
def KV {κ : Type} : List (κ × V) → List (κ × Value) → Prop := Paired fun (p : κ × V) (q : κ × Value) => p.1 = q.1 ∧ J9 p.2 q.2
noncomputable def kV : Key → V
 | .inl i => .int i
 | .inr x => .str x
inductive HO where
 /-- a list -/
 | lst (xs : List V)
 /-- a tuple (never changes) -/
 | tup (xs : List V)
 /-- a dict whose keys are ints and texts; one whose keys are tuples of ints and texts (the empty one is both) -/
 | dK (kvs : List (Key × V)) | dT (kvs : List (List Key × V))
 /-- a set of ints: its members, its size -/
 | set (S : Int → Bool) (n : Nat)
 /-- an instance of the class at C, its dict at dx, its attributes -/
 | ins (C dx : Addr) (fs : List (Str × V))
 /-- the dict of the instance at x -/
 | own (x : Addr)
 /-- the dict of an exception -/
 | xd (fs : List (Str × V))
 /-- a bound method, f of x -/
 | met (f x : Addr)
 /-- a range object lo, lo + 1, .. below hi -/
 | rng (lo hi : Int)
 /-- a thing that is known to the object (the script; a dict while a loop walks it): read, never written while it is so -/
 | frz (o : Obj) (u : HO)
 /-- a code object's table -/
 | tbl (ps : Array Value)
 /-- any other thing, by what is true of its one object (a def of one's own: SetO a S n := HO.ext fun h => ..) -/
 | ext (φ : Heap → Prop)
noncomputable abbrev Hp := Addr → Option HO
noncomputable def upd (H : Hp) (a : Addr) (o : HO) : Hp := fun b => if b = a then some o else H b
theorem S9 {H : Hp} {a : Addr} {o : HO} : upd H a o a = some o := by unfold upd; rw [if_pos rfl]
theorem J6 {H : Hp} {a b : Addr} {o : HO} (h : b ≠ a) : upd H a o b = H b := by unfold upd; rw [if_neg h]
theorem eG5 {H : Hp} {a b : Addr} {o u : HO} (h : H a = some o) (h' : H b = some u) (d : o ≠ u) : a ≠ b := by
 intro e; subst e; rw [h] at h'; exact d (Option.some.inj h')
theorem K3 {H : Hp} {a b : Addr} {o : HO} (h : H a = some o) (h' : H b = none) : a ≠ b := by
 intro e; subst e; rw [h] at h'; cases h'
section
variable (P : Program) (w : World)
noncomputable def aC7 (h : Heap) (a : Addr) (items : Array Value) : Prop := ∃ o, h.get? a = some o ∧ o.cls = .type "tuple" ∧ ∃ n, (o.data, o.dict) = (Data.seq items n, none)
theorem aC7.tup {h : Heap} {a : Addr} {items : Array Value} (x : aC7 h a items) : IsTup h a items := by
 obtain ⟨o, e, c, n, d⟩ := x
 exact ⟨o, e, c, n, (Prod.mk.inj d).1⟩
theorem aC7.new (h : Heap) (items : Array Value) : aC7 (h.push { cls := .type "tuple", data := .seq items }) h.objs.size items := ⟨_, Heap.get?_push_size _ rfl, rfl, _, rfl⟩
def W6 (H : Hp) (h : Heap) (a : Addr) : HO → Prop
 | .lst xs => xs.length ≤ sizeLine ∧ ∃ (its : List Value) (n : Nat), J7 xs its ∧ h.get? a = some { cls := .type "list", data := .seq its.toArray n }
 | .tup xs => xs.length ≤ sizeLine ∧ ∃ its : List Value, J7 xs its ∧ aC7 h a its.toArray
 | .dK kvs => kvs.length ≤ sizeLine ∧ (a == sysModules) = false ∧ ∃ vs, KV kvs vs ∧ h.DictOf (N8 P w) a vs
 | .dT kvs => kvs.length ≤ sizeLine ∧ (a == sysModules) = false ∧ ∃ xs : List (List Key × Addr × Value),
    Paired (fun (p : List Key × V) (q : List Key × Addr × Value) => p.1 = q.1 ∧ H q.2.1 = some (.tup (p.1.map kV)) ∧ J9 p.2 q.2.2) kvs xs ∧
    ∃ o es ep, h.get? a = some o ∧ o.ExactDict ∧ o.data = .dict es ep ∧ es.toList = xs.map (entryOfKey (tupleKind (N8 P w))) ∧ (xs.map (·.1)).Nodup
 | .set S n => h.SetOf (intKind P w) a S n
 | .ins C dx fs => H dx = some (.own a) ∧ fs.length ≤ 1000 ∧ dx ≠ a ∧ h.get? a = some (PySem.W.instObj C dx) ∧
    ∃ mA, h.Ns1 dx mA ∧ (∀ f, bH6 (fs.lookup f) (mA f)) ∧ PySem.Within mA (fs.map (·.1))
 | .own _ => ∃ o, h.get? a = some o
 | .xd fs => ∃ mA, h.Ns1 a mA ∧ ∀ f, bH6 (fs.lookup f) (mA f)
 | .rng lo hi => ∃ t u v, h.get? a = some { cls := .type "range", data := .fields #[.int lo t, .int hi u, .int 1 v] }
 | .frz o u => h.get? a = some o ∧ W6 H h a u
 | .tbl ps => h.get? a = some { cls := .none, data := .fields ps }
 | .met f x => h.get? a = some (PySem.W.methodObj (.ref f) (.ref x))
 | .ext φ => φ h ∧ (∃ o, h.get? a = some o) ∧ ∀ h1 h2 : Heap, φ h1 → (∀ o, h1.get? a = some o → h2.get? a = some o) → φ h2
def HOk (H : Hp) (h : Heap) : Prop := ∀ a o, H a = some o → W6 P w H h a o
end
section
variable {P : Program} {w : World} {H H' : Hp} {h h' : Heap} {a : Addr} {o : HO}
theorem W6.lt (x : W6 P w H h a o) : a < h.objs.size := by
 cases o with
 | lst xs => obtain ⟨_, _, _, _, e⟩ := x; exact Heap.lt_size e
 | tup xs => obtain ⟨_, _, _, p⟩ := x; exact (aC7.tup p).lt
 | dK kvs => obtain ⟨_, _, _, _, o, _, _, e, _⟩ := x; exact Heap.lt_size e
 | dT kvs => obtain ⟨_, _, _, _, o, _, _, e, _⟩ := x; exact Heap.lt_size e
 | set S n => obtain ⟨o, _, _, _, e, _⟩ := x; exact Heap.lt_size e
 | ins C dx fs => obtain ⟨_, _, _, e, _⟩ := x; exact Heap.lt_size e
 | own y => obtain ⟨_, e⟩ := x; exact Heap.lt_size e
 | xd fs => obtain ⟨_, ⟨_, _, _, e, _⟩, _⟩ := x; exact Heap.lt_size e
 | rng lo hi => obtain ⟨_, _, _, e⟩ := x; exact Heap.lt_size e
 | frz ob u => obtain ⟨e, _⟩ := x; exact Heap.lt_size e
 | tbl ps => exact Heap.lt_size (show h.get? a = some _ from x)
 | met f y => exact Heap.lt_size (show h.get? a = some _ from x)
 | ext φ => obtain ⟨_, ⟨_, e⟩, _⟩ := x; exact Heap.lt_size e
theorem Paired.mapP {α β : Type} {F G : α → β → Prop} {l₁ : List α} {l₂ : List β} (h : Paired F l₁ l₂) (f : ∀ a b, F a b → G a b) : Paired G l₁ l₂ := by
 induction h with
 | nil => exact .nil
 | cons r t ih => exact .cons (f _ _ r) ih
theorem W6.stay (x : W6 P w H h a o) (k : ∀ b u, (b = a ∨ H b = some (.own a)) → h.get? b = some u → h'.get? b = some u)
 (ho : ∀ b, H b = some (.own a) → H' b = some (.own a)) (ht : ∀ b xs, H b = some (.tup xs) → H' b = some (.tup xs)) : W6 P w H' h' a o := by
 induction o with
 | lst xs => obtain ⟨z, its, n, r, e⟩ := x; exact ⟨z, its, n, r, k _ _ (.inl rfl) e⟩
 | tup xs => obtain ⟨z, its, r, ob, e, c⟩ := x; exact ⟨z, its, r, ob, k _ _ (.inl rfl) e, c⟩
 | dK kvs => obtain ⟨z, y, vs, r, ob, es, ep, e, c⟩ := x; exact ⟨z, y, vs, r, ob, es, ep, k _ _ (.inl rfl) e, c⟩
 | dT kvs =>
   obtain ⟨z, y, xs, r, ob, es, ep, e, c⟩ := x
   exact ⟨z, y, xs, Paired.mapP r fun p q z => ⟨z.1, ht _ _ z.2.1, z.2.2⟩, ob, es, ep, k _ _ (.inl rfl) e, c⟩
 | set S n => obtain ⟨ob, es, ep, t, e, c⟩ := x; exact ⟨ob, es, ep, t, k _ _ (.inl rfl) e, c⟩
 | ins C dx fs =>
   obtain ⟨d, z, ne, e, mA, ⟨od, es, ep, e2, c⟩, r⟩ := x
   exact ⟨ho _ d, z, ne, k _ _ (.inl rfl) e, mA, ⟨od, es, ep, k _ _ (.inr d) e2, c⟩, r⟩
 | own y => obtain ⟨ob, e⟩ := x; exact ⟨ob, k _ _ (.inl rfl) e⟩
 | xd fs => obtain ⟨mA, ⟨od, es, ep, e, c⟩, r⟩ := x; exact ⟨mA, ⟨od, es, ep, k _ _ (.inl rfl) e, c⟩, r⟩
 | rng lo hi => obtain ⟨t, u, v, e⟩ := x; exact ⟨t, u, v, k _ _ (.inl rfl) e⟩
 | frz ob u ih => obtain ⟨e, q⟩ := x; exact ⟨k _ _ (.inl rfl) e, ih q⟩
 | tbl ps =>
   have e : h.get? a = some { cls := .none, data := .fields ps } := x
   show h'.get? a = some { cls := .none, data := .fields ps }
   exact k a _ (.inl rfl) e
 | met f y =>
   have e : h.get? a = some (PySem.W.methodObj (.ref f) (.ref y)) := x
   show h'.get? a = some (PySem.W.methodObj (.ref f) (.ref y))
   exact k a _ (.inl rfl) e
 | ext φ => obtain ⟨p, ⟨o, e⟩, st⟩ := x; exact ⟨st _ _ p fun o q => k _ _ (.inl rfl) q, ⟨o, k _ _ (.inl rfl) e⟩, st⟩
theorem HOk.lt (x : HOk P w H h) (e : H a = some o) : a < h.objs.size := (x a o e).lt
theorem HOk.fresh (x : HOk P w H h) (e : h.objs.size ≤ a) : H a = none := by
 cases q : H a with
 | none => rfl
 | some u => exact absurd (Nat.lt_of_lt_of_le (x.lt q) e) (Nat.lt_irrefl _)
theorem HOk.kept (x : HOk P w H h) (k : ∀ b u, h.get? b = some u → h'.get? b = some u) : HOk P w H h' := fun a o e =>
 (x a o e).stay (fun b u _ q => k b u q) (fun _ q => q) fun _ _ q => q
theorem HOk.laid (x : HOk P w H h) (k : ∀ b u, h.get? b = some u → h'.get? b = some u) (hp : h.objs.size ≤ a) (new : W6 P w (upd H a o) h' a o) : HOk P w (upd H a o) h' := fun b u e => by
 have hn := x.fresh hp
 by_cases hb : b = a
 · subst hb; rw [S9] at e; cases e; exact new
 · rw [J6 hb] at e
   exact (x b u e).stay (fun c v _ q => k c v q) (fun c q => by rw [J6 (K3 q hn)]; exact q) fun c xs q => by rw [J6 (K3 q hn)]; exact q
end
noncomputable def Rd (H : Hp) (a : Addr) (u : HO) : Prop := H a = some u ∨ ∃ o, H a = some (.frz o u)
theorem Rd.ok {P : Program} {w : World} {H : Hp} {h : Heap} {a : Addr} {u : HO} (r : Rd H a u) (x : HOk P w H h) : W6 P w H h a u := by
 rcases r with r | ⟨o, r⟩
 · exact x a u r
 · obtain ⟨_, q⟩ := x a _ r
   exact q
noncomputable def Mut : Option HO → Prop
 | some (.lst _) => True
 | some (.dK _) => True
 | some (.dT _) => True
 | some (.set _ _) => True
 | some (.ins _ _ _) => True
 | some (.ext _) => True
 | _ => False
section
variable {P : Program} {w : World} {H : Hp} {h h' : Heap} {x e : Addr} {o' : HO}
theorem HOk.write (ok : HOk P w H h) (mu : Mut (H x)) (he : e = x ∨ H e = some (.own x)) (k : ∀ b u, b ≠ e → h.get? b = some u → h'.get? b = some u) (heo : ∃ u, h'.get? e = some u)
 (new : W6 P w (upd H x o') h' x o') : HOk P w (upd H x o') h' := fun b u q => by
 have nown : ∀ c y, H c = some (.own y) → c ≠ x := fun c y r z => by subst z; rw [r] at mu; exact mu
 have ntup : ∀ c xs, H c = some (.tup xs) → c ≠ x := fun c xs r z => by subst z; rw [r] at mu; exact mu
 by_cases hb : b = x
 · subst hb; rw [S9] at q; cases q; exact new
 · rw [J6 hb] at q
   by_cases hbe : b = e
   · have q' : H b = some (.own x) := by
      rcases he with z | z
      · exact absurd (hbe.trans z) hb
      · rw [hbe]; exact z
     rw [q] at q'; cases q'
     obtain ⟨v, hv⟩ := heo
     exact ⟨v, by rw [hbe]; exact hv⟩
   · refine (ok b u q).stay (fun c v hc r => k c v ?_ r) (fun c r => by rw [J6 (nown c b r)]; exact r) fun c xs r => by rw [J6 (ntup c xs r)]; exact r
     rcases hc with rfl | hc
     · exact hbe
     · rintro rfl
       rcases he with z | z
       · exact nown c b hc z
       · rw [hc] at z; cases z; exact hb rfl
end
structure Un (fs ex : List Addr) (H H' : Hp) (h h' : Heap) : Prop where
 keep : ∀ b o, h.get? b = some o → H b = none → b ∉ fs → b ∉ ex → h'.get? b = some o
 slot : ∀ b o, h.get? b = some o → H b = none → b ∈ fs → b ∉ ex → ∃ sl, h'.get? b = some { o with slots := sl }
 free : ∀ b o, h.get? b = some o → H b = none → b ∉ ex → H' b = none
 there : ∀ b o, h.get? b = some o → b ∉ ex → ∃ o', h'.get? b = some o'
 tups : ∀ b xs, H b = some (.tup xs) → H' b = some (.tup xs)
 frzs : ∀ b o u, H b = some (.frz o u) → H' b = some (.frz o u)
 tbls : ∀ b ps, H b = some (.tbl ps) → ∃ more, H' b = some (.tbl (ps ++ more))
section
variable {fs fs' ex ex' : List Addr} {H H1 H2 : Hp} {h h1 h2 h' : Heap} {a x e : Addr} {o : HO}
theorem Un.any (u : Un fs ex H H1 h h1) {b : Addr} {ob : Obj} (q : h.get? b = some ob) (n : H b = none) (hx : b ∉ ex) : ∃ sl, h1.get? b = some { ob with slots := sl } := by
 by_cases hb : b ∈ fs
 · exact u.slot b ob q n hb hx
 · exact ⟨ob.slots, u.keep b ob q n hb hx⟩
theorem Un.kept (k : ∀ b u, h.get? b = some u → h'.get? b = some u) : Un fs ex H H h h' :=
 ⟨fun b ob q _ _ _ => k b ob q, fun b ob q _ _ _ => ⟨ob.slots, k b ob q⟩, fun _ _ _ n _ => n, fun b ob q _ => ⟨ob, k b ob q⟩, fun _ _ q => q, fun _ _ _ q => q, fun _ ps q => ⟨#[], by rw [q]; simp⟩⟩
theorem Un.refl : Un fs ex H H h h := Un.kept fun _ _ q => q
theorem Un.laid (k : ∀ b u, h.get? b = some u → h'.get? b = some u) (hp : h.objs.size ≤ a) (hn : H a = none) : Un fs ex H (upd H a o) h h' where
 keep := fun b u q _ _ _ => k b u q
 slot := fun b u q _ _ _ => ⟨u.slots, k b u q⟩
 free := fun b u q n _ => by rw [J6 (Nat.ne_of_lt (Nat.lt_of_lt_of_le (Heap.lt_size q) hp))]; exact n
 there := fun b u q _ => ⟨u, k b u q⟩
 tups := fun b xs q => by rw [J6 (K3 q hn)]; exact q
 frzs := fun b u xs q => by rw [J6 (K3 q hn)]; exact q
 tbls := fun b ps q => ⟨#[], by rw [J6 (K3 q hn), q]; simp⟩
theorem Un.write (mu : Mut (H x)) (he : e = x ∨ H e = some (.own x)) (k : ∀ b u, b ≠ e → h.get? b = some u → h'.get? b = some u) (heo : ∃ u, h'.get? e = some u) : Un fs ex H (upd H x o) h h' := by
 have hx : ∀ b, H b = none → b ≠ x := fun b n z => by subst z; rw [n] at mu; exact mu
 have hb : ∀ b, H b = none → b ≠ e := fun b n z => by
  subst z
  rcases he with r | r
  · exact hx b n r
  · rw [n] at r; cases r
 have hm : ∀ b u, H b = some u → ¬ Mut (some u) → b ≠ x := fun b u q nm z => by subst z; rw [q] at mu; exact nm mu
 refine ⟨fun b u q n _ _ => k b u (hb b n) q, fun b u q n _ _ => ⟨u.slots, k b u (hb b n) q⟩, fun b u q n _ => by rw [J6 (hx b n)]; exact n, fun b u q _ => ?_,
  fun b xs q => by rw [J6 (hm b _ q fun z => z)]; exact q, fun b u xs q => by rw [J6 (hm b _ q fun z => z)]; exact q, fun b ps q => ⟨#[], by rw [J6 (hm b _ q fun z => z), q]; simp⟩⟩
 by_cases hbe : b = e
 · subst hbe; exact heo
 · exact ⟨u, k b u hbe q⟩
end
noncomputable def trk (h : Heap) (H : Hp) : List Addr := (List.range h.objs.size).filter fun a => (H a).isSome
def bR6 (h : Heap) (H : Hp) : Heap := PySem.W.hideAll h (trk h H)
theorem cR1 (h : Heap) (H : Hp) : (bR6 h H).objs.size = h.objs.size := PySem.W.hideAll_size _ _
theorem dB9 {h : Heap} {H : Hp} {b : Addr} {o : Obj} (e : h.get? b = some o) (n : H b = none) : (bR6 h H).get? b = some o :=
 PySem.W.hideAll_get _ e fun hm => by
  have q : (H b).isSome = true := (List.mem_filter.mp hm).2
  rw [n] at q; simp at q
theorem dJ1 {h : Heap} {H : Hp} {b : Addr} {o : Obj} (e : (bR6 h H).get? b = some o) : h.get? b = some o ∧ H b = none := by
 have e' : h.get? b = some o := PySem.W.of_hideAll (trk h H) e
 refine ⟨e', ?_⟩
 cases q : H b with
 | none => rfl
 | some x =>
   have hm : b ∈ trk h H := List.mem_filter.mpr ⟨List.mem_range.mpr (Heap.lt_size e'), by simp [q]⟩
   have z : (bR6 h H).get? b = none := PySem.W.hideAll_none (trk h H) hm
   rw [z] at e; cases e
noncomputable def dK0 (g h : Heap) (L : Addr) : PNS := (List.range h.objs.size).filterMap fun a => if a = L ∨ (g.get? a).isSome = true then none else (h.get? a).map fun o => (a, o)
def W2 (g h : Heap) (L d : Addr) : PNS := (dK0 g h L).filter fun p => decide (p.1 ≠ d)
structure Mod (K : PySem.W.Frag) (mg : Str → Option Value) (base : Heap) : Prop where
 kin : K.In base
 glob : base.Ns mainGlobals mg
 blt : ∃ mb, base.Ns builtinsNs mb ∧ ∀ x : Str, x ≠ "__name__" → mb x = bootBuiltins x
 nolimit : base.NoLimit
structure Cx where
 prog : Program
 w : World
 K : PySem.W.Frag
 mg : Str → Option Value
 base : Heap
 A : Around
 N : List Str
 s₀ : Shared
 H₀ : Hp
 env : Env
 outer : List Env
 stack : List Env
 ex : List Addr
 fn : Str → Bool
 calm : Bool
 pn : PNS
 xe : VSP
noncomputable def frs (l : List Env) : List Addr := l.filterMap (·.frame)
abbrev Cx.fs (X : Cx) : List Addr := frs X.outer
noncomputable def Vis (sc : Scope) (x : Str) : Prop := sc.names.lookup x = some .local ∨ sc.names.lookup x = some .cell ∨ sc.names.lookup x = some .free
noncomputable def Loc (sc : Scope) (x : Str) : Prop := sc.names.lookup x = some .local ∨ sc.names.lookup x = some .cell
noncomputable def eG7 (env : Env) (h : Heap) (m : Str → Option Value) (x : Str) (u : Value) : Prop :=
 (env.kindOf x = some .local ∧ m x = some u) ∨ ((env.kindOf x = some .cell ∨ env.kindOf x = some .free) ∧ ∃ c, env.cells.lookup x = some c ∧ h.IsCell c (some u))
structure Cx.Ok (X : Cx) : Prop where
 mod : Mod X.K X.mg X.base
 kind : X.env.scope.kind = .function
 glob : X.env.globals = mainGlobals
 blt : X.env.builtins = builtinsNs
 above : X.s₀.heap.objs.size ≤ X.env.locals
 inj : ∀ x y c, X.env.cells.lookup x = some c → X.env.cells.lookup y = some c → x = y
 has : ∀ x, (X.env.kindOf x = some .cell ∨ X.env.kindOf x = some .free) → ∃ c, X.env.cells.lookup x = some c
 cab : ∀ x c, X.fn x = true → X.env.cells.lookup x = some c → X.s₀.heap.objs.size ≤ c
 hd : X.calm = true → X.A.handled = none
 frames : X.A.frames = some X.stack
 stk : X.stack = X.outer ∨ (X.stack = X.env :: X.outer ∧ X.env.frame = some X.env.locals)
 exf : ∀ b ∈ X.ex, b ≠ X.env.locals ∧ ∀ x c, X.env.cells.lookup x = some c → c ≠ b
 bs : ∀ b o, X.base.get? b = some o → X.s₀.heap.get? b = some o ∧ X.H₀ b = none
 bsz : X.base.objs.size ≤ X.s₀.heap.objs.size
 noex : ∀ b o, X.base.get? b = some o → b ∉ X.ex
 exfs : ∀ b ∈ X.ex, b ∉ X.fs
 funs : X.s₀.heap.FunFrames X.base X.outer
 frf : ∀ b ∈ X.fs, X.H₀ b = none
structure Inv (X : Cx) (pins : PNS) (σ : List (Option V)) (H : Hp) (s : Shared) : Prop where
 ok : X.Ok
 os : s.os = X.s₀.os
 bare : AllBare s.gens
 base : Un X.fs X.ex X.H₀ H X.s₀.heap s.heap
 loc : ∃ m, s.heap.Ns X.env.locals m ∧ ∀ (i : Nat) (x : Str) (v : V), X.N[i]? = some x → σ[i]? = some (some v) → Vis X.env.scope x → ∃ u, J9 v u ∧ eG7 X.env s.heap m x u
 cell : ∀ x c, X.env.cells.lookup x = some c → ∃ v, s.heap.IsCell c v
 free : H X.env.locals = none
 freeC : ∀ x c, X.env.cells.lookup x = some c → H c = none
 pin : ∀ p ∈ X.pn ++ pins, s.heap.get? p.1 = some p.2 ∧ H p.1 = none ∧ p.1 ≠ X.env.locals ∧ p.1 ∉ X.fs ∧ ∀ v, p.2.data ≠ .cell v
 hok : HOk X.prog X.w H s.heap
 len : σ.length = X.N.length
section
variable {X : Cx} {pins : PNS} {σ : List (Option V)} {H H' : Hp} {s : Shared} {h' : Heap}
theorem Cx.Ok.nofr (ok : X.Ok) {b : Addr} {o : Obj} (e : X.base.get? b = some o) : b ∉ X.fs := fun hb => by
 have := (ok.funs.mem hb).1
 rw [e] at this; cases this
theorem Inv.bs (I : Inv X pins σ H s) : ∀ b o, X.base.get? b = some o → s.heap.get? b = some o ∧ H b = none := fun b o e =>
 ⟨I.base.keep b o (I.ok.bs b o e).1 (I.ok.bs b o e).2 (I.ok.nofr e) (I.ok.noex b o e), I.base.free b o (I.ok.bs b o e).1 (I.ok.bs b o e).2 (I.ok.noex b o e)⟩
theorem Inv.bk (I : Inv X pins σ H s) : ∀ b o, X.base.get? b = some o → s.heap.get? b = some o := fun b o e => (I.bs b o e).1
theorem Inv.mod (I : Inv X pins σ H s) : Mod X.K X.mg X.base := I.ok.mod
theorem Inv.kIn (I : Inv X pins σ H s) : X.K.In s.heap := I.ok.mod.kin.keeps I.bk
theorem Inv.lt (I : Inv X pins σ H s) : X.env.locals < s.heap.objs.size := let ⟨_, hn, _⟩ := I.loc; hn.lt
theorem Inv.sz (I : Inv X pins σ H s) : X.s₀.heap.objs.size ≤ s.heap.objs.size := Nat.le_trans I.ok.above (Nat.le_of_lt I.lt)
theorem Inv.nofs (I : Inv X pins σ H s) {a : Addr} (h : s.heap.objs.size ≤ a) : a ∉ X.fs := fun hb => by
 obtain ⟨_, o, ho, _⟩ := I.ok.funs.mem hb
 exact absurd (Nat.lt_of_lt_of_le (Heap.lt_size ho) (Nat.le_trans I.sz h)) (Nat.lt_irrefl _)
theorem Inv.cne (I : Inv X pins σ H s) : ∀ x c, X.env.cells.lookup x = some c → c ≠ X.env.locals := fun x c e z => by
 obtain ⟨v, o, ho, hd⟩ := I.cell x c e
 obtain ⟨m, ⟨o', es, ep, ho', hd', _⟩, _⟩ := I.loc
 rw [z, ho'] at ho; cases ho; rw [hd'] at hd; cases hd
theorem Inv.funs (I : Inv X pins σ H s) : s.heap.FunFrames X.base X.outer := by
 have all : ∀ (l : List Env), (∀ b ∈ frs l, b ∈ X.fs) → X.s₀.heap.FunFrames X.base l → s.heap.FunFrames X.base l := by
  intro l
  induction l with
  | nil => intro _ _; trivial
  | cons env r ih =>
    intro hs hl
    obtain ⟨hk, ⟨L, o, hf, hn, ho, hd⟩, hr⟩ := hl
    have hL : L ∈ X.fs := hs L (by unfold frs; rw [List.filterMap_cons, hf]; exact List.mem_cons_self)
    obtain ⟨sl, e⟩ := I.base.slot L o ho (I.ok.frf L hL) hL fun z => I.ok.exfs L z hL
    exact ⟨hk, ⟨L, _, hf, hn, e, hd⟩, ih (fun b hb => hs b (by unfold frs; rw [List.filterMap_cons, hf]; exact List.mem_cons_of_mem _ hb)) hr⟩
 exact all X.outer (fun _ hb => hb) I.ok.funs
theorem Inv.stack (I : Inv X pins σ H s) : s.heap.FunFrames X.base X.stack := by
 rcases I.ok.stk with e | ⟨e, hf⟩
 · rw [e]; exact I.funs
 · rw [e]
   obtain ⟨m, hn, _⟩ := I.loc
   refine .cons (by rw [I.ok.kind]; decide) hf hn ?_ I.funs
   exact Heap.get?_none_of_le (Nat.le_trans I.ok.bsz I.ok.above)
theorem Inv.stkSub (I : Inv X pins σ H s) : ∀ b ∈ frs X.stack, b ∈ X.env.locals :: X.fs := fun b hb => by
 rcases I.ok.stk with e | ⟨e, hf⟩
 · rw [e] at hb; exact List.mem_cons_of_mem _ hb
 · rw [e] at hb
   unfold frs at hb
   rw [List.filterMap_cons, hf] at hb
   exact hb
theorem Inv.stkFree (I : Inv X pins σ H s) : ∀ b ∈ frs X.stack, H b = none := fun b hb => by
 rcases List.mem_cons.mp (I.stkSub b hb) with e | hb
 · rw [e]; exact I.free
 · obtain ⟨_, o, ho, _⟩ := I.ok.funs.mem hb
   exact I.base.free b o ho (I.ok.frf b hb) fun z => I.ok.exfs b z hb
theorem Inv.step {g' : Array GenState} {t' : Nat} {d' : Drawn} {ch : List Addr} (I : Inv X pins σ H s)
 (hch : ∀ b ∈ ch, (b ∈ X.ex ∨ X.s₀.heap.objs.size ≤ b) ∧ b ≠ X.env.locals ∧ (∀ x c, X.env.cells.lookup x = some c → c ≠ b) ∧ ∀ p ∈ X.pn ++ pins, p.1 ≠ b)
 (keep : ∀ b o, b ≠ X.env.locals → b ∉ X.fs → b ∉ ch → s.heap.get? b = some o → H b = none → h'.get? b = some o)
 (slot : ∀ b o, b ≠ X.env.locals → b ∈ X.fs → b ∉ ch → s.heap.get? b = some o → H b = none → ∃ sl, h'.get? b = some { o with slots := sl }) (free : ∀ b o, b ∉ ch → s.heap.get? b = some o → H b = none → H' b = none)
 (there : ∀ b o, b ∉ ch → s.heap.get? b = some o → ∃ o', h'.get? b = some o')
 (tups : ∀ b xs, H b = some (.tup xs) → H' b = some (.tup xs)) (frzs : ∀ b o u, H b = some (.frz o u) → H' b = some (.frz o u)) (tbls : ∀ b ps, H b = some (.tbl ps) → ∃ more, H' b = some (.tbl (ps ++ more)))
 (ns : ∀ m, s.heap.Ns X.env.locals m → h'.Ns X.env.locals m) (hok : HOk X.prog X.w H' h') (hg : AllBare g') :
 Inv X pins σ H' { s with heap := h', gens := g', drawn := d', toks := t' } := by
 have neL : ∀ b o, X.s₀.heap.get? b = some o → b ≠ X.env.locals := fun b o e => Nat.ne_of_lt (Nat.lt_of_lt_of_le (Heap.lt_size e) I.ok.above)
 have neC : ∀ b o, X.s₀.heap.get? b = some o → b ∉ X.ex → b ∉ ch := fun b o e hx hb => by
  rcases (hch b hb).1 with z | z
  · exact hx z
  · exact absurd (Nat.lt_of_lt_of_le (Heap.lt_size e) z) (Nat.lt_irrefl _)
 have cellK : ∀ x c, X.env.cells.lookup x = some c → ∀ v, s.heap.IsCell c v → h'.IsCell c v := fun x c e v ⟨o, ho, hd⟩ => by
  have nch : c ∉ ch := fun z => (hch c z).2.2.1 x c e rfl
  by_cases hc : c ∈ X.fs
  · obtain ⟨sl, q⟩ := slot c o (I.cne x c e) hc nch ho (I.freeC x c e)
    exact ⟨_, q, hd⟩
  · exact ⟨o, keep c o (I.cne x c e) hc nch ho (I.freeC x c e), hd⟩
 refine ⟨I.ok, I.os, hg, ⟨fun b o e n hb hx => ?_, fun b o e n hb hx => ?_, fun b o e n hx => ?_, fun b o e hx => ?_, fun b xs e => tups b xs (I.base.tups b xs e), fun b o xs e => frzs b o xs (I.base.frzs b o xs e), fun b ps e => ?_⟩, ?_, fun x c e => ?_, ?_, fun x c e => ?_, fun p hp => ?_, hok, I.len⟩
 · exact keep b o (neL b o e) hb (neC b o e hx) (I.base.keep b o e n hb hx) (I.base.free b o e n hx)
 · obtain ⟨sl, e1⟩ := I.base.slot b o e n hb hx
   obtain ⟨sl', e2⟩ := slot b _ (neL b o e) hb (neC b o e hx) e1 (I.base.free b o e n hx)
   exact ⟨sl', e2⟩
 · obtain ⟨o', e1⟩ := I.base.there b o e hx
   exact free b o' (neC b o e hx) e1 (I.base.free b o e n hx)
 · obtain ⟨o', e1⟩ := I.base.there b o e hx
   exact there b o' (neC b o e hx) e1
 · obtain ⟨m1, e1⟩ := I.base.tbls b ps e
   obtain ⟨m2, e2⟩ := tbls b _ e1
   exact ⟨m1 ++ m2, by rw [e2, Array.append_assoc]⟩
 · obtain ⟨m, hn, hl⟩ := I.loc
   refine ⟨m, ns m hn, fun i x v e1 e2 e3 => ?_⟩
   obtain ⟨u, r, l⟩ := hl i x v e1 e2 e3
   refine ⟨u, r, ?_⟩
   rcases l with l | ⟨k, c, e, z⟩
   · exact .inl l
   · exact .inr ⟨k, c, e, cellK x c e _ z⟩
 · obtain ⟨v, z⟩ := I.cell x c e
   exact ⟨v, cellK x c e v z⟩
 · obtain ⟨m, ⟨o, _, _, ho, _⟩, _⟩ := I.loc
   exact free _ o (fun z => (hch _ z).2.1 rfl) ho I.free
 · obtain ⟨v, o, ho, hd⟩ := I.cell x c e
   exact free c o (fun z => (hch c z).2.2.1 x c e rfl) ho (I.freeC x c e)
 · obtain ⟨e, n, ne, nf, d⟩ := I.pin p hp
   have nch : p.1 ∉ ch := fun z => (hch p.1 z).2.2.2 p hp rfl
   exact ⟨keep p.1 p.2 ne nf nch e n, free p.1 p.2 nch e n, ne, nf, d⟩
theorem Inv.un {t' : Nat} (I : Inv X pins σ H s) (u : Un X.fs [] H H' s.heap h') (hok : HOk X.prog X.w H' h') : Inv X pins σ H' { s with heap := h', toks := t' } := by
 obtain ⟨m, ⟨o, es, ep, ho, r⟩, _⟩ := id I.loc
 obtain ⟨sl, hL⟩ := u.any ho I.free (by simp)
 exact I.step (g' := s.gens) (d' := s.drawn) (ch := []) (fun _ z => nomatch z) (fun b o _ hb _ e n => u.keep b o e n hb (by simp)) (fun b o _ hb _ e n => u.slot b o e n hb (by simp)) (fun b o _ e n => u.free b o e n (by simp)) (fun b o _ e => u.there b o e (by simp)) u.tups u.frzs u.tbls (fun m' hm => by
  obtain ⟨o', es', ep', ho', r'⟩ := hm
  rw [ho] at ho'; cases ho'
  exact ⟨_, es', ep', hL, r'⟩) hok I.bare
theorem Inv.call {g' : Array GenState} {t' : Nat} {d' : Drawn} {ch : List Addr} (I : Inv X pins σ H s) (u : Un (frs X.stack) ch H H' s.heap h') (hok : HOk X.prog X.w H' h') (hg : AllBare g')
 (hch : ∀ b ∈ ch, (b ∈ X.ex ∨ X.s₀.heap.objs.size ≤ b) ∧ b ≠ X.env.locals ∧ (∀ x c, X.env.cells.lookup x = some c → c ≠ b) ∧ ∀ p ∈ X.pn ++ pins, p.1 ≠ b) :
 Inv X pins σ H' { s with heap := h', gens := g', drawn := d', toks := t' } := by
 obtain ⟨m, ⟨o, es, ep, ho, r⟩, _⟩ := id I.loc
 obtain ⟨sl, hL⟩ := u.any ho I.free fun z => (hch _ z).2.1 rfl
 exact I.step (ch := ch) hch (fun b o hL hb hc e n => u.keep b o e n (fun z => (List.mem_cons.mp (I.stkSub b z)).elim hL hb) hc) (fun b o _ _ hc e n => u.any e n hc) (fun b o hc e n => u.free b o e n hc) (fun b o hc e => u.there b o e hc) u.tups u.frzs u.tbls (fun m' hm => by
  obtain ⟨o', es', ep', ho', r'⟩ := hm
  rw [ho] at ho'; cases ho'
  exact ⟨_, es', ep', hL, r'⟩) hok hg
theorem Inv.turned {t' : Nat} {it : Addr} (I : Inv X pins σ H s) (k : ∀ b o, b ≠ it → s.heap.get? b = some o → h'.get? b = some o) (hn : H it = none) (hL : it ≠ X.env.locals)
 (h1 : it ∈ X.ex ∨ X.s₀.heap.objs.size ≤ it) (h2 : ∀ x c, X.env.cells.lookup x = some c → c ≠ it) (h3 : ∀ p ∈ X.pn ++ pins, p.1 ≠ it) : Inv X pins σ H { s with heap := h', toks := t' } := by
 have nit : ∀ b u, H b = some u → b ≠ it := fun b u e z => by rw [z, hn] at e; cases e
 refine I.step (g' := s.gens) (d' := s.drawn) (ch := [it]) (fun b hb => ?_) (fun b o _ _ hc e _ => k b o (fun z => hc (by simp [z])) e) (fun b o _ _ hc e _ => ⟨o.slots, k b o (fun z => hc (by simp [z])) e⟩) (fun _ _ _ _ n => n)
  (fun b o hc e => ⟨o, k b o (fun z => hc (by simp [z])) e⟩) (fun _ _ e => e) (fun _ _ _ e => e) (fun b ps e => ⟨#[], by rw [e]; simp⟩) (fun m hm => ?_) (fun b u e => ?_) I.bare
 · have e : b = it := by simpa using hb
   subst e
   exact ⟨h1, hL, h2, h3⟩
 · obtain ⟨o, es, ep, ho, r⟩ := hm
   exact ⟨o, es, ep, k _ o (Ne.symm hL) ho, r⟩
 · refine (I.hok b u e).stay (fun c v hc q => k c v ?_ q) (fun _ q => q) fun _ _ q => q
   rcases hc with z | z
   · rw [z]; exact nit b u e
   · exact nit c _ z
theorem Inv.tok (I : Inv X pins σ H s) (t : Nat) : Inv X pins σ H { s with toks := t } := I.un (h' := s.heap) (t' := t) Un.refl I.hok
theorem Inv.kept {t' : Nat} (I : Inv X pins σ H s) (k : ∀ b u, s.heap.get? b = some u → h'.get? b = some u) : Inv X pins σ H { s with heap := h', toks := t' } := I.un (Un.kept k) (I.hok.kept k)
theorem Inv.laid {a : Addr} {o : HO} {t' : Nat} (I : Inv X pins σ H s) (k : ∀ b u, s.heap.get? b = some u → h'.get? b = some u) (hp : s.heap.objs.size ≤ a) (new : W6 X.prog X.w (upd H a o) h' a o) :
 Inv X pins σ (upd H a o) { s with heap := h', toks := t' } := I.un (Un.laid k hp (I.hok.fresh hp)) (I.hok.laid k hp new)
theorem Inv.write {x e : Addr} {o : HO} {t' : Nat} (I : Inv X pins σ H s) (mu : Mut (H x)) (he : e = x ∨ H e = some (.own x)) (k : ∀ b u, b ≠ e → s.heap.get? b = some u → h'.get? b = some u) (heo : ∃ u, h'.get? e = some u)
 (new : W6 X.prog X.w (upd H x o) h' x o) : Inv X pins σ (upd H x o) { s with heap := h', toks := t' } := I.un (Un.write mu he k heo) (I.hok.write mu he k heo new)
theorem Inv.pins_of {pins' : PNS} (I : Inv X pins σ H s) (h : ∀ p ∈ pins', s.heap.get? p.1 = some p.2 ∧ H p.1 = none ∧ p.1 ≠ X.env.locals ∧ p.1 ∉ X.fs ∧ ∀ v, p.2.data ≠ .cell v) : Inv X pins' σ H s :=
 ⟨I.ok, I.os, I.bare, I.base, I.loc, I.cell, I.free, I.freeC, fun p hp => (List.mem_append.mp hp).elim (fun z => I.pin p (List.mem_append_left _ z)) (h p), I.hok, I.len⟩
theorem bX6 {N : List Str} (hN : N.Nodup) {i j : Nat} {x : Str} (a : N[i]? = some x) (b : N[j]? = some x) : i = j := by
 obtain ⟨h1, e1⟩ := List.getElem?_eq_some_iff.mp a
 obtain ⟨h2, e2⟩ := List.getElem?_eq_some_iff.mp b
 exact (List.getElem_inj hN).mp (e1.trans e2.symm)
theorem cO8 {M : Model} {A : Around} {E : VSP} {i : Nat} {x : Str} {v : V} {u : Value} {Q : Unit → Shared → Prop} (I : Inv X pins σ H s) (hN : X.N.Nodup) (hi : X.N[i]? = some x) (hx : Loc X.env.scope x) (r : J9 v u)
 (h : ∀ s', Inv X pins (σ.set i (some v)) H s' → (∃ a, Heap.SameBut a s.heap s'.heap ∧ (a = X.env.locals ∨ X.env.cells.lookup x = some a)) → Q () s') (hf : X.fn x = true ∨ X.env.scope.names.lookup x = some .local) : wpAny M A (storeName X.env x u) Q E s := by
 obtain ⟨m, hn, hl⟩ := id I.loc
 have hcls : (X.env.scope.kind == .class || (X.env.scope.kind == .module && X.env.locals != X.env.globals)) = false := by rw [I.ok.kind]; rfl
 have hiσ : i < σ.length := by rw [I.len]; exact (List.getElem?_eq_some_iff.mp hi).1
 have cne := I.cne
 have tracked : ∀ {a : Addr} {h' : Heap}, (∃ o, s.heap.get? a = some o ∧ H a = none) → Heap.SameBut a s.heap h' → HOk X.prog X.w H h' := fun {a h'} ha hs b ob e => by
  obtain ⟨_, _, hfree⟩ := ha
  refine (I.hok b ob e).stay (fun c w' hc q => (hs.2 c ?_).trans q) (fun _ q => q) fun _ _ q => q
  rintro rfl
  rcases hc with rfl | hc
  · rw [hfree] at e; cases e
  · rw [hfree] at hc; cases hc
 rcases hx with hk | hk
 · refine wpAny_storeName_local hk hn (fun h' hn' hs => ?_) hcls
   obtain ⟨oL, _, _, hoL, _⟩ := id hn
   refine h _ ⟨I.ok, I.os, I.bare, ⟨fun b o e n hb hx => ?_, fun b o e n hb hx => ?_, I.base.free, fun b o e hx => ?_, I.base.tups, I.base.frzs, I.base.tbls⟩, ⟨_, hn', fun j y v' e1 e2 e3 => ?_⟩, fun y c e => ?_, I.free, I.freeC, fun p hp => ?_, tracked ⟨oL, hoL, I.free⟩ hs, by simpa using I.len⟩ ⟨_, hs, .inl rfl⟩
   · exact (hs.2 b (Nat.ne_of_lt (Nat.lt_of_lt_of_le (Heap.lt_size e) I.ok.above))).trans (I.base.keep b o e n hb hx)
   · obtain ⟨sl, e1⟩ := I.base.slot b o e n hb hx
     exact ⟨sl, (hs.2 b (Nat.ne_of_lt (Nat.lt_of_lt_of_le (Heap.lt_size e) I.ok.above))).trans e1⟩
   · obtain ⟨o', e1⟩ := I.base.there b o e hx
     exact ⟨o', (hs.2 b (Nat.ne_of_lt (Nat.lt_of_lt_of_le (Heap.lt_size e) I.ok.above))).trans e1⟩
   · by_cases hj : j = i
     · subst hj
       rw [hi] at e1; cases e1
       rw [List.getElem?_set_self hiσ] at e2
       cases e2
       exact ⟨u, r, .inl ⟨hk, by simp⟩⟩
     · rw [List.getElem?_set_ne (Ne.symm hj)] at e2
       obtain ⟨u', r', q⟩ := hl j y v' e1 e2 e3
       refine ⟨u', r', ?_⟩
       rcases q with ⟨k, e⟩ | ⟨k, c, e, z⟩
       · refine .inl ⟨k, ?_⟩
         have : y ≠ x := fun e => hj (bX6 hN e1 (e ▸ hi))
         simp [this, e]
       · exact .inr ⟨k, c, e, z.sameBut hs (cne y c e)⟩
   · obtain ⟨w', z⟩ := I.cell y c e
     exact ⟨w', z.sameBut hs (cne y c e)⟩
   · obtain ⟨e, n, ne, nf, d⟩ := I.pin p hp
     exact ⟨(hs.2 p.1 ne).trans e, n, ne, nf, d⟩
 · have hfn : X.fn x = true := by
    rcases hf with z | z
    · exact z
    · rw [z] at hk; cases hk
   obtain ⟨c, hc⟩ := I.ok.has x (.inl hk)
   obtain ⟨w', z⟩ := I.cell x c hc
   refine wpAny_storeName_cell I.ok.kind hk hc z (fun h' hc' hs => ?_)
   obtain ⟨oc, hoc, hocd⟩ := id z
   refine h { s with heap := h' } ⟨I.ok, I.os, I.bare, ⟨fun b o e n hb hx => ?_, fun b o e n hb hx => ?_, I.base.free, fun b o e hx => ?_, I.base.tups, I.base.frzs, I.base.tbls⟩, ⟨m, hn.sameBut hs (Ne.symm (cne x c hc)), fun j y v' e1 e2 e3 => ?_⟩, fun y c' e => ?_, I.free, I.freeC, fun p hp => ?_, tracked ⟨oc, hoc, I.freeC x c hc⟩ hs, by simpa using I.len⟩ ⟨c, hs, .inr hc⟩
   · exact (hs.2 b (Nat.ne_of_lt (Nat.lt_of_lt_of_le (Heap.lt_size e) (I.ok.cab x c hfn hc)))).trans (I.base.keep b o e n hb hx)
   · obtain ⟨sl, e1⟩ := I.base.slot b o e n hb hx
     exact ⟨sl, (hs.2 b (Nat.ne_of_lt (Nat.lt_of_lt_of_le (Heap.lt_size e) (I.ok.cab x c hfn hc)))).trans e1⟩
   · obtain ⟨o', e1⟩ := I.base.there b o e hx
     exact ⟨o', (hs.2 b (Nat.ne_of_lt (Nat.lt_of_lt_of_le (Heap.lt_size e) (I.ok.cab x c hfn hc)))).trans e1⟩
   · by_cases hj : j = i
     · subst hj
       rw [hi] at e1; cases e1
       rw [List.getElem?_set_self hiσ] at e2
       cases e2
       exact ⟨u, r, .inr ⟨.inl hk, c, hc, hc'⟩⟩
     · rw [List.getElem?_set_ne (Ne.symm hj)] at e2
       obtain ⟨u', r', q⟩ := hl j y v' e1 e2 e3
       refine ⟨u', r', ?_⟩
       rcases q with q | ⟨k, c', e, z'⟩
       · exact .inl q
       · refine .inr ⟨k, c', e, z'.sameBut hs ?_⟩
         rintro rfl
         exact hj (bX6 hN e1 (I.ok.inj _ _ _ e hc ▸ hi))
   · by_cases hcc : c' = c
     · subst hcc; exact ⟨_, hc'⟩
     · obtain ⟨w2, z2⟩ := I.cell y c' e
       exact ⟨w2, z2.sameBut hs hcc⟩
   · obtain ⟨e, n, ne, nf, d⟩ := I.pin p hp
     refine ⟨(hs.2 p.1 ?_).trans e, n, ne, nf, d⟩
     intro q
     rw [q, hoc] at e
     have q' : oc = p.2 := Option.some.inj e
     exact d w' (by rw [← q']; exact hocd)
theorem dC0 {M : Model} {A : Around} {E : VSP} {i : Nat} {x : Str} {v : V} {u : Value} {Q : Unit → Shared → Prop} (I : Inv X pins σ H s) (hN : X.N.Nodup) (hi : X.N[i]? = some x) (hx : Loc X.env.scope x) (r : J9 v u)
 (h : ∀ s', Inv X pins (σ.set i (some v)) H s' → Q () s') (hf : X.fn x = true ∨ X.env.scope.names.lookup x = some .local) : wpAny M A (storeName X.env x u) Q E s :=
 cO8 I hN hi hx r (fun s' I' _ => h s' I') hf
end
noncomputable abbrev XK := Value → Option Addr → Hp → Prop
noncomputable abbrev St := List (Option V)
noncomputable abbrev VK := V → Hp → Prop
noncomputable abbrev TE := St → Hp → VK → Prop
noncomputable abbrev TT := St → Hp → (Bool → Hp → Prop) → Prop
noncomputable abbrev TA := St → Hp → (List V → Hp → Prop) → Prop
structure cA5 where
 nx : St → Hp → Prop
 rt : VK
 bk : St → Hp → Prop := fun _ _ => False
 ct : St → Hp → Prop := fun _ _ => False
noncomputable abbrev TS := cA5 → St → Hp → Prop
def EP (X : Cx) (pins : PNS) (σ : St) (Q : VK) (u : Value) (s' : Shared) : Prop := ∃ v H', Inv X pins σ H' s' ∧ J9 v u ∧ Q v H'
noncomputable def TP (X : Cx) (pins : PNS) (σ : St) (Q : Bool → Hp → Prop) (b : Bool) (s' : Shared) : Prop := ∃ H', Inv X pins σ H' s' ∧ Q b H'
noncomputable def AP (X : Cx) (pins : PNS) (σ : St) (Q : List V → Hp → Prop) (us : List Value) (s' : Shared) : Prop := ∃ vs H', Inv X pins σ H' s' ∧ J7 vs us ∧ Q vs H'
def SP (X : Cx) (pins : PNS) (D : cA5) (f : Flow) (s' : Shared) : Prop :=
 match f with
 | .next => ∃ σ' H', Inv X pins σ' H' s' ∧ D.nx σ' H'
 | .brk => ∃ σ' H', Inv X pins σ' H' s' ∧ D.bk σ' H'
 | .cont => ∃ σ' H', Inv X pins σ' H' s' ∧ D.ct σ' H'
 | .ret u => ∃ v σ' H', Inv X pins σ' H' s' ∧ J9 v u ∧ D.rt v H'
def PE (X : Cx) (e : Expr) (t : TE) : Prop :=
 ∀ (pins : PNS) (s : Shared) (σ : St) (H : Hp) (Q : VK), Inv X pins σ H s → t σ H Q → wpAny (model X.prog X.w) X.A (eval e X.env) (EP X pins σ Q) X.xe s
def PT (X : Cx) (e : Expr) (t : TT) : Prop :=
 ∀ (pins : PNS) (s : Shared) (σ : St) (H : Hp) (Q : Bool → Hp → Prop), Inv X pins σ H s → t σ H Q → wpAny (model X.prog X.w) X.A (isTrue e X.env (eval e X.env)) (TP X pins σ Q) X.xe s
def PW (X : Cx) (e : Expr) (t : TT) : Prop :=
 ∀ (whole : Sem Value) (pins : PNS) (s : Shared) (σ : St) (H : Hp) (Q : Bool → Hp → Prop), Inv X pins σ H s → t σ H Q → wpAny (model X.prog X.w) X.A (isTrue e X.env whole) (TP X pins σ Q) X.xe s
def PA (X : Cx) (es : List Expr) (t : TA) : Prop :=
 ∀ (pos : Pos) (pins : PNS) (s : Shared) (σ : St) (H : Hp) (Q : List V → Hp → Prop), Inv X pins σ H s → t σ H Q → wpAny (model X.prog X.w) X.A (spliced (backTo pos (starEach es X.env))) (AP X pins σ Q) X.xe s
def PS (X : Cx) (st : Stmt) (t : TS) : Prop :=
 ∀ (pins : PNS) (s : Shared) (σ : St) (H : Hp) (D : cA5), Inv X pins σ H s → t D σ H → wpAny (model X.prog X.w) X.A (exec st X.env) (SP X pins D) X.xe s
def PSs (X : Cx) (st : List Stmt) (t : TS) : Prop :=
 ∀ (pins : PNS) (s : Shared) (σ : St) (H : Hp) (D : cA5), Inv X pins σ H s → t D σ H → wpAny (model X.prog X.w) X.A (execs st X.env) (SP X pins D) X.xe s
theorem thn {α : Type} {t : Sem α} {Q Q' : α → Shared → Prop} {M : Model} {A : Around} {E : VSP} {s : Shared} (h : wpAny M A t Q E s) (hQ : ∀ a s, Q a s → Q' a s) : wpAny M A t Q' E s := wpAny_mono h hQ fun _ _ x => x
section
variable {X : Cx}
noncomputable def dQ7 (i : Nat) : TE := fun σ H Q => ∃ v, σ[i]? = some (some v) ∧ Q v H
noncomputable def tC (v : V) : TE := fun _ H Q => Q v H
theorem cY0 {i : Nat} {x : Str} {pos : Pos} (hN : X.N[i]? = some x) (hv : Vis X.env.scope x) (hd : (x == ("__debug__" : Str)) = false) (hcd : (x == ("__classdict__" : Str)) = false) : PE X (.Name x pos) (dQ7 i) := by
 intro pins s σ H Q I h
 obtain ⟨v, e, h⟩ := h
 obtain ⟨m, hn, hl⟩ := I.loc
 obtain ⟨u, r, l⟩ := hl i x v hN e hv
 have fin : EP X pins σ Q u s := ⟨v, H, I, r, h⟩
 rcases l with ⟨hk, hm⟩ | ⟨hk, c, hc, hcell⟩
 · exact wpAny_Name (wpAny_loadName_local I.ok.kind hk hn hm fin) hd
 · rcases hk with hk | hk
   · exact wpAny_Name (wpAny_loadName_cell I.ok.kind hk hc hcell fin) hd
   · exact wpAny_Name (wpAny_loadName_free I.ok.kind hk hc hcell fin hcd) hd
theorem cZ9 {i j pos} : PE X (.Constant (.int i) j pos) (tC (.int i)) := fun _ _ _ H _ I h => wpAny_Constant_int ⟨.int i, H, I.tok _, ⟨_, rfl⟩, h⟩
theorem dX8 {b j pos} : PE X (.Constant (.bool b) j pos) (tC (.bl b)) := fun _ _ _ H _ I h => Constant_bool ⟨.bl b, H, I, rfl, h⟩
theorem dU5 {j pos} : PE X (.Constant .none j pos) (tC .non) := fun _ _ _ H _ I h => Constant_none ⟨.non, H, I, rfl, h⟩
theorem dW0 {x j pos} : PE X (.Constant (.str x) j pos) (tC (.str x)) := fun _ _ _ H _ I h => Calls.Constant_str ⟨.str x, H, I.tok _, ⟨_, rfl⟩, h⟩
noncomputable def Gl (X : Cx) (x : Str) : Prop := X.env.kindOf x = some .globalImplicit
theorem bT8 {E : VSP} {pins : PNS} {s : Shared} {σ : St} {H : Hp} {x : Str} {u : Value} {pos : Pos} {Q : VSP} (I : Inv X pins σ H s) (hg : Gl X x) (hm : X.mg x = some u) (h : Q u s)
 (hd : (x == ("__debug__" : Str)) = false) : wpAny (model X.prog X.w) X.A (eval (.Name x pos) X.env) Q E s :=
 Calls.Name_function_global I.ok.kind hg (Calls.loadGlobal_global (by rw [I.ok.glob]; exact I.mod.glob.keeps I.bk) hm h) hd
theorem bA8 {E : VSP} {pins : PNS} {s : Shared} {σ : St} {H : Hp} {x : Str} {u : Value} {pos : Pos} {Q : VSP} (I : Inv X pins σ H s) (hg : Gl X x) (hm : X.mg x = none) (hv : bootBuiltins x = some u) (h : Q u s)
 (hn : x ≠ "__name__" := by decide) (hd : (x == ("__debug__" : Str)) = false := by decide) : wpAny (model X.prog X.w) X.A (eval (.Name x pos) X.env) Q E s := by
 obtain ⟨mb, h1, h2⟩ := I.mod.blt
 exact Calls.Name_function_global I.ok.kind hg (Calls.loadGlobal_builtin (by rw [I.ok.glob]; exact I.mod.glob.keeps I.bk) hm (by rw [I.ok.blt]; exact h1.keeps I.bk) ((h2 x hn).trans hv) h) hd
theorem dI4 {x : Str} {v : V} {u : Value} {pos : Pos} (hg : Gl X x) (hm : X.mg x = none) (hv : bootBuiltins x = some u) (r : J9 v u) (hn : x ≠ "__name__") (hd : (x == ("__debug__" : Str)) = false) : PE X (.Name x pos) (tC v) :=
 fun _ _ _ H _ I h => bA8 I hg hm hv ⟨v, H, I, r, h⟩ hn hd
variable {a b : Expr} {ta tb : TE} {pos : Pos}
variable {tA tB' : TT} {W2 : List Expr}
noncomputable def eK0 (t u : TT) : TT := fun σ H Q => t σ H fun c H1 => if c = true then u σ H1 Q else Q false H1
noncomputable def tOr (t u : TT) : TT := fun σ H Q => t σ H fun c H1 => if c = true then Q true H1 else u σ H1 Q
noncomputable def eI8 (t : TT) : TT := fun σ H Q => t σ H fun c H1 => Q (!c) H1
theorem dE8 (ha : PT X a tA) : PW X (.BoolOp .And [a] pos) tA := by
 intro wh pins s σ H Q I h
 refine isTrue_and (thn (ha pins s σ H Q I h) fun c s1 e => ?_)
 cases c with
 | true => exact isTrue_and_nil e
 | false => exact e
theorem dR3 (ha : PT X a tA) : PW X (.BoolOp .Or [a] pos) tA := by
 intro wh pins s σ H Q I h
 refine isTrue_or (thn (ha pins s σ H Q I h) fun c s1 e => ?_)
 cases c with
 | false => exact isTrue_or_nil e
 | true => exact e
theorem dV5 (ha : PT X a tA) (hb : PW X (.BoolOp .And (b :: W2) pos) tB') : PW X (.BoolOp .And (a :: b :: W2) pos) (eK0 tA tB') := by
 intro wh pins s σ H Q I h
 refine isTrue_and (thn (ha pins s σ H _ I h) fun c s1 ⟨H1, I1, q1⟩ => ?_)
 cases c with
 | true => exact hb wh pins s1 σ H1 Q I1 q1
 | false => exact ⟨H1, I1, q1⟩
theorem eD3 (ha : PT X a tA) (hb : PW X (.BoolOp .Or (b :: W2) pos) tB') : PW X (.BoolOp .Or (a :: b :: W2) pos) (tOr tA tB') := by
 intro wh pins s σ H Q I h
 refine isTrue_or (thn (ha pins s σ H _ I h) fun c s1 ⟨H1, I1, q1⟩ => ?_)
 cases c with
 | true => exact ⟨H1, I1, q1⟩
 | false => exact hb wh pins s1 σ H1 Q I1 q1
theorem dW5 (ha : PT X a tA) : PT X (.UnaryOp .Not a pos) (eI8 tA) := by
 intro pins s σ H Q I h
 exact isTrue_not (ha pins s σ H (fun c H1 => Q (!c) H1) I h)
noncomputable def dX1 (ta : TE) : TE := fun σ H Q => ta σ H fun x H1 => ∃ c, x = .bl c ∧ Q (.bl (!c)) H1
theorem dQ4 {op} {t : TE} (h : PE X a t) : PE X (.BoolOp op [a] pos) t := fun pins s σ H Q I hw => BoolOp_one (h pins s σ H Q I hw)
theorem dT3 (ha : PE X a ta) : PE X (.UnaryOp .Not a pos) (dX1 ta) := by
 intro pins s σ H Q I h
 refine UnaryOp_ (thn (ha pins s σ H _ I h) fun v s1 ⟨x, H1, I1, r1, q1⟩ => ?_)
 obtain ⟨c, rfl, q1⟩ := q1
 cases r1
 exact not_of (wpAny_truthy_bool ⟨.bl (!c), H1, I1, rfl, q1⟩)
noncomputable def tIf (t : TT) (ta tb : TE) : TE := fun σ H Q => t σ H fun c H1 => if c = true then ta σ H1 Q else tb σ H1 Q
theorem cW6 {c : Expr} (hc : PT X c tA) (ha : PE X a ta) (hb : PE X b tb) : PE X (.IfExp c a b pos) (tIf tA ta tb) := by
 intro pins s σ H Q I h
 refine wpAny_IfExp (thn (hc pins s σ H _ I h) fun d s1 ⟨H1, I1, q1⟩ => ?_)
 cases d with
 | true => exact ha pins s1 σ H1 Q I1 q1
 | false => exact hb pins s1 σ H1 Q I1 q1
end
def SqL (K : PySem.W.Frag) (H : Hp) (a : Addr) (xs : List V) : Prop :=
 Rd H a (.lst xs) ∨
  ∃ (o : Obj) (its : Array Value) (n : Nat), K.lookup a = some o ∧ o.cls = .type "list" ∧ o.dict = none ∧ o.data = .seq its n ∧ its.size ≤ sizeLine ∧ J7 xs its.toList
def SqT (K : PySem.W.Frag) (H : Hp) (a : Addr) (xs : List V) : Prop :=
 Rd H a (.tup xs) ∨
  ∃ (o : Obj) (its : Array Value) (n : Nat), K.lookup a = some o ∧ o.cls = .type "tuple" ∧ (o.data, o.dict) = (Data.seq its n, none) ∧ its.size ≤ sizeLine ∧ J7 xs its.toList
noncomputable def eH5 : Value → Option V
 | .none => some .non
 | .bool b => some (.bl b)
 | .int i _ => some (.int i)
 | .str x _ => some (.str x)
 | .bytes b _ => some (.byt b)
 | .float b _ => some (.flt b)
 | .ref a => some (.ref a)
 | .type n => some (.ty n)
 | _ => none
theorem J9.abs {x : V} {u : Value} (r : J9 x u) : eH5 u = some x := by
 cases x with
 | non => cases r; rfl
 | bl _ => cases r; rfl
 | int _ => obtain ⟨t, rfl⟩ := r; rfl
 | str _ => obtain ⟨t, rfl⟩ := r; rfl
 | byt _ => obtain ⟨t, rfl⟩ := r; rfl
 | flt _ => obtain ⟨t, rfl⟩ := r; rfl
 | ref _ => cases r; rfl
 | ty _ => cases r; rfl
theorem J9.inj {x y : V} {u : Value} (r : J9 x u) (q : J9 y u) : x = y := Option.some.inj (r.abs.symm.trans q.abs)
theorem J7.inj {xs ys : List V} {us : List Value} (h : J7 xs us) (k : J7 ys us) : xs = ys := by
 induction h generalizing ys with
 | nil => cases k; rfl
 | cons r t ih => cases k with
   | cons r' t' => rw [r.inj r', ih t']
section
variable {X : Cx} {pins : PNS} {σ : St} {H : Hp} {s : Shared} {a : Addr} {xs ys : List V}
theorem SqL.of {K : PySem.W.Frag} (h : H a = some (.lst xs)) : SqL K H a xs := .inl (.inl h)
theorem SqT.of {K : PySem.W.Frag} (h : H a = some (.tup xs)) : SqT K H a xs := .inl (.inl h)
theorem Inv.list (I : Inv X pins σ H s) (h : SqL X.K H a xs) : ∃ its : List Value, J7 xs its ∧ PlainL s.heap a its.toArray ∧ xs.length ≤ sizeLine := by
 rcases h with h | ⟨o, its, n, hk, hc, hd, hs, hz, r⟩
 · obtain ⟨z, its, n, r, e⟩ := h.ok I.hok
   exact ⟨its, r, ⟨_, n, e, rfl, rfl, rfl⟩, z⟩
 · refine ⟨its.toList, r, ⟨o, n, I.kIn a o hk, hc, hd, by simpa using hs⟩, ?_⟩
   have e := r.length
   simp only [Array.length_toList] at e
   omega
theorem Inv.tuple (I : Inv X pins σ H s) (h : SqT X.K H a xs) : ∃ its : List Value, J7 xs its ∧ IsTup s.heap a its.toArray ∧ xs.length ≤ sizeLine := by
 rcases h with h | ⟨o, its, n, hk, hc, hs, hz, r⟩
 · obtain ⟨z, its, r, p⟩ := h.ok I.hok
   exact ⟨its, r, aC7.tup p, z⟩
 · refine ⟨its.toList, r, ⟨o, I.kIn a o hk, hc, n, by simpa using (Prod.mk.inj hs).1⟩, ?_⟩
   have e := r.length
   simp only [Array.length_toList] at e
   omega
theorem Inv.tupleN (I : Inv X pins σ H s) (h : SqT X.K H a xs) : ∃ its : List Value, J7 xs its ∧ aC7 s.heap a its.toArray ∧ xs.length ≤ sizeLine := by
 rcases h with h | ⟨o, its, n, hk, hc, hs, hz, r⟩
 · obtain ⟨z, its, r, p⟩ := h.ok I.hok
   exact ⟨its, r, p, z⟩
 · refine ⟨its.toList, r, ⟨o, I.kIn a o hk, hc, n, by simpa using hs⟩, ?_⟩
   have e := r.length
   simp only [Array.length_toList] at e
   omega
theorem Inv.list_inj (I : Inv X pins σ H s) (h : SqL X.K H a xs) (h' : SqL X.K H a ys) : xs = ys := by
 obtain ⟨its, r, ⟨o, n, e, _, _, d⟩, _⟩ := I.list h
 obtain ⟨its', r', ⟨o', n', e', _, _, d'⟩, _⟩ := I.list h'
 rw [e] at e'; cases e'
 rw [d] at d'
 injection d' with d1 _
 have : its = its' := by simpa using congrArg Array.toList d1
 subst this
 exact r.inj r'
theorem Inv.tuple_inj (I : Inv X pins σ H s) (h : SqT X.K H a xs) (h' : SqT X.K H a ys) : xs = ys := by
 obtain ⟨its, r, ⟨o, e, _, n, d⟩, _⟩ := I.tuple h
 obtain ⟨its', r', ⟨o', e', _, n', d'⟩, _⟩ := I.tuple h'
 rw [e] at e'; cases e'
 rw [d] at d'
 injection d' with d1 _
 have : its = its' := by simpa using congrArg Array.toList d1
 subst this
 exact r.inj r'
end
noncomputable abbrev Cx.wish (X : Cx) (E : VSP) : Cx := { X with xe := E }
noncomputable abbrev Cx.nox (X : Cx) : Cx := X.wish fun _ _ => False
theorem Cx.Ok.wish {X : Cx} (ok : X.Ok) (E : VSP) : (X.wish E).Ok :=
 ⟨ok.mod, ok.kind, ok.glob, ok.blt, ok.above, ok.inj, ok.has, ok.cab, ok.hd, ok.frames, ok.stk, ok.exf, ok.bs, ok.bsz, ok.noex, ok.exfs, ok.funs, ok.frf⟩
theorem Cx.Ok.unwish {X : Cx} {E : VSP} (ok : (X.wish E).Ok) : X.Ok :=
 ⟨ok.mod, ok.kind, ok.glob, ok.blt, ok.above, ok.inj, ok.has, ok.cab, ok.hd, ok.frames, ok.stk, ok.exf, ok.bs, ok.bsz, ok.noex, ok.exfs, ok.funs, ok.frf⟩
section
variable {X : Cx} {pins : PNS} {σ : St} {H : Hp} {s : Shared} {E : VSP}
theorem Inv.wish (I : Inv X pins σ H s) (E : VSP) : Inv (X.wish E) pins σ H s := ⟨I.ok.wish E, I.os, I.bare, I.base, I.loc, I.cell, I.free, I.freeC, I.pin, I.hok, I.len⟩
theorem Inv.unwish (I : Inv (X.wish E) pins σ H s) : Inv X pins σ H s := ⟨I.ok.unwish, I.os, I.bare, I.base, I.loc, I.cell, I.free, I.freeC, I.pin, I.hok, I.len⟩
theorem SP.unwish {D : cA5} {f : Flow} {s' : Shared} (h : SP (X.wish E) pins D f s') : SP X pins D f s' := by
 cases f with
 | next => obtain ⟨σ', H', I, q⟩ := h; exact ⟨σ', H', I.unwish, q⟩
 | brk => obtain ⟨σ', H', I, q⟩ := h; exact ⟨σ', H', I.unwish, q⟩
 | cont => obtain ⟨σ', H', I, q⟩ := h; exact ⟨σ', H', I.unwish, q⟩
 | ret u => obtain ⟨v, σ', H', I, r, q⟩ := h; exact ⟨v, σ', H', I.unwish, r, q⟩
theorem PSs.nox {st : List Stmt} {t : TS} (h : PSs X.nox st t) : PSs X st t := fun pins s σ H D I hw =>
 wpAny_mono (h pins s σ H D (I.wish _) hw) (fun _ _ q => q.unwish) fun _ _ z => False.elim z
end
section
variable {X : Cx} {st : Stmt} {W2 : List Stmt} {t u : TS} {e : Expr} {te : TE} {pos : Pos}
noncomputable def eG3 : TS := fun D σ H => D.nx σ H
noncomputable def eH4 (t u : TS) : TS := fun D σ H => t { D with nx := u D } σ H
theorem dJ3 : PSs X [] eG3 := fun _ _ σ H _ I h => wpAny_execs_nil ⟨σ, H, I, h⟩
theorem cU8 (h1 : PS X st t) (h2 : PSs X W2 u) : PSs X (st :: W2) (eH4 t u) := by
 intro pins s σ H D I h
 refine wpAny_execs_cons (thn (h1 pins s σ H { D with nx := u D } I h) fun f s1 q => ?_)
 cases f with
 | next =>
   obtain ⟨σ', H', I', q⟩ := q
   exact h2 pins s1 σ' H' D I' q
 | ret v => exact q
 | brk => exact q
 | cont => exact q
theorem dD2 (h1 : PS X st t) : PSs X [st] t := by
 intro pins s σ H D I h
 refine wpAny_execs_cons (thn (h1 pins s σ H D I h) fun f s1 q => ?_)
 cases f with
 | next => exact wpAny_execs_nil q
 | ret v => exact q
 | brk => exact q
 | cont => exact q
theorem Inv.quiet {pins : PNS} {σ : St} {H : Hp} {s : Shared} (I : Inv X pins σ H s) : interactive X.env = false := by simp [interactive, I.ok.kind]
noncomputable def eE4 (te : TE) : TS := fun D σ H => te σ H fun _ H1 => D.nx σ H1
theorem dJ8 (he : PE X e te) (hs : swapsWith e none pos.line X.env = pure false) : PS X (.Expr e pos) (eE4 te) := by
 intro pins s σ H D I h
 exact wpAny_Expr_any (thn (he pins s σ H _ I h) fun v s1 ⟨x, H1, I1, r1, q1⟩ => ⟨σ, H1, I1, q1⟩) I.quiet hs
noncomputable def eI6 (te : TE) : TS := fun D σ H => te σ H D.rt
theorem dW1 (he : PE X e te) : PS X (.Return (some e) pos) (eI6 te) := by
 intro pins s σ H D I h
 exact wpAny_Return_some (thn (he pins s σ H _ I h) fun v s1 ⟨x, H1, I1, r1, q1⟩ => ⟨x, σ, H1, I1, r1, q1⟩)
noncomputable def eJ2 (c : TT) (t u : TS) : TS := fun D σ H => c σ H fun b H1 => if b = true then t D σ H1 else u D σ H1
theorem eG0 {c : Expr} {a b : List Stmt} {tc : TT} (hc : PT X c tc) (ha : PSs X a t) (hb : PSs X b u) : PS X (.If c a b pos) (eJ2 tc t u) := by
 intro pins s σ H D I h
 refine wpAny_If (thn (hc pins s σ H _ I h) fun d s1 ⟨H1, I1, q1⟩ => ?_)
 cases d with
 | true => exact ha pins s1 σ H1 D I1 q1
 | false => exact hb pins s1 σ H1 D I1 q1
end
noncomputable abbrev TG := V → St → Hp → (St → Hp → Prop) → Prop
noncomputable abbrev TGs := List V → St → Hp → (St → Hp → Prop) → Prop
def PG (X : Cx) (target : Expr) (t : TG) : Prop :=
 ∀ (pins : PNS) (s : Shared) (σ : St) (H : Hp) (v : V) (u : Value) (Q : St → Hp → Prop), Inv X pins σ H s → J9 v u → t v σ H Q →
  wpAny (model X.prog X.w) X.A (assign target X.env u) (fun _ s' => ∃ σ' H', Inv X pins σ' H' s' ∧ Q σ' H') X.xe s
noncomputable def PGs (X : Cx) (ts : List Expr) (t : TGs) : Prop :=
 ∀ (pins : PNS) (s : Shared) (σ : St) (H : Hp) (vs : List V) (us : List Value) (Q : St → Hp → Prop), Inv X pins σ H s → J7 vs us → t vs σ H Q →
  wpAny (model X.prog X.w) X.A (assignInOrder ((assignEach ts X.env).map (·.2)) us) (fun _ s' => ∃ σ' H', Inv X pins σ' H' s' ∧ Q σ' H') X.xe s
noncomputable abbrev dL7 := V → V → V → Hp → (Hp → Prop) → Prop
def dR6 (X : Cx) (t : dL7) : Prop :=
 ∀ (pins : PNS) (s : Shared) (σ : St) (H : Hp) (o i v : V) (ov iv u : Value) (Q : Hp → Prop), Inv X pins σ H s → J9 o ov → J9 i iv → J9 v u → t o i v H Q →
  wpAny (model X.prog X.w) X.A (setItem ov iv u) (fun _ s' => ∃ H', Inv X pins σ H' s' ∧ Q H') X.xe s
section
variable {X : Cx} {pos : Pos}
noncomputable def dZ7 (i : Nat) : TG := fun v σ H Q => Q (σ.set i (some v)) H
theorem dI1 {i : Nat} {x : Str} (hN : X.N.Nodup) (hi : X.N[i]? = some x) (hx : Loc X.env.scope x) (hf : X.fn x = true ∨ X.env.scope.names.lookup x = some .local) : PG X (.Name x pos) (dZ7 i) := by
 intro pins s σ H v u Q I r h
 exact wpAny_assign_Name (dC0 I hN hi hx r (fun s' I' => ⟨_, H, I', h⟩) hf)
noncomputable def eH3 : TGs := fun vs σ H Q => vs = [] ∧ Q σ H
noncomputable def dX2 (t : TG) (u : TGs) : TGs := fun vs σ H Q => ∃ v r, vs = v :: r ∧ t v σ H fun σ' H' => u r σ' H' Q
theorem dF7 : PGs X [] eH3 := by
 intro pins s σ H vs us Q I r h
 obtain ⟨e, h⟩ := h
 subst e
 cases r
 exact assignInOrder_nil ⟨σ, H, I, h⟩
theorem cV8 {e : Expr} {es : List Expr} {t : TG} {u : TGs} (h1 : PG X e t) (h2 : PGs X es u)
 (hs : (assignEach (e :: es) X.env).map (·.2) = assign e X.env :: (assignEach es X.env).map (·.2)) : PGs X (e :: es) (dX2 t u) := by
 intro pins s σ H vs us Q I r h
 obtain ⟨v, vr, e1, h⟩ := h
 subst e1
 cases r with
 | cons r rr =>
   rw [hs]
   refine assignInOrder_cons (thn (h1 pins s σ H _ _ _ I r h) fun _ s1 ⟨σ1, H1, I1, q1⟩ => ?_)
   exact h2 pins s1 σ1 H1 _ _ Q I1 rr q1
def eG9 (K : PySem.W.Frag) (n : Nat) (t : TGs) : TG := fun v σ H Q => ∃ a xs, v = .ref a ∧ SqT K H a xs ∧ xs.length = n ∧ t xs σ H Q
theorem dO4 {es : List Expr} {k : Nat} {t : TGs} {n : Nat} (hc : X.calm = true) (h : PGs X es t)
 (hn : (assignEach es X.env).length = n) (hst : (assignEach es X.env).findIdx? (·.1) = none) : PG X (.Tuple es k pos) (eG9 X.K n t) := by
 intro pins s σ H v u Q I r hw
 obtain ⟨a, xs, e1, hq, hl, hw⟩ := hw
 subst e1
 cases r
 obtain ⟨its, rv, ht, hz⟩ := I.tuple hq
 refine assign_Tuple_tuple (I.ok.hd hc) ht (by simp [hn, ← hl, rv.length]) hst fun h' hx => ?_
 have I1 : Inv X pins σ H { s with heap := h' } := I.kept (t' := s.toks) fun b o e => hx b o (Nat.ne_of_lt (Heap.lt_size e)) e
 exact h pins _ σ H xs _ Q I1 (by simpa using rv) hw
noncomputable def eI0 (to ti : TE) (t : dL7) : TG := fun v σ H Q => to σ H fun o H1 => ti σ H1 fun i H2 => t o i v H2 fun H3 => Q σ H3
theorem dN7 {o i : Expr} {to ti : TE} {t : dL7} (ho : PE X o to) (hi : PE X i ti) (hs : dR6 X t)
 (ha : ∀ v, assign (.Subscript o i pos) X.env v = (do
   let ov ← holding [v] (eval o X.env)
   let iv ← holding [v, ov] (eval i X.env)
   standAt pos
   holding [v, ov, iv] (setItem ov iv v)
   release [v, ov, iv] [])) : PG X (.Subscript o i pos) (eI0 to ti t) := by
 intro pins s σ H v u Q I r h
 rw [ha]
 refine wpAny_bind (wpAny_holding (thn (ho pins s σ H _ I h) fun ov s1 ⟨x, H1, I1, r1, q1⟩ => ?_))
 refine wpAny_bind (wpAny_holding (thn (hi pins s1 σ H1 _ I1 q1) fun iv s2 ⟨y, H2, I2, r2, q2⟩ => ?_))
 refine wpAny_bind (wpAny_standAt (wpAny_bind (wpAny_holding (thn (hs pins s2 σ H2 x y v ov iv u _ I2 r1 r2 r q2) fun _ s3 ⟨H3, I3, q3⟩ => ?_))))
 exact wpAny_release ⟨σ, H3, I3, q3⟩
noncomputable def eH8 (te : TE) (g : TG) : TS := fun D σ H => te σ H fun x H1 => g x σ H1 D.nx
theorem dQ6 {tg e : Expr} {te : TE} {g : TG} (he : PE X e te) (hg : PG X tg g) (hs : swapsWithSole [tg] e pos.line X.env = pure false) (hw : swappedStores [tg] e X.env = pure none)
 (h1 : (assignEach [tg] X.env).map (·.2) = [assign tg X.env]) : PS X (.Assign [tg] e pos) (eH8 te g) := by
 intro pins s σ H D I h
 refine wpAny_Assign_stores (thn (he pins s σ H _ I h) fun v s1 ⟨x, H1, I1, r1, q1⟩ => ?_) hs hw
 rw [h1]
 exact thn (hg pins s1 σ H1 x v _ I1 r1 q1) fun _ s2 q => q
end
section
variable {X : Cx} {pos : Pos}
end
structure It where
 go : Nat → Hp → Prop
 yld : Nat → Hp → V → Hp → Prop
 stop : Nat → Hp → Prop
noncomputable def aR2 (X : Cx) (pins : PNS) (H : Hp) (b : Addr) : Prop :=
 H b = none ∧ b ≠ X.env.locals ∧ b ∉ X.fs ∧ (b ∈ X.ex ∨ X.s₀.heap.objs.size ≤ b) ∧ (∀ x c, X.env.cells.lookup x = some c → c ≠ b) ∧ ∀ p ∈ X.pn ++ pins, p.1 ≠ b
theorem Inv.fpOk {X : Cx} {pins : PNS} {σ : St} {H H' : Hp} {s : Shared} {b : Addr} (I : Inv X pins σ H s) (hb : s.heap.objs.size ≤ b) (hn : H' b = none) : aR2 X pins H' b := by
 refine ⟨hn, Nat.ne_of_gt (Nat.lt_of_lt_of_le I.lt hb), I.nofs hb, .inr (Nat.le_trans I.sz hb), fun x c e z => ?_, fun p hp z => ?_⟩
 · obtain ⟨v, q⟩ := I.cell x c e
   exact absurd (Nat.lt_of_lt_of_le q.lt (by rw [z]; exact hb)) (Nat.lt_irrefl _)
 · exact absurd (Nat.lt_of_lt_of_le (Heap.lt_size (I.pin p hp).1) (by rw [z]; exact hb)) (Nat.lt_irrefl _)
structure bK4 (P : Program) (w : World) (K : PySem.W.Frag) (tg : Expr) (J : It) (fp : List Addr) (it : Addr) (tn : Nat → Heap → Prop) : Prop where
 mem : it ∈ fp
 obj : ∀ i h, tn i h → ∀ b ∈ fp, ∃ o, h.get? b = some o ∧ ∀ v, o.data ≠ .cell v
 keep : ∀ i h h', tn i h → (∀ b ∈ fp, ∀ o, h.get? b = some o → h'.get? b = some o) → tn i h'
 item : ∀ (X : Cx), X.prog = P → X.w = w → X.K = K → X.calm = true → ∀ (i : Nat) (pins : PNS) (s : Shared) (σ : St) (H : Hp) (E : VSP), Inv X pins σ H s → (∀ b ∈ fp, aR2 X pins H b) → tn i s.heap → J.go i H →
  wpAny (model P w) X.A (pyNext (.ref it)) (fun r s1 => ∃ u, r = some u ∧
   wpAny (model P w) X.A (letOwnedTupleGo tg (.ref it) u) (fun _ s2 => ∃ x H', Inv X pins σ H' s2 ∧ J9 x u ∧ J.yld i H x H' ∧ tn (i + 1) s2.heap ∧ ∀ b ∈ fp, H' b = none) E s1) E s
 done : ∀ (X : Cx), X.prog = P → X.w = w → X.K = K → X.calm = true → ∀ (i : Nat) (pins : PNS) (s : Shared) (σ : St) (H : Hp) (E : VSP), Inv X pins σ H s → (∀ b ∈ fp, aR2 X pins H b) → tn i s.heap → J.stop i H →
  wpAny (model P w) X.A (pyNext (.ref it)) (fun r s1 => r = none ∧ Inv X pins σ H s1) E s
 self : ∀ (A : Around) (i : Nat) (s : Shared) (Q : VSP) (E : VSP), tn i s.heap → Q (.ref it) s → wpAny (model P w) A (pyIter (.ref it)) Q E s
noncomputable abbrev TI := St → Hp → (It → Hp → Prop) → Prop
def PIE (X : Cx) (pins : PNS) (σ : St) (tg : Expr) (R : It → Hp → Prop) (itv : Value) (s2 : Shared) : Prop :=
 ∃ (it : Addr) (fp : List Addr) (tn : Nat → Heap → Prop) (J : It) (H' : Hp), itv = .ref it ∧ Inv X pins σ H' s2 ∧ bK4 X.prog X.w X.K tg J fp it tn ∧ tn 0 s2.heap ∧ (∀ b ∈ fp, aR2 X pins H' b) ∧ R J H'
def PI (X : Cx) (tg iter : Expr) (wi : TI) : Prop :=
 ∀ (pins : PNS) (s : Shared) (σ : St) (H : Hp) (R : It → Hp → Prop), Inv X pins σ H s → wi σ H R →
  wpAny (model X.prog X.w) X.A (eval iter X.env) (fun v s1 => wpAny (model X.prog X.w) X.A (pyIter v) (PIE X pins σ tg R) X.xe s1) X.xe s
theorem bN1 {M : Model} {A : Around} {E : VSP} {s : Shared} {tg : Expr} {it : Addr} {u : Value} {o : Obj} {n : String} {vs : Array Value} {Q : Unit → Shared → Prop} (ho : s.heap.get? it = some o) (hc : o.cls = .type n) (hd : o.data = .fields vs)
 (hn : ["enumerate", "zip", "dict_itemiterator", "dict_reverseitemiterator", "odict_iterator", "itertools.zip_longest", "itertools.pairwise"].contains n = false) (hQ : Q () s) : wpAny M A (letOwnedTupleGo tg (.ref it) u) Q E s := by
 unfold letOwnedTupleGo
 cases tg <;> first
  | exact wpAny_pure hQ
  | (cases u <;> first
      | exact wpAny_pure hQ
      | (refine wpAny_bind (wpAny_load ho ?_)
         rw [hc, hd]
         show wpAny M A (if (["enumerate", "zip", "dict_itemiterator", "dict_reverseitemiterator", "odict_iterator", "itertools.zip_longest", "itertools.pairwise"].contains n && vs[0]? == some (rawInt _)) = true then _ else _) Q E s
         rw [if_neg (by intro h; rw [hn, Bool.false_and] at h; cases h)]
         exact wpAny_pure hQ))
def Itl (K : PySem.W.Frag) (a : Addr) : It :=
 ⟨fun i H => ∃ xs x, SqL K H a xs ∧ xs[i]? = some x, fun i H x H' => H' = H ∧ ∀ xs, SqL K H a xs → xs[i]? = some x, fun i H => ∃ xs, SqL K H a xs ∧ xs.length ≤ i⟩
def Itt (K : PySem.W.Frag) (a : Addr) : It :=
 ⟨fun i H => ∃ xs x, SqT K H a xs ∧ xs[i]? = some x, fun i H x H' => H' = H ∧ ∀ xs, SqT K H a xs → xs[i]? = some x, fun i H => ∃ xs, SqT K H a xs ∧ xs.length ≤ i⟩
noncomputable def Itr (lo : Int) (n : Nat) : It := ⟨fun i _ => i < n, fun i H x H' => H' = H ∧ x = .int (lo + i), fun i _ => n ≤ i⟩
theorem cP8 {P : Program} {w : World} {K : PySem.W.Frag} {tg : Expr} (a it : Addr) : bK4 P w K tg (Itl K a) [it] it (fun i h => h.IsListIter it a i) where
 mem := by simp
 obj := fun i h st b hb => by
  have e : b = it := by simpa using hb
  subst e
  obtain ⟨o, e, c, d⟩ := st
  exact ⟨o, e, fun v z => by rw [d] at z; cases z⟩
 keep := fun i h h' st k => st.at fun o e => k it (by simp) o e
 item := by
  intro X hP hw hK hc i pins s σ H E I hf st hg
  subst hP hw hK
  obtain ⟨xs, x, hq, hx⟩ := hg
  obtain ⟨its, rv, p, hz⟩ := I.list hq
  obtain ⟨u, hu, ru⟩ := rv.get hx
  obtain ⟨f0, f1, f2, f3, f4, f5⟩ := hf it (by simp)
  refine wpAny_pyNext_list_item st p.isList (x := u) (by simpa using hu) fun h' st' sb => ?_
  have I1 : Inv X pins σ H { s with heap := h' } := I.turned (t' := s.toks) (fun b o hb e => (sb.2 b hb).trans e) f0 f1 f3 f4 f5
  obtain ⟨o, e, c, d⟩ := id st'
  exact ⟨u, rfl, bN1 (s := { s with heap := h' }) e c d (by decide) ⟨x, H, I1, ru, ⟨rfl, fun ys hy => by rw [I.list_inj hy hq]; exact hx⟩, st', fun b hb => (hf b hb).1⟩⟩
 done := by
  intro X hP hw hK hc i pins s σ H E I hf st hg
  subst hP hw hK
  obtain ⟨xs, hq, hx⟩ := hg
  obtain ⟨its, rv, p, hz⟩ := I.list hq
  obtain ⟨f0, f1, f2, f3, f4, f5⟩ := hf it (by simp)
  have hl := rv.length
  exact wpAny_pyNext_list_end (I.ok.hd hc) st p.isList (by simp; omega) fun h' eb => ⟨rfl, I.turned (t' := s.toks) (fun b o hb e => eb b o hb e) f0 f1 f3 f4 f5⟩
 self := fun _ _ _ _ _ st h => wpAny_pyIter_listiter st h
theorem cG0 {P : Program} {w : World} {K : PySem.W.Frag} {tg : Expr} (a it : Addr) : bK4 P w K tg (Itt K a) [it] it (fun i h => h.IsTupleIter it a i) where
 mem := by simp
 obj := fun i h st b hb => by
  have e : b = it := by simpa using hb
  subst e
  obtain ⟨o, e, c, d⟩ := st
  exact ⟨o, e, fun v z => by rw [d] at z; cases z⟩
 keep := fun i h h' st k => st.at fun o e => k it (by simp) o e
 item := by
  intro X hP hw hK hc i pins s σ H E I hf st hg
  subst hP hw hK
  obtain ⟨xs, x, hq, hx⟩ := hg
  obtain ⟨its, rv, p, hz⟩ := I.tuple hq
  obtain ⟨u, hu, ru⟩ := rv.get hx
  obtain ⟨f0, f1, f2, f3, f4, f5⟩ := hf it (by simp)
  refine wpAny_pyNext_tuple_item st (show s.heap.IsTuple a its.toArray from p) (x := u) (by simpa using hu) fun h' st' sb => ?_
  have I1 : Inv X pins σ H { s with heap := h' } := I.turned (t' := s.toks) (fun b o hb e => (sb.2 b hb).trans e) f0 f1 f3 f4 f5
  obtain ⟨o, e, c, d⟩ := id st'
  exact ⟨u, rfl, bN1 (s := { s with heap := h' }) e c d (by decide) ⟨x, H, I1, ru, ⟨rfl, fun ys hy => by rw [I.tuple_inj hy hq]; exact hx⟩, st', fun b hb => (hf b hb).1⟩⟩
 done := by
  intro X hP hw hK hc i pins s σ H E I hf st hg
  subst hP hw hK
  obtain ⟨xs, hq, hx⟩ := hg
  obtain ⟨its, rv, p, hz⟩ := I.tuple hq
  obtain ⟨f0, f1, f2, f3, f4, f5⟩ := hf it (by simp)
  have hl := rv.length
  exact wpAny_pyNext_tuple_end (I.ok.hd hc) st (show s.heap.IsTuple a its.toArray from p) (by simp; omega) fun h' eb => ⟨rfl, I.turned (t' := s.toks) (fun b o hb e => eb b o hb e) f0 f1 f3 f4 f5⟩
 self := fun _ _ _ _ _ st h => wpAny_pyIter_tupleiter st h
theorem cE1 {P : Program} {w : World} {K : PySem.W.Frag} {tg : Expr} (it : Addr) (lo : Int) (n : Nat) : bK4 P w K tg (Itr lo n) [it] it (fun i h => IsRangeIter h it (lo + (i : Nat) * 1) ((n : Int) - (i : Nat)) 1) where
 mem := by simp
 obj := fun i h st b hb => by
  have e : b = it := by simpa using hb
  subst e
  exact ⟨_, st, fun v z => by
   have z' : Data.fields _ = Data.cell v := z
   cases z'⟩
 keep := fun i h h' st k => k it (by simp) _ st
 item := by
  intro X hP hw hK hc i pins s σ H E I hf st hg
  subst hP hw hK
  obtain ⟨f0, f1, f2, f3, f4, f5⟩ := hf it (by simp)
  have W := Walks.range (prog := X.prog) (w := X.w) (I.ok.hd hc) it lo 1 n
  refine W.item i s _ _ hg st fun v h' tk hv st' kk => ?_
  obtain ⟨t, rfl⟩ := hv
  have I1 : Inv X pins σ H { s with heap := h', toks := tk } := I.turned (fun b o hb e => kk b o (by simpa using hb) e) f0 f1 f3 f4 f5
  refine ⟨_, rfl, bN1 (s := { s with heap := h', toks := tk }) (n := "range_iterator") st' rfl rfl (by decide) ⟨.int (lo + i), H, I1, ⟨t, ?_⟩, ⟨rfl, rfl⟩, st', fun b hb => (hf b hb).1⟩⟩
  rw [Int.mul_one]
 done := by
  intro X hP hw hK hc i pins s σ H E I hf st hg
  subst hP hw hK
  obtain ⟨f0, f1, f2, f3, f4, f5⟩ := hf it (by simp)
  exact wpAny_pyNext_range_end (I.ok.hd hc) st (by have : n ≤ i := hg; omega) fun h' eb => ⟨rfl, I.turned (t' := s.toks) (fun b o hb e => eb b o hb e) f0 f1 f3 f4 f5⟩
 self := fun _ _ _ _ _ st h => wpAny_pyIter_rangeiter st h
section
variable {X : Cx} {tg : Expr}
theorem cU9 {pins : PNS} {σ : St} {H : Hp} {s : Shared} {R : It → Hp → Prop} {E : VSP} {lo hi : Int} {t u v : Tok} {tk : Nat} (I : Inv X pins σ H s) (h1 : -(2 ^ 62) ≤ lo) (h2 : lo < 2 ^ 62) (h3 : -(2 ^ 62) ≤ hi) (h4 : hi < 2 ^ 62)
 (q : R (Itr lo (hi - lo).toNat) H) : wpAny (model X.prog X.w) X.A (pyIter (.ref s.heap.objs.size)) (PIE X pins σ tg R) E { s with heap := s.heap.push { cls := .type "range", data := .fields #[.int lo t, .int hi u, .int 1 v] }, toks := tk } := by
 refine wpAny_pyIter_range (IsRange.new ..) (small_one h1 h2 h3 h4) ?_
 have I1 : Inv X pins σ H { s with heap := s.heap.push { cls := .type "range", data := .fields #[.int lo t, .int hi u, .int 1 v] }, toks := tk } := I.kept fun b o e => Heap.get?_push_of_some _ e
 refine ⟨(s.heap.push { cls := .type "range", data := .fields #[.int lo t, .int hi u, .int 1 v] }).objs.size, [(s.heap.push { cls := .type "range", data := .fields #[.int lo t, .int hi u, .int 1 v] }).objs.size], _, _, H, rfl,
  I1.kept (t' := tk) fun b o e => Heap.get?_push_of_some _ e, cE1 _ lo (hi - lo).toNat, ?_, fun b hb => ?_, q⟩
 · have e1 : lo + ((0 : Nat) : Int) * 1 = lo := by simp
   have e2 : (((hi - lo).toNat : Nat) : Int) - ((0 : Nat) : Int) = Builtin.Range.rangeSize lo hi 1 := by rw [rangeSize_one]; split <;> omega
   show IsRangeIter _ _ (lo + ((0 : Nat) : Int) * 1) ((((hi - lo).toNat : Nat) : Int) - ((0 : Nat) : Int)) 1
   rw [e1, e2]
   exact Heap.get?_push_size _ rfl
 · have e : b = (s.heap.push { cls := .type "range", data := .fields #[.int lo t, .int hi u, .int 1 v] }).objs.size := by simpa using hb
   subst e
   exact I1.fpOk (Nat.le_refl _) (I1.hok.fresh (Nat.le_refl _))
def eC9 (ta : TA) : TI := fun σ H R => ta σ H fun vs H1 => ∃ j : Int, vs = [.int j] ∧ -(2 ^ 62) ≤ j ∧ j < 2 ^ 62 ∧ R (Itr 0 j.toNat) H1
theorem cO6 {a : Expr} {ta : TA} {p pos : Pos} (hg : Gl X "range") (hm : X.mg "range" = none) (ha : PA X [a] ta) (hs : starEach [a] X.env = [(false, eval a X.env)]) : PI X tg (.Call (.Name "range" p) [a] [] pos) (eC9 ta) := by
 intro pins s σ H R I h
 refine Call_ (bA8 I hg hm boot_range (PyProof.Rows.callWith_type1 (thn (ha pos pins s σ H _ I h) fun us s1 ⟨vs, H1, I1, r1, q1⟩ => ?_) hs rfl))
 obtain ⟨j, e, q1, q2, q⟩ := q1
 subst e
 cases r1 with
 | cons r rr =>
   cases rr
   obtain ⟨t, rfl⟩ := r
   exact call_range_1 (cU9 I1 (by omega) (by omega) q1 q2 (by simpa using q))
noncomputable def eJ8 (wi : TI) (g : TG) (tb : TS) : TS := fun D σ H => wi σ H fun J H1 => ∃ W : Nat → Nat → St → Hp → Prop, (∃ m, W 0 m σ H1) ∧ ∀ i m σ H, W i m σ H →
 (J.stop i H ∧ D.nx σ H) ∨ (J.go i H ∧ ∃ N : St → Hp → Prop, (∀ σ' H', N σ' H' → ∃ m', m' < m ∧ W (i + 1) m' σ' H') ∧ ∀ x H', J.yld i H x H' → g x σ H' fun σ2 H2 => tb { D with nx := N, ct := N, bk := D.nx } σ2 H2)
noncomputable def bI7 (fp : List Addr) (h : Heap) : PNS := fp.filterMap fun b => (h.get? b).map fun o => (b, o)
theorem aI9 {fp : List Addr} {h : Heap} {b : Addr} {o : Obj} (hb : b ∈ fp) (e : h.get? b = some o) : (b, o) ∈ bI7 fp h := List.mem_filterMap.mpr ⟨b, hb, by rw [e]; rfl⟩
theorem cQ5 {fp : List Addr} {h : Heap} {p : Addr × Obj} (hp : p ∈ bI7 fp h) : p.1 ∈ fp ∧ h.get? p.1 = some p.2 := by
 obtain ⟨b, hb, e⟩ := List.mem_filterMap.mp hp
 cases q : h.get? b with
 | none => rw [q] at e; cases e
 | some o =>
   rw [q] at e
   have e' : (b, o) = p := Option.some.inj e
   subst e'
   exact ⟨hb, q⟩
theorem Inv.pinned {pins : PNS} {σ : St} {H : Hp} {s : Shared} {fp : List Addr} (I : Inv X pins σ H s) (hf : ∀ b ∈ fp, aR2 X pins H b) (ho : ∀ b ∈ fp, ∃ o, s.heap.get? b = some o ∧ ∀ v, o.data ≠ .cell v) : Inv X (pins ++ bI7 fp s.heap) σ H s :=
 I.pins_of fun p hp => (List.mem_append.mp hp).elim (fun z => I.pin p (List.mem_append_right _ z)) fun z => by
  obtain ⟨hb, e⟩ := cQ5 z
  obtain ⟨f0, f1, f2, _⟩ := hf p.1 hb
  obtain ⟨o, e', d⟩ := ho p.1 hb
  rw [e] at e'; cases e'
  exact ⟨e, f0, f1, f2, d⟩
theorem Inv.unpinned {pins pl : PNS} {σ : St} {H : Hp} {s : Shared} (I : Inv X (pins ++ pl) σ H s) : Inv X pins σ H s := I.pins_of fun p hp => I.pin p (List.mem_append_right _ (List.mem_append_left _ hp))
theorem dR0 {iter : Expr} {body : List Stmt} {wi : TI} {g : TG} {tb : TS} {pos : Pos} (hp : PassesOwn (model X.prog X.w) X.A X.env X.xe) (hc : X.calm = true) (hi : PI X tg iter wi) (hg : PG X tg g) (hb : PSs X body tb)
 (hs : ∀ x, foldedSetIterable iter X.env x = pure x) : PS X (.For tg iter body [] pos) (eJ8 wi g tb) := by
 intro pins s σ H D I h
 refine wpAny_For (thn (hi pins s σ H _ I h) fun v s1 h1 => thn h1 fun itv s2 h2 => ?_) hs
 obtain ⟨it, fp, tn, J, H2, e, I2, T, st2, f2, W, ⟨m0, w0⟩, turn⟩ := h2
 subst e
 -- what stays true of the iterator's objects through the loop
 have stat : ∀ {H' : Hp}, (∀ b ∈ fp, H' b = none) → ∀ b ∈ fp, aR2 X pins H' b := fun hn b hb => ⟨hn b hb, (f2 b hb).2⟩
 refine codeAny_forLoop_any (fun n s' => ∃ i σ' H', Inv X pins σ' H' s' ∧ tn i s'.heap ∧ (∀ b ∈ fp, H' b = none) ∧ W i n σ' H') ?_ m0 ⟨0, σ, H2, I2, st2, fun b hb => (f2 b hb).1, w0⟩
 rintro n s3 ⟨i, σ3, H3, I3, st3, fr3, w3⟩
 rcases turn i n σ3 H3 w3 with ⟨stop, qn⟩ | ⟨go, N, hN, step⟩
 · refine wpAny_passesOwn hp (thn (T.done X rfl rfl rfl hc i pins s3 σ3 H3 X.xe I3 (stat fr3) st3 stop) fun r s4 ⟨hr, I4⟩ => ?_)
   subst hr
   exact wpAny_execs_nil ⟨σ3, H3, I4, qn⟩
 · refine wpAny_passesOwn hp (thn (T.item X rfl rfl rfl hc i pins s3 σ3 H3 X.xe I3 (stat fr3) st3 go) fun r s4 ⟨u, hr, h4⟩ => ?_)
   subst hr
   refine wpAny_passesOwn hp (thn h4 fun _ s5 ⟨x, H5, I5, r5, y5, st5, fr5⟩ => ?_)
   have I5' := I5.pinned (stat fr5) (T.obj _ _ st5)
   refine wpAny_passesOwn hp (thn (hg _ s5 σ3 H5 x u _ I5' r5 (step x H5 y5)) fun _ s6 ⟨σ6, H6, I6, q6⟩ => ?_)
   refine wpAny_passesOwn hp (thn (hb _ s6 σ6 H6 _ I6 q6) fun f s7 q7 => ?_)
   have again : ∀ {σ7 : St} {H7 : Hp}, Inv X (pins ++ bI7 fp s5.heap) σ7 H7 s7 → N σ7 H7 → ∃ m, m < n ∧ ∃ i σ' H', Inv X pins σ' H' s7 ∧ tn i s7.heap ∧ (∀ b ∈ fp, H' b = none) ∧ W i m σ' H' := fun {σ7 H7} I7 n7 => by
    obtain ⟨m', hm, w7⟩ := hN σ7 H7 n7
    refine ⟨m', hm, i + 1, σ7, H7, I7.unpinned, T.keep _ _ _ st5 fun b hb o e => (I7.pin (b, o) (List.mem_append_right _ (List.mem_append_right _ (aI9 hb e)))).1, fun b hb => ?_, w7⟩
    obtain ⟨o, e, d⟩ := T.obj _ _ st5 b hb
    exact (I7.pin (b, o) (List.mem_append_right _ (List.mem_append_right _ (aI9 hb e)))).2.1
   cases f with
   | next => obtain ⟨σ7, H7, I7, n7⟩ := q7; exact again I7 n7
   | cont => obtain ⟨σ7, H7, I7, n7⟩ := q7; exact again I7 n7
   | brk => obtain ⟨σ7, H7, I7, q7⟩ := q7; exact ⟨σ7, H7, I7.unpinned, q7⟩
   | ret v => obtain ⟨x7, σ7, H7, I7, r7, q7⟩ := q7; exact ⟨x7, σ7, H7, I7.unpinned, r7, q7⟩
end
noncomputable abbrev R2 := V → V → Hp → VK → Prop
def OpR (X : Cx) (f : Value → Value → Sem Value) (r : R2) : Prop :=
 ∀ (pins : PNS) (s : Shared) (σ : St) (H : Hp) (x y : V) (v u : Value) (Q : VK), Inv X pins σ H s → J9 x v → J9 y u → r x y H Q →
  wpAny (model X.prog X.w) X.A (f v u) (EP X pins σ Q) X.xe s
def UnR (X : Cx) (f : Value → Sem Value) (r : V → Hp → VK → Prop) : Prop :=
 ∀ (pins : PNS) (s : Shared) (σ : St) (H : Hp) (x : V) (v : Value) (Q : VK), Inv X pins σ H s → J9 x v → r x H Q →
  wpAny (model X.prog X.w) X.A (f v) (EP X pins σ Q) X.xe s
def aC1 (X : Cx) (f : Value) (r : List V → Hp → VK → Prop) : Prop :=
 ∀ (pins : PNS) (s : Shared) (σ : St) (H : Hp) (xs : List V) (us : List Value) (Q : VK), Inv X pins σ H s → J7 xs us → r xs H Q →
  wpAny (model X.prog X.w) X.A (call f us) (EP X pins σ Q) X.xe s
def eG8 (X : Cx) (r : V → Hp → (Bool → Hp → Prop) → Prop) : Prop :=
 ∀ (pins : PNS) (s : Shared) (σ : St) (H : Hp) (x : V) (v : Value) (Q : Bool → Hp → Prop), Inv X pins σ H s → J9 x v → r x H Q →
  wpAny (model X.prog X.w) X.A (truthy v) (TP X pins σ Q) X.xe s
noncomputable def tOp (r : R2) (ta tb : TE) : TE := fun σ H Q => ta σ H fun x H1 => tb σ H1 fun y H2 => r x y H2 Q
noncomputable def tUn (r : V → Hp → VK → Prop) (ta : TE) : TE := fun σ H Q => ta σ H fun x H1 => r x H1 Q
noncomputable def rI (C : Int → Int → Prop) (g : Int → Int → V) : R2 := fun x y H Q => ∃ i j, x = .int i ∧ y = .int j ∧ C i j ∧ Q (g i j) H
noncomputable def rI0 (g : Int → Int → V) : R2 := fun x y H Q => ∃ i j, x = .int i ∧ y = .int j ∧ Q (g i j) H
noncomputable def rU (g : Int → V) : V → Hp → VK → Prop := fun x H Q => ∃ i, x = .int i ∧ Q (g i) H
section
variable {X : Cx} {a b c : Expr} {ta tb tc : TE} {pos : Pos}
theorem dR5 (ha : PE X a ta) (hb : PE X b tb) {pins : PNS} {s : Shared} {σ : St} {H : Hp} {R : V → V → Hp → Prop} (I : Inv X pins σ H s)
 (h : ta σ H fun x H1 => tb σ H1 fun y H2 => R x y H2) {Q : VSP} {f : Value → Value → Sem Value}
 (hf : ∀ v u s2 x y H2, Inv X pins σ H2 s2 → J9 x v → J9 y u → R x y H2 → wpAny (model X.prog X.w) X.A (f v u) Q X.xe s2) :
 wpAny (model X.prog X.w) X.A (eval a X.env) (fun v s₁ => wpAny (model X.prog X.w) X.A (eval b X.env) (fun u s₂ => wpAny (model X.prog X.w) X.A (f v u) Q X.xe s₂) X.xe s₁) X.xe s := by
 refine thn (ha pins s σ H _ I h) fun v s1 ⟨x, H1, I1, r1, q1⟩ => ?_
 refine thn (hb pins s1 σ H1 _ I1 q1) fun u s2 ⟨y, H2, I2, r2, q2⟩ => ?_
 exact hf v u s2 x y H2 I2 r1 r2 q2
theorem eF1 {op : Operator} {r : R2} (ho : OpR X (binaryOp op) r) (ha : PE X a ta) (hb : PE X b tb) : PE X (.BinOp a op b pos) (tOp r ta tb) := by
 intro pins s σ H Q I h
 exact wpAny_BinOp (dR5 ha hb I h fun v u s2 x y H2 I2 rx ry q => ho pins s2 σ H2 x y v u Q I2 rx ry q)
theorem dN1 {op : UnaryOp} {r : V → Hp → VK → Prop} (ho : UnR X (unaryOp op) r) (ha : PE X a ta) : PE X (.UnaryOp op a pos) (tUn r ta) := by
 intro pins s σ H Q I h
 exact UnaryOp_ (thn (ha pins s σ H _ I h) fun v s1 ⟨x, H1, I1, r1, q1⟩ => ho pins s1 σ H1 x v Q I1 r1 q1)
theorem opI {f : Value → Value → Sem Value} {C : Int → Int → Prop} {g : Int → Int → Int}
 (rule : ∀ (i j : Int) (t u : Tok) (s : Shared) (Q : VSP) (E : VSP), C i j → Q (.int (g i j) s.toks) { s with toks := s.toks + 1 } → wpAny (model X.prog X.w) X.A (f (.int i t) (.int j u)) Q E s) :
 OpR X f (rI C fun i j => .int (g i j)) := by
 intro pins s σ H x y v u Q I rx ry h
 obtain ⟨i, j, rfl, rfl, hc, q⟩ := h
 obtain ⟨t, rfl⟩ := rx
 obtain ⟨t', rfl⟩ := ry
 exact rule i j t t' s _ _ hc ⟨.int (g i j), H, I.tok _, ⟨_, rfl⟩, q⟩
theorem eD8 {f : Value → Value → Sem Value} {g : Int → Int → Int}
 (rule : ∀ (i j : Int) (t u : Tok) (s : Shared) (Q : VSP) (E : VSP), Q (.int (g i j) s.toks) { s with toks := s.toks + 1 } → wpAny (model X.prog X.w) X.A (f (.int i t) (.int j u)) Q E s) :
 OpR X f (rI0 fun i j => .int (g i j)) := by
 intro pins s σ H x y v u Q I rx ry h
 obtain ⟨i, j, rfl, rfl, q⟩ := h
 obtain ⟨t, rfl⟩ := rx
 obtain ⟨t', rfl⟩ := ry
 exact rule i j t t' s _ _ ⟨.int (g i j), H, I.tok _, ⟨_, rfl⟩, q⟩
theorem dP1 {f : Value → Value → Sem Value} {g : Int → Int → Bool}
 (rule : ∀ (i j : Int) (t u : Tok) (s : Shared) (Q : VSP) (E : VSP), Q (.bool (g i j)) s → wpAny (model X.prog X.w) X.A (f (.int i t) (.int j u)) Q E s) :
 OpR X f (rI0 fun i j => .bl (g i j)) := by
 intro pins s σ H x y v u Q I rx ry h
 obtain ⟨i, j, rfl, rfl, q⟩ := h
 obtain ⟨t, rfl⟩ := rx
 obtain ⟨t', rfl⟩ := ry
 exact rule i j t t' s _ _ ⟨.bl (g i j), H, I, rfl, q⟩
noncomputable def dL6 (i j : Int) : Prop := 0 ≤ j ∧ j ≤ 1000000 ∧ i.natAbs < 2 ^ 64
noncomputable def bL0 (i j : Int) : Prop := (-(2 ^ 64) < i ∧ i < 2 ^ 64) ∨ (-(2 ^ 64) < j ∧ j < 2 ^ 64)
theorem bL0.ok {i j : Int} (h : bL0 i j) : IntMulOk i j := by
 rcases h with ⟨h1, h2⟩ | ⟨h1, h2⟩
 · exact .of_left (intBits_le_64 h1 h2)
 · exact .of_right (intBits_le_64 h1 h2)
theorem dV0 : OpR X (binaryOp .Add) (rI0 fun i j => .int (i + j)) := eD8 fun _ _ _ _ _ _ _ q => add_int q
theorem dQ8 : OpR X (binaryOp .Sub) (rI0 fun i j => .int (i - j)) := eD8 fun _ _ _ _ _ _ _ q => sub_int q
theorem dS1 : OpR X (binaryOp .Mult) (rI bL0 fun i j => .int (i * j)) := opI fun _ _ _ _ _ _ _ hc q => mul_int q hc.ok
theorem dS5 : OpR X (binaryOp .Mod) (rI (fun _ j => 0 < j) fun i j => .int (i % j)) := opI fun i j _ _ _ _ _ hc q => by
 have h1 : (0 : Int) < j := hc
 exact mod_int' (by omega) (by rw [Int.fmod_eq_emod_of_nonneg i (by omega)]; exact q)
theorem dW3 : OpR X (binaryOp .Pow) (rI dL6 fun i j => .int (i ^ j.toNat)) := opI fun _ _ _ _ _ _ _ hc q => pow_int_small hc.1 hc.2.1 hc.2.2 q
theorem unI {f : Value → Sem Value} {g : Int → Int}
 (rule : ∀ (i : Int) (t : Tok) (s : Shared) (Q : VSP) (E : VSP), Q (.int (g i) s.toks) { s with toks := s.toks + 1 } → wpAny (model X.prog X.w) X.A (f (.int i t)) Q E s) :
 UnR X f (rU fun i => .int (g i)) := by
 intro pins s σ H x v Q I rx h
 obtain ⟨i, rfl, q⟩ := h
 obtain ⟨t, rfl⟩ := rx
 exact rule i t s _ _ ⟨.int (g i), H, I.tok _, ⟨_, rfl⟩, q⟩
theorem cW8 : UnR X (unaryOp .USub) (rU fun i => .int (-i)) := unI fun _ _ _ _ _ q => neg_int q
end
section
variable {X : Cx} {a b c : Expr} {ta tb tc : TE} {pos : Pos}
theorem cF0 {pins : PNS} {σ : St} {H : Hp} {s : Shared} {Q : VK} {k k' : Bool} (I : Inv X pins σ H s) (q : Q (.bl k) H) (e : k = k') : EP X pins σ Q (.bool k') s := by
 subst e
 exact ⟨.bl k, H, I, rfl, q⟩
theorem eF8 : OpR X (compareOp .Lt) (rI0 fun i j => .bl (decide (i < j))) := dP1 fun _ _ _ _ _ _ _ q => lt_int q
theorem eC8 : OpR X (compareOp .Gt) (rI0 fun i j => .bl (decide (j < i))) := dP1 fun _ _ _ _ _ _ _ q => gt_int q
theorem eD5 : OpR X (compareOp .GtE) (rI0 fun i j => .bl (decide (j ≤ i))) := dP1 fun _ _ _ _ _ _ _ q => ge_int q
theorem cQ2 : OpR X (compareOp .In) (fun x y H Q => ∃ i j, x = .str i ∧ y = .str j ∧ Q (.bl (!(Builtin.Str.occurrences j i 0 j.length 1).isEmpty)) H) := by
 intro pins s σ H x y v u Q I rx ry h
 obtain ⟨i, j, rfl, rfl, q⟩ := h
 obtain ⟨t, rfl⟩ := rx
 obtain ⟨t', rfl⟩ := ry
 exact in_str (cF0 I q rfl)
theorem dR7 : OpR X (compareOp .Is) (fun x y H Q => y = .non ∧ Q (.bl (decide (x = .non))) H) := by
 intro pins s σ H x y v u Q I rx ry h
 obtain ⟨rfl, q⟩ := h
 cases ry
 refine is_none_gen (cF0 I q ?_)
 cases x <;> first
  | (cases rx; rfl)
  | (obtain ⟨t, rfl⟩ := rx; rfl)
theorem dF1 : OpR X (compareOp .IsNot) (fun x y H Q => y = .non ∧ Q (.bl (!decide (x = .non))) H) := by
 intro pins s σ H x y v u Q I rx ry h
 obtain ⟨rfl, q⟩ := h
 cases ry
 refine isnot_none_gen (cF0 I q ?_)
 cases x <;> first
  | (cases rx; rfl)
  | (obtain ⟨t, rfl⟩ := rx; rfl)
theorem OpR.or {f : Value → Value → Sem Value} {r r' : R2} (h : OpR X f r) (h' : OpR X f r') : OpR X f (fun x y H Q => r x y H Q ∨ r' x y H Q) := by
 intro pins s σ H x y v u Q I rx ry q
 rcases q with q | q
 · exact h pins s σ H x y v u Q I rx ry q
 · exact h' pins s σ H x y v u Q I rx ry q
theorem dG9 {op : CmpOp} {r : R2} (ho : OpR X (compareOp op) r) (ha : PE X a ta) (hb : PE X b tb) (hm : behindInMarks op b = false) : PE X (.Compare a [op] [b] pos) (tOp r ta tb) := by
 intro pins s σ H Q I h
 exact wpAny_Compare1 (dR5 ha hb I h fun v u s2 x y H2 I2 rx ry q => ho pins s2 σ H2 x y v u Q I2 rx ry q) hm
noncomputable def eE9 (t : TE) : TT := fun σ H Q => t σ H fun x H' => ∃ k, x = .bl k ∧ Q k H'
theorem dF6 {op : CmpOp} {r : R2} (ho : OpR X (compareOp op) r) (ha : PE X a ta) (hb : PE X b tb) (hm : behindInMarks op b = false) : PT X (.Compare a [op] [b] pos) (eE9 (tOp r ta tb)) := by
 intro pins s σ H Q I h
 refine wpAny_isTrue_Compare1 (thn (ha pins s σ H _ I h) fun v s1 ⟨x, H1, I1, r1, q1⟩ => thn (hb pins s1 σ H1 _ I1 q1) fun u s2 ⟨y, H2, I2, r2, q2⟩ =>
  thn (ho pins s2 σ H2 x y v u _ I2 r1 r2 q2) fun c s3 ⟨z, H3, I3, r3, k, e, q3⟩ => ?_) hm
 subst e
 cases r3
 exact wpAny_truthy_bool ⟨H3, I3, q3⟩
def dT7 (K : PySem.W.Frag) (x : V) (H : Hp) (k : Bool) : Prop :=
 match x with
 | .non => k = false
 | .bl b => k = b
 | .int i => k = (i != 0)
 | .str y => y.length ≤ sizeLine ∧ k = ((y.length : Int) != 0)
 | .byt y => y.size ≤ sizeLine ∧ k = ((y.size : Int) != 0)
 | .ref p => (∃ xs, SqL K H p xs ∧ k = !xs.isEmpty) ∨ (∃ xs, SqT K H p xs ∧ k = !xs.isEmpty) ∨ ∃ kvs, H p = some (.dK kvs) ∧ k = !kvs.isEmpty
 | _ => False
theorem cF2 {κ : Type} {kvs : List (κ × V)} {vs : List (κ × Value)} (r : KV kvs vs) : (!vs.isEmpty) = !kvs.isEmpty := by
 cases r <;> rfl
theorem bF7 {xs : List V} {its : List Value} (r : J7 xs its) : (!its.toArray.isEmpty) = !xs.isEmpty := by
 cases r <;> simp
theorem aX0 : (sizeLine : Nat) < 2 ^ 63 := by rw [sizeLine_eq]; decide
theorem cD4 : eG8 X (fun x H Q => ∃ k, dT7 X.K x H k ∧ Q k H) := by
 intro pins s σ H x v Q I rx h
 obtain ⟨k, e, q⟩ := h
 have hl := aX0
 have hs : sizeLine = 16777216 := sizeLine_eq
 cases x with
 | non =>
   cases rx
   have e' : k = false := e
   subst e'
   exact truthy_none ⟨H, I, q⟩
 | bl b =>
   cases rx
   have e' : k = b := e
   subst e'
   exact wpAny_truthy_bool ⟨H, I, q⟩
 | int i =>
   obtain ⟨t, rfl⟩ := rx
   have e' : k = (i != 0) := e
   subst e'
   exact PySem.P.truthy_int ⟨H, I, q⟩
 | str y =>
   obtain ⟨t, rfl⟩ := rx
   obtain ⟨hy, e'⟩ : y.length ≤ sizeLine ∧ k = ((y.length : Int) != 0) := e
   subst e'
   exact PySem.P.truthy_str (by omega) ⟨H, I.tok _, q⟩
 | byt y =>
   obtain ⟨t, rfl⟩ := rx
   obtain ⟨hy, e'⟩ : y.size ≤ sizeLine ∧ k = ((y.size : Int) != 0) := e
   subst e'
   exact PySem.W.truthy_bytes (by omega) ⟨H, I.tok _, q⟩
 | ref p =>
   cases rx
   have e' : (∃ xs, SqL X.K H p xs ∧ k = !xs.isEmpty) ∨ (∃ xs, SqT X.K H p xs ∧ k = !xs.isEmpty) ∨ ∃ kvs, H p = some (.dK kvs) ∧ k = !kvs.isEmpty := e
   rcases e' with ⟨xs, hx, e'⟩ | ⟨xs, hx, e'⟩ | ⟨kvs, hx, e'⟩
   · subst e'
     obtain ⟨its, r, pl, hz⟩ := I.list hx
     have hlen := r.length
     exact wpAny_truthy_list pl.isList (by simp only [List.size_toArray]; omega) ⟨H, I.tok _, by rw [bF7 r]; exact q⟩
   · subst e'
     obtain ⟨its, r, pl, hz⟩ := I.tuple hx
     have hlen := r.length
     exact truthy_tuple pl (by simp only [List.size_toArray]; omega) ⟨H, I.tok _, by rw [bF7 r]; exact q⟩
   · subst e'
     obtain ⟨hz, hS, vs, r, m⟩ : kvs.length ≤ sizeLine ∧ (p == sysModules) = false ∧ ∃ vs, KV kvs vs ∧ s.heap.DictOf (N8 X.prog X.w) p vs := I.hok p _ hx
     have hlen : kvs.length = vs.length := Paired.length r
     exact wpAny_truthy_dict hS m (by omega) ⟨H, I.tok _, by rw [cF2 r]; exact q⟩
 | _ => exact (show False from e).elim
theorem cW3 (ha : PE X a ta) (he : ∀ whole, isTrue a X.env whole = (do let v ← whole; standAt a.pos; holding [v] (truthy v))) :
 PT X a (fun σ H Q => ta σ H fun x H' => ∃ k, dT7 X.K x H' k ∧ Q k H') := by
 intro pins s σ H Q I h
 exact isTrue_plain (thn (ha pins s σ H _ I h) fun v s1 ⟨x, H1, I1, r1, q1⟩ => cD4 pins s1 σ H1 x v Q I1 r1 q1) (he _)
theorem cE4 : OpR X (binaryOp .Add) (fun x y H Q => ∃ i j, x = .str i ∧ y = .str j ∧ i.length + j.length ≤ sizeLine ∧ Q (.str (i ++ j)) H) := by
 intro pins s σ H x y v u Q I rx ry h
 obtain ⟨i, j, rfl, rfl, hz, q⟩ := h
 obtain ⟨t, rfl⟩ := rx
 obtain ⟨t', rfl⟩ := ry
 exact add_str (fun t' tk => ⟨.str (i ++ j), H, I.tok _, ⟨_, rfl⟩, q⟩) hz
theorem aE3 {x : V} {us : List Value} (r : J7 [x] us) : ∃ u, us = [u] ∧ J9 x u := by
 cases r with
 | cons r1 r2 => cases r2; exact ⟨_, rfl, r1⟩
theorem cV0 {x y : V} {us : List Value} (r : J7 [x, y] us) : ∃ u w', us = [u, w'] ∧ J9 x u ∧ J9 y w' := by
 cases r with
 | cons r1 r2 =>
   cases r2 with
   | cons r3 r4 => cases r4; exact ⟨_, _, rfl, r1, r3⟩
theorem cS7 (hc : X.calm = true) : aC1 X (.builtin "min") (fun xs H Q => ∃ i j, xs = [.int i, .int j] ∧ Q (.int (if j < i then j else i)) H) := by
 intro pins s σ H xs us Q I r h
 obtain ⟨i, j, rfl, q⟩ := h
 obtain ⟨u, w', rfl, ⟨t, rfl⟩, ⟨t', rfl⟩⟩ := cV0 r
 refine min_two_ints (I.ok.hd hc) fun h' tk k => ⟨_, H, I.kept k, ?_, q⟩
 by_cases hj : j < i
 · rw [if_pos hj, if_pos hj]; exact ⟨_, rfl⟩
 · rw [if_neg hj, if_neg hj]; exact ⟨_, rfl⟩
theorem cP6 : aC1 X (.type "int") (fun xs H Q => (∃ i, xs = [.int i] ∧ Q (.int i) H) ∨ ∃ k, xs = [.bl k] ∧ Q (.int (if k then 1 else 0)) H) := by
 intro pins s σ H xs us Q I r h
 rcases h with ⟨i, rfl, q⟩ | ⟨k, rfl, q⟩
 · obtain ⟨u, rfl, t, rfl⟩ := aE3 r
   exact call_int_int ⟨.int i, H, I, ⟨_, rfl⟩, q⟩
 · obtain ⟨u, rfl, r1⟩ := aE3 r
   cases r1
   exact call_int_bool ⟨.int (if k then 1 else 0), H, I.tok _, ⟨_, rfl⟩, q⟩
end
structure ObjM (h : Heap) (x dx C : Addr) (mA : Str → Option Value) : Prop where
 obj : h.get? x = some (PySem.W.instObj C dx)
 ns : h.Ns1 dx mA
 ne : dx ≠ x
section
variable {prog : Program} {w : World} {A : Around} {E : VSP} {s : Shared} {K : PySem.W.Frag} {x dx C f : Addr} {mA : Str → Option Value} {name : Str} {v : Value}
end
theorem bH6.some_of {v : V} {o : Option Value} (r : bH6 (some v) o) : ∃ u, o = some u ∧ J9 v u := by
 cases o with
 | none => exact (show False from r).elim
 | some u => exact ⟨u, rfl, r⟩
section
variable {P : Program} {w : World} {H H' : Hp} {h h' : Heap} {a C dx : Addr} {fs fs' : List (Str × V)}
end
structure Cls (K : PySem.W.Frag) (C : Addr) : Prop where
 pg : PySem.W.plainGet K C Str.empty = true
 hd : PySem.W.hasDictIn K C = true
 po : PySem.W.plainOver K C = true
 sa : PySem.W.findIn K (.ref C) "__setattr__" = some (some (.builtin "object.__setattr__"))
structure Con (K : PySem.W.Frag) (C : Addr) (f : Str) (v : V) (u : Value) : Prop where
 at_ : PySem.W.findIn K (.ref C) f = some (some u)
 rel : J9 v u
 get : PySem.W.specialIn K u "__get__" = some none
 cp : PySem.W.copiedNames.contains f = false
structure Meth (K : PySem.W.Frag) (C : Addr) (m : Str) (f : Addr) : Prop where
 at_ : PySem.W.findIn K (.ref C) m = some (some (.ref f))
 fn : PySem.W.isFn K (.ref f) = true
 kp : PySem.W.keepIn K (.ref f) = true
section
variable {X : Cx} {pins : PNS} {σ : St} {H : Hp} {s : Shared} {a C dx : Addr} {fs : List (Str × V)} {f : Str} {v : V} {A : Around} {E : VSP}
end
section
variable {X : Cx} {o e value : Expr} {f : Str} {pos pos' tpos : Pos} {ta tv : TE}
end
section
variable {X : Cx} {pins : PNS} {σ : St} {H : Hp} {s : Shared} {A : Around} {E : VSP} {Q : VSP} {c : Value} {b : Bool}
inductive bG6 (K : PySem.W.Frag) (H : Hp) : V → Value → Prop where
 | non : bG6 K H .non (.type "NoneType")
 | bl (x : Bool) : bG6 K H (.bl x) (.type "bool")
 | int (i : Int) : bG6 K H (.int i) (.type "int")
 | str (x : Str) : bG6 K H (.str x) (.type "str")
 | flt (x : UInt64) : bG6 K H (.flt x) (.type "float")
 | lst {a : Addr} {xs : List V} (e : H a = some (.lst xs)) : bG6 K H (.ref a) (.type "list")
 | frz {a : Addr} {o : Obj} {xs : List V} (e : H a = some (.frz o (.lst xs))) : bG6 K H (.ref a) (.type "list")
 | tup {a : Addr} {xs : List V} (e : H a = some (.tup xs)) : bG6 K H (.ref a) (.type "tuple")
 | dK {a : Addr} {kvs : List (Key × V)} (e : H a = some (.dK kvs)) : bG6 K H (.ref a) (.type "dict")
 | dT {a : Addr} {kvs : List (List Key × V)} (e : H a = some (.dT kvs)) : bG6 K H (.ref a) (.type "dict")
 | ins {a C dx : Addr} {fs : List (Str × V)} (e : H a = some (.ins C dx fs)) (cl : Cls K C) (ha : PySem.W.findIn K (.ref C) "__class__" = some (some (.builtin "object.__class__")))
    (hn : PySem.W.specialIn K (.builtin "object.__class__") "__get__" = some (some (.builtin "getset_descriptor.__get__"))) (htk : PySem.W.takesIn K (.builtin "object.__class__") = some true)
    (hm : PySem.W.mroIn K C (.type "object") = some true) : bG6 K H (.ref a) (.ref C)
end
structure aK1 (k : Nat) (A : Around) : Prop where
 hd : A.handled = none
 dp : A.depth + 3 * k + 5 < recursionLimit
 un : A.units + 16 * k + 200 < cLine
theorem aK1.mono {j k : Nat} {A : Around} (r : aK1 k A) (h : j ≤ k) : aK1 j A := ⟨r.hd, by have := r.dp; omega, by have := r.un; omega⟩
theorem aK1.deeper {k : Nat} {A : Around} (r : aK1 (k + 1) A) (env : Env) : aK1 k (A.deeper env) :=
 ⟨r.hd, by have := r.dp; show A.depth + 1 + 3 * k + 5 < _; omega, by have := r.un; show A.units + 3 + 16 * k + 200 < _; omega⟩
theorem aK1.depth {k : Nat} {A : Around} (r : aK1 k A) : A.depth < recursionLimit := by have := r.dp; omega
theorem aK1.units {k : Nat} {A : Around} (r : aK1 k A) : A.units + 64 < cLine := by have := r.un; omega
noncomputable def eB4 : TA := fun _ H Q => Q [] H
noncomputable def dX6 (ta : TE) (tr : TA) : TA := fun σ H Q => ta σ H fun x H1 => tr σ H1 fun xs H2 => Q (x :: xs) H2
section
variable {X : Cx} {e : Expr} {es : List Expr} {te : TE} {t : TA} {pos : Pos}
theorem dW2 : PA X [] eB4 := fun _ _ _ _ H Q I h => Calls.spliced_nil ⟨[], H, I, .nil, h⟩
theorem dI5 (ha : PE X e te) (hr : PA X es t) (hs : starEach (e :: es) X.env = (false, eval e X.env) :: starEach es X.env) : PA X (e :: es) (dX6 te t) := by
 intro pos pins s σ H Q I h
 rw [hs]
 show wpAny _ _ (spliced ((false, eval e X.env) :: backTo pos (starEach es X.env))) _ _ s
 refine Calls.spliced_cons (thn (ha pins s σ H _ I h) fun u s1 ⟨x, H1, I1, r1, q1⟩ => ?_)
 exact thn (hr pos pins s1 σ H1 _ I1 q1) fun us s2 ⟨xs, H2, I2, r2, q2⟩ => ⟨x :: xs, H2, I2, .cons r1 r2, q2⟩
def eJ4 (t : TA) : TE := fun σ H Q => t σ H fun xs H1 => xs.length ≤ sizeLine ∧ ∀ p, H1 p = none → Q (.ref p) (upd H1 p (.tup xs))
def eI4 (t : TA) : TE := fun σ H Q => t σ H fun xs H1 => xs.length ≤ sizeLine ∧ ∀ p, H1 p = none → Q (.ref p) (upd H1 p (.lst xs))
theorem dV4 {x1} (h : PA X es t) : PE X (.Tuple es x1 pos) (eJ4 t) := by
 intro pins s σ H Q I hq
 refine wpAny_Tuple_spliced (thn (h pos pins s σ H _ I hq) fun us s1 ⟨xs, H1, I1, r, z, q⟩ => ⟨by rw [← r.length]; exact z, ?_⟩)
 have hf : H1 s1.heap.objs.size = none := I1.hok.fresh (Nat.le_refl _)
 refine ⟨.ref s1.heap.objs.size, upd H1 s1.heap.objs.size (.tup xs), I1.laid (t' := s1.toks) (fun b u e => Heap.get?_push_of_some _ e) (Nat.le_refl _) ?_, rfl, q _ hf⟩
 exact ⟨z, us, r, ⟨_, Heap.get?_push_size _ rfl, rfl, _, rfl⟩⟩
theorem dV1 (h : PA X es t) : PE X (.List es pos) (eI4 t) := by
 intro pins s σ H Q I hq
 refine wpAny_List_spliced (thn (h pos pins s σ H _ I hq) fun us s1 ⟨xs, H1, I1, r, z, q⟩ => ⟨by rw [← r.length]; exact z, ?_⟩)
 have hf : H1 s1.heap.objs.size = none := I1.hok.fresh (Nat.le_refl _)
 refine ⟨.ref s1.heap.objs.size, upd H1 s1.heap.objs.size (.lst xs), I1.laid (t' := s1.toks) (fun b u e => Heap.get?_push_of_some _ e) (Nat.le_refl _) ?_, rfl, q _ hf⟩
 exact ⟨z, us, 0, r, Heap.get?_push_size _ rfl⟩
end
noncomputable abbrev Sp := List V → Hp → VK → XK → Prop
noncomputable abbrev CXT := List Env → Hp → Shared → XK → VSP
structure dF9 (P : Program) (w : World) (K : PySem.W.Frag) (mg : Str → Option Value) (base : Heap) (A : Around) (outer : List Env) (s : Shared) (H : Hp) : Prop where
 frames : A.frames = some outer
 mod : Mod K mg base
 bs : ∀ b o, base.get? b = some o → s.heap.get? b = some o ∧ H b = none
 bsz : base.objs.size ≤ s.heap.objs.size
 funs : s.heap.FunFrames base outer
 frf : ∀ b ∈ frs outer, H b = none
 hok : HOk P w H s.heap
 bare : AllBare s.gens
def CE (outer : List Env) (P : Program) (w : World) (H : Hp) (s : Shared) (Q : VK) (u : Value) (s' : Shared) : Prop :=
 ∃ v H', s'.os = s.os ∧ AllBare s'.gens ∧ Un (frs outer) [] H H' s.heap s'.heap ∧ HOk P w H' s'.heap ∧ J9 v u ∧ Q v H'
def CR (CX : CXT) (outer : List Env) (P : Program) (w : World) (H : Hp) (s : Shared) (Q : VK) (E : XK) (r : Result) (s' : Shared) : Prop :=
 match r with
 | .ok (.ret u) => CE outer P w H s Q u s'
 | .ok _ => False
 | .error e => CX outer H s E e s'
structure M8 (P : Program) (w : World) (K : PySem.W.Frag) (mg : Str → Option Value) (base : Heap) (CX : CXT) (k : Nat) (f : Addr) (fd : FuncData) (ps : List Str) (sp : Sp) : Prop where
 len : ∀ vs H Q E, sp vs H Q E → vs.length = ps.length
 run : ∀ (A : Around) (outer : List Env) (s : Shared) (H : Hp) (args : Args) (us : List Value) (vs : List V) (Q : VK) (E : XK), aK1 k A → dF9 P w K mg base A outer s H → BindsTo s fd args (ps.zip us) → J7 vs us → sp vs H Q E →
  codeAny (model P w) A (.call (.ref f) args) (CR CX outer P w H s Q E) s
theorem M8.imp {P : Program} {w : World} {K : PySem.W.Frag} {mg : Str → Option Value} {base : Heap} {CX : CXT} {k : Nat} {f : Addr} {fd : FuncData} {ps : List Str} {sp sp' : Sp} (F : M8 P w K mg base CX k f fd ps sp)
 (h : ∀ vs H Q E, sp' vs H Q E → sp vs H Q E) : M8 P w K mg base CX k f fd ps sp' :=
 ⟨fun vs H Q E q => F.len vs H Q E (h _ _ _ _ q), fun A outer s H args us vs Q E hr he hb hv hs => F.run A outer s H args us vs Q E hr he hb hv (h _ _ _ _ hs)⟩
section
variable {X : Cx} {pins : PNS} {σ : St} {H : Hp} {s s' : Shared}
theorem Inv.env0 (I : Inv X pins σ H s) : dF9 X.prog X.w X.K X.mg X.base X.A X.stack s H :=
 ⟨I.ok.frames, I.ok.mod, I.bs, Nat.le_trans I.ok.bsz I.sz, I.stack, I.stkFree, I.hok, I.bare⟩
theorem Inv.after {Q : VK} {u : Value} (I : Inv X pins σ H s) (h : CE X.stack X.prog X.w H s Q u s') : EP X pins σ Q u s' := by
 obtain ⟨v, H', os, bare, un, hok, r, q⟩ := h
 obtain ⟨hh, g, d, t, os'⟩ := s'
 obtain rfl : os' = s.os := os
 exact ⟨v, H', I.call (h' := hh) (g' := g) (d' := d) (t' := t) (ch := []) un hok bare (fun b z => absurd z (by simp)), r, q⟩
end
noncomputable def dM8 (sp : Sp) (dvs : List V) (E : XK) (t : TA) : TE := fun σ H Q => t σ H fun vs H1 => sp (vs ++ dvs) H1 Q E
noncomputable def aZ8 (K : PySem.W.Frag) (fd : FuncData) (ps : List Str) (ds : List Value) : Prop :=
 ∀ (s : Shared) (us : List Value), K.In s.heap → (us ++ ds).length = ps.length → BindsTo s fd ⟨us, []⟩ (ps.zip (us ++ ds))
theorem aZ8.all {K : PySem.W.Frag} {fd : FuncData} {ps : List Str} (h : ∀ us : List Value, us.length = ps.length → bindArgs fd ⟨us, []⟩ = pure (ps.zip us)) : aZ8 K fd ps [] := fun s us _ hl => by
 rw [List.append_nil] at hl ⊢
 exact .of_eq (h us hl)
noncomputable def bS5 (CX : CXT) (X : Cx) (E : XK) : Prop := ∀ (pins : PNS) (σ : St) (H : Hp) (s : Shared) (e : Value) (s' : Shared), Inv X pins σ H s → CX X.stack H s E e s' → X.xe e s'
section
variable {X : Cx} {CX : CXT} {k : Nat} {f C : Addr} {fd : FuncData} {ps : List Str} {sp : Sp} {dvs : List V} {ds : List Value} {E : XK} {x m : Str} {p pos apos : Pos} {e o : Expr} {es : List Expr} {ta : TE} {t : TA}
theorem dC1 {pins : PNS} {σ : St} {H : Hp} {s : Shared} {Q : VK} {us : List Value} {vs : List V} (F : M8 X.prog X.w X.K X.mg X.base CX k f fd ps sp) (hr : aK1 k X.A) (hb : aZ8 X.K fd ps ds) (hd : J7 dvs ds) (hx : bS5 CX X E)
 (I : Inv X pins σ H s) (r : J7 vs us) (h : sp (vs ++ dvs) H Q E) : wpAny (model X.prog X.w) X.A (call (.ref f) us) (EP X pins σ Q) X.xe s := by
 have r2 : J7 (vs ++ dvs) (us ++ ds) := r.append hd
 have hl : (us ++ ds).length = ps.length := by rw [← r2.length]; exact F.len _ _ _ _ h
 refine wpAny_call (codeAny_mono (F.run X.A X.stack s H ⟨us, []⟩ (us ++ ds) (vs ++ dvs) Q E hr I.env0 (hb s us I.kIn hl) r2 h) fun r s' hq => ?_)
 cases r with
 | error e => exact hx pins σ H s e s' I hq
 | ok fl =>
   cases fl with
   | ret u => exact I.after hq
   | next => exact False.elim hq
   | brk => exact False.elim hq
   | cont => exact False.elim hq
theorem dJ2 (F : M8 X.prog X.w X.K X.mg X.base CX k f fd ps sp) (hr : aK1 k X.A) (hg : Gl X x) (hm : X.mg x = some (.ref f)) (hk : PySem.W.keepIn X.K (.ref f) = true) (hb : aZ8 X.K fd ps ds) (hd : J7 dvs ds) (hx : bS5 CX X E)
 (ha : PA X (e :: es) t) (hdb : (x == ("__debug__" : Str)) = false) (he : starEach (e :: es) X.env = (false, eval e X.env) :: starEach es X.env) (hpl : (backTo pos (starEach es X.env)).any (·.1) = false) :
 PE X (.Call (.Name x p) (e :: es) [] pos) (dM8 sp dvs E t) := by
 intro pins s σ H Q I h
 refine wpAny_Call_Name_kw (bT8 I hg hm ?_ hdb)
 refine PySem.W.callWith_K (h₀ := X.base) I.ok.mod.kin hk (thn (ha pos pins s σ H _ I h) fun us s1 ⟨vs, H1, I1, r, q⟩ => ⟨I1.kIn, ?_⟩) he hpl
 exact dC1 F hr hb hd hx I1 r q
theorem dA2 (F : M8 X.prog X.w X.K X.mg X.base CX k f fd ps sp) (hr : aK1 k X.A) (hg : Gl X x) (hm : X.mg x = some (.ref f)) (hk : PySem.W.keepIn X.K (.ref f) = true) (hb : aZ8 X.K fd ps ds) (hd : J7 dvs ds) (hx : bS5 CX X E)
 (hdb : (x == ("__debug__" : Str)) = false) : PE X (.Call (.Name x p) [] [] pos) (dM8 sp dvs E eB4) := by
 intro pins s σ H Q I h
 refine wpAny_Call_Name_kw (bT8 I hg hm ?_ hdb)
 exact PySem.W.callWith_K0 I.kIn hk (dC1 (us := []) F hr hb hd hx I .nil h)
structure Mk (K : PySem.W.Frag) (C f : Addr) : Prop where
 makes : PySem.W.makesIn K C = true
 init : PySem.W.findIn K (.ref C) "__init__" = some (some (.ref f))
 fn : PySem.W.isFn K (.ref f) = true
 kp : PySem.W.keepIn K (.ref C) = true
end
section
variable {X : Cx} {CX : CXT} {k : Nat} {f C : Addr} {fd : FuncData} {ps ks : List Str} {sp : Sp} {E : XK} {x m : Str} {p pos apos kpos : Pos} {e o : Expr} {es : List Expr} {kws : List Keyword} {te ta : TE} {t tk : TA} {nm : Option Str}
structure KBinds (K : PySem.W.Frag) (fd : FuncData) (ps ks : List Str) (g : List Value → List Value → List Value) (gV : List V → List V → List V) : Prop where
 to : ∀ (s : Shared) (us ws : List Value), K.In s.heap → (g us ws).length = ps.length → BindsTo s fd ⟨us, ks.zip ws⟩ (ps.zip (g us ws))
 rel : ∀ {vs : List V} {us : List Value} {zs : List V} {ws : List Value}, J7 vs us → J7 zs ws → J7 (gV vs zs) (g us ws)
variable {g : List Value → List Value → List Value} {gV : List V → List V → List V}
end
structure J0 (N P : List Str) (sc : Scope) : Prop where
 kind : sc.kind = .function
 co : sc.isCoroutine = false
 gen : sc.isGenerator = false
 nd : N.Nodup
 pre : N.take P.length = P
 par : ∀ x ∈ P, sc.names.lookup x = some .local ∨ sc.names.lookup x = some .cell
 nofree : ∀ y ∈ sc.names, y.2 ≠ .free
theorem bN6 {kindOf : Str → Option NameKind} {x : Str} : ∀ {binds : List (Str × Value)} {m : Str → Option Value}, (∀ v, (x, v) ∉ binds) → bindL kindOf binds m x = m x
 | [], _, _ => rfl
 | (n, v) :: r, m, h => by
  unfold bindL
  rw [bN6 fun w hw => h w (List.mem_cons_of_mem _ hw)]
  split
  · have : x ≠ n := by rintro rfl; exact h v List.mem_cons_self
    simp [this]
  · rfl
theorem bM4 {kindOf : Str → Option NameKind} {x : Str} : ∀ {binds : List (Str × Value)} {m : Str → Option Value}, (∀ v, (x, v) ∉ binds) → bindC kindOf binds m x = m x
 | [], _, _ => rfl
 | (n, v) :: r, m, h => by
  unfold bindC
  rw [bM4 fun w hw => h w (List.mem_cons_of_mem _ hw)]
  split
  · rfl
  · have : x ≠ n := by rintro rfl; exact h v List.mem_cons_self
    simp [this]
theorem bO1 {kindOf : Str → Option NameKind} {x : Str} {v : Value} : ∀ {P : List Str} {vs : List Value} {i : Nat} {m : Str → Option Value}, P.Nodup → P[i]? = some x → vs[i]? = some v → kindOf x = some .local →
 bindL kindOf (P.zip vs) m x = some v
 | [], _, _, _, _, h, _, _ => by simp at h
 | _ :: _, [], _, _, _, _, h, _ => by simp at h
 | p :: P, w :: vs, 0, m, nd, h1, h2, hk => by
   simp at h1 h2; subst h1; subst h2
   show bindL kindOf ((p, w) :: P.zip vs) m p = _
   unfold bindL
   rw [bN6 fun v hv => (List.nodup_cons.mp nd).1 (List.of_mem_zip hv).1, if_pos hk]
   simp
 | p :: P, w :: vs, i + 1, m, nd, h1, h2, hk => by
   show bindL kindOf ((p, w) :: P.zip vs) m x = _
   unfold bindL
   exact bO1 (i := i) (List.nodup_cons.mp nd).2 (by simpa using h1) (by simpa using h2) hk
theorem bN3 {kindOf : Str → Option NameKind} {x : Str} {v : Value} : ∀ {P : List Str} {vs : List Value} {i : Nat} {m : Str → Option Value}, P.Nodup → P[i]? = some x → vs[i]? = some v → kindOf x ≠ some .local →
 bindC kindOf (P.zip vs) m x = some v
 | [], _, _, _, _, h, _, _ => by simp at h
 | _ :: _, [], _, _, _, _, h, _ => by simp at h
 | p :: P, w :: vs, 0, m, nd, h1, h2, hk => by
   simp at h1 h2; subst h1; subst h2
   show bindC kindOf ((p, w) :: P.zip vs) m p = _
   unfold bindC
   rw [bM4 fun v hv => (List.nodup_cons.mp nd).1 (List.of_mem_zip hv).1, if_neg hk]
   simp
 | p :: P, w :: vs, i + 1, m, nd, h1, h2, hk => by
   show bindC kindOf ((p, w) :: P.zip vs) m x = _
   unfold bindC
   exact bN3 (i := i) (List.nodup_cons.mp nd).2 (by simpa using h1) (by simpa using h2) hk
noncomputable def start (N : List Str) (vs : List V) : St := vs.map some ++ List.replicate (N.length - vs.length) none
noncomputable def cC7 (CX : CXT) (P : Program) (w : World) (K : PySem.W.Frag) (mg : Str → Option Value) (base : Heap) (N : List Str) (qual : Str) (scope : Scope) (f : Addr) (cd : Value) (A : Around) (outer : List Env) (s : Shared) (H : Hp) (E : XK) : Cx where
 prog := P
 w := w
 K := K
 mg := mg
 base := base
 A := A.deeper (envOfC qual scope s.heap.objs.size f cd)
 N := N
 s₀ := s
 H₀ := H
 env := envOfC qual scope s.heap.objs.size f cd
 outer := outer
 stack := envOfC qual scope s.heap.objs.size f cd :: outer
 ex := []
 calm := true
 fn := fun _ => true
 pn := []
 xe := fun e s' => wpAny (model P w) (A.deeper (envOfC qual scope s.heap.objs.size f cd)) (leaving (envOfC qual scope s.heap.objs.size f cd) e) (fun _ s'' => CX outer H s E e s'') (fun e' s'' => CX outer H s E e' s'') s'
theorem cB6 {sc : Scope} {n : Nat} {x : Str} (h : sc.names.lookup x = some .cell) : ∃ c, (cellsFrom n sc.names []).lookup x = some c := by
 have q := PySem.W.cellsFrom_some sc.names n [] (.inl h)
 exact Option.isSome_iff_exists.mp q
theorem cQ3 {CX : CXT} {P : Program} {w : World} {K : PySem.W.Frag} {mg : Str → Option Value} {base : Heap} {N ps : List Str} {qual : Str} {scope : Scope} {f : Addr} {cd : Value} {A : Around} {outer : List Env} {s s1 : Shared} {H : Hp} {E : XK} {us : List Value} {vs : List V}
 (S : J0 N ps scope) (hd : A.handled = none) (e0 : dF9 P w K mg base A outer s H) (hl : vs.length = ps.length) (r : J7 vs us)
 (x : InCallC s s.heap.objs.size (bindL (envOfC qual scope s.heap.objs.size f cd).kindOf (ps.zip us) fun _ => none) (cellsFrom (s.heap.objs.size + 1) scope.names []) (bindC (envOfC qual scope s.heap.objs.size f cd).kindOf (ps.zip us) fun _ => none) s1) :
 Inv (cC7 CX P w K mg base N qual scope f cd A outer s H E) [] (start N vs) H s1 := by
 have hpl : ps.length ≤ N.length := by have := congrArg List.length S.pre; rw [List.length_take] at this; omega
 obtain ⟨h1, tk, rfl, hk⟩ := x.done
 have noA : ∀ b : Addr, b ∉ (cC7 CX P w K mg base N qual scope f cd A outer s H E).ex := fun b z => absurd (show b ∈ ([] : List Addr) from z) (by simp)
 refine ⟨⟨e0.mod, S.kind, rfl, rfl, Nat.le_refl _, fun y z c h1 h2 => ?_, fun y hy => ?_, fun y c _ h => ?_, fun _ => hd, Around.frames_deeper e0.frames, .inr ⟨rfl, rfl⟩, fun b z => absurd z (noA b), e0.bs, e0.bsz, fun b _ _ => noA b, fun b z => absurd z (noA b), e0.funs, e0.frf⟩,
  rfl, e0.bare, Un.kept hk, ⟨_, x.toInCall.ns, fun i y v h1 h2 h3 => ?_⟩, fun y c h => ⟨_, x.cell y c h⟩, e0.hok.fresh (Nat.le_refl _), fun y c h => ?_, fun p hp => absurd (show p ∈ ([] : PNS) from hp) (by simp), e0.hok.kept hk, ?_⟩
 · exact name_of_addr x.apart (PySem.mem_of_lookup h1) (PySem.mem_of_lookup h2)
 · have hy : scope.names.lookup y = some .cell ∨ scope.names.lookup y = some .free := hy
   rcases hy with hy | hy
   · exact cB6 hy
   · exact absurd rfl (S.nofree _ (PySem.mem_of_lookup hy))
 · exact Nat.le_of_lt (x.above y c (PySem.mem_of_lookup h))
 · have hi : i < vs.length := by
    unfold start at h2
    by_cases hi : i < vs.length
    · exact hi
    · rw [List.getElem?_append_right (by simpa using hi)] at h2
      rw [List.getElem?_replicate] at h2
      split at h2 <;> cases h2
   have ha : vs[i]? = some v := by
    unfold start at h2
    rw [List.getElem?_append_left (by simpa using hi), List.getElem?_map] at h2
    cases e : vs[i]? with
    | none => rw [e] at h2; cases h2
    | some a => rw [e] at h2; cases h2; rfl
   obtain ⟨u, hu, rv⟩ := r.get ha
   have hp : ps[i]? = some y := by
    rw [← S.pre, List.getElem?_take_of_lt (by omega)]; exact h1
   have ndP : ps.Nodup := by rw [← S.pre]; exact S.nd.sublist (List.take_sublist _ _)
   refine ⟨u, rv, ?_⟩
   rcases S.par y (List.mem_of_getElem? hp) with k | k
   · exact .inl ⟨k, bO1 ndP hp hu k⟩
   · obtain ⟨c, e⟩ := cB6 (n := s.heap.objs.size + 1) k
     refine .inr ⟨.inl k, c, e, ?_⟩
     have q := x.cell y c e
     rw [bN3 ndP hp hu (by show scope.names.lookup y ≠ _; rw [k]; decide)] at q
     exact q
 · exact e0.hok.fresh (Nat.le_of_lt (x.above y c (PySem.mem_of_lookup h)))
 · unfold start
   show _ = N.length
   rw [List.length_append, List.length_map, List.length_replicate]
   omega
theorem eA6 {CX : CXT} {P : Program} {w : World} {K : PySem.W.Frag} {mg : Str → Option Value} {base : Heap} {k : Nat} {f : Addr} {name qual : Str} {params : Arguments} {body : List Stmt} {scope : Scope} {dV kV doc pm cdv ct oc : Value} {an od : Option Addr}
 {osl : Array (Option Value)} {N ps : List Str} {sp : Sp} (lk : K.lookup f = some ⟨oc, od, .func (PySem.W.fnOf name qual params body scope dV kV doc pm an cdv ct), osl⟩) (hcd : PySem.W.codeIn K cdv qual = true) (S : J0 N ps scope)
 (len : ∀ vs H Q E, sp vs H Q E → vs.length = ps.length)
 (hbody : ∀ (A : Around) (outer : List Env) (s : Shared) (H : Hp) (vs : List V) (Q : VK) (E : XK), aK1 k (A.deeper (envOfC qual scope s.heap.objs.size f cdv)) → sp vs H Q E →
   ∃ t, PSs (cC7 CX P w K mg base N qual scope f cdv A outer s H E) body t ∧ t { nx := fun _ H' => Q .non H', rt := Q } (start N vs) H) :
 M8 P w K mg base CX (k + 1) f (PySem.W.fnOf name qual params body scope dV kV doc pm an cdv ct) ps sp := by
 refine ⟨len, fun A outer s H args us vs Q E hr e0 hb r hsp => ?_⟩
 have hl := len _ _ _ _ hsp
 have KX : K.In s.heap := e0.mod.kin.keeps fun b o e => (e0.bs b o e).1
 have lim : s.heap.NoLimit := e0.mod.nolimit.keeps fun b o e => (e0.bs b o e).1
 have hkind : ∀ y ∈ ps.zip us, scope.names.lookup y.1 = some .local ∨ (scope.names.lookup y.1 = some .cell ∧ ((cellsFrom (s.heap.objs.size + 1) scope.names []).lookup y.1).isSome = true) := fun ⟨n, v⟩ hy => by
  rcases S.par n (List.of_mem_zip hy).1 with q | q
  · exact .inl q
  · exact .inr ⟨q, PySem.W.cellsFrom_some _ _ _ (.inl q)⟩
 refine codeAny_call_function hr.depth (KX _ _ lk) rfl S.co S.gen rfl (PySem.W.codeRec_of KX hcd) (hb _ _ _ _ ?_)
 refine wpAny_newFunctionEnv_cells S.kind hkind fun env he s1 x => ?_
 subst he
 refine ⟨lim.keeps x.toInCall.keep, codeAny_func ?_⟩
 obtain ⟨t, ht, hq⟩ := hbody A outer s H vs Q E (hr.deeper _) hsp
 have I : Inv (cC7 CX P w K mg base N qual scope f cdv A outer s H E) [] (start N vs) H s1 := cQ3 S hr.hd e0 hl r x
 refine wpAny_mono (ht [] s1 (start N vs) H _ I hq) (fun fl s' hs => ?_) fun e s' hs => hs
 have fin : ∀ {σ' : St} {H' : Hp} {v : V} {u : Value}, Inv (cC7 CX P w K mg base N qual scope f cdv A outer s H E) [] σ' H' s' → J9 v u → Q v H' → CE outer P w H s Q u s' :=
  fun {σ' H' v u} J rv q => ⟨v, H', J.os, J.bare, J.base, J.hok, rv, q⟩
 cases fl with
 | ret u =>
   obtain ⟨v, σ', H', J, rv, q⟩ := hs
   exact fin J rv q
 | next =>
   obtain ⟨σ', H', J, q⟩ := hs
   exact fin (v := V.non) (u := Value.none) J rfl q
 | brk =>
   obtain ⟨_, _, _, q⟩ := hs
   exact False.elim q
 | cont =>
   obtain ⟨_, _, _, q⟩ := hs
   exact False.elim q
section
variable {X : Cx} {x : Str} {p pos : Pos} {e : Expr} {es : List Expr} {t : TA} {id T : String} {r : List V → Hp → VK → Prop}
noncomputable def tCB (r : List V → Hp → VK → Prop) (t : TA) : TE := fun σ H Q => t σ H fun vs H1 => r vs H1 Q
theorem dC5 (hc : aC1 X (.builtin id) r) (hg : Gl X x) (hm : X.mg x = none) (hv : bootBuiltins x = some (.builtin id)) (ha : PA X (e :: es) t) (hn : x ≠ "__name__") (hdb : (x == ("__debug__" : Str)) = false)
 (he : starEach (e :: es) X.env = (false, eval e X.env) :: starEach es X.env) (hpl : (backTo pos (starEach es X.env)).any (·.1) = false) : PE X (.Call (.Name x p) (e :: es) [] pos) (tCB r t) := by
 intro pins s σ H Q I h
 refine wpAny_Call_Name_kw (bA8 I hg hm hv ?_ hn hdb)
 exact PyProof.Rows.callWith_builtin1 (thn (ha pos pins s σ H _ I h) fun us s1 ⟨vs, H1, I1, r1, q1⟩ => hc pins s1 σ H1 vs us Q I1 r1 q1) he hpl
theorem cQ0 (hc : aC1 X (.type T) r) (hg : Gl X x) (hm : X.mg x = none) (hv : bootBuiltins x = some (.type T)) (ha : PA X (e :: es) t) (hn : x ≠ "__name__") (hdb : (x == ("__debug__" : Str)) = false)
 (he : starEach (e :: es) X.env = (false, eval e X.env) :: starEach es X.env) (hpl : (backTo pos (starEach es X.env)).any (·.1) = false) : PE X (.Call (.Name x p) (e :: es) [] pos) (tCB r t) := by
 intro pins s σ H Q I h
 refine wpAny_Call_Name_kw (bA8 I hg hm hv ?_ hn hdb)
 exact PyProof.Rows.callWith_type1 (thn (ha pos pins s σ H _ I h) fun us s1 ⟨vs, H1, I1, r1, q1⟩ => hc pins s1 σ H1 vs us Q I1 r1 q1) he hpl
end
end L2
namespace HT
open PySem PyProof.Rows
section
open PySem.SeqAt
open PySem.AutoSeq1 (wpAny_loadPart')
open PySem.MeetsSeq PySem.MeetsSeq2 PySem.MeetsSeq3
end
section
variable {prog : Program} {w : World} {A : Around} {E : VSP} {s : Shared}
theorem cat_tup {t b : Addr} {vs ws : List Value} {Q : VSP} (ht : IsTup s.heap t vs.toArray) (hb : IsTup s.heap b ws.toArray) (hv : vs ≠ [])
 (h1 : ws = [] → Q (.ref t) s) (h2 : ws ≠ [] → Q (.ref s.heap.objs.size) { s with heap := s.heap.push { cls := .type "tuple", data := .seq (vs ++ ws).toArray } })
 (hsz : vs.length + ws.length ≤ sizeLine) : wpAny (model prog w) A (binaryOp .Add (.ref t) (.ref b)) Q E s := by
 obtain ⟨⟨cls, dd, data, sl⟩, ho, hc, n, hd⟩ := id ht
 obtain ⟨⟨cls2, dd2, data2, sl2⟩, ho2, hc2, n2, hd2⟩ := id hb
 simp only at hc hd hc2 hd2
 subst hc hd hc2 hd2
 have e : vs.toArray ++ ws.toArray = (vs ++ ws).toArray := by simp
 by_cases hw : ws = []
 · exact concat_meets ⟨_, ho, rfl⟩ ⟨_, ho2, rfl⟩ noFill_tuple_add seq_tuple_add PySem.F.slot_tuple_add PySem.F.entry_tuple_add (PySem.F.args_tuple_add_2 _ _)
    (tuple_addW1 t b vs.toArray ws.toArray n n2 dd dd2 sl sl2 (by simpa using hv) (by simp [hw])) ⟨ho, ho2, h1 hw⟩
 · refine concat_meets ⟨_, ho, rfl⟩ ⟨_, ho2, rfl⟩ noFill_tuple_add seq_tuple_add PySem.F.slot_tuple_add PySem.F.entry_tuple_add (PySem.F.args_tuple_add_2 _ _)
    (tuple_addW2 t b vs.toArray ws.toArray n n2 dd dd2 sl sl2 (by simpa using hv) (by simpa using hw) (by rw [List.size_toArray, List.size_toArray]; exact hsz)) ⟨ho, ho2, ?_⟩
   rw [e]
   exact h2 hw
noncomputable def sIx (n d : Nat) : Option Int → Nat
 | none => d
 | some v => if v < 0 then (v + (n : Int)).toNat else min v.toNat n
theorem sIx_none (n d : Nat) : sIx n d none = d := rfl
theorem sIx_nat (n d k : Nat) : sIx n d (some (k : Int)) = min k n := by
 show (if (k : Int) < 0 then ((k : Int) + (n : Int)).toNat else min (k : Int).toNat n) = min k n
 rw [if_neg (by omega), Int.toNat_natCast]
theorem dN9 (n d : Nat) (hd : d ≤ n) (o : Option Int) : sIx n d o ≤ n := by
 cases o with
 | none => exact hd
 | some v =>
   show (if v < 0 then (v + (n : Int)).toNat else min v.toNat n) ≤ n
   by_cases hv : v < 0
   · rw [if_pos hv]; omega
   · rw [if_neg hv]; exact Nat.min_le_right _ _
theorem cJ5 (v : Int) (n d : Nat) : (if v < 0 then max (v + (n : Int)) 0 else min v (n : Int)) = ((sIx n d (some v) : Nat) : Int) := by
 show (if v < 0 then max (v + (n : Int)) 0 else min v (n : Int)) = (((if v < 0 then (v + (n : Int)).toNat else min v.toNat n) : Nat) : Int)
 by_cases hv : v < 0
 · simp only [if_pos hv]; omega
 · simp only [if_neg hv]; omega
theorem cF5 (lo hi : Option Int) (n : Nat) : Builtin.Slice.sliceAdjust lo hi 1 (n : Int) = (((sIx n 0 lo : Nat) : Int), ((sIx n n hi : Nat) : Int)) := by
 have h1 : ¬ ((1 : Int) < 0) := by omega
 unfold Builtin.Slice.sliceAdjust
 simp only [h1, if_false]
 refine Prod.ext ?_ ?_
 · cases lo with
   | none => rfl
   | some v => exact cJ5 v n 0
 · cases hi with
   | none => rfl
   | some v => exact cJ5 v n n
theorem cF7 (i j : Nat) : Builtin.Slice.slicePlaces (i : Int) (j : Int) 1 = j - i := by
 unfold Builtin.Slice.slicePlaces
 have h1 : (1 : Int) > 0 := by omega
 simp only [h1, if_true, Int.ediv_one]
 split <;> omega
theorem bI8 {v : Value} {o : Option Int} {Q : Option Int → Shared → Prop} (p : IsPart v o) (h : Q o s) : wpAny (model prog w) A (Builtin.Slice.slicePartIndex v) Q E s := by
 cases p with
 | none => exact slicePart_none h
 | int i t => exact slicePart_int h
theorem sliceApplied_gen {sl : Addr} {vl vu : Value} {lo hi : Option Int} {n : Nat} {Q : Int × Int × Nat → Shared → Prop} (hs : s.heap.IsSliceOf sl vl vu .none) (pl : IsPart vl lo) (pu : IsPart vu hi)
 (h : Q (((sIx n 0 lo : Nat) : Int), 1, sIx n n hi - sIx n 0 lo) s) : wpAny (model prog w) A (Builtin.Slice.sliceApplied (.ref sl) (pure (n : Int))) Q E s := by
 obtain ⟨os, hos, hcs, hds⟩ := id hs
 unfold Builtin.Slice.sliceApplied Builtin.Slice.sliceFields
 refine wpAny_bind (wpAny_bind (wpAny_field hos hds (x := vl) rfl (wpAny_bind (wpAny_field hos hds (x := vu) rfl (wpAny_bind (wpAny_field hos hds (x := .none) rfl (wpAny_pure ?_)))))))
 refine wpAny_bind (slicePart_none ?_)
 show wpAny _ _ (if ((1 : Int) == 0) = true then _ else _) _ _ s
 rw [if_neg (by decide)]
 refine wpAny_bind (bI8 pl (wpAny_bind (bI8 pu (wpAny_bind (wpAny_pure ?_)))))
 show wpAny _ _ (match Builtin.Slice.sliceAdjust lo hi 1 (n : Int) with | (lo, hi) => pure (lo, (1 : Int), Builtin.Slice.slicePlaces lo hi 1)) _ _ s
 rw [cF5 lo hi n]
 show wpAny _ _ (pure (((sIx n 0 lo : Nat) : Int), (1 : Int), Builtin.Slice.slicePlaces ((sIx n 0 lo : Nat) : Int) ((sIx n n hi : Nat) : Int) 1)) _ _ s
 rw [cF7]
 exact wpAny_pure h
theorem cX0 (xs : Array Value) (i k : Nat) : ((List.range k).filterMap fun (m : Nat) => xs[((i : Int) + (m : Int) * 1).toNat]?).toArray = ((xs.toList.drop i).take k).toArray := by
 have e : (fun (m : Nat) => xs[((i : Int) + (m : Int) * 1).toNat]?) = fun m => xs[i + m]? := by
  funext m
  have : ((i : Int) + (m : Int) * 1).toNat = i + m := by omega
  rw [this]
 rw [e]
 have := pick_run xs i k
 rw [List.filterMap_map] at this
 have e2 : ((fun x => xs[x]?) ∘ fun x => i + x) = fun m => xs[i + m]? := rfl
 rw [e2] at this
 rw [this]
theorem getItem_tuple_cut {t sl : Addr} {items : Array Value} {vl vu : Value} {lo hi : Option Int} {Q : VSP} (ht : IsTup s.heap t items) (hs : s.heap.IsSliceOf sl vl vu .none) (pl : IsPart vl lo) (pu : IsPart vu hi)
 (hw : ¬ (sIx items.size 0 lo = 0 ∧ sIx items.size items.size hi = items.size))
 (h : Q (.ref s.heap.objs.size) { s with heap := s.heap.push { cls := .type "tuple", data := .seq ((items.toList.drop (sIx items.size 0 lo)).take (sIx items.size items.size hi - sIx items.size 0 lo)).toArray } })
 (hsz : items.size ≤ sizeLine) : wpAny (model prog w) A (getItem (.ref t) (.ref sl)) Q E s := by
 have htake : sizeOk (.seq ((items.toList.drop (sIx items.size 0 lo)).take (sIx items.size items.size hi - sIx items.size 0 lo)).toArray) := by
  show ((items.toList.drop (sIx items.size 0 lo)).take (sIx items.size items.size hi - sIx items.size 0 lo)).toArray.size ≤ sizeLine
  rw [List.size_toArray, List.length_take, List.length_drop, Array.length_toList]
  omega
 have hj : sIx items.size items.size hi ≤ items.size := dN9 _ _ (Nat.le_refl _) hi
 obtain ⟨os, hos, hcs, hds⟩ := id hs
 have hTs : s.TypeIs (.ref sl) "slice" := ⟨os, hos, hcs⟩
 unfold getItem
 try with_reducible refine wpAny_holding ?_
 first | refine wpAny_bind (wpAny_pure ?_) | skip
 refine wpAny_bind (wpAny_sequenceKey ht.typeIs (by decide) ?_)
 refine wpAny_bind (wpAny_callSpecial?_slot (name := Str.ofString "__getitem__") ht.typeIs PyProof.Rows.slot_tuple_getitem
  (wpAny_call_entry PyProof.Rows.slot_tuple_getitem ht.typeIs entry_tuple_getitem ?_ (args_tuple_getitem _ _)))
 show wpAny _ _ (Builtin.Tuple.tupleItemsOf (.ref t) >>= _) _ _ s
 refine wpAny_bind (tupleItemsOf_ ht ?_)
 refine wpAny_bind (wpAny_typeOf hTs ?_)
 rw [if_pos (by decide)]
 refine wpAny_bind (sliceApplied_gen hs pl pu ?_)
 have hno : ¬ ((((sIx items.size 0 lo : Nat) : Int) == 0 && (1 : Int) == 1 && (sIx items.size items.size hi - sIx items.size 0 lo) == items.size) = true) := by
  intro q
  rw [Bool.and_eq_true, Bool.and_eq_true] at q
  have q1 : ((sIx items.size 0 lo : Nat) : Int) = 0 := eq_of_beq q.1.1
  have q2 : sIx items.size items.size hi - sIx items.size 0 lo = items.size := eq_of_beq q.2
  exact hw ⟨by omega, by omega⟩
 show wpAny _ _ (if (((sIx items.size 0 lo : Nat) : Int) == 0 && (1 : Int) == 1 && (sIx items.size items.size hi - sIx items.size 0 lo) == items.size) = true then _ else _) _ _ s
 rw [if_neg hno, cX0]
 first
  | exact wpAny_bind (m := Builtin.Tuple.tupleExact _) (wpAny_newObj_type (wpAny_pure ⟨_, rfl, wpAny_pure h⟩) htake)
  | exact wpAny_bind (m := Builtin.Tuple.tupleExact _) (wpAny_newObj_type (wpAny_bind (wpAny_pure (wpAny_pure ⟨_, rfl, wpAny_pure h⟩))) htake)
  | exact wpAny_bind (wpAny_bind (m := Builtin.Tuple.tupleExact _) (wpAny_newObj_type (wpAny_pure (wpAny_pure ⟨_, rfl, wpAny_pure h⟩)) htake))
  | exact wpAny_bind (wpAny_bind (m := Builtin.Tuple.tupleExact _) (wpAny_newObj_type (wpAny_pure ⟨_, rfl, wpAny_pure h⟩) htake))
end
end HT
namespace L2
open PySem PySem.Spec PyProof.Rows
noncomputable abbrev TO := St → Hp → (Option Int → Hp → Prop) → Prop
noncomputable def PO (X : Cx) (e : Option Expr) (t : TO) : Prop :=
 ∀ (pins : PNS) (s : Shared) (σ : St) (H : Hp) (Q : Option Int → Hp → Prop), Inv X pins σ H s → t σ H Q →
  wpAny (model X.prog X.w) X.A (evalPart e X.env) (fun u s' => ∃ o H', Inv X pins σ H' s' ∧ IsPart u o ∧ Q o H') X.xe s
noncomputable def dI6 : TO := fun _ H Q => Q none H
noncomputable def eC4 (t : TE) : TO := fun σ H Q => t σ H fun x H1 => ∃ i, x = .int i ∧ Q (some i) H1
section
variable {X : Cx} {e : Expr} {te : TE} {lo hi : Option Expr} {tl th : TO} {pos p2 : Pos}
theorem dG1 : PO X none dI6 := by
 intro pins s σ H Q I h
 rw [evalPart_none]
 exact wpAny_pure ⟨none, H, I, .none, h⟩
theorem dE4 (h : PE X e te) : PO X (some e) (eC4 te) := by
 intro pins s σ H Q I hw
 rw [evalPart_some]
 refine thn (h pins s σ H _ I hw) fun u s1 ⟨x, H1, I1, r1, q1⟩ => ?_
 obtain ⟨i, rfl, q⟩ := q1
 obtain ⟨t, rfl⟩ := r1
 exact ⟨some i, H1, I1, .int i t, q⟩
def SlR (X : Cx) (r : V → Option Int → Option Int → Hp → VK → Prop) : Prop :=
 ∀ (pins : PNS) (s : Shared) (σ : St) (H : Hp) (x : V) (v vl vu : Value) (lo hi : Option Int) (sl : Addr) (Q : VK), Inv X pins σ H s → J9 x v → s.heap.IsSliceOf sl vl vu .none → IsPart vl lo → IsPart vu hi → r x lo hi H Q →
  ∃ T id, typeLookup (.type T) "__getitem__" = pure (some (.builtin id)) ∧ s.TypeIs v T ∧ wpAny (model X.prog X.w) X.A (getItem v (.ref sl)) (EP X pins σ Q) X.xe s
theorem SlR.or {r r' : V → Option Int → Option Int → Hp → VK → Prop} (h : SlR X r) (h' : SlR X r') : SlR X (fun x lo hi H Q => r x lo hi H Q ∨ r' x lo hi H Q) := by
 intro pins s σ H x v vl vu lo hi sl Q I rx hs pl pu q
 rcases q with q | q
 · exact h pins s σ H x v vl vu lo hi sl Q I rx hs pl pu q
 · exact h' pins s σ H x v vl vu lo hi sl Q I rx hs pl pu q
noncomputable def tSl (r : V → Option Int → Option Int → Hp → VK → Prop) (te : TE) (tl th : TO) : TE := fun σ H Q => te σ H fun x H1 => tl σ H1 fun l H2 => th σ H2 fun u H3 => r x l u H3 Q
theorem cT9 {r : V → Option Int → Option Int → Hp → VK → Prop} (hr : SlR X r) (he : PE X e te) (hl : PO X lo tl) (hu : PO X hi th) : PE X (.Subscript e (.Slice lo hi none p2) pos) (tSl r te tl th) := by
 intro pins s σ H Q I h
 refine Subscript_ (thn (he pins s σ H _ I h) fun v s1 ⟨x, H1, I1, r1, q1⟩ => ?_)
 refine wpAny_Slice (thn (hl pins s1 σ H1 _ I1 q1) fun vl s2 ⟨l, H2, I2, pl, q2⟩ => thn (hu pins s2 σ H2 _ I2 q2) fun vu s3 ⟨u, H3, I3, pu, q3⟩ => ?_)
 rw [evalPart_none]
 refine wpAny_pure ?_
 have I4 : Inv X pins σ H3 { s3 with heap := s3.heap.push { cls := .type "slice", data := .fields #[vl, vu, .none] } } := I3.kept (t' := s3.toks) fun b ob q => Heap.get?_push_of_some _ q
 obtain ⟨T, id, hT, ht, hg⟩ := hr pins { s3 with heap := s3.heap.push { cls := .type "slice", data := .fields #[vl, vu, .none] } } σ H3 x v vl vu l u s3.heap.objs.size Q I4 r1 (Heap.IsSliceOf.new ..) pl pu q3
 show wpAny (model X.prog X.w) X.A (subscriptTail e (.Slice lo hi none p2) v (.ref s3.heap.objs.size)) (EP X pins σ Q) X.xe { s3 with heap := s3.heap.push { cls := .type "slice", data := .fields #[vl, vu, .none] } }
 exact tail_any (ops := [.ref s3.heap.objs.size, v]) ht hT hg (by with_unfolding_all rfl)
def bK8 (xs : List V) (lo hi : Option Int) : List V := (xs.drop (HT.sIx xs.length 0 lo)).take (HT.sIx xs.length xs.length hi - HT.sIx xs.length 0 lo)
theorem bD1 (xs : List V) (lo hi : Option Int) : (bK8 xs lo hi).length ≤ xs.length := by
 unfold bK8
 rw [List.length_take, List.length_drop]
 omega
def eK3 (K : PySem.W.Frag) : V → Option Int → Option Int → Hp → VK → Prop := fun x lo hi H Q => ∃ a xs, x = .ref a ∧ SqT K H a xs ∧
 ¬ (HT.sIx xs.length 0 lo = 0 ∧ HT.sIx xs.length xs.length hi = xs.length) ∧ ∀ p, H p = none → Q (.ref p) (upd H p (.tup (bK8 xs lo hi)))
theorem sl_tup : SlR X (eK3 X.K) := by
 intro pins s σ H x v vl vu lo hi sl Q I rx hs pl pu h
 obtain ⟨a, xs, rfl, hx, hw, q⟩ := h
 cases rx
 obtain ⟨its, r, ht, hz⟩ := I.tuple hx
 have hlen : its.toArray.size = xs.length := by rw [List.size_toArray]; exact r.length.symm
 refine ⟨"tuple", _, PyProof.Rows.slot_tuple_getitem.lookup, ht.typeIs, ?_⟩
 refine HT.getItem_tuple_cut ht hs pl pu (by rw [hlen]; exact hw) ?_ (by rw [hlen]; exact hz)
 rw [hlen]
 refine ⟨.ref s.heap.objs.size, _, I.laid (t' := s.toks) (o := .tup (bK8 xs lo hi)) (fun b ob q => Heap.get?_push_of_some _ q) (Nat.le_refl _) ?_, rfl, q _ (I.hok.fresh (Nat.le_refl _))⟩
 exact ⟨Nat.le_trans (bD1 xs lo hi) hz, _, (r.drop (HT.sIx xs.length 0 lo)).take (HT.sIx xs.length xs.length hi - HT.sIx xs.length 0 lo), aC7.new _ _⟩
def eB5 (K : PySem.W.Frag) : R2 := fun x y H Q => ∃ a b xs ys, x = .ref a ∧ y = .ref b ∧ SqT K H a xs ∧ SqT K H b ys ∧ xs ≠ [] ∧ xs.length + ys.length ≤ sizeLine ∧
 (ys = [] → Q (.ref a) H) ∧ (ys ≠ [] → ∀ p, H p = none → Q (.ref p) (upd H p (.tup (xs ++ ys))))
theorem J7.nil_iff {xs : List V} {us : List Value} (r : J7 xs us) : us = [] ↔ xs = [] := by
 cases r with
 | nil => simp
 | cons _ _ => simp
theorem dI0 : OpR X (binaryOp .Add) (eB5 X.K) := by
 intro pins s σ H x y v u Q I rx ry h
 obtain ⟨a, b, xs, ys, rfl, rfl, ha, hb, hx, hz, q1, q2⟩ := h
 cases rx
 cases ry
 obtain ⟨its, r1, p1, _⟩ := I.tuple ha
 obtain ⟨its2, r2, p2, _⟩ := I.tuple hb
 refine HT.cat_tup p1 p2 (fun z => hx (r1.nil_iff.mp z)) (fun z => ⟨.ref a, H, I, rfl, q1 (r2.nil_iff.mp z)⟩) (fun z => ?_) (by rw [← r1.length, ← r2.length]; exact hz)
 refine ⟨.ref s.heap.objs.size, _, I.laid (t' := s.toks) (o := .tup (xs ++ ys)) (fun b ob q => Heap.get?_push_of_some _ q) (Nat.le_refl _) ?_, rfl, q2 (fun w => z (r2.nil_iff.mpr w)) _ (I.hok.fresh (Nat.le_refl _))⟩
 exact ⟨by rw [List.length_append]; exact hz, _, r1.append r2, aC7.new _ _⟩
end
noncomputable def ixN (n : Nat) (i : Int) : Option Nat := if 0 ≤ i then (if i < n then some i.toNat else none) else if -(n : Int) ≤ i then some (i + n).toNat else none
def atI {α : Type} (xs : List α) (i : Int) : Option α := (ixN xs.length i).bind fun j => xs[j]?
theorem cM0 {n : Nat} {i : Int} {j : Nat} (h : ixN n i = some j) : seqIndex? i n = some j ∧ j < n ∧ -(n : Int) ≤ i ∧ i < n := by
 unfold ixN at h
 by_cases h0 : 0 ≤ i
 · rw [if_pos h0] at h
   by_cases h1 : i < n
   · rw [if_pos h1] at h
     have e : i.toNat = j := Option.some.inj h
     exact ⟨by rw [seqIndex_of h0 h1, e], by omega, by omega, h1⟩
   · rw [if_neg h1] at h; cases h
 · rw [if_neg h0] at h
   by_cases h1 : -(n : Int) ≤ i
   · rw [if_pos h1] at h
     have e : (i + n).toNat = j := Option.some.inj h
     exact ⟨by rw [seqIndex_neg (by omega) h1, e], by omega, h1, by omega⟩
   · rw [if_neg h1] at h; cases h
theorem bP3 {α : Type} {xs : List α} {i : Int} {v : α} (h : atI xs i = some v) : ∃ j, seqIndex? i xs.length = some j ∧ xs[j]? = some v ∧ j < xs.length ∧ -(xs.length : Int) ≤ i ∧ i < xs.length := by
 unfold atI at h
 cases e : ixN xs.length i with
 | none => rw [e] at h; cases h
 | some j =>
   rw [e] at h
   obtain ⟨h1, h2, h3, h4⟩ := cM0 e
   exact ⟨j, h1, h, h2, h3, h4⟩
theorem atI_nat {α : Type} {xs : List α} {j : Nat} {v : α} (h : xs[j]? = some v) : atI xs (j : Int) = some v := by
 have hj : j < xs.length := (List.getElem?_eq_some_iff.mp h).1
 have e : ixN xs.length (j : Int) = some j := by
  unfold ixN
  rw [if_pos (by omega), if_pos (by omega)]; simp
 unfold atI; rw [e]; exact h
theorem atI_last {α : Type} (xs : List α) (v : α) : atI (xs ++ [v]) (-1) = some v := by
 have hl : (xs ++ [v]).length = xs.length + 1 := by simp
 have e : ixN (xs ++ [v]).length (-1) = some xs.length := by
  unfold ixN
  rw [hl, if_neg (by decide), if_pos (by omega)]
  congr 1
  omega
 unfold atI
 rw [e]
 show (xs ++ [v])[xs.length]? = some v
 simp
noncomputable def bE8 (b : Expr) : Prop := ∀ o i, subscripted b false o i = operate [o, i] (getItem o i)
def IxR (X : Cx) (r : R2) : Prop :=
 ∀ (value slice : Expr) (pins : PNS) (s : Shared) (σ : St) (H : Hp) (x y : V) (v u : Value) (Q : VK), Inv X pins σ H s → J9 x v → J9 y u → r x y H Q →
  subscripted slice false v u = operate [v, u] (getItem v u) → wpAny (model X.prog X.w) X.A (subscriptTail value slice v u) (EP X pins σ Q) X.xe s
def MtR (X : Cx) (id : String) (r : V → List V → Hp → VK → Prop) : Prop :=
 ∀ (pins : PNS) (s : Shared) (σ : St) (H : Hp) (x : V) (xs : List V) (v : Value) (us : List Value) (Q : VK), Inv X pins σ H s → J9 x v → J7 xs us → r x xs H Q →
  wpAny (model X.prog X.w) X.A (call (.builtin id) (v :: us)) (EP X pins σ Q) X.xe s
section
variable {X : Cx} {a b : Expr} {ta tb : TE} {pos : Pos}
theorem IxR.or {r r' : R2} (h : IxR X r) (h' : IxR X r') : IxR X (fun x y H Q => r x y H Q ∨ r' x y H Q) := by
 intro value slice pins s σ H x y v u Q I rx ry q hs
 rcases q with q | q
 · exact h value slice pins s σ H x y v u Q I rx ry q hs
 · exact h' value slice pins s σ H x y v u Q I rx ry q hs
theorem eA8 {r : R2} (hr : IxR X r) (ha : PE X a ta) (hb : PE X b tb) (hs : bE8 b) : PE X (.Subscript a b pos) (tOp r ta tb) := by
 intro pins s σ H Q I h
 exact Subscript_ (dR5 ha hb I h fun v u s2 x y H2 I2 rx ry q => hr a b pins s2 σ H2 x y v u Q I2 rx ry q (hs _ _))
def eI2 (K : PySem.W.Frag) : R2 := fun x y H Q => ∃ p xs i v, x = .ref p ∧ y = .int i ∧ SqL K H p xs ∧ atI xs i = some v ∧ Q v H
def eH6 (K : PySem.W.Frag) : R2 := fun x y H Q => ∃ p xs i v, x = .ref p ∧ y = .int i ∧ SqT K H p xs ∧ atI xs i = some v ∧ Q v H
def eI1 : R2 := fun x y H Q => ∃ z i c, x = .str z ∧ y = .int i ∧ z.length ≤ sizeLine ∧ atI z.cps.toList i = some c ∧ Q (.str ⟨#[c]⟩) H
theorem dL8 : IxR X (eI2 X.K) := by
 intro value slice pins s σ H x y v u Q I rx ry h hs
 obtain ⟨p, xs, i, z, rfl, rfl, hq, he, q⟩ := h
 cases rx
 obtain ⟨t, rfl⟩ := ry
 obtain ⟨its, r, pl, hz⟩ := I.list hq
 obtain ⟨j, h1, h2, h3, h4, h5⟩ := bP3 he
 obtain ⟨w, ew, rw'⟩ := r.get h2
 have hl := r.length
 have hn := aX0
 have fin : EP X pins σ Q w s := ⟨z, H, I, rw', q⟩
 by_cases h0 : 0 ≤ i
 · have hj : i.toNat = j := by
    rw [seqIndex_of h0 h5] at h1
    exact Option.some.inj h1
   exact item_listR pl.isList h0 (by omega) (by rw [hj]; simpa using ew) fin hs
 · have hj : (i + (its.toArray.size : Int)).toNat = j := by
    rw [seqIndex_neg (by omega) h4] at h1
    rw [List.size_toArray, ← hl]
    exact Option.some.inj h1
   exact subscriptTail_builtinR (x := w) pl.isList.typeIs slot_list_getitem.lookup
    (wpAny_getItem_list_neg (Q := fun r s' => r = w ∧ EP X pins σ Q r s') pl.isList (by omega) (by rw [List.size_toArray] <;> omega) (by omega) (by rw [hj]; simpa using ew) ⟨rfl, fin⟩) hs
theorem ix_tup : IxR X (eH6 X.K) := by
 intro value slice pins s σ H x y v u Q I rx ry h hs
 obtain ⟨p, xs, i, z, rfl, rfl, hq, he, q⟩ := h
 cases rx
 obtain ⟨t, rfl⟩ := ry
 obtain ⟨its, r, pl, hz⟩ := I.tuple hq
 obtain ⟨j, h1, h2, h3, h4, h5⟩ := bP3 he
 obtain ⟨w, ew, rw'⟩ := r.get h2
 have hl := r.length
 have hn := aX0
 have fin : EP X pins σ Q w s := ⟨z, H, I, rw', q⟩
 exact subscriptTail_builtinR (x := w) pl.typeIs slot_tuple_getitem.lookup
  (getItem_tuple (j := j) (Q := fun r s' => r = w ∧ EP X pins σ Q r s') pl (by omega) (by omega) (by rw [List.size_toArray, ← hl]; exact h1) (by simpa using ew) ⟨rfl, fin⟩) hs
theorem ix_str : IxR X eI1 := by
 intro value slice pins s σ H x y v u Q I rx ry h hs
 obtain ⟨z, i, c, rfl, rfl, hz, he, q⟩ := h
 obtain ⟨t, rfl⟩ := rx
 obtain ⟨t', rfl⟩ := ry
 obtain ⟨j, h1, h2, h3, h4, h5⟩ := bP3 he
 have hl : z.cps.toList.length = z.length := by simp [Str.length]
 rw [hl] at h1 h4 h5
 have hn := aX0
 exact tail_any (typeIs_str s z t) slot_str_getitem.lookup (getItem_str (c := c) (by
  have e1 : decide (i < -(2 ^ 63 : Int)) = false := decide_eq_false (by omega)
  have e2 : decide (i ≥ 2 ^ 63) = false := decide_eq_false (by omega)
  rw [e1, e2, Bool.or_false]) (by rw [h1]; simpa using h2) ⟨.str ⟨#[c]⟩, H, I.tok _, ⟨_, rfl⟩, q⟩) hs
theorem cG9 (its : List Value) (n j : Nat) (u : Value) : Obj.mapSeq (·.setIfInBounds j u) { cls := .type "list", data := .seq its.toArray n } = { cls := .type "list", data := .seq (its.set j u).toArray n } := by
 simp [Obj.mapSeq]
theorem Inv.lst {pins : PNS} {σ : St} {H : Hp} {s : Shared} {p : Addr} {xs : List V} (I : Inv X pins σ H s) (h : H p = some (.lst xs)) :
 ∃ (its : List Value) (n : Nat), J7 xs its ∧ s.heap.get? p = some { cls := .type "list", data := .seq its.toArray n } ∧ xs.length ≤ sizeLine := by
 obtain ⟨z, its, n, r, e⟩ := I.hok p _ h
 exact ⟨its, n, r, e, z⟩
theorem Inv.lstUpd {pins : PNS} {σ : St} {H : Hp} {s : Shared} {p : Addr} {xs ys : List V} {its its' : List Value} {n n' : Nat} {f : Obj → Obj} (I : Inv X pins σ H s) (h : H p = some (.lst xs))
 (ho : s.heap.get? p = some { cls := .type "list", data := .seq its.toArray n }) (hf : f { cls := .type "list", data := .seq its.toArray n } = { cls := .type "list", data := .seq its'.toArray n' }) (r : J7 ys its') (hz : ys.length ≤ sizeLine) (t : Nat) :
 Inv X pins σ (upd H p (.lst ys)) { s with heap := s.heap.update p f, toks := t } := by
 have e : (s.heap.update p f).get? p = some { cls := .type "list", data := .seq its'.toArray n' } := by
  rw [Heap.get?_update_self f ho (by rw [hf] <;> rfl), hf]
 refine I.write (x := p) (e := p) (by rw [h]; trivial) (.inl rfl) (fun b u hb q => (Heap.get?_update_other _ _ (Ne.symm hb)).trans q) ⟨_, e⟩ ?_
 exact ⟨hz, its', n', r, e⟩
def dX7 : V → V → V → Hp → (Hp → Prop) → Prop := fun o i v H Q => ∃ p xs k j, o = .ref p ∧ i = .int k ∧ H p = some (.lst xs) ∧ ixN xs.length k = some j ∧ Q (upd H p (.lst (xs.set j v)))
theorem dB1 : dR6 X dX7 := by
 intro pins s σ H o i v ov iv u Q I ro ri rv h
 obtain ⟨p, xs, k, j, rfl, rfl, hp, hj, q⟩ := h
 cases ro
 obtain ⟨t, rfl⟩ := ri
 obtain ⟨its, n, r, ho, hz⟩ := I.lst hp
 obtain ⟨h1, h2, h3, h4⟩ := cM0 hj
 have hl := r.length
 have hn := aX0
 have I' : Inv X pins σ (upd H p (.lst (xs.set j v))) { s with heap := s.heap.update p (Obj.mapSeq (·.setIfInBounds j u)) } :=
  I.lstUpd hp ho (cG9 its n j u) (r.set rv j) (by rw [List.length_set]; exact hz) s.toks
 by_cases h0 : 0 ≤ k
 · have hk : k.toNat = j := by
    rw [seqIndex_of h0 h4] at h1
    exact Option.some.inj h1
   exact PySem.W.ki_setAt ho h0 (by omega) (by rw [List.size_toArray, ← hl]; exact h4) (by rw [hk]; exact ⟨_, I', q⟩)
 · have hk : (k + (its.toArray.size : Int)).toNat = j := by
    rw [seqIndex_neg (by omega) h3] at h1
    rw [List.size_toArray, ← hl]
    exact Option.some.inj h1
   exact PySem.W.ki_setBack ho (by omega) (by rw [List.size_toArray, ← hl]; exact h3) (by omega) (by rw [hk]; exact ⟨_, I', q⟩)
theorem bO9 (lo hi : Option Int) (n : Nat) : (sliceBounds lo hi none n).1 = ((HT.sIx n 0 lo : Nat) : Int) ∧ (sliceBounds lo hi none n).2.1 = ((HT.sIx n n hi : Nat) : Int) ∧ (sliceBounds lo hi none n).2.2 = 1 := by
 refine ⟨?_, ?_, rfl⟩
 · cases lo with
   | none => simp [sliceBounds, HT.sIx]
   | some i =>
     simp only [sliceBounds, HT.sIx, Option.getD_none, show (1 : Int) > 0 by decide, if_true]
     by_cases h : i < 0
     · simp only [h, if_true] <;> omega
     · simp only [h, if_false] <;> omega
 · cases hi with
   | none => simp [sliceBounds, HT.sIx]
   | some i =>
     simp only [sliceBounds, HT.sIx, Option.getD_none, show (1 : Int) > 0 by decide, if_true]
     by_cases h : i < 0
     · simp only [h, if_true] <;> omega
     · simp only [h, if_false] <;> omega
theorem bL3 (its : List Value) (lo hi : Option Int) : slicePick its.toArray lo hi none = ((its.drop (HT.sIx its.length 0 lo)).take (HT.sIx its.length its.length hi - HT.sIx its.length 0 lo)).toArray := by
 obtain ⟨h1, h2, h3⟩ := bO9 lo hi its.toArray.size
 unfold slicePick
 rw [h1, h2, h3]
 simp only [sliceRange_one, pick_run, List.size_toArray] <;> rfl
def eI7 (K : PySem.W.Frag) : V → Option Int → Option Int → Hp → VK → Prop := fun x lo hi H Q => ∃ a xs, x = .ref a ∧ SqL K H a xs ∧ ∀ p, H p = none → Q (.ref p) (upd H p (.lst (bK8 xs lo hi)))
theorem dC8 : SlR X (eI7 X.K) := by
 intro pins s σ H x v vl vu lo hi sl Q I rx hs pl pu h
 obtain ⟨a, xs, rfl, hx, q⟩ := h
 cases rx
 obtain ⟨its, r, ht, hz⟩ := I.list hx
 have hlen := r.length
 refine ⟨"list", _, slot_list_getitem.lookup, ht.isList.typeIs, ?_⟩
 refine wpAny_getItem_list_slice ht.isList hs pl pu .none (by simp) ?_ (by rw [List.size_toArray] <;> omega)
 rw [bL3, ← hlen]
 refine ⟨.ref s.heap.objs.size, _, I.laid (t' := s.toks) (o := .lst (bK8 xs lo hi)) (fun b ob q => Heap.get?_push_of_some _ q) (Nat.le_refl _) ?_, rfl, q _ (I.hok.fresh (Nat.le_refl _))⟩
 exact ⟨Nat.le_trans (bD1 xs lo hi) hz, _, 0, (r.drop (HT.sIx xs.length 0 lo)).take (HT.sIx xs.length xs.length hi - HT.sIx xs.length 0 lo), Heap.get?_push_size _ rfl⟩
noncomputable def aV0 : V → Bool
 | .non => true
 | .bl _ => true
 | .int _ => true
 | .str _ => true
 | _ => false
noncomputable def eqV : V → V → Bool
 | .non, .non => true
 | .bl a, .bl b => a == b
 | .bl a, .int b => (if a then 1 else 0) == b
 | .int a, .bl b => a == (if b then 1 else 0)
 | .int a, .int b => a == b
 | .str a, .str b => a == b
 | _, _ => false
theorem dQ1 {A : Around} {s : Shared} {y x : V} {u v : Value} (ry : J9 y u) (rx : J9 x v) (fy : aV0 y = true) (fx : aV0 x = true) : SeqAt.EqAt A s u v (eqV y x) := by
 cases y with
 | non =>
   cases ry
   cases x with
   | non => cases rx; exact SeqAt.EqAt.same _
   | bl b => cases rx; exact SeqAt.EqAt.none_bool b
   | int b => obtain ⟨t, rfl⟩ := rx; exact SeqAt.EqAt.none_int b t
   | str b => obtain ⟨t, rfl⟩ := rx; exact SeqAt.EqAt.none_str b t
   | _ => exact absurd (show false = true from fx) Bool.false_ne_true
 | bl a =>
   cases ry
   cases x with
   | non => cases rx; exact SeqAt.EqAt.bool_none a
   | bl b => cases rx; exact SeqAt.EqAt.bool_bool a b
   | int b => obtain ⟨t, rfl⟩ := rx; exact SeqAt.EqAt.bool_int a b t
   | str b => obtain ⟨t, rfl⟩ := rx; exact SeqAt.EqAt.bool_str a b t
   | _ => exact absurd (show false = true from fx) Bool.false_ne_true
 | int a =>
   obtain ⟨t', rfl⟩ := ry
   cases x with
   | non => cases rx; exact SeqAt.EqAt.int_none a t'
   | bl b => cases rx; exact SeqAt.EqAt.int_bool a t' b
   | int b => obtain ⟨t, rfl⟩ := rx; exact SeqAt.EqAt.int_int a t' b t
   | str b => obtain ⟨t, rfl⟩ := rx; exact SeqAt.EqAt.int_str a t' b t
   | _ => exact absurd (show false = true from fx) Bool.false_ne_true
 | str a =>
   obtain ⟨t', rfl⟩ := ry
   cases x with
   | non => cases rx; exact SeqAt.EqAt.str_none a t'
   | bl b => cases rx; exact SeqAt.EqAt.str_bool a t' b
   | int b => obtain ⟨t, rfl⟩ := rx; exact SeqAt.EqAt.str_int a t' b t
   | str b => obtain ⟨t, rfl⟩ := rx; exact SeqAt.EqAt.str_str a t' b t
   | _ => exact absurd (show false = true from fx) Bool.false_ne_true
 | _ => exact absurd (show false = true from fy) Bool.false_ne_true
def eqU (x : V) (u : Value) : Bool := match u with
 | .none => eqV .non x
 | .bool b => eqV (.bl b) x
 | .int i _ => eqV (.int i) x
 | .str z _ => eqV (.str z) x
 | _ => false
theorem cV3 {x y : V} {u : Value} (r : J9 y u) (f : aV0 y = true) : eqU x u = eqV y x := by
 cases y with
 | non => cases r; rfl
 | bl b => cases r; rfl
 | int i => obtain ⟨t, rfl⟩ := r; rfl
 | str z => obtain ⟨t, rfl⟩ := r; rfl
 | _ => exact absurd (show false = true from f) Bool.false_ne_true
theorem bE6 {x : V} {xs : List V} {us : List Value} (h : J7 xs us) (f : xs.all aV0 = true) : us.any (eqU x) = xs.any fun y => eqV y x := by
 induction h with
 | nil => rfl
 | cons r t ih =>
   rw [List.all_cons, Bool.and_eq_true] at f
   rw [List.any_cons, List.any_cons, cV3 r f.1, ih f.2]
theorem aR3 {A : Around} {s : Shared} {x : V} {v : Value} (rx : J9 x v) (fx : aV0 x = true) : ∀ {xs : List V} {us : List Value}, J7 xs us → xs.all aV0 = true → ∀ u ∈ us, SeqAt.EqAt A s u v (eqU x u)
 | _, _, .nil, _ => fun u hu => by cases hu
 | y :: xs, u :: us, .cons r t, f => fun u' hu => by
   rw [List.all_cons, Bool.and_eq_true] at f
   rcases List.mem_cons.mp hu with rfl | hu
   · rw [cV3 r f.1]; exact dQ1 r rx f.1 fx
   · exact aR3 rx fx t f.2 u' hu
def inV (x : V) (xs : List V) : Bool := xs.any fun y => eqV y x
def rIn (K : PySem.W.Frag) (neg : Bool) : R2 := fun x y H Q => ∃ p xs, y = .ref p ∧ (SqL K H p xs ∨ SqT K H p xs) ∧ aV0 x = true ∧ xs.all aV0 = true ∧ Q (.bl (if neg then !inV x xs else inV x xs)) H
theorem cN4 : OpR X (compareOp .In) (rIn X.K false) := by
 intro pins s σ H x y v u Q I rx ry h
 obtain ⟨p, xs, rfl, hq, fx, fs, q⟩ := h
 cases ry
 rcases hq with hq | hq
 · obtain ⟨its, r, pl, hz⟩ := I.list hq
   refine SeqAt.in_listAt (eqU x) pl.isList (fun w hw => aR3 rx fx r fs w (by simpa using hw)) ⟨.bl _, H, I, rfl, ?_⟩
   rw [show its.toArray.any (eqU x) = its.any (eqU x) by simp, bE6 r fs]
   exact q
 · obtain ⟨its, r, pl, hz⟩ := I.tuple hq
   refine SeqAt.in_tupleAt (eqU x) pl (fun w hw => aR3 rx fx r fs w (by simpa using hw)) ⟨.bl _, H, I, rfl, ?_⟩
   rw [show its.toArray.any (eqU x) = its.any (eqU x) by simp, bE6 r fs]
   exact q
theorem bR2 : OpR X (compareOp .NotIn) (rIn X.K true) := by
 intro pins s σ H x y v u Q I rx ry h
 obtain ⟨p, xs, rfl, hq, fx, fs, q⟩ := h
 cases ry
 rcases hq with hq | hq
 · obtain ⟨its, r, pl, hz⟩ := I.list hq
   refine SeqAt.notIn_listAt (eqU x) pl.isList (fun w hw => aR3 rx fx r fs w (by simpa using hw)) ⟨.bl _, H, I, rfl, ?_⟩
   rw [show its.toArray.any (eqU x) = its.any (eqU x) by simp, bE6 r fs]
   exact q
 · obtain ⟨its, r, pl, hz⟩ := I.tuple hq
   refine SeqAt.notIn_tupleAt (eqU x) pl (fun w hw => aR3 rx fx r fs w (by simpa using hw)) ⟨.bl _, H, I, rfl, ?_⟩
   rw [show its.toArray.any (eqU x) = its.any (eqU x) by simp, bE6 r fs]
   exact q
theorem bS1 : OpR X (compareOp .NotIn) (fun x y H Q => ∃ i j, x = .str i ∧ y = .str j ∧ Q (.bl (!(!(Builtin.Str.occurrences j i 0 j.length 1).isEmpty))) H) := by
 intro pins s σ H x y v u Q I rx ry h
 obtain ⟨i, j, rfl, rfl, q⟩ := h
 obtain ⟨t, rfl⟩ := rx
 obtain ⟨t', rfl⟩ := ry
 exact notIn_str ⟨.bl _, H, I, rfl, q⟩
theorem bP5 : aC1 X (.builtin "len") (fun xs H Q => ∃ p ys, xs = [.ref p] ∧ (SqL X.K H p ys ∨ SqT X.K H p ys) ∧ Q (.int ys.length) H) := by
 intro pins s σ H xs us Q I r h
 obtain ⟨p, ys, rfl, hq, q⟩ := h
 obtain ⟨u, rfl, rx⟩ := aE3 r
 cases rx
 have hn := aX0
 rcases hq with hq | hq
 · obtain ⟨its, r', pl, hz⟩ := I.list hq
   have hlen := r'.length
   exact Calls.call_len_list pl.isList (by simp only [List.size_toArray] <;> omega) ⟨.int ys.length, H, I.tok _, ⟨s.toks + 1, by rw [List.size_toArray, hlen]⟩, q⟩
 · obtain ⟨its, r', pl, hz⟩ := I.tuple hq
   have hlen := r'.length
   exact len_tuple pl (by simp only [List.size_toArray] <;> omega) ⟨.int ys.length, H, I.tok _, ⟨s.toks + 1, by rw [List.size_toArray, hlen]⟩, q⟩
theorem bP8 : aC1 X (.builtin "len") (fun xs H Q => ∃ z, xs = [.str z] ∧ z.length ≤ sizeLine ∧ Q (.int z.length) H) := by
 intro pins s σ H xs us Q I r h
 obtain ⟨z, rfl, hz, q⟩ := h
 obtain ⟨u, rfl, t, rfl⟩ := aE3 r
 have hn := aX0
 exact len_str (by omega) ⟨.int z.length, H, I.tok _, ⟨_, rfl⟩, q⟩
theorem aC1.or {f : Value} {r r' : List V → Hp → VK → Prop} (h : aC1 X f r) (h' : aC1 X f r') : aC1 X f (fun xs H Q => r xs H Q ∨ r' xs H Q) := by
 intro pins s σ H xs us Q I rs q
 rcases q with q | q
 · exact h pins s σ H xs us Q I rs q
 · exact h' pins s σ H xs us Q I rs q
theorem bQ8 : aC1 X (.type "list") (fun xs H Q => ∃ p ys, xs = [.ref p] ∧ (SqL X.K H p ys ∨ SqT X.K H p ys) ∧ ∀ l, H l = none → Q (.ref l) (upd H l (.lst ys))) := by
 intro pins s σ H xs us Q I r h
 obtain ⟨p, ys, rfl, hq, q⟩ := h
 obtain ⟨u, rfl, rx⟩ := aE3 r
 cases rx
 have fin : ∀ (its : List Value), J7 ys its → ys.length ≤ sizeLine → ∀ (h' : Heap) (c' : Nat), (∀ b o', s.heap.get? b = some o' → h'.get? b = some o') →
  h'.get? s.heap.objs.size = some { cls := .type "list", dict := none, data := .seq its.toArray c', slots := #[] } → EP X pins σ Q (.ref s.heap.objs.size) { s with heap := h' } := fun its r' hz h' c' kp e =>
  ⟨.ref s.heap.objs.size, _, I.laid (t' := s.toks) kp (Nat.le_refl _) (show W6 X.prog X.w _ h' _ (.lst ys) from ⟨hz, its, c', r', e⟩), rfl, q _ (I.hok.fresh (Nat.le_refl _))⟩
 rcases hq with hq | hq
 · obtain ⟨its, r', pl, hz⟩ := I.list hq
   have hlen := r'.length
   obtain ⟨o, ho, hc, n, hd⟩ := pl.isList
   exact call_list_seq p (.inl rfl) ho hc hd (fun h' c' kp e => fin its r' hz h' c' kp e) (by simp only [List.size_toArray] <;> omega)
 · obtain ⟨its, r', pl, hz⟩ := I.tuple hq
   have hlen := r'.length
   obtain ⟨o, ho, hc, n, hd⟩ := pl
   exact call_list_seq p (.inr rfl) ho hc hd (fun h' c' kp e => fin its r' hz h' c' kp e) (by simp only [List.size_toArray] <;> omega)
theorem bL2 : aC1 X (.type "tuple") (fun xs H Q => ∃ p ys, xs = [.ref p] ∧ ((SqL X.K H p ys ∧ ∀ l, H l = none → Q (.ref l) (upd H l (.tup ys))) ∨ (SqT X.K H p ys ∧ Q (.ref p) H))) := by
 intro pins s σ H xs us Q I r h
 obtain ⟨p, ys, rfl, h⟩ := h
 obtain ⟨u, rfl, rx⟩ := aE3 r
 cases rx
 rcases h with ⟨hq, q⟩ | ⟨hq, q⟩
 · obtain ⟨its, r', pl, hz⟩ := I.list hq
   have hlen := r'.length
   refine call_tuple_list pl.isList (fun h' kp => ?_) (by simp only [List.size_toArray] <;> omega)
   have I1 : Inv X pins σ H { s with heap := h' } := I.kept (t' := s.toks) kp
   have I2 : Inv X pins σ (upd H h'.objs.size (.tup ys)) { s with heap := h'.push { cls := .type "tuple", data := .seq its.toArray } } :=
    I1.laid (t' := s.toks) (fun b o e => Heap.get?_push_of_some _ e) (Nat.le_refl _) (show W6 X.prog X.w _ _ _ (.tup ys) from ⟨hz, its, r', aC7.new _ _⟩)
   exact ⟨.ref h'.objs.size, _, I2, rfl, q _ (I1.hok.fresh (Nat.le_refl _))⟩
 · obtain ⟨its, r', pl, hz⟩ := I.tuple hq
   exact call_tuple_same pl ⟨.ref p, H, I, rfl, q⟩
def tyV (K : PySem.W.Frag) (T : String) (x : V) (H : Hp) : Prop := match x with
 | .str _ => T = "str"
 | .int _ => T = "int"
 | .ref p => (T = "list" ∧ ∃ xs, SqL K H p xs) ∨ (T = "tuple" ∧ ∃ o, K.lookup p = some o ∧ o.cls = .type "tuple" ∧ o.dict = none) ∨
    (T = "dict" ∧ ((∃ kvs, H p = some (.dK kvs)) ∨ ∃ kvs, H p = some (.dT kvs))) ∨ (T = "set" ∧ ∃ S n, H p = some (.set S n))
 | _ => False
theorem dP5 {pins : PNS} {σ : St} {H : Hp} {s : Shared} {T : String} {x : V} {v : Value} (I : Inv X pins σ H s) (r : J9 x v) (ty : tyV X.K T x H) :
 s.TypeIs v T ∧ ∀ a, v = .ref a → ∃ ob, s.heap.get? a = some ob ∧ ob.dict = none := by
 cases x with
 | str z =>
   obtain ⟨t, rfl⟩ := r
   cases (show T = "str" from ty)
   exact ⟨typeIs_str s z t, fun _ e => nomatch e⟩
 | int i =>
   obtain ⟨t, rfl⟩ := r
   cases (show T = "int" from ty)
   exact ⟨typeIs_int s i t, fun _ e => nomatch e⟩
 | ref p =>
   cases r
   rcases ty with ⟨rfl, xs, hq⟩ | ⟨rfl, o, hk, hc, hd⟩ | ⟨rfl, hk⟩ | ⟨rfl, S, n, hk⟩
   · obtain ⟨its, _, pl, _⟩ := I.list hq
     refine ⟨pl.isList.typeIs, fun a e => ?_⟩
     cases e
     obtain ⟨o, n, e, c, hd, _⟩ := pl
     exact ⟨o, e, hd⟩
   · refine ⟨⟨o, I.kIn p o hk, hc⟩, fun a e => ?_⟩
     cases e
     exact ⟨o, I.kIn _ o hk, hd⟩
   · have z : ∃ o, s.heap.get? p = some o ∧ o.ExactDict := by
      rcases hk with ⟨kvs, hk⟩ | ⟨kvs, hk⟩
      · obtain ⟨_, _, _, _, o, _, _, e, ex, _⟩ := I.hok p _ hk
        exact ⟨o, e, ex⟩
      · obtain ⟨_, _, _, _, o, _, _, e, ex, _⟩ := I.hok p _ hk
        exact ⟨o, e, ex⟩
     obtain ⟨o, e, ex⟩ := z
     refine ⟨⟨o, e, ex.1⟩, fun a e2 => ?_⟩
     cases e2
     exact ⟨o, e, ex.2.1⟩
   · obtain ⟨o, _, _, _, e, ex, _⟩ := I.hok p _ hk
     refine ⟨⟨o, e, ex.1⟩, fun a e2 => ?_⟩
     cases e2
     exact ⟨o, e, ex.2.1⟩
 | _ => exact False.elim ty
def tBM (K : PySem.W.Frag) (T : String) (r : V → List V → Hp → VK → Prop) (to : TE) (t : TA) : TE := fun σ H Q => to σ H fun x H1 => tyV K T x H1 ∧ t σ H1 fun xs H2 => r x xs H2 Q
variable {o e : Expr} {es : List Expr} {to : TE} {t : TA} {name : Str} {apos cpos : Pos} {T id : String} {r : V → List V → Hp → VK → Prop}
theorem dM3 (pa : PlainAttrs T) (slot : Slot T name id) (hty : typeOf (.builtin id) = pure (.type "method_descriptor")) (hm : MtR X id r) (ho : PE X o to) (ha : PA X (e :: es) t)
 (hbase : attributeBase o name X.env (eval o X.env) = eval o X.env)
 (hfew : ((backTo cpos (starEach (e :: es) X.env)).all (fun x => !x.1) && (backToKw cpos (keywordEach [] X.env)).all (fun x => x.1.isSome)
   && decide ((e :: es).length + ([] : List Keyword).length + (if ([] : List Keyword).isEmpty then 0 else 1) < 30)) = true)
 (hline : (apos.endLine == cpos.line) = true) (hs : starEach (e :: es) X.env = (false, eval e X.env) :: starEach es X.env) (hplain : (backTo cpos (starEach es X.env)).any (·.1) = false) :
 PE X (.Call (.Attribute o name apos) (e :: es) [] cpos) (tBM X.K T r to t) := by
 intro pins s σ H Q I h
 refine wpAny_Call_method_late hbase hfew hline rfl (thn (ho pins s σ H _ I h) fun v s1 ⟨x, H1, I1, r1, ty, q1⟩ => ?_)
 obtain ⟨h1, h2⟩ := dP5 I1 r1 ty
 refine ⟨T, id, pa, slot, hty, h1, h2, ?_⟩
 have hA := ha cpos pins s1 σ H1 _ I1 q1
 rw [hs] at hA ⊢
 refine Calls.callWith_builtin (by show (false || (backTo cpos (starEach es X.env)).any (·.1)) = false; rw [hplain] <;> rfl) (Calls.evalArgs_plain ?_)
 exact thn hA fun us s2 ⟨vs, H2, I2, r2, q2⟩ => hm pins s2 σ H2 x vs v us Q I2 r1 r2 q2
end
def MtM (X : Cx) (id : String) (r : V → List V → Hp → VK → Prop) : Prop :=
 ∀ (pins : PNS) (s : Shared) (σ : St) (H : Hp) (x : V) (xs : List V) (v : Value) (us : List Value) (Q : VK), Inv X pins σ H s → J9 x v → J7 xs us → r x xs H Q →
  wpAny (model X.prog X.w) X.A (call (.builtin id) (v :: us)) (EP X pins σ Q) X.xe s
theorem J7.one {x : V} {us : List Value} (h : J7 [x] us) : ∃ u, us = [u] ∧ J9 x u := by
 cases h with
 | cons r t => cases t; exact ⟨_, rfl, r⟩
theorem J7.reverse {xs : List V} {us : List Value} (h : J7 xs us) : J7 xs.reverse us.reverse := by
 induction h with
 | nil => exact .nil
 | cons r t ih => rw [List.reverse_cons, List.reverse_cons]; exact J7.append ih (.cons r .nil)
theorem J7.rep {xs : List V} {us : List Value} (h : J7 xs us) : ∀ k : Nat, J7 (List.replicate k xs).flatten (List.replicate k us).flatten
 | 0 => .nil
 | k + 1 => by
   rw [List.replicate_succ, List.replicate_succ, List.flatten_cons, List.flatten_cons]
   exact J7.append h (J7.rep h k)
theorem bA5 (its : List Value) : ∀ (k : Nat) (acc : List Value),
 List.foldl (fun x1 x2 => x1 ++ x2) acc.toArray (List.replicate k its.toArray) = (acc ++ (List.replicate k its).flatten).toArray
 | 0, acc => by simp
 | k + 1, acc => by
   have e : acc.toArray ++ its.toArray = (acc ++ its).toArray := by simp
   have e2 : (acc ++ its) ++ (List.replicate k its).flatten = acc ++ (List.replicate (k + 1) its).flatten := by
    rw [List.replicate_succ, List.flatten_cons, List.append_assoc]
   rw [← e2, ← bA5 its k (acc ++ its), ← e, List.replicate_succ, List.foldl_cons]
section
variable {X : Cx} {pins : PNS} {σ : St} {H : Hp} {s : Shared} {l b : Addr} {xs ys zs : List V}
theorem Inv.lset {its its' : List Value} {n : Nat} {f : Array Value → Array Value} {t' : Nat} (I : Inv X pins σ H s) (hH : H l = some (.lst xs))
 (e : s.heap.get? l = some { cls := .type "list", data := .seq its.toArray n }) (hf : f its.toArray = its'.toArray) (hv : J7 ys its') (hz : ys.length ≤ sizeLine) :
 Inv X pins σ (upd H l (.lst ys)) { s with heap := s.heap.update l (Obj.mapSeq f), toks := t' } := by
 have q := PySem.IsL.update e f
 rw [hf] at q
 refine I.write (x := l) (e := l) (by rw [hH]; exact trivial) (.inl rfl) (fun b' u hb hu => (Heap.get?_update_other s.heap (Obj.mapSeq f) (Ne.symm hb)).trans hu) ⟨_, q⟩ ?_
 exact ⟨hz, its', _, hv, q⟩
theorem Inv.lnew {its : List Value} {t' : Nat} (I : Inv X pins σ H s) (hv : J7 ys its) (hz : ys.length ≤ sizeLine) :
 Inv X pins σ (upd H s.heap.objs.size (.lst ys)) { s with heap := s.heap.push { cls := .type "list", data := .seq its.toArray }, toks := t' } :=
 I.laid (fun _ _ q => Heap.get?_push_of_some _ q) (Nat.le_refl _) ⟨hz, its, 0, hv, Heap.get?_push_size _ rfl⟩
theorem Inv.fresh (I : Inv X pins σ H s) : H s.heap.objs.size = none := I.hok.fresh (Nat.le_refl _)
theorem Inv.lstM (I : Inv X pins σ H s) (hH : H l = some (.lst xs)) : xs.length ≤ sizeLine ∧ ∃ (its : List Value) (n : Nat), J7 xs its ∧ xs.length = its.length ∧ s.heap.get? l = some { cls := .type "list", data := .seq its.toArray n } := by
 obtain ⟨z, its, n, r, e⟩ := I.hok l _ hH
 exact ⟨z, its, n, r, r.length, e⟩
theorem dA8 {n : Nat} (h : n ≤ sizeLine) : Builtin.List.listTooLong n = false := by
 unfold Builtin.List.listTooLong
 exact decide_eq_false (by omega)
end
section
variable {X : Cx}
def dJ6 : V → List V → Hp → VK → Prop := fun x vs H Q => ∃ l xs y, x = .ref l ∧ vs = [y] ∧ H l = some (.lst xs) ∧ xs.length < sizeLine ∧ Q .non (upd H l (.lst (xs ++ [y])))
theorem bO0 : MtM X "list.append" dJ6 := by
 intro pins s σ H x vs v us Q I rx rv h
 obtain ⟨l, xs, y, rfl, rfl, hH, hz, q⟩ := h
 cases rx
 obtain ⟨u, rfl, ru⟩ := rv.one
 obtain ⟨z, its, n, r, hl, e⟩ := I.lstM hH
 refine call_meets F.slot_list_append ⟨_, e, rfl⟩ F.entry_list_append (F.args_list_append_2 _ _) (PySem.list_append l its.toArray n u (by rw [List.size_toArray]; omega)) ⟨e, ?_⟩
 refine ⟨.non, _, I.lset (its' := its ++ [u]) hH e (by simp) (r.append (.cons ru .nil)) ?_, rfl, q⟩
 rw [List.length_append, List.length_singleton]
 omega
def eH9 : R2 := fun x y H Q => ∃ l b xs zs, x = .ref l ∧ y = .ref b ∧ H l = some (.lst xs) ∧ H b = some (.lst zs) ∧ xs.length + zs.length ≤ sizeLine ∧ ∀ p, H p = none → Q (.ref p) (upd H p (.lst (xs ++ zs)))
theorem dQ0 : OpR X (binaryOp .Add) eH9 := by
 intro pins s σ H x y v u Q I rx ry h
 obtain ⟨l, b, xs, zs, rfl, rfl, hH, hB, hz, q⟩ := h
 cases rx
 cases ry
 obtain ⟨z, its, n, r, hl, e⟩ := I.lstM hH
 obtain ⟨z2, its2, n2, r2, hl2, e2⟩ := I.lstM hB
 refine PySem.P.add_list e e2 ?_ (by rw [List.size_toArray, List.size_toArray]; omega)
 have ea : its.toArray ++ its2.toArray = (its ++ its2).toArray := by simp
 rw [ea]
 exact ⟨.ref _, _, I.lnew (t' := s.toks) (r.append r2) (by rw [List.length_append]; omega), rfl, q _ I.fresh⟩
def eK1 : R2 := fun x y H Q => ∃ l k xs, x = .ref l ∧ y = .int k ∧ H l = some (.lst xs) ∧ -(2 ^ 63) ≤ k ∧ k < 2 ^ 63 ∧ xs.length * k.toNat ≤ sizeLine ∧
 ∀ p, H p = none → Q (.ref p) (upd H p (.lst (List.replicate k.toNat xs).flatten))
theorem cK1 {α : Type} (xs : List α) (k : Nat) : (List.replicate k xs).flatten.length = k * xs.length := by
 induction k with
 | zero => simp
 | succ k ih => rw [List.replicate_succ, List.flatten_cons, List.length_append, ih, Nat.succ_mul, Nat.add_comm]
theorem dT5 : OpR X (binaryOp .Mult) eK1 := by
 intro pins s σ H x y v u Q I rx ry h
 obtain ⟨l, k, xs, rfl, rfl, hH, h1, h2, hz, q⟩ := h
 cases rx
 obtain ⟨t, rfl⟩ := ry
 obtain ⟨z, its, n, r, hl, e⟩ := I.lstM hH
 have hlen : its.toArray.size * k.toNat ≤ sizeLine := by rw [List.size_toArray, ← hl]; exact hz
 have hcap : ¬ its.toArray.size * k.toNat > (2 ^ 63 - 1) / 8 := by
  have : (sizeLine : Nat) ≤ (2 ^ 63 - 1) / 8 := by decide
  omega
 have hfit : ¬ (!Builtin.List.listFitsIndex k) = true := by
  rw [fitsIndex_both h1 h2]
  exact Bool.false_ne_true
 have hlong : ¬ Builtin.List.listTooLong (its.toArray.size * k.toNat) = true := by
  rw [dA8 hlen]
  exact Bool.false_ne_true
 have hnew : List.foldl (fun x1 x2 => x1 ++ x2) #[] (List.replicate (if its.toArray.isEmpty = true then 0 else k.toNat) its.toArray) = (List.replicate k.toNat its).flatten.toArray := by
  have f0 : ∀ m : Nat, List.foldl (fun x1 x2 => x1 ++ x2) #[] (List.replicate m its.toArray) = (List.replicate m its).flatten.toArray := fun m => by
   have := bA5 its m []
   rw [List.nil_append] at this
   exact this
  rw [f0]
  cases its with
  | nil => simp
  | cons a r' => rw [if_neg (by simp)]
 refine wpAny_binaryOp_repeat_ref (T := "list") (U := "int") (by decide) ⟨_, e, rfl⟩ (fun s' => typeIs_int s' k t) noFill_list_mul F.fills_int_mul F.slot_int_rmul repeat_list F.slot_int_index.lookup
  (call_meets F.slot_int_rmul (typeIs_int s k t) F.entry_int_rmul (F.args_int_rmul_2 _ _) (int___rmul___int_list k t l its.toArray n)
    ⟨e, rfl, ⟨_, e, rfl⟩, call_meets F.slot_list_mul ⟨_, e, rfl⟩ F.entry_list_mul (F.args_list_mul_2 _ _) (AutoListH.list___mul___list_int_3 l its.toArray n k t hfit hcap hlong) ⟨e, ?_⟩⟩)
 rw [hnew]
 exact ⟨.ref _, _, I.lnew (t' := s.toks) (r.rep k.toNat) (by rw [cK1, Nat.mul_comm]; exact hz), rfl, q _ I.fresh⟩
end
section
variable {prog : Program} {w : World} {A : Around} {E : VSP} {s : Shared}
end
section
variable {X : Cx}
end
end L2
namespace Att
open PySem PySem.W PySem.Calls PyProof.Rows
theorem bE2 {P : Params} {h : Heap} : ∀ (ns : List Int) (vs : List Value), WellAll P h vs (ns.map WData.int) → IntsAre vs ns := by
 intro ns
 induction ns with
 | nil =>
   intro vs w
   rw [List.map_nil] at w
   cases w
   exact .nil
 | cons n ns ih =>
   intro vs w
   rw [List.map_cons] at w
   cases w with
   | cons a b =>
     cases a
     exact .cons _ _ (ih _ b)
theorem cN5 {l : OpenLaw} {n : Nat} (hn : l.most = some n) {P : Params} {h : Heap} {args : List WData} {vals : List Value}
 (hpre : l.row.toRowW.claim.pre args = true) (hwl : WellAll P h vals args) :
 ∃ a vs ns, vals = [Value.ref a] ∧ args = [WData.list (ns.map WData.int)] ∧ h.get? a = some { cls := .type "list", data := .seq vs.toArray } ∧ IntsAre vs ns ∧ ns.length ≤ n := by
 have hsh : WShape.hasAll [] args [.list .int] = true := (pre_splitW hpre).1
 have hc : l.pre.holds [] { args := args } = true := (pre_splitW hpre).2
 obtain ⟨d, r, rfl, h1, h2⟩ := hasAllW_cons hsh
 obtain rfl := hasAllW_nil h2
 obtain ⟨xs, rfl, h3⟩ := hasW_list h1
 obtain ⟨ns, rfl⟩ := items_int h3
 have hlen : ns.length ≤ n := by
  unfold OpenLaw.pre at hc
  have h4 : (WTm.not (.lt (.lit (.int (n : Int))) (.len (.arg 0)))).holds [] { args := [.list (ns.map .int)] } = true := by
   have h4 := (holds_andW hc).1
   rw [hn] at h4
   exact h4
  have h5 := condW_of h4 (w_not (w_lt w_lit (w_len_list (w_arg rfl))))
  rw [List.length_map] at h5
  refine Nat.le_of_not_lt fun q => ?_
  have q' : (n : Int) < ((ns.length : Nat) : Int) := by omega
  first
   | (rw [decide_eq_true q'] at h5; exact absurd h5 (by decide))
   | (simp at h5; omega)
 cases hwl with
 | cons w1 w2 =>
   cases w2
   cases w1 with
   | list ho hall => exact ⟨_, _, ns, rfl, rfl, ho, bE2 ns _ hall, hlen⟩
theorem cR3 (l : OpenLaw) (args : List WData) : l.row.toRowW.claim.post args (.bool true) args = true :=
 postW_of (r := l.row.toRowW) (X := (true == true))
  (show WShape.has [] (.bool true) .bool = true by first | rfl | decide | simp [WShape.has, WShape.arms, WShape.armsAll])
  (show (WTm.eq .res (.lit (.bool true))).value [] { args := args, res := some (.bool true), after := args } = some (.bool (true == true)) from w_eq_bool (w_res rfl) w_lit) rfl
theorem attach_call {l : OpenLaw} {n : Nat} {q : Program} {loose : List Str} {XP : (Str → Option Value) → Heap → Prop} {YP : World → Heap → Prop} {d : DefRec}
 (hn : l.most = some n) (hdf : d.params.defaults = [])
 (call : ∀ (w : World) (s₀ s₁ : Shared) (mg mb : Str → Option Value) (fa : Addr) (o : Obj) (pm cd doc : Value) (a : Addr) (vs : List Value) (ns : List Int),
   Ground q loose [] XP w s₀ mg mb s₁.heap → YP w s₁.heap →
   s₁.heap.get? fa = some o → o.data = .func (docDef d.name d.params d.body d.scope pm cd doc) → s₁.heap.CodeRec cd d.name → mg d.name = some (.ref fa) →
   s₁.heap.get? a = some { cls := .type "list", data := .seq vs.toArray } → IntsAre vs ns → ns.length ≤ n → s₁.gens = #[] →
   codeAny (model l.prog w) callerA (.call (.ref fa) ⟨[.ref a], []⟩) (fun r s' => r = .ok (.ret (.bool true)) ∧ OldK s₁.heap s'.heap ∧ s'.os = s₁.os ∧ AllBare s'.gens) s₁) :
 WalkO q loose XP YP l.row.toRowW d [] (fun f vs => PySem.call f vs) := by
 intro w s₀ s₁ mg mb G Y fa o pm cd doc dV kV ho hd hcd hD hmg hg args vals as hpre hlay hrd hwl hlo
 obtain rfl : dV = .none := Dflts.none hD hdf
 obtain rfl : kV = .none := Dflts.noKw hD
 obtain ⟨a, vs, ns, rfl, rfl, hobj, hints, hlen⟩ := cN5 hn hpre hwl
 refine enter_call (codeAny_mono (call w s₀ s₁ mg mb fa o pm cd doc a vs ns G Y ho (fd_plain hd) hcd hmg hobj hints hlen hg) fun r s' hq => ?_)
 obtain ⟨rfl, h2, h3, h4⟩ := hq
 exact ⟨.inl ⟨.bool true, .bool true, [], rfl, fun _ => rfl, .bool true, cR3 l _, fun _ => ⟨List.Pairwise.nil, fun _ hm => (nomatch hm)⟩⟩, h2, h3, h4⟩
section
variable {prog : Program} {w : World} {A : Around} {E : VSP} {s : Shared} {K : Frag}
end
end Att
namespace L2
open PySem PySem.Spec PyProof.Rows
theorem bN9 : ∀ {vs : List Value} {ns : List Int}, IntsAre vs ns → J7 (ns.map V.int) vs
 | _, _, .nil => .nil
 | _, _, .cons n t h => .cons ⟨t, rfl⟩ (bN9 h)
noncomputable def dI3 (H : Hp) : Prop := ∀ b, H b = none ∨ ∃ o xs, H b = some (.frz o (.lst xs))
theorem cU0 {P : Program} {w : World} {K : PySem.W.Frag} {mg mb : Str → Option Value} {CX : CXT} {k : Nat} {fa a : Addr} {fd : FuncData} {x : Str} {sp : Sp} {s₁ : Shared} {vs : List Value} {ns : List Int}
 (KX : K.In s₁.heap) (hns : s₁.heap.Ns mainGlobals mg) (hb : s₁.heap.Ns builtinsNs mb) (hbb : ∀ x : Str, x ≠ "__name__" → mb x = bootBuiltins x) (hlim : s₁.heap.NoLimit) (hg : s₁.gens = #[])
 (ha : s₁.heap.get? a = some { cls := .type "list", data := .seq vs.toArray }) (hi : IntsAre vs ns) (hl : ns.length ≤ sizeLine) (hr : aK1 k callerA)
 (F : ∀ base : Heap, K.In base → base.Ns mainGlobals mg → M8 P w K mg base CX k fa fd [x] sp) (hbind : ∀ (s : Shared) (u : Value), BindsTo s fd ⟨[u], []⟩ [(x, u)])
 (hsp : ∀ H : Hp, dI3 H → SqL K H a (ns.map V.int) → sp [.ref a] H (fun v _ => v = .bl true) fun _ _ _ => False)
 (hCX : ∀ H e s', CX [] H s₁ (fun _ _ _ => False) e s' → False) :
 codeAny (model P w) callerA (.call (.ref fa) ⟨[.ref a], []⟩) (fun r s' => r = .ok (.ret (.bool true)) ∧ OldK s₁.heap s'.heap ∧ s'.os = s₁.os ∧ AllBare s'.gens) s₁ := by
 have rv := bN9 hi
 have lenV := hi.length
 -- from an abstract heap in which nothing but the script may be tracked
 have core : ∀ H : Hp, dI3 H → SqL K H a (ns.map V.int) → HOk P w H s₁.heap → (∀ b, H b ≠ none → b = a) → (H a ≠ none → K.lookup a = none) →
  codeAny (model P w) callerA (.call (.ref fa) ⟨[.ref a], []⟩) (fun r s' => r = .ok (.ret (.bool true)) ∧ OldK s₁.heap s'.heap ∧ s'.os = s₁.os ∧ AllBare s'.gens) s₁ := by
  intro H hO hS hok hA hK
  have base_of : ∀ {b : Addr} {o : Obj}, s₁.heap.get? b = some o → H b = none → (bR6 s₁.heap H).get? b = some o := fun e n => dB9 e n
  have noA : ∀ {b : Addr} {o : Obj} {es : Array DictEntry} {ep : Nat}, s₁.heap.get? b = some o → o.data = .dict es ep → H b = none := fun {b o es ep} e d => by
   cases q : H b with
   | none => rfl
   | some u =>
     have e' : b = a := hA b (by rw [q]; simp)
     subst e'
     rw [ha] at e; cases e
     have d' : Data.seq vs.toArray _ = Data.dict es ep := d
     cases d'
  have nsK : ∀ {b : Addr} {m : Str → Option Value}, s₁.heap.Ns b m → (bR6 s₁.heap H).Ns b m := fun {b m} ⟨o, es, ep, e, d, r⟩ => ⟨o, es, ep, base_of e (noA e d), d, r⟩
  have hKb : K.In (bR6 s₁.heap H) := fun b o e => base_of (KX b o e) (by
   cases q : H b with
   | none => rfl
   | some u =>
     have e' : b = a := hA b (by rw [q]; simp)
     subst e'
     rw [hK (by rw [q]; simp)] at e; cases e)
  have hM : Mod K mg (bR6 s₁.heap H) := ⟨hKb, nsK hns, ⟨mb, nsK hb, hbb⟩, let ⟨mc, h1, h2⟩ := hlim; ⟨mc, nsK h1, h2⟩⟩
  have e0 : dF9 P w K mg (bR6 s₁.heap H) callerA [] s₁ H := ⟨rfl, hM, fun b o e => dJ1 e, Nat.le_of_eq (cR1 _ _), trivial, fun b hb => absurd (show b ∈ ([] : List Addr) from hb) (by simp), hok, .of_eq hg⟩
  refine codeAny_mono ((F _ hKb (nsK hns)).run callerA [] s₁ H ⟨[.ref a], []⟩ [.ref a] [.ref a] _ _ hr e0 (hbind s₁ (.ref a)) (.cons rfl .nil) (hsp H hO hS)) fun r s' h => ?_
  cases r with
  | error e => exact (hCX H e s' h).elim
  | ok fl =>
    cases fl with
    | next => exact False.elim h
    | brk => exact False.elim h
    | cont => exact False.elim h
    | ret u =>
      obtain ⟨v, H', os, bare, un, hok', r', q⟩ := h
      have q' : v = .bl true := q
      subst q'
      obtain rfl : u = Value.bool true := r'
      refine ⟨rfl, OldK.of_keep fun b o e => ?_, os, bare⟩
      cases q : H b with
      | none => exact un.keep b o e q (by intro z; exact absurd (show b ∈ ([] : List Addr) from z) (by simp)) (by simp)
      | some u =>
        rcases hO b with z | ⟨ob, xs, z⟩
        · rw [q] at z; cases z
        · have z2 := un.frzs b ob _ z
          obtain ⟨e1, _⟩ := hok b _ z
          obtain ⟨e2, _⟩ := hok' b _ z2
          rw [e] at e1; cases e1
          exact e2
 cases hk : K.lookup a with
 | some o =>
   -- the script is one of the module's own objects
   have e := KX a o hk
   rw [ha] at e
   cases e
   refine core (fun _ => none) (fun _ => .inl rfl) (.inr ⟨_, vs.toArray, _, hk, rfl, rfl, rfl, by rw [List.size_toArray, lenV]; exact hl, by simpa using rv⟩) (fun b u z => by have z' : (none : Option HO) = some u := z; cases z') (fun b z => absurd rfl z) fun z => absurd rfl z
 | none =>
   refine core (fun b => if b = a then some (.frz { cls := .type "list", data := .seq vs.toArray } (.lst (ns.map V.int))) else none) (fun b => ?_) (.inl (.inr ⟨{ cls := .type "list", data := .seq vs.toArray }, if_pos rfl⟩)) (fun b u z => ?_) (fun b z => ?_) fun _ => hk
   · by_cases hb : b = a
     · exact .inr ⟨_, _, if_pos hb⟩
     · exact .inl (if_neg hb)
   · by_cases hb : b = a
     · have z' := (if_pos hb).symm.trans z
       cases z'
       subst hb
       exact ⟨ha, by rw [List.length_map]; exact hl, vs, _, rv, ha⟩
     · have z' := (if_neg hb).symm.trans z
       cases z'
   · by_cases hb : b = a
     · exact hb
     · exact absurd (if_neg hb) z
theorem walk_of {l : PySem.W.OpenLaw} {n k : Nat} {q : Program} {loose : List Str} {XP : (Str → Option Value) → Heap → Prop} {YP : World → Heap → Prop} {d : DefRec} {K : Params → PySem.W.Frag} {CX : World → CXT} {sp : World → Sp} {x : Str}
 (hn : l.most = some n) (hn2 : n ≤ sizeLine) (hdf : d.params.defaults = []) (hr : aK1 k callerA)
 (hY : ∀ (w : World) (h : Heap), YP w h → (K w.params).In h)
 (F : ∀ (w : World) (mg : Str → Option Value) (fa : Addr) (h : Heap), (K w.params).In h → h.Ns mainGlobals mg → mg d.name = some (.ref fa) →
   ∃ fd : FuncData, (∀ (s : Shared) (u : Value), BindsTo s fd ⟨[u], []⟩ [(x, u)]) ∧
    ∀ base : Heap, (K w.params).In base → base.Ns mainGlobals mg → M8 l.prog w (K w.params) mg base (CX w) k fa fd [x] (sp w))
 (hsp : ∀ (w : World) (H : Hp) (a : Addr) (ns : List Int), ns.length ≤ n → dI3 H → SqL (K w.params) H a (ns.map V.int) → sp w [.ref a] H (fun v _ => v = .bl true) fun _ _ _ => False)
 (hCX : ∀ (w : World) (H : Hp) (s : Shared) (e : Value) (s' : Shared), CX w [] H s (fun _ _ _ => False) e s' → False) :
 PySem.W.WalkO q loose XP YP l.row.toRowW d [] (fun f vs => PySem.call f vs) := by
 refine Att.attach_call hn hdf fun w s₀ s₁ mg mb fa o pm cd doc a vs ns G Y ho hd hcd hmg hobj hints hlen hg => ?_
 have KX := hY w _ Y
 obtain ⟨fd, hb, hF⟩ := F w mg fa _ KX G.T.g hmg
 exact cU0 KX G.T.g G.T.b G.T.builtins G.T.nolimit hg hobj hints (Nat.le_trans hlen hn2) hr hF hb (fun H hO hS => hsp w H a ns hlen hO hS) fun H e s' => hCX w H s₁ e s'
noncomputable def aA8 (s : Stmt) : Arguments := match s with
 | .FunctionDef _ a _ _ _ _ _ _ _ _ => a
 | _ => { posonlyargs := [], args := [], vararg := none, kwonlyargs := [], kw_defaults := [], kwarg := none, defaults := [] }
noncomputable def Z4 (s : Stmt) : List Stmt := match s with
 | .FunctionDef _ _ b _ _ _ _ _ _ _ => b
 | _ => []
noncomputable def m7 (s : Stmt) : Scope := match s with
 | .FunctionDef _ _ _ _ _ _ sc _ _ _ => sc
 | _ => { kind := .function, names := [], isGenerator := false, isCoroutine := false }
noncomputable abbrev CX0 : CXT := fun _ _ _ _ _ _ => False
noncomputable abbrev E0 : XK := fun _ _ _ => False
theorem dM1 {X : Cx} : bS5 CX0 X E0 := fun _ _ _ _ _ _ _ h => h.elim
structure Fun (K : PySem.W.Frag) (x qual : Str) (st : Stmt) (f : Addr) (fd : FuncData) : Prop where
 ex : ∃ (oc : Value) (od : Option Addr) (kV doc pm : Value) (an : Option Addr) (cdv ct : Value) (osl : Array (Option Value)),
  fd = PySem.W.fnOf x qual (aA8 st) (Z4 st) (m7 st) .none kV doc pm an cdv ct ∧ K.lookup f = some ⟨oc, od, .func fd, osl⟩ ∧ PySem.W.codeIn K cdv qual = true
 kp : PySem.W.keepIn K (.ref f) = true
section
variable {P : Program} {w : World} {K : PySem.W.Frag} {mg : Str → Option Value} {base : Heap}
theorem Fun.ok {x qual : Str} {st : Stmt} {f : Addr} {fd : FuncData} {N ps : List Str} {k : Nat} {sp : Sp} (F : Fun K x qual st f fd) (S : J0 N ps (m7 st)) (len : ∀ vs H Q E, sp vs H Q E → vs.length = ps.length)
 (hbody : ∀ (cdv : Value) (A : Around) (outer : List Env) (s : Shared) (H : Hp) (vs : List V) (Q : VK) (E : XK), aK1 k (A.deeper (envOfC qual (m7 st) s.heap.objs.size f cdv)) → sp vs H Q E →
   ∃ t, PSs (cC7 CX0 P w K mg base N qual (m7 st) f cdv A outer s H E).nox (Z4 st) t ∧ t { nx := fun _ H' => Q .non H', rt := Q } (start N vs) H) : M8 P w K mg base CX0 (k + 1) f fd ps sp := by
 obtain ⟨oc, od, kV, doc, pm, an, cdv, ct, osl, rfl, lk, hcd⟩ := F.ex
 refine eA6 lk hcd S len fun A outer s H vs Q E hr hsp => ?_
 obtain ⟨t, h, q⟩ := hbody cdv A outer s H vs Q E hr hsp
 exact ⟨t, h.nox, q⟩
theorem Fun.binds {x qual : Str} {st : Stmt} {f : Addr} {fd : FuncData} {ps : List Str} (F : Fun K x qual st f fd)
 (h : ∀ (kV doc pm : Value) (an : Option Addr) (cdv ct : Value) (us : List Value), us.length = ps.length → bindArgs (PySem.W.fnOf x qual (aA8 st) (Z4 st) (m7 st) .none kV doc pm an cdv ct) ⟨us, []⟩ = pure (ps.zip us)) : aZ8 K fd ps [] := by
 obtain ⟨oc, od, kV, doc, pm, an, cdv, ct, osl, rfl, lk, hcd⟩ := F.ex
 exact .all (h kV doc pm an cdv ct)
theorem bU1 {x qual : Str} {st : Stmt} {f : Addr} {oc : Value} {od an : Option Addr} {osl : Array (Option Value)} {kV doc pm cdv ct : Value} (l : K.lookup f = some ⟨oc, od, .func (PySem.W.fnOf x qual (aA8 st) (Z4 st) (m7 st) .none kV doc pm an cdv ct), osl⟩)
 (c : PySem.W.codeIn K cdv qual = true) (k : PySem.W.keepIn K (.ref f) = true) : Fun K x qual st f (PySem.W.fnOf x qual (aA8 st) (Z4 st) (m7 st) .none kV doc pm an cdv ct) := ⟨⟨oc, od, kV, doc, pm, an, cdv, ct, osl, rfl, l, c⟩, k⟩
end
section
variable {X : Cx}
theorem pv (i : Nat) {x : Str} {pos : Pos} (hN : X.N[i]? = some x) (hv : Vis X.env.scope x) (hd : (x == ("__debug__" : Str)) = false)
 (hcd : (x == ("__classdict__" : Str)) = false) : PE X (.Name x pos) (dQ7 i) := cY0 hN hv hd hcd
end
section
variable {κ : Type} [DecidableEq κ]
noncomputable def aS2 (kvs : List (κ × V)) (k : κ) : Option V := (kvs.find? fun kv => decide (kv.1 = k)).map (·.2)
noncomputable def aO3 (kvs : List (κ × V)) (k : κ) (v : V) : List (κ × V) :=
 if (kvs.any fun kv => decide (kv.1 = k)) = true then kvs.map (fun kv => if kv.1 = k then (kv.1, v) else kv) else kvs ++ [(k, v)]
theorem aY4 {p : κ × V} {r : List (κ × V)} {k : κ} (e : p.1 = k) : aS2 (p :: r) k = some p.2 := by simp [aS2, List.find?_cons, e]
theorem aX8 {p : κ × V} {r : List (κ × V)} {k : κ} (e : ¬ p.1 = k) : aS2 (p :: r) k = aS2 r k := by simp [aS2, List.find?_cons, e]
theorem cA4 (k : κ) : ∀ kvs : List (κ × V), (kvs.any fun kv => decide (kv.1 = k)) = (aS2 kvs k).isSome
 | [] => rfl
 | p :: r => by
   rw [List.any_cons]
   by_cases e : p.1 = k
   · simp only [aY4 e, decide_eq_true e, Bool.true_or, Option.isSome_some]
   · rw [aX8 e, decide_eq_false e, Bool.false_or]; exact cA4 k r
theorem bD2 (kvs : List (κ × V)) (k : κ) (v : V) : (aO3 kvs k v).length ≤ kvs.length + 1 := by
 unfold aO3
 split
 · rw [List.length_map]; omega
 · rw [List.length_append, List.length_cons, List.length_nil]; omega
theorem bH6.isSome_eq {o : Option V} {u : Option Value} (r : bH6 o u) : o.isSome = u.isSome := by
 cases o with
 | none => cases u with
   | none => rfl
   | some _ => exact (show False from r).elim
 | some _ => cases u with
   | none => exact (show False from r).elim
   | some _ => rfl
theorem bH6.getD {o : Option V} {u : Option Value} {d : V} {d' : Value} (r : bH6 o u) (rd : J9 d d') : J9 (o.getD d) (u.getD d') := by
 cases o with
 | none => cases u with
   | none => exact rd
   | some _ => exact (show False from r).elim
 | some _ => cases u with
   | none => exact (show False from r).elim
   | some _ => exact r
theorem KV.val {kvs : List (κ × V)} {vs : List (κ × Value)} (r : KV kvs vs) (k : κ) : bH6 (aS2 kvs k) (valueAt vs k) := by
 unfold KV at r
 induction r with
 | nil => exact True.intro
 | @cons p q ps qs h t ih =>
   obtain ⟨h1, h2⟩ := h
   by_cases e : p.1 = k
   · have e' : q.1 = k := h1.symm.trans e
     have b : valueAt (q :: qs) k = some q.2 := by simp [valueAt, List.find?_cons, e']
     rw [aY4 e, b]; exact h2
   · have e' : ¬ q.1 = k := fun z => e (h1.trans z)
     have b : valueAt (q :: qs) k = valueAt qs k := by simp [valueAt, List.find?_cons, e']
     rw [aX8 e, b]; exact ih
theorem KV.any {kvs : List (κ × V)} {vs : List (κ × Value)} (r : KV kvs vs) (k : κ) : (kvs.any fun kv => decide (kv.1 = k)) = vs.any fun kv => decide (kv.1 = k) := by
 unfold KV at r
 induction r with
 | nil => rfl
 | cons h t ih => rw [List.any_cons, List.any_cons, ih, h.1]
theorem KV.repl {kvs : List (κ × V)} {vs : List (κ × Value)} (r : KV kvs vs) (k : κ) {y : V} {u : Value} (ry : J9 y u) :
 KV (kvs.map fun kv => if kv.1 = k then (kv.1, y) else kv) (vs.map fun kv => if kv.1 = k then (kv.1, u) else kv) := by
 unfold KV at r ⊢
 induction r with
 | nil => exact .nil
 | @cons p q ps qs h t ih =>
   rw [List.map_cons, List.map_cons]
   refine .cons ?_ ih
   obtain ⟨h1, h2⟩ := h
   by_cases e : p.1 = k
   · rw [if_pos e, if_pos (h1.symm.trans e)]; exact ⟨h1, ry⟩
   · rw [if_neg e, if_neg (fun z => e (h1.trans z))]; exact ⟨h1, h2⟩
theorem KV.put {kvs : List (κ × V)} {vs : List (κ × Value)} (r : KV kvs vs) (k : κ) {y : V} {u : Value} (ry : J9 y u) : KV (aO3 kvs k y) (stored vs k u) := by
 unfold aO3 stored
 rw [r.any k]
 by_cases e : (vs.any fun kv => decide (kv.1 = k)) = true
 · rw [if_pos e, if_pos e]; exact r.repl k ry
 · rw [if_neg e, if_neg e]; exact Paired.snoc r ⟨rfl, ry⟩
theorem KV.length {kvs : List (κ × V)} {vs : List (κ × Value)} (r : KV kvs vs) : kvs.length = vs.length := Paired.length r
end
theorem bI1 {P : Program} {w : World} {k : Key} {u : Value} (r : J9 (kV k) u) : (N8 P w).is k u = true := by
 cases k with
 | inl i => obtain ⟨t, e⟩ := (show ∃ t, u = Value.int i t from r); subst e; exact bU2 P w i t
 | inr x => obtain ⟨t, e⟩ := (show ∃ t, u = Value.str x t from r); subst e; exact bU4 P w x t
theorem bM0 {P : Program} {w : World} : ∀ {ks : List Key} {us : List Value}, J7 (ks.map kV) us → ItemsAre (N8 P w) ks us
 | [], _, r => by rw [List.map_nil] at r; cases r; exact .nil
 | k :: ks, _, r => by
   rw [List.map_cons] at r
   cases r with
   | cons h t => exact .cons (bI1 h) (bM0 t)
abbrev KT (H : Hp) : List (List Key × V) → List (List Key × Addr × Value) → Prop := Paired fun p q => p.1 = q.1 ∧ H q.2.1 = some (.tup (p.1.map kV)) ∧ J9 p.2 q.2.2
theorem KT.val {H : Hp} {kvs : List (List Key × V)} {xs : List (List Key × Addr × Value)} (r : KT H kvs xs) (k : List Key) : bH6 (aS2 kvs k) ((atKey xs k).map (·.2)) := by
 induction r with
 | nil => exact True.intro
 | @cons p q ps qs h t ih =>
   obtain ⟨h1, _, h2⟩ := h
   by_cases e : p.1 = k
   · have e' : q.1 = k := h1.symm.trans e
     have b : atKey (q :: qs) k = some q.2 := by simp [atKey, List.find?_cons, e']
     rw [aY4 e, b]; exact h2
   · have e' : ¬ q.1 = k := fun z => e (h1.trans z)
     have b : atKey (q :: qs) k = atKey qs k := by simp [atKey, List.find?_cons, e']
     rw [aX8 e, b]; exact ih
theorem KT.repl {H : Hp} {kvs : List (List Key × V)} {xs : List (List Key × Addr × Value)} (r : KT H kvs xs) (k : List Key) {y : V} {u : Value} (ry : J9 y u) :
 KT H (kvs.map fun kv => if kv.1 = k then (kv.1, y) else kv) (xs.map (putAt k u)) := by
 induction r with
 | nil => exact .nil
 | @cons p q ps qs h t ih =>
   rw [List.map_cons, List.map_cons]
   refine .cons ?_ ih
   obtain ⟨h1, h2, h3⟩ := h
   unfold putAt
   by_cases e : p.1 = k
   · rw [if_pos e, if_pos (h1.symm.trans e)]; exact ⟨h1, h2, ry⟩
   · rw [if_neg e, if_neg (fun z => e (h1.trans z))]; exact ⟨h1, h2, h3⟩
theorem KT.put {H : Hp} {kvs : List (List Key × V)} {xs : List (List Key × Addr × Value)} (r : KT H kvs xs) (k : List Key) {b : Addr} {y : V} {u : Value} (hb : H b = some (.tup (k.map kV))) (ry : J9 y u) :
 KT H (aO3 kvs k y) (storedH xs k b u) := by
 have e : (kvs.any fun kv => decide (kv.1 = k)) = (atKey xs k).isSome := by
  rw [cA4, (r.val k).isSome_eq, Option.isSome_map]
 unfold aO3 storedH
 rw [e]
 by_cases q : (atKey xs k).isSome = true
 · rw [if_pos q, if_pos q]; exact r.repl k ry
 · rw [if_neg q, if_neg q]; exact Paired.snoc r ⟨rfl, hb, ry⟩
theorem KT.keeps {H H' : Hp} {kvs : List (List Key × V)} {xs : List (List Key × Addr × Value)} (r : KT H kvs xs) (ht : ∀ b ys, H b = some (.tup ys) → H' b = some (.tup ys)) : KT H' kvs xs :=
 Paired.mapP r fun _ _ z => ⟨z.1, ht _ _ z.2.1, z.2.2⟩
section
variable {P : Program} {w : World} {H : Hp} {h : Heap} {a : Addr}
theorem dN2 {u : HO} (ok : HOk P w H h) (e : Rd H a u) : W6 P w H h a u := e.ok ok
theorem bW1 {kvs : List (Key × V)} (ok : HOk P w H h) (e : Rd H a (.dK kvs)) : kvs.length ≤ sizeLine ∧ (a == sysModules) = false ∧ ∃ vs, KV kvs vs ∧ h.DictOf (N8 P w) a vs :=
 show W6 P w H h a (.dK kvs) from dN2 ok e
theorem cL3 {kvs : List (Key × V)} (ok : HOk P w H h) (e : H a = some (.dK kvs)) : kvs.length ≤ sizeLine ∧ (a == sysModules) = false ∧ ∃ vs, KV kvs vs ∧ h.DictOf (N8 P w) a vs := bW1 ok (.inl e)
theorem bJ7 {ks : List Key} (ok : HOk P w H h) (e : H a = some (.tup (ks.map kV))) : (tupleKind (N8 P w)).is h ks a := by
 obtain ⟨_, its, r, o, h1, h2, n, h3⟩ := (show W6 P w H h a (.tup (ks.map kV)) from ok a _ e)
 exact ⟨o, its.toArray, n, h1, h2, (Prod.mk.inj h3).1, by simpa using bM0 r⟩
theorem cN1 {kvs : List (List Key × V)} (ok : HOk P w H h) (e : Rd H a (.dT kvs)) : kvs.length ≤ sizeLine ∧ (a == sysModules) = false ∧
 ∃ xs, KT H kvs xs ∧ h.DictOfH (tupleKind (N8 P w)) a xs := by
 obtain ⟨z, y, xs, r, o, es, ep, h1, h2, h3, h4, h5⟩ := (show W6 P w H h a (.dT kvs) from dN2 ok e)
 refine ⟨z, y, xs, r, o, es, ep, h1, h2, h3, h4, fun x hx => ?_, h5⟩
 have all : ∀ {l : List (List Key × V)} {m : List (List Key × Addr × Value)}, KT H l m → ∀ x ∈ m, (tupleKind (N8 P w)).is h x.1 x.2.1 := by
  intro l m q
  induction q with
  | nil => intro x hx; exact nomatch hx
  | @cons p q ps qs hq t ih =>
    intro x hx
    rcases List.mem_cons.mp hx with e | hx
    · subst e
      exact bJ7 ok (by rw [← hq.1]; exact hq.2.1)
    · exact ih x hx
 exact all r x hx
theorem eB3 {kvs : List (List Key × V)} (ok : HOk P w H h) (e : H a = some (.dT kvs)) : kvs.length ≤ sizeLine ∧ (a == sysModules) = false ∧
 ∃ xs, KT H kvs xs ∧ h.DictOfH (tupleKind (N8 P w)) a xs := cN1 ok (.inl e)
end
def bZ3 (H : Hp) (a : Addr) (y : V) (r : Option V) : Prop :=
 (∃ kvs k, Rd H a (.dK kvs) ∧ y = kV k ∧ r = aS2 kvs k) ∨ ∃ kvs k b, Rd H a (.dT kvs) ∧ y = .ref b ∧ H b = some (.tup (k.map kV)) ∧ r = aS2 kvs k
def dG5 (H : Hp) (a : Addr) (y v : V) (H' : Hp) : Prop :=
 (∃ kvs k, H a = some (.dK kvs) ∧ y = kV k ∧ kvs.length < sizeLine ∧ H' = upd H a (.dK (aO3 kvs k v))) ∨
 ∃ kvs k b, H a = some (.dT kvs) ∧ y = .ref b ∧ H b = some (.tup (k.map kV)) ∧ kvs.length < sizeLine ∧ H' = upd H a (.dT (aO3 kvs k v))
theorem bZ3.k {H : Hp} {a : Addr} {kvs : List (Key × V)} {k : Key} (e : H a = some (.dK kvs)) : bZ3 H a (kV k) (aS2 kvs k) := .inl ⟨kvs, k, .inl e, rfl, rfl⟩
theorem dG5.k {H : Hp} {a : Addr} {kvs : List (Key × V)} {k : Key} {v : V} (e : H a = some (.dK kvs)) (hl : kvs.length < sizeLine) : dG5 H a (kV k) v (upd H a (.dK (aO3 kvs k v))) := .inl ⟨kvs, k, e, rfl, hl, rfl⟩
section
variable {X : Cx} {pins : PNS} {σ : St} {H : Hp} {s : Shared} {a : Addr} {y v : V} {u r : Value} {o : Option V} {A : Around} {E : VSP}
theorem Inv.big (I : Inv X pins σ H s) : sysModules < s.heap.objs.size := by
 have h : mainGlobals < s.heap.objs.size := (I.mod.glob.keeps I.bk).lt
 exact Nat.lt_trans (by decide) h
theorem eJ1 {Q : VSP} (hu : A.units + 1 < cLine) (I : Inv X pins σ H s) (g : bZ3 H a y o) (ry : J9 y u) (h : ∀ s', Inv X pins σ H s' → Q (.bool o.isSome) s') :
 wpAny (model X.prog X.w) A (compareOp .In u (.ref a)) Q E s := by
 rcases g with ⟨kvs, k, e, ey, l⟩ | ⟨kvs, k, b, e, ey, eb, l⟩
 · subst ey
   obtain ⟨z, hd, vs, rel, dd⟩ := bW1 I.hok e
   refine wpAny_in_of (bI1 ry) hd dd.mapOf ?_
   rw [← (rel.val k).isSome_eq, ← l]
   exact h _ (I.tok _)
 · subst ey
   cases (show u = Value.ref b from ry)
   obtain ⟨z, hd, xs, rel, dd⟩ := cN1 I.hok e
   refine wpAny_in_heap (tupleKind_room_in1 hu) (bJ7 I.hok eb) hd dd ?_
   have q := (rel.val k).isSome_eq
   rw [Option.isSome_map] at q
   rw [← q, ← l]
   exact h _ (I.tok _)
theorem dI7 {Q : VSP} (hu : A.units + 1 < cLine) (I : Inv X pins σ H s) (g : bZ3 H a y o) (ry : J9 y u) (h : ∀ s', Inv X pins σ H s' → Q (.bool (!o.isSome)) s') :
 wpAny (model X.prog X.w) A (compareOp .NotIn u (.ref a)) Q E s := by
 rcases g with ⟨kvs, k, e, ey, l⟩ | ⟨kvs, k, b, e, ey, eb, l⟩
 · subst ey
   obtain ⟨z, hd, vs, rel, dd⟩ := bW1 I.hok e
   refine wpAny_notIn_of (bI1 ry) hd dd.mapOf ?_
   rw [← (rel.val k).isSome_eq, ← l]
   exact h _ (I.tok _)
 · subst ey
   cases (show u = Value.ref b from ry)
   obtain ⟨z, hd, xs, rel, dd⟩ := cN1 I.hok e
   refine wpAny_notIn_heap (tupleKind_room_in1 hu) (bJ7 I.hok eb) hd dd ?_
   have q := (rel.val k).isSome_eq
   rw [Option.isSome_map] at q
   rw [← q, ← l]
   exact h _ (I.tok _)
theorem cI8 {h' : Heap} {t' : Nat} {ob : HO} (I : Inv X pins σ H s) (mu : Mut (H a)) (hs : Heap.SameBut a s.heap h') (he : ∃ q, h'.get? a = some q) (new : W6 X.prog X.w (upd H a ob) h' a ob) :
 Inv X pins σ (upd H a ob) { s with heap := h', toks := t' } :=
 I.write (x := a) (e := a) mu (.inl rfl) (fun b q hb z => (hs.2 b hb).trans z) he new
theorem dB5 {P : Program} {w : World} {H' : Hp} {h' : Heap} {kvs : List (Key × V)} {vs : List (Key × Value)} (z : kvs.length ≤ sizeLine) (hd : (a == sysModules) = false) (rel : KV kvs vs) (dd : h'.DictOf (N8 P w) a vs) :
 W6 P w H' h' a (.dK kvs) := ⟨z, hd, vs, rel, dd⟩
theorem cP9 {H' : Hp} {Q : Unit → Shared → Prop} (hu : A.units + 1 < cLine) (I : Inv X pins σ H s) (g : dG5 H a y v H') (ry : J9 y u) (rv : J9 v r) (h : ∀ s', Inv X pins σ H' s' → Q () s') :
 wpAny (model X.prog X.w) A (setItem (.ref a) u r) Q E s := by
 rcases g with ⟨kvs, k, e, ey, l, eH⟩ | ⟨kvs, k, b, e, ey, eb, l, eH⟩
 · subst ey eH
   obtain ⟨z, hd, vs, rel, dd⟩ := cL3 I.hok e
   have hz : vs.length ≤ sizeLine := by rw [← rel.length]; exact z
   have hl : (aO3 kvs k v).length ≤ sizeLine := by have := bD2 kvs k v; omega
   refine wpAny_setItem_pairs (hsz := hz) (bI1 ry) dd fun h' dd' hs => h _ ?_
   have he : ∃ q, h'.get? a = some q := let ⟨q, _, _, hq, _⟩ := dd'; ⟨q, hq⟩
   exact cI8 I (by rw [e]; exact True.intro) hs he (dB5 hl hd (rel.put k rv) dd')
 · subst ey eH
   cases (show u = Value.ref b from ry)
   obtain ⟨z, hd, xs, rel, dd⟩ := eB3 I.hok e
   have hz : xs.length ≤ sizeLine := by rw [← Paired.length rel]; exact z
   have hl : (aO3 kvs k v).length ≤ sizeLine := by have := bD2 kvs k v; omega
   refine wpAny_setItem_heap (hsz := hz) (tupleKind_room_in1 hu) (bJ7 I.hok eb) dd fun h' dd' hs => h _ ?_
   obtain ⟨q, es, ep, hq, h2, h3, h4, _, h5⟩ := dd'
   refine cI8 I (by rw [e]; exact True.intro) hs ⟨q, hq⟩ ⟨hl, hd, _, (rel.put k eb rv).keeps fun c ys ec => ?_, q, es, ep, hq, h2, h3, h4, h5⟩
   rw [J6 (eG5 ec e (fun z => nomatch z))]
   exact ec
end
section
variable {X : Cx} {pins : PNS} {σ : St} {H : Hp} {s : Shared} {a : Addr} {kvs : List (Key × V)} {k : Key} {u : Value} {A : Around} {E : VSP}
theorem eG2 {Q : VSP} (I : Inv X pins σ H s) (e : Rd H a (.dK kvs)) (h : ∀ t s', Inv X pins σ H s' → Q (.int kvs.length t) s') : wpAny (model X.prog X.w) A (call (.builtin "len") [.ref a]) Q E s := by
 obtain ⟨z, hd, vs, rel, dd⟩ := bW1 I.hok e
 refine call_len_dict hd dd (by rw [← rel.length]; rw [sizeLine_eq] at z; omega) ?_
 rw [← rel.length]
 exact h _ _ (I.tok _)
end
section
variable {X : Cx} {o i e value : Expr} {pos pos' tpos : Pos} {td ty tv : TE}
end
theorem cT0 {P : Program} {w : World} {H : Hp} (h : Heap) (hb : sysModules < h.objs.size) : W6 P w H (h.push { cls := .type "dict", data := .dict #[] }) h.objs.size (.dK []) :=
 ⟨Nat.zero_le _, beq_eq_false_iff_ne.mpr (Ne.symm (Nat.ne_of_lt hb)), [], .nil, Heap.DictOf.new h⟩
def dT4 : TE := fun _ H Q => ∀ p, H p = none → Q (.ref p) (upd H p (.dK []))
section
variable {X : Cx} {pos : Pos}
theorem dC2 : PE X (.Dict [] [] pos) dT4 := fun pins s σ H Q I h =>
 wpAny_Dict_empty ⟨.ref s.heap.objs.size, _, I.laid (a := s.heap.objs.size) (o := .dK []) (t' := s.toks) (fun _ _ q => Heap.get?_push_of_some _ q) (Nat.le_refl _) (cT0 s.heap I.big), rfl, h _ (I.hok.fresh (Nat.le_refl _))⟩
end
structure M1 (X : Cx) (o : Expr) (m : Str) (apos : Pos) (e : Expr) (cpos : Pos) : Prop where
 base : attributeBase o m X.env (eval o X.env) = eval o X.env
 few : ((backTo cpos (starEach [e] X.env)).all (fun x => !x.1) && (backToKw cpos (keywordEach [] X.env)).all (fun x => x.1.isSome)
  && decide (([e] : List Expr).length + ([] : List Keyword).length + (if ([] : List Keyword).isEmpty then 0 else 1) < 30)) = true
 line : (apos.endLine == cpos.line) = true
 trees : backTo cpos (starEach [e] X.env) = [(false, eval e X.env)]
structure M2 (X : Cx) (o : Expr) (m : Str) (apos : Pos) (e f : Expr) (cpos : Pos) : Prop where
 base : attributeBase o m X.env (eval o X.env) = eval o X.env
 few : ((backTo cpos (starEach [e, f] X.env)).all (fun x => !x.1) && (backToKw cpos (keywordEach [] X.env)).all (fun x => x.1.isSome)
  && decide (([e, f] : List Expr).length + ([] : List Keyword).length + (if ([] : List Keyword).isEmpty then 0 else 1) < 30)) = true
 line : (apos.endLine == cpos.line) = true
 trees : backTo cpos (starEach [e, f] X.env) = [(false, eval e X.env), (false, eval f X.env)]
section
variable {X : Cx} {pins : PNS} {σ : St} {H : Hp} {s : Shared} {a : Addr} {y d : V} {u r : Value} {o : Option V} {A : Around} {E : VSP}
theorem dV8 {Q : VSP} (hu : A.units + 1 < cLine) (I : Inv X pins σ H s) (g : bZ3 H a y o) (ry : J9 y u) (rd : J9 d r) (h : ∀ w' s', Inv X pins σ H s' → J9 (o.getD d) w' → Q w' s') :
 wpAny (model X.prog X.w) A (call (.builtin "dict.get") [.ref a, u, r]) Q E s := by
 rcases g with ⟨kvs, k, e, ey, l⟩ | ⟨kvs, k, b, e, ey, eb, l⟩
 · subst ey
   obtain ⟨z, hd, vs, rel, dd⟩ := bW1 I.hok e
   refine call_meetsIn PySem.F.slot_dict_get dd.typeIs PySem.F.entry_dict_get (PySem.F.args_dict_get_3 _ _ _) (meets_dict_get_default (N8 X.prog X.w) a (bI1 ry) hd r) ⟨_, dd.mapOf, h _ _ (I.tok _) ?_⟩
   rw [l]
   exact (rel.val k).getD rd
 · subst ey
   cases (show u = Value.ref b from ry)
   obtain ⟨z, hd, xs, rel, dd⟩ := cN1 I.hok e
   refine call_meetsIn PySem.F.slot_dict_get dd.typeIs PySem.F.entry_dict_get (PySem.F.args_dict_get_3 _ _ _) (meetsH_dict_get_default (tupleKind (N8 X.prog X.w)) a b hd r) ⟨tupleKind_room_in1 hu, k, xs, bJ7 I.hok eb, dd, h _ _ (I.tok _) ?_⟩
   rw [l]
   exact (rel.val k).getD rd
end
section
variable {X : Cx} {o e f : Expr} {apos cpos : Pos} {td ty tx : TE}
end
section
variable {X : Cx} {pins : PNS} {σ : St} {H : Hp} {s : Shared} {a : Addr} {kvs : List (Key × V)} {A : Around} {E : VSP}
end
section
variable {X : Cx} {pins : PNS} {σ : St} {H : Hp} {s : Shared} {a : Addr} {y : V} {u : Value} {A : Around} {E : VSP}
end
section
variable {X : Cx}
theorem cS0 : aC1 X (.builtin "len") (fun xs H Q => ∃ a kvs, xs = [V.ref a] ∧ H a = some (.dK kvs) ∧ Q (.int kvs.length) H) := by
 intro pins s σ H xs us Q I r h
 obtain ⟨a, kvs, rfl, ha, q⟩ := h
 obtain ⟨u, rfl, ru⟩ := aE3 r
 cases ru
 exact eG2 I (.inl ha) fun t s' I' => ⟨.int kvs.length, H, I', ⟨t, rfl⟩, q⟩
end
section
variable {κ : Type} [DecidableEq κ]
end
end L2
namespace DL
open PySem PySem.Spec L2
open PyProof.Rows hiding St
inductive D where
 | non | bl (b : Bool) | int (i : Int) | str (x : Str) | tup (l : List D) | ref (i : Nat) | fn (x : Str) | ty (n : String)
inductive DO where
 | lst (l : List D) | rol (l : List D) | dct (l : List (Key × D)) | rod (l : List (Key × D))
noncomputable abbrev DH := List DO
abbrev DPP := D → DH → Prop
noncomputable abbrev DSt := List (Option D)
structure Wc where
 K : PySem.W.Frag
 mg : Str → Option Value
noncomputable abbrev wc (X : Cx) : Wc := ⟨X.K, X.mg⟩
mutual
noncomputable def j0 (c : Wc) (μ : List Addr) (H : Hp) : D → V → Prop
 | .non, v => v = .non
 | .bl b, v => v = .bl b
 | .int i, v => v = .int i
 | .str x, v => v = .str x
 | .ty n, v => v = .ty n
 | .fn x, v => ∃ a, c.mg x = some (.ref a) ∧ v = .ref a
 | .ref i, v => ∃ a, μ[i]? = some a ∧ v = .ref a
 | .tup l, v => ∃ a vs, v = .ref a ∧ SqT c.K H a vs ∧ w6 c μ H l vs
noncomputable def w6 (c : Wc) (μ : List Addr) (H : Hp) : List D → List V → Prop
 | [], vs => vs = []
 | d :: ds, vs => ∃ v r, vs = v :: r ∧ j0 c μ H d v ∧ w6 c μ H ds r
end
def aB5 (c : Wc) (μ : List Addr) (H : Hp) : List (Key × D) → List (Key × V) → Prop
 | [], kvs => kvs = []
 | (k, d) :: r, kvs => ∃ v t, kvs = (k, v) :: t ∧ j0 c μ H d v ∧ aB5 c μ H r t
structure Ext (μ : List Addr) (H : Hp) (μ' : List Addr) (H' : Hp) : Prop where
 pre : μ <+: μ'
 new : ∀ a ∈ μ', a ∉ μ → H a = none
 oth : ∀ b o, H b = some o → b ∉ μ → H' b = some o
 tup : ∀ b xs, H b = some (.tup xs) → H' b = some (.tup xs)
 frz : ∀ b o u, H b = some (.frz o u) → H' b = some (.frz o u)
theorem Ext.refl (μ : List Addr) (H : Hp) : Ext μ H μ H := ⟨List.prefix_refl _, fun a h n => absurd h n, fun _ _ h _ => h, fun _ _ h => h, fun _ _ _ h => h⟩
theorem Ext.trans {μ μ1 μ2 : List Addr} {H H1 H2 : Hp} (a : Ext μ H μ1 H1) (b : Ext μ1 H1 μ2 H2) : Ext μ H μ2 H2 where
 pre := a.pre.trans b.pre
 new := fun x h n => by
  by_cases h1 : x ∈ μ1
  · exact a.new x h1 n
  · have e1 := b.new x h h1
    cases e : H x with
    | none => rfl
    | some o => rw [a.oth x o e n] at e1; cases e1
 oth := fun x o e n => by
  refine b.oth x o (a.oth x o e n) fun h1 => ?_
  have := a.new x h1 n
  rw [e] at this; cases this
 tup := fun x xs e => b.tup x xs (a.tup x xs e)
 frz := fun x o u e => b.frz x o u (a.frz x o u e)
theorem Ext.lay {μ : List Addr} {H : Hp} {p : Addr} (h : H p = none) (o : HO) : Ext μ H μ (upd H p o) :=
 ⟨List.prefix_refl _, fun a h n => absurd h n, fun b o' q _ => by rw [J6 (K3 q h)]; exact q, fun b xs q => by rw [J6 (K3 q h)]; exact q, fun b o' u q => by rw [J6 (K3 q h)]; exact q⟩
theorem Ext.add {μ : List Addr} {H : Hp} {p : Addr} (h : H p = none) (o : HO) : Ext μ H (μ ++ [p]) (upd H p o) :=
 ⟨List.prefix_append _ _, fun a ha n => by
  rcases List.mem_append.mp ha with z | z
  · exact absurd z n
  · rw [List.mem_singleton.mp z]; exact h, fun b o' q _ => by rw [J6 (K3 q h)]; exact q, fun b xs q => by rw [J6 (K3 q h)]; exact q, fun b o' u q => by rw [J6 (K3 q h)]; exact q⟩
theorem Ext.mut {μ : List Addr} {H : Hp} {p : Addr} {o' : HO} (hp : p ∈ μ) (h : H p = some o') (n1 : ∀ xs, o' ≠ .tup xs) (n2 : ∀ o u, o' ≠ .frz o u) (o : HO) : Ext μ H μ (upd H p o) :=
 ⟨List.prefix_refl _, fun a h n => absurd h n, fun b o2 q n => by rw [J6 (fun e => n (by rw [e]; exact hp))]; exact q, fun b xs q => by
  rw [J6 (fun e => by subst e; rw [h] at q; cases q; exact n1 _ rfl)]; exact q,
  fun b oo u q => by
   rw [J6 (fun e => by subst e; rw [h] at q; cases q; exact n2 _ _ rfl)]; exact q⟩
theorem Ext.sqT {μ μ' : List Addr} {K : PySem.W.Frag} {H H' : Hp} (k : Ext μ H μ' H') {a : Addr} {xs : List V} (h : SqT K H a xs) : SqT K H' a xs := by
 rcases h with (h | ⟨o, h⟩) | h
 · exact .inl (.inl (k.tup _ _ h))
 · exact .inl (.inr ⟨o, k.frz _ _ _ h⟩)
 · exact .inr h
def RoL (K : PySem.W.Frag) (H : Hp) (a : Addr) (xs : List V) : Prop := (∃ o, H a = some (.frz o (.lst xs))) ∨ (SqL K (fun _ => none) a xs)
theorem cY8 {K : PySem.W.Frag} {H : Hp} {a : Addr} {xs : List V} (h : SqL K (fun _ => none) a xs) : SqL K H a xs := by
 rcases h with (h | ⟨o, h⟩) | h
 · cases h
 · cases h
 · exact .inr h
theorem RoL.sq {K : PySem.W.Frag} {H : Hp} {a : Addr} {xs : List V} (h : RoL K H a xs) : SqL K H a xs := by
 rcases h with ⟨o, h⟩ | h
 · exact .inl (.inr ⟨o, h⟩)
 · exact cY8 h
theorem Ext.roL {μ μ' : List Addr} {K : PySem.W.Frag} {H H' : Hp} (k : Ext μ H μ' H') {a : Addr} {xs : List V} (h : RoL K H a xs) : RoL K H' a xs := by
 rcases h with ⟨o, h⟩ | h
 · exact .inl ⟨o, k.frz _ _ _ h⟩
 · exact .inr h
section
variable {c : Wc} {μ μ' : List Addr} {H H' : Hp}
theorem bP9 {μ μ' : List Addr} (h : μ <+: μ') {i : Nat} {a : Addr} (e : μ[i]? = some a) : μ'[i]? = some a := by
 obtain ⟨t, rfl⟩ := h
 have : i < μ.length := by
  rcases Nat.lt_or_ge i μ.length with q | q
  · exact q
  · rw [List.getElem?_eq_none q] at e; cases e
 rw [List.getElem?_append_left this]; exact e
mutual
theorem j0.mono (x : Ext μ H μ' H') : ∀ {d : D} {v : V}, j0 c μ H d v → j0 c μ' H' d v
 | .non, _, h => h
 | .bl _, _, h => h
 | .int _, _, h => h
 | .str _, _, h => h
 | .ty _, _, h => h
 | .fn _, _, h => h
 | .ref i, v, h => by
   unfold j0 at h ⊢
   obtain ⟨a, e, r⟩ := h
   exact ⟨a, bP9 x.pre e, r⟩
 | .tup l, v, h => by
   unfold j0 at h ⊢
   obtain ⟨a, vs, e, q, r⟩ := h
   exact ⟨a, vs, e, x.sqT q, w6.mono x r⟩
theorem w6.mono (x : Ext μ H μ' H') : ∀ {l : List D} {vs : List V}, w6 c μ H l vs → w6 c μ' H' l vs
 | [], _, h => h
 | d :: ds, vs, h => by
   unfold w6 at h ⊢
   obtain ⟨v, r, e, q, t⟩ := h
   exact ⟨v, r, e, j0.mono x q, w6.mono x t⟩
end
theorem aB5.mono (x : Ext μ H μ' H') : ∀ {l : List (Key × D)} {vs : List (Key × V)}, aB5 c μ H l vs → aB5 c μ' H' l vs
 | [], _, h => h
 | (_, d) :: ds, vs, h => by
  obtain ⟨v, r, e, q, t⟩ := h
  exact ⟨v, r, e, j0.mono x q, aB5.mono x t⟩
theorem w6.nil : w6 c μ H [] [] := rfl
theorem w6.cons {d : D} {v : V} {ds : List D} {vs : List V} (h : j0 c μ H d v) (t : w6 c μ H ds vs) : w6 c μ H (d :: ds) (v :: vs) := ⟨v, vs, rfl, h, t⟩
theorem w6.length : ∀ {l : List D} {vs : List V}, w6 c μ H l vs → l.length = vs.length
 | [], _, h => by cases h; rfl
 | _ :: _, _, h => by obtain ⟨v, r, rfl, _, t⟩ := h; simp [w6.length t]
theorem w6.get : ∀ {l : List D} {vs : List V} {i : Nat} {d : D}, w6 c μ H l vs → l[i]? = some d → ∃ v, vs[i]? = some v ∧ j0 c μ H d v
 | [], _, _, _, _, e => by simp at e
 | _ :: _, _, 0, _, h, e => by
   obtain ⟨v, r, rfl, q, t⟩ := h
   simp at e; subst e
   exact ⟨v, rfl, q⟩
 | _ :: _, _, i + 1, _, h, e => by
   obtain ⟨v, r, rfl, q, t⟩ := h
   simp at e
   obtain ⟨w, h1, h2⟩ := w6.get t e
   exact ⟨w, by simpa using h1, h2⟩
theorem w6.append : ∀ {l l' : List D} {vs vs' : List V}, w6 c μ H l vs → w6 c μ H l' vs' → w6 c μ H (l ++ l') (vs ++ vs')
 | [], _, _, _, h, t => by cases h; exact t
 | _ :: _, _, _, _, h, t => by
   obtain ⟨v, r, rfl, q, u⟩ := h
   exact ⟨v, r ++ _, rfl, q, w6.append u t⟩
theorem w6.take : ∀ (n : Nat) {l : List D} {vs : List V}, w6 c μ H l vs → w6 c μ H (l.take n) (vs.take n)
 | 0, _, _, _ => rfl
 | _ + 1, [], _, h => by cases h; rfl
 | n + 1, _ :: _, _, h => by
   obtain ⟨v, r, rfl, q, u⟩ := h
   exact ⟨v, r.take n, rfl, q, w6.take n u⟩
theorem w6.drop : ∀ (n : Nat) {l : List D} {vs : List V}, w6 c μ H l vs → w6 c μ H (l.drop n) (vs.drop n)
 | 0, _, _, h => h
 | _ + 1, [], _, h => by cases h; rfl
 | n + 1, _ :: _, _, h => by
   obtain ⟨v, r, rfl, q, u⟩ := h
   exact w6.drop n u
theorem w6.set {d : D} {v : V} (hv : j0 c μ H d v) : ∀ (n : Nat) {l : List D} {vs : List V}, w6 c μ H l vs → w6 c μ H (l.set n d) (vs.set n v)
 | _, [], _, h => by cases h; rfl
 | 0, _ :: _, _, h => by
   obtain ⟨w, r, rfl, q, u⟩ := h
   exact ⟨v, r, rfl, hv, u⟩
 | n + 1, _ :: _, _, h => by
   obtain ⟨w, r, rfl, q, u⟩ := h
   exact ⟨w, r.set n v, rfl, q, w6.set hv n u⟩
theorem w6.reverse : ∀ {l : List D} {vs : List V}, w6 c μ H l vs → w6 c μ H l.reverse vs.reverse
 | [], _, h => by cases h; rfl
 | _ :: _, _, h => by
   obtain ⟨w, r, rfl, q, u⟩ := h
   simp only [List.reverse_cons]
   exact w6.append (w6.reverse u) ⟨w, [], rfl, q, rfl⟩
noncomputable def aM9 : Option DO → Prop
 | some (.rol _) => True
 | some (.rod _) => True
 | _ => False
def aL7 (c : Wc) (μ : List Addr) (H : Hp) (a : Addr) : DO → Prop
 | .lst l => ∃ vs, H a = some (.lst vs) ∧ w6 c μ H l vs
 | .rol l => ∃ vs, RoL c.K H a vs ∧ w6 c μ H l vs
 | .dct l => ∃ kvs, H a = some (.dK kvs) ∧ aB5 c μ H l kvs
 | .rod l => ∃ kvs o, H a = some (.frz o (.dK kvs)) ∧ aB5 c μ H l kvs
structure J1 (c : Wc) (μ : List Addr) (G : DH) (H : Hp) : Prop where
 len : μ.length = G.length
 inj : ∀ (i j : Nat) (a : Addr), μ[i]? = some a → μ[j]? = some a → i = j ∨ aM9 G[i]? ∨ aM9 G[j]?
 obj : ∀ (i : Nat) (o : DO) (a : Addr), G[i]? = some o → μ[i]? = some a → aL7 c μ H a o
variable {G : DH}
theorem lt_of_get {α : Type} {l : List α} {i : Nat} {x : α} (e : l[i]? = some x) : i < l.length := by
 rcases Nat.lt_or_ge i l.length with q | q
 · exact q
 · rw [List.getElem?_eq_none q] at e; cases e
theorem aL7.mono (x : Ext μ H μ' H') {a : Addr} {o : DO} (h : aL7 c μ H a o) (e : H' a = H a ∨ aM9 (some o)) : aL7 c μ' H' a o := by
 cases o with
 | lst l =>
   obtain ⟨vs, q, r⟩ := h
   rcases e with e | e
   · exact ⟨vs, e.trans q, r.mono x⟩
   · exact e.elim
 | rol l => obtain ⟨vs, q, r⟩ := h; exact ⟨vs, x.roL q, r.mono x⟩
 | rod l => obtain ⟨vs, o, q, r⟩ := h; exact ⟨vs, o, x.frz _ _ _ q, r.mono x⟩
 | dct l =>
   obtain ⟨vs, q, r⟩ := h
   rcases e with e | e
   · exact ⟨vs, e.trans q, r.mono x⟩
   · exact e.elim
theorem aL7.some_of {a : Addr} {o : DO} (h : aL7 c μ H a o) (n : ¬ aM9 (some o)) : ∃ u, H a = some u ∧ (∀ xs, u ≠ .tup xs) ∧ ∀ o' u', u ≠ .frz o' u' := by
 cases o with
 | lst l => obtain ⟨vs, q, _⟩ := h; exact ⟨_, q, (fun _ z => nomatch z), (fun _ _ z => nomatch z)⟩
 | rol l => exact (n trivial).elim
 | rod l => exact (n trivial).elim
 | dct l => obtain ⟨vs, q, _⟩ := h; exact ⟨_, q, (fun _ z => nomatch z), (fun _ _ z => nomatch z)⟩
theorem J1.same (h : J1 c μ G H) (k : Ext μ H μ H') (e : ∀ a o, H a = some o → (∀ xs, o ≠ .tup xs) → H' a = some o) : J1 c μ G H' :=
 ⟨h.len, h.inj, fun i o a g m => by
  have q := h.obj i o a g m
  by_cases hr : aM9 (some o)
  · exact q.mono k (.inr hr)
  · obtain ⟨u, e1, n1, n2⟩ := q.some_of hr
    exact q.mono k (.inl ((e a u e1 n1).trans e1.symm))⟩
theorem J1.new {p : Addr} {o : DO} {u : HO} (h : J1 c μ G H) (hp : H p = none) (ho : aL7 c (μ ++ [p]) (upd H p u) p o) : J1 c (μ ++ [p]) (G ++ [o]) (upd H p u) := by
 have k : Ext μ H (μ ++ [p]) (upd H p u) := Ext.add hp u
 have old : ∀ (i : Nat) (a : Addr), i < μ.length → (μ ++ [p])[i]? = some a → μ[i]? = some a := fun i a hi e => by
  rw [List.getElem?_append_left hi] at e; exact e
 refine ⟨by simp [h.len], fun i j a ei ej => ?_, fun i o' a g m => ?_⟩
 · have li := lt_of_get ei
   have lj := lt_of_get ej
   simp only [List.length_append, List.length_singleton] at li lj
   by_cases hi : i < μ.length
   · have mi := old i a hi ei
     have gi : (G ++ [o])[i]? = G[i]? := List.getElem?_append_left (by rw [← h.len]; exact hi)
     by_cases hj : j < μ.length
     · have mj := old j a hj ej
       have gj : (G ++ [o])[j]? = G[j]? := List.getElem?_append_left (by rw [← h.len]; exact hj)
       rw [gi, gj]
       exact h.inj i j a mi mj
     · -- j is the new one: a = p
       have ej' : j = μ.length := by omega
       subst ej'
       have ea : a = p := by simpa using ej.symm
       subst ea
       right; left
       rw [gi]
       have hg : i < G.length := by rw [← h.len]; exact hi
       have q := h.obj i G[i] a (List.getElem?_eq_getElem hg) mi
       rw [List.getElem?_eq_getElem hg]
       refine Classical.byContradiction fun n => ?_
       obtain ⟨u', e1, _⟩ := q.some_of n
       rw [hp] at e1; cases e1
   · have ei' : i = μ.length := by omega
     by_cases hj : j < μ.length
     · have mj := old j a hj ej
       have gj : (G ++ [o])[j]? = G[j]? := List.getElem?_append_left (by rw [← h.len]; exact hj)
       subst ei'
       have ea : a = p := by simpa using ei.symm
       subst ea
       right; right
       rw [gj]
       have hg : j < G.length := by rw [← h.len]; exact hj
       have q := h.obj j G[j] a (List.getElem?_eq_getElem hg) mj
       rw [List.getElem?_eq_getElem hg]
       refine Classical.byContradiction fun n => ?_
       obtain ⟨u', e1, _⟩ := q.some_of n
       rw [hp] at e1; cases e1
     · left; omega
 · have li := lt_of_get m
   simp only [List.length_append, List.length_singleton] at li
   by_cases hi : i < μ.length
   · have mi := old i a hi m
     rw [List.getElem?_append_left (by rw [← h.len]; exact hi)] at g
     have q := h.obj i o' a g mi
     by_cases hr : aM9 (some o')
     · exact q.mono k (.inr hr)
     · obtain ⟨u', e1, _⟩ := q.some_of hr
       exact q.mono k (.inl (J6 (K3 e1 hp)))
   · have ei' : i = μ.length := by omega
     subst ei'
     have ea : a = p := by simpa using m.symm
     subst ea
     rw [h.len] at g
     have eo : o' = o := by simpa using g.symm
     subst eo
     exact ho
theorem J1.set {i : Nat} {a : Addr} {o o' : DO} {u : HO} (h : J1 c μ G H) (g : G[i]? = some o) (n : ¬ aM9 (some o)) (m : μ[i]? = some a) (k : Ext μ H μ (upd H a u)) (n' : ¬ aM9 (some o')) (ho : aL7 c μ (upd H a u) a o') : J1 c μ (G.set i o') (upd H a u) := by
 have hi : i < G.length := lt_of_get g
 have get : ∀ j, (G.set i o')[j]? = if i = j then some o' else G[j]? := fun j => by
  rw [List.getElem?_set]
  by_cases e : i = j
  · subst e; simp [hi]
  · simp [e]
 refine ⟨by simp [h.len], fun j l b ej el => ?_, fun j o2 b gj mj => ?_⟩
 · rcases h.inj j l b ej el with e | e | e
   · exact .inl e
   · by_cases ij : i = j
     · subst ij; rw [g] at e; exact (n e).elim
     · right; left; rw [get, if_neg ij]; exact e
   · by_cases ij : i = l
     · subst ij; rw [g] at e; exact (n e).elim
     · right; right; rw [get, if_neg ij]; exact e
 · rw [get] at gj
   by_cases ij : i = j
   · subst ij
     rw [if_pos rfl] at gj
     cases gj
     rw [m] at mj
     cases mj
     exact ho
   · rw [if_neg ij] at gj
     have q := h.obj j o2 b gj mj
     by_cases hr : aM9 (some o2)
     · exact q.mono k (.inr hr)
     · have nb : b ≠ a := fun e => by
        subst e
        rcases h.inj i j b m mj with e | e | e
        · exact ij e
        · rw [g] at e; exact n e
        · rw [gj] at e; exact hr e
       exact q.mono k (.inl (J6 nb))
def M7 (c : Wc) (μ : List Addr) (H : Hp) (dσ : DSt) (σ : St) : Prop := dσ.length = σ.length ∧ ∀ (i : Nat) (d : D), dσ[i]? = some (some d) → ∃ v, σ[i]? = some (some v) ∧ j0 c μ H d v
theorem M7.mono (x : Ext μ H μ' H') {dσ : DSt} {σ : St} (h : M7 c μ H dσ σ) : M7 c μ' H' dσ σ :=
 ⟨h.1, fun i d e => let ⟨v, a, b⟩ := h.2 i d e; ⟨v, a, b.mono x⟩⟩
theorem M7.put {dσ : DSt} {σ : St} (h : M7 c μ H dσ σ) {d : D} {v : V} (r : j0 c μ H d v) (i : Nat) : M7 c μ H (dσ.set i (some d)) (σ.set i (some v)) := by
 refine ⟨by simp [h.1], fun j d' e => ?_⟩
 rw [List.getElem?_set] at e ⊢
 by_cases ij : i = j
 · subst ij
   rw [if_pos rfl] at e ⊢
   rw [← h.1]
   split at e
   · rename_i hl
     rw [if_pos hl]
     cases e
     exact ⟨v, rfl, r⟩
   · cases e
 · rw [if_neg ij] at e ⊢
   exact h.2 j d' e
end
noncomputable def M (α : Type) := DH → Option (Except Str α × DH)
namespace M
noncomputable def pure {α : Type} (a : α) : M α := fun G => some (.ok a, G)
noncomputable def bind {α β : Type} (m : M α) (f : α → M β) : M β := fun G => match m G with
 | none => none
 | some (.ok a, G1) => f a G1
 | some (.error x, G1) => some (.error x, G1)
noncomputable def stuck {α : Type} : M α := fun _ => none
end M
noncomputable instance : Monad M := { pure := M.pure, bind := M.bind }
theorem M.bind_eq {α β : Type} (m : M α) (f : α → M β) (G : DH) : (m >>= f) G = match m G with
 | none => none
 | some (.ok a, G1) => f a G1
 | some (.error x, G1) => some (.error x, G1) := rfl
theorem M.bind_ok {α β : Type} {m : M α} {f : α → M β} {G G1 : DH} {a : α} (h : m G = some (.ok a, G1)) : (m >>= f) G = f a G1 := by rw [M.bind_eq, h]
theorem M.bind_assoc {α β γ : Type} (m : M α) (f : α → M β) (g : β → M γ) : ((m >>= f) >>= g) = (m >>= fun a => f a >>= g) := by
 funext G
 simp only [M.bind_eq]
 cases m G with
 | none => rfl
 | some p => obtain ⟨r, G1⟩ := p; cases r <;> rfl
noncomputable abbrev XC := Str → List Addr → DH → Hp → Prop
noncomputable def ZF : XC := fun _ _ _ _ => False
noncomputable def g8 {α : Type} (c : Wc) (Z : XC) (μ : List Addr) (H : Hp) (r : Option (Except Str α × DH)) (K : α → List Addr → DH → Hp → Prop) : Prop :=
 match r with
 | none => False
 | some (.ok a, G') => ∀ μ' H', Ext μ H μ' H' → J1 c μ' G' H' → K a μ' G' H'
 | some (.error x, G') => ∀ μ' H', Ext μ H μ' H' → J1 c μ' G' H' → Z x μ' G' H'
section
variable {α β : Type} {c : Wc} {Z : XC} {μ μ' : List Addr} {H H' : Hp}
theorem g8.mono {r : Option (Except Str α × DH)} {K K' : α → List Addr → DH → Hp → Prop} (h : g8 c Z μ H r K)
 (k : ∀ a μ' G' H', Ext μ H μ' H' → J1 c μ' G' H' → K a μ' G' H' → K' a μ' G' H') : g8 c Z μ H r K' := by
 match r, h with
 | some (.ok a, G'), h => exact fun μ' H' p e => k a μ' G' H' p e (h μ' H' p e)
 | some (.error x, G'), h => exact h
theorem g8.from {r : Option (Except Str α × DH)} {K : α → List Addr → DH → Hp → Prop} (h : g8 c Z μ H r K) (p : Ext μ H μ' H') : g8 c Z μ' H' r K := by
 match r, h with
 | some (.ok a, G'), h => exact fun μ2 H2 p2 e => h μ2 H2 (p.trans p2) e
 | some (.error x, G'), h => exact fun μ2 H2 p2 e => h μ2 H2 (p.trans p2) e
theorem g8.bind {m : M α} {f : α → M β} {G : DH} {K : β → List Addr → DH → Hp → Prop} (h : g8 c Z μ H ((m >>= f) G) K) :
 g8 c Z μ H (m G) (fun a μ' G' H' => g8 c Z μ' H' (f a G') K) := by
 rw [M.bind_eq] at h
 match m G, h with
 | some (.ok a, G'), h => exact fun μ' H' p e => g8.from h p
 | some (.error x, G'), h => exact h
theorem g8.ok {a : α} {G : DH} {K : α → List Addr → DH → Hp → Prop} (h : g8 c Z μ H (some (.ok a, G)) K) (e : J1 c μ G H) : K a μ G H := h μ H (Ext.refl _ _) e
end
inductive Fl where
 | nx (σ : DSt) | rt (d : D) | bk (σ : DSt) | ct (σ : DSt)
section
variable (c : Wc) (Z : XC)
def bC7 (f : DSt → M D) : TE := fun σ H Q => ∃ dσ μ G, M7 c μ H dσ σ ∧ J1 c μ G H ∧ g8 c Z μ H (f dσ G) fun d μ' _ H' => ∀ v, j0 c μ' H' d v → Q v H'
def bJ0 (f : DSt → M Bool) : TT := fun σ H Q => ∃ dσ μ G, M7 c μ H dσ σ ∧ J1 c μ G H ∧ g8 c Z μ H (f dσ G) fun b μ' _ H' => Q b H'
def bZ2 (f : DSt → M (List D)) : TA := fun σ H Q => ∃ dσ μ G, M7 c μ H dσ σ ∧ J1 c μ G H ∧ g8 c Z μ H (f dσ G) fun ds μ' _ H' => ∀ vs, w6 c μ' H' ds vs → Q vs H'
def bO7 (E : cA5) (fl : Fl) (μ : List Addr) (H : Hp) : Prop := match fl with
 | .nx dσ => ∀ σ, M7 c μ H dσ σ → E.nx σ H
 | .rt d => ∀ v, j0 c μ H d v → E.rt v H
 | .bk dσ => ∀ σ, M7 c μ H dσ σ → E.bk σ H
 | .ct dσ => ∀ σ, M7 c μ H dσ σ → E.ct σ H
def bK0 (f : DSt → M Fl) : TS := fun E σ H => ∃ dσ μ G, M7 c μ H dσ σ ∧ J1 c μ G H ∧ g8 c Z μ H (f dσ G) fun fl μ' _ H' => bO7 c E fl μ' H'
end
theorem bC7.elim {c : Wc} {Z : XC} {P : Prop} {f : DSt → M D} {σ : St} {H : Hp} {Q : VK} (h : bC7 c Z f σ H Q) (k : ∀ dσ μ G, M7 c μ H dσ σ → J1 c μ G H → g8 c Z μ H (f dσ G) (fun d μ' _ H' => ∀ v, j0 c μ' H' d v → Q v H') → P) : P := by
 obtain ⟨e0, e1, e2, e3, e4, e5⟩ := h
 exact k e0 e1 e2 e3 e4 e5
theorem bJ0.elim {c : Wc} {Z : XC} {P : Prop} {f : DSt → M Bool} {σ : St} {H : Hp} {Q : Bool → Hp → Prop} (h : bJ0 c Z f σ H Q) (k : ∀ dσ μ G, M7 c μ H dσ σ → J1 c μ G H → g8 c Z μ H (f dσ G) (fun b μ' _ H' => Q b H') → P) : P := by
 obtain ⟨e0, e1, e2, e3, e4, e5⟩ := h
 exact k e0 e1 e2 e3 e4 e5
theorem bZ2.elim {c : Wc} {Z : XC} {P : Prop} {f : DSt → M (List D)} {σ : St} {H : Hp} {Q : List V → Hp → Prop} (h : bZ2 c Z f σ H Q) (k : ∀ dσ μ G, M7 c μ H dσ σ → J1 c μ G H → g8 c Z μ H (f dσ G) (fun ds μ' _ H' => ∀ vs, w6 c μ' H' ds vs → Q vs H') → P) : P := by
 obtain ⟨e0, e1, e2, e3, e4, e5⟩ := h
 exact k e0 e1 e2 e3 e4 e5
theorem bK0.elim {c : Wc} {Z : XC} {P : Prop} {f : DSt → M Fl} {E : cA5} {σ : St} {H : Hp} (h : bK0 c Z f E σ H) (k : ∀ dσ μ G, M7 c μ H dσ σ → J1 c μ G H → g8 c Z μ H (f dσ G) (fun fl μ' _ H' => bO7 c E fl μ' H') → P) : P := by
 obtain ⟨e0, e1, e2, e3, e4, e5⟩ := h
 exact k e0 e1 e2 e3 e4 e5
structure DE (X : Cx) (Z : XC) (e : Expr) (f : DSt → M D) : Prop where
 h : PE X e (bC7 (wc X) Z f)
structure DT (X : Cx) (Z : XC) (e : Expr) (f : DSt → M Bool) : Prop where
 h : PT X e (bJ0 (wc X) Z f)
structure DA (X : Cx) (Z : XC) (e : List Expr) (f : DSt → M (List D)) : Prop where
 h : PA X e (bZ2 (wc X) Z f)
structure DS (X : Cx) (Z : XC) (e : Stmt) (f : DSt → M Fl) : Prop where
 h : PS X e (bK0 (wc X) Z f)
structure DB (X : Cx) (Z : XC) (e : List Stmt) (f : DSt → M Fl) : Prop where
 h : PSs X e (bK0 (wc X) Z f)
theorem PE.mono {X : Cx} {e : Expr} {t t' : TE} (h : PE X e t) (k : ∀ σ H Q, t' σ H Q → t σ H Q) : PE X e t' := fun pins s σ H Q I q => h pins s σ H Q I (k σ H Q q)
theorem PT.mono {X : Cx} {e : Expr} {t t' : TT} (h : PT X e t) (k : ∀ σ H Q, t' σ H Q → t σ H Q) : PT X e t' := fun pins s σ H Q I q => h pins s σ H Q I (k σ H Q q)
theorem PW.mono {X : Cx} {e : Expr} {t t' : TT} (h : PW X e t) (k : ∀ σ H Q, t' σ H Q → t σ H Q) : PW X e t' := fun wh pins s σ H Q I q => h wh pins s σ H Q I (k σ H Q q)
theorem PA.mono {X : Cx} {e : List Expr} {t t' : TA} (h : PA X e t) (k : ∀ σ H Q, t' σ H Q → t σ H Q) : PA X e t' := fun pos pins s σ H Q I q => h pos pins s σ H Q I (k σ H Q q)
theorem PS.mono {X : Cx} {e : Stmt} {t t' : TS} (h : PS X e t) (k : ∀ E σ H, t' E σ H → t E σ H) : PS X e t' := fun pins s σ H E I q => h pins s σ H E I (k E σ H q)
theorem PSs.mono {X : Cx} {e : List Stmt} {t t' : TS} (h : PSs X e t) (k : ∀ E σ H, t' E σ H → t E σ H) : PSs X e t' := fun pins s σ H E I q => h pins s σ H E I (k E σ H q)
theorem DE.of {X : Cx} {Z : XC} {e : Expr} {f : DSt → M D} {t : TE} (h : PE X e t) (k : ∀ σ H Q, bC7 (wc X) Z f σ H Q → t σ H Q) : DE X Z e f := ⟨PE.mono h k⟩
theorem DT.of {X : Cx} {Z : XC} {e : Expr} {f : DSt → M Bool} {t : TT} (h : PT X e t) (k : ∀ σ H Q, bJ0 (wc X) Z f σ H Q → t σ H Q) : DT X Z e f := ⟨PT.mono h k⟩
theorem DA.of {X : Cx} {Z : XC} {e : List Expr} {f : DSt → M (List D)} {t : TA} (h : PA X e t) (k : ∀ σ H Q, bZ2 (wc X) Z f σ H Q → t σ H Q) : DA X Z e f := ⟨PA.mono h k⟩
theorem DS.of {X : Cx} {Z : XC} {e : Stmt} {f : DSt → M Fl} {t : TS} (h : PS X e t) (k : ∀ E σ H, bK0 (wc X) Z f E σ H → t E σ H) : DS X Z e f := ⟨PS.mono h k⟩
theorem DB.of {X : Cx} {Z : XC} {e : List Stmt} {f : DSt → M Fl} {t : TS} (h : PSs X e t) (k : ∀ E σ H, bK0 (wc X) Z f E σ H → t E σ H) : DB X Z e f := ⟨PSs.mono h k⟩
end DL
namespace DL
open PySem PySem.Spec L2
open PyProof.Rows hiding St
noncomputable def aI5 : Expr → Bool
 | .Starred .. => false
 | _ => true
theorem q17 {e : Expr} {es : List Expr} {env : Env} (h : aI5 e = true) : starEach (e :: es) env = (false, eval e env) :: starEach es env := by
 cases e <;> first
  | rfl
  | cases h
theorem bH2 {e : Expr} {env : Env} (h : aI5 e = true) : starEach [e] env = [(false, eval e env)] := q17 h
abbrev Fe := DSt → M D
noncomputable def c7 (i : Nat) : Fe := fun σ G => match σ[i]? with
 | some (some d) => some (.ok d, G)
 | _ => none
def cE (d : D) : Fe := fun _ => pure d
noncomputable def d7 (o : D → D → M D) (a b : Fe) : Fe := fun σ => do o (← a σ) (← b σ)
noncomputable def unE (o : D → M D) (a : Fe) : Fe := fun σ => do o (← a σ)
def q14 : DSt → M (List D) := fun _ => pure []
def q13 (a : Fe) (r : DSt → M (List D)) : DSt → M (List D) := fun σ => do
 let x ← a σ
 let xs ← r σ
 pure (x :: xs)
noncomputable def q16 (F : List D → M D) (a : DSt → M (List D)) : Fe := fun σ => do F (← a σ)
def cO7 : D → M Bool
 | .bl b => pure b
 | _ => M.stuck
def bY3 (a : Fe) : Fe := fun σ => do pure (.bl (!(← cO7 (← a σ))))
noncomputable def ifE (t : DSt → M Bool) (a b : Fe) : Fe := fun σ => do if ← t σ then a σ else b σ
section
variable (c : Wc) (Z : XC)
def bA7 (o : D → D → M D) : R2 := fun x y H Q => ∃ dx dy μ G, j0 c μ H dx x ∧ j0 c μ H dy y ∧ J1 c μ G H ∧ g8 c Z μ H (o dx dy G) fun d μ' _ H' => ∀ v, j0 c μ' H' d v → Q v H'
def bT3 (o : D → M D) : V → Hp → VK → Prop := fun x H Q => ∃ dx μ G, j0 c μ H dx x ∧ J1 c μ G H ∧ g8 c Z μ H (o dx G) fun d μ' _ H' => ∀ v, j0 c μ' H' d v → Q v H'
def bJ4 (F : List D → M D) : List V → Hp → VK → Prop := fun xs H Q => ∃ ds μ G, w6 c μ H ds xs ∧ J1 c μ G H ∧ g8 c Z μ H (F ds G) fun d μ' _ H' => ∀ v, j0 c μ' H' d v → Q v H'
end
theorem bA7.elim {c : Wc} {Z : XC} {P : Prop} {o : D → D → M D} {x : V} {y : V} {H : Hp} {Q : VK} (h : bA7 c Z o x y H Q) (k : ∀ dx dy μ G, j0 c μ H dx x → j0 c μ H dy y → J1 c μ G H → g8 c Z μ H (o dx dy G) (fun d μ' _ H' => ∀ v, j0 c μ' H' d v → Q v H') → P) : P := by
 obtain ⟨e0, e1, e2, e3, e4, e5, e6, e7⟩ := h
 exact k e0 e1 e2 e3 e4 e5 e6 e7
theorem bT3.elim {c : Wc} {Z : XC} {P : Prop} {o : D → M D} {x : V} {H : Hp} {Q : VK} (h : bT3 c Z o x H Q) (k : ∀ dx μ G, j0 c μ H dx x → J1 c μ G H → g8 c Z μ H (o dx G) (fun d μ' _ H' => ∀ v, j0 c μ' H' d v → Q v H') → P) : P := by
 obtain ⟨e0, e1, e2, e3, e4, e5⟩ := h
 exact k e0 e1 e2 e3 e4 e5
theorem bJ4.elim {c : Wc} {Z : XC} {P : Prop} {F : List D → M D} {xs : List V} {H : Hp} {Q : VK} (h : bJ4 c Z F xs H Q) (k : ∀ ds μ G, w6 c μ H ds xs → J1 c μ G H → g8 c Z μ H (F ds G) (fun d μ' _ H' => ∀ v, j0 c μ' H' d v → Q v H') → P) : P := by
 obtain ⟨e0, e1, e2, e3, e4, e5⟩ := h
 exact k e0 e1 e2 e3 e4 e5
structure OpD (X : Cx) (Z : XC) (f : Value → Value → Sem Value) (o : D → D → M D) : Prop where
 h : OpR X f (bA7 (wc X) Z o)
structure UnD (X : Cx) (Z : XC) (f : Value → Sem Value) (o : D → M D) : Prop where
 h : UnR X f (bT3 (wc X) Z o)
structure aA7 (X : Cx) (Z : XC) (f : Value) (F : List D → M D) : Prop where
 h : aC1 X f (bJ4 (wc X) Z F)
theorem OpR.mono {X : Cx} {f : Value → Value → Sem Value} {r r' : R2} (h : OpR X f r) (k : ∀ x y H Q, r' x y H Q → r x y H Q) : OpR X f r' := fun pins s σ H x y v u Q I rx ry q => h pins s σ H x y v u Q I rx ry (k x y H Q q)
theorem aC1.mono {X : Cx} {f : Value} {r r' : List V → Hp → VK → Prop} (h : aC1 X f r) (k : ∀ xs H Q, r' xs H Q → r xs H Q) : aC1 X f r' := fun pins s σ H xs us Q I rx q => h pins s σ H xs us Q I rx (k xs H Q q)
theorem OpD.of {X : Cx} {Z : XC} {f : Value → Value → Sem Value} {o : D → D → M D} {r : R2} (h : OpR X f r) (k : ∀ x y H Q, bA7 (wc X) Z o x y H Q → r x y H Q) : OpD X Z f o := ⟨OpR.mono h k⟩
theorem aA7.of {X : Cx} {Z : XC} {f : Value} {F : List D → M D} {r : List V → Hp → VK → Prop} (h : aC1 X f r) (k : ∀ xs H Q, bJ4 (wc X) Z F xs H Q → r xs H Q) : aA7 X Z f F := ⟨aC1.mono h k⟩
section
variable {X : Cx} {Z : XC} {a b c e : Expr} {es : List Expr} {fa fb fc : Fe} {pos : Pos}
theorem aY8 {cc : Wc} {o : D → D → M D} (σ : St) (H : Hp) (Q : VK) (h : bC7 cc Z (d7 o fa fb) σ H Q) : tOp (bA7 cc Z o) (bC7 cc Z fa) (bC7 cc Z fb) σ H Q := by
 obtain ⟨dσ, μ, G, s, h, p⟩ := h
 exact ⟨dσ, μ, G, s, h, (g8.bind p).mono fun x μ1 G1 H1 x' h1 p1 v rv => ⟨dσ, μ1, G1, s.mono x', h1, (g8.bind p1).mono fun y μ2 G2 H2 x2 h2 p2 u ru => ⟨x, y, μ2, G2, rv.mono x2, ru, h2, p2⟩⟩⟩
theorem dQ5 {i : Nat} (h : PE X e (dQ7 i)) : DE X Z e (c7 i) := DE.of h fun σ H Q hE0 => hE0.elim fun dσ μ G s h p => by
 delta c7 at p
 rcases he : dσ[i]? with _ | _ | d
 · rw [he] at p; exact p.elim
 · rw [he] at p; exact p.elim
 · rw [he] at p
   obtain ⟨v, e1, r⟩ := s.2 i d he
   exact ⟨v, e1, g8.ok p h v r⟩
theorem cU6 {d : D} {v : V} (h : PE X e (tC v)) (r : ∀ μ H, j0 (wc X) μ H d v) : DE X Z e (cE d) := DE.of h fun σ H Q hE0 => hE0.elim fun dσ μ G s h p => g8.ok p h v (r _ _)
theorem q20 {i j pos} : DE X Z (.Constant (.int i) j pos) (cE (.int i)) := cU6 cZ9 fun _ _ => by unfold j0; rfl
theorem de_bl {i j pos} : DE X Z (.Constant (.bool i) j pos) (cE (.bl i)) := cU6 dX8 fun _ _ => by unfold j0; rfl
theorem de_non {j pos} : DE X Z (.Constant .none j pos) (cE .non) := cU6 dU5 fun _ _ => by unfold j0; rfl
theorem de_str {i j pos} : DE X Z (.Constant (.str i) j pos) (cE (.str i)) := cU6 dW0 fun _ _ => by unfold j0; rfl
theorem de_v (i : Nat) {x : Str} {pos : Pos} (hN : X.N[i]? = some x) (hv : Vis X.env.scope x) (hd : (x == ("__debug__" : Str)) = false)
 (hcd : (x == ("__classdict__" : Str)) = false) : DE X Z (.Name x pos) (c7 i) := dQ5 (cY0 hN hv hd hcd)
theorem de_op {op : Operator} {o : D → D → M D} (ho : OpD X Z (binaryOp op) o) (ha : DE X Z a fa) (hb : DE X Z b fb) : DE X Z (.BinOp a op b pos) (d7 o fa fb) :=
 DE.of (eF1 ho.h ha.h hb.h) aY8
theorem de_cmp {op : CmpOp} {o : D → D → M D} (ho : OpD X Z (compareOp op) o) (ha : DE X Z a fa) (hb : DE X Z b fb) (hm : behindInMarks op b = false) : DE X Z (.Compare a [op] [b] pos) (d7 o fa fb) :=
 DE.of (dG9 ho.h ha.h hb.h hm) aY8
theorem eC1 {op : UnaryOp} {o : D → M D} (ho : UnD X Z (unaryOp op) o) (ha : DE X Z a fa) : DE X Z (.UnaryOp op a pos) (unE o fa) :=
 DE.of (dN1 ho.h ha.h) fun σ H Q hE0 => hE0.elim fun dσ μ G s h p => ⟨dσ, μ, G, s, h, (g8.bind p).mono fun x μ1 G1 H1 x' h1 p1 v rv => ⟨x, μ1, G1, rv, h1, p1⟩⟩
theorem cO0 {α : Type} {cc : Wc} {μ : List Addr} {H : Hp} {d : D} {f : Bool → M α} {G : DH} {K : α → List Addr → DH → Hp → Prop} (p : g8 cc Z μ H ((cO7 d >>= f) G) K) : ∃ k, d = .bl k ∧ g8 cc Z μ H (f k G) K := by
 cases d with
 | bl k => exact ⟨k, rfl, p⟩
 | _ => exact p.elim
theorem de_one {op} {f : Fe} (h : DE X Z a f) : DE X Z (.BoolOp op [a] pos) f := ⟨dQ4 h.h⟩
theorem de_not (ha : DE X Z a fa) : DE X Z (.UnaryOp .Not a pos) (bY3 fa) :=
 DE.of (dT3 ha.h) fun σ H Q hE0 => hE0.elim fun dσ μ G s h p => ⟨dσ, μ, G, s, h, (g8.bind p).mono fun x μ1 G1 H1 x' h1 p1 v rv => by
  obtain ⟨k', rfl, p2⟩ := cO0 p1
  unfold j0 at rv
  exact ⟨k', rv, g8.ok p2 h1 _ (by unfold j0; rfl)⟩⟩
def o5 (f : Fe) : DSt → M Bool := fun σ => do cO7 (← f σ)
def aF6 (a b : DSt → M Bool) : DSt → M Bool := fun σ => do if ← a σ then b σ else pure false
def orT (a b : DSt → M Bool) : DSt → M Bool := fun σ => do if ← a σ then pure true else b σ
def cX8 (a : DSt → M Bool) : DSt → M Bool := fun σ => do pure (!(← a σ))
structure DW (X : Cx) (Z : XC) (e : Expr) (f : DSt → M Bool) : Prop where
 h : PW X e (bJ0 (wc X) Z f)
theorem DW.of {X : Cx} {Z : XC} {e : Expr} {f : DSt → M Bool} {t : TT} (h : PW X e t) (k : ∀ σ H Q, bJ0 (wc X) Z f σ H Q → t σ H Q) : DW X Z e f := ⟨PW.mono h k⟩
variable {ta tb : DSt → M Bool} {W2 : List Expr}
theorem DW.dt (h : DW X Z a ta) : DT X Z a ta := ⟨fun pins s σ H Q I q => h.h _ pins s σ H Q I q⟩
theorem dt_cmp {op : CmpOp} {o : D → D → M D} (ho : OpD X Z (compareOp op) o) (ha : DE X Z a fa) (hb : DE X Z b fb) (hm : behindInMarks op b = false) : DT X Z (.Compare a [op] [b] pos) (o5 (d7 o fa fb)) :=
 DT.of (dF6 ho.h ha.h hb.h hm) fun σ H Q hE0 => hE0.elim fun dσ μ G s h p => aY8 σ H _ ⟨dσ, μ, G, s, h, (g8.bind p).mono fun x μ1 G1 H1 x' h1 p1 v rv => by
  cases x with
  | bl k' => unfold j0 at rv; exact ⟨k', rv, g8.ok p1 h1⟩
  | _ => exact p1.elim⟩
theorem dw_and1 (ha : DT X Z a ta) : DW X Z (.BoolOp .And [a] pos) ta := ⟨dE8 ha.h⟩
theorem dw_or1 (ha : DT X Z a ta) : DW X Z (.BoolOp .Or [a] pos) ta := ⟨dR3 ha.h⟩
theorem dw_and (ha : DT X Z a ta) (hb : DW X Z (.BoolOp .And (b :: W2) pos) tb) : DW X Z (.BoolOp .And (a :: b :: W2) pos) (aF6 ta tb) :=
 DW.of (dV5 ha.h hb.h) fun σ H Q hE0 => hE0.elim fun dσ μ G s h p => ⟨dσ, μ, G, s, h, (g8.bind p).mono fun x μ1 G1 H1 x' h1 p1 => by
  cases x with
  | true => exact ⟨dσ, μ1, G1, s.mono x', h1, p1⟩
  | false => exact g8.ok p1 h1⟩
theorem dw_or (ha : DT X Z a ta) (hb : DW X Z (.BoolOp .Or (b :: W2) pos) tb) : DW X Z (.BoolOp .Or (a :: b :: W2) pos) (orT ta tb) :=
 DW.of (eD3 ha.h hb.h) fun σ H Q hE0 => hE0.elim fun dσ μ G s h p => ⟨dσ, μ, G, s, h, (g8.bind p).mono fun x μ1 G1 H1 x' h1 p1 => by
  cases x with
  | false => exact ⟨dσ, μ1, G1, s.mono x', h1, p1⟩
  | true => exact g8.ok p1 h1⟩
theorem dt_not (ha : DT X Z a ta) : DT X Z (.UnaryOp .Not a pos) (cX8 ta) :=
 DT.of (dW5 ha.h) fun σ H Q hE0 => hE0.elim fun dσ μ G s h p => ⟨dσ, μ, G, s, h, (g8.bind p).mono fun x μ1 G1 H1 x' h1 p1 => g8.ok p1 h1⟩
theorem de_if (hc : DT X Z c ta) (ha : DE X Z a fa) (hb : DE X Z b fb) : DE X Z (.IfExp c a b pos) (ifE ta fa fb) :=
 DE.of (cW6 hc.h ha.h hb.h) fun σ H Q hE0 => hE0.elim fun dσ μ G s h p => ⟨dσ, μ, G, s, h, (g8.bind p).mono fun x μ1 G1 H1 x' h1 p1 => by
  cases x with
  | true => exact ⟨dσ, μ1, G1, s.mono x', h1, p1⟩
  | false => exact ⟨dσ, μ1, G1, s.mono x', h1, p1⟩⟩
variable {fs : DSt → M (List D)}
theorem q19 : DA X Z [] q14 := DA.of dW2 fun σ H Q hE0 => hE0.elim fun dσ μ G s h p => g8.ok p h [] rfl
theorem q18 (ha : DE X Z e fa) (hr : DA X Z es fs) (hs : starEach (e :: es) X.env = (false, eval e X.env) :: starEach es X.env) : DA X Z (e :: es) (q13 fa fs) :=
 DA.of (dI5 ha.h hr.h hs) fun σ H Q hE0 => hE0.elim fun dσ μ G s h p => ⟨dσ, μ, G, s, h, (g8.bind p).mono fun x μ1 G1 H1 x' h1 p1 v rv =>
  ⟨dσ, μ1, G1, s.mono x', h1, (g8.bind p1).mono fun xs μ2 G2 H2 x2 h2 p2 vs rvs => g8.ok p2 h2 (v :: vs) ⟨v, vs, rfl, rv.mono x2, rvs⟩⟩⟩
def t6 (fs : DSt → M (List D)) : Fe := fun σ => do
 let xs ← fs σ
 if xs.length ≤ sizeLine then pure (.tup xs) else M.stuck
noncomputable def N5 (o : DO) : M D := fun G => some (.ok (.ref G.length), G ++ [o])
def S5 (fs : DSt → M (List D)) : Fe := fun σ => do
 let xs ← fs σ
 if xs.length ≤ sizeLine then N5 (.lst xs) else M.stuck
theorem aN0 {cc : Wc} {μ : List Addr} {H : Hp} {G : DH} {xs : List D} {vs : List V} {Q : VK} (h : J1 cc μ G H) (r : w6 cc μ H xs vs)
 (p : g8 cc Z μ H (some (Except.ok (.tup xs), G)) fun d μ' _ H' => ∀ v, j0 cc μ' H' d v → Q v H') (q : Addr) (hq : H q = none) : Q (.ref q) (upd H q (.tup vs)) := by
 have k : Ext μ H μ (upd H q (.tup vs)) := Ext.lay hq _
 refine p μ _ k (h.same k fun a o e n => ?_) _ ?_
 · rw [J6 (K3 e hq)]; exact e
 · unfold j0
   exact ⟨q, vs, rfl, SqT.of S9, r.mono k⟩
theorem aC3 {cc : Wc} {μ : List Addr} {H : Hp} {G : DH} {xs : List D} {vs : List V} {Q : VK} (h : J1 cc μ G H) (r : w6 cc μ H xs vs)
 (p : g8 cc Z μ H (N5 (.lst xs) G) fun d μ' _ H' => ∀ v, j0 cc μ' H' d v → Q v H') (q : Addr) (hq : H q = none) : Q (.ref q) (upd H q (.lst vs)) := by
 have k : Ext μ H (μ ++ [q]) (upd H q (.lst vs)) := Ext.add hq _
 refine p (μ ++ [q]) _ k (h.new hq ⟨vs, S9, r.mono k⟩) _ ?_
 unfold j0
 exact ⟨q, by rw [← h.len]; simp, rfl⟩
theorem de_tup {x1} (h : DA X Z es fs) : DE X Z (.Tuple es x1 pos) (t6 fs) :=
 DE.of (dV4 h.h) fun σ H Q hE0 => hE0.elim fun dσ μ G s h p => ⟨dσ, μ, G, s, h, (g8.bind p).mono fun xs μ1 G1 H1 x' h1 p1 vs rv => by
  split at p1
  · rename_i hz
    exact ⟨by rw [← rv.length]; exact hz, fun q hq => aN0 h1 rv p1 q hq⟩
  · exact p1.elim⟩
theorem de_lst (h : DA X Z es fs) : DE X Z (.List es pos) (S5 fs) :=
 DE.of (dV1 h.h) fun σ H Q hE0 => hE0.elim fun dσ μ G s h p => ⟨dσ, μ, G, s, h, (g8.bind p).mono fun xs μ1 G1 H1 x' h1 p1 vs rv => by
  split at p1
  · rename_i hz
    exact ⟨by rw [← rv.length]; exact hz, fun q hq => aC3 h1 rv p1 q hq⟩
  · exact p1.elim⟩
theorem bM7 {cc : Wc} {F : List D → M D} (σ : St) (H : Hp) (Q : VK) (h : bC7 cc Z (q16 F fs) σ H Q) : tCB (bJ4 cc Z F) (bZ2 cc Z fs) σ H Q := by
 obtain ⟨dσ, μ, G, s, h, p⟩ := h
 exact ⟨dσ, μ, G, s, h, (g8.bind p).mono fun x μ1 G1 H1 x' h1 p1 vs rv => ⟨x, μ1, G1, rv, h1, p1⟩⟩
theorem cX1 {F : List D → M D} {id : String} {x : Str} {p : Pos} (hc : aA7 X Z (.builtin id) F) (hg : Gl X x) (hm : X.mg x = none) (hv : bootBuiltins x = some (.builtin id)) (ha : DA X Z (e :: es) fs) (hn : x ≠ "__name__") (hdb : (x == ("__debug__" : Str)) = false)
 (he : starEach (e :: es) X.env = (false, eval e X.env) :: starEach es X.env) (hpl : (backTo pos (starEach es X.env)).any (·.1) = false) : DE X Z (.Call (.Name x p) (e :: es) [] pos) (q16 F fs) :=
 DE.of (dC5 hc.h hg hm hv ha.h hn hdb he hpl) bM7
theorem cN8 {F : List D → M D} {T : String} {x : Str} {p : Pos} (hc : aA7 X Z (.type T) F) (hg : Gl X x) (hm : X.mg x = none) (hv : bootBuiltins x = some (.type T)) (ha : DA X Z (e :: es) fs) (hn : x ≠ "__name__") (hdb : (x == ("__debug__" : Str)) = false)
 (he : starEach (e :: es) X.env = (false, eval e X.env) :: starEach es X.env) (hpl : (backTo pos (starEach es X.env)).any (·.1) = false) : DE X Z (.Call (.Name x p) (e :: es) [] pos) (q16 F fs) :=
 DE.of (cQ0 hc.h hg hm hv ha.h hn hdb he hpl) bM7
def spD (c : Wc) (n : Nat) (F : List D → M D) : Sp := fun vs H Q _ => vs.length = n ∧ ∃ ds μ G, w6 c μ H ds vs ∧ J1 c μ G H ∧ g8 c ZF μ H (F ds G) fun d μ' _ H' => ∀ v, j0 c μ' H' d v → Q v H'
noncomputable def noX {α : Type} (m : M α) : M α := fun G => match m G with
 | some (.ok a, G1) => some (.ok a, G1)
 | _ => none
theorem bY8 {α : Type} {cc : Wc} {μ : List Addr} {H : Hp} {m : M α} {G : DH} {K : α → List Addr → DH → Hp → Prop} (p : g8 cc Z μ H (noX m G) K) : g8 cc ZF μ H (m G) K := by
 unfold noX at p
 match m G, p with
 | some (.ok a, G1), p => exact p
 | some (.error x, G1), p => exact p.elim
 | none, p => exact p.elim
def fnX (n : Nat) (F : List D → M D) : List D → M D := fun ds => if ds.length = n then noX (F ds) else M.stuck
theorem bU8 {cc : Wc} {μ : List Addr} {H : Hp} {n : Nat} {F : List D → M D} {ds : List D} {G : DH} {K : D → List Addr → DH → Hp → Prop} (p : g8 cc Z μ H (fnX n F ds G) K) : ds.length = n ∧ g8 cc ZF μ H (F ds G) K := by
 unfold fnX at p
 split at p
 · rename_i h; exact ⟨h, bY8 p⟩
 · exact p.elim
theorem dH6 {F : List D → M D} {k n : Nat} {f : Addr} {fd : FuncData} {ps : List Str} {x : Str} {p : Pos} (hF : M8 X.prog X.w X.K X.mg X.base CX0 k f fd ps (spD (wc X) n F)) (hr : aK1 k X.A) (hg : Gl X x) (hm : X.mg x = some (.ref f)) (hk : PySem.W.keepIn X.K (.ref f) = true) (hb : aZ8 X.K fd ps [])
 (ha : DA X Z (e :: es) fs)
 (hdb : (x == ("__debug__" : Str)) = false) (he : starEach (e :: es) X.env = (false, eval e X.env) :: starEach es X.env) (hpl : (backTo pos (starEach es X.env)).any (·.1) = false) :
 DE X Z (.Call (.Name x p) (e :: es) [] pos) (q16 (fnX n F) fs) :=
 DE.of (dJ2 hF hr hg hm hk hb .nil dM1 ha.h hdb he hpl) fun σ H Q hE0 => hE0.elim fun dσ μ G s h p => by
  refine ⟨dσ, μ, G, s, h, (g8.bind p).mono fun ds' μ1 G1 H1 x' h1 p1 vs rv => ?_⟩
  obtain ⟨hl, p2⟩ := bU8 p1
  show spD (wc X) n F (vs ++ []) H1 Q E0
  rw [List.append_nil]
  exact ⟨by rw [← rv.length]; exact hl, ds', μ1, G1, rv, h1, p2⟩
end
abbrev Fs := DSt → M Fl
def K6 : Fs := fun σ => pure (.nx σ)
def j8 (a b : Fs) : Fs := fun σ => do
 match ← a σ with
 | .nx σ' => b σ'
 | r => pure r
def K5 (f : Fe) : Fs := fun σ => do pure (.rt (← f σ))
def aV1 (f : Fe) : Fs := fun σ => do
 let _ ← f σ
 pure (.nx σ)
noncomputable def ifS (t : DSt → M Bool) (a b : Fs) : Fs := fun σ => do if ← t σ then a σ else b σ
abbrev Fg := D → DSt → M DSt
abbrev Fgs := List D → DSt → M DSt
def q15 (i : Nat) : Fg := fun d σ => pure (σ.set i (some d))
def aI4 : Fgs := fun ds σ => match ds with
 | [] => pure σ
 | _ => M.stuck
def J5 (g : Fg) (r : Fgs) : Fgs := fun ds σ => match ds with
 | d :: t => do r t (← g d σ)
 | [] => M.stuck
def aG2 (n : Nat) (g : Fgs) : Fg := fun d σ => match d with
 | .tup l => if l.length = n then g l σ else M.stuck
 | _ => M.stuck
def o9 (f : Fe) (g : Fg) : Fs := fun σ => do
 let d ← f σ
 let σ' ← g d σ
 pure (.nx σ')
section
variable (c : Wc) (Z : XC)
def bM6 (g : Fg) : TG := fun v σ H Q => ∃ d dσ μ G, j0 c μ H d v ∧ M7 c μ H dσ σ ∧ J1 c μ G H ∧ g8 c Z μ H (g d dσ G) fun dσ' μ' _ H' => ∀ σ', M7 c μ' H' dσ' σ' → Q σ' H'
def bU0 (g : Fgs) : TGs := fun vs σ H Q => ∃ ds dσ μ G, w6 c μ H ds vs ∧ M7 c μ H dσ σ ∧ J1 c μ G H ∧ g8 c Z μ H (g ds dσ G) fun dσ' μ' _ H' => ∀ σ', M7 c μ' H' dσ' σ' → Q σ' H'
end
theorem bM6.elim {c : Wc} {Z : XC} {P : Prop} {g : Fg} {v : V} {σ : St} {H : Hp} {Q : St → Hp → Prop} (h : bM6 c Z g v σ H Q) (k : ∀ d dσ μ G, j0 c μ H d v → M7 c μ H dσ σ → J1 c μ G H → g8 c Z μ H (g d dσ G) (fun dσ' μ' _ H' => ∀ σ', M7 c μ' H' dσ' σ' → Q σ' H') → P) : P := by
 obtain ⟨e0, e1, e2, e3, e4, e5, e6, e7⟩ := h
 exact k e0 e1 e2 e3 e4 e5 e6 e7
theorem bU0.elim {c : Wc} {Z : XC} {P : Prop} {g : Fgs} {vs : List V} {σ : St} {H : Hp} {Q : St → Hp → Prop} (h : bU0 c Z g vs σ H Q) (k : ∀ ds dσ μ G, w6 c μ H ds vs → M7 c μ H dσ σ → J1 c μ G H → g8 c Z μ H (g ds dσ G) (fun dσ' μ' _ H' => ∀ σ', M7 c μ' H' dσ' σ' → Q σ' H') → P) : P := by
 obtain ⟨e0, e1, e2, e3, e4, e5, e6, e7⟩ := h
 exact k e0 e1 e2 e3 e4 e5 e6 e7
structure DG (X : Cx) (Z : XC) (tg : Expr) (g : Fg) : Prop where
 h : PG X tg (bM6 (wc X) Z g)
structure DGs (X : Cx) (Z : XC) (tgs : List Expr) (g : Fgs) : Prop where
 h : PGs X tgs (bU0 (wc X) Z g)
theorem PG.mono {X : Cx} {e : Expr} {t t' : TG} (h : PG X e t) (k : ∀ v σ H Q, t' v σ H Q → t v σ H Q) : PG X e t' := fun pins s σ H v u Q I r q => h pins s σ H v u Q I r (k v σ H Q q)
theorem PGs.mono {X : Cx} {e : List Expr} {t t' : TGs} (h : PGs X e t) (k : ∀ v σ H Q, t' v σ H Q → t v σ H Q) : PGs X e t' := fun pins s σ H v u Q I r q => h pins s σ H v u Q I r (k v σ H Q q)
theorem DG.of {X : Cx} {Z : XC} {e : Expr} {g : Fg} {t : TG} (h : PG X e t) (k : ∀ v σ H Q, bM6 (wc X) Z g v σ H Q → t v σ H Q) : DG X Z e g := ⟨PG.mono h k⟩
theorem DGs.of {X : Cx} {Z : XC} {e : List Expr} {g : Fgs} {t : TGs} (h : PGs X e t) (k : ∀ v σ H Q, bU0 (wc X) Z g v σ H Q → t v σ H Q) : DGs X Z e g := ⟨PGs.mono h k⟩
section
variable {X : Cx} {Z : XC} {a b c e tg : Expr} {es : List Expr} {fa fb : Fe} {pos : Pos} {st : Stmt} {W2 sa sb : List Stmt} {f g : Fs}
theorem db_nil : DB X Z [] K6 := DB.of dJ3 fun E σ H hE0 => hE0.elim fun dσ μ G s h p => g8.ok p h σ s
theorem dK5 {cc : Wc} {E : cA5} {μ : List Addr} {G : DH} {H : Hp} {fl : Fl} (h : J1 cc μ G H)
 (p : g8 cc Z μ H ((match fl with | .nx σ' => g σ' | r => pure r : M Fl) G) fun fl μ' _ H' => bO7 cc E fl μ' H') : bO7 cc { E with nx := bK0 cc Z g E } fl μ H := by
 cases fl with
 | nx dσ => exact fun σ s => ⟨dσ, μ, G, s, h, p⟩
 | rt d => exact g8.ok p h
 | bk dσ => exact g8.ok p h
 | ct dσ => exact g8.ok p h
theorem db_cons (h1 : DS X Z st f) (h2 : DB X Z W2 g) : DB X Z (st :: W2) (j8 f g) :=
 DB.of (cU8 h1.h h2.h) fun E σ H hE0 => hE0.elim fun dσ μ G s h p => ⟨dσ, μ, G, s, h, (g8.bind p).mono fun fl μ1 G1 H1 x' h1 p1 => dK5 h1 p1⟩
theorem db_one (h1 : DS X Z st f) : DB X Z [st] f := ⟨dD2 h1.h⟩
theorem ds_expr (he : DE X Z e fa) (hs : swapsWith e none pos.line X.env = pure false) : DS X Z (.Expr e pos) (aV1 fa) :=
 DS.of (dJ8 he.h hs) fun E σ H hE0 => hE0.elim fun dσ μ G s h p => ⟨dσ, μ, G, s, h, (g8.bind p).mono fun d μ1 G1 H1 x' h1 p1 v rv => g8.ok p1 h1 σ (s.mono x')⟩
theorem ds_ret (he : DE X Z e fa) : DS X Z (.Return (some e) pos) (K5 fa) :=
 DS.of (dW1 he.h) fun E σ H hE0 => hE0.elim fun dσ μ G s h p => ⟨dσ, μ, G, s, h, (g8.bind p).mono fun d μ1 G1 H1 x' h1 p1 v rv => g8.ok p1 h1 v rv⟩
theorem ds_if {t : DSt → M Bool} (hc : DT X Z c t) (ha : DB X Z sa f) (hb : DB X Z sb g) : DS X Z (.If c sa sb pos) (ifS t f g) :=
 DS.of (eG0 hc.h ha.h hb.h) fun E σ H hE0 => hE0.elim fun dσ μ G s h p => ⟨dσ, μ, G, s, h, (g8.bind p).mono fun x μ1 G1 H1 x' h1 p1 => by
  cases x with
  | true => exact ⟨dσ, μ1, G1, s.mono x', h1, p1⟩
  | false => exact ⟨dσ, μ1, G1, s.mono x', h1, p1⟩⟩
theorem dg_name {i : Nat} {x : Str} (hN : X.N.Nodup) (hi : X.N[i]? = some x) (hx : Loc X.env.scope x) (hf : X.fn x = true ∨ X.env.scope.names.lookup x = some .local) : DG X Z (.Name x pos) (q15 i) :=
 DG.of (dI1 hN hi hx hf) fun v σ H Q hE0 => hE0.elim fun d dσ μ G r s h p => g8.ok p h _ (s.put r i)
theorem dgs_nil : DGs X Z [] aI4 := DGs.of dF7 fun vs σ H Q hE0 => hE0.elim fun ds dσ μ G r s h p => by
 cases ds with
 | nil => cases r; exact ⟨rfl, g8.ok p h _ s⟩
 | cons _ _ => exact p.elim
theorem dgs_cons {gg : Fg} {gr : Fgs} (h1 : DG X Z e gg) (h2 : DGs X Z es gr) (hs : (assignEach (e :: es) X.env).map (·.2) = assign e X.env :: (assignEach es X.env).map (·.2)) : DGs X Z (e :: es) (J5 gg gr) :=
 DGs.of (cV8 h1.h h2.h hs) fun vs σ H Q hE0 => hE0.elim fun ds dσ μ G r s h p => by
  cases ds with
  | nil => exact p.elim
  | cons d t =>
    obtain ⟨v, vr, rfl, rv, rt⟩ := r
    exact ⟨v, vr, rfl, d, dσ, μ, G, rv, s, h, (g8.bind p).mono fun dσ1 μ1 G1 H1 x' h1 p1 σ1 s1 => ⟨t, dσ1, μ1, G1, rt.mono x', s1, h1, p1⟩⟩
theorem dg_tup {gs : Fgs} {k n : Nat} (hc : X.calm = true) (h : DGs X Z es gs) (hn : (assignEach es X.env).length = n) (hst : (assignEach es X.env).findIdx? (·.1) = none) : DG X Z (.Tuple es k pos) (aG2 n gs) :=
 DG.of (dO4 hc h.h hn hst) fun v σ H Q hE0 => hE0.elim fun d dσ μ G r s h p => by
  cases d with
  | tup l =>
    unfold j0 at r
    obtain ⟨a, vs, rfl, q, rl⟩ := r
    have p' : g8 (wc X) Z μ H ((if l.length = n then gs l dσ else M.stuck : M DSt) G) fun dσ' μ' _ H' => ∀ σ', M7 (wc X) μ' H' dσ' σ' → Q σ' H' := p
    split at p'
    · rename_i hl
      exact ⟨a, vs, rfl, q, by rw [← rl.length]; exact hl, l, dσ, μ, G, rl, s, h, p'⟩
    · exact p'.elim
  | _ => exact p.elim
theorem ds_asg {gg : Fg} (he : DE X Z e fa) (hg : DG X Z tg gg) (hs : swapsWithSole [tg] e pos.line X.env = pure false) (hw : swappedStores [tg] e X.env = pure none)
 (h1 : (assignEach [tg] X.env).map (·.2) = [assign tg X.env]) : DS X Z (.Assign [tg] e pos) (o9 fa gg) :=
 DS.of (dQ6 he.h hg.h hs hw h1) fun E σ H hE0 => hE0.elim fun dσ μ G s h p => ⟨dσ, μ, G, s, h, (g8.bind p).mono fun d μ1 G1 H1 x' h1 p1 v rv =>
  ⟨d, dσ, μ1, G1, rv, s.mono x', h1, (g8.bind p1).mono fun dσ2 μ2 G2 H2 x2 h2 p2 σ2 s2 => g8.ok p2 h2 σ2 s2⟩⟩
end
section
variable {X : Cx} {Z : XC} {c : Expr} {pos : Pos} {body : List Stmt} {t : DSt → M Bool} {f : Fs}
end
def aC0 (g : Fg) (b : Fs) (ck : DH → Bool) : List D → Fs
 | [] => fun σ G => if ck G then some (.ok (.nx σ), G) else none
 | d :: r => fun σ G => if ck G then (do
    match ← b (← g d σ) with
    | .nx σ' => aC0 g b ck r σ'
    | .ct σ' => aC0 g b ck r σ'
    | .bk σ' => pure (.nx σ')
    | .rt d => pure (.rt d) : M Fl) G else none
structure Src where
 items : List D
 ck : DH → Bool
def aI3 (it : DSt → M Src) (g : Fg) (b : Fs) : Fs := fun σ => do
 let s ← it σ
 aC0 g b s.ck s.items σ
def ItD (c : Wc) (μ : List Addr) (H : Hp) (J : It) (s : Src) : Prop := ∀ μ' G' H', Ext μ H μ' H' → J1 c μ' G' H' → s.ck G' = true → ∀ i : Nat,
 (∀ d, s.items[i]? = some d → J.go i H' ∧ ∀ x H2, J.yld i H' x H2 → Ext μ' H' μ' H2 ∧ J1 c μ' G' H2 ∧ j0 c μ' H2 d x) ∧ (s.items.length ≤ i → J.stop i H')
def cN0 (c : Wc) (Z : XC) (it : DSt → M Src) : TI := fun σ H R => ∃ dσ μ G, M7 c μ H dσ σ ∧ J1 c μ G H ∧ g8 c Z μ H (it dσ G) fun s μ' _ H' => ∀ J, ItD c μ' H' J s → R J H'
theorem cN0.elim {c : Wc} {Z : XC} {P : Prop} {it : DSt → M Src} {σ : St} {H : Hp} {R : It → Hp → Prop} (h : cN0 c Z it σ H R) (k : ∀ dσ μ G, M7 c μ H dσ σ → J1 c μ G H → g8 c Z μ H (it dσ G) (fun s μ' _ H' => ∀ J, ItD c μ' H' J s → R J H') → P) : P := by
 obtain ⟨e0, e1, e2, e3, e4, e5⟩ := h
 exact k e0 e1 e2 e3 e4 e5
structure DI (X : Cx) (Z : XC) (tg e : Expr) (it : DSt → M Src) : Prop where
 h : PI X tg e (cN0 (wc X) Z it)
theorem PI.mono {X : Cx} {tg e : Expr} {t t' : TI} (h : PI X tg e t) (k : ∀ σ H R, t' σ H R → t σ H R) : PI X tg e t' := fun pins s σ H R I q => h pins s σ H R I (k σ H R q)
theorem DI.of {X : Cx} {Z : XC} {tg e : Expr} {it : DSt → M Src} {t : TI} (h : PI X tg e t) (k : ∀ σ H R, cN0 (wc X) Z it σ H R → t σ H R) : DI X Z tg e it := ⟨PI.mono h k⟩
section
variable {X : Cx} {Z : XC} {iter tg : Expr} {pos : Pos} {body : List Stmt} {f : Fs} {gg : Fg} {it : DSt → M Src}
theorem ds_for (hp : PassesOwn (model X.prog X.w) X.A X.env X.xe) (hc : X.calm = true) (hi : DI X Z tg iter it) (hg : DG X Z tg gg) (hb : DB X Z body f) (hs : ∀ x, foldedSetIterable iter X.env x = pure x) :
 DS X Z (.For tg iter body [] pos) (aI3 it gg f) :=
 DS.of (dR0 hp hc hi.h hg.h hb.h hs) fun E σ H hE0 => hE0.elim fun dσ μ G s h p => ⟨dσ, μ, G, s, h, (g8.bind p).mono fun sr μ1 G1 H1 x' h1 p1 J hJ => by
  refine ⟨fun i m σ' H' => m = sr.items.length - i ∧ i ≤ sr.items.length ∧ ∃ dσ' μ' G', Ext μ1 H1 μ' H' ∧ M7 (wc X) μ' H' dσ' σ' ∧ J1 (wc X) μ' G' H' ∧
   g8 (wc X) Z μ' H' (aC0 gg f sr.ck (sr.items.drop i) dσ' G') fun fl μ2 _ H2 => bO7 (wc X) E fl μ2 H2,
   ⟨sr.items.length, by simp, Nat.zero_le _, dσ, μ1, G1, Ext.refl _ _, s.mono x', h1, p1⟩, ?_⟩
  rintro i m σ' H' ⟨rfl, hi', dσ', μ', G', k', s', h', p'⟩
  by_cases hlt : i < sr.items.length
  · rw [List.drop_eq_getElem_cons hlt] at p'
    unfold aC0 at p'
    split at p'
    · rename_i ck
      obtain ⟨q1, _⟩ := hJ μ' G' H' k' h' ck i
      obtain ⟨go, yl⟩ := q1 _ (List.getElem?_eq_getElem hlt)
      refine .inr ⟨go, fun σ2 H2 => ∃ dσ2 μ2 G2, Ext μ1 H1 μ2 H2 ∧ M7 (wc X) μ2 H2 dσ2 σ2 ∧ J1 (wc X) μ2 G2 H2 ∧
       g8 (wc X) Z μ2 H2 (aC0 gg f sr.ck (sr.items.drop (i + 1)) dσ2 G2) fun fl μ3 _ H3 => bO7 (wc X) E fl μ3 H3, fun σ2 H2 w => ⟨sr.items.length - (i + 1), by omega, rfl, hlt, w⟩, fun x H2 y => ?_⟩
      obtain ⟨k2, h2, rx⟩ := yl x H2 y
      have p2 := g8.bind (p'.from k2)
      refine ⟨_, dσ', μ', G', rx, s'.mono k2, h2, p2.mono fun dσ3 μ3 G3 H3 x3 h3 p3 σ3 s3 => ?_⟩
      refine ⟨dσ3, μ3, G3, s3, h3, (g8.bind p3).mono fun fl μ4 G4 H4 x4 h4 p4 => ?_⟩
      cases fl with
      | nx dσ4 => exact fun σ4 s4 => ⟨dσ4, μ4, G4, k'.trans (k2.trans (x3.trans x4)), s4, h4, p4⟩
      | ct dσ4 => exact fun σ4 s4 => ⟨dσ4, μ4, G4, k'.trans (k2.trans (x3.trans x4)), s4, h4, p4⟩
      | bk dσ4 => exact fun σ4 s4 => g8.ok p4 h4 σ4 s4
      | rt d => exact fun v r => g8.ok p4 h4 v r
    · exact p'.elim
  · have e : i = sr.items.length := by omega
    subst e
    rw [List.drop_length] at p'
    unfold aC0 at p'
    split at p'
    · rename_i ck
      obtain ⟨_, q2⟩ := hJ μ' G' H' k' h' ck sr.items.length
      exact .inl ⟨q2 (Nat.le_refl _), g8.ok p' h' σ' s'⟩
    · exact p'.elim⟩
end
noncomputable def aM4 (env : Env) : List (Str × NameKind) → List (Str × Addr) → List (Str × Addr)
 | [], cs => cs
 | (n, k) :: r, cs => aM4 env r (if k == .free then (match env.cells.lookup n with | some c => (n, c) :: cs | none => cs) else cs)
theorem bY9 {env : Env} : ∀ (l : List (Str × NameKind)) (cs : List (Str × Addr)), (∀ p ∈ l, p.2 = .free → ∃ c, env.cells.lookup p.1 = some c) →
 (forIn l cs (fun (x : Str × NameKind) (cs : List (Str × Addr)) => (match x with | (name, kind) => if (kind == NameKind.free) = true then do let c ← cellOf env name; pure (ForInStep.yield ((name, c) :: cs)) else pure (ForInStep.yield cs) : Sem (ForInStep (List (Str × Addr))))) : Sem (List (Str × Addr))) = pure (aM4 env l cs)
 | [], cs, _ => rfl
 | (n, k) :: r, cs, h => by
  have ih := fun cs' => bY9 r cs' fun p hp => h p (List.mem_cons_of_mem _ hp)
  rw [List.forIn_cons]
  unfold aM4
  cases hk : (k == NameKind.free) with
  | false =>
    have e : (match ((n, k) : Str × NameKind) with | (name, kind) => if (kind == NameKind.free) = true then do let c ← cellOf env name; pure (ForInStep.yield ((name, c) :: cs)) else pure (ForInStep.yield cs) : Sem (ForInStep (List (Str × Addr)))) = pure (ForInStep.yield cs) := by
     show (if (k == NameKind.free) = true then _ else _) = _
     rw [hk]; rfl
    rw [e]
    exact ih cs
  | true =>
    obtain ⟨c, hc⟩ := h (n, k) List.mem_cons_self (by simpa using hk)
    have hcell : cellOf env n = pure c := by unfold cellOf; rw [hc]
    have e : (match ((n, k) : Str × NameKind) with | (name, kind) => if (kind == NameKind.free) = true then do let c ← cellOf env name; pure (ForInStep.yield ((name, c) :: cs)) else pure (ForInStep.yield cs) : Sem (ForInStep (List (Str × Addr)))) = pure (ForInStep.yield ((n, c) :: cs)) := by
     show (if (k == NameKind.free) = true then (do let c ← cellOf env n; pure (ForInStep.yield ((n, c) :: cs))) else _) = _
     rw [hk, hcell]; rfl
    rw [e, hc]
    exact ih ((n, c) :: cs)
theorem bB0 {env : Env} {scope : Scope} (h : ∀ p ∈ scope.names, p.2 = .free → ∃ c, env.cells.lookup p.1 = some c) : closureFor scope env = pure (aM4 env scope.names []) := by
 have q := bY9 scope.names [] h
 unfold closureFor
 dsimp only
 rw [q]
 rfl
theorem bM1 {env : Env} {x : Str} {c : Addr} : ∀ (l : List (Str × NameKind)) (cs : List (Str × Addr)), (cs.lookup x = some c → env.cells.lookup x = some c) → (aM4 env l cs).lookup x = some c → env.cells.lookup x = some c
 | [], cs, h, e => h e
 | (n, k) :: r, cs, h, e => by
  unfold aM4 at e
  refine bM1 r _ (fun e1 => ?_) e
  split at e1
  · split at e1
    · rename_i c' hc
      rw [List.lookup_cons] at e1
      split at e1
      · rename_i hx
        have hx' : x = n := by simpa using hx
        subst hx'
        cases e1
        exact hc
      · exact h e1
    · exact h e1
  · exact h e1
theorem aA4 {env : Env} {x : Str} {c : Addr} {l : List (Str × NameKind)} (h : (aM4 env l []).lookup x = some c) : env.cells.lookup x = some c := bM1 l [] (fun z => by cases z) h
theorem bG1 {env : Env} {x : Str} : ∀ (l : List (Str × NameKind)) (cs : List (Str × Addr)), (∃ c, cs.lookup x = some c) → ∃ c, (aM4 env l cs).lookup x = some c
 | [], cs, h => h
 | (n, k) :: r, cs, h => by
  unfold aM4
  refine bG1 r _ ?_
  split
  · split
    · rename_i c' hc
      rw [List.lookup_cons]
      split
      · exact ⟨_, rfl⟩
      · exact h
    · exact h
  · exact h
theorem bC0 {env : Env} {x : Str} {c : Addr} (hc : env.cells.lookup x = some c) : ∀ (l : List (Str × NameKind)) (cs : List (Str × Addr)), (x, NameKind.free) ∈ l → ∃ c, (aM4 env l cs).lookup x = some c
 | [], cs, h => by simp at h
 | (n, k) :: r, cs, h => by
  unfold aM4
  rcases List.mem_cons.mp h with e | h
  · cases e
    refine bG1 r _ ?_
    rw [hc]
    simp
  · exact bC0 hc r _ h
section
variable {prog : Program} {w : World} {A : Around} {E : VSP} {R : Result → Shared → Prop} {s : Shared}
theorem bQ3 {elt target iter : Expr} {ifs : List Expr} {scope : Scope} {pos : Pos} {it acc : Value} {env : Env} (I : Nat → Shared → Prop)
 (turn : ∀ n s, I n s → wpAny (model prog w) A (pyNext it) (fun r s₁ => match r with
   | none => R (.ok .next) s₁
   | some v => wpAny (model prog w) A (letOwnedTupleGo target it v) (fun _ s₁' => wpAny (model prog w) A (assign target env v) (fun _ s₂ =>
      wpAny (model prog w) A (forIn ifs true fun c r => if r = true then do let ok ← isTrue c env (eval c env); pure (ForInStep.yield ok) else pure (ForInStep.yield r)) (fun ok s₃ =>
       if ok = true then wpAny (model prog w) A (eval elt env) (fun x s₄ =>
        wpAny (model prog w) A (call (.builtin "list.append") [acc, x]) (fun _ s₅ => ∃ m, m < n ∧ I m s₅) (fun _ _ => False) s₄) (fun _ _ => False) s₃
       else ∃ m, m < n ∧ I m s₃) (fun _ _ => False) s₂) (fun _ _ => False) s₁') (fun _ _ => False) s₁) (fun _ _ => False) s)
 (n : Nat) (h : I n s) :
 codeAny (model prog w) A (.compLoop (.ListComp elt [⟨target, iter, ifs, 0⟩] scope pos) 0 it acc env) R s := by
 refine codeAny_loop rfl I (fun n s hI => ?_) n h
 show wpAny _ A ((compTurn (.ListComp elt [⟨target, iter, ifs, 0⟩] scope pos) 0 it acc env).onRaise (fun x => do noteFrame x env; theTreesLotGoes x)) _ _ s
 refine wpAny_noted ?_
 rw [compTurn_list]
 refine wpAny_bind (wpAny_standAt (wpAny_bind (wpAny_mono (turn n s hI) (fun r s₁ h₁ => ?_) fun _ _ h' => h'.elim)))
 cases r with
 | none => exact wpAny_pure h₁
 | some v =>
   refine wpAny_bind (wpAny_mono h₁ (fun _ s₁' h₁' => ?_) fun _ _ h' => h'.elim)
   refine wpAny_bind (wpAny_mono h₁' (fun _ s₂ h₂ => wpAny_bind (wpAny_mono h₂ (fun ok s₃ h₃ => ?_) fun _ _ h' => h'.elim)) fun _ _ h' => h'.elim)
   cases ok with
   | true =>
     exact wpAny_bind (wpAny_bind (wpAny_mono h₃ (fun x s₄ h₄ => wpAny_bind (wpAny_mono h₄ (fun _ s₅ h₅ => wpAny_pure (wpAny_pure ⟨rfl, h₅⟩)) fun _ _ h' => h'.elim)) fun _ _ h' => h'.elim))
   | false =>
     exact wpAny_pure ⟨rfl, h₃⟩
end
def U7 (X : Cx) (scope : Scope) (N : List Str) (C : Addr) (s : Shared) (H : Hp) (ex : List Addr) : Cx where
 prog := X.prog
 w := X.w
 K := X.K
 mg := X.mg
 base := X.base
 A := X.A
 N := N
 s₀ := s
 H₀ := H
 env := compEnvC scope (aM4 X.env scope.names []) C X.env
 outer := X.stack
 stack := X.stack
 ex := ex
 fn := fun _ => false
 calm := X.calm
 pn := []
 xe := fun _ _ => False
structure aG1 (X : Cx) (scope : Scope) (N : List Str) (caps : List (Option Nat)) : Prop where
 kind : scope.kind = .function
 cell : ∀ y ∈ scope.names, y.2 ≠ .cell
 names : ∀ y ∈ scope.names, y.2 = .local → scope.names.lookup y.1 = some .local
 free : ∀ y ∈ scope.names, y.2 = .free → X.env.kindOf y.1 = some .cell ∨ X.env.kindOf y.1 = some .free
 frees : ∀ y ∈ scope.names, y.2 = .free → scope.names.lookup y.1 = some .free
 len : caps.length = N.length
 caps : ∀ (i j : Nat), caps[i]? = some (some j) → ∃ x, N[i]? = some x ∧ X.N[j]? = some x ∧ (x, NameKind.free) ∈ scope.names
def U6 {α : Type} (caps : List (Option Nat)) (σ : List (Option α)) : List (Option α) := caps.map fun o => o.bind fun j => (σ[j]?).join
theorem aV5 {env : Env} {x : Str} : ∀ names : List (Str × NameKind), (names.map fun (n, k) => if (k == NameKind.free && env.scope.kind == .function && env.kindOf n == some .cell) then (n, NameKind.cell) else (n, k)).lookup x =
 (names.lookup x).map fun k => if (k == NameKind.free && env.scope.kind == .function && env.kindOf x == some .cell) then NameKind.cell else k
 | [] => rfl
 | (n, k) :: r => by
  have ih := aV5 (env := env) (x := x) r
  rw [List.map_cons]
  by_cases hx : x = n
  · subst hx
    dsimp only
    split
    · rename_i h; simp [List.lookup_cons]; simp at h; simp [h]
    · rename_i h; simp [List.lookup_cons]; simp at h; intro a b c; exact absurd c (h a b)
  · have hb : (x == n) = false := by simpa using hx
    dsimp only
    split
    · rw [List.lookup_cons, List.lookup_cons, hb]; exact ih
    · rw [List.lookup_cons, List.lookup_cons, hb]; exact ih
section
variable {X : Cx} {scope : Scope} {N : List Str} {caps : List (Option Nat)} {C : Addr} {pins : PNS} {σ : St} {H : Hp} {s : Shared} {ex : List Addr}
theorem aG1.isFree (k : aG1 X scope N caps) {x : Str} (h : (relabel scope X.env).names.lookup x = some .cell ∨ (relabel scope X.env).names.lookup x = some .free) : (x, NameKind.free) ∈ scope.names := by
 have e : (relabel scope X.env).names.lookup x = (scope.names.lookup x).map fun k => if (k == NameKind.free && X.env.scope.kind == .function && X.env.kindOf x == some .cell) then NameKind.cell else k := aV5 scope.names
 rw [e] at h
 cases hl : scope.names.lookup x with
 | none => rw [hl] at h; rcases h with h | h <;> cases h
 | some kd =>
   rw [hl] at h
   have hm := PySem.mem_of_lookup hl
   have hn := k.cell _ hm
   simp only [Option.map_some] at h
   cases kd with
   | free => exact hm
   | cell => exact absurd rfl hn
   | _ => rcases h with h | h <;> simp at h
theorem aG1.cells (k : aG1 X scope N caps) (ok : X.Ok) : ∀ p ∈ scope.names, p.2 = .free → ∃ c, X.env.cells.lookup p.1 = some c := fun p hp e => ok.has p.1 (k.free p hp e)
theorem cR0 (I : Inv X pins σ H s) (k : aG1 X scope N caps) (hC : s.heap.objs.size ≤ C) (hex : ∀ b ∈ ex, aR2 X pins H b) (hlt : ∀ b ∈ ex, b < s.heap.objs.size) : (U7 X scope N C s H ex).Ok where
 mod := I.ok.mod
 kind := k.kind
 glob := I.ok.glob
 blt := I.ok.blt
 above := hC
 inj := fun x y c h1 h2 => I.ok.inj x y c (aA4 h1) (aA4 h2)
 has := fun x hx => by
  have hm := k.isFree hx
  obtain ⟨c, hc⟩ := k.cells I.ok _ hm rfl
  exact bC0 hc _ _ hm
 cab := fun x c h => by cases h
 hd := I.ok.hd
 frames := I.ok.frames
 stk := .inl rfl
 exf := fun b hb => ⟨Nat.ne_of_lt (Nat.lt_of_lt_of_le (hlt b hb) hC), fun x c e => (hex b hb).2.2.2.2.1 x c (aA4 e)⟩
 bs := I.bs
 bsz := Nat.le_trans I.ok.bsz I.sz
 noex := fun b o e hb => by
  rcases (hex b hb).2.2.2.1 with z | z
  · exact I.ok.noex b o e z
  · exact absurd (Nat.lt_of_lt_of_le (Heap.lt_size (I.ok.bs b o e).1) z) (Nat.lt_irrefl _)
 exfs := fun b hb z => by
  rcases List.mem_cons.mp (I.stkSub b z) with e | e
  · exact (hex b hb).2.1 e
  · exact (hex b hb).2.2.1 e
 funs := I.stack
 frf := I.stkFree
theorem bM9 {α : Type} {caps : List (Option Nat)} {σ : List (Option α)} {i : Nat} {v : α} (h : (U6 caps σ)[i]? = some (some v)) : ∃ j, caps[i]? = some (some j) ∧ σ[j]? = some (some v) := by
 unfold U6 at h
 rw [List.getElem?_map] at h
 cases e : caps[i]? with
 | none => rw [e] at h; cases h
 | some o =>
   rw [e] at h
   cases o with
   | none => cases h
   | some j =>
     refine ⟨j, rfl, ?_⟩
     simp only [Option.map_some, Option.bind_some, Option.some.injEq] at h
     cases e2 : σ[j]? with
     | none => rw [e2] at h; cases h
     | some w => rw [e2] at h; simp at h; rw [h]
theorem cD1 {h₁ : Heap} {tk : Nat} (I : Inv X pins σ H s) (k : aG1 X scope N caps) (hC : s.heap.objs.size < C) (hex : ∀ b ∈ ex, aR2 X pins H b) (hlt : ∀ b ∈ ex, b < s.heap.objs.size)
 (old : ∀ b o, s.heap.get? b = some o → h₁.get? b = some o) (hns : h₁.Ns C fun _ => none) (hacc : h₁.get? s.heap.objs.size = some { cls := .type "list", data := .seq ([] : List Value).toArray 0 }) :
 Inv (U7 X scope N C s H ex) [] (U6 caps σ) (upd H s.heap.objs.size (.lst [])) { s with heap := h₁, toks := tk } := by
 have hD : H s.heap.objs.size = none := I.hok.fresh (Nat.le_refl _)
 refine ⟨cR0 I k (Nat.le_of_lt hC) hex hlt, rfl, I.bare, Un.laid old (Nat.le_refl _) hD, ⟨_, hns, fun i x v h1 h2 h3 => ?_⟩, fun x c e => ?_, ?_, fun x c e => ?_, fun p hp => absurd (show p ∈ ([] : PNS) from hp) (by simp), ?_, ?_⟩
 · obtain ⟨j, e1, e2⟩ := bM9 h2
   obtain ⟨y, e3, e4, e5⟩ := k.caps i j e1
   have exy : y = x := by
    have : some y = some x := e3.symm.trans h1
    exact Option.some.inj this
   subst exy
   have hk := k.free _ e5 rfl
   obtain ⟨m, hn, hl⟩ := I.loc
   obtain ⟨u, r, l⟩ := hl j y v e4 e2 (by rcases hk with z | z; exact .inr (.inl z); exact .inr (.inr z))
   refine ⟨u, r, .inr ?_⟩
   rcases l with ⟨z, _⟩ | ⟨_, c, ec, hc⟩
   · rcases hk with z' | z' <;> (rw [z] at z'; cases z')
   · refine ⟨?_, c, ?_, ?_⟩
     · rcases h3 with h3 | h3 | h3
       · exfalso
         have e : (relabel scope X.env).names.lookup y = (scope.names.lookup y).map fun k => if (k == NameKind.free && X.env.scope.kind == .function && X.env.kindOf y == some .cell) then NameKind.cell else k := aV5 scope.names
         have h3' : (relabel scope X.env).names.lookup y = some .local := h3
         rw [e] at h3'
         rw [k.frees _ e5 rfl] at h3'
         simp only [Option.map_some] at h3'
         split at h3' <;> cases h3'
       · exact .inl h3
       · exact .inr h3
     · obtain ⟨c', ec'⟩ := bC0 ec scope.names [] e5
       have := aA4 ec'
       rw [ec] at this
       cases this
       exact ec'
     · obtain ⟨o, ho, hd⟩ := hc
       exact ⟨o, old _ _ ho, hd⟩
 · obtain ⟨v, o, ho, hd⟩ := I.cell x c (aA4 e)
   exact ⟨v, o, old _ _ ho, hd⟩
 · show upd H s.heap.objs.size (.lst []) C = none
   rw [J6 (Nat.ne_of_gt hC)]
   exact I.hok.fresh (Nat.le_of_lt hC)
 · obtain ⟨v, o, ho, hd⟩ := I.cell x c (aA4 e)
   rw [J6 (Nat.ne_of_lt (Heap.lt_size ho))]
   exact I.freeC x c (aA4 e)
 · exact I.hok.laid old (Nat.le_refl _) ⟨Nat.zero_le _, [], 0, .nil, hacc⟩
 · show (U6 caps σ).length = N.length
   unfold U6
   rw [List.length_map]; exact k.len
theorem cU7 {pins' : PNS} {σ' : St} {H' : Hp} {s' : Shared} {h' : Heap} (I : Inv X pins σ H s) (hex : ∀ b ∈ ex, aR2 X pins H b) (hC : s.heap.objs.size < C)
 (I' : Inv (U7 X scope N C s H ex) pins' σ' H' s') (sb : Heap.SameBut C s'.heap h') : Inv X pins σ H' { s' with heap := h' } := by
 have hos : s'.os = s.os := I'.os
 have hfree : H' C = none := I'.free
 have neC : ∀ b o, s.heap.get? b = some o → b ≠ C := fun b o e z => by
  have := Heap.lt_size e
  rw [z] at this
  exact absurd (Nat.lt_trans hC this) (Nat.lt_irrefl _)
 have hun : Un (frs X.stack) ex H H' s.heap s'.heap := I'.base
 have hun2 : Un (frs X.stack) ex H H' s.heap h' := by
  refine ⟨fun b o e n hb hx => (sb.2 b (neC b o e)).trans (hun.keep b o e n hb hx), fun b o e n hb hx => ?_, hun.free, fun b o e hx => ?_, hun.tups, hun.frzs, hun.tbls⟩
  · obtain ⟨sl, q⟩ := hun.slot b o e n hb hx
    exact ⟨sl, (sb.2 b (neC b o e)).trans q⟩
  · obtain ⟨o', q⟩ := hun.there b o e hx
    exact ⟨o', (sb.2 b (neC b o e)).trans q⟩
 have hok2 : HOk X.prog X.w H' h' := fun a o e => by
  have nc : ∀ c u, H' c = some u → c ≠ C := fun c u q z => by rw [z, hfree] at q; cases q
  refine (I'.hok a o e).stay (fun b u hb q => ?_) (fun _ q => q) fun _ _ q => q
  rcases hb with rfl | hb
  · exact (sb.2 b (nc b o e)).trans q
  · exact (sb.2 b (nc b _ hb)).trans q
 obtain ⟨hh, g, d, t, os'⟩ := s'
 obtain rfl : os' = s.os := hos
 have fin := I.call (h' := h') (g' := g) (d' := d) (t' := t) (ch := ex) hun2 hok2 I'.bare fun b hb => ⟨(hex b hb).2.2.2.1, (hex b hb).2.1, (hex b hb).2.2.2.2.1, (hex b hb).2.2.2.2.2⟩
 exact fin
end
noncomputable def hide (q : Addr) (H : Hp) : Hp := fun b => if b = q then none else H b
theorem aI7 {q : Addr} {H : Hp} : hide q H q = none := by unfold hide; rw [if_pos rfl]
theorem W8 {q b : Addr} {H : Hp} (h : b ≠ q) : hide q H b = H b := by unfold hide; rw [if_neg h]
theorem U8 {q b : Addr} {H : Hp} {o : HO} (h : hide q H b = some o) : b ≠ q ∧ H b = some o := by
 by_cases e : b = q
 · rw [e, aI7] at h; cases h
 · rw [W8 e] at h; exact ⟨e, h⟩
theorem cX2 {q : Addr} {H : Hp} {o : HO} (h : H q = some o) : upd (hide q H) q o = H := by
 funext b
 by_cases e : b = q
 · rw [e, S9, h]
 · rw [J6 e, W8 e]
theorem aR8 {q : Addr} {H : Hp} {o : HO} : hide q (upd H q o) = hide q H := by
 funext b
 by_cases e : b = q
 · rw [e, aI7, aI7]
 · rw [W8 e, W8 e, J6 e]
theorem aT2 {q : Addr} {H : Hp} (h : H q = none) : hide q H = H := by
 funext b
 by_cases e : b = q
 · rw [e, aI7, h]
 · rw [W8 e]
section
variable {c : Wc} {μ μ' : List Addr} {H H' : Hp} {G : DH} {q : Addr} {vs : List V}
mutual
theorem j0.sq (k : ∀ a xs, SqT c.K H a xs → SqT c.K H' a xs) : ∀ {d : D} {v : V}, j0 c μ H d v → j0 c μ H' d v
 | .non, _, h => h
 | .bl _, _, h => h
 | .int _, _, h => h
 | .str _, _, h => h
 | .ty _, _, h => h
 | .fn _, _, h => h
 | .ref i, v, h => by unfold j0 at h ⊢; exact h
 | .tup l, v, h => by
   unfold j0 at h ⊢
   obtain ⟨a, vs, e, q, r⟩ := h
   exact ⟨a, vs, e, k _ _ q, w6.sq k r⟩
theorem w6.sq (k : ∀ a xs, SqT c.K H a xs → SqT c.K H' a xs) : ∀ {l : List D} {vs : List V}, w6 c μ H l vs → w6 c μ H' l vs
 | [], _, h => h
 | d :: ds, vs, h => by
   unfold w6 at h ⊢
   obtain ⟨v, r, e, q, t⟩ := h
   exact ⟨v, r, e, j0.sq k q, w6.sq k t⟩
end
theorem aB5.sq (k : ∀ a xs, SqT c.K H a xs → SqT c.K H' a xs) : ∀ {l : List (Key × D)} {vs : List (Key × V)}, aB5 c μ H l vs → aB5 c μ H' l vs
 | [], _, h => h
 | (_, d) :: ds, vs, h => by
  obtain ⟨v, r, e, q, t⟩ := h
  exact ⟨v, r, e, j0.sq k q, aB5.sq k t⟩
theorem aI8 (hq : H q = some (.lst vs)) {K : PySem.W.Frag} (a : Addr) (xs : List V) (h : SqT K H a xs) : SqT K (hide q H) a xs := by
 rcases h with (h | ⟨o, h⟩) | h
 · exact .inl (.inl (by rw [W8 (fun e => by rw [e, hq] at h; cases h)]; exact h))
 · exact .inl (.inr ⟨o, by rw [W8 (fun e => by rw [e, hq] at h; cases h)]; exact h⟩)
 · exact .inr h
theorem aJ4 {K : PySem.W.Frag} (a : Addr) (xs : List V) (h : SqT K (hide q H) a xs) : SqT K H a xs := by
 rcases h with (h | ⟨o, h⟩) | h
 · exact .inl (.inl (U8 h).2)
 · exact .inl (.inr ⟨o, (U8 h).2⟩)
 · exact .inr h
theorem M7.sq (k : ∀ a xs, SqT c.K H a xs → SqT c.K H' a xs) {dσ : DSt} {σ : St} (h : M7 c μ H dσ σ) : M7 c μ H' dσ σ := ⟨h.1, fun i d e => let ⟨v, a, b⟩ := h.2 i d e; ⟨v, a, b.sq k⟩⟩
theorem Ext.hide (x : Ext μ H μ' H') (n : q ∉ μ) (hq : H q = some (.lst vs)) : H' q = some (.lst vs) ∧ q ∉ μ' ∧ Ext μ (DL.hide q H) μ' (DL.hide q H') := by
 refine ⟨x.oth q _ hq n, fun h => ?_, x.pre, fun a h1 h2 => ?_, fun b o e nb => ?_, fun b xs e => ?_, fun b o u e => ?_⟩
 · have := x.new q h n; rw [hq] at this; cases this
 · by_cases e : a = q
   · rw [e, aI7]
   · rw [W8 e]; exact x.new a h1 h2
 · obtain ⟨e1, e2⟩ := U8 e; rw [W8 e1]; exact x.oth b o e2 nb
 · obtain ⟨e1, e2⟩ := U8 e; rw [W8 e1]; exact x.tup b xs e2
 · obtain ⟨e1, e2⟩ := U8 e; rw [W8 e1]; exact x.frz b o u e2
theorem Ext.unhide (x : Ext μ H μ' (DL.hide q H')) : Ext μ H μ' H' :=
 ⟨x.pre, x.new, fun b o e n => (U8 (x.oth b o e n)).2, fun b xs e => (U8 (x.tup b xs e)).2, fun b o u e => (U8 (x.frz b o u e)).2⟩
theorem J1.hide (h : J1 c μ G H) (n : q ∉ μ) (hq : H q = some (.lst vs)) : J1 c μ G (DL.hide q H) :=
 ⟨h.len, h.inj, fun i o a g m => by
  have na : a ≠ q := fun e => n (by rw [← e]; exact List.mem_of_getElem? m)
  have r := h.obj i o a g m
  cases o with
  | lst l => obtain ⟨ws, e, r⟩ := r; exact ⟨ws, by rw [W8 na]; exact e, r.sq (aI8 hq)⟩
  | dct l => obtain ⟨ws, e, r⟩ := r; exact ⟨ws, by rw [W8 na]; exact e, r.sq (aI8 hq)⟩
  | rod l => obtain ⟨ws, o, e, r⟩ := r; exact ⟨ws, o, by rw [W8 na]; exact e, r.sq (aI8 hq)⟩
  | rol l =>
    obtain ⟨ws, e, r⟩ := r
    refine ⟨ws, ?_, r.sq (aI8 hq)⟩
    rcases e with ⟨o, e⟩ | e
    · exact .inl ⟨o, by rw [W8 na]; exact e⟩
    · exact .inr e⟩
theorem J1.unhide (h : J1 c μ G (DL.hide q H)) : J1 c μ G H :=
 ⟨h.len, h.inj, fun i o a g m => by
  have r := h.obj i o a g m
  cases o with
  | lst l => obtain ⟨ws, e, r⟩ := r; exact ⟨ws, (U8 e).2, r.sq aJ4⟩
  | dct l => obtain ⟨ws, e, r⟩ := r; exact ⟨ws, (U8 e).2, r.sq aJ4⟩
  | rod l => obtain ⟨ws, o, e, r⟩ := r; exact ⟨ws, o, (U8 e).2, r.sq aJ4⟩
  | rol l =>
    obtain ⟨ws, e, r⟩ := r
    refine ⟨ws, ?_, r.sq aJ4⟩
    rcases e with ⟨o, e⟩ | e
    · exact .inl ⟨o, (U8 e).2⟩
    · exact .inr e⟩
theorem g8.unhide {α : Type} {Z : XC} {r : Option (Except Str α × DH)} {K : α → List Addr → DH → Hp → Prop} (n : q ∉ μ) (hq : H q = some (.lst vs)) (p : g8 c ZF μ (DL.hide q H) r K) :
 g8 c Z μ H r fun a μ' G' H' => H' q = some (.lst vs) ∧ q ∉ μ' ∧ J1 c μ' G' (DL.hide q H') ∧ Ext μ (DL.hide q H) μ' (DL.hide q H') ∧ K a μ' G' (DL.hide q H') := by
 match r, p with
 | some (.ok a, G'), p =>
   intro μ' H' x h
   obtain ⟨e1, e2, e3⟩ := x.hide n hq
   have h2 := h.hide e2 e1
   exact ⟨e1, e2, h2, e3, p μ' _ e3 h2⟩
 | some (.error z, G'), p =>
   intro μ' H' x h
   obtain ⟨e1, e2, e3⟩ := x.hide n hq
   exact (p μ' _ e3 (h.hide e2 e1)).elim
theorem J1.mem_lt {X : Cx} {pins : PNS} {σ : St} {s : Shared} (I : Inv X pins σ H s) (h : J1 (wc X) μ G H) {a : Addr} (ha : a ∈ μ) : a < s.heap.objs.size := by
 obtain ⟨i, hi⟩ := List.getElem?_of_mem ha
 have hl : i < G.length := by rw [← h.len]; exact lt_of_get hi
 have r := h.obj i G[i] a (List.getElem?_eq_getElem hl) hi
 cases e : G[i] with
 | lst l => rw [e] at r; obtain ⟨_, e, _⟩ := r; exact I.hok.lt e
 | dct l => rw [e] at r; obtain ⟨_, e, _⟩ := r; exact I.hok.lt e
 | rod l => rw [e] at r; obtain ⟨_, _, e, _⟩ := r; exact I.hok.lt e
 | rol l =>
   rw [e] at r
   obtain ⟨ws, e, _⟩ := r
   rcases e with ⟨o, e⟩ | e
   · exact I.hok.lt e
   · rcases e with (e | ⟨o, e⟩) | ⟨o, its, n, e, _⟩
     · cases e
     · cases e
     · exact Heap.lt_size (I.kIn a o e)
end
def PTs (X : Cx) (ifs : List Expr) (t : TT) : Prop :=
 ∀ (pins : PNS) (s : Shared) (σ : St) (H : Hp) (Q : Bool → Hp → Prop), Inv X pins σ H s → t σ H Q →
  wpAny (model X.prog X.w) X.A (forIn ifs true fun c r => if r = true then do let ok ← isTrue c X.env (eval c X.env); pure (ForInStep.yield ok) else pure (ForInStep.yield r)) (TP X pins σ Q) X.xe s
structure DTs (X : Cx) (Z : XC) (ifs : List Expr) (f : DSt → M Bool) : Prop where
 h : PTs X ifs (bJ0 (wc X) Z f)
def V2 : DSt → M Bool := fun _ => pure true
theorem dts_nil {X : Cx} {Z : XC} : DTs X Z [] V2 := ⟨fun pins s σ H Q I hE0 => hE0.elim fun dσ μ G sr h p => wpAny_tests_nil ⟨H, I, g8.ok p h⟩⟩
theorem dts_one {X : Cx} {Z : XC} {c : Expr} {t : DSt → M Bool} (h : DT X Z c t) : DTs X Z [c] t := ⟨fun pins s σ H Q I q => wpAny_tests_one (h.h pins s σ H Q I q)⟩
def K4 (g : Fg) (t : DSt → M Bool) (e : Fe) (ck : DH → Bool) : List D → DSt → M (List D)
 | [] => fun _ G => if ck G then some (.ok [], G) else none
 | d :: r => fun σ G => if ck G then (do
    let σ1 ← g d σ
    if ← t σ1 then do
     let y ← e σ1
     let ys ← K4 g t e ck r σ1
     pure (y :: ys)
    else K4 g t e ck r σ1 : M (List D)) G else none
def R8 (it : DSt → M Src) (caps : List (Option Nat)) (g : Fg) (t : DSt → M Bool) (e : Fe) : Fe := fun σ => do
 let s ← it σ
 if s.items.length ≤ sizeLine then do
  let ys ← noX (K4 g t e s.ck s.items (U6 caps σ))
  N5 (.lst ys)
 else M.stuck
theorem cO5 {c : Wc} {μ : List Addr} {H : Hp} {caps : List (Option Nat)} {dσ : DSt} {σ : St} (h : M7 c μ H dσ σ) : M7 c μ H (U6 caps dσ) (U6 caps σ) := by
 refine ⟨by simp [U6], fun i d e => ?_⟩
 obtain ⟨j, e1, e2⟩ := bM9 e
 obtain ⟨v, e3, r⟩ := h.2 j d e2
 refine ⟨v, ?_, r⟩
 unfold U6
 rw [List.getElem?_map, e1]
 simp [e3]
section
variable {X : Cx} {Z : XC} {elt tg iter : Expr} {ifs : List Expr} {scope : Scope} {pos : Pos} {N : List Str} {caps : List (Option Nat)} {it : DSt → M Src} {gg : Fg} {tt : DSt → M Bool} {fe : Fe}
set_option maxHeartbeats 1000000 in
def CKV (c : Wc) (Q : VK) (d : D) (μ' : List Addr) (_ : DH) (H' : Hp) : Prop := ∀ v, j0 c μ' H' d v → Q v H'
def CKR (c : Wc) (Z : XC) (Q : VK) (ys W2 : List D) (μ : List Addr) (G : DH) (H : Hp) : Prop := g8 c Z μ H (N5 (.lst (ys ++ W2)) G) (CKV c Q)
def dM5 (gg : Fg) (tt : DSt → M Bool) (fe : Fe) (ck : DH → Bool) (items : List D) (σ : DSt) (y : D) : M (List D) := do let ys ← K4 gg tt fe ck items σ; pure (y :: ys)
def cH7 (gg : Fg) (tt : DSt → M Bool) (fe : Fe) (ck : DH → Bool) (items : List D) (σ : DSt) (b : Bool) : M (List D) := if b = true then (do let y ← fe σ; let ys ← K4 gg tt fe ck items σ; pure (y :: ys)) else K4 gg tt fe ck items σ
def dQ2 (gg : Fg) (tt : DSt → M Bool) (fe : Fe) (ck : DH → Bool) (items : List D) (σ : DSt) : M (List D) := do if ← tt σ then do { let y ← fe σ; let ys ← K4 gg tt fe ck items σ; pure (y :: ys) } else K4 gg tt fe ck items σ
def CG (X : Cx) (Z : XC) (Q : VK) (vs : List V) (DD : Addr) (ys : List D) (μ' : List Addr) (H5 : Hp) (m : DSt → M (List D)) (σ6 : St) (H6 : Hp) : Prop := ∃ dσ6 μ6 G6, M7 (wc X) μ6 H6 dσ6 σ6 ∧ J1 (wc X) μ6 G6 H6 ∧ H6 DD = some (.lst vs) ∧ DD ∉ μ6 ∧ J1 (wc X) μ6 G6 (hide DD H6) ∧ Ext μ' (hide DD H5) μ6 (hide DD H6) ∧ g8 (wc X) ZF μ6 (hide DD H6) (m dσ6 G6) (CKR (wc X) Z Q ys)
def CT (X : Cx) (Z : XC) (Q : VK) (vs : List V) (DD : Addr) (ys : List D) (dσ6 : DSt) (σ6 : St) (μ6 : List Addr) (H6 : Hp) (m : Bool → M (List D)) (b : Bool) (H7 : Hp) : Prop := ∃ μ7 G7, M7 (wc X) μ7 H7 dσ6 σ6 ∧ J1 (wc X) μ7 G7 H7 ∧ H7 DD = some (.lst vs) ∧ DD ∉ μ7 ∧ J1 (wc X) μ7 G7 (hide DD H7) ∧ Ext μ6 (hide DD H6) μ7 (hide DD H7) ∧ g8 (wc X) ZF μ7 (hide DD H7) (m b G7) (CKR (wc X) Z Q ys)
def CE (X : Cx) (Z : XC) (Q : VK) (vs : List V) (DD : Addr) (ys : List D) (dσ6 : DSt) (σ6 : St) (μ7 : List Addr) (H7 : Hp) (m : D → M (List D)) (v : V) (H8 : Hp) : Prop := ∃ y μ8 G8, j0 (wc X) μ8 H8 y v ∧ M7 (wc X) μ8 H8 dσ6 σ6 ∧ J1 (wc X) μ8 G8 H8 ∧ H8 DD = some (.lst vs) ∧ DD ∉ μ8 ∧ J1 (wc X) μ8 G8 (hide DD H8) ∧ Ext μ7 (hide DD H7) μ8 (hide DD H8) ∧ g8 (wc X) ZF μ8 (hide DD H8) (m y G8) (CKR (wc X) Z Q ys)
def dE2 (Y : Cx) (Z : XC) (Q : VK) (gg : Fg) (tt : DSt → M Bool) (fe : Fe) (src : Src) (fp : List Addr) (tn : Nat → Heap → Prop) (DD : Addr) (μ2 : List Addr) (H2 : Hp) (n : Nat) (s' : Shared) : Prop :=
 ∃ (i : Nat) (ys : List D) (vs : List V) (σ' : St) (H' : Hp) (dσ' : DSt) (μ' : List Addr) (G' : DH), n = src.items.length - i ∧ i ≤ src.items.length ∧ vs.length ≤ i ∧
  Inv Y [] σ' H' s' ∧ tn i s'.heap ∧ (∀ b ∈ fp, H' b = none) ∧ H' DD = some (.lst vs) ∧ DD ∉ μ' ∧
  Ext μ2 H2 μ' (hide DD H') ∧ J1 (wc Y) μ' G' (hide DD H') ∧ M7 (wc Y) μ' (hide DD H') dσ' σ' ∧ w6 (wc Y) μ' (hide DD H') ys vs ∧
  g8 (wc Y) ZF μ' (hide DD H') (K4 gg tt fe src.ck (src.items.drop i) dσ' G') (CKR (wc Y) Z Q ys)
theorem cP4 {Y : Cx} {Q : VK} {src : Src} {fp : List Addr} {tn : Nat → Heap → Prop} {DD it : Addr} {μ2 : List Addr} {H2 : Hp} {J : It} {R : Result → Shared → Prop} (hcX : Y.calm = true) (hg : DG Y ZF tg gg) (ht : DTs Y ZF ifs tt) (he : DE Y ZF elt fe) (T : bK4 Y.prog Y.w Y.K tg J fp it tn)
 (fpX : ∀ (H' : Hp) (b : Addr), b ∈ fp → H' b = none → aR2 Y [] H' b) (hJ : ItD (wc Y) μ2 H2 J src) (hlen : src.items.length ≤ sizeLine) (fin : ∀ (H' : Hp) (σ' : St) (s4 : Shared), Inv Y [] σ' H' s4 → Q (.ref DD) H' → R (.ok .next) s4) (n : Nat) (s' : Shared) (h : dE2 Y Z Q gg tt fe src fp tn DD μ2 H2 n s') :
 wpAny (model Y.prog Y.w) Y.A (pyNext (.ref it)) (fun r s₁ => match r with
  | none => R (.ok .next) s₁
  | some v => wpAny (model Y.prog Y.w) Y.A (letOwnedTupleGo tg (.ref it) v) (fun _ s₁' => wpAny (model Y.prog Y.w) Y.A (assign tg Y.env v) (fun _ s₂ =>
     wpAny (model Y.prog Y.w) Y.A (forIn ifs true fun c r => if r = true then do let ok ← isTrue c Y.env (eval c Y.env); pure (ForInStep.yield ok) else pure (ForInStep.yield r)) (fun ok s₃ =>
      if ok = true then wpAny (model Y.prog Y.w) Y.A (eval elt Y.env) (fun x s₄ =>
       wpAny (model Y.prog Y.w) Y.A (call (.builtin "list.append") [.ref DD, x]) (fun _ s₅ => ∃ m, m < n ∧ dE2 Y Z Q gg tt fe src fp tn DD μ2 H2 m s₅) Y.xe s₄) Y.xe s₃
      else ∃ m, m < n ∧ dE2 Y Z Q gg tt fe src fp tn DD μ2 H2 m s₃) Y.xe s₂) Y.xe s₁') Y.xe s₁) Y.xe s' := by
 obtain ⟨i, ys, vs, σ', H', dσ', μ', G', rfl, hi', hvl, I', st', fr', hvs, nD', x', h', sr', rl, p'⟩ := h
 by_cases hlt : i < src.items.length
 · rw [List.drop_eq_getElem_cons hlt] at p'
   unfold K4 at p'
   split at p'
   case isFalse => exact p'.elim
   rename_i ck
   obtain ⟨q1, _⟩ := hJ μ' G' H' x'.unhide h'.unhide ck i
   obtain ⟨go, yl⟩ := q1 _ (List.getElem?_eq_getElem hlt)
   refine thn (T.item (Y) rfl rfl rfl hcX i [] s' σ' H' Y.xe I' (fun b hb => fpX H' b hb (fr' b hb)) st' go) fun r s4 z4 => ?_
   obtain ⟨u, rfl, h4⟩ := z4
   refine thn h4 fun _ s5 z5 => ?_
   obtain ⟨x, H5, I5, r5, y5, st5, fr5⟩ := z5
   obtain ⟨k5, h5, rx5⟩ := yl x H5 y5
   obtain ⟨e5, n5, k5'⟩ := k5.hide nD' hvs
   have I5' := I5.pinned (fun b hb => fpX H5 b hb (fr5 b hb)) (T.obj _ _ st5)
   have keepIt : ∀ {σ7 : St} {H7 : Hp} {s7 : Shared}, Inv (Y) ([] ++ bI7 fp s5.heap) σ7 H7 s7 → Inv (Y) [] σ7 H7 s7 ∧ tn (i + 1) s7.heap ∧ ∀ b ∈ fp, H7 b = none := fun {σ7 H7 s7} I7 => by
    refine ⟨I7.unpinned, T.keep _ _ _ st5 fun b hb o e => (I7.pin (b, o) (List.mem_append_right _ (List.mem_append_right _ (aI9 hb e)))).1, fun b hb => ?_⟩
    obtain ⟨o, e, d⟩ := T.obj _ _ st5 b hb
    exact (I7.pin (b, o) (List.mem_append_right _ (List.mem_append_right _ (aI9 hb e)))).2.1
   have p5 := g8.unhide (Z := ZF) n5 e5 (g8.bind (p'.from k5'))
   refine thn (hg.h _ s5 σ' H5 x u _ I5' r5 ⟨_, dσ', μ', G', rx5, (sr'.mono k5').sq aJ4, h5, p5.mono fun dσ6 μ6 G6 H6 x6 h6 q6 σ6 sr6 => (⟨dσ6, μ6, G6, sr6, h6, q6⟩ : CG Y Z Q vs DD ys μ' H5 (dQ2 gg tt fe src.ck (src.items.drop (i + 1))) σ6 H6)⟩) fun _ s6 z6 => ?_
   obtain ⟨σ6, H6, I6, dσ6, μ6, G6, sr6, h6, e6, n6, hh6, x6, p6⟩ := z6
   have p6' := g8.unhide (Z := ZF) n6 e6 (g8.bind p6)
   refine thn (ht.h _ s6 σ6 H6 (CT Y Z Q vs DD ys dσ6 σ6 μ6 H6 (cH7 gg tt fe src.ck (src.items.drop (i + 1)) dσ6)) I6 ⟨dσ6, μ6, G6, sr6, h6, p6'.mono fun b μ7 G7 H7 x7 h7 q7 => ⟨μ7, G7, sr6.mono x7, h7, q7⟩⟩) fun b s7 z7 => ?_
   obtain ⟨H7, I7, μ7, G7, sr7, h7, e7, n7, hh7, x7, p7⟩ := z7
   unfold cH7 at p7
   have x27 : Ext μ2 H2 μ7 (hide DD H7) := x'.trans (k5'.trans (x6.trans x7))
   have rl7 : w6 (wc Y) μ7 (hide DD H7) ys vs := rl.mono (k5'.trans (x6.trans x7))
   cases b with
   | false =>
     rw [if_neg Bool.false_ne_true] at p7 ⊢
     obtain ⟨I8, st8, fr8⟩ := keepIt I7
     exact ⟨src.items.length - (i + 1), by omega, i + 1, ys, vs, σ6, H7, dσ6, μ7, G7, rfl, hlt, by omega, I8, st8, fr8, e7, n7, x27, hh7, sr7.sq (aI8 e7), rl7, p7⟩
   | true =>
     rw [if_pos rfl] at p7 ⊢
     have p7' := g8.unhide (Z := ZF) n7 e7 (g8.bind p7)
     refine thn (he.h _ s7 σ6 H7 (CE Y Z Q vs DD ys dσ6 σ6 μ7 H7 (dM5 gg tt fe src.ck (src.items.drop (i + 1)) dσ6)) I7 ⟨dσ6, μ7, G7, sr7, h7, p7'.mono fun y μ8 G8 H8 x8 h8 q8 v rv => ⟨y, μ8, G8, rv, sr7.mono x8, h8, q8⟩⟩) fun yu s8 z8 => ?_
     obtain ⟨yv, H8, I8, ry, y, μ8, G8, ryd, sr8, h8, e8, n8, hh8, x8, p8⟩ := z8
     unfold dM5 at p8
     refine thn (bO0 _ s8 σ6 H8 (.ref DD) [yv] (.ref DD) [yu] (fun _ H9 => H9 = upd H8 DD (.lst (vs ++ [yv]))) I8 rfl (.cons ry .nil) ⟨DD, vs, yv, rfl, rfl, e8, by omega, rfl⟩) fun _ s9 z9 => ?_
     obtain ⟨_, H9, I9, _, rfl⟩ := z9
     obtain ⟨I10, st10, fr10⟩ := keepIt I9
     have hd9 : hide DD (upd H8 DD (.lst (vs ++ [yv]))) = hide DD H8 := aR8
     refine ⟨src.items.length - (i + 1), by omega, i + 1, ys ++ [y], vs ++ [yv], σ6, _, dσ6, μ8, G8, rfl, hlt, by simp; omega, I10, st10, fr10, S9, n8, ?_, ?_, ?_, ?_, ?_⟩
     · rw [hd9]; exact x27.trans x8
     · rw [hd9]; exact hh8
     · rw [hd9]; exact sr8.sq (aI8 e8)
     · rw [hd9]; exact (rl7.mono x8).append ⟨yv, [], rfl, ryd.sq (aI8 e8), rfl⟩
     · rw [hd9]
       refine (g8.bind p8).mono fun W2 μ'' G'' H'' x'' h'' q'' => ?_
       have q3 := g8.ok q'' h''
       show g8 (wc Y) Z μ'' H'' (N5 (.lst (ys ++ [y] ++ W2)) G'') (CKV (wc Y) Q)
       rw [List.append_assoc]
       exact q3
 · have e : i = src.items.length := by omega
   subst e
   rw [List.drop_length] at p'
   unfold K4 at p'
   split at p'
   case isFalse => exact p'.elim
   rename_i ck
   obtain ⟨_, q2⟩ := hJ μ' G' H' x'.unhide h'.unhide ck src.items.length
   refine thn (T.done (Y) rfl rfl rfl hcX src.items.length [] s' σ' H' Y.xe I' (fun b hb => fpX H' b hb (fr' b hb)) st' (q2 (Nat.le_refl _))) fun r s4 ⟨hr, I4⟩ => ?_
   subst hr
   have p9 : g8 (wc Y) Z μ' (hide DD H') (N5 (.lst (ys ++ [])) G') (CKV (wc Y) Q) := g8.ok p' h'
   rw [List.append_nil] at p9
   have q9 := aC3 (q := DD) h' rl p9 aI7
   rw [cX2 hvs] at q9
   exact fin H' σ' s4 I4 q9
theorem bN8 {use : Option (Value → Sem Unit)} {PQ : VSP} {Q : VK} {ps : Pos} {pins : PNS} {s : Shared} {σ : St} {H : Hp} {dσ : DSt} {μ : List Addr} {G : DH} (hc : X.calm = true) (hi : DI X Z tg iter it) (k : aG1 X scope N caps)
 (hg : ∀ C s H ex, DG (U7 X scope N C s H ex) ZF tg gg) (ht : ∀ C s H ex, DTs (U7 X scope N C s H ex) ZF ifs tt) (he : ∀ C s H ex, DE (U7 X scope N C s H ex) ZF elt fe)
 (hs : ∀ x, foldedSetIterable iter X.env x = pure x) (I : Inv X pins σ H s) (sr : M7 (wc X) μ H dσ σ) (hr : J1 (wc X) μ G H) (p : g8 (wc X) Z μ H (R8 it caps gg tt fe dσ G) fun d μ' _ H' => ∀ v, j0 (wc X) μ' H' d v → Q v H')
 (fin : ∀ (DD C : Addr) (s4 : Shared) (H' : Hp) (m : Str → Option Value) (o : Flow), s4.heap.Ns C m → (∀ h'', Heap.SameBut C s4.heap h'' → Inv X pins σ H' { s4 with heap := h'' }) → H' C = none → (∀ H9 : Hp, H9 C = none → aR2 X pins H9 C) → Q (.ref DD) H' → compPost (model X.prog X.w) X.A X.xe use PQ (.ref DD) C (.ok o) s4) :
 wpAny (model X.prog X.w) X.A (comprehension (.ListComp elt [⟨tg, iter, ifs, 0⟩] scope pos) scope X.env ps (newList []) false (eval iter X.env) use) PQ X.xe s := by
 replace p : g8 (wc X) Z μ H (R8 it caps gg tt fe dσ G) (CKV (wc X) Q) := p
 have p1 := g8.bind p
 refine wpAny_comprehension_free (use := use) rfl hs (bB0 (k.cells I.ok)) k.kind k.names ?_
 refine thn (hi.h pins s σ H (fun J H1 => ∃ src μ1 G1, Ext μ H μ1 H1 ∧ J1 (wc X) μ1 G1 H1 ∧ ItD (wc X) μ1 H1 J src ∧
  g8 (wc X) Z μ1 H1 ((if src.items.length ≤ sizeLine then (do let ys ← noX (K4 gg tt fe src.ck src.items (U6 caps dσ)); N5 (.lst ys)) else M.stuck : M D) G1) (CKV (wc X) Q))
  I ⟨dσ, μ, G, sr, hr, p1.mono fun src μ1 G1 H1 x1 h1 p1 J hJ => ⟨src, μ1, G1, x1, h1, hJ, p1⟩⟩) fun v s1 q1 => thn q1 fun itv s2 q2 => ?_
 obtain ⟨itA, fp, tn, J, H2, rfl, I2, T, st2, f2, src, μ2, G2, x2, h2, hJ, p2⟩ := q2
 split at p2
 case isFalse => exact p2.elim
 rename_i hlen
 have hfp : ∀ b ∈ fp, b < s2.heap.objs.size := fun b hb => by obtain ⟨o, e, _⟩ := T.obj _ _ st2 b hb; exact Heap.lt_size e
 refine wpAny_newObj_type (wpAny_newFunctionEnv k.cell (by intro y hy; simp at hy) (fun h₁ hns₁ hsb₁ => ?_) k.kind)
 dsimp only at hns₁ hsb₁ ⊢
 generalize hHP : s2.heap.push { cls := .type "list", dict := none, data := .seq ([] : List Value).toArray } = HP at hns₁ hsb₁ ⊢
 have hC : HP.objs.size = s2.heap.objs.size + 1 := by rw [← hHP, Heap.size_push]
 have hCl : s2.heap.objs.size < HP.objs.size := by rw [hC]; exact Nat.lt_succ_self _
 have hDC : s2.heap.objs.size ≠ HP.objs.size := Nat.ne_of_lt hCl
 have old : ∀ b o, s2.heap.get? b = some o → h₁.get? b = some o := fun b o e => hsb₁.extBut b o (by have := Heap.lt_size e; exact Nat.ne_of_lt (Nat.lt_trans this hCl)) (Heap.get?_push_of_some _ (hHP ▸ Heap.get?_push_of_some _ e))
 have hacc : h₁.get? s2.heap.objs.size = some { cls := .type "list", data := .seq ([] : List Value).toArray 0 } := hsb₁.extBut _ _ hDC (Heap.get?_push_of_some _ (hHP ▸ Heap.get?_push_size _ rfl))
 have hD : H2 s2.heap.objs.size = none := I2.hok.fresh (Nat.le_refl _)
 have nD : s2.heap.objs.size ∉ μ2 := fun z => Nat.lt_irrefl _ (h2.mem_lt I2 z)
 have st1 : tn 0 h₁ := T.keep _ _ _ st2 fun b _ o e => old b o e
 have fpX : ∀ (H' : Hp) (b : Addr), b ∈ fp → H' b = none → aR2 (U7 X scope N HP.objs.size s2 H2 fp) [] H' b := fun H' b hb hn =>
  ⟨hn, Nat.ne_of_lt (Nat.lt_trans (hfp b hb) hCl), fun z => by
   rcases List.mem_cons.mp (I2.stkSub b z) with e | e
   · exact (f2 b hb).2.1 e
   · exact (f2 b hb).2.2.1 e, .inl hb, fun x c e => (f2 b hb).2.2.2.2.1 x c (aA4 e), fun p hp => absurd (show p ∈ ([] : PNS) from hp) (by simp)⟩
 have hcX : (U7 X scope N HP.objs.size s2 H2 fp).calm = true := hc
 have p3 := bY8 (g8.bind p2)
 generalize hDD : s2.heap.objs.size = DD at *
 have loop : ∀ s₃ : Shared, s₃ = { s2 with heap := h₁, toks := s2.toks + ([] : List (Str × Value)).length } →
  codeAny (model X.prog X.w) X.A (.compLoop (.ListComp elt [⟨tg, iter, ifs, 0⟩] scope pos) 0 (.ref itA) (.ref DD) (compEnvC scope (aM4 X.env scope.names []) HP.objs.size X.env))
   (compPost (model X.prog X.w) X.A X.xe use PQ (.ref DD) HP.objs.size) s₃ := by
  rintro s₃ rfl
  refine bQ3 (dE2 (U7 X scope N HP.objs.size s2 H2 fp) Z Q gg tt fe src fp tn DD μ2 H2) (cP4 (Y := U7 X scope N HP.objs.size s2 H2 fp) hcX (hg _ _ _ _) (ht _ _ _ _) (he _ _ _ _) T fpX hJ hlen fun H' σ' s4 I4 q9 => ?_) src.items.length
   ⟨0, [], [], U6 caps σ, upd H2 DD (.lst []), U6 caps dσ, μ2, G2, rfl, Nat.zero_le _, Nat.le_refl _, ?_, st1, fun b hb => ?_, S9, nD, ?_, ?_, ?_, rfl, ?_⟩
  · obtain ⟨m, hn, _⟩ := I4.loc
    exact fin DD HP.objs.size s4 H' m _ hn (fun h'' sb => cU7 I2 (fun b hb => f2 b hb) (by rw [hDD]; exact hCl) I4 sb) I4.free (fun H9 hn9 => I2.fpOk (by rw [hDD]; exact Nat.le_of_lt hCl) hn9) q9
  · have := cD1 (h₁ := h₁) (tk := s2.toks + ([] : List (Str × Value)).length) I2 k (C := HP.objs.size) (by rw [hDD]; exact hCl) f2 (fun b hb => by rw [hDD]; exact hfp b hb) old hns₁ (by rw [hDD]; exact hacc)
    rw [hDD] at this
    exact this
  · rw [J6 (Nat.ne_of_lt (hfp b hb))]; exact (f2 b hb).1
  · rw [aR8, aT2 hD]; exact Ext.refl _ _
  · rw [aR8, aT2 hD]; exact h2
  · rw [aR8, aT2 hD]; exact cO5 (sr.mono x2)
  · rw [aR8, aT2 hD, List.drop_zero]
    exact p3
 exact codeAny_compStart_list (loop _ rfl) (T.self _ 0 _ _ _ st1 (loop _ rfl))
theorem dH7 (hc : X.calm = true) (hi : DI X Z tg iter it) (k : aG1 X scope N caps)
 (hg : ∀ C s H ex, DG (U7 X scope N C s H ex) ZF tg gg) (ht : ∀ C s H ex, DTs (U7 X scope N C s H ex) ZF ifs tt) (he : ∀ C s H ex, DE (U7 X scope N C s H ex) ZF elt fe)
 (hs : ∀ x, foldedSetIterable iter X.env x = pure x) : DE X Z (.ListComp elt [⟨tg, iter, ifs, 0⟩] scope pos) (R8 it caps gg tt fe) := ⟨by
 intro pins s σ H Q I ⟨dσ, μ, G, sr, hr, p⟩
 rw [eval_ListComp]
 exact bN8 (use := none) hc hi k hg ht he hs I sr hr p fun DD C s4 H' m o hn fin _ _ q9 => ⟨m, hn, fun h'' sb => ⟨.ref DD, H', fin h'' sb, rfl, q9⟩⟩⟩
end
noncomputable def R5 (r : Nat) : M DO := fun G => match G[r]? with
 | some o => some (.ok o, G)
 | none => none
def listOf : DO → M (List D)
 | .lst l => pure l
 | .rol l => pure l
 | .dct _ => M.stuck
 | .rod _ => M.stuck
def eH7 : D → M (List D)
 | .tup l => pure l
 | .ref r => R5 r >>= listOf
 | _ => M.stuck
def aI1 {α : Type} : Option α → M α
 | some a => pure a
 | none => M.stuck
section
variable {X : Cx} {Z : XC}
theorem IxR.mono {r r' : R2} (h : IxR X r) (k : ∀ x y H Q, r' x y H Q → r x y H Q) : IxR X r' := fun va sl pins s σ H x y v u Q I rx ry q hs => h va sl pins s σ H x y v u Q I rx ry (k x y H Q q) hs
variable {c : Wc} {μ : List Addr} {H : Hp} {G : DH}
theorem N6 {α : Type} {r : Nat} {f : DO → M α} {K : α → List Addr → DH → Hp → Prop} (p : g8 c Z μ H ((R5 r >>= f) G) K) : ∃ o, G[r]? = some o ∧ g8 c Z μ H (f o G) K := by
 rw [M.bind_eq] at p
 unfold R5 at p
 cases e : G[r]? with
 | none => rw [e] at p; exact p.elim
 | some o => rw [e] at p; exact ⟨o, rfl, p⟩
theorem aD0 {α β : Type} {r : Option β} {f : β → M α} {K : α → List Addr → DH → Hp → Prop} (p : g8 c Z μ H ((aI1 r >>= f) G) K) : ∃ o, r = some o ∧ g8 c Z μ H (f o G) K := by
 cases r with
 | none => exact p.elim
 | some o => exact ⟨o, rfl, p⟩
theorem aT1 {α : Type} {d : D} {v : V} {f : List D → M α} {K : α → List Addr → DH → Hp → Prop} (h : J1 c μ G H) (r : j0 c μ H d v) (p : g8 c Z μ H ((eH7 d >>= f) G) K) :
 ∃ l a vs, v = .ref a ∧ w6 c μ H l vs ∧ g8 c Z μ H (f l G) K ∧ ((d = .tup l ∧ SqT c.K H a vs) ∨ (∃ i, d = .ref i ∧ μ[i]? = some a ∧ ((G[i]? = some (.lst l) ∧ H a = some (.lst vs)) ∨ (G[i]? = some (.rol l) ∧ RoL c.K H a vs)))) := by
 cases d with
 | tup l =>
   unfold j0 at r
   obtain ⟨a, vs, e, q, rl⟩ := r
   exact ⟨l, a, vs, e, rl, p, .inl ⟨rfl, q⟩⟩
 | ref i =>
   unfold j0 at r
   obtain ⟨a, m, e⟩ := r
   have p' : g8 c Z μ H ((R5 i >>= fun o => listOf o >>= f) G) K := by rw [← M.bind_assoc]; exact p
   obtain ⟨o, g, p2⟩ := N6 p'
   have ro := h.obj i o a g m
   cases o with
   | lst l => obtain ⟨vs, q, rl⟩ := ro; exact ⟨l, a, vs, e, rl, p2, .inr ⟨i, rfl, m, .inl ⟨g, q⟩⟩⟩
   | rol l => obtain ⟨vs, q, rl⟩ := ro; exact ⟨l, a, vs, e, rl, p2, .inr ⟨i, rfl, m, .inr ⟨g, q⟩⟩⟩
   | dct l => exact p2.elim
   | rod l => exact p2.elim
 | _ => exact p.elim
theorem aF9 {i : Int} {v : V} (r : j0 c μ H (.int i) v) : v = .int i := by unfold j0 at r; exact r
theorem aQ6 {i : Str} {v : V} (r : j0 c μ H (.str i) v) : v = .str i := by unfold j0 at r; exact r
theorem bR0 {i : Bool} {v : V} (r : j0 c μ H (.bl i) v) : v = .bl i := by unfold j0 at r; exact r
theorem cV9 {v : V} (r : j0 c μ H .non v) : v = .non := by unfold j0 at r; exact r
theorem ofI {i : Int} : j0 c μ H (.int i) (.int i) := by unfold j0; rfl
theorem ofS {i : Str} : j0 c μ H (.str i) (.str i) := by unfold j0; rfl
theorem ofB {i : Bool} : j0 c μ H (.bl i) (.bl i) := by unfold j0; rfl
theorem ofN : j0 c μ H .non .non := by unfold j0; rfl
def cE9 (g : Int → Int → M D) : D → D → M D := fun x y => match x, y with
 | .int i, .int j => g i j
 | _, _ => M.stuck
theorem bQ1 {f : Value → Value → Sem Value} {C : Int → Int → Prop} [∀ i j, Decidable (C i j)] {g : Int → Int → Int} (h : OpR X f (rI C fun i j => .int (g i j))) : OpD X Z f (cE9 fun i j => if C i j then pure (.int (g i j)) else M.stuck) :=
 OpD.of h fun x y H Q hE0 => hE0.elim fun dx dy μ G rx ry hr p => by
  cases dx <;> cases dy <;> first
   | exact p.elim
   | skip
  rename_i i j
  unfold cE9 at p
  dsimp only at p
  split at p
  · rename_i hc
    exact ⟨i, j, aF9 rx, aF9 ry, hc, g8.ok p hr _ ofI⟩
  · exact p.elim
theorem cW0 {f : Value → Value → Sem Value} {g : Int → Int → Int} (h : OpR X f (rI0 fun i j => .int (g i j))) : OpD X Z f (cE9 fun i j => pure (.int (g i j))) :=
 OpD.of h fun x y H Q hE0 => hE0.elim fun dx dy μ G rx ry hr p => by
  cases dx <;> cases dy <;> first
   | exact p.elim
   | exact ⟨_, _, aF9 rx, aF9 ry, g8.ok p hr _ ofI⟩
def aQ3 : D → D → M D := cE9 fun i j => pure (.int (i - j))
theorem od_sub : OpD X Z (binaryOp .Sub) aQ3 := cW0 dQ8
noncomputable instance (i j : Int) : Decidable (bL0 i j) := by unfold bL0; infer_instance
noncomputable def bN2 (_ j : Int) : Prop := 0 < j ∧ j < 2 ^ 100
noncomputable instance (i j : Int) : Decidable (bN2 i j) := by unfold bN2; infer_instance
theorem cV1 : OpR X (binaryOp .FloorDiv) (rI bN2 fun i j => .int (i / j)) := opI fun i j _ _ _ _ _ hc q => by
 have h1 : (0 : Int) < j := hc.1
 have h2 : j < 2 ^ 100 := hc.2
 refine floordiv_int (by omega) (by rw [Int.fdiv_eq_ediv_of_nonneg i (by omega)]; exact q) (.inl (PyProof.noPylong_of_log2 ?_))
 have h3 : j.natAbs < 2 ^ 100 := by omega
 have h4 : j.natAbs ≠ 0 := by omega
 have := (Nat.log2_lt h4).mpr h3
 omega
def bZ4 : D → D → M D := cE9 fun i j => if bN2 i j then pure (.int (i / j)) else M.stuck
theorem od_fdiv : OpD X Z (binaryOp .FloorDiv) bZ4 := bQ1 cV1
def bH1 : D → D → M D := cE9 fun i j => if 0 < j then pure (.int (i % j)) else M.stuck
theorem od_mod : OpD X Z (binaryOp .Mod) bH1 := bQ1 (C := fun _ j => 0 < j) dS5
noncomputable instance (i j : Int) : Decidable (dL6 i j) := by unfold dL6; infer_instance
def cE8 : D → D → M D := cE9 fun i j => if dL6 i j then pure (.int (i ^ j.toNat)) else M.stuck
theorem od_pow : OpD X Z (binaryOp .Pow) cE8 := bQ1 dW3
theorem cY6 {prog : Program} {w : World} {A : Around} {E : VSP} {s : Shared} {t b : Addr} {ws : List Value} {Q : VSP} (ht : IsTup s.heap t #[]) (hb : IsTup s.heap b ws.toArray)
 (h1 : Q (.ref b) s) : wpAny (model prog w) A (binaryOp .Add (.ref t) (.ref b)) Q E s := by
 obtain ⟨⟨cls, dd, data, sl⟩, ho, hc, n, hd⟩ := id ht
 obtain ⟨⟨cls2, dd2, data2, sl2⟩, ho2, hc2, n2, hd2⟩ := id hb
 simp only at hc hd hc2 hd2
 subst hc hd hc2 hd2
 exact concat_meets ⟨_, ho, rfl⟩ ⟨_, ho2, rfl⟩ noFill_tuple_add seq_tuple_add PySem.F.slot_tuple_add PySem.F.entry_tuple_add (PySem.F.args_tuple_add_2 _ _)
  (tuple_addW0 t b #[] ws.toArray n n2 dd dd2 sl sl2 (by simp)) ⟨ho, ho2, h1⟩
def dT6 (K : PySem.W.Frag) : R2 := fun x y H Q => ∃ a b ys, x = .ref a ∧ y = .ref b ∧ SqT K H a [] ∧ SqT K H b ys ∧ Q (.ref b) H
theorem dA0 : OpR X (binaryOp .Add) (dT6 X.K) := by
 intro pins s σ H x y v u Q I rx ry h
 obtain ⟨a, b, ys, rfl, rfl, ha, hb, q⟩ := h
 cases rx
 cases ry
 obtain ⟨its, r, p, _⟩ := I.tuple ha
 obtain ⟨its2, r2, p2, _⟩ := I.tuple hb
 cases r
 exact cY6 p p2 ⟨.ref b, H, I, rfl, q⟩
def Q4 : D → D → M D := fun x y => match x, y with
 | .int i, .int j => pure (.int (i + j))
 | .str a, .str b => if a.length + b.length ≤ sizeLine then pure (.str (a ++ b)) else M.stuck
 | .tup a, .tup b => if a.length + b.length ≤ sizeLine then pure (.tup (a ++ b)) else M.stuck
 | .ref i, .ref j => do
   match ← R5 i, ← R5 j with
   | .lst a, .lst b => if a.length + b.length ≤ sizeLine then N5 (.lst (a ++ b)) else M.stuck
   | _, _ => M.stuck
 | _, _ => M.stuck
theorem aS8 {xs : List D} {vs : List V} {Q : VK} (h : J1 c μ G H) {a : Addr} (q : SqT c.K H a vs) (r : w6 c μ H xs vs)
 (p : g8 c Z μ H (some (Except.ok (.tup xs), G)) fun d μ' _ H' => ∀ v, j0 c μ' H' d v → Q v H') : Q (.ref a) H := g8.ok p h _ (by unfold j0; exact ⟨a, vs, rfl, q, r⟩)
theorem od_add : OpD X Z (binaryOp .Add) Q4 :=
 OpD.of (OpR.or dV0 (OpR.or cE4 (OpR.or dI0 (OpR.or dA0 dQ0)))) fun x y H Q hE0 => hE0.elim fun dx dy μ G rx ry hr p => by
  cases dx <;> cases dy <;> first
   | exact p.elim
   | skip
  · exact .inl ⟨_, _, aF9 rx, aF9 ry, g8.ok p hr _ ofI⟩
  · rename_i a b
    refine .inr (.inl ?_)
    unfold Q4 at p
    dsimp only at p
    split at p
    · rename_i hz
      exact ⟨a, b, aQ6 rx, aQ6 ry, hz, g8.ok p hr _ ofS⟩
    · exact p.elim
  · rename_i a b
    unfold j0 at rx ry
    obtain ⟨ax, vx, rfl, qx, lx⟩ := rx
    obtain ⟨ay, vy, rfl, qy, ly⟩ := ry
    unfold Q4 at p
    dsimp only at p
    split at p
    · rename_i hz
      by_cases hv : vx = []
      · subst hv
        cases a with
        | nil => exact .inr (.inr (.inr (.inl ⟨ax, ay, vy, rfl, rfl, qx, qy, aS8 hr qy ly p⟩)))
        | cons _ _ => obtain ⟨_, _, z, _⟩ := lx; cases z
      · refine .inr (.inr (.inl ⟨ax, ay, vx, vy, rfl, rfl, qx, qy, hv, by rw [← lx.length, ← ly.length]; exact hz, ?_⟩))
        refine ⟨fun hy => ?_, fun hy q hq => aN0 hr (lx.append ly) p q hq⟩
        subst hy
        refine aS8 hr qx ?_ p
        cases b with
        | nil => rw [List.append_nil]; exact lx
        | cons _ _ => obtain ⟨_, _, z, _⟩ := ly; cases z
    · exact p.elim
  · rename_i i j
    unfold j0 at rx ry
    obtain ⟨ax, mx, rfl⟩ := rx
    obtain ⟨ay, my, rfl⟩ := ry
    obtain ⟨ox, gx, p⟩ := N6 p
    obtain ⟨oy, gy, p⟩ := N6 p
    have hx := hr.obj i ox ax gx mx
    have hy := hr.obj j oy ay gy my
    cases ox <;> cases oy <;> first
     | exact p.elim
     | skip
    obtain ⟨vx, ex, lx⟩ := hx
    obtain ⟨vy, ey, ly⟩ := hy
    dsimp only at p
    split at p
    · rename_i hz
      exact .inr (.inr (.inr (.inr ⟨ax, ay, vx, vy, rfl, rfl, ex, ey, by rw [← lx.length, ← ly.length]; exact hz, fun q hq => aC3 hr (lx.append ly) p q hq⟩)))
    · exact p.elim
end
noncomputable def aB7 (G : DH) : D → Option (Bool × List D)
 | .tup l => some (true, l)
 | .ref i => match G[i]? with
   | some (.lst l) => some (false, l)
   | some (.rol l) => some (false, l)
   | _ => none
 | _ => none
noncomputable def aL0 : D → Bool
 | .non => true
 | .bl _ => true
 | .int _ => true
 | .str _ => true
 | _ => false
def eqS : D → D → Option Bool
 | .non, .non => some true
 | .bl a, .bl b => some (a == b)
 | .int a, .int b => some (a == b)
 | .str a, .str b => some (a == b)
 | .bl a, .int b => some ((if a then (1 : Int) else 0) == b)
 | .int a, .bl b => some (a == (if b then (1 : Int) else 0))
 | x, y => if aL0 x && aL0 y then some false else none
noncomputable def eqL (f : D → D → Option Bool) : List D → List D → Option Bool
 | [], [] => some true
 | [], _ :: _ => some false
 | _ :: _, [] => some false
 | x :: xs, y :: ys => match f x y, eqL f xs ys with
   | some e, some r => some (e && r)
   | _, _ => none
def eqN : Nat → DH → D → D → Option Bool
 | 0, _, _, _ => none
 | n + 1, G, x, y => match aB7 G x, aB7 G y with
   | some (k1, a), some (k2, b) => if k1 = k2 then (if k1 = false ∧ a.length ≠ b.length then some false else eqL (eqN n G) a b) else some false
   | some _, none => if aL0 y then some false else none
   | none, some _ => if aL0 x then some false else none
   | none, none => eqS x y
theorem aZ0 {n : Nat} {G : DH} {x y : D} : eqN (n + 1) G x y = match aB7 G x, aB7 G y with
 | some (k1, a), some (k2, b) => if k1 = k2 then (if k1 = false ∧ a.length ≠ b.length then some false else eqL (eqN n G) a b) else some false
 | some _, none => if aL0 y then some false else none
 | none, some _ => if aL0 x then some false else none
 | none, none => eqS x y := rfl
theorem cW7 {f : D → D → Option Bool} {x y : D} {xs ys : List D} : eqL f (x :: xs) (y :: ys) = match f x y, eqL f xs ys with
 | some e, some r => some (e && r)
 | _, _ => none := rfl
theorem bM2 {f : D → D → Option Bool} {e : Nat → Bool} : ∀ (a b : List D) (r : Bool), eqL f a b = some r → (∀ (j : Nat) x y, a[j]? = some x → b[j]? = some y → f x y = some (e j)) → r = ((List.range (min a.length b.length)).all e && a.length == b.length)
 | [], [], r, h, _ => by cases h; rfl
 | [], _ :: _, r, h, _ => by cases h; simp
 | _ :: _, [], r, h, _ => by cases h; simp
 | x :: xs, y :: ys, r, h, he => by
   rw [cW7] at h
   have h0 := he 0 x y rfl rfl
   rw [h0] at h
   cases hr : eqL f xs ys with
   | none => rw [hr] at h; cases h
   | some r' =>
     rw [hr] at h
     have ih := bM2 (e := fun j => e (j + 1)) xs ys r' hr fun j x' y' h1 h2 => he (j + 1) x' y' (by simpa using h1) (by simpa using h2)
     cases h
     rw [ih]
     have : min (x :: xs).length (y :: ys).length = min xs.length ys.length + 1 := by simp only [List.length_cons]; omega
     rw [this, List.range_succ_eq_map, List.all_cons, List.all_map]
     simp [Bool.and_assoc, Function.comp_def]
theorem bH9 {f : D → D → Option Bool} : ∀ (a b : List D) (r : Bool), eqL f a b = some r → ∀ (j : Nat) x y, a[j]? = some x → b[j]? = some y → ∃ e, f x y = some e
 | [], _, _, _, _, _, _, h, _ => by simp at h
 | _ :: _, [], _, _, _, _, _, _, h => by simp at h
 | x :: xs, y :: ys, r, h, j, x', y', h1, h2 => by
   rw [cW7] at h
   cases hf : f x y with
   | none => rw [hf] at h; cases h
   | some e =>
     cases hr : eqL f xs ys with
     | none => rw [hf, hr] at h; cases h
     | some r' =>
       cases j with
       | zero => simp at h1 h2; subst h1 h2; exact ⟨e, hf⟩
       | succ j => exact bH9 xs ys r' hr j x' y' (by simpa using h1) (by simpa using h2)
section
variable {X : Cx} {pins : PNS} {σ : St} {H : Hp} {s : Shared} {μ : List Addr} {G : DH}
noncomputable def cC5 (s : Shared) (k : Bool) (a : Addr) (its : List Value) : Prop := if k then s.heap.IsTuple a its.toArray else s.heap.IsList a its.toArray
theorem aO5 (I : Inv X pins σ H s) (h : J1 (wc X) μ G H) {d : D} {x : V} {v : Value} {k : Bool} {l : List D} (e : aB7 G d = some (k, l)) (r : j0 (wc X) μ H d x) (rv : J9 x v) :
 ∃ a vs its, x = .ref a ∧ v = .ref a ∧ w6 (wc X) μ H l vs ∧ J7 vs its ∧ cC5 s k a its ∧ (if k then SqT X.K H a vs else SqL X.K H a vs) := by
 cases d with
 | tup l' =>
   unfold aB7 at e
   cases e
   unfold j0 at r
   obtain ⟨a, vs, rfl, q, rl⟩ := r
   obtain ⟨its, rr, p, _⟩ := I.tuple q
   exact ⟨a, vs, its, rfl, rv, rl, rr, p, q⟩
 | ref i =>
   have e' : (match G[i]? with | some (.lst l) => some (false, l) | some (.rol l) => some (false, l) | _ => none) = some (k, l) := e
   unfold j0 at r
   obtain ⟨a, m, rfl⟩ := r
   have key : ∀ vs, SqL X.K H a vs → w6 (wc X) μ H l vs → k = false → ∃ a' vs its, V.ref a = .ref a' ∧ v = .ref a' ∧ w6 (wc X) μ H l vs ∧ J7 vs its ∧ cC5 s k a' its ∧ (if k then SqT X.K H a' vs else SqL X.K H a' vs) := fun vs q rl hk => by
    subst hk
    obtain ⟨its, rr, p, _⟩ := I.list q
    exact ⟨a, vs, its, rfl, rv, rl, rr, p.isList, q⟩
   generalize g : G[i]? = o at e'
   rcases o with _ | l' | l' | _ | _ <;> cases e'
   · obtain ⟨vs, q, rl⟩ := h.obj i _ a g m
     exact key vs (SqL.of q) rl rfl
   · obtain ⟨vs, q, rl⟩ := h.obj i _ a g m
     exact key vs q.sq rl rfl
 | _ => cases e
theorem bJ6 {d : D} {a : Addr} {c : Wc} (hs : aL0 d = true) (r : j0 c μ H d (.ref a)) : False := by
 cases d <;> first
  | exact absurd (show false = true from hs) Bool.false_ne_true
  | (unfold j0 at r; cases r)
theorem bV3 {x y : D} {b : Bool} (h : eqS x y = some b) : aL0 x = true ∧ aL0 y = true := by
 cases x <;> cases y <;> first
  | exact ⟨rfl, rfl⟩
  | (cases h; done)
theorem cU4 {x y : D} {b : Bool} {v : V} {c : Wc} (h : eqS x y = some b) (rx : j0 c μ H x v) (ry : j0 c μ H y v) : b = true := by
 obtain ⟨s1, s2⟩ := bV3 h
 cases x <;> cases y <;> first
  | (cases s1; done)
  | (cases s2; done)
  | (unfold j0 at rx ry; rw [rx] at ry; cases ry; done)
  | (unfold j0 at rx ry; rw [rx] at ry; cases ry; cases h; first | rfl | simp)
theorem cD6 (I : Inv X pins σ H s) {k k' : Bool} {a : Addr} {its its' : List Value} (h1 : cC5 s k a its) (h2 : cC5 s k' a its') : k = k' := by
 cases k <;> cases k' <;> first
  | rfl
  | exact absurd rfl (SeqAt.ne_of_list_tuple h1 h2)
  | exact absurd rfl (SeqAt.ne_of_list_tuple h2 h1)
theorem eqL_same {c : Wc} {f : D → D → Option Bool} : ∀ (l l' : List D) (vs : List V) (b : Bool), w6 c μ H l vs → w6 c μ H l' vs → (∀ d d' v b, v ∈ vs → j0 c μ H d v → j0 c μ H d' v → f d d' = some b → b = true) → eqL f l l' = some b → b = true
 | [], [], _, b, _, _, _, e => by cases e; rfl
 | [], _ :: _, vs, b, r1, r2, _, _ => by cases r1; obtain ⟨_, _, z, _⟩ := r2; cases z
 | _ :: _, [], vs, b, r1, r2, _, _ => by cases r2; obtain ⟨_, _, z, _⟩ := r1; cases z
 | d :: ds, d' :: ds', vs, b, r1, r2, k, e => by
   obtain ⟨v0, vr, rfl, q0, t0⟩ := r1
   obtain ⟨v1, vr', e1, q1, t1⟩ := r2
   cases e1
   rw [cW7] at e
   cases hf : f d d' with
   | none => rw [hf] at e; cases e
   | some e0 =>
     cases hr : eqL f ds ds' with
     | none => rw [hf, hr] at e; cases e
     | some r' =>
       rw [hf, hr] at e
       cases e
       have z1 := k d d' v0 e0 List.mem_cons_self q0 q1 hf
       have z2 := eqL_same ds ds' vr r' t0 t1 (fun a a' v b hm => k a a' v b (List.mem_cons_of_mem _ hm)) hr
       rw [z1, z2]; rfl
theorem bZ1 (I : Inv X pins σ H s) (h : J1 (wc X) μ G H) : ∀ (n : Nat) {dx dy : D} {x : V} {v : Value} {b : Bool}, j0 (wc X) μ H dx x → j0 (wc X) μ H dy x → J9 x v → eqN n G dx dy = some b → b = true
 | 0, _, _, _, _, _, _, _, _, e => by cases e
 | n + 1, dx, dy, x, v, b, rx, ry, rv, e => by
   rw [aZ0] at e
   cases hx : aB7 G dx with
   | none =>
     rw [hx] at e
     cases hy : aB7 G dy with
     | none => rw [hy] at e; exact cU4 e rx ry
     | some p =>
       obtain ⟨k, l⟩ := p
       rw [hy] at e
       dsimp only at e
       split at e
       · rename_i hs
         obtain ⟨a, _, _, rfl, _⟩ := aO5 I h hy ry rv
         exact (bJ6 hs rx).elim
       · cases e
   | some p =>
     obtain ⟨k, l⟩ := p
     rw [hx] at e
     cases hy : aB7 G dy with
     | none =>
       rw [hy] at e
       dsimp only at e
       split at e
       · rename_i hs
         obtain ⟨a, _, _, rfl, _⟩ := aO5 I h hx rx rv
         exact (bJ6 hs ry).elim
       · cases e
     | some p' =>
       obtain ⟨k', l'⟩ := p'
       rw [hy] at e
       dsimp only at e
       obtain ⟨a, vs, its, rfl, rfl, rl, rr, sq, q⟩ := aO5 I h hx rx rv
       obtain ⟨a', vs', its', ea, _, rl', rr', sq', q'⟩ := aO5 I h hy ry rv
       cases ea
       have hk : k = k' := cD6 I sq sq'
       subst hk
       have hvs : vs = vs' := by
        cases k with
        | true => exact I.tuple_inj q q'
        | false => exact I.list_inj q q'
       subst hvs
       rw [if_pos rfl, if_neg (by rw [rl.length, rl'.length]; simp)] at e
       have hv : ∀ v ∈ vs, ∃ u, J9 v u := fun v hv => by
        obtain ⟨i, hi⟩ := List.getElem?_of_mem hv
        obtain ⟨u, _, ru⟩ := rr.get hi
        exact ⟨u, ru⟩
       exact eqL_same l l' vs b rl rl' (fun d d' v b hm r1 r2 ef => by
        obtain ⟨u, ru⟩ := hv v hm
        exact bZ1 I h n r1 r2 ru ef) e
theorem dR2 {A : Around} {dx dy : D} {x y : V} {v u : Value} {b : Bool} {c : Wc} (rx : j0 c μ H dx x) (ry : j0 c μ H dy y) (rv : J9 x v) (ru : J9 y u) (e : eqS dx dy = some b) :
 SeqAt.RcAt A s v u b ∧ SeqAt.RcNeAt A s v u (!b) ∧ SeqAt.EqAt A s v u b := by
 obtain ⟨s1, s2⟩ := bV3 e
 cases dx with
 | non =>
   unfold j0 at rx; subst rx; cases rv
   cases dy with
   | non => unfold j0 at ry; subst ry; cases ru; cases e; exact ⟨SeqAt.RcAt.none_none, SeqAt.RcNeAt.none_none, SeqAt.EqAt.same _⟩
   | bl j => unfold j0 at ry; subst ry; cases ru; cases e; exact ⟨SeqAt.RcAt.none_bool _, SeqAt.RcNeAt.none_bool _, SeqAt.EqAt.none_bool _⟩
   | int j => unfold j0 at ry; subst ry; obtain ⟨t, rfl⟩ := ru; cases e; exact ⟨SeqAt.RcAt.none_int _ _, SeqAt.RcNeAt.none_int _ _, SeqAt.EqAt.none_int _ _⟩
   | str j => unfold j0 at ry; subst ry; obtain ⟨t, rfl⟩ := ru; cases e; exact ⟨SeqAt.RcAt.none_str _ _, SeqAt.RcNeAt.none_str _ _, SeqAt.EqAt.none_str _ _⟩
   | _ => cases s2
 | bl i =>
   unfold j0 at rx; subst rx; cases rv
   cases dy with
   | non => unfold j0 at ry; subst ry; cases ru; cases e; exact ⟨SeqAt.RcAt.bool_none _, SeqAt.RcNeAt.bool_none _, SeqAt.EqAt.bool_none _⟩
   | bl j => unfold j0 at ry; subst ry; cases ru; cases e; exact ⟨SeqAt.RcAt.bool_bool _ _, SeqAt.RcNeAt.bool_bool _ _, SeqAt.EqAt.bool_bool _ _⟩
   | int j => unfold j0 at ry; subst ry; obtain ⟨t, rfl⟩ := ru; cases e; exact ⟨SeqAt.RcAt.bool_int _ _ _, SeqAt.RcNeAt.bool_int _ _ _, SeqAt.EqAt.bool_int _ _ _⟩
   | str j => unfold j0 at ry; subst ry; obtain ⟨t, rfl⟩ := ru; cases e; exact ⟨SeqAt.RcAt.bool_str _ _ _, SeqAt.RcNeAt.bool_str _ _ _, SeqAt.EqAt.bool_str _ _ _⟩
   | _ => cases s2
 | int i =>
   unfold j0 at rx; subst rx; obtain ⟨t, rfl⟩ := rv
   cases dy with
   | non => unfold j0 at ry; subst ry; cases ru; cases e; exact ⟨SeqAt.RcAt.int_none _ _, SeqAt.RcNeAt.int_none _ _, SeqAt.EqAt.int_none _ _⟩
   | bl j => unfold j0 at ry; subst ry; cases ru; cases e; exact ⟨SeqAt.RcAt.int_bool _ _ _, SeqAt.RcNeAt.int_bool _ _ _, SeqAt.EqAt.int_bool _ _ _⟩
   | int j => unfold j0 at ry; subst ry; obtain ⟨t, rfl⟩ := ru; cases e; exact ⟨SeqAt.RcAt.int_int _ _ _ _, SeqAt.RcNeAt.int_int _ _ _ _, SeqAt.EqAt.int_int _ _ _ _⟩
   | str j => unfold j0 at ry; subst ry; obtain ⟨t, rfl⟩ := ru; cases e; exact ⟨SeqAt.RcAt.int_str _ _ _ _, SeqAt.RcNeAt.int_str _ _ _ _, SeqAt.EqAt.int_str _ _ _ _⟩
   | _ => cases s2
 | str i =>
   unfold j0 at rx; subst rx; obtain ⟨t, rfl⟩ := rv
   cases dy with
   | non => unfold j0 at ry; subst ry; cases ru; cases e; exact ⟨SeqAt.RcAt.str_none _ _, SeqAt.RcNeAt.str_none _ _, SeqAt.EqAt.str_none _ _⟩
   | bl j => unfold j0 at ry; subst ry; cases ru; cases e; exact ⟨SeqAt.RcAt.str_bool _ _ _, SeqAt.RcNeAt.str_bool _ _ _, SeqAt.EqAt.str_bool _ _ _⟩
   | int j => unfold j0 at ry; subst ry; obtain ⟨t, rfl⟩ := ru; cases e; exact ⟨SeqAt.RcAt.str_int _ _ _ _, SeqAt.RcNeAt.str_int _ _ _ _, SeqAt.EqAt.str_int _ _ _ _⟩
   | str j => unfold j0 at ry; subst ry; obtain ⟨t, rfl⟩ := ru; cases e; exact ⟨SeqAt.RcAt.str_str _ _ _ _, SeqAt.RcNeAt.str_str _ _ _ _, SeqAt.EqAt.str_str _ _ _ _⟩
   | _ => cases s2
 | _ => cases s1
theorem bD6 {A : Around} (hu : A.units < cLine) {k : Bool} {a : Addr} {its : List Value} (sq : cC5 s k a its) {dy : D} {y : V} {u : Value} {c : Wc} (ry : j0 c μ H dy y) (ru : J9 y u) (hs : aL0 dy = true) :
 (SeqAt.RcAt A s (.ref a) u false ∧ SeqAt.RcNeAt A s (.ref a) u true ∧ SeqAt.EqAt A s (.ref a) u false) ∧ (SeqAt.RcAt A s u (.ref a) false ∧ SeqAt.RcNeAt A s u (.ref a) true ∧ SeqAt.EqAt A s u (.ref a) false) := by
 cases k with
 | true =>
   cases dy with
   | non => unfold j0 at ry; subst ry; cases ru; exact ⟨⟨.tuple_none sq hu, .tuple_none sq hu, .tuple_none sq hu⟩, .none_tuple sq hu, .none_tuple sq hu, .none_tuple sq hu⟩
   | bl j => unfold j0 at ry; subst ry; cases ru; exact ⟨⟨.tuple_bool _ sq hu, .tuple_bool _ sq hu, .tuple_bool _ sq hu⟩, .bool_tuple _ sq hu, .bool_tuple _ sq hu, .bool_tuple _ sq hu⟩
   | int j => unfold j0 at ry; subst ry; obtain ⟨t, rfl⟩ := ru; exact ⟨⟨.tuple_int _ _ sq hu, .tuple_int _ _ sq hu, .tuple_int _ _ sq hu⟩, .int_tuple _ _ sq hu, .int_tuple _ _ sq hu, .int_tuple _ _ sq hu⟩
   | str j => unfold j0 at ry; subst ry; obtain ⟨t, rfl⟩ := ru; exact ⟨⟨.tuple_str _ _ sq hu, .tuple_str _ _ sq hu, .tuple_str _ _ sq hu⟩, .str_tuple _ _ sq hu, .str_tuple _ _ sq hu, .str_tuple _ _ sq hu⟩
   | _ => cases hs
 | false =>
   cases dy with
   | non => unfold j0 at ry; subst ry; cases ru; exact ⟨⟨.list_none sq hu, .list_none sq hu, .list_none sq hu⟩, .none_list sq hu, .none_list sq hu, .none_list sq hu⟩
   | bl j => unfold j0 at ry; subst ry; cases ru; exact ⟨⟨.list_bool _ sq hu, .list_bool _ sq hu, .list_bool _ sq hu⟩, .bool_list _ sq hu, .bool_list _ sq hu, .bool_list _ sq hu⟩
   | int j => unfold j0 at ry; subst ry; obtain ⟨t, rfl⟩ := ru; exact ⟨⟨.list_int _ _ sq hu, .list_int _ _ sq hu, .list_int _ _ sq hu⟩, .int_list _ _ sq hu, .int_list _ _ sq hu, .int_list _ _ sq hu⟩
   | str j => unfold j0 at ry; subst ry; obtain ⟨t, rfl⟩ := ru; exact ⟨⟨.list_str _ _ sq hu, .list_str _ _ sq hu, .list_str _ _ sq hu⟩, .str_list _ _ sq hu, .str_list _ _ sq hu, .str_list _ _ sq hu⟩
   | _ => cases hs
theorem cL0 (I : Inv X pins σ H s) (h : J1 (wc X) μ G H) : ∀ (n : Nat) (A : Around), A.units + n < cLine → ∀ {dx dy : D} {x y : V} {v u : Value} {b : Bool}, j0 (wc X) μ H dx x → j0 (wc X) μ H dy y → J9 x v → J9 y u → eqN n G dx dy = some b →
 SeqAt.RcAt A s v u b ∧ SeqAt.RcNeAt A s v u (!b) ∧ SeqAt.EqAt A s v u b
 | 0, _, _, _, _, _, _, _, _, _, _, _, _, _, e => by cases e
 | n + 1, A, hu, dx, dy, x, y, v, u, b, rx, ry, rv, ru, e => by
   have hu0 : A.units < cLine := by omega
   have hu1 : A.in1.units + n < cLine := by show A.units + 1 + n < cLine; omega
   have e0 := e
   rw [aZ0] at e
   cases hx : aB7 G dx with
   | none =>
     rw [hx] at e
     cases hy : aB7 G dy with
     | none => rw [hy] at e; exact dR2 rx ry rv ru e
     | some p =>
       obtain ⟨k, l⟩ := p
       rw [hy] at e
       dsimp only at e
       split at e
       · rename_i hs
         cases e
         obtain ⟨a, vs, its, rfl, rfl, _, _, sq, _⟩ := aO5 I h hy ry ru
         exact (bD6 hu0 sq rx rv hs).2
       · cases e
   | some p =>
     obtain ⟨k, l⟩ := p
     rw [hx] at e
     obtain ⟨a, vs, its, rfl, rfl, rl, rr, sq, q⟩ := aO5 I h hx rx rv
     cases hy : aB7 G dy with
     | none =>
       rw [hy] at e
       dsimp only at e
       split at e
       · rename_i hs
         cases e
         exact (bD6 hu0 sq ry ru hs).1
       · cases e
     | some p' =>
       obtain ⟨k', l'⟩ := p'
       rw [hy] at e
       dsimp only at e
       obtain ⟨a', vs', its', rfl, rfl, rl', rr', sq', q'⟩ := aO5 I h hy ry ru
       -- the two at one place
       have main : SeqAt.RcAt A s (.ref a) (.ref a') b ∧ SeqAt.RcNeAt A s (.ref a) (.ref a') (!b) := by
        have len1 : its.toArray.size = l.length := by rw [List.size_toArray, ← rr.length, rl.length]
        have len2 : its'.toArray.size = l'.length := by rw [List.size_toArray, ← rr'.length, rl'.length]
        by_cases hk : k = k'
        · subst hk
          rw [if_pos rfl] at e
          by_cases hlen : k = false ∧ l.length ≠ l'.length
          · rw [if_pos hlen] at e
            cases e
            obtain ⟨rfl, hne⟩ := hlen
            have hz : (its.toArray.size != its'.toArray.size) = true := by rw [len1, len2]; simpa using hne
            exact ⟨SeqAt.RcAt.lists_lengths sq sq' hz hu0, SeqAt.RcNeAt.lists_lengths sq sq' hz hu0⟩
          · rw [if_neg hlen] at e
            have items : ∀ j (h1 : j < its.toArray.size) (h2 : j < its'.toArray.size), ∃ e, eqN n G (l.getD j .non) (l'.getD j .non) = some e ∧ SeqAt.EqAt A.in1 s its.toArray[j] its'.toArray[j] e := fun j h1 h2 => by
             have j1 : j < l.length := by rw [← len1]; exact h1
             have j2 : j < l'.length := by rw [← len2]; exact h2
             have g1 : l[j]? = some l[j] := List.getElem?_eq_getElem j1
             have g2 : l'[j]? = some l'[j] := List.getElem?_eq_getElem j2
             obtain ⟨e1, he1⟩ := bH9 l l' b e j _ _ g1 g2
             obtain ⟨v1, hv1, r1⟩ := rl.get g1
             obtain ⟨v2, hv2, r2⟩ := rl'.get g2
             obtain ⟨u1, hu1', ru1⟩ := rr.get hv1
             obtain ⟨u2, hu2', ru2⟩ := rr'.get hv2
             have w1 : its.toArray[j] = u1 := by
              have : its.toArray[j]? = some u1 := by simpa using hu1'
              rw [Array.getElem?_eq_getElem h1] at this
              exact Option.some.inj this
             have w2 : its'.toArray[j] = u2 := by
              have : its'.toArray[j]? = some u2 := by simpa using hu2'
              rw [Array.getElem?_eq_getElem h2] at this
              exact Option.some.inj this
             rw [w1, w2]
             refine ⟨e1, ?_, (cL0 I h n A.in1 hu1 r1 r2 ru1 ru2 he1).2.2⟩
             rw [List.getD_eq_getElem?_getD, List.getD_eq_getElem?_getD, g1, g2]
             exact he1
            have hr := bM2 (e := fun j => (eqN n G (l.getD j .non) (l'.getD j .non)).getD false) l l' b e fun j x y g1 g2 => by
             obtain ⟨e1, he1⟩ := bH9 l l' b e j x y g1 g2
             rw [List.getD_eq_getElem?_getD, List.getD_eq_getElem?_getD, g1, g2]
             simp only [Option.getD_some]
             rw [he1]; rfl
            have he : ∀ j (h1 : j < its.toArray.size) (h2 : j < its'.toArray.size), SeqAt.EqAt A.in1 s its.toArray[j] its'.toArray[j] ((eqN n G (l.getD j .non) (l'.getD j .non)).getD false) := fun j h1 h2 => by
             obtain ⟨e1, he1, hh⟩ := items j h1 h2
             rw [he1]; exact hh
            cases k with
            | true =>
              have z1 := SeqAt.RcAt.tuples (A := A) sq sq' hu0 he
              have z2 := SeqAt.RcNeAt.tuples (A := A) sq sq' hu0 he
              rw [len1, len2, ← hr] at z1 z2
              exact ⟨z1, z2⟩
            | false =>
              have hl : l.length = l'.length := Classical.byContradiction fun z => hlen ⟨rfl, z⟩
              have hsz : its.toArray.size = its'.toArray.size := by rw [len1, len2, hl]
              have z1 := SeqAt.RcAt.lists (A := A) sq sq' hsz hu0 he
              have z2 := SeqAt.RcNeAt.lists (A := A) sq sq' hsz hu0 he
              have hr2 : b = (List.range its.toArray.size).all fun j => (eqN n G (l.getD j .non) (l'.getD j .non)).getD false := by
               rw [hr, len1, hl]; simp
              rw [← hr2] at z1 z2
              exact ⟨z1, z2⟩
        · rw [if_neg hk] at e
          cases e
          cases k <;> cases k' <;> first
           | exact absurd rfl hk
           | exact ⟨SeqAt.RcAt.list_tuple sq sq' hu0, SeqAt.RcNeAt.list_tuple sq sq' hu0⟩
           | exact ⟨SeqAt.RcAt.tuple_list sq sq' hu0, SeqAt.RcNeAt.tuple_list sq sq' hu0⟩
       refine ⟨main.1, main.2, ?_⟩
       by_cases ha : a = a'
       · subst ha
         have : b = true := bZ1 I h (n + 1) rx ry rv e0
         rw [this]
         exact SeqAt.EqAt.same _
       · exact SeqAt.EqAt.of_refs ha main.1
end
section
variable {X : Cx} {Z : XC}
def eqD : D → D → M D := fun x y G => match eqN 40 G x y with
 | some b => some (.ok (.bl b), G)
 | none => none
def neD : D → D → M D := fun x y G => match eqN 40 G x y with
 | some b => some (.ok (.bl (!b)), G)
 | none => none
theorem od_eq (hu : X.A.units + 64 < cLine) : OpD X Z (compareOp .Eq) eqD := ⟨by
 intro pins s σ H x y v u Q I rx ry ⟨dx, dy, μ, G, rdx, rdy, hr, p⟩
 unfold eqD at p
 cases e : eqN 40 G dx dy with
 | none => rw [e] at p; exact p.elim
 | some b =>
   rw [e] at p
   exact (cL0 I hr 40 X.A (by omega) rdx rdy rx ry e).1 X.prog X.w X.xe _ ⟨.bl b, H, I, rfl, g8.ok p hr _ ofB⟩⟩
theorem od_ne (hu : X.A.units + 64 < cLine) : OpD X Z (compareOp .NotEq) neD := ⟨by
 intro pins s σ H x y v u Q I rx ry ⟨dx, dy, μ, G, rdx, rdy, hr, p⟩
 unfold neD at p
 cases e : eqN 40 G dx dy with
 | none => rw [e] at p; exact p.elim
 | some b =>
   rw [e] at p
   exact (cL0 I hr 40 X.A (by omega) rdx rdy rx ry e).2.1 X.prog X.w X.xe _ ⟨.bl (!b), H, I, rfl, g8.ok p hr _ ofB⟩⟩
def gtD : D → D → M D := fun x y => match x, y with
 | .int i, .int j => pure (.bl (decide (j < i)))
 | .str i, .str j => pure (.bl (decide (j.cps.toList < i.cps.toList)))
 | _, _ => M.stuck
def geD : D → D → M D := fun x y => match x, y with
 | .int i, .int j => pure (.bl (decide (j ≤ i)))
 | .str i, .str j => pure (.bl (!decide (i.cps.toList < j.cps.toList)))
 | _, _ => M.stuck
theorem bT4 {op : CmpOp} {fi : Int → Int → Bool} {fs : Str → Str → Bool} {o : D → D → M D} (hi : OpR X (compareOp op) (rI0 fun i j => .bl (fi i j)))
 (hs : ∀ (i j : Str) (t u : Tok) (s : Shared) (Q : VSP) (E : VSP), Q (.bool (fs i j)) s → wpAny (model X.prog X.w) X.A (compareOp op (.str i t) (.str j u)) Q E s)
 (h1 : ∀ i j, o (.int i) (.int j) = pure (.bl (fi i j))) (h2 : ∀ i j, o (.str i) (.str j) = pure (.bl (fs i j)))
 (h3 : ∀ x y, (∀ i j, ¬ (x = .int i ∧ y = .int j)) → (∀ i j, ¬ (x = .str i ∧ y = .str j)) → o x y = M.stuck) : OpD X Z (compareOp op) o := ⟨by
 intro pins s σ H x y v u Q I rx ry ⟨dx, dy, μ, G, rdx, rdy, hr, p⟩
 by_cases c1 : ∃ i j, dx = .int i ∧ dy = .int j
 · obtain ⟨i, j, rfl, rfl⟩ := c1
   rw [h1] at p
   exact hi pins s σ H x y v u Q I rx ry ⟨i, j, aF9 rdx, aF9 rdy, g8.ok p hr _ ofB⟩
 · by_cases c2 : ∃ i j, dx = .str i ∧ dy = .str j
   · obtain ⟨i, j, rfl, rfl⟩ := c2
     rw [h2] at p
     have e1 := aQ6 rdx
     have e2 := aQ6 rdy
     subst e1 e2
     obtain ⟨t, rfl⟩ := rx
     obtain ⟨t', rfl⟩ := ry
     exact hs i j t t' s _ _ ⟨.bl (fs i j), H, I, rfl, g8.ok p hr _ ofB⟩
   · rw [h3 dx dy (fun i j z => c1 ⟨i, j, z⟩) (fun i j z => c2 ⟨i, j, z⟩)] at p
     exact p.elim⟩
theorem od_gt : OpD X Z (compareOp .Gt) gtD := bT4 eC8 (fun _ _ _ _ _ _ _ q => PySem.P.gt_str q) (fun _ _ => rfl) (fun _ _ => rfl) fun x y n1 n2 => by
 cases x <;> cases y <;> first
  | rfl
  | exact absurd ⟨rfl, rfl⟩ (n1 _ _)
  | exact absurd ⟨rfl, rfl⟩ (n2 _ _)
theorem od_ge : OpD X Z (compareOp .GtE) geD := bT4 eD5 (fun _ _ _ _ _ _ _ q => PySem.P.ge_str q) (fun _ _ => rfl) (fun _ _ => rfl) fun x y n1 n2 => by
 cases x <;> cases y <;> first
  | rfl
  | exact absurd ⟨rfl, rfl⟩ (n1 _ _)
  | exact absurd ⟨rfl, rfl⟩ (n2 _ _)
noncomputable def aM0 : D → Bool
 | .non => true
 | _ => false
theorem cN3 {c : Wc} {μ : List Addr} {H : Hp} {d : D} {v : V} (r : j0 c μ H d v) : decide (v = .non) = aM0 d := by
 cases d with
 | non => rw [cV9 r]; rfl
 | tup l => unfold j0 at r; obtain ⟨a, _, rfl, _⟩ := r; rfl
 | ref l => unfold j0 at r; obtain ⟨a, _, rfl⟩ := r; rfl
 | fn l => unfold j0 at r; obtain ⟨a, _, rfl⟩ := r; rfl
 | _ => unfold j0 at r; subst r; rfl
def bQ5 : D → M D := fun x => match x with
 | .int i => pure (.int (-i))
 | _ => M.stuck
theorem dT1 : UnD X Z (unaryOp .USub) bQ5 := ⟨by
 intro pins s σ H x v Q I rx ⟨dx, μ, G, rdx, hr, p⟩
 cases dx <;> first
  | exact p.elim
  | exact cW8 pins s σ H x v Q I rx ⟨_, aF9 rdx, g8.ok p hr _ ofI⟩⟩
noncomputable instance (x : Str) (n : Int) : Decidable (PySem.MulOk x n) := by unfold PySem.MulOk; infer_instance
def aU4 : D → D → M D := fun x y => match x, y with
 | .int i, .int j => if bL0 i j then pure (.int (i * j)) else M.stuck
 | .str x, .int n => if PySem.MulOk x n then pure (.str (Txt.mul x n)) else M.stuck
 | _, _ => M.stuck
theorem cG4 : OpR X (binaryOp .Mult) (fun x y H Q => ∃ z n, x = .str z ∧ y = .int n ∧ PySem.MulOk z n ∧ Q (.str (Txt.mul z n)) H) := by
 intro pins s σ H x y v u Q I rx ry h
 obtain ⟨z, n, rfl, rfl, hk, q⟩ := h
 obtain ⟨t, rfl⟩ := rx
 obtain ⟨t', rfl⟩ := ry
 exact PySem.SB.mul hk fun t' k => ⟨.str _, H, I.tok _, ⟨_, rfl⟩, q⟩
theorem od_mul : OpD X Z (binaryOp .Mult) aU4 :=
 OpD.of (OpR.or dS1 cG4) fun x y H Q hE0 => hE0.elim fun dx dy μ G rdx rdy hr p => by
  cases dx <;> cases dy <;> first
   | exact p.elim
   | skip
  · unfold aU4 at p
    dsimp only at p
    split at p
    · rename_i hc; exact .inl ⟨_, _, aF9 rdx, aF9 rdy, hc, g8.ok p hr _ ofI⟩
    · exact p.elim
  · unfold aU4 at p
    dsimp only at p
    split at p
    · rename_i hc; exact .inr ⟨_, _, aQ6 rdx, aF9 rdy, hc, g8.ok p hr _ ofS⟩
    · exact p.elim
end
noncomputable def dO0 (A : Around) (s : Shared) (y x : Value) (b : Bool) : Prop :=
 ∀ (prog : Program) (w : World) (E : VSP) (Q : VSP), Q (.bool b) s → wpAny (model prog w) A (richCompare .Lt y x) Q E s
inductive LtR (A : Around) (s : Shared) : List Value → List Value → Bool → Prop
 | nil : LtR A s [] [] false
 | nilc {y ys} : LtR A s [] (y :: ys) true
 | cnil {x xs} : LtR A s (x :: xs) [] false
 | eq {x y xs ys b} : SeqAt.EqAt A s x y true → LtR A s xs ys b → LtR A s (x :: xs) (y :: ys) b
 | ne {x y xs ys b} : SeqAt.EqAt A s x y false → dO0 A s x y b → LtR A s (x :: xs) (y :: ys) b
section
open PySem.SeqAt
open PySem.AutoSeq1 (wpAny_loadPart')
open PySem.MeetsSeq PySem.MeetsSeq2 PySem.MeetsSeq3
end
noncomputable def ltS : D → D → Option Bool
 | .int a, .int b => some (decide (a < b))
 | .str a, .str b => some (decide (a.cps.toList < b.cps.toList))
 | .bl a, .bl b => some (decide (b2i a < b2i b))
 | _, _ => none
noncomputable def ltL (eq lt : D → D → Option Bool) : List D → List D → Option Bool
 | [], [] => some false
 | [], _ :: _ => some true
 | _ :: _, [] => some false
 | x :: xs, y :: ys => match eq x y with
   | some true => ltL eq lt xs ys
   | some false => lt x y
   | none => none
def ltN : Nat → DH → D → D → Option Bool
 | 0, _, _, _ => none
 | n + 1, G, x, y => match aB7 G x, aB7 G y with
   | some (k1, a), some (k2, b) => if k1 = k2 then ltL (eqN n G) (ltN n G) a b else none
   | none, none => ltS x y
   | _, _ => none
section
variable {X : Cx} {Z : XC} {pins : PNS} {σ : St} {H : Hp} {s : Shared} {μ : List Addr} {G : DH}
def ltD : D → D → M D := fun x y G => match ltN 40 G x y with
 | some b => some (.ok (.bl b), G)
 | none => none
end
noncomputable def S8 : D → Bool
 | .non => true
 | .bl _ => true
 | .int _ => true
 | .str _ => true
 | _ => false
noncomputable def toV : D → V
 | .bl b => .bl b
 | .int i => .int i
 | .str x => .str x
 | _ => .non
noncomputable def bK1 : D → Option Key
 | .int i => some (.inl i)
 | .str x => some (.inr x)
 | _ => none
noncomputable def M5 (l : List (Key × D)) (k : Key) : Option D := (l.find? fun kv => decide (kv.1 = k)).map (·.2)
def inB (x y : D) (G : DH) : Option Bool := match y with
 | .str j => match x with
   | .str i => some (!(Builtin.Str.occurrences j i 0 j.length 1).isEmpty)
   | _ => none
 | .ref r => match G[r]? with
   | some (.dct l) => (bK1 x).map fun k => (M5 l k).isSome
   | some (.rod _) => none
   | some (.lst l) => if S8 x && l.all S8 then some (inV (toV x) (l.map toV)) else none
   | some (.rol l) => if S8 x && l.all S8 then some (inV (toV x) (l.map toV)) else none
   | none => none
 | .tup l => if S8 x && l.all S8 then some (inV (toV x) (l.map toV)) else none
 | _ => none
def inD : D → D → M D := fun x y G => match inB x y G with
 | some b => some (.ok (.bl b), G)
 | none => none
def aF3 : D → D → M D := fun x y G => match inB x y G with
 | some b => some (.ok (.bl (!b)), G)
 | none => none
section
variable {X : Cx} {Z : XC} {c : Wc} {μ : List Addr} {H : Hp} {G : DH}
theorem bU3 {d : D} {v : V} (f : S8 d = true) (r : j0 c μ H d v) : v = toV d ∧ aV0 v = true := by
 cases d <;> first
  | exact absurd (show false = true from f) Bool.false_ne_true
  | (unfold j0 at r; subst r; exact ⟨rfl, rfl⟩)
theorem bN4 : ∀ {l : List D} {vs : List V}, l.all S8 = true → w6 c μ H l vs → vs = l.map toV ∧ vs.all aV0 = true
 | [], _, _, r => by cases r; exact ⟨rfl, rfl⟩
 | d :: ds, _, f, r => by
   obtain ⟨v, t, rfl, q, rt⟩ := r
   rw [List.all_cons, Bool.and_eq_true] at f
   obtain ⟨e1, e2⟩ := bU3 f.1 q
   obtain ⟨e3, e4⟩ := bN4 f.2 rt
   refine ⟨by rw [List.map_cons, ← e1, ← e3], ?_⟩
   rw [List.all_cons, e2, e4]; rfl
theorem bP7 {d : D} {k : Key} {v : V} (e : bK1 d = some k) (r : j0 c μ H d v) : v = kV k := by
 cases d <;> first
  | (cases e; unfold j0 at r; exact r)
  | cases e
theorem aT8 {k : Key} : ∀ {l : List (Key × D)} {kvs : List (Key × V)}, aB5 c μ H l kvs → match M5 l k with | some d => ∃ v, aS2 kvs k = some v ∧ j0 c μ H d v | none => aS2 kvs k = none
 | [], _, r => by cases r; exact rfl
 | (k', d) :: t, _, r => by
  obtain ⟨v, kt, rfl, q, rt⟩ := r
  by_cases e : k' = k
  · have h1 : M5 ((k', d) :: t) k = some d := by unfold M5; simp [e]
    rw [h1]
    exact ⟨v, aY4 e, q⟩
  · have h1 : M5 ((k', d) :: t) k = M5 t k := by unfold M5; simp [e]
    rw [h1]
    have ih := aT8 (k := k) rt
    rw [aX8 e]
    exact ih
theorem cE6 {k : Key} {l : List (Key × D)} {kvs : List (Key × V)} (r : aB5 c μ H l kvs) : (M5 l k).isSome = (aS2 kvs k).isSome := by
 have q := aT8 (k := k) r
 cases e : M5 l k with
 | none => rw [e] at q; rw [q]; rfl
 | some d => rw [e] at q; obtain ⟨v, q, _⟩ := q; rw [q]; rfl
theorem dM7 (hu : X.A.units + 64 < cLine) {pins : PNS} {σ : St} {s : Shared} {x y : V} {v u : Value} {dx dy : D} {b : Bool} {Q : VK} (I : Inv X pins σ H s) (hr : J1 (wc X) μ G H) (rdx : j0 (wc X) μ H dx x) (rdy : j0 (wc X) μ H dy y) (rx : J9 x v) (ry : J9 y u)
 (e : inB dx dy G = some b) :
 (Q (.bl b) H → wpAny (model X.prog X.w) X.A (compareOp .In v u) (EP X pins σ Q) X.xe s) ∧ (Q (.bl (!b)) H → wpAny (model X.prog X.w) X.A (compareOp .NotIn v u) (EP X pins σ Q) X.xe s) := by
 have seq : ∀ (p : Addr) (l : List D) (vs : List V), y = .ref p → (SqL X.K H p vs ∨ SqT X.K H p vs) → w6 (wc X) μ H l vs → (if (S8 dx && l.all S8) = true then some (inV (toV dx) (l.map toV)) else none) = some b →
  (Q (.bl b) H → wpAny (model X.prog X.w) X.A (compareOp .In v u) (EP X pins σ Q) X.xe s) ∧ (Q (.bl (!b)) H → wpAny (model X.prog X.w) X.A (compareOp .NotIn v u) (EP X pins σ Q) X.xe s) := by
  intro p l vs hy hq rl e
  split at e
  · rename_i hf
    rw [Bool.and_eq_true] at hf
    cases e
    obtain ⟨e1, e2⟩ := bU3 hf.1 rdx
    obtain ⟨e3, e4⟩ := bN4 hf.2 rl
    rw [← e1, ← e3]
    exact ⟨fun q => cN4 pins s σ H x y v u Q I rx ry ⟨p, vs, hy, hq, e2, e4, q⟩, fun q => bR2 pins s σ H x y v u Q I rx ry ⟨p, vs, hy, hq, e2, e4, q⟩⟩
  · cases e
 cases dy with
 | str j =>
   cases dx with
   | str i =>
     cases e
     have e1 := aQ6 rdx
     have e2 := aQ6 rdy
     exact ⟨fun q => cQ2 pins s σ H x y v u Q I rx ry ⟨i, j, e1, e2, q⟩, fun q => bS1 pins s σ H x y v u Q I rx ry ⟨i, j, e1, e2, q⟩⟩
   | _ => cases e
 | tup l =>
   unfold j0 at rdy
   obtain ⟨a, vs, hy, q, rl⟩ := rdy
   exact seq a l vs hy (.inr q) rl e
 | ref i =>
   unfold j0 at rdy
   obtain ⟨a, m, hy⟩ := rdy
   cases g : G[i]? with
   | none => unfold inB at e; simp only [g] at e; cases e
   | some o =>
     have ro := hr.obj i o a g m
     cases o with
     | lst l =>
       obtain ⟨vs, q, rl⟩ := ro
       unfold inB at e; simp only [g] at e
       exact seq a l vs hy (.inl (SqL.of q)) rl e
     | rol l =>
       obtain ⟨vs, q, rl⟩ := ro
       unfold inB at e; simp only [g] at e
       exact seq a l vs hy (.inl q.sq) rl e
     | dct l =>
       obtain ⟨kvs, q, rk⟩ := ro
       unfold inB at e; simp only [g] at e
       cases hk : bK1 dx with
       | none => rw [hk] at e; cases e
       | some k =>
         rw [hk] at e
         cases e
         have ek := bP7 hk rdx
         have dg : bZ3 H a x (aS2 kvs k) := by rw [ek]; exact bZ3.k q
         subst hy
         cases ry
         dsimp only
         rw [cE6 rk]
         exact ⟨fun q => eJ1 (by omega) I dg rx fun s' I' => ⟨.bl _, H, I', rfl, q⟩, fun q => dI7 (by omega) I dg rx fun s' I' => ⟨.bl _, H, I', rfl, q⟩⟩
     | rod l => unfold inB at e; simp only [g] at e; cases e
 | _ => cases e
theorem od_in (hu : X.A.units + 64 < cLine) : OpD X Z (compareOp .In) inD := ⟨by
 intro pins s σ H x y v u Q I rx ry ⟨dx, dy, μ, G, rdx, rdy, hr, p⟩
 unfold inD at p
 cases e : inB dx dy G with
 | none => rw [e] at p; exact p.elim
 | some b => rw [e] at p; exact (dM7 hu I hr rdx rdy rx ry e).1 (g8.ok p hr _ ofB)⟩
theorem od_notin (hu : X.A.units + 64 < cLine) : OpD X Z (compareOp .NotIn) aF3 := ⟨by
 intro pins s σ H x y v u Q I rx ry ⟨dx, dy, μ, G, rdx, rdy, hr, p⟩
 unfold aF3 at p
 cases e : inB dx dy G with
 | none => rw [e] at p; exact p.elim
 | some b => rw [e] at p; exact (dM7 hu I hr rdx rdy rx ry e).2 (g8.ok p hr _ ofB)⟩
inductive Ty where
 | int | bool | str | tuple | list | dict
 deriving DecidableEq
noncomputable def Ty.name : Ty → String
 | .int => "int" | .bool => "bool" | .str => "str" | .tuple => "tuple" | .list => "list" | .dict => "dict"
noncomputable def Ty.of (n : String) : Option Ty := if n = "int" then some .int else if n = "bool" then some .bool else if n = "str" then some .str else if n = "tuple" then some .tuple else if n = "list" then some .list else if n = "dict" then some .dict else none
theorem Ty.of_name {n : String} {T : Ty} (h : Ty.of n = some T) : n = T.name := by
 unfold Ty.of at h
 split at h
 · rename_i e; cases h; exact e
 split at h
 · rename_i e; cases h; exact e
 split at h
 · rename_i e; cases h; exact e
 split at h
 · rename_i e; cases h; exact e
 split at h
 · rename_i e; cases h; exact e
 split at h
 · rename_i e; cases h; exact e
 · cases h
inductive Kd where
 | non | bool | int | str | tuple | list | dict
noncomputable def Kd.is : Kd → Ty → Bool
 | .bool, .int => true
 | .bool, .bool => true
 | .int, .int => true
 | .str, .str => true
 | .tuple, .tuple => true
 | .list, .list => true
 | .dict, .dict => true
 | _, _ => false
def Kd.name : Kd → String
 | .non => "NoneType" | .bool => "bool" | .int => "int" | .str => "str" | .tuple => "tuple" | .list => "list" | .dict => "dict"
noncomputable def aX2 (G : DH) : D → Option Kd
 | .non => some .non
 | .bl _ => some .bool
 | .int _ => some .int
 | .str _ => some .str
 | .tup _ => some .tuple
 | .ref i => match G[i]? with
   | some (.lst _) => some .list
   | some (.rol _) => some .list
   | some (.dct _) => some .dict
   | some (.rod _) => some .dict
   | none => none
 | _ => none
def bM8 : List D → Option (List Ty)
 | [] => some []
 | .ty n :: r => match Ty.of n, bM8 r with
   | some T, some Ts => some (T :: Ts)
   | _, _ => none
 | _ => none
def V8 : List D → M D := fun ds G => match ds with
 | [d, .ty n] => match aX2 G d, Ty.of n with
   | some k, some T => some (.ok (.bl (k.is T)), G)
   | _, _ => none
 | [d, .tup l] => match aX2 G d, bM8 l with
   | some k, some Ts => some (.ok (.bl (Ts.any k.is)), G)
   | _, _ => none
 | _ => none
theorem dK6 (K : PySem.W.Frag) (k : Kd) (T : Ty) : PySem.W.kitOne K (.type k.name) (.type T.name) = some (k.is T) := by
 cases k <;> cases T <;> rfl
theorem cW5 {A : Around} {E : VSP} {pins : PNS} {σ : St} {s : Shared} {d : D} {x : V} {v : Value} {k : Kd} (I : Inv X pins σ H s) (hr : J1 (wc X) μ G H) (r : j0 (wc X) μ H d x) (rv : J9 x v) (e : aX2 G d = some k) :
 ∃ HH : Heap → Prop, PySem.W.KitX X.K v (.type k.name) HH ∧ HH s.heap ∧ v ≠ .builtin "__main__.__loader__#opaque" := by
 cases d with
 | non => cases e; unfold j0 at r; subst r; cases rv; exact ⟨_, PySem.W.kitx_none, True.intro, fun z => nomatch z⟩
 | bl b => cases e; unfold j0 at r; subst r; cases rv; exact ⟨_, PySem.W.kitx_bool, True.intro, fun z => nomatch z⟩
 | int b => cases e; unfold j0 at r; subst r; obtain ⟨t, rfl⟩ := rv; exact ⟨_, PySem.W.kitx_int, True.intro, fun z => nomatch z⟩
 | str b => cases e; unfold j0 at r; subst r; obtain ⟨t, rfl⟩ := rv; exact ⟨_, PySem.W.kitx_str, True.intro, fun z => nomatch z⟩
 | tup l =>
   cases e
   unfold j0 at r
   obtain ⟨a, vs, rfl, q, _⟩ := r
   cases rv
   obtain ⟨its, _, ⟨o, h1, h2, _⟩, _⟩ := I.tuple q
   exact ⟨_, PySem.W.kitx_tuple, ⟨o, h1, h2⟩, fun z => nomatch z⟩
 | ref i =>
   unfold j0 at r
   obtain ⟨a, m, rfl⟩ := r
   cases rv
   unfold aX2 at e
   cases g : G[i]? with
   | none => simp only [g] at e; cases e
   | some o =>
     have ro := hr.obj i o a g m
     simp only [g] at e
     cases o with
     | lst l =>
       cases e
       obtain ⟨vs, q, _⟩ := ro
       obtain ⟨its, _, ⟨o, n, h1, h2, _⟩, _⟩ := I.list (SqL.of q)
       exact ⟨_, PySem.W.kitx_list, ⟨o, h1, h2⟩, fun z => nomatch z⟩
     | rol l =>
       cases e
       obtain ⟨vs, q, _⟩ := ro
       obtain ⟨its, _, ⟨o, n, h1, h2, _⟩, _⟩ := I.list q.sq
       exact ⟨_, PySem.W.kitx_list, ⟨o, h1, h2⟩, fun z => nomatch z⟩
     | dct l =>
       cases e
       obtain ⟨kvs, q, _⟩ := ro
       obtain ⟨_, _, vs, _, o, es, ep, h1, h2, _⟩ := (show W6 X.prog X.w H s.heap a (.dK kvs) from I.hok a _ q)
       exact ⟨_, PySem.W.kitx_dict, ⟨o, h1, h2.1⟩, fun z => nomatch z⟩
     | rod l =>
       cases e
       obtain ⟨kvs, ob, q, _⟩ := ro
       obtain ⟨_, _, _, vs, _, o, es, ep, h1, h2, _⟩ := (show W6 X.prog X.w H s.heap a (.frz ob (.dK kvs)) from I.hok a _ q)
       exact ⟨_, PySem.W.kitx_dict, ⟨o, h1, h2.1⟩, fun z => nomatch z⟩
 | _ => cases e
theorem cI4 : ∀ {l : List D} {vs : List V} {us : List Value} {Ts : List Ty}, bM8 l = some Ts → w6 c μ H l vs → J7 vs us → us = Ts.map fun T => .type T.name
 | [], _, _, _, e, r, q => by cases e; cases r; cases q; rfl
 | d :: ds, _, _, Ts, e, r, q => by
   obtain ⟨v, t, rfl, r0, rt⟩ := r
   cases q with
   | cons q0 qt =>
     cases d with
     | ty n =>
       replace e : (match Ty.of n, bM8 ds with | some T, some Ts => some (T :: Ts) | _, _ => none) = some Ts := e
       cases h1 : Ty.of n with
       | none => rw [h1] at e; cases e
       | some T =>
         cases h2 : bM8 ds with
         | none => rw [h1, h2] at e; cases e
         | some Ts' =>
           rw [h1, h2] at e
           cases e
           unfold j0 at r0
           subst r0
           rw [cI4 h2 rt qt, List.map_cons, show _ = Value.type n from q0, Ty.of_name h1]
     | _ => cases e
theorem cI6 (K : PySem.W.Frag) (k : Kd) : ∀ Ts : List Ty, PySem.W.kitAny K (.type k.name) (Ts.map fun T => .type T.name) = some (Ts.any k.is)
 | [] => rfl
 | T :: Ts => by
   have ih := cI6 K k Ts
   cases k <;> cases T <;> first
    | rfl
    | exact ih
theorem cP5 : aA7 X Z (.builtin "isinstance") V8 := ⟨by
 intro pins s σ H xs us Q I r ⟨ds, μ, G, rl, hr, p⟩
 delta V8 at p
 rcases ds with _ | ⟨d, _ | ⟨_ | _ | _ | _ | l | _ | _ | n, _ | ⟨_, _⟩⟩⟩ <;> dsimp only at p <;> try exact p.elim
 · obtain ⟨v, t, rfl, r0, v1, t1, rfl, r1, e⟩ := rl
   cases e
   obtain ⟨u, u', rfl, ru, ru'⟩ := cV0 r
   unfold j0 at r1
   obtain ⟨a, vs, rfl, q, rll⟩ := r1
   cases ru'
   cases hk : aX2 G d with
   | none => rw [hk] at p; exact p.elim
   | some k =>
     cases hT : bM8 l with
     | none => rw [hk, hT] at p; exact p.elim
     | some Ts =>
       rw [hk, hT] at p
       obtain ⟨HH, kx, hh, hne⟩ := cW5 (A := X.A) (E := X.xe) I hr r0 ru hk
       obtain ⟨its, rr, ⟨⟨cls, dd, data, sl⟩, h1, h2, n, h3⟩, _⟩ := I.tuple q
       simp only at h2 h3
       subst h2 h3
       exact PySem.W.kia_tup kx I.kIn hh h1 (by rw [cI4 hT rll rr]; exact cI6 X.K k Ts) hne fun tk => ⟨.bl _, H, I.tok tk, rfl, g8.ok p hr _ ofB⟩
 · obtain ⟨v, t, rfl, r0, v1, t1, rfl, r1, e⟩ := rl
   cases e
   obtain ⟨u, u', rfl, ru, ru'⟩ := cV0 r
   unfold j0 at r1
   subst r1
   cases ru'
   cases hk : aX2 G d with
   | none => rw [hk] at p; exact p.elim
   | some k =>
     cases hT : Ty.of n with
     | none => rw [hk, hT] at p; exact p.elim
     | some T =>
       rw [hk, hT] at p
       rw [Ty.of_name hT]
       obtain ⟨HH, kx, hh, hne⟩ := cW5 (A := X.A) (E := X.xe) I hr r0 ru hk
       exact PySem.W.kia_one kx I.kIn hh (dK6 X.K k T) hne fun tk => ⟨.bl _, H, I.tok tk, rfl, g8.ok p hr _ ofB⟩⟩
end
theorem cI9 {c : Wc} {μ : List Addr} {H : Hp} {l : List D} {vs : List V} {i : Int} {d : D} (r : w6 c μ H l vs) (e : atI l i = some d) : ∃ v, atI vs i = some v ∧ j0 c μ H d v := by
 unfold atI at e ⊢
 rw [← r.length]
 cases h : ixN l.length i with
 | none => rw [h] at e; cases e
 | some j =>
   rw [h] at e
   obtain ⟨v, h1, h2⟩ := r.get e
   exact ⟨v, h1, h2⟩
def ixD : D → D → M D := fun x y => match x, y with
 | .tup l, .int i => aI1 (atI l i)
 | .str z, .int i => if z.length ≤ sizeLine then do
    let c ← aI1 (atI z.cps.toList i)
    pure (.str ⟨#[c]⟩)
   else M.stuck
 | .ref r, .int i => do
   let l ← R5 r >>= listOf
   aI1 (atI l i)
 | _, _ => M.stuck
section
variable {X : Cx} {Z : XC} {a b e : Expr} {fa fb : Fe} {pos : Pos}
def IxD (X : Cx) (Z : XC) (o : D → D → M D) : Prop := IxR X (bA7 (wc X) Z o)
theorem cY2 {o : D → D → M D} (ho : IxD X Z o) (ha : DE X Z a fa) (hb : DE X Z b fb) (hs : bE8 b) : DE X Z (.Subscript a b pos) (d7 o fa fb) := DE.of (eA8 ho ha.h hb.h hs) aY8
theorem bH5 {c : Wc} {μ : List Addr} {H : Hp} {G : DH} {r : Option D} {K : D → List Addr → DH → Hp → Prop} (h : J1 c μ G H) (p : g8 c Z μ H (aI1 r G) K) : ∃ d, r = some d ∧ K d μ G H := by
 cases r with
 | none => exact p.elim
 | some d => exact ⟨d, rfl, g8.ok p h⟩
theorem dM4 : IxD X Z ixD := IxR.mono (dL8.or (ix_tup.or ix_str)) fun x y H Q hE0 => hE0.elim fun dx dy μ G rx ry hr p => by
 cases dx <;> cases dy <;> first
  | exact p.elim
  | skip
 · rename_i z i
   refine .inr (.inr ?_)
   unfold ixD at p
   dsimp only at p
   split at p
   · rename_i hz
     obtain ⟨c, ec, p2⟩ := aD0 p
     exact ⟨z, i, c, aQ6 rx, aF9 ry, hz, ec, g8.ok p2 hr _ ofS⟩
   · exact p.elim
 · rename_i l i
   refine .inr (.inl ?_)
   unfold j0 at rx
   obtain ⟨a, vs, rfl, q, rl⟩ := rx
   obtain ⟨d, ed, k⟩ := bH5 hr p
   obtain ⟨v, ev, rv⟩ := cI9 rl ed
   exact ⟨a, vs, i, v, rfl, aF9 ry, q, ev, k v rv⟩
 · rename_i r i
   refine .inl ?_
   obtain ⟨l, a, vs, rfl, rl, p2, hq⟩ := aT1 (d := .ref r) (f := fun l => aI1 (atI l i)) hr rx p
   obtain ⟨d, ed, k⟩ := bH5 hr p2
   obtain ⟨v, ev, rv⟩ := cI9 rl ed
   rcases hq with ⟨z, _⟩ | ⟨_, _, _, ⟨_, q⟩ | ⟨_, q⟩⟩
   · cases z
   · exact ⟨a, vs, i, v, rfl, aF9 ry, SqL.of q, ev, k v rv⟩
   · exact ⟨a, vs, i, v, rfl, aF9 ry, q.sq, ev, k v rv⟩
theorem de_ix (ha : DE X Z a fa) (hb : DE X Z b fb) (hs : bE8 b) : DE X Z (.Subscript a b pos) (d7 ixD fa fb) := cY2 dM4 ha hb hs
def cutD (xs : List D) (lo hi : Option Int) : List D := (xs.drop (HT.sIx xs.length 0 lo)).take (HT.sIx xs.length xs.length hi - HT.sIx xs.length 0 lo)
abbrev Fo := DSt → M (Option Int)
def W9 : Fo := fun _ => pure none
def W7 (f : Fe) : Fo := fun σ => do
 match ← f σ with
 | .int i => pure (some i)
 | _ => M.stuck
def cM6 (c : Wc) (Z : XC) (f : Fo) : TO := fun σ H Q => ∃ dσ μ G, M7 c μ H dσ σ ∧ J1 c μ G H ∧ g8 c Z μ H (f dσ G) fun o _ _ H' => Q o H'
theorem cM6.elim {c : Wc} {Z : XC} {P : Prop} {f : Fo} {σ : St} {H : Hp} {Q : Option Int → Hp → Prop} (h : cM6 c Z f σ H Q) (k : ∀ dσ μ G, M7 c μ H dσ σ → J1 c μ G H → g8 c Z μ H (f dσ G) (fun o _ _ H' => Q o H') → P) : P := by
 obtain ⟨e0, e1, e2, e3, e4, e5⟩ := h
 exact k e0 e1 e2 e3 e4 e5
structure DOp (X : Cx) (Z : XC) (e : Option Expr) (f : Fo) : Prop where
 h : PO X e (cM6 (wc X) Z f)
theorem PO.mono {e : Option Expr} {t t' : TO} (h : PO X e t) (k : ∀ σ H Q, t' σ H Q → t σ H Q) : PO X e t' := fun pins s σ H Q I q => h pins s σ H Q I (k σ H Q q)
theorem DOp.of {e : Option Expr} {f : Fo} {t : TO} (h : PO X e t) (k : ∀ σ H Q, cM6 (wc X) Z f σ H Q → t σ H Q) : DOp X Z e f := ⟨PO.mono h k⟩
theorem do_none : DOp X Z none W9 := DOp.of dG1 fun σ H Q hE0 => hE0.elim fun dσ μ G s h p => g8.ok p h
theorem do_some (h : DE X Z e fa) : DOp X Z (some e) (W7 fa) := DOp.of (dE4 h.h) fun σ H Q hE0 => hE0.elim fun dσ μ G s h p => ⟨dσ, μ, G, s, h, (g8.bind p).mono fun d μ1 G1 H1 x1 h1 p1 v rv => by
 cases d with
 | int i => exact ⟨i, aF9 rv, g8.ok p1 h1⟩
 | _ => exact p1.elim⟩
def slD : D → Option Int → Option Int → M D := fun x lo hi => match x with
 | .tup l => pure (.tup (cutD l lo hi))
 | .ref r => do
   let l ← R5 r >>= listOf
   N5 (.lst (cutD l lo hi))
 | _ => M.stuck
def SlD (X : Cx) (Z : XC) (o : D → Option Int → Option Int → M D) : Prop :=
 SlR X fun x lo hi H Q => ∃ dx μ G, j0 (wc X) μ H dx x ∧ J1 (wc X) μ G H ∧ g8 (wc X) Z μ H (o dx lo hi G) fun d μ' _ H' => ∀ v, j0 (wc X) μ' H' d v → Q v H'
theorem SlR.mono {r r' : V → Option Int → Option Int → Hp → VK → Prop} (h : SlR X r) (k : ∀ x lo hi H Q, r' x lo hi H Q → r x lo hi H Q) : SlR X r' := fun pins s σ H x v vl vu lo hi sl Q I rx hs pl pu q => h pins s σ H x v vl vu lo hi sl Q I rx hs pl pu (k x lo hi H Q q)
theorem aU2 {prog : Program} {w : World} {A : Around} {E : VSP} {s : Shared} {t sl : Addr} {items : Array Value} {vl vu : Value} {lo hi : Option Int} {Q : VSP} (ht : IsTup s.heap t items) (hs : s.heap.IsSliceOf sl vl vu .none) (pl : IsPart vl lo) (pu : IsPart vu hi)
 (hw : HT.sIx items.size 0 lo = 0 ∧ HT.sIx items.size items.size hi = items.size) (h : Q (.ref t) s) : wpAny (model prog w) A (getItem (.ref t) (.ref sl)) Q E s := by
 obtain ⟨os, hos, hcs, hds⟩ := id hs
 have hTs : s.TypeIs (.ref sl) "slice" := ⟨os, hos, hcs⟩
 unfold getItem
 try with_reducible refine wpAny_holding ?_
 first | refine wpAny_bind (wpAny_pure ?_) | skip
 refine wpAny_bind (wpAny_sequenceKey ht.typeIs (by decide) ?_)
 refine wpAny_bind (wpAny_callSpecial?_slot (name := Str.ofString "__getitem__") ht.typeIs PyProof.Rows.slot_tuple_getitem
  (wpAny_call_entry PyProof.Rows.slot_tuple_getitem ht.typeIs entry_tuple_getitem ?_ (args_tuple_getitem _ _)))
 show wpAny _ _ (Builtin.Tuple.tupleItemsOf (.ref t) >>= _) _ _ s
 refine wpAny_bind (tupleItemsOf_ ht ?_)
 refine wpAny_bind (wpAny_typeOf hTs ?_)
 rw [if_pos (by decide)]
 refine wpAny_bind (HT.sliceApplied_gen hs pl pu ?_)
 have hyes : (((HT.sIx items.size 0 lo : Nat) : Int) == 0 && (1 : Int) == 1 && (HT.sIx items.size items.size hi - HT.sIx items.size 0 lo) == items.size) = true := by
  rw [hw.1, hw.2]; simp
 show wpAny _ _ (if (((HT.sIx items.size 0 lo : Nat) : Int) == 0 && (1 : Int) == 1 && (HT.sIx items.size items.size hi - HT.sIx items.size 0 lo) == items.size) = true then _ else _) _ _ s
 rw [if_pos hyes]
 unfold Builtin.Tuple.tupleIsExact
 refine wpAny_bind (wpAny_bind (wpAny_typeOf ht.typeIs (wpAny_pure ?_)))
 rw [if_pos (by decide)]
 exact wpAny_bind (wpAny_rule (wpAny_pure ⟨_, rfl, wpAny_pure h⟩))
def eH0 (K : PySem.W.Frag) : V → Option Int → Option Int → Hp → VK → Prop := fun x lo hi H Q => ∃ a xs, x = .ref a ∧ SqT K H a xs ∧ (HT.sIx xs.length 0 lo = 0 ∧ HT.sIx xs.length xs.length hi = xs.length) ∧ Q (.ref a) H
theorem dL1 : SlR X (eH0 X.K) := by
 intro pins s σ H x v vl vu lo hi sl Q I rx hs pl pu h
 obtain ⟨a, xs, rfl, hx, hw, q⟩ := h
 cases rx
 obtain ⟨its, r, ht, hz⟩ := I.tuple hx
 have hlen : its.toArray.size = xs.length := by rw [List.size_toArray]; exact r.length.symm
 exact ⟨"tuple", _, PyProof.Rows.slot_tuple_getitem.lookup, ht.typeIs, aU2 ht hs pl pu (by rw [hlen]; exact hw) ⟨.ref a, H, I, rfl, q⟩⟩
theorem bQ0 {c : Wc} {μ : List Addr} {H : Hp} {l : List D} {vs : List V} (r : w6 c μ H l vs) (lo hi : Option Int) : w6 c μ H (cutD l lo hi) (bK8 vs lo hi) := by
 unfold cutD bK8
 rw [r.length]
 exact (r.drop _).take _
theorem eA4 : SlD X Z slD := SlR.mono (sl_tup.or (dL1.or dC8)) fun x lo hi H Q ⟨dx, μ, G, rx, hr, p⟩ => by
 cases dx with
 | tup l =>
   unfold j0 at rx
   obtain ⟨a, vs, rfl, q, rl⟩ := rx
   by_cases hw : HT.sIx vs.length 0 lo = 0 ∧ HT.sIx vs.length vs.length hi = vs.length
   · refine .inr (.inl ⟨a, vs, rfl, q, hw, aS8 hr q ?_ p⟩)
     have e : bK8 vs lo hi = vs := by unfold bK8; rw [hw.1, hw.2]; simp
     have := bQ0 rl lo hi
     rw [e] at this
     exact this
   · exact .inl ⟨a, vs, rfl, q, hw, fun p' hp => aN0 hr (bQ0 rl lo hi) p p' hp⟩
 | ref r =>
   obtain ⟨l, a, vs, rfl, rl, p2, hq⟩ := aT1 (d := .ref r) (f := fun l => N5 (.lst (cutD l lo hi))) hr rx p
   have hs : SqL (wc X).K H a vs := by
    rcases hq with ⟨z, _⟩ | ⟨_, _, _, ⟨_, q⟩ | ⟨_, q⟩⟩
    · cases z
    · exact SqL.of q
    · exact q.sq
   exact .inr (.inr ⟨a, vs, rfl, hs, fun p' hp => aC3 hr (bQ0 rl lo hi) p2 p' hp⟩)
 | _ => exact p.elim
variable {lo hi : Option Expr} {fl fh : Fo} {p2 : Pos}
theorem bB5 {prog : Program} {w : World} {A : Around} {E : VSP} {s : Shared} {sl : Addr} {t : Tok} {n : Nat} {Q : Int × Int × Nat → Shared → Prop} (hs : s.heap.IsSliceOf sl .none .none (.int (-1) t))
 (h : Q ((n : Int) - 1, -1, n) s) : wpAny (model prog w) A (Builtin.Slice.sliceApplied (.ref sl) (pure (n : Int))) Q E s := by
 obtain ⟨os, hos, hcs, hds⟩ := id hs
 unfold Builtin.Slice.sliceApplied Builtin.Slice.sliceFields
 refine wpAny_bind (wpAny_bind (wpAny_field hos hds (x := .none) rfl (wpAny_bind (wpAny_field hos hds (x := .none) rfl (wpAny_bind (wpAny_field hos hds (x := .int (-1) t) rfl (wpAny_pure ?_)))))))
 refine wpAny_bind (slicePart_int ?_)
 show wpAny _ _ (if ((-1 : Int) == 0) = true then _ else _) _ _ s
 rw [if_neg (by decide)]
 refine wpAny_bind (slicePart_none (wpAny_bind (slicePart_none (wpAny_bind (wpAny_pure ?_)))))
 have e1 : Builtin.Slice.sliceAdjust none none (-1) (n : Int) = ((n : Int) - 1, -1) := by simp [Builtin.Slice.sliceAdjust]
 have e2 : Builtin.Slice.slicePlaces ((n : Int) - 1) (-1) (-1) = n := by
  unfold Builtin.Slice.slicePlaces
  rw [if_neg (by decide)]
  by_cases h0 : n = 0
  · subst h0; rfl
  · rw [if_pos (by omega)]
    have e : ((n : Int) - 1 - -1 - 1) / (- -1) + 1 = n := by
     rw [show (- -1 : Int) = 1 by decide, Int.ediv_one]; omega
    rw [e]; simp
 show wpAny _ _ (match Builtin.Slice.sliceAdjust none none (-1) (n : Int) with | (lo, hi) => pure (lo, (-1 : Int), Builtin.Slice.slicePlaces lo hi (-1))) _ _ s
 rw [e1]
 show wpAny _ _ (pure ((n : Int) - 1, (-1 : Int), Builtin.Slice.slicePlaces ((n : Int) - 1) (-1) (-1))) _ _ s
 rw [e2]
 exact wpAny_pure h
theorem cZ7 (l : List Value) : ((List.range l.length).filterMap fun (k : Nat) => l.toArray[(((l.length : Nat) : Int) - 1 + (k : Int) * (-1)).toNat]?) = l.reverse := by
 have gen : ∀ n, n ≤ l.length → ((List.range n).filterMap fun (k : Nat) => l.toArray[(((l.length : Nat) : Int) - 1 + (k : Int) * (-1)).toNat]?) = l.reverse.take n := by
  intro n
  induction n with
  | zero => intro _; simp
  | succ n ih =>
    intro hn
    rw [List.range_succ, List.filterMap_append, ih (by omega)]
    have hlt : n < l.reverse.length := by simp; omega
    rw [List.take_succ_eq_append_getElem hlt]
    congr 1
    have e1 : (((l.length : Nat) : Int) - 1 + (n : Int) * (-1)).toNat = l.length - 1 - n := by omega
    have hlt2 : l.length - 1 - n < l.length := by omega
    show List.filterMap _ [n] = _
    rw [List.filterMap_cons, e1]
    have e2 : l.toArray[l.length - 1 - n]? = some l[l.length - 1 - n] := by simp [hlt2]
    rw [e2]
    simp
 have := gen l.length (Nat.le_refl _)
 rw [this]
 rw [List.take_of_length_le (by simp)]
theorem aZ4 {prog : Program} {w : World} {A : Around} {E : VSP} {s : Shared} {t sl : Addr} {tk : Tok} {its : List Value} {Q : VSP} (ht : IsTup s.heap t its.toArray) (hs : s.heap.IsSliceOf sl .none .none (.int (-1) tk))
 (h : Q (.ref s.heap.objs.size) { s with heap := s.heap.push { cls := .type "tuple", data := .seq its.reverse.toArray } }) (hsz : its.length ≤ sizeLine) : wpAny (model prog w) A (getItem (.ref t) (.ref sl)) Q E s := by
 have htake : sizeOk (.seq its.reverse.toArray) := by
  show its.reverse.toArray.size ≤ sizeLine
  rw [List.size_toArray, List.length_reverse]; exact hsz
 obtain ⟨os, hos, hcs, hds⟩ := id hs
 have hTs : s.TypeIs (.ref sl) "slice" := ⟨os, hos, hcs⟩
 unfold getItem
 try with_reducible refine wpAny_holding ?_
 first | refine wpAny_bind (wpAny_pure ?_) | skip
 refine wpAny_bind (wpAny_sequenceKey ht.typeIs (by decide) ?_)
 refine wpAny_bind (wpAny_callSpecial?_slot (name := Str.ofString "__getitem__") ht.typeIs PyProof.Rows.slot_tuple_getitem
  (wpAny_call_entry PyProof.Rows.slot_tuple_getitem ht.typeIs entry_tuple_getitem ?_ (args_tuple_getitem _ _)))
 show wpAny _ _ (Builtin.Tuple.tupleItemsOf (.ref t) >>= _) _ _ s
 refine wpAny_bind (tupleItemsOf_ ht ?_)
 refine wpAny_bind (wpAny_typeOf hTs ?_)
 rw [if_pos (by decide)]
 refine wpAny_bind (bB5 hs ?_)
 show wpAny _ _ (if ((((its.toArray.size : Nat) : Int) - 1) == 0 && (-1 : Int) == 1 && its.toArray.size == its.toArray.size) = true then _ else _) _ _ s
 rw [if_neg (by simp)]
 have e := cZ7 its
 have e2 : ((List.range its.toArray.size).filterMap fun (k : Nat) => its.toArray[(((its.toArray.size : Nat) : Int) - 1 + (k : Int) * (-1)).toNat]?) = its.reverse := by
  rw [List.size_toArray]; exact e
 rw [e2]
 first
  | exact wpAny_bind (m := Builtin.Tuple.tupleExact _) (wpAny_newObj_type (wpAny_pure ⟨_, rfl, wpAny_pure h⟩) htake)
  | exact wpAny_bind (m := Builtin.Tuple.tupleExact _) (wpAny_newObj_type (wpAny_bind (wpAny_pure (wpAny_pure ⟨_, rfl, wpAny_pure h⟩))) htake)
  | exact wpAny_bind (wpAny_bind (m := Builtin.Tuple.tupleExact _) (wpAny_newObj_type (wpAny_pure (wpAny_pure ⟨_, rfl, wpAny_pure h⟩)) htake))
  | exact wpAny_bind (wpAny_bind (m := Builtin.Tuple.tupleExact _) (wpAny_newObj_type (wpAny_pure ⟨_, rfl, wpAny_pure h⟩) htake))
def dY3 : D → M D := fun x => match x with
 | .tup l => pure (.tup l.reverse)
 | .ref r => do
   let l ← R5 r >>= listOf
   N5 (.lst l.reverse)
 | _ => M.stuck
end
noncomputable def cB5 (r : Nat) (o : DO) : M Unit := fun G => some (.ok (), G.set r o)
noncomputable def aL4 (l : List (Key × D)) (k : Key) (d : D) : List (Key × D) := if l.any (fun kv => decide (kv.1 = k)) then l.map (fun kv => if kv.1 = k then (kv.1, d) else kv) else l ++ [(k, d)]
def cF3 : D → D → D → M Unit := fun o i d => match o with
 | .ref r => do
   match ← R5 r with
   | .lst l => match i with
     | .int k => match ixN l.length k with
       | some j => cB5 r (.lst (l.set j d))
       | none => M.stuck
     | _ => M.stuck
   | .dct l => match bK1 i with
     | some k => if l.length < sizeLine then cB5 r (.dct (aL4 l k d)) else M.stuck
     | none => M.stuck
   | .rol _ => M.stuck
   | .rod _ => M.stuck
 | _ => M.stuck
def aR1 (fo fi : Fe) : Fg := fun d σ => do
 let o ← fo σ
 let i ← fi σ
 let _ ← cF3 o i d
 pure σ
section
variable {X : Cx} {Z : XC} {c : Wc} {μ : List Addr} {H : Hp} {G : DH}
theorem bW8 {k : Key} {d : D} {v : V} (rv : j0 c μ H d v) : ∀ {l : List (Key × D)} {kvs : List (Key × V)}, aB5 c μ H l kvs → aB5 c μ H (aL4 l k d) (aO3 kvs k v) := by
 have any_eq : ∀ {l : List (Key × D)} {kvs : List (Key × V)}, aB5 c μ H l kvs → (l.any fun kv => decide (kv.1 = k)) = (kvs.any fun kv => decide (kv.1 = k)) := by
  intro l
  induction l with
  | nil => intro kvs r; cases r; rfl
  | cons p t ih =>
    intro kvs r
    obtain ⟨v', kt, rfl, _, rt⟩ := r
    rw [List.any_cons, List.any_cons, ih rt]
 have map_eq : ∀ {l : List (Key × D)} {kvs : List (Key × V)}, aB5 c μ H l kvs → aB5 c μ H (l.map fun kv => if kv.1 = k then (kv.1, d) else kv) (kvs.map fun kv => if kv.1 = k then (kv.1, v) else kv) := by
  intro l
  induction l with
  | nil => intro kvs r; cases r; rfl
  | cons p t ih =>
    intro kvs r
    obtain ⟨k', d'⟩ := p
    obtain ⟨v', kt, rfl, q, rt⟩ := r
    rw [List.map_cons, List.map_cons]
    by_cases e : k' = k
    · simp only [e, if_true]
      exact ⟨v, _, rfl, rv, ih rt⟩
    · simp only [e, if_false]
      exact ⟨v', _, rfl, q, ih rt⟩
 have app_eq : ∀ {l : List (Key × D)} {kvs : List (Key × V)}, aB5 c μ H l kvs → aB5 c μ H (l ++ [(k, d)]) (kvs ++ [(k, v)]) := by
  intro l
  induction l with
  | nil => intro kvs r; cases r; exact ⟨v, [], rfl, rv, rfl⟩
  | cons p t ih =>
    intro kvs r
    obtain ⟨v', kt, rfl, q, rt⟩ := r
    exact ⟨v', _, rfl, q, ih rt⟩
 intro l kvs r
 unfold aL4 aO3
 rw [any_eq r]
 split
 · exact map_eq r
 · exact app_eq r
theorem aB5.length : ∀ {l : List (Key × D)} {kvs : List (Key × V)}, aB5 c μ H l kvs → l.length = kvs.length
 | [], _, r => by cases r; rfl
 | _ :: _, _, r => by obtain ⟨_, _, rfl, _, t⟩ := r; simp [aB5.length t]
theorem bW2 {r : Nat} {a : Addr} {o o' : DO} {u : HO} {Q : List Addr → DH → Hp → Prop} (h : J1 c μ G H) (g : G[r]? = some o) (n : ¬ aM9 (some o)) (m : μ[r]? = some a) (n' : ¬ aM9 (some o')) (ho : ∀ x : Ext μ H μ (upd H a u), aL7 c μ (upd H a u) a o')
 (p : g8 c Z μ H (cB5 r o' G) fun _ μ' G' H' => Q μ' G' H') : Q μ (G.set r o') (upd H a u) := by
 obtain ⟨u', e, n1, n2⟩ := (h.obj r o a g m).some_of n
 have x : Ext μ H μ (upd H a u) := Ext.mut (List.mem_of_getElem? m) e n1 n2 u
 exact p μ _ x (h.set g n m x n' (ho x))
def bQ6 (c : Wc) (Z : XC) (f : D → D → D → M Unit) : dL7 := fun o i v H Q => ∃ d1 d2 d3 μ G, j0 c μ H d1 o ∧ j0 c μ H d2 i ∧ j0 c μ H d3 v ∧ J1 c μ G H ∧ g8 c Z μ H (f d1 d2 d3 G) fun _ _ _ H' => Q H'
theorem bQ6.elim {c : Wc} {Z : XC} {P : Prop} {f : D → D → D → M Unit} {o : V} {i : V} {v : V} {H : Hp} {Q : Hp → Prop} (h : bQ6 c Z f o i v H Q) (k : ∀ d1 d2 d3 μ G, j0 c μ H d1 o → j0 c μ H d2 i → j0 c μ H d3 v → J1 c μ G H → g8 c Z μ H (f d1 d2 d3 G) (fun _ _ _ H' => Q H') → P) : P := by
 obtain ⟨e0, e1, e2, e3, e4, e5, e6, e7, e8, e9⟩ := h
 exact k e0 e1 e2 e3 e4 e5 e6 e7 e8 e9
theorem dU7 (hu : X.A.units + 64 < cLine) : dR6 X (bQ6 (wc X) Z cF3) := by
 intro pins s σ H o i v ov iv u Q I ro ri rv ⟨d1, d2, d3, μ, G, r1, r2, r3, hr, p⟩
 cases d1 with
 | ref r =>
   unfold j0 at r1
   obtain ⟨a, m, rfl⟩ := r1
   obtain ⟨ob, g, p1⟩ := N6 p
   have rob := hr.obj r ob a g m
   cases ob with
   | lst l =>
     obtain ⟨vs, ea, rl⟩ := rob
     cases d2 with
     | int k =>
       dsimp only at p1
       cases hk : ixN l.length k with
       | none => simp only [hk] at p1; exact p1.elim
       | some j =>
         simp only [hk] at p1
         exact dB1 pins s σ H (.ref a) i v ov iv u Q I ro ri rv ⟨a, vs, k, j, rfl, aF9 r2, ea, by rw [← rl.length]; exact hk, bW2 (o' := .lst (l.set j d3)) (Q := fun _ _ H' => Q H') hr g (fun z => z) m (fun z => z) (fun x => ⟨_, S9, (rl.mono x).set (r3.mono x) j⟩) p1⟩
     | _ => exact p1.elim
   | dct l =>
     obtain ⟨kvs, ea, rk⟩ := rob
     dsimp only at p1
     cases hk : bK1 d2 with
     | none => simp only [hk] at p1; exact p1.elim
     | some k =>
       simp only [hk] at p1
       split at p1
       · rename_i hz
         have ei := bP7 hk r2
         subst ei
         cases ro
         refine cP9 (by omega) I (dG5.k ea (by rw [← rk.length]; exact hz)) ri rv fun s' I' => ⟨_, I', ?_⟩
         exact bW2 (o' := .dct (aL4 l k d3)) (Q := fun _ _ H' => Q H') hr g (fun z => z) m (fun z => z) (fun x => ⟨_, S9, bW8 (r3.mono x) (rk.mono x)⟩) p1
       · exact p1.elim
   | rol l => exact p1.elim
   | rod l => exact p1.elim
 | _ => exact p.elim
variable {a b e o i : Expr} {fa fb fo fi : Fe} {pos : Pos}
theorem dg_sub (hu : X.A.units + 64 < cLine) (ho : DE X Z o fo) (hi : DE X Z i fi)
 (ha : ∀ v, assign (.Subscript o i pos) X.env v = (do
   let ov ← holding [v] (eval o X.env)
   let iv ← holding [v, ov] (eval i X.env)
   standAt pos
   holding [v, ov, iv] (setItem ov iv v)
   release [v, ov, iv] [])) : DG X Z (.Subscript o i pos) (aR1 fo fi) :=
 DG.of (dN7 ho.h hi.h (dU7 hu) ha) fun v σ H Q hE0 => hE0.elim fun d dσ μ G r s h p => ⟨dσ, μ, G, s, h, (g8.bind p).mono fun d1 μ1 G1 H1 x1 h1 p1 v1 r1 =>
  ⟨dσ, μ1, G1, s.mono x1, h1, (g8.bind p1).mono fun d2 μ2 G2 H2 x2 h2 p2 v2 r2 => ⟨d1, d2, d, μ2, G2, r1.mono x2, r2, r.mono (x1.trans x2), h2, (g8.bind p2).mono fun _ μ3 G3 H3 x3 h3 p3 => g8.ok p3 h3 σ (s.mono (x1.trans (x2.trans x3)))⟩⟩⟩
def aN4 : Fe := fun _ => N5 (.dct [])
theorem de_dict0 : DE X Z (.Dict [] [] pos) aN4 := DE.of dC2 fun σ H Q hE0 => hE0.elim fun dσ μ G s h p q hq => by
 have k : Ext μ H (μ ++ [q]) (upd H q (.dK [])) := Ext.add hq _
 refine p (μ ++ [q]) _ k (h.new hq ⟨[], S9, rfl⟩) _ ?_
 unfold j0
 exact ⟨q, by rw [← h.len]; simp, rfl⟩
def aD5 : D → M Unit := fun x => match x with
 | .ref r => do
   match ← R5 r with
   | .lst _ => pure ()
   | _ => M.stuck
 | _ => M.stuck
noncomputable def mtE (t : D → M Unit) (m : D → List D → M D) (fo : Fe) (fs : DSt → M (List D)) : Fe := fun σ => do
 let x ← fo σ
 let _ ← t x
 let xs ← fs σ
 m x xs
def lstM (r : Nat) : M (List D) := do
 match ← R5 r with
 | .lst l => pure l
 | _ => M.stuck
def aG3 : D → List D → M D := fun x xs => match x, xs with
 | .ref r, [y] => do
   let l ← lstM r
   if l.length < sizeLine then do
    let _ ← cB5 r (.lst (l ++ [y]))
    pure .non
   else M.stuck
 | _, _ => M.stuck
theorem cQ6 {α : Type} {r : Nat} {a : Addr} {f : List D → M α} {K : α → List Addr → DH → Hp → Prop} (h : J1 c μ G H) (m : μ[r]? = some a) (p : g8 c Z μ H ((lstM r >>= f) G) K) :
 ∃ l vs, G[r]? = some (.lst l) ∧ H a = some (.lst vs) ∧ w6 c μ H l vs ∧ g8 c Z μ H (f l G) K := by
 have p' : g8 c Z μ H ((R5 r >>= fun o => (match o with | .lst l => pure l | _ => M.stuck : M (List D)) >>= f) G) K := by rw [← M.bind_assoc]; exact p
 obtain ⟨o, g, p2⟩ := N6 p'
 have ro := h.obj r o a g m
 cases o with
 | lst l => obtain ⟨vs, e, rl⟩ := ro; exact ⟨l, vs, g, e, rl, p2⟩
 | _ => exact p2.elim
def MtD (X : Cx) (Z : XC) (id : String) (m : D → List D → M D) : Prop :=
 MtR X id fun x xs H Q => ∃ d ds μ G, j0 (wc X) μ H d x ∧ w6 (wc X) μ H ds xs ∧ J1 (wc X) μ G H ∧ g8 (wc X) Z μ H (m d ds G) fun d μ' _ H' => ∀ v, j0 (wc X) μ' H' d v → Q v H'
theorem cT4 {α : Type} {r : Nat} {a : Addr} {l l' : List D} {vs' : List V} {f : M α} {K : α → List Addr → DH → Hp → Prop} (h : J1 c μ G H) (g : G[r]? = some (.lst l)) (m : μ[r]? = some a) (rl : ∀ x : Ext μ H μ (upd H a (.lst vs')), w6 c μ (upd H a (.lst vs')) l' vs')
 (p : g8 c Z μ H ((cB5 r (.lst l') >>= fun _ => f) G) K) : Ext μ H μ (upd H a (.lst vs')) ∧ J1 c μ (G.set r (.lst l')) (upd H a (.lst vs')) ∧ g8 c Z μ (upd H a (.lst vs')) (f (G.set r (.lst l'))) K := by
 obtain ⟨u', e, n1, n2⟩ := (h.obj r _ a g m).some_of (fun z => z)
 have x : Ext μ H μ (upd H a (.lst vs')) := Ext.mut (List.mem_of_getElem? m) e n1 n2 _
 have h' : J1 c μ (G.set r (.lst l')) (upd H a (.lst vs')) := h.set g (fun z => z) m x (fun z => z) ⟨vs', S9, rl x⟩
 exact ⟨x, h', g8.from p x⟩
theorem cP3 : MtD X Z "list.append" aG3 := by
 intro pins s σ H x xs v us Q I rx rs ⟨d, ds, μ, G, rd, rds, hr, p⟩
 cases d with
 | ref r =>
   unfold j0 at rd
   obtain ⟨a, m, rfl⟩ := rd
   cases ds with
   | nil => exact p.elim
   | cons y t =>
     cases t with
     | cons _ _ => exact p.elim
     | nil =>
       obtain ⟨yv, tv, rfl, ry, e⟩ := rds
       cases e
       obtain ⟨l, vs, g, ea, rl, p1⟩ := cQ6 hr m p
       split at p1
       · rename_i hz
         obtain ⟨x1, h1, p2⟩ := cT4 (l' := l ++ [y]) (vs' := vs ++ [yv]) hr g m (fun x => (rl.mono x).append (w6.cons (ry.mono x) w6.nil)) p1
         exact bO0 pins s σ H (.ref a) [yv] v us Q I rx rs ⟨a, vs, yv, rfl, rfl, ea, by rw [← rl.length]; exact hz, g8.ok p2 h1 _ ofN⟩
       · exact p1.elim
 | _ => exact p.elim
variable {es : List Expr} {fs : DSt → M (List D)} {name : Str} {apos cpos : Pos} {id : String} {mm : D → List D → M D}
theorem bV6 {α : Type} {d : D} {v : V} {f : Unit → M α} {K : α → List Addr → DH → Hp → Prop} (h : J1 c μ G H) (r : j0 c μ H d v) (p : g8 c Z μ H ((aD5 d >>= f) G) K) : tyV c.K "list" v H ∧ g8 c Z μ H (f () G) K := by
 cases d with
 | ref i =>
   unfold j0 at r
   obtain ⟨a, m, rfl⟩ := r
   have p' : g8 c Z μ H ((R5 i >>= fun o => (match o with | .lst _ => pure () | _ => M.stuck : M Unit) >>= f) G) K := by rw [← M.bind_assoc]; exact p
   obtain ⟨o, g, p2⟩ := N6 p'
   have ro := h.obj i o a g m
   cases o with
   | lst l => obtain ⟨vs, e, rl⟩ := ro; exact ⟨.inl ⟨rfl, vs, SqL.of e⟩, p2⟩
   | _ => exact p2.elim
 | _ => exact p.elim
theorem dY4 (slot : Slot "list" name id) (hty : typeOf (.builtin id) = pure (.type "method_descriptor")) (hm : MtD X Z id mm) (ho : DE X Z o fo) (ha : DA X Z (e :: es) fs)
 (hbase : attributeBase o name X.env (eval o X.env) = eval o X.env)
 (hfew : ((backTo cpos (starEach (e :: es) X.env)).all (fun x => !x.1) && (backToKw cpos (keywordEach [] X.env)).all (fun x => x.1.isSome)
   && decide ((e :: es).length + ([] : List Keyword).length + (if ([] : List Keyword).isEmpty then 0 else 1) < 30)) = true)
 (hline : (apos.endLine == cpos.line) = true) (hs : starEach (e :: es) X.env = (false, eval e X.env) :: starEach es X.env) (hplain : (backTo cpos (starEach es X.env)).any (·.1) = false) :
 DE X Z (.Call (.Attribute o name apos) (e :: es) [] cpos) (mtE aD5 mm fo fs) :=
 DE.of (dM3 PySem.F.plainAttrs_list slot hty hm ho.h ha.h hbase hfew hline hs hplain) fun σ H Q hE0 => hE0.elim fun dσ μ G s h p => ⟨dσ, μ, G, s, h, (g8.bind p).mono fun d μ1 G1 H1 x1 h1 p1 v rv => by
  obtain ⟨ty, p2⟩ := bV6 h1 rv p1
  exact ⟨ty, dσ, μ1, G1, s.mono x1, h1, (g8.bind p2).mono fun ds μ2 G2 H2 x2 h2 p3 vs rvs => ⟨d, ds, μ2, G2, rv.mono x2, rvs, h2, p3⟩⟩⟩
end
noncomputable def SC (k : Bool) (h : Heap) (a : Addr) (items : Array Value) : Prop := if k then h.IsTuple a items else h.IsList a items
section
variable {prog : Program} {w : World} {A : Around} {E : VSP} {s : Shared} {k : Bool}
structure ZA (z TI TO i1 i2 : Addr) : Prop where
 TIz : TI ≠ z
 TOz : TO ≠ z
 i1z : i1 ≠ z
 i2z : i2 ≠ z
 TITO : TI ≠ TO
 TIi1 : TI ≠ i1
 TIi2 : TI ≠ i2
 TOi1 : TO ≠ i1
 TOi2 : TO ≠ i2
 i12 : i1 ≠ i2
variable {z TI TO i1 i2 l1 l2 : Addr} {xs ys : Array Value} {k1 k2 : Bool} {i : Nat}
end
section
variable {X : Cx} {pins : PNS} {σ : St} {H : Hp} {s : Shared}
theorem bO2 {h' : Heap} {t' : Nat} {ch : List Addr} {vs : List V} {us : List Value} (I : Inv X pins σ H s) (hf : ∀ b ∈ ch, aR2 X pins H b) (k : ∀ b o, b ∉ ch → s.heap.get? b = some o → h'.get? b = some o)
 (hz : vs.length ≤ sizeLine) (rv : J7 vs us) (ht : aC7 h' s.heap.objs.size us.toArray) : Inv X pins σ (upd H s.heap.objs.size (.tup vs)) { s with heap := h', toks := t' } := by
 have hq : H s.heap.objs.size = none := I.hok.fresh (Nat.le_refl _)
 have neq : ∀ b o, s.heap.get? b = some o → b ≠ s.heap.objs.size := fun b o e => Nat.ne_of_lt (Heap.lt_size e)
 have nch : ∀ b u, H b = some u → b ∉ ch := fun b u e z => by rw [(hf b z).1] at e; cases e
 refine I.step (g' := s.gens) (d' := s.drawn) (ch := ch) (fun b hb => ⟨(hf b hb).2.2.2.1, (hf b hb).2.1, (hf b hb).2.2.2.2.1, (hf b hb).2.2.2.2.2⟩) (fun b o _ _ hc e _ => k b o hc e) (fun b o _ _ hc e _ => ⟨o.slots, k b o hc e⟩)
  (fun b o _ e n => by rw [J6 (neq b o e)]; exact n) (fun b o hc e => ⟨o, k b o hc e⟩) (fun b xs e => by rw [J6 (K3 e hq)]; exact e) (fun b o u e => by rw [J6 (K3 e hq)]; exact e)
  (fun b ps e => ⟨#[], by rw [J6 (K3 e hq), e]; simp⟩) (fun m hm => ?_) (fun b u e => ?_) I.bare
 · obtain ⟨o, es, ep, ho, r⟩ := hm
   exact ⟨o, es, ep, k _ o (fun z => (hf _ z).2.1 rfl) ho, r⟩
 · by_cases hb : b = s.heap.objs.size
   · subst hb
     rw [S9] at e
     cases e
     exact ⟨hz, us, rv, ht⟩
   · rw [J6 hb] at e
     refine (I.hok b u e).stay (fun c v hc q => k c v ?_ q) (fun c q => by rw [J6 (K3 q hq)]; exact q) fun c xs q => by rw [J6 (K3 q hq)]; exact q
     rcases hc with z | z
     · rw [z]; exact nch b u e
     · exact nch c _ z
theorem aW8 {h' : Heap} {t' : Nat} {ch : List Addr} (I : Inv X pins σ H s) (hf : ∀ b ∈ ch, aR2 X pins H b) (k : ∀ b o, b ∉ ch → s.heap.get? b = some o → h'.get? b = some o) : Inv X pins σ H { s with heap := h', toks := t' } := by
 have nch : ∀ b u, H b = some u → b ∉ ch := fun b u e z => by rw [(hf b z).1] at e; cases e
 refine I.step (g' := s.gens) (d' := s.drawn) (ch := ch) (fun b hb => ⟨(hf b hb).2.2.2.1, (hf b hb).2.1, (hf b hb).2.2.2.2.1, (hf b hb).2.2.2.2.2⟩) (fun b o _ _ hc e _ => k b o hc e) (fun b o _ _ hc e _ => ⟨o.slots, k b o hc e⟩)
  (fun _ _ _ _ n => n) (fun b o hc e => ⟨o, k b o hc e⟩) (fun _ _ e => e) (fun _ _ _ e => e) (fun b ps e => ⟨#[], by rw [e]; simp⟩) (fun m hm => ?_) (fun b u e => ?_) I.bare
 · obtain ⟨o, es, ep, ho, r⟩ := hm
   exact ⟨o, es, ep, k _ o (fun z => (hf _ z).2.1 rfl) ho, r⟩
 · refine (I.hok b u e).stay (fun c v hc q => k c v ?_ q) (fun _ q => q) fun _ _ q => q
   rcases hc with z | z
   · rw [z]; exact nch b u e
   · exact nch c _ z
end
def Sq (K : PySem.W.Frag) (k : Bool) (H : Hp) (a : Addr) (vs : List V) : Prop := if k then SqT K H a vs else SqL K H a vs
theorem cM2 {vs : List V} {its : List Value} (r : J7 vs its) {i : Nat} {x : V} (h : vs[i]? = some x) : ∃ u, its.toArray[i]? = some u ∧ J9 x u := by
 obtain ⟨u, e, ru⟩ := r.get h
 exact ⟨u, by simpa using e, ru⟩
section
variable {X : Cx} {Z : XC}
end
def Ite (K : PySem.W.Frag) (a : Addr) : It :=
 ⟨fun i H => ∃ xs x, SqL K H a xs ∧ xs[i]? = some x,
  fun i H v H' => ∃ q x, H q = none ∧ v = .ref q ∧ H' = upd H q (.tup [.int i, x]) ∧ ∀ xs, SqL K H a xs → xs[i]? = some x,
  fun i H => ∃ xs, SqL K H a xs ∧ xs.length ≤ i⟩
theorem cS2 {P : Program} {w : World} {K : PySem.W.Frag} {es : List Expr} {x1 : Nat} {tp : Pos} {l e it : Addr} (hne : e ≠ it) :
 bK4 P w K (.Tuple es x1 tp) (Ite K l) [e, it] e (fun i h => (∃ old, IsEnum h e it i old) ∧ h.IsListIter it l i) where
 mem := by simp
 obj := fun i h st b hb => by
  obtain ⟨⟨old, s1⟩, s2⟩ := st
  simp only [List.mem_cons, List.not_mem_nil, or_false] at hb
  rcases hb with rfl | rfl
  · exact ⟨_, s1, fun v z => nomatch z⟩
  · obtain ⟨o, q, c, d⟩ := s2
    exact ⟨o, q, fun v z => by rw [d] at z; cases z⟩
 keep := fun i h h' st k => by
  obtain ⟨⟨old, s1⟩, s2⟩ := st
  exact ⟨⟨old, k _ (by simp) _ s1⟩, s2.at fun o q => k _ (by simp) o q⟩
 item := by
  intro X hP hw hK hc i pins s σ H E I hf st hg
  subst hP hw hK
  obtain ⟨xs, x, q1, hx⟩ := hg
  obtain ⟨its, r1, c1, z1⟩ := I.list q1
  obtain ⟨u, e1, ru⟩ := cM2 r1 hx
  obtain ⟨⟨old, s1⟩, s2⟩ := st
  refine wpAny_pyNext_enum_item s1 s2 c1.isList e1 hne fun g b1 b2 b3 b4 b5 => ⟨_, rfl, ?_⟩
  refine wpAny_letOwnedTupleGo_enum b1 fun g2 c1' sb => ?_
  have elt : e < s.heap.objs.size := Heap.lt_size s1
  have ilt : it < s.heap.objs.size := by obtain ⟨_, q, _⟩ := s2; exact Heap.lt_size q
  have keep : ∀ b o, b ∉ [e, it] → s.heap.get? b = some o → g2.get? b = some o := fun b o hb q => by
   simp only [List.mem_cons, List.not_mem_nil, or_false, not_or] at hb
   exact (sb.2 b hb.1).trans (b5 b o hb.1 hb.2 q)
  have hnew : aC7 g2 s.heap.objs.size [.int (i : Int) s.toks, u].toArray := ⟨_, (sb.2 _ (Nat.ne_of_gt elt)).trans b3, rfl, _, rfl⟩
  have hq : H s.heap.objs.size = none := I.hok.fresh (Nat.le_refl _)
  refine ⟨.ref s.heap.objs.size, upd H s.heap.objs.size (.tup [.int i, x]), bO2 I hf keep (by show 2 ≤ sizeLine; decide) (.cons ⟨_, rfl⟩ (.cons ru .nil)) hnew, rfl, ⟨_, x, hq, rfl, rfl, fun xs' h => by rw [I.list_inj h q1]; exact hx⟩, ?_, fun b hb => ?_⟩
  · exact ⟨⟨_, c1'⟩, b2.at fun o q => (sb.2 _ (Ne.symm hne)).trans q⟩
  · have hb' : b < s.heap.objs.size := by
     simp only [List.mem_cons, List.not_mem_nil, or_false] at hb
     rcases hb with rfl | rfl
     · exact elt
     · exact ilt
    rw [J6 (Nat.ne_of_lt hb')]
    exact (hf b hb).1
 done := by
  intro X hP hw hK hc i pins s σ H E I hf st hg
  subst hP hw hK
  obtain ⟨xs, q1, hend⟩ := hg
  obtain ⟨its, r1, c1, z1⟩ := I.list q1
  obtain ⟨⟨old, s1⟩, s2⟩ := st
  have hl := r1.length
  refine wpAny_pyNext_enum_end (I.ok.hd hc) s1 s2 c1.isList (by simp; omega) fun g b7 => ⟨rfl, aW8 (t' := s.toks) I hf fun b o hb q => ?_⟩
  simp only [List.mem_cons, List.not_mem_nil, or_false, not_or] at hb
  exact b7 b o hb.2 q
 self := fun _ _ _ _ _ st h => by obtain ⟨⟨old, s1⟩, _⟩ := st; exact wpAny_pyIter_enum s1 h
def eA5 (K : PySem.W.Frag) (ta : TA) : TI := fun σ H R => ta σ H fun vs H1 => ∃ a xs, vs = [.ref a] ∧ SqL K H1 a xs ∧ R (Ite K a) H1
section
variable {X : Cx} {Z : XC}
theorem dL0 {es : List Expr} {x1 : Nat} {tp : Pos} {a : Expr} {ta : TA} {p pos : Pos} (hg : Gl X "enumerate") (hm : X.mg "enumerate" = none) (ha : PA X [a] ta) (hs : starEach [a] X.env = [(false, eval a X.env)]) (hbt : bootBuiltins "enumerate" = some (.type "enumerate")) :
 PI X (.Tuple es x1 tp) (.Call (.Name "enumerate" p) [a] [] pos) (eA5 X.K ta) := by
 intro pins s σ H R I h
 refine Call_ (bA8 I hg hm hbt (PyProof.Rows.callWith_type1 (thn (ha pos pins s σ H _ I h) fun us s1 ⟨vs, H1, I1, r1, q1⟩ => ?_) hs rfl))
 obtain ⟨l, xs, rfl, q1, q⟩ := q1
 obtain ⟨u1, rfl, ru1⟩ := aE3 r1
 cases ru1
 obtain ⟨its, rr, c1, z1⟩ := I1.list q1
 refine call_enumerate_list c1.isList fun g b1 b2 b3 b4 => wpAny_pyIter_enum b1 ?_
 have hne : @Ne Nat (s1.heap.objs.size + 1) s1.heap.objs.size := by omega
 refine ⟨s1.heap.objs.size + 1, [s1.heap.objs.size + 1, s1.heap.objs.size], _, Ite X.K l, H1, rfl, I1.kept (t' := s1.toks) b4, cS2 hne, ⟨⟨_, b1⟩, b2⟩, fun b hb => ?_, q⟩
 have hb' : s1.heap.objs.size ≤ b := by
  simp only [List.mem_cons, List.not_mem_nil, or_false] at hb
  rcases hb with rfl | rfl
  · exact Nat.le_succ _
  · exact Nat.le_refl _
 exact I1.fpOk hb' (I1.hok.fresh hb')
variable {tg e : Expr}
open Classical in
noncomputable def ckO (r : Nat) (o : DO) : DH → Bool := fun G => decide (G[r]? = some o)
def aY6 : D → M Src := fun x => match x with
 | .tup l => pure ⟨l, fun _ => true⟩
 | .ref r => do
   let o ← R5 r
   let l ← listOf o
   pure ⟨l, ckO r o⟩
 | _ => M.stuck
def eD4 (c : Wc) (μ : List Addr) (H : Hp) (k : Bool) (a : Addr) (s : Src) : Prop := ∀ μ' G' H', Ext μ H μ' H' → J1 c μ' G' H' → s.ck G' = true → ∃ vs, Sq c.K k H' a vs ∧ w6 c μ' H' s.items vs
theorem bL6 {α : Type} {c : Wc} {μ : List Addr} {H : Hp} {G : DH} {d : D} {v : V} {f : Src → M α} {K : α → List Addr → DH → Hp → Prop} (h : J1 c μ G H) (r : j0 c μ H d v) (p : g8 c Z μ H ((aY6 d >>= f) G) K) :
 ∃ s k a vs, v = .ref a ∧ Sq c.K k H a vs ∧ w6 c μ H s.items vs ∧ eD4 c μ H k a s ∧ s.ck G = true ∧ (∀ i, d = .ref i → k = false) ∧ g8 c Z μ H (f s G) K := by
 cases d with
 | tup l =>
   unfold j0 at r
   obtain ⟨a, vs, rfl, q, rl⟩ := r
   exact ⟨⟨l, fun _ => true⟩, true, a, vs, rfl, q, rl, fun μ' G' H' x h' _ => ⟨vs, x.sqT q, rl.mono x⟩, rfl, (fun i z => nomatch z), p⟩
 | ref i =>
   unfold j0 at r
   obtain ⟨a, m, rfl⟩ := r
   have p' : g8 c Z μ H ((R5 i >>= fun o => (listOf o >>= fun l => (pure ⟨l, ckO i o⟩ : M Src)) >>= f) G) K := by rw [← M.bind_assoc]; exact p
   obtain ⟨o, g, p2⟩ := N6 p'
   have ro := h.obj i o a g m
   have ck : ckO i o G = true := by unfold ckO; simp [g]
   cases o with
   | lst l =>
     obtain ⟨vs, q, rl⟩ := ro
     refine ⟨⟨l, ckO i (.lst l)⟩, false, a, vs, rfl, SqL.of q, rl, fun μ' G' H' x h' hck => ?_, ck, (fun _ _ => rfl), p2⟩
     have g' : G'[i]? = some (.lst l) := by unfold ckO at hck; simpa using hck
     obtain ⟨vs', q', rl'⟩ := h'.obj i _ a g' (bP9 x.pre m)
     exact ⟨vs', SqL.of q', rl'⟩
   | rol l =>
     obtain ⟨vs, q, rl⟩ := ro
     refine ⟨⟨l, ckO i (.rol l)⟩, false, a, vs, rfl, q.sq, rl, fun μ' G' H' x h' hck => ?_, ck, (fun _ _ => rfl), p2⟩
     have g' : G'[i]? = some (.rol l) := by unfold ckO at hck; simpa using hck
     obtain ⟨vs', q', rl'⟩ := h'.obj i _ a g' (bP9 x.pre m)
     exact ⟨vs', q'.sq, rl'⟩
   | dct l => exact p2.elim
   | rod l => exact p2.elim
 | _ => exact p.elim
theorem cM8 {c : Wc} {μ : List Addr} {H : Hp} {l : List D} {vs : List V} {i : Nat} {d : D} {x : V} (r : w6 c μ H l vs) (h : l[i]? = some d) (hx : vs[i]? = some x) : j0 c μ H d x := by
 obtain ⟨v, e, q⟩ := r.get h
 rw [hx] at e
 cases e
 exact q
noncomputable def K8 (lo : Int) (n : Nat) : List D := (List.range n).map fun (i : Nat) => D.int (lo + (i : Int))
def V5 (fs : DSt → M (List D)) : DSt → M Src := fun σ => do
 match ← fs σ with
 | [.int j] => if -(2 ^ 62) ≤ j ∧ j < 2 ^ 62 then pure ⟨K8 0 j.toNat, fun _ => true⟩ else M.stuck
 | _ => M.stuck
theorem cR7 {c : Wc} {μ : List Addr} {H : Hp} (lo : Int) (n : Nat) : ItD c μ H (Itr lo n) ⟨K8 lo n, fun _ => true⟩ := fun μ' G' H' x' h' _ i => by
 refine ⟨fun d hd => ?_, fun hi => ?_⟩
 · have hi : i < n := by have := lt_of_get hd; simpa [K8] using this
   have e : d = .int (lo + i) := by
    unfold K8 at hd
    rw [List.getElem?_map, List.getElem?_range hi] at hd
    simp at hd
    exact hd.symm
   subst e
   exact ⟨hi, fun x H2 ⟨e1, e2⟩ => by subst e1 e2; exact ⟨Ext.refl _ _, h', ofI⟩⟩
 · show n ≤ i
   simpa [K8] using hi
theorem dF8 {a : Expr} {fs : DSt → M (List D)} {p pos : Pos} (hg : Gl X "range") (hm : X.mg "range" = none) (ha : DA X Z [a] fs) (hs : starEach [a] X.env = [(false, eval a X.env)]) : DI X Z tg (.Call (.Name "range" p) [a] [] pos) (V5 fs) :=
 DI.of (cO6 hg hm ha.h hs) fun σ H R hE0 => hE0.elim fun dσ μ G s h p => ⟨dσ, μ, G, s, h, (g8.bind p).mono fun ds μ1 G1 H1 x1 h1 p1 vs rv => by
  rcases ds with _ | ⟨_ | _ | j | _ | _ | _ | _ | _, _ | ⟨_, _⟩⟩ <;> dsimp only at p1 <;> try exact p1.elim
  · split at p1
    · rename_i hj
      obtain ⟨v, t, rfl, r0, e⟩ := rv
      cases e
      exact ⟨j, by rw [aF9 r0], hj.1, hj.2, g8.ok p1 h1 _ (cR7 0 _)⟩
    · exact p1.elim⟩
def bA6 (fs : DSt → M (List D)) : DSt → M Src := fun σ => do
 match ← fs σ with
 | [.ref r] => do
   let s ← aY6 (.ref r)
   pure ⟨s.items.zipIdx.map fun p => .tup [.int ((p.2 : Nat) : Int), p.1], s.ck⟩
 | _ => M.stuck
theorem cJ6 {c : Wc} {μ : List Addr} {H : Hp} {G : DH} {q : Addr} {ds : List D} {vs : List V} (h : J1 c μ G H) (hq : H q = none) (r : w6 c μ H ds vs) : Ext μ H μ (upd H q (.tup vs)) ∧ J1 c μ G (upd H q (.tup vs)) ∧ j0 c μ (upd H q (.tup vs)) (.tup ds) (.ref q) := by
 have k : Ext μ H μ (upd H q (.tup vs)) := Ext.lay hq _
 refine ⟨k, h.same k fun a o e n => by rw [J6 (K3 e hq)]; exact e, ?_⟩
 unfold j0
 exact ⟨q, vs, rfl, SqT.of S9, r.mono k⟩
theorem dH9 {es : List Expr} {x1 : Nat} {tp : Pos} {a : Expr} {fs : DSt → M (List D)} {p pos : Pos} (hg : Gl X "enumerate") (hm : X.mg "enumerate" = none) (ha : DA X Z [a] fs) (hs : starEach [a] X.env = [(false, eval a X.env)]) (hbt : bootBuiltins "enumerate" = some (.type "enumerate")) :
 DI X Z (.Tuple es x1 tp) (.Call (.Name "enumerate" p) [a] [] pos) (bA6 fs) :=
 DI.of (dL0 hg hm ha.h hs hbt) fun σ H R hE0 => hE0.elim fun dσ μ G s h p => ⟨dσ, μ, G, s, h, (g8.bind p).mono fun ds μ1 G1 H1 x1 h1 p1 vs rv => by
  rcases ds with _ | ⟨_ | _ | _ | _ | _ | r | _ | _, _ | ⟨_, _⟩⟩ <;> dsimp only at p1 <;> try exact p1.elim
  · obtain ⟨v1, t1, rfl, r1, e⟩ := rv
    cases e
    obtain ⟨s1, k1, a1, w1, rfl, q1, l1, is1, ck1, hk, p2⟩ := bL6 h1 r1 p1
    have hk := hk r rfl
    subst hk
    refine ⟨a1, w1, rfl, q1, g8.ok p2 h1 _ fun μ' G' H' x' h' ck' i => ?_⟩
    obtain ⟨u1, q1', l1'⟩ := is1 μ' G' H' x' h' ck'
    refine ⟨fun d hd => ?_, fun hi => ?_⟩
    · rw [List.getElem?_map, List.getElem?_zipIdx] at hd
      cases hz : s1.items[i]? with
      | none => rw [hz] at hd; cases hd
      | some e1 =>
        rw [hz] at hd
        have hd' : d = .tup [.int ((i : Nat) : Int), e1] := by simpa using hd.symm
        subst hd'
        obtain ⟨y1, hy1, ry1⟩ := l1'.get hz
        refine ⟨⟨u1, y1, q1', hy1⟩, fun x H2 ⟨q, z1, hq, ex, eH, f1⟩ => ?_⟩
        subst ex eH
        have g1 := f1 u1 q1'
        rw [hy1] at g1
        cases g1
        exact cJ6 h' hq ⟨_, _, rfl, ofI, y1, _, rfl, ry1, rfl⟩
    · refine ⟨u1, q1', ?_⟩
      rw [← l1'.length]
      simpa using hi⟩
end
def aP0 : List D → M D := fun ds => match ds with
 | [.str z] => if z.length ≤ sizeLine then pure (.int z.length) else M.stuck
 | [.tup l] => pure (.int l.length)
 | [.ref r] => do
   match ← R5 r with
   | .lst l => pure (.int l.length)
   | .rol l => pure (.int l.length)
   | .dct l => pure (.int l.length)
   | .rod _ => M.stuck
 | _ => M.stuck
def aA5 : List D → M D := fun ds => match ds with
 | [.tup l] => pure (.tup l)
 | [.ref r] => do
   let l ← R5 r >>= listOf
   pure (.tup l)
 | _ => M.stuck
def bO3 : List D → M D := fun ds => match ds with
 | [.tup l] => N5 (.lst l)
 | [.ref r] => do
   let l ← R5 r >>= listOf
   N5 (.lst l)
 | _ => M.stuck
def cQ1 : List D → M D := fun ds => match ds with
 | [.int i, .int j] => pure (.int (if j < i then j else i))
 | _ => M.stuck
def bV4 : List D → M D := fun ds => match ds with
 | [.int i] => pure (.int i)
 | [.bl k] => pure (.int (if k then 1 else 0))
 | _ => M.stuck
noncomputable def aR9 : List D → Option (List Int)
 | [] => some []
 | .int i :: r => (aR9 r).map (i :: ·)
 | _ => none
noncomputable def aY7 : List D → Option (List Bool)
 | [] => some []
 | .bl b :: r => (aY7 r).map (b :: ·)
 | _ => none
def cO3 : List D → M D := fun ds => match ds with
 | [.ref r] => do
   let l ← R5 r >>= listOf
   let ns ← aI1 (aR9 l)
   pure (.int ns.sum)
 | _ => M.stuck
def bV1 : List D → M D := fun ds => match ds with
 | [.ref r] => do
   let l ← R5 r >>= listOf
   let bs ← aI1 (aY7 l)
   pure (.bl (bs.all id))
 | _ => M.stuck
def cG5 : List D → M D := fun ds => match ds with
 | [.ref r] => do
   let l ← R5 r >>= listOf
   let bs ← aI1 (aY7 l)
   pure (.bl (bs.any id))
 | _ => M.stuck
section
variable {X : Cx} {Z : XC} {c : Wc} {μ : List Addr} {H : Hp} {G : DH}
theorem aS0 {d : D} {vs : List V} (r : w6 c μ H [d] vs) : ∃ v, vs = [v] ∧ j0 c μ H d v := by
 obtain ⟨v, t, rfl, q, e⟩ := r
 cases e
 exact ⟨v, rfl, q⟩
theorem rep2 {d e : D} {vs : List V} (r : w6 c μ H [d, e] vs) : ∃ v w, vs = [v, w] ∧ j0 c μ H d v ∧ j0 c μ H e w := by
 obtain ⟨v, t, rfl, q, v', t', rfl, q', z⟩ := r
 cases z
 exact ⟨v, v', rfl, q, q'⟩
theorem dU9 : aA7 X Z (.builtin "len") aP0 := aA7.of (aC1.or bP5 (aC1.or bP8 cS0)) fun xs H Q hE0 => hE0.elim fun ds μ G rl hr p => by
 delta aP0 at p
 rcases ds with _ | ⟨_ | _ | _ | z | l | i | _ | _, _ | ⟨_, _⟩⟩ <;> dsimp only at p <;> try exact p.elim
 · obtain ⟨v, rfl, r⟩ := aS0 rl
   split at p
   · rename_i hz
     exact .inr (.inl ⟨z, by rw [aQ6 r], hz, g8.ok p hr _ ofI⟩)
   · exact p.elim
 · obtain ⟨v, rfl, r⟩ := aS0 rl
   unfold j0 at r
   obtain ⟨a, vs, rfl, q, rl'⟩ := r
   exact .inl ⟨a, vs, rfl, .inr q, by rw [← rl'.length]; exact g8.ok p hr _ ofI⟩
 · obtain ⟨v, rfl, r⟩ := aS0 rl
   unfold j0 at r
   obtain ⟨a, m, rfl⟩ := r
   obtain ⟨o, g, p1⟩ := N6 p
   have ro := hr.obj i o a g m
   cases o with
   | lst l => obtain ⟨vs, q, rl'⟩ := ro; exact .inl ⟨a, vs, rfl, .inl (SqL.of q), by rw [← rl'.length]; exact g8.ok p1 hr _ ofI⟩
   | rol l => obtain ⟨vs, q, rl'⟩ := ro; exact .inl ⟨a, vs, rfl, .inl q.sq, by rw [← rl'.length]; exact g8.ok p1 hr _ ofI⟩
   | dct l => obtain ⟨kvs, q, rk⟩ := ro; exact .inr (.inr ⟨a, kvs, rfl, q, by rw [← rk.length]; exact g8.ok p1 hr _ ofI⟩)
   | rod l => exact p1.elim
theorem aE9 {α : Type} {r : Nat} {v : V} {f : List D → M α} {K : α → List Addr → DH → Hp → Prop} (h : J1 c μ G H) (rv : j0 c μ H (.ref r) v) (p : g8 c Z μ H (((R5 r >>= listOf) >>= f) G) K) :
 ∃ l a vs, v = .ref a ∧ w6 c μ H l vs ∧ SqL c.K H a vs ∧ g8 c Z μ H (f l G) K := by
 obtain ⟨l, a, vs, rfl, rl, p2, hq⟩ := aT1 (d := .ref r) (f := f) h rv p
 refine ⟨l, a, vs, rfl, rl, ?_, p2⟩
 rcases hq with ⟨z, _⟩ | ⟨_, _, _, ⟨_, q⟩ | ⟨_, q⟩⟩
 · cases z
 · exact SqL.of q
 · exact q.sq
theorem cT7 : aA7 X Z (.type "tuple") aA5 := aA7.of bL2 fun xs H Q hE0 => hE0.elim fun ds μ G rl hr p => by
 delta aA5 at p
 rcases ds with _ | ⟨_ | _ | _ | _ | l | i | _ | _, _ | ⟨_, _⟩⟩ <;> dsimp only at p <;> try exact p.elim
 · obtain ⟨v, rfl, r⟩ := aS0 rl
   have r' := r
   unfold j0 at r'
   obtain ⟨a, vs, rfl, q, rl'⟩ := r'
   exact ⟨a, vs, rfl, .inr ⟨q, g8.ok p hr _ r⟩⟩
 · obtain ⟨v, rfl, r⟩ := aS0 rl
   obtain ⟨l, a, vs, rfl, rl', q, p2⟩ := aE9 hr r p
   exact ⟨a, vs, rfl, .inl ⟨q, fun l' hl => aN0 hr rl' p2 l' hl⟩⟩
theorem dL2 : aA7 X Z (.type "list") bO3 := aA7.of bQ8 fun xs H Q hE0 => hE0.elim fun ds μ G rl hr p => by
 delta bO3 at p
 rcases ds with _ | ⟨_ | _ | _ | _ | l | i | _ | _, _ | ⟨_, _⟩⟩ <;> dsimp only at p <;> try exact p.elim
 · obtain ⟨v, rfl, r⟩ := aS0 rl
   unfold j0 at r
   obtain ⟨a, vs, rfl, q, rl'⟩ := r
   exact ⟨a, vs, rfl, .inr q, fun l' hl => aC3 hr rl' p l' hl⟩
 · obtain ⟨v, rfl, r⟩ := aS0 rl
   obtain ⟨l, a, vs, rfl, rl', q, p2⟩ := aE9 hr r p
   exact ⟨a, vs, rfl, .inl q, fun l' hl => aC3 hr rl' p2 l' hl⟩
theorem dV9 (hc : X.calm = true) : aA7 X Z (.builtin "min") cQ1 := aA7.of (cS7 hc) fun xs H Q hE0 => hE0.elim fun ds μ G rl hr p => by
 delta cQ1 at p
 rcases ds with _ | ⟨_ | _ | i | _ | _ | _ | _ | _, t⟩ <;> try exact p.elim
 rcases t with _ | ⟨_ | _ | j | _ | _ | _ | _ | _, _ | ⟨_, _⟩⟩ <;> try exact p.elim
 obtain ⟨v, w, rfl, r, r'⟩ := rep2 rl
 exact ⟨_, _, by rw [aF9 r, aF9 r'], g8.ok p hr _ ofI⟩
theorem dR9 : aA7 X Z (.type "int") bV4 := aA7.of cP6 fun xs H Q hE0 => hE0.elim fun ds μ G rl hr p => by
 delta bV4 at p
 rcases ds with _ | ⟨_ | _ | _ | _ | _ | _ | _ | _, _ | ⟨_, _⟩⟩ <;> dsimp only at p <;> try exact p.elim
 · obtain ⟨v, rfl, r⟩ := aS0 rl
   exact .inr ⟨_, by rw [bR0 r], g8.ok p hr _ ofI⟩
 · obtain ⟨v, rfl, r⟩ := aS0 rl
   exact .inl ⟨_, by rw [aF9 r], g8.ok p hr _ ofI⟩
theorem bN7 : ∀ {l : List D} {ns : List Int} {vs : List V} {us : List Value}, aR9 l = some ns → w6 c μ H l vs → J7 vs us → us.length = ns.length ∧ ∀ (i : Nat) (u : Value), us[i]? = some u → ∃ t, u = Value.int (ns.getD i 0) t
 | [], _, _, _, e, r, q => by cases e; cases r; cases q; exact ⟨rfl, fun i u h => by simp at h⟩
 | d :: ds, ns, _, _, e, r, q => by
   obtain ⟨v, t, rfl, r0, rt⟩ := r
   cases q with
   | cons q0 qt =>
     cases d with
     | int n =>
       replace e : (aR9 ds).map (n :: ·) = some ns := e
       cases h : aR9 ds with
       | none => rw [h] at e; cases e
       | some ms =>
         rw [h] at e
         cases e
         obtain ⟨h1, h2⟩ := bN7 h rt qt
         refine ⟨by simp [h1], fun i u hu => ?_⟩
         cases i with
         | zero =>
           simp at hu; subst hu
           rw [aF9 r0] at q0
           exact q0
         | succ i => simpa using h2 i u (by simpa using hu)
     | _ => cases e
theorem bJ5 : ∀ {l : List D} {bs : List Bool} {vs : List V} {us : List Value}, aY7 l = some bs → w6 c μ H l vs → J7 vs us → us.length = bs.length ∧ ∀ (i : Nat) (u : Value), us[i]? = some u → u = Value.bool (bs.getD i false)
 | [], _, _, _, e, r, q => by cases e; cases r; cases q; exact ⟨rfl, fun i u h => by simp at h⟩
 | d :: ds, ns, _, _, e, r, q => by
   obtain ⟨v, t, rfl, r0, rt⟩ := r
   cases q with
   | cons q0 qt =>
     cases d with
     | bl n =>
       replace e : (aY7 ds).map (n :: ·) = some ns := e
       cases h : aY7 ds with
       | none => rw [h] at e; cases e
       | some ms =>
         rw [h] at e
         cases e
         obtain ⟨h1, h2⟩ := bJ5 h rt qt
         refine ⟨by simp [h1], fun i u hu => ?_⟩
         cases i with
         | zero =>
           simp at hu; subst hu
           rw [bR0 r0] at q0
           exact q0
         | succ i => simpa using h2 i u (by simpa using hu)
     | _ => cases e
theorem cQ4 (bs : List Bool) : ((List.range bs.length).all fun i => bs.getD i false) = bs.all id := by
 induction bs with
 | nil => rfl
 | cons b t ih => rw [List.length_cons, List.range_succ_eq_map, List.all_cons, List.all_map, List.all_cons]; simp [Function.comp_def]; rw [← ih]; simp
theorem cO2 (bs : List Bool) : ((List.range bs.length).any fun i => bs.getD i false) = bs.any id := by
 induction bs with
 | nil => rfl
 | cons b t ih => rw [List.length_cons, List.range_succ_eq_map, List.any_cons, List.any_map, List.any_cons]; simp [Function.comp_def]; rw [← ih]; simp
theorem bB4 {pins : PNS} {σ : St} {s : Shared} {a : Addr} {its : List Value} (hc : X.calm = true) (I : Inv X pins σ H s) (hl : s.heap.IsList a its.toArray) {Q : VSP} {E : VSP}
 (h : Walks X.prog X.w X.A.in1 s.heap.objs.size [s.heap.objs.size, a] [s.heap.objs.size] its.toArray.size (fun i v => its.toArray[i]? = some v) (fun i h => h.IsListIter s.heap.objs.size a i ∧ h.IsList a its.toArray) →
   ∀ h2 : Heap, (h2.IsListIter s.heap.objs.size a 0 ∧ h2.IsList a its.toArray) → (∀ b ∈ [s.heap.objs.size, a], b < h2.objs.size) → (∀ h' tk, (∀ b o, b ∉ [s.heap.objs.size] → h2.get? b = some o → h'.get? b = some o) → Inv X pins σ H { s with heap := h', toks := tk }) → Q (.ref s.heap.objs.size) { s with heap := h2 }) :
 wpAny (model X.prog X.w) X.A.in1 (pyIter (.ref a)) Q E s := by
 have hlt : a < s.heap.objs.size := by obtain ⟨_, e, _⟩ := hl; exact Heap.lt_size e
 refine wpAny_pyIter_list hl ?_
 have hh : X.A.in1.handled = none := I.ok.hd hc
 refine h (Walks.list hh s.heap.objs.size a (Nat.ne_of_lt hlt) its.toArray) _ ⟨⟨_, Heap.get?_push_size _ rfl, rfl, rfl⟩, hl.push _⟩ (fun b hb => ?_) fun h' tk k => ?_
 · rw [Heap.size_push]
   simp only [List.mem_cons, List.not_mem_nil, or_false] at hb
   rcases hb with rfl | rfl
   · exact Nat.lt_succ_self _
   · exact Nat.lt_succ_of_lt hlt
 · exact I.kept fun b o e => k b o (by simp only [List.mem_singleton]; exact Nat.ne_of_lt (Heap.lt_size e)) (Heap.get?_push_of_some _ e)
theorem dV3 (hc : X.calm = true) : aA7 X Z (.builtin "sum") cO3 := ⟨by
 intro pins s σ H xs us Q I r ⟨ds, μ, G, rl, hr, p⟩
 delta cO3 at p
 rcases ds with _ | ⟨_ | _ | _ | _ | _ | i | _ | _, _ | ⟨_, _⟩⟩ <;> dsimp only at p <;> try exact p.elim
 · obtain ⟨v, rfl, rv⟩ := aS0 rl
   obtain ⟨u, rfl, ru⟩ := aE3 r
   obtain ⟨l, a, vs, rfl, rl', q, p2⟩ := aE9 hr rv p
   cases ru
   obtain ⟨ns, en, p3⟩ := aD0 p2
   obtain ⟨its, rr, pl, hz⟩ := I.list q
   obtain ⟨h1, h2⟩ := bN7 en rl' rr
   refine call_sum_walkG (bB4 hc I pl.isList fun W g hg hb hk => ⟨_, _, _, _, _, _, fun i => ns.getD i 0, rfl, W, hg, hb, fun i v hv => h2 i v (by simpa using hv), fun h' tk t' k => ?_⟩)
   refine ⟨.int ns.sum, H, hk h' tk k, ⟨t', ?_⟩, g8.ok p3 hr _ ofI⟩
   have e := preSum_getD ns its.toArray.size
   rw [e, List.take_of_length_le (by rw [List.size_toArray]; omega)]⟩
theorem dP9 (hc : X.calm = true) : aA7 X Z (.builtin "all") bV1 := ⟨by
 intro pins s σ H xs us Q I r ⟨ds, μ, G, rl, hr, p⟩
 delta bV1 at p
 rcases ds with _ | ⟨_ | _ | _ | _ | _ | i | _ | _, _ | ⟨_, _⟩⟩ <;> dsimp only at p <;> try exact p.elim
 · obtain ⟨v, rfl, rv⟩ := aS0 rl
   obtain ⟨u, rfl, ru⟩ := aE3 r
   obtain ⟨l, a, vs, rfl, rl', q, p2⟩ := aE9 hr rv p
   cases ru
   obtain ⟨bs, en, p3⟩ := aD0 p2
   obtain ⟨its, rr, pl, hz⟩ := I.list q
   obtain ⟨h1, h2⟩ := bJ5 en rl' rr
   refine call_all_walk (bB4 hc I pl.isList fun W g hg hb hk => ⟨_, _, _, _, _, _, fun i => bs.getD i false, rfl, W, hg, fun i v s' Q' E' hv hq => ?_, fun h' tk k => ?_⟩)
   · rw [h2 i v (by simpa using hv)]
     exact wpAny_truthy_bool hq
   · refine ⟨.bl (bs.all id), H, hk h' tk k, ?_, g8.ok p3 hr _ ofB⟩
     have e : its.toArray.size = bs.length := by rw [List.size_toArray]; exact h1
     rw [e, cQ4]; rfl⟩
theorem dV6 (hc : X.calm = true) : aA7 X Z (.builtin "any") cG5 := ⟨by
 intro pins s σ H xs us Q I r ⟨ds, μ, G, rl, hr, p⟩
 delta cG5 at p
 rcases ds with _ | ⟨_ | _ | _ | _ | _ | i | _ | _, _ | ⟨_, _⟩⟩ <;> dsimp only at p <;> try exact p.elim
 · obtain ⟨v, rfl, rv⟩ := aS0 rl
   obtain ⟨u, rfl, ru⟩ := aE3 r
   obtain ⟨l, a, vs, rfl, rl', q, p2⟩ := aE9 hr rv p
   cases ru
   obtain ⟨bs, en, p3⟩ := aD0 p2
   obtain ⟨its, rr, pl, hz⟩ := I.list q
   obtain ⟨h1, h2⟩ := bJ5 en rl' rr
   refine call_any_walk (bB4 hc I pl.isList fun W g hg hb hk => ⟨_, _, _, _, _, _, fun i => bs.getD i false, rfl, W, hg, fun i v s' Q' E' hv hq => ?_, fun h' tk k => ?_⟩)
   · rw [h2 i v (by simpa using hv)]
     exact wpAny_truthy_bool hq
   · refine ⟨.bl (bs.any id), H, hk h' tk k, ?_, g8.ok p3 hr _ ofB⟩
     have e : its.toArray.size = bs.length := by rw [List.size_toArray]; exact h1
     rw [e, cO2]; rfl⟩
theorem eC5 {x : Str} {n : String} {pos : Pos} (hg : Gl X x) (hm : X.mg x = none) (hv : bootBuiltins x = some (.type n)) (hn : x ≠ "__name__") (hd : (x == ("__debug__" : Str)) = false) : DE X Z (.Name x pos) (cE (.ty n)) :=
 cU6 (v := .ty n) (dI4 hg hm hv rfl hn hd) fun _ _ => by unfold j0; rfl
end
def aH7 : D → M Bool := fun x => match x with
 | .non => pure false
 | .bl b => pure b
 | .int i => pure (i != 0)
 | .str y => if y.length ≤ sizeLine then pure ((y.length : Int) != 0) else M.stuck
 | .tup l => pure (!l.isEmpty)
 | .ref r => do
   match ← R5 r with
   | .lst l => pure (!l.isEmpty)
   | .rol l => pure (!l.isEmpty)
   | .dct l => pure (!l.isEmpty)
   | .rod _ => M.stuck
 | _ => M.stuck
def U0 (f : Fe) : DSt → M Bool := fun σ => do aH7 (← f σ)
section
variable {X : Cx} {Z : XC} {a b c e : Expr} {fa fb fc : Fe} {pos : Pos}
theorem aF4 {cc : Wc} {μ : List Addr} {H : Hp} {l : List D} {vs : List V} (r : w6 cc μ H l vs) : vs.isEmpty = l.isEmpty := by
 cases l with
 | nil => cases r; rfl
 | cons _ _ => obtain ⟨_, _, rfl, _⟩ := r; rfl
theorem bF9 {cc : Wc} {μ : List Addr} {H : Hp} {l : List (Key × D)} {vs : List (Key × V)} (r : aB5 cc μ H l vs) : vs.isEmpty = l.isEmpty := by
 cases l with
 | nil => cases r; rfl
 | cons _ _ => obtain ⟨_, _, rfl, _⟩ := r; rfl
theorem dt_truth (ha : DE X Z a fa) (he : ∀ whole, isTrue a X.env whole = (do let v ← whole; standAt a.pos; holding [v] (truthy v))) : DT X Z a (U0 fa) :=
 DT.of (cW3 ha.h he) fun σ H Q hE0 => hE0.elim fun dσ μ G s h p => ⟨dσ, μ, G, s, h, (g8.bind p).mono fun d μ1 G1 H1 x1 h1 p1 v rv => by
  cases d with
  | non => rw [cV9 rv]; exact ⟨false, rfl, g8.ok p1 h1⟩
  | bl b => rw [bR0 rv]; exact ⟨b, rfl, g8.ok p1 h1⟩
  | int b => rw [aF9 rv]; exact ⟨_, rfl, g8.ok p1 h1⟩
  | str y =>
    rw [aQ6 rv]
    unfold aH7 at p1
    dsimp only at p1
    split at p1
    · rename_i hz; exact ⟨_, ⟨hz, rfl⟩, g8.ok p1 h1⟩
    · exact p1.elim
  | tup l =>
    unfold j0 at rv
    obtain ⟨a, vs, rfl, q, rl⟩ := rv
    exact ⟨!vs.isEmpty, .inr (.inl ⟨vs, q, rfl⟩), by rw [aF4 rl]; exact g8.ok p1 h1⟩
  | ref r =>
    unfold j0 at rv
    obtain ⟨a, m, rfl⟩ := rv
    obtain ⟨o, g, p2⟩ := N6 p1
    have ro := h1.obj r o a g m
    cases o with
    | lst l => obtain ⟨vs, q, rl⟩ := ro; exact ⟨!vs.isEmpty, .inl ⟨vs, SqL.of q, rfl⟩, by rw [aF4 rl]; exact g8.ok p2 h1⟩
    | rol l => obtain ⟨vs, q, rl⟩ := ro; exact ⟨!vs.isEmpty, .inl ⟨vs, q.sq, rfl⟩, by rw [aF4 rl]; exact g8.ok p2 h1⟩
    | dct l => obtain ⟨vs, q, rl⟩ := ro; exact ⟨!vs.isEmpty, .inr (.inr ⟨vs, q, rfl⟩), by rw [bF9 rl]; exact g8.ok p2 h1⟩
    | rod l => exact p2.elim
  | _ => exact p1.elim⟩
end
noncomputable def bE9 (osc scope : Scope) (N XN : List Str) (caps : List (Option Nat)) : Bool :=
 decide (scope.kind = .function) && scope.names.all (fun y => decide (y.2 ≠ .cell)) && scope.names.all (fun y => decide (y.2 = .local → scope.names.lookup y.1 = some .local)) &&
 scope.names.all (fun y => decide (y.2 = .free → (osc.names.lookup y.1 = some .cell ∨ osc.names.lookup y.1 = some .free))) && scope.names.all (fun y => decide (y.2 = .free → scope.names.lookup y.1 = some .free)) &&
 decide (caps.length = N.length) && (List.range caps.length).all fun i => match caps[i]? with
  | some (some j) => match N[i]?, XN[j]? with
    | some x, some y => decide (x = y) && decide ((x, NameKind.free) ∈ scope.names)
    | _, _ => false
  | _ => true
theorem aG1.of {X : Cx} {osc scope : Scope} {N XN : List Str} {caps : List (Option Nat)} (h : bE9 osc scope N XN caps = true) (hs : X.env.scope = osc) (hN : X.N = XN) : aG1 X scope N caps := by
 unfold bE9 at h
 simp only [Bool.and_eq_true, decide_eq_true_eq, List.all_eq_true] at h
 obtain ⟨⟨⟨⟨⟨⟨h1, h2⟩, h3⟩, h4⟩, h5⟩, h6⟩, h7⟩ := h
 refine ⟨h1, h2, h3, fun y hy e => ?_, h5, h6, fun i j e => ?_⟩
 · have := h4 y hy e
   show X.env.scope.names.lookup y.1 = _ ∨ X.env.scope.names.lookup y.1 = _
   rw [hs]; exact this
 · have hi : i ∈ List.range caps.length := by rw [List.mem_range]; exact lt_of_get e
   have q := h7 i hi
   simp only [e] at q
   rw [hN]
   split at q
   · rename_i x y e1 e2
     simp only [Bool.and_eq_true, decide_eq_true_eq] at q
     exact ⟨x, e1, by rw [e2, q.1], q.2⟩
   · cases q
def K9 (m : Nat) (fb : Fs) : List D → M D := fun ds => do
 match ← fb (ds.map some ++ List.replicate (m - ds.length) none) with
 | .nx _ => pure .non
 | .rt d => pure d
 | _ => M.stuck
structure FF (K : PySem.W.Frag) (mg : Str → Option Value) (x : Str) (st : Stmt) (ps : List Str) (f : Addr) (fd : FuncData) : Prop where
 F : Fun K x x st f fd
 b : aZ8 K fd ps []
 m : mg x = some (.ref f)
theorem cP7 {c : Wc} {μ : List Addr} {H : Hp} {N : List Str} {ds : List D} {vs : List V} (r : w6 c μ H ds vs) : M7 c μ H (ds.map some ++ List.replicate (N.length - ds.length) none) (L2.start N vs) := by
 unfold L2.start
 rw [r.length]
 refine ⟨by simp [r.length], fun i d e => ?_⟩
 by_cases hi : i < ds.length
 · rw [List.getElem?_append_left (by simpa using hi), List.getElem?_map] at e
   have hd : ds[i]? = some d := by
    cases h : ds[i]? with
    | none => rw [h] at e; cases e
    | some d' => rw [h] at e; simpa using e
   obtain ⟨v, hv, rv⟩ := r.get hd
   refine ⟨v, ?_, rv⟩
   rw [List.getElem?_append_left (by simp; rw [← r.length]; exact hi), List.getElem?_map, hv]
   rfl
 · rw [List.getElem?_append_right (by simpa using hi), List.getElem?_replicate] at e
   split at e <;> cases e
theorem aC2 {P : Program} {w : World} {K : PySem.W.Frag} {mg : Str → Option Value} {base : Heap} {x : Str} {st : Stmt} {f : Addr} {fd : FuncData} {N ps : List Str} {k n m : Nat} {fb : Fs} (F : FF K mg x st ps f fd) (S : J0 N ps (m7 st)) (hn : ps.length = n) (hm : N.length = m)
 (hbody : ∀ (cdv : Value) (A : Around) (outer : List Env) (s : Shared) (H : Hp) (E : XK), aK1 k (A.deeper (envOfC x (m7 st) s.heap.objs.size f cdv)) → DB (cC7 CX0 P w K mg base N x (m7 st) f cdv A outer s H E).nox ZF (Z4 st) fb) :
 M8 P w K mg base CX0 (k + 1) f fd ps (spD ⟨K, mg⟩ n (K9 m fb)) := by
 refine F.F.ok S (fun vs H Q E h => by rw [hn]; exact h.1) fun cdv A outer s H vs Q E hr h => ⟨_, (hbody cdv A outer s H E hr).h, ?_⟩
 obtain ⟨hl, ds, μ, G, rl, hG, p⟩ := h
 subst hm
 refine ⟨_, μ, G, cP7 rl, hG, (g8.bind p).mono fun fl μ1 G1 H1 x1 h1 p1 => ?_⟩
 cases fl with
 | nx dσ => exact fun σ _ => g8.ok p1 h1 _ ofN
 | rt d => exact fun v rv => g8.ok p1 h1 v rv
 | bk _ => exact p1.elim
 | ct _ => exact p1.elim
def cK0 (K : PySem.W.Frag) : Sp := fun vs H Q _ => ∃ (a : Addr) (ns : List Int), vs = [.ref a] ∧ SqL K H a (ns.map V.int) ∧ dI3 H ∧ ns.length ≤ 63 ∧ ∀ H', Q (.bl true) H'
theorem cC3 {c : Wc} {μ : List Addr} {H : Hp} : ∀ ns : List Int, w6 c μ H (ns.map D.int) (ns.map V.int)
 | [] => rfl
 | n :: t => ⟨.int n, _, rfl, ofI, cC3 t⟩
theorem dU2 {P : Program} {w : World} {K : PySem.W.Frag} {mg : Str → Option Value} {base : Heap} {f : Addr} {fd : FuncData} {k : Nat} {F : List D → M D} (hF : M8 P w K mg base CX0 k f fd ["script"] (spD ⟨K, mg⟩ 1 F))
 (pure : ∀ ns : List Int, ns.length ≤ 63 → ∃ G', F [.ref 0] [.rol (ns.map D.int)] = some (.ok (.bl true), G')) : M8 P w K mg base CX0 k f fd ["script"] (cK0 K) :=
 hF.imp fun vs H Q E h => by
  obtain ⟨a, ns, rfl, hS, hO, hl, q⟩ := h
  obtain ⟨G', e⟩ := pure ns hl
  refine ⟨rfl, [.ref 0], [a], [.rol (ns.map D.int)], ⟨.ref a, [], rfl, by unfold j0; exact ⟨a, rfl, rfl⟩, rfl⟩, ⟨rfl, fun i j b e1 e2 => ?_, fun i o b e1 e2 => ?_⟩, ?_⟩
  · have h1 := lt_of_get e1
    have h2 := lt_of_get e2
    simp at h1 h2
    left; omega
  · have h1 := lt_of_get e2
    simp at h1
    subst h1
    have e1' : o = .rol (ns.map D.int) := by simpa using e1.symm
    have e2' : b = a := by simpa using e2.symm
    subst e1' e2'
    refine ⟨ns.map V.int, ?_, cC3 ns⟩
    rcases hS with (hS | ⟨o, hS⟩) | hS
    · rcases hO b with z | ⟨o, xs, z⟩
      · rw [z] at hS; cases hS
      · rw [z] at hS; cases hS
    · exact .inl ⟨o, hS⟩
    · exact .inr (.inr hS)
  · rw [e]
    exact fun μ' H' _ _ v rv => by rw [bR0 rv]; exact q H'
theorem dP2 : bootBuiltins "len" = some (.builtin "len") := by decide +kernel
theorem bK7 : bootBuiltins "isinstance" = some (.builtin "isinstance") := by decide +kernel
theorem dS7 : bootBuiltins "all" = some (.builtin "all") := by decide +kernel
theorem dU4 : bootBuiltins "any" = some (.builtin "any") := by decide +kernel
theorem dS9 : bootBuiltins "sum" = some (.builtin "sum") := by decide +kernel
theorem dQ3 : bootBuiltins "min" = some (.builtin "min") := by decide +kernel
theorem cQ8 : bootBuiltins "sorted" = some (.builtin "sorted") := by decide +kernel
theorem cV5 : bootBuiltins "tuple" = some (.type "tuple") := by decide +kernel
theorem dD7 : bootBuiltins "list" = some (.type "list") := by decide +kernel
theorem dO3 : bootBuiltins "int" = some (.type "int") := by decide +kernel
theorem dD9 : bootBuiltins "dict" = some (.type "dict") := by decide +kernel
theorem aX9 : bootBuiltins "enumerate" = some (.type "enumerate") := by decide +kernel
end DL
namespace DL
open PySem L2
noncomputable def Wp {α : Type} (m : M α) (G : DH) (Q : α → DH → Prop) : Prop := ∃ a G', m G = some (.ok a, G') ∧ Q a G'
section
variable {α β : Type} {G : DH} {Q Q' : α → DH → Prop}
theorem Wp.mono {m : M α} (h : Wp m G Q) (k : ∀ a G', Q a G' → Q' a G') : Wp m G Q' := let ⟨a, G', e, q⟩ := h; ⟨a, G', e, k a G' q⟩
theorem j6 {a : α} : Wp (pure a) G Q ↔ Q a G := by
 constructor
 · rintro ⟨b, G', e, q⟩
   cases e
   exact q
 · exact fun q => ⟨a, G, rfl, q⟩
theorem aJ0 : Wp (M.stuck : M α) G Q ↔ False := by
 constructor
 · rintro ⟨b, G', e, q⟩
   cases e
 · exact False.elim
theorem m5 {m : M β} {f : β → M α} : Wp (m >>= f) G Q ↔ Wp m G fun a G1 => Wp (f a) G1 Q := by
 constructor
 · rintro ⟨a, G', e, q⟩
   rw [M.bind_eq] at e
   match h : m G, e with
   | some (.ok b, G1), e => exact ⟨b, G1, h, a, G', e, q⟩
 · rintro ⟨b, G1, e, a, G', e', q⟩
   exact ⟨a, G', by rw [M.bind_ok e]; exact e', q⟩
theorem aO6 {m : M α} {a : α} {G' : DH} (h : m G = some (.ok a, G')) : Wp m G Q ↔ Q a G' := ⟨fun ⟨b, G2, e, q⟩ => by rw [h] at e; cases e; exact q, fun q => ⟨a, G', h, q⟩⟩
theorem aK2 {o : Option α} : Wp (aI1 o) G Q ↔ ∃ a, o = some a ∧ Q a G := by
 cases o with
 | none =>
   constructor
   · rintro ⟨_, _, e, _⟩
     cases e
   · rintro ⟨_, e, _⟩
     cases e
 | some a =>
   constructor
   · rintro ⟨_, _, e, q⟩
     cases e
     exact ⟨_, rfl, q⟩
   · rintro ⟨_, e, q⟩
     cases e
     exact ⟨_, _, rfl, q⟩
theorem T5 {r : Nat} {Q : DO → DH → Prop} : Wp (R5 r) G Q ↔ ∃ o, G[r]? = some o ∧ Q o G := by
 constructor
 · rintro ⟨a, G', e, q⟩
   delta R5 at e
   cases h : G[r]? with
   | none => rw [h] at e; cases e
   | some o => rw [h] at e; cases e; exact ⟨_, rfl, q⟩
 · rintro ⟨o, e, q⟩
   refine ⟨o, G, ?_, q⟩
   delta R5
   rw [e]
theorem V1 {o : DO} {Q : DPP} : Wp (N5 o) G Q ↔ Q (.ref G.length) (G ++ [o]) := aO6 rfl
theorem bS9 {r : Nat} {o : DO} {Q : Unit → DH → Prop} : Wp (cB5 r o) G Q ↔ Q () (G.set r o) := aO6 rfl
end
section
variable {G : DH} {σ : DSt} {Q : DPP} {a b c : Fe} {t u : DSt → M Bool} {P : Fl → DH → Prop} {B : Bool → DH → Prop}
theorem aG9 {i : Nat} : Wp (c7 i σ) G Q ↔ ∃ d, σ[i]? = some (some d) ∧ Q d G := by
 constructor
 · rintro ⟨d, G', e, q⟩
   delta c7 at e
   cases h : σ[i]? with
   | none => rw [h] at e; cases e
   | some o =>
     rw [h] at e
     cases o with
     | none => cases e
     | some d' => cases e; exact ⟨_, rfl, q⟩
 · rintro ⟨d, h, q⟩
   exact ⟨d, G, by delta c7; rw [h], q⟩
theorem bY0 {d : D} : Wp (cE d σ) G Q ↔ Q d G := j6
theorem aO0 {o : D → D → M D} : Wp (d7 o a b σ) G Q ↔ Wp (a σ) G fun x G1 => Wp (b σ) G1 fun y G2 => Wp (o x y) G2 Q := by unfold d7; simp only [m5]
theorem dX4 {o : D → M D} : Wp (unE o a σ) G Q ↔ Wp (a σ) G fun x G1 => Wp (o x) G1 Q := by unfold unE; simp only [m5]
theorem aW4 {α : Type} {k : Bool} {m n : M α} {R : α → DH → Prop} : Wp (if k = true then m else n) G R ↔ if k = true then Wp m G R else Wp n G R := by cases k <;> exact Iff.rfl
theorem bQ2 {d : D} : Wp (cO7 d) G B ↔ ∃ k, d = .bl k ∧ B k G := by
 constructor
 · rintro ⟨k, G', e, q⟩
   cases d with
   | bl b => cases e; exact ⟨_, rfl, q⟩
   | _ => cases e
 · rintro ⟨k, e, q⟩
   subst e
   exact ⟨k, G, rfl, q⟩
theorem cF4 : Wp (bY3 a σ) G Q ↔ Wp (a σ) G fun x G1 => ∃ k, x = .bl k ∧ Q (.bl (!k)) G1 := by unfold bY3; simp only [m5, bQ2, j6]
theorem bP2 : Wp (ifE t a b σ) G Q ↔ Wp (t σ) G fun k G1 => if k = true then Wp (a σ) G1 Q else Wp (b σ) G1 Q := by unfold ifE; simp only [m5, aW4]
theorem bT5 : Wp (o5 a σ) G B ↔ Wp (a σ) G fun x G1 => ∃ k, x = .bl k ∧ B k G1 := by unfold o5; simp only [m5, bQ2]
theorem bI3 : Wp (U0 a σ) G B ↔ Wp (a σ) G fun x G1 => Wp (aH7 x) G1 B := by unfold U0; simp only [m5]
theorem bT9 : Wp (aF6 t u σ) G B ↔ Wp (t σ) G fun k G1 => if k = true then Wp (u σ) G1 B else B false G1 := by unfold aF6; simp only [m5, aW4, j6]
theorem dU6 : Wp (orT t u σ) G B ↔ Wp (t σ) G fun k G1 => if k = true then B true G1 else Wp (u σ) G1 B := by unfold orT; simp only [m5, aW4, j6]
theorem cI3 : Wp (cX8 t σ) G B ↔ Wp (t σ) G fun k G1 => B (!k) G1 := by unfold cX8; simp only [m5, j6]
variable {R : List D → DH → Prop} {fs : DSt → M (List D)}
theorem m6 : Wp (q14 σ) G R ↔ R [] G := j6
theorem aB0 : Wp (q13 a fs σ) G R ↔ Wp (a σ) G fun x G1 => Wp (fs σ) G1 fun xs G2 => R (x :: xs) G2 := by unfold q13; simp only [m5, j6]
theorem aI6 {F : List D → M D} : Wp (q16 F fs σ) G Q ↔ Wp (fs σ) G fun ds G1 => Wp (F ds) G1 Q := by unfold q16; simp only [m5]
theorem bR4 {α : Type} {m : M α} {R : α → DH → Prop} : Wp (noX m) G R ↔ Wp m G R := by
 constructor
 · rintro ⟨x, G', e, q⟩
   delta noX at e
   cases h : m G with
   | none => rw [h] at e; cases e
   | some p =>
     rw [h] at e
     obtain ⟨_ | y, G1⟩ := p
     · cases e
     · cases e; exact ⟨_, _, h, q⟩
 · rintro ⟨x, G', e, q⟩
   exact ⟨x, G', by delta noX; rw [e], q⟩
theorem aB6 {n : Nat} {F : List D → M D} {ds : List D} : Wp (fnX n F ds) G Q ↔ ds.length = n ∧ Wp (F ds) G Q := by
 unfold fnX
 by_cases h : ds.length = n
 · rw [if_pos h, bR4]; exact ⟨fun q => ⟨h, q⟩, fun q => q.2⟩
 · rw [if_neg h]; exact ⟨fun q => (aJ0.mp q).elim, fun q => (h q.1).elim⟩
theorem U5 : Wp (t6 fs σ) G Q ↔ Wp (fs σ) G fun xs G1 => xs.length ≤ sizeLine ∧ Q (.tup xs) G1 := by
 unfold t6
 simp only [m5]
 constructor
 · rintro ⟨xs, G1, e, q⟩
   refine ⟨xs, G1, e, ?_⟩
   by_cases h : xs.length ≤ sizeLine
   · rw [if_pos h] at q; exact ⟨h, j6.mp q⟩
   · rw [if_neg h] at q; exact (aJ0.mp q).elim
 · rintro ⟨xs, G1, e, h, q⟩
   exact ⟨xs, G1, e, by dsimp only; rw [if_pos h]; exact j6.mpr q⟩
theorem aB8 : Wp (S5 fs σ) G Q ↔ Wp (fs σ) G fun xs G1 => xs.length ≤ sizeLine ∧ Q (.ref G1.length) (G1 ++ [.lst xs]) := by
 unfold S5
 simp only [m5]
 constructor
 · rintro ⟨xs, G1, e, q⟩
   refine ⟨xs, G1, e, ?_⟩
   by_cases h : xs.length ≤ sizeLine
   · rw [if_pos h] at q; exact ⟨h, V1.mp q⟩
   · rw [if_neg h] at q; exact (aJ0.mp q).elim
 · rintro ⟨xs, G1, e, h, q⟩
   exact ⟨xs, G1, e, by dsimp only; rw [if_pos h]; exact V1.mpr q⟩
variable {f g : Fs} {gg : Fg}
theorem J2 : Wp (K6 σ) G P ↔ P (.nx σ) G := j6
theorem j7 : Wp (j8 f g σ) G P ↔ Wp (f σ) G fun fl G1 => match fl with
 | .nx σ' => Wp (g σ') G1 P
 | r => P r G1 := by
 delta j8
 refine Iff.trans m5 ?_
 constructor
 · rintro ⟨fl, G1, e, q⟩
   refine ⟨fl, G1, e, ?_⟩
   cases fl <;> first
    | exact q
    | exact j6.mp q
 · rintro ⟨fl, G1, e, q⟩
   refine ⟨fl, G1, e, ?_⟩
   cases fl <;> first
    | exact q
    | exact j6.mpr q
theorem aV4 : Wp (K5 a σ) G P ↔ Wp (a σ) G fun d G1 => P (.rt d) G1 := by unfold K5; simp only [m5, j6]
theorem aY1 : Wp (aV1 a σ) G P ↔ Wp (a σ) G fun _ G1 => P (.nx σ) G1 := by unfold aV1; simp only [m5, j6]
theorem bY4 : Wp (ifS t f g σ) G P ↔ Wp (t σ) G fun k G1 => if k = true then Wp (f σ) G1 P else Wp (g σ) G1 P := by unfold ifS; simp only [m5, aW4]
theorem aF8 : Wp (o9 a gg σ) G P ↔ Wp (a σ) G fun d G1 => Wp (gg d σ) G1 fun σ' G2 => P (.nx σ') G2 := by unfold o9; simp only [m5, j6]
theorem V9 {i : Nat} {d : D} {S : DSt → DH → Prop} : Wp (q15 i d σ) G S ↔ S (σ.set i (some d)) G := j6
theorem aT6 {m : Nat} {ds : List D} : Wp (K9 m f ds) G Q ↔ Wp (f (ds.map some ++ List.replicate (m - ds.length) none)) G fun fl G1 => match fl with
 | .nx _ => Q .non G1
 | .rt d => Q d G1
 | _ => False := by
 delta K9
 refine Iff.trans m5 ?_
 constructor
 · rintro ⟨fl, G1, e, q⟩
   refine ⟨fl, G1, e, ?_⟩
   cases fl <;> first
    | exact j6.mp q
    | exact aJ0.mp q
 · rintro ⟨fl, G1, e, q⟩
   refine ⟨fl, G1, e, ?_⟩
   cases fl <;> first
    | exact j6.mpr q
    | exact aJ0.mpr q
noncomputable def dO5 (o : Option Bool) (g : Bool → Bool) (G : DH) : Option (Except Str D × DH) := match o with
 | some b => some (.ok (.bl (g b)), G)
 | none => none
theorem aZ1 {m : M D} {o : Option Bool} {g : Bool → Bool} (h : m G = dO5 o g G) : Wp m G Q ↔ ∃ k, o = some k ∧ Q (.bl (g k)) G := by
 unfold Wp
 rw [h]
 cases o with
 | none =>
   constructor
   · rintro ⟨_, _, e, _⟩
     cases e
   · rintro ⟨_, e, _⟩
     cases e
 | some k =>
   constructor
   · rintro ⟨_, _, e, q⟩
     cases e
     exact ⟨_, rfl, q⟩
   · rintro ⟨_, e, q⟩
     cases e
     exact ⟨_, _, rfl, q⟩
theorem bC9 {x y : D} : Wp (eqD x y) G Q ↔ ∃ k, eqN 40 G x y = some k ∧ Q (.bl k) G := aZ1 (g := id) rfl
theorem cK8 {x y : D} : Wp (neD x y) G Q ↔ ∃ k, eqN 40 G x y = some k ∧ Q (.bl (!k)) G := aZ1 (g := not) rfl
theorem dY0 {x y : D} : Wp (ltD x y) G Q ↔ ∃ k, ltN 40 G x y = some k ∧ Q (.bl k) G := aZ1 (g := id) rfl
theorem cR9 {d : D} {n : String} {T : Ty} (hT : Ty.of n = some T) : Wp (V8 [d, .ty n]) G Q ↔ ∃ k, aX2 G d = some k ∧ Q (.bl (k.is T)) G := by
 have e : V8 [d, .ty n] G = match aX2 G d with | some k => some (.ok (.bl (k.is T)), G) | none => none := by
  delta V8
  dsimp only
  rw [hT]
  cases aX2 G d <;> rfl
 unfold Wp
 rw [e]
 cases aX2 G d with
 | none =>
   constructor
   · rintro ⟨_, _, e, _⟩
     cases e
   · rintro ⟨_, e, _⟩
     cases e
 | some k =>
   constructor
   · rintro ⟨_, _, e, q⟩
     cases e
     exact ⟨_, rfl, q⟩
   · rintro ⟨_, e, q⟩
     cases e
     exact ⟨_, _, rfl, q⟩
end
end DL
namespace DL
open PySem PySem.Spec L2
open PyProof.Rows hiding St
section
variable {X : Cx} {Z : XC} {elt tg iter : Expr} {ifs : List Expr} {scope : Scope} {pos : Pos} {N : List Str} {caps : List (Option Nat)} {it : DSt → M Src} {gg : Fg} {tt : DSt → M Bool} {fe : Fe}
theorem cT8 {y : Str} {py spos : Pos} {g2 : Fg} (hc : X.calm = true) (hi : DI X Z tg iter it) (k : aG1 X scope N caps)
 (hg : ∀ C s H ex, DG (U7 X scope N C s H ex) ZF tg gg) (ht : ∀ C s H ex, DTs (U7 X scope N C s H ex) ZF ifs tt) (he : ∀ C s H ex, DE (U7 X scope N C s H ex) ZF elt fe)
 (hs : ∀ x, foldedSetIterable iter X.env x = pure x) (hgo : DG X Z (.Name y py) g2) (hsw : swapsWith (.ListComp elt [⟨tg, iter, ifs, 0⟩] scope pos) (some (.Name y py)) spos.line X.env = pure true) :
 DS X Z (.Assign [.Name y py] (.ListComp elt [⟨tg, iter, ifs, 0⟩] scope pos) spos) (o9 (R8 it caps gg tt fe) g2) := by
 refine ⟨?_⟩
 intro pins s σ H En I ⟨dσ, μ, G, sr, hr, p0⟩
 obtain ⟨Q, hQ, p⟩ : ∃ Q : VK, (∀ v H', Q v H' → bM6 (wc X) Z g2 v σ H' En.nx) ∧ g8 (wc X) Z μ H (R8 it caps gg tt fe dσ G) fun d μ' _ H' => ∀ v, j0 (wc X) μ' H' d v → Q v H' :=
  ⟨fun v H' => bM6 (wc X) Z g2 v σ H' En.nx, fun _ _ z => z, (g8.bind p0).mono fun d μ1 G1 H1 x' h1 p1 v rv => ⟨d, dσ, μ1, G1, rv, sr.mono x', h1, (g8.bind p1).mono fun dσ2 μ2 G2 H2 x2 h2 p2 σ2 s2 => g8.ok p2 h2 σ2 s2⟩⟩
 rw [exec_Assign_Name_used _ _ _ _ hsw]
 refine wpAny_bind (wpAny_standAt (wpAny_bind ?_))
 show wpAny _ X.A (do let _ ← comprehension (.ListComp elt [⟨tg, iter, ifs, 0⟩] scope pos) scope X.env _ (newList []) false (eval iter X.env) (some (assign (.Name y py) X.env))) _ _ s
 refine wpAny_bind (wpAny_mono (bN8 (use := some (assign (.Name y py) X.env)) (PQ := fun _ s' => SP X pins En .next s') hc hi k hg ht he hs I sr hr p fun DD C s4 H' m o hn fin hCn hf q9 => ?_) (fun _ s' hq => wpAny_pure (wpAny_pure hq)) fun _ _ e => e)
 have fC : ∀ {H9 : Hp}, H9 C = none → ∀ b ∈ [C], aR2 X pins H9 b := fun {H9} hn9 b hb => by
  rw [List.mem_singleton] at hb
  subst hb
  exact hf H9 hn9
 obtain ⟨oC, zC1, zC2, hoC, zC3⟩ := id hn
 have I5 := (fin s4.heap ⟨rfl, fun _ _ => rfl⟩).pinned (fp := [C]) (fC hCn) (fun b hb => by
  rw [List.mem_singleton] at hb
  subst hb
  exact ⟨oC, hoC, fun v z => by first | (rw [zC3.1] at z; cases z) | (rw [zC3.2.1] at z; cases z)⟩)
 refine thn (hgo.h _ s4 σ H' (.ref DD) (.ref DD) _ I5 rfl (hQ _ _ q9)) fun _ s5 ⟨σ5, H5, I6, q6⟩ => ?_
 obtain ⟨g5, g5n, _⟩ := I6.pin (C, oC) (List.mem_append_right _ (List.mem_append_right _ (aI9 (by simp) hoC)))
 refine ⟨m, hn.at' (fun o e => by rw [hoC] at e; cases e; exact g5), fun h'' sb => ⟨σ5, H5, aW8 (t' := s5.toks) I6.unpinned (fC g5n) fun b o hb e => (sb.2 b (by simpa using hb)).trans e, q6⟩⟩
end
noncomputable def aH5 : List D → Option (List Str)
 | [] => some []
 | .str x :: r => (aH5 r).map (x :: ·)
 | _ => none
noncomputable def t7 : List (Key × D) → Option (List Str)
 | [] => some []
 | (.inr x, _) :: r => (t7 r).map (x :: ·)
 | _ => none
noncomputable def leS (a b : Str) : Bool := !decide (b.cps.toList < a.cps.toList)
def V6 (l : List Str) : List Str := l.mergeSort leS
theorem bE7 {a b : Str} : leS a b = true ↔ a.cps.toList ≤ b.cps.toList := by unfold leS; simp
theorem bL7 (a b c : Str) (h1 : leS a b = true) (h2 : leS b c = true) : leS a c = true := by
 rw [bE7] at *; exact List.le_trans h1 h2
theorem cR5 (a b : Str) : (leS a b || leS b a) = true := by
 rw [Bool.or_eq_true, bE7, bE7]; exact List.le_total _ _
theorem bQ7 {a b : Str} (h1 : leS a b = true) (h2 : leS b a = true) : a = b := by
 rw [bE7] at *
 have e : a.cps.toList = b.cps.toList := List.le_antisymm h1 h2
 cases a; cases b
 congr 1
 exact Array.toList_inj.mp e
theorem bO4 : ∀ (l : List Str) (p : Str), risingS p l = true → (p :: l).Pairwise fun a b => leS a b = true
 | [], p, _ => by simp
 | x :: r, p, h => by
   unfold risingS at h
   rw [Bool.and_eq_true] at h
   have ih := bO4 r x h.2
   have hpx : leS p x = true := by unfold leS; rw [← ltCps_eq]; exact h.1
   refine List.pairwise_cons.mpr ⟨fun y hy => ?_, ih⟩
   rcases List.mem_cons.mp hy with rfl | hy
   · exact hpx
   · exact bL7 _ _ _ hpx ((List.pairwise_cons.mp ih).1 y hy)
theorem bW4 {l l' : List Str} (hp : l'.Perm l) (hs : sortedS l' = true) : l' = V6 l := by
 have h1 : l'.Pairwise fun a b => leS a b = true := by
  cases l' with
  | nil => simp
  | cons x r => exact bO4 r x hs
 have h2 : (V6 l).Pairwise fun a b => leS a b = true := List.pairwise_mergeSort bL7 cR5 l
 exact List.Perm.eq_of_pairwise (fun a b _ _ h1 h2 => bQ7 h1 h2) h1 h2 (hp.trans (List.mergeSort_perm l leS).symm)
section
variable {prog : Program} {w : World} {A : Around} {E : VSP} {s : Shared} {T : String} {r d : Addr} {n : Nat} {P : Nat → Value → Prop} {OK : Heap → Prop} {Q : VSP}
theorem cC9 (K : PySem.W.KdlSrc prog w T r d n P OK) (hh : A.handled = none) (hok : OK s.heap) (hn : n < 64) {ss : List Str} (hP : ∀ vs : List Value, vs.length = n → (∀ (j : Nat) (v : Value), vs[j]? = some v → P j v) → StrsAre vs ss)
 (h : ∀ (h1 h' : Heap) (tk e : Nat) (out : List Value) (ss' : List Str), (∀ b o, s.heap.get? b = some o → h1.get? b = some o) → (∀ b o, h1.get? b = some o → h'.get? b = some o) → h'.get? h1.objs.size = some (seqObj "list" out.toArray e) → StrsAre out ss' → ss'.Perm ss → sortedS ss' = true → Q (.ref h1.objs.size) { s with heap := h', toks := tk }) :
 wpAny (model prog w) A (call (.builtin "sorted") [.ref r]) Q E s := by
 have hz : n ≤ sizeLine := Nat.le_trans (Nat.le_of_lt hn) (by decide)
 refine Calls.call_function_entry kind_sorted plain_sorted entry_sorted (args_sorted1 _) ?_
 unfold Builtin.«sorted»
 refine wpAny_bind (m := checkCount "sorted" 1 1 _) (wpAny_pure ?_)
 refine wpAny_bind (PySem.W.kdu_collect (A := A.in1) K hh hok hz fun h1 tk acc hk hacc => ?_)
 have hl : acc.toList.length = n := by rw [Array.length_toList]; exact hacc.1
 refine wpAny_bind (wpAny_newList ?_ (by rw [hl]; exact hz))
 have hS : StrsAre acc.toList ss := hP acc.toList hl fun j v e => hacc.2 j v (by rw [← Array.getElem?_toList]; exact e)
 have hoL : (h1.push (seqObj "list" acc.toList.toArray 0)).get? h1.objs.size = some (seqObj "list" acc.toList.toArray 0) := Heap.get?_push_size _ rfl
 refine wpAny_bind (wpAny_holding (wpAny_call_entry slot_list_sort ⟨_, hoL, rfl⟩ entry_list_sort (list_sort_treeK strKind_oneLt hoL hS.keysOf (fun v₁ v₂ W2 e => keyKind_strs (by rw [← e]; exact hS)) (by rw [hl]; exact hn) fun st' a1 a2 => ⟨_, rfl, ?_⟩) (args_list_sort _)))
 obtain ⟨ss', b1, b2, b3⟩ := sorted_out_str hS a1 a2
 obtain ⟨e, he⟩ := sortedHeap_at (vs := acc.toList) (out := (arrOf st').map (·.2)) hoL
 refine wpAny_pure ⟨_, rfl, h h1 _ tk e ((arrOf st').map (·.2)).toList ss' hk (fun b o hb => ?_) (by rw [Array.toArray_toList]; exact he) b1 b2 b3⟩
 have hlt : b < h1.objs.size := Heap.lt_size hb
 rw [sortedHeap_old (Nat.ne_of_lt hlt) (by rw [size_push']; exact Nat.lt_succ_of_lt hlt), Heap.get?_push_ne _ _ _ (Nat.ne_of_lt hlt)]
 exact hb
end
def bO8 : List D → M D := fun ds => match ds with
 | [.ref r] => do
   match ← R5 r with
   | .dct l => do
     let ss ← aI1 (t7 l)
     if ss.length < 64 then N5 (.lst ((V6 ss).map .str)) else M.stuck
   | _ => M.stuck
 | _ => M.stuck
section
variable {X : Cx} {Z : XC} {c : Wc} {μ : List Addr} {H : Hp} {G : DH}
theorem aR4 : ∀ {l : List (Key × D)} {ss : List Str}, t7 l = some ss → ss.length = l.length
 | [], _, e => by cases e; rfl
 | (.inr x, _) :: r, ss, e => by
  replace e := show (t7 r).map (_ :: ·) = some _ from e
  cases h : t7 r with
  | none => rw [h] at e; cases e
  | some t => rw [h] at e; cases e; simp [aR4 h]
 | (.inl _, _) :: _, _, e => by cases e
theorem bA0 {P : Program} {w : World} : ∀ {l : List (Key × D)} {ss : List Str} {kvs : List (Key × V)} {xs : List (Key × Value)} {vs : List Value}, t7 l = some ss → aB5 c μ H l kvs → KV kvs xs → vs.length = xs.length →
 (∀ (j : Nat) (v : Value), vs[j]? = some v → ∃ k x, xs[j]? = some (k, x) ∧ (N8 P w).is k v = true) → StrsAre vs ss
 | [], _, _, xs, vs, e, r, kv, hl, hv => by
   cases e; cases r; cases kv
   cases vs with
   | nil => exact .nil
   | cons _ _ => simp at hl
 | (.inr x, d) :: t, ss, kvs, xs, vs, e, r, kv, hl, hv => by
  replace e := show (t7 t).map (_ :: ·) = some _ from e
  cases h : t7 t with
  | none => rw [h] at e; cases e
  | some q =>
    rw [h] at e
    cases e
    obtain ⟨v0, tl, rfl, r0, rt⟩ := r
    cases kv with
    | cons hk ht =>
      cases vs with
      | nil => simp at hl
      | cons u us =>
        obtain ⟨k, y, e1, e2⟩ := hv 0 u rfl
        simp only [List.getElem?_cons_zero, Option.some.injEq] at e1
        have hk1 : (Sum.inr x : Key) = _ := hk.1
        rw [e1] at hk1
        have e3 : bJ1 (.inr x) u = true := by rw [hk1]; exact e2
        rcases R7 e3 with ⟨_, _, z, _⟩ | ⟨x', t', z, eu⟩
        · cases z
        · cases z
          subst eu
          exact .cons _ _ (bA0 (P := P) (w := w) h rt ht (by simpa using hl) fun j v hj => by simpa using hv (j + 1) v (by simpa using hj))
 | (.inl _, _) :: _, _, _, _, _, e, _, _, _, _ => by cases e
theorem bH8 : ∀ {out : List Value} {ss : List Str}, StrsAre out ss → ∃ vs, vs = ss.map V.str ∧ J7 vs out ∧ w6 c μ H (ss.map D.str) vs
 | _, _, .nil => ⟨[], rfl, .nil, rfl⟩
 | _, _, .cons x t q => by
   obtain ⟨vs, e, h1, h2⟩ := bH8 q
   subst e
   exact ⟨_, rfl, .cons ⟨t, rfl⟩ h1, _, _, rfl, by unfold j0; rfl, h2⟩
theorem cR6 (hc : X.calm = true) : aA7 X Z (.builtin "sorted") bO8 := ⟨by
 intro pins s σ H xs us Q I r ⟨ds, μ, G, rl, hr, p⟩
 delta bO8 at p
 rcases ds with _ | ⟨_ | _ | _ | _ | _ | i | _ | _, _ | ⟨_, _⟩⟩ <;> dsimp only at p <;> try exact p.elim
 · obtain ⟨v, rfl, rv⟩ := aS0 rl
   obtain ⟨u, rfl, ru⟩ := aE3 r
   unfold j0 at rv
   obtain ⟨a, m, rfl⟩ := rv
   cases ru
   obtain ⟨o, g, p1⟩ := N6 p
   have ro := hr.obj i o a g m
   cases o with
   | dct l =>
     obtain ⟨kvs, q, rk⟩ := ro
     obtain ⟨ss, es, p2⟩ := aD0 p1
     split at p2
     case isFalse => exact p2.elim
     rename_i h64
     obtain ⟨z, hd, vs, rel, dd⟩ := cL3 I.hok q
     obtain ⟨ep, hat⟩ := dd.dictAt
     have hn : vs.length = ss.length := by rw [aR4 es, ← rel.length, ← rk.length]
     refine cC9 (PySem.W.kdl_dict (knd := N8 X.prog X.w) (kvs := vs) (ep := ep) hd) (I.ok.hd hc) hat (by omega) (ss := ss) (fun us hl hu => bA0 es rk rel (by omega) hu) fun h1 h' tk e out ss' k1 k2 he hS hp hs => ?_
     have e2 := bW4 hp hs
     subst e2
     obtain ⟨ws, ew, rv, rl2⟩ := bH8 (c := wc X) (μ := μ) (H := H) hS
     have I1 : Inv X pins σ H { s with heap := h1, toks := tk } := I.kept k1
     have hf := I1.hok.fresh (Nat.le_refl _)
     have hlen : ws.length ≤ sizeLine := by
      rw [ew, List.length_map]
      have := (List.mergeSort_perm ss leS).length_eq
      have e3 : (V6 ss).length = ss.length := this
      have : (64 : Nat) ≤ sizeLine := by decide
      omega
     refine ⟨.ref h1.objs.size, upd H h1.objs.size (.lst ws), I1.laid (t' := tk) k2 (Nat.le_refl _) ⟨hlen, out, e, rv, he⟩, rfl, aC3 hr rl2 p2 _ hf⟩
   | lst l => exact p1.elim
   | rod l => exact p1.elim
   | rol l => exact p1.elim⟩
end
noncomputable def Its (z : Str) : It := ⟨fun i _ => ∃ c, z.cps[i]? = some c, fun i H x H' => H' = H ∧ ∃ c, z.cps[i]? = some c ∧ x = .str ⟨#[c]⟩, fun i _ => z.cps[i]? = none⟩
theorem cE2 {P : Program} {w : World} {K : PySem.W.Frag} {tg : Expr} (z : Str) (t : Tok) (it : Addr) : bK4 P w K tg (Its z) [it] it (fun i h => h.IsStrIter it "str_ascii_iterator" z t i) where
 mem := by simp
 obj := fun i h st b hb => by
  have e : b = it := by simpa using hb
  subst e
  obtain ⟨o, e, c, d⟩ := st
  exact ⟨o, e, fun v z => by rw [d] at z; cases z⟩
 keep := fun i h h' st k => let ⟨o, ho, r⟩ := st; ⟨o, k it (by simp) o ho, r⟩
 item := by
  intro X hP hw hK hc i pins s σ H E I hf st hg
  subst hP hw hK
  obtain ⟨c, hx⟩ := hg
  obtain ⟨f0, f1, f2, f3, f4, f5⟩ := hf it (by simp)
  refine wpAny_pyNext_ascii_item st hx fun h' st' sb => ?_
  have I1 : Inv X pins σ H { s with heap := h', toks := s.toks + 1 } := I.turned (t' := s.toks + 1) (fun b o hb e => (sb.2 b hb).trans e) f0 f1 f3 f4 f5
  obtain ⟨o, e, cc, d⟩ := id st'
  exact ⟨_, rfl, bN1 (s := { s with heap := h', toks := s.toks + 1 }) e cc d (by decide) ⟨.str ⟨#[c]⟩, H, I1, ⟨_, rfl⟩, ⟨rfl, c, hx, rfl⟩, st', fun b hb => (hf b hb).1⟩⟩
 done := by
  intro X hP hw hK hc i pins s σ H E I hf st hg
  subst hP hw hK
  obtain ⟨f0, f1, f2, f3, f4, f5⟩ := hf it (by simp)
  exact wpAny_pyNext_ascii_end (I.ok.hd hc) st hg fun h' eb => ⟨rfl, I.turned (t' := s.toks) (fun b o hb e => eb b o hb e) f0 f1 f3 f4 f5⟩
 self := fun _ _ _ _ _ st h => wpAny_pyIter_striter_ascii st h
theorem cQ9 {P : Program} {w : World} {K : PySem.W.Frag} {tg : Expr} (z : Str) (t : Tok) (it : Addr) : bK4 P w K tg (Its z) [it] it (fun i h => h.IsStrIter it "str_iterator" z t i) where
 mem := by simp
 obj := fun i h st b hb => by
  have e : b = it := by simpa using hb
  subst e
  obtain ⟨o, e, c, d⟩ := st
  exact ⟨o, e, fun v z => by rw [d] at z; cases z⟩
 keep := fun i h h' st k => let ⟨o, ho, r⟩ := st; ⟨o, k it (by simp) o ho, r⟩
 item := by
  intro X hP hw hK hc i pins s σ H E I hf st hg
  subst hP hw hK
  obtain ⟨c, hx⟩ := hg
  obtain ⟨f0, f1, f2, f3, f4, f5⟩ := hf it (by simp)
  refine wpAny_pyNext_wide_item st hx fun h' st' sb => ?_
  have I1 : Inv X pins σ H { s with heap := h', toks := s.toks + 1 } := I.turned (t' := s.toks + 1) (fun b o hb e => (sb.2 b hb).trans e) f0 f1 f3 f4 f5
  obtain ⟨o, e, cc, d⟩ := id st'
  exact ⟨_, rfl, bN1 (s := { s with heap := h', toks := s.toks + 1 }) e cc d (by decide) ⟨.str ⟨#[c]⟩, H, I1, ⟨_, rfl⟩, ⟨rfl, c, hx, rfl⟩, st', fun b hb => (hf b hb).1⟩⟩
 done := by
  intro X hP hw hK hc i pins s σ H E I hf st hg
  subst hP hw hK
  obtain ⟨f0, f1, f2, f3, f4, f5⟩ := hf it (by simp)
  exact wpAny_pyNext_wide_end (I.ok.hd hc) st hg fun h' eb => ⟨rfl, I.turned (t' := s.toks) (fun b o hb e => eb b o hb e) f0 f1 f3 f4 f5⟩
 self := fun _ _ _ _ _ st h => wpAny_pyIter_striter_wide st h
section
variable {X : Cx} {Z : XC} {tg e : Expr}
noncomputable def cD3 (z : Str) : List D := z.cps.toList.map fun c => .str ⟨#[c]⟩
def dH1 : D → M Src := fun x => match x with
 | .str z => pure ⟨cD3 z, fun _ => true⟩
 | .tup l => aY6 (.tup l)
 | .ref r => aY6 (.ref r)
 | _ => M.stuck
end
section
variable {X : Cx} {Z : XC} {pos p q : Pos}
end
theorem aS5 {P : Program} {w : World} {K : PySem.W.Frag} {mg : Str → Option Value} {base : Heap} {CX : CXT} {k n : Nat} {f : Addr} {fd : FuncData} {ps : List Str} (hn : ps.length = n) : M8 P w K mg base CX k f fd ps (spD ⟨K, mg⟩ n fun _ => M.stuck) :=
 ⟨fun vs H Q E h => by rw [hn]; exact h.1, fun A outer s H args us vs Q E hr => by
  intros
  rename_i h
  first
   | exact h.2.elim
   | (obtain ⟨_, _, _, _, _, _, z⟩ := h; exact z.elim)⟩
end DL
namespace W
open PySem PySem.Spec L2 DL
open PyProof.Rows hiding St
theorem cV4 : Ty.of "tuple" = some .tuple := by rfl
def dB7 (G : DH) (d : D) : Prop := ∃ k, aX2 G d = some k
theorem st1 {d : D} {n : Nat} : ([d].map some ++ List.replicate n none : DSt)[0]? = some (some d) := by rfl
theorem cU3 {b : Bool} {P : Bool → Prop} : (∃ k, D.bl b = .bl k ∧ P k) ↔ P b := ⟨fun ⟨k, e, p⟩ => by cases e; exact p, fun p => ⟨b, rfl, p⟩⟩
theorem T4 {α : Type} {b : α} {P : α → Prop} : (∃ k, some b = some k ∧ P k) ↔ P b := ⟨fun ⟨k, e, p⟩ => by cases e; exact p, fun p => ⟨b, rfl, p⟩⟩
theorem cZ6 {i j : Int} {G : DH} {Q : DPP} : Wp (gtD (.int i) (.int j)) G Q ↔ Q (.bl (decide (j < i))) G := j6
theorem ix_tup {l : List D} {i : Int} {G : DH} {Q : DPP} : Wp (ixD (.tup l) (.int i)) G Q ↔ ∃ d, atI l i = some d ∧ Q d G := aK2
noncomputable def cE7 : D → Bool
 | .tup _ => true
 | _ => false
theorem dT9 {G : DH} {i : Nat} {k : Kd} (h : aX2 G (.ref i) = some k) : k = .list ∨ k = .dict := by
 delta aX2 at h
 dsimp only at h
 generalize G[i]? = x at h
 rcases x with _ | _ | _ | _ | _ <;> cases h <;> first | exact .inl rfl | exact .inr rfl
theorem dZ0 (f : D → Bool) (P : Kd → Bool) {d : D} {G : DH} {k : Kd} (h : aX2 G d = some k) (a : ∀ i, f (.ref i) = P .list ∧ f (.ref i) = P .dict) (b : f .non = P .non) (c : ∀ x, f (.bl x) = P .bool) (e : ∀ x, f (.int x) = P .int) (g : ∀ x, f (.str x) = P .str) (t : ∀ x, f (.tup x) = P .tuple) : P k = f d := by
 cases d with
 | ref i => rcases dT9 h with rfl | rfl; exact (a i).1.symm; exact (a i).2.symm
 | non => cases h; exact b.symm
 | bl x => cases h; exact (c x).symm
 | int x => cases h; exact (e x).symm
 | str x => cases h; exact (g x).symm
 | tup x => cases h; exact (t x).symm
 | _ => cases h
theorem cW4 {d : D} {G : DH} {Q : DPP} (h : dB7 G d) : Wp (V8 [d, .ty "tuple"]) G Q ↔ Q (.bl (cE7 d)) G := by
 obtain ⟨k, h⟩ := h
 rw [cR9 cV4]
 simp only [h, T4]
 rw [dZ0 cE7 (fun k => k.is .tuple) h (fun _ => ⟨rfl, rfl⟩) rfl (fun _ => rfl) (fun _ => rfl) (fun _ => rfl) fun _ => rfl]
theorem aJ8 {b : Bool} {G : DH} {B : Bool → DH → Prop} : Wp (aH7 (.bl b)) G B ↔ B b G := j6
theorem dH3 {l : List D} {G : DH} {Q : DPP} : Wp (aP0 [.tup l]) G Q ↔ Q (.int l.length) G := j6
theorem aH3 {i j : Int} {G : DH} {Q : DPP} : Wp (eqD (.int i) (.int j)) G Q ↔ Q (.bl (decide (i = j))) G := by
 have e : eqN 40 G (.int i) (.int j) = some (decide (i = j)) := by rfl
 rw [bC9, e]; exact T4
theorem aH9 {α : Type} {m : M α} {G : DH} {x : α} (h : Wp m G fun a G' => a = x ∧ G' = G) : m G = some (.ok x, G) := by
 obtain ⟨a, G', e, e1, e2⟩ := h
 subst e1 e2
 exact e
theorem aA2 {g : Fg} {t : DSt → M Bool} {e : Fe} {ck : DH → Bool} {f : D → D} {G : DH} {I : DSt → Prop} (hck : ck G = true) : ∀ (items : List D) (σ : DSt), I σ →
 (∀ d ∈ items, ∀ σ, I σ → ∃ σ1, g d σ G = some (.ok σ1, G) ∧ I σ1 ∧ t σ1 G = some (.ok true, G) ∧ e σ1 G = some (.ok (f d), G)) → K4 g t e ck items σ G = some (.ok (items.map f), G)
 | [], σ, _, _ => by unfold K4; simp only [hck, if_true, List.map]
 | d :: r, σ, i, h => by
   obtain ⟨σ1, h1, i1, h2, h3⟩ := h d (by simp) σ i
   have h4 := aA2 hck r σ1 i1 fun d hd => h d (by simp [hd])
   unfold K4
   simp only [hck, if_true]
   rw [M.bind_ok h1, M.bind_ok h2, if_pos rfl, M.bind_ok h3, M.bind_ok h4]
   rfl
theorem bR3 {α : Type} {f : α → Bool} : ∀ l : List α, aY7 (l.map fun x => D.bl (f x)) = some (l.map f)
 | [] => rfl
 | a :: r => by show (aY7 (r.map fun x => D.bl (f x))).map (f a :: ·) = _; rw [bR3 r]; rfl
theorem cD7 {G : DH} {r : Nat} {l : List D} {f : D → Bool} {Q : DPP} (h : G[r]? = some (.lst (l.map fun x => .bl (f x)))) : Wp (bV1 [.ref r]) G Q ↔ Q (.bl (l.all f)) G := by
 unfold bV1
 simp only [m5, T5, h, T4, DL.listOf, j6, aK2, bR3]
 simp [List.all_map, Function.comp_def]
theorem dN6 {i j : Int} {G : DH} {Q : DPP} : Wp (ltD (.int i) (.int j)) G Q ↔ Q (.bl (decide (i < j))) G := by
 have e : ltN 40 G (.int i) (.int j) = some (decide (i < j)) := by rfl
 rw [dY0, e]; exact T4
theorem aD3 {i j : Int} {G : DH} {Q : DPP} : Wp (Q4 (.int i) (.int j)) G Q ↔ Q (.int (i + j)) G := j6
theorem at0 {a b : D} : atI [a, b] 0 = some a := by rfl
theorem at1 {a b : D} : atI [a, b] 1 = some b := by rfl
section
variable {G : DH} {σ : DSt} {P : Fl → DH → Prop} {g : Fg} {b : Fs} {ck : DH → Bool}
theorem aB4 : Wp (aC0 g b ck [] σ) G P ↔ ck G = true ∧ P (.nx σ) G := by
 unfold aC0
 constructor
 · rintro ⟨a, G', e, q⟩
   by_cases h : ck G = true
   · simp only [h, if_true] at e; cases e; exact ⟨h, q⟩
   · simp only [h] at e; cases e
 · rintro ⟨h, q⟩
   exact ⟨_, G, by simp only [h, if_true], q⟩
theorem aB3 {d : D} {r : List D} : Wp (aC0 g b ck (d :: r) σ) G P ↔ ck G = true ∧ Wp (g d σ) G fun σ1 G1 => Wp (b σ1) G1 fun fl G2 => match fl with
 | .nx σ' => Wp (aC0 g b ck r σ') G2 P
 | .ct σ' => Wp (aC0 g b ck r σ') G2 P
 | .bk σ' => P (.nx σ') G2
 | .rt d => P (.rt d) G2 := by
 have e : Wp (aC0 g b ck (d :: r) σ) G P ↔ ck G = true ∧ Wp (do
  match ← b (← g d σ) with
  | .nx σ' => aC0 g b ck r σ'
  | .ct σ' => aC0 g b ck r σ'
  | .bk σ' => pure (.nx σ')
  | .rt d => pure (.rt d) : M Fl) G P := by
  rw [aC0]
  constructor
  · rintro ⟨a, G', e, q⟩
    by_cases h : ck G = true
    · simp only [h, if_true] at e; exact ⟨h, a, G', e, q⟩
    · simp only [h] at e; cases e
  · rintro ⟨h, a, G', e, q⟩
    exact ⟨a, G', by simp only [h, if_true]; exact e, q⟩
 rw [e]
 simp only [m5]
 refine and_congr_right fun _ => ?_
 constructor
 · rintro ⟨σ1, G1, e1, fl, G2, e2, q⟩
   refine ⟨σ1, G1, e1, fl, G2, e2, ?_⟩
   cases fl <;> first
    | exact q
    | exact j6.mp q
 · rintro ⟨σ1, G1, e1, fl, G2, e2, q⟩
   refine ⟨σ1, G1, e1, fl, G2, e2, ?_⟩
   cases fl <;> first
    | exact q
    | exact j6.mpr q
theorem aF5 {it : DSt → M Src} : Wp (aI3 it g b σ) G P ↔ Wp (it σ) G fun s G1 => Wp (aC0 g b s.ck s.items σ) G1 P := by unfold aI3; simp only [m5]
end
theorem cH4 {i j : Int} {G : DH} {Q : DPP} : Wp (aQ3 (.int i) (.int j)) G Q ↔ Q (.int (i - j)) G := j6
theorem atI_nat {l : List D} {k : Nat} {s : D} (h : l[k]? = some s) : atI l (k : Int) = some s := by
 have hk : k < l.length := by
  by_cases hk : k < l.length
  · exact hk
  · rw [List.getElem?_eq_none (by omega)] at h; cases h
 unfold atI ixN
 rw [if_pos (by omega), if_pos (by omega)]
 simpa using h
section
variable {G : DH} {σ : DSt} {Q : DPP}
theorem aL2 {i j : Int} (h : 0 < j) : Wp (bH1 (.int i) (.int j)) G Q ↔ Q (.int (i % j)) G := by
 have e : bH1 (.int i) (.int j) = if 0 < j then pure (.int (i % j)) else M.stuck := rfl
 rw [e, if_pos h]; exact j6
theorem bZ9 {i j : Int} (h : 0 < j ∧ j < 2 ^ 100) : Wp (bZ4 (.int i) (.int j)) G Q ↔ Q (.int (i / j)) G := by
 have e : bZ4 (.int i) (.int j) = if bN2 i j then pure (.int (i / j)) else M.stuck := rfl
 rw [e, if_pos (show bN2 i j from h)]; exact j6
theorem aT0 {i j : Int} (h : bL0 i j) : Wp (aU4 (.int i) (.int j)) G Q ↔ Q (.int (i * j)) G := by
 have e : aU4 (.int i) (.int j) = if bL0 i j then pure (.int (i * j)) else M.stuck := rfl
 rw [e, if_pos h]; exact j6
theorem bB6 {r : Nat} {l : List D} {i : Int} (h : G[r]? = some (.lst l)) : Wp (ixD (.ref r) (.int i)) G Q ↔ ∃ d, atI l i = some d ∧ Q d G := by
 have e : ixD (.ref r) (.int i) = (do
  let l ← R5 r >>= DL.listOf
  aI1 (atI l i)) := rfl
 rw [e]
 simp only [m5, T5, h, T4, DL.listOf, j6, aK2]
theorem dL5 {r : Nat} {l : List D} {k : Int} {j : Nat} {d : D} {R : Unit → DH → Prop} (h : G[r]? = some (.lst l)) (hj : ixN l.length k = some j) : Wp (cF3 (.ref r) (.int k) d) G R ↔ R () (G.set r (.lst (l.set j d))) := by
 unfold cF3
 simp only [m5, T5, h, T4, hj, bS9]
theorem bF3 {fo fi : Fe} {d : D} {S : DSt → DH → Prop} : Wp (aR1 fo fi d σ) G S ↔ Wp (fo σ) G fun o G1 => Wp (fi σ) G1 fun i G2 => Wp (cF3 o i d) G2 fun _ G3 => S σ G3 := by
 unfold aR1; simp only [m5, j6]
end
noncomputable def J8 (G : DH) (r : Nat) : Prop := ∃ a b c e : Int, G[r]? = some (.lst [.int a, .int b, .int c, .int e]) ∧ 0 ≤ b ∧ b < 2 ^ 40
def Fr (r : Nat) (G G' : DH) : Prop := G.length ≤ G'.length ∧ (∀ i, i ≠ r → i < G.length → G'[i]? = G[i]?) ∧ J8 G' r
theorem J8.lt {G : DH} {r : Nat} (h : J8 G r) : r < G.length := by
 obtain ⟨a, b, c, e, hr, _⟩ := h
 by_cases hi : r < G.length
 · exact hi
 · rw [List.getElem?_eq_none (by omega)] at hr; cases hr
theorem J8.app {G t : DH} {r : Nat} (h : J8 G r) : J8 (G ++ t) r := by
 have hl := h.lt
 obtain ⟨a, b, c, e, hr, hb⟩ := h
 exact ⟨a, b, c, e, by rw [List.getElem?_append_left hl]; exact hr, hb⟩
theorem Fr.refl {r : Nat} {G : DH} (h : J8 G r) : Fr r G G := ⟨Nat.le_refl _, fun _ _ _ => rfl, h⟩
theorem Fr.trans {r : Nat} {G G1 G2 : DH} (h : Fr r G G1) (k : Fr r G1 G2) : Fr r G G2 :=
 ⟨Nat.le_trans h.1 k.1, fun i hi hl => by rw [k.2.1 i hi (by have := h.1; omega), h.2.1 i hi hl], k.2.2⟩
theorem Fr.app {r : Nat} {G t : DH} (h : J8 G r) : Fr r G (G ++ t) := ⟨by simp, fun i _ hl => List.getElem?_append_left hl, h.app⟩
theorem Fr.set {r : Nat} {G : DH} {o : DO} (h : J8 (G.set r o) r) : Fr r G (G.set r o) := ⟨by simp, fun i hi hl => by rw [List.getElem?_set_ne (Ne.symm hi)], h⟩
theorem dK1 {i : Int} {G : DH} {Q : DPP} : Wp (bQ5 (.int i)) G Q ↔ Q (.int (-i)) G := j6
theorem aZ7 {l : List D} {k : Int} (h0 : 0 ≤ k) (h1 : k < l.length) : ∃ d, d ∈ l ∧ atI l k = some d := by
 obtain ⟨n, rfl⟩ := Int.eq_ofNat_of_zero_le h0
 have hn : n < l.length := by omega
 exact ⟨l[n], List.getElem_mem hn, atI_nat (List.getElem?_eq_getElem hn)⟩
theorem sz {l : List D} (h : Nat.ble l.length 100 = true := by rfl) : l.length ≤ sizeLine := Nat.le_trans (Nat.le_of_ble_eq_true h) (by decide)
theorem Fr.lt {r : Nat} {G G' : DH} (h : Fr r G G') : r < G'.length := h.2.2.lt
theorem Fr.at {r p : Nat} {G G' : DH} {o : DO} (h : Fr r G G') (hp : p ≠ r) (e : G[p]? = some o) : G'[p]? = some o := by
 have hl : p < G.length := by
  by_cases hi : p < G.length
  · exact hi
  · rw [List.getElem?_eq_none (by omega)] at e; cases e
 rw [h.2.1 p hp hl]; exact e
theorem dR1 {G t : DH} {k : Nat} : (G ++ t)[G.length + k]? = t[k]? := by
 rw [List.getElem?_append_right (by omega)]; congr 1; omega
theorem cJ8 {G t : DH} : (G ++ t)[G.length]? = t[0]? := dR1 (k := 0)
section
variable {G : DH} {σ : DSt} {Q : DPP}
theorem dL9 {i j : Int} : Wp (cQ1 [.int i, .int j]) G Q ↔ Q (.int (if j < i then j else i)) G := j6
theorem bJ3 {t : D → M Unit} {m : D → List D → M D} {fo : Fe} {fs : DSt → M (List D)} : Wp (mtE t m fo fs σ) G Q ↔ Wp (fo σ) G fun x G1 => Wp (t x) G1 fun _ G2 => Wp (fs σ) G2 fun xs G3 => Wp (m x xs) G3 Q := by
 unfold mtE; simp only [m5]
theorem aK0 {r : Nat} {l : List D} {R : Unit → DH → Prop} (h : G[r]? = some (.lst l)) : Wp (aD5 (.ref r)) G R ↔ R () G := by
 delta aD5; exact m5.trans ((T5.trans (by rw [h]; exact T4)).trans j6)
theorem aJ6 {r : Nat} {l : List D} {y : D} (h : G[r]? = some (.lst l)) (hl : l.length < sizeLine) : Wp (aG3 (.ref r) [y]) G Q ↔ Q .non (G.set r (.lst (l ++ [y]))) := by
 have e : aG3 (.ref r) [y] = (do
  let l ← lstM r
  if l.length < sizeLine then do
   let _ ← cB5 r (.lst (l ++ [y]))
   pure .non
  else M.stuck) := rfl
 rw [e]
 unfold lstM
 simp only [m5, T5, h, T4, j6, hl, if_true, bS9]
theorem aA1 {r : Nat} {l : List D} (h : G[r]? = some (.lst l)) : Wp (aA5 [.ref r]) G Q ↔ Q (.tup l) G := by
 have e : aA5 [.ref r] = (do
  let l ← R5 r >>= DL.listOf
  pure (.tup l)) := rfl
 rw [e]
 simp only [m5, T5, h, T4, DL.listOf, j6]
theorem bZ7 {l : List D} : Wp (bO3 [.tup l]) G Q ↔ Q (.ref G.length) (G ++ [.lst l]) := V1
theorem rng1 {fs : DSt → M (List D)} {R : Src → DH → Prop} : Wp (V5 fs σ) G R ↔ Wp (fs σ) G fun xs G1 => Wp (match xs with
 | [.int j] => if -(2 ^ 62) ≤ j ∧ j < 2 ^ 62 then pure ⟨K8 0 j.toNat, fun _ => true⟩ else M.stuck
 | _ => M.stuck : M Src) G1 R := by
 delta V5; exact m5
theorem rng1_int {j : Int} {R : Src → DH → Prop} (h : -(2 ^ 62) ≤ j ∧ j < 2 ^ 62) : Wp (match [D.int j] with
 | [.int j] => if -(2 ^ 62) ≤ j ∧ j < 2 ^ 62 then pure ⟨K8 0 j.toNat, fun _ => true⟩ else M.stuck
 | _ => M.stuck : M Src) G R ↔ R ⟨K8 0 j.toNat, fun _ => true⟩ G := by
 show Wp (if -(2 ^ 62) ≤ j ∧ j < 2 ^ 62 then pure ⟨K8 0 j.toNat, fun _ => true⟩ else M.stuck : M Src) G R ↔ _
 rw [if_pos h]; exact j6
theorem cH1 {n : Nat} {g : Fgs} {l : List D} {S : DSt → DH → Prop} (h : l.length = n) : Wp (aG2 n g (.tup l) σ) G S ↔ Wp (g l σ) G S := by
 have e : aG2 n g (.tup l) σ = if l.length = n then g l σ else M.stuck := rfl
 rw [e, if_pos h]
theorem dL3 {g : Fgs} {a b : D} {S : DSt → DH → Prop} : Wp (aG2 2 g (.tup [a, b]) σ) G S ↔ Wp (g [a, b] σ) G S := cH1 rfl
theorem bH3 {g : Fg} {t : Fgs} {d : D} {l : List D} {S : DSt → DH → Prop} : Wp (J5 g t (d :: l) σ) G S ↔ Wp (g d σ) G fun σ1 G1 => Wp (t l σ1) G1 S := by
 have e : J5 g t (d :: l) σ = (do t l (← g d σ)) := rfl
 rw [e]; simp only [m5]
theorem bQ4 {S : DSt → DH → Prop} : Wp (aI4 [] σ) G S ↔ S σ G := j6
theorem aS9 {i j : Nat} {a b : List D} (ha : G[i]? = some (.lst a)) (hb : G[j]? = some (.lst b)) (hl : a.length + b.length ≤ sizeLine) : Wp (Q4 (.ref i) (.ref j)) G Q ↔ Q (.ref G.length) (G ++ [.lst (a ++ b)]) := by
 have e : Q4 (.ref i) (.ref j) = (do
  match ← R5 i, ← R5 j with
  | .lst a, .lst b => if a.length + b.length ≤ sizeLine then N5 (.lst (a ++ b)) else M.stuck
  | _, _ => M.stuck) := rfl
 rw [e]
 simp only [m5, T5, ha, hb, T4, if_pos hl, V1]
theorem bS2 {a b : List D} (hl : a.length + b.length ≤ sizeLine) : Wp (Q4 (.tup a) (.tup b)) G Q ↔ Q (.tup (a ++ b)) G := by
 have e : Q4 (.tup a) (.tup b) = if a.length + b.length ≤ sizeLine then pure (.tup (a ++ b)) else M.stuck := rfl
 rw [e, if_pos hl]; exact j6
theorem aS7 {R : Option Int → DH → Prop} : Wp (W9 σ) G R ↔ R none G := j6
theorem bE4 {f : Fe} {R : Option Int → DH → Prop} : Wp (W7 f σ) G R ↔ Wp (f σ) G fun x G1 => ∃ i, x = .int i ∧ R (some i) G1 := by
 delta W7
 refine Iff.trans m5 ?_
 constructor
 · rintro ⟨x, G1, e, q⟩
   refine ⟨x, G1, e, ?_⟩
   cases x with
   | int i => exact ⟨i, rfl, j6.mp q⟩
   | _ => exact (aJ0.mp q).elim
 · rintro ⟨x, G1, e, i, rfl, q⟩
   exact ⟨_, G1, e, j6.mpr q⟩
theorem sl_tup {l : List D} {lo hi : Option Int} : Wp (slD (.tup l) lo hi) G Q ↔ Q (.tup (DL.cutD l lo hi)) G := j6
theorem dG3 {i : Int} {P : Int → Prop} : (∃ k, D.int i = .int k ∧ P k) ↔ P i := ⟨fun ⟨k, e, p⟩ => by cases e; exact p, fun p => ⟨i, rfl, p⟩⟩
theorem cK4 {l : List D} {lo hi : Option Int} {d : D} (h : d ∈ DL.cutD l lo hi) : d ∈ l := List.mem_of_mem_drop (List.mem_of_mem_take h)
end
def Fr2 (r p : Nat) (G G' : DH) : Prop := G.length ≤ G'.length ∧ (∀ i, i ≠ r → i ≠ p → i < G.length → G'[i]? = G[i]?) ∧ J8 G' r
theorem Fr2.trans {r p : Nat} {G G1 G2 : DH} (h : Fr2 r p G G1) (k : Fr2 r p G1 G2) : Fr2 r p G G2 :=
 ⟨Nat.le_trans h.1 k.1, fun i hi hp hl => by rw [k.2.1 i hi hp (by have := h.1; omega), h.2.1 i hi hp hl], k.2.2⟩
theorem Fr.two {r p : Nat} {G G1 : DH} (h : Fr r G G1) : Fr2 r p G G1 := ⟨h.1, fun i hi _ hl => h.2.1 i hi hl, h.2.2⟩
theorem Fr2.set {r p : Nat} {G : DH} {o : DO} (hp : p ≠ r) (h : J8 G r) : Fr2 r p G (G.set p o) := by
 refine ⟨by simp, fun i _ hi hl => by rw [List.getElem?_set_ne (Ne.symm hi)], ?_⟩
 obtain ⟨a, b, c, e, hr, hb⟩ := h
 exact ⟨a, b, c, e, by rw [List.getElem?_set_ne hp]; exact hr, hb⟩
theorem j9 {G : DH} {o : DO} : (G ++ [o])[G.length]? = some o := cJ8
theorem Q0 {G t : DH} {p : Nat} {o : DO} (e : G[p]? = some o) : (G ++ t)[p]? = some o := by
 have hlt : p < G.length := by
  by_cases hi : p < G.length
  · exact hi
  · rw [List.getElem?_eq_none (by omega)] at e; cases e
 rw [List.getElem?_append_left hlt]; exact e
noncomputable def okD : D → Bool
 | .non => true
 | .bl _ => true
 | .int _ => true
 | .str _ => true
 | .tup _ => true
 | _ => false
theorem cW2 {G : DH} {d : D} (h : okD d = true) : dB7 G d := by
 cases d <;> first | exact ⟨_, rfl⟩ | cases h
noncomputable def Gr (G G' : DH) : Prop := G.length ≤ G'.length ∧ ∀ i, i < G.length → G'[i]? = G[i]?
theorem Gr.refl {G : DH} : Gr G G := ⟨Nat.le_refl _, fun _ _ => rfl⟩
theorem Gr.trans {G G1 G2 : DH} (h : Gr G G1) (k : Gr G1 G2) : Gr G G2 := ⟨Nat.le_trans h.1 k.1, fun i hi => by rw [k.2 i (by have := h.1; omega), h.2 i hi]⟩
theorem Gr.app {G t : DH} : Gr G (G ++ t) := ⟨by simp, fun i hi => List.getElem?_append_left hi⟩
theorem Gr.of {r : Nat} {G G1 G2 : DH} (h : Gr G G1) (f : Fr r G1 G2) (hr : G.length ≤ r) : Gr G G2 := ⟨Nat.le_trans h.1 f.1, fun i hi => by rw [f.2.1 i (by omega) (by have := h.1; omega), h.2 i hi]⟩
theorem Gr.at {p : Nat} {G G' : DH} {o : DO} (h : Gr G G') (e : G[p]? = some o) : G'[p]? = some o := by
 have hl : p < G.length := by
  by_cases hi : p < G.length
  · exact hi
  · rw [List.getElem?_eq_none (by omega)] at e; cases e
 rw [h.2 p hl]; exact e
theorem bU5 : ∀ ns : List Int, aR9 (ns.map D.int) = some ns
 | [] => rfl
 | a :: r => by show (aR9 (r.map D.int)).map (a :: ·) = _; rw [bU5 r]; rfl
theorem dE6 {G : DH} {p : Nat} {ns : List Int} {Q : DPP} (e : G[p]? = some (.rol (ns.map D.int))) : Wp (cO3 [.ref p]) G Q ↔ Q (.int ns.sum) G := by
 have h : cO3 [.ref p] = (do
  let l ← R5 p >>= DL.listOf
  let ns ← aI1 (aR9 l)
  pure (.int ns.sum)) := rfl
 rw [h]
 simp only [m5, T5, e, T4, DL.listOf, j6, aK2, bU5]
theorem dK7 {G : DH} {p q : Nat} {xs : List D} {Q : DPP} (e : G[p]? = some (.rol xs)) (eq : G[q]? = some (.lst [])) : Wp (neD (.ref p) (.ref q)) G Q ↔ Q (.bl (!xs.isEmpty)) G := by
 have h : eqN 40 G (.ref p) (.ref q) = some xs.isEmpty := by
  have h1 : aB7 G (.ref p) = some (false, xs) := by delta aB7; dsimp only; rw [e]
  have h2 : aB7 G (.ref q) = some (false, []) := by delta aB7; dsimp only; rw [eq]
  rw [aZ0, h1, h2]
  cases xs <;> rfl
 rw [cK8, h]; exact T4
theorem cM9 {G : DH} {σ : DSt} {p : Nat} {l : List D} {R : Src → DH → Prop} (e : G[p]? = some (.lst l)) : Wp (aY6 (.ref p)) G R ↔ R ⟨l, ckO p (.lst l)⟩ G := by
 have h : aY6 (.ref p) = (do
  let o ← R5 p
  let l ← DL.listOf o
  pure ⟨l, ckO p o⟩) := rfl
 rw [h]
 simp only [m5, T5, e, T4, DL.listOf, j6]
theorem dO2 {G : DH} {p : Nat} {l : List D} {lo hi : Option Int} {Q : DPP} (e : G[p]? = some (.rol l)) : Wp (slD (.ref p) lo hi) G Q ↔ Q (.ref G.length) (G ++ [.lst (DL.cutD l lo hi)]) := by
 have h : slD (.ref p) lo hi = (do
  let l ← R5 p >>= DL.listOf
  N5 (.lst (DL.cutD l lo hi))) := rfl
 rw [h]
 simp only [m5, T5, e, T4, DL.listOf, j6, V1]
theorem cX5 {G : DH} {σ : DSt} {fs : DSt → M (List D)} {R : Src → DH → Prop} : Wp (bA6 fs σ) G R ↔ Wp (fs σ) G fun xs G1 => Wp (match xs with
 | [.ref r] => do
   let s ← aY6 (.ref r)
   pure ⟨s.items.zipIdx.map fun p => .tup [.int ((p.2 : Nat) : Int), p.1], s.ck⟩
 | _ => M.stuck : M Src) G1 R := by
 delta bA6; exact m5
theorem cV6 {G : DH} {p : Nat} {l : List D} {R : Src → DH → Prop} (e : G[p]? = some (.lst l)) : Wp (match [D.ref p] with
 | [.ref r] => do
   let s ← aY6 (.ref r)
   pure ⟨s.items.zipIdx.map fun p => .tup [.int ((p.2 : Nat) : Int), p.1], s.ck⟩
 | _ => M.stuck : M Src) G R ↔ R ⟨l.zipIdx.map fun p => .tup [.int ((p.2 : Nat) : Int), p.1], ckO p (.lst l)⟩ G := by
 show Wp (do
  let s ← aY6 (.ref p)
  pure ⟨s.items.zipIdx.map fun p => .tup [.int ((p.2 : Nat) : Int), p.1], s.ck⟩ : M Src) G R ↔ _
 simp only [m5]
 rw [cM9 (σ := []) e]
 exact j6
section
variable {G : DH} {σ : DSt} {Q : DPP}
theorem wp_trueT {B : Bool → DH → Prop} : Wp (V2 σ) G B ↔ B true G := j6
variable {g : Fg} {t : DSt → M Bool} {e : Fe} {ck : DH → Bool} {R : List D → DH → Prop}
theorem bH0 : Wp (K4 g t e ck [] σ) G R ↔ ck G = true ∧ R [] G := by
 unfold K4
 constructor
 · rintro ⟨a, G', e, q⟩
   by_cases h : ck G = true
   · simp only [h, if_true] at e; cases e; exact ⟨h, q⟩
   · simp only [h] at e; cases e
 · rintro ⟨h, q⟩
   exact ⟨_, G, by simp only [h, if_true], q⟩
theorem bI4 {d : D} {r : List D} : Wp (K4 g t e ck (d :: r) σ) G R ↔ ck G = true ∧ Wp (g d σ) G fun σ1 G1 => Wp (t σ1) G1 fun b G2 => if b = true then Wp (e σ1) G2 fun y G3 => Wp (K4 g t e ck r σ1) G3 fun ys G4 => R (y :: ys) G4 else Wp (K4 g t e ck r σ1) G2 R := by
 have h0 : Wp (K4 g t e ck (d :: r) σ) G R ↔ ck G = true ∧ Wp (do
  let σ1 ← g d σ
  if ← t σ1 then do
   let y ← e σ1
   let ys ← K4 g t e ck r σ1
   pure (y :: ys)
  else K4 g t e ck r σ1 : M (List D)) G R := by
  rw [K4]
  constructor
  · rintro ⟨a, G', e, q⟩
    by_cases h : ck G = true
    · simp only [h, if_true] at e; exact ⟨h, a, G', e, q⟩
    · simp only [h] at e; cases e
  · rintro ⟨h, a, G', e, q⟩
    exact ⟨a, G', by simp only [h, if_true]; exact e, q⟩
 rw [h0]
 simp only [m5, aW4, j6]
theorem wp_comp {it : DSt → M Src} {caps : List (Option Nat)} : Wp (R8 it caps g t e σ) G Q ↔ Wp (it σ) G fun s G1 => s.items.length ≤ sizeLine ∧ Wp (K4 g t e s.ck s.items (U6 caps σ)) G1 fun ys G2 => Q (.ref G2.length) (G2 ++ [.lst ys]) := by
 unfold R8
 simp only [m5]
 constructor
 · rintro ⟨s, G1, e1, q⟩
   refine ⟨s, G1, e1, ?_⟩
   by_cases h : s.items.length ≤ sizeLine
   · rw [if_pos h] at q
     simp only [m5, bR4, V1] at q
     exact ⟨h, q⟩
   · rw [if_neg h] at q; exact (aJ0.mp q).elim
 · rintro ⟨s, G1, e1, h, q⟩
   refine ⟨s, G1, e1, ?_⟩
   dsimp only
   rw [if_pos h]
   simp only [m5, bR4, V1]
   exact q
theorem aS6 (J : DH → Prop) (S : DSt → Prop) (P : D → Prop) (hck : ∀ G, J G → ck G = true) : ∀ (items : List D) (σ : DSt) (G : DH), S σ → J G →
 (∀ d ∈ items, ∀ σ G, S σ → J G → Wp (g d σ) G fun σ1 G1 => G1 = G ∧ S σ1 ∧ Wp (t σ1) G fun b G2 => b = true ∧ G2 = G ∧ Wp (e σ1) G fun y G3 => J G3 ∧ P y) →
 Wp (K4 g t e ck items σ) G fun ys G' => J G' ∧ ys.length = items.length ∧ ∀ y ∈ ys, P y
 | [], σ, G, s, j, _ => by
   rw [bH0]
   exact ⟨hck G j, j, rfl, fun y hy => by cases hy⟩
 | d :: r, σ, G, s, j, step => by
   rw [bI4]
   refine ⟨hck G j, Wp.mono (step d (by simp) σ G s j) fun σ1 G1 ⟨e1, s1, w1⟩ => ?_⟩
   subst e1
   refine Wp.mono w1 fun b G2 ⟨eb, e2, w2⟩ => ?_
   subst eb e2
   rw [if_pos rfl]
   refine Wp.mono w2 fun y G3 ⟨j3, py⟩ => ?_
   refine Wp.mono (aS6 J S P hck r σ1 G3 s1 j3 fun d hd => step d (by simp [hd])) fun ys G4 ⟨j4, l4, p4⟩ => ⟨j4, by simp [l4], fun z hz => ?_⟩
   rcases List.mem_cons.mp hz with rfl | hz
   · exact py
   · exact p4 z hz
theorem aA3 {p : D → Bool} {G : DH} (hck : ck G = true) (S : DSt → Prop) : ∀ (items : List D) (σ : DSt), S σ →
 (∀ d ∈ items, ∀ σ, S σ → ∃ σ1, g d σ G = some (.ok σ1, G) ∧ S σ1 ∧ t σ1 G = some (.ok (p d), G) ∧ e σ1 G = some (.ok d, G)) → K4 g t e ck items σ G = some (.ok (items.filter p), G)
 | [], σ, _, _ => by unfold K4; simp only [hck, if_true, List.filter_nil]
 | d :: r, σ, i, h => by
   obtain ⟨σ1, h1, i1, h2, h3⟩ := h d (by simp) σ i
   have h4 := aA3 hck S r σ1 i1 fun d hd => h d (by simp [hd])
   unfold K4
   simp only [hck, if_true]
   rw [M.bind_ok h1, M.bind_ok h2]
   by_cases hp : p d = true
   · rw [if_pos hp, M.bind_ok h3, M.bind_ok h4, List.filter_cons_of_pos hp]
     rfl
   · rw [if_neg hp, h4, List.filter_cons_of_neg hp]
end
section
variable {G : DH} {σ : DSt} {Q : DPP}
theorem cH0 {a b : Str} : Wp (eqD (.str a) (.str b)) G Q ↔ Q (.bl (a == b)) G := by
 have e : eqN 40 G (.str a) (.str b) = some (a == b) := by rfl
 rw [bC9, e]; exact T4
theorem bY1 {a b : Str} (h : a.length + b.length ≤ sizeLine) : Wp (Q4 (.str a) (.str b)) G Q ↔ Q (.str (a ++ b)) G := by
 have e : Q4 (.str a) (.str b) = if a.length + b.length ≤ sizeLine then pure (.str (a ++ b)) else M.stuck := rfl
 rw [e, if_pos h]; exact j6
theorem cS9 {z : Str} (h : z.length ≤ sizeLine) : Wp (aP0 [.str z]) G Q ↔ Q (.int z.length) G := by
 have e : aP0 [.str z] = if z.length ≤ sizeLine then pure (.int z.length) else M.stuck := rfl
 rw [e, if_pos h]; exact j6
theorem aM5 {x y : D} : Wp (aF3 x y) G Q ↔ ∃ k, inB x y G = some k ∧ Q (.bl (!k)) G := aZ1 (g := not) (by unfold aF3 dO5; cases inB x y G <;> rfl)
theorem cA8 {x y : D} : Wp (inD x y) G Q ↔ ∃ k, inB x y G = some k ∧ Q (.bl k) G := aZ1 (g := id) (by unfold inD dO5; cases inB x y G <;> rfl)
theorem cZ0 {p : Nat} {l : List D} {R : Src → DH → Prop} (e : G[p]? = some (.lst l)) : Wp (dH1 (.ref p)) G R ↔ R ⟨l, ckO p (.lst l)⟩ G := cM9 (σ := []) e
end
end W
namespace DL
open PySem PySem.Spec L2
open PyProof.Rows hiding St
section
variable {prog : Program} {w : World} {A : Around} {E : VSP} {s : Shared} {I l : Addr} {items : Array Value}
end
section
variable {X : Cx} {Z : XC} {e : Expr} {fa : Fe} {p1 p2 pos1 pos2 : Pos}
end
end DL
namespace DL
open PySem PySem.Spec L2 Builtin Builtin.Str
open PyProof.Rows hiding St
section
variable {X : Cx} {Z : XC} {e : Expr} {fa : Fe} {p2 pos : Pos} {lo hi : Option Expr} {fl fh : Fo}
theorem cJ0 {v : Value} {o : Option Int} (p : IsPart v o) : ∃ l : Option (Int × Tok), v = partValue l ∧ l.map (·.1) = o := by
 cases p with
 | none => exact ⟨none, rfl, rfl⟩
 | int i t => exact ⟨some (i, t), rfl, rfl⟩
theorem dP0 : SlR X (fun x lo hi H Q => ∃ z, x = .str z ∧ z.length ≤ sizeLine ∧ Q (.str (Txt.slice z lo hi)) H) := by
 intro pins s σ H x v vl vu lo hi sl Q I rx hs pl pu h
 obtain ⟨z, rfl, hz, q⟩ := h
 obtain ⟨t, rfl⟩ := rx
 obtain ⟨l, el, eml⟩ := cJ0 pl
 obtain ⟨u, eu, emu⟩ := cJ0 pu
 subst el eu eml emu
 refine ⟨"str", _, PySem.F.slot_str_getitem.lookup, typeIs_str _ z t, ?_⟩
 refine wpAny_getItem_str_slice (l := l) (u := u) (st := none) (let ⟨o, h1, h2, h3⟩ := hs; ⟨o, h1, h2, h3⟩) rfl ?_
 unfold sliceMade
 unfold Txt.slice at q
 unfold slicePicked
 have e1 : ((Option.map (fun x : Int × Tok => x.1) none).getD 1) = (1 : Int) := rfl
 simp only [e1]
 by_cases hc : ((1 : Int) == 1 && (strSliceIndices (l.map (·.1)) (u.map (·.1)) 1 z.length).length == z.length) = true
 · rw [if_pos hc] at q
   rw [if_pos hc]
   exact ⟨.str z, H, I, ⟨t, rfl⟩, q⟩
 · rw [if_neg hc] at q
   rw [if_neg hc]
   refine ⟨?_, .str _, H, I.tok _, ⟨_, rfl⟩, q⟩
   have hle := Txt.slice_le z (l.map (·.1)) (u.map (·.1))
   unfold Txt.slice at hle
   rw [if_neg hc] at hle
   exact Nat.le_trans hle hz
def slT : D → Option Int → Option Int → M D := fun x lo hi => match x with
 | .str z => if z.length ≤ sizeLine then pure (.str (Txt.slice z lo hi)) else M.stuck
 | .tup l => slD (.tup l) lo hi
 | .ref r => slD (.ref r) lo hi
 | _ => M.stuck
def T9 (f : Fe) (lo hi : Fo) : Fe := fun σ => do
 let x ← f σ
 let l ← lo σ
 let h ← hi σ
 slT x l h
theorem dP8 : SlD X Z slT := SlR.mono (dP0.or (eA4 (Z := Z))) fun x lo hi H Q ⟨dx, μ, G, rx, hr, p⟩ => by
 cases dx with
 | str z =>
   unfold slT at p
   dsimp only at p
   split at p
   · rename_i hz
     exact .inl ⟨z, aQ6 rx, hz, g8.ok p hr _ (by unfold j0; rfl)⟩
   · exact p.elim
 | tup l => exact .inr ⟨.tup l, μ, G, rx, hr, p⟩
 | ref r => exact .inr ⟨.ref r, μ, G, rx, hr, p⟩
 | _ => exact p.elim
theorem de_sliceT (he : DE X Z e fa) (hl : DOp X Z lo fl) (hu : DOp X Z hi fh) : DE X Z (.Subscript e (.Slice lo hi none p2) pos) (T9 fa fl fh) :=
 DE.of (cT9 dP8 he.h hl.h hu.h) fun σ H Q hE0 => hE0.elim fun dσ μ G s h p => ⟨dσ, μ, G, s, h, (g8.bind p).mono fun d μ1 G1 H1 x1 h1 p1 v rv =>
  ⟨dσ, μ1, G1, s.mono x1, h1, (g8.bind p1).mono fun l μ2 G2 H2 x2 h2 p2 => ⟨dσ, μ2, G2, s.mono (x1.trans x2), h2, (g8.bind p2).mono fun u μ3 G3 H3 x3 h3 p3 => ⟨d, μ3, G3, rv.mono (x2.trans x3), h3, p3⟩⟩⟩⟩
end
noncomputable def Txt.rev (z : Str) : Str := ⟨((strSliceIndices none none (-1) z.length).filterMap (z.cps[·]?)).toArray⟩
def cG1 : D → M D := fun x => match x with
 | .str z => if (Txt.rev z).length ≤ sizeLine then pure (.str (Txt.rev z)) else M.stuck
 | .tup l => dY3 (.tup l)
 | .ref r => dY3 (.ref r)
 | _ => M.stuck
section
variable {X : Cx} {Z : XC} {e : Expr} {fa : Fe} {p2 pos : Pos}
theorem dD6 {j k : Nat} {q1 q2 : Pos} (he : DE X Z e fa) : DE X Z (.Subscript e (.Slice none none (some (.UnaryOp .USub (.Constant (.int 1) k q1) q2)) p2) pos) (unE cG1 fa) := by
 refine ⟨?_⟩
 intro pins s σ H Q I ⟨dσ, μ, G, sr, h, p⟩
 refine Subscript_ (thn (he.h pins s σ H _ I ⟨dσ, μ, G, sr, h, (g8.bind p).mono fun d μ1 G1 H1 x1 h1 p1 v rv => (⟨d, μ1, G1, rv, h1, p1⟩ : bT3 (wc X) Z cG1 v H1 Q)⟩) fun v s1 ⟨x, H1, I1, r1, d, μ1, G1, rd, h1, p1⟩ => ?_)
 refine wpAny_Slice ?_
 rw [evalPart_none]
 refine wpAny_pure (wpAny_pure ?_)
 rw [evalPart_some]
 refine thn ((dN1 cW8 (cZ9 (X := X) (i := 1) (j := k) (pos := q1))) pins s1 σ H1 (fun v' H' => v' = .int (-1) ∧ H' = H1) I1 ⟨1, rfl, rfl, rfl⟩) fun u s2 ⟨xu, H2, I2, ru, e1, e2⟩ => ?_
 subst e1 e2
 obtain ⟨tk, rfl⟩ := ru
 have I3 : Inv X pins σ H2 { s2 with heap := s2.heap.push { cls := .type "slice", data := .fields #[.none, .none, .int (-1) tk] } } := I2.kept (t' := s2.toks) fun b ob q => Heap.get?_push_of_some _ q
 have hsl : Heap.IsSliceOf (s2.heap.push { cls := .type "slice", data := .fields #[.none, .none, .int (-1) tk] }) s2.heap.objs.size .none .none (.int (-1) tk) := Heap.IsSliceOf.new ..
 cases d with
 | str z =>
   unfold cG1 at p1
   dsimp only at p1
   split at p1
   case isFalse => exact p1.elim
   rename_i hz
   cases aQ6 rd
   obtain ⟨t, rfl⟩ := r1
   refine tail_any (ops := [.str z t, .ref s2.heap.objs.size]) (typeIs_str _ z t) PySem.F.slot_str_getitem.lookup (wpAny_getItem_str_slice (l := none) (u := none) (st := some (-1, tk)) (let ⟨o, h1, h2, h3⟩ := hsl; ⟨o, h1, h2, h3⟩) (by rfl) ?_) (by with_unfolding_all rfl)
   unfold sliceMade
   rw [if_neg (by simp)]
   exact ⟨hz, .str _, H2, I3.tok _, ⟨_, rfl⟩, g8.ok p1 h1 _ (by unfold j0; rfl)⟩
 | tup l =>
   unfold j0 at rd
   obtain ⟨a, vs, rfl, q, rl⟩ := rd
   cases r1
   obtain ⟨its, rr, ht, hz⟩ := I3.tuple q
   refine tail_any (ops := [.ref a, .ref s2.heap.objs.size]) ht.typeIs PyProof.Rows.slot_tuple_getitem.lookup (aZ4 ht hsl ?_ (by rw [← rr.length]; exact hz)) (by with_unfolding_all rfl)
   have hf := I3.hok.fresh (Nat.le_refl _)
   refine ⟨.ref _, upd H2 _ (.tup vs.reverse), I3.laid (t' := s2.toks) (fun b u e => Heap.get?_push_of_some _ e) (Nat.le_refl _) ?_, rfl, aN0 h1 rl.reverse p1 _ hf⟩
   exact ⟨by rw [List.length_reverse]; exact hz, its.reverse, rr.reverse, ⟨_, Heap.get?_push_size _ rfl, rfl, _, rfl⟩⟩
 | ref r =>
   obtain ⟨l, a, vs, rfl, rl, p2, hq⟩ := aT1 (d := .ref r) (f := fun l => N5 (.lst l.reverse)) h1 rd p1
   cases r1
   have hs : SqL X.K H2 a vs := by
    rcases hq with ⟨z, _⟩ | ⟨_, _, _, ⟨_, q⟩ | ⟨_, q⟩⟩
    · cases z
    · exact SqL.of q
    · exact q.sq
   obtain ⟨its, rr, ht, hz⟩ := I3.list hs
   refine tail_any (ops := [.ref a, .ref s2.heap.objs.size]) ht.isList.typeIs slot_list_getitem.lookup (wpAny_getItem_list_slice ht.isList hsl .none .none (.int (-1) tk) (by simp) ?_ (by rw [List.size_toArray, ← rr.length]; exact hz)) (by with_unfolding_all rfl)
   rw [PySem.W.krv_pick]
   have hf := I3.hok.fresh (Nat.le_refl _)
   refine ⟨.ref _, upd H2 _ (.lst vs.reverse), I3.laid (t' := s2.toks) (fun b u e => Heap.get?_push_of_some _ e) (Nat.le_refl _) ?_, rfl, aC3 h1 rl.reverse p2 _ hf⟩
   exact ⟨by rw [List.length_reverse]; exact hz, its.reverse, 0, rr.reverse, Heap.get?_push_size _ rfl⟩
 | _ => exact p1.elim
end
end DL
namespace W
open PySem PySem.Spec L2 DL Builtin Builtin.Str
open PyProof.Rows hiding St
section
variable {G : DH} {σ : DSt} {Q : DPP}
theorem aN2 {f : Fe} {lo hi : Fo} : Wp (T9 f lo hi σ) G Q ↔ Wp (f σ) G fun x G1 => Wp (lo σ) G1 fun l G2 => Wp (hi σ) G2 fun h G3 => Wp (slT x l h) G3 Q := by
 unfold T9; simp only [m5]
theorem dD5 {l : List D} {lo hi : Option Int} : Wp (slT (.tup l) lo hi) G Q ↔ Q (.tup (DL.cutD l lo hi)) G := j6
theorem dD3 {z : Str} {lo hi : Option Int} (h : z.length ≤ sizeLine) : Wp (slT (.str z) lo hi) G Q ↔ Q (.str (Txt.slice z lo hi)) G := by
 have e : slT (.str z) lo hi = if z.length ≤ sizeLine then pure (.str (Txt.slice z lo hi)) else M.stuck := rfl
 rw [e, if_pos h]; exact j6
theorem cS3 {z : Str} {lo hi : Option Int} : (Txt.slice z lo hi).length ≤ z.length := Txt.slice_le z lo hi
theorem dA5 {z : Str} (h : (DL.Txt.rev z).length ≤ sizeLine) : Wp (cG1 (.str z)) G Q ↔ Q (.str (DL.Txt.rev z)) G := by
 have e : cG1 (.str z) = if (DL.Txt.rev z).length ≤ sizeLine then pure (.str (DL.Txt.rev z)) else M.stuck := rfl
 rw [e, if_pos h]; exact j6
theorem dD1 (n : Nat) : (strSliceIndices none none (-1) n).length ≤ n := by
 unfold strSliceIndices sliceRange
 dsimp only
 rw [List.length_map, List.length_range]
 simp only [show ¬ ((-1 : Int) > 0) from by decide, if_false]
 by_cases h : ((n : Int) - 1 > -1)
 · rw [if_pos h, show (- -1 : Int) = 1 from by decide, Int.ediv_one]
   omega
 · rw [if_neg h]
   exact Nat.zero_le _
theorem dK8 (z : Str) : (DL.Txt.rev z).length ≤ z.length := by
 have h1 := dD1 z.length
 have h2 : (DL.Txt.rev z).length = ((strSliceIndices none none (-1) z.length).filterMap (z.cps[·]?)).length := by
  unfold DL.Txt.rev
  show Array.size _ = _
  simp
 rw [h2]
 exact Nat.le_trans (List.length_filterMap_le _ _) h1
end
end W
namespace DL
open PySem PySem.Spec L2
open PyProof.Rows hiding St
def bV2 : D → D → M D := fun x y => match y with
 | .non => pure (.bl (aM0 x))
 | .bl c => match x with
   | .bl d => pure (.bl (d == c))
   | _ => M.stuck
 | _ => M.stuck
def aN6 : D → D → M D := fun x y => match y with
 | .non => pure (.bl (!aM0 x))
 | .bl c => match x with
   | .bl d => pure (.bl (d != c))
   | _ => M.stuck
 | _ => M.stuck
def dA4 (a b : Fe) : Fe := fun σ => do
 let x ← a σ
 if ← aH7 x then pure x else b σ
def aX7 (a b : Fe) : Fe := fun σ => do
 let x ← a σ
 if ← aH7 x then b σ else pure x
section
variable {X : Cx} {Z : XC} {a b : Expr} {fa fb : Fe} {pos : Pos}
theorem dN5 : OpR X (compareOp .Is) (fun x y H Q => (y = .non ∧ Q (.bl (decide (x = .non))) H) ∨ ∃ c d, x = .bl c ∧ y = .bl d ∧ Q (.bl (c == d)) H) := by
 intro pins s σ H x y v u Q I rx ry h
 rcases h with h | ⟨c, d, rfl, rfl, q⟩
 · exact dR7 pins s σ H x y v u Q I rx ry h
 · cases rx
   cases ry
   exact is_bool ⟨.bl (c == d), H, I, rfl, q⟩
theorem cN7 : OpR X (compareOp .IsNot) (fun x y H Q => (y = .non ∧ Q (.bl (!decide (x = .non))) H) ∨ ∃ c d, x = .bl c ∧ y = .bl d ∧ Q (.bl (c != d)) H) := by
 intro pins s σ H x y v u Q I rx ry h
 rcases h with h | ⟨c, d, rfl, rfl, q⟩
 · exact dF1 pins s σ H x y v u Q I rx ry h
 · cases rx
   cases ry
   exact isnot_bool ⟨.bl (c != d), H, I, rfl, q⟩
theorem od_isC : OpD X Z (compareOp .Is) bV2 := OpD.of dN5 fun x y H Q hE0 => hE0.elim fun dx dy μ G rdx rdy hr p => by
 cases dy with
 | non => exact .inl ⟨cV9 rdy, by rw [cN3 rdx]; exact g8.ok p hr _ ofB⟩
 | bl d =>
   cases dx with
   | bl c => exact .inr ⟨c, d, bR0 rdx, bR0 rdy, g8.ok p hr _ ofB⟩
   | _ => exact p.elim
 | _ => exact p.elim
theorem od_isnotC : OpD X Z (compareOp .IsNot) aN6 := OpD.of cN7 fun x y H Q hE0 => hE0.elim fun dx dy μ G rdx rdy hr p => by
 cases dy with
 | non => exact .inl ⟨cV9 rdy, by rw [cN3 rdx]; exact g8.ok p hr _ ofB⟩
 | bl d =>
   cases dx with
   | bl c => exact .inr ⟨c, d, bR0 rdx, bR0 rdy, g8.ok p hr _ ofB⟩
   | _ => exact p.elim
 | _ => exact p.elim
theorem bD3 {α : Type} {μ : List Addr} {H : Hp} {G : DH} {d : D} {v : V} {f : Bool → M α} {K : α → List Addr → DH → Hp → Prop} (h : J1 (wc X) μ G H) (rv : j0 (wc X) μ H d v) (p : g8 (wc X) Z μ H ((aH7 d >>= f) G) K) :
 ∃ k, dT7 X.K v H k ∧ g8 (wc X) Z μ H (f k G) K := by
 have p1 := g8.bind p
 cases d with
 | non => rw [cV9 rv]; exact ⟨false, rfl, g8.ok p1 h⟩
 | bl b => rw [bR0 rv]; exact ⟨b, rfl, g8.ok p1 h⟩
 | int b => rw [aF9 rv]; exact ⟨_, rfl, g8.ok p1 h⟩
 | str y =>
   rw [aQ6 rv]
   unfold aH7 at p1
   dsimp only at p1
   split at p1
   · rename_i hz; exact ⟨_, ⟨hz, rfl⟩, g8.ok p1 h⟩
   · exact p1.elim
 | tup l =>
   unfold j0 at rv
   obtain ⟨a, vs, rfl, q, rl⟩ := rv
   exact ⟨!vs.isEmpty, .inr (.inl ⟨vs, q, rfl⟩), by rw [aF4 rl]; exact g8.ok p1 h⟩
 | ref r =>
   unfold j0 at rv
   obtain ⟨a, m, rfl⟩ := rv
   obtain ⟨o, g, p2⟩ := N6 p1
   have ro := h.obj r o a g m
   cases o with
   | lst l => obtain ⟨vs, q, rl⟩ := ro; exact ⟨!vs.isEmpty, .inl ⟨vs, SqL.of q, rfl⟩, by rw [aF4 rl]; exact g8.ok p2 h⟩
   | rol l => obtain ⟨vs, q, rl⟩ := ro; exact ⟨!vs.isEmpty, .inl ⟨vs, q.sq, rfl⟩, by rw [aF4 rl]; exact g8.ok p2 h⟩
   | dct l => obtain ⟨vs, q, rl⟩ := ro; exact ⟨!vs.isEmpty, .inr (.inr ⟨vs, q, rfl⟩), by rw [bF9 rl]; exact g8.ok p2 h⟩
   | rod l => exact p2.elim
 | _ => exact p1.elim
theorem de_orV {W2 : List Expr} (ha : DE X Z a fa) (hb : DE X Z (.BoolOp .Or (b :: W2) pos) fb) : DE X Z (.BoolOp .Or (a :: b :: W2) pos) (dA4 fa fb) := by
 refine ⟨?_⟩
 intro pins s σ H Q I ⟨dσ, μ, G, sr, h, p⟩
 refine BoolOp_or (thn (ha.h pins s σ H _ I ⟨dσ, μ, G, sr, h, (g8.bind p).mono fun d μ1 G1 H1 x1 h1 p1 v rv => (⟨d, μ1, G1, x1, rv, h1, p1⟩ : ∃ d μ1 G1, Ext μ H μ1 H1 ∧ j0 (wc X) μ1 H1 d v ∧ J1 (wc X) μ1 G1 H1 ∧ g8 (wc X) Z μ1 H1 ((aH7 d >>= fun k => if k = true then pure d else fb dσ) G1) fun d μ' _ H' => ∀ v, j0 (wc X) μ' H' d v → Q v H')⟩) fun v s1 ⟨x, H1, I1, r1, d, μ1, G1, x1, rd, h1, p1⟩ => ?_)
 obtain ⟨k, tk, p2⟩ := bD3 h1 rd p1
 refine thn (cD4 pins s1 σ H1 x v (fun c H' => c = k ∧ H' = H1) I1 r1 ⟨k, tk, rfl, rfl⟩) fun c s2 ⟨H2, I2, e1, e2⟩ => ?_
 subst e1 e2
 cases c with
 | true => exact ⟨x, H2, I2, r1, g8.ok p2 h1 _ rd⟩
 | false => exact hb.h pins s2 σ H2 Q I2 ⟨dσ, μ1, G1, sr.mono x1, h1, p2⟩
theorem de_andV {W2 : List Expr} (ha : DE X Z a fa) (hb : DE X Z (.BoolOp .And (b :: W2) pos) fb) : DE X Z (.BoolOp .And (a :: b :: W2) pos) (aX7 fa fb) := by
 refine ⟨?_⟩
 intro pins s σ H Q I ⟨dσ, μ, G, sr, h, p⟩
 refine BoolOp_and (thn (ha.h pins s σ H _ I ⟨dσ, μ, G, sr, h, (g8.bind p).mono fun d μ1 G1 H1 x1 h1 p1 v rv => (⟨d, μ1, G1, x1, rv, h1, p1⟩ : ∃ d μ1 G1, Ext μ H μ1 H1 ∧ j0 (wc X) μ1 H1 d v ∧ J1 (wc X) μ1 G1 H1 ∧ g8 (wc X) Z μ1 H1 ((aH7 d >>= fun k => if k = true then fb dσ else pure d) G1) fun d μ' _ H' => ∀ v, j0 (wc X) μ' H' d v → Q v H')⟩) fun v s1 ⟨x, H1, I1, r1, d, μ1, G1, x1, rd, h1, p1⟩ => ?_)
 obtain ⟨k, tk, p2⟩ := bD3 h1 rd p1
 refine thn (cD4 pins s1 σ H1 x v (fun c H' => c = k ∧ H' = H1) I1 r1 ⟨k, tk, rfl, rfl⟩) fun c s2 ⟨H2, I2, e1, e2⟩ => ?_
 subst e1 e2
 cases c with
 | false => exact ⟨x, H2, I2, r1, g8.ok p2 h1 _ rd⟩
 | true => exact hb.h pins s2 σ H2 Q I2 ⟨dσ, μ1, G1, sr.mono x1, h1, p2⟩
end
end DL
namespace W
open PySem PySem.Spec L2 DL
open PyProof.Rows hiding St
section
variable {G : DH} {σ : DSt} {Q : DPP} {a b : Fe}
theorem dS0 : Wp (dA4 a b σ) G Q ↔ Wp (a σ) G fun x G1 => Wp (aH7 x) G1 fun k G2 => if k = true then Q x G2 else Wp (b σ) G2 Q := by unfold dA4; simp only [m5, aW4, j6]
theorem bP4 : Wp (aX7 a b σ) G Q ↔ Wp (a σ) G fun x G1 => Wp (aH7 x) G1 fun k G2 => if k = true then Wp (b σ) G2 Q else Q x G2 := by unfold aX7; simp only [m5, aW4, j6]
theorem bG0 {x : D} : Wp (aN6 x .non) G Q ↔ Q (.bl (!aM0 x)) G := j6
end
end W
namespace DL
open PySem PySem.Spec L2
open PyProof.Rows hiding St
structure b8 (F : List D → M D) (n : Nat) (x : Str) (P : Program) (w : World) (K : PySem.W.Frag) (mg : Str → Option Value) (base : Heap) (k : Nat) : Prop where
 ex : ∃ f fd ps, M8 P w K mg base CX0 k f fd ps (spD ⟨K, mg⟩ n F) ∧ mg x = some (.ref f) ∧ PySem.W.keepIn K (.ref f) = true ∧ aZ8 K fd ps []
theorem b8.of {P : Program} {w : World} {K : PySem.W.Frag} {mg : Str → Option Value} {base : Heap} {k n : Nat} {x : Str} {st : Stmt} {ps : List Str} {f : Addr} {fd : FuncData} {F : List D → M D} (c : FF K mg x st ps f fd) (h : M8 P w K mg base CX0 k f fd ps (spD ⟨K, mg⟩ n F)) : b8 F n x P w K mg base k :=
 ⟨f, fd, ps, h, c.m, c.F.kp, c.b⟩
noncomputable def bltL : List Str := ["len", "isinstance", "all", "any", "sum", "min", "max", "abs", "sorted", "tuple", "list", "int", "str", "bool", "dict", "zip", "enumerate", "range", "reversed"]
structure BLs (mg : Str → Option Value) : Prop where
 h : ∀ b ∈ bltL, mg b = none
theorem aW6 {p : Pos} {l : List (Bool × Sem Value)} : (backTo p l).any (·.1) = l.any (·.1) := by
 unfold backTo
 rw [List.any_map]
 rfl
theorem aY2 {env : Env} : ∀ {es : List Expr}, es.all aI5 = true → (starEach es env).any (·.1) = false
 | [], _ => rfl
 | e :: es, h => by
   rw [List.all_cons, Bool.and_eq_true] at h
   rw [q17 h.1, List.any_cons, aY2 h.2]
   rfl
section
variable {X : Cx} {Z : XC} {a b c e : Expr} {es : List Expr} {fa fb fc : Fe} {fs : DSt → M (List D)} {pos p : Pos} {x : Str}
theorem dg_nm {i : Nat} (hN : ∃ N ps sc, J0 N ps sc ∧ X.N = N) (hi : X.N[i]? = some x) (hx : Loc X.env.scope x) (hf : X.fn x = true ∨ X.env.scope.names.lookup x = some .local) : DG X Z (.Name x pos) (q15 i) := by
 obtain ⟨N, ps, sc, S, e⟩ := hN
 exact dg_name (by rw [e]; exact S.nd) hi hx hf
theorem da_c (ha : DE X Z e fa) (hr : DA X Z es fs) (hs : aI5 e = true) : DA X Z (e :: es) (q13 fa fs) := q18 ha hr (q17 hs)
theorem cT2 {F : List D → M D} {n : Nat} (hF : ∃ k kk, b8 F n x X.prog X.w X.K X.mg X.base k ∧ aK1 kk X.A ∧ k ≤ kk) (hg : Gl X x) (ha : DA X Z (e :: es) fs) (hdb : (x == ("__debug__" : Str)) = false) (hs : (e :: es).all aI5 = true) :
 DE X Z (.Call (.Name x p) (e :: es) [] pos) (q16 (fnX n F) fs) := by
 obtain ⟨k, kk, hF, hr, hk⟩ := hF
 obtain ⟨f, fd, ps, h1, h2, h3, h4⟩ := hF.ex
 rw [List.all_cons, Bool.and_eq_true] at hs
 exact dH6 h1 (hr.mono hk) hg h2 h3 h4 ha hdb (q17 hs.1) (by rw [aW6]; exact aY2 hs.2)
structure BD (F : List D → M D) (x : Str) (X : Cx) (Z : XC) : Prop where
 ex : (∃ id, aA7 X Z (.builtin id) F ∧ bootBuiltins x = some (.builtin id)) ∨ (∃ T, aA7 X Z (.type T) F ∧ bootBuiltins x = some (.type T))
theorem dP4 {F : List D → M D} (hc : X.calm = true) (hF : X.calm = true → BD F x X Z) (hb : BLs X.mg) (hx : bltL.elem x = true) (hg : Gl X x) (ha : DA X Z (e :: es) fs) (hn : x ≠ "__name__") (hdb : (x == ("__debug__" : Str)) = false) (hs : (e :: es).all aI5 = true) :
 DE X Z (.Call (.Name x p) (e :: es) [] pos) (q16 F fs) := by
 have hm := hb.h x (List.elem_iff.mp hx)
 rw [List.all_cons, Bool.and_eq_true] at hs
 rcases (hF hc).ex with ⟨id, h1, h2⟩ | ⟨T, h1, h2⟩
 · exact cX1 h1 hg hm h2 ha hn hdb (q17 hs.1) (by rw [aW6]; exact aY2 hs.2)
 · exact cN8 h1 hg hm h2 ha hn hdb (q17 hs.1) (by rw [aW6]; exact aY2 hs.2)
theorem bd_len (_ : X.calm = true) : BD aP0 "len" X Z := ⟨.inl ⟨_, dU9, dP2⟩⟩
theorem bd_isinstance (_ : X.calm = true) : BD V8 "isinstance" X Z := ⟨.inl ⟨_, cP5, bK7⟩⟩
theorem bd_all (h : X.calm = true) : BD bV1 "all" X Z := ⟨.inl ⟨_, dP9 h, dS7⟩⟩
theorem bd_any (h : X.calm = true) : BD cG5 "any" X Z := ⟨.inl ⟨_, dV6 h, dU4⟩⟩
theorem bd_sum (h : X.calm = true) : BD cO3 "sum" X Z := ⟨.inl ⟨_, dV3 h, dS9⟩⟩
theorem bd_min (h : X.calm = true) : BD cQ1 "min" X Z := ⟨.inl ⟨_, dV9 h, dQ3⟩⟩
theorem bd_tuple (_ : X.calm = true) : BD aA5 "tuple" X Z := ⟨.inr ⟨_, cT7, cV5⟩⟩
theorem bd_list (_ : X.calm = true) : BD bO3 "list" X Z := ⟨.inr ⟨_, dL2, dD7⟩⟩
theorem bd_int (_ : X.calm = true) : BD bV4 "int" X Z := ⟨.inr ⟨_, dR9, dO3⟩⟩
theorem dI2 : ∀ n ∈ ["int", "bool", "str", "tuple", "list", "dict"], bootBuiltins (Str.ofString n) = some (.type n) := by decide +kernel
theorem dQ9 {n : String} (hb : BLs X.mg) (hn : n ∈ ["int", "bool", "str", "tuple", "list", "dict"]) (hx : bltL.elem (Str.ofString n) = true) (hg : Gl X (Str.ofString n)) (hnn : Str.ofString n ≠ "__name__") (hd : (Str.ofString n == ("__debug__" : Str)) = false) : DE X Z (.Name (Str.ofString n) pos) (cE (.ty n)) :=
 eC5 hg (hb.h _ (List.elem_iff.mp hx)) (dI2 n hn) hnn hd
variable {tg : Expr} {tp : Pos} {x1 : Nat} {es1 : List Expr}
theorem di_r1 (hb : BLs X.mg) (hg : Gl X "range") (ha : DA X Z [a] fs) (hs : aI5 a = true) : DI X Z tg (.Call (.Name "range" p) [a] [] pos) (V5 fs) := dF8 hg (hb.h _ (by decide +kernel)) ha (bH2 hs)
theorem di_e (hb : BLs X.mg) (hg : Gl X "enumerate") (ha : DA X Z [a] fs) (hs : aI5 a = true) : DI X Z (.Tuple es1 x1 tp) (.Call (.Name "enumerate" p) [a] [] pos) (bA6 fs) := dH9 hg (hb.h _ (by decide +kernel)) ha (bH2 hs) aX9
noncomputable def aH4 (sc : Scope) : List Str := (sc.names.filterMap fun y => if y.2 == .local && y.1 != (".0" : Str) then some y.1 else none) ++ (sc.names.filterMap fun y => if y.2 == .free then some y.1 else none)
variable {elt iter : Expr} {ifs : List Expr} {scope : Scope} {caps : List (Option Nat)} {it : DSt → M Src} {gg : Fg} {tt : DSt → M Bool} {fe : Fe}
theorem dE0 (hc : X.calm = true) (hi : DI X Z tg iter it) (k : ∃ XN ps osc, J0 XN ps osc ∧ X.env.scope = osc ∧ X.N = XN ∧ bE9 osc scope (aH4 scope) XN caps = true) (nd : (aH4 scope).Nodup)
 (hg : (aH4 scope).Nodup → ∀ C s H ex, DG (U7 X scope (aH4 scope) C s H ex) ZF tg gg) (ht : ∀ C s H ex, DTs (U7 X scope (aH4 scope) C s H ex) ZF ifs tt) (he : ∀ C s H ex, DE (U7 X scope (aH4 scope) C s H ex) ZF elt fe)
 (hf : ∀ x, foldedSetIterable iter X.env x = pure x) : DE X Z (.ListComp elt [⟨tg, iter, ifs, 0⟩] scope pos) (R8 it caps gg tt fe) := let ⟨_, _, _, _, hs, hN, k⟩ := k; dH7 hc hi (aG1.of k hs hN) (hg nd) ht he hf
theorem dB8 {y : Str} {py spos : Pos} {g2 : Fg} (hc : X.calm = true) (hi : DI X Z tg iter it) (k : ∃ XN ps osc, J0 XN ps osc ∧ X.env.scope = osc ∧ X.N = XN ∧ bE9 osc scope (aH4 scope) XN caps = true) (nd : (aH4 scope).Nodup)
 (hg : (aH4 scope).Nodup → ∀ C s H ex, DG (U7 X scope (aH4 scope) C s H ex) ZF tg gg) (ht : ∀ C s H ex, DTs (U7 X scope (aH4 scope) C s H ex) ZF ifs tt) (he : ∀ C s H ex, DE (U7 X scope (aH4 scope) C s H ex) ZF elt fe)
 (hf : ∀ x, foldedSetIterable iter X.env x = pure x) (hgo : DG X Z (.Name y py) g2) (hsw : swapsWith (.ListComp elt [⟨tg, iter, ifs, 0⟩] scope pos) (some (.Name y py)) spos.line X.env = pure true) :
 DS X Z (.Assign [.Name y py] (.ListComp elt [⟨tg, iter, ifs, 0⟩] scope pos) spos) (o9 (R8 it caps gg tt fe) g2) := let ⟨_, _, _, _, hs, hN, k⟩ := k; cT8 hc hi (aG1.of k hs hN) (hg nd) ht he hf hgo hsw
end
section
variable {X : Cx} {Z : XC}
end
end DL
namespace W
open PySem PySem.Spec L2 DL
open PyProof.Rows hiding St
section
variable {G : DH} {Q : DPP}
end
end W
namespace DL
open PySem PySem.Spec L2
open PyProof.Rows hiding St
def Itd (a : Addr) (o : Obj) (kvs : List (Key × V)) : It :=
 ⟨fun i H => H a = some (.frz o (.dK kvs)) ∧ ∃ kv, kvs[i]? = some kv, fun i H x H' => H' = H ∧ ∃ kv, kvs[i]? = some kv ∧ x = kV kv.1, fun i H => H a = some (.frz o (.dK kvs)) ∧ kvs.length ≤ i⟩
theorem cX9 {κ : Type} : ∀ {kvs : List (κ × V)} {vs : List (κ × Value)} {i : Nat} {kv : κ × V}, KV kvs vs → kvs[i]? = some kv → ∃ v, vs[i]? = some (kv.1, v)
 | _, _, _, _, .nil, e => by simp at e
 | _, _, 0, _, .cons h t, e => by
   simp only [List.getElem?_cons_zero, Option.some.injEq] at e
   subst e
   exact ⟨_, by rw [List.getElem?_cons_zero, h.1]⟩
 | _, _, i + 1, _, .cons h t, e => by
   simp only [List.getElem?_cons_succ] at e ⊢
   exact cX9 t e
theorem dT0 {P : Program} {w : World} {k : Key} {u : Value} (h : (N8 P w).is k u = true) : J9 (kV k) u := by
 rcases R7 (k := k) (v := u) h with ⟨i, t, rfl, rfl⟩ | ⟨x, t, rfl, rfl⟩
 · exact ⟨t, rfl⟩
 · exact ⟨t, rfl⟩
theorem cX4 {X : Cx} {pins : PNS} {s : Shared} {σ : St} {H : Hp} {a : Addr} {o : Obj} {es : Array DictEntry} {ep : Nat} {kvs : List (Key × V)} (I : Inv X pins σ H s) (ho : o.data = .dict es ep) (e : H a = some (.frz o (.dK kvs))) :
 (a == sysModules) = false ∧ ∃ vs, KV kvs vs ∧ s.heap.DictAt (N8 X.prog X.w) a vs ep := by
 obtain ⟨hget, hz, hS, vs, r, m⟩ := (show W6 X.prog X.w H s.heap a (.frz o (.dK kvs)) from I.hok a _ e)
 obtain ⟨ep', dat⟩ := m.dictAt
 have hep : ep' = ep := by
  obtain ⟨o', es', h1, _, h3, _⟩ := id dat
  rw [hget] at h1
  cases h1
  rw [ho] at h3
  cases h3
  rfl
 subst hep
 exact ⟨hS, vs, r, dat⟩
theorem bO5 {P : Program} {w : World} {K : PySem.W.Frag} {tg : Expr} {a : Addr} {o : Obj} {es : Array DictEntry} {ep : Nat} {kvs : List (Key × V)} (ho : o.data = .dict es ep) (it : Addr) : bK4 P w K tg (Itd a o kvs) [it] it (fun i h => h.IsKeyIter it a i kvs.length ep) where
 mem := by simp
 obj := fun i h st b hb => by
  have e : b = it := by simpa using hb
  subst e
  obtain ⟨o, e, c, d⟩ := st
  exact ⟨o, e, fun v z => by rw [d] at z; cases z⟩
 keep := fun i h h' st k => let ⟨o, ho, r⟩ := st; ⟨o, k it (by simp) o ho, r⟩
 item := by
  intro X hP hw hK hc i pins s σ H E I hf st hg
  subst hP hw hK
  obtain ⟨hfr, kv, hx⟩ := hg
  obtain ⟨f0, f1, f2, f3, f4, f5⟩ := hf it (by simp)
  obtain ⟨hS, vs, rel, dat⟩ := cX4 I ho hfr
  obtain ⟨v, hv⟩ := cX9 rel hx
  have hlen : kvs.length = vs.length := Paired.length rel
  rw [hlen] at st
  refine wpAny_pyNext_dict_item st dat hv fun key h' hk st' sb => ?_
  have I1 : Inv X pins σ H { s with heap := h' } := I.turned (t' := s.toks) (fun b o hb e => (sb.2 b hb).trans e) f0 f1 f3 f4 f5
  obtain ⟨o', e, cc, d⟩ := id st'
  refine ⟨_, rfl, bN1 (s := { s with heap := h' }) e cc d (by decide) ⟨kV kv.1, H, I1, dT0 hk, ⟨rfl, kv, hx, rfl⟩, by rw [hlen]; exact st', fun b hb => (hf b hb).1⟩⟩
 done := by
  intro X hP hw hK hc i pins s σ H E I hf st hg
  subst hP hw hK
  obtain ⟨hfr, hi⟩ := hg
  obtain ⟨f0, f1, f2, f3, f4, f5⟩ := hf it (by simp)
  obtain ⟨hS, vs, rel, dat⟩ := cX4 I ho hfr
  have hlen : kvs.length = vs.length := Paired.length rel
  rw [hlen] at st hi
  exact wpAny_pyNext_dict_end (I.ok.hd hc) st dat (List.getElem?_eq_none hi) fun h' eb => ⟨rfl, I.turned (t' := s.toks) (fun b o hb e => eb b o hb e) f0 f1 f3 f4 f5⟩
 self := fun _ _ _ _ _ st h => wpAny_pyIter_keyiter st h
theorem J1.setR {c : Wc} {μ : List Addr} {G : DH} {H : Hp} {i : Nat} {a : Addr} {o o' : DO} {u : HO} (h : J1 c μ G H) (g : G[i]? = some o) (n : ¬ aM9 (some o)) (m : μ[i]? = some a) (k : Ext μ H μ (upd H a u)) (ho : aL7 c μ (upd H a u) a o') : J1 c μ (G.set i o') (upd H a u) := by
 have hi : i < G.length := lt_of_get g
 have get : ∀ j, (G.set i o')[j]? = if i = j then some o' else G[j]? := fun j => by
  rw [List.getElem?_set]
  by_cases e : i = j
  · subst e; simp [hi]
  · simp [e]
 refine ⟨by simp [h.len], fun j l b ej el => ?_, fun j o2 b gj mj => ?_⟩
 · rcases h.inj j l b ej el with e | e | e
   · exact .inl e
   · by_cases ij : i = j
     · subst ij; rw [g] at e; exact (n e).elim
     · right; left; rw [get, if_neg ij]; exact e
   · by_cases ij : i = l
     · subst ij; rw [g] at e; exact (n e).elim
     · right; right; rw [get, if_neg ij]; exact e
 · rw [get] at gj
   by_cases ij : i = j
   · subst ij
     rw [if_pos rfl] at gj
     cases gj
     rw [m] at mj
     cases mj
     exact ho
   · rw [if_neg ij] at gj
     have q := h.obj j o2 b gj mj
     by_cases hr : aM9 (some o2)
     · exact q.mono k (.inr hr)
     · have nb : b ≠ a := fun e => by
        subst e
        rcases h.inj i j b m mj with e | e | e
        · exact ij e
        · rw [g] at e; exact n e
        · rw [gj] at e; exact hr e
       exact q.mono k (.inl (J6 nb))
section
variable {X : Cx} {Z : XC} {tg e : Expr}
theorem Inv.freeze {pins : PNS} {s : Shared} {σ : St} {H : Hp} {a : Addr} {o : Obj} {kvs : List (Key × V)} (I : Inv X pins σ H s) (e : H a = some (.dK kvs)) (ho : s.heap.get? a = some o) : Inv X pins σ (upd H a (.frz o (.dK kvs))) s := by
 have q : W6 X.prog X.w H s.heap a (.dK kvs) := I.hok a _ e
 exact I.write (x := a) (e := a) (t' := s.toks) (h' := s.heap) (by rw [e]; exact trivial) (.inl rfl) (fun b u _ z => z) ⟨o, ho⟩ ⟨ho, q⟩
def iW (K : PySem.W.Frag) (tl : TE) : TI := fun σ H R => tl σ H fun x H1 => ((∃ z, x = .str z ∧ R (Its z) H1) ∨ (∃ k a xs, x = .ref a ∧ Sq K k H1 a xs ∧ R (if k = true then Itt K a else Itl K a) H1)) ∨
 (∃ a kvs, x = .ref a ∧ H1 a = some (.dK kvs) ∧ ∀ o, R (Itd a o kvs) (upd H1 a (.frz o (.dK kvs)))) ∨ (∃ a o kvs, x = .ref a ∧ H1 a = some (.frz o (.dK kvs)) ∧ R (Itd a o kvs) H1)
theorem eJ6 {tl : TE} (hl : PE X e tl) : PI X tg e (iW X.K tl) := by
 intro pins s σ H R I h
 refine thn (hl pins s σ H _ I h) fun v s1 ⟨x, H1, I1, r1, q1⟩ => ?_
 have fpo : ∀ b ∈ [s1.heap.objs.size], aR2 X pins H1 b := fun b hb => by
  have z : b = s1.heap.objs.size := by simpa using hb
  subst z
  exact I1.fpOk (Nat.le_refl _) (I1.hok.fresh (Nat.le_refl _))
 rcases q1 with (⟨z, rfl, q⟩ | ⟨k, a, xs, rfl, hq, q⟩) | ⟨a, kvs, rfl, hq, q⟩ | ⟨a, o, kvs, rfl, hq, q⟩
 · obtain ⟨t, rfl⟩ := (show ∃ t, v = Value.str z t from r1)
   refine wpAny_pyIter_strU ?_
   have I2 : Inv X pins σ H1 { s1 with heap := s1.heap.push { cls := .type (strIterType z), data := .fields #[.str z t, .int 0 0] } } := I1.kept (t' := s1.toks) fun b o z => Heap.get?_push_of_some _ z
   have hg : (s1.heap.push { cls := .type (strIterType z), data := .fields #[.str z t, .int 0 0] }).get? s1.heap.objs.size = some { cls := .type (strIterType z), data := .fields #[.str z t, .int 0 0] } := Heap.get?_push_size _ rfl
   by_cases ha : z.cps.all (· < 128) = true
   · have e : strIterType z = "str_ascii_iterator" := by unfold strIterType; rw [if_pos ha]
     refine ⟨s1.heap.objs.size, [s1.heap.objs.size], _, _, H1, rfl, I2, cE2 z t _, ?_, fpo, q⟩
     rw [e] at hg ⊢
     exact ⟨_, hg, rfl, rfl⟩
   · have e : strIterType z = "str_iterator" := by unfold strIterType; rw [if_neg ha]
     refine ⟨s1.heap.objs.size, [s1.heap.objs.size], _, _, H1, rfl, I2, cQ9 z t _, ?_, fpo, q⟩
     rw [e] at hg ⊢
     exact ⟨_, hg, rfl, rfl⟩
 · cases r1
   cases k with
   | true =>
     obtain ⟨its, rv, p, hz⟩ := I1.tuple hq
     exact wpAny_pyIter_tuple (show s1.heap.IsTuple a its.toArray from p) ⟨s1.heap.objs.size, [s1.heap.objs.size], _, _, H1, rfl, I1.kept (t' := s1.toks) fun b o z => Heap.get?_push_of_some _ z, cG0 a _, ⟨_, Heap.get?_push_size _ rfl, rfl, rfl⟩, fpo, q⟩
   | false =>
     obtain ⟨its, rv, p, hz⟩ := I1.list hq
     exact wpAny_pyIter_list p.isList ⟨s1.heap.objs.size, [s1.heap.objs.size], _, _, H1, rfl, I1.kept (t' := s1.toks) fun b o z => Heap.get?_push_of_some _ z, cP8 a _, ⟨_, Heap.get?_push_size _ rfl, rfl, rfl⟩, fpo, q⟩
 · cases r1
   obtain ⟨hz, hS, vs, rel, dd⟩ := cL3 I1.hok hq
   obtain ⟨ep, dat⟩ := dd.dictAt
   obtain ⟨o, es, h1, h2, h3, h4⟩ := id dat
   have hlen : kvs.length = vs.length := Paired.length rel
   have I2 := DL.Inv.freeze I1 hq h1
   have fpo2 : ∀ b ∈ [s1.heap.objs.size], aR2 X pins (upd H1 a (.frz o (.dK kvs))) b := fun b hb => by
    have z : b = s1.heap.objs.size := by simpa using hb
    subst z
    exact I2.fpOk (Nat.le_refl _) (I2.hok.fresh (Nat.le_refl _))
   refine wpAny_pyIter_dict hS dat ⟨s1.heap.objs.size, [s1.heap.objs.size], _, _, upd H1 a (.frz o (.dK kvs)), rfl, I2.kept (t' := s1.toks) fun b o z => Heap.get?_push_of_some _ z, bO5 (kvs := kvs) h3 _, ?_, fpo2, q o⟩
   rw [hlen]
   exact ⟨_, Heap.get?_push_size _ rfl, rfl, rfl⟩
 · cases r1
   obtain ⟨hget, hz, hS, vs, rel, dd⟩ := (show W6 X.prog X.w H1 s1.heap a (.frz o (.dK kvs)) from I1.hok a _ hq)
   obtain ⟨ep, dat⟩ := dd.dictAt
   obtain ⟨o', es, h1, h2, h3, h4⟩ := id dat
   rw [hget] at h1
   cases h1
   have hlen : kvs.length = vs.length := Paired.length rel
   refine wpAny_pyIter_dict hS dat ⟨s1.heap.objs.size, [s1.heap.objs.size], _, _, H1, rfl, I1.kept (t' := s1.toks) fun b o z => Heap.get?_push_of_some _ z, bO5 (kvs := kvs) h3 _, ?_, fpo, q⟩
   rw [hlen]
   exact ⟨_, Heap.get?_push_size _ rfl, rfl, rfl⟩
noncomputable def dB4 : Key → D
 | .inl i => .int i
 | .inr x => .str x
def aV2 (l : List (Key × D)) : List D := l.map fun kv => dB4 kv.1
def bK2 : D → M Src := fun x => match x with
 | .ref r => do
   match ← R5 r with
   | .dct l => do
     let _ ← cB5 r (.rod l)
     pure ⟨aV2 l, fun _ => true⟩
   | .rod l => pure ⟨aV2 l, fun _ => true⟩
   | _ => dH1 (.ref r)
 | d => dH1 d
def itW (f : Fe) : DSt → M Src := fun σ => do bK2 (← f σ)
theorem bR9 {μ1 : List Addr} {G1 : DH} {H1 : Hp} {d : D} {v : V} {R : It → Hp → Prop} (h1 : J1 (wc X) μ1 G1 H1) (rv : j0 (wc X) μ1 H1 d v) (p1 : g8 (wc X) Z μ1 H1 (dH1 d G1) fun s μ' _ H' => ∀ J, ItD (wc X) μ' H' J s → R J H') :
 (∃ z, v = .str z ∧ R (Its z) H1) ∨ (∃ k a xs, v = .ref a ∧ Sq X.K k H1 a xs ∧ R (if k = true then Itt X.K a else Itl X.K a) H1) := by
 have main : ∀ dd : D, (∀ z, dd ≠ .str z) → j0 (wc X) μ1 H1 dd v → g8 (wc X) Z μ1 H1 (aY6 dd G1) (fun s μ' _ H' => ∀ J, ItD (wc X) μ' H' J s → R J H') → (∃ z, v = .str z ∧ R (Its z) H1) ∨ (∃ k a xs, v = .ref a ∧ Sq X.K k H1 a xs ∧ R (if k = true then Itt X.K a else Itl X.K a) H1) := by
  intro dd _ rv p1
  have p1' : g8 (wc X) Z μ1 H1 ((aY6 dd >>= fun s => (pure s : M Src)) G1) fun s μ' _ H' => ∀ J, ItD (wc X) μ' H' J s → R J H' := by
   have e : (aY6 dd >>= fun s => (pure s : M Src)) = aY6 dd := by
    funext G
    rw [M.bind_eq]
    cases aY6 dd G with
    | none => rfl
    | some q => obtain ⟨r, G'⟩ := q; cases r <;> rfl
   rw [e]; exact p1
  obtain ⟨sr, k, a, vs, rfl, q, rl, is, ck, _, p2⟩ := bL6 h1 rv p1'
  refine .inr ⟨k, a, vs, rfl, q, g8.ok p2 h1 _ fun μ' G' H' x' h' ck' i => ?_⟩
  obtain ⟨vs', q', rl'⟩ := is μ' G' H' x' h' ck'
  refine ⟨fun d hd => ?_, fun hi => ?_⟩
  · obtain ⟨y, hy, ry⟩ := rl'.get hd
    cases k with
    | true =>
      rw [if_pos rfl]
      exact ⟨⟨vs', y, q', hy⟩, fun x H2 ⟨e1, e2⟩ => by subst e1; exact ⟨Ext.refl _ _, h', cM8 rl' hd (e2 vs' q')⟩⟩
    | false =>
      rw [if_neg Bool.false_ne_true]
      exact ⟨⟨vs', y, q', hy⟩, fun x H2 ⟨e1, e2⟩ => by subst e1; exact ⟨Ext.refl _ _, h', cM8 rl' hd (e2 vs' q')⟩⟩
  · cases k with
    | true => rw [if_pos rfl]; exact ⟨vs', q', by rw [← rl'.length]; exact hi⟩
    | false => rw [if_neg Bool.false_ne_true]; exact ⟨vs', q', by rw [← rl'.length]; exact hi⟩
 cases d with
 | str z =>
   refine .inl ⟨z, aQ6 rv, g8.ok p1 h1 _ fun μ' G' H' x' h' ck' i => ⟨fun d hd => ?_, fun hi => ?_⟩⟩
   · simp only [cD3, List.getElem?_map] at hd
     cases hc : z.cps.toList[i]? with
     | none => rw [hc] at hd; cases hd
     | some c =>
       rw [hc] at hd
       cases hd
       have hc' : z.cps[i]? = some c := by rw [← Array.getElem?_toList]; exact hc
       exact ⟨⟨c, hc'⟩, fun x H2 ⟨e1, c2, e2, e3⟩ => by
        subst e1
        rw [hc'] at e2
        cases e2
        exact ⟨Ext.refl _ _, h', by rw [e3]; unfold j0; rfl⟩⟩
   · simp only [cD3, List.length_map] at hi
     show z.cps[i]? = none
     rw [← Array.getElem?_toList]
     exact List.getElem?_eq_none hi
 | tup l => exact main (.tup l) (fun z q => nomatch q) rv p1
 | ref r => exact main (.ref r) (fun z q => nomatch q) rv p1
 | _ => exact p1.elim
theorem cB1 {c : Wc} {μ : List Addr} {H : Hp} : ∀ {l : List (Key × D)} {kvs : List (Key × V)} {i : Nat} {kd : Key × D}, aB5 c μ H l kvs → l[i]? = some kd → ∃ v, kvs[i]? = some (kd.1, v)
 | [], _, _, _, _, e => by simp at e
 | (k, d) :: r, _, 0, _, h, e => by
  obtain ⟨v, t, rfl, _, _⟩ := h
  simp only [List.getElem?_cons_zero, Option.some.injEq] at e
  subst e
  exact ⟨v, rfl⟩
 | (k, d) :: r, _, i + 1, _, h, e => by
  obtain ⟨v, t, rfl, _, ht⟩ := h
  simp only [List.getElem?_cons_succ] at e ⊢
  exact cB1 ht e
theorem dF2 {c : Wc} {μ : List Addr} {H : Hp} (k : Key) : j0 c μ H (dB4 k) (kV k) := by
 cases k <;> (unfold dB4 j0; rfl)
theorem cZ5 {c : Wc} {μ : List Addr} {H : Hp} {a : Addr} {o : Obj} {l : List (Key × D)} {kvs : List (Key × V)} (e : H a = some (.frz o (.dK kvs))) (rk : aB5 c μ H l kvs) : ItD c μ H (Itd a o kvs) ⟨aV2 l, fun _ => true⟩ := by
 intro μ' G' H' x h' _ i
 have e' := x.frz _ _ _ e
 refine ⟨fun d hd => ?_, fun hi => ⟨e', by rw [← rk.length]; simpa [aV2] using hi⟩⟩
 simp only [aV2, List.getElem?_map] at hd
 cases hl : l[i]? with
 | none => rw [hl] at hd; cases hd
 | some kd =>
   rw [hl] at hd
   cases hd
   obtain ⟨v, hv⟩ := cB1 rk hl
   exact ⟨⟨e', _, hv⟩, fun y H2 ⟨e1, kv, e2, e3⟩ => by
    subst e1
    rw [hv] at e2
    cases e2
    exact ⟨Ext.refl _ _, h', by rw [e3]; exact dF2 _⟩⟩
theorem di_W {f : Fe} (he : DE X Z e f) : DI X Z tg e (itW f) :=
 DI.of (eJ6 he.h) fun σ H R hE0 => hE0.elim fun dσ μ G s h p => ⟨dσ, μ, G, s, h, (g8.bind p).mono fun d μ1 G1 H1 x1 h1 p1 v rv => by
  cases d with
  | ref r =>
    have rv' := rv
    unfold j0 at rv'
    obtain ⟨a, m, rfl⟩ := rv'
    obtain ⟨o, g, p2⟩ := N6 p1
    have ro := h1.obj r o a g m
    cases o with
    | dct l =>
      obtain ⟨kvs, q, rk⟩ := ro
      refine .inr (.inl ⟨a, kvs, rfl, q, fun o => ?_⟩)
      have x : Ext μ1 H1 μ1 (upd H1 a (.frz o (.dK kvs))) := Ext.mut (List.mem_of_getElem? m) q (fun _ z => nomatch z) (fun _ _ z => nomatch z) _
      have hk' := rk.mono x
      have h2 : J1 (wc X) μ1 (G1.set r (.rod l)) (upd H1 a (.frz o (.dK kvs))) := h1.setR g (fun z => z) m x ⟨kvs, o, S9, hk'⟩
      have p3 := g8.from p2 x
      exact g8.ok p3 h2 _ (cZ5 S9 hk')
    | rod l =>
      obtain ⟨kvs, o, q, rk⟩ := ro
      exact .inr (.inr ⟨a, o, kvs, rfl, q, g8.ok p2 h1 _ (cZ5 q rk)⟩)
    | lst l => exact .inl (bR9 h1 rv p2)
    | rol l => exact .inl (bR9 h1 rv p2)
  | _ => exact .inl (bR9 h1 rv p1)⟩
end
end DL
namespace W
open PySem PySem.Spec L2 DL
open PyProof.Rows hiding St
section
variable {G : DH} {σ : DSt} {R : Src → DH → Prop}
theorem wp_itW {f : Fe} : Wp (itW f σ) G R ↔ Wp (f σ) G fun x G1 => Wp (bK2 x) G1 R := by
 unfold itW; simp only [m5]
theorem srcW_tup {l : List D} : Wp (bK2 (.tup l)) G R ↔ R ⟨l, fun _ => true⟩ G := j6
theorem aG6 {p : Nat} {l : List D} (e : G[p]? = some (.lst l)) : Wp (bK2 (.ref p)) G R ↔ R ⟨l, ckO p (.lst l)⟩ G := by
 unfold bK2
 simp only [m5, T5, e, T4]
 exact cZ0 e
theorem cT3 {p : Nat} {l : List (Key × D)} (e : G[p]? = some (.dct l)) : Wp (bK2 (.ref p)) G R ↔ R ⟨aV2 l, fun _ => true⟩ (G.set p (.rod l)) := by
 unfold bK2
 simp only [m5, T5, e, T4, bS9, j6]
theorem cX6 {p : Nat} {l : List (Key × D)} (e : G[p]? = some (.rod l)) : Wp (bK2 (.ref p)) G R ↔ R ⟨aV2 l, fun _ => true⟩ G := by
 unfold bK2
 simp only [m5, T5, e, T4, j6]
end
end W
namespace DL
open PySem PySem.Spec L2
open PyProof.Rows hiding St
section
variable {prog : Program} {w : World} {A : Around} {E : VSP} {s : Shared} {Q : VSP}
theorem cE0 {a : Addr} {T : String} {o : Obj} {vs : List Value} {n : Nat} (hT : T = "list" ∨ T = "tuple") (ho : s.heap.get? a = some o) (hc : o.cls = .type T) (hd : o.data = .seq vs.toArray n) (h64 : vs.length < 64) {ss : List Str} (hS : StrsAre vs ss)
 (h : ∀ (h1 h' : Heap) (tk e : Nat) (out : List Value) (ss' : List Str), (∀ b o, s.heap.get? b = some o → h1.get? b = some o) → (∀ b o, h1.get? b = some o → h'.get? b = some o) → h'.get? h1.objs.size = some (seqObj "list" out.toArray e) → StrsAre out ss' → ss'.Perm ss → sortedS ss' = true → Q (.ref h1.objs.size) { s with heap := h', toks := tk }) :
 wpAny (model prog w) A (call (.builtin "sorted") [.ref a]) Q E s := by
 have hz : vs.length ≤ sizeLine := Nat.le_trans (Nat.le_of_lt h64) (by decide)
 refine Calls.call_function_entry kind_sorted plain_sorted entry_sorted (args_sorted1 _) ?_
 unfold Builtin.«sorted»
 refine wpAny_bind (m := checkCount "sorted" 1 1 _) (wpAny_pure ?_)
 refine wpAny_bind (wpAny_collect_seq (A := A.in1) a hT ho hc hd (fun h1 hk => ?_) (by rw [List.size_toArray]; exact hz))
 refine wpAny_bind (wpAny_newList ?_ hz)
 have hoL : (h1.push (seqObj "list" vs.toArray 0)).get? h1.objs.size = some (seqObj "list" vs.toArray 0) := Heap.get?_push_size _ rfl
 refine wpAny_bind (wpAny_holding (wpAny_call_entry slot_list_sort ⟨_, hoL, rfl⟩ entry_list_sort (list_sort_treeK strKind_oneLt hoL hS.keysOf (fun v₁ v₂ W2 e => keyKind_strs (by rw [← e]; exact hS)) h64 fun st' a1 a2 => ⟨_, rfl, ?_⟩) (args_list_sort _)))
 obtain ⟨ss', b1, b2, b3⟩ := sorted_out_str hS a1 a2
 obtain ⟨e, he⟩ := sortedHeap_at (vs := vs) (out := (arrOf st').map (·.2)) hoL
 refine wpAny_pure ⟨_, rfl, h h1 _ s.toks e ((arrOf st').map (·.2)).toList ss' hk (fun b o hb => ?_) (by rw [Array.toArray_toList]; exact he) b1 b2 b3⟩
 have hlt : b < h1.objs.size := Heap.lt_size hb
 rw [sortedHeap_old (Nat.ne_of_lt hlt) (by rw [size_push']; exact Nat.lt_succ_of_lt hlt), Heap.get?_push_ne _ _ _ (Nat.ne_of_lt hlt)]
 exact hb
end
def bX7 (l : List D) : M D := do
 let ss ← aI1 (aH5 l)
 if ss.length < 64 then N5 (.lst ((V6 ss).map .str)) else M.stuck
def aE1 : List D → M D := fun ds => match ds with
 | [.tup l] => bX7 l
 | [.ref r] => do
   match ← R5 r with
   | .lst l => bX7 l
   | .dct l => do
     let ss ← aI1 (t7 l)
     if ss.length < 64 then N5 (.lst ((V6 ss).map .str)) else M.stuck
   | _ => M.stuck
 | _ => M.stuck
section
variable {X : Cx} {Z : XC}
theorem bZ6 {c : Wc} {μ : List Addr} {H : Hp} : ∀ {l : List D} {ss : List Str} {vs : List V} {us : List Value}, aH5 l = some ss → w6 c μ H l vs → J7 vs us → StrsAre us ss
 | [], _, _, _, e, r, v => by cases e; cases r; cases v; exact .nil
 | .str x :: t, ss, _, _, e, r, v => by
   replace e := show (aH5 t).map (_ :: ·) = some _ from e
   cases h : aH5 t with
   | none => rw [h] at e; cases e
   | some q =>
     rw [h] at e
     cases e
     obtain ⟨v0, tl, rfl, r0, rt⟩ := r
     cases v with
     | cons ru rt2 =>
       rw [aQ6 r0] at ru
       obtain ⟨tk, rfl⟩ := ru
       exact .cons _ _ (bZ6 h rt rt2)
 | .non :: _, _, _, _, e, _, _ => by cases e
 | .bl _ :: _, _, _, _, e, _, _ => by cases e
 | .int _ :: _, _, _, _, e, _, _ => by cases e
 | .tup _ :: _, _, _, _, e, _, _ => by cases e
 | .ref _ :: _, _, _, _, e, _, _ => by cases e
 | .fn _ :: _, _, _, _, e, _, _ => by cases e
 | .ty _ :: _, _, _, _, e, _, _ => by cases e
theorem bV0 : ∀ {l : List D} {ss : List Str}, aH5 l = some ss → ss.length = l.length
 | [], _, e => by cases e; rfl
 | .str x :: t, ss, e => by
   replace e := show (aH5 t).map (_ :: ·) = some _ from e
   cases h : aH5 t with
   | none => rw [h] at e; cases e
   | some q => rw [h] at e; cases e; simp [bV0 h]
 | .non :: _, _, e => by cases e
 | .bl _ :: _, _, e => by cases e
 | .int _ :: _, _, e => by cases e
 | .tup _ :: _, _, e => by cases e
 | .ref _ :: _, _, e => by cases e
 | .fn _ :: _, _, e => by cases e
 | .ty _ :: _, _, e => by cases e
theorem bY2 {μ : List Addr} {G : DH} {pins : PNS} {s : Shared} {σ : St} {H : Hp} {Q : VK} {a : Addr} {T : String} {o : Obj} {vs : List V} {us : List Value} {n : Nat} {l : List D} (I : Inv X pins σ H s) (hr : J1 (wc X) μ G H) (rl : w6 (wc X) μ H l vs) (rv : J7 vs us) (hT : T = "list" ∨ T = "tuple") (ho : s.heap.get? a = some o) (hc : o.cls = .type T) (hd : o.data = .seq us.toArray n)
 (p : g8 (wc X) Z μ H (bX7 l G) fun d μ' _ H' => ∀ v, j0 (wc X) μ' H' d v → Q v H') : wpAny (model X.prog X.w) X.A (call (.builtin "sorted") [.ref a]) (EP X pins σ Q) X.xe s := by
 obtain ⟨ss, es, p2⟩ := aD0 p
 split at p2
 case isFalse => exact p2.elim
 rename_i h64
 have hS := bZ6 es rl rv
 have hlen0 : us.length = ss.length := by rw [bV0 es, rl.length, rv.length]
 refine cE0 hT ho hc hd (by omega) hS fun h1 h' tk e out ss' k1 k2 he hS' hp hs => ?_
 have e2 := bW4 hp hs
 subst e2
 obtain ⟨ws, ew, rv', rl2⟩ := bH8 (c := wc X) (μ := μ) (H := H) hS'
 have I1 : Inv X pins σ H { s with heap := h1, toks := tk } := I.kept k1
 have hf := I1.hok.fresh (Nat.le_refl _)
 have hlen : ws.length ≤ sizeLine := by
  rw [ew, List.length_map]
  have e3 : (V6 ss).length = ss.length := (List.mergeSort_perm ss leS).length_eq
  have : (64 : Nat) ≤ sizeLine := by decide
  omega
 exact ⟨.ref h1.objs.size, upd H h1.objs.size (.lst ws), I1.laid (t' := tk) k2 (Nat.le_refl _) ⟨hlen, out, e, rv', he⟩, rfl, aC3 hr rl2 p2 _ hf⟩
theorem cG2 (hc : X.calm = true) : aA7 X Z (.builtin "sorted") aE1 := ⟨by
 intro pins s σ H xs us Q I r ⟨ds, μ, G, rl, hr, p⟩
 delta aE1 at p
 rcases ds with _ | ⟨_ | _ | _ | _ | l | i | _ | _, _ | ⟨_, _⟩⟩ <;> dsimp only at p <;> try exact p.elim
 · obtain ⟨v, rfl, rv⟩ := aS0 rl
   obtain ⟨u, rfl, ru⟩ := aE3 r
   unfold j0 at rv
   obtain ⟨a, vs, rfl, q, rl'⟩ := rv
   cases ru
   obtain ⟨its, rv, ⟨o, h1, h2, n, h3⟩, hz⟩ := I.tuple q
   exact bY2 I hr rl' rv (.inr rfl) h1 h2 h3 p
 · obtain ⟨v, rfl, rv⟩ := aS0 rl
   obtain ⟨u, rfl, ru⟩ := aE3 r
   have rv' := rv
   unfold j0 at rv'
   obtain ⟨a, m, rfl⟩ := rv'
   cases ru
   obtain ⟨o, g, p1⟩ := N6 p
   have ro := hr.obj i o a g m
   cases o with
   | lst l =>
     obtain ⟨vs, q, rl'⟩ := ro
     obtain ⟨its, rv, pl, hz⟩ := I.list (SqL.of q)
     obtain ⟨o, h1, h2, n, h3⟩ := pl.isList
     exact bY2 I hr rl' rv (.inl rfl) h1 h2 h3 p1
   | dct l =>
     refine (cR6 (Z := Z) hc).h pins s σ H [.ref a] [.ref a] Q I r ⟨[.ref i], μ, G, rl, hr, ?_⟩
     have eo : R5 i G = some (.ok (.dct l), G) := by unfold R5; simp only [g]
     have e : bO8 [.ref i] G = ((do
      let ss ← aI1 (t7 l)
      if ss.length < 64 then N5 (.lst ((V6 ss).map .str)) else M.stuck : M D)) G := by
      show ((R5 i >>= fun o => match o with
       | .dct l => (do
         let ss ← aI1 (t7 l)
         if ss.length < 64 then N5 (.lst ((V6 ss).map .str)) else M.stuck : M D)
       | _ => M.stuck) : M D) G = _
      rw [M.bind_ok eo]
     rw [e]
     exact p1
   | rol l => exact p1.elim
   | rod l => exact p1.elim⟩
theorem bd_sortedG (h : X.calm = true) : BD aE1 "sorted" X Z := ⟨.inl ⟨_, cG2 h, cQ8⟩⟩
end
end DL
namespace W
open PySem PySem.Spec L2 DL
open PyProof.Rows hiding St
section
variable {G : DH} {Q : DPP}
theorem dC7 {l : List D} {ss : List Str} (hs : aH5 l = some ss) (h64 : ss.length < 64) : Wp (bX7 l) G Q ↔ Q (.ref G.length) (G ++ [.lst ((V6 ss).map .str)]) := by
 unfold bX7
 simp only [m5, aK2, hs, T4, if_pos h64, V1]
theorem cS4 {r : Nat} {l : List D} {ss : List Str} (e : G[r]? = some (.lst l)) (hs : aH5 l = some ss) (h64 : ss.length < 64) : Wp (aE1 [.ref r]) G Q ↔ Q (.ref G.length) (G ++ [.lst ((V6 ss).map .str)]) := by
 unfold aE1
 simp only [m5, T5, e, T4]
 exact dC7 hs h64
theorem bO6 {r : Nat} {l : List (Key × D)} {ss : List Str} (e : G[r]? = some (.dct l)) (hs : t7 l = some ss) (h64 : ss.length < 64) : Wp (aE1 [.ref r]) G Q ↔ Q (.ref G.length) (G ++ [.lst ((V6 ss).map .str)]) := by
 unfold aE1
 simp only [m5, T5, e, T4, aK2, hs, if_pos h64, V1]
end
end W
namespace DL
open PySem
theorem bL1 : typeLookup (.type "tuple") "keys" = pure none := by rw [typeLookup_type, builtinLookup_eq_fast]; kernel_rfl
theorem bS0 : typeLookup (.type "list") "keys" = pure none := by rw [typeLookup_type, builtinLookup_eq_fast]; kernel_rfl
section
variable {prog : Program} {w : World} {A : Around} {E : VSP}
theorem bI2 {h : Heap} {g : Array GenState} {d : Drawn} {t : Nat} {os : OsState} {a : Addr} {o : Obj} {xs : Array Value} {k : Nat} {Q : Option Value → Shared → Prop}
 (hx : h.get? a = some o) (hc : o.cls = .type "list") (hdat : o.data = .seq xs k) (hd : o.dict = none) (hA : A.handled = none)
 (hq : ∀ h' tk, (∀ b ob, h.get? b = some ob → h'.get? b = some ob) → Q none ⟨h', g, d, tk, os⟩) :
 wpAny (model prog w) A (getAttr? (.ref a) "keys") Q E ⟨h, g, d, t, os⟩ := by
 obtain ⟨c, dct, dat, sl⟩ := o
 simp only at hc hdat hd
 subst hc hdat hd
 have hT : ∀ tk', (⟨h, g, d, tk', os⟩ : Shared).TypeIs (.ref a) "list" := fun _ => ⟨_, hx, rfl⟩
 have f1 := sub_AttributeError
 have f3 := F.slot_list_getattribute.lookup
 have f4 := F.slot_list_getattribute.bind (.ref a)
 have f5 := am_list_getattr_none
 unfold getAttr? getAttrBy? getAttrBy
 repeat (any_goals (first | assumption | exact hT _ | ((with_reducible show wpAny _ _ (call (Value.builtin "list.__getattribute__") _ _) _ _ _); refine call_meets F.slot_list_getattribute (hT _) am_entry_list_getattribute (F.args_list_getattribute_2 _ _) (meets_getattribute_miss_list a xs k sl "keys" _ bS0 (by decide +kernel) (by decide +kernel)) ⟨hx, hA, fun h' tk' e hx' => ?_⟩) | wp_step))
 obtain ⟨t', u', he⟩ := hx'.there
 have hTe : ∀ tk'', (⟨h', g, d, tk'', os⟩ : Shared).TypeIs (.ref e) "AttributeError" := fun _ => ⟨_, he, rfl⟩
 show wpAny _ _ (getattributeRaised _ _ _ _ _ _ _) _ _ _
 unfold getattributeRaised
 repeat (any_goals (first | assumption | exact hTe _ | wp_step))
 exact hq _ _ hx'.keeps
theorem bE0 {h : Heap} {g : Array GenState} {d : Drawn} {t : Nat} {os : OsState} {a : Addr} {o : Obj} {xs : Array Value} {k : Nat} {Q : Option Value → Shared → Prop}
 (hx : h.get? a = some o) (hc : o.cls = .type "tuple") (hdat : o.data = .seq xs k) (hd : o.dict = none) (hA : A.handled = none)
 (hq : ∀ h' tk, (∀ b ob, h.get? b = some ob → h'.get? b = some ob) → Q none ⟨h', g, d, tk, os⟩) :
 wpAny (model prog w) A (getAttr? (.ref a) "keys") Q E ⟨h, g, d, t, os⟩ := by
 obtain ⟨c, dct, dat, sl⟩ := o
 simp only at hc hdat hd
 subst hc hdat hd
 have hT : ∀ tk', (⟨h, g, d, tk', os⟩ : Shared).TypeIs (.ref a) "tuple" := fun _ => ⟨_, hx, rfl⟩
 have f1 := sub_AttributeError
 have f3 := F.slot_tuple_getattribute.lookup
 have f4 := F.slot_tuple_getattribute.bind (.ref a)
 have f5 := am_tuple_getattr_none
 unfold getAttr? getAttrBy? getAttrBy
 repeat (any_goals (first | assumption | exact hT _ | ((with_reducible show wpAny _ _ (call (Value.builtin "tuple.__getattribute__") _ _) _ _ _); refine call_meets F.slot_tuple_getattribute (hT _) am_entry_tuple_getattribute (F.args_tuple_getattribute_2 _ _) (meets_getattribute_miss_tuple a xs k sl "keys" _ bL1 (by decide +kernel) (by decide +kernel)) ⟨hx, hA, fun h' tk' e hx' => ?_⟩) | wp_step))
 obtain ⟨t', u', he⟩ := hx'.there
 have hTe : ∀ tk'', (⟨h', g, d, tk'', os⟩ : Shared).TypeIs (.ref e) "AttributeError" := fun _ => ⟨_, he, rfl⟩
 show wpAny _ _ (getattributeRaised _ _ _ _ _ _ _) _ _ _
 unfold getattributeRaised
 repeat (any_goals (first | assumption | exact hTe _ | wp_step))
 exact hq _ _ hx'.keeps
end
end DL
namespace DL
open PySem
open PyProof.Rows (IsTup)
theorem aP4 : entryFor table "dict.update.loop" = some Builtin.«dict.update.loop» := entryFor_of_tree (by kernel_rfl)
theorem Z7 : plainId "dict.update.loop" = true := by decide +kernel
section
variable {prog : Program} {w : World} {A : Around} {R : Result → Shared → Prop} {I : Addr} {fp wr : List Addr} {n : Nat} {P : Nat → Value → Prop} {St : Nat → Heap → Prop} {K : Type} [DecidableEq K] {knd : KeyKind prog w K}
theorem cC8 {s : Shared} {ta : Addr} {x y : Value} {Q : List Value → Shared → Prop} {E : VSP} (h : IsTup s.heap ta #[x, y]) (q : Q [x, y] s) : wpAny (model prog w) A (Builtin.Dict.pairItems (.ref ta)) Q E s := by
 obtain ⟨o, ho, hc, m, hd⟩ := h
 have hT : s.TypeIs (.ref ta) "tuple" := ⟨_, ho, hc⟩
 unfold Builtin.Dict.pairItems
 refine wpAny_bind (wpAny_typeOf hT ?_)
 rw [if_pos (by decide)]
 exact wpAny_bind (wpAny_seqItems ho hd (wpAny_pure q))
theorem aL5 (W : Walks prog w A.in1 I fp wr n P St) (S : Addr) (hSf : S ∉ fp) (h0 : Heap) (ps : List (K × Value)) (hn : ps.length = n)
 (hval : ∀ i v, P i v → ∃ ta key kv, v = .ref ta ∧ ps[i]? = some kv ∧ IsTup h0 ta #[key, kv.2] ∧ knd.is kv.1 key = true ∧ ta ≠ S ∧ ta ∉ wr) (hsz : n ≤ sizeLine) :
 ∀ (k i : Nat) (s : Shared) (m : Int) (tk : Tok), n - i = k → i ≤ n → St i s.heap → s.heap.DictOf knd S (merged [] (ps.take i)) → (∀ b o, b ≠ S → b ∉ wr → h0.get? b = some o → s.heap.get? b = some o) →
  (∀ h' tk', h'.DictOf knd S (merged [] ps) → (∀ b o, b ≠ S → b ∉ wr → h0.get? b = some o → h'.get? b = some o) → R (.ok (.ret .none)) { s with heap := h', toks := tk' }) →
  codeAny (model prog w) A (.builtin "dict.update.loop" ⟨[.ref S, .ref I, .int m tk, .none], []⟩) R s := by
 have hSw : S ∉ wr := fun h => hSf (W.sub _ h)
 intro k
 induction k with
 | zero =>
   intro i s m tk hk hi hst hS hh hR
   have hin : i = n := by omega
   subst hin
   refine codeAny_builtin aP4 ?_
   rw [Around.under_plainId Z7 _]
   show wpAny _ A.in1 (pyNext (.ref I) >>= _) _ _ s
   refine wpAny_bind (W.done s _ _ hst fun h' tk' hm => ?_)
   show wpAny _ A.in1 (Builtin.Dict.addKeywords S [] >>= _) _ _ _
   refine wpAny_bind (wpAny_pure ?_)
   refine wpAny_pure (hR h' tk' ?_ fun b o hb hb' e => hm b o hb' (hh b o hb hb' e))
   rw [List.take_of_length_le (by omega)] at hS
   obtain ⟨o, es, ep, ho, W2⟩ := hS
   exact ⟨o, es, ep, hm S _ hSw ho, W2⟩
 | succ k ih =>
   intro i s m tk hk hi hst hS hh hR
   have hlt : i < n := by omega
   refine codeAny_builtin aP4 ?_
   rw [Around.under_plainId Z7 _]
   show wpAny _ A.in1 (pyNext (.ref I) >>= _) _ _ s
   refine wpAny_bind (W.item i s _ _ hlt hst fun v h' tk' hP hst' hm => ?_)
   obtain ⟨ta, key, kv, rfl, hkv, ⟨ot, hot, hct, mt, hdt⟩, hkey, hne, hnw⟩ := hval i v hP
   have hS' : h'.DictOf knd S (merged [] (ps.take i)) := by
    obtain ⟨o, es, ep, ho, W2⟩ := hS
    exact ⟨o, es, ep, hm S _ hSw ho, W2⟩
   have ht' : IsTup h' ta #[key, kv.2] := ⟨ot, hm ta _ hnw (hh ta _ hne hnw hot), hct, mt, hdt⟩
   refine wpAny_bind (wpAny_holding ?_)
   refine wpAny_bind (wpAny_tryCatch (cC8 ht' ?_))
   refine wpAny_holding ?_
   have hlen : (merged [] (ps.take i)).length ≤ sizeLine := by
    have := merged_length_le (K := K) [] (ps.take i)
    rw [List.length_take, List.length_nil] at this
    omega
   refine wpAny_dictSet_pairs (hsz := hlen) hkey hS' fun h'' hd'' hsb => ?_
   refine wpAny_pure ⟨plainId_quiet Z7 _, ih (i + 1) _ _ _ (by omega) hlt (W.frame _ _ _ hst' fun b hb o e => ?_) ?_ (fun b o hb hb' e => ?_) fun h3 tk3 hd3 hk3 => hR h3 tk3 hd3 hk3⟩
   · rw [hsb.2 b (fun h : b = S => hSf (by rw [← h]; exact hb))]; exact e
   · rw [merged_take_succ [] ps i kv hkv]; exact hd''
   · rw [hsb.2 b hb]; exact hm b o hb' (hh b o hb hb' e)
end
section
variable {prog : Program} {w : World} {A : Around} {E : VSP} {s : Shared} {K : Type} [DecidableEq K] {knd : KeyKind prog w K}
theorem bF4 {src : Addr} {o : Obj} {items : Array Value} {m : Nat} {ps : List (K × Value)} {Q : VSP} (hx : s.heap.get? src = some o) (hc : o.cls = .type "list") (hd : o.data = .seq items m) (hdict : o.dict = none) (hA : A.handled = none)
 (hn : ps.length = items.size) (hsz : items.size ≤ sizeLine) (hval : ∀ (i : Nat) (v : Value), items[i]? = some v → ∃ (ta : Addr) (key : Value) (kv : K × Value), v = .ref ta ∧ ps[i]? = some kv ∧ IsTup s.heap ta #[key, kv.2] ∧ knd.is kv.1 key = true)
 (h : ∀ h' tk, h'.DictOf knd s.heap.objs.size (merged [] ps) → (∀ b o, s.heap.get? b = some o → h'.get? b = some o) → Q (.ref s.heap.objs.size) { s with heap := h', toks := tk }) :
 wpAny (model prog w) A (call (.type "dict") [.ref src]) Q E s := by
 refine callType_codes (Q₁ := fun obj s₁ => obj = .ref s.heap.objs.size ∧ s₁ = { s with heap := s.heap.push { cls := .type "dict", data := .dict #[] } }) F.kt_called_dict (F.kt_typeCall_dict_1 _) F.entry_dict_init (kt_code_dict_new _ ⟨rfl, rfl⟩) ?_
 rintro obj s₁ ⟨rfl, rfl⟩
 have hnew : (s.heap.push { cls := .type "dict", data := .dict #[] }).DictOf knd s.heap.objs.size [] := Heap.DictOf.new s.heap
 have hlt : src < s.heap.objs.size := Heap.lt_size hx
 have hx1 : (s.heap.push { cls := .type "dict", data := .dict #[] }).get? src = some o := Heap.get?_push_of_some _ hx
 have hT1 : Shared.TypeIs { s with heap := s.heap.push { cls := .type "dict", data := .dict #[] } } (.ref src) "list" := ⟨_, hx1, hc⟩
 refine ⟨hnew.typeIs, F.args_dict_init_2 _ _, ?_⟩
 unfold Builtin.«dict.__init__»
 refine wpAny_bind ?_
 unfold Builtin.Dict.selfAndRest
 refine wpAny_bind (wpAny_notOrdered_dict hnew.typeIs ?_)
 show wpAny _ _ (pure (s.heap.objs.size, [Value.ref src])) _ _ _
 refine wpAny_pure ?_
 show wpAny _ _ (Builtin.Dict.updateFrom "dict.__init__" s.heap.objs.size (.ref src) [] .none) _ _ _
 unfold Builtin.Dict.updateFrom
 refine wpAny_bind (wpAny_typeOf hT1 ?_)
 rw [if_pos (by decide)]
 have hA2 : A.in1.in1.handled = none := by simp [hA]
 refine wpAny_bind (bI2 hx1 hc hd hdict hA2 fun h2 tk2 k2 => ?_)
 simp only [Option.isNone_none, if_true]
 refine wpAny_bind (wpAny_rule ?_)
 have hx2 : h2.get? src = some o := k2 _ _ hx1
 have hl2 : h2.IsList src items := ⟨o, hx2, hc, m, hd⟩
 have hS2 : h2.DictOf knd s.heap.objs.size [] := by
  obtain ⟨o, es, ep, ho, W2⟩ := hnew
  exact ⟨o, es, ep, k2 _ _ ho, W2⟩
 have hlt2 : s.heap.objs.size < h2.objs.size := by
  obtain ⟨o, es, ep, ho, W2⟩ := hS2
  exact Heap.lt_size ho
 refine wpAny_bind (wpAny_pyIter_list hl2 ?_)
 have hA1 : A.in1.in1.handled = none := hA2
 refine wpAny_pure ⟨plainId_quiet Z7 _, ?_⟩
 have hkeep : ∀ b ob, s.heap.get? b = some ob → h2.get? b = some ob := fun b ob e => k2 _ _ (Heap.get?_push_of_some _ e)
 refine aL5 (knd := knd) (Walks.list (A := A.in1.in1) hA1 h2.objs.size src (Nat.ne_of_lt (Nat.lt_trans hlt hlt2)) items) s.heap.objs.size ?_ s.heap ps hn ?_ hsz items.size 0 _ _ _ (by omega) (Nat.zero_le _) ?_ ?_ ?_ ?_
 · simp only [List.mem_cons, List.not_mem_nil, or_false, not_or]
   exact ⟨Nat.ne_of_lt hlt2, Nat.ne_of_gt hlt⟩
 · intro i v hv
   obtain ⟨ta, key, kv, e1, e2, e3, e4⟩ := hval i v hv
   have hta : ta < s.heap.objs.size := by obtain ⟨_, e, _⟩ := e3; exact Heap.lt_size e
   exact ⟨ta, key, kv, e1, e2, e3, e4, Nat.ne_of_lt hta, by simp only [List.mem_cons, List.not_mem_nil, or_false]; exact Nat.ne_of_lt (Nat.lt_trans hta hlt2)⟩
 · exact ⟨⟨_, Heap.get?_push_size _ rfl, rfl, rfl⟩, hl2.push _⟩
 · show Heap.DictOf knd (h2.push _) _ _
   exact hS2.push _
 · intro b ob hb hb' e
   exact Heap.get?_push_of_some _ (hkeep b ob e)
 · intro h' tk' hd' hk'
   refine ⟨rfl, h h' tk' hd' fun b ob e => hk' b ob ?_ ?_ e⟩
   · exact Nat.ne_of_lt (Heap.lt_size e)
   · simp only [List.mem_cons, List.not_mem_nil, or_false]
     exact Nat.ne_of_lt (Nat.lt_trans (Heap.lt_size e) hlt2)
theorem bD8 {src : Addr} {o : Obj} {items : Array Value} {m : Nat} {ps : List (K × Value)} {Q : VSP} (hx : s.heap.get? src = some o) (hc : o.cls = .type "tuple") (hd : o.data = .seq items m) (hdict : o.dict = none) (hA : A.handled = none)
 (hn : ps.length = items.size) (hsz : items.size ≤ sizeLine) (hval : ∀ (i : Nat) (v : Value), items[i]? = some v → ∃ (ta : Addr) (key : Value) (kv : K × Value), v = .ref ta ∧ ps[i]? = some kv ∧ IsTup s.heap ta #[key, kv.2] ∧ knd.is kv.1 key = true)
 (h : ∀ h' tk, h'.DictOf knd s.heap.objs.size (merged [] ps) → (∀ b o, s.heap.get? b = some o → h'.get? b = some o) → Q (.ref s.heap.objs.size) { s with heap := h', toks := tk }) :
 wpAny (model prog w) A (call (.type "dict") [.ref src]) Q E s := by
 refine callType_codes (Q₁ := fun obj s₁ => obj = .ref s.heap.objs.size ∧ s₁ = { s with heap := s.heap.push { cls := .type "dict", data := .dict #[] } }) F.kt_called_dict (F.kt_typeCall_dict_1 _) F.entry_dict_init (kt_code_dict_new _ ⟨rfl, rfl⟩) ?_
 rintro obj s₁ ⟨rfl, rfl⟩
 have hnew : (s.heap.push { cls := .type "dict", data := .dict #[] }).DictOf knd s.heap.objs.size [] := Heap.DictOf.new s.heap
 have hlt : src < s.heap.objs.size := Heap.lt_size hx
 have hx1 : (s.heap.push { cls := .type "dict", data := .dict #[] }).get? src = some o := Heap.get?_push_of_some _ hx
 have hT1 : Shared.TypeIs { s with heap := s.heap.push { cls := .type "dict", data := .dict #[] } } (.ref src) "tuple" := ⟨_, hx1, hc⟩
 refine ⟨hnew.typeIs, F.args_dict_init_2 _ _, ?_⟩
 unfold Builtin.«dict.__init__»
 refine wpAny_bind ?_
 unfold Builtin.Dict.selfAndRest
 refine wpAny_bind (wpAny_notOrdered_dict hnew.typeIs ?_)
 show wpAny _ _ (pure (s.heap.objs.size, [Value.ref src])) _ _ _
 refine wpAny_pure ?_
 show wpAny _ _ (Builtin.Dict.updateFrom "dict.__init__" s.heap.objs.size (.ref src) [] .none) _ _ _
 unfold Builtin.Dict.updateFrom
 refine wpAny_bind (wpAny_typeOf hT1 ?_)
 rw [if_pos (by decide)]
 have hA2 : A.in1.in1.handled = none := by simp [hA]
 refine wpAny_bind (bE0 hx1 hc hd hdict hA2 fun h2 tk2 k2 => ?_)
 simp only [Option.isNone_none, if_true]
 refine wpAny_bind (wpAny_rule ?_)
 have hx2 : h2.get? src = some o := k2 _ _ hx1
 have hl2 : h2.IsTuple src items := ⟨o, hx2, hc, m, hd⟩
 have hS2 : h2.DictOf knd s.heap.objs.size [] := by
  obtain ⟨o, es, ep, ho, W2⟩ := hnew
  exact ⟨o, es, ep, k2 _ _ ho, W2⟩
 have hlt2 : s.heap.objs.size < h2.objs.size := by
  obtain ⟨o, es, ep, ho, W2⟩ := hS2
  exact Heap.lt_size ho
 refine wpAny_bind (wpAny_pyIter_tuple hl2 ?_)
 have hA1 : A.in1.in1.handled = none := hA2
 refine wpAny_pure ⟨plainId_quiet Z7 _, ?_⟩
 have hkeep : ∀ b ob, s.heap.get? b = some ob → h2.get? b = some ob := fun b ob e => k2 _ _ (Heap.get?_push_of_some _ e)
 refine aL5 (knd := knd) (Walks.tuple (A := A.in1.in1) hA1 h2.objs.size src (Nat.ne_of_lt (Nat.lt_trans hlt hlt2)) items) s.heap.objs.size ?_ s.heap ps hn ?_ hsz items.size 0 _ _ _ (by omega) (Nat.zero_le _) ?_ ?_ ?_ ?_
 · simp only [List.mem_cons, List.not_mem_nil, or_false, not_or]
   exact ⟨Nat.ne_of_lt hlt2, Nat.ne_of_gt hlt⟩
 · intro i v hv
   obtain ⟨ta, key, kv, e1, e2, e3, e4⟩ := hval i v hv
   have hta : ta < s.heap.objs.size := by obtain ⟨_, e, _⟩ := e3; exact Heap.lt_size e
   exact ⟨ta, key, kv, e1, e2, e3, e4, Nat.ne_of_lt hta, by simp only [List.mem_cons, List.not_mem_nil, or_false]; exact Nat.ne_of_lt (Nat.lt_trans hta hlt2)⟩
 · exact ⟨⟨_, Heap.get?_push_size _ rfl, rfl, rfl⟩, hl2.push _⟩
 · show Heap.DictOf knd (h2.push _) _ _
   exact hS2.push _
 · intro b ob hb hb' e
   exact Heap.get?_push_of_some _ (hkeep b ob e)
 · intro h' tk' hd' hk'
   refine ⟨rfl, h h' tk' hd' fun b ob e => hk' b ob ?_ ?_ e⟩
   · exact Nat.ne_of_lt (Heap.lt_size e)
   · simp only [List.mem_cons, List.not_mem_nil, or_false]
     exact Nat.ne_of_lt (Nat.lt_trans (Heap.lt_size e) hlt2)
end
end DL
namespace DL
open PySem PySem.Spec L2
open PyProof.Rows hiding St
def bG4 : D → Option (Key × D)
 | .tup [k, v] => match bK1 k with
   | some q => some (q, v)
   | none => none
 | _ => none
def aD6 : List D → Option (List (Key × D))
 | [] => some []
 | d :: r => match bG4 d, aD6 r with
   | some p, some ps => some (p :: ps)
   | _, _ => none
def putAll (acc : List (Key × D)) (l : List (Key × D)) : List (Key × D) := l.foldl (fun acc kv => aL4 acc kv.1 kv.2) acc
def aP3 : List D → M D := fun ds => match ds with
 | [.tup l] => do
   let ps ← aI1 (aD6 l)
   N5 (.dct (putAll [] ps))
 | [.ref r] => do
   let l ← R5 r >>= listOf
   let ps ← aI1 (aD6 l)
   N5 (.dct (putAll [] ps))
 | _ => M.stuck
section
variable {X : Cx} {Z : XC} {c : Wc} {μ : List Addr} {H : Hp} {G : DH}
theorem cZ1 {d : D} {p : Key × D} (h : bG4 d = some p) : ∃ k, d = .tup [k, p.2] ∧ bK1 k = some p.1 := by
 rcases d with _ | _ | _ | _ | l | _ | _ | _ <;> try (cases h; done)
 rcases l with _ | ⟨k, _ | ⟨v, _ | ⟨_, _⟩⟩⟩ <;> try (cases h; done)
 delta bG4 at h
 dsimp only at h
 cases e : bK1 k with
 | none => rw [e] at h; cases h
 | some q => rw [e] at h; cases h; exact ⟨k, rfl, e⟩
theorem bB1 {pins : PNS} {s : Shared} {σ : St} (I : Inv X pins σ H s) : ∀ {l : List D} {ps : List (Key × D)} {vs : List V} {its : List Value}, aD6 l = some ps → w6 (wc X) μ H l vs → J7 vs its →
 ∃ (kvs : List (Key × V)) (ws : List (Key × Value)), aB5 (wc X) μ H ps kvs ∧ KV kvs ws ∧ ws.length = its.length ∧ ∀ (i : Nat) (v : Value), its[i]? = some v → ∃ (ta : Addr) (key : Value) (kv : Key × Value), v = .ref ta ∧ ws[i]? = some kv ∧ IsTup s.heap ta #[key, kv.2] ∧ (N8 X.prog X.w).is kv.1 key = true
 | [], ps, vs, its, e, rl, rv => by
   cases e; cases rl; cases rv
   exact ⟨[], [], rfl, .nil, rfl, fun i v h => by simp at h⟩
 | d :: r, ps, vs, its, e, rl, rv => by
   replace e : (match bG4 d, aD6 r with | some p, some ps => some (p :: ps) | _, _ => none) = some ps := e
   cases e1 : bG4 d with
   | none => rw [e1] at e; cases e
   | some p =>
     cases e2 : aD6 r with
     | none => rw [e1, e2] at e; cases e
     | some qs =>
       rw [e1, e2] at e
       cases e
       obtain ⟨v, t, rfl, r0, rt⟩ := rl
       cases rv with
       | cons q0 qt =>
         obtain ⟨kvs, ws, h1, h2, h3, h4⟩ := bB1 I e2 rt qt
         obtain ⟨k, rfl, hk⟩ := cZ1 e1
         unfold j0 at r0
         obtain ⟨a, us, rfl, hq, ru⟩ := r0
         obtain ⟨x, y, rfl, rx, ry⟩ := rep2 ru
         obtain ⟨its2, rr, ht, _⟩ := I.tuple hq
         obtain ⟨p1, p2⟩ := p
         cases rr with
         | cons rr0 rr1 =>
           cases rr1 with
           | cons rr2 rr3 =>
             cases rr3
             rename_i w0 w1
             have ex := bP7 hk rx
             subst ex
             cases (show _ = Value.ref a from q0)
             refine ⟨(p1, y) :: kvs, (p1, w1) :: ws, ⟨y, kvs, rfl, ry, h1⟩, .cons ⟨rfl, rr2⟩ h2, by simp [h3], fun i v hv => ?_⟩
             cases i with
             | zero =>
               simp only [List.getElem?_cons_zero, Option.some.injEq] at hv
               subst hv
               exact ⟨a, w0, (p1, w1), rfl, rfl, ht, bI1 rr0⟩
             | succ i => exact h4 i v (by simpa using hv)
theorem cA9 : ∀ {ps : List (Key × D)} {kvs : List (Key × V)} {acc : List (Key × D)} {acc' : List (Key × V)}, aB5 c μ H ps kvs → aB5 c μ H acc acc' → aB5 c μ H (putAll acc ps) (kvs.foldl (fun acc kv => aO3 acc kv.1 kv.2) acc')
 | [], _, _, _, r, q => by cases r; exact q
 | (k, d) :: t, _, _, _, r, q => by
  obtain ⟨v, kt, rfl, rv, rt⟩ := r
  have z := cA9 rt (bW8 (k := k) rv q)
  exact z
theorem dA3 : ∀ {kvs : List (Key × V)} {ws : List (Key × Value)} {acc : List (Key × V)} {acc' : List (Key × Value)}, KV kvs ws → KV acc acc' → KV (kvs.foldl (fun acc kv => aO3 acc kv.1 kv.2) acc) (merged acc' ws)
 | _, _, _, _, .nil, q => q
 | _, _, _, _, .cons (a := p) (b := r) ⟨e, rv⟩ t, q => by
   obtain ⟨k, v⟩ := p
   obtain ⟨k', u⟩ := r
   cases (show k = k' from e)
   have z := dA3 t (q.put k rv)
   exact z
theorem bW5 {pins : PNS} {s : Shared} {σ : St} {Q : VK} {ps : List (Key × D)} {kvs : List (Key × V)} {ws : List (Key × Value)} {h' : Heap} {tk : Nat} (I : Inv X pins σ H s) (hr : J1 (wc X) μ G H) (h1 : aB5 (wc X) μ H ps kvs) (h2 : KV kvs ws) (hz : ws.length ≤ sizeLine)
 (p : g8 (wc X) Z μ H (N5 (.dct (putAll [] ps)) G) fun d μ' _ H' => ∀ v, j0 (wc X) μ' H' d v → Q v H')
 (hd : h'.DictOf (N8 X.prog X.w) s.heap.objs.size (merged [] ws)) (hk : ∀ b o, s.heap.get? b = some o → h'.get? b = some o) : EP X pins σ Q (.ref s.heap.objs.size) { s with heap := h', toks := tk } := by
 have k3 := dA3 h2 (.nil : KV [] [])
 have hl : (kvs.foldl (fun acc kv => aO3 acc kv.1 kv.2) []).length ≤ sizeLine := by
  rw [k3.length]
  have := merged_length_le (K := Key) [] ws
  rw [List.length_nil] at this
  omega
 have hq : H s.heap.objs.size = none := I.hok.fresh (Nat.le_refl _)
 refine ⟨.ref s.heap.objs.size, _, I.laid (t' := tk) (o := .dK (kvs.foldl (fun acc kv => aO3 acc kv.1 kv.2) [])) hk (Nat.le_refl _) (dB5 hl (beq_eq_false_iff_ne.mpr (Ne.symm (Nat.ne_of_lt I.big))) k3 hd), rfl, ?_⟩
 have k : Ext μ H (μ ++ [s.heap.objs.size]) (upd H s.heap.objs.size (.dK (kvs.foldl (fun acc kv => aO3 acc kv.1 kv.2) []))) := Ext.add hq _
 have e0 : aB5 (wc X) μ H (putAll [] ps) (kvs.foldl (fun acc kv => aO3 acc kv.1 kv.2) []) := cA9 h1 rfl
 refine p (μ ++ [s.heap.objs.size]) _ k (hr.new hq ⟨_, S9, e0.mono k⟩) _ ?_
 unfold j0
 exact ⟨s.heap.objs.size, by rw [← hr.len]; simp, rfl⟩
theorem dJ0 (hc : X.calm = true) : aA7 X Z (.type "dict") aP3 := ⟨by
 intro pins s σ H xs us Q I r ⟨ds, μ, G, rl, hr, p⟩
 have hh : X.A.handled = none := I.ok.hd hc
 delta aP3 at p
 rcases ds with _ | ⟨_ | _ | _ | _ | l | i | _ | _, _ | ⟨_, _⟩⟩ <;> dsimp only at p <;> try exact p.elim
 · obtain ⟨v, rfl, rv⟩ := aS0 rl
   obtain ⟨u, rfl, ru⟩ := aE3 r
   unfold j0 at rv
   obtain ⟨a, vs, rfl, q, rl'⟩ := rv
   cases ru
   obtain ⟨ps, eps, p2⟩ := aD0 p
   obtain ⟨its, rr, ⟨o, g1, g2, n, g3⟩, hz⟩ := I.tupleN q
   obtain ⟨kvs, ws, h1, h2, h3, h4⟩ := bB1 I eps rl' rr
   have hlen := rr.length
   exact bD8 (knd := N8 X.prog X.w) (ps := ws) g1 g2 (Prod.mk.inj g3).1 (Prod.mk.inj g3).2 hh (by simpa using h3) (by simp only [List.size_toArray]; omega) (fun i v hv => h4 i v (by simpa using hv)) fun h' tk hd hk => bW5 I hr h1 h2 (by omega) p2 hd hk
 · obtain ⟨v, rfl, rv⟩ := aS0 rl
   obtain ⟨u, rfl, ru⟩ := aE3 r
   obtain ⟨l, a, vs, rfl, rl', q, p1⟩ := aE9 hr rv p
   cases ru
   obtain ⟨ps, eps, p2⟩ := aD0 p1
   obtain ⟨its, rr, ⟨o, n, g1, g2, g3, g4⟩, hz⟩ := I.list q
   obtain ⟨kvs, ws, h1, h2, h3, h4⟩ := bB1 I eps rl' rr
   have hlen := rr.length
   exact bF4 (knd := N8 X.prog X.w) (ps := ws) g1 g2 g4 g3 hh (by simpa using h3) (by simp only [List.size_toArray]; omega) (fun i v hv => h4 i v (by simpa using hv)) fun h' tk hd hk => bW5 I hr h1 h2 (by omega) p2 hd hk⟩
theorem bd_dict (h : X.calm = true) : BD aP3 "dict" X Z := ⟨.inr ⟨_, dJ0 h, dD9⟩⟩
end
end DL
namespace W
open PySem PySem.Spec L2 DL
open PyProof.Rows hiding St
theorem cT5 {l : List D} {ps : List (Key × D)} {G : DH} {Q : DPP} (h : aD6 l = some ps) : Wp (aP3 [.tup l]) G Q ↔ Q (.ref G.length) (G ++ [.dct (putAll [] ps)]) := by
 unfold aP3
 simp only [m5, h, aK2, V1, Option.some.injEq, exists_eq_left']
end W
namespace DL
open PySem PySem.Spec L2
open PyProof.Rows hiding St
section
variable {X : Cx} {Z : XC} {c : Wc} {μ : List Addr} {H : Hp}
end
end DL
namespace W
open PySem PySem.Spec L2 DL
open PyProof.Rows hiding St
end W
namespace DL
open PySem PySem.Spec L2
open PyProof.Rows hiding St
def ixG : D → D → M D := fun x y => match x, y with
 | .ref r, .str z => do
   match ← R5 r with
   | .dct l => aI1 (M5 l (.inr z))
   | _ => M.stuck
 | _, _ => ixD x y
section
variable {X : Cx} {Z : XC} {a b e : Expr} {fa fb : Fe} {pos : Pos}
theorem cZ8 : IxR X (fun x y H Q => ∃ a kvs k v, x = .ref a ∧ y = kV k ∧ H a = some (.dK kvs) ∧ aS2 kvs k = some v ∧ Q v H) := by
 intro value slice pins s σ H x y v u Q I rx ry h hs
 obtain ⟨a, kvs, k, z, rfl, rfl, e, l, q⟩ := h
 cases rx
 obtain ⟨zz, hd, vs, rel, dd⟩ := cL3 I.hok e
 obtain ⟨w', hw, rw'⟩ := bH6.some_of (v := z) (o := valueAt vs k) (by rw [← l]; exact rel.val k)
 exact subscriptTail_builtinR (x := w') dd.typeIs PySem.F.slot_dict_getitem.lookup (wpAny_getItem_of (Q := fun r s' => r = w' ∧ EP X pins σ Q r s') (bI1 ry) dd.mapOf hw ⟨rfl, z, H, I.tok _, rw', q⟩) hs
theorem dU0 : IxD X Z ixG := IxR.mono (cZ8.or dM4) fun x y H Q hE0 => hE0.elim fun dx dy μ G rx ry hr p => by
 by_cases c : ∃ r z, dx = .ref r ∧ dy = .str z
 · obtain ⟨r, z, rfl, rfl⟩ := c
   refine .inl ?_
   unfold j0 at rx
   obtain ⟨a, m, rfl⟩ := rx
   have p' : g8 (wc X) Z μ H ((R5 r >>= fun o => match o with | .dct l => aI1 (M5 l (.inr z)) | _ => M.stuck : M D) G) fun d μ' _ H' => ∀ v, j0 (wc X) μ' H' d v → Q v H' := p
   obtain ⟨o, g, p1⟩ := N6 p'
   have ro := hr.obj r o a g m
   cases o with
   | dct l =>
     obtain ⟨kvs, q, rk⟩ := ro
     obtain ⟨d, ed, k⟩ := bH5 hr p1
     have z1 := aT8 (k := .inr z) rk
     rw [ed] at z1
     obtain ⟨v, ev, rv⟩ := z1
     exact ⟨a, kvs, .inr z, v, rfl, aQ6 ry, q, ev, k v rv⟩
   | _ => exact p1.elim
 · refine .inr ⟨dx, dy, μ, G, rx, ry, hr, ?_⟩
   have e : ixG dx dy = ixD dx dy := by
    cases dx with
    | ref r =>
      cases dy with
      | str z => exact absurd ⟨r, z, rfl, rfl⟩ c
      | _ => rfl
    | _ => rfl
   rw [← e]
   exact p
theorem de_ixG (ha : DE X Z a fa) (hb : DE X Z b fb) (hs : bE8 b) : DE X Z (.Subscript a b pos) (d7 ixG fa fb) := cY2 dU0 ha hb hs
end
end DL
namespace W
open PySem PySem.Spec L2 DL
open PyProof.Rows hiding St
theorem dH4 {r : Nat} {z : Str} {d : D} {l : List (Key × D)} {G : DH} {Q : DPP} (h : G[r]? = some (.dct l)) (k : M5 l (.inr z) = some d) : Wp (ixG (.ref r) (.str z)) G Q ↔ Q d G := by
 have e : ixG (.ref r) (.str z) = (R5 r >>= fun o => match o with | .dct l => aI1 (M5 l (.inr z)) | _ => M.stuck : M D) := rfl
 rw [e]
 simp only [m5, T5, h, T4, aK2, k, Option.some.injEq, exists_eq_left']
end W
namespace DL
open PySem PySem.W
open PyProof.Rows hiding St
section
variable {α β : Type} {lt : Nat → Nat → Bool} {n : Nat}
end
structure OrdN (lt : Nat → Nat → Bool) (n : Nat) : Prop where
 tr : ∀ i j k, lt i j = true → lt j k = true → lt i k = true
 tot : ∀ i j, i < n → j < n → i ≠ j → lt i j = false → lt j i = true
structure PermN (p : Array Nat) (n : Nat) : Prop where
 pm : p.toList.Perm (List.range n)
section
variable {lt : Nat → Nat → Bool} {n : Nat} {p : Array Nat}
end
end DL
namespace DL
open PySem PySem.Spec L2
open PyProof.Rows hiding St
section
variable {X : Cx} {pins : PNS} {σ : St} {H : Hp} {s : Shared} {A : Around}
end
section
variable {X : Cx} {pins : PNS} {σ : St} {A : Around} {F : List D → M D} {k : Nat} {f : Addr} {fd : FuncData} {ps : List Str}
end
section
variable {X : Cx} {pins : PNS} {σ : St} {H : Hp} {s : Shared}
end
section
variable {prog : Program} {w : World} {A : Around} {E : VSP} {s : Shared} {C : Bool → Shared → Prop}
end
section
variable {X : Cx} {Z : XC} {pins : PNS} {σ : St} {H : Hp} {s : Shared} {F : List D → M D} {k : Nat} {f : Addr} {fd : FuncData} {ps : List Str} {μ : List Addr} {G : DH}
end
section
variable {X : Cx} {Z : XC} {e : Expr} {fe : Fe} {p pf kp pos : Pos} {x : Str} {F : List D → M D}
end
def CR (K : PySem.W.Frag) (mg : Str → Option Value) (d : D) (u : Value) : Prop := ∃ v, J9 v u ∧ ∀ μ H, j0 ⟨K, mg⟩ μ H d v
def CRL (K : PySem.W.Frag) (mg : Str → Option Value) (l : List D) (us : List Value) : Prop := ∃ vs, J7 vs us ∧ ∀ μ H, w6 ⟨K, mg⟩ μ H l vs
section
variable {K : PySem.W.Frag} {mg : Str → Option Value}
theorem bJ2 {x : Str} {t : Tok} : CR K mg (.str x) (.str x t) := ⟨.str x, ⟨t, rfl⟩, fun μ H => by unfold j0; rfl⟩
theorem dM0 {b : Bool} : CR K mg (.bl b) (.bool b) := ⟨.bl b, rfl, fun μ H => by unfold j0; rfl⟩
theorem bT7 : CR K mg .non .none := ⟨.non, rfl, fun μ H => by unfold j0; rfl⟩
theorem Z0 : CRL K mg [] [] := ⟨[], .nil, fun _ _ => rfl⟩
theorem M3 {d : D} {l : List D} {u : Value} {us : List Value} (h : CR K mg d u) (t : CRL K mg l us) : CRL K mg (d :: l) (u :: us) := by
 obtain ⟨v, r, h⟩ := h
 obtain ⟨vs, rs, t⟩ := t
 exact ⟨v :: vs, .cons r rs, fun μ H => ⟨v, vs, rfl, h μ H, t μ H⟩⟩
theorem aC8 {a : Addr} {l : List D} {us : List Value} {n : Nat} {sl : Array (Option Value)} (hl : K.lookup a = some ⟨.type "tuple", none, .seq us.toArray n, sl⟩) (hz : Nat.ble us.length 100 = true) (h : CRL K mg l us) : CR K mg (.tup l) (.ref a) := by
 obtain ⟨vs, rs, t⟩ := h
 refine ⟨.ref a, rfl, fun μ H => ?_⟩
 unfold j0
 refine ⟨a, vs, rfl, .inr ⟨_, us.toArray, n, hl, rfl, rfl, ?_, rs⟩, t μ H⟩
 rw [List.size_toArray]
 exact Nat.le_trans (Nat.le_of_ble_eq_true hz) (by decide)
end
structure cK3 (K : PySem.W.Frag) (mg : Str → Option Value) (x : Str) (d : D) : Prop where
 ex : ∃ u, mg x = some u ∧ CR K mg d u
section
variable {X : Cx} {Z : XC} {pos : Pos} {x : Str} {d : D}
theorem de_cst (hc : cK3 X.K X.mg x d) (hg : Gl X x) (hdb : (x == ("__debug__" : Str)) = false) : DE X Z (.Name x pos) (cE d) := ⟨by
 intro pins s σ H Q I ⟨dσ, μ, G, sr, hr, p⟩
 obtain ⟨u, hm, v, ru, rv⟩ := hc.ex
 exact bT8 I hg hm ⟨v, H, I, ru, g8.ok p hr v (rv μ H)⟩ hdb⟩
end
section
variable {X : Cx} {Z : XC} {o e : Expr} {es : List Expr} {fo : Fe} {fs : DSt → M (List D)} {name : Str} {id : String} {mm : D → List D → M D} {apos cpos : Pos}
end
section
variable {X : Cx} {Z : XC}
end
end DL
namespace W
open PySem PySem.Spec L2 DL
open PyProof.Rows hiding St
section
variable {G : DH} {σ : DSt} {Q : DPP}
end
end W
namespace DL
open PySem PySem.Spec L2
open PyProof.Rows hiding St
section
variable {X : Cx} {Z : XC} {c : Wc} {μ : List Addr} {H : Hp}
variable {e t : Expr} {lo hi : Option Expr} {fa : Fe} {fl fh ft : Fo} {p2 pos : Pos}
end
end DL
namespace W
open PySem PySem.Spec L2 DL
open PyProof.Rows hiding St
section
variable {G : DH} {σ : DSt} {Q : DPP}
end
end W
namespace DL
open PySem PySem.Spec L2
open PyProof.Rows hiding St
section
variable {X : Cx} {Z : XC} {a b c : Expr} {fa fb fc : Fe} {pos p : Pos} {x : Str}
theorem cP2 {F : List D → M D} (hF : ∃ k kk, b8 F 0 x X.prog X.w X.K X.mg X.base k ∧ aK1 kk X.A ∧ k ≤ kk) (hg : Gl X x) (hdb : (x == ("__debug__" : Str)) = false) :
 DE X Z (.Call (.Name x p) [] [] pos) (q16 (fnX 0 F) q14) := by
 obtain ⟨k, kk, hF, hr, hk⟩ := hF
 obtain ⟨f, fd, ps, h1, h2, h3, h4⟩ := hF.ex
 exact DE.of (dA2 h1 (hr.mono hk) hg h2 h3 h4 .nil dM1 hdb) fun σ H Q hE0 => hE0.elim fun dσ μ G s h p => by
  obtain ⟨hl, p2⟩ := bU8 (show g8 (wc X) Z μ H (fnX 0 F [] G) _ from p)
  exact ⟨rfl, [], μ, G, rfl, h, p2⟩
end
section
variable {X : Cx} {Z : XC} {pos : Pos}
end
end DL
namespace W
open PySem PySem.Spec L2 DL
open PyProof.Rows hiding St
end W
namespace DL
open PySem PySem.Spec L2
open PyProof.Rows hiding St
def aT5 : D → M Unit := fun x => match x with
 | .ref r => do
   match ← R5 r with
   | .dct _ => pure ()
   | _ => M.stuck
 | _ => M.stuck
def getD : D → List D → M D := fun x ds => match x, ds with
 | .ref r, [.str z, d] => do
   match ← R5 r with
   | .dct l => pure ((M5 l (.inr z)).getD d)
   | _ => M.stuck
 | _, _ => M.stuck
section
variable {X : Cx} {Z : XC} {o e : Expr} {es : List Expr} {fo : Fe} {fs : DSt → M (List D)} {name : Str} {id : String} {mm : D → List D → M D} {apos cpos : Pos}
theorem bY5 {α : Type} {c : Wc} {μ : List Addr} {H : Hp} {G : DH} {d : D} {v : V} {f : Unit → M α} {K : α → List Addr → DH → Hp → Prop} (h : J1 c μ G H) (r : j0 c μ H d v) (p : g8 c Z μ H ((aT5 d >>= f) G) K) : tyV c.K "dict" v H ∧ g8 c Z μ H (f () G) K := by
 cases d with
 | ref i =>
   unfold j0 at r
   obtain ⟨a, m, rfl⟩ := r
   have p' : g8 c Z μ H ((R5 i >>= fun o => (match o with | .dct _ => pure () | _ => M.stuck : M Unit) >>= f) G) K := by rw [← M.bind_assoc]; exact p
   obtain ⟨o, g, p2⟩ := N6 p'
   have ro := h.obj i o a g m
   cases o with
   | dct l => obtain ⟨vs, e, rl⟩ := ro; exact ⟨.inr (.inr (.inl ⟨rfl, .inl ⟨vs, e⟩⟩)), p2⟩
   | _ => exact p2.elim
 | _ => exact p.elim
theorem dP3 (slot : Slot "dict" name id) (hty : typeOf (.builtin id) = pure (.type "method_descriptor")) (hm : MtD X Z id mm) (ho : DE X Z o fo) (ha : DA X Z (e :: es) fs)
 (hbase : attributeBase o name X.env (eval o X.env) = eval o X.env)
 (hfew : ((backTo cpos (starEach (e :: es) X.env)).all (fun x => !x.1) && (backToKw cpos (keywordEach [] X.env)).all (fun x => x.1.isSome)
   && decide ((e :: es).length + ([] : List Keyword).length + (if ([] : List Keyword).isEmpty then 0 else 1) < 30)) = true)
 (hline : (apos.endLine == cpos.line) = true) (hs : starEach (e :: es) X.env = (false, eval e X.env) :: starEach es X.env) (hplain : (backTo cpos (starEach es X.env)).any (·.1) = false) :
 DE X Z (.Call (.Attribute o name apos) (e :: es) [] cpos) (mtE aT5 mm fo fs) :=
 DE.of (dM3 PySem.F.plainAttrs_dict slot hty hm ho.h ha.h hbase hfew hline hs hplain) fun σ H Q hE0 => hE0.elim fun dσ μ G s h p => ⟨dσ, μ, G, s, h, (g8.bind p).mono fun d μ1 G1 H1 x1 h1 p1 v rv => by
  obtain ⟨ty, p2⟩ := bY5 h1 rv p1
  exact ⟨ty, dσ, μ1, G1, s.mono x1, h1, (g8.bind p2).mono fun ds μ2 G2 H2 x2 h2 p3 vs rvs => ⟨d, ds, μ2, G2, rv.mono x2, rvs, h2, p3⟩⟩⟩
theorem dU1 (hu : X.A.units + 64 < cLine) : MtD X Z "dict.get" getD := by
 intro pins s σ H x xs v us Q I rx rvs ⟨d, ds, μ, G, rd, rl, hr, p⟩
 delta getD at p
 rcases d with _ | _ | _ | _ | _ | r | _ | _ <;> try exact p.elim
 rcases ds with _ | ⟨_ | _ | _ | z | _ | _ | _ | _, _ | ⟨y, _ | ⟨_, _⟩⟩⟩ <;> dsimp only at p <;> try exact p.elim
 · unfold j0 at rd
   obtain ⟨a, m, rfl⟩ := rd
   obtain ⟨zv, t1, rfl, rz, yv, t2, rfl, ry, e⟩ := rl
   cases e
   obtain ⟨u1, us1, rfl, ru1, rv1⟩ : ∃ u1 us1, us = u1 :: us1 ∧ J9 zv u1 ∧ J7 [yv] us1 := by
    cases rvs with | cons h t => exact ⟨_, _, rfl, h, t⟩
   obtain ⟨u2, rfl, ru2⟩ := aE3 rv1
   obtain ⟨o, g, p1⟩ := N6 p
   have ro := hr.obj r o a g m
   cases o with
   | dct l =>
     obtain ⟨kvs, q, rk⟩ := ro
     cases rx
     have ez := aQ6 rz
     subst ez
     have dg : bZ3 H a (V.str z) (aS2 kvs (.inr z)) := .inl ⟨kvs, .inr z, .inl q, rfl, rfl⟩
     refine dV8 (by omega) I dg ru1 ru2 fun w' s' I' rw' => ⟨_, H, I', rw', ?_⟩
     have lk := aT8 (k := .inr z) rk
     cases el : M5 l (.inr z) with
     | none =>
       rw [el] at lk
       dsimp only at lk p1
       rw [el] at p1
       rw [lk]
       exact g8.ok p1 hr _ ry
     | some w =>
       rw [el] at lk
       obtain ⟨v', e1, r1⟩ := lk
       dsimp only at p1
       rw [el] at p1
       rw [e1]
       exact g8.ok p1 hr _ r1
   | _ => exact p1.elim
end
section
variable {X : Cx} {Z : XC} {a b e : Expr} {fa fb : Fe} {pos : Pos}
end
def aL3 (G : DH) (x : D) : List D → Option Bool
 | [] => some false
 | d :: t => match eqN 40 G d x, aL3 G x t with
   | some a, some b => some (a || b)
   | _, _ => none
theorem dJ7 {G : DH} {x d : D} {t : List D} : aL3 G x (d :: t) = match eqN 40 G d x, aL3 G x t with
 | some a, some b => some (a || b)
 | _, _ => none := rfl
def bP6 (x y : D) (G : DH) : Option Bool := match y with
 | .tup l => aL3 G x l
 | .ref r => match G[r]? with
   | some (.lst l) => aL3 G x l
   | some (.rol l) => aL3 G x l
   | _ => none
 | _ => none
def inX : D → D → M D := fun x y G => match bP6 x y G with
 | some b => some (.ok (.bl b), G)
 | none => none
section
variable {X : Cx} {Z : XC} {μ : List Addr} {H : Hp} {G : DH}
theorem cP0 {pins : PNS} {σ : St} {s : Shared} {x : V} {v : Value} {dx : D} (hu : X.A.units + 64 < cLine) (I : Inv X pins σ H s) (hr : J1 (wc X) μ G H) (rdx : j0 (wc X) μ H dx x) (rx : J9 x v) :
 ∀ {l : List D} {vs : List V} {us : List Value} {b : Bool}, w6 (wc X) μ H l vs → J7 vs us → aL3 G dx l = some b →
  (∀ u ∈ us, ∃ c, SeqAt.EqAt X.A.in1 s u v c) ∧ (b = true → ∃ u ∈ us, SeqAt.EqAt X.A.in1 s u v true) ∧ (b = false → ∀ u ∈ us, SeqAt.EqAt X.A.in1 s u v false) := by
 intro l
 induction l with
 | nil =>
   intro vs us b rl rv e
   cases rl
   cases rv
   cases e
   exact ⟨fun u hu => (by cases hu), fun z => absurd z Bool.false_ne_true, fun _ u hu => (by cases hu)⟩
 | cons d t ih =>
   intro vs us b rl rv e
   obtain ⟨w, tv, rfl, q, rt⟩ := rl
   cases rv with
   | cons r1 rs =>
   rename_i u us1
   rw [dJ7] at e
   cases e1 : eqN 40 G d dx with
   | none => rw [e1] at e; cases e
   | some a =>
     cases e2 : aL3 G dx t with
     | none => rw [e1, e2] at e; cases e
     | some b2 =>
       rw [e1, e2] at e
       cases e
       have h1 := (cL0 I hr 40 X.A.in1 (by show X.A.units + 1 + 40 < cLine; omega) q rdx r1 rx e1).2.2
       obtain ⟨k1, k2, k3⟩ := ih rt rs e2
       refine ⟨fun u' hu' => ?_, fun z => ?_, fun z u' hu' => ?_⟩
       · rcases List.mem_cons.mp hu' with rfl | hu'
         · exact ⟨a, h1⟩
         · exact k1 u' hu'
       · cases a with
         | true => exact ⟨u, List.mem_cons_self, h1⟩
         | false =>
           obtain ⟨u', h3, h4⟩ := k2 z
           exact ⟨u', List.mem_cons_of_mem _ h3, h4⟩
       · cases a with
         | true => cases z
         | false =>
           rcases List.mem_cons.mp hu' with rfl | hu'
           · exact h1
           · exact k3 z u' hu'
open Classical in
theorem bX1 {pins : PNS} {σ : St} {s : Shared} {x : V} {v : Value} {dx : D} (hu : X.A.units + 64 < cLine) (I : Inv X pins σ H s) (hr : J1 (wc X) μ G H) (rdx : j0 (wc X) μ H dx x) (rx : J9 x v)
 {l : List D} {vs : List V} {us : List Value} {b : Bool} (rl : w6 (wc X) μ H l vs) (rv : J7 vs us) (e : aL3 G dx l = some b) :
  ∃ f : Value → Bool, (∀ u ∈ us, SeqAt.EqAt X.A.in1 s u v (f u)) ∧ us.any f = b := by
 obtain ⟨k1, k2, k3⟩ := cP0 hu I hr rdx rx rl rv e
 cases b with
 | false => exact ⟨fun _ => false, fun u hu => k3 rfl u hu, by simp⟩
 | true =>
   refine ⟨fun u => decide (SeqAt.EqAt X.A.in1 s u v true), fun u hu => ?_, ?_⟩
   · dsimp only
     by_cases c : SeqAt.EqAt X.A.in1 s u v true
     · rw [decide_eq_true c]; exact c
     · rw [decide_eq_false c]
       obtain ⟨c', hc⟩ := k1 u hu
       cases c' with
       | true => exact absurd hc c
       | false => exact hc
   · obtain ⟨u, hu, h⟩ := k2 rfl
     exact List.any_eq_true.mpr ⟨u, hu, decide_eq_true h⟩
theorem dV2 (hu : X.A.units + 64 < cLine) {pins : PNS} {σ : St} {s : Shared} {x y : V} {v u : Value} {dx dy : D} {b : Bool} {Q : VK} (I : Inv X pins σ H s) (hr : J1 (wc X) μ G H) (rdx : j0 (wc X) μ H dx x) (rdy : j0 (wc X) μ H dy y) (rx : J9 x v) (ry : J9 y u)
 (e : bP6 dx dy G = some b) :
 (Q (.bl b) H → wpAny (model X.prog X.w) X.A (compareOp .In v u) (EP X pins σ Q) X.xe s) ∧ (Q (.bl (!b)) H → wpAny (model X.prog X.w) X.A (compareOp .NotIn v u) (EP X pins σ Q) X.xe s) := by
 have seq : ∀ (p : Addr) (l : List D) (vs : List V), y = .ref p → (SqL X.K H p vs ∨ SqT X.K H p vs) → w6 (wc X) μ H l vs → aL3 G dx l = some b →
  (Q (.bl b) H → wpAny (model X.prog X.w) X.A (compareOp .In v u) (EP X pins σ Q) X.xe s) ∧ (Q (.bl (!b)) H → wpAny (model X.prog X.w) X.A (compareOp .NotIn v u) (EP X pins σ Q) X.xe s) := by
  intro p l vs hy hq rl e
  subst hy
  cases ry
  rcases hq with hq | hq
  · obtain ⟨its, r, pl, hz⟩ := I.list hq
    obtain ⟨f, h1, h2⟩ := bX1 hu I hr rdx rx rl r e
    have h3 : its.toArray.any f = b := by rw [← h2]; simp
    exact ⟨fun q => SeqAt.in_listAt f pl.isList (fun w hw => h1 w (by simpa using hw)) ⟨.bl _, H, I, rfl, by rw [h3]; exact q⟩, fun q => SeqAt.notIn_listAt f pl.isList (fun w hw => h1 w (by simpa using hw)) ⟨.bl _, H, I, rfl, by rw [h3]; exact q⟩⟩
  · obtain ⟨its, r, pl, hz⟩ := I.tuple hq
    obtain ⟨f, h1, h2⟩ := bX1 hu I hr rdx rx rl r e
    have h3 : its.toArray.any f = b := by rw [← h2]; simp
    exact ⟨fun q => SeqAt.in_tupleAt f pl (fun w hw => h1 w (by simpa using hw)) ⟨.bl _, H, I, rfl, by rw [h3]; exact q⟩, fun q => SeqAt.notIn_tupleAt f pl (fun w hw => h1 w (by simpa using hw)) ⟨.bl _, H, I, rfl, by rw [h3]; exact q⟩⟩
 cases dy with
 | tup l =>
   unfold j0 at rdy
   obtain ⟨a, vs, hy, q, rl⟩ := rdy
   exact seq a l vs hy (.inr q) rl e
 | ref i =>
   unfold j0 at rdy
   obtain ⟨a, m, hy⟩ := rdy
   cases g : G[i]? with
   | none => unfold bP6 at e; simp only [g] at e; cases e
   | some o =>
     have ro := hr.obj i o a g m
     cases o with
     | lst l =>
       obtain ⟨vs, q, rl⟩ := ro
       unfold bP6 at e; simp only [g] at e
       exact seq a l vs hy (.inl (SqL.of q)) rl e
     | rol l =>
       obtain ⟨vs, q, rl⟩ := ro
       unfold bP6 at e; simp only [g] at e
       exact seq a l vs hy (.inl q.sq) rl e
     | _ => unfold bP6 at e; simp only [g] at e; cases e
 | _ => cases e
theorem od_inX (hu : X.A.units + 64 < cLine) : OpD X Z (compareOp .In) inX := ⟨by
 intro pins s σ H x y v u Q I rx ry ⟨dx, dy, μ, G, rdx, rdy, hr, p⟩
 unfold inX at p
 cases e : bP6 dx dy G with
 | none => rw [e] at p; exact p.elim
 | some b => rw [e] at p; exact (dV2 hu I hr rdx rdy rx ry e).1 (g8.ok p hr _ ofB)⟩
end
theorem bS6 : seqRepeat? (.type "tuple") = pure (some (.builtin "tuple.__mul__")) := by
 unfold seqRepeat?
 rw [PySem.seqSlot_of (T := "tuple") (name := "__mul__") (id := "tuple.__mul__") PySem.F.slot_tuple_mul.lookup (by decide +kernel), PySem.seqSlot_of (T := "tuple") (name := "__rmul__") (id := "tuple.__rmul__") PySem.F.slot_tuple_rmul.lookup (by decide +kernel)]
 rfl
theorem bB3 : fillsNumberSlot (.type "tuple") "mul" = pure false :=
 PySem.fillsNumberSlot_seq (id := "tuple.__mul__") (r := some (.builtin "tuple.__rmul__")) PySem.F.slot_tuple_mul.lookup (by decide +kernel) PySem.F.slot_tuple_rmul.lookup (by decide +kernel)
theorem bG7 (a : Int) (t : Tok) (l : Addr) (items : Array Value) (n : Nat) (dd : Option Addr) (sl : Array (Option Value)) :
 Meets (Builtin.«int.__rmul__» ⟨[.int a t, .ref l], []⟩) (fun _ R s => s.heap.get? l = some { cls := .type "tuple", dict := dd, data := .seq items n, slots := sl } ∧ R (.ok (.ret Value.notImplemented)) s) :=
 .of_wp fun prog w A R s h => by obtain ⟨hp, g, d, tk, os⟩ := s; obtain ⟨hl, h⟩ := h; wp_walk; exact ⟨_, rfl, h⟩
theorem bX8 (items : Array Value) : ∀ (k : Nat) (a : Array Value), (List.foldl (fun x1 x2 => x1 ++ x2) a (List.replicate k items)).size = a.size + k * items.size
 | 0, a => by simp
 | k + 1, a => by rw [List.replicate_succ, List.foldl_cons, bX8 items k, Array.size_append, Nat.succ_mul]; omega
theorem bW3 {x : Int} (h1 : -(2 ^ 63) ≤ x) (h2 : x < 2 ^ 63) : decide ((decide (x < -(2 ^ 63)) || decide (x ≥ 2 ^ 63)) = true) = false := by
 rw [decide_eq_false (Int.not_lt.mpr h1), decide_eq_false (Int.not_le.mpr h2)]; rfl
theorem bF6 (l : Addr) (items : Array Value) (n : Nat) (dd : Option Addr) (sl : Array (Option Value)) (x : Int) (u : Tok) (h1 : -(2 ^ 63) ≤ x) (h2 : x < 2 ^ 63) (h3 : (items.isEmpty || x == 1) = true) :
 Meets (Builtin.«tuple.__mul__» ⟨[.ref l, .int x u], []⟩) (fun _ R s => s.heap.get? l = some { cls := .type "tuple", dict := dd, data := .seq items n, slots := sl } ∧ R (.ok (.ret (Value.ref l))) s) :=
 .of_wp fun prog w A R s h => by
  obtain ⟨hp, g, d, tk, os⟩ := s; obtain ⟨hl, h⟩ := h
  wp_walk
  refine wpAny_ite_false (bW3 h1 h2) ?_
  wp_walk
  exact ⟨_, rfl, h⟩
theorem bK6 (l : Addr) (items : Array Value) (n : Nat) (dd : Option Addr) (sl : Array (Option Value)) (x : Int) (u : Tok) (h1 : -(2 ^ 63) ≤ x) (h2 : x < 2 ^ 63) (h3 : ¬ (items.isEmpty || x == 1) = true) (hz : items.size * x.toNat ≤ sizeLine) :
 Meets (Builtin.«tuple.__mul__» ⟨[.ref l, .int x u], []⟩) (fun _ R s => s.heap.get? l = some { cls := .type "tuple", dict := dd, data := .seq items n, slots := sl } ∧
  R (.ok (.ret (Value.ref s.heap.objs.size))) { s with heap := s.heap.push { cls := Value.type "tuple", data := Data.seq (List.foldl (fun x1 x2 => x1 ++ x2) #[] (List.replicate x.toNat items)) }, toks := s.toks }) :=
 .of_wp fun prog w A R s h => by
  obtain ⟨hp, g, d, tk, os⟩ := s; obtain ⟨hl, h⟩ := h
  wp_walk
  refine wpAny_ite_false (bW3 h1 h2) ?_
  by_cases hx : (decide (x ≤ 0) || items.isEmpty) = true
  · have hx0 : x ≤ 0 := by
     have he : items.isEmpty = false := by
      cases e : items.isEmpty with
      | false => rfl
      | true => rw [e] at h3; exact absurd rfl h3
     rw [he, Bool.or_false] at hx
     exact of_decide_eq_true hx
    have e0 : x.toNat = 0 := by omega
    rw [e0] at h
    wp_walk
    exact ⟨_, rfl, h⟩
  · obtain ⟨hc1, hc2⟩ : (¬ (items.size : Int) * x > (2 ^ 63 - 1) / 8) ∧ ¬ Builtin.Tuple.tupleTooMany ((items.size : Int) * x) = true := by
     have hx0 : ¬ x ≤ 0 := fun z => hx (by rw [decide_eq_true z]; rfl)
     have e1 : (items.size : Int) * x = ((items.size * x.toNat : Nat) : Int) := by
      rw [Int.natCast_mul, Int.toNat_of_nonneg (by omega)]
     have e2 : items.size * x.toNat ≤ 2 ^ 24 := hz
     rw [e1]
     exact ⟨by omega, fun z => absurd (of_decide_eq_true z) (by show ¬ ((2 ^ 24 : Nat) : Int) < _; omega)⟩
    wp_walk
    refine wpAny_ite_false (decide_eq_false hc1) ?_
    wp_walk
    refine wpAny_ite_false (decide_eq_false (Nat.not_lt.mpr (by rw [bX8]; simp only [Array.size_empty]; rw [Nat.mul_comm]; omega))) ?_
    wp_walk
    exact ⟨_, rfl, h⟩
section
variable {X : Cx} {Z : XC}
def eE0 (K : PySem.W.Frag) : R2 := fun x y H Q => ∃ l k xs, x = .ref l ∧ y = .int k ∧ SqT K H l xs ∧ -(2 ^ 63) ≤ k ∧ k < 2 ^ 63 ∧ xs.length * k.toNat ≤ sizeLine ∧
 ((xs = [] ∨ k = 1) → Q (.ref l) H) ∧ (¬ (xs = [] ∨ k = 1) → ∀ p, H p = none → Q (.ref p) (upd H p (.tup (List.replicate k.toNat xs).flatten)))
theorem dH5 : OpR X (binaryOp .Mult) (eE0 X.K) := by
 intro pins s σ H x y v u Q I rx ry h
 obtain ⟨l, k, xs, rfl, rfl, hH, h1, h2, hz, q1, q2⟩ := h
 cases rx
 obtain ⟨t, rfl⟩ := ry
 obtain ⟨its, r, p, _⟩ := I.tuple hH
 have hlen : its.toArray.size * k.toNat ≤ sizeLine := by rw [List.size_toArray, ← r.length]; exact hz
 obtain ⟨⟨cls, dd, data, sl⟩, ho, hc, n, hd⟩ := id p
 simp only at hc hd
 subst hc hd
 refine wpAny_binaryOp_repeat_ref (T := "tuple") (U := "int") (by decide) ⟨_, ho, rfl⟩ (fun s' => typeIs_int s' k t) bB3 F.fills_int_mul F.slot_int_rmul bS6 F.slot_int_index.lookup
  (call_meets F.slot_int_rmul (typeIs_int s k t) F.entry_int_rmul (F.args_int_rmul_2 _ _) (bG7 k t l its.toArray n dd sl)
    ⟨ho, rfl, ⟨_, ho, rfl⟩, ?_⟩)
 by_cases hc : xs = [] ∨ k = 1
 · have h3 : (its.toArray.isEmpty || k == 1) = true := by
    rcases hc with rfl | rfl
    · cases r; rfl
    · simp
   exact call_meets F.slot_tuple_mul ⟨_, ho, rfl⟩ F.entry_tuple_mul (F.args_tuple_mul_2 _ _) (bF6 l its.toArray n dd sl k t h1 h2 h3) ⟨ho, .ref l, H, I, rfl, q1 hc⟩
 · have h3 : ¬ (its.toArray.isEmpty || k == 1) = true := by
    intro z
    rw [Bool.or_eq_true] at z
    rcases z with z | z
    · have : its = [] := by simpa using z
      subst this
      exact hc (.inl (by cases r; rfl))
    · exact hc (.inr (by simpa using z))
   refine call_meets F.slot_tuple_mul ⟨_, ho, rfl⟩ F.entry_tuple_mul (F.args_tuple_mul_2 _ _) (bK6 l its.toArray n dd sl k t h1 h2 h3 hlen) ⟨ho, ?_⟩
   have f0 : List.foldl (fun x1 x2 => x1 ++ x2) #[] (List.replicate k.toNat its.toArray) = (List.replicate k.toNat its).flatten.toArray := by
    have := bA5 its k.toNat []
    rw [List.nil_append] at this
    exact this
   rw [f0]
   refine ⟨.ref s.heap.objs.size, _, I.laid (t' := s.toks) (o := .tup (List.replicate k.toNat xs).flatten) (fun b ob q => Heap.get?_push_of_some _ q) (Nat.le_refl _) ?_, rfl, q2 hc _ (I.hok.fresh (Nat.le_refl _))⟩
   exact ⟨by rw [cK1, Nat.mul_comm]; exact hz, _, r.rep k.toNat, aC7.new _ _⟩
def bA4 : D → D → M D := fun x y => match x, y with
 | .tup l, .int k => if -(2 ^ 63) ≤ k ∧ k < 2 ^ 63 ∧ l.length * k.toNat ≤ sizeLine then pure (.tup (List.replicate k.toNat l).flatten) else M.stuck
 | .ref r, .int k => do
   match ← R5 r with
   | .lst l => if -(2 ^ 63) ≤ k ∧ k < 2 ^ 63 ∧ l.length * k.toNat ≤ sizeLine then N5 (.lst (List.replicate k.toNat l).flatten) else M.stuck
   | _ => M.stuck
 | _, _ => aU4 x y
theorem w6.rep {c : Wc} {μ : List Addr} {H : Hp} {l : List D} {vs : List V} (r : w6 c μ H l vs) : ∀ k : Nat, w6 c μ H (List.replicate k l).flatten (List.replicate k vs).flatten
 | 0 => rfl
 | k + 1 => by
   rw [List.replicate_succ, List.flatten_cons, List.replicate_succ, List.flatten_cons]
   exact r.append (w6.rep r k)
theorem od_mulX : OpD X Z (binaryOp .Mult) bA4 :=
 OpD.of (OpR.or dT5 (OpR.or dH5 (od_mul (Z := Z)).h)) fun x y H Q hE0 => hE0.elim fun dx dy μ G rdx rdy hr p => by
  by_cases c : ∃ l k, dx = .tup l ∧ dy = .int k
  · obtain ⟨l, k, rfl, rfl⟩ := c
    refine .inr (.inl ?_)
    have ek := aF9 rdy
    unfold j0 at rdx
    obtain ⟨a, vs, rfl, q, rl⟩ := rdx
    unfold bA4 at p
    dsimp only at p
    split at p
    · rename_i hz
      refine ⟨a, k, vs, rfl, ek, q, hz.1, hz.2.1, by rw [← rl.length]; exact hz.2.2, fun hc => ?_, fun hc p' hp => aN0 hr (rl.rep k.toNat) p p' hp⟩
      refine aS8 hr q ?_ p
      rcases hc with rfl | rfl
      · cases l with
        | nil => simp; exact rl
        | cons _ _ => obtain ⟨_, _, z, _⟩ := rl; cases z
      · simp; exact rl
    · exact p.elim
  · by_cases c2 : ∃ r k, dx = .ref r ∧ dy = .int k
    · obtain ⟨r, k, rfl, rfl⟩ := c2
      refine .inl ?_
      have ek := aF9 rdy
      unfold j0 at rdx
      obtain ⟨a, m, rfl⟩ := rdx
      have p' : g8 (wc X) Z μ H ((R5 r >>= fun o => match o with | .lst l => (if -(2 ^ 63) ≤ k ∧ k < 2 ^ 63 ∧ l.length * k.toNat ≤ sizeLine then N5 (.lst (List.replicate k.toNat l).flatten) else M.stuck) | _ => M.stuck : M D) G) fun d μ' _ H' => ∀ v, j0 (wc X) μ' H' d v → Q v H' := p
      obtain ⟨o, g, p1⟩ := N6 p'
      have ro := hr.obj r o a g m
      cases o with
      | lst l =>
        obtain ⟨vs, e, rl⟩ := ro
        dsimp only at p1
        split at p1
        · rename_i hz
          exact ⟨a, k, vs, rfl, ek, e, hz.1, hz.2.1, by rw [← rl.length]; exact hz.2.2, fun p' hp => aC3 hr (rl.rep k.toNat) p1 p' hp⟩
        · exact p1.elim
      | _ => exact p1.elim
    · refine .inr (.inr ⟨dx, dy, μ, G, rdx, rdy, hr, ?_⟩)
      have e : bA4 dx dy = aU4 dx dy := by
       cases dx with
       | tup l =>
         cases dy with
         | int k => exact absurd ⟨_, _, rfl, rfl⟩ c
         | _ => rfl
       | ref r =>
         cases dy with
         | int k => exact absurd ⟨_, _, rfl, rfl⟩ c2
         | _ => rfl
       | _ => rfl
      rw [← e]
      exact p
end
end DL
namespace W
open PySem PySem.Spec L2 DL
open PyProof.Rows hiding St
theorem cJ1 {r : Nat} {z : Str} {d : D} {l : List (Key × D)} {G : DH} {Q : DPP} (h : G[r]? = some (.dct l)) : Wp (getD (.ref r) [.str z, d]) G Q ↔ Q ((M5 l (.inr z)).getD d) G := by
 have e : getD (.ref r) [.str z, d] = (R5 r >>= fun o => match o with | .dct l => pure ((M5 l (.inr z)).getD d) | _ => M.stuck : M D) := rfl
 rw [e]
 simp only [m5, T5, h, T4, j6]
theorem bN0 {r : Nat} {l : List (Key × D)} {G : DH} {Q : Unit → DH → Prop} (h : G[r]? = some (.dct l)) : Wp (aT5 (.ref r)) G Q ↔ Q () G := by
 have e : aT5 (.ref r) = (R5 r >>= fun o => match o with | .dct l => pure () | _ => M.stuck : M Unit) := rfl
 rw [e]
 simp only [m5, T5, h, T4, j6]
theorem bY6 {l : List D} {k : Int} {G : DH} {Q : DPP} (h : 0 ≤ k ∧ k < 1000 ∧ l.length ≤ 1000) : Wp (bA4 (.tup l) (.int k)) G Q ↔ Q (.tup (List.replicate k.toNat l).flatten) G := by
 have e : bA4 (.tup l) (.int k) = (if -(2 ^ 63) ≤ k ∧ k < 2 ^ 63 ∧ l.length * k.toNat ≤ sizeLine then pure (.tup (List.replicate k.toNat l).flatten) else M.stuck : M D) := rfl
 have hz : l.length * k.toNat ≤ sizeLine := by
  have := Nat.mul_le_mul h.2.2 (show k.toNat ≤ 1000 by omega)
  exact Nat.le_trans this (by decide)
 rw [e, if_pos ⟨by omega, by omega, hz⟩, j6]
theorem cZ4 {i j : Int} {G : DH} {Q : DPP} : Wp (bA4 (.int i) (.int j)) G Q ↔ Wp (aU4 (.int i) (.int j)) G Q := Iff.rfl
theorem cB9 {r : Nat} {l : List D} {k : Int} {G : DH} {Q : DPP} (h : G[r]? = some (.lst l)) (hk : 0 ≤ k ∧ k < 1000 ∧ l.length ≤ 1000) : Wp (bA4 (.ref r) (.int k)) G Q ↔ Wp (N5 (.lst (List.replicate k.toNat l).flatten)) G Q := by
 have e : bA4 (.ref r) (.int k) = (R5 r >>= fun o => match o with | .lst l => (if -(2 ^ 63) ≤ k ∧ k < 2 ^ 63 ∧ l.length * k.toNat ≤ sizeLine then N5 (.lst (List.replicate k.toNat l).flatten) else M.stuck) | _ => M.stuck : M D) := rfl
 have hz : l.length * k.toNat ≤ sizeLine := by
  have := Nat.mul_le_mul hk.2.2 (show k.toNat ≤ 1000 by omega)
  exact Nat.le_trans this (by decide)
 rw [e]
 simp only [m5, T5, h, T4]
 rw [if_pos ⟨by omega, by omega, hz⟩]
end W
namespace DL
open PySem PySem.Spec L2
open PyProof.Rows hiding St
section
variable {prog : Program} {w : World} {A : Around} {E : VSP} {s : Shared} {j t : Addr} {k : Nat} {ys : Array Value}
theorem cD8 {x : Value} {Q : VSP} (a : s.heap.IsTupleIter j t k) (b : s.heap.IsTuple t ys) (c : ys[k]? = some x) (q : ∀ g, g.IsTupleIter j t (k + 1) → Heap.SameBut j s.heap g → Q x { s with heap := g }) : wpAny (model prog w) A (Builtin.SmallTypes.nextOf (.ref j)) Q E s := by
 obtain ⟨o, h1, h2, h3⟩ := id a; obtain ⟨o2, h4, _, m, h5⟩ := b; unfold Builtin.SmallTypes.nextOf
 refine wpAny_bind (wpAny_callSpecial?_slot (name := Str.ofString "__next__") a.typeIs F.slot_tuple_iterator_next (wpAny_call_entry F.slot_tuple_iterator_next a.typeIs F.entry_tuple_iterator_next ?_ (F.args_tuple_iterator_next_1 _)))
 show wpAny _ _ (field (.ref j) 0 >>= _) _ _ s; refine wpAny_bind (wpAny_field h1 h3 (x := .ref t) rfl ?_); show wpAny _ _ (if (Value.ref t == Value.none) = true then _ else _) _ _ s; refine wpAny_ite_false (by rfl) ?_
 show wpAny _ _ (field (.ref j) 1 >>= _) _ _ s; refine wpAny_bind (wpAny_field h1 h3 (x := .int k 0) rfl ?_); show wpAny _ _ (seqItems? (.ref t) >>= _) _ _ s; refine wpAny_bind (wpAny_seqItems h4 h5 ?_); simp only [Int.toNat_natCast, c]
 refine wpAny_bind (wpAny_setField h1 h3 (by simp) (wpAny_pure ⟨x, rfl, wpAny_pure (q _ ⟨_, Heap.get?_update_self _ h1 (Obj.isFreed_of_fields (Obj.data_mapFields h3 _)), (Obj.cls_mapFields ..).trans h2, by rw [Obj.data_mapFields h3]; simp [rawInt]⟩ (Heap.SameBut.update ..))⟩))
theorem bN5 {Q : VSP} (hh : A.handled = none) (a : s.heap.IsTupleIter j t k) (b : s.heap.IsTuple t ys) (c : ys[k]? = none) (q : ∀ g e, Heap.ExtBut j s.heap g → (∃ o, g.get? e = some o ∧ o.cls = .type "StopIteration") → E (.ref e) { s with heap := g }) : wpAny (model prog w) A (Builtin.SmallTypes.nextOf (.ref j)) Q E s := by
 obtain ⟨o, h1, h2, h3⟩ := id a; obtain ⟨o2, h4, _, m, h5⟩ := b; unfold Builtin.SmallTypes.nextOf
 refine wpAny_bind (wpAny_callSpecial?_slot (name := Str.ofString "__next__") a.typeIs F.slot_tuple_iterator_next (wpAny_call_entry F.slot_tuple_iterator_next a.typeIs F.entry_tuple_iterator_next ?_ (F.args_tuple_iterator_next_1 _)))
 show wpAny _ _ (field (.ref j) 0 >>= _) _ _ s; refine wpAny_bind (wpAny_field h1 h3 (x := .ref t) rfl ?_); show wpAny _ _ (if (Value.ref t == Value.none) = true then _ else _) _ _ s; refine wpAny_ite_false (by rfl) ?_
 show wpAny _ _ (field (.ref j) 1 >>= _) _ _ s; refine wpAny_bind (wpAny_field h1 h3 (x := .int k 0) rfl ?_); show wpAny _ _ (seqItems? (.ref t) >>= _) _ _ s; refine wpAny_bind (wpAny_seqItems h4 h5 ?_); simp only [Int.toNat_natCast, c]
 refine wpAny_bind (wpAny_rule (wpAny_bind (wpAny_setField h1 h3 (by simp) ?_))); show wpAny _ _ (newExc (.type "StopIteration") [] >>= _) _ _ _; refine wpAny_bind ?_; simp only [newExc, newTuple]
 refine wpAny_bind (wpAny_newObj_type ?_ (by size_fits)); refine wpAny_bind (m := firstArgMember _ _) (wpAny_of_eq (a := Value.none) (by first | rfl | (simp only [firstArgMember]; rfl)) ?_); refine wpAny_newObj_type ?_ (by size_fits); delta raiseNew; dsimp only
 refine wpAny_bind (wpAny_handled ?_); (first | rw [show A.in1.handled = none from hh] | rw [hh]); refine wpAny_bind (wpAny_pure (wpAny_throw ?_))
 exact q _ _ (((Heap.SameBut.update ..).extBut.push _).push _) ⟨_, Heap.get?_push_size _ rfl, rfl⟩
end
theorem bU7 {prog : Program} {w : World} {A : Around} (hh : A.handled = none) (j t : Addr) (hne : t ≠ j) (ys : Array Value) :
 Draws prog w A j [j, t] ys.size (fun i v => ys[i]? = some v) (fun i h => h.IsTupleIter j t i ∧ h.IsTuple t ys) where
 live := fun _ _ st => by obtain ⟨o, ho, _⟩ := st.1; exact ⟨o, ho⟩
 frame := fun _ _ _ st hk => by
  refine ⟨st.1.at fun o e => hk j (by simp) o e, ?_⟩
  obtain ⟨o, ho, r⟩ := st.2
  exact ⟨o, hk t (by simp) o ho, r⟩
 item := fun i s Q E hi st hQ => cD8 st.1 st.2 (x := ys[i]) (by simp [hi]) fun g a b => hQ _ g s.toks (by simp [hi]) ⟨a, by obtain ⟨o, ho, r⟩ := st.2; exact ⟨o, b.extBut _ _ hne ho, r⟩⟩ b
 done := fun s Q E st hE => bN5 hh st.1 st.2 (by simp) hE
theorem dG0 {α : Type} {M : Model} {A : Around} {x : α} {Q : α → Shared → Prop} {E : VSP} {s : Shared} (h : ∀ b, Q b s) : wpAny M A (pure x) Q E s := wpAny_pure (h x)
theorem cS6 (l : Addr) (items : Array Value) (n : Nat) (dct : Option Addr) (sl : Array (Option Value)) :
 Meets (Builtin.«enumerate.__new__» ⟨[.type "enumerate", .ref l], []⟩) (fun _ R s => s.heap.get? l = some { cls := .type "tuple", dict := dct, data := .seq items n, slots := sl } ∧
  R (.ok (.ret (.ref (s.heap.push { cls := .type "tuple_iterator", data := .fields #[.ref l, .int 0 0] }).objs.size)))
   { s with heap := (s.heap.push { cls := .type "tuple_iterator", data := .fields #[.ref l, .int 0 0] }).push { cls := .type "enumerate", data := .fields #[.none, .bool false, .ref s.heap.objs.size, rawInt 0, .none, .none] } }) :=
 .of_wp fun prog w A R s h => by
  obtain ⟨hp, g, d, tk, os⟩ := s; obtain ⟨hl, h⟩ := h
  have hsub := sub_enumerate; have hL : Heap.IsTuple (Shared.heap ⟨hp, g, d, tk, os⟩) l items := ⟨_, hl, rfl, n, rfl⟩
  wp_walk using AutoSeq1.wpAny_loadPart' hl
  refine wpAny_stack_any fun st => dG0 fun b => ?_
  cases b <;> (wp_walk using AutoSeq1.wpAny_loadPart' hl, wpAny_pyIter_tuple hL; exact ⟨_, rfl, h⟩)
theorem cG7 {prog : Program} {w : World} {A : Around} {E : VSP} {s : Shared} {l : Addr} {items : Array Value} {Q : VSP} (hL : s.heap.IsTuple l items)
 (h : ∀ g, IsEnum g (s.heap.objs.size + 1) s.heap.objs.size 0 .none → g.IsTupleIter s.heap.objs.size l 0 → g.objs.size = s.heap.objs.size + 2 → (∀ b o, s.heap.get? b = some o → g.get? b = some o) → Q (.ref (s.heap.objs.size + 1)) { s with heap := g }) :
 wpAny (model prog w) A (call (.type "enumerate") [.ref l]) Q E s := by
 obtain ⟨⟨c, dct, dt, sl⟩, hl, hc, n, hd⟩ := hL
 dsimp only at hc hd
 subst hc hd
 refine callType_new F.called_enumerate (by decide) (F.typeCall_enumerate_1 _) (F.newCall_enumerate_1 _) (fun obj => F.args_object_init_2 obj _) F.entry_enumerate_new (cS6 l items n dct sl) ⟨hl, ?_⟩
 have hz : (s.heap.push { cls := .type "tuple_iterator", data := .fields #[.ref l, .int 0 0] }).objs.size = s.heap.objs.size + 1 := Heap.size_push ..
 show _ ∧ _
 rw [hz]
 have he : IsEnum ((s.heap.push { cls := .type "tuple_iterator", data := .fields #[.ref l, .int 0 0] }).push { cls := .type "enumerate", data := .fields #[.none, .bool false, .ref s.heap.objs.size, rawInt 0, .none, .none] }) (s.heap.objs.size + 1) s.heap.objs.size 0 .none := by
  have := Heap.get?_push_size (s.heap.push { cls := .type "tuple_iterator", data := .fields #[.ref l, .int 0 0] }) (o := { cls := .type "enumerate", data := .fields #[.none, .bool false, .ref s.heap.objs.size, rawInt 0, .none, .none] }) rfl
  rw [hz] at this; exact this
 exact ⟨⟨_, he, rfl⟩, h _ he ⟨_, Heap.get?_push_of_some _ (Heap.get?_push_size _ rfl), rfl, rfl⟩ (by rw [Heap.size_push, hz]) fun b o y => Heap.get?_push_of_some _ (Heap.get?_push_of_some _ y)⟩
theorem aN8 {prog : Program} {w : World} {A : Around} {E : VSP} {s : Shared} {e j l : Addr} {k : Nat} {ys : Array Value} {old : Value} {Q : Option Value → Shared → Prop} (hh : A.handled = none) (he : IsEnum s.heap e j k old) (a : s.heap.IsTupleIter j l k) (b : s.heap.IsTuple l ys) (c : ys[k]? = none)
 (q : ∀ g, Heap.ExtBut j s.heap g → Q none { s with heap := g }) : wpAny (model prog w) A (pyNext (.ref e)) Q E s := by
 have hT : s.TypeIs (.ref e) "enumerate" := ⟨_, he, rfl⟩; unfold pyNext
 refine wpAny_bind (wpAny_attempt (wpAny_callSpecial?_slot (name := Str.ofString "__next__") hT F.slot_enumerate_next (wpAny_call_entry F.slot_enumerate_next hT F.entry_enumerate_next ?_ (F.args_enumerate_next_1 _))))
 show wpAny _ _ (field (.ref e) 2 >>= _) _ _ _; refine wpAny_bind (wpAny_field he rfl (x := .ref j) rfl ?_)
 refine wpAny_bind (bN5 hh a b c fun g x k1 k2 => ?_); obtain ⟨o, k3, k4⟩ := k2
 refine wpAny_bind (wpAny_isInstance (T := "StopIteration") (b := true) ⟨o, k3, k4⟩ isSubtype_stop ?_); exact wpAny_pure (q _ k1)
def dS3 (K : PySem.W.Frag) (a : Addr) : It :=
 ⟨fun i H => ∃ xs x, SqT K H a xs ∧ xs[i]? = some x,
  fun i H v H' => ∃ q x, H q = none ∧ v = .ref q ∧ H' = upd H q (.tup [.int i, x]) ∧ ∀ xs, SqT K H a xs → xs[i]? = some x,
  fun i H => ∃ xs, SqT K H a xs ∧ xs.length ≤ i⟩
theorem cG8 {P : Program} {w : World} {K : PySem.W.Frag} {es : List Expr} {x1 : Nat} {tp : Pos} {l e it : Addr} (hne : e ≠ it) :
 bK4 P w K (.Tuple es x1 tp) (dS3 K l) [e, it] e (fun i h => (∃ old, IsEnum h e it i old) ∧ h.IsTupleIter it l i) where
 mem := by simp
 obj := fun i h st b hb => by
  obtain ⟨⟨old, s1⟩, s2⟩ := st
  simp only [List.mem_cons, List.not_mem_nil, or_false] at hb
  rcases hb with rfl | rfl
  · exact ⟨_, s1, fun v z => nomatch z⟩
  · obtain ⟨o, q, c, d⟩ := s2
    exact ⟨o, q, fun v z => by rw [d] at z; cases z⟩
 keep := fun i h h' st k => by
  obtain ⟨⟨old, s1⟩, s2⟩ := st
  exact ⟨⟨old, k _ (by simp) _ s1⟩, s2.at fun o q => k _ (by simp) o q⟩
 item := by
  intro X hP hw hK hc i pins s σ H E I hf st hg
  subst hP hw hK
  obtain ⟨xs, x, q1, hx⟩ := hg
  obtain ⟨its, r1, c1, z1⟩ := I.tuple q1
  obtain ⟨u, e1, ru⟩ := cM2 r1 hx
  obtain ⟨⟨old, s1⟩, s2⟩ := st
  have c2 : s.heap.IsTuple l its.toArray := c1
  have hl1 : l ≠ it := fun z => by
   subst z
   obtain ⟨o, a, b, _⟩ := s2
   obtain ⟨o2, a2, b2, _⟩ := c2
   rw [a] at a2
   cases a2
   rw [b] at b2
   exact absurd b2 (by decide)
  have hl2 : e ∉ [it, l] := fun z => by
   simp only [List.mem_cons, List.not_mem_nil, or_false] at z
   rcases z with z | z
   · exact hne z
   · subst z
     obtain ⟨o2, a2, b2, _⟩ := c2
     rw [s1] at a2
     cases a2
     have b3 : Value.type "enumerate" = Value.type "tuple" := b2
     exact absurd b3 (by decide)
  have hlt : i < its.toArray.size := by
   rcases Nat.lt_or_ge i its.toArray.size with z | z
   · exact z
   · rw [Array.getElem?_eq_none z] at e1; cases e1
  refine wpAny_pyNext_enum_itemD (bU7 (A := X.A.in1) (I.ok.hd hc) it l hl1 its.toArray) s1 ⟨s2, c2⟩ hlt hne hl2 fun y g tk b0 b1 b2 b3 b4 b5 => ⟨_, rfl, ?_⟩
  have hy : y = u := by rw [e1] at b0; cases b0; rfl
  subst hy
  refine wpAny_letOwnedTupleGo_enum b1 fun g2 c1' sb => ?_
  have elt : e < s.heap.objs.size := Heap.lt_size s1
  have ilt : it < s.heap.objs.size := by obtain ⟨_, q, _⟩ := s2; exact Heap.lt_size q
  have keep : ∀ b o, b ∉ [e, it] → s.heap.get? b = some o → g2.get? b = some o := fun b o hb q => by
   simp only [List.mem_cons, List.not_mem_nil, or_false, not_or] at hb
   exact (sb.2 b hb.1).trans (b5 b o hb.1 hb.2 q)
  have hnew : aC7 g2 s.heap.objs.size [.int (i : Int) tk, y].toArray := ⟨_, (sb.2 _ (Nat.ne_of_gt elt)).trans b3, rfl, _, rfl⟩
  have hq : H s.heap.objs.size = none := I.hok.fresh (Nat.le_refl _)
  refine ⟨.ref s.heap.objs.size, upd H s.heap.objs.size (.tup [.int i, x]), bO2 I hf keep (by show 2 ≤ sizeLine; decide) (.cons ⟨_, rfl⟩ (.cons ru .nil)) hnew, rfl, ⟨_, x, hq, rfl, rfl, fun xs' h => by rw [I.tuple_inj h q1]; exact hx⟩, ?_, fun b hb => ?_⟩
  · exact ⟨⟨_, c1'⟩, b2.1.at fun o q => (sb.2 _ (Ne.symm hne)).trans q⟩
  · have hb' : b < s.heap.objs.size := by
     simp only [List.mem_cons, List.not_mem_nil, or_false] at hb
     rcases hb with rfl | rfl
     · exact elt
     · exact ilt
    rw [J6 (Nat.ne_of_lt hb')]
    exact (hf b hb).1
 done := by
  intro X hP hw hK hc i pins s σ H E I hf st hg
  subst hP hw hK
  obtain ⟨xs, q1, hend⟩ := hg
  obtain ⟨its, r1, c1, z1⟩ := I.tuple q1
  obtain ⟨⟨old, s1⟩, s2⟩ := st
  have hl := r1.length
  have c2 : s.heap.IsTuple l its.toArray := c1
  refine aN8 (I.ok.hd hc) s1 s2 c2 (by simp; omega) fun g b7 => ⟨rfl, aW8 (t' := s.toks) I hf fun b o hb q => ?_⟩
  simp only [List.mem_cons, List.not_mem_nil, or_false, not_or] at hb
  exact b7 b o hb.2 q
 self := fun _ _ _ _ _ st h => by obtain ⟨⟨old, s1⟩, _⟩ := st; exact wpAny_pyIter_enum s1 h
def dR8 (K : PySem.W.Frag) (ta : TA) : TI := fun σ H R => ta σ H fun vs H1 => ∃ a xs, vs = [.ref a] ∧ SqT K H1 a xs ∧ R (dS3 K a) H1
section
variable {X : Cx} {Z : XC}
theorem cX3 {es : List Expr} {x1 : Nat} {tp : Pos} {a : Expr} {ta : TA} {p pos : Pos} (hg : Gl X "enumerate") (hm : X.mg "enumerate" = none) (ha : PA X [a] ta) (hs : starEach [a] X.env = [(false, eval a X.env)]) (hbt : bootBuiltins "enumerate" = some (.type "enumerate")) :
 PI X (.Tuple es x1 tp) (.Call (.Name "enumerate" p) [a] [] pos) (dR8 X.K ta) := by
 intro pins s σ H R I h
 refine Call_ (bA8 I hg hm hbt (PyProof.Rows.callWith_type1 (thn (ha pos pins s σ H _ I h) fun us s1 ⟨vs, H1, I1, r1, q1⟩ => ?_) hs rfl))
 obtain ⟨l, xs, rfl, q1, q⟩ := q1
 obtain ⟨u1, rfl, ru1⟩ := aE3 r1
 cases ru1
 obtain ⟨its, rr, c1, z1⟩ := I1.tuple q1
 refine cG7 (show s1.heap.IsTuple l its.toArray from c1) fun g b1 b2 b3 b4 => wpAny_pyIter_enum b1 ?_
 have hne : @Ne Nat (s1.heap.objs.size + 1) s1.heap.objs.size := by omega
 refine ⟨s1.heap.objs.size + 1, [s1.heap.objs.size + 1, s1.heap.objs.size], _, dS3 X.K l, H1, rfl, I1.kept (t' := s1.toks) b4, cG8 hne, ⟨⟨_, b1⟩, b2⟩, fun b hb => ?_, q⟩
 have hb' : s1.heap.objs.size ≤ b := by
  simp only [List.mem_cons, List.not_mem_nil, or_false] at hb
  rcases hb with rfl | rfl
  · exact Nat.le_succ _
  · exact Nat.le_refl _
 exact I1.fpOk hb' (I1.hok.fresh hb')
def bF0 (fs : DSt → M (List D)) : DSt → M Src := fun σ => do
 match ← fs σ with
 | [.tup l] => pure ⟨l.zipIdx.map fun p => .tup [.int ((p.2 : Nat) : Int), p.1], fun _ => true⟩
 | _ => M.stuck
theorem di_eT {es : List Expr} {x1 : Nat} {tp : Pos} {a : Expr} {fs : DSt → M (List D)} {p pos : Pos} (hb : BLs X.mg) (hg : Gl X "enumerate") (ha : DA X Z [a] fs) (hs : aI5 a = true) :
 DI X Z (.Tuple es x1 tp) (.Call (.Name "enumerate" p) [a] [] pos) (bF0 fs) :=
 DI.of (cX3 hg (hb.h _ (by decide +kernel)) ha.h (bH2 hs) aX9) fun σ H R hE0 => hE0.elim fun dσ μ G s h p => ⟨dσ, μ, G, s, h, (g8.bind p).mono fun ds μ1 G1 H1 x1 h1 p1 vs rv => by
  rcases ds with _ | ⟨_ | _ | _ | _ | l | _ | _ | _, _ | ⟨_, _⟩⟩ <;> dsimp only at p1 <;> try exact p1.elim
  · obtain ⟨v1, t1, rfl, r1, e⟩ := rv
    cases e
    unfold j0 at r1
    obtain ⟨a1, w1, rfl, q1, rl⟩ := r1
    refine ⟨a1, w1, rfl, q1, g8.ok p1 h1 _ fun μ' G' H' x' h' ck' i => ?_⟩
    have q1' := x'.sqT q1
    have l1' := rl.mono x'
    refine ⟨fun d hd => ?_, fun hi => ?_⟩
    · rw [List.getElem?_map, List.getElem?_zipIdx] at hd
      cases hz : l[i]? with
      | none => rw [hz] at hd; cases hd
      | some e1 =>
        rw [hz] at hd
        have hd' : d = .tup [.int ((i : Nat) : Int), e1] := by simpa using hd.symm
        subst hd'
        obtain ⟨y1, hy1, ry1⟩ := l1'.get hz
        refine ⟨⟨w1, y1, q1', hy1⟩, fun x H2 ⟨q, z1, hq, ex, eH, f1⟩ => ?_⟩
        subst ex eH
        have g1 := f1 w1 q1'
        rw [hy1] at g1
        cases g1
        exact cJ6 h' hq ⟨_, _, rfl, ofI, y1, _, rfl, ry1, rfl⟩
    · refine ⟨w1, q1', ?_⟩
      rw [← l1'.length]
      simpa using hi⟩
end
end DL
namespace W
open PySem PySem.Spec L2 DL
open PyProof.Rows hiding St
theorem cS8 {G : DH} {σ : DSt} {fs : DSt → M (List D)} {R : Src → DH → Prop} {l : List D} (h : Wp (fs σ) G fun xs G1 => xs = [.tup l] ∧ R ⟨l.zipIdx.map fun p => .tup [.int ((p.2 : Nat) : Int), p.1], fun _ => true⟩ G1) : Wp (bF0 fs σ) G R := by
 delta bF0
 refine m5.mpr (Wp.mono h fun xs G1 ⟨e, q⟩ => ?_)
 subst e
 exact j6.mpr q
end W
namespace DL
open PySem PySem.Spec L2
open PyProof.Rows hiding St
theorem cK9 {α : Type} {m m' : M α} {G G' : DH} {Q : α → DH → Prop} (e : m G = m' G') (w : Wp m' G' Q) : Wp m G Q := by
 unfold Wp at w ⊢; rw [e]; exact w
theorem d9 {α : Type} {m : M α} {a : α} {G G' : DH} {Q : α → DH → Prop} (e : m G = some (.ok a, G')) (q : Q a G') : Wp m G Q := ⟨a, G', e, q⟩
noncomputable def PB (Q : DPP) : Fl → DH → Prop
 | .nx _, G => Q .non G
 | .rt d, G => Q d G
 | _, _ => False
section
variable {m : Nat} {f S g : Fs} {ds as : List D} {d : D} {G G' : DH} {Q : DPP} {P A : Fl → DH → Prop} {σ σ' : DSt} {F : List D → M D} {e : Fe}
theorem R3 (w : Wp (f (ds.map some ++ List.replicate (m - ds.length) none)) G (PB Q)) : Wp (K9 m f ds) G Q :=
 aT6.mpr (w.mono fun fl G1 h => match fl, h with
  | .nx _, h => h
  | .rt _, h => h
  | .bk _, h => h.elim
  | .ct _, h => h.elim)
theorem aD1 (q : Q d G) : PB Q (.rt d) G := q
theorem bF2 (e : f (ds.map some ++ List.replicate (m - ds.length) none) G = some (.ok (.rt d), G')) (q : Q d G') : Wp (K9 m f ds) G Q := R3 (d9 e q)
theorem dF5 (e : f (ds.map some ++ List.replicate (m - ds.length) none) G = g σ G') (w : Wp (g σ) G' (PB Q)) : Wp (K9 m f ds) G Q := R3 (cK9 e w)
theorem bV5 (C : Fs → Fs) (g : Fs) (σ : DSt) (h : f = C g) (e : ∀ g, C g (ds.map some ++ List.replicate (m - ds.length) none) G = g σ G') (w : Wp (g σ) G' (PB Q)) : Wp (K9 m f ds) G Q := by
 subst h; exact dF5 (e g) w
theorem o7 (e : S σ G = some (.ok (.nx σ'), G')) (w : Wp (g σ') G' P) : Wp (j8 S g σ) G P := j7.mpr (d9 e w)
theorem bP1 (e : S σ G = some (.ok (.rt d), G')) (q : P (.rt d) G') : Wp (j8 S g σ) G P := j7.mpr (d9 e q)
theorem cV2 (w : Wp (S σ) G A) (k : ∀ fl G1, A fl G1 → match fl with
 | .nx σ' => Wp (g σ') G1 P
 | r => P r G1) : Wp (j8 S g σ) G P := j7.mpr (w.mono k)
theorem dE3 {A : DH → Prop} (w : Wp (S σ) G fun fl G1 => fl = .rt d ∧ A G1) (q : ∀ G1, A G1 → P (.rt d) G1) : Wp (j8 S g σ) G P :=
 cV2 w fun fl G1 h => by obtain ⟨rfl, h⟩ := h; exact q G1 h
theorem cD0 {m : M D} (k : D → DSt) (e : S σ G = (m >>= fun d => pure (Fl.nx (k d))) G') (w : Wp m G' fun d G1 => Wp (g (k d)) G1 P) : Wp (j8 S g σ) G P :=
 j7.mpr (cK9 e (m5.mpr (w.mono fun a G1 q => j6.mpr q)))
theorem bR7 {α : Type} {m : M α} {R : α → DH → Prop} (w : Wp m G R) : Wp (noX m) G R := bR4.mpr w
end
section
variable {α : Type} {m n : Nat} {f g : Fs} {a b c : Fe} {t : DSt → M Bool} {fs : DSt → M (List D)} {as : List D} {d x y z : D} {k : Bool} {G G1 G2 : DH} {Q : DPP} {P : Fl → DH → Prop} {R : List D → DH → Prop} {B : Bool → DH → Prop} {σ : DSt} {F : List D → M D} {o : D → D → M D}
theorem aZ3 (e : t σ G = some (.ok true, G1)) (w : Wp (f σ) G1 P) : Wp (ifS t f g σ) G P := bY4.mpr (d9 e w)
theorem eK4 (e : t σ G = some (.ok false, G1)) (w : Wp (g σ) G1 P) : Wp (ifS t f g σ) G P := bY4.mpr (d9 e w)
theorem aH2 (w : Wp (t σ) G fun k G1 => (k = true → Wp (f σ) G1 P) ∧ (k = false → Wp (g σ) G1 P)) : Wp (ifS t f g σ) G P :=
 bY4.mpr (w.mono fun k G1 h => by cases k with | true => exact h.1 rfl | false => exact h.2 rfl)
theorem aK6 {u : DSt → M Bool} (w : Wp (t σ) G fun k G1 => (k = true → Wp (u σ) G1 B) ∧ (k = false → B false G1)) : Wp (aF6 t u σ) G B :=
 bT9.mpr (w.mono fun k G1 h => by cases k with | true => exact h.1 rfl | false => exact h.2 rfl)
theorem cD9 {u : DSt → M Bool} (w : Wp (t σ) G fun k G1 => (k = true → B true G1) ∧ (k = false → Wp (u σ) G1 B)) : Wp (orT t u σ) G B :=
 dU6.mpr (w.mono fun k G1 h => by cases k with | true => exact h.1 rfl | false => exact h.2 rfl)
theorem aY9 {i : Nat} {S : DSt → Prop} {R : DPP} (hS : S (σ.set i (some d))) (w : Wp (a (σ.set i (some d))) G R) : Wp (q15 i d σ) G fun σ1 G1 => G1 = G ∧ S σ1 ∧ Wp (V2 σ1) G fun b G2 => b = true ∧ G2 = G ∧ Wp (a σ1) G R :=
 V9.mpr ⟨rfl, hS, W.wp_trueT.mpr ⟨rfl, rfl, w⟩⟩
theorem cA7 {g : Fg} {caps : List (Option Nat)} {j : Int} (e : fs σ G = some (.ok [.int j], G1)) (h0 : 0 ≤ j) (h1 : j ≤ 10000) (w : Wp (K4 g t a (fun _ => true) (K8 0 j.toNat) (U6 caps σ)) G1 fun ys G2 => Q (.ref G2.length) (G2 ++ [.lst ys])) : Wp (R8 (V5 fs) caps g t a σ) G Q := by
 refine W.wp_comp.mpr (W.rng1.mpr (d9 e ((W.rng1_int ⟨by omega, by omega⟩).mpr ⟨?_, w⟩)))
 show (K8 0 j.toNat).length ≤ sizeLine
 unfold K8; rw [List.length_map, List.length_range]
 exact Nat.le_trans (by omega) (show 10000 ≤ sizeLine by decide)
theorem Z9 {g : Fg} {caps : List (Option Nat)} {l : List D} (e : b σ G = some (.ok (.tup l), G1)) (h : l.length ≤ 10000) (w : Wp (K4 g t a (fun _ => true) l (U6 caps σ)) G1 fun ys G2 => Q (.ref G2.length) (G2 ++ [.lst ys])) : Wp (R8 (itW b) caps g t a σ) G Q :=
 W.wp_comp.mpr (W.wp_itW.mpr (d9 e (W.srcW_tup.mpr ⟨Nat.le_trans h (show 10000 ≤ sizeLine by decide), w⟩)))
theorem bG2 {A : Fl → DH → Prop} (w : Wp (t σ) G fun k G1 => (k = true → Wp (f σ) G1 A) ∧ (k = false → Wp (g σ) G1 A)) (k : ∀ fl G1, A fl G1 → P fl G1) : Wp (ifS t f g σ) G P := (aH2 w).mono k
theorem M9 {i : Nat} (w : Wp (a σ) G fun d G1 => P (.nx (σ.set i (some d))) G1) : Wp (o9 a (q15 i) σ) G P := aF8.mpr (w.mono fun _ _ h => V9.mpr h)
theorem R1 (w : Wp (a σ) G fun d G1 => P (.rt d) G1) : Wp (K5 a σ) G P := aV4.mpr w
theorem m9 (e : fs σ G = some (.ok as, G1)) (h : as.length = n) (w : Wp (F as) G1 Q) : Wp (q16 (fnX n F) fs σ) G Q := aI6.mpr (d9 e (aB6.mpr ⟨h, w⟩))
theorem aP7 (e : fs σ G = some (.ok as, G1)) (w : Wp (F as) G1 Q) : Wp (q16 F fs σ) G Q := aI6.mpr (d9 e w)
theorem P0 (w : Wp (fs σ) G fun as G1 => Wp (F as) G1 Q) : Wp (q16 F fs σ) G Q := aI6.mpr w
theorem Q3 (ea : a σ G = some (.ok x, G1)) (eb : b σ G1 = some (.ok y, G2)) (w : Wp (o x y) G2 Q) : Wp (d7 o a b σ) G Q := aO0.mpr (d9 ea (d9 eb w))
theorem o6 (w : Wp (a σ) G fun x G1 => Wp (b σ) G1 fun y G2 => Wp (o x y) G2 Q) : Wp (d7 o a b σ) G Q := aO0.mpr w
theorem J3 (e : a σ G = some (.ok x, G1)) (w : Wp (fs σ) G1 fun xs G2 => R (x :: xs) G2) : Wp (q13 a fs σ) G R := aB0.mpr (d9 e w)
theorem m8 (w : Wp (a σ) G fun x G1 => Wp (fs σ) G1 fun xs G2 => R (x :: xs) G2) : Wp (q13 a fs σ) G R := aB0.mpr w
theorem J4 (w : Wp (a σ) G fun x G1 => ∃ k, x = .bl k ∧ B k G1) : Wp (o5 a σ) G B := bT5.mpr w
end
def FH (K : PySem.W.Frag) (x : Str) (st : Stmt) : Prop := ∃ (f : Addr) (od an : Option Addr) (sl : Array (Option Value)) (oc kV dc pm cd ct : Value), PySem.W.nsIn K mainGlobals x = some (some (.ref f)) ∧
 K.lookup f = some ⟨oc, od, .func (PySem.W.fnOf x x (aA8 st) (Z4 st) (m7 st) .none kV dc pm an cd ct), sl⟩ ∧ PySem.W.codeIn K cd x = true ∧ PySem.W.keepIn K (.ref f) = true
section
variable {K : PySem.W.Frag} {h : Heap} {mg : Str → Option Value} {x : Str} {st : Stmt}
theorem FH.of {f : Addr} {od an : Option Addr} {sl : Array (Option Value)} {oc kV dc pm cd ct : Value} (a : PySem.W.nsIn K mainGlobals x = some (some (.ref f)))
 (l : K.lookup f = some ⟨oc, od, .func (PySem.W.fnOf x x (aA8 st) (Z4 st) (m7 st) .none kV dc pm an cd ct), sl⟩) (e : PySem.W.codeIn K cd x = true) (k : PySem.W.keepIn K (.ref f) = true) : FH K x st :=
 ⟨f, od, an, sl, oc, kV, dc, pm, cd, ct, a, l, e, k⟩
variable {ps : List Str} {p1 p2 p3 p4 p5 p6 : Str}
theorem FH.ff (H : FH K x st) (X : K.In h) (G : h.Ns mainGlobals mg) (b : ∀ (kV doc pm : Value) (an : Option Addr) (cdv ct : Value) (us : List Value), us.length = ps.length → bindArgs (PySem.W.fnOf x x (aA8 st) (Z4 st) (m7 st) .none kV doc pm an cdv ct) ⟨us, []⟩ = pure (ps.zip us)) : ∃ f fd, FF K mg x st ps f fd := by
 obtain ⟨f, od, an, sl, oc, kV, dc, pm, cd, ct, a, l, e, k⟩ := H
 exact ⟨_, _, bU1 l e k, (bU1 l e k).binds b, PySem.W.mg_of X G a⟩
theorem aQ7 {α : Type} {us : List α} {n : Nat} (h : us.length = n + 1) : ∃ a t, us = a :: t ∧ t.length = n := by
 cases us with
 | nil => cases h
 | cons a t => exact ⟨a, t, rfl, Nat.succ.inj h⟩
theorem FH.ff0 (H : FH K x st) (X : K.In h) (G : h.Ns mainGlobals mg) (b : ∀ kV doc pm an cdv ct, bindArgs (PySem.W.fnOf x x (aA8 st) (Z4 st) (m7 st) .none kV doc pm an cdv ct) ⟨[], []⟩ = pure []) : ∃ f fd, FF K mg x st [] f fd :=
 H.ff X G fun kV doc pm an cdv ct us hl => by cases List.eq_nil_of_length_eq_zero hl; exact b _ _ _ _ _ _
theorem FH.ff1 (H : FH K x st) (X : K.In h) (G : h.Ns mainGlobals mg) (b : ∀ kV doc pm an cdv ct v1, bindArgs (PySem.W.fnOf x x (aA8 st) (Z4 st) (m7 st) .none kV doc pm an cdv ct) ⟨[v1], []⟩ = pure [(p1, v1)]) : ∃ f fd, FF K mg x st [p1] f fd :=
 H.ff X G fun kV doc pm an cdv ct us h0 => by
  obtain ⟨v1, w1, rfl, h1⟩ := aQ7 h0
  cases List.eq_nil_of_length_eq_zero h1
  exact b _ _ _ _ _ _ _
theorem FH.ff2 (H : FH K x st) (X : K.In h) (G : h.Ns mainGlobals mg) (b : ∀ kV doc pm an cdv ct v1 v2, bindArgs (PySem.W.fnOf x x (aA8 st) (Z4 st) (m7 st) .none kV doc pm an cdv ct) ⟨[v1, v2], []⟩ = pure [(p1, v1), (p2, v2)]) : ∃ f fd, FF K mg x st [p1, p2] f fd :=
 H.ff X G fun kV doc pm an cdv ct us h0 => by
  obtain ⟨v1, w1, rfl, h1⟩ := aQ7 h0
  obtain ⟨v2, w2, rfl, h2⟩ := aQ7 h1
  cases List.eq_nil_of_length_eq_zero h2
  exact b _ _ _ _ _ _ _ _
theorem FH.ff3 (H : FH K x st) (X : K.In h) (G : h.Ns mainGlobals mg) (b : ∀ kV doc pm an cdv ct v1 v2 v3, bindArgs (PySem.W.fnOf x x (aA8 st) (Z4 st) (m7 st) .none kV doc pm an cdv ct) ⟨[v1, v2, v3], []⟩ = pure [(p1, v1), (p2, v2), (p3, v3)]) : ∃ f fd, FF K mg x st [p1, p2, p3] f fd :=
 H.ff X G fun kV doc pm an cdv ct us h0 => by
  obtain ⟨v1, w1, rfl, h1⟩ := aQ7 h0
  obtain ⟨v2, w2, rfl, h2⟩ := aQ7 h1
  obtain ⟨v3, w3, rfl, h3⟩ := aQ7 h2
  cases List.eq_nil_of_length_eq_zero h3
  exact b _ _ _ _ _ _ _ _ _
theorem FH.ff5 (H : FH K x st) (X : K.In h) (G : h.Ns mainGlobals mg) (b : ∀ kV doc pm an cdv ct v1 v2 v3 v4 v5, bindArgs (PySem.W.fnOf x x (aA8 st) (Z4 st) (m7 st) .none kV doc pm an cdv ct) ⟨[v1, v2, v3, v4, v5], []⟩ = pure [(p1, v1), (p2, v2), (p3, v3), (p4, v4), (p5, v5)]) : ∃ f fd, FF K mg x st [p1, p2, p3, p4, p5] f fd :=
 H.ff X G fun kV doc pm an cdv ct us h0 => by
  obtain ⟨v1, w1, rfl, h1⟩ := aQ7 h0
  obtain ⟨v2, w2, rfl, h2⟩ := aQ7 h1
  obtain ⟨v3, w3, rfl, h3⟩ := aQ7 h2
  obtain ⟨v4, w4, rfl, h4⟩ := aQ7 h3
  obtain ⟨v5, w5, rfl, h5⟩ := aQ7 h4
  cases List.eq_nil_of_length_eq_zero h5
  exact b _ _ _ _ _ _ _ _ _ _ _
theorem BLs.of (X : K.In h) (G : h.Ns mainGlobals mg) (z : ∀ b ∈ bltL, PySem.W.nsIn K mainGlobals b = some none) : BLs mg := ⟨fun b hb => PySem.W.mg_none_of X G (z b hb)⟩
end
def ltI : D → D → M D := fun x y => match x, y with
 | .int i, .int j => pure (.bl (decide (i < j)))
 | .str i, .str j => pure (.bl (decide (i.cps.toList < j.cps.toList)))
 | _, _ => M.stuck
theorem od_ltI {X : Cx} {Z : XC} : OpD X Z (compareOp .Lt) ltI := bT4 eF8 (fun _ _ _ _ _ _ _ q => PySem.P.lt_str q) (fun _ _ => rfl) (fun _ _ => rfl) fun x y n1 n2 => by
 cases x <;> cases y <;> first
  | rfl
  | exact absurd ⟨rfl, rfl⟩ (n1 _ _)
  | exact absurd ⟨rfl, rfl⟩ (n2 _ _)
theorem aT4 {i j : Int} {G : DH} {Q : DPP} : Wp (ltI (.int i) (.int j)) G Q ↔ Q (.bl (decide (i < j))) G := j6
end DL
namespace W
open PySem PySem.Spec L2 DL
open PyProof.Rows hiding St
def aS1 : Fs := j8 (o9 (cE (.int 0)) (q15 3)) (j8 (ifS (o5 (d7 neD (c7 0) (S5 (q14)))) (o9 (d7 bH1 (q16 cO3 (q13 (c7 0) (q14))) (cE (.int 2))) (q15 3)) (K6)) (K5 (S5 (q13 (c7 1) (q13 (d7 bH1 (d7 aU4 (d7 Q4 (d7 Q4 (d7 bH1 (c7 1) (cE (.int 2147483629))) (d7 aU4 (cE (.int 7919)) (c7 2))) (cE (.int 1))) (cE (.int 48271))) (cE (.int 2147483647))) (q13 (c7 3) (q13 (cE (.int 0)) (q14))))))))
def aG4 : List D → M D := K9 4 aS1
def aQ4 : Fs := j8 (ifS (o5 (d7 eqD (d7 ixD (c7 0) (cE (.int 2))) (cE (.int 0)))) (j8 (o9 (d7 bH1 (d7 ixD (c7 0) (cE (.int 0))) (c7 1)) (q15 2)) (j8 (o9 (d7 bZ4 (d7 ixD (c7 0) (cE (.int 0))) (c7 1)) (aR1 (c7 0) (cE (.int 0)))) (K5 (c7 2)))) (K6)) (j8 (o9 (d7 Q4 (d7 bH1 (d7 aU4 (d7 ixD (c7 0) (cE (.int 1))) (d7 ixD (c7 0) (cE (.int 1)))) (cE (.int 2147483629))) (cE (.int 3))) (aR1 (c7 0) (cE (.int 1)))) (K5 (d7 bH1 (d7 bZ4 (d7 bH1 (d7 aU4 (d7 ixD (c7 0) (cE (.int 1))) (cE (.int 69621))) (cE (.int 2147483563))) (cE (.int 8))) (c7 1))))
def d8 : List D → M D := K9 3 aQ4
def LT : Fs := (o9 (d7 Q4 (c7 3) (d7 ixD (cE (.str ("abcdefghijklmnopqrstuvwxyz" : Str))) (q16 (fnX 2 d8) (q13 (c7 0) (q13 (cE (.int 26)) (q14)))))) (q15 3))
def aD9 : Fs := j8 (o9 (cE (.str ("" : Str))) (q15 3)) (j8 (aI3 (V5 (q13 (d7 Q4 (c7 1) (q16 (fnX 2 d8) (q13 (c7 0) (q13 (d7 Q4 (d7 aQ3 (c7 2) (c7 1)) (cE (.int 1))) (q14))))) (q14))) (q15 4) LT) (K5 (c7 3)))
def Q8 : List D → M D := K9 5 aD9
def NB : Fs := (j8 (o9 (d7 ixD (S5 (q13 (cE (.str ("a" : Str))) (q13 (cE (.str ("b" : Str))) (q13 (cE (.str ("ab" : Str))) (q13 (cE (.str ("ba" : Str))) (q13 (cE (.str ("abc" : Str))) (q13 (cE (.str ("z" : Str))) (q13 (cE (.str ("zz" : Str))) (q13 (cE (.str ("zzzzzzzz" : Str))) (q14)))))))))) (q16 (fnX 2 d8) (q13 (c7 0) (q13 (cE (.int 8)) (q14))))) (q15 3)) (j8 (ifS (o5 (d7 eqD (q16 (fnX 2 d8) (q13 (c7 0) (q13 (cE (.int 3)) (q14)))) (cE (.int 1)))) (o9 (q16 (fnX 3 Q8) (q13 (c7 0) (q13 (cE (.int 1)) (q13 (cE (.int 8)) (q14))))) (q15 3)) (K6)) (o9 (cE (.bl true)) (aR1 (c7 1) (c7 3)))))
def aI2 : Fs := j8 (o9 (aN4) (q15 1)) (j8 (aI3 (V5 (q13 (q16 (fnX 2 d8) (q13 (c7 0) (q13 (d7 ixD (S5 (q13 (cE (.int 4)) (q13 (cE (.int 9)) (q14)))) (q16 (fnX 2 d8) (q13 (c7 0) (q13 (cE (.int 2)) (q14))))) (q14)))) (q14))) (q15 2) NB) (K5 (q16 aE1 (q13 (c7 1) (q14)))))
def K1 : List D → M D := K9 4 aI2
def aL8 : Fs := j8 (ifS (o5 (d7 eqD (q16 (fnX 2 d8) (q13 (c7 0) (q13 (cE (.int 3)) (q14)))) (cE (.int 1)))) (K5 (d7 aQ3 (q16 (fnX 2 d8) (q13 (c7 0) (q13 (d7 Q4 (d7 aU4 (cE (.int 2)) (d7 cE8 (cE (.int 10)) (cE (.int 18)))) (cE (.int 1))) (q14)))) (d7 cE8 (cE (.int 10)) (cE (.int 18))))) (K6)) (K5 (d7 ixD (S5 (q13 (cE (.int 0)) (q13 (cE (.int 1)) (q13 (unE bQ5 (cE (.int 1))) (q13 (cE (.int 2)) (q13 (unE bQ5 (cE (.int 2))) (q13 (cE (.int 3)) (q13 (cE (.int 10)) (q13 (unE bQ5 (cE (.int 10))) (q13 (d7 cE8 (cE (.int 10)) (cE (.int 18))) (q13 (d7 aQ3 (cE (.int 0)) (d7 cE8 (cE (.int 10)) (cE (.int 18)))) (q14)))))))))))) (q16 (fnX 2 d8) (q13 (c7 0) (q13 (cE (.int 10)) (q14))))))
def M6 : List D → M D := K9 1 aL8
def SA : Fs := (j8 (o9 (d7 Q4 (d7 Q4 (c7 2) (cE (.int 2))) (q16 (fnX 2 d8) (q13 (c7 0) (q13 (d7 ixD (S5 (q13 (cE (.int 3)) (q13 (cE (.int 50)) (q14)))) (q16 (fnX 2 d8) (q13 (c7 0) (q13 (cE (.int 2)) (q14))))) (q14))))) (q15 2)) (j8 (o9 (d7 Q4 (c7 2) (d7 ixD (S5 (q13 (cE (.int 0)) (q13 (cE (.int 1)) (q13 (q16 (fnX 2 d8) (q13 (c7 0) (q13 (cE (.int 20)) (q14)))) (q14))))) (q16 (fnX 2 d8) (q13 (c7 0) (q13 (cE (.int 3)) (q14)))))) (q15 5)) (j8 (aV1 (mtE aD5 aG3 (c7 3) (q13 (t6 (q13 (c7 2) (q13 (c7 5) (q14)))) (q14)))) (o9 (c7 5) (q15 2)))))
def SC : Fs := (ifS (aF6 (o5 (d7 neD (c7 3) (S5 (q14)))) (o5 (d7 eqD (q16 (fnX 2 d8) (q13 (c7 0) (q13 (cE (.int 3)) (q14)))) (cE (.int 1))))) (o9 (t6 (q13 (cE .non) (q13 (d7 ixD (d7 ixD (c7 3) (cE (.int 0))) (cE (.int 1))) (q14)))) (aR1 (c7 3) (cE (.int 0)))) (K6))
def SD : Fs := (ifS (aF6 (o5 (d7 neD (c7 3) (S5 (q14)))) (o5 (d7 eqD (q16 (fnX 2 d8) (q13 (c7 0) (q13 (cE (.int 3)) (q14)))) (cE (.int 1))))) (o9 (t6 (q13 (d7 ixD (d7 ixD (c7 3) (unE bQ5 (cE (.int 1)))) (cE (.int 0))) (q13 (cE .non) (q14)))) (aR1 (c7 3) (unE bQ5 (cE (.int 1))))) (K6))
def aB1 : Fs := j8 (o9 (q16 cQ1 (q13 (d7 aQ3 (d7 cE8 (cE (.int 10)) (cE (.int 18))) (cE (.int 1000))) (q13 (q16 (fnX 1 M6) (q13 (c7 0) (q14))) (q14)))) (q15 2)) (j8 (o9 (S5 (q14)) (q15 3)) (j8 (aI3 (V5 (q13 (q16 (fnX 2 d8) (q13 (c7 0) (q13 (d7 Q4 (c7 1) (cE (.int 1))) (q14)))) (q14))) (q15 4) SA) (j8 SC (j8 SD (K5 (q16 aA5 (q13 (c7 3) (q14))))))))
def N7 : List D → M D := K9 6 aB1
def aQ8 : Fs := j8 (ifS (o5 (d7 eqD (q16 (fnX 2 d8) (q13 (c7 0) (q13 (cE (.int 3)) (q14)))) (cE (.int 1)))) (K5 (q16 (fnX 3 Q8) (q13 (c7 0) (q13 (cE (.int 0)) (q13 (cE (.int 20)) (q14)))))) (K6)) (K5 (d7 ixD (S5 (q13 (cE (.str ("" : Str))) (q13 (cE (.str ("a" : Str))) (q13 (cE (.str ("b" : Str))) (q13 (cE (.str ("aa" : Str))) (q13 (cE (.str ("ab" : Str))) (q13 (cE (.str ("ba" : Str))) (q13 (cE (.str ("abc" : Str))) (q13 (cE (.str ("z" : Str))) (q13 (cE (.str ("true" : Str))) (q13 (d7 aU4 (cE (.str ("z" : Str))) (cE (.int 20))) (q14)))))))))))) (q16 (fnX 2 d8) (q13 (c7 0) (q13 (cE (.int 10)) (q14))))))
def V0 : List D → M D := K9 1 aQ8
def WA : Fs := (o9 (cE (.bl true)) (aR1 (c7 2) (q16 (fnX 1 V0) (q13 (c7 0) (q14)))))
def WB : Fs := (o9 (d7 Q4 (c7 4) (q16 aE1 (q13 (R8 (itW (c7 2)) [none, some 5] (q15 0) (o5 (d7 eqD (q16 aP0 (q13 (c7 0) (q14))) (c7 1))) (c7 0)) (q14)))) (q15 4))
def aO9 : Fs := j8 (o9 (aN4) (q15 2)) (j8 (aI3 (V5 (q13 (q16 (fnX 2 d8) (q13 (c7 0) (q13 (d7 Q4 (c7 1) (cE (.int 1))) (q14)))) (q14))) (q15 3) WA) (j8 (o9 (S5 (q14)) (q15 4)) (j8 (aI3 (V5 (q13 (cE (.int 21)) (q14))) (q15 5) WB) (K5 (t6 (q13 (d7 ixD (S5 (q13 (cE (.str ("of" : Str))) (q13 (cE (.str ("but" : Str))) (q14)))) (q16 (fnX 2 d8) (q13 (c7 0) (q13 (cE (.int 2)) (q14))))) (q13 (q16 aA5 (q13 (c7 4) (q14))) (q14))))))))
def aA6 : List D → M D := K9 6 aO9
def aJ2 : Fs := K5 (t6 (q13 (t6 (q14)) (q13 (t6 (q13 (cE (.str ("of" : Str))) (q13 (t6 (q14)) (q14)))) (q13 (t6 (q14)) (q13 (cE .non) (q13 (cE .non) (q14)))))))
def o4 : List D → M D := K9 0 aJ2
def FA : Fs := (ifS (aF6 (o5 (d7 aN6 (c7 3) (cE .non))) (o5 (d7 inX (q16 (fnX 0 o4) (q14)) (d7 ixD (c7 3) (cE (.int 0)))))) (o9 (cE .non) (q15 3)) (K6))
def FB : Fs := (ifS (aF6 (o5 (d7 aN6 (c7 4) (cE .non))) (o5 (d7 neD (R8 (itW (d7 ixD (c7 4) (cE (.int 0)))) [none] (q15 0) (aF6 (U0 (d7 ixD (c7 0) (cE (.int 1)))) (o5 (d7 eqD (d7 ixD (c7 0) (cE (.int 2))) (q16 (fnX 0 o4) (q14))))) (c7 0)) (S5 (q14))))) (o9 (cE .non) (q15 4)) (K6))
def FC : Fs := (ifS (o5 (d7 aN6 (c7 4) (cE .non))) (o9 (t6 (q13 (q16 aA5 (q13 (R8 (itW (d7 ixD (c7 4) (cE (.int 0)))) [none, some 4] (q15 0) (orT (U0 (d7 ixD (c7 0) (cE (.int 1)))) (o5 (d7 neD (d7 ixD (c7 0) (cE (.int 2))) (d7 ixD (c7 1) (cE (.int 1)))))) (c7 0)) (q14))) (q13 (d7 ixD (c7 4) (cE (.int 1))) (q14)))) (q15 4)) (K6))
def FE : Fs := (o9 (t6 (q13 (c7 0) (q13 (c7 1) (q13 (c7 2) (q13 (c7 3) (q13 (c7 4) (q14))))))) (q15 5))
def FF' : Fs := (o9 (t6 (q13 (t6 (q13 (t6 (q13 (cE .non) (q13 (cE .non) (q14)))) (q14))) (q13 (t6 (q13 (cE (.str ("but" : Str))) (q13 (t6 (q14)) (q14)))) (q13 (t6 (q13 (cE (.bl false)) (q13 (cE (.bl true)) (q14)))) (q13 (t6 (q13 (t6 (q14)) (q13 (cE (.str ("any" : Str))) (q14)))) (q13 (t6 (q13 (t6 (q14)) (q13 (cE (.str ("any" : Str))) (q14)))) (q14))))))) (q15 6))
def FG' : Fs := (K5 (ifE (o5 (d7 eqD (c7 5) (c7 6))) (cE (.str ("any" : Str))) (c7 5)))
def aU8 : Fs := j8 FA (j8 FB (j8 FC (j8 FE (j8 FF' FG'))))
def T7 : List D → M D := K9 7 aU8
def aV6 (R : List D → M D) : Fs := j8 (o9 (d7 ixD (S5 (q13 (t6 (q14)) (q13 (t6 (q13 (t6 (q13 (cE .non) (q13 (cE .non) (q14)))) (q14))) (q13 (q16 (fnX 2 N7) (q13 (c7 0) (q13 (cE (.int 3)) (q14)))) (q14))))) (q16 (fnX 2 d8) (q13 (c7 0) (q13 (cE (.int 3)) (q14))))) (q15 2)) (j8 (o9 (d7 ixD (S5 (q13 (t6 (q13 (cE (.str ("of" : Str))) (q13 (t6 (q14)) (q14)))) (q13 (t6 (q13 (cE (.str ("but" : Str))) (q13 (t6 (q14)) (q14)))) (q13 (q16 (fnX 2 aA6) (q13 (c7 0) (q13 (cE (.int 3)) (q14)))) (q14))))) (q16 (fnX 2 d8) (q13 (c7 0) (q13 (cE (.int 3)) (q14))))) (q15 3)) (j8 (o9 (d7 ixD (S5 (q13 (t6 (q14)) (q13 (t6 (q13 (cE (.bl false)) (q14))) (q13 (t6 (q13 (cE (.bl true)) (q14))) (q13 (t6 (q13 (cE (.bl false)) (q13 (cE (.bl true)) (q14)))) (q14)))))) (q16 (fnX 2 d8) (q13 (c7 0) (q13 (cE (.int 4)) (q14))))) (q15 4)) (K5 (d7 Q4 (t6 (q13 (c7 2) (q13 (c7 3) (q13 (c7 4) (q14))))) (q16 (fnX 2 R) (q13 (c7 0) (q13 (c7 1) (q14))))))))
def aF2 (R : List D → M D) : List D → M D := K9 5 (aV6 R)
def aV7 (R : List D → M D) : Fs := j8 (o9 (d7 Q4 (d7 ixD (c7 0) (cE (.int 3))) (cE (.int 1))) (aR1 (c7 0) (cE (.int 3)))) (j8 (o9 (q16 (fnX 2 d8) (q13 (c7 0) (q13 (cE (.int 6)) (q14)))) (q15 2)) (j8 (ifS (o5 (d7 ltI (c7 2) (cE (.int 2)))) (K5 (d7 ixD (S5 (q13 (cE (.str ("any" : Str))) (q13 (q16 (fnX 0 o4) (q14)) (q14)))) (c7 2))) (K6)) (j8 (o9 (q16 (fnX 2 (aF2 R)) (q13 (c7 0) (q13 (c7 1) (q14)))) (aG2 5 (J5 (q15 3) (J5 (q15 4) (J5 (q15 5) (J5 (q15 6) (J5 (q15 7) (aI4)))))))) (K5 (q16 (fnX 5 T7) (q13 (c7 3) (q13 (c7 4) (q13 (c7 5) (q13 (c7 6) (q13 (c7 7) (q14)))))))))))
def V4 (R : List D → M D) : List D → M D := K9 8 (aV7 R)
def PD (R : List D → M D) : Fs := (aV1 (mtE aD5 aG3 (c7 4) (q13 (t6 (q13 (c7 5) (q13 (d7 eqD (q16 (fnX 2 d8) (q13 (c7 0) (q13 (cE (.int 2)) (q14)))) (cE (.int 1))) (q13 (q16 (fnX 2 (V4 R)) (q13 (c7 0) (q13 (d7 aQ3 (c7 1) (cE (.int 1))) (q14)))) (q14))))) (q14))))
def PL (R : List D → M D) : Fs := (ifS (aF6 (o5 (d7 gtD (c7 1) (cE (.int 1)))) (aF6 (o5 (d7 ltI (d7 ixD (c7 0) (cE (.int 3))) (cE (.int 25)))) (o5 (d7 eqD (q16 (fnX 2 d8) (q13 (c7 0) (q13 (cE (.int 2)) (q14)))) (cE (.int 1)))))) (o9 (t6 (q13 (q16 aA5 (q13 (R8 (V5 (q13 (q16 (fnX 2 d8) (q13 (c7 0) (q13 (cE (.int 4)) (q14)))) (q14))) [none, some 1, some 0] (q15 0) (V2) (q16 (fnX 2 (V4 R)) (q13 (c7 2) (q13 (d7 aQ3 (c7 1) (cE (.int 1))) (q14))))) (q14))) (q13 (q16 (fnX 2 (V4 R)) (q13 (c7 0) (q13 (d7 aQ3 (c7 1) (cE (.int 1))) (q14)))) (q14)))) (q15 2)) (K6))
def PR (R : List D → M D) : Fs := (ifS (aF6 (o5 (d7 gtD (c7 1) (cE (.int 1)))) (aF6 (o5 (d7 ltI (d7 ixD (c7 0) (cE (.int 3))) (cE (.int 25)))) (o5 (d7 eqD (q16 (fnX 2 d8) (q13 (c7 0) (q13 (cE (.int 2)) (q14)))) (cE (.int 1)))))) (j8 (o9 (S5 (q14)) (q15 4)) (j8 (aI3 (itW (T9 (q16 (fnX 1 K1) (q13 (c7 0) (q14))) (W9) (W7 (cE (.int 4))))) (q15 5) (PD R)) (o9 (t6 (q13 (q16 aA5 (q13 (c7 4) (q14))) (q13 (q16 (fnX 2 (V4 R)) (q13 (c7 0) (q13 (d7 aQ3 (c7 1) (cE (.int 1))) (q14)))) (q14)))) (q15 3)))) (K6))
def W5 (R : List D → M D) : Fs := j8 (o9 (cE .non) (q15 2)) (j8 (o9 (cE .non) (q15 3)) (j8 (PL R) (j8 (PR R) (K5 (t6 (q13 (c7 2) (q13 (c7 3) (q14))))))))
def aA9 : Nat → List D → M D
 | 0 => fun _ => M.stuck
 | n + 1 => K9 6 (W5 (aA9 n))
def W0 : List D → M D := aA9 60
def aE4 : List D → M D := aF2 W0
def cD5 : List D → M D := V4 W0
def aH1 : Fs := K5 (ifE (orT (o5 (d7 bV2 (c7 0) (cE .non))) (o5 (d7 inX (cE (.tup [.tup [], .tup [.str ("of" : Str), .tup []], .tup [], .non, .non])) (d7 ixD (c7 0) (cE (.int 0)))))) (cE .non) (c7 0))
def Z8 : List D → M D := K9 1 aH1
def aD4 : Fs := j8 (ifS (orT (o5 (d7 bV2 (c7 0) (cE .non))) (U0 (q16 cG5 (q13 (R8 (itW (d7 ixD (c7 0) (cE (.int 0)))) [none, none, none] (aG2 3 (J5 (q15 0) (J5 (q15 1) (J5 (q15 2) (aI4))))) (V2) (aX7 (c7 1) (d7 eqD (c7 2) (cE (.tup [.tup [], .tup [.str ("of" : Str), .tup []], .tup [], .non, .non]))))) (q14))))) (K5 (cE .non)) (K6)) (K5 (t6 (q13 (q16 aA5 (q13 (R8 (itW (d7 ixD (c7 0) (cE (.int 0)))) [none, some 0] (q15 0) (orT (U0 (d7 ixD (c7 0) (cE (.int 1)))) (o5 (d7 neD (d7 ixD (c7 0) (cE (.int 2))) (d7 ixD (c7 1) (cE (.int 1)))))) (c7 0)) (q14))) (q13 (d7 ixD (c7 0) (cE (.int 1))) (q14)))))
def U9 : List D → M D := K9 1 aD4
def cE3 : Fs := j8 (o9 (t6 (q13 (c7 0) (q13 (c7 1) (q13 (c7 2) (q13 (q16 (fnX 1 Z8) (q13 (c7 3) (q14))) (q13 (q16 (fnX 1 U9) (q13 (c7 4) (q14))) (q14))))))) (q15 5)) (K5 (ifE (o5 (d7 eqD (c7 5) (cE (.tup [.tup [.tup [.non, .non]], .tup [.str ("but" : Str), .tup []], .tup [.bl false, .bl true], .tup [.tup [], .str ("any" : Str)], .tup [.tup [], .str ("any" : Str)]])))) (cE (.str ("any" : Str))) (c7 5)))
def bG3 : List D → M D := K9 6 cE3
def aR0 : Fs := K5 (q16 (fnX 5 bG3) (q13 (d7 ixD (c7 0) (cE (.int 0))) (q13 (d7 ixD (c7 0) (cE (.int 1))) (q13 (d7 ixD (c7 0) (cE (.int 2))) (q13 (d7 ixD (c7 0) (cE (.int 3))) (q13 (d7 ixD (c7 0) (cE (.int 4))) (q14)))))))
def R6 : List D → M D := K9 1 aR0
def VA (R : List D → M D) : Fs := (j8 (ifS (o5 (d7 eqD (c7 2) (cE (.int 6)))) (j8 (o9 (q16 (fnX 2 d8) (q13 (c7 0) (q13 (d7 ixD (S5 (q13 (cE (.int 4)) (q13 (cE (.int 9)) (q14)))) (q16 (fnX 2 d8) (q13 (c7 0) (q13 (cE (.int 2)) (q14))))) (q14)))) (q15 3)) (K5 (t6 (q13 (cE (.str ("list" : Str))) (q13 (q16 aA5 (q13 (R8 (V5 (q13 (c7 3) (q14))) [none, some 1, some 0] (q15 0) (V2) (q16 (fnX 2 R) (q13 (c7 2) (q13 (d7 aQ3 (c7 1) (cE (.int 1))) (q14))))) (q14))) (q14)))))) (K6)) (K5 (t6 (q13 (cE (.str ("record" : Str))) (q13 (q16 aA5 (q13 (R8 (itW (q16 (fnX 1 K1) (q13 (c7 0) (q14)))) [none, some 1, some 0] (q15 0) (V2) (t6 (q13 (c7 0) (q13 (q16 (fnX 2 R) (q13 (c7 2) (q13 (d7 aQ3 (c7 1) (cE (.int 1))) (q14)))) (q14))))) (q14))) (q14))))))
def VC : Fs := (j8 (ifS (o5 (d7 inD (c7 2) (t6 (q13 (cE (.int 0)) (q13 (cE (.int 3)) (q13 (cE (.int 6)) (q14))))))) (K5 (q16 (fnX 1 M6) (q13 (c7 0) (q14)))) (K6)) (j8 (ifS (o5 (d7 inD (c7 2) (t6 (q13 (cE (.int 1)) (q13 (cE (.int 4)) (q13 (cE (.int 7)) (q14))))))) (K5 (q16 (fnX 1 V0) (q13 (c7 0) (q14)))) (K6)) (K5 (d7 ixD (S5 (q13 (cE (.bl false)) (q13 (cE (.bl true)) (q14)))) (q16 (fnX 2 d8) (q13 (c7 0) (q13 (cE (.int 2)) (q14))))))))
def aE0 (R : List D → M D) : Fs := j8 (o9 (q16 (fnX 2 d8) (q13 (c7 0) (q13 (cE (.int 8)) (q14)))) (q15 2)) (j8 (o9 (d7 Q4 (d7 ixD (c7 0) (cE (.int 3))) (cE (.int 1))) (aR1 (c7 0) (cE (.int 3)))) (j8 (ifS (aF6 (o5 (d7 gtD (c7 2) (cE (.int 5)))) (aF6 (o5 (d7 gtD (c7 1) (cE (.int 1)))) (o5 (d7 ltI (d7 ixD (c7 0) (cE (.int 3))) (cE (.int 20)))))) (VA R) (K6)) VC))
def X8 : Nat → List D → M D
 | 0 => fun _ => M.stuck
 | n + 1 => K9 4 (aE0 (X8 n))
def aE2 : List D → M D := X8 6
def QA : Fs := (aV1 (mtE aD5 aG3 (c7 2) (q13 (d7 ixD (R8 (itW (S5 (q13 (c7 3) (q13 (c7 4) (q13 (cE (.int 0)) (q14)))))) [none] (q15 0) (o5 (d7 aN6 (c7 0) (cE .non))) (c7 0)) (cE (.int 0))) (q14))))
def QB : Fs := (ifS (aF6 (o5 (d7 aN6 (c7 3) (cE .non))) (o5 (d7 aN6 (c7 4) (cE .non)))) (aV1 (mtE aD5 aG3 (c7 2) (q13 (d7 Q4 (c7 3) (q16 (fnX 2 d8) (q13 (c7 0) (q13 (d7 Q4 (d7 aQ3 (c7 4) (c7 3)) (cE (.int 1))) (q14))))) (q14)))) (K6))
def QC : Fs := (ifS (o5 (d7 eqD (d7 ixD (d7 ixD (c7 1) (cE (.int 1))) (cE (.int 0))) (cE (.str ("of" : Str))))) (o9 (d7 Q4 (c7 2) (q16 bO3 (q13 (d7 ixD (d7 ixD (c7 1) (cE (.int 1))) (cE (.int 1))) (q14)))) (q15 2)) (j8 (o9 (S5 (q13 (cE (.str ("" : Str))) (q13 (cE (.str ("a" : Str))) (q13 (cE (.str ("zq" : Str))) (q13 (q16 (fnX 3 Q8) (q13 (c7 0) (q13 (cE (.int 5)) (q13 (cE (.int 20)) (q14))))) (q14)))))) (q15 5)) (o9 (d7 Q4 (c7 2) (R8 (itW (c7 5)) [none, some 1] (q15 0) (o5 (d7 aF3 (c7 0) (d7 ixD (d7 ixD (c7 1) (cE (.int 1))) (cE (.int 1))))) (c7 0))) (q15 2))))
def QR : Fs := (K5 (d7 Q4 (c7 2) (q16 bO3 (q13 (d7 ixD (c7 1) (cE (.int 2))) (q14)))))
def aC5 : Fs := j8 (o9 (S5 (q14)) (q15 2)) (j8 (aI3 (itW (d7 ixD (c7 1) (cE (.int 0)))) (aG2 2 (J5 (q15 3) (J5 (q15 4) (aI4)))) (j8 QA QB)) (j8 QC QR))
def S7 : List D → M D := K9 6 aC5
def O1 : Fs := (ifS (o5 (d7 eqD (c7 1) (cE (.str ("any" : Str))))) (K5 (q16 (fnX 2 aE2) (q13 (c7 0) (q13 (cE (.int 2)) (q14))))) (K6))
def O2 : Fs := (o9 (R8 (itW (q16 (fnX 2 S7) (q13 (c7 0) (q13 (c7 1) (q14))))) [none] (q15 0) (V2) (t6 (q13 (cE (.str ("plain" : Str))) (q13 (c7 0) (q14))))) (q15 2))
def O3 : Fs := (o9 (d7 Q4 (c7 2) (d7 bA4 (S5 (q13 (cE (.str ("list" : Str))) (q13 (cE (.str ("list" : Str))) (q14)))) (q16 bV4 (q13 (d7 aN6 (d7 ixD (c7 1) (cE (.int 3))) (cE .non)) (q14))))) (q15 2))
def O4 : Fs := (o9 (d7 Q4 (c7 2) (d7 bA4 (S5 (q13 (cE (.str ("record" : Str))) (q13 (cE (.str ("record" : Str))) (q14)))) (q16 bV4 (q13 (d7 aN6 (d7 ixD (c7 1) (cE (.int 4))) (cE .non)) (q14))))) (q15 2))
def O5 : Fs := (ifS (o5 (d7 eqD (c7 2) (S5 (q14)))) (K5 (cE (.int 0))) (K6))
def O6 : Fs := (o9 (d7 ixD (c7 2) (q16 (fnX 2 d8) (q13 (c7 0) (q13 (q16 aP0 (q13 (c7 2) (q14))) (q14))))) (q15 3))
def O7 (R : List D → M D) : Fs := (ifS (o5 (d7 eqD (c7 3) (cE (.str ("list" : Str))))) (j8 (o9 (d7 bA4 (q16 (fnX 2 d8) (q13 (c7 0) (q13 (cE (.int 3)) (q14)))) (q16 bV4 (q13 (d7 neD (d7 ixD (d7 ixD (c7 1) (cE (.int 3))) (cE (.int 1))) (q16 (fnX 0 o4) (q14))) (q14)))) (q15 4)) (j8 (o9 (d7 Q4 (d7 ixD (d7 ixD (c7 1) (cE (.int 3))) (cE (.int 0))) (d7 bA4 (t6 (q13 (d7 ixD (d7 ixD (c7 1) (cE (.int 3))) (cE (.int 1))) (q14))) (c7 4))) (q15 5)) (K5 (t6 (q13 (cE (.str ("list" : Str))) (q13 (q16 aA5 (q13 (R8 (itW (c7 5)) [none, some 0] (q15 0) (V2) (q16 (fnX 2 R) (q13 (c7 1) (q13 (c7 0) (q14))))) (q14))) (q14))))))) (K6))
def O8 : Fs := (ifS (o5 (d7 neD (c7 3) (cE (.str ("record" : Str))))) (K5 (d7 ixD (c7 3) (cE (.int 1)))) (K6))
def O9 : Fs := (o9 (d7 ixD (c7 1) (cE (.int 4))) (aG2 2 (J5 (q15 6) (J5 (q15 4) (aI4)))))
def OA : Fs := (o9 (aN4) (q15 7))
def OBb (R : List D → M D) : Fs := (ifS (aF6 (o5 (d7 neD (c7 4) (q16 (fnX 0 o4) (q14)))) (o5 (d7 aF3 (c7 8) (R8 (itW (c7 6)) [none] (q15 0) (V2) (d7 ixD (c7 0) (cE (.int 0))))))) (o9 (q16 (fnX 2 R) (q13 (c7 0) (q13 (c7 4) (q14)))) (aR1 (c7 7) (c7 8))) (K6))
def OB (R : List D → M D) : Fs := (aI3 (itW (T9 (q16 (fnX 1 K1) (q13 (c7 0) (q14))) (W9) (W7 (cE (.int 3))))) (q15 8) (OBb R))
def OCb (R : List D → M D) : Fs := (ifS (orT (U0 (c7 9)) (aF6 (o5 (d7 neD (c7 10) (q16 (fnX 0 o4) (q14)))) (o5 (d7 eqD (q16 (fnX 2 d8) (q13 (c7 0) (q13 (cE (.int 2)) (q14)))) (cE (.int 1)))))) (o9 (q16 (fnX 2 R) (q13 (c7 0) (q13 (c7 10) (q14)))) (aR1 (c7 7) (c7 8))) (K6))
def OC (R : List D → M D) : Fs := (aI3 (itW (c7 6)) (aG2 3 (J5 (q15 8) (J5 (q15 9) (J5 (q15 10) (aI4))))) (OCb R))
def OE : Fs := (K5 (t6 (q13 (cE (.str ("record" : Str))) (q13 (q16 aA5 (q13 (R8 (itW (q16 aE1 (q13 (c7 7) (q14)))) [none, some 7] (q15 0) (V2) (t6 (q13 (c7 0) (q13 (d7 ixG (c7 1) (c7 0)) (q14))))) (q14))) (q14)))))
def Q9 (R : List D → M D) : Fs := j8 O9 (j8 OA (j8 (OB R) (j8 (OC R) OE)))
def Q7 (R : List D → M D) : Fs := j8 (O7 R) (j8 O8 (Q9 R))
def Q6 (R : List D → M D) : Fs := j8 O6 (Q7 R)
def Q5 (R : List D → M D) : Fs := j8 O5 (Q6 R)
def Q2 (R : List D → M D) : Fs := j8 O2 (j8 O3 (j8 O4 (Q5 R)))
def aU0 (R : List D → M D) : Fs := j8 O1 (Q2 R)
def aT7 : Nat → List D → M D
 | 0 => fun _ => M.stuck
 | n + 1 => K9 11 (aU0 (aT7 n))
def bA9 : List D → M D := aT7 10
def EB : Fe := (d7 ixD (S5 (q13 (q16 bV4 (q13 (c7 1) (q14))) (q13 (bY3 (c7 1)) (q13 (c7 1) (q13 (cE (.str ("true" : Str))) (q13 (cE (.str ("false" : Str))) (q13 (t6 (q13 (cE (.str ("list" : Str))) (q13 (t6 (q13 (c7 1) (q14))) (q14)))) (q14)))))))) (c7 4))
def EI : Fe := (d7 ixD (S5 (q13 (d7 aQ3 (cE (.int 0)) (c7 1)) (q13 (d7 Q4 (c7 1) (cE (.int 1))) (q13 (c7 1) (q13 (d7 aQ3 (c7 1) (cE (.int 1))) (q13 (d7 eqD (c7 1) (cE (.int 1))) (q13 (t6 (q13 (cE (.str ("list" : Str))) (q13 (t6 (q13 (c7 1) (q14))) (q14)))) (q14)))))))) (c7 4))
def ES : Fe := (d7 ixD (S5 (q13 (unE cG1 (c7 1)) (q13 (d7 Q4 (c7 1) (cE (.str ("a" : Str)))) (q13 (c7 1) (q13 (T9 (c7 1) (W7 (cE (.int 1))) (W9)) (q13 (t6 (q13 (cE (.str ("list" : Str))) (q13 (t6 (q14)) (q14)))) (q13 (t6 (q13 (cE (.str ("record" : Str))) (q13 (t6 (q14)) (q14)))) (q14)))))))) (c7 4))
def EL : Fe := (t6 (q13 (cE (.str ("list" : Str))) (q13 (d7 ixD (S5 (q13 (unE cG1 (d7 ixD (c7 1) (cE (.int 1)))) (q13 (d7 Q4 (d7 ixD (c7 1) (cE (.int 1))) (t6 (q13 (cE (.int 0)) (q14)))) (q13 (d7 ixD (c7 1) (cE (.int 1))) (q13 (T9 (d7 ixD (c7 1) (cE (.int 1))) (W7 (cE (.int 1))) (W9)) (q13 (T9 (d7 ixD (c7 1) (cE (.int 1))) (W9) (W7 (unE bQ5 (cE (.int 1))))) (q13 (t6 (q14)) (q14)))))))) (c7 4)) (q14))))
def ER : Fe := (d7 ixD (S5 (q13 (t6 (q13 (cE (.str ("record" : Str))) (q13 (T9 (d7 ixD (c7 1) (cE (.int 1))) (W7 (cE (.int 1))) (W9)) (q14)))) (q13 (t6 (q13 (cE (.str ("record" : Str))) (q13 (T9 (d7 ixD (c7 1) (cE (.int 1))) (W9) (W7 (unE bQ5 (cE (.int 1))))) (q14)))) (q13 (c7 1) (q13 (t6 (q13 (cE (.str ("list" : Str))) (q13 (t6 (q14)) (q14)))) (q13 (t6 (q13 (cE (.str ("record" : Str))) (q13 (t6 (q14)) (q14)))) (q13 (cE (.int 0)) (q14)))))))) (c7 4))
def NL : Fs := (j8 (o9 (q16 (fnX 2 d8) (q13 (c7 0) (q13 (cE (.int 6)) (q14)))) (q15 4)) (j8 (ifS (U0 (q16 V8 (q13 (c7 1) (q13 (cE (.ty "bool")) (q14))))) (K5 EB) (K6)) (j8 (ifS (U0 (q16 V8 (q13 (c7 1) (q13 (cE (.ty "int")) (q14))))) (K5 EI) (K6)) (j8 (ifS (U0 (q16 V8 (q13 (c7 1) (q13 (cE (.ty "str")) (q14))))) (K5 ES) (K6)) (j8 (ifS (o5 (d7 eqD (d7 ixD (c7 1) (cE (.int 0))) (cE (.str ("list" : Str))))) (K5 EL) (K6)) (K5 ER))))))
def NA4 : Fs := (K5 (t6 (q13 (d7 ixD (c7 1) (cE (.int 0))) (q13 (d7 Q4 (d7 Q4 (T9 (d7 ixD (c7 1) (cE (.int 1))) (W9) (W7 (c7 2))) (t6 (q13 (c7 3) (q14)))) (T9 (d7 ixD (c7 1) (cE (.int 1))) (W7 (d7 Q4 (c7 2) (cE (.int 1)))) (W9))) (q14)))))
def NA3 (R : List D → M D) : Fs := (ifS (o5 (d7 eqD (d7 ixD (c7 1) (cE (.int 0))) (cE (.str ("record" : Str))))) (o9 (t6 (q13 (d7 ixD (c7 3) (cE (.int 0))) (q13 (q16 (fnX 2 R) (q13 (c7 0) (q13 (d7 ixD (c7 3) (cE (.int 1))) (q14)))) (q14)))) (q15 3)) (o9 (q16 (fnX 2 R) (q13 (c7 0) (q13 (c7 3) (q14)))) (q15 3)))
def NA2 (R : List D → M D) : Fs := j8 (o9 (d7 ixD (d7 ixD (c7 1) (cE (.int 1))) (c7 2)) (q15 3)) (j8 (NA3 R) NA4)
def NA (R : List D → M D) : Fs := j8 (o9 (q16 (fnX 2 d8) (q13 (c7 0) (q13 (q16 aP0 (q13 (d7 ixD (c7 1) (cE (.int 1))) (q14))) (q14)))) (q15 2)) (NA2 R)
def NT : DSt → M Bool := (aF6 (U0 (q16 V8 (q13 (c7 1) (q13 (cE (.ty "tuple")) (q14))))) (aF6 (o5 (d7 neD (d7 ixD (c7 1) (cE (.int 1))) (t6 (q14)))) (o5 (d7 gtD (q16 (fnX 2 d8) (q13 (c7 0) (q13 (cE (.int 4)) (q14)))) (cE (.int 0))))))
def aG7 (R : List D → M D) : Fs := j8 (ifS NT (NA R) (K6)) NL
def aC9 : Nat → List D → M D
 | 0 => fun _ => M.stuck
 | n + 1 => K9 5 (aG7 (aC9 n))
def aS4 : List D → M D := aC9 8
def bH7 : Fs := K5 (aX7 (d7 aN6 (c7 0) (cE .non)) (aX7 (d7 aN6 (c7 1) (cE .non)) (d7 gtD (c7 0) (c7 1))))
def aE7 : List D → M D := K9 2 bH7
def aO7 : Fs := K5 (aX7 (bY3 (q16 (fnX 2 aE7) (q13 (c7 1) (q13 (c7 0) (q14))))) (bY3 (q16 (fnX 2 aE7) (q13 (c7 0) (q13 (c7 2) (q14))))))
def T6 : List D → M D := K9 3 aO7
def aW3 : Fs := K5 (ifE (o5 (d7 ltI (c7 1) (q16 aP0 (q13 (d7 ixD (c7 0) (cE (.int 0))) (q14))))) (d7 ixD (d7 ixD (c7 0) (cE (.int 0))) (c7 1)) (d7 ixD (c7 0) (cE (.int 1))))
def Z1 : List D → M D := K9 2 aW3
def aE6 : Fs := K5 (q16 aP3 (q13 (R8 (itW (d7 ixD (c7 0) (cE (.int 0)))) [none, none, none] (aG2 3 (J5 (q15 0) (J5 (q15 1) (J5 (q15 2) (aI4))))) (V2) (t6 (q13 (c7 0) (q13 (t6 (q13 (c7 1) (q13 (c7 2) (q14)))) (q14))))) (q14)))
def K7 : List D → M D := K9 1 aE6
def aW2 : Fs := K5 (mtE aT5 getD (c7 0) (q13 (c7 2) (q13 (t6 (q13 (cE (.bl false)) (q13 (c7 1) (q14)))) (q14))))
def Z3 : List D → M D := K9 3 aW2
def aK3 (R : List D → M D) : Fs := j8 (ifS (orT (o5 (d7 bV2 (c7 1) (cE .non))) (o5 (d7 ltI (q16 aP0 (q13 (c7 0) (q14))) (q16 aP0 (q13 (d7 ixD (c7 1) (cE (.int 0))) (q14)))))) (K5 (cE (.bl false))) (K6)) (K5 (q16 bV1 (q13 (R8 (bF0 (q13 (c7 0) (q14))) [none, none, some 1] (aG2 2 (J5 (q15 0) (J5 (q15 1) (aI4)))) (V2) (q16 (fnX 2 R) (q13 (c7 1) (q13 (q16 (fnX 2 Z1) (q13 (c7 2) (q13 (c7 0) (q14)))) (q14))))) (q14))))
def U4 (R : List D → M D) : List D → M D := K9 2 (aK3 R)
def RA : Fs := (ifS (cX8 (U0 (q16 bV1 (q13 (R8 (itW (d7 ixD (c7 1) (cE (.int 0)))) [none, none, none, some 2] (aG2 3 (J5 (q15 0) (J5 (q15 1) (J5 (q15 2) (aI4))))) (V2) (dA4 (d7 inD (c7 0) (c7 3)) (bY3 (c7 1)))) (q14))))) (K5 (cE (.bl false))) (K6))
def RZ (R : List D → M D) : Fs := (K5 (q16 bV1 (q13 (R8 (itW (c7 0)) [none, none, some 1, some 3] (aG2 2 (J5 (q15 0) (J5 (q15 1) (aI4)))) (V2) (q16 (fnX 2 R) (q13 (c7 1) (q13 (d7 ixD (q16 (fnX 3 Z3) (q13 (c7 3) (q13 (d7 ixD (c7 2) (cE (.int 1))) (q13 (c7 0) (q14))))) (cE (.int 1))) (q14))))) (q14))))
def aB2 (R : List D → M D) : Fs := j8 (ifS (o5 (d7 bV2 (c7 1) (cE .non))) (K5 (cE (.bl false))) (K6)) (j8 (o9 (q16 aP3 (q13 (c7 0) (q14))) (q15 2)) (j8 RA (j8 (o9 (q16 (fnX 1 K7) (q13 (c7 1) (q14))) (q15 3)) (RZ R))))
def R4 (R : List D → M D) : List D → M D := K9 4 (aB2 R)
def aM1 (R : List D → M D) : Fs := j8 (ifS (o5 (d7 eqD (c7 1) (cE (.str ("any" : Str))))) (K5 (cE (.bl true))) (K6)) (j8 (ifS (U0 (q16 V8 (q13 (c7 0) (q13 (cE (.ty "bool")) (q14))))) (K5 (d7 inD (c7 0) (d7 ixD (c7 1) (cE (.int 2))))) (K6)) (j8 (ifS (U0 (q16 V8 (q13 (c7 0) (q13 (cE (.ty "int")) (q14))))) (K5 (q16 cG5 (q13 (R8 (itW (d7 ixD (c7 1) (cE (.int 0)))) [none, none, some 0] (aG2 2 (J5 (q15 0) (J5 (q15 1) (aI4)))) (V2) (q16 (fnX 3 T6) (q13 (c7 2) (q13 (c7 0) (q13 (c7 1) (q14)))))) (q14)))) (K6)) (j8 (ifS (U0 (q16 V8 (q13 (c7 0) (q13 (cE (.ty "str")) (q14))))) (K5 (d7 eqD (d7 inD (c7 0) (d7 ixD (d7 ixD (c7 1) (cE (.int 1))) (cE (.int 1)))) (d7 eqD (d7 ixD (d7 ixD (c7 1) (cE (.int 1))) (cE (.int 0))) (cE (.str ("of" : Str)))))) (K6)) (j8 (ifS (o5 (d7 eqD (d7 ixD (c7 0) (cE (.int 0))) (cE (.str ("list" : Str))))) (K5 (q16 (fnX 2 (U4 R)) (q13 (d7 ixD (c7 0) (cE (.int 1))) (q13 (d7 ixD (c7 1) (cE (.int 3))) (q14))))) (K6)) (K5 (q16 (fnX 2 (R4 R)) (q13 (d7 ixD (c7 0) (cE (.int 1))) (q13 (d7 ixD (c7 1) (cE (.int 4))) (q14)))))))))
def aT9 : Nat → List D → M D
 | 0 => fun _ => M.stuck
 | n + 1 => K9 2 (aM1 (aT9 n))
def S6 : List D → M D := aT9 60
def bH4 : List D → M D := U4 S6
def bC1 : List D → M D := R4 S6
def aC4 : Fs := j8 (o9 (q16 (fnX 0 o4) (q14)) (q15 2)) (j8 (o9 (t6 (q13 (t6 (q13 (t6 (q13 (cE .non) (q13 (cE .non) (q14)))) (q14))) (q13 (t6 (q13 (cE (.str ("but" : Str))) (q13 (t6 (q14)) (q14)))) (q13 (t6 (q13 (cE (.bl false)) (q13 (cE (.bl true)) (q14)))) (q13 (t6 (q13 (t6 (q14)) (q13 (cE (.str ("any" : Str))) (q14)))) (q13 (t6 (q13 (t6 (q14)) (q13 (cE (.str ("any" : Str))) (q14)))) (q14))))))) (q15 3)) (j8 (o9 (S5 (q14)) (q15 4)) (j8 (o9 (S5 (q14)) (q15 5)) (j8 (aI3 (V5 (q13 (cE (.int 5)) (q14))) (q15 6) (j8 (o9 (T9 (c7 1) (W7 (c7 6)) (W7 (d7 Q4 (c7 6) (cE (.int 1))))) (q15 7)) (j8 (aV1 (mtE aD5 aG3 (c7 4) (q13 (q16 (fnX 2 S6) (q13 (c7 0) (q13 (q16 (fnX 1 R6) (q13 (d7 Q4 (d7 Q4 (T9 (c7 2) (W9) (W7 (c7 6))) (c7 7)) (T9 (c7 2) (W7 (d7 Q4 (c7 6) (cE (.int 1)))) (W9))) (q14))) (q14)))) (q14)))) (aV1 (mtE aD5 aG3 (c7 5) (q13 (q16 (fnX 2 S6) (q13 (c7 0) (q13 (q16 (fnX 1 R6) (q13 (d7 Q4 (d7 Q4 (T9 (c7 3) (W9) (W7 (c7 6))) (c7 7)) (T9 (c7 3) (W7 (d7 Q4 (c7 6) (cE (.int 1)))) (W9))) (q14))) (q14)))) (q14))))))) (K5 (S5 (q13 (d7 inD (cE (.bl true)) (c7 4)) (q13 (d7 aF3 (cE (.bl false)) (c7 5)) (q14)))))))))
def Z6 : List D → M D := K9 8 aC4
def X1 : Fs := (ifS (o5 (d7 eqD (d7 ixD (c7 0) (cE (.int 0))) (cE (.str ("list" : Str))))) (j8 (ifS (o5 (d7 bV2 (d7 ixD (c7 1) (cE (.int 3))) (cE .non))) (K5 (cE (.bl false))) (K6)) (j8 (o9 (d7 Q4 (d7 ixD (d7 ixD (c7 1) (cE (.int 3))) (cE (.int 0))) (d7 bA4 (t6 (q13 (d7 ixD (d7 ixD (c7 1) (cE (.int 3))) (cE (.int 1))) (q14))) (q16 aP0 (q13 (d7 ixD (c7 0) (cE (.int 1))) (q14))))) (q15 2)) (j8 (o9 (d7 geD (q16 aP0 (q13 (d7 ixD (c7 0) (cE (.int 1))) (q14))) (q16 aP0 (q13 (d7 ixD (d7 ixD (c7 1) (cE (.int 3))) (cE (.int 0))) (q14)))) (q15 3)) (j8 (o9 (R8 (V5 (q13 (q16 aP0 (q13 (d7 ixD (c7 0) (cE (.int 1))) (q14))) (q14))) [none, some 2, some 0] (q15 0) (V2) (q16 (fnX 2 S6) (q13 (d7 ixD (d7 ixD (c7 2) (cE (.int 1))) (c7 0)) (q13 (d7 ixD (c7 1) (c7 0)) (q14))))) (q15 4)) (K5 (aX7 (c7 3) (d7 aF3 (cE (.bl false)) (c7 4)))))))) (K6))
def X2 : Fs := (ifS (o5 (d7 bV2 (d7 ixD (c7 1) (cE (.int 4))) (cE .non))) (K5 (cE (.bl false))) (K6))
def X3 : Fs := (o9 (d7 ixD (c7 1) (cE (.int 4))) (aG2 2 (J5 (q15 5) (J5 (q15 6) (aI4)))))
def X4 : Fs := (o9 (R8 (itW (d7 ixD (c7 0) (cE (.int 1)))) [none] (q15 0) (V2) (d7 ixD (c7 0) (cE (.int 0)))) (q15 7))
def X5 : Fs := (o9 (q16 aP3 (q13 (R8 (itW (c7 5)) [none] (q15 0) (V2) (t6 (q13 (d7 ixD (c7 0) (cE (.int 0))) (q13 (d7 ixD (c7 0) (cE (.int 2))) (q14))))) (q14))) (q15 2))
def X6 : Fs := (ifS (o5 (d7 neD (R8 (itW (c7 5)) [none, some 7] (q15 0) (aF6 (U0 (d7 ixD (c7 0) (cE (.int 1)))) (o5 (d7 aF3 (d7 ixD (c7 0) (cE (.int 0))) (c7 1)))) (d7 ixD (c7 0) (cE (.int 0)))) (S5 (q14)))) (K5 (cE (.bl false))) (K6))
def X7 : Fs := (K5 (d7 aF3 (cE (.bl false)) (R8 (itW (d7 ixD (c7 0) (cE (.int 1)))) [none, none, some 2, some 6] (aG2 2 (J5 (q15 0) (J5 (q15 1) (aI4)))) (V2) (q16 (fnX 2 S6) (q13 (c7 1) (q13 (mtE aT5 getD (c7 2) (q13 (c7 0) (q13 (c7 3) (q14)))) (q14)))))))
def Z2 : Fs := j8 X1 (j8 X2 (j8 X3 (j8 X4 (j8 X5 (j8 X6 X7)))))
def U3 : List D → M D := K9 8 Z2
def T1 : Fs := (o9 (q16 (fnX 2 S6) (q13 (c7 9) (q13 (c7 6) (q14)))) (q15 10))
def T2 : Fs := (ifS (orT (cX8 (U0 (q16 V8 (q13 (c7 10) (q13 (cE (.ty "bool")) (q14)))))) (o5 (d7 neD (q16 (fnX 2 Z6) (q13 (c7 9) (q13 (c7 4) (q14)))) (S5 (q13 (c7 10) (q13 (c7 10) (q14))))))) (K5 (cE (.bl false))) (K6))
def T3 : Fs := (ifS (aF6 (U0 (q16 V8 (q13 (c7 9) (q13 (cE (.ty "tuple")) (q14))))) (o5 (d7 neD (q16 (fnX 2 U3) (q13 (c7 9) (q13 (c7 4) (q14)))) (c7 10)))) (K5 (cE (.bl false))) (K6))
def TT : Fs := (j8 T1 (j8 T2 T3))
def JB : Fs := (j8 (o9 (q16 (fnX 2 bA9) (q13 (c7 3) (q13 (d7 ixD (S5 (q13 (c7 6) (q13 (q16 (fnX 1 R6) (q13 (c7 5) (q14))) (q14)))) (d7 bH1 (c7 7) (cE (.int 2)))) (q14)))) (q15 8)) (aI3 (itW (S5 (q13 (c7 8) (q13 (q16 (fnX 2 aS4) (q13 (c7 3) (q13 (c7 8) (q14)))) (q14))))) (q15 9) TT))
def LA : Fs := (ifS (aF6 (o5 (d7 neD (c7 6) (cE (.str ("any" : Str))))) (o5 (d7 neD (q16 (fnX 1 R6) (q13 (c7 6) (q14))) (c7 6)))) (K5 (cE (.bl false))) (K6))
def LC : Fs := (j8 (o9 (q16 (fnX 1 R6) (q13 (c7 4) (q14))) (q15 6)) (j8 LA (aI3 (V5 (q13 (cE (.int 4)) (q14))) (q15 7) JB)))
def LB : Fs := (j8 (o9 (q16 (fnX 3 aG4) (q13 (c7 0) (q13 (c7 2) (q13 (c7 1) (q14))))) (q15 3)) (j8 (o9 (q16 (fnX 2 aE4) (q13 (c7 3) (q13 (cE (.int 4)) (q14)))) (q15 4)) (j8 (o9 (q16 (fnX 2 aE4) (q13 (c7 3) (q13 (cE (.int 3)) (q14)))) (q15 5)) LC)))
def cL8 : Fs := j8 (aI3 (bA6 (q13 (T9 (c7 0) (W9) (W7 (cE (.int 42)))) (q14))) (aG2 2 (J5 (q15 1) (J5 (q15 2) (aI4)))) LB) (K5 (cE (.bl true)))
def bU6 : List D → M D := K9 11 cL8
local macro_rules | `(tactic| walk_at $s:str) => (match s.getString.splitOn " " with | "u" :: l => (l.toArray.mapM fun x => `(Lean.Parser.Tactic.tacticSeq| apply $(Lean.mkIdent x.toName))) >>= fun t => `(tactic| with_reducible first $[| $t]*) | k :: m :: l => ((m :: l).toArray.mapM fun x => `(Lean.Parser.Tactic.tacticSeq| ((with_reducible apply $(Lean.mkIdent x.toName)) <;> walk_at $(Lean.Syntax.mkStrLit (if k == "x" then "c" else "z"))))) >>= fun t => `(tactic| first $[| $t]*) | _ => Lean.Macro.throwUnsupported)
local macro_rules | `(tactic| walk_at "c") => `(tactic| first
 | rfl
 | decide
 | assumption
 | exact .inl rfl
 | exact .inr rfl
 | exact .inr (.inl rfl)
 | exact .inr (.inr rfl)
 | exact aK1.units ‹_›
 | exact fun _ => rfl
 | exact fun _ _ => rfl
 | exact q17 rfl
 | exact PassesOwn.never
 | with_unfolding_all rfl
 | exact ⟨_, _, _, ‹J0 _ _ _›, rfl⟩)
local macro_rules | `(tactic| walk_at "cl") => `(tactic| exact ⟨_, _, by assumption, by assumption, by first | decide | omega⟩)
local macro_rules | `(tactic| walk_at "ck") => `(tactic| exact ⟨_, _, _, by assumption, by rfl, by rfl, by decide +kernel⟩)
local macro_rules | `(tactic| walk_at "z") => `(tactic| first
 | exact rfl
 | (walk_at "u q19 da_c q20 de_bl de_str de_non od_add od_sub od_mul od_mulX od_fdiv od_mod od_pow od_gt od_ltI od_ge od_isC od_isnotC od_eq od_ne od_in od_inX od_notin bd_len bd_isinstance bd_all bd_any bd_sum bd_tuple bd_list bd_int bd_min bd_sortedG bd_dict do_none do_some de_op de_not de_cmp de_one de_andV de_orV de_if de_tup de_lst de_dict0 de_sliceT dt_not dt_cmp dw_and1 dw_or1 dw_and dw_or dts_nil dts_one dg_tup dg_sub dgs_nil dgs_cons ds_ret ds_if ds_expr ds_for db_nil db_one db_cons" <;> walk_at "z")
 | walk_at "x de_v de_cst dg_nm dg_name"
 | walk_at "y de_ix de_ixG di_r1 di_e di_eT"
 | ((with_reducible refine dQ9 ?_ ?_ ?_ ?_ ?_ ?_); assumption; decide; decide +kernel; rfl; decide; decide)
 | ((with_reducible refine cT2 ?_ ?_ ?_ ?_ ?_); walk_at "cl"; rfl; walk_at "z"; decide; rfl)
 | ((with_reducible refine cP2 ?_ ?_ ?_); walk_at "cl"; rfl; decide)
 | ((with_reducible refine dP4 ?_ ?_ ?_ ?_ ?_ ?_ ?_ ?_ ?_); rfl; walk_at "z"; assumption; decide +kernel; rfl; walk_at "z"; decide; decide; rfl)
 | ((with_reducible apply dY4 PySem.F.slot_list_append PySem.F.type_list_append cP3) <;> walk_at "z")
 | ((with_reducible refine dP3 PySem.F.slot_dict_get PySem.F.type_dict_get (dU1 ?_) ?_ ?_ ?_ ?_ ?_ ?_ ?_) <;> walk_at "z")
 | ((with_reducible refine dE0 ?_ ?_ ?_ ?_ ?_ ?_ ?_ ?_); rfl; walk_at "z"; walk_at "ck"; decide +kernel; all_goals walk_at "z")
 | ((with_reducible refine dB8 ?_ ?_ ?_ ?_ ?_ ?_ ?_ ?_ ?_ ?_); rfl; walk_at "z"; walk_at "ck"; decide +kernel; all_goals walk_at "z")
 | ((with_reducible apply eC1 dT1) <;> walk_at "z")
 | ((with_reducible apply dD6 (j := 0)) <;> walk_at "z")
 | ((with_reducible apply DW.dt) <;> walk_at "u dw_and1 dw_or1 dw_and dw_or" <;> walk_at "z")
 | walk_at "y ds_asg dt_truth di_W"
 | walk_at "c"
 | (intro _; walk_at "z"))
local macro_rules | `(tactic| walk_at "db0") => `(tactic| ((first | apply db_one | apply db_cons) <;> walk_at "z"))
set_option maxHeartbeats 0
local macro_rules | `(tactic| walk_at "sc") => `(tactic| exact ⟨rfl, rfl, rfl, by decide +kernel, rfl, by decide +kernel, by decide +kernel⟩)
structure BC (K : PySem.W.Frag) (mg : Str → Option Value) : Prop where
 b : BLs mg
 c_NOTHING : cK3 K mg "NOTHING" (.tup [.tup [], .tup [.str ("of" : Str), .tup []], .tup [], .non, .non])
 c_ALL_PARTS : cK3 K mg "ALL_PARTS" (.tup [.tup [.tup [.non, .non]], .tup [.str ("but" : Str), .tup []], .tup [.bl false, .bl true], .tup [.tup [], .str ("any" : Str)], .tup [.tup [], .str ("any" : Str)]])
 c_ANY : cK3 K mg "ANY" (.str ("any" : Str))
def top (i : Nat) : Stmt := PySem.Challenge.pw_allmeet_k19_whole_a_set_is_its_parts.main.body.getD i (.Pass ⟨0, 0, 0, 0⟩)
abbrev aR7 : Stmt := top 17
abbrev aQ1 : Stmt := top 18
abbrev aJ1 : Stmt := top 19
abbrev aN9 : Stmt := top 22
abbrev aL9 : Stmt := top 21
abbrev aE8 : Stmt := top 25
abbrev aR6 : Stmt := top 20
abbrev aW1 : Stmt := top 26
abbrev aJ5 : Stmt := top 27
abbrev aL6 : Stmt := top 28
abbrev W4 : Stmt := top 29
abbrev aF7 : Stmt := top 30
abbrev aF0 : Stmt := top 31
abbrev aG8 : Stmt := top 14
abbrev aD8 : Stmt := top 15
abbrev cG6 : Stmt := top 13
abbrev aR5 : Stmt := top 34
abbrev aD7 : Stmt := top 23
abbrev aH6 : Stmt := top 32
abbrev aM8 : Stmt := top 33
abbrev aG5 : Stmt := top 24
abbrev aW7 : Stmt := top 1
abbrev aN7 : Stmt := top 10
abbrev aV8 : Stmt := top 6
abbrev aE5 : Stmt := top 7
abbrev aV9 : Stmt := top 8
abbrev aM2 : Stmt := top 9
abbrev W3 : Stmt := top 11
abbrev T8 : Stmt := top 12
abbrev aH8 : Stmt := top 35
abbrev aC6 : Stmt := top 36
abbrev bG8 : Stmt := top 37
theorem aX4 : J0 ["script", "cell", "k", "way"] ["script", "cell", "k"] (m7 aR7) := by walk_at "sc"
theorem bA2 : J0 ["hand", "limit", "got"] ["hand", "limit"] (m7 aQ1) := by walk_at "sc"
theorem aP2 : J0 ["hand", "least", "most", "text", "k"] ["hand", "least", "most"] (m7 aJ1) := by walk_at "sc"
theorem aU9 : J0 ["hand", "some", "k", "name"] ["hand"] (m7 aN9) := by walk_at "sc"
theorem aQ9 : J0 ["hand"] ["hand"] (m7 aL9) := by walk_at "sc"
theorem aK7 : J0 ["hand", "most", "low", "some", "k", "high"] ["hand", "most"] (m7 aE8) := by walk_at "sc"
theorem aZ6 : J0 ["hand"] ["hand"] (m7 aR6) := by walk_at "sc"
theorem bC6 : J0 ["hand", "most", "some", "k", "got", "size"] ["hand", "most"] (m7 aW1) := by walk_at "sc"
theorem aP5 : J0 [] [] (m7 aJ5) := by walk_at "sc"
theorem aQ5 : J0 ["numbers", "texts", "truths", "lists", "records", "got", "every"] ["numbers", "texts", "truths", "lists", "records"] (m7 aL6) := by walk_at "sc"
theorem aK5 : J0 ["hand", "deep", "lists", "records", "fields", "name"] ["hand", "deep"] (m7 W4) := by walk_at "sc"
theorem bD4 : J0 ["hand", "deep", "numbers", "texts", "truths"] ["hand", "deep"] (m7 aF7) := by walk_at "sc"
theorem bD0 : J0 ["hand", "deep", "kind", "numbers", "texts", "truths", "lists", "records"] ["hand", "deep"] (m7 aF0) := by walk_at "sc"
theorem aM6 : J0 ["lists"] ["lists"] (m7 aG8) := by walk_at "sc"
theorem aJ7 : J0 ["records"] ["records"] (m7 aD8) := by walk_at "sc"
theorem cM4 : J0 ["numbers", "texts", "truths", "lists", "records", "parts"] ["numbers", "texts", "truths", "lists", "records"] (m7 cG6) := by walk_at "sc"
theorem aZ9 : J0 ["parts"] ["parts"] (m7 aR5) := by walk_at "sc"
theorem aU6 : J0 ["hand", "deep", "kind", "many"] ["hand", "deep"] (m7 aD7) := by walk_at "sc"
theorem aN1 : J0 ["hand", "some", "got", "low", "high", "near"] ["hand", "some"] (m7 aH6) := by walk_at "sc"
theorem bI9 : J0 ["hand", "some", "ways", "way", "more", "dues", "fields", "pairs", "name", "must", "inner"] ["hand", "some"] (m7 aM8) := by walk_at "sc"
theorem aY3 : J0 ["hand", "value", "at", "inner", "kind"] ["hand", "value"] (m7 aG5) := by walk_at "sc"
theorem bC5 : J0 ["low", "high"] ["low", "high"] (m7 aW7) := by walk_at "sc"
theorem aU7 : J0 ["number", "low", "high"] ["number", "low", "high"] (m7 aN7) := by walk_at "sc"
theorem bD5 : J0 ["lists", "place"] ["lists", "place"] (m7 aV8) := by walk_at "sc"
theorem aK8 : J0 ["records"] ["records"] (m7 aE5) := by walk_at "sc"
theorem bC8 : J0 ["told", "more", "name"] ["told", "more", "name"] (m7 aV9) := by walk_at "sc"
theorem bG9 : J0 ["value", "some"] ["value", "some"] (m7 aM2) := by walk_at "sc"
theorem aP6 : J0 ["values", "lists"] ["values", "lists"] (m7 W3) := by walk_at "sc"
theorem aK9 : J0 ["pairs", "records", "there", "told"] ["pairs", "records"] (m7 T8) := by walk_at "sc"
theorem aN5 : J0 ["value", "parts", "none", "every", "alone", "beside", "at", "mine"] ["value", "parts"] (m7 aH8) := by walk_at "sc"
theorem aI0 : J0 ["value", "parts", "dues", "long", "told", "fields", "more", "names"] ["value", "parts"] (m7 aC6) := by walk_at "sc"
theorem dA1 : J0 ["script", "k", "cell", "hand", "parts", "other", "some", "turn", "value", "one", "told"] ["script"] (m7 bG8) := by walk_at "sc"
section
variable {P : Program} {w : World} {K : PySem.W.Frag} {mg : Str → Option Value} {base : Heap} {a : Addr} {d : FuncData} (zb : BC K mg)
include zb
theorem bR5 (c : FF K mg "_law_hand" aR7 ["script", "cell", "k"] a d) : M8 P w K mg base CX0 1 a d ["script", "cell", "k"] (spD ⟨K, mg⟩ 3 aG4) := by
 unfold aG4
 exact aC2 c aX4 rfl rfl fun _ _ _ _ _ _ _ => by obtain ⟨_, _, _, _⟩ := zb; have := aX4; unfold aS1; walk_at "db0"
theorem bT0 (c : FF K mg "_law_draw" aQ1 ["hand", "limit"] a d) : M8 P w K mg base CX0 1 a d ["hand", "limit"] (spD ⟨K, mg⟩ 2 d8) := by
 unfold d8
 exact aC2 c bA2 rfl rfl fun _ _ _ _ _ _ _ => by obtain ⟨_, _, _, _⟩ := zb; have := bA2; unfold aQ4; walk_at "db0"
theorem bE3 (c : FF K mg "_law_letters" aJ1 ["hand", "least", "most"] a d) (k1 : b8 d8 2 "_law_draw" P w K mg base 1) : M8 P w K mg base CX0 2 a d ["hand", "least", "most"] (spD ⟨K, mg⟩ 3 Q8) := by
 unfold Q8
 exact aC2 c aP2 rfl rfl fun _ _ _ _ _ _ _ => by obtain ⟨_, _, _, _⟩ := zb; have := aP2; unfold aD9; unfold LT; walk_at "db0"
theorem bK5 (c : FF K mg "_law_names" aN9 ["hand"] a d) (k1 : b8 d8 2 "_law_draw" P w K mg base 1) (k2 : b8 Q8 3 "_law_letters" P w K mg base 2) : M8 P w K mg base CX0 3 a d ["hand"] (spD ⟨K, mg⟩ 1 K1) := by
 unfold K1
 exact aC2 c aU9 rfl rfl fun _ _ _ _ _ _ _ => by obtain ⟨_, _, _, _⟩ := zb; have := aU9; unfold aI2; unfold NB; walk_at "db0"
theorem bI6 (c : FF K mg "_law_number" aL9 ["hand"] a d) (k1 : b8 d8 2 "_law_draw" P w K mg base 1) : M8 P w K mg base CX0 2 a d ["hand"] (spD ⟨K, mg⟩ 1 M6) := by
 unfold M6
 exact aC2 c aQ9 rfl rfl fun _ _ _ _ _ _ _ => by obtain ⟨_, _, _, _⟩ := zb; have := aQ9; unfold aL8; walk_at "db0"
theorem bA1 (c : FF K mg "_law_stretches" aE8 ["hand", "most"] a d) (k4 : b8 M6 1 "_law_number" P w K mg base 2) (k1 : b8 d8 2 "_law_draw" P w K mg base 1) : M8 P w K mg base CX0 3 a d ["hand", "most"] (spD ⟨K, mg⟩ 2 N7) := by
 unfold N7
 exact aC2 c aK7 rfl rfl fun _ _ _ _ _ _ _ => by obtain ⟨_, _, _, _⟩ := zb; have := aK7; unfold aB1; unfold SA SD SC; walk_at "db0"
theorem bT1 (c : FF K mg "_law_text" aR6 ["hand"] a d) (k1 : b8 d8 2 "_law_draw" P w K mg base 1) (k2 : b8 Q8 3 "_law_letters" P w K mg base 2) : M8 P w K mg base CX0 3 a d ["hand"] (spD ⟨K, mg⟩ 1 V0) := by
 unfold V0
 exact aC2 c aZ6 rfl rfl fun _ _ _ _ _ _ _ => by obtain ⟨_, _, _, _⟩ := zb; have := aZ6; unfold aQ8; walk_at "db0"
theorem bW6 (c : FF K mg "_law_row" aW1 ["hand", "most"] a d) (k1 : b8 d8 2 "_law_draw" P w K mg base 1) (k6 : b8 V0 1 "_law_text" P w K mg base 3) : M8 P w K mg base CX0 4 a d ["hand", "most"] (spD ⟨K, mg⟩ 2 aA6) := by
 unfold aA6
 exact aC2 c bC6 rfl rfl fun _ _ _ _ _ _ _ => by obtain ⟨_, _, _, _⟩ := zb; have := bC6; unfold aO9; unfold WB WA; walk_at "db0"
theorem bD7 (c : FF K mg "_law_nothing" aJ5 [] a d) : M8 P w K mg base CX0 1 a d [] (spD ⟨K, mg⟩ 0 o4) := by
 unfold o4
 exact aC2 c aP5 rfl rfl fun _ _ _ _ _ _ _ => by obtain ⟨_, _, _, _⟩ := zb; have := aP5; unfold aJ2; walk_at "db0"
theorem bI5 (c : FF K mg "_law_formed" aL6 ["numbers", "texts", "truths", "lists", "records"] a d) (k8 : b8 o4 0 "_law_nothing" P w K mg base 1) : M8 P w K mg base CX0 2 a d ["numbers", "texts", "truths", "lists", "records"] (spD ⟨K, mg⟩ 5 T7) := by
 unfold T7
 exact aC2 c aQ5 rfl rfl fun _ _ _ _ _ _ _ => by obtain ⟨_, _, _, _⟩ := zb; have := aQ5; unfold aU8; unfold FF' FC FB FA FE FG'; walk_at "db0"
theorem aX3 (c : FF K mg "_law_raw" aF7 ["hand", "deep"] a d) (k1 : b8 d8 2 "_law_draw" P w K mg base 1) (k5 : b8 N7 2 "_law_stretches" P w K mg base 3) (k7 : b8 aA6 2 "_law_row" P w K mg base 4) {R : List D → M D} {lv : Nat} (k_R : b8 R 2 "_law_part_sets" P w K mg base lv) (h2 : 4 ≤ lv) : M8 P w K mg base CX0 (lv + 1) a d ["hand", "deep"] (spD ⟨K, mg⟩ 2 (aF2 R)) := by
 unfold aF2
 exact aC2 c bD4 rfl rfl fun _ _ _ _ _ _ _ => by obtain ⟨_, _, _, _⟩ := zb; have := bD4; unfold aV6; walk_at "db0"
theorem aX6 (c : FF K mg "_law_set" aF0 ["hand", "deep"] a d) (k1 : b8 d8 2 "_law_draw" P w K mg base 1) (k9 : b8 T7 5 "_law_formed" P w K mg base 2) (k8 : b8 o4 0 "_law_nothing" P w K mg base 1) {R : List D → M D} {lv : Nat} (k_R : b8 R 2 "_law_part_sets" P w K mg base lv) (k11 : b8 (aF2 R) 2 "_law_raw" P w K mg base (lv + 1)) (h2 : 4 ≤ lv) : M8 P w K mg base CX0 (lv + 2) a d ["hand", "deep"] (spD ⟨K, mg⟩ 2 (V4 R)) := by
 unfold V4
 exact aC2 c bD0 rfl rfl fun _ _ _ _ _ _ _ => by obtain ⟨_, _, _, _⟩ := zb; have := bD0; unfold aV7; walk_at "db0"
theorem aU1 (c : FF K mg "_law_part_sets" W4 ["hand", "deep"] a d) (k1 : b8 d8 2 "_law_draw" P w K mg base 1) (k3 : b8 K1 1 "_law_names" P w K mg base 3) {R : List D → M D} {lv : Nat} (k_R : b8 R 2 "_law_part_sets" P w K mg base lv) (k12 : b8 (V4 R) 2 "_law_set" P w K mg base (lv + 2)) (h2 : 4 ≤ lv) : M8 P w K mg base CX0 (lv + 3) a d ["hand", "deep"] (spD ⟨K, mg⟩ 2 (K9 6 (W5 R))) :=
 aC2 c aK5 rfl rfl fun _ _ _ _ _ _ _ => by obtain ⟨_, _, _, _⟩ := zb; have := aK5; unfold W5; unfold PR PD PL; walk_at "db0"
theorem aJ3 (c : FF K mg "_law_part_sets" W4 ["hand", "deep"] a d) {a11 : Addr} {d11 : FuncData} (c11 : FF K mg "_law_raw" aF7 ["hand", "deep"] a11 d11) {a12 : Addr} {d12 : FuncData} (c12 : FF K mg "_law_set" aF0 ["hand", "deep"] a12 d12) (k1 : b8 d8 2 "_law_draw" P w K mg base 1) (k3 : b8 K1 1 "_law_names" P w K mg base 3) (k5 : b8 N7 2 "_law_stretches" P w K mg base 3) (k7 : b8 aA6 2 "_law_row" P w K mg base 4) (k9 : b8 T7 5 "_law_formed" P w K mg base 2) (k8 : b8 o4 0 "_law_nothing" P w K mg base 1) : ∀ n, M8 P w K mg base CX0 (4 + 3 * n) a d ["hand", "deep"] (spD ⟨K, mg⟩ 2 (aA9 n))
 | 0 => aS5 rfl
 | n + 1 => by
   have kR := b8.of c (aJ3 c c11 c12 k1 k3 k5 k7 k9 k8 n)
   have h11 := b8.of c11 (aX3 zb c11 k1 k5 k7 kR (Nat.le_add_right _ _))
   have h12 := b8.of c12 (aX6 zb c12 k1 k9 k8 kR h11 (Nat.le_add_right _ _))
   exact aU1 zb c k1 k3 kR h12 (Nat.le_add_right _ _)
theorem aZ5 (c : FF K mg "_law_part_sets" W4 ["hand", "deep"] a d) {a11 : Addr} {d11 : FuncData} (c11 : FF K mg "_law_raw" aF7 ["hand", "deep"] a11 d11) {a12 : Addr} {d12 : FuncData} (c12 : FF K mg "_law_set" aF0 ["hand", "deep"] a12 d12) (k1 : b8 d8 2 "_law_draw" P w K mg base 1) (k3 : b8 K1 1 "_law_names" P w K mg base 3) (k5 : b8 N7 2 "_law_stretches" P w K mg base 3) (k7 : b8 aA6 2 "_law_row" P w K mg base 4) (k9 : b8 T7 5 "_law_formed" P w K mg base 2) (k8 : b8 o4 0 "_law_nothing" P w K mg base 1) : M8 P w K mg base CX0 184 a d ["hand", "deep"] (spD ⟨K, mg⟩ 2 W0) := aJ3 zb c c11 c12 k1 k3 k5 k7 k9 k8 60
theorem bW9 (c : FF K mg "_law_raw" aF7 ["hand", "deep"] a d) (k1 : b8 d8 2 "_law_draw" P w K mg base 1) (k5 : b8 N7 2 "_law_stretches" P w K mg base 3) (k7 : b8 aA6 2 "_law_row" P w K mg base 4) (k10 : b8 W0 2 "_law_part_sets" P w K mg base 184) : M8 P w K mg base CX0 185 a d ["hand", "deep"] (spD ⟨K, mg⟩ 2 aE4) := aX3 zb c k1 k5 k7 k10 (by decide)
theorem cB7 (c : FF K mg "_law_set" aF0 ["hand", "deep"] a d) (k1 : b8 d8 2 "_law_draw" P w K mg base 1) (k9 : b8 T7 5 "_law_formed" P w K mg base 2) (k8 : b8 o4 0 "_law_nothing" P w K mg base 1) (k10 : b8 W0 2 "_law_part_sets" P w K mg base 184) (k11 : b8 aE4 2 "_law_raw" P w K mg base 185) : M8 P w K mg base CX0 186 a d ["hand", "deep"] (spD ⟨K, mg⟩ 2 cD5) := aX6 zb c k1 k9 k8 k10 k11 (by decide)
theorem bB9 (c : FF K mg "lists_in_form" aG8 ["lists"] a d) : M8 P w K mg base CX0 1 a d ["lists"] (spD ⟨K, mg⟩ 1 Z8) := by
 unfold Z8
 exact aC2 c aM6 rfl rfl fun _ _ _ _ _ _ _ => by obtain ⟨_, _, _, _⟩ := zb; have := aM6; unfold aH1; walk_at "db0"
theorem aV3 (c : FF K mg "records_in_form" aD8 ["records"] a d) : M8 P w K mg base CX0 1 a d ["records"] (spD ⟨K, mg⟩ 1 U9) := by
 unfold U9
 exact aC2 c aJ7 rfl rfl fun _ _ _ _ _ _ _ => by obtain ⟨_, _, _, _⟩ := zb; have := aJ7; unfold aD4; walk_at "db0"
theorem dL4 (c : FF K mg "made" cG6 ["numbers", "texts", "truths", "lists", "records"] a d) (k13 : b8 Z8 1 "lists_in_form" P w K mg base 1) (k14 : b8 U9 1 "records_in_form" P w K mg base 1) : M8 P w K mg base CX0 2 a d ["numbers", "texts", "truths", "lists", "records"] (spD ⟨K, mg⟩ 5 bG3) := by
 unfold bG3
 exact aC2 c cM4 rfl rfl fun _ _ _ _ _ _ _ => by obtain ⟨_, _, _, _⟩ := zb; have := cM4; unfold cE3; walk_at "db0"
theorem bR8 (c : FF K mg "_law_made" aR5 ["parts"] a d) (k15 : b8 bG3 5 "made" P w K mg base 2) : M8 P w K mg base CX0 3 a d ["parts"] (spD ⟨K, mg⟩ 1 R6) := by
 unfold R6
 exact aC2 c aZ9 rfl rfl fun _ _ _ _ _ _ _ => by obtain ⟨_, _, _, _⟩ := zb; have := aZ9; unfold aR0; walk_at "db0"
theorem bD9 (c : FF K mg "_law_value" aD7 ["hand", "deep"] a d) (k1 : b8 d8 2 "_law_draw" P w K mg base 1) (k4 : b8 M6 1 "_law_number" P w K mg base 2) (k6 : b8 V0 1 "_law_text" P w K mg base 3) (k3 : b8 K1 1 "_law_names" P w K mg base 3) {R : List D → M D} {lv kk : Nat} (k_R : b8 R 2 "_law_value" P w K mg base lv) (h1 : lv ≤ kk) (h2 : 3 ≤ kk) : M8 P w K mg base CX0 (kk + 1) a d ["hand", "deep"] (spD ⟨K, mg⟩ 2 (K9 4 (aE0 R))) :=
 aC2 c aU6 rfl rfl fun _ _ _ _ _ _ _ => by obtain ⟨_, _, _, _⟩ := zb; have := aU6; unfold aE0; unfold VA VC; walk_at "db0"
theorem aS3 (c : FF K mg "_law_value" aD7 ["hand", "deep"] a d) (k1 : b8 d8 2 "_law_draw" P w K mg base 1) (k4 : b8 M6 1 "_law_number" P w K mg base 2) (k6 : b8 V0 1 "_law_text" P w K mg base 3) (k3 : b8 K1 1 "_law_names" P w K mg base 3) : ∀ n, M8 P w K mg base CX0 (3 + n) a d ["hand", "deep"] (spD ⟨K, mg⟩ 2 (X8 n))
 | 0 => aS5 rfl
 | n + 1 => bD9 zb c k1 k4 k6 k3 (b8.of c (aS3 c k1 k4 k6 k3 n)) (Nat.le_refl _) (Nat.le_add_right _ _)
theorem bK9 (c : FF K mg "_law_value" aD7 ["hand", "deep"] a d) (k1 : b8 d8 2 "_law_draw" P w K mg base 1) (k4 : b8 M6 1 "_law_number" P w K mg base 2) (k6 : b8 V0 1 "_law_text" P w K mg base 3) (k3 : b8 K1 1 "_law_names" P w K mg base 3) : M8 P w K mg base CX0 9 a d ["hand", "deep"] (spD ⟨K, mg⟩ 2 aE2) := aS3 zb c k1 k4 k6 k3 6
theorem bB2 (c : FF K mg "_law_plain_of" aH6 ["hand", "some"] a d) (k2 : b8 Q8 3 "_law_letters" P w K mg base 2) (k1 : b8 d8 2 "_law_draw" P w K mg base 1) : M8 P w K mg base CX0 3 a d ["hand", "some"] (spD ⟨K, mg⟩ 2 S7) := by
 unfold S7
 exact aC2 c aN1 rfl rfl fun _ _ _ _ _ _ _ => by obtain ⟨_, _, _, _⟩ := zb; have := aN1; unfold aC5; unfold QC QB QA QR; walk_at "db0"
theorem bS7 (c : FF K mg "_law_of" aM8 ["hand", "some"] a d) (k17 : b8 aE2 2 "_law_value" P w K mg base 9) (k1 : b8 d8 2 "_law_draw" P w K mg base 1) (k3 : b8 K1 1 "_law_names" P w K mg base 3) (k18 : b8 S7 2 "_law_plain_of" P w K mg base 3) (k8 : b8 o4 0 "_law_nothing" P w K mg base 1) {R : List D → M D} {lv kk : Nat} (k_R : b8 R 2 "_law_of" P w K mg base lv) (h1 : lv ≤ kk) (h2 : 9 ≤ kk) : M8 P w K mg base CX0 (kk + 1) a d ["hand", "some"] (spD ⟨K, mg⟩ 2 (K9 11 (aU0 R))) :=
 aC2 c bI9 rfl rfl fun _ _ _ _ _ _ _ => by obtain ⟨_, _, _, _⟩ := zb; have := bI9; unfold aU0; unfold Q2 O2 O3 O4 Q5 O5 Q6 O6 Q7 O7 O8 Q9 O9 OA OB OBb OC OCb OE O1; walk_at "db0"
theorem bC3 (c : FF K mg "_law_of" aM8 ["hand", "some"] a d) (k17 : b8 aE2 2 "_law_value" P w K mg base 9) (k1 : b8 d8 2 "_law_draw" P w K mg base 1) (k3 : b8 K1 1 "_law_names" P w K mg base 3) (k18 : b8 S7 2 "_law_plain_of" P w K mg base 3) (k8 : b8 o4 0 "_law_nothing" P w K mg base 1) : ∀ n, M8 P w K mg base CX0 (9 + n) a d ["hand", "some"] (spD ⟨K, mg⟩ 2 (aT7 n))
 | 0 => aS5 rfl
 | n + 1 => bS7 zb c k17 k1 k3 k18 k8 (b8.of c (bC3 c k17 k1 k3 k18 k8 n)) (Nat.le_refl _) (Nat.le_add_right _ _)
theorem cC6 (c : FF K mg "_law_of" aM8 ["hand", "some"] a d) (k17 : b8 aE2 2 "_law_value" P w K mg base 9) (k1 : b8 d8 2 "_law_draw" P w K mg base 1) (k3 : b8 K1 1 "_law_names" P w K mg base 3) (k18 : b8 S7 2 "_law_plain_of" P w K mg base 3) (k8 : b8 o4 0 "_law_nothing" P w K mg base 1) : M8 P w K mg base CX0 19 a d ["hand", "some"] (spD ⟨K, mg⟩ 2 bA9) := bC3 zb c k17 k1 k3 k18 k8 10
theorem bF5 (c : FF K mg "_law_near" aG5 ["hand", "value"] a d) (k1 : b8 d8 2 "_law_draw" P w K mg base 1) {R : List D → M D} {lv kk : Nat} (k_R : b8 R 2 "_law_near" P w K mg base lv) (h1 : lv ≤ kk) (h2 : 1 ≤ kk) : M8 P w K mg base CX0 (kk + 1) a d ["hand", "value"] (spD ⟨K, mg⟩ 2 (K9 5 (aG7 R))) :=
 aC2 c aY3 rfl rfl fun _ _ _ _ _ _ _ => by obtain ⟨_, _, _, _⟩ := zb; have := aY3; unfold aG7; unfold NL EB EI ES EL ER NA NA2 NA3 NA4 NT; walk_at "db0"
theorem aU5 (c : FF K mg "_law_near" aG5 ["hand", "value"] a d) (k1 : b8 d8 2 "_law_draw" P w K mg base 1) : ∀ n, M8 P w K mg base CX0 (1 + n) a d ["hand", "value"] (spD ⟨K, mg⟩ 2 (aC9 n))
 | 0 => aS5 rfl
 | n + 1 => bF5 zb c k1 (b8.of c (aU5 c k1 n)) (Nat.le_refl _) (Nat.le_add_right _ _)
theorem bS8 (c : FF K mg "_law_near" aG5 ["hand", "value"] a d) (k1 : b8 d8 2 "_law_draw" P w K mg base 1) : M8 P w K mg base CX0 9 a d ["hand", "value"] (spD ⟨K, mg⟩ 2 aS4) := aU5 zb c k1 8
theorem bY7 (c : FF K mg "is_empty" aW7 ["low", "high"] a d) : M8 P w K mg base CX0 1 a d ["low", "high"] (spD ⟨K, mg⟩ 2 aE7) := by
 unfold aE7
 exact aC2 c bC5 rfl rfl fun _ _ _ _ _ _ _ => by obtain ⟨_, _, _, _⟩ := zb; have := bC5; unfold bH7; walk_at "db0"
theorem bK3 (c : FF K mg "is_between" aN7 ["number", "low", "high"] a d) (k21 : b8 aE7 2 "is_empty" P w K mg base 1) : M8 P w K mg base CX0 2 a d ["number", "low", "high"] (spD ⟨K, mg⟩ 3 T6) := by
 unfold T6
 exact aC2 c aU7 rfl rfl fun _ _ _ _ _ _ _ => by obtain ⟨_, _, _, _⟩ := zb; have := aU7; unfold aO7; walk_at "db0"
theorem cB4 (c : FF K mg "front_at" aV8 ["lists", "place"] a d) : M8 P w K mg base CX0 1 a d ["lists", "place"] (spD ⟨K, mg⟩ 2 Z1) := by
 unfold Z1
 exact aC2 c bD5 rfl rfl fun _ _ _ _ _ _ _ => by obtain ⟨_, _, _, _⟩ := zb; have := bD5; unfold aW3; walk_at "db0"
theorem aX1 (c : FF K mg "fields_by_name" aE5 ["records"] a d) : M8 P w K mg base CX0 1 a d ["records"] (spD ⟨K, mg⟩ 1 K7) := by
 unfold K7
 exact aC2 c aK8 rfl rfl fun _ _ _ _ _ _ _ => by obtain ⟨_, _, _, _⟩ := zb; have := aK8; unfold aE6; walk_at "db0"
theorem cB3 (c : FF K mg "field_of" aV9 ["told", "more", "name"] a d) : M8 P w K mg base CX0 1 a d ["told", "more", "name"] (spD ⟨K, mg⟩ 3 Z3) := by
 unfold Z3
 exact aC2 c bC8 rfl rfl fun _ _ _ _ _ _ _ => by obtain ⟨_, _, _, _⟩ := zb; have := bC8; unfold aW2; walk_at "db0"
theorem aM3 (c : FF K mg "list_lies_in" W3 ["values", "lists"] a d) (k23 : b8 Z1 2 "front_at" P w K mg base 1) {R : List D → M D} {lv : Nat} (k_R : b8 R 2 "lies_in" P w K mg base lv) (h2 : 2 ≤ lv) : M8 P w K mg base CX0 (lv + 1) a d ["values", "lists"] (spD ⟨K, mg⟩ 2 (U4 R)) := by
 unfold U4
 exact aC2 c aP6 rfl rfl fun _ _ _ _ _ _ _ => by obtain ⟨_, _, _, _⟩ := zb; have := aP6; unfold aK3; walk_at "db0"
theorem aJ9 (c : FF K mg "record_lies_in" T8 ["pairs", "records"] a d) (k24 : b8 K7 1 "fields_by_name" P w K mg base 1) (k25 : b8 Z3 3 "field_of" P w K mg base 1) {R : List D → M D} {lv : Nat} (k_R : b8 R 2 "lies_in" P w K mg base lv) (h2 : 2 ≤ lv) : M8 P w K mg base CX0 (lv + 1) a d ["pairs", "records"] (spD ⟨K, mg⟩ 2 (R4 R)) := by
 unfold R4
 exact aC2 c aK9 rfl rfl fun _ _ _ _ _ _ _ => by obtain ⟨_, _, _, _⟩ := zb; have := aK9; unfold aB2; unfold RZ RA; walk_at "db0"
theorem bS3 (c : FF K mg "lies_in" aM2 ["value", "some"] a d) (k22 : b8 T6 3 "is_between" P w K mg base 2) {R : List D → M D} {lv : Nat} (k_R : b8 R 2 "lies_in" P w K mg base lv) (k27 : b8 (U4 R) 2 "list_lies_in" P w K mg base (lv + 1)) (k28 : b8 (R4 R) 2 "record_lies_in" P w K mg base (lv + 1)) (h2 : 2 ≤ lv) : M8 P w K mg base CX0 (lv + 2) a d ["value", "some"] (spD ⟨K, mg⟩ 2 (K9 2 (aM1 R))) :=
 aC2 c bG9 rfl rfl fun _ _ _ _ _ _ _ => by obtain ⟨_, _, _, _⟩ := zb; have := bG9; unfold aM1; walk_at "db0"
theorem bC2 (c : FF K mg "lies_in" aM2 ["value", "some"] a d) {a27 : Addr} {d27 : FuncData} (c27 : FF K mg "list_lies_in" W3 ["values", "lists"] a27 d27) {a28 : Addr} {d28 : FuncData} (c28 : FF K mg "record_lies_in" T8 ["pairs", "records"] a28 d28) (k22 : b8 T6 3 "is_between" P w K mg base 2) (k23 : b8 Z1 2 "front_at" P w K mg base 1) (k24 : b8 K7 1 "fields_by_name" P w K mg base 1) (k25 : b8 Z3 3 "field_of" P w K mg base 1) : ∀ n, M8 P w K mg base CX0 (2 + 2 * n) a d ["value", "some"] (spD ⟨K, mg⟩ 2 (aT9 n))
 | 0 => aS5 rfl
 | n + 1 => by
   have kR := b8.of c (bC2 c c27 c28 k22 k23 k24 k25 n)
   have h27 := b8.of c27 (aM3 zb c27 k23 kR (Nat.le_add_right _ _))
   have h28 := b8.of c28 (aJ9 zb c28 k24 k25 kR (Nat.le_add_right _ _))
   exact bS3 zb c k22 kR h27 h28 (Nat.le_add_right _ _)
theorem cG3 (c : FF K mg "lies_in" aM2 ["value", "some"] a d) {a27 : Addr} {d27 : FuncData} (c27 : FF K mg "list_lies_in" W3 ["values", "lists"] a27 d27) {a28 : Addr} {d28 : FuncData} (c28 : FF K mg "record_lies_in" T8 ["pairs", "records"] a28 d28) (k22 : b8 T6 3 "is_between" P w K mg base 2) (k23 : b8 Z1 2 "front_at" P w K mg base 1) (k24 : b8 K7 1 "fields_by_name" P w K mg base 1) (k25 : b8 Z3 3 "field_of" P w K mg base 1) : M8 P w K mg base CX0 122 a d ["value", "some"] (spD ⟨K, mg⟩ 2 S6) := bC2 zb c c27 c28 k22 k23 k24 k25 60
theorem bE1 (c : FF K mg "list_lies_in" W3 ["values", "lists"] a d) (k23 : b8 Z1 2 "front_at" P w K mg base 1) (k26 : b8 S6 2 "lies_in" P w K mg base 122) : M8 P w K mg base CX0 123 a d ["values", "lists"] (spD ⟨K, mg⟩ 2 bH4) := aM3 zb c k23 k26 (by decide)
theorem aZ2 (c : FF K mg "record_lies_in" T8 ["pairs", "records"] a d) (k24 : b8 K7 1 "fields_by_name" P w K mg base 1) (k25 : b8 Z3 3 "field_of" P w K mg base 1) (k26 : b8 S6 2 "lies_in" P w K mg base 122) : M8 P w K mg base CX0 123 a d ["pairs", "records"] (spD ⟨K, mg⟩ 2 bC1) := aJ9 zb c k24 k25 k26 (by decide)
theorem bB8 (c : FF K mg "_law_by_parts" aH8 ["value", "parts"] a d) (k8 : b8 o4 0 "_law_nothing" P w K mg base 1) (k26 : b8 S6 2 "lies_in" P w K mg base 122) (k16 : b8 R6 1 "_law_made" P w K mg base 3) : M8 P w K mg base CX0 123 a d ["value", "parts"] (spD ⟨K, mg⟩ 2 Z6) := by
 unfold Z6
 exact aC2 c aN5 rfl rfl fun _ _ _ _ _ _ _ => by obtain ⟨_, _, _, _⟩ := zb; have := aN5; unfold aC4; walk_at "db0"
theorem aU3 (c : FF K mg "_law_inner_right" aC6 ["value", "parts"] a d) (k26 : b8 S6 2 "lies_in" P w K mg base 122) : M8 P w K mg base CX0 123 a d ["value", "parts"] (spD ⟨K, mg⟩ 2 U3) := by
 unfold U3
 exact aC2 c aI0 rfl rfl fun _ _ _ _ _ _ _ => by obtain ⟨_, _, _, _⟩ := zb; have := aI0; unfold Z2; unfold X1 X7 X6 X5 X4 X2 X3; walk_at "db0"
theorem dS6 (c : FF K mg "law" bG8 ["script"] a d) (k0 : b8 aG4 3 "_law_hand" P w K mg base 1) (k11 : b8 aE4 2 "_law_raw" P w K mg base 185) (k16 : b8 R6 1 "_law_made" P w K mg base 3) (k19 : b8 bA9 2 "_law_of" P w K mg base 19) (k20 : b8 aS4 2 "_law_near" P w K mg base 9) (k26 : b8 S6 2 "lies_in" P w K mg base 122) (k29 : b8 Z6 2 "_law_by_parts" P w K mg base 123) (k30 : b8 U3 2 "_law_inner_right" P w K mg base 123) : M8 P w K mg base CX0 186 a d ["script"] (spD ⟨K, mg⟩ 1 bU6) := by
 unfold bU6
 exact aC2 c dA1 rfl rfl fun _ _ _ _ _ _ _ => by obtain ⟨_, _, _, _⟩ := zb; have := dA1; unfold cL8; unfold LB LC LA JB TT T1 T2 T3; walk_at "db0"
end
set_option maxHeartbeats 4000000 in
theorem all_mk {l : PySem.W.OpenLaw} {w : World} {K : PySem.W.Frag} {h : Heap} {mg : Str → Option Value} {fa : Addr} (X : K.In h) (G : h.Ns mainGlobals mg) (hfa : mg "law" = some (.ref fa))
 (Y0 : FH K "_law_hand" aR7) (Y1 : FH K "_law_draw" aQ1) (Y2 : FH K "_law_letters" aJ1) (Y3 : FH K "_law_names" aN9) (Y4 : FH K "_law_number" aL9) (Y5 : FH K "_law_stretches" aE8) (Y6 : FH K "_law_text" aR6) (Y7 : FH K "_law_row" aW1) (Y8 : FH K "_law_nothing" aJ5) (Y9 : FH K "_law_formed" aL6) (Y10 : FH K "_law_part_sets" W4) (Y11 : FH K "_law_raw" aF7) (Y12 : FH K "_law_set" aF0) (Y13 : FH K "lists_in_form" aG8) (Y14 : FH K "records_in_form" aD8) (Y15 : FH K "made" cG6) (Y16 : FH K "_law_made" aR5) (Y17 : FH K "_law_value" aD7) (Y18 : FH K "_law_plain_of" aH6) (Y19 : FH K "_law_of" aM8) (Y20 : FH K "_law_near" aG5) (Y21 : FH K "is_empty" aW7) (Y22 : FH K "is_between" aN7) (Y23 : FH K "front_at" aV8) (Y24 : FH K "fields_by_name" aE5) (Y25 : FH K "field_of" aV9) (Y26 : FH K "lies_in" aM2) (Y27 : FH K "list_lies_in" W3) (Y28 : FH K "record_lies_in" T8) (Y29 : FH K "_law_by_parts" aH8) (Y30 : FH K "_law_inner_right" aC6) (Y31 : FH K "law" bG8)
 {a_NOTHING : Addr} {n_NOTHING : Nat} {sl_NOTHING : Array (Option Value)} {a_NOTHING_0 : Addr} {n_NOTHING_0 : Nat} {sl_NOTHING_0 : Array (Option Value)} {a_NOTHING_1 : Addr} {n_NOTHING_1 : Nat} {sl_NOTHING_1 : Array (Option Value)} {t_NOTHING_1_0 : Tok} {a_NOTHING_1_1 : Addr} {n_NOTHING_1_1 : Nat} {sl_NOTHING_1_1 : Array (Option Value)} {a_NOTHING_2 : Addr} {n_NOTHING_2 : Nat} {sl_NOTHING_2 : Array (Option Value)}
 (g_NOTHING : PySem.W.nsIn K mainGlobals "NOTHING" = some (some (.ref a_NOTHING))) (l_NOTHING : K.lookup a_NOTHING = some ⟨.type "tuple", none, .seq #[.ref a_NOTHING_0, .ref a_NOTHING_1, .ref a_NOTHING_2, .none, .none] n_NOTHING, sl_NOTHING⟩) (l_NOTHING_0 : K.lookup a_NOTHING_0 = some ⟨.type "tuple", none, .seq #[] n_NOTHING_0, sl_NOTHING_0⟩) (l_NOTHING_1 : K.lookup a_NOTHING_1 = some ⟨.type "tuple", none, .seq #[.str "of" t_NOTHING_1_0, .ref a_NOTHING_1_1] n_NOTHING_1, sl_NOTHING_1⟩) (l_NOTHING_1_1 : K.lookup a_NOTHING_1_1 = some ⟨.type "tuple", none, .seq #[] n_NOTHING_1_1, sl_NOTHING_1_1⟩) (l_NOTHING_2 : K.lookup a_NOTHING_2 = some ⟨.type "tuple", none, .seq #[] n_NOTHING_2, sl_NOTHING_2⟩)
 {a_ALL_PARTS : Addr} {n_ALL_PARTS : Nat} {sl_ALL_PARTS : Array (Option Value)} {a_ALL_PARTS_0 : Addr} {n_ALL_PARTS_0 : Nat} {sl_ALL_PARTS_0 : Array (Option Value)} {a_ALL_PARTS_0_0 : Addr} {n_ALL_PARTS_0_0 : Nat} {sl_ALL_PARTS_0_0 : Array (Option Value)} {a_ALL_PARTS_1 : Addr} {n_ALL_PARTS_1 : Nat} {sl_ALL_PARTS_1 : Array (Option Value)} {t_ALL_PARTS_1_0 : Tok} {a_ALL_PARTS_1_1 : Addr} {n_ALL_PARTS_1_1 : Nat} {sl_ALL_PARTS_1_1 : Array (Option Value)} {a_ALL_PARTS_2 : Addr} {n_ALL_PARTS_2 : Nat} {sl_ALL_PARTS_2 : Array (Option Value)} {a_ALL_PARTS_3 : Addr} {n_ALL_PARTS_3 : Nat} {sl_ALL_PARTS_3 : Array (Option Value)} {a_ALL_PARTS_3_0 : Addr} {n_ALL_PARTS_3_0 : Nat} {sl_ALL_PARTS_3_0 : Array (Option Value)} {t_ALL_PARTS_3_1 : Tok} {a_ALL_PARTS_4 : Addr} {n_ALL_PARTS_4 : Nat} {sl_ALL_PARTS_4 : Array (Option Value)} {a_ALL_PARTS_4_0 : Addr} {n_ALL_PARTS_4_0 : Nat} {sl_ALL_PARTS_4_0 : Array (Option Value)} {t_ALL_PARTS_4_1 : Tok}
 (g_ALL_PARTS : PySem.W.nsIn K mainGlobals "ALL_PARTS" = some (some (.ref a_ALL_PARTS))) (l_ALL_PARTS : K.lookup a_ALL_PARTS = some ⟨.type "tuple", none, .seq #[.ref a_ALL_PARTS_0, .ref a_ALL_PARTS_1, .ref a_ALL_PARTS_2, .ref a_ALL_PARTS_3, .ref a_ALL_PARTS_4] n_ALL_PARTS, sl_ALL_PARTS⟩) (l_ALL_PARTS_0 : K.lookup a_ALL_PARTS_0 = some ⟨.type "tuple", none, .seq #[.ref a_ALL_PARTS_0_0] n_ALL_PARTS_0, sl_ALL_PARTS_0⟩) (l_ALL_PARTS_0_0 : K.lookup a_ALL_PARTS_0_0 = some ⟨.type "tuple", none, .seq #[.none, .none] n_ALL_PARTS_0_0, sl_ALL_PARTS_0_0⟩) (l_ALL_PARTS_1 : K.lookup a_ALL_PARTS_1 = some ⟨.type "tuple", none, .seq #[.str "but" t_ALL_PARTS_1_0, .ref a_ALL_PARTS_1_1] n_ALL_PARTS_1, sl_ALL_PARTS_1⟩) (l_ALL_PARTS_1_1 : K.lookup a_ALL_PARTS_1_1 = some ⟨.type "tuple", none, .seq #[] n_ALL_PARTS_1_1, sl_ALL_PARTS_1_1⟩) (l_ALL_PARTS_2 : K.lookup a_ALL_PARTS_2 = some ⟨.type "tuple", none, .seq #[.bool false, .bool true] n_ALL_PARTS_2, sl_ALL_PARTS_2⟩) (l_ALL_PARTS_3 : K.lookup a_ALL_PARTS_3 = some ⟨.type "tuple", none, .seq #[.ref a_ALL_PARTS_3_0, .str "any" t_ALL_PARTS_3_1] n_ALL_PARTS_3, sl_ALL_PARTS_3⟩) (l_ALL_PARTS_3_0 : K.lookup a_ALL_PARTS_3_0 = some ⟨.type "tuple", none, .seq #[] n_ALL_PARTS_3_0, sl_ALL_PARTS_3_0⟩) (l_ALL_PARTS_4 : K.lookup a_ALL_PARTS_4 = some ⟨.type "tuple", none, .seq #[.ref a_ALL_PARTS_4_0, .str "any" t_ALL_PARTS_4_1] n_ALL_PARTS_4, sl_ALL_PARTS_4⟩) (l_ALL_PARTS_4_0 : K.lookup a_ALL_PARTS_4_0 = some ⟨.type "tuple", none, .seq #[] n_ALL_PARTS_4_0, sl_ALL_PARTS_4_0⟩)
 {t_ANY : Tok}
 (g_ANY : PySem.W.nsIn K mainGlobals "ANY" = some (some (.str "any" t_ANY)))
 (z : ∀ b ∈ bltL, PySem.W.nsIn K mainGlobals b = some none)
 (pure : ∀ ns : List Int, ns.length ≤ 63 → ∃ G', bU6 [.ref 0] [.rol (ns.map D.int)] = some (.ok (.bl true), G')) :
 ∃ fd : FuncData, (∀ (s : Shared) (v : Value), BindsTo s fd ⟨[v], []⟩ [("script", v)]) ∧ ∀ base : Heap, K.In base → base.Ns mainGlobals mg → M8 l.prog w K mg base CX0 186 fa fd ["script"] (cK0 K) := by
 obtain ⟨_, _, an_law, _, _, kV_law, dc_law, pm_law, cd_law, ct_law, a31, l_law, e_law, k31⟩ := Y31
 have e := hfa.symm.trans (PySem.W.mg_of X G a31)
 cases e
 obtain ⟨_, _, C0⟩ := Y0.ff3 (p1 := "script") (p2 := "cell") (p3 := "k") X G fun _ _ _ _ _ _ _ _ _ => rfl
 obtain ⟨_, _, C1⟩ := Y1.ff2 (p1 := "hand") (p2 := "limit") X G fun _ _ _ _ _ _ _ _ => rfl
 obtain ⟨_, _, C2⟩ := Y2.ff3 (p1 := "hand") (p2 := "least") (p3 := "most") X G fun _ _ _ _ _ _ _ _ _ => rfl
 obtain ⟨_, _, C3⟩ := Y3.ff1 (p1 := "hand") X G fun _ _ _ _ _ _ _ => rfl
 obtain ⟨_, _, C4⟩ := Y4.ff1 (p1 := "hand") X G fun _ _ _ _ _ _ _ => rfl
 obtain ⟨_, _, C5⟩ := Y5.ff2 (p1 := "hand") (p2 := "most") X G fun _ _ _ _ _ _ _ _ => rfl
 obtain ⟨_, _, C6⟩ := Y6.ff1 (p1 := "hand") X G fun _ _ _ _ _ _ _ => rfl
 obtain ⟨_, _, C7⟩ := Y7.ff2 (p1 := "hand") (p2 := "most") X G fun _ _ _ _ _ _ _ _ => rfl
 obtain ⟨_, _, C8⟩ := Y8.ff0 X G fun _ _ _ _ _ _ => rfl
 obtain ⟨_, _, C9⟩ := Y9.ff5 (p1 := "numbers") (p2 := "texts") (p3 := "truths") (p4 := "lists") (p5 := "records") X G fun _ _ _ _ _ _ _ _ _ _ _ => rfl
 obtain ⟨_, _, C10⟩ := Y10.ff2 (p1 := "hand") (p2 := "deep") X G fun _ _ _ _ _ _ _ _ => rfl
 obtain ⟨_, _, C11⟩ := Y11.ff2 (p1 := "hand") (p2 := "deep") X G fun _ _ _ _ _ _ _ _ => rfl
 obtain ⟨_, _, C12⟩ := Y12.ff2 (p1 := "hand") (p2 := "deep") X G fun _ _ _ _ _ _ _ _ => rfl
 obtain ⟨_, _, C13⟩ := Y13.ff1 (p1 := "lists") X G fun _ _ _ _ _ _ _ => rfl
 obtain ⟨_, _, C14⟩ := Y14.ff1 (p1 := "records") X G fun _ _ _ _ _ _ _ => rfl
 obtain ⟨_, _, C15⟩ := Y15.ff5 (p1 := "numbers") (p2 := "texts") (p3 := "truths") (p4 := "lists") (p5 := "records") X G fun _ _ _ _ _ _ _ _ _ _ _ => rfl
 obtain ⟨_, _, C16⟩ := Y16.ff1 (p1 := "parts") X G fun _ _ _ _ _ _ _ => rfl
 obtain ⟨_, _, C17⟩ := Y17.ff2 (p1 := "hand") (p2 := "deep") X G fun _ _ _ _ _ _ _ _ => rfl
 obtain ⟨_, _, C18⟩ := Y18.ff2 (p1 := "hand") (p2 := "some") X G fun _ _ _ _ _ _ _ _ => rfl
 obtain ⟨_, _, C19⟩ := Y19.ff2 (p1 := "hand") (p2 := "some") X G fun _ _ _ _ _ _ _ _ => rfl
 obtain ⟨_, _, C20⟩ := Y20.ff2 (p1 := "hand") (p2 := "value") X G fun _ _ _ _ _ _ _ _ => rfl
 obtain ⟨_, _, C21⟩ := Y21.ff2 (p1 := "low") (p2 := "high") X G fun _ _ _ _ _ _ _ _ => rfl
 obtain ⟨_, _, C22⟩ := Y22.ff3 (p1 := "number") (p2 := "low") (p3 := "high") X G fun _ _ _ _ _ _ _ _ _ => rfl
 obtain ⟨_, _, C23⟩ := Y23.ff2 (p1 := "lists") (p2 := "place") X G fun _ _ _ _ _ _ _ _ => rfl
 obtain ⟨_, _, C24⟩ := Y24.ff1 (p1 := "records") X G fun _ _ _ _ _ _ _ => rfl
 obtain ⟨_, _, C25⟩ := Y25.ff3 (p1 := "told") (p2 := "more") (p3 := "name") X G fun _ _ _ _ _ _ _ _ _ => rfl
 obtain ⟨_, _, C26⟩ := Y26.ff2 (p1 := "value") (p2 := "some") X G fun _ _ _ _ _ _ _ _ => rfl
 obtain ⟨_, _, C27⟩ := Y27.ff2 (p1 := "values") (p2 := "lists") X G fun _ _ _ _ _ _ _ _ => rfl
 obtain ⟨_, _, C28⟩ := Y28.ff2 (p1 := "pairs") (p2 := "records") X G fun _ _ _ _ _ _ _ _ => rfl
 obtain ⟨_, _, C29⟩ := Y29.ff2 (p1 := "value") (p2 := "parts") X G fun _ _ _ _ _ _ _ _ => rfl
 obtain ⟨_, _, C30⟩ := Y30.ff2 (p1 := "value") (p2 := "parts") X G fun _ _ _ _ _ _ _ _ => rfl
 have C31 : FF K mg "law" bG8 ["script"] _ _ := ⟨bU1 l_law e_law k31, (bU1 l_law e_law k31).binds (ps := ["script"]) (fun _ _ _ _ _ _ us hl => match us, hl with | [_], _ => rfl), PySem.W.mg_of X G a31⟩
 have zb0 := BLs.of X G z
 have zb : BC K mg := ⟨zb0, ⟨_, PySem.W.mg_of X G g_NOTHING, aC8 (us := [.ref a_NOTHING_0, .ref a_NOTHING_1, .ref a_NOTHING_2, .none, .none]) l_NOTHING rfl (M3 (aC8 (us := []) l_NOTHING_0 rfl (Z0)) (M3 (aC8 (us := [.str "of" t_NOTHING_1_0, .ref a_NOTHING_1_1]) l_NOTHING_1 rfl (M3 (bJ2) (M3 (aC8 (us := []) l_NOTHING_1_1 rfl (Z0)) (Z0)))) (M3 (aC8 (us := []) l_NOTHING_2 rfl (Z0)) (M3 (bT7) (M3 (bT7) (Z0))))))⟩, ⟨_, PySem.W.mg_of X G g_ALL_PARTS, aC8 (us := [.ref a_ALL_PARTS_0, .ref a_ALL_PARTS_1, .ref a_ALL_PARTS_2, .ref a_ALL_PARTS_3, .ref a_ALL_PARTS_4]) l_ALL_PARTS rfl (M3 (aC8 (us := [.ref a_ALL_PARTS_0_0]) l_ALL_PARTS_0 rfl (M3 (aC8 (us := [.none, .none]) l_ALL_PARTS_0_0 rfl (M3 (bT7) (M3 (bT7) (Z0)))) (Z0))) (M3 (aC8 (us := [.str "but" t_ALL_PARTS_1_0, .ref a_ALL_PARTS_1_1]) l_ALL_PARTS_1 rfl (M3 (bJ2) (M3 (aC8 (us := []) l_ALL_PARTS_1_1 rfl (Z0)) (Z0)))) (M3 (aC8 (us := [.bool false, .bool true]) l_ALL_PARTS_2 rfl (M3 (dM0) (M3 (dM0) (Z0)))) (M3 (aC8 (us := [.ref a_ALL_PARTS_3_0, .str "any" t_ALL_PARTS_3_1]) l_ALL_PARTS_3 rfl (M3 (aC8 (us := []) l_ALL_PARTS_3_0 rfl (Z0)) (M3 (bJ2) (Z0)))) (M3 (aC8 (us := [.ref a_ALL_PARTS_4_0, .str "any" t_ALL_PARTS_4_1]) l_ALL_PARTS_4 rfl (M3 (aC8 (us := []) l_ALL_PARTS_4_0 rfl (Z0)) (M3 (bJ2) (Z0)))) (Z0))))))⟩, ⟨_, PySem.W.mg_of X G g_ANY, bJ2⟩⟩
 refine ⟨PySem.W.fnOf "law" "law" (aA8 bG8) (Z4 bG8) (m7 bG8) .none kV_law dc_law pm_law an_law cd_law ct_law, fun s v => .of_eq rfl, fun base _ _ => dU2 ?_ pure⟩
 have O0 := bR5 (P := l.prog) (w := w) (base := base) zb C0
 have O1 := bT0 (P := l.prog) (w := w) (base := base) zb C1
 have O2 := bE3 (P := l.prog) (w := w) (base := base) zb C2 (b8.of C1 O1)
 have O3 := bK5 (P := l.prog) (w := w) (base := base) zb C3 (b8.of C1 O1) (b8.of C2 O2)
 have O4 := bI6 (P := l.prog) (w := w) (base := base) zb C4 (b8.of C1 O1)
 have O5 := bA1 (P := l.prog) (w := w) (base := base) zb C5 (b8.of C4 O4) (b8.of C1 O1)
 have O6 := bT1 (P := l.prog) (w := w) (base := base) zb C6 (b8.of C1 O1) (b8.of C2 O2)
 have O7 := bW6 (P := l.prog) (w := w) (base := base) zb C7 (b8.of C1 O1) (b8.of C6 O6)
 have O8 := bD7 (P := l.prog) (w := w) (base := base) zb C8
 have O9 := bI5 (P := l.prog) (w := w) (base := base) zb C9 (b8.of C8 O8)
 have O10 := aZ5 (P := l.prog) (w := w) (base := base) zb C10 C11 C12 (b8.of C1 O1) (b8.of C3 O3) (b8.of C5 O5) (b8.of C7 O7) (b8.of C9 O9) (b8.of C8 O8)
 have O11 := bW9 (P := l.prog) (w := w) (base := base) zb C11 (b8.of C1 O1) (b8.of C5 O5) (b8.of C7 O7) (b8.of C10 O10)
 have O12 := cB7 (P := l.prog) (w := w) (base := base) zb C12 (b8.of C1 O1) (b8.of C9 O9) (b8.of C8 O8) (b8.of C10 O10) (b8.of C11 O11)
 have O13 := bB9 (P := l.prog) (w := w) (base := base) zb C13
 have O14 := aV3 (P := l.prog) (w := w) (base := base) zb C14
 have O15 := dL4 (P := l.prog) (w := w) (base := base) zb C15 (b8.of C13 O13) (b8.of C14 O14)
 have O16 := bR8 (P := l.prog) (w := w) (base := base) zb C16 (b8.of C15 O15)
 have O17 := bK9 (P := l.prog) (w := w) (base := base) zb C17 (b8.of C1 O1) (b8.of C4 O4) (b8.of C6 O6) (b8.of C3 O3)
 have O18 := bB2 (P := l.prog) (w := w) (base := base) zb C18 (b8.of C2 O2) (b8.of C1 O1)
 have O19 := cC6 (P := l.prog) (w := w) (base := base) zb C19 (b8.of C17 O17) (b8.of C1 O1) (b8.of C3 O3) (b8.of C18 O18) (b8.of C8 O8)
 have O20 := bS8 (P := l.prog) (w := w) (base := base) zb C20 (b8.of C1 O1)
 have O21 := bY7 (P := l.prog) (w := w) (base := base) zb C21
 have O22 := bK3 (P := l.prog) (w := w) (base := base) zb C22 (b8.of C21 O21)
 have O23 := cB4 (P := l.prog) (w := w) (base := base) zb C23
 have O24 := aX1 (P := l.prog) (w := w) (base := base) zb C24
 have O25 := cB3 (P := l.prog) (w := w) (base := base) zb C25
 have O26 := cG3 (P := l.prog) (w := w) (base := base) zb C26 C27 C28 (b8.of C22 O22) (b8.of C23 O23) (b8.of C24 O24) (b8.of C25 O25)
 have O27 := bE1 (P := l.prog) (w := w) (base := base) zb C27 (b8.of C23 O23) (b8.of C26 O26)
 have O28 := aZ2 (P := l.prog) (w := w) (base := base) zb C28 (b8.of C24 O24) (b8.of C25 O25) (b8.of C26 O26)
 have O29 := bB8 (P := l.prog) (w := w) (base := base) zb C29 (b8.of C8 O8) (b8.of C26 O26) (b8.of C16 O16)
 have O30 := aU3 (P := l.prog) (w := w) (base := base) zb C30 (b8.of C26 O26)
 have O31 := dS6 (P := l.prog) (w := w) (base := base) zb C31 (b8.of C0 O0) (b8.of C11 O11) (b8.of C16 O16) (b8.of C19 O19) (b8.of C20 O20) (b8.of C26 O26) (b8.of C29 O29) (b8.of C30 O30)
 exact O31
theorem walk {l : PySem.W.OpenLaw} {q : Program} {loose : List Str} {XP : (Str → Option Value) → Heap → Prop} {YP : World → Heap → Prop} {d : DefRec} {K : Params → PySem.W.Frag} (hn : l.most = some 63) (hdf : d.params.defaults = [])
 (hY : ∀ (w : World) (h : Heap), YP w h → (K w.params).In h)
 (F : ∀ (w : World) (mg : Str → Option Value) (fa : Addr) (h : Heap), (K w.params).In h → h.Ns mainGlobals mg → mg d.name = some (.ref fa) →
   ∃ fd : FuncData, (∀ (s : Shared) (u : Value), BindsTo s fd ⟨[u], []⟩ [("script", u)]) ∧ ∀ base : Heap, (K w.params).In base → base.Ns mainGlobals mg → M8 l.prog w (K w.params) mg base CX0 186 fa fd ["script"] (cK0 (K w.params))) :
 PySem.W.WalkO q loose XP YP l.row.toRowW d [] (fun f vs => PySem.call f vs) :=
 L2.walk_of (n := 63) (k := 186) (x := "script") (CX := fun _ => CX0) (sp := fun w => cK0 (K w.params)) hn (by decide) hdf ⟨rfl, by decide, by decide⟩ hY F (fun _ _ a ns hl hO hS => ⟨a, ns, rfl, hS, hO, hl, fun _ => rfl⟩) fun _ _ _ _ _ z => z
mutual
noncomputable def szD : D → Nat
 | .tup l => 1 + szL l
 | .str _ => 1
 | .ref _ => 1
 | .fn _ => 1
 | .ty _ => 1
 | .non => 1
 | .bl _ => 1
 | .int _ => 1
noncomputable def szL : List D → Nat
 | [] => 0
 | d :: r => szD d + szL r
end
noncomputable abbrev V3 : Str := "list"
noncomputable abbrev aB9 : Str := "record"
noncomputable def Ap (G G' : DH) : Prop := ∃ t, G' = G ++ t
theorem Ap.refl {G : DH} : Ap G G := ⟨[], by simp⟩
theorem Ap.trans {G G1 G2 : DH} (h : Ap G G1) (k : Ap G1 G2) : Ap G G2 := by
 obtain ⟨t, rfl⟩ := h
 obtain ⟨u, rfl⟩ := k
 exact ⟨t ++ u, by simp⟩
theorem Ap.one {G : DH} {o : DO} : Ap G (G ++ [o]) := ⟨_, rfl⟩
theorem Ap.at {G G' : DH} {p : Nat} {o : DO} (h : Ap G G') (e : G[p]? = some o) : G'[p]? = some o := by
 obtain ⟨t, rfl⟩ := h
 exact Q0 e
theorem Ap.gr {G G' : DH} (h : Ap G G') : Gr G G' := by
 obtain ⟨t, rfl⟩ := h
 exact Gr.app
section
variable {g : Fg} {t : DSt → M Bool} {e : Fe} {ck : DH → Bool}
theorem aN3 (J : DH → Prop) (S : DSt → Prop) (f : D → D) (hck : ∀ G, J G → ck G = true) : ∀ (items : List D) (σ : DSt) (G : DH), S σ → J G →
 (∀ d ∈ items, ∀ σ G, S σ → J G → Wp (g d σ) G fun σ1 G1 => G1 = G ∧ S σ1 ∧ Wp (t σ1) G fun b G2 => b = true ∧ G2 = G ∧ Wp (e σ1) G fun y G3 => J G3 ∧ y = f d) →
 Wp (K4 g t e ck items σ) G fun ys G' => J G' ∧ ys = items.map f
 | [], σ, G, s, j, _ => by
   rw [bH0]
   exact ⟨hck G j, j, rfl⟩
 | d :: r, σ, G, s, j, step => by
   rw [bI4]
   refine ⟨hck G j, Wp.mono (step d (by simp) σ G s j) fun σ1 G1 ⟨e1, s1, w1⟩ => ?_⟩
   subst e1
   refine Wp.mono w1 fun b G2 ⟨eb, e2, w2⟩ => ?_
   subst eb e2
   rw [if_pos rfl]
   refine Wp.mono w2 fun y G3 ⟨j3, py⟩ => ?_
   refine Wp.mono (aN3 J S f hck r σ1 G3 s1 j3 fun d hd => step d (by simp [hd])) fun ys G4 ⟨j4, l4⟩ => ⟨j4, by simp [l4, py]⟩
end
theorem dD8 {G : DH} {p q : Nat} {xs : List D} {Q : DPP} (e : G[p]? = some (.lst xs)) (eq : G[q]? = some (.lst [])) : Wp (eqD (.ref p) (.ref q)) G Q ↔ Q (.bl xs.isEmpty) G := by
 have h : eqN 40 G (.ref p) (.ref q) = some xs.isEmpty := by
  have h1 : aB7 G (.ref p) = some (false, xs) := by simp only [aB7, e]
  have h2 : aB7 G (.ref q) = some (false, []) := by simp only [aB7, eq]
  rw [aZ0, h1, h2]
  cases xs <;> rfl
 rw [bC9, h]; exact T4
theorem dN8 {G : DH} {p : Nat} {l : List D} {lo hi : Option Int} {Q : DPP} (e : G[p]? = some (.lst l)) : Wp (slD (.ref p) lo hi) G Q ↔ Q (.ref G.length) (G ++ [.lst (DL.cutD l lo hi)]) := by
 have h : slD (.ref p) lo hi = (do
  let l ← R5 p >>= DL.listOf
  N5 (.lst (DL.cutD l lo hi))) := rfl
 rw [h]
 simp only [m5, T5, e, T4, DL.listOf, j6, V1]
theorem big : 1000000 < sizeLine := by decide
section
variable {t : DSt → M Bool} {b : Fs} {σ : DSt} {G : DH} {P : Fl → DH → Prop}
end
theorem Gr.set {G0 G : DH} {p : Nat} {o : DO} (h : Gr G0 G) (hp : G0.length ≤ p) : Gr G0 (G.set p o) := ⟨by rw [List.length_set]; exact h.1, fun i hi => by rw [List.getElem?_set_ne (by omega)]; exact h.2 i hi⟩
theorem lt_of_get {G : DH} {p : Nat} {o : DO} (e : G[p]? = some o) : p < G.length := by
 by_cases hi : p < G.length
 · exact hi
 · rw [List.getElem?_eq_none (by omega)] at e; cases e
section
variable {bd n : Nat}
end
theorem aX5 (l : List D) (n : Nat) : DL.cutD l none (some (n : Int)) = l.take n := by
 unfold DL.cutD
 rw [HT.sIx_none, HT.sIx_nat, List.drop_zero, Nat.sub_zero]
 by_cases h : n ≤ l.length
 · rw [Nat.min_eq_left h]
 · rw [Nat.min_eq_right (by omega), List.take_of_length_le (Nat.le_refl _), List.take_of_length_le (by omega)]
theorem cY5 (l : List D) (n : Nat) : DL.cutD l (some (n : Int)) none = l.drop n := by
 unfold DL.cutD
 rw [HT.sIx_none, HT.sIx_nat]
 by_cases h : n ≤ l.length
 · rw [Nat.min_eq_left h, List.take_of_length_le (by rw [List.length_drop]; omega)]
 · rw [Nat.min_eq_right (by omega), List.drop_eq_nil_of_le (Nat.le_refl _), List.drop_eq_nil_of_le (by omega)]
   simp
section
variable {G : DH} {Q : DPP}
theorem dZ4 {a c : Bool} : Wp (eqD (.bl a) (.bl c)) G Q ↔ Q (.bl (a == c)) G := by
 have e : eqN 40 G (.bl a) (.bl c) = some (a == c) := by rfl
 rw [bC9, e]; exact T4
theorem bT6 {k : Bool} : Wp (bV4 [.bl k]) G Q ↔ Q (.int (if k then 1 else 0)) G := j6
theorem aT3 {ds : List D} {k : Int} (h0 : 0 ≤ k) (h1 : k < ds.length) (q : ∀ d ∈ ds, Q d (G ++ [.lst ds])) : Wp (ixD (.ref G.length) (.int k)) (G ++ [.lst ds]) Q := by
 rw [bB6 j9]
 obtain ⟨d, hd, e⟩ := aZ7 (l := ds) h0 h1
 exact ⟨d, e, q d hd⟩
end
noncomputable def dR4 {α β : Type} (R : α → β → Prop) : List α → List β → Prop
 | [], [] => True
 | a :: r, b :: s => R a b ∧ dR4 R r s
 | _, _ => False
section
variable {α β : Type} {R S : α → β → Prop}
end
noncomputable abbrev aH0 : Str := "any"
abbrev wOf : Str := "of"
noncomputable def t8 (p : Str × D) : D := .tup [.str p.1, p.2]
noncomputable def stD (p : D × D) : D := .tup [p.1, p.2]
noncomputable def fdD (f : Str × Bool × D) : D := .tup [.str f.1, .bl f.2.1, f.2.2]
def mkS (ns : List (D × D)) (w : Str) (ts : List Str) (tr : List Bool) (li re : D) : D := .tup [.tup (ns.map stD), .tup [.str w, .tup (ts.map D.str)], .tup (tr.map D.bl), li, re]
def VW (b : Nat) : Nat → D → Prop
 | 0, _ => False
 | n + 1, d => (∃ i, d = .int i) ∨ (∃ k, d = .bl k) ∨ (∃ z : Str, d = .str z ∧ z.length ≤ 1000 + b) ∨ (∃ l, d = .tup [.str V3, .tup l] ∧ l.length ≤ b ∧ ∀ x ∈ l, VW b n x) ∨
    ∃ ps : List (Str × D), d = .tup [.str aB9, .tup (ps.map t8)] ∧ ps.length ≤ b ∧ (ps.map (·.1)).Nodup ∧ ∀ p ∈ ps, p.1.length ≤ 1000 ∧ VW b n p.2
noncomputable def aW9 : D → Prop
 | .non => True
 | .int _ => True
 | _ => False
def aK4 (p : D × D) : Prop := aW9 p.1 ∧ aW9 p.2 ∧ ∀ a b, p.1 = .int a → p.2 = .int b → a ≤ b ∧ b - a < 2 ^ 90
noncomputable def LiP (S : D → Prop) (li : D) : Prop := li = .non ∨ ∃ fs m, li = .tup [.tup fs, m] ∧ fs.length ≤ 100 ∧ (∀ x ∈ fs, S x) ∧ S m
def ReP (S : D → Prop) (re : D) : Prop := re = .non ∨ ∃ (fs : List (Str × Bool × D)) (m : D), re = .tup [.tup (fs.map fdD), m] ∧ fs.length ≤ 40 ∧ (fs.map (·.1)).Nodup ∧ (∀ f ∈ fs, f.1.length ≤ 1000 ∧ S f.2.2) ∧ S m
def SB : Nat → D → Prop
 | 0, _ => False
 | n + 1, d => d = .str aH0 ∨ ∃ ns w ts tr li re, d = mkS ns w ts tr li re ∧ (∀ p ∈ ns, aK4 p) ∧ ns.length ≤ 100 ∧ (∀ z ∈ ts, z.length ≤ 1000) ∧ ts.length ≤ 100 ∧ tr.length ≤ 100 ∧ LiP (SB n) li ∧ ReP (SB n) re
noncomputable def loB (i : Int) : D → Bool
 | .int x => decide (x ≤ i)
 | _ => true
noncomputable def hiB (i : Int) : D → Bool
 | .int y => decide (i ≤ y)
 | _ => true
def bL4 (i : Int) : D → Bool
 | .tup [a, b] => loB i a && hiB i b
 | _ => true
noncomputable def nmD (nm : Str) : D → Bool
 | .tup (.str z :: _) => decide (z = nm)
 | _ => false
def aA0 (fs : List D) (m : D) (nm : Str) : D := match fs.find? (nmD nm) with
 | some (.tup [_, _, s]) => s
 | _ => m
def V7 (l : List D) : D → Bool
 | .tup [.str nm, .bl b, _] => l.any (nmD nm) || !b
 | _ => true
def aW5 (f : D → D → Bool) (fs : List D) (m : D) : D → Bool
 | .tup [.str nm, v] => f v (aA0 fs m nm)
 | _ => true
def aO1 (f : D → D → Bool) (l : List D) : D → Bool
 | .tup [.tup fs, m] => decide (fs.length ≤ l.length) && (List.range l.length).all fun k => f (l.getD k .non) ((fs ++ List.replicate l.length m).getD k .non)
 | _ => false
def aO2 (f : D → D → Bool) (l : List D) : D → Bool
 | .tup [.tup fs, m] => fs.all (V7 l) && l.all (aW5 f fs m)
 | _ => false
def inP : Nat → D → D → Bool
 | 0, _, _ => false
 | n + 1, v, s => match s with
   | .tup [.tup ns, .tup [.str w, .tup ts], .tup tr, li, re] => match v with
     | .bl b => inV (.bl b) (tr.map toV)
     | .int i => ns.any (bL4 i)
     | .str z => inV (.str z) (ts.map toV) == (w == wOf)
     | .tup [.str k, .tup l] => if k = V3 then aO1 (inP n) l li else aO2 (inP n) l re
     | _ => false
   | _ => true
section
variable {n : Nat} {ns : List (D × D)} {w : Str} {ts : List Str} {tr : List Bool} {li re : D}
theorem aQ2 {l : List D} : inP (n + 1) (.tup [.str V3, .tup l]) (mkS ns w ts tr li re) = aO1 (inP n) l li := by
 show (if V3 = V3 then aO1 (inP n) l li else aO2 (inP n) l re) = _
 exact if_pos rfl
theorem aQ0 {l : List D} : inP (n + 1) (.tup [.str aB9, .tup l]) (mkS ns w ts tr li re) = aO2 (inP n) l re := by
 show (if aB9 = V3 then aO1 (inP n) l li else aO2 (inP n) l re) = _
 exact if_neg (by decide)
end
noncomputable def cU2 : D → D → Bool
 | .int x, .int y => decide (x > y)
 | _, _ => false
theorem cF8 {i j : Int} {G : DH} {Q : DPP} : Wp (gtD (.int i) (.int j)) G Q ↔ Q (.bl (decide (i > j))) G := j6
theorem bC4 {a b : D} {G : DH} {Q : DPP} (ha : aW9 a) (hb : aW9 b) : Wp (aE7 [a, b]) G Q ↔ Q (.bl (cU2 a b)) G := aO6 (by
 cases a <;> cases b <;> first
  | exact ha.elim
  | exact hb.elim
  | rfl)
theorem ngt {x y : Int} : (!decide (x > y)) = decide (x ≤ y) := by
 rw [← decide_not]
 congr 1
 exact propext ⟨fun z => by omega, fun z => by omega⟩
theorem cF1 {i : Int} {a b : D} {G : DH} {Q : DPP} (ha : aW9 a) (hb : aW9 b) : Wp (T6 [.int i, a, b]) G Q ↔ Q (.bl (bL4 i (.tup [a, b]))) G := by
 unfold T6 aO7
 have s0 : ([.int i, a, b].map some ++ List.replicate (3 - [D.int i, a, b].length) none : DSt) = [some (.int i), some a, some b] := rfl
 simp only [aT6, s0, aV4, bP4, cF4, aI6, aB6, aB0, m6, aG9, List.getElem?_cons_zero, List.getElem?_cons_succ, Option.some.injEq, exists_eq_left', bC4 ha (show aW9 (.int i) from trivial), bC4 (show aW9 (.int i) from trivial) hb, aJ8]
 have e1 : (!cU2 a (.int i)) = loB i a := by
  cases a <;> first
   | exact ha.elim
   | rfl
   | exact ngt
 have e2 : (!cU2 (.int i) b) = hiB i b := by
  cases b <;> first
   | exact hb.elim
   | rfl
   | exact ngt
 have e3 : bL4 i (.tup [a, b]) = (loB i a && hiB i b) := rfl
 rw [e3, ← e1, ← e2]
 generalize cU2 a (.int i) = x
 generalize cU2 (.int i) b = y
 cases x <;> cases y <;> simp
theorem cO9 {i : Int} {G : DH} {ck : DH → Bool} (hck : ck G = true) {ns : List (D × D)} (h : ∀ p ∈ ns, aK4 p) (σ : DSt) (hσ : ∃ u v, σ = [u, v, some (.int i)]) :
 K4 (aG2 2 (J5 (q15 0) (J5 (q15 1) (aI4)))) V2 (q16 (fnX 3 T6) (q13 (c7 2) (q13 (c7 0) (q13 (c7 1) (q14))))) ck (ns.map stD) σ G = some (.ok ((ns.map stD).map fun d => .bl (bL4 i d)), G) := by
 refine aA2 (I := fun σ => ∃ u v, σ = [u, v, some (.int i)]) hck _ _ hσ fun d hd σ hσ => ?_
 obtain ⟨p, hp, rfl⟩ := List.mem_map.mp hd
 obtain ⟨u, v, rfl⟩ := hσ
 refine ⟨[some p.1, some p.2, some (.int i)], aH9 ?_, ⟨_, _, rfl⟩, rfl, aH9 ?_⟩
 · unfold stD
   rw [dL3]
   simp only [bH3, bQ4, V9, List.set_cons_succ, List.set_cons_zero]
   exact ⟨trivial, trivial⟩
 · simp only [aI6, aB0, m6, aG9, aB6, List.getElem?_cons_zero, List.getElem?_cons_succ, Option.some.injEq, exists_eq_left', cF1 (h p hp).1 (h p hp).2.1]
   exact ⟨rfl, rfl, trivial⟩
theorem bX5 {fs : List D} {m : D} {k n : Nat} (hk : k < n) : (fs ++ List.replicate n m).getD k .non = if k < fs.length then fs.getD k .non else m := by
 by_cases h : k < fs.length
 · rw [if_pos h, List.getD_eq_getElem?_getD, List.getElem?_append_left h, ← List.getD_eq_getElem?_getD]
 · rw [if_neg h, List.getD_eq_getElem?_getD, List.getElem?_append_right (by omega), List.getElem?_replicate, if_pos (by omega)]; rfl
theorem cT1 {fs : List D} {m : D} {k n : Nat} (hk : k < n) {G : DH} {Q : DPP} (hz : fs.length ≤ sizeLine) : Wp (Z1 [.tup [.tup fs, m], .int (k : Int)]) G Q ↔ Q ((fs ++ List.replicate n m).getD k .non) G := by
 rw [bX5 hk]
 unfold Z1 aW3
 have s0 : ([.tup [.tup fs, m], .int (k : Int)].map some ++ List.replicate (2 - [D.tup [.tup fs, m], .int (k : Int)].length) none : DSt) = [some (.tup [.tup fs, m]), some (.int (k : Int))] := rfl
 have a0 : atI [D.tup fs, m] 0 = some (.tup fs) := rfl
 have a1 : atI [D.tup fs, m] 1 = some m := rfl
 simp only [aT6, s0, aV4, bP2, bT5, aO0, aI6, aB0, m6, bY0, aG9, List.getElem?_cons_zero, List.getElem?_cons_succ, Option.some.injEq, exists_eq_left', ix_tup, a0, a1, dH3, aT4, cU3]
 by_cases h : k < fs.length
 · rw [if_pos (by simpa using h), if_pos h]
   have e : atI fs (k : Int) = some (fs.getD k .non) := atI_nat (by rw [List.getD_eq_getElem?_getD, List.getElem?_eq_getElem h]; rfl)
   simp only [e, Option.some.injEq, exists_eq_left']
 · rw [if_neg (by simpa using h), if_neg h]
theorem dF0 {g : D → Bool} {F : Nat → Bool} {l : List D} (h : ∀ (k : Nat) (v : D), l[k]? = some v → g (.tup [.int (k : Int), v]) = F k) : ((l.zipIdx.map fun p => D.tup [.int ((p.2 : Nat) : Int), p.1]).all g) = (List.range l.length).all F := by
 rw [Bool.eq_iff_iff, List.all_eq_true, List.all_eq_true]
 constructor
 · intro H k hk
   have hk' : k < l.length := by simpa using hk
   have := H (.tup [.int (k : Int), l[k]]) (List.mem_map.mpr ⟨(l[k], k), List.mem_zipIdx_iff_getElem?.mpr (by simp [hk']), rfl⟩)
   rw [h k l[k] (by simp [hk'])] at this
   exact this
 · intro H d hd
   obtain ⟨p, hp, rfl⟩ := List.mem_map.mp hd
   have hp' := List.mem_zipIdx_iff_getElem?.mp hp
   have hlt : p.2 < l.length := by
    rcases Nat.lt_or_ge p.2 l.length with z | z
    · exact z
    · rw [List.getElem?_eq_none z] at hp'; cases hp'
   rw [h p.2 p.1 hp']
   exact H p.2 (by simpa using hlt)
def liG (n : Nat) (len : Nat) (fs : List D) (m : D) : D → Bool
 | .tup [.int k, v] => inP n v ((fs ++ List.replicate len m).getD k.toNat .non)
 | _ => true
theorem cC0 {fs : List D} {m : D} {k n : Nat} (hk : k < n) : (fs ++ List.replicate n m).getD k .non ∈ fs ∨ (fs ++ List.replicate n m).getD k .non = m := by
 rw [bX5 hk]
 by_cases h : k < fs.length
 · rw [if_pos h, List.getD_eq_getElem?_getD, List.getElem?_eq_getElem h]; exact .inl (List.getElem_mem h)
 · rw [if_neg h]; exact .inr rfl
theorem dK3 {R : List D → M D} {n : Nat} {l fs : List D} {m : D} {G : DH} (hl : l.length ≤ 1000) (hf : fs.length ≤ 100) (hR : ∀ v ∈ l, ∀ s, s ∈ fs ∨ s = m → ∀ G, Wp (R [v, s]) G fun x G' => x = .bl (inP n v s) ∧ Ap G G') :
 Wp (U4 R [.tup l, .tup [.tup fs, m]]) G fun x G' => x = .bl (aO1 (inP n) l (.tup [.tup fs, m])) ∧ Ap G G' := by
 have bg := big
 refine R3 (show Wp (aK3 R [some (.tup l), some (.tup [.tup fs, m])]) G _ from ?_)
 refine j7.mpr <| aH2 <| cD9 <| d9 (a := false) (G' := G) rfl ⟨fun z => (nomatch z), fun _ => J4 <| Q3 (x := .int l.length) (y := .int fs.length) rfl rfl <| aT4.mpr ⟨_, rfl, fun hlt => ?_, fun hlt => J2.mpr ?_⟩⟩
 · have hlt : (l.length : Int) < fs.length := of_decide_eq_true hlt
   refine d9 (a := .rt (.bl false)) rfl (aD1 ⟨?_, Ap.refl⟩)
   have : decide (fs.length ≤ l.length) = false := decide_eq_false (by omega)
   show _ = D.bl (decide (fs.length ≤ l.length) && _)
   rw [this]; rfl
 · have hlt : ¬ (l.length : Int) < fs.length := of_decide_eq_false hlt
   refine R1 <| P0 <| m8 <| wp_comp.mpr <| cS8 (l := l) <| d9 (a := [.tup l]) rfl ⟨rfl, by simp; omega, ?_⟩
   refine (aN3 (fun G' => Ap G G') (fun σ => ∃ u v, σ = [u, v, some (.tup [.tup fs, m])]) (fun d => .bl (liG n l.length fs m d)) (fun _ _ => rfl) _ _ G ⟨_, _, rfl⟩ Ap.refl ?_).mono ?_
   · rintro d hd σ G1 ⟨u, v, rfl⟩ j1
     obtain ⟨p, hp, rfl⟩ := List.mem_map.mp hd
     have hp' := List.mem_zipIdx_iff_getElem?.mp hp
     have hm : p.1 ∈ l := List.mem_of_getElem? hp'
     have hlt : p.2 < l.length := by
      rcases Nat.lt_or_ge p.2 l.length with z | z
      · exact z
      · rw [List.getElem?_eq_none z] at hp'; cases hp'
     refine d9 (a := [some (.int p.2), some p.1, some (.tup [.tup fs, m])]) rfl ⟨rfl, ⟨_, _, rfl⟩, d9 rfl ⟨rfl, rfl, ?_⟩⟩
     refine P0 <| J3 (x := p.1) rfl <| m8 <| m9 (as := [.tup [.tup fs, m], .int p.2]) rfl rfl <| (cT1 hlt (show fs.length ≤ sizeLine by omega)).mpr <| m6.mpr <| aB6.mpr ⟨rfl, (hR p.1 hm _ (cC0 hlt) G1).mono fun x G2 z => ⟨j1.trans z.2, ?_⟩⟩
     rw [z.1]
     show _ = D.bl (inP n p.1 ((fs ++ List.replicate l.length m).getD (Int.toNat (p.2 : Int)) .non))
     rw [Int.toNat_natCast]
   · rintro _ G1 ⟨j1, rfl⟩
     refine m6.mpr <| (cD7 (f := liG n l.length fs m) j9).mpr <| aD1 ⟨?_, j1.trans Ap.one⟩
     have hd : decide (fs.length ≤ l.length) = true := decide_eq_true (by omega)
     show _ = D.bl (decide (fs.length ≤ l.length) && _)
     rw [hd, Bool.true_and, dF0 (F := fun k => inP n (l.getD k .non) ((fs ++ List.replicate l.length m).getD k .non))]
     intro k v hv
     show inP n v ((fs ++ List.replicate l.length m).getD (Int.toNat (k : Int)) .non) = _
     rw [Int.toNat_natCast, List.getD_eq_getElem?_getD, List.getD_eq_getElem?_getD, hv]; rfl
theorem list_none {R : List D → M D} {l : List D} {G : DH} : Wp (U4 R [.tup l, .non]) G fun x G' => x = .bl false ∧ Ap G G' := bF2 (d := .bl false) rfl ⟨rfl, Ap.refl⟩
theorem bM3 (f : Str × D → D) : ∀ (ps : List (Str × D)) (z : Str), M5 (ps.map fun p => ((.inr p.1 : Key), f p)) (.inr z) = (ps.find? fun p => decide (p.1 = z)).map f
 | [], z => rfl
 | p :: r, z => by
   have ih := bM3 f r z
   unfold M5 at ih ⊢
   by_cases e : p.1 = z
   · simp [List.find?_cons, e]
   · have e' : ¬ ((.inr p.1 : Key) = .inr z) := fun q => e (Sum.inr.inj q)
     simp only [List.map_cons, List.find?_cons, e, e', decide_false, ih]
theorem bQ9 {d : D} {r : List D} {p : Key × D} {ps : List (Key × D)} (h1 : bG4 d = some p) (h2 : aD6 r = some ps) : aD6 (d :: r) = some (p :: ps) := by
 show (match bG4 d, aD6 r with | some p, some ps => some (p :: ps) | _, _ => none) = _
 rw [h1, h2]
noncomputable def reD : D → D
 | .tup [a, b, c] => .tup [a, .tup [b, c]]
 | _ => .non
theorem bL9 : ∀ ps : List (Str × D), aD6 (ps.map t8) = some (ps.map fun p => ((.inr p.1 : Key), p.2))
 | [] => rfl
 | p :: r => bQ9 rfl (bL9 r)
theorem bE5 : ∀ (r acc : List (Str × D)), ((acc ++ r).map (·.1)).Nodup → DL.putAll (acc.map fun p => ((.inr p.1 : Key), p.2)) (r.map fun p => ((.inr p.1 : Key), p.2)) = (acc ++ r).map fun p => ((.inr p.1 : Key), p.2)
 | [], acc, h => by simp [DL.putAll]
 | p :: r, acc, h => by
   have hn : ¬ ((acc.map fun p => ((.inr p.1 : Key), p.2)).any fun kv => decide (kv.1 = .inr p.1)) = true := by
    intro q
    obtain ⟨kv, hk, e⟩ := List.any_eq_true.mp q
    obtain ⟨x, hx, rfl⟩ := List.mem_map.mp hk
    have ex : x.1 = p.1 := Sum.inr.inj (of_decide_eq_true e)
    rw [List.map_append, List.nodup_append] at h
    exact h.2.2 x.1 (List.mem_map.mpr ⟨x, hx, rfl⟩) p.1 (by simp) ex
   have e1 : aL4 (acc.map fun p => ((.inr p.1 : Key), p.2)) (.inr p.1) p.2 = (acc ++ [p]).map fun p => ((.inr p.1 : Key), p.2) := by
    unfold aL4
    rw [if_neg hn, List.map_append]; rfl
   have ih := bE5 r (acc ++ [p]) (by simpa using h)
   show DL.putAll (aL4 (acc.map fun p => ((.inr p.1 : Key), p.2)) (.inr p.1) p.2) (r.map fun p => ((.inr p.1 : Key), p.2)) = _
   rw [e1, ih]
   simp
theorem dG6 {G : DH} {q : Nat} {l : List (Key × D)} {z : Str} (e : G[q]? = some (.dct l)) : inB (.str z) (.ref q) G = some (M5 l (.inr z)).isSome := by
 show (match G[q]? with
  | some (.dct l) => (bK1 (.str z)).map fun k => (M5 l k).isSome
  | some (.rod _) => none
  | some (.lst l) => if S8 (.str z) && l.all S8 then some (inV (toV (.str z)) (l.map toV)) else none
  | some (.rol l) => if S8 (.str z) && l.all S8 then some (inV (toV (.str z)) (l.map toV)) else none
  | none => none) = _
 rw [e]; rfl
theorem cA2 {r : Nat} {l : List D} {ps : List (Key × D)} {G : DH} {Q : DPP} (e : G[r]? = some (.lst l)) (h : aD6 l = some ps) : Wp (aP3 [.ref r]) G Q ↔ Q (.ref G.length) (G ++ [.dct (putAll [] ps)]) := by
 unfold aP3
 simp only [m5, T5, e, T4, DL.listOf, j6, aK2, h, V1]
theorem cI1 {g : Fgs} {a b c : D} {σ : DSt} {G : DH} {S : DSt → DH → Prop} : Wp (aG2 3 g (.tup [a, b, c]) σ) G S ↔ Wp (g [a, b, c] σ) G S := cH1 rfl
noncomputable def kv (f : Str × D) : Key × D := (.inr f.1, f.2)
noncomputable def tv (f : Str × Bool × D) : Key × D := (.inr f.1, .tup [.bl f.2.1, f.2.2])
theorem dA9 {ps : List (Str × D)} {G : DH} {Q : DPP} (h : (ps.map (·.1)).Nodup) : Wp (aP3 [.tup (ps.map t8)]) G Q ↔ Q (.ref G.length) (G ++ [.dct (ps.map kv)]) := by
 rw [cT5 (bL9 ps)]
 have := bE5 ps [] (by simpa using h)
 simp only [List.map_nil, List.nil_append] at this
 rw [this]; rfl
theorem bX3 {α : Type} (f : α → Bool) : ∀ l : List α, (l.find? f).isSome = l.any f
 | [] => rfl
 | a :: r => by
   rw [List.any_cons]
   cases h : f a with
   | true => rw [List.find?_cons_of_pos h]; rfl
   | false => rw [List.find?_cons_of_neg (by simp [h]), bX3 f r]; rfl
theorem dE5 {ps : List (Str × D)} {z : Str} : (M5 (ps.map kv) (.inr z)).isSome = (ps.map t8).any (nmD z) := by
 show (M5 (ps.map fun p => ((.inr p.1 : Key), p.2)) (.inr z)).isSome = _
 rw [bM3 (fun p => p.2), Option.isSome_map, bX3, List.any_map]; rfl
theorem cJ7 : ∀ (fs : List (Str × Bool × D)) (z : Str), M5 (fs.map tv) (.inr z) = (fs.find? fun f => decide (f.1 = z)).map fun f => .tup [.bl f.2.1, f.2.2]
 | [], z => rfl
 | f :: r, z => by
   rw [List.map_cons]
   by_cases e : f.1 = z
   · have h1 : M5 (tv f :: r.map tv) (.inr z) = some (.tup [.bl f.2.1, f.2.2]) := by unfold M5 tv; simp [e]
     rw [h1, List.find?_cons_of_pos (by simpa using e)]; rfl
   · have h1 : M5 (tv f :: r.map tv) (.inr z) = M5 (r.map tv) (.inr z) := by unfold M5 tv; simp [e]
     rw [h1, List.find?_cons_of_neg (by simpa using e)]
     exact cJ7 r z
theorem aM7 (fs : List (Str × Bool × D)) (m : D) (z : Str) : aA0 (fs.map fdD) m z = ((fs.find? fun f => decide (f.1 = z)).map (·.2.2)).getD m := by
 unfold aA0
 rw [List.find?_map]
 have e : (nmD z ∘ fdD) = fun f : Str × Bool × D => decide (f.1 = z) := rfl
 rw [e]
 cases fs.find? fun f => decide (f.1 = z) <;> rfl
theorem bI0 {fs : List (Str × Bool × D)} {m : D} {z : Str} : (∃ f ∈ fs, aA0 (fs.map fdD) m z = f.2.2) ∨ aA0 (fs.map fdD) m z = m := by
 rw [aM7]
 cases e : fs.find? fun f => decide (f.1 = z) with
 | none => exact .inr rfl
 | some f => exact .inl ⟨f, List.mem_of_find?_eq_some e, rfl⟩
theorem dA7 {q : Nat} {fs : List (Str × Bool × D)} {m : D} {z : Str} {G : DH} {Q : DPP} (e : G[q]? = some (.dct (fs.map tv))) : Wp (Z3 [.ref q, m, .str z]) G Q ↔ ∃ b, Q (.tup [.bl b, aA0 (fs.map fdD) m z]) G ∧ b = ((fs.find? fun f => decide (f.1 = z)).map (·.2.1)).getD false := by
 unfold Z3 aW2
 have s0 : ([.ref q, m, .str z].map some ++ List.replicate (3 - [D.ref q, m, .str z].length) none : DSt) = [some (.ref q), some m, some (.str z)] := rfl
 simp only [aT6, s0, aV4, bJ3, aB0, m6, U5, bY0, aG9, List.getElem?_cons_zero, List.getElem?_cons_succ, Option.some.injEq, exists_eq_left', bN0 e, cJ1 e, cJ7, aM7]
 have hs : 2 ≤ sizeLine := by decide
 cases fs.find? fun f => decide (f.1 = z) with
 | none => simp [hs]
 | some f => simp [hs]
theorem bZ8 : ∀ fs : List (Str × Bool × D), aD6 (fs.map fun f => .tup [.str f.1, .tup [.bl f.2.1, f.2.2]]) = some (fs.map tv)
 | [] => rfl
 | f :: r => bQ9 rfl (bZ8 r)
theorem dS8 (fs : List (Str × Bool × D)) (h : (fs.map (·.1)).Nodup) : putAll [] (fs.map tv) = fs.map tv := by
 have e : fs.map tv = (fs.map fun f => ((f.1, .tup [.bl f.2.1, f.2.2]) : Str × D)).map fun p => ((.inr p.1 : Key), p.2) := by rw [List.map_map]; rfl
 have := bE5 (fs.map fun f => ((f.1, .tup [.bl f.2.1, f.2.2]) : Str × D)) [] (by simpa [List.map_map, Function.comp_def] using h)
 simp only [List.map_nil, List.nil_append] at this
 rw [e, this]
theorem cQ7 {fs : List (Str × Bool × D)} {m : D} {G : DH} {Q : DPP} (h : (fs.map (·.1)).Nodup) (hl : fs.length ≤ 100) (q : ∀ o, Q (.ref (G.length + 1)) (G ++ [o] ++ [.dct (fs.map tv)])) : Wp (K7 [.tup [.tup (fs.map fdD), m]]) G Q := by
 have bg := big
 unfold K7 aE6
 have s0 : ([D.tup [.tup (fs.map fdD), m]].map some ++ List.replicate (1 - [D.tup [.tup (fs.map fdD), m]].length) none : DSt) = [some (.tup [.tup (fs.map fdD), m])] := rfl
 have a0 : atI [D.tup (fs.map fdD), m] 0 = some (.tup (fs.map fdD)) := rfl
 simp only [aT6, s0, aV4, aI6, aB0, m6, wp_comp, wp_itW, aO0, bY0, aG9, List.getElem?_cons_zero, Option.some.injEq, exists_eq_left', ix_tup, a0, srcW_tup]
 refine ⟨by rw [List.length_map]; omega, ?_⟩
 have hc : K4 (aG2 3 (J5 (q15 0) (J5 (q15 1) (J5 (q15 2) (aI4))))) V2 (t6 (q13 (c7 0) (q13 (t6 (q13 (c7 1) (q13 (c7 2) (q14)))) (q14)))) (fun _ => true) (fs.map fdD) (U6 [none, none, none] [some (.tup [.tup (fs.map fdD), m])]) G = some (.ok ((fs.map fdD).map reD), G) := by
  refine aA2 (I := fun σ => σ.length = 3) rfl _ _ rfl fun d hd σ hσ => ?_
  obtain ⟨f, hf, rfl⟩ := List.mem_map.mp hd
  match σ, hσ with
  | [u, v, w], _ =>
    refine ⟨[some (.str f.1), some (.bl f.2.1), some f.2.2], aH9 ?_, rfl, rfl, aH9 ?_⟩
    · unfold fdD
      rw [cI1]
      simp only [bH3, bQ4, V9, List.set_cons_succ, List.set_cons_zero]
      exact ⟨trivial, trivial⟩
    · simp only [U5, aB0, m6, aG9, List.getElem?_cons_zero, List.getElem?_cons_succ, Option.some.injEq, exists_eq_left']
      exact ⟨sz, sz, rfl, trivial⟩
 refine (aO6 hc).mpr ?_
 have ed : ((fs.map fdD).map reD) = fs.map fun f => .tup [.str f.1, .tup [.bl f.2.1, f.2.2]] := by rw [List.map_map]; rfl
 rw [ed, cA2 j9 (bZ8 fs), dS8 fs h]
 have hlen : (G ++ [DO.lst (fs.map fun f => D.tup [.str f.1, .tup [.bl f.2.1, f.2.2]])]).length = G.length + 1 := by simp
 rw [hlen]
 exact q _
theorem cF6 {q : Nat} {ps : List (Str × D)} {fs : List (Str × Bool × D)} {G : DH} (e : G[q]? = some (.dct (ps.map kv))) (σ : DSt) (hσ : ∃ a b c, σ = [a, b, c, some (.ref q)]) :
 K4 (aG2 3 (J5 (q15 0) (J5 (q15 1) (J5 (q15 2) (aI4))))) V2 (dA4 (d7 inD (c7 0) (c7 3)) (bY3 (c7 1))) (fun _ => true) (fs.map fdD) σ G = some (.ok ((fs.map fdD).map fun d => .bl (V7 (ps.map t8) d)), G) := by
 refine aA2 (I := fun σ => ∃ a b c, σ = [a, b, c, some (.ref q)]) rfl _ _ hσ fun d hd σ hσ => ?_
 obtain ⟨f, hf, rfl⟩ := List.mem_map.mp hd
 obtain ⟨u, v, w, rfl⟩ := hσ
 refine ⟨[some (.str f.1), some (.bl f.2.1), some f.2.2, some (.ref q)], aH9 ?_, ⟨_, _, _, rfl⟩, rfl, aH9 ?_⟩
 · unfold fdD
   rw [cI1]
   simp only [bH3, bQ4, V9, List.set_cons_succ, List.set_cons_zero]
   exact ⟨trivial, trivial⟩
 · simp only [dS0, aO0, cF4, aG9, List.getElem?_cons_zero, List.getElem?_cons_succ, Option.some.injEq, exists_eq_left', cA8, dG6 e, dE5, aJ8]
   have em : V7 (ps.map t8) (fdD f) = ((ps.map t8).any (nmD f.1) || !f.2.1) := rfl
   rw [em]
   cases (ps.map t8).any (nmD f.1) <;> simp
theorem cY3 {R : List D → M D} {l : List D} {G : DH} : Wp (R4 R [.tup l, .non]) G fun x G' => x = .bl false ∧ Ap G G' := bF2 (d := .bl false) rfl ⟨rfl, Ap.refl⟩
theorem dZ5 {R : List D → M D} : aB2 R = j8 (ifS (o5 (d7 bV2 (c7 1) (cE .non))) (K5 (cE (.bl false))) (K6)) (j8 (o9 (q16 aP3 (q13 (c7 0) (q14))) (q15 2)) (j8 RA (j8 (o9 (q16 (fnX 1 K7) (q13 (c7 1) (q14))) (q15 3)) (RZ R)))) := rfl
section
variable {ps : List (Str × D)} {fs : List (Str × Bool × D)} {m : D} {G : DH}
theorem eC6 {q : Nat} (e : G[q]? = some (.dct (ps.map kv))) (hf : fs.length ≤ 100) : Wp (RA [some (.tup (ps.map t8)), some (.tup [.tup (fs.map fdD), m]), some (.ref q), none]) G fun fl G' => Ap G G' ∧ if (fs.map fdD).all (V7 (ps.map t8)) = true then fl = .nx [some (.tup (ps.map t8)), some (.tup [.tup (fs.map fdD), m]), some (.ref q), none] else fl = .rt (.bl false) := by
 have bg := big
 refine aH2 <| cI3.mpr <| bI3.mpr <| P0 <| m8 <| Z9 (l := fs.map fdD) rfl (by rw [List.length_map]; omega) <| d9 (cF6 e _ ⟨_, _, _, rfl⟩) <| m6.mpr <| (cD7 (f := V7 (ps.map t8)) j9).mpr <| aJ8.mpr ⟨fun g => ?_, fun g => ?_⟩
 · have g : (fs.map fdD).all (V7 (ps.map t8)) = false := by simpa using g
   exact d9 rfl ⟨Ap.one, by rw [g]; rfl⟩
 · have g : (fs.map fdD).all (V7 (ps.map t8)) = true := by simpa using g
   exact J2.mpr ⟨Ap.one, by rw [g]; rfl⟩
theorem eD9 {R : List D → M D} {n q r : Nat} (e : G[q]? = some (.dct (fs.map tv))) (hp : ps.length ≤ 1000) (hR : ∀ p ∈ ps, ∀ s, (∃ f ∈ fs, s = f.2.2) ∨ s = m → ∀ G, Wp (R [p.2, s]) G fun x G' => x = .bl (inP n p.2 s) ∧ Ap G G') :
 Wp (RZ R [some (.tup (ps.map t8)), some (.tup [.tup (fs.map fdD), m]), some (.ref r), some (.ref q)]) G fun fl G' => Ap G G' ∧ fl = .rt (.bl ((ps.map t8).all (aW5 (inP n) (fs.map fdD) m))) := by
 have bg := big
 refine R1 <| P0 <| m8 <| Z9 (l := ps.map t8) rfl (by rw [List.length_map]; omega) ?_
 refine (aN3 (fun G' => Ap G G') (fun σ => ∃ u v, σ = [u, v, some (.tup [.tup (fs.map fdD), m]), some (.ref q)]) (fun d => .bl (aW5 (inP n) (fs.map fdD) m d)) (fun _ _ => rfl) _ _ G ⟨_, _, rfl⟩ Ap.refl ?_).mono ?_
 · rintro d hd σ G1 ⟨u, v, rfl⟩ j1
   obtain ⟨p, hp', rfl⟩ := List.mem_map.mp hd
   refine d9 (a := [some (.str p.1), some p.2, some (.tup [.tup (fs.map fdD), m]), some (.ref q)]) rfl ⟨rfl, ⟨_, _, rfl⟩, d9 rfl ⟨rfl, rfl, ?_⟩⟩
   refine P0 <| J3 (x := p.2) rfl <| m8 <| o6 <| m9 (as := [.ref q, m, .str p.1]) rfl rfl <| (dA7 (j1.at e)).mpr ⟨_, d9 (a := .int 1) rfl <| ix_tup.mpr ⟨_, rfl, m6.mpr <| aB6.mpr ⟨rfl, (hR p hp' _ bI0 G1).mono fun x G2 z => ⟨j1.trans z.2, z.1⟩⟩⟩, rfl⟩
 · rintro _ G1 ⟨j1, rfl⟩
   exact m6.mpr <| (cD7 (f := aW5 (inP n) (fs.map fdD) m) j9).mpr ⟨j1.trans Ap.one, rfl⟩
theorem dS2 {R : List D → M D} {n : Nat} (hp : ps.length ≤ 1000) (hf : fs.length ≤ 100) (hn : (ps.map (·.1)).Nodup) (hn2 : (fs.map (·.1)).Nodup) (hR : ∀ p ∈ ps, ∀ s, (∃ f ∈ fs, s = f.2.2) ∨ s = m → ∀ G, Wp (R [p.2, s]) G fun x G' => x = .bl (inP n p.2 s) ∧ Ap G G') :
 Wp (R4 R [.tup (ps.map t8), .tup [.tup (fs.map fdD), m]]) G fun x G' => x = .bl (aO2 (inP n) (ps.map t8) (.tup [.tup (fs.map fdD), m])) ∧ Ap G G' := by
 refine R3 (show Wp (aB2 R [some (.tup (ps.map t8)), some (.tup [.tup (fs.map fdD), m]), none, none]) G _ from ?_)
 rw [dZ5]
 refine o7 (G' := G) rfl <| j7.mpr <| M9 <| aP7 (as := [.tup (ps.map t8)]) rfl <| (dA9 hn).mpr <| j7.mpr <| (eC6 (m := m) (fs := fs) j9 hf).mono ?_
 rintro fl G1 ⟨j1, hfl⟩
 have ei : aO2 (inP n) (ps.map t8) (.tup [.tup (fs.map fdD), m]) = ((fs.map fdD).all (V7 (ps.map t8)) && (ps.map t8).all (aW5 (inP n) (fs.map fdD) m)) := rfl
 rw [ei]
 cases hb : (fs.map fdD).all (V7 (ps.map t8)) with
 | false =>
   rw [hb, if_neg (by simp)] at hfl
   subst hfl
   exact ⟨rfl, Ap.one.trans j1⟩
 | true =>
   rw [hb, if_pos rfl] at hfl
   subst hfl
   refine j7.mpr <| M9 <| m9 (as := [.tup [.tup (fs.map fdD), m]]) rfl rfl <| cQ7 hn2 hf fun o => ?_
   have e2 : (G1 ++ [o] ++ [DO.dct (fs.map tv)])[G1.length + 1]? = some (.dct (fs.map tv)) := by
    have := j9 (G := G1 ++ [o]) (o := DO.dct (fs.map tv))
    simpa using this
   refine (eD9 e2 hp hR).mono ?_
   rintro _ G3 ⟨j3, rfl⟩
   exact ⟨rfl, ((Ap.one.trans j1).trans (Ap.one.trans Ap.one)).trans j3⟩
end
theorem VW.there {b n : Nat} {d : D} {G : DH} (h : VW b n d) : dB7 G d := by
 cases n with
 | zero => exact h.elim
 | succ n => rcases h with ⟨i, rfl⟩ | ⟨k, rfl⟩ | ⟨z, rfl, _⟩ | ⟨l, rfl, _⟩ | ⟨ps, rfl, _⟩ <;> first | exact cW2 rfl | trivial
theorem cY7 {x : D} {l : List D} {G : DH} {Q : DPP} (h : (S8 x && l.all S8) = true) : Wp (inD x (.tup l)) G Q ↔ Q (.bl (inV (toV x) (l.map toV))) G := by
 rw [cA8]
 have e : inB x (.tup l) G = some (inV (toV x) (l.map toV)) := by
  show (if (S8 x && l.all S8) = true then some (inV (toV x) (l.map toV)) else none) = _
  rw [if_pos h]
 simp only [e, Option.some.injEq, exists_eq_left']
theorem cZ3 {G : DH} {r : Nat} {l : List D} {f : D → Bool} {Q : DPP} (h : G[r]? = some (.lst (l.map fun x => .bl (f x)))) : Wp (cG5 [.ref r]) G Q ↔ Q (.bl (l.any f)) G := by
 have h0 : cG5 [.ref r] = (do
  let l ← R5 r >>= DL.listOf
  let bs ← aI1 (aY7 l)
  pure (.bl (bs.any id))) := rfl
 rw [h0]
 simp only [m5, T5, h, T4, DL.listOf, j6, aK2, bR3, List.any_map]
 rfl
theorem cH5 (tr : List Bool) : (tr.map D.bl).all S8 = true := by rw [List.all_map]; exact List.all_eq_true.mpr fun _ _ => rfl
theorem bV8 (ts : List Str) : (ts.map D.str).all S8 = true := by rw [List.all_map]; exact List.all_eq_true.mpr fun _ _ => rfl
theorem dP6 {a b c d : D} {z o : Str} {ts : List Str} {w : Str} {G : DH} {Q : DPP} (q : Q (.bl (inV (.str z) ((ts.map D.str).map toV) == (w == o))) G) : Wp ((d7 eqD (d7 inD (c7 0) (d7 ixD (d7 ixD (c7 1) (cE (.int 1))) (cE (.int 1)))) (d7 eqD (d7 ixD (d7 ixD (c7 1) (cE (.int 1))) (cE (.int 0))) (cE (.str o)))) [some (.str z), some (.tup [a, .tup [.str w, .tup (ts.map D.str)], b, c, d])]) G Q :=
 o6 (Q3 (x := .str z) (y := .tup (ts.map D.str)) rfl rfl ((cY7 (by rw [bV8]; rfl)).mpr (Q3 (x := .str w) (y := .str o) rfl rfl (cH0.mpr (dZ4.mpr q)))))
theorem cO4 {R : List D → M D} {b n k : Nat} {v s : D} {G : DH} (hb : b ≤ 1000) (hR : ∀ v s G, VW b n v → SB k s → Wp (R [v, s]) G fun x G' => x = .bl (inP n v s) ∧ Ap G G') (hv : VW b (n + 1) v) (hs : SB (k + 1) s) :
 Wp (K9 2 (aM1 R) [v, s]) G fun x G' => x = .bl (inP (n + 1) v s) ∧ Ap G G' := by
 have bg := big
 refine R3 (show Wp (aM1 R [some v, some s]) G _ from ?_)
 rcases hs with rfl | ⟨ns, w, ts, tr, li, re, rfl, h1, h2, h3, h4, h5, h6, h7⟩
 · exact bP1 (d := .bl true) rfl ⟨rfl, Ap.refl⟩
 · rcases hv with ⟨i, rfl⟩ | ⟨c, rfl⟩ | ⟨z, rfl, hz⟩ | ⟨l, rfl, hl, hv⟩ | ⟨ps, rfl, hl, hn, hv⟩
   · refine o7 rfl (o7 rfl (j7.mpr (aZ3 (G1 := G) rfl (R1 (P0 (m8 (wp_comp.mpr (wp_itW.mpr (d9 (a := .tup (ns.map stD)) rfl (srcW_tup.mpr ⟨?_, d9 (cO9 rfl h1 _ ⟨_, _, rfl⟩) (m6.mpr ((cZ3 (f := bL4 i) j9).mpr ⟨rfl, Ap.one⟩))⟩))))))))))
     show (ns.map stD).length ≤ sizeLine
     rw [List.length_map]; omega
   · exact o7 rfl (j7.mpr (aZ3 (G1 := G) rfl (R1 (Q3 (x := .bl c) (y := .tup (tr.map D.bl)) rfl rfl ((cY7 (by rw [cH5]; rfl)).mpr ⟨rfl, Ap.refl⟩)))))
   · exact o7 rfl (o7 rfl (o7 rfl (j7.mpr (aZ3 (G1 := G) rfl (R1 (dP6 ⟨rfl, Ap.refl⟩))))))
   · refine o7 rfl (o7 rfl (o7 rfl (o7 rfl (j7.mpr (aZ3 (G1 := G) rfl (R1 (m9 (as := [.tup l, li]) rfl rfl ?_)))))))
     rw [show inP (n + 1) (.tup [.str V3, .tup l]) (mkS ns w ts tr li re) = aO1 (inP n) l li from aQ2]
     rcases h6 with rfl | ⟨fs, m, rfl, hf, hfs, hm⟩
     · exact list_none
     · refine dK3 (by omega) hf fun v hv' s hs' G => hR v s G (hv v hv') ?_
       rcases hs' with hs' | rfl
       · exact hfs s hs'
       · exact hm
   · refine o7 rfl (o7 rfl (o7 rfl (o7 rfl (o7 rfl (R1 (m9 (as := [.tup (ps.map t8), re]) rfl rfl ?_))))))
     rw [show inP (n + 1) (.tup [.str aB9, .tup (ps.map t8)]) (mkS ns w ts tr li re) = aO2 (inP n) (ps.map t8) re from aQ0]
     rcases h7 with rfl | ⟨fs, m, rfl, hf0, hn2, hfs, hm⟩
     · exact cY3
     · refine dS2 (by omega) (by omega) hn hn2 fun p hp s hs' G => hR p.2 s G (hv p hp).2 ?_
       rcases hs' with ⟨f, hf', rfl⟩ | rfl
       · exact (hfs f hf').2
       · exact hm
theorem aY5 {b : Nat} (hb : b ≤ 1000) : ∀ (n k j : Nat) (v s : D) (G : DH), n ≤ j → VW b n v → SB k s → Wp (aT9 j [v, s]) G fun x G' => x = .bl (inP n v s) ∧ Ap G G'
 | 0, _, _, _, _, _, _, hv, _ => hv.elim
 | n + 1, 0, _, _, _, _, _, _, hs => hs.elim
 | n + 1, k + 1, 0, _, _, _, h, _, _ => absurd h (by omega)
 | n + 1, k + 1, j + 1, v, s, G, h, hv, hs => cO4 hb (fun v s G hv hs => aY5 hb n k j v s G (by omega) hv hs) hv hs
theorem dU3 {a b : List D} {G : DH} {Q : DPP} (h : a.length + b.length ≤ sizeLine) : Wp (Q4 (.tup a) (.tup b)) G Q ↔ Q (.tup (a ++ b)) G := by
 have e : Q4 (.tup a) (.tup b) = (if a.length + b.length ≤ sizeLine then pure (.tup (a ++ b)) else M.stuck : M D) := rfl
 rw [e, if_pos h, j6]
theorem cC4 (n : Nat) : K8 0 n = (List.range n).map fun i : Nat => D.int (i : Int) := by
 unfold K8
 refine List.map_congr_left fun i _ => ?_
 simp
theorem Gr.ap {G G' : DH} (h : Gr G G') : Ap G G' := by
 refine ⟨G'.drop G.length, ?_⟩
 refine List.ext_getElem? fun i => ?_
 rcases Nat.lt_or_ge i G.length with c | c
 · rw [List.getElem?_append_left c]; exact h.2 i c
 · rw [List.getElem?_append_right c, List.getElem?_drop]
   congr 1; omega
theorem bS4 {G : DH} {p q : Nat} {xs : List D} {Q : DPP} (e : G[p]? = some (.lst xs)) (eq : G[q]? = some (.lst [])) : Wp (neD (.ref p) (.ref q)) G Q ↔ Q (.bl (!xs.isEmpty)) G := by
 have h : eqN 40 G (.ref p) (.ref q) = some xs.isEmpty := by
  have h1 : aB7 G (.ref p) = some (false, xs) := by simp only [aB7, e]
  have h2 : aB7 G (.ref q) = some (false, []) := by simp only [aB7, eq]
  rw [aZ0]
  rw [h1, h2]
  cases xs with
  | nil => rfl
  | cons _ _ => rfl
 exact aO6 (show neD (.ref p) (.ref q) G = _ from by unfold neD; rw [h])
noncomputable def cv (f : Str × Bool × D) : Key × D := (.inr f.1, f.2.2)
theorem dF4 (fs : List (Str × Bool × D)) (m : D) (z : Str) : (M5 (fs.map cv) (.inr z)).getD m = aA0 (fs.map fdD) m z := by
 have e : ∀ fs : List (Str × Bool × D), M5 (fs.map cv) (.inr z) = (fs.find? fun f => decide (f.1 = z)).map (·.2.2) := by
  intro fs
  induction fs with
  | nil => rfl
  | cons f r ih =>
    rw [List.map_cons]
    by_cases e : f.1 = z
    · have h1 : M5 (cv f :: r.map cv) (.inr z) = some f.2.2 := by unfold M5 cv; simp [e]
      rw [h1, List.find?_cons_of_pos (by simpa using e)]; rfl
    · have h1 : M5 (cv f :: r.map cv) (.inr z) = M5 (r.map cv) (.inr z) := by unfold M5 cv; simp [e]
      rw [h1, List.find?_cons_of_neg (by simpa using e)]
      exact ih
 rw [e, aM7]
theorem cA0 : ∀ fs : List (Str × Bool × D), aD6 (fs.map fun f => .tup [.str f.1, f.2.2]) = some (fs.map cv)
 | [] => rfl
 | f :: r => bQ9 rfl (cA0 r)
theorem dS4 (fs : List (Str × Bool × D)) (h : (fs.map (·.1)).Nodup) : putAll [] (fs.map cv) = fs.map cv := by
 have e : fs.map cv = (fs.map fun f => ((f.1, f.2.2) : Str × D)).map fun p => ((.inr p.1 : Key), p.2) := by rw [List.map_map]; rfl
 have := bE5 (fs.map fun f => ((f.1, f.2.2) : Str × D)) [] (by simpa [List.map_map, Function.comp_def] using h)
 simp only [List.map_nil, List.nil_append] at this
 rw [e, this]
theorem bB7 : ∀ {ps : List (Str × D)} {p : Str × D}, (ps.map (·.1)).Nodup → p ∈ ps → M5 (ps.map kv) (.inr p.1) = some p.2
 | [], p, _, hp => by cases hp
 | q :: r, p, hn, hp => by
   rw [List.map_cons, List.nodup_cons] at hn
   rw [List.map_cons]
   rcases List.mem_cons.mp hp with rfl | hp
   · unfold M5 kv; simp
   · have e : q.1 ≠ p.1 := fun z => hn.1 (by rw [z]; exact List.mem_map.mpr ⟨p, hp, rfl⟩)
     have h1 : M5 (kv q :: r.map kv) (.inr p.1) = M5 (r.map kv) (.inr p.1) := by unfold M5 kv; simp [e]
     rw [h1]
     exact bB7 hn.2 hp
section
variable {ps : List (Str × D)} {fs : List (Str × Bool × D)} {m s v : D} {G : DH}
end
theorem ixv {r : Nat} {l : List D} {j : Int} {a b : Fe} {σ : DSt} {d : D} {G G1 : DH} {Q : DPP} (ha : a σ G = some (.ok (.ref r), G)) (hb : b σ G = some (.ok (.int j), G)) (e : G[r]? = some (.lst l)) (hd : atI l j = some d) (q : Q d G) : Wp (d7 ixD a b σ) G Q := Q3 ha hb ((bB6 e).mpr ⟨d, hd, q⟩)
theorem cN9 {r : Nat} {l : List D} {k : Int} {j : Nat} {a b : Fe} {σ : DSt} {d : D} {G : DH} {S : DSt → DH → Prop} (ha : a σ G = some (.ok (.ref r), G)) (hb : b σ G = some (.ok (.int k), G)) (e : G[r]? = some (.lst l)) (hj : ixN l.length k = some j) (q : S σ (G.set r (.lst (l.set j d)))) : Wp (aR1 a b d σ) G S := bF3.mpr (d9 ha (d9 hb ((dL5 e hj).mpr q)))
theorem dG8 {r : Nat} {n : Int} {G : DH} (h : J8 G r) (hn : 0 < n ∧ n < 2 ^ 100) : Wp (d8 [.ref r, .int n]) G fun x G' => ∃ k, x = .int k ∧ 0 ≤ k ∧ k < n ∧ ∃ o, G' = G.set r o ∧ J8 G' r := by
 have hlt := h.lt
 obtain ⟨a, b, c, e, hr, hb1, hb2⟩ := h
 refine R3 (show Wp (aQ4 [some (.ref r), some (.int n), none]) G _ from ?_)
 refine j7.mpr (aH2 (J4 (o6 (ixv (G1 := G) rfl rfl hr rfl (d9 (a := .int 0) rfl (aH3.mpr ⟨_, rfl, fun _ => ?_, fun _ => ?_⟩))))))
 · refine j7.mpr (M9 (o6 (ixv (G1 := G) rfl rfl hr rfl (d9 (a := .int n) rfl ((aL2 hn.1).mpr ?_)))))
   refine j7.mpr (aF8.mpr (o6 (ixv (G1 := G) rfl rfl hr rfl (d9 (a := .int n) rfl ((bZ9 hn).mpr (cN9 (k := 0) rfl rfl hr rfl ?_))))))
   refine d9 (a := .rt (.int (a % n))) rfl (aD1 ⟨_, rfl, Int.emod_nonneg _ (by omega), Int.emod_lt_of_pos _ hn.1, _, rfl, a / n, b, c, e, ?_, hb1, hb2⟩)
   exact List.getElem?_set_self hlt
 · have b1 : 0 ≤ b * b % 2147483629 := Int.emod_nonneg _ (by omega)
   have b2 : b * b % 2147483629 < 2147483629 := Int.emod_lt_of_pos _ (by omega)
   have hr2 : (G.set r (.lst [.int a, .int (b * b % 2147483629 + 3), .int c, .int e]))[r]? = some (.lst [.int a, .int (b * b % 2147483629 + 3), .int c, .int e]) := List.getElem?_set_self hlt
   refine J2.mpr (j7.mpr (aF8.mpr (o6 (o6 (o6 (ixv (G1 := G) rfl rfl hr rfl (ixv (G1 := G) rfl rfl hr rfl ((aT0 (Or.inl ⟨by omega, by omega⟩)).mpr (d9 (a := .int 2147483629) rfl ((aL2 (by decide)).mpr (d9 (a := .int 3) rfl (aD3.mpr (cN9 (k := 1) rfl rfl hr rfl ?_)))))))))))))
   refine R1 (o6 (o6 (o6 (o6 (ixv (G1 := G) rfl rfl hr2 rfl (d9 (a := .int 69621) rfl ((aT0 (Or.inr ⟨by omega, by omega⟩)).mpr (d9 (a := .int 2147483563) rfl ((aL2 (by decide)).mpr (d9 (a := .int 8) rfl ((bZ9 (by decide)).mpr (d9 (a := .int n) rfl ((aL2 hn.1).mpr ?_)))))))))))))
   exact ⟨_, rfl, Int.emod_nonneg _ (by omega), Int.emod_lt_of_pos _ hn.1, _, rfl, a, b * b % 2147483629 + 3, c, e, hr2, by omega, by omega⟩
theorem cN2 {r : Nat} {n : Int} {G : DH} (h : J8 G r) (hn : 0 < n ∧ n < 2 ^ 100) : Wp (d8 [.ref r, .int n]) G fun x G' => ∃ k, x = .int k ∧ 0 ≤ k ∧ k < n ∧ Fr r G G' :=
 Wp.mono (dG8 h hn) fun x G' ⟨k, e, h1, h2, o, e2, hh⟩ => ⟨k, e, h1, h2, by subst e2; exact Fr.set hh⟩
theorem dE7 {r : Nat} {G : DH} {n : Int} {ds : List D} {Q : DPP} (h : J8 G r) (hn : (ds.length : Int) = n) (h0 : 0 < n) (h1 : n < 2 ^ 100) (q : ∀ d ∈ ds, ∀ G', Fr r G G' → Fr r (G ++ [.lst ds]) G' → Q d G') :
 Wp (d8 [.ref r, .int n]) (G ++ [.lst ds]) fun y G2 => Wp (ixD (.ref G.length) y) G2 Q := by
 refine Wp.mono (cN2 h.app ⟨h0, h1⟩) fun x G2 ⟨k, e, h3, h4, f2⟩ => ?_
 subst e
 have hne : G.length ≠ r := by have := h.lt; omega
 have hg := f2.at hne (o := .lst ds) cJ8
 rw [bB6 hg]
 obtain ⟨d, hd, e⟩ := aZ7 (l := ds) h3 (by omega)
 exact ⟨d, e, q d hd G2 ((Fr.app h).trans f2) f2⟩
theorem R0 {r : Nat} {n : Int} {G : DH} {Q : DPP} (h : J8 G r) (hn : 0 < n ∧ n < 2 ^ 100) (q : ∀ k : Int, 0 ≤ k → k < n → ∀ G', Fr r G G' → Q (.int k) G') : Wp (d8 [.ref r, .int n]) G Q :=
 Wp.mono (cN2 h hn) fun x G' ⟨k, e, h1, h2, f⟩ => by subst e; exact q k h1 h2 G' f
theorem aP9 {r : Nat} {n : Int} {fs : DSt → M (List D)} {σ : DSt} {G : DH} {Q : DPP} (hσ : σ[0]? = some (some (.ref r))) (h0 : 0 < n) (h1 : n < 2 ^ 100) (w : Wp (fs σ) G fun ds G1 => ds.length ≤ sizeLine ∧ J8 G1 r ∧ (ds.length : Int) = n ∧ ∀ d ∈ ds, ∀ G', Fr r G1 G' → Q d G') :
 Wp (d7 ixD (S5 fs) (q16 (fnX 2 d8) (q13 (c7 0) (q13 (cE (.int n)) (q14)))) σ) G Q :=
 o6 (aB8.mpr (w.mono fun ds G1 q => ⟨q.1, P0 (m8 (aG9.mpr ⟨_, hσ, J3 rfl (m6.mpr (aB6.mpr ⟨rfl, dE7 q.2.1 q.2.2.1 h0 h1 fun d hd G' f _ => q.2.2.2 d hd G' f⟩))⟩))⟩))
theorem cR2 {r : Nat} {G : DH} (h : J8 G r) : Wp (M6 [.ref r]) G fun x G' => ∃ k, x = .int k ∧ -1000000000000000000 ≤ k ∧ k ≤ 1000000000000000000 ∧ Fr r G G' := by
 refine R3 (show Wp (aL8 [some (.ref r)]) G _ from ?_)
 refine j7.mpr (aH2 (J4 (o6 (m9 (as := [.ref r, .int 3]) rfl rfl (R0 h ⟨by decide, by decide⟩ fun k h1 h2 G1 f1 => d9 (a := .int 1) rfl (aH3.mpr ⟨_, rfl, fun _ => ?_, fun _ => ?_⟩))))))
 · refine R1 (o6 (m9 (as := [.ref r, .int (2 * 1000000000000000000 + 1)]) rfl rfl (R0 f1.2.2 ⟨by decide, by decide⟩ fun k2 h3 h4 G2 f2 => d9 (a := .int 1000000000000000000) rfl (cH4.mpr ?_))))
   exact ⟨_, rfl, by omega, by omega, f1.trans f2⟩
 · refine J2.mpr (R1 (aP9 rfl (by decide) (by decide) (d9 (a := [.int 0, .int 1, .int (-1), .int 2, .int (-2), .int 3, .int 10, .int (-10), .int 1000000000000000000, .int (-1000000000000000000)]) (G' := G1) rfl ⟨sz, f1.2.2, rfl, fun d hd G2 f2 => ?_⟩)))
   simp only [List.mem_cons, List.not_mem_nil, or_false] at hd
   have ff := f1.trans f2
   rcases hd with rfl | rfl | rfl | rfl | rfl | rfl | rfl | rfl | rfl | rfl <;> exact ⟨_, rfl, by decide, by decide, ff⟩
theorem bV7 {r : Nat} {G : DH} {Q : DPP} (h : J8 G r) (q : ∀ k : Int, -1000000000000000000 ≤ k → k ≤ 1000000000000000000 → ∀ G', Fr r G G' → Q (.int k) G') : Wp (M6 [.ref r]) G Q :=
 Wp.mono (cR2 h) fun x G' ⟨k, e, h1, h2, f⟩ => by subst e; exact q k h1 h2 G' f
theorem dH0 {G : DH} {p : Nat} {ns : List Int} {c k : Int} (e : G[p]? = some (.rol (ns.map D.int))) (hk : 0 ≤ k ∧ k < 64) : Wp (aG4 [.ref p, .int c, .int k]) G fun d G' => ∃ r, d = .ref r ∧ G.length ≤ r ∧ J8 G' r ∧ Gr G G' := by
 have m1 : bL0 7919 k := Or.inl ⟨by omega, by omega⟩
 have b1 : 0 ≤ c % 2147483629 := Int.emod_nonneg _ (by omega)
 have b2 : c % 2147483629 < 2147483629 := Int.emod_lt_of_pos _ (by omega)
 have m2 : bL0 (c % 2147483629 + 7919 * k + 1) 48271 := Or.inr ⟨by omega, by omega⟩
 have ln : G.length ≤ (G ++ [DO.lst []]).length := by simp
 refine R3 (show Wp (aS1 [some (.ref p), some (.int c), some (.int k), none]) G _ from ?_)
 refine o7 (σ' := [some (.ref p), some (.int c), some (.int k), some (.int 0)]) rfl ?_
 refine j7.mpr (bG2 (A := fun fl G1 => ∃ w, fl = .nx [some (.ref p), some (.int c), some (.int k), some (.int w)] ∧ G1 = G ++ [.lst []]) (J4 (o6 (d9 (a := .ref p) rfl (aB8.mpr (m6.mpr ⟨sz, (dK7 (Q0 e) j9).mpr ⟨_, rfl, fun _ => ?_, fun _ => ?_⟩⟩))))) ?_)
 · rintro _ _ ⟨w, rfl, rfl⟩
   refine R1 <| aB8.mpr <| J3 (x := .int c) rfl <| m8 <| o6 <| o6 <| o6 <| o6 <| Q3 (x := .int c) (y := .int 2147483629) rfl rfl <| (aL2 (by decide)).mpr <| Q3 (x := .int 7919) (y := .int k) rfl rfl <| (aT0 m1).mpr <| aD3.mpr <| d9 (a := .int 1) rfl <| aD3.mpr <| d9 (a := .int 48271) rfl <| (aT0 m2).mpr <| d9 (a := .int 2147483647) rfl <| (aL2 (by decide)).mpr <| d9 (a := [.int w, .int 0]) rfl ⟨sz, ?_⟩
   exact ⟨_, rfl, ln, ⟨_, _, _, _, j9, Int.emod_nonneg _ (by omega), Int.lt_trans (Int.emod_lt_of_pos _ (by omega)) (by decide)⟩, Gr.app.trans Gr.app⟩
 · exact M9 (o6 (aP7 (as := [.ref p]) rfl ((dE6 (Q0 e)).mpr (d9 (a := .int 2) rfl ((aL2 (by decide)).mpr ⟨_, rfl, rfl⟩)))))
 · exact J2.mpr ⟨_, rfl, rfl⟩
section
variable {G : DH} {Q : DPP}
theorem ix_str {z : Str} {k : Int} (hz : z.length ≤ sizeLine) (h0 : 0 ≤ k) (h1 : k < z.length) (q : ∀ c, Q (.str ⟨#[c]⟩) G) : Wp (ixD (.str z) (.int k)) G Q := by
 have e : ixD (.str z) (.int k) = if z.length ≤ sizeLine then (do
  let c ← aI1 (atI z.cps.toList k)
  pure (.str ⟨#[c]⟩) : M D) else M.stuck := rfl
 rw [e, if_pos hz]
 simp only [m5, aK2, j6]
 have hl : z.length = z.cps.toList.length := rfl
 obtain ⟨n, rfl⟩ := Int.eq_ofNat_of_zero_le h0
 have hn : n < z.cps.toList.length := by omega
 refine ⟨z.cps.toList[n], ?_, q _⟩
 unfold atI ixN
 rw [if_pos (by omega), if_pos (by omega)]
 simp only [Int.toNat_natCast, Option.bind_some, List.getElem?_eq_getElem hn]
theorem cM1 (c : Nat) : (⟨#[c]⟩ : Str).length = 1 := rfl
end
theorem dX0 : aD9 = j8 (o9 (cE (.str ("" : Str))) (q15 3)) (j8 (aI3 (V5 (q13 (d7 Q4 (c7 1) (q16 (fnX 2 d8) (q13 (c7 0) (q13 (d7 Q4 (d7 aQ3 (c7 2) (c7 1)) (cE (.int 1))) (q14))))) (q14))) (q15 4) LT) (K5 (c7 3))) := rfl
theorem dY6 {r : Nat} {a b : Int} {z : Str} {u : Option D} {G : DH} (h : J8 G r) (hz : z.length ≤ 1000) : Wp (LT [some (.ref r), some (.int a), some (.int b), some (.str z), u]) G fun fl G' => Fr r G G' ∧ ∃ c, fl = .nx [some (.ref r), some (.int a), some (.int b), some (.str (z ++ ⟨#[c]⟩)), u] := by
 have bg := big
 have hA : ("abcdefghijklmnopqrstuvwxyz" : Str).length = 26 := by rfl
 refine M9 <| o6 <| d9 (a := .str z) rfl <| o6 <| d9 (a := .str "abcdefghijklmnopqrstuvwxyz") rfl <| m9 (as := [.ref r, .int 26]) rfl rfl <| R0 h ⟨by decide, by decide⟩ fun k h0 h1 G1 f1 => ix_str (by omega) h0 (by omega) fun c => (bY1 (by rw [cM1]; omega)).mpr ?_
 exact ⟨f1, c, rfl⟩
theorem cM3 {r : Nat} {a b : Int} : ∀ (items : List D) (z : Str) (u : Option D) (G : DH), J8 G r → z.length + items.length ≤ 100 →
 Wp (aC0 (q15 4) LT (fun _ => true) items [some (.ref r), some (.int a), some (.int b), some (.str z), u]) G fun fl G' => Fr r G G' ∧ ∃ z' u', fl = .nx [some (.ref r), some (.int a), some (.int b), some (.str z'), u'] ∧ z'.length ≤ 100
 | [], z, u, G, h, hl => by
   rw [aB4]
   exact ⟨rfl, Fr.refl h, z, u, rfl, by simpa using hl⟩
 | d :: t, z, u, G, h, hl => by
   simp only [List.length_cons] at hl
   rw [aB3, V9]
   refine ⟨rfl, (dY6 h (by omega)).mono ?_⟩
   rintro _ G1 ⟨f1, c, rfl⟩
   refine (cM3 t (z ++ ⟨#[c]⟩) (some d) G1 f1.2.2 (by rw [Str.length_append, cM1]; omega)).mono fun fl G2 q => ?_
   exact ⟨f1.trans q.1, q.2⟩
theorem aW0 {r : Nat} {a b : Int} {G : DH} (h : J8 G r) (h0 : 0 ≤ a) (h1 : a ≤ b) (h2 : b ≤ 20) : Wp (Q8 [.ref r, .int a, .int b]) G fun x G' => ∃ z, x = .str z ∧ z.length ≤ 100 ∧ Fr r G G' := by
 refine R3 (show Wp (aD9 [some (.ref r), some (.int a), some (.int b), none, none]) G _ from ?_)
 rw [dX0]
 refine o7 (σ' := [some (.ref r), some (.int a), some (.int b), some (.str ""), none]) rfl <| j7.mpr <| aF5.mpr <| rng1.mpr <| m8 <| o6 <| d9 (a := .int a) rfl <| m9 (as := [.ref r, .int (b - a + 1)]) rfl rfl <| R0 h ⟨by omega, by omega⟩ fun k hk0 hk1 G1 f1 => aD3.mpr <| m6.mpr <| (rng1_int ⟨by omega, by omega⟩).mpr ?_
 refine (cM3 (K8 0 (a + k).toNat) "" none G1 f1.2.2 ?_).mono ?_
 · unfold K8
   rw [List.length_map, List.length_range, show (("" : Str).length) = 0 from rfl]
   omega
 · rintro _ G2 ⟨f2, z', u', rfl, hz⟩
   exact d9 rfl (aD1 ⟨z', rfl, hz, f1.trans f2⟩)
theorem eD2 : ∃ z : Str, z.length ≤ 1000 ∧ ∀ {G : DH} {Q : DPP}, Wp (aU4 (.str ("z" : Str)) (.int 20)) G Q ↔ Q (.str z) G := by
 refine ⟨Txt.mul ("z" : Str) 20, by decide +kernel, fun {G Q} => ?_⟩
 have e : aU4 (.str ("z" : Str)) (.int 20) = if PySem.MulOk ("z" : Str) 20 then pure (.str (Txt.mul ("z" : Str) 20)) else M.stuck := rfl
 rw [e, if_pos (by decide +kernel)]
 exact j6
theorem cL5 {r : Nat} {G : DH} (h : J8 G r) : Wp (V0 [.ref r]) G fun x G' => ∃ z, x = .str z ∧ z.length ≤ 1000 ∧ Fr r G G' := by
 obtain ⟨zz, hzz, emul⟩ := eD2
 refine R3 (show Wp (aQ8 [some (.ref r)]) G _ from ?_)
 refine j7.mpr <| aH2 <| J4 <| o6 <| m9 (as := [.ref r, .int 3]) rfl rfl <| R0 h ⟨by decide, by decide⟩ fun k hk0 hk1 G1 f1 => d9 (a := .int 1) rfl <| aH3.mpr ⟨_, rfl, fun _ => ?_, fun _ => J2.mpr ?_⟩
 · refine R1 <| m9 (as := [.ref r, .int 0, .int 20]) rfl rfl <| (aW0 f1.2.2 (by decide) (by decide) (by decide)).mono ?_
   rintro _ G2 ⟨z, rfl, hz, f2⟩
   exact ⟨z, rfl, by omega, f1.trans f2⟩
 · refine R1 <| aP9 rfl (by decide) (by decide) <| J3 (x := .str "") rfl <| J3 (x := .str "a") rfl <| J3 (x := .str "b") rfl <| J3 (x := .str "aa") rfl <| J3 (x := .str "ab") rfl <| J3 (x := .str "ba") rfl <| J3 (x := .str "abc") rfl <| J3 (x := .str "z") rfl <| J3 (x := .str "true") rfl <| m8 <| Q3 (x := .str "z") (y := .int 20) rfl rfl <| emul.mpr <| m6.mpr ⟨sz, f1.2.2, rfl, fun d hd G2 f2 => ?_⟩
   simp only [List.mem_cons, List.not_mem_nil, or_false] at hd
   have f02 := f1.trans f2
   rcases hd with rfl | rfl | rfl | rfl | rfl | rfl | rfl | rfl | rfl | rfl
   all_goals first
    | exact ⟨_, rfl, by decide, f02⟩
    | exact ⟨_, rfl, hzz, f02⟩
theorem bU9 (z : Str) (d : D) : ∀ l : List (Key × D), t7 (l.map fun kv => if kv.1 = .inr z then (kv.1, d) else kv) = t7 l
 | [] => rfl
 | (k, v) :: r => by
  have ih := bU9 z d r
  rw [List.map_cons]
  have e : (if ((k, v) : Key × D).1 = .inr z then (((k, v) : Key × D).1, d) else (k, v)).1 = k := by split <;> rfl
  generalize (if ((k, v) : Key × D).1 = .inr z then (((k, v) : Key × D).1, d) else (k, v)) = p at e
  obtain ⟨k', v'⟩ := p
  cases e
  cases k' with
  | inl i => rfl
  | inr y => exact congrArg (Option.map (y :: ·)) ih
theorem cA3 (z : Str) (d : D) : ∀ (l : List (Key × D)) (ss : List Str), t7 l = some ss → t7 (l ++ [(.inr z, d)]) = some (ss ++ [z])
 | [], ss, h => by cases h; rfl
 | (.inl i, v) :: r, ss, h => by cases h
 | (.inr y, v) :: r, ss, h => by
  replace h : (t7 r).map (y :: ·) = some ss := h
  cases hr : t7 r with
  | none => rw [hr] at h; cases h
  | some t =>
    rw [hr] at h
    cases h
    exact congrArg (Option.map (y :: ·)) (cA3 z d r t hr)
noncomputable def NS (ss : List Str) : Prop := (∀ z ∈ ss, z.length ≤ 1000) ∧ ss.Nodup
theorem bX9 (z : Str) : ∀ (l : List (Key × D)) (ss : List Str), t7 l = some ss → z ∈ ss → (l.any fun kv => decide (kv.1 = .inr z)) = true
 | [], ss, h, hz => by cases h; cases hz
 | (.inl i, v) :: r, ss, h, hz => by cases h
 | (.inr y, v) :: r, ss, h, hz => by
  replace h : (t7 r).map (y :: ·) = some ss := h
  cases hr : t7 r with
  | none => rw [hr] at h; cases h
  | some t =>
    rw [hr] at h
    cases h
    rw [List.any_cons, Bool.or_eq_true]
    rcases List.mem_cons.mp hz with rfl | hz
    · exact .inl (by simp)
    · exact .inr (bX9 z r t hr hz)
theorem cA1 {l : List (Key × D)} {ss : List Str} {z : Str} {d : D} (h : t7 l = some ss) (hn : NS ss) (hz : z.length ≤ 1000) : ∃ ss', t7 (aL4 l (.inr z) d) = some ss' ∧ ss'.length ≤ ss.length + 1 ∧ NS ss' := by
 unfold aL4
 split
 · exact ⟨ss, by rw [bU9]; exact h, by omega, hn⟩
 · rename_i c
   refine ⟨ss ++ [z], cA3 z d l ss h, by simp, fun x hx => ?_, ?_⟩
   · rcases List.mem_append.mp hx with hx | hx
     · exact hn.1 x hx
     · rw [List.mem_singleton.mp hx]; exact hz
   · refine List.nodup_append.mpr ⟨hn.2, by simp, fun a ha b hb => ?_⟩
     rw [List.mem_singleton] at hb
     subst hb
     intro e
     subst e
     exact c (bX9 _ l ss h ha)
theorem bF1 {r : Nat} {l : List (Key × D)} {z : Str} {d : D} {G : DH} {R : Unit → DH → Prop} (h : G[r]? = some (.dct l)) (hl : l.length < sizeLine) : Wp (cF3 (.ref r) (.str z) d) G R ↔ R () (G.set r (.dct (aL4 l (.inr z) d))) := by
 unfold cF3
 simp only [m5, T5, h, T4, bK1, if_pos hl, bS9]
theorem aY0 {l : List (Key × D)} {ss : List Str} (h : t7 l = some ss) : l.length = ss.length := (aR4 h).symm
theorem eG4 : aI2 = j8 (o9 (aN4) (q15 1)) (j8 (aI3 (V5 (q13 (q16 (fnX 2 d8) (q13 (c7 0) (q13 (d7 ixD (S5 (q13 (cE (.int 4)) (q13 (cE (.int 9)) (q14)))) (q16 (fnX 2 d8) (q13 (c7 0) (q13 (cE (.int 2)) (q14))))) (q14)))) (q14))) (q15 2) NB) (K5 (q16 aE1 (q13 (c7 1) (q14))))) := rfl
theorem dY7 {r p : Nat} {u v : Option D} {l : List (Key × D)} {ss : List Str} {G : DH} (hp : p ≠ r) (h : J8 G r) (e : G[p]? = some (.dct l)) (hk : t7 l = some ss) (hl : ss.length ≤ 60) (hz : NS ss) :
 Wp (NB [some (.ref r), some (.ref p), u, v]) G fun fl G' => Fr2 r p G G' ∧ ∃ v' l' ss', fl = .nx [some (.ref r), some (.ref p), u, v'] ∧ G'[p]? = some (.dct l') ∧ t7 l' = some ss' ∧ ss'.length ≤ ss.length + 1 ∧ NS ss' := by
 have bg := big
 have next : ∀ (z : Str) (G3 : DH), z.length ≤ 1000 → Fr r G G3 → Wp (o9 (cE (.bl true)) (aR1 (c7 1) (c7 3)) [some (.ref r), some (.ref p), u, some (.str z)]) G3 fun fl G' => Fr2 r p G G' ∧ ∃ v' l' ss', fl = .nx [some (.ref r), some (.ref p), u, v'] ∧ G'[p]? = some (.dct l') ∧ t7 l' = some ss' ∧ ss'.length ≤ ss.length + 1 ∧ NS ss' := by
  intro z G3 hzl f3
  have e3 := f3.at hp e
  obtain ⟨ss', k1, k2, k3⟩ := cA1 (z := z) (d := .bl true) hk hz hzl
  have f4 : Fr2 r p G3 (G3.set p (.dct (aL4 l (.inr z) (.bl true)))) := Fr2.set hp f3.2.2
  exact aF8.mpr <| d9 (a := .bl true) rfl <| bF3.mpr <| d9 (a := .ref p) rfl <| d9 (a := .str z) rfl <| (bF1 e3 (by rw [aY0 hk]; omega)).mpr ⟨f3.two.trans f4, _, _, ss', rfl, List.getElem?_set_self (lt_of_get e3), k1, k2, k3⟩
 refine j7.mpr <| M9 <| aP9 rfl (by decide) (by decide) <| d9 (a := [.str "a", .str "b", .str "ab", .str "ba", .str "abc", .str "z", .str "zz", .str "zzzzzzzz"]) (G' := G) rfl ⟨sz, h, rfl, fun x hx G1 f1 => ?_⟩
 have hx' : ∃ z : Str, x = .str z ∧ z.length ≤ 1000 := by
  simp only [List.mem_cons, List.not_mem_nil, or_false] at hx
  rcases hx with rfl | rfl | rfl | rfl | rfl | rfl | rfl | rfl <;> exact ⟨_, rfl, by decide⟩
 obtain ⟨z0, rfl, hz0⟩ := hx'
 refine j7.mpr <| aH2 <| J4 <| o6 <| m9 (as := [.ref r, .int 3]) rfl rfl <| R0 f1.2.2 ⟨by decide, by decide⟩ fun k hk0 hk1 G2 f2 => d9 (a := .int 1) rfl <| aH3.mpr ⟨_, rfl, fun _ => ?_, fun _ => J2.mpr (next z0 G2 hz0 (f1.trans f2))⟩
 refine M9 <| m9 (as := [.ref r, .int 1, .int 8]) rfl rfl <| (aW0 f2.2.2 (by decide) (by decide) (by decide)).mono ?_
 rintro _ G3 ⟨z, rfl, hz3, f3⟩
 exact next z G3 (by omega) (f1.trans (f2.trans f3))
theorem cJ2 {r p : Nat} (hp : p ≠ r) : ∀ (items : List D) (u v : Option D) (l : List (Key × D)) (ss : List Str) (G : DH), J8 G r → G[p]? = some (.dct l) → t7 l = some ss → ss.length + items.length ≤ 60 → NS ss →
 Wp (aC0 (q15 2) NB (fun _ => true) items [some (.ref r), some (.ref p), u, v]) G fun fl G' => Fr2 r p G G' ∧ ∃ u' v' l' ss', fl = .nx [some (.ref r), some (.ref p), u', v'] ∧ G'[p]? = some (.dct l') ∧ t7 l' = some ss' ∧ ss'.length ≤ ss.length + items.length ∧ NS ss'
 | [], u, v, l, ss, G, h, e, hk, hl, hz => by
   rw [aB4]
   exact ⟨rfl, (Fr.refl h).two, u, v, l, ss, rfl, e, hk, by simp, hz⟩
 | d :: t, u, v, l, ss, G, h, e, hk, hl, hz => by
   simp only [List.length_cons] at hl
   rw [aB3, V9]
   refine ⟨rfl, (dY7 (u := some d) (v := v) hp h e hk (by omega) hz).mono ?_⟩
   rintro _ G1 ⟨f1, v1, l1, ss1, rfl, q2, q3, q4, q5⟩
   refine (cJ2 hp t (some d) v1 l1 ss1 G1 f1.2.2 q2 q3 (by omega) q5).mono ?_
   rintro _ G2 ⟨f2, u', v', l', ss', p1, p2, p3, p4, p5⟩
   exact ⟨f1.trans f2, u', v', l', ss', p1, p2, p3, by simp only [List.length_cons]; omega, p5⟩
theorem bF8 {r : Nat} {G : DH} (h : J8 G r) : Wp (K1 [.ref r]) G fun x G' => ∃ (q : Nat) (ss : List Str), x = .ref q ∧ q ≠ r ∧ G'[q]? = some (.lst (ss.map D.str)) ∧ ss.length ≤ 8 ∧ NS ss ∧ Fr r G G' := by
 have fd : Fr r G (G ++ [DO.dct []]) := Fr.app h
 have hp : G.length ≠ r := by have := h.lt; omega
 refine R3 (show Wp (aI2 [some (.ref r), none, none, none]) G _ from ?_)
 rw [eG4]
 refine o7 (σ' := [some (.ref r), some (.ref G.length), none, none]) (G' := G ++ [.dct []]) rfl <| j7.mpr <| aF5.mpr <| rng1.mpr <| m8 <| P0 <| J3 (x := .ref r) rfl <| m8 <| aP9 rfl (by decide) (by decide) <| d9 (a := [.int 4, .int 9]) (G' := G ++ [.dct []]) rfl ⟨sz, fd.2.2, rfl, fun d hd G1 f1 => ?_⟩
 have hd' : ∃ i : Int, d = .int i ∧ 0 < i ∧ i ≤ 9 := by
  simp only [List.mem_cons, List.not_mem_nil, or_false] at hd
  rcases hd with rfl | rfl
  · exact ⟨4, rfl, by decide, by decide⟩
  · exact ⟨9, rfl, by decide, by decide⟩
 obtain ⟨i, rfl, hi1, hi2⟩ := hd'
 refine m6.mpr <| aB6.mpr ⟨rfl, R0 f1.2.2 ⟨hi1, by omega⟩ fun k hk0 hk1 G2 f2 => m6.mpr <| (rng1_int ⟨by omega, by omega⟩).mpr ?_⟩
 have f12 := f1.trans f2
 have e2 : G2[G.length]? = some (.dct []) := f12.at hp j9
 have hlen : (K8 0 k.toNat).length = k.toNat := by unfold K8; rw [List.length_map, List.length_range]
 refine (cJ2 hp (K8 0 k.toNat) none none [] [] G2 f2.2.2 e2 rfl (by rw [hlen]; simp; omega) ⟨(fun z hz => by cases hz), List.nodup_nil⟩).mono ?_
 rintro _ G3 ⟨f3, u', v', l', ss', rfl, q2, q3, q4, q5⟩
 rw [hlen] at q4
 simp only [List.length_nil] at q4
 refine R1 <| aP7 (as := [.ref G.length]) rfl <| (bO6 q2 q3 (by omega)).mpr ?_
 have hperm : (V6 ss').Perm ss' := List.mergeSort_perm ss' leS
 have hr3 := f3.2.2.lt
 refine aD1 ⟨G3.length, V6 ss', rfl, by omega, j9, by rw [hperm.length_eq]; omega, ⟨fun z hz => q5.1 z (hperm.mem_iff.mp hz), hperm.nodup_iff.mpr q5.2⟩, ?_⟩
 have f02 := fd.trans f12
 refine Fr.trans ⟨Nat.le_trans f02.1 f3.1, fun j hj hl => ?_, f3.2.2⟩ (Fr.app f3.2.2)
 have h02 := f02.1
 have hfd := fd.1
 rw [f3.2.1 j hj (by omega) (by omega), f02.2.1 j hj hl]
theorem VW.i {b n : Nat} {i : Int} : VW b (n + 1) (.int i) := .inl ⟨i, rfl⟩
theorem VW.bl {b n : Nat} {i : Bool} : VW b (n + 1) (.bl i) := .inr (.inl ⟨i, rfl⟩)
theorem VW.s {b n : Nat} {z : Str} (h : z.length ≤ 1000 + b) : VW b (n + 1) (.str z) := .inr (.inr (.inl ⟨z, rfl, h⟩))
theorem VW.l {b n : Nat} {l : List D} (h0 : l.length ≤ b) (h : ∀ x ∈ l, VW b n x) : VW b (n + 1) (.tup [.str V3, .tup l]) := .inr (.inr (.inr (.inl ⟨l, rfl, h0, h⟩)))
theorem VW.r {b n : Nat} {ps : List (Str × D)} (h0 : ps.length ≤ b) (hn : (ps.map (·.1)).Nodup) (h : ∀ p ∈ ps, p.1.length ≤ 1000 ∧ VW b n p.2) : VW b (n + 1) (.tup [.str aB9, .tup (ps.map t8)]) := .inr (.inr (.inr (.inr ⟨ps, rfl, h0, hn, h⟩)))
theorem VW.le {b c : Nat} (hb : b ≤ c) : ∀ {n m : Nat} {d : D}, n ≤ m → VW b n d → VW c m d
 | 0, _, _, _, h => h.elim
 | n + 1, 0, _, hm, _ => absurd hm (by omega)
 | n + 1, m + 1, d, hm, h => by
   rcases h with ⟨i, rfl⟩ | ⟨k, rfl⟩ | ⟨z, rfl, hz⟩ | ⟨l, rfl, hl, h⟩ | ⟨ps, rfl, hl, hn, h⟩
   · exact VW.i
   · exact VW.bl
   · exact VW.s (by omega)
   · exact VW.l (by omega) fun x hx => VW.le hb (by omega) (h x hx)
   · exact VW.r (by omega) hn fun p hp => ⟨(h p hp).1, VW.le hb (by omega) (h p hp).2⟩
theorem bZ5 {g : Fg} {t : DSt → M Bool} {e : Fe} {ck : DH → Bool} (J : DH → Prop) (S : DSt → Prop) (R : D → D → Prop) (hck : ∀ G, J G → ck G = true) : ∀ (items : List D) (σ : DSt) (G : DH), S σ → J G →
 (∀ d ∈ items, ∀ σ G, S σ → J G → Wp (g d σ) G fun σ1 G1 => G1 = G ∧ S σ1 ∧ Wp (t σ1) G fun b G2 => b = true ∧ G2 = G ∧ Wp (e σ1) G fun y G3 => J G3 ∧ R d y) →
 Wp (K4 g t e ck items σ) G fun ys G' => J G' ∧ dR4 R items ys
 | [], σ, G, s, j, _ => by
   rw [bH0]
   exact ⟨hck G j, j, trivial⟩
 | d :: r, σ, G, s, j, step => by
   rw [bI4]
   refine ⟨hck G j, Wp.mono (step d (by simp) σ G s j) fun σ1 G1 ⟨e1, s1, w1⟩ => ?_⟩
   subst e1
   refine Wp.mono w1 fun b G2 ⟨eb, e2, w2⟩ => ?_
   subst eb e2
   rw [if_pos rfl]
   refine Wp.mono w2 fun y G3 ⟨j3, py⟩ => ?_
   exact Wp.mono (bZ5 J S R hck r σ1 G3 s1 j3 fun d hd => step d (by simp [hd])) fun ys G4 ⟨j4, l4⟩ => ⟨j4, py, l4⟩
theorem cI7 {P : D → Prop} : ∀ {ss : List Str} {ys : List D}, dR4 (fun d y => ∃ z v, d = D.str z ∧ y = .tup [.str z, v] ∧ P v) (ss.map D.str) ys → ∃ ps : List (Str × D), ys = ps.map t8 ∧ ps.map (·.1) = ss ∧ ∀ p ∈ ps, P p.2
 | [], [], _ => ⟨[], rfl, rfl, fun p hp => by cases hp⟩
 | [], _ :: _, h => h.elim
 | _ :: _, [], h => h.elim
 | z :: r, y :: t, h => by
   obtain ⟨⟨z', v, e, ey, pv⟩, ht⟩ := h
   cases e
   obtain ⟨ps, e1, e2, e3⟩ := cI7 ht
   refine ⟨(z, v) :: ps, by rw [ey, e1]; rfl, by rw [List.map_cons, e2], fun p hp => ?_⟩
   rcases List.mem_cons.mp hp with rfl | hp
   · exact pv
   · exact e3 p hp
theorem cK6 {k : Int} {l : List D} {G : DH} (h : l.all S8 = true) : ∃ b, inB (.int k) (.tup l) G = some b := by
 refine ⟨inV (toV (.int k)) (l.map toV), ?_⟩
 show (if S8 (.int k) && l.all S8 then some (inV (toV (.int k)) (l.map toV)) else none) = _
 rw [h]
 rfl
theorem eF7 (R : List D → M D) : ∃ c : Int, aE0 R = j8 (o9 (q16 (fnX 2 d8) (q13 (c7 0) (q13 (cE (.int 8)) (q14)))) (q15 2)) (j8 (o9 (d7 Q4 (d7 ixD (c7 0) (cE (.int 3))) (cE (.int 1))) (aR1 (c7 0) (cE (.int 3)))) (j8 (ifS (aF6 (o5 (d7 gtD (c7 2) (cE (.int 5)))) (aF6 (o5 (d7 gtD (c7 1) (cE (.int 1)))) (o5 (d7 ltI (d7 ixD (c7 0) (cE (.int 3))) (cE (.int c)))))) (VA R) (K6)) VC)) := ⟨_, rfl⟩
theorem eG1 {r : Nat} {deep kind : Int} {u : Option D} {n : Nat} {G : DH} (h : J8 G r) : Wp (VC [some (.ref r), some (.int deep), some (.int kind), u]) G fun fl G' => ∃ d, fl = .rt d ∧ VW 8 (n + 1) d ∧ Fr r G G' := by
 obtain ⟨b1, e1⟩ := cK6 (k := kind) (l := [.int 0, .int 3, .int 6]) (G := G) rfl
 obtain ⟨b2, e2⟩ := cK6 (k := kind) (l := [.int 1, .int 4, .int 7]) (G := G) rfl
 refine j7.mpr <| aH2 <| J4 <| Q3 (x := .int kind) (y := .tup [.int 0, .int 3, .int 6]) rfl rfl <| cA8.mpr ⟨b1, e1, _, rfl, fun _ => ?_, fun _ => J2.mpr ?_⟩
 · exact R1 <| m9 (as := [.ref r]) rfl rfl <| bV7 h fun k _ _ G1 f1 => ⟨_, rfl, VW.i, f1⟩
 refine j7.mpr <| aH2 <| J4 <| Q3 (x := .int kind) (y := .tup [.int 1, .int 4, .int 7]) rfl rfl <| cA8.mpr ⟨b2, e2, _, rfl, fun _ => ?_, fun _ => J2.mpr ?_⟩
 · refine R1 <| m9 (as := [.ref r]) rfl rfl <| (cL5 h).mono ?_
   rintro _ G1 ⟨z, rfl, hz, f1⟩
   exact ⟨_, rfl, VW.s (by omega), f1⟩
 · refine R1 <| aP9 rfl (by decide) (by decide) <| d9 (a := [.bl false, .bl true]) (G' := G) rfl ⟨sz, h, rfl, fun d hd G1 f1 => ?_⟩
   simp only [List.mem_cons, List.not_mem_nil, or_false] at hd
   rcases hd with rfl | rfl <;> exact ⟨_, rfl, VW.bl, f1⟩
theorem eD6 {R : List D → M D} {r k : Nat} {deep kind : Int} {u : Option D} {G : DH} (h : J8 G r) (hR : ∀ G1, J8 G1 r → Wp (R [.ref r, .int (deep - 1)]) G1 fun x G2 => VW 8 k x ∧ Fr r G1 G2) :
 Wp (VA R [some (.ref r), some (.int deep), some (.int kind), u]) G fun fl G' => ∃ d, fl = .rt d ∧ VW 8 (k + 1) d ∧ Fr r G G' := by
 have bg := big
 refine j7.mpr <| aH2 <| J4 <| Q3 (x := .int kind) (y := .int 6) rfl rfl <| aH3.mpr ⟨_, rfl, fun _ => ?_, fun _ => J2.mpr ?_⟩
 · refine j7.mpr <| M9 <| P0 <| J3 (x := .ref r) rfl <| m8 <| aP9 rfl (by decide) (by decide) <| d9 (a := [.int 4, .int 9]) (G' := G) rfl ⟨sz, h, rfl, fun d hd G1 f1 => ?_⟩
   have hd' : ∃ i : Int, d = .int i ∧ 0 < i ∧ i ≤ 9 := by
    simp only [List.mem_cons, List.not_mem_nil, or_false] at hd
    rcases hd with rfl | rfl
    · exact ⟨4, rfl, by decide, by decide⟩
    · exact ⟨9, rfl, by decide, by decide⟩
   obtain ⟨i, rfl, hi1, hi2⟩ := hd'
   refine m6.mpr <| aB6.mpr ⟨rfl, R0 f1.2.2 ⟨hi1, by omega⟩ fun m hm0 hm1 G2 f2 => ?_⟩
   refine R1 <| U5.mpr <| J3 (x := .str V3) rfl <| m8 <| P0 <| m8 <| cA7 (j := m) rfl hm0 (by omega) ?_
   refine (aS6 (Fr r G) (fun σ => ∃ w, σ = [w, some (.int deep), some (.ref r)]) (fun y => VW 8 k y) (fun _ _ => rfl) (K8 0 m.toNat) _ G2 ⟨none, rfl⟩ (f1.trans f2) fun x hx σ G3 hσ f3 => ?_).mono fun ys G3 z => ?_
   · obtain ⟨w, rfl⟩ := hσ
     exact aY9 ⟨_, rfl⟩ <| m9 (as := [.ref r, .int (deep - 1)]) rfl rfl <| (hR G3 f3.2.2).mono fun y G4 q => ⟨f3.trans q.2, q.1⟩
   · have hm : ys.length ≤ 8 := by rw [z.2.1]; unfold K8; rw [List.length_map, List.length_range]; omega
     exact m6.mpr <| (aA1 j9).mpr <| m6.mpr ⟨sz, _, rfl, VW.l hm z.2.2, z.1.trans (Fr.app z.1.2.2)⟩
 · refine R1 <| U5.mpr <| J3 (x := .str aB9) rfl <| m8 <| P0 <| m8 <| wp_comp.mpr <| wp_itW.mpr <| m9 (as := [.ref r]) rfl rfl <| (bF8 h).mono ?_
   rintro _ G1 ⟨q, ss, rfl, hq, eq, hl8, hz, f1⟩
   refine (aG6 eq).mpr ⟨by show (ss.map D.str).length ≤ _; rw [List.length_map]; omega, ?_⟩
   refine (bZ5 (fun G' => Fr r G G' ∧ G'[q]? = some (.lst (ss.map D.str))) (fun σ => ∃ w, σ = [w, some (.int deep), some (.ref r)]) (fun d y => ∃ z v, d = D.str z ∧ y = .tup [.str z, v] ∧ VW 8 k v) (fun G' j => by simp [ckO, j.2]) (ss.map D.str) _ G1 ⟨none, rfl⟩ ⟨f1, eq⟩ fun x hx σ G3 hσ j => ?_).mono fun ys G3 j3 => ?_
   · obtain ⟨w, rfl⟩ := hσ
     obtain ⟨z, hzm, rfl⟩ := List.mem_map.mp hx
     exact aY9 ⟨_, rfl⟩ <| U5.mpr <| J3 (x := .str z) rfl <| m8 <| m9 (as := [.ref r, .int (deep - 1)]) rfl rfl <| (hR G3 j.1.2.2).mono fun y G4 q => m6.mpr ⟨sz, ⟨j.1.trans q.2, q.2.at hq j.2⟩, z, y, rfl, rfl, q.1⟩
   · obtain ⟨ps, rfl, e2, e3⟩ := cI7 j3.2
     have hps : ps.length = ss.length := by rw [← e2, List.length_map]
     exact m6.mpr <| (aA1 j9).mpr <| m6.mpr ⟨sz, _, rfl, VW.r (by omega) (by rw [e2]; exact hz.2) fun p hp => ⟨hz.1 p.1 (by rw [← e2]; exact List.mem_map.mpr ⟨p, hp, rfl⟩), e3 p hp⟩, j3.1.1.trans (Fr.app j3.1.1.2.2)⟩
theorem cA6 {r : Nat} : ∀ (n k : Nat) (deep : Int) (G : DH), J8 G r → deep ≤ k → 1 ≤ k → k ≤ n → Wp (X8 n [.ref r, .int deep]) G fun x G' => VW 8 k x ∧ Fr r G G'
 | 0, k, deep, G, h, h1, h2, h3 => by omega
 | n + 1, 0, deep, G, h, h1, h2, h3 => by omega
 | n + 1, k + 1, deep, G, h, h1, h2, h3 => by
   show Wp (K9 4 (aE0 (X8 n)) [.ref r, .int deep]) G _
   obtain ⟨c, e⟩ := eF7 (X8 n)
   rw [e]
   refine R3 (show Wp (j8 _ _ [some (.ref r), some (.int deep), none, none]) G _ from ?_)
   refine j7.mpr <| M9 <| m9 (as := [.ref r, .int 8]) rfl rfl <| R0 h ⟨by decide, by decide⟩ fun kind hk0 hk1 G1 f1 => ?_
   have hlt := f1.lt
   obtain ⟨a, b, cc, ee, hr, hb1, hb2⟩ := id f1.2.2
   refine j7.mpr <| aF8.mpr <| o6 <| ixv (G1 := G1) rfl rfl hr rfl <| d9 (a := .int 1) rfl <| aD3.mpr <| cN9 (k := 3) rfl rfl hr rfl ?_
   have hr2 : (G1.set r (.lst [.int a, .int b, .int cc, .int (ee + 1)]))[r]? = some (.lst [.int a, .int b, .int cc, .int (ee + 1)]) := List.getElem?_set_self hlt
   have h2' : J8 (G1.set r (.lst [.int a, .int b, .int cc, .int (ee + 1)])) r := ⟨_, _, _, _, hr2, hb1, hb2⟩
   have f2 := f1.trans (Fr.set h2')
   show Wp (j8 _ _ [some (.ref r), some (.int deep), some (.int kind), none]) (G1.set r (.lst [.int a, .int b, .int cc, .int (ee + 1)])) _
   generalize (G1.set r (.lst [.int a, .int b, .int cc, .int (ee + 1)])) = G2 at hr2 h2' f2 ⊢
   have leaf : Wp (VC [some (.ref r), some (.int deep), some (.int kind), none]) G2 (PB fun x G' => VW 8 (k + 1) x ∧ Fr r G G') := (eG1 (n := k) h2').mono fun fl G3 z => by
    obtain ⟨d, rfl, q1, f3⟩ := z
    exact ⟨q1, f2.trans f3⟩
   refine j7.mpr <| aH2 <| aK6 <| J4 <| Q3 (x := .int kind) (y := .int 5) rfl rfl <| cZ6.mpr ⟨_, rfl, fun _ => ?_, fun _ => ⟨fun z => (nomatch z), fun _ => J2.mpr leaf⟩⟩
   refine aK6 <| J4 <| Q3 (x := .int deep) (y := .int 1) rfl rfl <| cZ6.mpr ⟨_, rfl, fun g1 => ?_, fun _ => ⟨fun z => (nomatch z), fun _ => J2.mpr leaf⟩⟩
   have g1 : 1 < deep := of_decide_eq_true g1
   refine J4 <| o6 <| ixv (G1 := G2) rfl rfl hr2 rfl <| d9 (a := .int c) rfl <| aT4.mpr ⟨_, rfl, fun _ => ?_, fun _ => J2.mpr leaf⟩
   refine (eD6 (R := X8 n) (k := k) h2' fun G3 h3' => cA6 n k (deep - 1) G3 h3' (by omega) (by omega) (by omega)).mono fun fl G3 z => ?_
   obtain ⟨d, rfl, q1, f3⟩ := z
   exact ⟨q1, f2.trans f3⟩
theorem eB6 (R : List D → M D) : aG7 R = j8 (ifS NT (NA R) (K6)) NL := rfl
theorem VW.pos {b n : Nat} {d : D} (h : VW b n d) : 0 < n := by
 cases n with
 | zero => exact h.elim
 | succ n => omega
theorem bW0 {ps : List (Str × D)} {lo hi : Option Int} : ∃ ps' : List (Str × D), DL.cutD (ps.map t8) lo hi = ps'.map t8 ∧ ps'.Sublist ps := by
 unfold DL.cutD
 rw [← List.map_drop, ← List.map_take]
 exact ⟨_, rfl, (List.take_sublist _ _).trans (List.drop_sublist _ _)⟩
theorem cH8 {l : List D} {lo hi : Option Int} : (DL.cutD l lo hi).length ≤ l.length := ((List.take_sublist _ _).trans (List.drop_sublist _ _)).length_le
theorem VW.sub {b n : Nat} {ps ps' : List (Str × D)} (h0 : ps.length ≤ b) (hn : (ps.map (·.1)).Nodup) (h : ∀ p ∈ ps, p.1.length ≤ 1000 ∧ VW b n p.2) (hs : ps'.Sublist ps) : VW (b + 1) (n + 2) (.tup [.str aB9, .tup (ps'.map t8)]) :=
 VW.r (by have := hs.length_le; omega) ((hs.map _).nodup hn) fun p hp => ⟨(h p (hs.subset hp)).1, VW.le (by omega) (by omega) (h p (hs.subset hp)).2⟩
section
variable {b k : Nat} {kind : Int} {u0 u2 u3 : Option D} {G : DH}
theorem cY1 {x : D} (hx : VW b (k + 1) x) : VW (b + 1) (k + 1 + 1) (.tup [.str V3, .tup [x]]) := VW.l (by simp) fun y hy => by
 rw [List.mem_singleton] at hy
 subst hy
 exact VW.le (by omega) (by omega) hx
theorem eB2 {i : Int} (hk0 : 0 ≤ kind) (hk1 : kind < 6) : Wp (EI [u0, some (.int i), u2, u3, some (.int kind)]) G fun d G' => VW (b + 1) (k + 1 + 1) d ∧ Ap G G' := by
 refine o6 <| d9 (a := .ref G.length) (G' := G ++ [.lst [.int (0 - i), .int (i + 1), .int i, .int (i - 1), .bl (decide (i = 1)), .tup [.str V3, .tup [.int i]]]]) rfl <| d9 (a := .int kind) rfl <| aT3 hk0 (by exact hk1) fun d hd => ⟨?_, Ap.one⟩
 simp only [List.mem_cons, List.not_mem_nil, or_false] at hd
 rcases hd with rfl | rfl | rfl | rfl | rfl | rfl
 all_goals first
  | exact VW.i
  | exact VW.bl
  | exact cY1 VW.i
theorem eE6 {t : Bool} (hk0 : 0 ≤ kind) (hk1 : kind < 6) : Wp (EB [u0, some (.bl t), u2, u3, some (.int kind)]) G fun d G' => VW (b + 1) (k + 1 + 1) d ∧ Ap G G' := by
 unfold EB
 simp only [aO0, aB8, U5, aI6, cF4, aB0, m6, bY0, aG9, List.getElem?_cons_zero, List.getElem?_cons_succ, Option.some.injEq, exists_eq_left', bT6, cU3]
 refine ⟨sz, sz, sz, aT3 hk0 (by exact hk1) fun d hd => ⟨?_, Ap.one⟩⟩
 simp only [List.mem_cons, List.not_mem_nil, or_false] at hd
 rcases hd with rfl | rfl | rfl | rfl | rfl | rfl
 all_goals first
  | exact VW.i
  | exact VW.bl
  | exact cY1 VW.bl
  | exact VW.s (Nat.le_trans (show _ ≤ 1000 by decide) (by omega))
theorem eF9 {z : Str} (hz : z.length ≤ 1000 + b) (hb : b ≤ 800) (hk0 : 0 ≤ kind) (hk1 : kind < 6) : Wp (ES [u0, some (.str z), u2, u3, some (.int kind)]) G fun d G' => VW (b + 1) (k + 1 + 1) d ∧ Ap G G' := by
 have bg := big
 have hr := dK8 z
 have hsl2 := cS3 (z := z) (lo := some 1) (hi := none)
 have ha1 : ("a" : Str).length = 1 := rfl
 unfold ES
 simp only [aO0, dX4, aB8, U5, aN2, bE4, aS7, aB0, m6, bY0, aG9, List.getElem?_cons_zero, List.getElem?_cons_succ, Option.some.injEq, exists_eq_left', dG3]
 rw [dA5 (by omega), bY1 (by omega), dD3 (by omega)]
 refine ⟨sz, sz, sz, sz, sz, aT3 hk0 (by exact hk1) fun d hd => ⟨?_, Ap.one⟩⟩
 simp only [List.mem_cons, List.not_mem_nil, or_false] at hd
 rcases hd with rfl | rfl | rfl | rfl | rfl | rfl
 · exact VW.s (by omega)
 · exact VW.s (by rw [Str.length_append]; omega)
 · exact VW.s (by omega)
 · exact VW.s (by omega)
 · exact VW.l (by simp) fun x hx => (by cases hx)
 · exact VW.r (ps := []) (by simp) List.nodup_nil fun x hx => (by cases hx)
theorem eB1 {l : List D} (hll : l.length ≤ b) (hl : ∀ x ∈ l, VW b k x) (hb : b ≤ 800) (hk0 : 0 ≤ kind) (hk1 : kind < 6) : Wp (EL [u0, some (.tup [.str V3, .tup l]), u2, u3, some (.int kind)]) G fun d G' => VW (b + 1) (k + 1 + 1) d ∧ Ap G G' := by
 have bg := big
 refine U5.mpr <| J3 (x := .str V3) rfl <| m8 <| o6 <| aB8.mpr <| J3 (x := .tup l.reverse) rfl <| m8 <| Q3 (x := .tup l) (y := .tup [.int 0]) rfl rfl <| (bS2 (by simp only [List.length_cons, List.length_nil]; omega)).mpr <| d9 (a := [.tup l, .tup (DL.cutD l (some 1) none), .tup (DL.cutD l none (some (-1))), .tup []]) (G' := G) rfl ⟨sz, d9 (a := .int kind) rfl <| aT3 hk0 (by exact hk1) fun d hd => m6.mpr ⟨sz, ?_, Ap.one⟩⟩
 have good : ∀ l' : List D, (∀ x ∈ l', x ∈ l ∨ x = .int 0) → l'.length ≤ l.length + 1 → VW (b + 1) (k + 1 + 1) (.tup [.str V3, .tup l']) := fun l' hm hz => VW.l (by omega) fun x hx => by
  rcases hm x hx with hx | rfl
  · exact VW.le (by omega) (by omega) (hl x hx)
  · exact VW.i
 simp only [List.mem_cons, List.not_mem_nil, or_false] at hd
 rcases hd with rfl | rfl | rfl | rfl | rfl | rfl
 · exact good _ (fun x hx => .inl (List.mem_reverse.mp hx)) (by rw [List.length_reverse]; omega)
 · refine good _ (fun x hx => ?_) (by simp)
   rcases List.mem_append.mp hx with hx | hx
   · exact .inl hx
   · exact .inr (by simpa using hx)
 · exact good _ (fun x hx => .inl hx) (by omega)
 · exact good _ (fun x hx => .inl (cK4 hx)) (by have := cH8 (l := l) (lo := some 1) (hi := none); omega)
 · exact good _ (fun x hx => .inl (cK4 hx)) (by have := cH8 (l := l) (lo := none) (hi := some (-1)); omega)
 · exact good _ (fun x hx => by cases hx) (by simp)
theorem dZ6 {ps : List (Str × D)} (hll : ps.length ≤ b) (hn : (ps.map (·.1)).Nodup) (hl : ∀ p ∈ ps, p.1.length ≤ 1000 ∧ VW b k p.2) (hk0 : 0 ≤ kind) (hk1 : kind < 6) : Wp (ER [u0, some (.tup [.str aB9, .tup (ps.map t8)]), u2, u3, some (.int kind)]) G fun d G' => VW (b + 1) (k + 1 + 1) d ∧ Ap G G' := by
 refine o6 <| d9 (a := .ref G.length) (G' := G ++ [.lst [.tup [.str aB9, .tup (DL.cutD (ps.map t8) (some 1) none)], .tup [.str aB9, .tup (DL.cutD (ps.map t8) none (some (-1)))], .tup [.str aB9, .tup (ps.map t8)], .tup [.str V3, .tup []], .tup [.str aB9, .tup []], .int 0]]) rfl <| d9 (a := .int kind) rfl <| aT3 hk0 (by exact hk1) fun d hd => ⟨?_, Ap.one⟩
 obtain ⟨p1, e1, s1⟩ := bW0 (ps := ps) (lo := some 1) (hi := none)
 obtain ⟨p2, e2, s2⟩ := bW0 (ps := ps) (lo := none) (hi := some (-1))
 rw [e1, e2] at hd
 simp only [List.mem_cons, List.not_mem_nil, or_false] at hd
 rcases hd with rfl | rfl | rfl | rfl | rfl | rfl
 · exact VW.sub hll hn hl s1
 · exact VW.sub hll hn hl s2
 · exact VW.sub hll hn hl (List.Sublist.refl _)
 · exact VW.l (by simp) fun x hx => (by cases hx)
 · exact VW.r (ps := []) (by simp) List.nodup_nil fun x hx => (by cases hx)
 · exact VW.i
end
theorem eC7 {r b k : Nat} {value : D} {u3 u4 u5 : Option D} {G : DH} (h : J8 G r) (hv : VW b k value) (hb : b ≤ 800) :
 Wp (NL [some (.ref r), some value, u3, u4, u5]) G fun fl G' => ∃ d, fl = .rt d ∧ VW (b + 1) (k + 1) d ∧ Fr r G G' := by
 obtain ⟨k, rfl⟩ : ∃ k', k = k' + 1 := ⟨k - 1, by have := hv.pos; omega⟩
 refine j7.mpr <| M9 <| m9 (as := [.ref r, .int 6]) rfl rfl <| R0 h ⟨by decide, by decide⟩ fun kind hk0 hk1 G1 f1 => ?_
 show Wp (j8 _ _ [some (.ref r), some value, u3, u4, some (.int kind)]) G1 _
 have fin : ∀ {e : Fe} {P : Fl → DH → Prop}, (∀ d G', VW (b + 1) (k + 1 + 1) d → Fr r G G' → P (.rt d) G') → Wp (e [some (.ref r), some value, u3, u4, some (.int kind)]) G1 (fun d G' => VW (b + 1) (k + 1 + 1) d ∧ Ap G1 G') → Wp (K5 e [some (.ref r), some value, u3, u4, some (.int kind)]) G1 P := fun p w =>
  R1 (w.mono fun d G' z => p d G' z.1 (by obtain ⟨t, rfl⟩ := z.2; exact f1.trans (Fr.app f1.2.2)))
 rcases hv with ⟨i, rfl⟩ | ⟨t, rfl⟩ | ⟨z, rfl, hz⟩ | ⟨l, rfl, hll, hl⟩ | ⟨ps, rfl, hll, hn, hl⟩
 · exact o7 rfl <| j7.mpr <| aZ3 (G1 := G1) rfl <| fin (fun d G' q f => ⟨d, rfl, q, f⟩) (eB2 hk0 hk1)
 · exact j7.mpr <| aZ3 (G1 := G1) rfl <| fin (fun d G' q f => ⟨d, rfl, q, f⟩) (eE6 hk0 hk1)
 · exact o7 rfl <| o7 rfl <| j7.mpr <| aZ3 (G1 := G1) rfl <| fin (fun d G' q f => ⟨d, rfl, q, f⟩) (eF9 hz hb hk0 hk1)
 · exact o7 rfl <| o7 rfl <| o7 rfl <| j7.mpr <| aZ3 (G1 := G1) rfl <| fin (fun d G' q f => ⟨d, rfl, q, f⟩) (eB1 hll hl hb hk0 hk1)
 · exact o7 rfl <| o7 rfl <| o7 rfl <| o7 rfl <| fin (fun d G' q f => ⟨d, rfl, q, f⟩) (dZ6 hll hn hl hk0 hk1)
theorem cR8 {b k : Nat} {l : List D} {i : Nat} {x : D} (hi : i < l.length) (hll : l.length ≤ b) (hv : ∀ y ∈ l, VW b k y) (hx : VW (b + 1) (k + 1) x) : VW (b + 1) (k + 1 + 1) (.tup [.str V3, .tup (l.take i ++ [x] ++ l.drop (i + 1))]) := by
 refine VW.l (by simp; omega) fun y hy => ?_
 rcases List.mem_append.mp hy with hy | hy
 · rcases List.mem_append.mp hy with hy | hy
   · exact VW.le (by omega) (by omega) (hv y (List.mem_of_mem_take hy))
   · rw [List.mem_singleton] at hy
     subst hy
     exact hx
 · exact VW.le (by omega) (by omega) (hv y (List.mem_of_mem_drop hy))
theorem cU1 {b k : Nat} {ps : List (Str × D)} {i : Nat} {x : D} (hi : i < ps.length) (hll : ps.length ≤ b) (hn : (ps.map (·.1)).Nodup) (hv : ∀ p ∈ ps, p.1.length ≤ 1000 ∧ VW b k p.2) (hx : VW (b + 1) (k + 1) x) : VW (b + 1) (k + 1 + 1) (.tup [.str aB9, .tup ((ps.map t8).take i ++ [.tup [.str ps[i].1, x]] ++ (ps.map t8).drop (i + 1))]) := by
 have e : (ps.map t8).take i ++ [.tup [.str ps[i].1, x]] ++ (ps.map t8).drop (i + 1) = (ps.take i ++ [(ps[i].1, x)] ++ ps.drop (i + 1)).map t8 := by
  rw [List.map_append, List.map_append, List.map_take, List.map_drop]; rfl
 have en : (ps.take i ++ [(ps[i].1, x)] ++ ps.drop (i + 1)).map (·.1) = ps.map (·.1) := by
  have e1 : ps.map (·.1) = (ps.take i ++ ps[i] :: ps.drop (i + 1)).map (·.1) := by rw [← List.drop_eq_getElem_cons hi, List.take_append_drop]
  rw [e1, List.map_append, List.map_append, List.map_append, List.append_assoc]; rfl
 rw [e]
 refine VW.r (by simp; omega) (by rw [en]; exact hn) fun p hp => ?_
 have old : ∀ p ∈ ps, p.1.length ≤ 1000 ∧ VW (b + 1) (k + 1) p.2 := fun p hp => ⟨(hv p hp).1, VW.le (by omega) (by omega) (hv p hp).2⟩
 rcases List.mem_append.mp hp with hp | hp
 · rcases List.mem_append.mp hp with hp | hp
   · exact old p (List.mem_of_mem_take hp)
   · rw [List.mem_singleton] at hp
     subst hp
     exact ⟨(hv _ (List.getElem_mem hi)).1, hx⟩
 · exact old p (List.mem_of_mem_drop hp)
def Shp (b k : Nat) (value : D) : Prop := (∃ l, value = .tup [.str V3, .tup l] ∧ l ≠ [] ∧ l.length ≤ b ∧ ∀ x ∈ l, VW b k x) ∨ ∃ ps : List (Str × D), value = .tup [.str aB9, .tup (ps.map t8)] ∧ ps ≠ [] ∧ ps.length ≤ b ∧ (ps.map (·.1)).Nodup ∧ ∀ p ∈ ps, p.1.length ≤ 1000 ∧ VW b k p.2
theorem dT2 {r i : Nat} {w : Str} {l : List D} {x : D} {u5 : Option D} {G : DH} {P : Fl → DH → Prop} (hi : i < l.length) (hl : l.length ≤ 900) (q : P (.rt (.tup [.str w, .tup (l.take i ++ [x] ++ l.drop (i + 1))])) G) : Wp (NA4 [some (.ref r), some (.tup [.str w, .tup l]), some (.int i), some x, u5]) G P := by
 have bg := big
 unfold NA4
 have hadd : ((i : Int) + 1) = ((i + 1 : Nat) : Int) := rfl
 simp only [aV4, aO0, U5, aN2, aS7, bE4, aB0, m6, bY0, aG9, List.getElem?_cons_zero, List.getElem?_cons_succ, Option.some.injEq, exists_eq_left', ix_tup, at0, at1, dG3, dD5, aD3, hadd, aX5, cY5]
 refine ⟨sz, (bS2 ?_).mpr ((bS2 ?_).mpr ⟨sz, q⟩)⟩
 · rw [List.length_take]; simp only [List.length_cons, List.length_nil]; omega
 · rw [List.length_append, List.length_drop, List.length_take]; simp only [List.length_cons, List.length_nil]; omega
theorem dI9 {R : List D → M D} {r i : Nat} {p1 : Str} {p2 : D} {l : List D} {u5 : Option D} {G : DH} {A : DPP} (w : Wp (R [.ref r, p2]) G A) : Wp (NA3 R [some (.ref r), some (.tup [.str aB9, .tup l]), some (.int i), some (.tup [.str p1, p2]), u5]) G fun fl G1 => ∃ x, fl = .nx [some (.ref r), some (.tup [.str aB9, .tup l]), some (.int i), some x, u5] ∧ ∃ x', x = .tup [.str p1, x'] ∧ A x' G1 := by
 unfold NA3
 simp only [bY4, bT5, aF8, V9, aO0, U5, aI6, aB0, m6, bY0, aG9, aB6, List.getElem?_cons_zero, List.getElem?_cons_succ, List.set_cons_succ, List.set_cons_zero, Option.some.injEq, exists_eq_left', ix_tup, at0, at1, cH0, cU3, show (aB9 == ("record" : Str)) = true from by decide, if_true]
 exact ⟨rfl, w.mono fun x G1 a => ⟨sz, _, rfl, x, rfl, a⟩⟩
theorem dC3 {R : List D → M D} {r i : Nat} {w : Str} {l : List D} {y : D} {u4 u5 : Option D} {G : DH} {P : Fl → DH → Prop} {A : DPP} (ei : l[i]? = some y) (hl : l.length ≤ 900) (w3 : Wp (NA3 R [some (.ref r), some (.tup [.str w, .tup l]), some (.int i), some y, u5]) G fun fl G1 => ∃ x, fl = .nx [some (.ref r), some (.tup [.str w, .tup l]), some (.int i), some x, u5] ∧ A x G1)
 (q : ∀ x G1, A x G1 → P (.rt (.tup [.str w, .tup (l.take i ++ [x] ++ l.drop (i + 1))])) G1) : Wp (NA2 R [some (.ref r), some (.tup [.str w, .tup l]), some (.int i), u4, u5]) G P := by
 have hi : i < l.length := (List.getElem?_eq_some_iff.mp ei).1
 refine cD0 (m := ixD (.tup l) (.int i)) (fun d => [some (.ref r), some (.tup [.str w, .tup l]), some (.int i), some d, u5]) rfl (ix_tup.mpr ⟨_, atI_nat ei, cV2 w3 ?_⟩)
 rintro fl G1 ⟨x, rfl, a⟩
 exact dT2 hi hl (q x G1 a)
theorem eC2 {R : List D → M D} {r b k : Nat} {value : D} {u3 u4 u5 : Option D} {G : DH} (h : J8 G r) (hb : b ≤ 800)
 (hR : ∀ v G1, J8 G1 r → VW b k v → Wp (R [.ref r, v]) G1 fun x G2 => VW (b + 1) (k + 1) x ∧ Fr r G1 G2) (hv : Shp b k value) :
 Wp (NA R [some (.ref r), some value, u3, u4, u5]) G fun fl G' => ∃ d, fl = .rt d ∧ VW (b + 1) (k + 1 + 1) d ∧ Fr r G G' := by
 rcases hv with ⟨l, rfl, hne, hll, hl⟩ | ⟨ps, rfl, hne, hll, hn, hl⟩
 · have hpos : 0 < l.length := List.length_pos_iff.mpr hne
   refine cD0 (m := noX (d8 [.ref r, .int l.length])) (fun d => [some (.ref r), some (.tup [.str V3, .tup l]), some d, u4, u5]) rfl (bR7 (R0 h ⟨by omega, by omega⟩ fun at' ha0 ha1 G2 f2 => ?_))
   obtain ⟨i, rfl⟩ := Int.eq_ofNat_of_zero_le ha0
   have hi : i < l.length := by omega
   refine dC3 (A := fun x G1 => VW (b + 1) (k + 1) x ∧ Fr r G2 G1) (List.getElem?_eq_getElem hi) (by omega) ?_ fun x G1 q => ⟨_, rfl, cR8 hi hll hl q.1, f2.trans q.2⟩
   exact cK9 (m' := noX (R [.ref r, l[i]]) >>= fun d => pure (Fl.nx [some (.ref r), some (.tup [.str V3, .tup l]), some (.int i), some d, u5])) rfl (m5.mpr (bR7 ((hR l[i] G2 f2.2.2 (hl _ (List.getElem_mem hi))).mono fun x G3 q => j6.mpr ⟨x, rfl, q⟩)))
 · have hpos : 0 < ps.length := List.length_pos_iff.mpr hne
   refine cD0 (m := noX (d8 [.ref r, .int (ps.map t8).length])) (fun d => [some (.ref r), some (.tup [.str aB9, .tup (ps.map t8)]), some d, u4, u5]) rfl (bR7 (R0 h (by rw [List.length_map]; exact ⟨by omega, by omega⟩) fun at' ha0 ha1 G2 f2 => ?_))
   obtain ⟨i, rfl⟩ := Int.eq_ofNat_of_zero_le ha0
   rw [List.length_map] at ha1
   have hi : i < ps.length := by omega
   refine dC3 (y := .tup [.str ps[i].1, ps[i].2]) (A := fun x G1 => ∃ x', x = .tup [.str ps[i].1, x'] ∧ VW (b + 1) (k + 1) x' ∧ Fr r G2 G1) (by rw [List.getElem?_map, List.getElem?_eq_getElem hi]; rfl) (by rw [List.length_map]; omega) ?_ ?_
   · exact dI9 (hR ps[i].2 G2 f2.2.2 (hl _ (List.getElem_mem hi)).2)
   · rintro x G1 ⟨x', rfl, hx, f3⟩
     exact ⟨_, rfl, cU1 hi hll hn hl hx, f2.trans f3⟩
theorem cJ9 {r b : Nat} (hb : b ≤ 800) : ∀ (n k : Nat) (value : D) (G : DH), J8 G r → VW b k value → k ≤ n →
 Wp (aC9 n [.ref r, value]) G fun x G' => VW (b + 1) (k + 1) x ∧ Fr r G G'
 | 0, k, value, G, h, hv, hk => by have := hv.pos; omega
 | n + 1, 0, value, G, h, hv, hk => hv.elim
 | n + 1, k + 1, value, G, h, hv, hk => by
   show Wp (K9 5 (aG7 (aC9 n)) [.ref r, value]) G _
   rw [eB6]
   refine R3 ?_
   have leaf : ∀ G1, Fr r G G1 → Wp (NL [some (.ref r), some value, none, none, none]) G1 (PB fun x G' => VW (b + 1) (k + 1 + 1) x ∧ Fr r G G') := fun G1 f1 => (eC7 f1.2.2 hv hb).mono fun fl G2 z => by
    obtain ⟨d, rfl, q, f2⟩ := z
    exact ⟨q, f1.trans f2⟩
   have main : Shp b k value → (∃ w a l, value = .tup [.str w, .tup (a :: l)]) → Wp (j8 (ifS NT (NA (aC9 n)) (K6)) NL [some (.ref r), some value, none, none, none]) G (PB fun x G' => VW (b + 1) (k + 1 + 1) x ∧ Fr r G G') := by
    intro hsh hw
    refine cV2 (A := fun fl G1 => (fl = .nx [some (.ref r), some value, none, none, none] ∧ Fr r G G1) ∨ ∃ d, fl = .rt d ∧ VW (b + 1) (k + 1 + 1) d ∧ Fr r G G1) ?_ ?_
    · have e : NT [some (.ref r), some value, none, none, none] G = ((noX (d8 [.ref r, .int 4]) >>= fun x => gtD x (.int 0)) >>= cO7) G := by
       obtain ⟨w, a, l, rfl⟩ := hw
       rfl
      refine bY4.mpr (cK9 e (m5.mpr (m5.mpr (bR7 (R0 h ⟨by decide, by decide⟩ fun k0 _ _ G1 f1 => cZ6.mpr (bQ2.mpr ⟨_, rfl, ?_⟩))))))
      split
      · exact (eC2 f1.2.2 hb (fun v G2 h2 hv2 => cJ9 hb n k v G2 h2 hv2 (by omega)) hsh).mono fun fl G2 z => by
         obtain ⟨d, e, q, f2⟩ := z
         exact .inr ⟨d, e, q, f1.trans f2⟩
      · exact J2.mpr (.inl ⟨rfl, f1⟩)
    · rintro fl G1 (⟨rfl, f1⟩ | ⟨d, rfl, q⟩)
      · exact leaf G1 f1
      · exact q
   rcases hv with ⟨i, rfl⟩ | ⟨t, rfl⟩ | ⟨z, rfl, hz⟩ | ⟨l, rfl, hll, hl⟩ | ⟨ps, rfl, hll, hn, hl⟩
   · exact o7 rfl (leaf G (Fr.refl h))
   · exact o7 rfl (leaf G (Fr.refl h))
   · exact o7 rfl (leaf G (Fr.refl h))
   · cases l with
     | nil => exact o7 rfl (leaf G (Fr.refl h))
     | cons a l => exact main (.inl ⟨_, rfl, by simp, hll, hl⟩) ⟨_, a, l, rfl⟩
   · cases ps with
     | nil => exact o7 rfl (leaf G (Fr.refl h))
     | cons a l => exact main (.inr ⟨_, rfl, by simp, hll, hn, hl⟩) ⟨_, _, _, rfl⟩
theorem eK5 : aB1 = j8 (o9 (q16 cQ1 (q13 (d7 aQ3 (d7 cE8 (cE (.int 10)) (cE (.int 18))) (cE (.int 1000))) (q13 (q16 (fnX 1 M6) (q13 (c7 0) (q14))) (q14)))) (q15 2)) (j8 (o9 (S5 (q14)) (q15 3)) (j8 (aI3 (V5 (q13 (q16 (fnX 2 d8) (q13 (c7 0) (q13 (d7 Q4 (c7 1) (cE (.int 1))) (q14)))) (q14))) (q15 4) SA) (j8 SC (j8 SD (K5 (q16 aA5 (q13 (c7 3) (q14)))))))) := rfl
def sts (ns : List (D × D)) : List D := ns.map stD
def StP (ns : List (D × D)) : Prop := ∀ p ∈ ns, aK4 p
theorem dZ3 {r p : Nat} {lo : Int} {n u5 u4 : Option D} {ns : List (D × D)} {G : DH} (hp : p ≠ r) (h : J8 G r) (e : G[p]? = some (.lst (sts ns))) (hn : StP ns) (hl : ns.length ≤ 50) :
 Wp (SA [some (.ref r), n, some (.int lo), some (.ref p), u4, u5]) G fun fl G' => Fr2 r p G G' ∧ ∃ lo' u5' ns', fl = .nx [some (.ref r), n, some (.int lo'), some (.ref p), u4, u5'] ∧ G'[p]? = some (.lst (sts ns')) ∧ StP ns' ∧ ns'.length ≤ ns.length + 1 := by
 have bg := big
 refine j7.mpr <| M9 <| o6 <| d9 (a := .int (lo + 2)) rfl <| P0 <| J3 (x := .ref r) rfl <| m8 <| aP9 rfl (by decide) (by decide) <| d9 (a := [.int 3, .int 50]) (G' := G) rfl ⟨sz, h, rfl, fun d hd G1 f1 => ?_⟩
 have hd' : ∃ i : Int, d = .int i ∧ 0 < i ∧ i ≤ 50 := by
  simp only [List.mem_cons, List.not_mem_nil, or_false] at hd
  rcases hd with rfl | rfl
  · exact ⟨3, rfl, by decide, by decide⟩
  · exact ⟨50, rfl, by decide, by decide⟩
 obtain ⟨i, rfl, hi1, hi2⟩ := hd'
 refine m6.mpr <| aB6.mpr ⟨rfl, R0 f1.2.2 ⟨hi1, by omega⟩ fun k hk0 hk1 G2 f2 => aD3.mpr ?_⟩
 refine j7.mpr <| M9 <| o6 <| d9 (a := .int (lo + 2 + k)) rfl <| aP9 rfl (by decide) (by decide) <| J3 (x := .int 0) rfl <| J3 (x := .int 1) rfl <| m8 <| m9 (as := [.ref r, .int 20]) rfl rfl <| R0 f2.2.2 ⟨by decide, by decide⟩ fun j hj0 hj1 G3 f3 => m6.mpr ⟨sz, f3.2.2, rfl, fun d hd G4 f4 => ?_⟩
 have hd' : ∃ w : Int, d = .int w ∧ 0 ≤ w ∧ w ≤ 20 := by
  simp only [List.mem_cons, List.not_mem_nil, or_false] at hd
  rcases hd with rfl | rfl | rfl
  · exact ⟨0, rfl, by decide, by decide⟩
  · exact ⟨1, rfl, by decide, by decide⟩
  · exact ⟨j, rfl, by omega, by omega⟩
 obtain ⟨w, rfl, hw1, hw2⟩ := hd'
 have f04 := ((f1.trans f2).trans f3).trans f4
 have e4 := f04.at hp e
 refine aD3.mpr <| j7.mpr <| aY1.mpr <| bJ3.mpr <| d9 (a := .ref p) rfl <| (aK0 e4).mpr <| d9 (a := [.tup [.int (lo + 2 + k), .int (lo + 2 + k + w)]]) rfl <| (aJ6 e4 (by unfold sts; rw [List.length_map]; omega)).mpr <| d9 rfl ?_
 refine ⟨f04.two.trans (Fr2.set hp f4.2.2), _, _, ns ++ [(.int (lo + 2 + k), .int (lo + 2 + k + w))], rfl, ?_, fun q hq => ?_, by simp⟩
 · rw [List.getElem?_set_self (lt_of_get e4)]
   unfold sts
   rw [List.map_append]; rfl
 · rcases List.mem_append.mp hq with hq | hq
   · exact hn q hq
   · rw [List.mem_singleton] at hq
     subst hq
     refine ⟨trivial, trivial, fun a b ea eb => ?_⟩
     cases ea
     cases eb
     omega
theorem cH2 {r p : Nat} {n : Option D} (hp : p ≠ r) : ∀ (items : List D) (lo : Int) (u4 u5 : Option D) (ns : List (D × D)) (G : DH), J8 G r → G[p]? = some (.lst (sts ns)) → StP ns → ns.length + items.length ≤ 50 →
 Wp (aC0 (q15 4) SA (fun _ => true) items [some (.ref r), n, some (.int lo), some (.ref p), u4, u5]) G fun fl G' => Fr2 r p G G' ∧ ∃ lo' u4' u5' ns', fl = .nx [some (.ref r), n, some (.int lo'), some (.ref p), u4', u5'] ∧ G'[p]? = some (.lst (sts ns')) ∧ StP ns' ∧ ns'.length ≤ ns.length + items.length
 | [], lo, u4, u5, ns, G, h, e, hn, hl => by
   rw [aB4]
   exact ⟨rfl, (Fr.refl h).two, lo, u4, u5, ns, rfl, e, hn, by simp⟩
 | d :: t, lo, u4, u5, ns, G, h, e, hn, hl => by
   simp only [List.length_cons] at hl
   rw [aB3, V9]
   refine ⟨rfl, (dZ3 hp h e hn (by omega)).mono ?_⟩
   rintro _ G1 ⟨f1, lo1, v1, ns1, rfl, q2, q3, q4⟩
   refine (cH2 hp t lo1 _ v1 ns1 G1 f1.2.2 q2 q3 (by omega)).mono ?_
   rintro _ G2 ⟨f2, a1, a2, a3, a4, p1, p2, p3, p4⟩
   exact ⟨f1.trans f2, a1, a2, a3, a4, p1, p2, p3, by simp only [List.length_cons]; omega⟩
theorem dM2 {p : Nat} {ns : List (D × D)} {G : DH} {Q : DPP} (e : G[p]? = some (.lst (sts ns))) : Wp (neD (.ref p) (.ref G.length)) (G ++ [.lst []]) Q ↔ Q (.bl (!ns.isEmpty)) (G ++ [.lst []]) := by
 rw [bS4 (Q0 e) j9]
 unfold sts
 rw [List.isEmpty_map]
theorem cR4 {q : D × D} {t : List (D × D)} : atI (sts (q :: t)) 0 = some (stD q) := atI_nat (k := 0) rfl
theorem eB8 {r p : Nat} {n a u4 u5 : Option D} {ns : List (D × D)} {G : DH} (hp : p ≠ r) (h : J8 G r) (e : G[p]? = some (.lst (sts ns))) (hn : StP ns) :
 Wp (SC [some (.ref r), n, a, some (.ref p), u4, u5]) G fun fl G' => Fr2 r p G G' ∧ ∃ ns', fl = .nx [some (.ref r), n, a, some (.ref p), u4, u5] ∧ G'[p]? = some (.lst (sts ns')) ∧ StP ns' ∧ ns'.length = ns.length := by
 have f1 : Fr r G (G ++ [.lst []]) := Fr.app h
 refine aH2 <| aK6 <| J4 <| o6 <| d9 (a := .ref p) rfl <| aB8.mpr <| m6.mpr ⟨sz, (dM2 e).mpr ⟨_, rfl, fun g => ?_, fun g => ⟨fun z => (nomatch z), fun _ => J2.mpr ⟨f1.two, ns, rfl, Q0 e, hn, rfl⟩⟩⟩⟩
 cases ns with
 | nil => cases g
 | cons q t =>
   refine J4 <| o6 <| m9 (as := [.ref r, .int 3]) rfl rfl <| R0 f1.2.2 ⟨by decide, by decide⟩ fun k hk0 hk1 G2 f2 => d9 (a := .int 1) rfl <| aH3.mpr ?_
   have f02 := f1.trans f2
   have e2 := f02.at hp e
   refine ⟨_, rfl, fun _ => ?_, fun _ => J2.mpr ⟨f02.two, q :: t, rfl, e2, hn, rfl⟩⟩
   refine aF8.mpr <| U5.mpr <| J3 (x := .non) rfl <| m8 <| o6 <| ixv (G1 := G2) rfl rfl e2 cR4 <| d9 (a := D.int 1) (G' := G2) rfl <| (ix_tup (l := [q.1, q.2]) (i := 1)).mpr ⟨q.2, rfl, m6.mpr ⟨sz, cN9 (k := 0) (j := 0) rfl rfl e2 ?_ ?_⟩⟩
   · unfold ixN; rw [if_pos (by omega), if_pos (by simp [sts])]; rfl
   · refine ⟨f02.two.trans (Fr2.set hp f2.2.2), (.non, q.2) :: t, rfl, List.getElem?_set_self (lt_of_get e2), fun x hx => ?_, rfl⟩
     rcases List.mem_cons.mp hx with rfl | hx
     · exact ⟨trivial, (hn q (by simp)).2.1, fun a b ea => (by cases ea)⟩
     · exact hn x (by simp [hx])
theorem cY4 {ns : List (D × D)} (h : ns ≠ []) : ∃ (t : List (D × D)) (q : D × D), ns = t ++ [q] := ⟨ns.dropLast, ns.getLast h, (List.dropLast_concat_getLast h).symm⟩
theorem cB2 {l : List D} {x : D} : ixN (l ++ [x]).length (-1) = some l.length := by
 unfold ixN
 rw [if_neg (by omega), if_pos (by simp; omega)]
 congr 1
 simp; omega
theorem atI_last {l : List D} {x : D} : atI (l ++ [x]) (-1) = some x := by
 unfold atI
 rw [cB2]
 simp
theorem eB9 {r p : Nat} {n a u4 u5 : Option D} {ns : List (D × D)} {G : DH} (hp : p ≠ r) (h : J8 G r) (e : G[p]? = some (.lst (sts ns))) (hn : StP ns) :
 Wp (SD [some (.ref r), n, a, some (.ref p), u4, u5]) G fun fl G' => Fr2 r p G G' ∧ ∃ ns', fl = .nx [some (.ref r), n, a, some (.ref p), u4, u5] ∧ G'[p]? = some (.lst (sts ns')) ∧ StP ns' ∧ ns'.length = ns.length := by
 have f1 : Fr r G (G ++ [.lst []]) := Fr.app h
 refine aH2 <| aK6 <| J4 <| o6 <| d9 (a := .ref p) rfl <| aB8.mpr <| m6.mpr ⟨sz, (dM2 e).mpr ⟨_, rfl, fun g => ?_, fun g => ⟨fun z => (nomatch z), fun _ => J2.mpr ⟨f1.two, ns, rfl, Q0 e, hn, rfl⟩⟩⟩⟩
 have hne : ns ≠ [] := by rintro rfl; cases g
 clear g
 obtain ⟨t, q, rfl⟩ := cY4 hne
 refine J4 <| o6 <| m9 (as := [.ref r, .int 3]) rfl rfl <| R0 f1.2.2 ⟨by decide, by decide⟩ fun k hk0 hk1 G2 f2 => d9 (a := .int 1) rfl <| aH3.mpr ?_
 have f02 := f1.trans f2
 have e2 := f02.at hp e
 refine ⟨_, rfl, fun _ => ?_, fun _ => J2.mpr ⟨f02.two, t ++ [q], rfl, e2, hn, rfl⟩⟩
 have es : sts (t ++ [q]) = sts t ++ [stD q] := by unfold sts; rw [List.map_append]; rfl
 rw [es] at e2
 refine aF8.mpr <| U5.mpr <| m8 <| o6 <| ixv (G1 := G2) rfl rfl e2 atI_last <| d9 (a := D.int 0) (G' := G2) rfl <| (ix_tup (l := [q.1, q.2]) (i := 0)).mpr ⟨q.1, rfl, d9 (a := [D.non]) rfl ⟨sz, cN9 (k := -1) rfl rfl e2 cB2 ?_⟩⟩
 refine ⟨f02.two.trans (Fr2.set hp f2.2.2), t ++ [(q.1, .non)], rfl, ?_, fun x hx => ?_, by simp⟩
 · rw [List.getElem?_set_self (lt_of_get e2)]
   have : (sts t ++ [stD q]).set (sts t).length (.tup [q.1, .non]) = sts (t ++ [(q.1, .non)]) := by
    unfold sts
    rw [List.map_append, List.set_append_right _ _ (Nat.le_refl _), Nat.sub_self]; rfl
   exact congrArg (fun l => some (DO.lst l)) this
 · rcases List.mem_append.mp hx with hx | hx
   · exact hn x (by simp [hx])
   · rw [List.mem_singleton] at hx
     subst hx
     exact ⟨(hn q (by simp)).1, trivial, fun a b _ eb => (by cases eb)⟩
theorem Fr2.back {r p : Nat} {G0 G G' : DH} (h : Fr2 r p G G') (k : Fr r G0 G) (hp : G0.length ≤ p) : Fr r G0 G' := ⟨Nat.le_trans k.1 h.1, fun i hi hl => by rw [h.2.1 i hi (by omega) (by have := k.1; omega), k.2.1 i hi hl], h.2.2⟩
theorem bX0 {r : Nat} {G : DH} (h : J8 G r) : Wp (N7 [.ref r, .int 3]) G fun x G' => ∃ ns, x = .tup (sts ns) ∧ StP ns ∧ ns.length ≤ 10 ∧ Fr r G G' := by
 refine R3 (show Wp (aB1 [some (.ref r), some (.int 3), none, none, none, none]) G _ from ?_)
 rw [eK5]
 refine j7.mpr <| M9 <| P0 <| J3 (x := .int (1000000000000000000 - 1000)) rfl <| m8 <| m9 (as := [.ref r]) rfl rfl <| bV7 h fun k hk0 hk1 G1 f1 => m6.mpr <| dL9.mpr ?_
 have f2 : Fr r G1 (G1 ++ [.lst []]) := Fr.app f1.2.2
 have hp : G1.length ≠ r := by have := f1.2.2.lt; omega
 refine o7 (G' := G1 ++ [.lst []]) rfl <| j7.mpr <| aF5.mpr <| rng1.mpr <| m8 <| m9 (as := [.ref r, .int 4]) rfl rfl <| R0 f2.2.2 ⟨by decide, by decide⟩ fun m hm0 hm1 G2 f3 => m6.mpr <| (rng1_int ⟨by omega, by omega⟩).mpr ?_
 have e2 : G2[G1.length]? = some (.lst (sts [])) := f3.at hp j9
 have hlen : (K8 0 m.toNat).length = m.toNat := by unfold K8; rw [List.length_map, List.length_range]
 refine (cH2 hp (K8 0 m.toNat) _ none none [] G2 f3.2.2 e2 (fun p hp => by cases hp) (by rw [hlen]; simp; omega)).mono ?_
 rintro _ G3 ⟨f4, lo', v4, v5, ns1, rfl, q2, q3, q4⟩
 refine j7.mpr <| (eB8 hp f4.2.2 q2 q3).mono ?_
 rintro _ G4 ⟨f5, ns2, rfl, q6, q7, q8⟩
 refine j7.mpr <| (eB9 hp f5.2.2 q6 q7).mono ?_
 rintro _ G5 ⟨f6, ns3, rfl, q10, q11, q12⟩
 have fb := ((f4.trans f5).trans f6).back (f2.trans f3) (p := G1.length) (Nat.le_refl _)
 exact R1 <| aP7 (as := [.ref G1.length]) rfl <| (aA1 q10).mpr <| aD1 ⟨ns3, rfl, q11, by rw [hlen] at q4; simp only [List.length_nil] at q4; omega, f1.trans fb⟩
theorem bL8 : ∀ {l : List (Key × D)} {ss : List Str}, t7 l = some ss → aV2 l = ss.map D.str
 | [], ss, h => by cases h; rfl
 | (.inl i, v) :: r, ss, h => by cases h
 | (.inr x, v) :: r, ss, h => by
  unfold t7 at h
  cases hr : t7 r with
  | none => rw [hr] at h; cases h
  | some ts =>
    rw [hr] at h
    cases h
    have ih := bL8 hr
    unfold aV2 at ih ⊢
    rw [List.map_cons, ih]
    rfl
theorem cC2 : ∀ ss : List Str, aH5 (ss.map D.str) = some ss
 | [] => rfl
 | z :: r => by show (aH5 (r.map D.str)).map (z :: ·) = _; rw [cC2 r]; rfl
noncomputable def Dk (G : DH) (p : Nat) (l : List (Key × D)) : Prop := G[p]? = some (.dct l) ∨ G[p]? = some (.rod l)
theorem dK2 {r p : Nat} {l : List (Key × D)} {G : DH} {R : Src → DH → Prop} (hp : p ≠ r) (h : J8 G r) (e : Dk G p l) (q : ∀ G1, Dk G1 p l → Fr2 r p G G1 → R ⟨aV2 l, fun _ => true⟩ G1) : Wp (bK2 (.ref p)) G R := by
 rcases e with e | e
 · rw [cT3 e]
   exact q _ (.inr (by rw [List.getElem?_set_self (lt_of_get e)])) (Fr2.set hp h)
 · rw [cX6 e]
   exact q _ (.inr e) (Fr.refl h).two
theorem Dk.app {G : DH} {p : Nat} {l : List (Key × D)} {t : DH} (h : Dk G p l) : Dk (G ++ t) p l := by
 rcases h with h | h
 · exact .inl (Q0 h)
 · exact .inr (Q0 h)
theorem Dk.lt {G : DH} {p : Nat} {l : List (Key × D)} (h : Dk G p l) : p < G.length := by
 rcases h with h | h <;> exact lt_of_get h
theorem eK2 : aO9 = j8 (o9 (aN4) (q15 2)) (j8 (aI3 (V5 (q13 (q16 (fnX 2 d8) (q13 (c7 0) (q13 (d7 Q4 (c7 1) (cE (.int 1))) (q14)))) (q14))) (q15 3) WA) (j8 (o9 (S5 (q14)) (q15 4)) (j8 (aI3 (V5 (q13 (cE (.int 21)) (q14))) (q15 5) WB) (K5 (t6 (q13 (d7 ixD (S5 (q13 (cE (.str ("of" : Str))) (q13 (cE (.str ("but" : Str))) (q14)))) (q16 (fnX 2 d8) (q13 (c7 0) (q13 (cE (.int 2)) (q14))))) (q13 (q16 aA5 (q13 (c7 4) (q14))) (q14)))))))) := rfl
theorem dY9 {r p : Nat} {n u v w : Option D} {l : List (Key × D)} {ss : List Str} {G : DH} (hp : p ≠ r) (h : J8 G r) (e : G[p]? = some (.dct l)) (hk : t7 l = some ss) (hl : ss.length ≤ 60) (hz : NS ss) :
 Wp (WA [some (.ref r), n, some (.ref p), u, v, w]) G fun fl G' => Fr2 r p G G' ∧ ∃ l' ss', fl = .nx [some (.ref r), n, some (.ref p), u, v, w] ∧ G'[p]? = some (.dct l') ∧ t7 l' = some ss' ∧ ss'.length ≤ ss.length + 1 ∧ NS ss' := by
 have bg := big
 refine aF8.mpr <| d9 (a := .bl true) rfl <| bF3.mpr <| d9 (a := .ref p) rfl <| m9 (as := [.ref r]) rfl rfl <| (cL5 h).mono ?_
 rintro _ G3 ⟨z, rfl, hzl, f3⟩
 have e3 := f3.at hp e
 obtain ⟨ss', k1, k2, k3⟩ := cA1 (z := z) (d := .bl true) hk hz hzl
 exact (bF1 e3 (by rw [aY0 hk]; omega)).mpr ⟨f3.two.trans (Fr2.set hp f3.2.2), _, ss', rfl, List.getElem?_set_self (lt_of_get e3), k1, k2, k3⟩
theorem cL2 {r p : Nat} {n v w : Option D} (hp : p ≠ r) : ∀ (items : List D) (u : Option D) (l : List (Key × D)) (ss : List Str) (G : DH), J8 G r → G[p]? = some (.dct l) → t7 l = some ss → ss.length + items.length ≤ 60 → NS ss →
 Wp (aC0 (q15 3) WA (fun _ => true) items [some (.ref r), n, some (.ref p), u, v, w]) G fun fl G' => Fr2 r p G G' ∧ ∃ u' l' ss', fl = .nx [some (.ref r), n, some (.ref p), u', v, w] ∧ G'[p]? = some (.dct l') ∧ t7 l' = some ss' ∧ ss'.length ≤ ss.length + items.length ∧ NS ss'
 | [], u, l, ss, G, h, e, hk, hl, hz => by
   rw [aB4]
   exact ⟨rfl, (Fr.refl h).two, u, l, ss, rfl, e, hk, by simp, hz⟩
 | d :: t, u, l, ss, G, h, e, hk, hl, hz => by
   simp only [List.length_cons] at hl
   rw [aB3, V9]
   refine ⟨rfl, (dY9 (u := some d) hp h e hk (by omega) hz).mono ?_⟩
   rintro _ G1 ⟨f1, l1, ss1, rfl, q2, q3, q4, q5⟩
   refine (cL2 hp t (some d) l1 ss1 G1 f1.2.2 q2 q3 (by omega) q5).mono ?_
   rintro _ G2 ⟨f2, u', l', ss', p1, p2, p3, p4, p5⟩
   exact ⟨f1.trans f2, u', l', ss', p1, p2, p3, by simp only [List.length_cons]; omega, p5⟩
theorem eF2 {r p q : Nat} {n u : Option D} {k : Int} {l : List (Key × D)} {ks xs : List Str} {G : DH} (hp : p ≠ r) (h : J8 G r) (e : Dk G p l) (mk : t7 l = some ks) (hl : ks.length ≤ 4) (hz : NS ks) (hq : q ≠ r ∧ q ≠ p) (eq : G[q]? = some (.lst (xs.map D.str))) (hx : ∀ z ∈ xs, z.length ≤ 1000) (hxl : xs.length ≤ 1000) :
 Wp (WB [some (.ref r), n, some (.ref p), u, some (.ref q), some (.int k)]) G fun fl G' => Fr2 r p G G' ∧ Dk G' p l ∧ ∃ (q' : Nat) (xs' : List Str), fl = .nx [some (.ref r), n, some (.ref p), u, some (.ref q'), some (.int k)] ∧ (q' ≠ r ∧ q' ≠ p) ∧ G'[q']? = some (.lst (xs'.map D.str)) ∧ (∀ z ∈ xs', z.length ≤ 1000) ∧ xs'.length ≤ xs.length + 4 := by
 have bg := big
 refine M9 <| o6 <| d9 (a := .ref q) rfl <| P0 <| m8 <| wp_comp.mpr <| wp_itW.mpr <| d9 (a := .ref p) rfl <| dK2 hp h e fun G1 d1 f1 => ?_
 have eq1 : G1[q]? = some (.lst (xs.map D.str)) := by rw [f1.2.1 q hq.1 hq.2 (lt_of_get eq)]; exact eq
 rw [bL8 mk]
 refine ⟨by show (ks.map D.str).length ≤ _; rw [List.length_map]; omega, ?_⟩
 have hc : K4 (q15 0) (o5 (d7 eqD (q16 aP0 (q13 (c7 0) q14)) (c7 1))) (c7 0) (fun _ => true) (ks.map D.str) (U6 [none, some 5] [some (.ref r), n, some (.ref p), u, some (.ref q), some (.int k)]) G1 = some (.ok ((ks.map D.str).filter fun x => match x with | .str z => decide ((z.length : Int) = k) | _ => false), G1) := by
  refine aA3 rfl (fun σ => ∃ u, σ = [u, some (.int k)]) _ _ ⟨none, rfl⟩ fun x hx σ hσ => ?_
  obtain ⟨z, hzm, rfl⟩ := List.mem_map.mp hx
  obtain ⟨u, rfl⟩ := hσ
  have hz1 := hz.1 z hzm
  refine ⟨[some (.str z), some (.int k)], rfl, ⟨_, rfl⟩, aH9 ?_, rfl⟩
  exact J4 <| o6 <| aP7 (as := [.str z]) rfl <| (cS9 (show z.length ≤ sizeLine by omega)).mpr <| d9 (a := .int k) rfl <| aH3.mpr ⟨_, rfl, rfl, rfl⟩
 refine d9 hc ?_
 have ef : ((ks.map D.str).filter fun x => match x with | .str z => decide ((z.length : Int) = k) | _ => false) = (ks.filter fun z => decide ((z.length : Int) = k)).map D.str := by
  rw [List.filter_map]
  rfl
 rw [ef]
 have hle : (ks.filter fun z => decide ((z.length : Int) = k)).length ≤ ks.length := List.length_filter_le _ _
 have hmm : ∀ z ∈ (ks.filter fun z => decide ((z.length : Int) = k)), z.length ≤ 1000 := fun z hz' => hz.1 z (List.mem_filter.mp hz').1
 generalize (ks.filter fun z => decide ((z.length : Int) = k)) = ts at hle hmm ⊢
 refine m6.mpr <| (cS4 j9 (cC2 ts) (by omega)).mpr ?_
 have hperm : (V6 ts).Perm ts := List.mergeSort_perm ts leS
 have hlen := hperm.length_eq
 rw [aS9 (Q0 (Q0 eq1)) j9 (by rw [List.length_map, List.length_map]; omega), ← List.map_append]
 have h1 := d1.lt
 have h2 := f1.2.2.lt
 have f2 : Fr r G1 (G1 ++ [DO.lst (ts.map D.str)] ++ [DO.lst ((V6 ts).map D.str)] ++ [DO.lst ((xs ++ V6 ts).map D.str)]) := by rw [List.append_assoc, List.append_assoc]; exact Fr.app f1.2.2
 refine ⟨f1.trans f2.two, d1.app.app.app, _, xs ++ V6 ts, rfl, ⟨by simp only [List.length_append]; omega, by simp only [List.length_append]; omega⟩, j9, fun z hz' => ?_, by rw [List.length_append]; omega⟩
 rcases List.mem_append.mp hz' with hz' | hz'
 · exact hx z hz'
 · exact hmm z (hperm.mem_iff.mp hz')
theorem cH6 {r p : Nat} {n u : Option D} {l : List (Key × D)} {ks : List Str} (hp : p ≠ r) (mk : t7 l = some ks) (hl : ks.length ≤ 4) (hz : NS ks) : ∀ (items : List Int) (w : Option D) (q : Nat) (xs : List Str) (G : DH), J8 G r → Dk G p l → (q ≠ r ∧ q ≠ p) → G[q]? = some (.lst (xs.map D.str)) → (∀ z ∈ xs, z.length ≤ 1000) → xs.length + 4 * items.length ≤ 900 →
 Wp (aC0 (q15 5) WB (fun _ => true) (items.map D.int) [some (.ref r), n, some (.ref p), u, some (.ref q), w]) G fun fl G' => Fr2 r p G G' ∧ ∃ (q' : Nat) (w' : Option D) (xs' : List Str), fl = .nx [some (.ref r), n, some (.ref p), u, some (.ref q'), w'] ∧ (q' ≠ r ∧ q' ≠ p) ∧ G'[q']? = some (.lst (xs'.map D.str)) ∧ (∀ z ∈ xs', z.length ≤ 1000) ∧ xs'.length ≤ xs.length + 4 * items.length
 | [], w, q, xs, G, h, e, hq, eq, hx, hxl => by
   rw [List.map_nil, aB4]
   exact ⟨rfl, (Fr.refl h).two, q, w, xs, rfl, hq, eq, hx, by simp⟩
 | i :: t, w, q, xs, G, h, e, hq, eq, hx, hxl => by
   simp only [List.length_cons] at hxl
   rw [List.map_cons, aB3, V9]
   refine ⟨rfl, (eF2 hp h e mk hl hz hq eq hx (by omega)).mono ?_⟩
   rintro _ G1 ⟨f1, d1, q1, xs1, rfl, r2, r3, r4, r5⟩
   refine (cH6 hp mk hl hz t _ q1 xs1 G1 f1.2.2 d1 r2 r3 r4 (by omega)).mono ?_
   rintro _ G2 ⟨f2, q', w', xs', p1, p2, p3, p4, p5⟩
   exact ⟨f1.trans f2, q', w', xs', p1, p2, p3, p4, by simp only [List.length_cons]; omega⟩
theorem dX5 {r : Nat} {G : DH} (h : J8 G r) : Wp (aA6 [.ref r, .int 3]) G fun x G' => ∃ (w : Str) (ts : List Str), x = .tup [.str w, .tup (ts.map D.str)] ∧ (∀ z ∈ ts, z.length ≤ 1000) ∧ ts.length ≤ 100 ∧ Fr r G G' := by
 have fd : Fr r G (G ++ [DO.dct []]) := Fr.app h
 have hp : G.length ≠ r := by have := h.lt; omega
 refine R3 (show Wp (aO9 [some (.ref r), some (.int 3), none, none, none, none]) G _ from ?_)
 rw [eK2]
 refine o7 (σ' := [some (.ref r), some (.int 3), some (.ref G.length), none, none, none]) (G' := G ++ [.dct []]) rfl <| j7.mpr <| aF5.mpr <| rng1.mpr <| m8 <| m9 (as := [.ref r, .int 4]) rfl rfl <| R0 fd.2.2 ⟨by decide, by decide⟩ fun k hk0 hk1 G2 f2 => m6.mpr <| (rng1_int ⟨by omega, by omega⟩).mpr ?_
 have e2 : G2[G.length]? = some (.dct []) := f2.at hp j9
 have hlen : (K8 0 k.toNat).length = k.toNat := by unfold K8; rw [List.length_map, List.length_range]
 refine (cL2 hp (K8 0 k.toNat) none [] [] G2 f2.2.2 e2 rfl (by rw [hlen]; simp; omega) ⟨(fun z hz => by cases hz), List.nodup_nil⟩).mono ?_
 rintro _ G3 ⟨f3, u', l', ks', rfl, q2, q3, q4, q5⟩
 rw [hlen] at q4
 simp only [List.length_nil] at q4
 refine o7 (σ' := [some (.ref r), some (.int 3), some (.ref G.length), u', some (.ref G3.length), none]) (G' := G3 ++ [.lst []]) rfl <| j7.mpr <| aF5.mpr <| rng1.mpr <| d9 (a := [D.int 21]) rfl <| (rng1_int ⟨by decide, by decide⟩).mpr ?_
 have h3 := lt_of_get q2
 have h4 := f3.2.2.lt
 have er : K8 0 (21 : Int).toNat = ((List.range 21).map fun i : Nat => (i : Int)).map D.int := by
  rw [List.map_map]
  exact cC4 21
 rw [er]
 refine (cH6 hp q3 (by omega) q5 ((List.range 21).map fun i : Nat => (i : Int)) none G3.length [] (G3 ++ [.lst []]) (f3.2.2.app) (.inl (Q0 q2)) ⟨by omega, by omega⟩ j9 (fun z hz => by cases hz) (by simp)).mono ?_
 rintro _ G4 ⟨f4, q', w', xs', rfl, p2, p3, p4, p5⟩
 simp only [List.length_map, List.length_range, List.length_nil] at p5
 refine R1 <| U5.mpr <| m8 <| aP9 rfl (by decide) (by decide) <| d9 (a := [.str "of", .str "but"]) (G' := G4) rfl ⟨sz, f4.2.2, rfl, fun d hd G5 f5 => ?_⟩
 have hd' : ∃ w : Str, d = .str w := by
  simp only [List.mem_cons, List.not_mem_nil, or_false] at hd
  rcases hd with rfl | rfl <;> exact ⟨_, rfl⟩
 obtain ⟨w, rfl⟩ := hd'
 have f3' : Fr2 r G.length G2 (G3 ++ [.lst []]) := f3.trans (Fr.app f3.2.2).two
 exact m8 <| aP7 (as := [.ref q']) rfl <| (aA1 (f5.at p2.1 p3)).mpr <| m6.mpr ⟨sz, aD1 ⟨w, xs', rfl, p4, by omega, ((f3'.trans f4).back (fd.trans f2) (Nat.le_refl _)).trans f5⟩⟩
def noS : D := mkS [] wOf [] [] .non .non
theorem aG0 {G : DH} {Q : DPP} : Wp (o4 []) G Q ↔ Q noS G := by
 unfold o4 aJ2
 have s0 : (([] : List D).map some ++ List.replicate (0 - ([] : List D).length) none : DSt) = [] := rfl
 simp only [aT6, s0, aV4, U5, aB0, m6, bY0]
 constructor
 · intro h; exact h.2.2.2.2.2
 · intro h; exact ⟨sz, sz, sz, sz, sz, h⟩
theorem SB.le : ∀ {n m : Nat} {d : D}, n ≤ m → SB n d → SB m d
 | 0, _, _, _, h => h.elim
 | n + 1, 0, _, hm, _ => absurd hm (by omega)
 | n + 1, m + 1, d, hm, h => by
   rcases h with rfl | ⟨ns, w, ts, tr, li, re, rfl, h1, h2, h3, h4, h5, h6, h7⟩
   · exact .inl rfl
   · refine .inr ⟨ns, w, ts, tr, li, re, rfl, h1, h2, h3, h4, h5, ?_, ?_⟩
     · rcases h6 with rfl | ⟨fs, m', rfl, a, b, c⟩
       · exact .inl rfl
       · exact .inr ⟨fs, m', rfl, a, fun x hx => SB.le (by omega) (b x hx), SB.le (by omega) c⟩
     · rcases h7 with rfl | ⟨fs, m', rfl, a, a', b, c⟩
       · exact .inl rfl
       · exact .inr ⟨fs, m', rfl, a, a', fun x hx => ⟨(b x hx).1, SB.le (by omega) (b x hx).2⟩, SB.le (by omega) c⟩
theorem aO4 {n : Nat} : SB (n + 1) noS := .inr ⟨[], wOf, [], [], .non, .non, rfl, (fun p hp => by cases hp), by simp, (fun p hp => by cases hp), by simp, by simp, .inl rfl, .inl rfl⟩
noncomputable def M4 : Nat → D → Bool
 | _, .non => true
 | _, .bl _ => true
 | _, .int _ => true
 | _, .str _ => true
 | n + 1, .tup l => l.all (M4 n)
 | _, _ => false
theorem cL1 {f : D → D → Option Bool} : ∀ (a b : List D), (∀ x ∈ a, ∀ y ∈ b, ∃ k, f x y = some k) → ∃ k, eqL f a b = some k
 | [], [], _ => ⟨_, rfl⟩
 | [], _ :: _, _ => ⟨_, rfl⟩
 | _ :: _, [], _ => ⟨_, rfl⟩
 | x :: xs, y :: ys, h => by
   obtain ⟨k, e⟩ := h x (by simp) y (by simp)
   obtain ⟨k', e'⟩ := cL1 xs ys fun a ha b hb => h a (by simp [ha]) b (by simp [hb])
   exact ⟨k && k', by simp only [eqL, e, e']⟩
theorem dJ9 {x y : D} (hx : aL0 x = true) (hy : aL0 y = true) : ∃ k, eqS x y = some k := by
 cases x <;> cases y <;> first | cases hx; done | cases hy; done | exact ⟨_, rfl⟩
theorem aO8 {G : DH} : ∀ (n m : Nat) (x y : D), n < m → M4 n x = true → M4 n y = true → ∃ k, eqN m G x y = some k
 | n, 0, x, y, h, _, _ => by omega
 | n, m + 1, x, y, h, hx, hy => by
   have sc : ∀ {d : D}, M4 n d = true → (∃ l, d = .tup l ∧ ∃ k, n = k + 1 ∧ ∀ z ∈ l, M4 k z = true) ∨ (aL0 d = true ∧ aB7 G d = none) := fun {d} hd => by
    cases d with
    | tup l =>
      cases n with
      | zero => cases hd
      | succ k => exact .inl ⟨l, rfl, k, rfl, fun z hz => List.all_eq_true.mp (show l.all (M4 k) = true from hd) z hz⟩
    | ref i => cases n <;> cases hd
    | fn i => cases n <;> cases hd
    | ty i => cases n <;> cases hd
    | _ => exact .inr ⟨rfl, rfl⟩
   rcases sc hx with ⟨l, rfl, k, rfl, hl⟩ | ⟨s1, q1⟩
   · rcases sc hy with ⟨l', rfl, k', e', hl'⟩ | ⟨s2, q2⟩
     · have ek : k = k' := by omega
       subst ek
       obtain ⟨b, e⟩ := cL1 (f := eqN m G) l l' fun a ha b hb => aO8 k m a b (by omega) (hl a ha) (hl' b hb)
       refine ⟨b, ?_⟩
       show (if true = true then (if true = false ∧ l.length ≠ l'.length then some false else eqL (eqN m G) l l') else some false) = some b
       simp [e]
     · exact ⟨false, by rw [aZ0]; rw [q2]; simp only [aB7, s2, if_true]⟩
   · rcases sc hy with ⟨l', rfl, k', e', hl'⟩ | ⟨s2, q2⟩
     · exact ⟨false, by rw [aZ0]; rw [q1]; simp only [aB7, s1, if_true]⟩
     · obtain ⟨b, e⟩ := dJ9 s1 s2
       exact ⟨b, by rw [aZ0]; rw [q1, q2]; exact e⟩
theorem Z5 : ∀ {n m : Nat} {d : D}, n ≤ m → M4 n d = true → M4 m d = true
 | n, m, .non, _, _ => by cases m <;> rfl
 | n, m, .bl _, _, _ => by cases m <;> rfl
 | n, m, .int _, _, _ => by cases m <;> rfl
 | n, m, .str _, _, _ => by cases m <;> rfl
 | 0, m, .tup l, _, h => by cases h
 | n + 1, 0, .tup l, h, _ => by omega
 | n + 1, m + 1, .tup l, h, k => by
   show l.all (M4 m) = true
   exact List.all_eq_true.mpr fun x hx => Z5 (by omega) (List.all_eq_true.mp (show l.all (M4 n) = true from k) x hx)
 | n, m, .ref _, _, h => by cases n <;> cases h
 | n, m, .fn _, _, h => by cases n <;> cases h
 | n, m, .ty _, _, h => by cases n <;> cases h
theorem cN6 (n : Nat) (ss : List Str) : M4 (n + 1) (.tup (ss.map D.str)) = true := by
 show (ss.map D.str).all (M4 n) = true
 rw [List.all_map, List.all_eq_true]
 intro x _
 cases n <;> rfl
theorem dC4 (n : Nat) (bs : List Bool) : M4 (n + 1) (.tup (bs.map D.bl)) = true := by
 show (bs.map D.bl).all (M4 n) = true
 rw [List.all_map, List.all_eq_true]
 intro x _
 cases n <;> rfl
theorem dD0 (n : Nat) {ns : List (D × D)} (h : ∀ p ∈ ns, aK4 p) : M4 (n + 2) (.tup (ns.map stD)) = true := by
 show (ns.map stD).all (M4 (n + 1)) = true
 rw [List.all_map, List.all_eq_true]
 intro p hp
 have h1 := (h p hp).1
 have h2 := (h p hp).2.1
 have e : ∀ d, aW9 d → M4 n d = true := fun d hd => by
  cases d <;> first | exact hd.elim | (cases n <;> rfl)
 show [p.1, p.2].all (M4 n) = true
 simp [e _ h1, e _ h2]
theorem SB.data : ∀ {n : Nat} {d : D}, SB n d → M4 (4 * n) d = true
 | 0, _, h => h.elim
 | n + 1, d, h => by
   rcases h with rfl | ⟨ns, w, ts, tr, li, re, rfl, h1, h2, h3, h4, h5, h6, h7⟩
   · exact rfl
   · have q1 := dD0 (4 * n + 1) h1
     have q2 : M4 (4 * n + 3) (.tup [.str w, .tup (ts.map D.str)]) = true := by
      have := cN6 (4 * n + 1) ts
      show ([D.str w, .tup (ts.map D.str)].all (M4 (4 * n + 2))) = true
      simp only [List.all_cons, List.all_nil, this, Bool.and_true]
      rfl
     have q3 := dC4 (4 * n + 2) tr
     have q4 : M4 (4 * n + 3) li = true := by
      rcases h6 with rfl | ⟨fs, m, rfl, a, b, c⟩
      · rfl
      · show ([D.tup fs, m].all (M4 (4 * n + 2))) = true
        have z : M4 (4 * n + 2) (.tup fs) = true := by
         show fs.all (M4 (4 * n + 1)) = true
         exact List.all_eq_true.mpr fun x hx => Z5 (by omega) (b x hx).data
        simp [z, Z5 (show 4 * n ≤ 4 * n + 2 by omega) c.data]
     have q5 : M4 (4 * n + 3) re = true := by
      rcases h7 with rfl | ⟨fs, m, rfl, a, a', b, c⟩
      · rfl
      · show ([D.tup (fs.map fdD), m].all (M4 (4 * n + 2))) = true
        have z : M4 (4 * n + 2) (.tup (fs.map fdD)) = true := by
         show (fs.map fdD).all (M4 (4 * n + 1)) = true
         rw [List.all_map]
         refine List.all_eq_true.mpr fun x hx => ?_
         show ([D.str x.1, .bl x.2.1, x.2.2].all (M4 (4 * n))) = true
         have z1 : M4 (4 * n) (.str x.1) = true := by cases (4 * n) <;> rfl
         have z2 : M4 (4 * n) (.bl x.2.1) = true := by cases (4 * n) <;> rfl
         simp [z1, z2, (b x hx).2.data]
        simp [z, Z5 (show 4 * n ≤ 4 * n + 2 by omega) c.data]
     show [D.tup (ns.map stD), .tup [.str w, .tup (ts.map D.str)], .tup (tr.map D.bl), li, re].all (M4 (4 * n + 3)) = true
     simp only [List.all_cons, List.all_nil, q1, q2, q3, q4, q5]; rfl
theorem dC9 {n : Nat} {x y : D} {G : DH} {Q : DPP} (hn : n < 40) (hx : M4 n x = true) (hy : M4 n y = true) (q : ∀ k, Q (.bl k) G) : Wp (eqD x y) G Q := by
 obtain ⟨k, e⟩ := aO8 (G := G) n 40 x y hn hx hy
 rw [bC9, e]; exact T4.mpr (q k)
theorem bR1 {n : Nat} {x y : D} {G : DH} {Q : DPP} (hn : n < 40) (hx : M4 n x = true) (hy : M4 n y = true) (q : ∀ k, Q (.bl k) G) : Wp (neD x y) G Q := by
 obtain ⟨k, e⟩ := aO8 (G := G) n 40 x y hn hx hy
 exact (aO6 (show neD x y G = some (.ok (.bl (!k)), G) from by unfold neD; rw [e])).mpr (q _)
theorem dJ4 {n : Nat} {x : D} {G : DH} {Q : DPP} {l : List D} (hn : n < 40) (hx : M4 n x = true) (hl : ∀ y ∈ l, M4 n y = true) (q : ∀ k, Q (.bl k) G) : Wp (inX x (.tup l)) G Q := by
 have h : ∃ k, aL3 G x l = some k := by
  induction l with
  | nil => exact ⟨_, rfl⟩
  | cons a r ih =>
    obtain ⟨k, e⟩ := aO8 (G := G) n 40 a x hn (hl a (by simp)) hx
    obtain ⟨k', e'⟩ := ih fun y hy => hl y (by simp [hy])
    exact ⟨k || k', by unfold aL3; rw [e, e']⟩
 obtain ⟨k, e⟩ := h
 exact (aO6 (show inX x (.tup l) G = some (.ok (.bl k), G) from by unfold inX bP6; simp only [e])).mpr (q _)
section
variable {a b c : Option D} {n : Nat} {li re : D} {G : DH}
theorem eA0 (hn : n ≤ 7) (hl : LiP (SB n) li) : Wp (FA [a, b, c, some li, some re, none, none]) G fun fl G' => G' = G ∧ ∃ li', fl = .nx [a, b, c, some li', some re, none, none] ∧ LiP (SB n) li' := by
 rcases hl with rfl | ⟨fs, m, rfl, h1, h2, h3⟩
 · exact d9 rfl ⟨rfl, _, rfl, .inl rfl⟩
 · refine aH2 <| aK6 <| J4 <| d9 (a := .bl true) (G' := G) rfl ⟨_, rfl, fun _ => ?_, fun z => (nomatch z)⟩
   refine J4 <| o6 <| m9 (as := []) rfl rfl <| aG0.mpr <| d9 (a := .tup fs) rfl <| dJ4 (n := 4 * (n + 1)) (by omega) (Z5 (by omega) (aO4 (n := 0)).data) (fun y hy => Z5 (by omega) (h2 y hy).data) fun k => ⟨_, rfl, fun _ => ?_, fun _ => ?_⟩
   · exact d9 rfl ⟨rfl, _, rfl, .inl rfl⟩
   · exact J2.mpr ⟨rfl, _, rfl, .inr ⟨fs, m, rfl, h1, h2, h3⟩⟩
theorem eG6 (hn : n ≤ 7) (hl : ReP (SB n) re) : Wp (FB [a, b, c, some li, some re, none, none]) G fun fl G' => Ap G G' ∧ ∃ re', fl = .nx [a, b, c, some li, some re', none, none] ∧ ReP (SB n) re' := by
 rcases hl with rfl | ⟨fs, m, rfl, h1, h2, h3, h4⟩
 · exact d9 rfl ⟨Ap.refl, _, rfl, .inl rfl⟩
 · refine aH2 <| aK6 <| J4 <| d9 (a := .bl true) (G' := G) rfl ⟨_, rfl, fun _ => ?_, fun z => (nomatch z)⟩
   have hc : K4 (q15 0) (aF6 (U0 (d7 ixD (c7 0) (cE (.int 1)))) (o5 (d7 eqD (d7 ixD (c7 0) (cE (.int 2))) (q16 (fnX 0 o4) (q14))))) (c7 0) (fun _ => true) (fs.map fdD) (U6 [none] [a, b, c, some li, some (.tup [.tup (fs.map fdD), m]), none, none]) G = some (.ok ((fs.map fdD).filter fun d => match d with | .tup [_, .bl t, s] => t && (eqN 40 G s noS).getD false | _ => false), G) := by
    refine aA3 rfl (fun σ => σ.length = 1) _ _ rfl fun d hd σ hσ => ?_
    obtain ⟨f, hf, rfl⟩ := List.mem_map.mp hd
    match σ, hσ with
    | [u], _ =>
      refine ⟨[some (fdD f)], rfl, rfl, aH9 ?_, rfl⟩
      obtain ⟨k, e⟩ := aO8 (G := G) (4 * (n + 1)) 40 f.2.2 noS (by omega) (Z5 (by omega) (h3 f hf).2.data) (Z5 (by omega) (aO4 (n := 0)).data)
      refine aK6 <| d9 (a := f.2.1) (G' := G) rfl ⟨fun g => J4 <| o6 <| d9 (a := f.2.2) rfl <| m9 (as := []) rfl rfl <| aG0.mpr <| bC9.mpr ⟨k, e, _, rfl, ?_, rfl⟩, fun g => ⟨?_, rfl⟩⟩
      · show k = (f.2.1 && (eqN 40 G f.2.2 noS).getD false); rw [g, e]; rfl
      · show false = (f.2.1 && (eqN 40 G f.2.2 noS).getD false); rw [g]; rfl
   refine J4 <| o6 <| Z9 (l := fs.map fdD) rfl (by rw [List.length_map]; omega) <| d9 hc ?_
   generalize ((fs.map fdD).filter fun d => match d with | .tup [_, .bl t, s] => t && (eqN 40 G s noS).getD false | _ => false) = ys
   refine aB8.mpr <| m6.mpr ⟨sz, (bS4 (Q0 j9) j9).mpr ⟨_, rfl, fun _ => ?_, fun _ => ?_⟩⟩
   · exact d9 rfl ⟨Ap.one.trans Ap.one, _, rfl, .inl rfl⟩
   · exact J2.mpr ⟨Ap.one.trans Ap.one, _, rfl, .inr ⟨fs, m, rfl, h1, h2, h3, h4⟩⟩
theorem eF4 (hn : n ≤ 7) (hl : ReP (SB n) re) : Wp (FC [a, b, c, some li, some re, none, none]) G fun fl G' => Ap G G' ∧ ∃ re', fl = .nx [a, b, c, some li, some re', none, none] ∧ ReP (SB n) re' := by
 rcases hl with rfl | ⟨fs, m, rfl, h1, h2, h3, h4⟩
 · exact d9 rfl ⟨Ap.refl, _, rfl, .inl rfl⟩
 · refine aZ3 (G1 := G) rfl ?_
   have hc : K4 (q15 0) (orT (U0 (d7 ixD (c7 0) (cE (.int 1)))) (o5 (d7 neD (d7 ixD (c7 0) (cE (.int 2))) (d7 ixD (c7 1) (cE (.int 1)))))) (c7 0) (fun _ => true) (fs.map fdD) (U6 [none, some 4] [a, b, c, some li, some (.tup [.tup (fs.map fdD), m]), none, none]) G = some (.ok ((fs.map fdD).filter fun d => match d with | .tup [_, .bl t, s] => t || !(eqN 40 G s m).getD false | _ => false), G) := by
    refine aA3 rfl (fun σ => ∃ u, σ = [u, some (.tup [.tup (fs.map fdD), m])]) _ _ ⟨none, rfl⟩ fun d hd σ hσ => ?_
    obtain ⟨f, hf, rfl⟩ := List.mem_map.mp hd
    obtain ⟨u, rfl⟩ := hσ
    refine ⟨[some (fdD f), some (.tup [.tup (fs.map fdD), m])], rfl, ⟨_, rfl⟩, aH9 ?_, rfl⟩
    obtain ⟨k, e⟩ := aO8 (G := G) (4 * n) 40 f.2.2 m (by omega) (h3 f hf).2.data h4.data
    refine cD9 <| d9 (a := f.2.1) (G' := G) rfl ⟨fun g => ⟨?_, rfl⟩, fun g => J4 <| Q3 (x := f.2.2) (y := m) rfl rfl <| cK8.mpr ⟨k, e, _, rfl, ?_, rfl⟩⟩
    · show true = (f.2.1 || !(eqN 40 G f.2.2 m).getD false); rw [g]; rfl
    · show (!k) = (f.2.1 || !(eqN 40 G f.2.2 m).getD false); rw [g, e]; rfl
   refine M9 <| U5.mpr <| m8 <| P0 <| m8 <| Z9 (l := fs.map fdD) rfl (by rw [List.length_map]; omega) <| d9 hc ?_
   have ef : ((fs.map fdD).filter fun d => match d with | .tup [_, .bl t, s] => t || !(eqN 40 G s m).getD false | _ => false) = (fs.filter fun f => f.2.1 || !(eqN 40 G f.2.2 m).getD false).map fdD := by
    rw [List.filter_map]; rfl
   rw [ef]
   have hs : (fs.filter fun f => f.2.1 || !(eqN 40 G f.2.2 m).getD false).Sublist fs := List.filter_sublist
   generalize (fs.filter fun f => f.2.1 || !(eqN 40 G f.2.2 m).getD false) = fs' at hs ⊢
   exact m6.mpr <| (aA1 j9).mpr <| d9 (a := [m]) rfl ⟨sz, Ap.one, _, rfl, .inr ⟨fs', m, rfl, by have := hs.length_le; omega, (hs.map _).nodup h2, fun f hf => h3 f (hs.subset hf), h4⟩⟩
end
def evS : D := mkS [(.non, .non)] ("but" : Str) [] [false, true] (.tup [.tup [], .str aH0]) (.tup [.tup [], .str aH0])
theorem dM9 {n : Nat} : SB (n + 2) evS := .inr ⟨_, _, _, _, _, _, rfl, (fun p hp => by rw [List.mem_singleton] at hp; subst hp; exact ⟨trivial, trivial, fun a b ea => by cases ea⟩), by simp, (fun p hp => by cases hp), by simp, by simp, .inr ⟨[], .str aH0, rfl, by simp, (fun x hx => by cases hx), .inl rfl⟩, .inr ⟨[], .str aH0, rfl, by simp, List.nodup_nil, (fun x hx => by cases hx), .inl rfl⟩⟩
theorem cS1 {n : Nat} {ns : List (D × D)} {w : Str} {ts : List Str} {tr : List Bool} {li re : D} {G : DH} (hn : n ≤ 6) (h1 : ∀ p ∈ ns, aK4 p) (h2 : ns.length ≤ 100) (h3 : ∀ z ∈ ts, z.length ≤ 1000) (h4 : ts.length ≤ 100) (h5 : tr.length ≤ 100) (h6 : LiP (SB n) li) (h7 : ReP (SB n) re) :
 Wp (T7 [.tup (ns.map stD), .tup [.str w, .tup (ts.map D.str)], .tup (tr.map D.bl), li, re]) G fun x G' => SB (n + 1) x ∧ Ap G G' := by
 refine R3 (show Wp (j8 FA (j8 FB (j8 FC (j8 FE (j8 FF' FG')))) [some (D.tup (ns.map stD)), some (.tup [.str w, .tup (ts.map D.str)]), some (.tup (tr.map D.bl)), some li, some re, none, none]) G _ from ?_)
 refine j7.mpr ((eA0 (by omega) h6).mono ?_)
 rintro _ _ ⟨rfl, li', rfl, h6'⟩
 refine j7.mpr ((eG6 (by omega) h7).mono ?_)
 rintro _ G2 ⟨j2, re', rfl, h7'⟩
 refine j7.mpr ((eF4 (by omega) h7').mono ?_)
 rintro _ G3 ⟨j3, re2, rfl, h7''⟩
 have hg : SB (n + 1) (mkS ns w ts tr li' re2) := .inr ⟨ns, w, ts, tr, li', re2, rfl, h1, h2, h3, h4, h5, h6', h7''⟩
 refine o7 rfl <| o7 rfl <| R1 <| bP2.mpr <| J4 <| Q3 (x := mkS ns w ts tr li' re2) (y := evS) rfl rfl <| dC9 (n := 4 * (n + 2)) (by omega) (Z5 (by omega) hg.data) (dM9 (n := n)).data fun k => ⟨k, rfl, ?_⟩
 split
 · exact d9 rfl (aD1 ⟨.inl rfl, j2.trans j3⟩)
 · exact d9 rfl (aD1 ⟨hg, j2.trans j3⟩)
theorem eI3 {R : List D → M D} : W5 R = j8 (o9 (cE .non) (q15 2)) (j8 (o9 (cE .non) (q15 3)) (j8 (PL R) (j8 (PR R) (K5 (t6 (q13 (c7 2) (q13 (c7 3) (q14)))))))) := rfl
section
variable {R : List D → M D} {r k : Nat} {deep : Int} {G : DH}
def bX2 (R : List D → M D) (r k : Nat) (deep : Int) : Prop := ∀ G, J8 G r → Wp (V4 R [.ref r, .int (deep - 1)]) G fun x G' => SB k x ∧ Fr r G G'
theorem cI5 {G : DH} {p : Nat} {l : List D} {lo hi : Option Int} {Q : DPP} (e : G[p]? = some (.lst l)) : Wp (slT (.ref p) lo hi) G Q ↔ Q (.ref G.length) (G ++ [.lst (DL.cutD l lo hi)]) := dN8 e
def PLP (r k : Nat) (deep : Int) (c e f : Option D) (G : DH) (fl : Fl) (G' : DH) : Prop := Fr r G G' ∧ ∃ li, fl = .nx [some (.ref r), some (.int deep), some li, c, e, f] ∧ LiP (SB k) li
theorem eE1 {c e f : Option D} (h : J8 G r) (hS : 1 < deep → bX2 R r k deep) : Wp (PL R [some (.ref r), some (.int deep), some .non, c, e, f]) G (PLP r k deep c e f G) := by
 have non : ∀ G1, Fr r G G1 → PLP r k deep c e f G (.nx [some (.ref r), some (.int deep), some .non, c, e, f]) G1 := fun G1 f1 => ⟨f1, _, rfl, .inl rfl⟩
 refine aH2 <| aK6 <| J4 <| Q3 (x := .int deep) (y := .int 1) rfl rfl <| cF8.mpr ⟨_, rfl, fun g1 => ?_, fun _ => ⟨fun z => (nomatch z), fun _ => J2.mpr (non _ (Fr.refl h))⟩⟩
 have g1 : 1 < deep := of_decide_eq_true g1
 obtain ⟨x0, x1, x2, x3, hr, hb1, hb2⟩ := id h
 refine aK6 <| J4 <| o6 <| ixv (G1 := G) rfl rfl hr rfl <| d9 (a := .int 25) rfl <| aT4.mpr ⟨_, rfl, fun _ => ?_, fun _ => ⟨fun z => (nomatch z), fun _ => J2.mpr (non _ (Fr.refl h))⟩⟩
 refine J4 <| o6 <| m9 (as := [.ref r, .int 2]) rfl rfl <| R0 h ⟨by decide, by decide⟩ fun j hj0 hj1 G1 f1 => d9 (a := .int 1) rfl <| aH3.mpr ⟨_, rfl, fun _ => ?_, fun _ => J2.mpr (non _ f1)⟩
 refine M9 <| U5.mpr <| m8 <| P0 <| m8 <| wp_comp.mpr <| rng1.mpr <| m8 <| m9 (as := [.ref r, .int 4]) rfl rfl <| R0 f1.2.2 ⟨by decide, by decide⟩ fun m hm0 hm1 G2 f2 => m6.mpr <| (rng1_int ⟨by omega, by omega⟩).mpr ⟨?_, ?_⟩
 · exact Nat.le_trans (by show (K8 0 m.toNat).length ≤ 4; unfold K8; rw [List.length_map, List.length_range]; omega) (show 4 ≤ sizeLine by decide)
 refine (aS6 (Fr r G) (fun σ => ∃ w, σ = [w, some (.int deep), some (.ref r)]) (fun y => SB k y) (fun _ _ => rfl) (K8 0 m.toNat) _ G2 ⟨none, rfl⟩ (f1.trans f2) fun x hx σ G3 hσ f3 => ?_).mono fun ys G3 z => ?_
 · obtain ⟨w, rfl⟩ := hσ
   exact aY9 ⟨_, rfl⟩ <| m9 (as := [.ref r, .int (deep - 1)]) rfl rfl <| (hS g1 G3 f3.2.2).mono fun y G4 z => ⟨f3.trans z.2, z.1⟩
 · have f3' := z.1.trans (Fr.app (t := [DO.lst ys]) z.1.2.2)
   refine m6.mpr <| (aA1 j9).mpr <| m8 <| m9 (as := [.ref r, .int (deep - 1)]) rfl rfl <| (hS g1 _ f3'.2.2).mono fun y G4 z' => m6.mpr ⟨sz, f3'.trans z'.2, _, rfl, .inr ⟨ys, y, rfl, ?_, z.2.2, z'.1⟩⟩
   rw [z.2.1]; unfold K8; rw [List.length_map, List.length_range]; omega
def FdP (k : Nat) (ss : List Str) (fs : List (Str × Bool × D)) : Prop := fs.map (·.1) = ss ∧ ∀ f ∈ fs, f.1.length ≤ 1000 ∧ SB k f.2.2
theorem dX9 {p : Nat} {z : Str} {a b : Option D} {ss : List Str} {fs : List (Str × Bool × D)} (hp : p ≠ r) (h : J8 G r) (hS : bX2 R r k deep) (e : G[p]? = some (.lst (fs.map fdD))) (hf : FdP k ss fs) (hz : z.length ≤ 1000) (hl : fs.length ≤ 50) :
 Wp (PD R [some (.ref r), some (.int deep), a, b, some (.ref p), some (.str z)]) G fun fl G' => Fr2 r p G G' ∧ ∃ fs', fl = .nx [some (.ref r), some (.int deep), a, b, some (.ref p), some (.str z)] ∧ G'[p]? = some (.lst (fs'.map fdD)) ∧ FdP k (ss ++ [z]) fs' ∧ fs'.length = fs.length + 1 := by
 have bg := big
 refine aY1.mpr <| bJ3.mpr <| d9 (a := .ref p) rfl <| (aK0 e).mpr <| m8 <| U5.mpr <| J3 (x := .str z) rfl <| m8 <| o6 <| m9 (as := [.ref r, .int 2]) rfl rfl <| R0 h ⟨by decide, by decide⟩ fun j hj0 hj1 G1 f1 => d9 (a := .int 1) rfl <| aH3.mpr <| m8 <| m9 (as := [.ref r, .int (deep - 1)]) rfl rfl <| (hS G1 f1.2.2).mono ?_
 rintro y G2 ⟨q1, f2⟩
 have f12 := f1.trans f2
 have e2 := f12.at hp e
 refine m6.mpr ⟨sz, m6.mpr <| (aJ6 e2 (by rw [List.length_map]; omega)).mpr ⟨f12.two.trans (Fr2.set hp f2.2.2), fs ++ [(z, decide (j = 1), y)], rfl, ?_, ⟨by rw [List.map_append, hf.1]; rfl, fun x hx => ?_⟩, by simp⟩⟩
 · rw [List.getElem?_set_self (lt_of_get e2), List.map_append]; rfl
 · rcases List.mem_append.mp hx with hx | hx
   · exact hf.2 x hx
   · rw [List.mem_singleton] at hx
     subst hx
     exact ⟨hz, q1⟩
theorem cM7 {p q : Nat} {a b : Option D} {ds : List D} (hp : p ≠ r) (hq : q ≠ r ∧ q ≠ p) (hS : bX2 R r k deep) : ∀ (zs ss : List Str) (u : Option D) (fs : List (Str × Bool × D)) (G : DH), J8 G r → G[q]? = some (.lst ds) → G[p]? = some (.lst (fs.map fdD)) → FdP k ss fs → (∀ z ∈ zs, z.length ≤ 1000) → fs.length + zs.length ≤ 50 →
 Wp (aC0 (q15 5) (PD R) (ckO q (.lst ds)) (zs.map D.str) [some (.ref r), some (.int deep), a, b, some (.ref p), u]) G fun fl G' => Fr2 r p G G' ∧ ∃ u' fs', fl = .nx [some (.ref r), some (.int deep), a, b, some (.ref p), u'] ∧ G'[p]? = some (.lst (fs'.map fdD)) ∧ FdP k (ss ++ zs) fs' ∧ fs'.length = fs.length + zs.length
 | [], ss, u, fs, G, h, eq, e, hf, hz, hl => by
   rw [List.map_nil, aB4]
   exact ⟨by simp [ckO, eq], (Fr.refl h).two, u, fs, rfl, e, by rw [List.append_nil]; exact hf, by simp⟩
 | z :: t, ss, u, fs, G, h, eq, e, hf, hz, hl => by
   simp only [List.length_cons] at hl
   rw [List.map_cons, aB3, V9]
   refine ⟨by simp [ckO, eq], ?_⟩
   simp only [List.set_cons_succ, List.set_cons_zero]
   refine Wp.mono (dX9 hp h hS e hf (hz z (by simp)) (by omega)) fun fl G1 ⟨f1, fs1, q1, q2, q3, q4⟩ => ?_
   subst q1
   refine Wp.mono (cM7 hp hq hS t (ss ++ [z]) _ fs1 G1 f1.2.2 (by rw [f1.2.1 q hq.1 hq.2 (lt_of_get eq)]; exact eq) q2 q3 (fun x hx => hz x (by simp [hx])) (by omega)) fun fl G2 ⟨f2, u', fs', p1, p2, p3, p4⟩ => ⟨f1.trans f2, u', fs', p1, p2, by simpa using p3, by simp only [List.length_cons]; omega⟩
end
section
variable {R : List D → M D} {r k : Nat} {deep : Int} {G : DH}
def PRP (r k : Nat) (deep : Int) (a : Option D) (G : DH) (fl : Fl) (G' : DH) : Prop := Fr r G G' ∧ ∃ re u v, fl = .nx [some (.ref r), some (.int deep), a, some re, u, v] ∧ ReP (SB k) re
theorem dW8 {a : Option D} (h : J8 G r) (hS : 1 < deep → bX2 R r k deep) : Wp (PR R [some (.ref r), some (.int deep), a, some .non, none, none]) G (PRP r k deep a G) := by
 have bg := big
 refine bG2 (A := PRP r k deep a G) (bT9.mpr (J4 (Q3 (x := .int deep) (y := .int 1) rfl rfl (cF8.mpr ⟨_, rfl, ?_⟩)))) fun _ _ z => z
 have non : ∀ G1, Fr r G G1 → PRP r k deep a G (.nx [some (.ref r), some (.int deep), a, some .non, none, none]) G1 := fun G1 f1 => ⟨f1, _, _, _, rfl, .inl rfl⟩
 by_cases g1 : deep > 1
 · rw [decide_eq_true g1, if_pos rfl]
   obtain ⟨x0, x1, x2, x3, hr, hb1, hb2⟩ := id h
   refine bT9.mpr (J4 (o6 (ixv (G1 := G) rfl rfl hr rfl (d9 (a := .int 25) rfl (aT4.mpr ⟨_, rfl, ?_⟩)))))
   by_cases g2 : x3 < 25
   · rw [decide_eq_true g2, if_pos rfl]
     refine J4 (o6 (m9 (as := [.ref r, .int 2]) rfl rfl (R0 h ⟨by decide, by decide⟩ fun j hj0 hj1 G1 f1 => d9 (a := .int 1) rfl (aH3.mpr ⟨_, rfl, fun _ => ?_, fun _ => J2.mpr (non _ f1)⟩))))
     have hp : G1.length ≠ r := by have := f1.2.2.lt; omega
     have f2 : Fr r G1 (G1 ++ [.lst []]) := Fr.app f1.2.2
     refine o7 (σ' := [some (.ref r), some (.int deep), a, some .non, some (.ref G1.length), none]) (G' := G1 ++ [.lst []]) rfl ?_
     refine j7.mpr (aF5.mpr (wp_itW.mpr (aN2.mpr (m9 (as := [.ref r]) rfl rfl ((bF8 f2.2.2).mono ?_)))))
     rintro x G3 ⟨q, ss, rfl, hq, eq, hl8, hz, f3⟩
     rw [aS7, bE4]
     refine d9 (a := .int 4) (G' := G3) rfl (dG3.mpr ?_)
     rw [cI5 eq, aG6 j9]
     have et : DL.cutD (ss.map D.str) none (some 4) = (ss.take 4).map D.str := by
      have := aX5 (ss.map D.str) 4
      rw [← List.map_take] at this
      exact this
     rw [et]
     have e3 : G3[G1.length]? = some (.lst (([] : List (Str × Bool × D)).map fdD)) := f3.at hp j9
     have h3 := lt_of_get e3
     have h3r := f3.2.2.lt
     have f4 : Fr r G3 (G3 ++ [.lst ((ss.take 4).map D.str)]) := Fr.app f3.2.2
     refine (cM7 (k := k) hp (q := G3.length) ⟨by omega, by omega⟩ (hS g1) (ss.take 4) [] none [] _ f4.2.2 j9 (Q0 e3) ⟨rfl, fun f hf => by cases hf⟩ (fun z hz' => hz.1 z (List.mem_of_mem_take hz')) (by simp; omega)).mono ?_
     rintro _ G5 ⟨f5, u', fs', rfl, p2, p3, p4⟩
     have fb := (f4.two.trans f5).back (f2.trans f3) (Nat.le_refl _)
     refine M9 (U5.mpr (m8 (aP7 (as := [.ref G1.length]) rfl ((aA1 p2).mpr (m8 (m9 (as := [.ref r, .int (deep - 1)]) rfl rfl ((hS g1 G5 f5.2.2).mono fun y G6 z => m6.mpr ⟨sz, (f1.trans fb).trans z.2, _, _, _, rfl, .inr ⟨fs', y, rfl, ?_, ?_, p3.2, z.1⟩⟩)))))))
     · rw [p4]; simp; omega
     · rw [p3.1, List.nil_append]; exact (List.take_sublist 4 ss).nodup hz.2
   · rw [decide_eq_false g2]
     exact ⟨fun z => (nomatch z), fun _ => J2.mpr (non _ (Fr.refl h))⟩
 · rw [decide_eq_false g1]
   exact ⟨fun z => (nomatch z), fun _ => J2.mpr (non _ (Fr.refl h))⟩
theorem bM5 (h : J8 G r) (hS : 1 < deep → bX2 R r k deep) : Wp (K9 6 (W5 R) [.ref r, .int deep]) G fun x G' => ∃ li re, x = .tup [li, re] ∧ LiP (SB k) li ∧ ReP (SB k) re ∧ Fr r G G' := by
 refine bV5 (fun g => j8 _ (j8 _ g)) _ [some (.ref r), some (.int deep), some .non, some .non, none, none] eI3 (fun _ => rfl) ?_
 refine j7.mpr ((eE1 h hS).mono ?_)
 rintro _ G1 ⟨f1, li, rfl, h1⟩
 refine j7.mpr ((dW8 f1.2.2 hS).mono ?_)
 rintro _ G2 ⟨f2, re, u, v, rfl, h2⟩
 exact d9 (a := .rt (.tup [li, re])) rfl (aD1 ⟨li, re, rfl, h1, h2, f1.trans f2⟩)
def cF9 (R : List D → M D) (r k : Nat) (deep : Int) : Prop := ∀ G, J8 G r → Wp (R [.ref r, .int deep]) G fun x G' => ∃ li re, x = .tup [li, re] ∧ LiP (SB k) li ∧ ReP (SB k) re ∧ Fr r G G'
def eJ7 (r k : Nat) (G : DH) (x : D) (G' : DH) : Prop := ∃ (ns : List (D × D)) (w : Str) (ts : List Str) (tr : List Bool) (li re : D), x = .tup [.tup (ns.map stD), .tup [.str w, .tup (ts.map D.str)], .tup (tr.map D.bl), li, re] ∧ (∀ p ∈ ns, aK4 p) ∧ ns.length ≤ 100 ∧ (∀ z ∈ ts, z.length ≤ 1000) ∧ ts.length ≤ 100 ∧ tr.length ≤ 100 ∧ LiP (SB k) li ∧ ReP (SB k) re ∧ Fr r G G'
theorem dA6 (h : J8 G r) (hP : cF9 R r k deep) : Wp (aF2 R [.ref r, .int deep]) G (eJ7 r k G) := by
 have bg := big
 refine R3 (show Wp (aV6 R [some (.ref r), some (.int deep), none, none, none]) G _ from ?_)
 refine j7.mpr (M9 (aP9 rfl (by decide) (by decide) (J3 (x := .tup []) rfl (J3 (x := .tup [.tup [.non, .non]]) rfl (m8 (m9 (as := [.ref r, .int 3]) rfl rfl ((bX0 h).mono ?_)))))))
 rintro _ G1 ⟨n1, rfl, hn1, hn2, f1⟩
 refine m6.mpr ⟨sz, f1.2.2, rfl, fun d hd G2 f2 => ?_⟩
 have hd' : ∃ ns : List (D × D), d = .tup (ns.map stD) ∧ (∀ p ∈ ns, aK4 p) ∧ ns.length ≤ 100 := by
  simp only [List.mem_cons, List.not_mem_nil, or_false] at hd
  rcases hd with rfl | rfl | rfl
  · exact ⟨[], rfl, fun p hp => (by cases hp), Nat.zero_le _⟩
  · exact ⟨[(.non, .non)], rfl, fun p hp => (by rw [List.mem_singleton] at hp; subst hp; exact ⟨trivial, trivial, fun a b ea => by cases ea⟩), by decide⟩
  · exact ⟨n1, rfl, hn1, by omega⟩
 obtain ⟨ns, rfl, h1, h2⟩ := hd'
 refine j7.mpr (M9 (aP9 rfl (by decide) (by decide) (J3 (x := .tup [.str "of", .tup []]) rfl (J3 (x := .tup [.str "but", .tup []]) rfl (m8 (m9 (as := [.ref r, .int 3]) rfl rfl ((dX5 f2.2.2).mono ?_)))))))
 rintro _ G3 ⟨w3, t3, rfl, h3, h4, f3⟩
 refine m6.mpr ⟨sz, f3.2.2, rfl, fun d hd G4 f4 => ?_⟩
 have hd' : ∃ (w : Str) (ts : List Str), d = .tup [.str w, .tup (ts.map D.str)] ∧ (∀ z ∈ ts, z.length ≤ 1000) ∧ ts.length ≤ 100 := by
  simp only [List.mem_cons, List.not_mem_nil, or_false] at hd
  rcases hd with rfl | rfl | rfl
  · exact ⟨_, [], rfl, fun p hp => (by cases hp), Nat.zero_le _⟩
  · exact ⟨_, [], rfl, fun p hp => (by cases hp), Nat.zero_le _⟩
  · exact ⟨w3, t3, rfl, h3, h4⟩
 obtain ⟨w, ts, rfl, h3', h4'⟩ := hd'
 refine j7.mpr (M9 (aP9 rfl (by decide) (by decide) (d9 (a := [.tup [], .tup [.bl false], .tup [.bl true], .tup [.bl false, .bl true]]) (G' := G4) rfl ⟨sz, f4.2.2, rfl, fun d hd G5 f5 => ?_⟩)))
 have hd' : ∃ tr : List Bool, d = .tup (tr.map D.bl) ∧ tr.length ≤ 100 := by
  simp only [List.mem_cons, List.not_mem_nil, or_false] at hd
  rcases hd with rfl | rfl | rfl | rfl
  · exact ⟨[], rfl, by decide⟩
  · exact ⟨[false], rfl, by decide⟩
  · exact ⟨[true], rfl, by decide⟩
  · exact ⟨[false, true], rfl, by decide⟩
 obtain ⟨tr, rfl, h5⟩ := hd'
 refine R1 (o6 (d9 (a := .tup [.tup (ns.map stD), .tup [.str w, .tup (ts.map D.str)], .tup (tr.map D.bl)]) rfl (m9 (as := [.ref r, .int deep]) rfl rfl ((hP G5 f5.2.2).mono ?_))))
 rintro _ G6 ⟨li, re, rfl, h6, h7, f6⟩
 exact (dU3 (by show 5 ≤ sizeLine; omega)).mpr ⟨ns, w, ts, tr, li, re, rfl, h1, h2, h3', h4', h5, h6, h7, ((((f1.trans f2).trans f3).trans f4).trans f5).trans f6⟩
theorem dO7 (hk : k ≤ 6) (h : J8 G r) (hP : cF9 R r k deep) : Wp (V4 R [.ref r, .int deep]) G fun x G' => SB (k + 1) x ∧ Fr r G G' := by
 have hlt := h.lt
 obtain ⟨x0, x1, x2, x3, hr, hb1, hb2⟩ := id h
 refine R3 (show Wp (aV7 R [some (.ref r), some (.int deep), none, none, none, none, none, none]) G _ from ?_)
 refine j7.mpr <| aF8.mpr <| o6 <| ixv (G1 := G) rfl rfl hr rfl <| d9 (a := .int 1) rfl <| aD3.mpr <| cN9 (k := 3) rfl rfl hr rfl ?_
 have h2' : J8 (G.set r (.lst [.int x0, .int x1, .int x2, .int (x3 + 1)])) r := ⟨_, _, _, _, List.getElem?_set_self hlt, hb1, hb2⟩
 refine j7.mpr <| M9 <| m9 (as := [.ref r, .int 6]) rfl rfl <| R0 h2' ⟨by decide, by decide⟩ fun kind hk0 hk1 G2 f2 => ?_
 have f12 := (Fr.set h2').trans f2
 refine j7.mpr <| aH2 <| J4 <| Q3 (x := .int kind) (y := .int 2) rfl rfl <| aT4.mpr ⟨_, rfl, fun g => ?_, fun g => ?_⟩
 · refine R1 <| o6 <| aB8.mpr <| J3 (x := .str aH0) rfl <| m8 <| m9 (as := []) rfl rfl <| aG0.mpr <| m6.mpr ⟨sz, d9 (a := .int kind) rfl <| aT3 hk0 (by simpa using g) fun d hd => aD1 ⟨?_, f12.trans (Fr.app f2.2.2)⟩⟩
   simp only [List.mem_cons, List.not_mem_nil, or_false] at hd
   rcases hd with rfl | rfl
   · exact .inl rfl
   · exact aO4
 · refine J2.mpr <| j7.mpr <| aF8.mpr <| m9 (as := [.ref r, .int deep]) rfl rfl <| (dA6 f2.2.2 hP).mono ?_
   rintro _ G3 ⟨ns, w, ts, tr, li, re, rfl, q1, q2, q3, q4, q5, q6, q7, f3⟩
   refine d9 (a := [some (.ref r), some (.int deep), some (.int kind), some (.tup (ns.map stD)), some (.tup [.str w, .tup (ts.map D.str)]), some (.tup (tr.map D.bl)), some li, some re]) rfl ?_
   refine R1 <| m9 (as := [.tup (ns.map stD), .tup [.str w, .tup (ts.map D.str)], .tup (tr.map D.bl), li, re]) rfl rfl <| (cS1 hk q1 q2 q3 q4 q5 q6 q7).mono fun x G4 z => ⟨z.1, (f12.trans f3).trans ?_⟩
   obtain ⟨t, rfl⟩ := z.2
   exact Fr.app f3.2.2
theorem cL7 {r : Nat} : ∀ (n k : Nat) (deep : Int), deep ≤ k + 1 → k < n → k ≤ 6 → cF9 (aA9 n) r k deep
 | 0, k, deep, _, h, _ => by omega
 | n + 1, 0, deep, h0, h1, h2 => fun G h => bM5 h fun g => by omega
 | n + 1, k + 1, deep, h0, h1, h2 => fun G h => bM5 h fun g G1 h1' => dO7 (k := k) (by omega) h1' (cL7 n k (deep - 1) (by omega) (by omega) (by omega))
end
theorem eI5 : aC5 = j8 (o9 (S5 (q14)) (q15 2)) (j8 (aI3 (itW (d7 ixD (c7 1) (cE (.int 0)))) (aG2 2 (J5 (q15 3) (J5 (q15 4) (aI4)))) (j8 QA QB)) (j8 QC QR)) := rfl
def PV (l : List D) : Prop := ∀ y ∈ l, VW 8 1 y
theorem PV.app {l k : List D} (h : PV l) (h' : PV k) : PV (l ++ k) := fun y hy => by
 rcases List.mem_append.mp hy with hy | hy
 · exact h y hy
 · exact h' y hy
theorem PV.one {y : D} (h : VW 8 1 y) : PV [y] := fun x hx => by rw [List.mem_singleton] at hx; subst hx; exact h
theorem dE1 {lo hi : D} (h1 : aW9 lo) (h2 : aW9 hi) : ∃ i t, ([lo, hi, .int 0].filter fun d => !aM0 d) = D.int i :: t := by
 cases lo <;> first
  | exact h1.elim
  | exact ⟨_, _, rfl⟩
  | skip
 cases hi <;> first
  | exact h2.elim
  | exact ⟨_, _, rfl⟩
section
variable {r p : Nat} {s lo hi : D} {u : Option D} {l : List D} {G : DH}
theorem eF3 (hp : p ≠ r) (h : J8 G r) (e : G[p]? = some (.lst l)) (hl : l.length ≤ 1000) (hv : PV l) (h1 : aW9 lo) (h2 : aW9 hi) : Wp (QA [some (.ref r), some s, some (.ref p), some lo, some hi, u]) G fun fl G' => Fr2 r p G G' ∧ ∃ l', fl = .nx [some (.ref r), some s, some (.ref p), some lo, some hi, u] ∧ G'[p]? = some (.lst l') ∧ PV l' ∧ l'.length = l.length + 1 := by
 have bg := big
 have hc : K4 (q15 0) (o5 (d7 aN6 (c7 0) (cE .non))) (c7 0) (ckO G.length (.lst [lo, hi, .int 0])) [lo, hi, .int 0] (U6 [none] [some (.ref r), some s, some (.ref p), some lo, some hi, u]) (G ++ [.lst [lo, hi, .int 0]]) = some (.ok ([lo, hi, .int 0].filter fun d => !aM0 d), G ++ [.lst [lo, hi, .int 0]]) := by
  refine aA3 (by simp [ckO]) (fun σ => σ.length = 1) _ _ rfl fun d hd σ hσ => ?_
  match σ, hσ with
  | [v], _ =>
    refine ⟨[some d], rfl, rfl, aH9 ?_, rfl⟩
    exact J4 <| Q3 (x := d) (y := .non) rfl rfl <| bG0.mpr ⟨_, rfl, rfl, rfl⟩
 obtain ⟨i, t, et⟩ := dE1 h1 h2
 rw [et] at hc
 have f1 : Fr r G (G ++ [.lst [lo, hi, .int 0]] ++ [.lst (.int i :: t)]) := (Fr.app h).trans (Fr.app (Fr.app h).2.2)
 have e1 := f1.at hp e
 refine aY1.mpr <| bJ3.mpr <| d9 (a := .ref p) rfl <| (aK0 e).mpr <| m8 <| o6 <| wp_comp.mpr <| wp_itW.mpr <| aB8.mpr <| d9 (a := [lo, hi, .int 0]) rfl ⟨sz, (aG6 j9).mpr ⟨sz, d9 hc <| d9 (a := .int 0) rfl <| (bB6 j9).mpr ⟨.int i, atI_nat (k := 0) rfl, m6.mpr <| (aJ6 e1 (by omega)).mpr ?_⟩⟩⟩
 exact ⟨f1.two.trans (Fr2.set hp f1.2.2), l ++ [.int i], rfl, List.getElem?_set_self (lt_of_get e1), hv.app (PV.one VW.i), List.length_append⟩
theorem eD0 (hp : p ≠ r) (h : J8 G r) (e : G[p]? = some (.lst l)) (hl : l.length ≤ 1000) (hv : PV l) (hr : aK4 (lo, hi)) : Wp (QB [some (.ref r), some s, some (.ref p), some lo, some hi, u]) G fun fl G' => Fr2 r p G G' ∧ ∃ l', fl = .nx [some (.ref r), some s, some (.ref p), some lo, some hi, u] ∧ G'[p]? = some (.lst l') ∧ PV l' ∧ l'.length ≤ l.length + 1 := by
 have bg := big
 have h1 := hr.1
 have h2 := hr.2.1
 cases lo <;> first
  | exact h1.elim
  | skip
 · exact d9 rfl ⟨(Fr.refl h).two, l, rfl, e, hv, by omega⟩
 · rename_i x
   cases hi <;> first
    | exact h2.elim
    | skip
   · exact d9 rfl ⟨(Fr.refl h).two, l, rfl, e, hv, by omega⟩
   · rename_i y
     have hxy := hr.2.2 x y rfl rfl
     refine aZ3 (G1 := G) rfl <| aY1.mpr <| bJ3.mpr <| d9 (a := .ref p) rfl <| (aK0 e).mpr <| m8 <| o6 <| d9 (a := .int x) rfl <| m9 (as := [.ref r, .int (y - x + 1)]) rfl rfl <| R0 h ⟨by omega, by omega⟩ fun j hj0 hj1 G1 f1 => aD3.mpr <| m6.mpr <| (aJ6 (f1.at hp e) (by omega)).mpr ?_
     exact ⟨f1.two.trans (Fr2.set hp f1.2.2), l ++ [.int (x + j)], rfl, List.getElem?_set_self (lt_of_get (f1.at hp e)), hv.app (PV.one VW.i), by simp⟩
theorem cW9 (hp : p ≠ r) : ∀ (ns : List (D × D)) (a b : Option D) (l : List D) (G : DH), J8 G r → G[p]? = some (.lst l) → l.length + 2 * ns.length ≤ 900 → PV l → (∀ q ∈ ns, aK4 q) →
 Wp (aC0 (aG2 2 (J5 (q15 3) (J5 (q15 4) (aI4)))) (j8 QA QB) (fun _ => true) (ns.map stD) [some (.ref r), some s, some (.ref p), a, b, u]) G fun fl G' => Fr2 r p G G' ∧ ∃ a' b' l', fl = .nx [some (.ref r), some s, some (.ref p), a', b', u] ∧ G'[p]? = some (.lst l') ∧ PV l' ∧ l'.length ≤ l.length + 2 * ns.length
 | [], a, b, l, G, h, e, hl, hv, hr => by
   rw [List.map_nil, aB4]
   exact ⟨rfl, (Fr.refl h).two, a, b, l, rfl, e, hv, by simp⟩
 | q :: t, a, b, l, G, h, e, hl, hv, hr => by
   simp only [List.length_cons] at hl
   rw [List.map_cons, aB3]
   refine ⟨rfl, ?_⟩
   have hq := hr q (by simp)
   refine d9 (a := [some (.ref r), some s, some (.ref p), some q.1, some q.2, u]) rfl <| j7.mpr <| (eF3 hp h e (by omega) hv hq.1 hq.2.1).mono ?_
   rintro _ G1 ⟨f1, l1, rfl, q1, q2, q3⟩
   refine (eD0 hp f1.2.2 q1 (by omega) q2 hq).mono ?_
   rintro _ G2 ⟨f2, l2, rfl, q4, q5, q6⟩
   refine (cW9 hp t _ _ l2 G2 f2.2.2 q4 (by omega) q5 fun x hx => hr x (List.mem_cons_of_mem _ hx)).mono ?_
   rintro _ G3 ⟨f3, a', b', l', p1, p2, p3, p4⟩
   exact ⟨(f1.trans f2).trans f3, a', b', l', p1, p2, p3, by simp only [List.length_cons]; omega⟩
theorem dO6 {ts : List Str} (h : ∀ z ∈ ts, z.length ≤ 1000) : PV (ts.map D.str) := fun y hy => by
 obtain ⟨z, hz, rfl⟩ := List.mem_map.mp hy
 exact VW.s (by have := h z hz; omega)
theorem dW6 {ns : List (D × D)} {w : Str} {ts : List Str} {tr : List Bool} {li re : D} {a b : Option D} (hp : p ≠ r) (h : J8 G r) (e : G[p]? = some (.lst l)) (hl : l.length ≤ 500) (hv : PV l) (ht : ∀ z ∈ ts, z.length ≤ 1000) (htl : ts.length ≤ 100) : Wp (QC [some (.ref r), some (mkS ns w ts tr li re), some (.ref p), a, b, none]) G fun fl G' => Fr r G G' ∧ ∃ q l' v, fl = .nx [some (.ref r), some (mkS ns w ts tr li re), some (.ref q), a, b, v] ∧ q ≠ r ∧ G'[q]? = some (.lst l') ∧ PV l' ∧ l'.length ≤ l.length + 100 := by
 have bg := big
 have hrl := h.lt
 refine aH2 <| J4 <| Q3 (x := .str w) (y := .str "of") rfl rfl <| cH0.mpr ⟨_, rfl, fun _ => ?_, fun _ => ?_⟩
 · refine M9 <| o6 <| d9 (a := .ref p) rfl <| aP7 (as := [.tup (ts.map D.str)]) rfl <| bZ7.mpr <| (aS9 (Q0 e) j9 (by rw [List.length_map]; omega)).mpr ⟨(Fr.app h).trans (Fr.app (Fr.app h).2.2), _, _, _, rfl, ?_, j9, hv.app (dO6 ht), by rw [List.length_append, List.length_map]; omega⟩
   simp only [List.length_append]; omega
 · refine j7.mpr <| M9 <| aB8.mpr <| J3 (x := .str "") rfl <| J3 (x := .str "a") rfl <| J3 (x := .str "zq") rfl <| m8 <| m9 (as := [.ref r, .int 5, .int 20]) rfl rfl <| (aW0 h (by decide) (by decide) (by decide)).mono ?_
   rintro _ G1 ⟨z, rfl, hz, f1⟩
   have e1 := f1.at hp e
   have hrl1 := f1.2.2.lt
   have f2 : Fr r G1 (G1 ++ [.lst [.str "", .str "a", .str "zq", .str z]]) := Fr.app f1.2.2
   have hc : ∃ ys, K4 (q15 0) (o5 (d7 aF3 (c7 0) (d7 ixD (d7 ixD (c7 1) (cE (.int 1))) (cE (.int 1))))) (c7 0) (ckO G1.length (.lst [.str "", .str "a", .str "zq", .str z])) [.str "", .str "a", .str "zq", .str z] (U6 [none, some 1] [some (.ref r), some (mkS ns w ts tr li re), some (.ref p), a, b, some (.ref G1.length)]) (G1 ++ [.lst [.str "", .str "a", .str "zq", .str z]]) = some (.ok ys, G1 ++ [.lst [.str "", .str "a", .str "zq", .str z]]) ∧ ys.Sublist [.str "", .str "a", .str "zq", .str z] := by
    refine ⟨_, aA3 (p := fun d => !inV (toV d) ((ts.map D.str).map toV)) (by simp [ckO]) (fun σ => ∃ u, σ = [u, some (mkS ns w ts tr li re)]) _ _ ⟨none, rfl⟩ fun d hd σ hσ => ?_, List.filter_sublist⟩
    obtain ⟨u, rfl⟩ := hσ
    have hd' : ∃ y : Str, d = .str y := by
     simp only [List.mem_cons, List.not_mem_nil, or_false] at hd
     rcases hd with rfl | rfl | rfl | rfl <;> exact ⟨_, rfl⟩
    obtain ⟨y, rfl⟩ := hd'
    refine ⟨[some (.str y), some (mkS ns w ts tr li re)], rfl, ⟨_, rfl⟩, aH9 ?_, rfl⟩
    refine J4 <| Q3 (x := .str y) (y := .tup (ts.map D.str)) rfl rfl <| aM5.mpr ⟨inV (toV (.str y)) ((ts.map D.str).map toV), ?_, _, rfl, rfl, rfl⟩
    show (if (S8 (.str y) && (ts.map D.str).all S8) = true then some (inV (toV (.str y)) ((ts.map D.str).map toV)) else none) = _
    rw [bV8, if_pos (show (S8 (D.str y) && true) = true from rfl)]
   obtain ⟨ys, hc, hs⟩ := hc
   have hys := hs.length_le
   simp only [List.length_cons, List.length_nil] at hys
   refine m6.mpr ⟨sz, M9 <| o6 <| d9 (a := .ref p) rfl <| wp_comp.mpr <| wp_itW.mpr <| d9 (a := .ref G1.length) rfl <| (aG6 j9).mpr ⟨sz, d9 hc <| (aS9 (Q0 (Q0 e1)) j9 (by omega)).mpr ⟨f1.trans ((f2.trans (Fr.app f2.2.2)).trans (Fr.app (Fr.app f2.2.2).2.2)), _, _, _, rfl, ?_, j9, hv.app fun y hy => ?_, by rw [List.length_append]; omega⟩⟩⟩
   · simp only [List.length_append]; omega
   · have hy' := hs.subset hy
     simp only [List.mem_cons, List.not_mem_nil, or_false] at hy'
     rcases hy' with rfl | rfl | rfl | rfl
     all_goals first
      | exact VW.s (Nat.le_trans (show _ ≤ 1000 by decide) (by omega))
      | exact VW.s (by omega)
theorem cW1 {ns : List (D × D)} {w : Str} {ts : List Str} {tr : List Bool} {li re : D} (h : J8 G r) (h1 : ∀ p ∈ ns, aK4 p) (h2 : ns.length ≤ 100) (ht : ∀ z ∈ ts, z.length ≤ 1000) (htl : ts.length ≤ 100) (h5 : tr.length ≤ 100) : Wp (S7 [.ref r, mkS ns w ts tr li re]) G fun x G' => ∃ q l, x = .ref q ∧ q ≠ r ∧ G'[q]? = some (.lst l) ∧ PV l ∧ l.length ≤ 500 ∧ Fr r G G' := by
 have bg := big
 have hp : G.length ≠ r := by have := h.lt; omega
 have f1 : Fr r G (G ++ [.lst []]) := Fr.app h
 refine R3 (show Wp (aC5 [some (.ref r), some (mkS ns w ts tr li re), none, none, none, none]) G _ from ?_)
 rw [eI5]
 refine o7 (σ' := [some (.ref r), some (mkS ns w ts tr li re), some (.ref G.length), none, none, none]) (G' := G ++ [.lst []]) rfl <| j7.mpr <| aF5.mpr <| wp_itW.mpr <| d9 (a := .tup (ns.map stD)) rfl <| srcW_tup.mpr <| (cW9 hp ns none none [] _ f1.2.2 j9 (by simp; omega) (fun y hy => by cases hy) h1).mono ?_
 rintro _ G2 ⟨f2, a', b', l', rfl, p2, p3, p4⟩
 simp only [List.length_nil] at p4
 refine j7.mpr <| (dW6 hp f2.2.2 p2 (by omega) p3 ht htl).mono ?_
 rintro _ G3 ⟨f3, q, l3, v, rfl, q2, q3, q4, q5⟩
 have h3 := f3.2.2.lt
 have fb : Fr r G G2 := f2.back f1 (Nat.le_refl _)
 refine R1 <| o6 <| d9 (a := .ref q) rfl <| aP7 (as := [.tup (tr.map D.bl)]) rfl <| bZ7.mpr <| (aS9 (Q0 q3) j9 (by rw [List.length_map]; omega)).mpr <| aD1 ⟨_, _, rfl, ?_, j9, q4.app fun y hy => ?_, by rw [List.length_append, List.length_map]; omega, (fb.trans f3).trans ((Fr.app f3.2.2).trans (Fr.app (Fr.app f3.2.2).2.2))⟩
 · simp only [List.length_append]; omega
 · obtain ⟨c, _, rfl⟩ := List.mem_map.mp hy
   exact VW.bl
end
def Way (li re x : D) : Prop := (∃ v, x = .tup [.str ("plain" : Str), v] ∧ VW 8 1 v) ∨ (x = .str V3 ∧ li ≠ .non) ∨ (x = .str aB9 ∧ re ≠ .non)
section
variable {r : Nat} {ns : List (D × D)} {w : Str} {ts : List Str} {tr : List Bool} {li re : D} {G : DH}
theorem eA1 {u3 u4 u5 u6 u7 u8 u9 u10 : Option D} (h : J8 G r) (h1 : ∀ p ∈ ns, aK4 p) (h2 : ns.length ≤ 100) (ht : ∀ z ∈ ts, z.length ≤ 1000) (htl : ts.length ≤ 100) (h5 : tr.length ≤ 100) :
 Wp (O2 [some (.ref r), some (mkS ns w ts tr li re), none, u3, u4, u5, u6, u7, u8, u9, u10]) G fun fl G' => Fr r G G' ∧ ∃ q l, fl = .nx [some (.ref r), some (mkS ns w ts tr li re), some (.ref q), u3, u4, u5, u6, u7, u8, u9, u10] ∧ q ≠ r ∧ G'[q]? = some (.lst l) ∧ (∀ x ∈ l, Way li re x) ∧ l.length ≤ 500 := by
 have bg := big
 refine M9 <| wp_comp.mpr <| wp_itW.mpr <| m9 (as := [.ref r, mkS ns w ts tr li re]) rfl rfl <| (cW1 h h1 h2 ht htl h5).mono ?_
 rintro _ G1 ⟨q, l, rfl, hq, eq, pv, hl, f1⟩
 have hc : K4 (q15 0) V2 (t6 (q13 (cE (.str ("plain" : Str))) (q13 (c7 0) q14))) (ckO q (.lst l)) l (U6 [none] [some (.ref r), some (mkS ns w ts tr li re), none, u3, u4, u5, u6, u7, u8, u9, u10]) G1 = some (.ok (l.map fun d => .tup [.str ("plain" : Str), d]), G1) := by
  refine aA2 (I := fun σ => σ.length = 1) (by simp [ckO, eq]) _ _ rfl fun d hd σ hσ => ?_
  match σ, hσ with
  | [v], _ =>
    exact ⟨[some d], rfl, rfl, rfl, rfl⟩
 have h1' := f1.2.2.lt
 refine (aG6 eq).mpr ⟨by show l.length ≤ _; omega, d9 hc ⟨f1.trans (Fr.app f1.2.2), _, _, rfl, by omega, j9, fun x hx => ?_, by rw [List.length_map]; exact hl⟩⟩
 obtain ⟨d, hd, rfl⟩ := List.mem_map.mp hx
 exact .inl ⟨d, rfl, pv d hd⟩
theorem rep2 {z : Str} {b : Bool} : (List.replicate (Int.toNat (if b = true then 1 else 0)) [D.str z, .str z]).flatten = if b = true then [D.str z, .str z] else [] := by cases b <;> rfl
theorem eF5 {q : Nat} {l : List D} {u3 u4 u5 u6 u7 u8 u9 u10 : Option D} (h : J8 G r) (e : G[q]? = some (.lst l)) (hw : ∀ x ∈ l, Way li re x) (hl : l.length ≤ 502) :
 Wp (O3 [some (.ref r), some (mkS ns w ts tr li re), some (.ref q), u3, u4, u5, u6, u7, u8, u9, u10]) G fun fl G' => Fr r G G' ∧ ∃ q l', fl = .nx [some (.ref r), some (mkS ns w ts tr li re), some (.ref q), u3, u4, u5, u6, u7, u8, u9, u10] ∧ q ≠ r ∧ G'[q]? = some (.lst l') ∧ (∀ x ∈ l', Way li re x) ∧ l'.length ≤ l.length + 2 := by
 have bg := big
 refine M9 <| o6 <| d9 (a := .ref q) (G' := G) rfl <| o6 <| d9 (a := .ref G.length) (G' := G ++ [.lst [.str V3, .str V3]]) rfl <| P0 <| m8 <| Q3 (x := li) (y := .non) rfl rfl <| bG0.mpr <| m6.mpr <| bT6.mpr <| (cB9 j9 (by cases aM0 li <;> simp)).mpr ?_
 rw [rep2]
 refine V1.mpr <| (aS9 (Q0 (Q0 e)) j9 (by split <;> simp <;> omega)).mpr ?_
 have h1' := h.lt
 refine ⟨((Fr.app h).trans (Fr.app (Fr.app h).2.2)).trans (Fr.app (Fr.app (Fr.app h).2.2).2.2), _, _, rfl, by simp only [List.length_append]; omega, j9, fun x hx => ?_, by rw [List.length_append]; split <;> simp⟩
 rcases List.mem_append.mp hx with hx | hx
 · exact hw x hx
 · cases hn : aM0 li with
   | true => rw [hn] at hx; simp at hx
   | false =>
     rw [hn] at hx
     simp at hx
     exact .inr (.inl ⟨hx, fun z => by rw [z] at hn; cases hn⟩)
theorem dY2 {q : Nat} {l : List D} {u3 u4 u5 u6 u7 u8 u9 u10 : Option D} (h : J8 G r) (e : G[q]? = some (.lst l)) (hw : ∀ x ∈ l, Way li re x) (hl : l.length ≤ 502) :
 Wp (O4 [some (.ref r), some (mkS ns w ts tr li re), some (.ref q), u3, u4, u5, u6, u7, u8, u9, u10]) G fun fl G' => Fr r G G' ∧ ∃ q l', fl = .nx [some (.ref r), some (mkS ns w ts tr li re), some (.ref q), u3, u4, u5, u6, u7, u8, u9, u10] ∧ q ≠ r ∧ G'[q]? = some (.lst l') ∧ (∀ x ∈ l', Way li re x) ∧ l'.length ≤ l.length + 2 := by
 have bg := big
 refine M9 <| o6 <| d9 (a := .ref q) (G' := G) rfl <| o6 <| d9 (a := .ref G.length) (G' := G ++ [.lst [.str aB9, .str aB9]]) rfl <| P0 <| m8 <| Q3 (x := re) (y := .non) rfl rfl <| bG0.mpr <| m6.mpr <| bT6.mpr <| (cB9 j9 (by cases aM0 re <;> simp)).mpr ?_
 rw [rep2]
 refine V1.mpr <| (aS9 (Q0 (Q0 e)) j9 (by split <;> simp <;> omega)).mpr ?_
 have h1' := h.lt
 refine ⟨((Fr.app h).trans (Fr.app (Fr.app h).2.2)).trans (Fr.app (Fr.app (Fr.app h).2.2).2.2), _, _, rfl, by simp only [List.length_append]; omega, j9, fun x hx => ?_, by rw [List.length_append]; split <;> simp⟩
 rcases List.mem_append.mp hx with hx | hx
 · exact hw x hx
 · cases hn : aM0 re with
   | true => rw [hn] at hx; simp at hx
   | false =>
     rw [hn] at hx
     simp at hx
     exact .inr (.inr ⟨hx, fun z => by rw [z] at hn; cases hn⟩)
end
section
variable {R : List D → M D} {r k : Nat} {ns : List (D × D)} {w : Str} {ts : List Str} {tr : List Bool} {li re : D} {G : DH}
def bL5 (R : List D → M D) (r k : Nat) : Prop := ∀ s G, J8 G r → SB k s → Wp (R [.ref r, s]) G fun x G' => VW 110 (k + 2) x ∧ Fr r G G'
theorem dH2 {fs : List D} {m : D} {u2 u6 u7 u8 u9 u10 : Option D} (hk : k ≤ 7) (h : J8 G r) (hR : bL5 R r k) (hf : fs.length ≤ 100) (hfs : ∀ x ∈ fs, SB k x) (hm : SB k m) :
 Wp (O7 R [some (.ref r), some (mkS ns w ts tr (.tup [.tup fs, m]) re), u2, some (.str V3), none, none, u6, u7, u8, u9, u10]) G fun fl G' => Fr r G G' ∧ ∃ x, fl = .rt x ∧ VW 110 (k + 3) x := by
 have bg := big
 refine aZ3 (G1 := G) rfl <| j7.mpr <| M9 <| o6 <| m9 (as := [.ref r, .int 3]) rfl rfl <| R0 h ⟨by decide, by decide⟩ fun j hj0 hj1 G1 f1 => ?_
 refine P0 <| m8 <| o6 <| d9 (a := m) (G' := G1) rfl <| m9 (as := []) rfl rfl <| aG0.mpr <| bR1 (n := 4 * (k + 1)) (by omega) (Z5 (by omega) hm.data) (Z5 (by omega) (aO4 (n := 0)).data) fun c => m6.mpr <| bT6.mpr <| cZ4.mpr <| (aT0 (Or.inl ⟨by omega, by omega⟩)).mpr ?_
 obtain ⟨j', hj', hj2⟩ : ∃ j' : Nat, j' ≤ 2 ∧ (j * (if c = true then 1 else 0) = (j' : Int)) := ⟨(j * (if c = true then 1 else 0)).toNat, by cases c <;> simp <;> omega, by cases c <;> simp <;> omega⟩
 rw [hj2]
 refine j7.mpr <| M9 <| o6 <| d9 (a := .tup fs) rfl <| Q3 (x := .tup [m]) (y := .int j') rfl rfl <| (bY6 ⟨by omega, by omega, by show 1 ≤ 1000; omega⟩).mpr ?_
 rw [Int.toNat_natCast, List.flatten_replicate_singleton]
 refine (dU3 (by rw [List.length_replicate]; omega)).mpr ?_
 have hd : ∀ x ∈ fs ++ List.replicate j' m, SB k x := fun x hx => by
  rcases List.mem_append.mp hx with hx | hx
  · exact hfs x hx
  · rw [(List.mem_replicate.mp hx).2]; exact hm
 have hdl : (fs ++ List.replicate j' m).length ≤ 102 := by simp; omega
 generalize fs ++ List.replicate j' m = ds at hd hdl
 refine R1 <| U5.mpr <| J3 (x := .str V3) rfl <| m8 <| P0 <| m8 <| Z9 (l := ds) rfl (by omega) ?_
 refine (aS6 (Fr r G) (fun σ => ∃ v, σ = [v, some (.ref r)]) (fun y => VW 110 (k + 2) y) (fun _ _ => rfl) ds _ G1 ⟨none, rfl⟩ f1 fun x hx σ G3 hσ f3 => ?_).mono fun ys G3 z => ?_
 · obtain ⟨v, rfl⟩ := hσ
   exact aY9 ⟨_, rfl⟩ <| m9 (as := [.ref r, x]) rfl rfl <| (hR x G3 f3.2.2 (hd x hx)).mono fun y G4 q => ⟨f3.trans q.2, q.1⟩
 · exact m6.mpr <| (aA1 j9).mpr <| m6.mpr ⟨sz, z.1.trans (Fr.app z.1.2.2), _, rfl, VW.l (by rw [z.2.1]; omega) z.2.2⟩
def Pr (k : Nat) (ps : List (Str × D)) : Prop := (ps.map (·.1)).Nodup ∧ ∀ p ∈ ps, p.1.length ≤ 1000 ∧ VW 110 k p.2
noncomputable def dB0 (ps : List (Str × D)) (z : Str) (v : D) : List (Str × D) := if ps.any (fun p => decide (p.1 = z)) then ps.map (fun p => if p.1 = z then (z, v) else p) else ps ++ [(z, v)]
theorem cZ2 (ps : List (Str × D)) (z : Str) (v : D) : aL4 (ps.map kv) (.inr z) v = (dB0 ps z v).map kv := by
 have ha : ((ps.map kv).any fun kv => decide (kv.1 = .inr z)) = ps.any fun p => decide (p.1 = z) := by
  rw [List.any_map]
  congr 1
  funext p
  show decide ((Sum.inr p.1 : Key) = .inr z) = decide (p.1 = z)
  simp
 unfold aL4 dB0
 rw [ha]
 split
 · rw [List.map_map, List.map_map]
   refine List.map_congr_left fun p _ => ?_
   show (if (kv p).1 = .inr z then ((kv p).1, v) else kv p) = kv (if p.1 = z then (z, v) else p)
   by_cases c : p.1 = z
   · rw [if_pos c, if_pos (by show (Sum.inr p.1 : Key) = .inr z; rw [c])]
     show ((Sum.inr p.1 : Key), v) = (.inr z, v)
     rw [c]
   · rw [if_neg c, if_neg (show ¬ (kv p).1 = .inr z from fun e => c (Sum.inr.inj e))]
 · rw [List.map_append]; rfl
theorem Pr.put {k : Nat} {ps : List (Str × D)} {z : Str} {v : D} (h : Pr k ps) (hz : z.length ≤ 1000) (hv : VW 110 k v) : Pr k (dB0 ps z v) ∧ (dB0 ps z v).length ≤ ps.length + 1 := by
 unfold dB0
 split
 · rename_i c
   refine ⟨⟨?_, fun p hp => ?_⟩, by simp⟩
   · have e : (ps.map fun p => if p.1 = z then (z, v) else p).map (·.1) = ps.map (·.1) := by
      rw [List.map_map]
      refine List.map_congr_left fun p _ => ?_
      show (if p.1 = z then (z, v) else p).1 = p.1
      split
      · rename_i c; exact c.symm
      · rfl
     rw [e]; exact h.1
   · obtain ⟨q, hq, rfl⟩ := List.mem_map.mp hp
     split
     · exact ⟨hz, hv⟩
     · exact h.2 q hq
 · rename_i c
   refine ⟨⟨?_, fun p hp => ?_⟩, by simp⟩
   · rw [List.map_append]
     refine List.nodup_append.mpr ⟨h.1, by simp, fun a ha b hb e => ?_⟩
     simp at hb
     subst hb e
     obtain ⟨p, hp, rfl⟩ := List.mem_map.mp ha
     exact c (List.any_eq_true.mpr ⟨p, hp, by simp⟩)
   · rcases List.mem_append.mp hp with hp | hp
     · exact h.2 p hp
     · rw [List.mem_singleton] at hp
       subst hp
       exact ⟨hz, hv⟩
end
section
variable {R : List D → M D} {r k q : Nat} {s m : D} {fs : List (Str × Bool × D)} {G : DH} {u2 u3 u5 u9 u10 : Option D}
theorem cD2 : (fs.map fun f => D.str f.1).all S8 = true := by rw [List.all_map]; exact List.all_eq_true.mpr fun _ _ => rfl
theorem dO8 {z : Str} {ps : List (Str × D)} (hk : k ≤ 7) (hq : q ≠ r) (h : J8 G r) (hR : bL5 R r k) (hm : SB k m) (hf : fs.length ≤ 100) (e : G[q]? = some (.dct (ps.map kv))) (hp : Pr (k + 2) ps) (hz : z.length ≤ 1000) (hl : ps.length ≤ 100) :
 Wp (OBb R [some (.ref r), some s, u2, u3, some m, u5, some (.tup (fs.map fdD)), some (.ref q), some (.str z), u9, u10]) G fun fl G' => Fr2 r q G G' ∧ ∃ ps', fl = .nx [some (.ref r), some s, u2, u3, some m, u5, some (.tup (fs.map fdD)), some (.ref q), some (.str z), u9, u10] ∧ G'[q]? = some (.dct (ps'.map kv)) ∧ Pr (k + 2) ps' ∧ ps'.length ≤ ps.length + 1 := by
 have bg := big
 refine aH2 <| aK6 <| J4 <| o6 <| d9 (a := m) (G' := G) rfl <| m9 (as := []) rfl rfl <| aG0.mpr <| bR1 (n := 4 * (k + 1)) (by omega) (Z5 (by omega) hm.data) (Z5 (by omega) (aO4 (n := 0)).data) fun c => ⟨_, rfl, fun _ => ?_, fun _ => ⟨fun z => (nomatch z), fun _ => J2.mpr ⟨(Fr.refl h).two, ps, rfl, e, hp, by omega⟩⟩⟩
 · skip
   have hc : K4 (q15 0) V2 (d7 ixD (c7 0) (cE (.int 0))) (fun _ => true) (fs.map fdD) (U6 [none] [some (.ref r), some s, u2, u3, some m, u5, some (.tup (fs.map fdD)), some (.ref q), some (.str z), u9, u10]) G = some (.ok ((fs.map fdD).map fun d => match d with | .tup [a, b, c] => a | _ => .non), G) := by
    refine aA2 (I := fun σ => σ.length = 1) rfl _ _ rfl fun d hd σ hσ => ?_
    obtain ⟨f, hf, rfl⟩ := List.mem_map.mp hd
    match σ, hσ with
    | [v], _ =>
      refine ⟨[some (fdD f)], rfl, rfl, rfl, aH9 ?_⟩
      exact Q3 (x := fdD f) (y := .int 0) rfl rfl <| (ix_tup (l := [D.str f.1, .bl f.2.1, f.2.2]) (i := 0)).mpr ⟨_, rfl, rfl, rfl⟩
   have em : ((fs.map fdD).map fun d => match d with | .tup [a, b, c] => a | _ => D.non) = fs.map fun f => D.str f.1 := by rw [List.map_map]; rfl
   rw [em] at hc
   have hin : inB (.str z) (.ref G.length) (G ++ [DO.lst (fs.map fun f => D.str f.1)]) = some (inV (toV (.str z)) ((fs.map fun f => D.str f.1).map toV)) := by
    have e0 := j9 (G := G) (o := DO.lst (fs.map fun f => D.str f.1))
    unfold inB
    simp only [e0]
    rw [cD2, if_pos (show (S8 (D.str z) && true) = true from rfl)]
   have f1 : Fr r G (G ++ [DO.lst (fs.map fun f => D.str f.1)]) := Fr.app h
   have e1 := f1.at hq e
   refine J4 <| o6 <| d9 (a := .str z) rfl <| Z9 (l := fs.map fdD) rfl (by rw [List.length_map]; omega) <| d9 hc <| aM5.mpr ⟨_, hin, _, rfl, fun _ => ?_, fun _ => J2.mpr ⟨f1.two, ps, rfl, e1, hp, by omega⟩⟩
   refine aF8.mpr <| m9 (as := [.ref r, m]) rfl rfl <| (hR m _ f1.2.2 hm).mono ?_
   rintro x G2 ⟨hx, f2⟩
   have e2 := f2.at hq e1
   have hpp := hp.put hz hx
   refine bF3.mpr <| d9 (a := .ref q) rfl <| d9 (a := .str z) rfl <| (bF1 e2 (by rw [List.length_map]; omega)).mpr ?_
   rw [cZ2]
   exact ⟨(f1.trans f2).two.trans (Fr2.set hq f2.2.2), _, rfl, List.getElem?_set_self (lt_of_get e2), hpp.1, hpp.2⟩
theorem cJ3 {p : Nat} {ds : List D} (hk : k ≤ 7) (hq : q ≠ r) (hp2 : p ≠ r ∧ p ≠ q) (hR : bL5 R r k) (hm : SB k m) (hf : fs.length ≤ 100) : ∀ (zs : List Str) (u : Option D) (ps : List (Str × D)) (G : DH), J8 G r → G[p]? = some (.lst ds) → G[q]? = some (.dct (ps.map kv)) → Pr (k + 2) ps → (∀ z ∈ zs, z.length ≤ 1000) → ps.length + zs.length ≤ 90 →
 Wp (aC0 (q15 8) (OBb R) (ckO p (.lst ds)) (zs.map D.str) [some (.ref r), some s, u2, u3, some m, u5, some (.tup (fs.map fdD)), some (.ref q), u, u9, u10]) G fun fl G' => Fr2 r q G G' ∧ ∃ u' ps', fl = .nx [some (.ref r), some s, u2, u3, some m, u5, some (.tup (fs.map fdD)), some (.ref q), u', u9, u10] ∧ G'[q]? = some (.dct (ps'.map kv)) ∧ Pr (k + 2) ps' ∧ ps'.length ≤ ps.length + zs.length
 | [], u, ps, G, h, ep, e, hp, hz, hl => by
   rw [List.map_nil, aB4]
   exact ⟨by simp [ckO, ep], (Fr.refl h).two, u, ps, rfl, e, hp, by simp⟩
 | z :: t, u, ps, G, h, ep, e, hp, hz, hl => by
   simp only [List.length_cons] at hl
   rw [List.map_cons, aB3, V9]
   refine ⟨by simp [ckO, ep], ?_⟩
   simp only [List.set_cons_succ, List.set_cons_zero]
   refine Wp.mono (dO8 hk hq h hR hm hf e hp (hz z (by simp)) (by omega)) fun fl G1 ⟨f1, ps1, q1, q2, q3, q4⟩ => ?_
   subst q1
   exact Wp.mono (cJ3 hk hq hp2 hR hm hf t _ ps1 G1 f1.2.2 (by rw [f1.2.1 p hp2.1 hp2.2 (lt_of_get ep)]; exact ep) q2 q3 (fun x hx => hz x (by simp [hx])) (by omega)) fun fl G2 ⟨f2, u', ps', p1, p2, p3, p4⟩ => ⟨f1.trans f2, u', ps', p1, p2, p3, by simp only [List.length_cons]; omega⟩
end
section
variable {R : List D → M D} {r k q : Nat} {s : D} {G : DH} {u2 u3 u4 u5 u6 : Option D}
theorem dP7 {f : Str × Bool × D} {ps : List (Str × D)} (hk : k ≤ 7) (hq : q ≠ r) (h : J8 G r) (hR : bL5 R r k) (hf : f.1.length ≤ 1000 ∧ SB k f.2.2) (e : G[q]? = some (.dct (ps.map kv))) (hp : Pr (k + 2) ps) (hl : ps.length ≤ 100) :
 Wp (OCb R [some (.ref r), some s, u2, u3, u4, u5, u6, some (.ref q), some (.str f.1), some (.bl f.2.1), some f.2.2]) G fun fl G' => Fr2 r q G G' ∧ ∃ ps', fl = .nx [some (.ref r), some s, u2, u3, u4, u5, u6, some (.ref q), some (.str f.1), some (.bl f.2.1), some f.2.2] ∧ G'[q]? = some (.dct (ps'.map kv)) ∧ Pr (k + 2) ps' ∧ ps'.length ≤ ps.length + 1 := by
 have bg := big
 have go : ∀ G1, Fr r G G1 → Wp (o9 (q16 (fnX 2 R) (q13 (c7 0) (q13 (c7 10) (q14)))) (aR1 (c7 7) (c7 8)) [some (.ref r), some s, u2, u3, u4, u5, u6, some (.ref q), some (.str f.1), some (.bl f.2.1), some f.2.2]) G1 fun fl G' => Fr2 r q G G' ∧ ∃ ps', fl = .nx [some (.ref r), some s, u2, u3, u4, u5, u6, some (.ref q), some (.str f.1), some (.bl f.2.1), some f.2.2] ∧ G'[q]? = some (.dct (ps'.map kv)) ∧ Pr (k + 2) ps' ∧ ps'.length ≤ ps.length + 1 := fun G1 f1 => by
  refine aF8.mpr <| m9 (as := [.ref r, f.2.2]) rfl rfl <| (hR f.2.2 G1 f1.2.2 hf.2).mono ?_
  rintro x G2 ⟨hx, f2⟩
  have e2 := (f1.trans f2).at hq e
  have hpp := hp.put hf.1 hx
  refine bF3.mpr <| d9 (a := .ref q) rfl <| d9 (a := .str f.1) rfl <| (bF1 e2 (by rw [List.length_map]; omega)).mpr ?_
  rw [cZ2]
  exact ⟨(f1.trans f2).two.trans (Fr2.set hq f2.2.2), _, rfl, List.getElem?_set_self (lt_of_get e2), hpp.1, hpp.2⟩
 refine aH2 <| cD9 <| d9 (a := f.2.1) (G' := G) rfl ⟨fun _ => ⟨fun _ => go G (Fr.refl h), fun z => (nomatch z)⟩, fun _ => ?_⟩
 refine aK6 <| J4 <| o6 <| d9 (a := f.2.2) (G' := G) rfl <| m9 (as := []) rfl rfl <| aG0.mpr <| bR1 (n := 4 * (k + 1)) (by omega) (Z5 (by omega) hf.2.data) (Z5 (by omega) (aO4 (n := 0)).data) fun c => ⟨_, rfl, fun _ => ?_, fun _ => ⟨fun z => (nomatch z), fun _ => J2.mpr ⟨(Fr.refl h).two, ps, rfl, e, hp, by omega⟩⟩⟩
 exact J4 <| o6 <| m9 (as := [.ref r, .int 2]) rfl rfl <| R0 h ⟨by decide, by decide⟩ fun j hj0 hj1 G1 f1 => d9 (a := .int 1) rfl <| aH3.mpr ⟨_, rfl, fun _ => go G1 f1, fun _ => J2.mpr ⟨f1.two, ps, rfl, f1.at hq e, hp, by omega⟩⟩
theorem cK2 (hk : k ≤ 7) (hq : q ≠ r) (hR : bL5 R r k) : ∀ (fs : List (Str × Bool × D)) (u8 u9 u10 : Option D) (ps : List (Str × D)) (G : DH), J8 G r → G[q]? = some (.dct (ps.map kv)) → Pr (k + 2) ps → (∀ f ∈ fs, f.1.length ≤ 1000 ∧ SB k f.2.2) → ps.length + fs.length ≤ 90 →
 Wp (aC0 (aG2 3 (J5 (q15 8) (J5 (q15 9) (J5 (q15 10) (aI4))))) (OCb R) (fun _ => true) (fs.map fdD) [some (.ref r), some s, u2, u3, u4, u5, u6, some (.ref q), u8, u9, u10]) G fun fl G' => Fr2 r q G G' ∧ ∃ v8 v9 v10 ps', fl = .nx [some (.ref r), some s, u2, u3, u4, u5, u6, some (.ref q), v8, v9, v10] ∧ G'[q]? = some (.dct (ps'.map kv)) ∧ Pr (k + 2) ps' ∧ ps'.length ≤ ps.length + fs.length
 | [], u8, u9, u10, ps, G, h, e, hp, hf, hl => by
   rw [List.map_nil, aB4]
   exact ⟨rfl, (Fr.refl h).two, u8, u9, u10, ps, rfl, e, hp, by simp⟩
 | f :: t, u8, u9, u10, ps, G, h, e, hp, hf, hl => by
   simp only [List.length_cons] at hl
   rw [List.map_cons, aB3]
   refine ⟨rfl, ?_⟩
   refine d9 (a := [some (.ref r), some s, u2, u3, u4, u5, u6, some (.ref q), some (.str f.1), some (.bl f.2.1), some f.2.2]) (G' := G) rfl ?_
   refine (dP7 hk hq h hR (hf f (by simp)) e hp (by omega)).mono ?_
   rintro _ G1 ⟨f1, ps1, rfl, q2, q3, q4⟩
   refine (cK2 hk hq hR t _ _ _ ps1 G1 f1.2.2 q2 q3 (fun x hx => hf x (List.mem_cons_of_mem _ hx)) (by omega)).mono ?_
   rintro _ G2 ⟨f2, v8, v9, v10, ps', p1, p2, p3, p4⟩
   exact ⟨f1.trans f2, v8, v9, v10, ps', p1, p2, p3, by simp only [List.length_cons]; omega⟩
theorem cL4 : ∀ ps : List (Str × D), t7 (ps.map kv) = some (ps.map (·.1))
 | [] => rfl
 | p :: r => by
   have ih := cL4 r
   rw [List.map_cons, List.map_cons]
   unfold kv
   simp only [t7]
   rw [show t7 (r.map fun f => ((Sum.inr f.1 : Key), f.2)) = some (r.map (·.1)) from ih]; rfl
theorem dY8 {u8 u9 u10 : Option D} {ps : List (Str × D)} (hq : q ≠ r) (h : J8 G r) (e : G[q]? = some (.dct (ps.map kv))) (hp : Pr (k + 2) ps) (hl : ps.length ≤ 60) :
 Wp (OE [some (.ref r), some s, u2, u3, u4, u5, u6, some (.ref q), u8, u9, u10]) G fun fl G' => Fr r G G' ∧ ∃ x, fl = .rt x ∧ VW 110 (k + 3) x := by
 have bg := big
 have hperm : (V6 (ps.map (·.1))).Perm (ps.map (·.1)) := List.mergeSort_perm _ leS
 have hplen := hperm.length_eq
 have e1 := Q0 (t := [DO.lst ((V6 (ps.map (·.1))).map D.str)]) e
 have hc : K4 (q15 0) V2 (t6 (q13 (c7 0) (q13 (d7 ixG (c7 1) (c7 0)) (q14)))) (ckO G.length (.lst ((V6 (ps.map (·.1))).map D.str))) ((V6 (ps.map (·.1))).map D.str) (U6 [none, some 7] [some (.ref r), some s, u2, u3, u4, u5, u6, some (.ref q), u8, u9, u10]) (G ++ [DO.lst ((V6 (ps.map (·.1))).map D.str)]) = some (.ok (((V6 (ps.map (·.1))).map D.str).map fun d => match d with | .str z => .tup [.str z, (M5 (ps.map kv) (.inr z)).getD .non] | _ => .non), G ++ [DO.lst ((V6 (ps.map (·.1))).map D.str)]) := by
  refine aA2 (I := fun σ => ∃ u, σ = [u, some (.ref q)]) (by simp [ckO]) _ _ ⟨none, rfl⟩ fun d hd σ hσ => ?_
  obtain ⟨u, rfl⟩ := hσ
  obtain ⟨z, hz, rfl⟩ := List.mem_map.mp hd
  obtain ⟨p, hpm, rfl⟩ := List.mem_map.mp (hperm.mem_iff.mp hz)
  have lk := bB7 hp.1 hpm
  refine ⟨[some (.str p.1), some (.ref q)], rfl, ⟨_, rfl⟩, rfl, aH9 ?_⟩
  exact U5.mpr <| J3 (x := .str p.1) rfl <| m8 <| Q3 (x := .ref q) (y := .str p.1) rfl rfl <| (dH4 e1 lk).mpr <| m6.mpr ⟨sz, by show _ = D.tup [.str p.1, (M5 (ps.map kv) (.inr p.1)).getD .non]; rw [lk]; rfl, rfl⟩
 refine R1 <| U5.mpr <| J3 (x := .str aB9) rfl <| m8 <| P0 <| m8 <| wp_comp.mpr <| wp_itW.mpr <| aP7 (as := [.ref q]) rfl <| (bO6 e (cL4 ps) (by rw [List.length_map]; omega)).mpr <| (aG6 j9).mpr ⟨by simp only [List.length_map]; rw [hplen, List.length_map]; omega, d9 hc <| m6.mpr <| (aA1 j9).mpr <| m6.mpr ⟨sz, (Fr.app h).trans (Fr.app (Fr.app h).2.2), _, rfl, ?_⟩⟩
 have em : (((V6 (ps.map (·.1))).map D.str).map fun d => match d with | .str z => D.tup [.str z, (M5 (ps.map kv) (.inr z)).getD .non] | _ => .non) = ((V6 (ps.map (·.1))).map fun z => ((z, (M5 (ps.map kv) (.inr z)).getD .non) : Str × D)).map t8 := by
  rw [List.map_map, List.map_map]; rfl
 rw [em]
 refine VW.r (by rw [List.length_map, hplen, List.length_map]; omega) ?_ fun x hx => ?_
 · rw [List.map_map]
   show ((V6 (ps.map (·.1))).map fun z => z).Nodup
   rw [List.map_id']
   exact hperm.nodup_iff.mpr hp.1
 · obtain ⟨z, hz, rfl⟩ := List.mem_map.mp hx
   obtain ⟨p, hpm, rfl⟩ := List.mem_map.mp (hperm.mem_iff.mp hz)
   rw [bB7 hp.1 hpm]
   exact hp.2 p hpm
end
section
variable {R : List D → M D} {r k : Nat} {G : DH}
theorem dI8 {p : Nat} {l : List D} {G : DH} {Q : DPP} (e : G[p]? = some (.lst l)) : Wp (aP0 [.ref p]) G Q ↔ Q (.int (l.length : Int)) G := by
 unfold aP0
 simp only [m5, T5, e, T4, j6]
def OfP (r k : Nat) (G : DH) (fl : Fl) (G' : DH) : Prop := ∃ x, fl = .rt x ∧ VW 110 (k + 1 + 2) x ∧ Fr r G G'
theorem OfP.tr {G1 : DH} (f : Fr r G G1) {fl : Fl} {G' : DH} (h : OfP r k G1 fl G') : OfP r k G fl G' := let ⟨x, e, q, f'⟩ := h; ⟨x, e, q, f.trans f'⟩
variable {ns : List (D × D)} {w : Str} {ts : List Str} {tr : List Bool} {li re m : D} {u2 u3 : Option D}
theorem dY1 {fs : List (Str × Bool × D)} (hk : k ≤ 7) (h : J8 G r) (hR : bL5 R r k) (hf : fs.length ≤ 40) (hfs : ∀ f ∈ fs, f.1.length ≤ 1000 ∧ SB k f.2.2) (hm : SB k m) :
 Wp (Q9 R [some (.ref r), some (mkS ns w ts tr li (.tup [.tup (fs.map fdD), m])), u2, some (.str aB9), none, none, none, none, none, none, none]) G (OfP r k G) := by
 refine o7 (σ' := [some (.ref r), some (mkS ns w ts tr li (.tup [.tup (fs.map fdD), m])), u2, some (.str aB9), some m, none, some (.tup (fs.map fdD)), none, none, none, none]) rfl ?_
 refine o7 (σ' := [some (.ref r), some (mkS ns w ts tr li (.tup [.tup (fs.map fdD), m])), u2, some (.str aB9), some m, none, some (.tup (fs.map fdD)), some (.ref G.length), none, none, none]) (G' := G ++ [.dct []]) rfl ?_
 have hp : G.length ≠ r := by have := h.lt; omega
 have f6 : Fr r G (G ++ [DO.dct []]) := Fr.app h
 refine j7.mpr (aF5.mpr (wp_itW.mpr (aN2.mpr (m9 (as := [.ref r]) rfl rfl ((bF8 f6.2.2).mono ?_)))))
 rintro x G7 ⟨p7, ss, rfl, hp7, ep7, hl8, hz, f7⟩
 rw [aS7, bE4]
 refine d9 (a := .int 3) (G' := G7) rfl (dG3.mpr ?_)
 rw [cI5 ep7, aG6 j9]
 have et : DL.cutD (ss.map D.str) none (some 3) = (ss.take 3).map D.str := by
  have := aX5 (ss.map D.str) 3
  rw [← List.map_take] at this
  exact this
 rw [et]
 have e7 : G7[G.length]? = some (.dct (([] : List (Str × D)).map kv)) := f7.at hp j9
 have h7l := lt_of_get e7
 have h7r := f7.2.2.lt
 have f8 : Fr r G7 (G7 ++ [.lst ((ss.take 3).map D.str)]) := Fr.app f7.2.2
 refine (cJ3 hk hp (p := G7.length) ⟨by omega, by omega⟩ hR hm (by omega) (ss.take 3) none [] _ f8.2.2 j9 (Q0 e7) ⟨List.nodup_nil, fun p hp => by cases hp⟩ (fun z hz' => hz.1 z (List.mem_of_mem_take hz')) (by simp; omega)).mono ?_
 rintro _ G9 ⟨f9, u', ps', rfl, p2, p3, p4⟩
 have hps : ps'.length ≤ 3 := by simp at p4; omega
 refine j7.mpr (aF5.mpr (wp_itW.mpr (d9 (a := .tup (fs.map fdD)) (G' := G9) rfl (srcW_tup.mpr ?_))))
 refine (cK2 hk hp hR fs _ _ _ ps' G9 f9.2.2 p2 p3 hfs (by omega)).mono ?_
 rintro _ G10 ⟨f10, v8, v9, v10, ps2, rfl, r2, r3, r4⟩
 refine (dY8 hp f10.2.2 r2 r3 (by omega)).mono ?_
 rintro _ G11 ⟨f11, x, rfl, hx⟩
 exact ⟨x, rfl, hx, (((f8.two.trans f9).trans f10).back (f6.trans f7) (Nat.le_refl _)).trans f11⟩
theorem eF6 {d : D} (hk : k ≤ 7) (h : J8 G r) (hR : bL5 R r k) (h6 : LiP (SB k) li) (h7 : ReP (SB k) re) (hd : Way li re d) :
 Wp (Q7 R [some (.ref r), some (mkS ns w ts tr li re), u2, some d, none, none, none, none, none, none, none]) G (OfP r k G) := by
 rcases hd with ⟨v, rfl, hv⟩ | ⟨rfl, hli⟩ | ⟨rfl, hre⟩
 · exact o7 rfl (bP1 (d := v) rfl ⟨v, rfl, VW.le (by omega) (by omega) hv, Fr.refl h⟩)
 · rcases h6 with rfl | ⟨fs, m, rfl, hf, hfs, hm⟩
   · exact (hli rfl).elim
   · refine j7.mpr ((dH2 hk h hR hf hfs hm).mono ?_)
     rintro _ G6 ⟨f6, x, rfl, hx⟩
     exact ⟨x, rfl, hx, f6⟩
 · rcases h7 with rfl | ⟨fs, m, rfl, hf, hn2, hfs, hm⟩
   · exact (hre rfl).elim
   · exact o7 rfl (o7 rfl (dY1 hk h hR hf hfs hm))
theorem eE2 {q : Nat} {l : List D} (hk : k ≤ 7) (h : J8 G r) (hR : bL5 R r k) (h6 : LiP (SB k) li) (h7 : ReP (SB k) re) (hq : q ≠ r) (eq : G[q]? = some (.lst l)) (hl : l.length ≤ 600) (hw : ∀ x ∈ l, Way li re x) :
 Wp (Q5 R [some (.ref r), some (mkS ns w ts tr li re), some (.ref q), none, none, none, none, none, none, none, none]) G (OfP r k G) := by
 have f4 : Fr r G (G ++ [.lst []]) := Fr.app h
 have eq4 := f4.at hq eq
 have e5 : ∀ b, l.isEmpty = b → o5 (d7 eqD (c7 2) (S5 (q14))) [some (.ref r), some (mkS ns w ts tr li re), some (.ref q), none, none, none, none, none, none, none, none] G = some (.ok b, G ++ [.lst []]) := by
  rintro b rfl
  obtain ⟨a, G', e, rfl, rfl⟩ := (dD8 (Q := fun x G' => x = .bl l.isEmpty ∧ G' = G ++ [.lst []]) (Q0 eq) j9).mpr ⟨rfl, rfl⟩
  show (eqD (.ref q) (.ref G.length) >>= cO7) (G ++ [.lst []]) = _
  rw [M.bind_ok e]
  rfl
 generalize (G ++ [.lst []]) = G4 at f4 eq4 e5
 cases l with
 | nil => exact j7.mpr (aZ3 (e5 true rfl) (d9 (a := .rt (.int 0)) rfl (show OfP r k G (.rt (.int 0)) _ from ⟨_, rfl, VW.i, f4⟩)))
 | cons a l =>
   refine j7.mpr (eK4 (e5 false rfl) (J2.mpr ?_))
   refine j7.mpr (M9 (o6 (d9 (a := .ref q) rfl (P0 (J3 (x := .ref r) rfl (m8 (aP7 (as := [.ref q]) rfl ((dI8 eq4).mpr (m6.mpr (aB6.mpr ⟨rfl, R0 f4.2.2 ?_ fun j hj0 hj1 G5 f5 => ?_⟩))))))))))
   · exact ⟨by simp, by simp at hl ⊢; omega⟩
   · obtain ⟨d, hd, ed⟩ := aZ7 (l := a :: l) hj0 hj1
     exact (bB6 (f5.at hq eq4)).mpr ⟨d, ed, (eF6 hk f5.2.2 hR h6 h7 (hw d hd)).mono fun _ _ z => z.tr (f4.trans f5)⟩
theorem dK4 {s : D} (hk : k ≤ 7) (h : J8 G r) (hR : bL5 R r k) (hs : SB (k + 1) s) : Wp (K9 11 (aU0 R) [.ref r, s]) G fun x G' => VW 110 (k + 1 + 2) x ∧ Fr r G G' := by
 rcases hs with rfl | ⟨ns, w, ts, tr, li, re, rfl, h1, h2, h3, h4, h5, h6, h7⟩
 · refine R3 (j7.mpr (aZ3 (G1 := G) rfl (R1 (m9 (as := [.ref r, .int 2]) rfl rfl ?_))))
   exact (cA6 6 2 2 G h (by decide) (by decide) (by decide)).mono fun x G1 q => ⟨VW.le (by omega) (by omega) q.1, q.2⟩
 · refine bV5 (j8 O1) (Q2 R) [some (.ref r), some (mkS ns w ts tr li re), none, none, none, none, none, none, none, none, none] rfl (fun _ => rfl) ?_
   refine j7.mpr ((eA1 h h1 h2 h3 h4 h5).mono ?_)
   rintro _ G1 ⟨f1, q, l, rfl, hq, eq, hw, hl⟩
   refine j7.mpr ((eF5 f1.2.2 eq hw (by omega)).mono ?_)
   rintro _ G2 ⟨f2, q2, l2, rfl, hq2, eq2, hw2, hl2⟩
   refine j7.mpr ((dY2 f2.2.2 eq2 hw2 (by omega)).mono ?_)
   rintro _ G3 ⟨f3, q3, l3, rfl, hq3, eq3, hw3, hl3⟩
   refine (eE2 hk f3.2.2 hR h6 h7 hq3 eq3 (by omega) hw3).mono ?_
   rintro _ G4 ⟨x, rfl, hx, f4⟩
   exact ⟨hx, ((f1.trans f2).trans f3).trans f4⟩
theorem of_wp {r : Nat} : ∀ (n k : Nat), k ≤ n → k ≤ 8 → bL5 (aT7 n) r k
 | 0, 0, _, _ => fun s G h hs => hs.elim
 | 0, k + 1, h, _ => by omega
 | n + 1, 0, _, _ => fun s G h hs => hs.elim
 | n + 1, k + 1, h, h2 => fun s G hh hs => dK4 (by omega) hh (of_wp n k (by omega) (by omega)) hs
end
theorem R9 {f : D → D → Option Bool} {x y : D} {xs ys : List D} (h : eqL f (x :: xs) (y :: ys) = some true) : f x y = some true ∧ eqL f xs ys = some true := by
 unfold eqL at h
 cases e : f x y with
 | none => rw [e] at h; cases h
 | some a =>
   cases e' : eqL f xs ys with
   | none => rw [e, e'] at h; cases h
   | some b =>
     rw [e, e'] at h
     cases a <;> cases b <;> first | (cases h; done) | exact ⟨rfl, rfl⟩
theorem eqL_same {f : D → D → Option Bool} : ∀ {a b : List D}, eqL f a b = some true → (∀ x ∈ a, ∀ y ∈ b, f x y = some true → x = y) → a = b
 | [], [], _, _ => rfl
 | [], _ :: _, h, _ => by cases h
 | _ :: _, [], h, _ => by cases h
 | x :: xs, y :: ys, h, k => by
   have h' := R9 h
   rw [k x (by simp) y (by simp) h'.1, eqL_same h'.2 fun a ha b hb => k a (by simp [ha]) b (by simp [hb])]
theorem cH3 {n : Nat} {G : DH} {a b : List D} : eqN (n + 1) G (.tup a) (.tup b) = eqL (eqN n G) a b := by
 show (if true = true then (if true = false ∧ a.length ≠ b.length then some false else eqL (eqN n G) a b) else some false) = _
 simp
theorem eqT {n : Nat} {G : DH} {a b : List D} (h : eqN n G (.tup a) (.tup b) = some true) : ∃ m, n = m + 1 ∧ eqL (eqN m G) a b = some true := by
 cases n with
 | zero => cases h
 | succ m => exact ⟨m, rfl, by rw [← cH3]; exact h⟩
theorem bG5 {n : Nat} {G : DH} {a b : Str} (h : eqN n G (.str a) (.str b) = some true) : a = b := by
 cases n with
 | zero => cases h
 | succ m => exact eq_of_beq (Option.some.inj (show some (a == b) = some true from h))
theorem cJ4 {n : Nat} {G : DH} {a b : Bool} (h : eqN n G (.bl a) (.bl b) = some true) : a = b := by
 cases n with
 | zero => cases h
 | succ m => exact eq_of_beq (Option.some.inj (show some (a == b) = some true from h))
theorem bX4 {n : Nat} {G : DH} {a b : D} (ha : aW9 a) (hb : aW9 b) (h : eqN n G a b = some true) : a = b := by
 cases n with
 | zero => cases h
 | succ m =>
   cases a <;> cases b <;> first
    | exact ha.elim
    | exact hb.elim
    | rfl
    | (cases h; done)
    | skip
   rename_i i j
   rw [eq_of_beq (Option.some.inj (show some (i == j) = some true from h))]
theorem eA2 {n : Nat} {G : DH} {ns ms : List (D × D)} (h1 : ∀ p ∈ ns, aK4 p) (h2 : ∀ p ∈ ms, aK4 p) (h : eqN n G (.tup (ns.map stD)) (.tup (ms.map stD)) = some true) : ns.map stD = ms.map stD := by
 obtain ⟨m, rfl, h⟩ := eqT h
 refine eqL_same h fun x hx y hy e => ?_
 obtain ⟨p, hp, rfl⟩ := List.mem_map.mp hx
 obtain ⟨q, hq, rfl⟩ := List.mem_map.mp hy
 obtain ⟨k, rfl, e⟩ := eqT (a := [p.1, p.2]) (b := [q.1, q.2]) e
 have e1 := R9 e
 have e2 := R9 e1.2
 unfold stD
 rw [bX4 (h1 p hp).1 (h2 q hq).1 e1.1, bX4 (h1 p hp).2.1 (h2 q hq).2.1 e2.1]
theorem dE9 {n : Nat} {G : DH} {a b : List Str} (h : eqN n G (.tup (a.map D.str)) (.tup (b.map D.str)) = some true) : a.map D.str = b.map D.str := by
 obtain ⟨m, rfl, h⟩ := eqT h
 refine eqL_same h fun x hx y hy e => ?_
 obtain ⟨p, hp, rfl⟩ := List.mem_map.mp hx
 obtain ⟨q, hq, rfl⟩ := List.mem_map.mp hy
 rw [bG5 e]
theorem dT8 {n : Nat} {G : DH} {a b : List Bool} (h : eqN n G (.tup (a.map D.bl)) (.tup (b.map D.bl)) = some true) : a.map D.bl = b.map D.bl := by
 obtain ⟨m, rfl, h⟩ := eqT h
 refine eqL_same h fun x hx y hy e => ?_
 obtain ⟨p, hp, rfl⟩ := List.mem_map.mp hx
 obtain ⟨q, hq, rfl⟩ := List.mem_map.mp hy
 rw [cJ4 e]
theorem dN3 {n : Nat} {G : DH} {l : List D} : eqN n G .non (.tup l) ≠ some true := by
 cases n with
 | zero => exact fun h => by cases h
 | succ m => exact fun h => by cases h
theorem dN0 {n : Nat} {G : DH} {l : List D} : eqN n G (.tup l) .non ≠ some true := by
 cases n with
 | zero => exact fun h => by cases h
 | succ m => exact fun h => by cases h
theorem dX3 {n : Nat} {G : DH} {z : Str} {l : List D} : eqN n G (.str z) (.tup l) ≠ some true := by
 cases n with
 | zero => exact fun h => by cases h
 | succ m => exact fun h => by cases h
theorem eC0 {n : Nat} {G : DH} {z : Str} {l : List D} : eqN n G (.tup l) (.str z) ≠ some true := by
 cases n with
 | zero => exact fun h => by cases h
 | succ m => exact fun h => by cases h
def EqS (S : D → Prop) (G : DH) : Prop := ∀ n x y, S x → S y → eqN n G x y = some true → x = y
theorem dZ9 {S : D → Prop} {n : Nat} {G : DH} {a b : D} (ih : EqS S G) (ha : LiP S a) (hb : LiP S b) (h : eqN n G a b = some true) : a = b := by
 rcases ha with rfl | ⟨fs, c, rfl, _, a2, a3⟩
 · rcases hb with rfl | ⟨_, _, rfl, _⟩
   · rfl
   · exact (dN3 h).elim
 · rcases hb with rfl | ⟨gs, d, rfl, _, b2, b3⟩
   · exact (dN0 h).elim
   · obtain ⟨_, _, z⟩ := eqT h
     have z1 := R9 z
     obtain ⟨_, _, z3⟩ := eqT z1.1
     rw [eqL_same z3 fun x hx y hy e => ih _ _ _ (a2 x hx) (b2 y hy) e, ih _ _ _ a3 b3 (R9 z1.2).1]
theorem eA9 {S : D → Prop} {n : Nat} {G : DH} {f g : Str × Bool × D} (ih : EqS S G) (hf : S f.2.2) (hg : S g.2.2) (h : eqN n G (fdD f) (fdD g) = some true) : fdD f = fdD g := by
 obtain ⟨_, _, e⟩ := eqT (a := [D.str f.1, .bl f.2.1, f.2.2]) (b := [D.str g.1, .bl g.2.1, g.2.2]) h
 have y1 := R9 e
 have y2 := R9 y1.2
 unfold fdD
 rw [bG5 y1.1, cJ4 y2.1, ih _ _ _ hf hg (R9 y2.2).1]
theorem eB0 {S : D → Prop} {n : Nat} {G : DH} {a b : D} (ih : EqS S G) (ha : ReP S a) (hb : ReP S b) (h : eqN n G a b = some true) : a = b := by
 rcases ha with rfl | ⟨fs, c, rfl, _, _, a2, a3⟩
 · rcases hb with rfl | ⟨_, _, rfl, _⟩
   · rfl
   · exact (dN3 h).elim
 · rcases hb with rfl | ⟨gs, d, rfl, _, _, b2, b3⟩
   · exact (dN0 h).elim
   · obtain ⟨_, _, z⟩ := eqT h
     have z1 := R9 z
     obtain ⟨_, _, z3⟩ := eqT z1.1
     rw [eqL_same z3 ?_, ih _ _ _ a3 b3 (R9 z1.2).1]
     intro x hx y hy e
     obtain ⟨f, hf, rfl⟩ := List.mem_map.mp hx
     obtain ⟨g, hg, rfl⟩ := List.mem_map.mp hy
     exact eA9 ih (a2 f hf).2 (b2 g hg).2 e
theorem dZ8 {S : D → Prop} {n : Nat} {G : DH} {ns ns' : List (D × D)} {w w' : Str} {ts ts' : List Str} {tr tr' : List Bool} {li re li' re' : D} (ih : EqS S G) (h1 : ∀ p ∈ ns, aK4 p) (g1 : ∀ p ∈ ns', aK4 p) (h6 : LiP S li) (g6 : LiP S li') (h7 : ReP S re) (g7 : ReP S re') (h : eqN n G (mkS ns w ts tr li re) (mkS ns' w' ts' tr' li' re') = some true) : mkS ns w ts tr li re = mkS ns' w' ts' tr' li' re' := by
 obtain ⟨_, _, h⟩ := eqT h
 have e1 := R9 h
 have e2 := R9 e1.2
 have e3 := R9 e2.2
 have e4 := R9 e3.2
 obtain ⟨_, _, t⟩ := eqT e2.1
 have t1 := R9 t
 unfold mkS
 rw [eA2 h1 g1 e1.1, bG5 t1.1, dE9 (R9 t1.2).1, dT8 e3.1, dZ9 ih h6 g6 e4.1, eB0 ih h7 g7 (R9 e4.2).1]
theorem SB.eqs {G : DH} : ∀ {k : Nat}, EqS (SB k) G
 | 0 => fun _ _ _ h _ _ => h.elim
 | k + 1 => fun n x y hx hy h => by
   rcases hx with rfl | ⟨ns, w, ts, tr, li, re, rfl, h1, _, _, _, _, h6, h7⟩
   · rcases hy with rfl | ⟨_, _, _, _, _, _, rfl, _⟩
     · rfl
     · exact (dX3 h).elim
   · rcases hy with rfl | ⟨ns', w', ts', tr', li', re', rfl, g1, _, _, _, _, g6, g7⟩
     · exact (eC0 h).elim
     · exact dZ8 SB.eqs h1 g1 h6 g6 h7 g7 h
theorem SB.eq {G : DH} {k n : Nat} {x y : D} (hx : SB k x) (hy : SB k y) (h : eqN n G x y = some true) : x = y := SB.eqs n x y hx hy h
theorem bJ9 {x : D} (h : aL0 x = true) : eqS x x = some true := by
 cases x <;> first | (cases h; done) | rfl | (simp [eqS])
theorem cB8 {f : D → D → Option Bool} : ∀ {l : List D}, (∀ x ∈ l, f x x = some true) → eqL f l l = some true
 | [], _ => rfl
 | x :: r, h => by unfold eqL; rw [h x (by simp), cB8 fun y hy => h y (by simp [hy])]; rfl
theorem bW7 {G : DH} : ∀ {n m : Nat} {x : D}, n < m → M4 n x = true → eqN m G x x = some true
 | n, 0, x, h, _ => by omega
 | n, m + 1, x, h, hx => by
   cases x with
   | tup l =>
     cases n with
     | zero => simp [M4] at hx
     | succ k =>
       rw [cH3]
       exact cB8 fun x hx' => bW7 (n := k) (by omega) (List.all_eq_true.mp (by simpa [M4] using hx) x hx')
   | ref i => cases n <;> simp [M4] at hx
   | fn i => cases n <;> simp [M4] at hx
   | ty i => cases n <;> simp [M4] at hx
   | non => rfl
   | bl b => exact bJ9 (x := .bl b) rfl
   | int b => exact bJ9 (x := .int b) rfl
   | str b => exact bJ9 (x := .str b) rfl
theorem SB.eqN {G : DH} {k : Nat} {x y : D} (hk : k ≤ 9) (hx : SB k x) (hy : SB k y) : ∃ b, DL.eqN 40 G x y = some b ∧ (b = true ↔ x = y) := by
 obtain ⟨b, e⟩ := aO8 (G := G) (4 * k) 40 x y (by omega) hx.data hy.data
 refine ⟨b, e, ?_, ?_⟩
 · rintro rfl; exact hx.eq hy e
 · rintro rfl
   have := bW7 (G := G) (n := 4 * k) (m := 40) (by omega) hx.data
   rw [this] at e
   exact (Option.some.inj e).symm
def LiF (li li' : D) : Prop := (li = .non ∧ li' = .non) ∨ ∃ fs m, li = .tup [.tup fs, m] ∧ ((noS ∈ fs ∧ li' = .non) ∨ (noS ∉ fs ∧ li' = li))
noncomputable def dG2 (m : D) (f : Str × Bool × D) : Prop := f.2.1 = false ∧ f.2.2 = m
def ReF (re re' : D) : Prop := (re = .non ∧ re' = .non) ∨ ∃ (fs : List (Str × Bool × D)) (m : D), re = .tup [.tup (fs.map fdD), m] ∧
 (((∃ f ∈ fs, f.2.1 = true ∧ f.2.2 = noS) ∧ re' = .non) ∨ ((∀ f ∈ fs, f.2.1 = true → f.2.2 ≠ noS) ∧ ∃ p : Str × Bool × D → Bool, (∀ f ∈ fs, p f = false ↔ dG2 m f) ∧ re' = .tup [.tup ((fs.filter p).map fdD), m]))
theorem cU5 {f g : Str × Bool × D} (h : fdD f = fdD g) : f = g := by
 obtain ⟨a, b, c⟩ := f
 obtain ⟨a', b', c'⟩ := g
 unfold fdD at h
 simp only [D.tup.injEq, List.cons.injEq, D.str.injEq, D.bl.injEq, and_true] at h
 rw [h.1, h.2.1, h.2.2]
theorem bT2 {α β : Type} {f : α → β} (hf : ∀ a b, f a = f b → a = b) : ∀ {l k : List α}, l.map f = k.map f → l = k
 | [], [], _ => rfl
 | [], _ :: _, h => by cases h
 | _ :: _, [], h => by cases h
 | a :: l, b :: k, h => by
   rw [List.map_cons, List.map_cons, List.cons.injEq] at h
   rw [hf a b h.1, bT2 hf h.2]
theorem LiF.again {a b c : D} (h : LiF a b) (k : LiF b c) : c = b := by
 rcases h with ⟨_, rfl⟩ | ⟨fs, m, rfl, ⟨_, rfl⟩ | ⟨hn, rfl⟩⟩
 · rcases k with ⟨_, rfl⟩ | ⟨fs, m, e, _⟩
   · rfl
   · cases e
 · rcases k with ⟨_, rfl⟩ | ⟨fs, m, e, _⟩
   · rfl
   · cases e
 · rcases k with ⟨e, _⟩ | ⟨fs', m', e, ⟨h1, _⟩ | ⟨_, rfl⟩⟩
   · cases e
   · simp only [D.tup.injEq, List.cons.injEq, and_true] at e
     rw [e.1] at hn
     exact (hn h1).elim
   · rfl
theorem ReF.again {a b c : D} (h : ReF a b) (k : ReF b c) : c = b := by
 rcases h with ⟨_, rfl⟩ | ⟨fs, m, rfl, ⟨_, rfl⟩ | ⟨hn, p, hp, rfl⟩⟩
 · rcases k with ⟨_, rfl⟩ | ⟨fs, m, e, _⟩
   · rfl
   · cases e
 · rcases k with ⟨_, rfl⟩ | ⟨fs, m, e, _⟩
   · rfl
   · cases e
 · rcases k with ⟨e, _⟩ | ⟨gs, m', e, h2⟩
   · cases e
   · simp only [D.tup.injEq, List.cons.injEq, and_true] at e
     have eg := bT2 (fun _ _ => cU5) e.1
     have em := e.2
     subst eg em
     rcases h2 with ⟨⟨f, hf, h3, h4⟩, _⟩ | ⟨_, q, hq, rfl⟩
     · exact (hn f (List.mem_filter.mp hf).1 h3 h4).elim
     · have : (fs.filter p).filter q = fs.filter p := List.filter_eq_self.mpr fun f hf => by
        cases hqf : q f with
        | true => rfl
        | false =>
          have h1 := List.mem_filter.mp hf
          have := (hp f h1.1).mpr ((hq f hf).mp hqf)
          rw [this] at h1
          exact h1.2
       rw [this]
theorem cY9 {b n : Nat} {v : D} (h : VW b n v) : inP n v noS = false := by
 cases n with
 | zero => rfl
 | succ n =>
   rcases h with ⟨i, rfl⟩ | ⟨c, rfl⟩ | ⟨z, rfl, hz⟩ | ⟨l, rfl, hl, hv⟩ | ⟨ps, rfl, hl, hn, hv⟩
   · rfl
   · rfl
   · rfl
   · exact aQ2
   · exact aQ0
theorem LiF.same {b n : Nat} {a c : D} {l : List D} (h : LiF a c) (hv : ∀ x ∈ l, VW b n x) : aO1 (inP n) l c = aO1 (inP n) l a := by
 rcases h with ⟨rfl, rfl⟩ | ⟨fs, m, rfl, ⟨hn, rfl⟩ | ⟨hn, rfl⟩⟩
 · rfl
 · show false = (decide (fs.length ≤ l.length) && _)
   by_cases hle : fs.length ≤ l.length
   · obtain ⟨j, hj, ej⟩ := List.mem_iff_getElem.mp hn
     symm
     rw [Bool.and_eq_false_iff]
     right
     rw [List.all_eq_false]
     refine ⟨j, List.mem_range.mpr (by omega), ?_⟩
     have e1 : (fs ++ List.replicate l.length m).getD j .non = noS := by
      rw [List.getD_eq_getElem?_getD, List.getElem?_append_left hj, List.getElem?_eq_getElem hj, ej]; rfl
     have hjl : j < l.length := by omega
     have e2 : l.getD j .non = l[j] := by rw [List.getD_eq_getElem?_getD, List.getElem?_eq_getElem hjl]; rfl
     rw [e1, e2, cY9 (hv _ (List.getElem_mem hjl))]
     decide
   · rw [decide_eq_false hle]; rfl
 · rfl
theorem bP0 {fs : List (Str × Bool × D)} {p : Str × Bool × D → Bool} {m : D} {z : Str} (hn : (fs.map (·.1)).Nodup) (hp : ∀ f ∈ fs, p f = false ↔ dG2 m f) : aA0 ((fs.filter p).map fdD) m z = aA0 (fs.map fdD) m z := by
 rw [aM7, aM7]
 induction fs with
 | nil => rfl
 | cons f r ih =>
   rw [List.map_cons, List.nodup_cons] at hn
   have ih' := ih hn.2 fun g hg => hp g (List.mem_cons_of_mem _ hg)
   by_cases e : f.1 = z
   · rw [List.find?_cons_of_pos (l := r) (by simpa using e)]
     cases hpf : p f with
     | true => rw [List.filter_cons_of_pos hpf, List.find?_cons_of_pos (by simpa using e)]
     | false =>
       rw [List.filter_cons_of_neg (by rw [hpf]; decide)]
       have none : (r.filter p).find? (fun f => decide (f.1 = z)) = none := by
        rw [List.find?_eq_none]
        intro g hg hz
        have hz : g.1 = z := by simpa using hz
        exact hn.1 (List.mem_map.mpr ⟨g, (List.mem_filter.mp hg).1, by rw [hz, e]⟩)
       rw [none]
       exact ((hp f (by simp)).mp hpf).2.symm
   · rw [List.find?_cons_of_neg (l := r) (by simpa using e), ← ih']
     cases hpf : p f with
     | true => rw [List.filter_cons_of_pos hpf, List.find?_cons_of_neg (by simpa using e)]
     | false => rw [List.filter_cons_of_neg (by rw [hpf]; decide)]
theorem bV9 {fs : List (Str × Bool × D)} {p : Str × Bool × D → Bool} {m : D} {l : List D} (hp : ∀ f ∈ fs, p f = false ↔ dG2 m f) : ((fs.filter p).map fdD).all (V7 l) = (fs.map fdD).all (V7 l) := by
 induction fs with
 | nil => rfl
 | cons f r ih =>
   have ih' := ih fun g hg => hp g (List.mem_cons_of_mem _ hg)
   rw [List.map_cons, List.all_cons, ← ih']
   cases hpf : p f with
   | true => rw [List.filter_cons_of_pos hpf, List.map_cons, List.all_cons]
   | false =>
     rw [List.filter_cons_of_neg (by rw [hpf]; decide)]
     have e : V7 l (fdD f) = (l.any (nmD f.1) || !f.2.1) := rfl
     rw [e, ((hp f (by simp)).mp hpf).1]
     simp
theorem ReF.same {b n : Nat} {S : D → Prop} {a c : D} {ps : List (Str × D)} (h : ReF a c) (ha : ReP S a) (hv : ∀ p ∈ ps, p.1.length ≤ 1000 ∧ VW b n p.2) : aO2 (inP n) (ps.map t8) c = aO2 (inP n) (ps.map t8) a := by
 rcases h with ⟨rfl, rfl⟩ | ⟨fs, m, rfl, h⟩
 · rfl
 · have hnd : (fs.map (·.1)).Nodup := by
    rcases ha with e | ⟨gs, m', e, _, hn, _⟩
    · cases e
    · simp only [D.tup.injEq, List.cons.injEq, and_true] at e
      rw [bT2 (fun _ _ => cU5) e.1]; exact hn
   rcases h with ⟨⟨f, hf, h1, h2⟩, rfl⟩ | ⟨hn, p, hp, rfl⟩
   · show false = ((fs.map fdD).all (V7 (ps.map t8)) && (ps.map t8).all (aW5 (inP n) (fs.map fdD) m))
     symm
     cases hm : (fs.map fdD).all (V7 (ps.map t8)) with
     | false => rfl
     | true =>
       rw [Bool.true_and, List.all_eq_false]
       have hmf := List.all_eq_true.mp hm (fdD f) (List.mem_map.mpr ⟨f, hf, rfl⟩)
       have e : V7 (ps.map t8) (fdD f) = ((ps.map t8).any (nmD f.1) || !f.2.1) := rfl
       rw [e, h1, Bool.not_true, Bool.or_false, List.any_eq_true] at hmf
       obtain ⟨x, hx, hnm⟩ := hmf
       obtain ⟨q, hq, rfl⟩ := List.mem_map.mp hx
       have hq1 : q.1 = f.1 := of_decide_eq_true (show decide (q.1 = f.1) = true from hnm)
       refine ⟨t8 q, hx, ?_⟩
       have e2 : aW5 (inP n) (fs.map fdD) m (t8 q) = inP n q.2 (aA0 (fs.map fdD) m q.1) := rfl
       have e3 : aA0 (fs.map fdD) m q.1 = noS := by
        rw [aM7, hq1]
        have : fs.find? (fun g => decide (g.1 = f.1)) = some f := by
         clear hm hx hnm e2 ha
         induction fs with
         | nil => cases hf
         | cons g r ih =>
           rw [List.map_cons, List.nodup_cons] at hnd
           rcases List.mem_cons.mp hf with rfl | hf
           · exact List.find?_cons_of_pos (by simp)
           · rw [List.find?_cons_of_neg (by
              simp only [decide_eq_true_eq]
              exact fun z => hnd.1 (List.mem_map.mpr ⟨f, hf, z.symm⟩))]
             exact ih hnd.2 hf
        rw [this]
        exact h2
       rw [e2, e3, cY9 (hv q hq).2]
       decide
   · show (((fs.filter p).map fdD).all (V7 (ps.map t8)) && (ps.map t8).all (aW5 (inP n) ((fs.filter p).map fdD) m)) = ((fs.map fdD).all (V7 (ps.map t8)) && (ps.map t8).all (aW5 (inP n) (fs.map fdD) m))
     rw [bV9 hp]
     have : aW5 (inP n) ((fs.filter p).map fdD) m = aW5 (inP n) (fs.map fdD) m := by
      funext d
      rcases d with _ | _ | _ | _ | l | _ | _ | _ <;> try rfl
      rcases l with _ | ⟨_ | _ | _ | nm | _ | _ | _ | _, _ | ⟨v, _ | ⟨_, _⟩⟩⟩ <;> try rfl
      exact congrArg (inP n v) (bP0 hnd hp)
     rw [this]
theorem dB2 {b n : Nat} {v : D} (h : VW b (n + 1) v) : inP (n + 1) v evS = true := by
 rcases h with ⟨i, rfl⟩ | ⟨c, rfl⟩ | ⟨z, rfl, hz⟩ | ⟨l, rfl, hl, hv⟩ | ⟨ps, rfl, hl, hn, hv⟩
 · rfl
 · cases c <;> rfl
 · rfl
 · refine Eq.trans (aQ2 (ns := [(.non, .non)]) (w := "but") (ts := []) (tr := [false, true])) ?_
   show (decide (0 ≤ l.length) && (List.range l.length).all fun k => inP n (l.getD k .non) (([] ++ List.replicate l.length (D.str aH0)).getD k .non)) = true
   rw [decide_eq_true (Nat.zero_le _), Bool.true_and, List.all_eq_true]
   intro k hk
   have hk := List.mem_range.mp hk
   have e1 : (([] : List D) ++ List.replicate l.length (D.str aH0)).getD k .non = .str aH0 := by
    rw [List.nil_append, List.getD_eq_getElem?_getD, List.getElem?_replicate, if_pos hk]; rfl
   rw [e1]
   have e2 : l.getD k .non = l[k] := by rw [List.getD_eq_getElem?_getD, List.getElem?_eq_getElem hk]; rfl
   have hm := hv _ (List.getElem_mem hk)
   rw [e2]
   cases n with
   | zero => exact hm.elim
   | succ n => rfl
 · refine Eq.trans (aQ0 (ns := [(.non, .non)]) (w := "but") (ts := []) (tr := [false, true])) ?_
   show (([] : List D).all (V7 (ps.map t8)) && (ps.map t8).all (aW5 (inP n) [] (.str aH0))) = true
   rw [List.all_nil, Bool.true_and, List.all_eq_true]
   intro d hd
   obtain ⟨p, hp, rfl⟩ := List.mem_map.mp hd
   show inP n p.2 (.str aH0) = true
   have hm := (hv p hp).2
   cases n with
   | zero => exact hm.elim
   | succ n => rfl
section
variable {k : Nat} {G : DH}
theorem cT6 : ∀ {fs : List D}, k ≤ 8 → (∀ x ∈ fs, SB k x) → ∃ b, aL3 G noS fs = some b ∧ (b = true ↔ noS ∈ fs)
 | [], _, _ => ⟨false, rfl, by simp⟩
 | f :: r, hk, h => by
   obtain ⟨b, e, hb⟩ := SB.eqN (G := G) (k := k + 1) (by omega) (SB.le (by omega) (h f (by simp))) (aO4 (n := k))
   obtain ⟨c, e', hc⟩ := cT6 (fs := r) hk fun x hx => h x (by simp [hx])
   refine ⟨b || c, by unfold aL3; rw [e, e'], ?_⟩
   rw [Bool.or_eq_true, hb, hc, List.mem_cons]
   exact ⟨fun z => z.imp Eq.symm id, fun z => z.imp Eq.symm id⟩
theorem eE5 {li : D} (hk : k ≤ 8) (hl : LiP (SB k) li) : Wp (Z8 [li]) G fun x G' => G' = G ∧ LiF li x ∧ LiP (SB k) x := by
 rcases hl with rfl | ⟨fs, m, rfl, h1, h2, h3⟩
 · exact bF2 (d := .non) rfl ⟨rfl, .inl ⟨rfl, rfl⟩, .inl rfl⟩
 · obtain ⟨b, e, hb⟩ := cT6 (G := G) hk h2
   have ei : inX noS (.tup fs) G = some (.ok (.bl b), G) := by unfold inX bP6; simp only [e]
   refine R3 (show Wp (aH1 [some (.tup [.tup fs, m])]) G _ from ?_)
   refine R1 <| bP2.mpr <| cD9 <| d9 (a := false) (G' := G) rfl ⟨fun z => (nomatch z), fun _ => J4 <| Q3 (x := noS) (y := .tup fs) rfl rfl <| d9 ei ⟨_, rfl, ?_⟩⟩
   cases b with
   | true => exact d9 (a := .non) rfl (aD1 ⟨rfl, .inr ⟨fs, m, rfl, .inl ⟨hb.mp rfl, rfl⟩⟩, .inl rfl⟩)
   | false => exact d9 (a := .tup [.tup fs, m]) rfl (aD1 ⟨rfl, .inr ⟨fs, m, rfl, .inr ⟨fun z => (nomatch hb.mpr z), rfl⟩⟩, .inr ⟨fs, m, rfl, h1, h2, h3⟩⟩)
def noB (G : DH) : D → Bool
 | .tup [_, .bl t, s] => t && (eqN 40 G s noS).getD false
 | _ => false
def stB (G : DH) (m : D) (f : Str × Bool × D) : Bool := f.2.1 || !(eqN 40 G f.2.2 m).getD false
theorem dW7 {re : D} (hk : k ≤ 8) (hr : ReP (SB k) re) : Wp (U9 [re]) G fun x G' => Ap G G' ∧ ReF re x ∧ ReP (SB k) x := by
 rcases hr with rfl | ⟨fs, m, rfl, h1, h2, h3, h4⟩
 · exact bF2 (d := .non) rfl ⟨Ap.refl, .inl ⟨rfl, rfl⟩, .inl rfl⟩
 · have hc1 : K4 (aG2 3 (J5 (q15 0) (J5 (q15 1) (J5 (q15 2) (aI4))))) V2 (aX7 (c7 1) (d7 eqD (c7 2) (cE (.tup [.tup [], .tup [.str ("of" : Str), .tup []], .tup [], .non, .non])))) (fun _ => true) (fs.map fdD) (U6 [none, none, none] [some (.tup [.tup (fs.map fdD), m])]) G = some (.ok ((fs.map fdD).map fun d => .bl (noB G d)), G) := by
    refine aA2 (I := fun σ => ∃ a b c, σ = [a, b, c]) rfl _ _ ⟨_, _, _, rfl⟩ fun d hd σ hσ => ?_
    obtain ⟨f, hf, rfl⟩ := List.mem_map.mp hd
    obtain ⟨a, b, c, rfl⟩ := hσ
    obtain ⟨q, e, _⟩ := SB.eqN (G := G) (k := k + 1) (by omega) (SB.le (by omega) (h3 f hf).2) (aO4 (n := k))
    refine ⟨[some (.str f.1), some (.bl f.2.1), some f.2.2], rfl, ⟨_, _, _, rfl⟩, rfl, aH9 ?_⟩
    have en : noB G (fdD f) = (f.2.1 && (eqN 40 G f.2.2 noS).getD false) := rfl
    rw [en, e]
    refine bP4.mpr <| d9 (a := .bl f.2.1) (G' := G) rfl <| aJ8.mpr ?_
    cases f.2.1 with
    | true => exact Q3 (x := f.2.2) (y := noS) rfl rfl <| bC9.mpr ⟨q, e, rfl, rfl⟩
    | false => exact ⟨rfl, rfl⟩
   have hb : (fs.map fdD).any (noB G) = true ↔ ∃ f ∈ fs, f.2.1 = true ∧ f.2.2 = noS := by
    rw [List.any_map, List.any_eq_true]
    refine exists_congr fun f => and_congr_right fun hf => ?_
    obtain ⟨q, e, hq⟩ := SB.eqN (G := G) (k := k + 1) (by omega) (SB.le (by omega) (h3 f hf).2) (aO4 (n := k))
    show (f.2.1 && (eqN 40 G f.2.2 noS).getD false) = true ↔ _
    rw [e, Bool.and_eq_true]
    exact and_congr_right fun _ => hq
   refine R3 (show Wp (aD4 [some (.tup [.tup (fs.map fdD), m])]) G _ from ?_)
   refine j7.mpr <| aH2 <| cD9 <| d9 (a := false) (G' := G) rfl ⟨fun z => (nomatch z), fun _ => bI3.mpr <| P0 <| m8 <| Z9 (l := fs.map fdD) rfl (by rw [List.length_map]; omega) <| d9 hc1 <| m6.mpr <| (cZ3 (f := noB G) j9).mpr <| aJ8.mpr ⟨fun g => ?_, fun g => J2.mpr ?_⟩⟩
   · exact d9 (a := .rt .non) rfl (aD1 ⟨Ap.one, .inr ⟨fs, m, rfl, .inl ⟨hb.mp g, rfl⟩⟩, .inl rfl⟩)
   · have hn : ∀ f ∈ fs, f.2.1 = true → f.2.2 ≠ noS := fun f hf a b => by
      have := hb.mpr ⟨f, hf, a, b⟩
      rw [this] at g
      cases g
     have j1 : Ap G (G ++ [.lst ((fs.map fdD).map fun d => .bl (noB G d))]) := Ap.one
     generalize G ++ [DO.lst ((fs.map fdD).map fun d => .bl (noB G d))] = G1 at j1
     have hc : K4 (q15 0) (orT (U0 (d7 ixD (c7 0) (cE (.int 1)))) (o5 (d7 neD (d7 ixD (c7 0) (cE (.int 2))) (d7 ixD (c7 1) (cE (.int 1)))))) (c7 0) (fun _ => true) (fs.map fdD) (U6 [none, some 0] [some (.tup [.tup (fs.map fdD), m])]) G1 = some (.ok ((fs.map fdD).filter fun d => match d with | .tup [_, .bl t, s] => t || !(eqN 40 G1 s m).getD false | _ => false), G1) := by
      refine aA3 rfl (fun σ => ∃ u, σ = [u, some (.tup [.tup (fs.map fdD), m])]) _ _ ⟨none, rfl⟩ fun d hd σ hσ => ?_
      obtain ⟨f, hf, rfl⟩ := List.mem_map.mp hd
      obtain ⟨u, rfl⟩ := hσ
      refine ⟨[some (fdD f), some (.tup [.tup (fs.map fdD), m])], rfl, ⟨_, rfl⟩, aH9 ?_, rfl⟩
      obtain ⟨q, e, _⟩ := SB.eqN (G := G1) (by omega) (h3 f hf).2 h4
      refine cD9 <| d9 (a := f.2.1) (G' := G1) rfl ⟨fun g => ⟨?_, rfl⟩, fun g => J4 <| Q3 (x := f.2.2) (y := m) rfl rfl <| cK8.mpr ⟨q, e, _, rfl, ?_, rfl⟩⟩
      · show true = (f.2.1 || !(eqN 40 G1 f.2.2 m).getD false); rw [g]; rfl
      · show (!q) = (f.2.1 || !(eqN 40 G1 f.2.2 m).getD false); rw [g, e]; rfl
     have ef : ((fs.map fdD).filter fun d => match d with | .tup [_, .bl t, s] => t || !(eqN 40 G1 s m).getD false | _ => false) = (fs.filter (stB G1 m)).map fdD := by rw [List.filter_map]; rfl
     rw [ef] at hc
     have hs : (fs.filter (stB G1 m)).Sublist fs := List.filter_sublist
     refine R1 <| U5.mpr <| m8 <| P0 <| m8 <| Z9 (l := fs.map fdD) rfl (by rw [List.length_map]; omega) <| d9 hc <| m6.mpr <| (aA1 j9).mpr <| d9 (a := [m]) rfl ⟨sz, aD1 ⟨j1.trans Ap.one, .inr ⟨fs, m, rfl, .inr ⟨hn, stB G1 m, fun f hf => ?_, rfl⟩⟩, .inr ⟨_, m, rfl, by have := hs.length_le; omega, (hs.map _).nodup h2, fun f hf => h3 f (hs.subset hf), h4⟩⟩⟩
     obtain ⟨q, e, hq⟩ := SB.eqN (G := G1) (by omega) (h3 f hf).2 h4
     unfold stB dG2
     rw [e, ← hq]
     cases f.2.1 <;> cases q <;> simp
end
def aP8 (p x : D) : Prop := ∃ ns w ts tr li re li' re', p = mkS ns w ts tr li re ∧ LiF li li' ∧ ReF re re' ∧ ((mkS ns w ts tr li' re' = evS ∧ x = .str aH0) ∨ (mkS ns w ts tr li' re' ≠ evS ∧ x = mkS ns w ts tr li' re'))
theorem cM5 {ns ns' : List (D × D)} {w w' : Str} {ts ts' : List Str} {tr tr' : List Bool} {li re li' re' : D} (h : mkS ns w ts tr li re = mkS ns' w' ts' tr' li' re') : ns.map stD = ns'.map stD ∧ w = w' ∧ ts.map D.str = ts'.map D.str ∧ tr.map D.bl = tr'.map D.bl ∧ li = li' ∧ re = re' := by
 unfold mkS at h
 simp only [D.tup.injEq, List.cons.injEq, D.str.injEq, and_true] at h
 exact ⟨h.1, h.2.1.1, h.2.1.2, h.2.2.1, h.2.2.2.1, h.2.2.2.2⟩
theorem dJ5 {k : Nat} {ns : List (D × D)} {w : Str} {ts : List Str} {tr : List Bool} {li re : D} {G : DH} (hk : k ≤ 7) (h1 : ∀ p ∈ ns, aK4 p) (h2 : ns.length ≤ 100) (h3 : ∀ z ∈ ts, z.length ≤ 1000) (h4 : ts.length ≤ 100) (h5 : tr.length ≤ 100) (h6 : LiP (SB k) li) (h7 : ReP (SB k) re) :
 Wp (bG3 [.tup (ns.map stD), .tup [.str w, .tup (ts.map D.str)], .tup (tr.map D.bl), li, re]) G fun x G' => Ap G G' ∧ aP8 (mkS ns w ts tr li re) x ∧ SB (k + 1) x := by
 refine R3 (show Wp (cE3 [some (.tup (ns.map stD)), some (.tup [.str w, .tup (ts.map D.str)]), some (.tup (tr.map D.bl)), some li, some re, none]) G _ from ?_)
 refine j7.mpr <| M9 <| U5.mpr <| J3 (x := .tup (ns.map stD)) rfl <| J3 (x := .tup [.str w, .tup (ts.map D.str)]) rfl <| J3 (x := .tup (tr.map D.bl)) rfl <| m8 <| m9 (as := [li]) rfl rfl <| (eE5 (by omega) h6).mono ?_
 rintro li' _ ⟨rfl, f1, f2⟩
 refine m8 <| m9 (as := [re]) rfl rfl <| (dW7 (by omega) h7).mono ?_
 rintro re' G1 ⟨j1, f3, f4⟩
 have hs : SB (k + 1) (mkS ns w ts tr li' re') := .inr ⟨ns, w, ts, tr, li', re', rfl, h1, h2, h3, h4, h5, f2, f4⟩
 obtain ⟨b, e, hb⟩ := SB.eqN (G := G1) (k := k + 2) (by omega) (SB.le (by omega) hs) (dM9 (n := k))
 refine m6.mpr ⟨sz, R1 <| bP2.mpr <| J4 <| Q3 (x := mkS ns w ts tr li' re') (y := evS) rfl rfl <| bC9.mpr ⟨b, e, _, rfl, ?_⟩⟩
 cases b with
 | true => exact d9 (a := .str aH0) rfl (aD1 ⟨j1, ⟨_, _, _, _, _, _, _, _, rfl, f1, f3, .inl ⟨hb.mp rfl, rfl⟩⟩, .inl rfl⟩)
 | false => exact d9 (a := mkS ns w ts tr li' re') rfl (aD1 ⟨j1, ⟨_, _, _, _, _, _, _, _, rfl, f1, f3, .inr ⟨fun z => (nomatch hb.mpr z), rfl⟩⟩, hs⟩)
theorem bA3 {k : Nat} {p : D} {G : DH} (hk : k ≤ 7) (hp : SB (k + 1) p) (ha : p ≠ .str aH0) : Wp (R6 [p]) G fun x G' => Ap G G' ∧ aP8 p x ∧ SB (k + 1) x := by
 rcases hp with rfl | ⟨ns, w, ts, tr, li, re, rfl, h1, h2, h3, h4, h5, h6, h7⟩
 · exact (ha rfl).elim
 · exact R3 (show Wp (aR0 [some (mkS ns w ts tr li re)]) G _ from R1 <| m9 (as := [.tup (ns.map stD), .tup [.str w, .tup (ts.map D.str)], .tup (tr.map D.bl), li, re]) rfl rfl <| dJ5 hk h1 h2 h3 h4 h5 h6 h7)
theorem aP8.again {p x y : D} (h : aP8 p x) (hx : x ≠ .str aH0) (k : aP8 x y) : y = x := by
 obtain ⟨ns, w, ts, tr, li, re, li', re', rfl, f1, f2, ⟨_, rfl⟩ | ⟨hne, rfl⟩⟩ := h
 · exact (hx rfl).elim
 · obtain ⟨ns2, w2, ts2, tr2, li2, re2, li3, re3, e, g1, g2, g⟩ := k
   obtain ⟨e1, e2, e3, e4, rfl, rfl⟩ := cM5 e
   have a1 := f1.again g1
   have a2 := f2.again g2
   subst a1 a2
   have e5 : mkS ns2 w2 ts2 tr2 li3 re3 = mkS ns w ts tr li3 re3 := by unfold mkS; rw [← e1, ← e2, ← e3, ← e4]
   rw [e5] at g
   rcases g with ⟨z, _⟩ | ⟨_, rfl⟩
   · exact (hne z).elim
   · rfl
theorem aP8.same {b n k : Nat} {p x v : D} (h : aP8 p x) (hp : SB (k + 1) p) (hv : VW b (n + 1) v) : inP (n + 1) v x = inP (n + 1) v p := by
 obtain ⟨ns, w, ts, tr, li, re, li', re', rfl, f1, f2, g⟩ := h
 have hre : ReP (SB k) re := by
  rcases hp with e | ⟨ns', w', ts', tr', li2, re2, e, _, _, _, _, _, _, h7⟩
  · cases e
  · rw [(cM5 e).2.2.2.2.2]; exact h7
 have main : inP (n + 1) v (mkS ns w ts tr li' re') = inP (n + 1) v (mkS ns w ts tr li re) := by
  rcases id hv with ⟨i, rfl⟩ | ⟨c, rfl⟩ | ⟨z, rfl, hz⟩ | ⟨l, rfl, hl, hv⟩ | ⟨ps, rfl, hl, hn, hv⟩
  · rfl
  · rfl
  · rfl
  · rw [aQ2, aQ2]; exact f1.same hv
  · rw [aQ0, aQ0]; exact f2.same hre hv
 rcases g with ⟨z, rfl⟩ | ⟨_, rfl⟩
 · rw [← main, z, dB2 hv]; rfl
 · exact main
def YA (i : Nat) : Fe := (d7 Q4 (d7 Q4 (T9 (c7 i) (W9) (W7 (c7 6))) (c7 7)) (T9 (c7 i) (W7 (d7 Q4 (c7 6) (cE (.int 1)))) (W9)))
def YB (i j : Nat) : Fs := (aV1 (mtE aD5 aG3 (c7 j) (q13 (q16 (fnX 2 S6) (q13 (c7 0) (q13 (q16 (fnX 1 R6) (q13 (YA i) (q14))) (q14)))) (q14))))
def YC : Fs := (j8 (o9 (T9 (c7 1) (W7 (c7 6)) (W7 (d7 Q4 (c7 6) (cE (.int 1))))) (q15 7)) (j8 (YB 2 4) (YB 3 5)))
theorem eH1 : aC4 = j8 (o9 (q16 (fnX 0 o4) (q14)) (q15 2)) (j8 (o9 (t6 (q13 (t6 (q13 (t6 (q13 (cE .non) (q13 (cE .non) (q14)))) (q14))) (q13 (t6 (q13 (cE (.str ("but" : Str))) (q13 (t6 (q14)) (q14)))) (q13 (t6 (q13 (cE (.bl false)) (q13 (cE (.bl true)) (q14)))) (q13 (t6 (q13 (t6 (q14)) (q13 (cE (.str ("any" : Str))) (q14)))) (q13 (t6 (q13 (t6 (q14)) (q13 (cE (.str ("any" : Str))) (q14)))) (q14))))))) (q15 3)) (j8 (o9 (S5 (q14)) (q15 4)) (j8 (o9 (S5 (q14)) (q15 5)) (j8 (aI3 (V5 (q13 (cE (.int 5)) (q14))) (q15 6) YC) (K5 (S5 (q13 (d7 inD (cE (.bl true)) (c7 4)) (q13 (d7 aF3 (cE (.bl false)) (c7 5)) (q14))))))))) := rfl
section
variable {c n k a b j : Nat} {v s t : D} {σ : DSt} {A B : List Bool} {G G0 : DH}
theorem dN4 {i : Nat} (hc : c ≤ 900) (hn : n + 1 ≤ 60) (hk : k ≤ 7) (hv : VW c (n + 1) v) (hs : SB (k + 1) s) (ha : s ≠ .str aH0) (h0 : c7 0 σ G = some (.ok v, G)) (h1 : ∀ G, YA i σ G = some (.ok s, G)) (hj : c7 j σ G = some (.ok (.ref a), G)) (e : G[a]? = some (.lst (A.map D.bl))) (hA : A.length ≤ 50) (g : Gr G0 G) (h2 : G0.length ≤ a) :
 Wp (YB i j σ) G fun fl G' => fl = .nx σ ∧ Gr G0 G' ∧ G'[a]? = some (.lst ((A ++ [inP (n + 1) v s]).map D.bl)) ∧ ∀ q o, q ≠ a → G[q]? = some o → G'[q]? = some o := by
 have bg := big
 refine aY1.mpr <| bJ3.mpr <| d9 hj <| (aK0 e).mpr <| m8 <| P0 <| J3 h0 <| m8 <| P0 <| J3 (h1 G) <| m6.mpr <| aB6.mpr ⟨rfl, (bA3 hk hs ha).mono ?_⟩
 rintro x G1 ⟨j1, hm, hx⟩
 refine m6.mpr <| aB6.mpr ⟨rfl, (aY5 (b := c) (by omega) (n + 1) (k + 1) 60 v x G1 hn hv hx).mono ?_⟩
 rintro _ G2 ⟨rfl, j2⟩
 have j := j1.trans j2
 have e2 := j.at e
 refine m6.mpr <| (aJ6 e2 (by rw [List.length_map]; omega)).mpr ⟨rfl, (g.trans j.gr).set h2, ?_, fun q o hq eq => ?_⟩
 · rw [List.getElem?_set_self (lt_of_get e2), List.map_append, hm.same hs hv]; rfl
 · rw [List.getElem?_set_ne (Ne.symm hq)]; exact j.at eq
def aS (ns : List (D × D)) (w : Str) (ts : List Str) (tr : List Bool) (li re : D) : Nat → D
 | 0 => mkS ns wOf [] [] .non .non
 | 1 => mkS [] w ts [] .non .non
 | 2 => mkS [] wOf [] tr .non .non
 | 3 => mkS [] wOf [] [] li .non
 | _ => mkS [] wOf [] [] .non re
noncomputable def eA : D := .tup [.tup [], .str aH0]
def bS (ns : List (D × D)) (w : Str) (ts : List Str) (tr : List Bool) (li re : D) : Nat → D
 | 0 => mkS ns "but" [] [false, true] eA eA
 | 1 => mkS [(.non, .non)] w ts [false, true] eA eA
 | 2 => mkS [(.non, .non)] "but" [] tr eA eA
 | 3 => mkS [(.non, .non)] "but" [] [false, true] li eA
 | _ => mkS [(.non, .non)] "but" [] [false, true] eA re
def prt (ns : List (D × D)) (w : Str) (ts : List Str) (tr : List Bool) (li re : D) : Nat → D
 | 0 => .tup (ns.map stD)
 | 1 => .tup [.str w, .tup (ts.map D.str)]
 | 2 => .tup (tr.map D.bl)
 | 3 => li
 | _ => re
variable {ns : List (D × D)} {w : Str} {ts : List Str} {tr : List Bool} {li re : D}
theorem dG4 : LiP (SB (k + 1)) eA := .inr ⟨[], .str aH0, rfl, by decide, (fun x hx => by cases hx), .inl rfl⟩
theorem dF3 : ReP (SB (k + 1)) eA := .inr ⟨[], .str aH0, rfl, by decide, List.nodup_nil, (fun x hx => by cases hx), .inl rfl⟩
theorem aP1 (h1 : ∀ p ∈ ns, aK4 p) (h2 : ns.length ≤ 100) (h3 : ∀ z ∈ ts, z.length ≤ 1000) (h4 : ts.length ≤ 100) (h5 : tr.length ≤ 100) (h6 : LiP (SB k) li) (h7 : ReP (SB k) re) : SB (k + 1) (mkS ns w ts tr li re) := .inr ⟨ns, w, ts, tr, li, re, rfl, h1, h2, h3, h4, h5, h6, h7⟩
theorem dH8 : ∀ p ∈ ([] : List (D × D)), aK4 p := fun p hp => by cases hp
theorem cI2 : ∀ p ∈ [(D.non, D.non)], aK4 p := fun p hp => by rw [List.mem_singleton] at hp; subst hp; exact ⟨trivial, trivial, fun a b ea => by cases ea⟩
theorem bZ0 : ∀ z ∈ ([] : List Str), z.length ≤ 1000 := fun p hp => by cases hp
theorem eB7 {i : Nat} (h1 : ∀ p ∈ ns, aK4 p) (h2 : ns.length ≤ 100) (h3 : ∀ z ∈ ts, z.length ≤ 1000) (h4 : ts.length ≤ 100) (h5 : tr.length ≤ 100) (h6 : LiP (SB (k + 1)) li) (h7 : ReP (SB (k + 1)) re) : SB (k + 2) (aS ns w ts tr li re i) ∧ SB (k + 2) (bS ns w ts tr li re i) := by
 match i with
 | 0 => exact ⟨aP1 h1 h2 bZ0 (by decide) (by decide) (.inl rfl) (.inl rfl), aP1 h1 h2 bZ0 (by decide) (by decide) dG4 dF3⟩
 | 1 => exact ⟨aP1 dH8 (by decide) h3 h4 (by decide) (.inl rfl) (.inl rfl), aP1 cI2 (by decide) h3 h4 (by decide) dG4 dF3⟩
 | 2 => exact ⟨aP1 dH8 (by decide) bZ0 (by decide) h5 (.inl rfl) (.inl rfl), aP1 cI2 (by decide) bZ0 (by decide) h5 dG4 dF3⟩
 | 3 => exact ⟨aP1 dH8 (by decide) bZ0 (by decide) (by decide) h6 (.inl rfl), aP1 cI2 (by decide) bZ0 (by decide) (by decide) h6 dF3⟩
 | i + 4 => exact ⟨aP1 dH8 (by decide) bZ0 (by decide) (by decide) (.inl rfl) h7, aP1 cI2 (by decide) bZ0 (by decide) (by decide) dG4 h7⟩
theorem dM6 {i : Nat} : aS ns w ts tr li re i ≠ .str aH0 ∧ bS ns w ts tr li re i ≠ .str aH0 := by
 match i with
 | 0 => exact ⟨fun z => (nomatch z), fun z => (nomatch z)⟩
 | 1 => exact ⟨fun z => (nomatch z), fun z => (nomatch z)⟩
 | 2 => exact ⟨fun z => (nomatch z), fun z => (nomatch z)⟩
 | 3 => exact ⟨fun z => (nomatch z), fun z => (nomatch z)⟩
 | i + 4 => exact ⟨fun z => (nomatch z), fun z => (nomatch z)⟩
theorem dD4 (hv : VW c (n + 1) v) : inV (.bl true) (([0, 1, 2, 3, 4].map fun i => D.bl (inP (n + 1) v (aS ns w ts tr li re i))).map toV) = inP (n + 1) v (mkS ns w ts tr li re) ∧
 inV (.bl false) (([0, 1, 2, 3, 4].map fun i => D.bl (inP (n + 1) v (bS ns w ts tr li re i))).map toV) = !inP (n + 1) v (mkS ns w ts tr li re) := by
 have ev := dB2 hv
 rcases id hv with ⟨i, rfl⟩ | ⟨q, rfl⟩ | ⟨z, rfl, hz⟩ | ⟨l, rfl, hl, hv'⟩ | ⟨ps, rfl, hl, hn, hv'⟩
 · show inV (.bl true) [.bl ((ns.map stD).any (bL4 i)), .bl false, .bl false, .bl false, .bl false] = (ns.map stD).any (bL4 i) ∧ inV (.bl false) [.bl ((ns.map stD).any (bL4 i)), .bl true, .bl true, .bl true, .bl true] = !(ns.map stD).any (bL4 i)
   cases (ns.map stD).any (bL4 i) <;> exact ⟨rfl, rfl⟩
 · show inV (.bl true) [.bl false, .bl false, .bl (inV (.bl q) ((tr.map D.bl).map toV)), .bl false, .bl false] = inV (.bl q) ((tr.map D.bl).map toV) ∧ inV (.bl false) [.bl (inV (.bl q) [.bl false, .bl true]), .bl (inV (.bl q) [.bl false, .bl true]), .bl (inV (.bl q) ((tr.map D.bl).map toV)), .bl (inV (.bl q) [.bl false, .bl true]), .bl (inV (.bl q) [.bl false, .bl true])] = !inV (.bl q) ((tr.map D.bl).map toV)
   cases inV (.bl q) ((tr.map D.bl).map toV) <;> cases q <;> exact ⟨rfl, rfl⟩
 · show inV (.bl true) [.bl false, .bl (inV (.str z) ((ts.map D.str).map toV) == (w == wOf)), .bl false, .bl false, .bl false] = (inV (.str z) ((ts.map D.str).map toV) == (w == wOf)) ∧ inV (.bl false) [.bl true, .bl (inV (.str z) ((ts.map D.str).map toV) == (w == wOf)), .bl true, .bl true, .bl true] = !(inV (.str z) ((ts.map D.str).map toV) == (w == wOf))
   cases (inV (.str z) ((ts.map D.str).map toV) == (w == wOf)) <;> exact ⟨rfl, rfl⟩
 · have e0 : aO1 (inP n) l eA = true := (aQ2 (ns := [(.non, .non)]) (w := "but") (ts := []) (tr := [false, true]) (re := eA)).symm.trans ev
   have ea : ([0, 1, 2, 3, 4].map fun i => D.bl (inP (n + 1) (.tup [.str V3, .tup l]) (aS ns w ts tr li re i))) = [.bl false, .bl false, .bl false, .bl (aO1 (inP n) l li), .bl false] := by
    rfl
   have eb : ([0, 1, 2, 3, 4].map fun i => D.bl (inP (n + 1) (.tup [.str V3, .tup l]) (bS ns w ts tr li re i))) = [.bl true, .bl true, .bl true, .bl (aO1 (inP n) l li), .bl true] := by
    show [D.bl (aO1 (inP n) l eA), .bl (aO1 (inP n) l eA), .bl (aO1 (inP n) l eA), .bl (aO1 (inP n) l li), .bl (aO1 (inP n) l eA)] = _
    rw [e0]
   rw [ea, eb, aQ2]
   cases aO1 (inP n) l li <;> exact ⟨rfl, rfl⟩
 · have e0 : aO2 (inP n) (ps.map t8) eA = true := (aQ0 (ns := [(.non, .non)]) (w := "but") (ts := []) (tr := [false, true]) (li := eA)).symm.trans ev
   have ea : ([0, 1, 2, 3, 4].map fun i => D.bl (inP (n + 1) (.tup [.str aB9, .tup (ps.map t8)]) (aS ns w ts tr li re i))) = [.bl false, .bl false, .bl false, .bl false, .bl (aO2 (inP n) (ps.map t8) re)] := by
    rfl
   have eb : ([0, 1, 2, 3, 4].map fun i => D.bl (inP (n + 1) (.tup [.str aB9, .tup (ps.map t8)]) (bS ns w ts tr li re i))) = [.bl true, .bl true, .bl true, .bl true, .bl (aO2 (inP n) (ps.map t8) re)] := by
    show [D.bl (aO2 (inP n) (ps.map t8) eA), .bl (aO2 (inP n) (ps.map t8) eA), .bl (aO2 (inP n) (ps.map t8) eA), .bl (aO2 (inP n) (ps.map t8) eA), .bl (aO2 (inP n) (ps.map t8) re)] = _
    rw [e0]
   rw [ea, eb, aQ0]
   cases aO2 (inP n) (ps.map t8) re <;> exact ⟨rfl, rfl⟩
end
section
variable {c n k a b : Nat} {v : D} {ns : List (D × D)} {w : Str} {ts : List Str} {tr : List Bool} {li re : D} {A B : List Bool} {G G0 : DH} {u6 u7 : Option D}
def sg (v p : D) (a b : Nat) (x y : Option D) : DSt := [some v, some p, some noS, some evS, some (.ref a), some (.ref b), x, y]
theorem eJ3 {i : Nat} (hi : i < 5) : (T9 (c7 1) (W7 (c7 6)) (W7 (d7 Q4 (c7 6) (cE (.int 1))))) (sg v (mkS ns w ts tr li re) a b (some (.int i)) u7) G = some (.ok (.tup [prt ns w ts tr li re i]), G) := by
 match i, hi with
 | 0, _ => rfl
 | 1, _ => rfl
 | 2, _ => rfl
 | 3, _ => rfl
 | 4, _ => rfl
theorem eJ0 {i : Nat} (hi : i < 5) : YA 2 (sg v (mkS ns w ts tr li re) a b (some (.int i)) (some (.tup [prt ns w ts tr li re i]))) G = some (.ok (aS ns w ts tr li re i), G) := by
 match i, hi with
 | 0, _ => rfl
 | 1, _ => rfl
 | 2, _ => rfl
 | 3, _ => rfl
 | 4, _ => rfl
theorem eI9 {i : Nat} (hi : i < 5) : YA 3 (sg v (mkS ns w ts tr li re) a b (some (.int i)) (some (.tup [prt ns w ts tr li re i]))) G = some (.ok (bS ns w ts tr li re i), G) := by
 match i, hi with
 | 0, _ => rfl
 | 1, _ => rfl
 | 2, _ => rfl
 | 3, _ => rfl
 | 4, _ => rfl
theorem bJ8 {i : Nat} {W2 : List D} {P : Fl → DH → Prop} (hi : i < 5) (hc : c ≤ 900) (hn : n + 1 ≤ 60) (hk : k ≤ 6) (hv : VW c (n + 1) v) (hs : ∀ i, SB (k + 2) (aS ns w ts tr li re i) ∧ SB (k + 2) (bS ns w ts tr li re i)) (ea : G[a]? = some (.lst (A.map D.bl))) (eb : G[b]? = some (.lst (B.map D.bl))) (hab : a ≠ b) (hA : A.length ≤ 50) (hB : B.length ≤ 50) (g : Gr G0 G) (h1 : G0.length ≤ a) (h2 : G0.length ≤ b)
 (next : ∀ G', Gr G0 G' → G'[a]? = some (.lst ((A ++ [inP (n + 1) v (aS ns w ts tr li re i)]).map D.bl)) → G'[b]? = some (.lst ((B ++ [inP (n + 1) v (bS ns w ts tr li re i)]).map D.bl)) → Wp (aC0 (q15 6) YC (fun _ => true) W2 (sg v (mkS ns w ts tr li re) a b (some (.int i)) (some (.tup [prt ns w ts tr li re i])))) G' P) :
 Wp (aC0 (q15 6) YC (fun _ => true) (.int i :: W2) (sg v (mkS ns w ts tr li re) a b u6 u7)) G P := by
 refine aB3.mpr ⟨rfl, V9.mpr ?_⟩
 refine j7.mpr <| M9 <| d9 (eJ3 hi) ?_
 refine j7.mpr <| (dN4 hc hn (by omega) hv (hs i).1 dM6.1 rfl (fun _ => eJ0 hi) rfl ea hA g h1).mono ?_
 rintro _ G1 ⟨rfl, g1, e1, o1⟩
 refine (dN4 hc hn (by omega) hv (hs i).2 dM6.2 rfl (fun _ => eI9 hi) rfl (o1 b _ (Ne.symm hab) eb) hB g1 h2).mono ?_
 rintro _ G2 ⟨rfl, g2, e2, o2⟩
 exact next G2 g2 (o2 a _ hab e1) e2
theorem cL9 {p : Nat} {x : Bool} (e : G[p]? = some (.lst (A.map D.bl))) : inB (.bl x) (.ref p) G = some (inV (.bl x) ((A.map D.bl).map toV)) := by
 unfold inB
 simp only [e]
 rw [cH5, if_pos (show (S8 (D.bl x) && true) = true from rfl)]
 rfl
theorem eE3 (hc : c ≤ 900) (hn : n + 1 ≤ 60) (hk : k ≤ 6) (hv : VW c (n + 1) v) (h1 : ∀ p ∈ ns, aK4 p) (h2 : ns.length ≤ 100) (h3 : ∀ z ∈ ts, z.length ≤ 1000) (h4 : ts.length ≤ 100) (h5 : tr.length ≤ 100) (h6 : LiP (SB (k + 1)) li) (h7 : ReP (SB (k + 1)) re) :
 Wp (Z6 [v, mkS ns w ts tr li re]) G fun x G' => Ap G G' ∧ ∃ q, x = .ref q ∧ G'[q]? = some (.lst [.bl (inP (n + 1) v (mkS ns w ts tr li re)), .bl (inP (n + 1) v (mkS ns w ts tr li re))]) := by
 have hs : ∀ i, SB (k + 2) (aS ns w ts tr li re i) ∧ SB (k + 2) (bS ns w ts tr li re i) := fun i => eB7 h1 h2 h3 h4 h5 h6 h7
 refine R3 (show Wp (aC4 [some v, some (mkS ns w ts tr li re), none, none, none, none, none, none]) G _ from ?_)
 rw [eH1]
 refine o7 (G' := G) rfl <| o7 (G' := G) rfl <| o7 (G' := G ++ [.lst []]) rfl <| o7 (σ' := sg v (mkS ns w ts tr li re) G.length (G ++ [DO.lst []]).length none none) (G' := G ++ [.lst []] ++ [.lst []]) rfl ?_
 refine j7.mpr <| aF5.mpr <| rng1.mpr <| d9 (a := [D.int 5]) rfl <| (rng1_int ⟨by decide, by decide⟩).mpr ?_
 have hlen : (G ++ [DO.lst []]).length = G.length + 1 := List.length_append
 have er : K8 0 (Int.toNat 5) = [.int (0 : Nat), .int (1 : Nat), .int (2 : Nat), .int (3 : Nat), .int (4 : Nat)] := rfl
 show Wp (aC0 (q15 6) YC (fun _ => true) (K8 0 (Int.toNat 5)) _) _ _
 rw [er, hlen]
 have g0 : Gr G (G ++ [.lst []] ++ [.lst []]) := Gr.app.trans Gr.app
 have ea : (G ++ [DO.lst []] ++ [DO.lst []])[G.length]? = some (.lst (([] : List Bool).map D.bl)) := Q0 j9
 have eb : (G ++ [DO.lst []] ++ [DO.lst []])[G.length + 1]? = some (.lst (([] : List Bool).map D.bl)) := by rw [← hlen]; exact j9
 have ab : G.length ≠ G.length + 1 := by omega
 have l1 : G.length ≤ G.length + 1 := by omega
 refine bJ8 (i := 0) (by decide) hc hn hk hv hs ea eb ab (by decide) (by decide) g0 (Nat.le_refl _) l1 fun G1 g1 a1 b1 => ?_
 refine bJ8 (i := 1) (by decide) hc hn hk hv hs a1 b1 ab (show 1 ≤ 50 by decide) (show 1 ≤ 50 by decide) g1 (Nat.le_refl _) l1 fun G2 g2 a2 b2 => ?_
 refine bJ8 (i := 2) (by decide) hc hn hk hv hs a2 b2 ab (show 2 ≤ 50 by decide) (show 2 ≤ 50 by decide) g2 (Nat.le_refl _) l1 fun G3 g3 a3 b3 => ?_
 refine bJ8 (i := 3) (by decide) hc hn hk hv hs a3 b3 ab (show 3 ≤ 50 by decide) (show 3 ≤ 50 by decide) g3 (Nat.le_refl _) l1 fun G4 g4 a4 b4 => ?_
 refine bJ8 (i := 4) (by decide) hc hn hk hv hs a4 b4 ab (show 4 ≤ 50 by decide) (show 4 ≤ 50 by decide) g4 (Nat.le_refl _) l1 fun G5 g5 a5 b5 => ?_
 refine aB4.mpr ⟨rfl, ?_⟩
 have t := dD4 (ns := ns) (w := w) (ts := ts) (tr := tr) (li := li) (re := re) hv
 refine R1 <| aB8.mpr <| m8 <| Q3 (x := .bl true) (y := .ref G.length) rfl rfl <| cA8.mpr ⟨_, cL9 a5, m8 <| Q3 (x := .bl false) (y := .ref (G.length + 1)) rfl rfl <| aM5.mpr ⟨_, cL9 b5, m6.mpr ⟨sz, aD1 ⟨g5.ap.trans Ap.one, G5.length, rfl, ?_⟩⟩⟩⟩
 refine j9.trans ?_
 have t1 : inV (.bl true) (((([] ++ [inP (n + 1) v (aS ns w ts tr li re 0)] ++ [inP (n + 1) v (aS ns w ts tr li re 1)] ++ [inP (n + 1) v (aS ns w ts tr li re 2)] ++ [inP (n + 1) v (aS ns w ts tr li re 3)] ++ [inP (n + 1) v (aS ns w ts tr li re 4)]) : List Bool).map D.bl).map toV) = inP (n + 1) v (mkS ns w ts tr li re) := t.1
 have t2 : inV (.bl false) (((([] ++ [inP (n + 1) v (bS ns w ts tr li re 0)] ++ [inP (n + 1) v (bS ns w ts tr li re 1)] ++ [inP (n + 1) v (bS ns w ts tr li re 2)] ++ [inP (n + 1) v (bS ns w ts tr li re 3)] ++ [inP (n + 1) v (bS ns w ts tr li re 4)]) : List Bool).map D.bl).map toV) = !inP (n + 1) v (mkS ns w ts tr li re) := t.2
 rw [t1, t2, Bool.not_not]
end
theorem cO1 {α : Type} {ks : List α} {F : α → Bool} : inV (.bl false) ((ks.map fun k => D.bl (F k)).map toV) = !ks.all F := by
 unfold inV
 rw [List.any_map, List.any_map]
 induction ks with
 | nil => rfl
 | cons k r ih =>
   rw [List.any_cons, List.all_cons, ih]
   have e' : (((fun y => eqV y (V.bl false)) ∘ toV) ∘ fun k => D.bl (F k)) k = !F k := by
    show eqV (V.bl (F k)) (V.bl false) = _
    cases F k <;> rfl
   rw [e']
   cases F k <;> cases r.all F <;> rfl
theorem cC1 {α : Type} {G : DH} {p : Nat} {ks : List α} {F : α → Bool} (e : G[p]? = some (.lst (ks.map fun k => D.bl (F k)))) : inB (.bl false) (.ref p) G = some (!ks.all F) := by
 have hf : (ks.map fun k => D.bl (F k)).all S8 = true := by rw [List.all_map]; exact List.all_eq_true.mpr fun _ _ => rfl
 unfold inB
 simp only [e]
 rw [hf, if_pos (show (S8 (D.bl false) && true) = true from rfl)]
 show some (inV (.bl false) _) = _
 rw [cO1]
theorem cK7 {g : Fg} {t : DSt → M Bool} {e : Fe} {ck : DH → Bool} {p : D → Bool} {f : D → D} {G : DH} (hck : ck G = true) (S : DSt → Prop) : ∀ (items : List D) (σ : DSt), S σ →
 (∀ d ∈ items, ∀ σ, S σ → ∃ σ1, g d σ G = some (.ok σ1, G) ∧ S σ1 ∧ t σ1 G = some (.ok (p d), G) ∧ (p d = true → e σ1 G = some (.ok (f d), G))) → K4 g t e ck items σ G = some (.ok ((items.filter p).map f), G)
 | [], σ, _, _ => by unfold K4; simp only [hck, if_true]; rfl
 | d :: r, σ, i, h => by
   obtain ⟨σ1, e1, i1, e2, e3⟩ := h d (by simp) σ i
   have ih := cK7 hck S r σ1 i1 fun x hx => h x (by simp [hx])
   unfold K4
   simp only [hck, if_true]
   rw [M.bind_ok e1, M.bind_ok e2]
   cases hp : p d with
   | true =>
     rw [if_pos rfl, M.bind_ok (e3 hp), M.bind_ok ih, List.filter_cons_of_pos hp]; rfl
   | false =>
     rw [if_neg (by decide), List.filter_cons_of_neg (by rw [hp]; decide)]; exact ih
theorem eH2 : Z2 = j8 X1 (j8 X2 (j8 X3 (j8 X4 (j8 X5 (j8 X6 X7))))) := rfl
section
variable {c n k : Nat} {ns : List (D × D)} {w : Str} {ts : List Str} {tr : List Bool} {li re m : D} {l fs : List D} {G : DH}
theorem dZ2 (hc : c ≤ 900) (hn : n ≤ 60) (hl : l.length ≤ c) (hv : ∀ x ∈ l, VW c n x) (hf : fs.length ≤ 100) (hfs : ∀ x ∈ fs, SB k x) (hm : SB k m) :
 Wp (X1 [some (.tup [.str V3, .tup l]), some (mkS ns w ts tr (.tup [.tup fs, m]) re), none, none, none, none, none, none]) G fun fl G' => fl = .rt (.bl (aO1 (inP n) l (.tup [.tup fs, m]))) ∧ Ap G G' := by
 have bg := big
 have fr : (List.replicate (Int.toNat (l.length : Int)) [m]).flatten = List.replicate l.length m := by rw [Int.toNat_natCast, List.flatten_replicate_singleton]
 refine aZ3 (G1 := G) rfl <| o7 (G' := G) rfl <| j7.mpr <| M9 <| o6 <| d9 (a := .tup fs) rfl <| Q3 (x := .tup [m]) (y := .int l.length) rfl rfl <| (bY6 ⟨by omega, by omega, by show 1 ≤ 1000; omega⟩).mpr ?_
 rw [fr]
 refine (dU3 (by rw [List.length_replicate]; omega)).mpr <| o7 (G' := G) (σ' := [some (.tup [.str V3, .tup l]), some (mkS ns w ts tr (.tup [.tup fs, m]) re), some (.tup (fs ++ List.replicate l.length m)), some (.bl (decide ((l.length : Int) ≥ fs.length))), none, none, none, none]) rfl <| j7.mpr <| M9 <| cA7 (j := l.length) rfl (by omega) (by omega) ?_
 have er : K8 0 (Int.toNat (l.length : Int)) = (List.range l.length).map fun i : Nat => D.int (i : Int) := by rw [Int.toNat_natCast, cC4]
 rw [er]
 refine (aN3 (fun G' => Ap G G') (fun σ => ∃ u, σ = [u, some (.tup (fs ++ List.replicate l.length m)), some (D.tup [.str V3, .tup l])]) (fun d => match d with | .int k => .bl (inP n (l.getD k.toNat .non) ((fs ++ List.replicate l.length m).getD k.toNat .non)) | _ => .non) (fun _ _ => rfl) _ _ G ⟨_, rfl⟩ Ap.refl ?_).mono ?_
 · rintro d hd σ G1 ⟨u, rfl⟩ j1
   obtain ⟨q, hq, rfl⟩ := List.mem_map.mp hd
   have hk' : q < l.length := by simpa using hq
   have hk2 : q < (fs ++ List.replicate l.length m).length := by simp; omega
   have i1 : atI l (q : Int) = some (l.getD q .non) := atI_nat (by rw [List.getD_eq_getElem?_getD, List.getElem?_eq_getElem hk']; rfl)
   have i2 : atI (fs ++ List.replicate l.length m) (q : Int) = some ((fs ++ List.replicate l.length m).getD q .non) := atI_nat (by rw [List.getD_eq_getElem?_getD, List.getElem?_eq_getElem hk2]; rfl)
   have hm1 : l.getD q .non ∈ l := by rw [List.getD_eq_getElem?_getD, List.getElem?_eq_getElem hk']; exact List.getElem_mem hk'
   have hs : SB k ((fs ++ List.replicate l.length m).getD q .non) := by
    rcases cC0 (fs := fs) (m := m) hk' with h | h
    · exact hfs _ h
    · rw [h]; exact hm
   refine aY9 ⟨_, rfl⟩ <| P0 <| m8 <| Q3 (x := .tup l) (y := .int q) rfl rfl <| ix_tup.mpr ⟨_, i1, m8 <| Q3 (x := .tup (fs ++ List.replicate l.length m)) (y := .int q) rfl rfl <| ix_tup.mpr ⟨_, i2, m6.mpr <| aB6.mpr ⟨rfl, (aY5 (b := c) (by omega) n k 60 _ _ G1 hn (hv _ hm1) hs).mono fun x G2 z => ⟨j1.trans z.2, ?_⟩⟩⟩⟩
   rw [z.1]
   show _ = D.bl (inP n (l.getD (Int.toNat (q : Int)) .non) ((fs ++ List.replicate l.length m).getD (Int.toNat (q : Int)) .non))
   rw [Int.toNat_natCast]
 · rintro _ G1 ⟨j1, rfl⟩
   have em : ((List.range l.length).map fun i : Nat => D.int (i : Int)).map (fun d : D => match d with | .int k => D.bl (inP n (l.getD k.toNat .non) ((fs ++ List.replicate l.length m).getD k.toNat .non)) | _ => .non) = (List.range l.length).map fun k : Nat => D.bl (inP n (l.getD k .non) ((fs ++ List.replicate l.length m).getD k .non)) := by
    rw [List.map_map]
    refine List.map_congr_left fun q _ => ?_
    show D.bl (inP n (l.getD (Int.toNat (q : Int)) .non) ((fs ++ List.replicate l.length m).getD (Int.toNat (q : Int)) .non)) = _
    rw [Int.toNat_natCast]
   rw [em]
   refine R1 <| bP4.mpr <| d9 (a := .bl (decide ((l.length : Int) ≥ fs.length))) rfl <| aJ8.mpr ?_
   have ei : aO1 (inP n) l (.tup [.tup fs, m]) = (decide (fs.length ≤ l.length) && (List.range l.length).all fun k => inP n (l.getD k .non) ((fs ++ List.replicate l.length m).getD k .non)) := rfl
   rw [ei]
   by_cases hle : fs.length ≤ l.length
   · rw [if_pos (by simpa using hle)]
     exact Q3 (x := .bl false) (y := .ref G1.length) rfl rfl <| aM5.mpr ⟨_, cC1 j9, by rw [decide_eq_true hle, Bool.not_not, Bool.true_and], j1.trans Ap.one⟩
   · rw [if_neg (by simpa using hle)]
     exact ⟨by rw [decide_eq_false hle, decide_eq_false (by omega), Bool.false_and], j1.trans Ap.one⟩
end
section
variable {c n k : Nat} {ns : List (D × D)} {w : Str} {ts : List Str} {tr : List Bool} {li m : D} {ps : List (Str × D)} {fs : List (Str × Bool × D)} {G : DH}
theorem dB3 {z : Str} : inV (.str z) ((ps.map fun p => D.str p.1).map toV) = (ps.map t8).any (nmD z) := by
 unfold inV
 rw [List.any_map, List.any_map, List.any_map]
 congr 1
theorem cV7 {q : Nat} {z : Str} {l : List (Str × D)} (e : G[q]? = some (.lst (l.map fun p => D.str p.1))) : inB (.str z) (.ref q) G = some ((l.map t8).any (nmD z)) := by
 have hf : (l.map fun p => D.str p.1).all S8 = true := by rw [List.all_map]; exact List.all_eq_true.mpr fun _ _ => rfl
 unfold inB
 simp only [e]
 rw [hf, if_pos (show (S8 (D.str z) && true) = true from rfl)]
 show some (inV (.str z) _) = _
 rw [dB3]
noncomputable def dW9 : D → D
 | .tup [a, _, _] => a
 | _ => .non
theorem eC3 {q p : Nat} {v s : D} {u3 u4 : Option D} (hf : fs.length ≤ 100) (e : G[q]? = some (.lst (ps.map fun p => D.str p.1))) :
 Wp (X6 [some v, some s, some (.ref p), u3, u4, some (.tup (fs.map fdD)), some m, some (.ref q)]) G fun fl G' => Ap G G' ∧ if (fs.map fdD).all (V7 (ps.map t8)) = true then fl = .nx [some v, some s, some (.ref p), u3, u4, some (.tup (fs.map fdD)), some m, some (.ref q)] else fl = .rt (.bl false) := by
 have hc : K4 (q15 0) (aF6 (U0 (d7 ixD (c7 0) (cE (.int 1)))) (o5 (d7 aF3 (d7 ixD (c7 0) (cE (.int 0))) (c7 1)))) (d7 ixD (c7 0) (cE (.int 0))) (fun _ => true) (fs.map fdD) (U6 [none, some 7] [some v, some s, some (.ref p), u3, u4, some (.tup (fs.map fdD)), some m, some (.ref q)]) G = some (.ok (((fs.map fdD).filter fun d => !V7 (ps.map t8) d).map dW9), G) := by
  refine cK7 rfl (fun σ => ∃ u, σ = [u, some (.ref q)]) _ _ ⟨none, rfl⟩ fun d hd σ hσ => ?_
  obtain ⟨f, hf, rfl⟩ := List.mem_map.mp hd
  obtain ⟨u, rfl⟩ := hσ
  refine ⟨[some (fdD f), some (.ref q)], rfl, ⟨_, rfl⟩, aH9 ?_, fun _ => rfl⟩
  have em : V7 (ps.map t8) (fdD f) = ((ps.map t8).any (nmD f.1) || !f.2.1) := rfl
  rw [em]
  refine aK6 <| d9 (a := f.2.1) (G' := G) rfl ⟨fun g => J4 <| Q3 (x := .str f.1) (y := .ref q) rfl rfl <| aM5.mpr ⟨_, cV7 e, _, rfl, ?_, rfl⟩, fun g => ⟨?_, rfl⟩⟩
  · rw [g]; cases (ps.map t8).any (nmD f.1) <;> rfl
  · rw [g]; cases (ps.map t8).any (nmD f.1) <;> rfl
 have hemp : (((fs.map fdD).filter fun d => !V7 (ps.map t8) d).map dW9).isEmpty = (fs.map fdD).all (V7 (ps.map t8)) := by
  rw [List.isEmpty_map]
  generalize fs.map fdD = L
  induction L with
  | nil => rfl
  | cons a r ih =>
    rw [List.all_cons]
    cases h : V7 (ps.map t8) a with
    | true => rw [List.filter_cons_of_neg (by simp [h]), ih]; rfl
    | false => rw [List.filter_cons_of_pos (by simp [h])]; rfl
 refine aH2 <| J4 <| o6 <| Z9 (l := fs.map fdD) rfl (by rw [List.length_map]; omega) <| d9 hc <| aB8.mpr <| m6.mpr ⟨sz, (bS4 (Q0 j9) j9).mpr ?_⟩
 rw [hemp]
 refine ⟨_, rfl, fun g => ?_, fun g => ?_⟩
 · have g : (fs.map fdD).all (V7 (ps.map t8)) = false := by simpa using g
   exact d9 rfl ⟨Ap.one.trans Ap.one, by rw [g]; rfl⟩
 · have g : (fs.map fdD).all (V7 (ps.map t8)) = true := by simpa using g
   exact J2.mpr ⟨Ap.one.trans Ap.one, by rw [g]; rfl⟩
theorem dZ1 {p : Nat} {s : D} {u3 u4 u5 u7 : Option D} (hc : c ≤ 900) (hn : n ≤ 60) (hl : ps.length ≤ c) (hv : ∀ p ∈ ps, p.1.length ≤ 1000 ∧ VW c n p.2) (hfs : ∀ f ∈ fs, f.1.length ≤ 1000 ∧ SB k f.2.2) (hm : SB k m) (e : G[p]? = some (.dct (fs.map cv))) :
 Wp (X7 [some (.tup [.str aB9, .tup (ps.map t8)]), some s, some (.ref p), u3, u4, u5, some m, u7]) G fun fl G' => fl = .rt (.bl ((ps.map t8).all (aW5 (inP n) (fs.map fdD) m))) ∧ Ap G G' := by
 refine R1 <| o6 <| d9 (a := .bl false) (G' := G) rfl <| Z9 (l := ps.map t8) rfl (by rw [List.length_map]; omega) ?_
 refine (aN3 (fun G' => Ap G G') (fun σ => ∃ u v, σ = [u, v, some (.ref p), some m]) (fun d => .bl (aW5 (inP n) (fs.map fdD) m d)) (fun _ _ => rfl) _ _ G ⟨_, _, rfl⟩ Ap.refl ?_).mono ?_
 · rintro d hd σ G1 ⟨u, v, rfl⟩ j1
   obtain ⟨q, hq, rfl⟩ := List.mem_map.mp hd
   have hs : SB k (aA0 (fs.map fdD) m q.1) := by
    rcases bI0 (fs := fs) (m := m) (z := q.1) with ⟨f, hf, h⟩ | h
    · rw [h]; exact (hfs f hf).2
    · rw [h]; exact hm
   refine d9 (a := [some (.str q.1), some q.2, some (.ref p), some m]) (G' := G1) rfl ⟨rfl, ⟨_, _, rfl⟩, d9 rfl ⟨rfl, rfl, ?_⟩⟩
   refine P0 <| J3 (x := q.2) rfl <| m8 <| bJ3.mpr <| d9 (a := .ref p) rfl <| (bN0 (j1.at e)).mpr <| d9 (a := [.str q.1, m]) rfl <| (cJ1 (j1.at e)).mpr ?_
   rw [dF4]
   exact m6.mpr <| aB6.mpr ⟨rfl, (aY5 (b := c) (by omega) n k 60 _ _ G1 hn (hv q hq).2 hs).mono fun x G2 z => ⟨j1.trans z.2, z.1⟩⟩
 · rintro _ G1 ⟨j1, rfl⟩
   exact aM5.mpr ⟨_, cC1 j9, by rw [Bool.not_not], j1.trans Ap.one⟩
noncomputable def eA3 : D → D
 | .tup [a, _] => a
 | _ => .non
theorem dB6 {v : D} {re : D} (hc : c ≤ 900) (hn : n ≤ 60) (hk : k ≤ 8) (hv : VW c (n + 1) v) (ht : cE7 v = true) (h6 : LiP (SB k) li) (h7 : ReP (SB k) re) :
 Wp (U3 [v, mkS ns w ts tr li re]) G fun x G' => x = .bl (inP (n + 1) v (mkS ns w ts tr li re)) ∧ Ap G G' := by
 refine R3 (show Wp (Z2 [some v, some (mkS ns w ts tr li re), none, none, none, none, none, none]) G _ from ?_)
 rw [eH2]
 rcases hv with ⟨i, rfl⟩ | ⟨q, rfl⟩ | ⟨z, rfl, hz⟩ | ⟨l, rfl, hl, hv'⟩ | ⟨ps, rfl, hl, hn', hv'⟩
 · cases ht
 · cases ht
 · cases ht
 · rw [aQ2]
   rcases h6 with rfl | ⟨fs, m, rfl, hf, hfs, hm⟩
   · exact bP1 (d := .bl false) rfl ⟨rfl, Ap.refl⟩
   · exact dE3 (dZ2 hc hn hl hv' hf hfs hm) fun G1 q => ⟨rfl, q⟩
 · rw [aQ0]
   rcases h7 with rfl | ⟨fs, m, rfl, hf, hn2, hfs, hm⟩
   · exact o7 (G' := G) rfl <| bP1 (d := .bl false) rfl ⟨rfl, Ap.refl⟩
   · have bg := big
     have hc4 : K4 (q15 0) V2 (d7 ixD (c7 0) (cE (.int 0))) (fun _ => true) (ps.map t8) (U6 [none] [some (.tup [.str aB9, .tup (ps.map t8)]), some (mkS ns w ts tr li (.tup [.tup (fs.map fdD), m])), none, none, none, some (.tup (fs.map fdD)), some m, none]) G = some (.ok ((ps.map t8).map eA3), G) := by
      refine aA2 (I := fun σ => σ.length = 1) rfl _ _ rfl fun d hd σ hσ => ?_
      obtain ⟨f, hf, rfl⟩ := List.mem_map.mp hd
      match σ, hσ with
      | [u], _ => exact ⟨[some (t8 f)], rfl, rfl, rfl, rfl⟩
     have e4 : (ps.map t8).map eA3 = ps.map fun p => D.str p.1 := by rw [List.map_map]; rfl
     rw [e4] at hc4
     refine o7 (G' := G) rfl <| o7 (G' := G) rfl <| o7 (G' := G) (σ' := [some (.tup [.str aB9, .tup (ps.map t8)]), some (mkS ns w ts tr li (.tup [.tup (fs.map fdD), m])), none, none, none, some (.tup (fs.map fdD)), some m, none]) rfl <| j7.mpr <| M9 <| Z9 (l := ps.map t8) rfl (by rw [List.length_map]; omega) <| d9 hc4 ?_
     have e1 : (G ++ [DO.lst (ps.map fun p => D.str p.1)])[G.length]? = some (.lst (ps.map fun p => D.str p.1)) := j9
     have j1 : Ap G (G ++ [DO.lst (ps.map fun p => D.str p.1)]) := Ap.one
     show Wp (j8 X5 (j8 X6 X7) [some (.tup [.str aB9, .tup (ps.map t8)]), some (mkS ns w ts tr li (.tup [.tup (fs.map fdD), m])), none, none, none, some (.tup (fs.map fdD)), some m, some (.ref G.length)]) _ _
     generalize (G ++ [DO.lst (ps.map fun p => D.str p.1)]) = G1 at e1 j1
     have hc5 : K4 (q15 0) V2 (t6 (q13 (d7 ixD (c7 0) (cE (.int 0))) (q13 (d7 ixD (c7 0) (cE (.int 2))) (q14)))) (fun _ => true) (fs.map fdD) (U6 [none] [some (.tup [.str aB9, .tup (ps.map t8)]), some (mkS ns w ts tr li (.tup [.tup (fs.map fdD), m])), none, none, none, some (.tup (fs.map fdD)), some m, some (.ref G.length)]) G1 = some (.ok ((fs.map fdD).map fun d => match d with | .tup [a, b, c] => .tup [a, c] | _ => .non), G1) := by
      refine aA2 (I := fun σ => σ.length = 1) rfl _ _ rfl fun d hd σ hσ => ?_
      obtain ⟨f, hf, rfl⟩ := List.mem_map.mp hd
      match σ, hσ with
      | [u], _ => exact ⟨[some (fdD f)], rfl, rfl, rfl, rfl⟩
     have e5 : ((fs.map fdD).map fun d => match d with | .tup [a, b, c] => D.tup [a, c] | _ => .non) = fs.map fun f => .tup [.str f.1, f.2.2] := by rw [List.map_map]; rfl
     rw [e5] at hc5
     refine j7.mpr <| M9 <| P0 <| m8 <| Z9 (l := fs.map fdD) rfl (by rw [List.length_map]; omega) <| d9 hc5 <| m6.mpr <| (cA2 j9 (cA0 fs)).mpr ?_
     rw [dS4 fs hn2]
     have hq := Q0 (t := [DO.dct (fs.map cv)]) (Q0 (t := [DO.lst (fs.map fun f => D.tup [.str f.1, f.2.2])]) e1)
     have j2 : Ap G (G1 ++ [DO.lst (fs.map fun f => D.tup [.str f.1, f.2.2])] ++ [DO.dct (fs.map cv)]) := j1.trans (Ap.one.trans Ap.one)
     have hd : (G1 ++ [DO.lst (fs.map fun f => D.tup [.str f.1, f.2.2])] ++ [DO.dct (fs.map cv)])[(G1 ++ [DO.lst (fs.map fun f => D.tup [.str f.1, f.2.2])]).length]? = some (.dct (fs.map cv)) := j9
     show Wp (j8 X6 X7 [some (.tup [.str aB9, .tup (ps.map t8)]), some (mkS ns w ts tr li (.tup [.tup (fs.map fdD), m])), some (.ref (G1 ++ [DO.lst (fs.map fun f => D.tup [.str f.1, f.2.2])]).length), none, none, some (.tup (fs.map fdD)), some m, some (.ref G.length)]) _ _
     generalize (G1 ++ [DO.lst (fs.map fun f => D.tup [.str f.1, f.2.2])]).length = p at hd ⊢
     generalize (G1 ++ [DO.lst (fs.map fun f => D.tup [.str f.1, f.2.2])] ++ [DO.dct (fs.map cv)]) = G2 at hq j2 hd ⊢
     refine j7.mpr <| (eC3 (by omega) hq).mono ?_
     rintro fl G3 ⟨j3, hfl⟩
     have ei : aO2 (inP n) (ps.map t8) (.tup [.tup (fs.map fdD), m]) = ((fs.map fdD).all (V7 (ps.map t8)) && (ps.map t8).all (aW5 (inP n) (fs.map fdD) m)) := rfl
     rw [ei]
     cases hb : (fs.map fdD).all (V7 (ps.map t8)) with
     | false =>
       rw [hb, if_neg (by simp)] at hfl
       subst hfl
       exact ⟨rfl, j2.trans j3⟩
     | true =>
       rw [hb, if_pos rfl] at hfl
       subst hfl
       refine (dZ1 hc hn hl hv' hfs hm (j3.at hd)).mono ?_
       rintro _ G4 ⟨rfl, j4⟩
       exact ⟨rfl, (j2.trans j3).trans j4⟩
end
theorem Ap.fr {r : Nat} {G G' : DH} (h : J8 G r) (j : Ap G G') : Fr r G G' := by
 obtain ⟨t, rfl⟩ := j
 exact Fr.app h
theorem eJ5 : cL8 = j8 (aI3 (bA6 (q13 (T9 (c7 0) (W9) (W7 (cE (.int 42)))) (q14))) (aG2 2 (J5 (q15 1) (J5 (q15 2) (aI4)))) LB) (K5 (cE (.bl true))) := rfl
section
variable {r : Nat} {G : DH} {u0 u1 u2 u5 u7 u8 u10 : Option D} {ns : List (D × D)} {w : Str} {ts : List Str} {tr : List Bool} {li re s v : D}
def Prt (ns : List (D × D)) (ts : List Str) (tr : List Bool) (li re : D) : Prop := (∀ p ∈ ns, aK4 p) ∧ ns.length ≤ 100 ∧ (∀ z ∈ ts, z.length ≤ 1000) ∧ ts.length ≤ 100 ∧ tr.length ≤ 100 ∧ LiP (SB 3) li ∧ ReP (SB 3) re
theorem Prt.sb (h : Prt ns ts tr li re) : SB 4 (mkS ns w ts tr li re) := aP1 h.1 h.2.1 h.2.2.1 h.2.2.2.1 h.2.2.2.2.1 h.2.2.2.2.2.1 h.2.2.2.2.2.2
theorem eF0 {q p : Nat} {t : Bool} (e : G[q]? = some (.lst [.bl t, .bl t])) (e' : G[p]? = some (.lst [.bl t, .bl t])) : neD (.ref q) (.ref p) G = some (.ok (.bl false), G) := by
 have h : eqN 40 G (.ref q) (.ref p) = some true := by
  have h1 : aB7 G (.ref q) = some (false, [.bl t, .bl t]) := by simp only [aB7, e]
  have h2 : aB7 G (.ref p) = some (false, [.bl t, .bl t]) := by simp only [aB7, e']
  rw [aZ0]
  rw [h1, h2]
  cases t <;> rfl
 unfold neD
 rw [h]
 rfl
theorem dO9 {t : Bool} : neD (.bl t) (.bl t) G = some (.ok (.bl false), G) := by cases t <;> rfl
theorem eE8 (hp : Prt ns ts tr li re) (hm : aP8 (mkS ns w ts tr li re) s) (hs : SB 4 s) (hv : VW 120 8 v) :
 Wp (TT [u0, u1, u2, some (.ref r), some (mkS ns w ts tr li re), u5, some s, u7, u8, some v, u10]) G fun fl G' => Ap G G' ∧ ∃ u, fl = .nx [u0, u1, u2, some (.ref r), some (mkS ns w ts tr li re), u5, some s, u7, u8, some v, u] := by
 have e0 := hm.same hp.sb hv
 refine j7.mpr <| M9 <| m9 (as := [v, s]) rfl rfl <| (aY5 (b := 120) (by decide) 8 4 60 v s G (by decide) hv hs).mono ?_
 rintro _ G1 ⟨rfl, j1⟩
 rw [e0]
 refine j7.mpr <| aH2 <| cD9 <| cI3.mpr <| d9 (a := true) (G' := G1) rfl ⟨fun z => (nomatch z), fun _ => J4 <| o6 <| m9 (as := [v, mkS ns w ts tr li re]) rfl rfl <| (eE3 (k := 2) (by decide) (by decide) (by decide) hv hp.1 hp.2.1 hp.2.2.1 hp.2.2.2.1 hp.2.2.2.2.1 hp.2.2.2.2.2.1 hp.2.2.2.2.2.2).mono ?_⟩
 rintro _ G2 ⟨j2, q, rfl, eq⟩
 refine d9 (a := .ref G2.length) (G' := G2 ++ [.lst [.bl (inP 8 v (mkS ns w ts tr li re)), .bl (inP 8 v (mkS ns w ts tr li re))]]) rfl <| d9 (eF0 (Q0 eq) j9) ⟨_, rfl, fun z => (nomatch z), fun _ => J2.mpr ?_⟩
 have j3 := (j1.trans j2).trans (Ap.one (o := .lst [.bl (inP 8 v (mkS ns w ts tr li re)), .bl (inP 8 v (mkS ns w ts tr li re))]))
 generalize G2 ++ [DO.lst [.bl (inP 8 v (mkS ns w ts tr li re)), .bl (inP 8 v (mkS ns w ts tr li re))]] = G3 at j3
 refine aH2 <| aK6 <| bI3.mpr <| aP7 (as := [v, .ty "tuple"]) rfl <| (cW4 hv.there).mpr <| aJ8.mpr ⟨fun ht => ?_, fun _ => ⟨fun z => (nomatch z), fun _ => J2.mpr ⟨j3, _, rfl⟩⟩⟩
 refine J4 <| o6 <| m9 (as := [v, mkS ns w ts tr li re]) rfl rfl <| (dB6 (k := 3) (by decide) (by decide) (by decide) hv ht hp.2.2.2.2.2.1 hp.2.2.2.2.2.2).mono ?_
 rintro _ G4 ⟨rfl, j4⟩
 exact d9 (a := .bl (inP 8 v (mkS ns w ts tr li re))) rfl <| d9 dO9 ⟨_, rfl, fun z => (nomatch z), fun _ => J2.mpr ⟨j3.trans j4, _, rfl⟩⟩
theorem cI0 {q : Nat} {L : List D} (hp : Prt ns ts tr li re) (hm : aP8 (mkS ns w ts tr li re) s) (hs : SB 4 s) : ∀ (items : List D) (u9 u10 : Option D) (G : DH), G[q]? = some (.lst L) → (∀ v ∈ items, VW 120 8 v) →
 Wp (aC0 (q15 9) TT (ckO q (.lst L)) items [u0, u1, u2, some (.ref r), some (mkS ns w ts tr li re), u5, some s, u7, u8, u9, u10]) G fun fl G' => Ap G G' ∧ ∃ u9 u10, fl = .nx [u0, u1, u2, some (.ref r), some (mkS ns w ts tr li re), u5, some s, u7, u8, u9, u10]
 | [], u9, u10, G, e, _ => aB4.mpr ⟨by simp [ckO, e], Ap.refl, _, _, rfl⟩
 | v :: t, u9, u10, G, e, h => by
   refine aB3.mpr ⟨by simp [ckO, e], V9.mpr <| (eE8 hp hm hs (h v (by simp))).mono ?_⟩
   rintro _ G1 ⟨j1, u, rfl⟩
   refine (cI0 hp hm hs t _ _ G1 (j1.at e) fun x hx => h x (List.mem_cons_of_mem _ hx)).mono fun fl G2 z => ?_
   exact ⟨j1.trans z.1, z.2⟩
theorem eA7 {o : D} {t : Int} {u9 : Option D} (h : J8 G r) (hp : Prt ns ts tr li re) (hm : aP8 (mkS ns w ts tr li re) s) (hs : SB 4 s) (ho : SB 4 o) (hoa : o ≠ .str aH0) :
 Wp (JB [u0, u1, u2, some (.ref r), some (mkS ns w ts tr li re), some o, some s, some (.int t), u8, u9, u10]) G fun fl G' => Fr r G G' ∧ ∃ u8 u9 u10, fl = .nx [u0, u1, u2, some (.ref r), some (mkS ns w ts tr li re), some o, some s, some (.int t), u8, u9, u10] := by
 refine j7.mpr <| M9 <| P0 <| J3 (x := .ref r) rfl <| m8 <| o6 <| aB8.mpr <| J3 (x := s) rfl <| m8 <| m9 (as := [o]) rfl rfl <| (bA3 (k := 3) (by decide) ho hoa).mono ?_
 rintro s2 G1 ⟨j1, _, hs2⟩
 have h0 : 0 ≤ t % 2 := Int.emod_nonneg _ (by decide)
 have h1 : t % 2 < 2 := Int.emod_lt_of_pos _ (by decide)
 obtain ⟨d, hd, ed⟩ := aZ7 (l := [s, s2]) h0 h1
 have hd' : SB 4 d := by
  simp only [List.mem_cons, List.not_mem_nil, or_false] at hd
  rcases hd with rfl | rfl
  · exact hs
  · exact hs2
 have f1 := (j1.trans (Ap.one (o := .lst [s, s2]))).fr h
 refine m6.mpr ⟨sz, Q3 (x := .int t) (y := .int 2) rfl rfl <| (aL2 (by decide)).mpr <| (bB6 j9).mpr ⟨d, ed, m6.mpr <| aB6.mpr ⟨rfl, (of_wp 10 4 (by decide) (by decide) d _ f1.2.2 hd').mono ?_⟩⟩⟩
 rintro v G2 ⟨hv, f2⟩
 refine aF5.mpr <| wp_itW.mpr <| aB8.mpr <| J3 (x := v) rfl <| m8 <| m9 (as := [.ref r, v]) rfl rfl <| (cJ9 (b := 110) (by decide) 8 6 v G2 f2.2.2 hv (by decide)).mono ?_
 rintro n1 G3 ⟨hn1, f3⟩
 have hit : ∀ x ∈ [v, n1], VW 120 8 x := fun x hx => by
  simp only [List.mem_cons, List.not_mem_nil, or_false] at hx
  rcases hx with rfl | rfl
  · exact VW.le (by decide) (by decide) hv
  · exact VW.le (by decide) (by decide) hn1
 have f4 : Fr r G (G3 ++ [.lst [v, n1]]) := ((f1.trans f2).trans f3).trans (Fr.app f3.2.2)
 refine m6.mpr ⟨sz, (aG6 j9).mpr <| (cI0 (L := [v, n1]) hp hm hs [v, n1] _ _ _ j9 hit).mono ?_⟩
 rintro _ G5 ⟨j5, v9, v10, rfl⟩
 exact ⟨f4.trans (j5.fr f4.2.2), _, _, _, rfl⟩
theorem cL6 {o : D} (hp : Prt ns ts tr li re) (hm : aP8 (mkS ns w ts tr li re) s) (hs : SB 4 s) (ho : SB 4 o) (hoa : o ≠ .str aH0) : ∀ (items : List Int) (u7 u8 u9 u10 : Option D) (G : DH), J8 G r →
 Wp (aC0 (q15 7) JB (fun _ => true) (items.map D.int) [u0, u1, u2, some (.ref r), some (mkS ns w ts tr li re), some o, some s, u7, u8, u9, u10]) G fun fl G' => Fr r G G' ∧ ∃ u7 u8 u9 u10, fl = .nx [u0, u1, u2, some (.ref r), some (mkS ns w ts tr li re), some o, some s, u7, u8, u9, u10]
 | [], u7, u8, u9, u10, G, h => aB4.mpr ⟨rfl, Fr.refl h, _, _, _, _, rfl⟩
 | t :: q, u7, u8, u9, u10, G, h => by
   refine aB3.mpr ⟨rfl, V9.mpr <| (eA7 (t := t) h hp hm hs ho hoa).mono ?_⟩
   rintro _ G1 ⟨f1, v8, v9, v10, rfl⟩
   refine (cL6 hp hm hs ho hoa q _ _ _ _ G1 f1.2.2).mono fun fl G2 z => ?_
   exact ⟨f1.trans z.1, z.2⟩
end
section
variable {G : DH}
theorem eD1 {p s : D} {r : Nat} {u0 u1 u2 u4 u5 u7 u8 u9 u10 : Option D} (hm : aP8 p s) (hs : SB 4 s) :
 Wp (LA [u0, u1, u2, some (.ref r), u4, u5, some s, u7, u8, u9, u10]) G fun fl G' => Ap G G' ∧ fl = .nx [u0, u1, u2, some (.ref r), u4, u5, some s, u7, u8, u9, u10] := by
 rcases id hs with rfl | ⟨ns, w, ts, tr, li, re, e, _⟩
 · exact d9 rfl ⟨Ap.refl, rfl⟩
 · have ha : s ≠ .str aH0 := by rw [e]; exact fun z => (nomatch z)
   have e1 : neD s (.str ("any" : Str)) G = some (.ok (.bl true), G) := by rw [e]; rfl
   refine aH2 <| aK6 <| J4 <| Q3 (x := s) (y := .str ("any" : Str)) rfl rfl <| d9 e1 ⟨_, rfl, fun _ => J4 <| o6 <| m9 (as := [s]) rfl rfl <| (bA3 (k := 3) (by decide) hs ha).mono ?_, fun z => (nomatch z)⟩
   rintro y G1 ⟨j1, hy, _⟩
   have ey := hm.again ha hy
   subst ey
   obtain ⟨b, e2, hb⟩ := SB.eqN (G := G1) (k := 4) (by decide) hs hs
   have : b = true := hb.mpr rfl
   subst this
   exact d9 rfl <| cK8.mpr ⟨true, e2, _, rfl, fun z => (nomatch z), fun _ => J2.mpr ⟨j1, rfl⟩⟩
noncomputable def LP (u0 u1 u2 : Option D) (fl : Fl) : Prop := ∃ u3 u4 u5 u6 u7 u8 u9 u10, fl = .nx [u0, u1, u2, u3, u4, u5, u6, u7, u8, u9, u10]
theorem eE7 {r : Nat} {ns : List (D × D)} {w : Str} {ts : List Str} {tr : List Bool} {li re o : D} {u0 u1 u2 u6 u7 u8 u9 u10 : Option D} (h : J8 G r) (hp : Prt ns ts tr li re) (ho : SB 4 o) (hoa : o ≠ .str aH0) :
 Wp (LC [u0, u1, u2, some (.ref r), some (mkS ns w ts tr li re), some o, u6, u7, u8, u9, u10]) G fun fl G' => Fr r G G' ∧ LP u0 u1 u2 fl := by
 refine j7.mpr <| M9 <| m9 (as := [mkS ns w ts tr li re]) rfl rfl <| (bA3 (k := 3) (by decide) hp.sb fun z => (nomatch z)).mono ?_
 rintro s G4 ⟨j4, hm, hs⟩
 have f4 := j4.fr h
 refine j7.mpr <| (eD1 hm hs).mono ?_
 rintro _ G5 ⟨j5, rfl⟩
 have f5 := f4.trans (j5.fr f4.2.2)
 have er : K8 0 (Int.toNat 4) = ([0, 1, 2, 3] : List Int).map D.int := rfl
 refine aF5.mpr <| rng1.mpr <| d9 (a := [D.int 4]) rfl <| (rng1_int ⟨by decide, by decide⟩).mpr ?_
 show Wp (aC0 (q15 7) JB (fun _ => true) (K8 0 (Int.toNat 4)) _) _ _
 rw [er]
 refine (cL6 hp hm hs ho hoa [0, 1, 2, 3] _ _ _ _ G5 f5.2.2).mono ?_
 rintro _ G6 ⟨f6, v7, v8, v9, v10, rfl⟩
 exact ⟨f5.trans f6, _, _, _, _, _, _, _, _, rfl⟩
theorem cH9 {r : Nat} {k : Nat} {d : Int} (h : J8 G r) (hd : d ≤ k + 1) (hk : k ≤ 3) : Wp (aE4 [.ref r, .int d]) G fun x G' => Fr r G G' ∧ ∃ ns w ts tr li re, x = mkS ns w ts tr li re ∧ SB (k + 1) (mkS ns w ts tr li re) ∧ (k = 3 → Prt ns ts tr li re) :=
 (dA6 (k := k) h (cL7 _ k d hd (by omega) (by omega))).mono fun x G' z => by
   obtain ⟨ns, w, ts, tr, li, re, rfl, h1, h2, h3, h4, h5, h6, h7, f⟩ := z
   exact ⟨f, ns, w, ts, tr, li, re, rfl, aP1 h1 h2 h3 h4 h5 h6 h7, fun e => by subst e; exact ⟨h1, h2, h3, h4, h5, h6, h7⟩⟩
theorem eD7 {ns : List Int} {p : Nat} {k c : Int} {u3 u4 u5 u6 u7 u8 u9 u10 : Option D} (e : G[p]? = some (.rol (ns.map D.int))) (hk : 0 ≤ k ∧ k < 64) : Wp (LB [some (.ref p), some (.int k), some (.int c), u3, u4, u5, u6, u7, u8, u9, u10]) G fun fl G' => Gr G G' ∧ LP (some (.ref p)) (some (.int k)) (some (.int c)) fl := by
 refine j7.mpr <| M9 <| m9 (as := [.ref p, .int c, .int k]) rfl rfl <| (dH0 e hk).mono ?_
 rintro _ G1 ⟨r, rfl, hr, hh, g1⟩
 refine j7.mpr <| M9 <| m9 (as := [.ref r, .int 4]) rfl rfl <| (cH9 (k := 3) hh (by decide) (by decide)).mono ?_
 rintro _ G2 ⟨f2, ns', w, ts, tr, li, re, rfl, _, hp⟩
 refine j7.mpr <| M9 <| m9 (as := [.ref r, .int 3]) rfl rfl <| (cH9 (k := 2) f2.2.2 (by decide) (by decide)).mono ?_
 rintro _ G3 ⟨f3, os, w', ts', tr', li', re', rfl, ho, _⟩
 refine (eE7 f3.2.2 (hp rfl) (SB.le (by decide) ho) fun z => (nomatch z)).mono ?_
 rintro fl G4 ⟨f4, q⟩
 exact ⟨Gr.of g1 ((f2.trans f3).trans f4) hr, q⟩
theorem cK5 {ns : List Int} {p q : Nat} {L : List D} : ∀ (cs : List Int) (k : Nat) (u1 u2 u3 u4 u5 u6 u7 u8 u9 u10 : Option D) (G : DH), G[p]? = some (.rol (ns.map D.int)) → G[q]? = some (.lst L) → k + cs.length ≤ 63 →
 Wp (aC0 (aG2 2 (J5 (q15 1) (J5 (q15 2) aI4))) LB (ckO q (.lst L)) (((cs.map D.int).zipIdx k).map fun p => .tup [.int ((p.2 : Nat) : Int), p.1]) [some (.ref p), u1, u2, u3, u4, u5, u6, u7, u8, u9, u10]) G fun fl G' => Gr G G' ∧ ∃ u1 u2 u3 u4 u5 u6 u7 u8 u9 u10, fl = .nx [some (.ref p), u1, u2, u3, u4, u5, u6, u7, u8, u9, u10]
 | [], k, u1, u2, u3, u4, u5, u6, u7, u8, u9, u10, G, e, et, hk => by
   simp only [List.map_nil, List.zipIdx_nil]
   exact aB4.mpr ⟨by simp [ckO, et], Gr.refl, _, _, _, _, _, _, _, _, _, _, rfl⟩
 | c :: r, k, u1, u2, u3, u4, u5, u6, u7, u8, u9, u10, G, e, et, hk => by
   simp only [List.map_cons, List.zipIdx_cons]
   simp only [List.length_cons] at hk
   refine aB3.mpr ⟨by simp [ckO, et], ?_⟩
   refine d9 (a := [some (.ref p), some (.int k), some (.int c), u3, u4, u5, u6, u7, u8, u9, u10]) (G' := G) rfl ?_
   refine (eD7 e ⟨by omega, by omega⟩).mono ?_
   rintro _ G1 ⟨g1, v3, v4, v5, v6, v7, v8, v9, v10, rfl⟩
   refine (cK5 r (k + 1) _ _ _ _ _ _ _ _ _ _ G1 (g1.at e) (g1.at et) (by omega)).mono fun fl G2 z => ?_
   exact ⟨g1.trans z.1, z.2⟩
end
theorem dG7 {G : DH} {p : Nat} {l : List D} {lo hi : Option Int} {Q : DPP} (e : G[p]? = some (.rol l)) : Wp (slT (.ref p) lo hi) G Q ↔ Q (.ref G.length) (G ++ [.lst (DL.cutD l lo hi)]) := dO2 e
theorem dY5 (ns : List Int) : ∃ cs : List Int, DL.cutD (ns.map D.int) none (some 42) = cs.map D.int ∧ cs.length ≤ 42 := by
 refine ⟨ns.take 42, ?_, by rw [List.length_take]; omega⟩
 have := aX5 (ns.map D.int) 42
 rw [← List.map_take] at this
 exact this
theorem dK9 (ns : List Int) (hn : ns.length ≤ 63) : Wp (bU6 [.ref 0]) [.rol (ns.map D.int)] fun d _ => d = .bl true := by
 have e0 : ([DO.rol (ns.map D.int)] : DH)[0]? = some (.rol (ns.map D.int)) := rfl
 generalize hG : ([DO.rol (ns.map D.int)] : DH) = G at *
 refine R3 (show Wp (cL8 [some (.ref 0), none, none, none, none, none, none, none, none, none, none]) G _ from ?_)
 rw [eJ5]
 obtain ⟨cs, ec, hc⟩ := dY5 ns
 refine j7.mpr <| aF5.mpr <| cX5.mpr <| m8 <| aN2.mpr <| d9 (a := .ref 0) rfl <| d9 (a := none) rfl <| d9 (a := some 42) rfl <| (dG7 e0).mpr <| m6.mpr <| (cV6 j9).mpr ?_
 simp only [ec]
 refine (cK5 (ns := ns) cs 0 _ _ _ _ _ _ _ _ _ _ _ (Q0 e0) (by rw [← ec]; exact j9) (by omega)).mono ?_
 rintro _ G7 ⟨g7, v1, v2, v3, v4, v5, v6, v7, v8, v9, v10, rfl⟩
 exact d9 rfl (aD1 rfl)
theorem pure_law : ∀ ns : List Int, ns.length ≤ 63 → ∃ G', bU6 [.ref 0] [.rol (ns.map D.int)] = some (.ok (.bl true), G') := fun ns hn => by
 obtain ⟨d, G', e, rfl⟩ := dK9 ns hn
 exact ⟨G', e⟩
end W
set_option maxRecDepth 100000 in
set_option maxHeartbeats 0 in
theorem PySem.Challenge.cw_allmeet_k19_whole_a_set_is_its_parts_holds : PySem.Challenge.rw_allmeet_k19_whole_a_set_is_its_parts.Holds := by
 w_on; o_law; k_head; (case hw => w_witness2)
 k_fill
 refine W.walk (l := PySem.Challenge.rw_allmeet_k19_whole_a_set_is_its_parts) rfl rfl (fun w h Y => PySem.W.kIn_of Y) ?F
 case F =>
  intro w mg fa h KX G hmg
  refine' W.all_mk KX G hmg ?_ ?_ ?_ ?_ ?_ ?_ ?_ ?_ ?_ ?_ ?_ ?_ ?_ ?_ ?_ ?_ ?_ ?_ ?_ ?_ ?_ ?_ ?_ ?_ ?_ ?_ ?_ ?_ ?_ ?_ ?_ ?_ ?g_NOTHING ?l_NOTHING ?l_NOTHING_0 ?l_NOTHING_1 ?l_NOTHING_1_1 ?l_NOTHING_2 ?g_ALL_PARTS ?l_ALL_PARTS ?l_ALL_PARTS_0 ?l_ALL_PARTS_0_0 ?l_ALL_PARTS_1 ?l_ALL_PARTS_1_1 ?l_ALL_PARTS_2 ?l_ALL_PARTS_3 ?l_ALL_PARTS_3_0 ?l_ALL_PARTS_4 ?l_ALL_PARTS_4_0 ?g_ANY ?z W.pure_law
  (case g_NOTHING => k_is)
  (case l_NOTHING => k_is)
  (case l_NOTHING_0 => k_is)
  (case l_NOTHING_1 => k_is)
  (case l_NOTHING_1_1 => k_is)
  (case l_NOTHING_2 => k_is)
  (case g_ALL_PARTS => k_is)
  (case l_ALL_PARTS => k_is)
  (case l_ALL_PARTS_0 => k_is)
  (case l_ALL_PARTS_0_0 => k_is)
  (case l_ALL_PARTS_1 => k_is)
  (case l_ALL_PARTS_1_1 => k_is)
  (case l_ALL_PARTS_2 => k_is)
  (case l_ALL_PARTS_3 => k_is)
  (case l_ALL_PARTS_3_0 => k_is)
  (case l_ALL_PARTS_4 => k_is)
  (case l_ALL_PARTS_4_0 => k_is)
  (case g_ANY => k_is)
  (case z => intro b hb; simp only [DL.bltL, List.mem_cons, List.not_mem_nil, or_false] at hb; rcases hb with rfl | rfl | rfl | rfl | rfl | rfl | rfl | rfl | rfl | rfl | rfl | rfl | rfl | rfl | rfl | rfl | rfl | rfl | rfl <;> k_is)
  all_goals (refine' DL.FH.of ?a ?l ?e ?k; (case a => k_is); (case l => k_is); (case e => k_is); (case k => k_is))
